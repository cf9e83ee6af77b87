import PyProof.Rows.All
import Wide.All
import OpenK.AllK
import Wide.FinOn
import KE.KExcSuper
import KE.GoesEnum
import HandS.ForMost
import HandS.ForExc
import HandS.ExcInit
import HandS.ExcField
import HandS.TryMany
import HandS.Walk
import HandS.Defaults
import HandS.Property
import HandS.IsInst
import HandS.Codes
import HandS.FStr
import KE.KCallOwn
import KE.KDictZip
import KE.GoesZip
import KE.GoesMore
import HandS.ListItems
import HandS.Zip
import KE.KOpsOwn
import KE.KOwnIter
import HandS.IterNext
import HandS.SortKw
import PyProof.WalkInts
import HandS.More
import HandS.Star
import HandS.ClsMeth
import HandS.TupAny
import HandS.StrMore
import HandS.IterVal
import HandS.SetTxt0
import HandS.Set
import HandS.Strs
import HandS.SetFor
import PyProof.StrWalks
import KE.GoesEnumKw
import HandS.GenList
import HandS.Replace
import HandS.ReplaceList
import HandS.MakeKwOnly
import HandS.Bytes
import HandS.TupSets
import HandS.Dict
import HandS.DictTup
import HandS.DictComp
import HandS.SetKeys
import KE.KSortTupG
import HandS.RaiseMore
import KE.KSortKeySt
import HandS.MapJoin
import PyProof.ListStr
import KE.DataCmp
import HandS.Deep
import PySem.Challenge.RW_risensigns_k14_lot_texts
set_option Elab.async false
set_option linter.all false
set_option maxRecDepth 100000
set_option maxHeartbeats 4000000
namespace Rz
open PySem PySem.Spec PyProof.Rows L2

theorem one_lookup {x k : Str} {a c : Addr} (h : List.lookup x [(k, a)] = some c) : c = a := by
  by_cases e : x = k
  · subst e
    simp [List.lookup] at h
    exact h.symm
  · have e2 : (x == k) = false := by simpa using e
    simp [List.lookup, e2] at h

/-- the context of an __init__ that knows its class -/
def cxS (P : Program) (w : World) (K : PySem.W.Frag) (mg : Str → Option Value) (base : Heap) (N : List Str) (qual : Str) (scope : Scope) (f : Addr) (cd : Value) (cc : Addr) (A : Around) (outer : List Env) (s : Shared) (H : Hp) : Cx where
  prog := P
  w := w
  K := K
  mg := mg
  base := base
  A := A.deeper (PySem.W.ksEnv qual scope s.heap.objs.size f cd cc)
  N := N
  s_0 := s
  H_0 := H
  env := PySem.W.ksEnv qual scope s.heap.objs.size f cd cc
  outer := outer
  stack := PySem.W.ksEnv qual scope s.heap.objs.size f cd cc :: outer
  ex := []
  calm := true
  fn := fun _ => false
  pn := []
  xe := fun _ _ => False

/-- what such an __init__ promises: the field is set -/
def spExI (C : Addr) (fld : Str) : Sp := fun vs H Q _ => ∃ (a : Addr) (n : Int), vs = [.ref a, .int n] ∧ n.natAbs.log2 < 1920 ∧ H a = some (exo a C none) ∧
  ∀ dx, H dx = none → dx ≠ a → Q .non (upd (upd H dx (exd dx [(fld, .int n)])) a (exo a C (some dx)))

/-- super().__init__(..) of an exception that has no dict yet -/
theorem call_mw {X : Cx} {pins : List (Addr × Obj)} {σ : L2.St} {H : Hp} {s : Shared} {a C u : Addr} {us : List Value} {Q : Value → Shared → Prop} {E : Value → Shared → Prop} {A : Around} (T : OexC X.K C) (I : Inv X pins σ H s) (e : H a = some (exo a C none)) (hl : us.length ≤ sizeLine)
    (hu : s.heap.get? u = some (PySem.W.kxs_mw "ValueError.__init__" a)) (h : ∀ s', Inv X pins σ H s' → Q .none s') : wpAny (model X.prog X.w) A (call (.ref u) us) Q E s := by
  obtain ⟨nm, q, N, bs, bm, sn, sub, ab, col, dd, k0, k1, k2, k3, k5, hC, hbm⟩ := T.cls
  obtain ⟨t1, ho⟩ := exo_at I.hok e
  have hC' := I.kIn _ _ hC
  have fin : ∀ (h' : Heap) (t2 : Addr), (∀ b o, b ≠ a → s.heap.get? b = some o → h'.get? b = some o) → h'.get? a = some ({ cls := .ref C, dict := none, data := .fields #[.ref t2, .none, .none, .none, .bool false, .none] } : Obj) → Inv X pins σ H { s with heap := h' } := fun h' t2 k hx => by
    have J := I.write (t' := s.toks) (x := a) (e := a) (o := exo a C none) (by rw [e]; exact True.intro) (.inl rfl) k ⟨_, hx⟩ (exo_ok hx)
    have eu : upd H a (exo a C none) = H := by
      funext b
      by_cases hb : b = a
      · rw [hb, upd_same, e]
      · rw [upd_ne hb]
    rw [eu] at J
    exact J
  obtain ⟨hp, g, d, t, os⟩ := s
  refine wpAny_call (codeAny_of_tree ?_)
  show wpAny _ A.in1 (callAny (.ref u) ⟨us, []⟩) _ _ _
  simp only [callAny]
  refine wpAny_bind (wpAny_load hu ?_)
  simp only [PySem.W.kxs_mw, show (Value.type "method-wrapper" == Value.type "method" || Value.type "method-wrapper" == Value.type "builtin_function_or_method" || Value.type "method-wrapper" == Value.type "method-wrapper") = true by decide, if_true]
  refine PySem.W.KFB.if_so (by decide) ?_
  refine wpAny_bind (PySem.W.check_bound_init F.excBase_ValueError.toExcCallFacts hC' ho rfl ?_)
  refine wpAny_bind (wpAny_pure (wpAny_pure ?_))
  refine ⟨plainId_quiet F.excBase_ValueError.init.plain _, codeAny_builtin F.excBase_ValueError.initEntry ?_⟩
  rw [Around.under_plainId F.excBase_ValueError.init.plain _]
  exact PySem.W.exc_init_tree (cls := .ref C) (t0 := t1) (dv := none) (c2 := .none) (c3 := .none) (b4 := .bool false) ho hl fun h' k hx _ => h _ (fin h' _ k hx)

section
variable {P : Program} {w : World} {K : PySem.W.Frag} {mg : Str → Option Value} {base : Heap}
theorem exsup_ok {CX : CXT} {k : Nat} {C f cc cda : Addr} {qual fld : Str} {params : Arguments} {body : List Stmt} {scope : Scope} {oc kV doc pm ct ccl cl : Value} {od an cdd cld : Option Addr} {osl ccs csl : Array (Option Value)} {vs5 : Array Value} {file : Str} {tf : Tok} {ar : Arg}
    {p0 p1 p2 p3 p4 q1 q2 q3 q4 : Pos} {e : Expr}
    (T : OexC K C)
    (lk : K.lookup f = some ⟨oc, od, .func (PySem.W.ksFn "__init__" qual params body scope .none kV doc pm an (.ref cda) ct cc), osl⟩) (hcd : PySem.W.codeIn K (.ref cda) qual = true)
    (hcode : K.lookup cda = some ⟨ccl, cdd, .fields vs5, ccs⟩) (hvs : vs5[2]? = some (.str file tf)) (hfile : ((P.main.file : Str) == file) = true)
    (hcell : K.lookup cc = some ⟨cl, cld, .cell (some (.ref C)), csl⟩)
    (hops : PySem.W.nsIn K cStatics "thirdparty.any" = some none) (hsuper : mg "super" = none)
    (hsin : PySem.W.ks_superIn K C C "__init__" = some (some (.builtin "ValueError.__init__")))
    (hB : PySem.W.subIn K (.ref C) (.type "ValueError") = some true) (hCC : PySem.W.mroIn K C (.ref C) = some true) (noN : PySem.W.findIn K (.ref C) fld = some none)
    (htop : (P.main.scope.names.lookup ("super" : Str)).isSome = false)
    (hbody : body = [.Expr (.Call (.Attribute (.Call (.Name "super" p0) [] [] p1) "__init__" p2) [e] [] p3) p4, .Assign [.Attribute (.Name "self" q1) fld q2] (.Name fld q3) q4])
    (hp : (params.posonlyargs ++ params.args).head? = some ar) (har : ar.arg = "self")
    (hks : scope.names.lookup ("super" : Str) = some .globalImplicit) (hkc : scope.names.lookup ("__class__" : Str) = some .free) (hka : scope.names.lookup ("self" : Str) = some .local) (hkf : scope.names.lookup fld = some .local)
    (hkind : scope.kind = .function) (hco : scope.isCoroutine = false) (hgen : scope.isGenerator = false) (hnc : ∀ x ∈ scope.names, x.2 ≠ .cell) (honly : ∀ x, scope.names.lookup x = some .free → x = "__class__") (hnd : fld ≠ "self")
    (hdb : (fld == ("__debug__" : Str)) = false) (hdc : (fld == ("__classdict__" : Str)) = false)
    (hmsg : ∀ X : Cx, X.N = [("self" : Str), fld] → X.env.scope = scope → ∃ t, PE X e t ∧ ∀ (σ : L2.St) (n : Int) (H : Hp) (Q : VK), σ[1]? = some (some (.int n)) → n.natAbs.log2 < 1920 → (∀ z : Str, Q (.str z) H) → t σ H Q)
    (hst : ∀ (L : Addr), starEach [e] (PySem.W.ksEnv qual scope L f (.ref cda) cc) = (false, eval e (PySem.W.ksEnv qual scope L f (.ref cda) cc)) :: starEach [] (PySem.W.ksEnv qual scope L f (.ref cda) cc))
    {pl : Sem Bool} (hms : ∀ (L : Addr), eval (.Call (.Attribute (.Call (.Name "super" p0) [] [] p1) "__init__" p2) [e] [] p3) (PySem.W.ksEnv qual scope L f (.ref cda) cc) = (do
      let ov ← attributeBase (.Call (.Name "super" p0) [] [] p1) "__init__" (PySem.W.ksEnv qual scope L f (.ref cda) cc) (eval (.Call (.Name "super" p0) [] [] p1) (PySem.W.ksEnv qual scope L f (.ref cda) cc))
      standAt p2.atName
      let (g, first) ← holding [ov] (getMethod ov "__init__" pl)
      callWith p3 g first (backTo p3 (starEach [e] (PySem.W.ksEnv qual scope L f (.ref cda) cc))) [])) :
    FnOk P w K mg base CX (k + 1) f (PySem.W.ksFn "__init__" qual params body scope .none kV doc pm an (.ref cda) ct cc) ["self", fld] (spExI C fld) := by
  refine ⟨fun vs H Q E h => ?_, fun A outer s H args us vs Q E hr e0 hb r hsp => ?_⟩
  · obtain ⟨a, n, rfl, _⟩ := h
    rfl
  obtain ⟨a, n, rfl, hn, ha, hk⟩ := hsp
  obtain ⟨u0, u1, rfl, r0, r1⟩ := vals2 r
  obtain rfl : u0 = Value.ref a := r0
  obtain ⟨tk, rfl⟩ := r1
  have KX : K.In s.heap := e0.mod.kin.keeps fun b o q => (e0.bs b o q).1
  have lim : s.heap.NoLimit := e0.mod.nolimit.keeps fun b o q => (e0.bs b o q).1
  refine PySem.ks_codeAny_call_defAt (body := body) (binds := (["self", fld] : List Str).zip [Value.ref a, Value.int n tk]) hr.depth (KX _ _ lk) rfl lim (PySem.W.codeRec_of KX hcd) rfl hb hnc (fun x hx => ?_) (fun h1 hns hk1 => ?_) hco hgen hkind
  · have hx' : x = (("self" : Str), Value.ref a) ∨ x = (fld, Value.int n tk) := by simpa using hx
    rcases hx' with rfl | rfl
    · exact hka
    · exact hkf
  have hne : (("self" : Str) == fld) = false := by simpa using Ne.symm hnd
  have nocell : ∀ x, scope.names.lookup x ≠ some .cell := fun x hx => hnc _ (PySem.mem_of_lookup hx) rfl
  have cells : ∀ {x c}, (cxS P w K mg base ["self", fld] qual scope f (.ref cda) cc A outer s H).env.cells.lookup x = some c → c = cc := fun h => one_lookup h
  have freeCC : H cc = none := (e0.bs _ _ (e0.mod.kin _ _ hcell)).2
  have I : Inv (cxS P w K mg base ["self", fld] qual scope f (.ref cda) cc A outer s H) [] [some (.ref a), some (.int n)] H { s with heap := h1, toks := s.toks + 2 } := by
    have noA : ∀ b : Addr, b ∉ (cxS P w K mg base ["self", fld] qual scope f (.ref cda) cc A outer s H).ex := fun b z => absurd (show b ∈ ([] : List Addr) from z) (by simp)
    refine ⟨⟨e0.mod, hkind, rfl, rfl, Nat.le_refl _, fun y z c h1 h2 => ?_, fun y hy => ?_, fun y c z _ => ?_, fun _ => hr.hd, Around.frames_deeper e0.frames, .inr ⟨rfl, rfl⟩, fun b z => absurd z (noA b), e0.bs, e0.bsz, fun b _ _ => noA b, fun b z => absurd z (noA b), e0.funs, e0.frf⟩,
      rfl, e0.bare, Un.kept hk1, ⟨_, hns, fun i y v h1 h2 h3 => ?_⟩, fun y c h => ?_, e0.hok.fresh (Nat.le_refl _), fun y c h => ?_, fun p hp => absurd (show p ∈ ([] : List (Addr × Obj)) from hp) (by simp), e0.hok.kept hk1, rfl⟩
    · have k1 : ∀ {y c}, List.lookup y [(("__class__" : Str), cc)] = some c → y = "__class__" := fun {y c} q => by
        by_cases z : y = "__class__"
        · exact z
        · have e2 : (y == ("__class__" : Str)) = false := by simpa using z
          simp [List.lookup, e2] at q
      rw [k1 h1, k1 h2]
    · rcases hy with hy | hy
      · exact absurd hy (nocell y)
      · have e1 := honly y hy
        subst e1
        exact ⟨cc, rfl⟩
    · exact Bool.noConfusion (show false = true from z)
    · refine match i, h1, h2 with
        | 0, h1, h2 => ?_
        | 1, h1, h2 => ?_
        | i + 2, h1, h2 => ?_
      · have e1 : ("self" : Str) = y := Option.some.inj h1
        have e2 : V.ref a = v := Option.some.inj (Option.some.inj h2)
        subst e1
        subst e2
        exact ⟨.ref a, rfl, .inl ⟨hka, by simp [List.lookup, hne]⟩⟩
      · have e1 : fld = y := Option.some.inj h1
        have e2 : V.int n = v := Option.some.inj (Option.some.inj h2)
        subst e1
        subst e2
        exact ⟨.int n tk, ⟨tk, rfl⟩, .inl ⟨hkf, by simp [List.lookup]⟩⟩
      · exact absurd h1 (by simp [cxS])
    · rw [cells h]
      exact ⟨_, _, hk1 _ _ (KX _ _ hcell), rfl⟩
    · rw [cells h]
      exact freeCC
  subst hbody
  have KX1 : K.In h1 := KX.keeps hk1
  obtain ⟨nm, q, N, bs, bm, sn, sub, ab, col, dd, k0, k1, k2, k3, k5, hC, hbm⟩ := id T.cls
  have hcl : PySem.W.clsIn K C = some { name := nm, bases := bs, mro := .ref C :: bm, ns := N, qualname := q, hasDict := true, slotNames := sn, subclasses := sub, abstract := ab, collection := col, hasDel := false } := by unfold PySem.W.clsIn; rw [hC] <;> rfl
  obtain ⟨t1, ho⟩ := exo_at I.hok ha
  obtain ⟨mb, b1, b2⟩ := I.mod.blt
  obtain ⟨hh, g, d, t0, os⟩ := s
  have hac : a ≠ C := fun z => by
    have z1 := KX1 _ _ hC
    rw [← z] at z1
    have z2 := z1.symm.trans ho
    cases z2
  refine PySem.ks_wpAt_execs_cons (PySem.ks_wpAt_Expr_any (PySem.ks_wpAt_MethodCall (pl := pl) ?_ (hms _)) I.quiet rfl)
  refine PySem.ks_wpAt_super_base hks hkc (by decide) rfl (KX1 _ _ lk) rfl hp rfl (KX1 _ _ hcode) rfl hvs hfile htop ?_
  refine PySem.W.ks_loadName_global hkind hks (Calls.loadGlobal_builtin (I.mod.glob.keeps I.bk) hsuper (b1.keeps I.bk) ((b2 "super" (by decide)).trans (by decide +kernel : bootBuiltins "super" = some (.type "super"))) ⟨rfl, ?_⟩)
  refine wpAny_loadName_free hkind hkc rfl ⟨_, KX1 _ _ hcell, rfl⟩ ?_
  rw [har]
  refine wpAny_loadName_local (v := .ref a) hkind hka hns (by simp [List.lookup, hne]) ?_
  refine PySem.ks_wpAny_isType_cls (KX1 _ _ hC) rfl ⟨rfl, ?_⟩
  refine PySem.ks_wpAny_call_super (KX1 _ _ hC) rfl ho rfl (fun c z => by cases z) (PySem.W.looks_mroIn KX1 hCC) (fun h2 e2 kk2 => ?_)
  have I2 := I.kept (t' := t0 + 2) kk2
  have KX2 := KX1.keeps kk2
  have ho2 := kk2 _ _ ho
  have hI : PySem.W.Looks (model P w) h2 (isInstance (.ref a) (.type "ValueError")) true :=
    (PySem.W.InstAt.type (M := model P w) (ox := { cls := .ref C, data := .fields #[.ref t1, .none, .none, .none, .bool false, .none] }) (od := none) ⟨ho2, rfl, rfl, trivial⟩).andThen (PySem.W.looks_subIn KX2 hB)
  have hsin2 : PySem.W.alongIn K "__init__" (((Value.ref C :: bm).dropWhile (· != .ref C)).drop 1) = some (some (.builtin "ValueError.__init__")) := by
    unfold PySem.W.ks_superIn at hsin
    rw [hcl] at hsin
    exact hsin
  refine PySem.W.kxs_getMethod PySem.W.kxs_ValueError e2 (PySem.W.looks_opaque KX2 hops) (l₀ := .ref C :: bm) ?_ rfl KX2 hsin2 hI hac (by decide) ?_
  · exact fun A Q E s k q => wpAny_bind ((PySem.W.looks_clsIn KX2 hcl) A _ E s k (wpAny_pure q))
  have kk3 : ∀ b o, h2.get? b = some o → (h2.push (PySem.W.kxs_mw "ValueError.__init__" a)).get? b = some o := fun b o q => Heap.get?_push_of_some _ q
  have I3 := I2.kept (t' := t0 + 2 + 1) kk3
  have hu : (h2.push (PySem.W.kxs_mw "ValueError.__init__" a)).get? h2.objs.size = some (PySem.W.kxs_mw "ValueError.__init__" a) := Heap.get?_push_at rfl rfl
  have I4 := I3.pins_of (pins' := [(h2.objs.size, PySem.W.kxs_mw "ValueError.__init__" a)]) (fun p hp => by
    obtain rfl : p = (h2.objs.size, PySem.W.kxs_mw "ValueError.__init__" a) := by simpa using hp
    refine ⟨hu, I2.hok.fresh (Nat.le_refl _), fun z => ?_, I2.nofs (Nat.le_refl _), fun v z => by cases z⟩
    have z1 := I2.lt
    rw [← z] at z1
    exact Nat.lt_irrefl _ z1)
  obtain ⟨te, pe, rd⟩ := hmsg (cxS P w K mg base ["self", fld] qual scope f (.ref cda) cc A outer ⟨hh, g, d, t0, os⟩ H) rfl rfl
  have pa := pa_cons pe pa_nil (hst _)
  have e3 : backTo p3 (starEach [e] (PySem.W.ksEnv qual scope hh.objs.size f (.ref cda) cc)) = (false, eval e (PySem.W.ksEnv qual scope hh.objs.size f (.ref cda) cc)) :: backTo p3 (starEach [] (PySem.W.ksEnv qual scope hh.objs.size f (.ref cda) cc)) := by rw [hst]; rfl
  refine PySem.W.kxs_callWith (i := "ValueError.__init__") (x := a) (by show (backTo p3 (starEach [e] (PySem.W.ksEnv qual scope hh.objs.size f (.ref cda) cc))).any (·.1) = false; rw [e3]; rfl) ?_
  show wpAny _ _ (evalArgs _ true (backTo p3 (starEach [e] (PySem.W.ksEnv qual scope hh.objs.size f (.ref cda) cc))) []) _ _ _
  rw [e3]
  refine Calls.evalArgs_plain ?_
  rw [← e3]
  refine wpAny_mono (pa.run p3 _ _ _ _ (fun vs H' => (∃ z, vs = [V.str z]) ∧ H' = H) I4 (rd _ n H _ rfl hn fun z => ⟨⟨z, rfl⟩, rfl⟩)) (fun us s5 hu5 => ?_) fun _ _ z => z.elim
  obtain ⟨vs, H', I5, r5, ⟨z, rfl⟩, rfl⟩ := hu5
  have hu6 := (I5.pin (h2.objs.size, PySem.W.kxs_mw "ValueError.__init__" a) (by simp [cxS])).1
  refine ⟨hu6, ?_⟩
  obtain ⟨uz, rfl, _⟩ := vals1 r5
  refine call_mw T I5 ha (by show 1 ≤ sizeLine; decide) hu6 fun s6 I6 => ?_
  show PySem.wpAt _ _ _ (execs _ _) _ _ _
  refine wpAt_of_wpAny ?_
  have J6 := I6.pins_of (pins' := []) (fun p hp => by cases hp)
  have ps : PSs (cxS P w K mg base ["self", fld] qual scope f (.ref cda) cc A outer ⟨hh, g, d, t0, os⟩ H') [.Assign [.Attribute (.Name "self" q1) fld q2] (.Name fld q3) q4] (tOst K fld (tVar 0) (tVar 1)) :=
    pss_one (ps_ost (pe_var rfl (.inl hka)) (pe_var rfl (.inl hkf) hdb hdc) rfl)
  refine wpAny_mono (ps.run [] s6 _ H' { nx := fun _ H2 => Q .non H2, rt := fun _ _ => False } J6 ⟨_, rfl, _, rfl, a, C, rfl, T, noN, .inl ⟨ha, hk⟩⟩) (fun fl s7 hs => ?_) fun _ _ z => z.elim
  cases fl with
  | next =>
    obtain ⟨σ7, H7, J, q7⟩ := hs
    exact ⟨.non, H7, J.os, J.bare, J.base, J.hok, rfl, q7⟩
  | ret u =>
    obtain ⟨_, _, _, _, _, q7⟩ := hs
    exact q7.elim
  | brk =>
    obtain ⟨_, _, _, q7⟩ := hs
    exact q7.elim
  | cont =>
    obtain ⟨_, _, _, q7⟩ := hs
    exact q7.elim
end
/-- what stands of such an __init__ behind the top -/
structure ExInit (P : Program) (K : PySem.W.Frag) (mg : Str → Option Value) (C f : Addr) (fd : FuncData) (fld : Str) (st : Stmt) : Prop where
  ex : ∃ (qual : Str) (oc kV doc pm ct ccl cl : Value) (od an cdd cld : Option Addr) (osl ccs csl : Array (Option Value)) (vs5 : Array Value) (file : Str) (tf : Tok) (cc cda : Addr),
    fd = PySem.W.ksFn "__init__" qual (defArgs st) (defBody st) (defScope st) .none kV doc pm an (.ref cda) ct cc ∧ K.lookup f = some ⟨oc, od, .func fd, osl⟩ ∧ PySem.W.codeIn K (.ref cda) qual = true ∧
    K.lookup cda = some ⟨ccl, cdd, .fields vs5, ccs⟩ ∧ vs5[2]? = some (.str file tf) ∧ ((P.main.file : Str) == file) = true ∧ K.lookup cc = some ⟨cl, cld, .cell (some (.ref C)), csl⟩
  ops : PySem.W.nsIn K cStatics "thirdparty.any" = some none
  nsup : mg "super" = none
  sin : PySem.W.ks_superIn K C C "__init__" = some (some (.builtin "ValueError.__init__"))
  sub : PySem.W.subIn K (.ref C) (.type "ValueError") = some true
  mro : PySem.W.mroIn K C (.ref C) = some true
  noN : PySem.W.findIn K (.ref C) fld = some none
  top : (P.main.scope.names.lookup ("super" : Str)).isSome = false
/-- .. and what its instances are read by -/
structure ExF (K : PySem.W.Frag) (C : Addr) (fld : Str) : Prop where
  xf : XfC K C
  noN : PySem.W.findIn K (.ref C) fld = some none
end Rz

namespace Rz
open PySem PySem.Spec PyProof.Rows L2
theorem str_int_len {n : Int} (h : n.natAbs.log2 < 1920) : (toString n : Str).length ≤ 1921 := PyProof.Rows.int_text_len_1921 h
theorem exinit_ok {P : Program} {w : World} {K : PySem.W.Frag} {mg : Str → Option Value} {base : Heap} {CX : CXT} {C f : Addr} {fd : FuncData} {fld : Str} {st : Stmt} {ar : Arg} {p0 p1 p2 p3 p4 q1 q2 q3 q4 : Pos} {e : Expr}
    (T : OexC K C) (I : ExInit P K mg C f fd fld st)
    (hbody : defBody st = [.Expr (.Call (.Attribute (.Call (.Name "super" p0) [] [] p1) "__init__" p2) [e] [] p3) p4, .Assign [.Attribute (.Name "self" q1) fld q2] (.Name fld q3) q4])
    (hp : ((defArgs st).posonlyargs ++ (defArgs st).args).head? = some ar) (har : ar.arg = "self")
    (hks : (defScope st).names.lookup ("super" : Str) = some .globalImplicit) (hkc : (defScope st).names.lookup ("__class__" : Str) = some .free) (hka : (defScope st).names.lookup ("self" : Str) = some .local) (hkf : (defScope st).names.lookup fld = some .local)
    (hkind : (defScope st).kind = .function) (hco : (defScope st).isCoroutine = false) (hgen : (defScope st).isGenerator = false)
    (hnc : ((defScope st).names.all fun x => decide (x.2 ≠ .cell)) = true) (hfr : ((defScope st).names.all fun x => decide (x.2 = .free → x.1 = "__class__")) = true) (hnd : fld ≠ "self")
    (hdb : (fld == ("__debug__" : Str)) = false) (hdc : (fld == ("__classdict__" : Str)) = false)
    (hmsg : ∀ X : Cx, X.N = [("self" : Str), fld] → X.env.scope = defScope st → ∃ t, PE X e t ∧ ∀ (σ : L2.St) (n : Int) (H : Hp) (Q : VK), σ[1]? = some (some (.int n)) → n.natAbs.log2 < 1920 → (∀ z : Str, Q (.str z) H) → t σ H Q)
    (hst : ∀ (qual : Str) (L cda cc : Addr), starEach [e] (PySem.W.ksEnv qual (defScope st) L f (.ref cda) cc) = (false, eval e (PySem.W.ksEnv qual (defScope st) L f (.ref cda) cc)) :: starEach [] (PySem.W.ksEnv qual (defScope st) L f (.ref cda) cc))
    {pl : Sem Bool} (hms : ∀ (qual : Str) (L cda cc : Addr), eval (.Call (.Attribute (.Call (.Name "super" p0) [] [] p1) "__init__" p2) [e] [] p3) (PySem.W.ksEnv qual (defScope st) L f (.ref cda) cc) = (do
      let ov ← attributeBase (.Call (.Name "super" p0) [] [] p1) "__init__" (PySem.W.ksEnv qual (defScope st) L f (.ref cda) cc) (eval (.Call (.Name "super" p0) [] [] p1) (PySem.W.ksEnv qual (defScope st) L f (.ref cda) cc))
      standAt p2.atName
      let (g, first) ← holding [ov] (getMethod ov "__init__" pl)
      callWith p3 g first (backTo p3 (starEach [e] (PySem.W.ksEnv qual (defScope st) L f (.ref cda) cc))) [])) :
    FnOk P w K mg base CX 1 f fd ["self", fld] (spExI C fld) := by
  obtain ⟨qual, oc, kV, doc, pm, ct, ccl, cl, od, an, cdd, cld, osl, ccs, csl, vs5, file, tf, cc, cda, rfl, lk, hcd, hcode, hvs, hfile, hcell⟩ := I.ex
  refine exsup_ok (k := 0) T lk hcd hcode hvs hfile hcell I.ops I.nsup I.sin I.sub I.mro I.noN I.top hbody hp har hks hkc hka hkf hkind hco hgen (fun x hx => ?_) (fun x hx => ?_) hnd hdb hdc hmsg (fun L => hst qual L cda cc) (fun L => hms qual L cda cc)
  · exact of_decide_eq_true (List.all_eq_true.mp hnc x hx)
  · exact of_decide_eq_true (List.all_eq_true.mp hfr _ (PySem.mem_of_lookup hx)) rfl
theorem msg_ok2 {sc : Scope} {fld c : Str} {p1 p2 p3 p4 : Pos} {j : Nat} (hv : sc.names.lookup fld = some .local) (hd : (fld == ("__debug__" : Str)) = false) (hdc : (fld == ("__classdict__" : Str)) = false) (hc : c.length ≤ 1000) (X : Cx) (hN : X.N = [("self" : Str), fld]) (hs : X.env.scope = sc) :
    ∃ t, PE X (.JoinedStr [.Constant (.str c) j p1, .FormattedValue (.Name fld p2) (-1) none p3] p4) t ∧ ∀ (σ : L2.St) (n : Int) (H : Hp) (Q : VK), σ[1]? = some (some (.int n)) → n.natAbs.log2 < 1920 → (∀ z : Str, Q (.str z) H) → t σ H Q := by
  refine ⟨_, pe_joined (.cons pe_str (.cons (pe_fmt (pe_var (i := 1) (by rw [hN]; rfl) (.inl (by rw [hs]; exact hv)) hd hdc)) .nil)), fun σ n H Q h1 hn hq => ?_⟩
  have l1 := str_int_len hn
  refine ⟨c, rfl, ?_, ?_⟩
  · rw [Str.length_append, sizeLine_eq]
    show 0 + c.length ≤ _
    omega
  · refine ⟨_, h1, .inr ⟨n, rfl, hn, _, rfl, ?_, hq _⟩⟩
    rw [Str.length_append, Str.length_append, sizeLine_eq]
    show 0 + c.length + _ ≤ _
    omega
theorem msg_ok3 {sc : Scope} {fld c c2 : Str} {p1 p2 p3 p4 p5 : Pos} {j j2 : Nat} (hv : sc.names.lookup fld = some .local) (hd : (fld == ("__debug__" : Str)) = false) (hdc : (fld == ("__classdict__" : Str)) = false) (hc : c.length ≤ 1000) (hc2 : c2.length ≤ 1000) (X : Cx) (hN : X.N = [("self" : Str), fld]) (hs : X.env.scope = sc) :
    ∃ t, PE X (.JoinedStr [.Constant (.str c) j p1, .FormattedValue (.Name fld p2) (-1) none p3, .Constant (.str c2) j2 p5] p4) t ∧ ∀ (σ : L2.St) (n : Int) (H : Hp) (Q : VK), σ[1]? = some (some (.int n)) → n.natAbs.log2 < 1920 → (∀ z : Str, Q (.str z) H) → t σ H Q := by
  refine ⟨_, pe_joined (.cons pe_str (.cons (pe_fmt (pe_var (i := 1) (by rw [hN]; rfl) (.inl (by rw [hs]; exact hv)) hd hdc)) (.cons pe_str .nil))), fun σ n H Q h1 hn hq => ?_⟩
  have l1 := str_int_len hn
  refine ⟨c, rfl, ?_, ?_⟩
  · rw [Str.length_append, sizeLine_eq]
    show 0 + c.length ≤ _
    omega
  · refine ⟨_, h1, .inr ⟨n, rfl, hn, _, rfl, ?_, c2, rfl, ?_, hq _⟩⟩
    · rw [Str.length_append, Str.length_append, sizeLine_eq]
      show 0 + c.length + _ ≤ _
      omega
    · rw [Str.length_append, Str.length_append, Str.length_append, sizeLine_eq]
      show 0 + c.length + _ + _ ≤ _
      omega
end Rz

namespace Rz
open PySem PySem.Spec PyProof.Rows L2

/-! ### enumerate(text) -/
def Ites (x : Str) : It :=
  ⟨fun i _ => i < x.cps.size, fun i H v H' => ∃ T c, v = .ref T ∧ H T = none ∧ H' = upd H T (.tup [.int (i : Nat), .str ⟨#[c]⟩]) ∧ x.cps[i]? = some c, fun i _ => i = x.cps.size⟩
theorem turn_enumS {P : Program} {w : World} {K : PySem.W.Frag} {elts : List Expr} {kk : Nat} {tpos : Pos} (e it : Addr) (x : Str) (t : Tok) :
    Turn P w K (.Tuple elts kk tpos) (Ites x) [e, it] e (fun i h => (∃ old, IsEnum h e it ((i : Nat) : Int) old) ∧ h.IsStrIter it (strIterType x) x t i ∧ e ≠ it) where
  mem := by simp
  obj := fun i h st b hb => by
    obtain ⟨⟨old, he⟩, ⟨o, ho, hc, hd⟩, _⟩ := st
    have z2 : b = e ∨ b = it := by simpa using hb
    rcases z2 with rfl | rfl
    · exact ⟨_, he, fun v q => nomatch q⟩
    · exact ⟨o, ho, fun v q => by rw [hd] at q; cases q⟩
  keep := fun i h h' st k => by
    obtain ⟨⟨old, he⟩, ⟨o, ho, r⟩, hne⟩ := st
    exact ⟨⟨old, k e (by simp) _ he⟩, ⟨o, k it (by simp) _ ho, r⟩, hne⟩
  item := by
    intro X hP hw hK hc i pins s σ H E I hf st hg
    subst hP hw hK
    obtain ⟨⟨old, he⟩, hit, hne⟩ := st
    have hel : e < s.heap.objs.size := Heap.lt_size he
    have hil : it < s.heap.objs.size := by obtain ⟨_, q, _⟩ := hit; exact Heap.lt_size q
    have D := Draws.text (prog := X.prog) (w := X.w) (A := X.A.in1) (I.ok.hd hc) it x t
    refine wpAny_pyNext_enum_itemD D he hit hg hne (by simpa using hne) fun u h' tk hu ho hit2 hT hsz hk => ?_
    obtain ⟨c, tc, hcx, rfl⟩ := hu
    refine ⟨_, rfl, wpAny_letOwnedTupleGo_enum (s := { s with heap := h', toks := tk + 1 }) ho fun h2 he2 sb => ?_⟩
    have hT2 : h2.get? s.heap.objs.size = some { cls := .type "tuple", data := .seq #[.int i tk, .str ⟨#[c]⟩ tc] } := (sb.2 _ (Nat.ne_of_gt hel)).trans hT
    have new : ObjOk X.prog X.w (upd H s.heap.objs.size (.tup [.int (i : Nat), .str ⟨#[c]⟩])) h2 s.heap.objs.size (.tup [.int (i : Nat), .str ⟨#[c]⟩]) :=
      ⟨by show 2 ≤ sizeLine; decide, [.int i tk, .str ⟨#[c]⟩ tc], .cons ⟨_, rfl⟩ (.cons ⟨_, rfl⟩ .nil), ⟨_, hT2, rfl, _, rfl⟩⟩
    have J : Inv X pins σ (upd H s.heap.objs.size (.tup [.int (i : Nat), .str ⟨#[c]⟩])) { s with heap := h2, toks := tk + 1 } :=
      I.turnedNew (t' := tk + 1) (ch := [e, it]) (fun b ob hb q => (sb.2 b (fun z => hb (by simp [z]))).trans (hk b ob (fun z => hb (by simp [z])) (fun z => hb (by simp [z])) q)) hf (Nat.le_refl _) new
    obtain ⟨oi, e3, r3⟩ := hit2
    refine ⟨.ref s.heap.objs.size, _, J, rfl, ⟨_, c, rfl, I.hok.fresh (Nat.le_refl _), rfl, hcx⟩, ⟨⟨.str ⟨#[c]⟩ tc, ?_⟩, ⟨oi, (sb.2 it (Ne.symm hne)).trans e3, r3⟩, hne⟩, fun b hb => ?_⟩
    · have e1 : ((i + 1 : Nat) : Int) = (i : Int) + 1 := by omega
      rw [e1]
      exact he2
    · have hbl : b < s.heap.objs.size := by
        have z2 : b = e ∨ b = it := by simpa using hb
        rcases z2 with rfl | rfl
        · exact hel
        · exact hil
      rw [upd_ne (Nat.ne_of_lt hbl)]
      exact (hf b hb).1
  done := by
    intro X hP hw hK hc i pins s σ H E I hf st hg
    subst hP hw hK
    obtain ⟨⟨old, he⟩, hit, hne⟩ := st
    obtain ⟨f0, f1, f2, f3, f4, f5⟩ := hf it (by simp)
    have D := Draws.text (prog := X.prog) (w := X.w) (A := X.A.in1) (I.ok.hd hc) it x t
    have hg' : i = x.cps.size := hg
    subst hg'
    exact wpAny_pyNext_enum_endD D he hit fun h' eb => ⟨rfl, I.turned (t' := s.toks) (fun b o hb q => eb b o hb q) f0 f1 f3 f4 f5⟩
  self := fun A i s Q E st h => let ⟨⟨_, he⟩, _⟩ := st; wpAny_pyIter_enum he h
theorem walk_enumS {z : Str} : Walk (Ites z) z.cps.size (fun _ => True) (fun i H v H' => ∃ T c, v = .ref T ∧ H T = none ∧ H' = upd H T (.tup [.int (i : Nat), .str ⟨#[c]⟩]) ∧ z.cps.toList[i]? = some c) :=
  ⟨fun _ _ hi _ => hi, fun _ _ => rfl, fun i H x H' _ _ y => by
    obtain ⟨T, c, e1, e2, e3, e4⟩ := y
    exact ⟨T, c, e1, e2, e3, by rw [Array.getElem?_toList]; exact e4⟩⟩
def iEnumS (ta : TA) : TI := fun σ H R => ta σ H fun vs H1 => ∃ x, vs = [.str x] ∧ R (Ites x) H1
theorem pi_enumS {X : Cx} {e : Expr} {ta : TA} {p pos tpos : Pos} {elts : List Expr} {kk : Nat} (hg : Gl X "enumerate") (hm : X.mg "enumerate" = none) (ha : PA X [e] ta) (hs : starEach [e] X.env = [(false, eval e X.env)] := by rfl) :
    PI X (.Tuple elts kk tpos) (.Call (.Name "enumerate" p) [e] [] pos) (iEnumS ta) := by
  refine ⟨fun pins s σ H R I h => ?_⟩
  refine Call_ (ld_blt I hg hm boot_enumerate (PyProof.Rows.callWith_type1 (thn (ha.run pos pins s σ H _ I h) fun us s1 ⟨vs, H1, I1, r1, q1⟩ => ?_) hs rfl))
  obtain ⟨x, rfl, q⟩ := q1
  obtain ⟨u, rfl, ru⟩ := vals1 r1
  obtain ⟨t, rfl⟩ := ru
  refine call_enumerate_str fun h' he hit hsz hk => wpAny_pyIter_enum he ?_
  have J : Inv X pins σ H1 { s1 with heap := h' } := I1.kept (t' := s1.toks) hk
  refine ⟨s1.heap.objs.size + 1, [s1.heap.objs.size + 1, s1.heap.objs.size], _, _, H1, rfl, J, turn_enumS (s1.heap.objs.size + 1) s1.heap.objs.size x t, ⟨⟨.none, he⟩, hit, Nat.succ_ne_self _⟩, fun b hb => ?_, q⟩
  have hle : s1.heap.objs.size ≤ b := by
    have z2 : b = s1.heap.objs.size + 1 ∨ b = s1.heap.objs.size := by simpa using hb
    rcases z2 with rfl | rfl
    · exact Nat.le_add_right _ _
    · exact Nat.le_refl _
  exact I1.fpOk hle (I1.hok.fresh hle)
end Rz

namespace Rz
open PySem PySem.Spec PyProof.Rows L2

abbrev SuR := Addr → Value → Option Addr → TS
/-- a clause: its class, the slot of its name if it has one, its suite -/
abbrev Cls1 := Value × Option Nat × SuR
def endM (i : Option Nat) (D : Ends) : Ends := match i with
  | none => D
  | some i => { nx := fun σ H => D.nx (σ.set i none) H, rt := D.rt, bk := fun σ H => D.bk (σ.set i none) H, ct := fun σ H => D.ct (σ.set i none) H }
def stM (i : Option Nat) (a : Addr) (σ : L2.St) : L2.St := match i with
  | none => σ
  | some i => σ.set i (some (.ref a))
def wMix (K : PySem.W.Frag) (Wout : WX) (D : Ends) : List Cls1 → WX
  | [] => Wout
  | (c, i, ts) :: r => fun cls d σ H => ∃ b, PySem.W.exmOne K cls c = some b ∧ (b = true → ∀ a, H a = none → ts a cls d (endM i D) (stM i a σ) H) ∧ (b = false → wMix K Wout D r cls d σ H)
inductive HdsM (X : Cx) : List ExceptHandler → List Cls1 → Prop
  | nil : HdsM X [] []
  | plain {x : Str} {c : Value} {ts : SuR} {b0 : Stmt} {suite : List Stmt} {np p2 : Pos} {hds : List ExceptHandler} {l : List Cls1} (hc : Names X x c)
      (su : ∀ (a : Addr) (oe : Obj) (cls : Value) (d : Option Addr) (pn : List (Addr × Obj)), Zc cls d oe → (∃ vs, oe.data = .fields vs) → PSs (X.suite a ((a, oe) :: pn)) (b0 :: suite) (ts a cls d))
      (r : HdsM X hds l) : HdsM X (.ExceptHandler (some (.Name x np)) none (b0 :: suite) p2 :: hds) ((c, none, ts) :: l)
  | named {x n : Str} {i : Nat} {c : Value} {ts : SuR} {b0 : Stmt} {suite : List Stmt} {np p2 : Pos} {hds : List ExceptHandler} {l : List Cls1} (hN : X.N.Nodup) (hi : X.N[i]? = some n) (hl : X.env.kindOf n = some .local) (hc : Names X x c)
      (su : ∀ (a : Addr) (oe : Obj) (cls : Value) (d : Option Addr) (pn : List (Addr × Obj)), Zc cls d oe → (∃ vs, oe.data = .fields vs) → PSs (X.suite a ((a, oe) :: pn)) (b0 :: suite) (ts a cls d))
      (r : HdsM X hds l) : HdsM X (.ExceptHandler (some (.Name x np)) (some n) (b0 :: suite) p2 :: hds) ((c, some i, ts) :: l)
section
variable {X : Cx} {body : List Stmt} {h0 : ExceptHandler} {hds : List ExceptHandler} {l : List Cls1} {pos : Pos} {tb : WX → TS} {Wout : WX}
theorem ps_try_mix (hs : X.stack = X.env :: X.outer) (hf : X.env.frame = some X.env.locals) (tk : Takes X Wout)
    (hb : ∀ (W : WX) (pn : List (Addr × Obj)) (xe : Value → Shared → Prop), Takes (X.tr pn xe) W → PassesOwn (model X.prog X.w) X.A X.env xe → PSs (X.tr pn xe) body (tb W))
    (hh : HdsM X (h0 :: hds) l) : PS X (.Try body (h0 :: hds) [] [] pos) (fun D σ H => tb (wMix X.K Wout D l) D σ H) := by
  refine ⟨fun pins s σ H D I h => ?_⟩
  have ok := I.ok
  have fr0 : X.A.frames = some (X.env :: X.outer) := ok.frames.trans (by rw [hs])
  refine wpAny_Try_except ?_
  refine wpAny_mono ((hb (wMix X.K Wout D l) (X.pn ++ pins) (fun e sa => wpAny (model X.prog X.w) X.A (noteFrame e X.env) (fun _ sb => wpAny (model X.prog X.w) X.A (setFlight e none) (fun _ sc =>
    wpAny (model X.prog X.w) X.A (handleBy e X.env (h0 :: hds)) (SP X pins D) X.xe sc) X.xe sb) X.xe sa) (fun u s2 air => ?_) PassesOwn.looking).run [] s σ H D (I.toTry _) h) (fun f s1 hsp => ?_) (fun e s1 he => he)
  · obtain ⟨a, B, sI, pins2, σ2, H2, cls, d, rfl, J0, nb, up, sky, na, os, ag, w⟩ := air
    have J := J0.ofTry ok
    rw [hs] at sky
    show wpAny (model X.prog X.w) X.A (noteFrame (.ref a) X.env) _ _ _
    refine Sky.land Zc.steady fr0 hf sky fun g3 fl3 up3 => ?_
    have J3 : Inv X pins σ2 H2 { s2 with heap := g3 } := J.landed nb fl3.1 (up.trans up3) os ag
    obtain ⟨o3, vs3, e3, z3, d3⟩ := fl3.there
    have nfr : a ∉ frs (X.env :: X.outer) := fun hm => by
      obtain ⟨_, o', e', hnf⟩ := fl3.2.2.1.mem hm
      rw [e3] at e'
      cases e'
      exact hnf _ d3
    have nL : a ≠ X.env.locals := fun z => nfr (List.mem_filterMap.mpr ⟨X.env, List.mem_cons_self, by rw [hf, z]⟩)
    have nF : a ∉ X.fs := fun hm => by
      obtain ⟨e, he, q⟩ := List.mem_filterMap.mp hm
      exact nfr (List.mem_filterMap.mpr ⟨e, List.mem_cons_of_mem _ he, q⟩)
    have S3 := J3.suite e3 d3 na nL nF
    have look : ∀ {x : Str} {np : Pos} {c : Value} {Q : Value → Shared → Prop} {E : Value → Shared → Prop}, Names X x c → Q c { s2 with heap := g3 } → wpAny (model X.prog X.w) (X.A.mark (some (.ref a))) (eval (.Name x np) X.env) Q E { s2 with heap := g3 } := fun {x np c Q E} hc q => by
      obtain ⟨hg, hdbg, hm | ⟨hm, hv, hnn⟩⟩ := hc
      · exact ld_glob (X := X.suite a ((a, o3) :: (X.pn ++ pins))) S3 hg hm q hdbg
      · exact ld_blt (X := X.suite a ((a, o3) :: (X.pn ++ pins))) S3 hg hm hv q hnn hdbg
    have LT : PySem.W.Looks (model X.prog X.w) g3 (typeOf (.ref a)) cls := fun A Q E s k q => wpAny_typeOf_ref (k _ _ e3) (by rw [z3.1]; exact q)
    have go : ∀ {hds2 : List ExceptHandler} {l2 : List Cls1}, HdsM X hds2 l2 → wMix X.K Wout D l2 cls d σ2 H2 →
        wpAny (model X.prog X.w) X.A (handleBy (.ref a) X.env hds2) (SP X pins D) X.xe { s2 with heap := g3 } := by
      intro hds2 l2 hk
      induction hk with
      | nil =>
        intro w
        refine wpAny_handleBy_nil ?_
        obtain ⟨k1, k2, k3, oe, vs, T, oT, tr, he, hz, hd, h1, hr⟩ := id fl3
        unfold PySem.passOn
        refine wpAny_bind (wpAny_field he hd h1 ?_)
        rw [if_neg (show ¬ ((Value.ref T == Value.none) = true) from by simp)]
        have fin : wpAny (model X.prog X.w) X.A (setFlight (.ref a) X.env.frame) (fun _ s4 => wpAny (model X.prog X.w) X.A (throw (.ref a) : Sem Flow) (SP X pins D) X.xe s4) X.xe { s2 with heap := g3 } := by
          rw [hf]
          refine HandSPX.setFlight_upZ fl3 fun g4 hh4 up4 => wpAny_throw (tk _ _ ?_)
          exact ⟨a, B, sI, pins, σ2, H2, cls, d, rfl, J, nb, (up.trans up3).trans up4, .inr (.inr (by rw [hs]; exact hh4)), na, os, ag, w⟩
        first
          | exact wpAny_bind (wpAny_pure (wpAny_bind fin))
          | exact wpAny_bind fin
      | @plain x c ts b0 suite np p2 hds3 l3 hc su r ih =>
        intro w
        obtain ⟨b, hb1, hyes, hno⟩ := w
        refine wpAny_handleBy_cons (codeAny_handlers_test ?_) (by intro q; cases q)
        refine look hc ((PySem.W.exm_one (M := model X.prog X.w) J3.kIn LT hb1).here ?_)
        cases b with
        | true =>
          refine codeAny_handlers_suite ?_
          refine HandSPX.lands_againZ fl3 fun g4 fl4 up4 => ?_
          have J4 : Inv X pins σ2 H2 { s2 with heap := g4 } := J.landed nb fl4.1 ((up.trans up3).trans up4) os ag
          obtain ⟨o4, vs4, e4, z4, d4⟩ := fl4.there
          refine wpAny_mono ((su a o4 cls d (X.pn ++ pins) z4 ⟨_, d4⟩).run [] _ _ H2 _ (J4.suite e4 d4 na nL nF) (hyes rfl a na)) (fun f s6 hsp => ?_) (fun _ _ z => False.elim z)
          cases f with
          | next => obtain ⟨_, _, S6, q6⟩ := hsp; exact ⟨_, _, S6.unsuite ok, q6⟩
          | brk => obtain ⟨_, _, S6, q6⟩ := hsp; exact ⟨_, _, S6.unsuite ok, q6⟩
          | cont => obtain ⟨_, _, S6, q6⟩ := hsp; exact ⟨_, _, S6.unsuite ok, q6⟩
          | ret u => obtain ⟨_, _, _, S6, r6, q6⟩ := hsp; exact ⟨_, _, _, S6.unsuite ok, r6, q6⟩
        | false =>
          show wpAny _ X.A (handleBy (.ref a) X.env hds3) _ _ _
          exact ih (hno rfl)
      | @named x n i c ts b0 suite np p2 hds3 l3 hN hi hln hc su r ih =>
        intro w
        obtain ⟨b, hb1, hyes, hno⟩ := w
        refine wpAny_handleBy_cons (codeAny_handlers_test ?_) (by intro q; cases q)
        refine look hc ((PySem.W.exm_one (M := model X.prog X.w) J3.kIn LT hb1).here ?_)
        cases b with
        | true =>
          refine codeAny_handlers_suite_as ?_
          refine HandSPX.lands_againZ fl3 fun g4 fl4 up4 => ?_
          have J4 : Inv X pins σ2 H2 { s2 with heap := g4 } := J.landed nb fl4.1 ((up.trans up3).trans up4) os ag
          obtain ⟨o4, vs4, e4, z4, d4⟩ := fl4.there
          refine store_ok (X := X.suite a ((a, o4) :: (X.pn ++ pins))) (v := .ref a) (J4.suite e4 d4 na nL nF) hN hi (.inl hln) rfl (fun s5 S5 => ?_) (.inr hln)
          refine wpAny_mono ((su a o4 cls d (X.pn ++ pins) z4 ⟨_, d4⟩).run [] s5 _ H2 _ S5 (hyes rfl a na)) (fun f s6 hsp => ?_) (fun _ _ z => False.elim z)
          have away : ∀ {σ6 : L2.St} {H6 : Hp} {Q : Shared → Prop}, Inv (X.suite a ((a, o4) :: (X.pn ++ pins))) [] σ6 H6 s6 → (∀ s7, Inv X pins (σ6.set i none) H6 s7 → Q s7) →
              wpAny (model X.prog X.w) X.A (do bindName X.env n .none; unbindBehindTheSuite X.env n p2) (fun _ s7 => Q s7) X.xe s6 := fun {σ6 H6 Q} S6 hq => gone_ok (S6.unsuite ok) hN hi hln hq
          cases f with
          | next => obtain ⟨_, _, S6, q6⟩ := hsp; exact away S6 fun s7 J7 => ⟨_, _, J7, q6⟩
          | brk => obtain ⟨_, _, S6, q6⟩ := hsp; exact away S6 fun s7 J7 => ⟨_, _, J7, q6⟩
          | cont => obtain ⟨_, _, S6, q6⟩ := hsp; exact away S6 fun s7 J7 => ⟨_, _, J7, q6⟩
          | ret u => obtain ⟨_, _, _, S6, r6, q6⟩ := hsp; exact away S6 fun s7 J7 => ⟨_, _, _, J7, r6, q6⟩
        | false =>
          show wpAny _ X.A (handleBy (.ref a) X.env hds3) _ _ _
          exact ih (hno rfl)
    exact go hh w
  · cases f with
    | next => obtain ⟨_, _, S6, q6⟩ := hsp; exact wpAny_execs_nil ⟨_, _, S6.ofTry ok, q6⟩
    | brk => obtain ⟨_, _, S6, q6⟩ := hsp; exact ⟨_, _, S6.ofTry ok, q6⟩
    | cont => obtain ⟨_, _, S6, q6⟩ := hsp; exact ⟨_, _, S6.ofTry ok, q6⟩
    | ret u => obtain ⟨_, _, _, S6, r6, q6⟩ := hsp; exact ⟨_, _, _, S6.ofTry ok, r6, q6⟩
end
end Rz

namespace Rz
open PySem PySem.Spec PyProof.Rows L2
/-! ### calls whose exceptions are wished for at the caller's slots -/
abbrev EX := L2.St → XK
/-- nothing is let out -/
abbrev EN : EX := fun _ => E0
theorem atN {X : Cx} (σ : L2.St) : PassesAt (L2.CX X.prog X.w) X σ (EN σ) := fun _ _ _ _ _ _ h => by
  obtain ⟨_, _, _, _, _, _, _, _, _, _, _, _, z⟩ := h
  exact z.elim
section
variable {X : Cx} {CX : CXT} {k : Nat} {f C : Addr} {fd : FuncData} {ps : List Str} {sp : Sp} {dvs : List V} {ds : List Value} {E : EX} {x m : Str} {p pos apos : Pos} {e o : Expr} {es : List Expr} {ta : TE} {t : TA}
theorem run_X {pins : List (Addr × Obj)} {σ : L2.St} {H : Hp} {s : Shared} {Q : VK} {us : List Value} {vs : List V} {A : Around} (F : FnOk X.prog X.w X.K X.mg X.base CX k f fd ps sp) (hr : Room k A) (hfr : A.frames = X.A.frames) (hb : Binds X.K fd ps ds) (hd : Vals dvs ds) (hx : PassesAt CX X σ (E σ))
    (I : Inv X pins σ H s) (r : Vals vs us) (h : sp (vs ++ dvs) H Q (E σ)) : codeAny (model X.prog X.w) A (.call (.ref f) ⟨us, []⟩) (fun q s' => match q with
      | .ok (.ret u) => EP X pins σ Q u s'
      | .ok _ => False
      | .error er => X.xe er s') s := by
  have e0 : Env0 X.prog X.w X.K X.mg X.base A X.stack s H := by
    have z := I.env0
    exact ⟨by rw [hfr]; exact z.frames, z.mod, z.bs, z.bsz, z.funs, z.frf, z.hok, z.bare⟩
  have hz := F.len _ _ _ _ h
  rw [(r.append hd).length] at hz
  refine codeAny_mono (F.run A X.stack s H ⟨us, []⟩ (us ++ ds) (vs ++ dvs) Q (E σ) hr e0 (hb s us I.kIn hz) (r.append hd) h) fun q s' hq => ?_
  match q, hq with
  | .error er, hq => exact hx pins H s er s' I hq
  | .ok (.ret u), hq => exact I.after hq
  | .ok .next, hq => exact hq
  | .ok .brk, hq => exact hq
  | .ok .cont, hq => exact hq
theorem ended {pins : List (Addr × Obj)} {σ : L2.St} {Q : VK} {q : Result} {s' : Shared} (h : match q with
      | .ok (.ret u) => EP X pins σ Q u s'
      | .ok _ => False
      | .error er => X.xe er s') : wants (EP X pins σ Q) X.xe q s' := by
  match q, h with
  | .error er, h => exact h
  | .ok (.ret u), h => exact h
  | .ok .next, h => exact h.elim
  | .ok .brk, h => exact h.elim
  | .ok .cont, h => exact h.elim
theorem run_XC {pins : List (Addr × Obj)} {σ : L2.St} {H : Hp} {s : Shared} {Q : VK} {us : List Value} {vs : List V} (F : FnOk X.prog X.w X.K X.mg X.base CX k f fd ps sp) (hr : Room k X.A) (hb : Binds X.K fd ps ds) (hd : Vals dvs ds) (hx : PassesAt CX X σ (E σ))
    (I : Inv X pins σ H s) (r : Vals vs us) (h : sp (vs ++ dvs) H Q (E σ)) : wpAny (model X.prog X.w) X.A (call (.ref f) us) (EP X pins σ Q) X.xe s :=
  wpAny_call (codeAny_mono (run_X F hr rfl hb hd hx I r h) fun _ _ hq => ended hq)
/-- f(..) -/
def tFn (sp : Sp) (dvs : List V) (E : EX) (t : TA) : TE := fun σ H Q => t σ H fun vs H1 => sp (vs ++ dvs) H1 Q (E σ)
theorem pe_fn (F : FnOk X.prog X.w X.K X.mg X.base CX k f fd ps sp) (hr : Room k X.A) (hg : Gl X x) (hm : X.mg x = some (.ref f)) (hk : PySem.W.keepIn X.K (.ref f) = true) (hb : Binds X.K fd ps ds) (hd : Vals dvs ds) (hx : ∀ σ, PassesAt CX X σ (E σ))
    (ha : PA X (e :: es) t) (hdb : (x == ("__debug__" : Str)) = false := by decide) (he : starEach (e :: es) X.env = (false, eval e X.env) :: starEach es X.env := by rfl) (hpl : (backTo pos (starEach es X.env)).any (·.1) = false := by rfl) :
    PE X (.Call (.Name x p) (e :: es) [] pos) (tFn sp dvs E t) := ⟨fun pins s σ H Q I h =>
  wpAny_Call_Name_kw (ld_glob I hg hm (PySem.W.callWith_K (h₀ := X.base) I.ok.mod.kin hk (thn (ha.run pos pins s σ H _ I h) fun us s1 ⟨vs, H1, J, r, q⟩ => ⟨J.kIn, run_XC F hr hb hd (hx σ) J r q⟩) he hpl) hdb)⟩
theorem pe_fn0 (F : FnOk X.prog X.w X.K X.mg X.base CX k f fd ps sp) (hr : Room k X.A) (hg : Gl X x) (hm : X.mg x = some (.ref f)) (hk : PySem.W.keepIn X.K (.ref f) = true) (hb : Binds X.K fd ps ds) (hd : Vals dvs ds) (hx : ∀ σ, PassesAt CX X σ (E σ))
    (hdb : (x == ("__debug__" : Str)) = false := by decide) : PE X (.Call (.Name x p) [] [] pos) (tFn sp dvs E tNil) := ⟨fun pins s σ H Q I h =>
  wpAny_Call_Name_kw (ld_glob I hg hm (PySem.W.callWith_K0 I.kIn hk (run_XC (us := []) F hr hb hd (hx σ) I .nil h)) hdb)⟩
/-- o.m(..) -/
def tMt (C : Addr) (m : Str) (sp : Sp) (dvs : List V) (E : EX) (ta : TE) (t : TA) : TE := fun σ H Q => ta σ H fun x H1 => ∃ a dx fs, x = .ref a ∧ H1 a = some (.ins C dx fs) ∧ fs.lookup m = none ∧
  t σ H1 fun vs H2 => sp (x :: (vs ++ dvs)) H2 Q (E σ)
theorem pe_mt {pl : Sem Bool} (he : PE X o ta) (c : Cls X.K C) (hm : Meth X.K C m f) (F : FnOk X.prog X.w X.K X.mg X.base CX k f fd ps sp) (hr : Room k X.A) (hb : Binds X.K fd ps ds) (hd : Vals dvs ds) (hx : ∀ σ, PassesAt CX X σ (E σ)) (ha : PA X (e :: es) t)
    (hst : starEach (e :: es) X.env = (false, eval e X.env) :: starEach es X.env := by rfl) (hpl : (backTo pos (starEach es X.env)).any (·.1) = false := by rfl)
    (ht : eval (.Call (.Attribute o m apos) (e :: es) [] pos) X.env = (do
      let ov ← eval o X.env
      standAt apos.atName
      let (f, first) ← holding [ov] (getMethod ov m pl)
      callWith pos f first (backTo pos (starEach (e :: es) X.env)) (backToKw pos (keywordEach [] X.env))) := by rfl) :
    PE X (.Call (.Attribute o m apos) (e :: es) [] pos) (tMt C m sp dvs E ta t) := by
  refine ⟨fun pins s σ H Q I h => PySem.W.methodCall_KW (pl := pl) (thn (he.run pins s σ H _ I h) fun u s1 hh => ?_) ht⟩
  obtain ⟨x, H1, J, rx, a, dx, fs, rfl, ea, l, q⟩ := hh
  obtain rfl : u = Value.ref a := rx
  refine getmeth_ok J ea c hm l (PySem.W.callWith_K (first := [.ref a]) (h₀ := X.base) I.ok.mod.kin hm.kp (thn (ha.run pos pins s1 σ H1 _ J q) fun us s2 ⟨vs, H2, J2, r, q2⟩ => ⟨J2.kIn, ?_⟩) hst hpl)
  exact run_XC (us := .ref a :: us) (vs := .ref a :: vs) F hr hb hd (hx σ) J2 (.cons rfl r) q2
theorem pe_mt0 {pl : Sem Bool} (he : PE X o ta) (c : Cls X.K C) (hm : Meth X.K C m f) (F : FnOk X.prog X.w X.K X.mg X.base CX k f fd ps sp) (hr : Room k X.A) (hb : Binds X.K fd ps ds) (hd : Vals dvs ds) (hx : ∀ σ, PassesAt CX X σ (E σ))
    (ht : eval (.Call (.Attribute o m apos) [] [] pos) X.env = (do
      let ov ← eval o X.env
      standAt apos.atName
      let (f, first) ← holding [ov] (getMethod ov m pl)
      callWith pos f first (backTo pos (starEach [] X.env)) (backToKw pos (keywordEach [] X.env))) := by rfl) :
    PE X (.Call (.Attribute o m apos) [] [] pos) (tMt C m sp dvs E ta tNil) := by
  refine ⟨fun pins s σ H Q I h => PySem.W.methodCall_KW (pl := pl) (thn (he.run pins s σ H _ I h) fun u s1 hh => ?_) ht⟩
  obtain ⟨x, H1, J, rx, a, dx, fs, rfl, ea, l, q⟩ := hh
  obtain rfl : u = Value.ref a := rx
  refine getmeth_ok J ea c hm l (PySem.W.callWith_K0 (first := [.ref a]) J.kIn hm.kp ?_)
  exact run_XC (us := [.ref a]) (vs := [.ref a]) F hr hb hd (hx σ) J (.cons rfl .nil) q
/-- C(..): a new instance, then its __init__ -/
def tMk (C : Addr) (sp : Sp) (dvs : List V) (E : EX) (t : TA) : TE := fun σ H Q => t σ H fun vs H1 => ∀ x dx, H1 x = none → H1 dx = none → dx ≠ x →
  sp (.ref x :: (vs ++ dvs)) (upd (upd H1 dx (.own x)) x (.ins C dx [])) (fun v H2 => v = .non ∧ Q (.ref x) H2) (E σ)
theorem run_mk {pins : List (Addr × Obj)} {σ : L2.St} {H : Hp} {s : Shared} {Q : VK} {us : List Value} {vs : List V} (M : Mk X.K C f) (F : FnOk X.prog X.w X.K X.mg X.base CX k f fd ps sp) (hr : Room (k + 1) X.A) (hb : Binds X.K fd ps ds) (hd : Vals dvs ds)
    (hx : PassesAt CX X σ (E σ)) (I : Inv X pins σ H s) (r : Vals vs us)
    (h : ∀ x dx, H x = none → H dx = none → dx ≠ x → sp (.ref x :: (vs ++ dvs)) (upd (upd H dx (.own x)) x (.ins C dx [])) (fun v H2 => v = .non ∧ Q (.ref x) H2) (E σ)) :
    wpAny (model X.prog X.w) X.A (call (.ref C) us) (EP X pins σ Q) X.xe s := by
  have hq := h (s.heap.objs.size + 1) s.heap.objs.size (I.hok.fresh (Nat.le_succ _)) (I.hok.fresh (Nat.le_refl _)) (Nat.ne_of_lt (Nat.lt_succ_self _))
  have J := Inv.made (C := C) I
  refine wpAny_call (make_map (f := f) I.kIn M.makes M.init (beq_iff_eq.mp M.fn) (codeAny_mono (run_X (vs := .ref (s.heap.objs.size + 1) :: vs) (us := .ref (s.heap.objs.size + 1) :: us) F (hr.make C us []) ((J.env0.make C us []).frames.trans J.ok.frames.symm) hb hd hx J (.cons rfl r) hq) fun q s' hq' => ?_))
  match q, hq' with
  | .error er, hq' => exact hq'
  | .ok (.ret u), hq' =>
    obtain ⟨v, H2, J2, rv, ev, q3⟩ := hq'
    subst ev
    exact ⟨rv, ⟨V.ref (s.heap.objs.size + 1), H2, J2, rfl, q3⟩⟩
  | .ok .next, hq' => exact hq'.elim
  | .ok .brk, hq' => exact hq'.elim
  | .ok .cont, hq' => exact hq'.elim
theorem pe_mk (M : Mk X.K C f) (F : FnOk X.prog X.w X.K X.mg X.base CX k f fd ps sp) (hr : Room (k + 1) X.A) (hg : Gl X x) (hm : X.mg x = some (.ref C)) (hb : Binds X.K fd ps ds) (hd : Vals dvs ds) (hx : ∀ σ, PassesAt CX X σ (E σ))
    (ha : PA X (e :: es) t) (hdb : (x == ("__debug__" : Str)) = false := by decide) (he : starEach (e :: es) X.env = (false, eval e X.env) :: starEach es X.env := by rfl) (hpl : (backTo pos (starEach es X.env)).any (·.1) = false := by rfl) :
    PE X (.Call (.Name x p) (e :: es) [] pos) (tMk C sp dvs E t) := ⟨fun pins s σ H Q I h =>
  wpAny_Call_Name_kw (ld_glob I hg hm (PySem.W.callWith_K (h₀ := X.base) I.ok.mod.kin M.kp (thn (ha.run pos pins s σ H _ I h) fun us s1 ⟨vs, H1, J, r, q⟩ => ⟨J.kIn, run_mk M F hr hb hd (hx σ) J r q⟩) he hpl) hdb)⟩
theorem pe_mk0 (M : Mk X.K C f) (F : FnOk X.prog X.w X.K X.mg X.base CX k f fd ps sp) (hr : Room (k + 1) X.A) (hg : Gl X x) (hm : X.mg x = some (.ref C)) (hb : Binds X.K fd ps ds) (hd : Vals dvs ds) (hx : ∀ σ, PassesAt CX X σ (E σ))
    (hdb : (x == ("__debug__" : Str)) = false := by decide) : PE X (.Call (.Name x p) [] [] pos) (tMk C sp dvs E tNil) := ⟨fun pins s σ H Q I h =>
  wpAny_Call_Name_kw (ld_glob I hg hm (PySem.W.callWith_K0 I.kIn M.kp (run_mk (us := []) M F hr hb hd (hx σ) I .nil h)) hdb)⟩
/-- e.f, a property -/
def tPr (C : Addr) (sp : Sp) (E : EX) (ta : TE) : TE := fun σ H Q => ta σ H fun x H1 => ∃ a dx fs, x = .ref a ∧ H1 a = some (.ins C dx fs) ∧ sp [.ref a] H1 Q (E σ)
theorem pe_pr {p g : Addr} {fn : Str} (he : PE X e ta) (c : Cls X.K C) (hp : PropOf X.K C fn p g) (F : FnOk X.prog X.w X.K X.mg X.base CX k g fd ps sp) (hr : Room (k + 1) X.A) (hb : Binds X.K fd ps []) (hx : Passes CX X.nox E0)
    (hab : attributeBase e fn X.env (eval e X.env) = eval e X.env := by rfl) : PE X (.Attribute e fn pos) (tPr C sp EN ta) := by
  have z := pe_prop (pos := pos) he c hp F hr hb .nil hx hab
  exact z
end
/-- .. nothing leaves -/
theorem passN {X : Cx} : Passes (L2.CX X.prog X.w) X E0 := fun _ σ H s e s' I h => atN (X := X) σ [] H s e s' (I.pins_of (pins' := []) fun p hp => by cases hp) h
end Rz

namespace Rz
open PySem PySem.Spec PyProof.Rows L2
/-! ### short words -/
/-- all but what stands at D is as it was -/
def But (D : List Addr) (H H' : Hp) : Prop := ∀ b o, b ∉ D → H b = some o → H' b = some o
theorem But.refl (D : List Addr) (H : Hp) : But D H H := fun _ _ _ h => h
theorem But.trans {D : List Addr} {H H1 H2 : Hp} (a : But D H H1) (b : But D H1 H2) : But D H H2 := fun c o n h => b c o n (a c o n h)
theorem But.mono {D D' : List Addr} {H H' : Hp} (a : But D H H') (h : ∀ b ∈ D, b ∈ D') : But D' H H' := fun c o n e => a c o (fun z => n (h c z)) e
theorem But.of {D : List Addr} {H H' : Hp} (h : Same H H') : But D H H' := fun b o _ e => h b o e
theorem But.same {H H' : Hp} (h : But [] H H') : Same H H' := fun b o e => h b o (by simp) e
theorem But.at {D : List Addr} {H H' : Hp} {b : Addr} {o : HO} (h : But D H H') (e : H b = some o) (n : b ∉ D := by simp) : H' b = some o := h b o n e
theorem But.upd {D : List Addr} {H H' : Hp} {p : Addr} {o : HO} (h : But D H H') (hp : p ∈ D ∨ H p = none) : But D H (upd H' p o) := fun b u n e => by
  have nb : b ≠ p := fun z => by
    subst z
    rcases hp with hp | hp
    · exact n hp
    · rw [hp] at e; cases e
  rw [upd_ne nb]
  exact h b u n e
theorem Same.upd {H H' : Hp} {p : Addr} {o : HO} (h : Same H H') (hp : H p = none) : Same H (upd H' p o) := fun b u e => by
  have nb : b ≠ p := fun z => by
    subst z
    rw [hp] at e; cases e
  rw [upd_ne nb]
  exact h b u e
theorem Same.new {H H' : Hp} {p : Addr} {o : HO} (h : Same H H') (hp : H' p = none) : Same H (L2.upd H' p o) := Rz.Same.upd h (h.free hp)
theorem Same.seqT {K : PySem.W.Frag} {H H' : Hp} {a : Addr} {xs : List V} (e : Same H H') (h : SqT K H a xs) : SqT K H' a xs := by
  rcases h with (h | ⟨o, h⟩) | h
  · exact .inl (.inl (e _ _ h))
  · exact .inl (.inr ⟨o, e _ _ h⟩)
  · exact .inr h
theorem But.free {D : List Addr} {H H' : Hp} (e : But D H H') {l : Addr} (n : l ∉ D) (h : H' l = Option.none) : H l = Option.none := by
  cases q : H l with
  | none => rfl
  | some o => rw [e l o n q] at h; cases h
section
variable {P : Program} {w : World} {K : PySem.W.Frag} {mg : Str → Option Value} {base : Heap}
/-- a def that lets nothing out -/
theorem Fun.okN {x qual : Str} {st : Stmt} {f : Addr} {fd : FuncData} {N ps : List Str} {k : Nat} {sp : Sp} (F : Fun K x qual st f fd) (S : FnScope N ps (defScope st)) (len : ∀ vs H Q E, sp vs H Q E → vs.length = ps.length)
    (hb : ∀ (cdv : Value) (A : Around) (outer : List Env) (s : Shared) (H : Hp) (vs : List V) (Q : VK) (E : XK), Room k (A.deeper (envOfC qual (defScope st) s.heap.objs.size f cdv)) → sp vs H Q E →
      ∃ t, PSs (cxOf (L2.CX P w) P w K mg base N qual (defScope st) f cdv A outer s H E).nox (defBody st) t ∧ t { nx := fun _ H' => Q .non H', rt := Q } (start N vs) H) : FnOk P w K mg base (L2.CX P w) (k + 1) f fd ps sp :=
  F.okX S len fun cdv A outer s H vs Q E hr h => let ⟨t, h1, h2⟩ := hb cdv A outer s H vs Q E hr h; ⟨t, h1.nox, h2⟩
end
/-! ### the law's draws -/
def Dr (H : Hp) (d : Addr) : Prop := ∃ ns : List Int, H d = some (.lst (ns.map V.int)) ∧ ns.length ≤ 4000
theorem Dr.same {H H' : Hp} {d : Addr} (h : Dr H d) (e : Same H H') : Dr H' d := let ⟨ns, h1, h2⟩ := h; ⟨ns, e _ _ h1, h2⟩
theorem mapi_get {ns : List Int} {i : Nat} {y : V} (h : (ns.map V.int)[i]? = some y) : ∃ u, ns[i]? = some u ∧ y = .int u := by
  rw [List.getElem?_map] at h
  cases e : ns[i]? with
  | none => rw [e] at h; cases h
  | some u => rw [e] at h; exact ⟨u, rfl, (Option.some.inj h).symm⟩
theorem no_cx : ∀ {P : Program} (w : World) (H : Hp) (s : Shared) (e : Value) (s' : Shared), L2.CX P w [] H s (fun _ _ _ => False) e s' → False := fun _ _ _ _ _ h => by
  obtain ⟨_, _, _, _, _, _, _, _, _, _, _, _, z⟩ := h
  exact z
end Rz
namespace Rz
open PySem PySem.Spec PyProof.Rows L2
theorem joinL_nil : ∀ ps : List (List Nat), TL.joinL [] ps = ps.flatten
  | [] => rfl
  | [p] => by simp [TL.joinL]
  | p :: q :: r => by
    have ih := joinL_nil (q :: r)
    show p ++ ([] ++ TL.joinL [] (q :: r)) = _
    rw [ih]
    simp
theorem join0 (ys : List Str) : (Txt.join "" ys).cps.toList = (ys.map fun y => y.cps.toList).flatten := by
  rw [TL.join_eq]
  exact (TL.tl_join "" ys).trans (joinL_nil _)
theorem join0_len (ys : List Str) : (Txt.join "" ys).length = (ys.map fun y => y.length).sum := by
  have h := congrArg List.length (join0 ys)
  rw [List.length_flatten, List.map_map] at h
  exact h
/-- every sign of x is one of z -/
def Over (z x : Str) : Prop := ∀ c ∈ x.cps.toList, c ∈ z.cps.toList
theorem over_join {z : Str} {ys : List Str} (h : ∀ y ∈ ys, Over z y) : Over z (Txt.join "" ys) := fun c hc => by
  rw [join0, List.mem_flatten] at hc
  obtain ⟨l, hl, hc⟩ := hc
  obtain ⟨y, hy, rfl⟩ := List.mem_map.mp hl
  exact h y hy c hc
theorem sum_ones : ∀ {ys : List Str}, (∀ y ∈ ys, y.length = 1) → (ys.map fun y => y.length).sum = ys.length
  | [], _ => rfl
  | y :: r, h => by
    rw [List.map_cons, List.sum_cons, sum_ones (ys := r) fun z hz => h z (List.mem_cons_of_mem _ hz), h y List.mem_cons_self, List.length_cons]
    omega
theorem atI_in {α : Type} {xs : List α} {r : Int} (h0 : 0 ≤ r) (h1 : r < xs.length) : ∃ v, v ∈ xs ∧ atI xs r = some v := by
  obtain ⟨n, rfl⟩ := Int.eq_ofNat_of_zero_le h0
  have hn : n < xs.length := by omega
  exact ⟨xs[n], List.getElem_mem hn, atI_nat (List.getElem?_eq_getElem hn)⟩
theorem yesT {σ : L2.St} {H : Hp} {A B : Hp → Prop} (h : A H) : tYes σ H fun b H3 => if b = true then A H3 else B H3 := by
  show (if true = true then A H else B H)
  rw [if_pos rfl]
  exact h
theorem len_list (z : Str) : z.cps.toList.length = z.length := rfl
end Rz
namespace Rz
open PySem PySem.Spec PyProof.Rows L2
/-! ### signs -/
def abc : Str := "abcdefghijklmnopqrstuvwxyz"
def oddC (c : Nat) : Bool := !decide (c ∈ abc.cps.toList)
/-- the place of the first character that is no sign -/
def fo (z : Str) : Option Nat := z.cps.toList.findIdx? oddC
def foI (z : Str) : Int := match fo z with
  | some i => (i : Int)
  | none => -1
theorem fo_some {z : Str} {i : Nat} {c : Nat} (h : z.cps.toList[i]? = some c) (ho : oddC c = true) (hb : ∀ (j c : Nat), j < i → z.cps.toList[j]? = some c → oddC c = false) : fo z = some i := by
  obtain ⟨hi, hc⟩ := List.getElem?_eq_some_iff.mp h
  refine List.findIdx?_eq_some_iff_getElem.mpr ⟨hi, by rw [hc]; exact ho, fun j hj => ?_⟩
  have e := hb j _ hj (List.getElem?_eq_getElem (Nat.lt_trans hj hi))
  rw [e]
  exact Bool.false_ne_true
theorem fo_none {z : Str} (h : ∀ (j c : Nat), z.cps.toList[j]? = some c → oddC c = false) : fo z = none :=
  List.findIdx?_eq_none_iff.mpr fun c hc => by
    obtain ⟨j, hj, e⟩ := List.getElem_of_mem hc
    exact h j c (by rw [List.getElem?_eq_getElem hj, e])
theorem fo_lt {z : Str} {i : Nat} (h : fo z = some i) : i < z.length := by
  obtain ⟨hi, _⟩ := List.findIdx?_eq_some_iff_getElem.mp h
  exact hi
theorem log_small {n : Int} {k : Nat} (h : n.natAbs < 2 ^ k) (hk : k ≤ 1919) : n.natAbs.log2 < 1920 := by
  by_cases h0 : n.natAbs = 0
  · rw [h0]
    decide
  · exact Nat.lt_of_lt_of_le ((Nat.log2_lt h0).mpr h) (by omega)
theorem log_nat {i : Nat} (h : i < 2 ^ 64) : (i : Int).natAbs.log2 < 1920 := log_small (k := 64) (by simpa using h) (by decide)
end Rz
namespace Rz
open PySem PySem.Spec PyProof.Rows L2
/-- what is asked where such an exception is made, and what is known then -/
theorem raise_fld {C : Addr} {fld : Str} {n : Int} {H1 : Hp} {Q : XK} (hn : n.natAbs.log2 < 1920) (q : ∀ H' d, Same H1 H' → H1 d = none → H' d = some (.xd [(fld, .int n)]) → Q (.ref C) (some d) H') :
    ∀ a, H1 a = none → spExI C fld (.ref a :: ([V.int n] ++ [])) (upd H1 a (exo a C none))
      (fun v H2 => v = .non ∧ ∃ (d : Addr) (fs : List (Str × V)), H2 a = some (exo a C (some d)) ∧ H2 d = some (exd d fs) ∧ H1 d = none ∧ Q (.ref C) (some d) (upd (del H2 a) d (.xd fs))) (fun _ _ _ => False) := fun a ha => by
  refine ⟨a, n, rfl, hn, upd_same, fun dx hdx nda => ⟨rfl, dx, [(fld, .int n)], by rw [upd_same], ?_, ?_, ?_⟩⟩
  · rw [upd_ne nda, upd_same]
  · rw [upd_ne nda] at hdx
    exact hdx
  · have hd1 : H1 dx = none := by
      rw [upd_ne nda] at hdx
      exact hdx
    refine q _ dx (fun b o e => ?_) hd1 upd_same
    have nba : b ≠ a := ne_of_none e ha
    have nbd : b ≠ dx := ne_of_none e hd1
    rw [upd_ne nbd, del_ne nba, upd_ne nba, upd_ne nbd, upd_ne nba]
    exact e
end Rz

namespace Rz
open PySem PySem.Spec PyProof.Rows L2
/-! ### data: lists of ints -/
abbrev dInts (ns : List Int) : PyData := .list (ns.map PyData.int)
theorem all_ints_lay : ∀ ns : List Int, PyData.canLayAll0 (ns.map PyData.int) = true
  | [] => rfl
  | n :: ns => by simp only [List.map_cons, PyData.canLayAll0, PyData.canLay0, all_ints_lay ns, Bool.and_self]
theorem all_ints_depth : ∀ ns : List Int, PyData.depthAll (ns.map PyData.int) = 0
  | [] => rfl
  | n :: ns => by simp only [List.map_cons, PyData.depthAll, PyData.depth, all_ints_depth ns, Nat.max_self]
theorem ints_shaped (ns : List Int) : SeqAt.shaped (dInts ns) = true := by
  have h : PyData.depth (dInts ns) ≤ 64 := by
    show PyData.depthAll (ns.map PyData.int) + 1 ≤ 64
    rw [all_ints_depth]
    decide
  show (PyData.canLayAll0 (ns.map PyData.int) && decide (PyData.depth (dInts ns) ≤ 64)) = true
  rw [all_ints_lay, decide_eq_true h]
  rfl
theorem ints_eqvA : ∀ a b : List Int, PyData.eqvAll (a.map PyData.int) (b.map PyData.int) = decide (a = b)
  | [], [] => rfl
  | [], _ :: _ => by simp [PyData.eqvAll]
  | _ :: _, [] => by simp [PyData.eqvAll]
  | x :: xs, y :: ys => by
    rw [List.map_cons, List.map_cons, PyData.eqvAll, ints_eqvA xs ys]
    show ((x == y) && decide (xs = ys)) = _
    by_cases h : x = y
    · subst h; simp
    · simp [h]
theorem ints_eqv (a b : List Int) : PyData.eqv (dInts a) (dInts b) = decide (a = b) := by
  show PyData.eqvAll _ _ = _
  exact ints_eqvA a b
theorem dp_intsA {K : PySem.W.Frag} {H : Hp} : ∀ ns : List Int, DpAll K H (ns.map V.int) (ns.map PyData.int)
  | [] => .nil
  | n :: ns => .cons (.int n) (dp_intsA ns)
theorem dp_ints {K : PySem.W.Frag} {H : Hp} {a : Addr} {ns : List Int} (h : SqL K H a (ns.map V.int)) : Dp K H (.ref a) (dInts ns) := .lst h (dp_intsA ns)
end Rz

namespace Rz
open PySem PySem.Spec PyProof.Rows L2
/-! ### the class's own special methods -/
section
variable {X : Cx} {k : Nat} {f C a dx : Addr} {fs : List (Str × V)} {fd : FuncData} {ps : List Str} {sp : Sp} {pins : List (Addr × Obj)} {σ : L2.St} {H : Hp} {s : Shared}
/-- the instance as the library's rules want it -/
theorem inst_at (I : Inv X pins σ H s) (e : H a = some (.ins C dx fs)) : ∃ od, PySem.W.InstAt s.heap a (PySem.W.instObj C dx) C (some od) := by
  obtain ⟨mA, O, _⟩ := ins_get I.hok e
  obtain ⟨od, J, _⟩ := O.look
  exact ⟨od, J⟩
/-- the def called somewhere below the running body, nothing leaves it -/
theorem run_below {Q : VK} {us : List Value} {vs : List V} {A : Around} {E' : Value → Shared → Prop} (F : FnOk X.prog X.w X.K X.mg X.base (L2.CX X.prog X.w) k f fd ps sp) (hr : Room k A) (hfr : A.frames = X.A.frames) (hb : Binds X.K fd ps [])
    (I : Inv X pins σ H s) (r : Vals vs us) (h : sp vs H Q E0) : wpAny (model X.prog X.w) A (call (.ref f) us) (EP X pins σ Q) E' s := by
  have z := run_X (E := EN) (X := X.nox) (A := A) (pins := pins) (σ := σ) (Q := Q) F hr hfr hb .nil (atN (X := X.nox) σ) (I.wish _) r (by rw [List.append_nil]; exact h)
  refine wpAny_call (codeAny_mono z fun q s' hq => ?_)
  match q, hq with
  | .error er, hq => exact hq.elim
  | .ok (.ret u), hq =>
    obtain ⟨v, H', J, rv, q⟩ := hq
    exact ⟨v, H', J.unwish, rv, q⟩
  | .ok .next, hq => exact hq.elim
  | .ok .brk, hq => exact hq.elim
  | .ok .cont, hq => exact hq.elim
/-- str(x) by the own __str__ -/
theorem call_strO (M : Meth X.K C "__str__" f) (F : FnOk X.prog X.w X.K X.mg X.base (L2.CX X.prog X.w) k f fd ps sp) (hr : Room (k + 2) X.A) (hb : Binds X.K fd ps []) :
    CallR X (.type "str") (fun xs H Q => ∃ a dx fs, xs = [.ref a] ∧ H a = some (.ins C dx fs) ∧ sp [.ref a] H (fun v H' => (∃ z, v = .str z) ∧ Q v H') E0) := by
  intro pins s σ H xs us Q I r h
  obtain ⟨a, dx, fs, rfl, ea, hq⟩ := h
  obtain ⟨u, rfl, ru⟩ := vals1 r
  obtain rfl : u = Value.ref a := ru
  obtain ⟨od, J⟩ := inst_at I ea
  refine PySem.W.kso_call hr.in1.in1.units0 I.kIn J M.at_ M.fn (wpAny_mono (run_below (vs := [.ref a]) F hr.in1.in1 rfl hb I (.cons rfl .nil) hq) (fun v s' hv => ?_) fun _ _ z => z)
  obtain ⟨x, H', J', rx, ⟨z, rfl⟩, q⟩ := hv
  obtain ⟨t, rfl⟩ := rx
  show EP X pins σ Q _ _
  exact ⟨.str z, H', J', ⟨t, rfl⟩, q⟩
end
end Rz

namespace Rz
open PySem PySem.Spec PyProof.Rows L2
open Sem (wp)
/-! ### list(zip(text, list)) -/
theorem zip_nolen : typeLookup (.type "zip") "__len__" = pure Option.none := am_miss_of_fast (by decide +kernel)
theorem zip_nohint : typeLookup (.type "zip") "__length_hint__" = pure Option.none := am_miss_of_fast (by decide +kernel)
section
variable {prog : Program} {w : World} {A : Around} {E : Value → Shared → Prop} {s : Shared} {zz TI TO T i1 i2 L : Addr} {f1 f2 : List Addr} {n1 n2 i n : Nat} {P1 P2 : Nat → Value → Prop} {S1 S2 : Nat → Heap → Prop} {fl : Bool} {oT : Obj}

/-- next of a zip whose tuple is still out -/
theorem zh_item {Q : Value → Shared → Prop} (Z : ZipSep2 zz TI TO i1 i2 f1 f2) (D1 : Draws prog w A i1 f1 n1 P1 S1) (D2 : Draws prog w A i2 f2 n2 P2 S2)
    (gz : IsZipHeld s.heap zz TI TO T fl) (gT : s.heap.get? T = some oT) (gI : IsTupOf2 s.heap TI (.ref i1) (.ref i2)) (t1 : S1 i s.heap) (t2 : S2 i s.heap) (l1 : i < n1) (l2 : i < n2)
    (hQ : ∀ x y h' tk, P1 i x → P2 i y → IsZipHeld h' zz TI TO T true → S1 (i + 1) h' → S2 (i + 1) h' → IsTupOf2 h' s.heap.objs.size x y → h'.objs.size = s.heap.objs.size + 1 →
      (∀ c o, c ≠ zz → c ≠ i1 → c ≠ i2 → s.heap.get? c = some o → h'.get? c = some o) → Q (.ref s.heap.objs.size) { s with heap := h', toks := tk }) :
    wpAny (model prog w) A (Builtin.«zip.__next__» ⟨[.ref zz], []⟩) (fun fin s' => ∃ v, fin = .done (.ret v) ∧ Q v s') E s := by
  obtain ⟨hp, g, d, tk0, os⟩ := s
  show wpAny _ _ (field (.ref zz) 2 >>= _) _ _ _
  refine wpAny_bind (wpAny_field gz rfl (x := .bool false) rfl ?_)
  show wpAny _ _ (field (.ref zz) 3 >>= _) _ _ _
  refine wpAny_bind (wpAny_field gz rfl (x := .ref TI) rfl ?_)
  refine wpAny_bind (wpAny_seqItems gI rfl ?_)
  show wpAny _ _ (Builtin.SmallTypes.ownedTupleIsFree (.ref zz) >>= _) _ _ _
  refine wpAny_bind (wpAny_tupleHeld_zip gz gT fun h1 gz1 s1 => ?_)
  simp only [Bool.false_eq_true, if_false]
  refine wpAny_bind ?_
  rw [← Array.forIn_toList]
  simp only [List.forIn_cons, List.forIn_nil]
  refine wpAny_bind (wpAny_bind (wpAny_holding ?_))
  show wpAny _ _ (Builtin.SmallTypes.nextOf (.ref i1) >>= _) _ _ ⟨h1, g, d, tk0, os⟩
  refine wpAny_bind (D1.item i _ _ _ l1 (D1.over t1 s1 Z.zf1) fun x h2 tk1 px u1 s2 => wpAny_pure (wpAny_pure ?_))
  replace s2 : Heap.SameBut i1 h1 h2 := s2
  refine wpAny_bind (wpAny_bind (wpAny_holding ?_))
  show wpAny _ _ (Builtin.SmallTypes.nextOf (.ref i2) >>= _) _ _ ⟨h2, g, d, tk1, os⟩
  refine wpAny_bind (D2.item i _ _ _ l2 (D2.over (D2.over t2 s1 Z.zf2) s2 Z.sep1_2) fun y h3 tk2 py u2 s3 => wpAny_pure (wpAny_pure (wpAny_pure ?_)))
  replace s3 : Heap.SameBut i2 h2 h3 := s3
  show wpAny _ _ (newTuple [x, y] >>= _) _ _ ⟨h3, g, d, tk2, os⟩
  refine wpAny_bind (wpAny_newTuple ?_)
  have size3 : h3.objs.size = hp.objs.size := by rw [s3.1, s2.1, s1.1]
  have gz3 : IsZipHeld h3 zz TI TO T true := s3.extBut _ _ Z.zi2 (s2.extBut _ _ Z.zi1 gz1)
  have kk : ∀ c o, c ≠ zz → c ≠ i1 → c ≠ i2 → hp.get? c = some o → h3.get? c = some o := fun c o c1 c2 c3 e => s3.extBut _ _ c3 (s2.extBut _ _ c2 (s1.extBut _ _ c1 e))
  refine wpAny_pure ⟨_, rfl, ?_⟩
  show Q (.ref h3.objs.size) ⟨h3.push { cls := .type "tuple", data := .seq #[x, y] }, g, d, tk2, os⟩
  have new : IsTupOf2 (h3.push { cls := .type "tuple", data := .seq #[x, y] }) h3.objs.size x y := Heap.get?_push_size _ rfl
  have size4 : (h3.push { cls := .type "tuple", data := .seq #[x, y] }).objs.size = h3.objs.size + 1 := Heap.size_push ..
  rw [size3] at new size4 ⊢
  exact hQ x y _ tk2 px py (Heap.get?_push_of_some _ gz3) (D1.frame _ _ _ (D1.over u1 s3 Z.sep2_1) fun b _ o e => Heap.get?_push_of_some _ e) (D2.frame _ _ _ u2 fun b _ o e => Heap.get?_push_of_some _ e) new size4 fun c o c1 c2 c3 e => Heap.get?_push_of_some _ (kk c o c1 c2 c3 e)

theorem zh_end {Q : Fin → Shared → Prop} (Z : ZipSep2 zz TI TO i1 i2 f1 f2) (D1 : Draws prog w A i1 f1 n1 P1 S1) (D2 : Draws prog w A i2 f2 n2 P2 S2)
    (gz : IsZipHeld s.heap zz TI TO T fl) (gT : s.heap.get? T = some oT) (gI : IsTupOf2 s.heap TI (.ref i1) (.ref i2)) (t1 : S1 i s.heap) (t2 : S2 i s.heap) (hn1 : i = n1) 
    (hE : ∀ h' tk e, (∀ c o, c ≠ zz → c ≠ i1 → c ≠ i2 → s.heap.get? c = some o → h'.get? c = some o) → (∃ o, h'.get? e = some o ∧ o.cls = .type "StopIteration") → E (.ref e) { s with heap := h', toks := tk }) :
    wpAny (model prog w) A (Builtin.«zip.__next__» ⟨[.ref zz], []⟩) Q E s := by
  obtain ⟨hp, g, d, tk0, os⟩ := s
  show wpAny _ _ (field (.ref zz) 2 >>= _) _ _ _
  refine wpAny_bind (wpAny_field gz rfl (x := .bool false) rfl ?_)
  show wpAny _ _ (field (.ref zz) 3 >>= _) _ _ _
  refine wpAny_bind (wpAny_field gz rfl (x := .ref TI) rfl ?_)
  refine wpAny_bind (wpAny_seqItems gI rfl ?_)
  show wpAny _ _ (Builtin.SmallTypes.ownedTupleIsFree (.ref zz) >>= _) _ _ _
  refine wpAny_bind (wpAny_tupleHeld_zip gz gT fun h1 gz1 s1 => ?_)
  simp only [Bool.false_eq_true, if_false]
  refine wpAny_bind ?_
  rw [← Array.forIn_toList]
  simp only [List.forIn_cons, List.forIn_nil]
  refine wpAny_bind (wpAny_bind (wpAny_holding ?_))
  show wpAny _ _ (Builtin.SmallTypes.nextOf (.ref i1) >>= _) _ _ ⟨h1, g, d, tk0, os⟩
  subst hn1
  refine wpAny_bind (D1.done ⟨h1, g, d, tk0, os⟩ _ _ (D1.over t1 s1 Z.zf1) fun q e hq he => ?_)
  exact hE q tk0 e (fun c o c1 c2 _ x => hq _ _ c2 (s1.extBut _ _ c1 x)) he

/-- such a zip while a list at L is filled from it -/
def ZS (zz TI TO i1 i2 L : Addr) (S1 S2 : Nat → Heap → Prop) (i : Nat) (h : Heap) : Prop := IsTupOf2 h TI (.ref i1) (.ref i2) ∧ S1 i h ∧ S2 i h ∧
  ((IsZip h zz TI TO .none ∧ ∃ a b, IsTupOf2 h TO a b) ∨ ∃ T f o, IsZipHeld h zz TI TO T f ∧ h.get? T = some o ∧ T ≠ zz ∧ T ≠ i1 ∧ T ≠ i2 ∧ T ≠ L)
theorem zs_item {Q : Option Value → Shared → Prop} (Z : ZipSep2 zz TI TO i1 i2 f1 f2) (D1 : Draws prog w A.in1 i1 f1 n1 P1 S1) (D2 : Draws prog w A.in1 i2 f2 n2 P2 S2)
    (st : ZS zz TI TO i1 i2 L S1 S2 i s.heap) (hL : L < s.heap.objs.size) (l1 : i < n1) (l2 : i < n2)
    (hQ : ∀ x y h' tk, P1 i x → P2 i y → ZS zz TI TO i1 i2 L S1 S2 (i + 1) h' → IsTupOf2 h' s.heap.objs.size x y → h'.objs.size = s.heap.objs.size + 1 →
      (∀ c o, c ≠ zz → c ≠ TO → c ≠ i1 → c ≠ i2 → s.heap.get? c = some o → h'.get? c = some o) → Q (some (.ref s.heap.objs.size)) { s with heap := h', toks := tk }) :
    wpAny (model prog w) A (pyNext (.ref zz)) Q E s := by
  obtain ⟨gI, t1, t2, st⟩ := st
  have o1 : s.heap.objs.size ≠ i1 := let ⟨_, e⟩ := D1.live _ _ t1; Nat.ne_of_gt (Heap.lt_size e)
  have o2 : s.heap.objs.size ≠ i2 := let ⟨_, e⟩ := D2.live _ _ t2; Nat.ne_of_gt (Heap.lt_size e)
  rcases st with ⟨gz, a, b, gO⟩ | ⟨T, f, o, gz, gT, r1, r2, r3, r4⟩
  · refine wpAny_pyNext_zipD2_item Z D1 D2 gz gI gO t1 t2 l1 l2 fun x y h' tk px py b1 b2 u1 u2 new sz kk => ?_
    exact hQ x y h' tk px py ⟨kk _ _ Z.TIz Z.TITO Z.TIi1 Z.TIi2 gI, u1, u2, .inr ⟨_, false, _, b1, new, Nat.ne_of_gt (Heap.lt_size gz), o1, o2, Nat.ne_of_gt hL⟩⟩ new sz kk
  · have ty : s.TypeIs (.ref zz) "zip" := ⟨_, gz, rfl⟩
    unfold pyNext
    exact wpAny_bind (wpAny_attempt (wpAny_callSpecial?_slot (name := Str.ofString "__next__") ty F.slot_zip_next (wpAny_call_entry F.slot_zip_next ty F.entry_zip_next
      (zh_item Z D1 D2 gz gT gI t1 t2 l1 l2 fun x y h' tk px py b1 u1 u2 new sz kk => wpAny_pure
        (hQ x y h' tk px py ⟨kk _ _ Z.TIz Z.TIi1 Z.TIi2 gI, u1, u2, .inr ⟨T, true, o, b1, kk _ _ r1 r2 r3 gT, r1, r2, r3, r4⟩⟩ new sz fun c o c1 _ c3 c4 e => kk c o c1 c3 c4 e)) (F.args_zip_next_1 _))))
theorem zs_end {Q : Option Value → Shared → Prop} (Z : ZipSep2 zz TI TO i1 i2 f1 f2) (D1 : Draws prog w A.in1 i1 f1 n1 P1 S1) (D2 : Draws prog w A.in1 i2 f2 n2 P2 S2)
    (st : ZS zz TI TO i1 i2 L S1 S2 i s.heap) (hn : i = n1) (h12 : n1 ≤ n2)
    (hQ : ∀ h' tk, (∀ c o, c ≠ zz → c ≠ TO → c ≠ i1 → c ≠ i2 → s.heap.get? c = some o → h'.get? c = some o) → Q Option.none { s with heap := h', toks := tk }) : wpAny (model prog w) A (pyNext (.ref zz)) Q E s := by
  obtain ⟨gI, t1, t2, st⟩ := st
  rcases st with ⟨gz, a, b, gO⟩ | ⟨T, f, o, gz, gT, r1, r2, r3, r4⟩
  · exact wpAny_pyNext_zipD2_end Z D1 D2 gz gI gO t1 t2 (by omega) (by omega) (.inl hn) fun h' tk kk => hQ h' tk kk
  · have ty : s.TypeIs (.ref zz) "zip" := ⟨_, gz, rfl⟩
    unfold pyNext
    refine wpAny_bind (wpAny_attempt (wpAny_callSpecial?_slot (name := Str.ofString "__next__") ty F.slot_zip_next (wpAny_call_entry F.slot_zip_next ty F.entry_zip_next
      (zh_end Z D1 D2 gz gT gI t1 t2 hn fun h' tk e kk he => ?_) (F.args_zip_next_1 _))))
    obtain ⟨oe, h1, h2⟩ := he
    refine wpAny_bind (wpAny_isInstance (T := "StopIteration") (b := true) ⟨oe, h1, h2⟩ isSubtype_stop ?_)
    exact wpAny_pure (hQ _ _ fun c o c1 _ c3 c4 e => kk c o c1 c3 c4 e)
theorem ZS.keep {h h' : Heap} (st : ZS zz TI TO i1 i2 L S1 S2 i h) (D1 : Draws prog w A i1 f1 n1 P1 S1) (D2 : Draws prog w A i2 f2 n2 P2 S2) (kk : ∀ b o, b ≠ L → h.get? b = some o → h'.get? b = some o) (n0 : zz ≠ L) (nI : TI ≠ L) (nO : TO ≠ L) (nf1 : L ∉ f1) (nf2 : L ∉ f2) :
    ZS zz TI TO i1 i2 L S1 S2 i h' := by
  obtain ⟨gI, t1, t2, st⟩ := st
  refine ⟨kk _ _ nI gI, D1.frame _ _ _ t1 fun b hb o e => kk b o (fun z => nf1 (z ▸ hb)) e, D2.frame _ _ _ t2 fun b hb o e => kk b o (fun z => nf2 (z ▸ hb)) e, ?_⟩
  rcases st with ⟨gz, a, b, gO⟩ | ⟨T, f, o, gz, gT, r1, r2, r3, r4⟩
  · exact .inl ⟨kk _ _ n0 gz, a, b, kk _ _ nO gO⟩
  · exact .inr ⟨T, f, o, kk _ _ n0 gz, kk _ _ r4 gT, r1, r2, r3, r4⟩

/-- the tuples that came -/
structure ZG (P1 P2 : Nat → Value → Prop) (lo : Addr) (h : Heap) (as : List Addr) : Prop where
  rise : as.Pairwise (· < ·)
  over : ∀ a ∈ as, lo < a
  pairs : ∀ (j : Nat) (a : Addr), as[j]? = some a → ∃ x y, P1 j x ∧ P2 j y ∧ IsTupOf2 h a x y
theorem zg_loop {R : Result → Shared → Prop} {base : Heap} (Z : ZipSep2 zz TI TO i1 i2 f1 f2) (D1 : Draws prog w A.in1.in1 i1 f1 n1 P1 S1) (D2 : Draws prog w A.in1.in1 i2 f2 n2 P2 S2) (h12 : n1 ≤ n2)
    (n0 : zz < L) (nI : TI < L) (nO : TO < L) (m1 : i1 < L) (m2 : i2 < L) (nf1 : L ∉ f1) (nf2 : L ∉ f2) (hn : n1 ≤ sizeLine) (res : Value)
    (hR : ∀ h' tk acc c as, (∀ b o, b ≠ L → b ≠ zz → b ≠ TO → b ≠ i1 → b ≠ i2 → base.get? b = some o → h'.get? b = some o) → h'.get? L = some { cls := .type "list", dict := Option.none, data := .seq acc c, slots := #[] } → as.length = n1 → ZG P1 P2 L h' as →
      acc.toList = as.map Value.ref → R (.ok (.ret res)) { s with heap := h', toks := tk }) :
    ∀ (k i : Nat) (h : Heap) (tk c : Nat) (acc : Array Value) (as : List Addr), n1 - i = k → i ≤ n1 → ZS zz TI TO i1 i2 L S1 S2 i h → (∀ b o, b ≠ L → b ≠ zz → b ≠ TO → b ≠ i1 → b ≠ i2 → base.get? b = some o → h.get? b = some o) →
      h.get? L = some { cls := .type "list", dict := Option.none, data := .seq acc c, slots := #[] } → acc.toList = as.map Value.ref → as.length = i → ZG P1 P2 L h as →
      codeAny (model prog w) A (.builtin "list.extend.loop" ⟨[.ref L, .ref zz, res], []⟩) R { s with heap := h, toks := tk } := by
  intro k
  induction k with
  | zero =>
    intro i h tk c acc as hk hi st keep hL hacc hal hG
    refine codeAny_builtin F.entry_extend_loop ?_
    rw [Around.under_plainId F.plain_extend_loop _]
    show wpAny _ A.in1 (pyNext (.ref zz) >>= _) _ _ _
    refine wpAny_bind (zs_end (s := { s with heap := h, toks := tk }) Z D1 D2 st (by omega) h12 fun h' tk' kk => ?_)
    refine wpAny_pure (hR h' tk' acc c as (fun b o h1 h2 h3 h4 h5 e => kk b o h2 h3 h4 h5 (keep b o h1 h2 h3 h4 h5 e)) (kk L _ (Nat.ne_of_gt n0) (Nat.ne_of_gt nO) (Nat.ne_of_gt m1) (Nat.ne_of_gt m2) hL) (by omega) ⟨hG.rise, hG.over, fun j a hj => ?_⟩ hacc)
    obtain ⟨x, y, px, py, e⟩ := hG.pairs j a hj
    have hb := hG.over a (List.mem_of_getElem? hj)
    exact ⟨x, y, px, py, kk a _ (Nat.ne_of_gt (Nat.lt_trans n0 hb)) (Nat.ne_of_gt (Nat.lt_trans nO hb)) (Nat.ne_of_gt (Nat.lt_trans m1 hb)) (Nat.ne_of_gt (Nat.lt_trans m2 hb)) e⟩
  | succ k ih =>
    intro i h tk c acc as hk hi st keep hL hacc hal hG
    have hlt : i < n1 := by omega
    have size : acc.size = i := by rw [← Array.length_toList, hacc, List.length_map, hal]
    have lL : L < h.objs.size := Heap.lt_size hL
    refine codeAny_builtin F.entry_extend_loop ?_
    rw [Around.under_plainId F.plain_extend_loop _]
    show wpAny _ A.in1 (pyNext (.ref zz) >>= _) _ _ _
    refine wpAny_bind (zs_item (s := { s with heap := h, toks := tk }) Z D1 D2 st lL hlt (by omega) fun x y h' tk' px py st' new sz kk => ?_)
    dsimp only at new sz kk ⊢
    have hL' := kk L _ (Nat.ne_of_gt n0) (Nat.ne_of_gt nO) (Nat.ne_of_gt m1) (Nat.ne_of_gt m2) hL
    have up : ∀ b o, b ≠ L → h'.get? b = some o → (h'.update L (Obj.mapSeq (·.push (Value.ref h.objs.size)))).get? b = some o := fun b o hb e => (Heap.get?_update_other _ _ (Ne.symm hb)).trans e
    show wpAny _ A.in1 (updateSeq L (·.push (Value.ref h.objs.size)) >>= _) _ _ _
    refine wpAny_bind ?_
    refine wpAny_updateSeq hL' rfl (wpAny_pure ⟨plainId_quiet F.plain_extend_loop _, ih (i + 1) _ tk' _ (acc.push (Value.ref h.objs.size)) (as ++ [h.objs.size]) (by omega) hlt (st'.keep D1 D2 up (Nat.ne_of_lt n0) (Nat.ne_of_lt nI) (Nat.ne_of_lt nO) nf1 nf2)
      (fun b o h1 h2 h3 h4 h5 e => up b o h1 (kk b o h2 h3 h4 h5 (keep b o h1 h2 h3 h4 h5 e))) (Heap.get?_update_self _ hL' rfl) (by rw [Array.toList_push, hacc, List.map_append]; rfl) (by rw [List.length_append, hal]; rfl) ⟨?_, ?_, ?_⟩⟩) (by rw [size]; omega) (by show (acc.push (Value.ref h.objs.size)).size ≤ sizeLine + 1; rw [Array.size_push, size]; omega)
    · refine List.pairwise_append.mpr ⟨hG.rise, List.pairwise_singleton _ _, fun a ha b hb => ?_⟩
      obtain ⟨j, hj⟩ := List.mem_iff_getElem?.mp ha
      obtain ⟨_, _, _, _, e⟩ := hG.pairs j a hj
      rw [List.mem_singleton.mp hb]
      exact Heap.lt_size e
    · intro a ha
      rcases List.mem_append.mp ha with ha | ha
      · exact hG.over a ha
      · rw [List.mem_singleton.mp ha]; exact lL
    · intro j b hj
      rcases Nat.lt_trichotomy j as.length with h1 | h1 | h1
      · rw [List.getElem?_append_left h1] at hj
        obtain ⟨x', y', q1, q2, q3⟩ := hG.pairs j b hj
        have hb := hG.over b (List.mem_of_getElem? hj)
        exact ⟨x', y', q1, q2, up b _ (Nat.ne_of_gt hb) (kk b _ (Nat.ne_of_gt (Nat.lt_trans n0 hb)) (Nat.ne_of_gt (Nat.lt_trans nO hb)) (Nat.ne_of_gt (Nat.lt_trans m1 hb)) (Nat.ne_of_gt (Nat.lt_trans m2 hb)) q3)⟩
      · subst h1
        have hb : h.objs.size = b := by simpa using hj
        subst hb
        exact ⟨x, y, by rw [hal]; exact px, by rw [hal]; exact py, up _ _ (Nat.ne_of_gt lL) new⟩
      · rw [List.getElem?_eq_none (by rw [List.length_append, List.length_singleton]; omega)] at hj
        cases hj
theorem zg_call {Q : Value → Shared → Prop} (Z : ZipSep2 zz TI TO i1 i2 f1 f2) (D1 : Draws prog w A.in1.in1.in1 i1 f1 n1 P1 S1) (D2 : Draws prog w A.in1.in1.in1 i2 f2 n2 P2 S2) (h12 : n1 ≤ n2) (hn : n1 ≤ sizeLine)
    (gz : IsZip s.heap zz TI TO .none) (gI : IsTupOf2 s.heap TI (.ref i1) (.ref i2)) {a b : Value} (gO : IsTupOf2 s.heap TO a b) (t1 : S1 0 s.heap) (t2 : S2 0 s.heap) (nf1 : ∀ c ∈ f1, c < s.heap.objs.size) (nf2 : ∀ c ∈ f2, c < s.heap.objs.size)
    (hQ : ∀ h' tk acc c as, (∀ b o, b ≠ zz → b ≠ TO → b ≠ i1 → b ≠ i2 → s.heap.get? b = some o → h'.get? b = some o) → h'.get? s.heap.objs.size = some { cls := .type "list", dict := Option.none, data := .seq acc c, slots := #[] } → as.length = n1 → ZG P1 P2 s.heap.objs.size h' as →
      acc.toList = as.map Value.ref → Q (.ref s.heap.objs.size) { s with heap := h', toks := tk }) :
    wpAny (model prog w) A (call (.type "list") [.ref zz]) Q E s := by
  have q1 : s.heap.objs.size ∉ f1 := fun z => Nat.lt_irrefl _ (nf1 _ z)
  have q2 : s.heap.objs.size ∉ f2 := fun z => Nat.lt_irrefl _ (nf2 _ z)
  have lz := Heap.lt_size gz
  have lI := Heap.lt_size gI
  have lO := Heap.lt_size gO
  have m1 := nf1 _ Z.mem1
  have m2 := nf2 _ Z.mem2
  refine callType_codes (Q₁ := fun obj s₁ => obj = .ref s.heap.objs.size ∧ s₁ = { s with heap := s.heap.push { cls := .type "list", data := .seq #[] } }) F.called_list (F.typeCall_list_1 (.ref zz)) F.entry_list_init
    (code_list_new _ ⟨rfl, rfl⟩) fun obj s₁ h₁ => ?_
  obtain ⟨rfl, rfl⟩ := h₁
  have hS : (s.heap.push { cls := .type "list", data := .seq #[] }).get? s.heap.objs.size = some { cls := .type "list", data := .seq #[] } := Heap.get?_push_size _ rfl
  refine ⟨⟨_, hS, rfl⟩, F.args_list_init_2 _ (.ref zz), ?_⟩
  generalize hL : s.heap.objs.size = L at *
  have st0 : ZS zz TI TO i1 i2 L S1 S2 0 (s.heap.push { cls := .type "list", data := .seq #[] }) := ⟨Heap.get?_push_of_some _ gI, D1.frame _ _ _ t1 fun b _ o e => Heap.get?_push_of_some _ e, D2.frame _ _ _ t2 fun b _ o e => Heap.get?_push_of_some _ e, .inl ⟨Heap.get?_push_of_some _ gz, a, b, Heap.get?_push_of_some _ gO⟩⟩
  have k0 : ∀ b o, s.heap.get? b = some o → (s.heap.push { cls := .type "list", data := .seq #[] }).get? b = some o := fun b o e => Heap.get?_push_of_some _ e
  generalize (s.heap.push { cls := .type "list", data := .seq #[] }) = h0 at hS st0 k0
  show wpAny _ A.in1.in1 (do let old ← Builtin.List.listItems (.ref L); Builtin.List.listUpdate (.ref L) (fun _ => #[]); letGo old.toList.reverse; Builtin.List.listExtendWith (.ref L) (.ref zz) .none) _ _ _
  refine wpAny_bind ?_
  unfold Builtin.List.listItems
  refine wpAny_bind (wpAny_seqItems hS rfl (wpAny_pure ?_))
  show wpAny _ A.in1.in1 (updateSeq L (fun _ => #[]) >>= fun _ => letGo (#[] : Array Value).toList.reverse >>= fun _ => Builtin.List.listExtendWith (.ref L) (.ref zz) .none) _ _ _
  refine wpAny_bind (wpAny_updateSeq hS rfl ?_)
  have g2 := Heap.get?_update_self (Obj.mapSeq (fun _ => (#[] : Array Value))) hS rfl
  have kk2 : ∀ b o, b ≠ L → h0.get? b = some o → (h0.update L (Obj.mapSeq (fun _ => (#[] : Array Value)))).get? b = some o := fun b o hb e => (Heap.get?_update_other _ _ (Ne.symm hb)).trans e
  have st2 := st0.keep D1 D2 kk2 (Nat.ne_of_lt lz) (Nat.ne_of_lt lI) (Nat.ne_of_lt lO) q1 q2
  refine wpAny_bind (wpAny_letGo ?_)
  dsimp only at g2 kk2 st2 ⊢
  generalize (h0.update L (Obj.mapSeq (fun _ => (#[] : Array Value)))) = hh2 at g2 kk2 st2 ⊢
  have gz2 : IsZip hh2 zz TI TO .none := kk2 _ _ (Nat.ne_of_lt lz) (k0 _ _ gz)
  have ty2 : Shared.TypeIs { s with heap := hh2 } (.ref zz) "zip" := ⟨_, gz2, rfl⟩
  unfold Builtin.List.listExtendWith
  refine wpAny_bind (wpAny_typeOf ty2 ?_)
  have c1 : Builtin.List.listSameRef (.ref L) (.ref zz) = false := by simp [Builtin.List.listSameRef, Nat.ne_of_gt lz]
  have c2 : (Value.type "zip" == Value.type "list") = false := by decide
  have c3 : (Value.type "zip" == Value.type "tuple") = false := by decide
  simp only [c1, c2, c3, Bool.or_false, Bool.false_eq_true, if_false]
  refine wpAny_bind (wpAny_pyIter_zip gz2 ?_)
  refine wpAny_bind (wpAny_holding ?_)
  unfold Builtin.List.listLengthHint
  refine wpAny_bind (wpAny_specialOf ty2 zip_nolen ?_)
  show wpAny _ A.in1.in1 (specialOf (Value.ref zz) (Str.ofString "__length_hint__") >>= _) _ _ _
  refine wpAny_bind (wpAny_specialOf ty2 zip_nohint ?_)
  refine wpAny_pure ?_
  show wpAny _ A.in1.in1 (rule "list.extend.makes-room" >>= fun _ => Builtin.List.listTouch (.ref L) >>= fun _ =>
    again (.builtin "list.extend.loop" ⟨[.ref L, .ref zz, .none], []⟩)) _ _ _
  refine wpAny_bind (wpAny_rule ?_)
  refine wpAny_bind ?_
  show wpAny _ A.in1.in1 (updateSeq L (·.push .none) >>= fun _ => updateSeq L (·.pop)) _ _ _
  refine wpAny_bind (wpAny_updateSeq g2 rfl ?_)
  have g3 := Heap.get?_update_self (Obj.mapSeq (·.push Value.none)) g2 rfl
  refine wpAny_updateSeq (hz := by seq_fits) g3 rfl ?_
  have g4 := Heap.get?_update_self (Obj.mapSeq (·.pop)) g3 rfl
  have kk4 : ∀ b o, b ≠ L → hh2.get? b = some o → ((hh2.update L (Obj.mapSeq (·.push Value.none))).update L (Obj.mapSeq (·.pop))).get? b = some o :=
    fun b o hb e => (Heap.get?_update_other _ _ (Ne.symm hb)).trans ((Heap.get?_update_other _ _ (Ne.symm hb)).trans e)
  have lb : ∀ b o, s.heap.get? b = some o → b ≠ L := fun b o e => by rw [← hL]; exact Nat.ne_of_lt (Heap.lt_size e)
  refine wpAny_pure ⟨plainId_quiet F.plain_extend_loop _, ?_⟩
  refine zg_loop (s := { s with heap := _ }) (base := s.heap) Z D1 D2 h12 lz lI lO m1 m2 q1 q2 hn .none (fun h' tk acc c as kk hl hal hG hacc => ⟨rfl, hQ h' tk acc c as (fun b o h2 h3 h4 h5 e => kk b o (lb b o e) h2 h3 h4 h5 e) hl hal hG hacc⟩)
    n1 0 _ _ _ #[] [] (by omega) (Nat.zero_le _) (st2.keep D1 D2 kk4 (Nat.ne_of_lt lz) (Nat.ne_of_lt lI) (Nat.ne_of_lt lO) q1 q2) (fun b o h1 _ _ _ _ e => kk4 b o h1 (kk2 b o h1 (k0 b o e))) g4 rfl rfl ⟨List.Pairwise.nil, (fun _ ha => nomatch ha), (fun j a hj => by simp at hj)⟩
end
section
variable {X : Cx} {e e2 : Expr} {ta : TA} {p p2 cpos pos : Pos}
theorem vals_back : ∀ {xs : List V} {us : List Value} {i : Nat} {u : Value}, Paired RelV xs us → us[i]? = some u → ∃ x, xs[i]? = some x ∧ RelV x u
  | _, _, i, u, .nil, h => by cases h
  | _, _, 0, u, .cons r t, h => by
    have e := Option.some.inj h
    subst e
    exact ⟨_, rfl, r⟩
  | _, _, i + 1, u, .cons r t, h => vals_back (i := i) t (by simpa using h)
theorem sep5 (n l : Nat) (h : l < n) : ZipSep2 (n + 4) (n + 2) (n + 3) n (n + 1) [n] [n + 1, l] := by
  have ne : ∀ a b : Nat, a < b → ¬ (a : Addr) = b := fun a b h z => Nat.ne_of_lt h z
  have en : ∀ a b : Nat, b < a → ¬ (a : Addr) = b := fun a b h z => Nat.ne_of_gt h z
  have no1 : ∀ a b : Nat, (a < b ∨ b < a) → (a : Addr) ∉ [(b : Addr)] := fun a b h z => by
    have e : a = b := List.mem_singleton.mp z
    omega
  have no2 : ∀ a b c : Nat, (a < b ∨ b < a) → (a < c ∨ c < a) → (a : Addr) ∉ [(b : Addr), (c : Addr)] := fun a b c h1 h2 z => by
    rcases List.mem_cons.mp z with e | e
    · have e : a = b := e
      omega
    · have e : a = c := List.mem_singleton.mp e
      omega
  exact ⟨ne _ _ (by omega), ne _ _ (by omega), ne _ _ (by omega), en _ _ (by omega), List.mem_cons_self, no1 _ _ (by omega), no1 _ _ (by omega), en _ _ (by omega), List.mem_cons_self, no2 _ _ _ (by omega) (by omega), no2 _ _ _ (by omega) (by omega), no2 _ _ _ (by omega) (by omega), no1 _ _ (by omega)⟩
/-- the pairs of the signs of x and of ys -/
def zkv (x : Str) (ys : List V) : List (Key × V) := (x.cps.toList.zip ys).map fun q => (Sum.inr ⟨#[q.1]⟩, q.2)
theorem zkv_len {x : Str} {ys : List V} (h : x.length = ys.length) : (zkv x ys).length = x.length := by
  unfold zkv
  rw [List.length_map, List.length_zip]
  show min x.length ys.length = _
  omega
theorem zkv_at {x : Str} {ys : List V} {j c : Nat} {y : V} (h1 : x.cps[j]? = some c) (h2 : ys[j]? = some y) : (zkv x ys)[j]? = some (Sum.inr ⟨#[c]⟩, y) := by
  unfold zkv
  rw [List.getElem?_map, List.zip_eq_zipWith, List.getElem?_zipWith, Array.getElem?_toList, h1, h2]
  rfl
theorem zip_laid {pins : List (Addr × Obj)} {σ : L2.St} {H : Hp} {s : Shared} {h' : Heap} {tk : Nat} {kvs : List (Key × V)} {acc : Array Value} {c : Nat} {L : Addr} {as : List Addr} (I : Inv X pins σ H s) (hL : s.heap.objs.size ≤ L) (hz : kvs.length ≤ sizeLine)
    (kk : ∀ b o, s.heap.get? b = some o → h'.get? b = some o) (eL : h'.get? L = some { cls := .type "list", dict := none, data := .seq acc c, slots := #[] }) (hl : as.length = kvs.length) (rise : as.Pairwise (· < ·)) (over : ∀ a ∈ as, L < a)
    (prs : ∀ (j : Nat) (a : Addr), as[j]? = some a → ∃ q x y, kvs[j]? = some q ∧ RelV (kV q.1) x ∧ RelV q.2 y ∧ IsTupOf2 h' a x y) (hacc : acc.toList = as.map Value.ref) :
    ∃ H' : Hp, (∀ b o, H b = some o → H' b = some o) ∧ H L = none ∧ (∀ t ∈ as, H t = none) ∧ L ∉ as ∧ H' L = some (.lst (as.map V.ref)) ∧ Paired (fun (t : Addr) (q : Key × V) => H' t = some (.tup [kV q.1, q.2])) as kvs ∧ Inv X pins σ H' { s with heap := h', toks := tk } := by
  have nL : L ∉ as := fun z => Nat.lt_irrefl _ (over _ z)
  have nd : as.Nodup := List.Pairwise.imp (fun {a b} (h : a < b) => Nat.ne_of_lt h) rise
  have newT : ∀ t ∈ as, H t = none := fun t ht => I.hok.fresh (Nat.le_trans hL (Nat.le_of_lt (over t ht)))
  have newL : H L = none := I.hok.fresh hL
  have laid := LiI.putT_at as kvs (upd H L (.lst (as.map V.ref))) hl nd
  have off : ∀ b, b ∉ as → b ≠ L → LiI.putT (upd H L (.lst (as.map V.ref))) as kvs b = H b := fun b q1 q2 => by rw [LiI.putT_off as kvs _ q1, upd_ne q2]
  have low : ∀ b o, s.heap.get? b = some o → b ∉ as ∧ b ≠ L := fun b o e => ⟨fun z => absurd (Heap.lt_size e) (Nat.not_lt.mpr (Nat.le_trans hL (Nat.le_of_lt (over b z)))), fun z => absurd (Heap.lt_size e) (Nat.not_lt.mpr (z ▸ hL))⟩
  have same : ∀ b u, H b = some u → (LiI.putT (upd H L (.lst (as.map V.ref))) as kvs) b = some u := fun b u e => by
    rw [off b (fun z => by rw [newT b z] at e; cases e) (fun z => by rw [z, newL] at e; cases e), e]
  have atL : LiI.putT (upd H L (.lst (as.map V.ref))) as kvs L = some (.lst (as.map V.ref)) := by rw [LiI.putT_off as kvs _ nL, upd_same]
  refine ⟨LiI.putT (upd H L (.lst (as.map V.ref))) as kvs, same, newL, newT, nL, atL, laid, ?_⟩
  refine I.call' (ch := []) rfl ⟨fun b o q _ _ _ => kk b o q, fun b o q _ _ _ => ⟨o.slots, kk b o q⟩, fun b o q n _ => ?_, fun b o q _ => ⟨o, kk b o q⟩, fun b xs q => same b _ q, fun b o u q => same b _ q, fun b ps q => ⟨#[], by rw [same b _ q]; simp⟩⟩ (fun b u q => ?_) I.bare fun b z => by simp at z
  · obtain ⟨z1, z2⟩ := low b o q
    rw [off b z1 z2, n]
  · by_cases hb : b ∈ as
    · obtain ⟨j, pk, e1, e2, e3⟩ := LiI.paired_ix laid hb
      rw [e3] at q
      cases q
      obtain ⟨pq, x, y, g1, g2, g3, g4⟩ := prs j b e1
      rw [e2] at g1
      cases g1
      exact ⟨by show 2 ≤ sizeLine; decide, [x, y], .cons g2 (.cons g3 .nil), ⟨_, g4, rfl, _, rfl⟩⟩
    · by_cases hb2 : b = L
      · rw [hb2] at q ⊢
        rw [atL] at q
        cases q
        refine ⟨by rw [List.length_map, hl]; exact hz, acc.toList, c, by rw [hacc]; exact LiI.vals_refs as, ?_⟩
        rw [Array.toArray_toList]
        exact eL
      · rw [off b hb hb2] at q
        exact (I.hok b u q).stay (fun d v _ y => kk d v y) (fun d y => same d _ y) fun d xs y => same d _ y
def rZipL (K : PySem.W.Frag) : List V → Hp → VK → Prop := fun vs H Q => ∃ (x : Str) (l : Addr) (ys : List V), vs = [.str x, .ref l] ∧ SqL K H l ys ∧ x.length = ys.length ∧ x.length ≤ sizeLine ∧
  ∀ (H' : Hp) (q : Addr) (ts : List Addr), Same H H' → H q = none → (∀ t ∈ ts, H t = none) → q ∉ ts → H' q = some (.lst (ts.map V.ref)) → Paired (fun (t : Addr) (u : Key × V) => H' t = some (.tup [kV u.1, u.2])) ts (zkv x ys) → Q (.ref q) H'
def tLstZ (K : PySem.W.Frag) (ta : TA) : TE := fun σ H Q => ta σ H fun vs H1 => rZipL K vs H1 Q
/-- list(zip(text, list)) -/
theorem pe_listZip (hc : X.calm = true) (ha : PA X [e, e2] ta) (hg : Gl X "list") (hm : X.mg "list" = none) (hv : bootBuiltins "list" = some (.type "list")) (hg2 : Gl X "zip") (hm2 : X.mg "zip" = none)
    (hs : starEach [e, e2] X.env = (false, eval e X.env) :: starEach [e2] X.env := by rfl) (hpl : (backTo cpos (starEach [e2] X.env)).any (·.1) = false := by rfl)
    (na : starEach [.Call (.Name "zip" p2) [e, e2] [] cpos] X.env = (false, eval (.Call (.Name "zip" p2) [e, e2] [] cpos) X.env) :: starEach [] X.env := by rfl) :
    PE X (.Call (.Name "list" p) [.Call (.Name "zip" p2) [e, e2] [] cpos] [] pos) (tLstZ X.K ta) := by
  refine ⟨fun pins s σ H Q I h => ?_⟩
  refine Call_ (ld_blt I hg hm hv ?_)
  refine PyProof.Rows.callWith_type1 (PyProof.Rows.args_cons ?_ na) na rfl
  refine Call_ (ld_blt I hg2 hm2 PyProof.Rows.boot_zip (PyProof.Rows.callWith_type1 (thn (ha.run cpos pins s σ H _ I h) fun us s1 ⟨vs, H1, I1, r1, q1⟩ => ?_) hs hpl))
  obtain ⟨x, l, ys, rfl, hq, hxy, hxz, q⟩ := q1
  cases r1 with
  | cons r rr =>
    cases rr with
    | cons r' rr =>
      cases rr
      obtain ⟨t, rfl⟩ := r
      cases r'
      obtain ⟨its, rv, p1, hiz⟩ := I1.list hq
      have ll : l < s1.heap.objs.size := p1.lt
      have hlen : its.toArray.size = x.cps.size := by
        rw [List.size_toArray, ← rv.length]
        exact hxy.symm
      have D0 : (s1.heap.objs.size : Nat) < s1.heap.objs.size + 1 := Nat.lt_succ_self _
      have hh : X.A.in1.in1.in1.handled = none := I1.ok.hd hc
      refine zip_begins2 (begins_text x t) (begins_list l its.toArray) trivial p1.isList fun h' gz gI gO g1 g2 size kk => PyProof.Rows.args_nil ?_
      have Z := sep5 s1.heap.objs.size l ll
      refine zg_call (n1 := x.cps.size) (n2 := its.toArray.size) (P1 := fun i v => ∃ c u, x.cps[i]? = some c ∧ v = .str ⟨#[c]⟩ u) (P2 := fun i v => its.toArray[i]? = some v) (S1 := fun i h => h.IsStrIter s1.heap.objs.size (strIterType x) x t i) (S2 := fun i h => h.IsListIter (s1.heap.objs.size + 1) l i ∧ h.IsList l its.toArray)
        Z (Draws.text hh _ x t) (Draws.list hh _ l (Nat.ne_of_lt (Nat.lt_succ_of_lt ll)) its.toArray) (by omega) hxz gz gI gO ⟨_, g1, rfl, rfl⟩ ⟨⟨_, g2, rfl, rfl⟩, p1.isList.at fun o e => kk l o e⟩ ?_ ?_ ?_
      · intro c hc
        have e : c = s1.heap.objs.size := by simpa using hc
        subst e
        show _ < h'.objs.size
        omega
      · intro c hc
        show (c : Nat) < h'.objs.size
        have z : c = s1.heap.objs.size + 1 ∨ c = l := by simpa using hc
        have ll' : (l : Nat) < s1.heap.objs.size := ll
        rcases z with z | z
        · rw [size, z]
          exact Nat.add_lt_add_left (by decide) _
        · rw [size, z]
          exact Nat.lt_of_lt_of_le ll' (Nat.le_add_right _ _)
      · intro h2 tk acc c as kp eL hal hG hacc
        dsimp only at kp eL hG ⊢
        have lows : ∀ b o, s1.heap.get? b = some o → h2.get? b = some o := fun b o e => by
          have hb : (b : Nat) < s1.heap.objs.size := Heap.lt_size e
          have far : ∀ k : Nat, b ≠ s1.heap.objs.size + k := fun k z => Nat.ne_of_lt (Nat.lt_of_lt_of_le hb (Nat.le_add_right _ k)) z
          exact kp b o (far 4) (far 3) (far 0) (far 1) (kk b o e)
        obtain ⟨H', k1, k2, k3, k4, k5, k6, J⟩ := zip_laid (tk := tk) (kvs := zkv x ys) I1 (L := h'.objs.size) (by rw [size]; exact Nat.le_add_right _ _) (by rw [zkv_len hxy]; exact hxz) lows eL (by rw [zkv_len hxy]; exact hal) hG.rise hG.over (fun j a hj => by
          obtain ⟨u, v, ⟨cc, uu, e1, e2⟩, e3, e4⟩ := hG.pairs j a hj
          subst e2
          have e3' : its[j]? = some v := by simpa using e3
          obtain ⟨y, hy, ry⟩ := vals_back rv e3'
          exact ⟨_, _, _, zkv_at e1 hy, ⟨_, rfl⟩, ry, e4⟩) hacc
        exact ⟨.ref _, H', J, rfl, q H' _ as k1 k2 k3 k4 k5 k6⟩
end
end Rz

namespace Rz
open PySem PySem.Spec PyProof.Rows L2
/-! ### more of the class's own special methods -/
section
variable {X : Cx} {k : Nat} {f C a dx : Addr} {fs : List (Str × V)} {fd : FuncData} {ps : List Str} {sp : Sp} {pins : List (Addr × Obj)} {σ : L2.St} {H : Hp} {s : Shared}
/-- o += x by the own __iadd__ -/
def tIpO (C : Addr) (sp : Sp) : V → V → Hp → VK → Prop := fun x y H Q => ∃ a dx fs, x = .ref a ∧ H a = some (.ins C dx fs) ∧ sp [x, y] H (fun v H' => (∃ b, v = .ref b) ∧ Q v H') E0
theorem ip_own (M : Meth X.K C "__iadd__" f) (hc : PySem.W.selfFirst X.K C = true) (F : FnOk X.prog X.w X.K X.mg X.base (L2.CX X.prog X.w) k f fd ps sp) (hr : Room k X.A) (hb : Binds X.K fd ps []) : PIp X .Add (tIpO C sp) := by
  intro pins s σ H x y v u Q I r1 r2 h
  obtain ⟨a, dx, fs, rfl, ea, hq⟩ := h
  obtain rfl : v = Value.ref a := r1
  obtain ⟨od, J⟩ := inst_at I ea
  obtain ⟨m0, hF⟩ := I.fr
  refine PySem.W.ksp_inplace hF I.ok.mod.kin J hc M.at_ M.fn (wpAny_mono (run_below (vs := [.ref a, y]) F hr rfl hb I (.cons rfl (.cons r2 .nil)) hq) (fun r s' hv => ?_) fun _ _ z => z)
  obtain ⟨z, H', J', rz, ⟨b, rfl⟩, q⟩ := hv
  obtain rfl : r = Value.ref b := rz
  exact ⟨.ref b, H', J', rfl, q⟩
/-- o[i] = v by the own __setitem__ -/
def tSetO (C : Addr) (sp : Sp) : TSet := fun o i v H Q => ∃ a dx fs, o = .ref a ∧ H a = some (.ins C dx fs) ∧ sp [o, i, v] H (fun _ H' => Q H') E0
theorem set_own (M : Meth X.K C "__setitem__" f) (hn : PySem.W.noSeq X.K C = true) (F : FnOk X.prog X.w X.K X.mg X.base (L2.CX X.prog X.w) k f fd ps sp) (hr : Room k X.A) (hb : Binds X.K fd ps []) : PSet X (tSetO C sp) := by
  intro pins s σ H o i v ov iv u Q I r1 r2 r3 h
  obtain ⟨a, dx, fs, rfl, ea, hq⟩ := h
  obtain rfl : ov = Value.ref a := r1
  obtain ⟨od, J⟩ := inst_at I ea
  obtain ⟨m0, hF⟩ := I.fr
  refine PySem.W.ksp_setItem hF I.ok.mod.kin J hn M.at_ M.fn (wpAny_mono (run_below (vs := [.ref a, i, v]) F hr rfl hb I (.cons rfl (.cons r2 (.cons r3 .nil))) hq) (fun r s' hv => ?_) fun _ _ z => z)
  obtain ⟨z, H', J', rz, q⟩ := hv
  exact ⟨H', J', q⟩
/-- len(x) by the own __len__ -/
def rLenO (C : Addr) (sp : Sp) : List V → Hp → VK → Prop := fun xs H Q => ∃ a dx fs, xs = [.ref a] ∧ H a = some (.ins C dx fs) ∧ sp [.ref a] H (fun v H' => ∃ n : Nat, v = .int n ∧ n < 2 ^ 63 ∧ Q v H') E0
theorem call_lenO (M : Meth X.K C "__len__" f) (F : FnOk X.prog X.w X.K X.mg X.base (L2.CX X.prog X.w) k f fd ps sp) (hr : Room (k + 1) X.A) (hb : Binds X.K fd ps []) : CallR X (.builtin "len") (rLenO C sp) := by
  intro pins s σ H xs us Q I r h
  obtain ⟨a, dx, fs, rfl, ea, hq⟩ := h
  obtain ⟨u, rfl, ru⟩ := vals1 r
  obtain rfl : u = Value.ref a := ru
  obtain ⟨od, J⟩ := inst_at I ea
  obtain ⟨m0, hF⟩ := I.fr
  refine PySem.W.len_K hF I.ok.mod.kin J M.at_ M.fn (wpAny_mono (run_below (vs := [.ref a]) F hr.in1 rfl hb I (.cons rfl .nil) hq) (fun r s' hv => ?_) fun _ _ z => z)
  obtain ⟨z, H', J', rz, n, rfl, hn, q⟩ := hv
  obtain ⟨t, rfl⟩ := rz
  exact ⟨⟨by omega, by omega⟩, .int n, H', J'.tok _, ⟨_, rfl⟩, q⟩
/-- abs(x) by the own __abs__ -/
def rAbsO (C : Addr) (sp : Sp) : List V → Hp → VK → Prop := fun xs H Q => ∃ a dx fs, xs = [.ref a] ∧ H a = some (.ins C dx fs) ∧ sp [.ref a] H Q E0
theorem call_absO (M : Meth X.K C "__abs__" f) (F : FnOk X.prog X.w X.K X.mg X.base (L2.CX X.prog X.w) k f fd ps sp) (hr : Room (k + 1) X.A) (hb : Binds X.K fd ps []) : CallR X (.builtin "abs") (rAbsO C sp) := by
  intro pins s σ H xs us Q I r h
  obtain ⟨a, dx, fs, rfl, ea, hq⟩ := h
  obtain ⟨u, rfl, ru⟩ := vals1 r
  obtain rfl : u = Value.ref a := ru
  obtain ⟨od, J⟩ := inst_at I ea
  refine Calls.call_function_entry kind_abs plain_abs entry_abs (args_abs _) ?_
  unfold Builtin.«abs»
  refine wpAny_bind (m := oneArg "abs" _) (wpAny_pure ?_)
  refine wpAny_bind (m := callSpecial? (.ref a) (Str.ofString "__abs__")) (PySem.W.special_fn I.kIn J M.at_ (beq_iff_eq.mp M.fn) (wpAny_mono (run_below (vs := [.ref a]) F hr.in1 rfl hb I (.cons rfl .nil) hq) (fun r s' hv => ?_) fun _ _ z => z))
  exact wpAny_pure ⟨_, rfl, hv⟩
end
end Rz
namespace Rz
open PySem PySem.Spec PyProof.Rows L2
section
variable {X : Cx} {k : Nat} {fi fn C : Addr} {fdI fdN : FuncData} {psI psN : List Str} {spI spN : Sp} {pins : List (Addr × Obj)} {σ : L2.St} {A1 : Around} {l q it : Addr} {ys : List V} {H0 : Hp} {Rs : Result → Shared → Prop}
/-- a list filled from an iterator over another one -/
theorem lo_loop (hh : A1.handled = none) (hs : SqL X.K H0 l ys) (hz : ys.length ≤ sizeLine) (nq : H0 q = none) (ni : H0 it = none) (ne : it ≠ q)
    (hR : ∀ H s, Inv X pins σ H s → (∀ b o, H0 b = some o → H b = some o) → H q = some (.lst ys) → Rs (.ok (.ret .none)) s) :
    ∀ (j i : Nat) (H : Hp) (s : Shared), ys.length - i = j → i ≤ ys.length → Inv X pins σ H s → (∀ b o, H0 b = some o → H b = some o) → H it = some (ItO l it i) → H q = some (.lst (ys.take i)) →
      codeAny (model X.prog X.w) A1 (.builtin "list.extend.loop" ⟨[.ref q, .ref it, .none], []⟩) Rs s := by
  intro j
  induction j with
  | zero =>
    intro i H s hj hi I S ei eq
    have e0 : i = ys.length := by omega
    subst e0
    obtain ⟨its, rv, pl, _⟩ := I.list (Same.seq (H := H0) (H' := H) (fun b o e => S b o e) hs)
    have ty : s.TypeIs (.ref it) "list_iterator" := ⟨_, itO_get I ei, rfl⟩
    have mu : Mut (H it) := by rw [ei]; exact True.intro
    refine codeAny_builtin PySem.F.entry_extend_loop ?_
    rw [Around.under_plainId PySem.F.plain_extend_loop _]
    show wpAny _ A1.in1 (pyNext (.ref it) >>= _) _ _ s
    refine wpAny_bind ?_
    unfold pyNext
    refine wpAny_bind (wpAny_attempt (wpAny_callSpecial?_slot (name := Str.ofString "__next__") ty slot_listiter_next (wpAny_call_entry slot_listiter_next ty entry_listiter_next
      (GNX.next_end (A := A1.in1) hh (itO_get I ei) pl.isList (by rw [List.getElem?_toArray]; exact rv.none_of (List.getElem?_eq_none (Nat.le_refl _))) fun h1 h' e vs e1 sb kk nn he hv => ?_) (args_listiter_next _))))
    refine wpAny_bind (wpAny_isInstance (T := "StopIteration") (b := true) ⟨_, he, rfl⟩ isSubtype_stop ?_)
    have I2 : Inv X pins σ (upd H it (ItE it ys.length)) { s with heap := h1 } := I.write (x := it) (e := it) (t' := s.toks) mu (.inl rfl) (fun b o nb z => (sb.2 b nb).trans z) ⟨_, e1⟩ (itE_ok e1)
    have I3 : Inv X pins σ (upd H it (ItE it ys.length)) { s with heap := h' } := I2.kept (t' := s.toks) kk
    refine wpAny_pure (wpAny_pure (hR _ _ I3 (fun b o e => ?_) ?_))
    · rw [upd_ne (ne_of_none e ni)]
      exact S b o e
    · rw [upd_ne (Ne.symm ne), eq, List.take_length]
  | succ j ih =>
    intro i H s hj hi I S ei eq
    have hlt : i < ys.length := by omega
    obtain ⟨its, rv, pl, _⟩ := I.list (Same.seq (H := H0) (H' := H) (fun b o e => S b o e) hs)
    obtain ⟨u, hu, ru⟩ := rv.get (List.getElem?_eq_getElem hlt)
    have ty : s.TypeIs (.ref it) "list_iterator" := ⟨_, itO_get I ei, rfl⟩
    have mu : Mut (H it) := by rw [ei]; exact True.intro
    refine codeAny_builtin PySem.F.entry_extend_loop ?_
    rw [Around.under_plainId PySem.F.plain_extend_loop _]
    show wpAny _ A1.in1 (pyNext (.ref it) >>= _) _ _ s
    refine wpAny_bind ?_
    unfold pyNext
    refine wpAny_bind (wpAny_attempt (wpAny_callSpecial?_slot (name := Str.ofString "__next__") ty slot_listiter_next (wpAny_call_entry slot_listiter_next ty entry_listiter_next
      (GNX.next_item (itO_get I ei) pl.isList (by rw [List.getElem?_toArray]; exact hu) fun h' e' sb => wpAny_pure ?_) (args_listiter_next _))))
    have I1 : Inv X pins σ (upd H it (ItO l it (i + 1))) { s with heap := h' } := I.write (x := it) (e := it) (t' := s.toks) mu (.inl rfl) (fun b o nb z => (sb.2 b nb).trans z) ⟨_, e'⟩ (itO_ok e')
    have eq1 : upd H it (ItO l it (i + 1)) q = some (.lst (ys.take i)) := by rw [upd_ne (Ne.symm ne), eq]
    obtain ⟨z, its2, n, r2, hl, e⟩ := I1.lstM eq1
    have ltk : (ys.take i).length = i := by rw [List.length_take]; omega
    have tk1 : ys.take (i + 1) = ys.take i ++ [ys[i]] := by rw [List.take_add_one, List.getElem?_eq_getElem hlt]; rfl
    show wpAny _ A1.in1 (updateSeq q (·.push u) >>= _) _ _ _
    refine wpAny_bind (wpAny_updateSeq e rfl (wpAny_pure ⟨plainId_quiet PySem.F.plain_extend_loop _, ?_⟩) (by rw [List.size_toArray]; omega) (by show (its2.toArray.push u).size ≤ sizeLine + 1; rw [Array.size_push, List.size_toArray]; omega))
    refine ih (i + 1) _ _ (by omega) hlt (I1.lset (its' := its2 ++ [u]) (t' := s.toks) eq1 e (by simp) (r2.append (.cons ru .nil)) (by rw [List.length_append, List.length_singleton]; omega)) (fun b o e => ?_) ?_ ?_
    · rw [upd_ne (ne_of_none e nq), upd_ne (ne_of_none e ni)]
      exact S b o e
    · rw [upd_ne ne, upd_same]
    · rw [upd_same, tk1]
def rListO (K : PySem.W.Frag) (C : Addr) (spI spN : Sp) : List V → Hp → VK → Prop := fun xs H Q => ∃ (a dx : Addr) (fs : List (Str × V)) (l : Addr) (ys : List V) (n : Nat), xs = [.ref a] ∧ H a = some (.ins C dx fs) ∧ SqL K H l ys ∧ n < 2 ^ 63 ∧ Builtin.List.listTooLong n = false ∧
  (∀ (H1 : Hp) (R : VK), Same H H1 → (∀ it, H1 it = none → R (.ref it) (upd H1 it (ItO l it 0))) → spI [.ref a] H1 R E0) ∧ (∀ (H1 : Hp) (R : VK), Same H H1 → R (.int (n : Nat)) H1 → spN [.ref a] H1 R E0) ∧
  ∀ (H' : Hp) (q : Addr), Same H H' → H q = none → H' q = some (.lst ys) → Q (.ref q) H'
theorem hint_own {M : Model} {A : Around} {E : Value → Shared → Prop} {s : Shared} {a : Addr} {Q : Bool → Shared → Prop} {K : PySem.W.Frag} {ox : Obj} {od : Option Obj} (hK : K.In s.heap) (MN : Meth K C "__len__" fn) (J : PySem.W.InstAt s.heap a ox C od)
    (h : wpAny M A (call (.builtin "len") [.ref a]) (fun v s' => ∃ (n : Int) (t : Tok), v = .int n t ∧ Builtin.List.listTooLong n.toNat = false ∧ Q (n != 0) s') (fun _ _ => False) s) : wpAny M A (Builtin.List.listLengthHint (.ref a)) Q E s := by
  unfold Builtin.List.listLengthHint
  refine wpAny_bind (wpAny_bind (J.type.here ((PySem.W.looks_findIn hK MN.at_).here ?_)))
  refine PySem.W.KFB.if_not rfl ?_
  refine PySem.W.KFB.if_so rfl ?_
  refine wpAny_bind (wpAny_rule ?_)
  refine wpAny_bind (wpAny_attempt (wpAny_mono h (fun v s' hv => ?_) fun _ _ z => z.elim))
  obtain ⟨n, t, rfl, hl, q⟩ := hv
  refine wpAny_bind (wpAny_of_eq (a := some n) rfl ?_)
  refine PySem.W.KFB.if_not hl ?_
  exact wpAny_pure q
theorem li_next : typeLookup (.type "list_iterator") "__next__" = pure (some (.builtin "list_iterator.__next__")) := slot_listiter_next.lookup
/-- list(x) by the own __iter__, that yields an iterator over a list, and the own __len__ -/
theorem call_listR (hcalm : X.calm = true) (MI : Meth X.K C "__iter__" fi) (FI : FnOk X.prog X.w X.K X.mg X.base (L2.CX X.prog X.w) k fi fdI psI spI) (bI : Binds X.K fdI psI []) (MN : Meth X.K C "__len__" fn) (FN : FnOk X.prog X.w X.K X.mg X.base (L2.CX X.prog X.w) k fn fdN psN spN) (bN : Binds X.K fdN psN [])
    (hr : Room (k + 3) X.A) : CallR X (.type "list") (rListO X.K C spI spN) := by
  intro pins s σ H xs us Q I r h
  obtain ⟨a, dx, fs, l, ys, n, rfl, ha, hq, hn, hlong, hI, hN, fin⟩ := h
  obtain ⟨u, rfl, ru⟩ := vals1 r
  obtain rfl : u = Value.ref a := ru
  obtain ⟨its0, rv0, pl0, hz⟩ := I.list hq
  have hyz : ys.length ≤ sizeLine := by
    have := rv0.length
    omega
  refine callType_codes (Q₁ := fun obj s₁ => obj = .ref s.heap.objs.size ∧ s₁ = { s with heap := s.heap.push { cls := .type "list", data := .seq #[] } }) PySem.F.called_list (PySem.F.typeCall_list_1 (.ref a)) PySem.F.entry_list_init
    (code_list_new _ ⟨rfl, rfl⟩) fun obj s₁ h₁ => ?_
  obtain ⟨rfl, rfl⟩ := h₁
  have hS : (s.heap.push { cls := .type "list", data := .seq #[] }).get? s.heap.objs.size = some { cls := .type "list", data := .seq #[] } := Heap.get?_push_size _ rfl
  refine ⟨⟨_, hS, rfl⟩, PySem.F.args_list_init_2 _ (.ref a), ?_⟩
  have fr : H s.heap.objs.size = none := I.hok.fresh (Nat.le_refl _)
  have I1 : Inv X pins σ (upd H s.heap.objs.size (.lst [])) { s with heap := s.heap.push { cls := .type "list", data := .seq #[] } } := I.lnew (its := []) (t' := s.toks) .nil (Nat.zero_le _)
  generalize s.heap.objs.size = p at fr I1 hS ⊢
  show wpAny _ X.A.in1.in1 (do let old ← Builtin.List.listItems (.ref p); Builtin.List.listUpdate (.ref p) (fun _ => #[]); letGo old.toList.reverse; Builtin.List.listExtendWith (.ref p) (.ref a) .none) _ _ _
  refine wpAny_bind ?_
  unfold Builtin.List.listItems
  refine wpAny_bind (wpAny_seqItems hS rfl (wpAny_pure ?_))
  show wpAny _ _ (updateSeq p (fun _ => #[]) >>= fun _ => letGo (#[] : Array Value).toList.reverse >>= fun _ => Builtin.List.listExtendWith (.ref p) (.ref a) .none) _ _ _
  refine wpAny_bind (wpAny_updateSeq hS rfl ?_)
  have I2 := I1.lset (f := fun _ => #[]) (its := []) (its' := []) (ys := []) (t' := s.toks) upd_same hS rfl .nil (Nat.zero_le _)
  rw [upd_upd] at I2
  refine wpAny_bind (wpAny_letGo ?_)
  have S2 : Same H (upd H p (.lst [])) := Rz.Same.new (Same.refl H) fr
  have ha2 := S2 _ _ ha
  have hne : p ≠ a := fun z => by
    subst z
    rw [fr] at ha
    cases ha
  obtain ⟨od, J⟩ := inst_at I2 ha2
  obtain ⟨m0, hF⟩ := I2.fr
  unfold Builtin.List.listExtendWith
  refine wpAny_bind (J.type.here ?_)
  have c1 : Builtin.List.listSameRef (.ref p) (.ref a) = false := by simp [Builtin.List.listSameRef, hne]
  have c2 : (Value.ref C == Value.type "list") = false := rfl
  have c3 : (Value.ref C == Value.type "tuple") = false := rfl
  simp only [c1, c2, c3, Bool.or_false, Bool.false_eq_true, if_false]
  refine wpAny_bind (PySem.W.owit_iter hF I2.ok.mod.kin J MI.at_ MI.fn (wpAny_mono (run_below (A := X.A.in1.in1) (vs := [.ref a]) FI (hr.in1.in1.mono (Nat.le_succ k)) rfl bI I2 (.cons rfl .nil)
    (hI _ (fun v H' => ∃ it, v = .ref it ∧ upd H p (.lst []) it = none ∧ H' = upd (upd H p (.lst [])) it (ItO l it 0)) S2 fun it hit => ⟨it, rfl, hit, rfl⟩)) (fun v s' hv => ?_) fun _ _ z => z))
  obtain ⟨x, H3, I3, rx, it, rfl, hit, rfl⟩ := hv
  obtain rfl : v = Value.ref it := rx
  have S3 : Same H (upd (upd H p (.lst [])) it (ItO l it 0)) := Rz.Same.new S2 hit
  have fit : H it = none := by
    cases e : H it with
    | none => rfl
    | some o => rw [S2 _ _ e] at hit; cases hit
  have nip : it ≠ p := fun z => by
    subst z
    rw [upd_same] at hit
    cases hit
  have ty : s'.TypeIs (.ref it) "list_iterator" := ⟨_, itO_get I3 upd_same, rfl⟩
  unfold PySem.W.OwitIt
  refine wpAny_specialOf ty li_next ?_
  refine wpAny_bind (wpAny_holding ?_)
  have ha3 := S3 _ _ ha
  obtain ⟨od3, J3⟩ := inst_at I3 ha3
  obtain ⟨m3, hF3⟩ := I3.fr
  refine hint_own I3.kIn MN J3 (PySem.W.len_K hF3 I3.ok.mod.kin J3 MN.at_ MN.fn (wpAny_mono (run_below (A := X.A.in1.in1.in1) (vs := [.ref a]) (E' := fun _ _ => False) FN hr.in1.in1.in1 rfl bN I3 (.cons rfl .nil)
    (hN _ (fun v H' => v = .int (n : Nat) ∧ H' = upd (upd H p (.lst [])) it (ItO l it 0)) S3 ⟨rfl, rfl⟩)) (fun v s4 hv => ?_) fun _ _ z => z.elim))
  obtain ⟨x, H4, I4, rx, rfl, rfl⟩ := hv
  obtain ⟨t4, rfl⟩ := rx
  refine ⟨⟨by omega, by omega⟩, (n : Nat), s4.toks, rfl, hlong, ?_⟩
  have eq4 : upd (upd H p (.lst [])) it (ItO l it 0) p = some (.lst []) := by rw [upd_ne (Ne.symm nip), upd_same]
  have J4 : Inv X pins σ (upd (upd H p (.lst [])) it (ItO l it 0)) { s4 with toks := s4.toks + 1 } := I4.tok _
  have last : ∀ s5, Inv X pins σ (upd (upd H p (.lst [])) it (ItO l it 0)) s5 → codeAny (model X.prog X.w) X.A.in1 (.builtin "list.extend.loop" ⟨[.ref p, .ref it, .none], []⟩) (wants (fun r s₂ => r = .none ∧ EP X pins σ Q (.ref p) s₂) X.xe) s5 := fun s5 I5 =>
    lo_loop (A1 := X.A.in1) (H0 := H) (Rs := wants (fun r s₂ => r = .none ∧ EP X pins σ Q (.ref p) s₂) X.xe) (I5.ok.hd hcalm) hq hyz fr fit nip (fun H6 s6 I6 S6 e6 => ⟨rfl, .ref p, H6, I6, rfl, fin H6 p (fun b o e => S6 b o e) fr e6⟩) ys.length 0 _ _ (by omega) (Nat.zero_le _) I5 (fun b o e => S3 b o e) upd_same eq4
  obtain ⟨z, its, kk, r3, hl3, e3⟩ := J4.lstM eq4
  cases r3
  refine wpAny_ite_split (fun _ => ?_) (fun _ => wpAny_pure ⟨plainId_quiet PySem.F.plain_extend_loop _, last _ J4⟩)
  refine wpAny_bind (wpAny_rule ?_)
  refine wpAny_bind ?_
  show wpAny _ _ (updateSeq p (·.push .none) >>= fun _ => updateSeq p (·.pop)) _ _ _
  refine wpAny_bind (wpAny_updateSeq e3 rfl ?_)
  have K2 := J4.lset (f := (·.push Value.none)) (its' := [Value.none]) (ys := [.non]) (t' := s4.toks + 1) eq4 e3 (by simp) (.cons rfl .nil) (by rw [List.length_singleton, sizeLine_eq]; decide)
  obtain ⟨z4, its4, k4, r4, hl4, e4⟩ := K2.lstM upd_same
  obtain ⟨u4, rfl, ru4⟩ := r4.one
  refine wpAny_updateSeq e4 rfl ?_ (by show 1 ≤ sizeLine; rw [sizeLine_eq]; decide) (by show 0 ≤ sizeLine + 1; exact Nat.zero_le _)
  refine wpAny_pure ⟨plainId_quiet PySem.F.plain_extend_loop _, last _ ?_⟩
  have K3 := K2.lset (f := (·.pop)) (its := [u4]) (its' := []) (ys := []) (t' := s4.toks + 1) upd_same e4 (by rfl) .nil (Nat.zero_le _)
  rw [upd_upd] at K3
  have back : ∀ (G : Hp), G p = some (.lst []) → upd G p (.lst []) = G := fun G g => by
    funext b
    by_cases hb : b = p
    · rw [hb, upd_same, g]
    · rw [upd_ne hb]
  rw [back _ eq4] at K3
  exact K3
end
end Rz

namespace Rz
open PySem PySem.Spec PyProof.Rows L2
/-! ### max(list of ints, default=d) -/
section
variable {prog : Program} {w : World} {A : Around} {R : Result → Shared → Prop} {I S : Addr} {f1 wr : List Addr} {n : Nat} {P : Nat → Value → Prop} {St : Nat → Heap → Prop} {kw : List (Str × Value)}
theorem mx_name : (toString "max" ++ toString ".loop" : String) = "max.loop" := by decide
theorem mxd_loop (Wk : Walks prog w A.in1 I f1 wr n P St) (bt : Nat → Nat → Bool) (cmp : CmpOf prog w A.in1 .Gt P bt) (sep : S ∉ f1) : ∀ (k j : Nat) (s : Shared) (best : Value) (c : Nat), n - (j + 1) = k → j + 1 ≤ n → St (j + 1) s.heap → P (argBest bt j) best →
    s.heap.get? S = some { cls := .type "list", dict := none, data := .seq #[best, best] c, slots := #[] } →
    (∀ v h' tk, P (argBest bt (n - 1)) v → (∀ b o, b ∉ wr → b ≠ S → s.heap.get? b = some o → h'.get? b = some o) → R (.ok (.ret v)) { s with heap := h', toks := tk }) → codeAny (model prog w) A (.builtin "max.loop" ⟨[.ref I, .none, .ref S], kw⟩) R s := by
  have sepW : S ∉ wr := fun h => sep (Wk.sub _ h)
  intro k
  induction k with
  | zero =>
    intro j s best c hk hj st pb gS fin
    have last : j + 1 = n := by omega
    refine codeAny_builtin F.entry_max_loop ?_
    rw [Around.under_plainId F.plain_max_loop _]
    show wpAny _ A.in1 (seqItems? (.ref S) >>= _) _ _ s
    refine wpAny_bind (wpAny_seqItems gS rfl ?_)
    show wpAny _ A.in1 (tryCatch (pyNext (.ref I)) _ >>= _) _ _ s
    refine wpAny_bind (wpAny_tryCatch (Wk.done s _ _ (last ▸ st) fun h' tk kk => ?_))
    have gS' := kk S _ sepW gS
    show wpAny _ A.in1 (updateSeq S (fun _ => #[]) >>= _) _ _ _
    refine wpAny_bind ?_
    refine wpAny_updateSeq gS' rfl (wpAny_bind (wpAny_letGo (wpAny_pure ?_)))
    refine fin best _ tk (by rw [← last]; exact pb) fun b o nb nS e => (Heap.get?_update_other _ _ (Ne.symm nS)).trans (kk b o nb e)
  | succ k ih =>
    intro j s best c hk hj st pb gS fin
    have lt : j + 1 < n := by omega
    refine codeAny_builtin F.entry_max_loop ?_
    rw [Around.under_plainId F.plain_max_loop _]
    show wpAny _ A.in1 (seqItems? (.ref S) >>= _) _ _ s
    refine wpAny_bind (wpAny_seqItems gS rfl ?_)
    show wpAny _ A.in1 (tryCatch (pyNext (.ref I)) _ >>= _) _ _ s
    refine wpAny_bind (wpAny_tryCatch (Wk.item (j + 1) s _ _ lt st fun v h' tk pv st' kk => ?_))
    have gS' := kk S _ sepW gS
    show wpAny _ A.in1 (tryCatch (holding [v, v] (richCompare .Gt v best >>= _)) _ >>= _) _ _ _
    refine wpAny_bind (wpAny_tryCatch (wpAny_holding (wpAny_bind (cmp (j + 1) (argBest bt j) v best _ _ _ pv pb ?_))))
    refine wpAny_bind (wpAny_holding (wpAny_truthy_bool ?_))
    refine wpAny_bind (wpAny_letGo (wpAny_pure ?_))
    cases better : bt (j + 1) (argBest bt j) with
    | true =>
      simp only [if_true]
      refine wpAny_bind ?_
      refine wpAny_updateSeq gS' rfl (wpAny_bind (wpAny_letGo ?_))
      rw [mx_name]
      refine wpAny_pure ⟨plainId_quiet F.plain_max_loop _, ih (j + 1) _ v _ (by omega) lt (Wk.frame _ _ _ st' fun b hb o e => (Heap.get?_update_other _ _ (fun h : S = b => sep (by rw [h]; exact hb))).trans e) (by simp only [argBest, better, if_true]; exact pv) (Heap.get?_update_self _ gS' rfl)
        fun v' h2 tk2 pv2 kk2 => fin v' h2 tk2 pv2 fun b o nb nS e => kk2 b o nb nS ((Heap.get?_update_other _ _ (Ne.symm nS)).trans (kk b o nb e))⟩
    | false =>
      simp only [Bool.false_eq_true, if_false]
      refine wpAny_bind (wpAny_letGo ?_)
      rw [mx_name]
      refine wpAny_pure ⟨plainId_quiet F.plain_max_loop _, ih (j + 1) _ best c (by omega) lt st' (by simp only [argBest, better, Bool.false_eq_true, if_false]; exact pb) gS'
        fun v' h2 tk2 pv2 kk2 => fin v' h2 tk2 pv2 fun b o nb nS e => kk2 b o nb nS (kk b o nb e)⟩
theorem mxd_first (Wk : Walks prog w A.in1 I f1 wr n P St) (bt : Nat → Nat → Bool) (cmp : CmpOf prog w A.in1 .Gt P bt) (sep : S ∉ f1) (pos : 0 < n) {s : Shared} {c : Nat} (st : St 0 s.heap)
    (gS : s.heap.get? S = some { cls := .type "list", dict := none, data := .seq #[] c, slots := #[] })
    (fin : ∀ v h' tk, P (argBest bt (n - 1)) v → (∀ b o, b ∉ wr → b ≠ S → s.heap.get? b = some o → h'.get? b = some o) → R (.ok (.ret v)) { s with heap := h', toks := tk }) : codeAny (model prog w) A (.builtin "max.loop" ⟨[.ref I, .none, .ref S], kw⟩) R s := by
  have sepW : S ∉ wr := fun h => sep (Wk.sub _ h)
  refine codeAny_builtin F.entry_max_loop ?_
  rw [Around.under_plainId F.plain_max_loop _]
  show wpAny _ A.in1 (seqItems? (.ref S) >>= _) _ _ s
  refine wpAny_bind (wpAny_seqItems gS rfl ?_)
  show wpAny _ A.in1 (tryCatch (pyNext (.ref I)) _ >>= _) _ _ s
  refine wpAny_bind (wpAny_tryCatch (Wk.item 0 s _ _ pos st fun v h' tk pv st' kk => ?_))
  have gS' := kk S _ sepW gS
  show wpAny _ A.in1 (updateSeq S (fun _ => #[v, v]) >>= _) _ _ _
  refine wpAny_bind ?_
  refine wpAny_updateSeq gS' rfl ?_
  rw [mx_name]
  refine wpAny_pure ⟨plainId_quiet F.plain_max_loop _, mxd_loop Wk bt cmp sep _ 0 _ v _ rfl pos (Wk.frame _ _ _ st' fun b hb o e => (Heap.get?_update_other _ _ (fun h : S = b => sep (by rw [h]; exact hb))).trans e) pv (Heap.get?_update_self _ gS' rfl)
    fun v' h2 tk2 pv2 kk2 => fin v' h2 tk2 pv2 fun b o nb nS e => kk2 b o nb nS ((Heap.get?_update_other _ _ (Ne.symm nS)).trans (kk b o nb e))⟩
theorem mxd_none (Wk : Walks prog w A.in1 I f1 wr 0 P St) (sep : S ∉ f1) {s : Shared} {c : Nat} {x : Str} {d : Value} (st : St 0 s.heap)
    (gS : s.heap.get? S = some { cls := .type "list", dict := none, data := .seq #[] c, slots := #[] })
    (fin : ∀ h' tk, (∀ b o, b ∉ wr → b ≠ S → s.heap.get? b = some o → h'.get? b = some o) → R (.ok (.ret d)) { s with heap := h', toks := tk }) : codeAny (model prog w) A (.builtin "max.loop" ⟨[.ref I, .none, .ref S], [(x, d)]⟩) R s := by
  refine codeAny_builtin F.entry_max_loop ?_
  rw [Around.under_plainId F.plain_max_loop _]
  show wpAny _ A.in1 (seqItems? (.ref S) >>= _) _ _ s
  refine wpAny_bind (wpAny_seqItems gS rfl ?_)
  show wpAny _ A.in1 (tryCatch (pyNext (.ref I)) _ >>= _) _ _ s
  refine wpAny_bind (wpAny_tryCatch (Wk.done s _ _ st fun h' tk kk => ?_))
  exact wpAny_bind (wpAny_rule (wpAny_pure (fin h' tk fun b o nb _ e => kk b o nb e)))
end
section
variable {prog : Program} {w : World} {A : Around} {E : Value → Shared → Prop} {s : Shared} {l : Addr} {xs : Array (Int × Tok)} {d : Value}
theorem mxd_args (a d : Value) : argsOk "max" ⟨[a], [("default", d)]⟩ := by unfold argsOk; kernel_rfl
theorem mxd_entry {Q : Value → Shared → Prop} (h : wpAny (model prog w) A.in1 (pyIter (.ref l)) (fun it s2 => ∃ I f1 wr n P St bt, it = .ref I ∧ Walks prog w A.in1 I f1 wr n P St ∧ St 0 s2.heap ∧ (∀ b ∈ f1, b < s2.heap.objs.size) ∧ CmpOf prog w A.in1 .Gt P bt ∧
      (n = 0 → ∀ h' tk, (∀ b o, b ∉ wr → s2.heap.get? b = some o → h'.get? b = some o) → Q d { s2 with heap := h', toks := tk }) ∧
      (0 < n → ∀ v h' tk, P (argBest bt (n - 1)) v → (∀ b o, b ∉ wr → s2.heap.get? b = some o → h'.get? b = some o) → Q v { s2 with heap := h', toks := tk })) E s) :
    wpAny (model prog w) A (call (.builtin "max") [.ref l] [("default", d)]) Q E s := by
  refine wpAny_call (codeAny_call_builtin F.plain_max F.entry_max ?_)
  have e : checkBuiltinCall "max" ⟨[.ref l], [("default", d)]⟩ = pure () := by
    have ha := mxd_args (.ref l) d
    simp only [checkBuiltinCall, F.kind_max]
    unfold argsOk at ha
    cases hs : Manifest.signature? "max" with
    | none => rfl
    | some sig => rw [hs] at ha; exact ha
  rw [e]
  refine wpAny_pure ?_
  show wpAny _ A.in1 (Builtin.Builtins.bindParams "max" ["key", "default"] 0 ⟨[], [("default", d)]⟩ >>= _) _ _ s
  refine wpAny_bind (wpAny_of_eq (show Builtin.Builtins.bindParams "max" ["key", "default"] 0 ⟨[], [("default", d)]⟩ = pure [none, some d] from rfl) ?_)
  refine wpAny_bind (wpAny_pure ?_)
  refine wpAny_bind (wpAny_mono h (fun it s2 h2 => ?_) fun _ _ e => e)
  obtain ⟨I, f1, wr, n, P, St, bt, rfl, Wk, st, below, cmp, q0, q1⟩ := h2
  refine wpAny_bind (wpAny_newObj_type ?_)
  have sep : s2.heap.objs.size ∉ f1 := fun hm => Nat.lt_irrefl _ (below _ hm)
  rw [mx_name]
  have st2 := Wk.frame _ _ _ st fun b _ o e => Heap.get?_push_of_some { cls := .type "list", data := .seq #[] } e
  rcases Nat.eq_zero_or_pos n with z | pos
  · subst z
    exact wpAny_pure ⟨plainId_quiet F.plain_max_loop _, mxd_none Wk sep st2 (Heap.get?_push_size _ rfl) fun h' tk kk => q0 rfl h' tk fun b o nb e => kk b o nb (Nat.ne_of_lt (Heap.lt_size e)) (Heap.get?_push_of_some _ e)⟩
  · exact wpAny_pure ⟨plainId_quiet F.plain_max_loop _, mxd_first Wk bt cmp sep pos st2 (Heap.get?_push_size _ rfl) fun v h' tk pv kk => q1 pos v h' tk pv fun b o nb e => kk b o nb (Nat.ne_of_lt (Heap.lt_size e)) (Heap.get?_push_of_some _ e)⟩
end
section
variable {X : Cx}
def rMaxDef (K : PySem.W.Frag) : List V → List V → Hp → VK → Prop := fun xs zs H Q => ∃ (l : Addr) (ns : List Int) (d : Int), xs = [.ref l] ∧ zs = [.int d] ∧ SqL K H l (ns.map V.int) ∧ (ns = [] → Q (.int d) H) ∧ (∀ m, m ∈ ns → (∀ y, y ∈ ns → y ≤ m) → Q (.int m) H)
theorem call_maxDef (hc : X.calm = true) : CallRK X (.builtin "max") ["default"] (rMaxDef X.K) := by
  intro pins s σ H xs zs us ws Q I r1 r2 h
  obtain ⟨l, ns, d, rfl, rfl, hs, q0, q1⟩ := h
  obtain ⟨its, rv, hl, _⟩ := I.list hs
  obtain ⟨u, rfl, ru⟩ := vals1 r2
  obtain ⟨td, rfl⟩ := ru
  rw [Vals.ref1 r1]
  have hi := rv.ints
  obtain ⟨as, e⟩ := hi.allInts.items
  have hn : numsOf (intItems as).toList = ns := by rw [← e]; exact hi.numsOf
  rw [nums_intItems] at hn
  subst hn
  have hl2 := hl.isList
  rw [e] at hl2
  show wpAny _ _ (call (.builtin "max") [.ref l] [("default", .int d td)]) _ _ _
  refine mxd_entry (iter_intList hl2 fun s2 e st below hlI => ?_)
  subst e
  refine ⟨_, _, _, _, _, _, _, rfl, Walks.list (A := X.A.in1) (I.ok.hd hc) _ l hlI (intItems as), st, below, CmpOf.ints_gt (numAt as) (fun _ _ => intItems_at), fun hz h' tk kk => ?_, fun pos v h' tk pv kk => ?_⟩
  · have e0 : as.size = 0 := by simpa [intItems] using hz
    exact ⟨.int d, H, I.kept (old_kept kk), ⟨_, rfl⟩, q0 (by rw [Array.eq_empty_of_size_eq_zero e0]; rfl)⟩
  · have p0 : 0 < as.size := by simpa [intItems] using pos
    have pv' : (intItems as)[argBest (fun i j => decide (numAt as i > numAt as j)) (as.size - 1)]? = some v := by simpa [intItems] using pv
    obtain ⟨t, rfl⟩ := intItems_at pv'
    obtain ⟨h1, h2⟩ := argBest_gt (numAt as) (as.size - 1)
    refine ⟨.int _, H, I.kept (old_kept kk), ⟨t, rfl⟩, q1 _ ?_ fun a ha => ?_⟩
    · rw [numAt_eq]
      exact PySem.getD_mem (by rw [List.length_map, Array.length_toList]; omega)
    · obtain ⟨j, hj, rfl⟩ := mem_getD ha
      rw [List.length_map, Array.length_toList] at hj
      rw [← numAt_eq]
      exact h2 j (by omega)
end
end Rz

namespace Rz
open PySem PySem.Spec PyProof.Rows L2
/-! ### rows: pairs of a sign's code and a height -/
abbrev Pr := Nat × Int
def prV (p : Pr) : List V := [.str ⟨#[p.1]⟩, .int p.2]
/-- the tuples ts are the pairs ps -/
def PAt (H : Hp) (ts : List Addr) (ps : List Pr) : Prop := Paired (fun (t : Addr) (p : Pr) => H t = some (.tup (prV p))) ts ps
/-- a list of such tuples -/
def LAt (H : Hp) (l : Addr) (ps : List Pr) : Prop := ∃ ts : List Addr, H l = some (.lst (ts.map V.ref)) ∧ PAt H ts ps
/-- a row: its list stands at l -/
def RAt (cR : Addr) (H : Hp) (p l : Addr) (ps : List Pr) : Prop := ∃ dx, H p = some (.ins cR dx [("_pairs", .ref l)]) ∧ LAt H l ps
/-- signs with heights -/
def GoodR (ps : List Pr) : Prop := ∀ p ∈ ps, oddC p.1 = false ∧ 0 ≤ p.2 ∧ p.2 ≤ 9
def tx (ps : List Pr) : Str := ⟨(ps.map (·.1)).toArray⟩
def hts (ps : List Pr) : List Int := ps.map (·.2)
theorem tx_len (ps : List Pr) : (tx ps).length = ps.length := by
  show (ps.map (·.1)).toArray.size = _
  rw [List.size_toArray, List.length_map]
theorem tx_list (ps : List Pr) : (tx ps).cps.toList = ps.map (·.1) := rfl
theorem hts_len (ps : List Pr) : (hts ps).length = ps.length := List.length_map ..
/-- tuples stay -/
def Tups (H H' : Hp) : Prop := ∀ b xs, H b = some (.tup xs) → H' b = some (.tup xs)
theorem Tups.of {H H' : Hp} (h : Same H H') : Tups H H' := fun b _ e => h b _ e
theorem Tups.but {D : List Addr} {H H' : Hp} (h : But D H H') (n : ∀ d ∈ D, ∀ xs, H d ≠ some (.tup xs)) : Tups H H' := fun b xs e => h b _ (fun hb => n b hb xs e) e
theorem Tups.trans {H H1 H2 : Hp} (a : Tups H H1) (b : Tups H1 H2) : Tups H H2 := fun c xs e => b c xs (a c xs e)
theorem Tups.upd {H H' : Hp} {p : Addr} {o : HO} (a : Tups H H') (n : ∀ xs, H' p ≠ some (.tup xs)) : Tups H (L2.upd H' p o) := fun c xs e => by
  have e1 := a c xs e
  rw [upd_ne (fun z => n xs (by rw [← z]; exact e1))]
  exact e1
theorem PAt.keep {H H' : Hp} (h : Tups H H') : ∀ {ts : List Addr} {ps : List Pr}, PAt H ts ps → PAt H' ts ps
  | _, _, .nil => .nil
  | _, _, .cons e t => .cons (h _ _ e) (PAt.keep h t)
theorem PAt.length {H : Hp} {ts : List Addr} {ps : List Pr} (h : PAt H ts ps) : ts.length = ps.length := Paired.length h
theorem PAt.append {H : Hp} : ∀ {ts us : List Addr} {ps qs : List Pr}, PAt H ts ps → PAt H us qs → PAt H (ts ++ us) (ps ++ qs)
  | _, _, _, _, .nil, s => s
  | _, _, _, _, .cons e t, s => .cons e (PAt.append t s)
theorem PAt.set {H : Hp} {t : Addr} {p : Pr} (e : H t = some (.tup (prV p))) : ∀ {ts : List Addr} {ps : List Pr} (i : Nat), PAt H ts ps → PAt H (ts.set i t) (ps.set i p)
  | _, _, _, .nil => .nil
  | _, _, 0, .cons _ r => .cons e r
  | _, _, i + 1, .cons a r => .cons a (PAt.set e i r)
theorem PAt.rep {H : Hp} {ts : List Addr} {ps : List Pr} (h : PAt H ts ps) : ∀ n : Nat, PAt H (List.replicate n ts).flatten (List.replicate n ps).flatten
  | 0 => .nil
  | n + 1 => by
    rw [List.replicate_succ, List.replicate_succ, List.flatten_cons, List.flatten_cons]
    exact PAt.append h (PAt.rep h n)
theorem PAt.get {H : Hp} : ∀ {ts : List Addr} {ps : List Pr} {i : Nat} {t : Addr}, PAt H ts ps → ts[i]? = some t → ∃ p, ps[i]? = some p ∧ H t = some (.tup (prV p))
  | _, _, i, t, .nil, h => by cases h
  | _, _, 0, t, .cons e r, h => by
    have z := Option.some.inj h
    subst z
    exact ⟨_, rfl, e⟩
  | _, _, i + 1, t, .cons e r, h => PAt.get (i := i) r (by simpa using h)
theorem refs_get {ts : List Addr} {i : Nat} {y : V} (h : (ts.map V.ref)[i]? = some y) : ∃ t, ts[i]? = some t ∧ y = .ref t := by
  rw [List.getElem?_map] at h
  cases e : ts[i]? with
  | none => rw [e] at h; cases h
  | some u => rw [e] at h; exact ⟨u, rfl, (Option.some.inj h).symm⟩
theorem LAt.keep {H H' : Hp} {l : Addr} {ps : List Pr} (h : Tups H H') (e : H' l = H l) (a : LAt H l ps) : LAt H' l ps := let ⟨ts, h1, h2⟩ := a; ⟨ts, e.trans h1, h2.keep h⟩
theorem LAt.same {H H' : Hp} {l : Addr} {ps : List Pr} (h : Same H H') (a : LAt H l ps) : LAt H' l ps := let ⟨ts, h1, h2⟩ := a; ⟨ts, h _ _ h1, h2.keep (.of h)⟩
theorem LAt.at {H : Hp} {l : Addr} {ps : List Pr} (a : LAt H l ps) : ∃ ts : List Addr, H l = some (.lst (ts.map V.ref)) ∧ ts.length = ps.length := let ⟨ts, h1, h2⟩ := a; ⟨ts, h1, h2.length⟩
theorem RAt.same {H H' : Hp} {cR p l : Addr} {ps : List Pr} (h : Same H H') (a : RAt cR H p l ps) : RAt cR H' p l ps := let ⟨dx, h1, h2⟩ := a; ⟨dx, h _ _ h1, h2.same h⟩
theorem RAt.keep {H H' : Hp} {cR p l : Addr} {ps : List Pr} (h : Tups H H') (e : H' p = H p) (e2 : H' l = H l) (a : RAt cR H p l ps) : RAt cR H' p l ps := let ⟨dx, h1, h2⟩ := a; ⟨dx, e.trans h1, h2.keep h e2⟩
/-- what list(zip(signs, heights)) gives -/
theorem zkv_pairs {H : Hp} {ts : List Addr} {x : Str} {ns : List Int} (h : Paired (fun (t : Addr) (u : Key × V) => H t = some (.tup [kV u.1, u.2])) ts (zkv x (ns.map V.int))) : PAt H ts (x.cps.toList.zip ns) := by
  unfold zkv at h
  generalize x.cps.toList = cs at h ⊢
  induction cs generalizing ts ns with
  | nil => cases h; exact .nil
  | cons c cs ih =>
    cases ns with
    | nil => cases h; exact .nil
    | cons n ns =>
      cases h with
      | cons e r => exact .cons e (ih r)
theorem join_signs (ps : List Pr) : Txt.join "" (ps.map fun p => (⟨#[p.1]⟩ : Str)) = tx ps := by
  have h := join0 (ps.map fun p => (⟨#[p.1]⟩ : Str))
  have e : ((ps.map fun p => (⟨#[p.1]⟩ : Str)).map fun y => y.cps.toList).flatten = ps.map (·.1) := by
    rw [List.map_map]
    clear h
    induction ps with
    | nil => rfl
    | cons p ps ih => rw [List.map_cons, List.flatten_cons, ih]; rfl
  rw [e] at h
  generalize Txt.join "" (ps.map fun p => (⟨#[p.1]⟩ : Str)) = j at h
  cases j with
  | mk a =>
    have h2 : a = (ps.map (·.1)).toArray := by
      rw [← h]
    rw [h2]
    rfl
theorem zip_tx {z : Str} {ns : List Int} (h : ns.length = z.length) : (z.cps.toList.zip ns).map (·.1) = z.cps.toList := by
  rw [List.map_fst_zip]
  rw [h]
  exact Nat.le_refl _
theorem zip_hts {z : Str} {ns : List Int} (h : ns.length = z.length) : (z.cps.toList.zip ns).map (·.2) = ns := by
  rw [List.map_snd_zip]
  rw [h]
  exact Nat.le_refl _
theorem tx_hts_zip (ps : List Pr) : (tx ps).cps.toList.zip (hts ps) = ps := by
  rw [tx_list]
  induction ps with
  | nil => rfl
  | cons p ps ih =>
    show (p.1, p.2) :: _ = _
    exact congrArg (p :: ·) ih
/-- a height that is none -/
def badH (n : Int) : Bool := decide (n < 0) || decide (9 < n)
/-- what becomes of Row(z, ns) -/
inductive RR | sign (i : Nat) | uneven | height (n : Int) | row
def rr (z : Str) (ns : List Int) : RR := match fo z with
  | some i => .sign i
  | none => if ns.length ≠ z.length then .uneven else match ns.find? badH with
    | some n => .height n
    | none => .row
theorem rr_good {ps : List Pr} (h : GoodR ps) : rr (tx ps) (hts ps) = .row := by
  have e1 : fo (tx ps) = none := fo_none fun j c hj => by
    rw [tx_list, List.getElem?_map] at hj
    cases e : ps[j]? with
    | none => rw [e] at hj; cases hj
    | some p =>
      rw [e] at hj
      have e2 := Option.some.inj hj
      rw [← e2]
      exact (h p (List.mem_of_getElem? e)).1
  have e2 : (hts ps).find? badH = none := by
    rw [List.find?_eq_none]
    intro n hn
    obtain ⟨p, hp, rfl⟩ := List.mem_map.mp hn
    have h2 := (h p hp).2
    unfold badH
    simp
    omega
  unfold rr
  rw [e1]
  dsimp only
  rw [if_neg (by rw [tx_len, hts_len]; simp), e2]
end Rz
namespace Rz
open PySem PySem.Spec PyProof.Rows L2
/-- a comprehension over such a list -/
theorem lc_pairs {K : PySem.W.Frag} {l : Addr} {ps : List Pr} {g : TG} {te : TE} {vs : List Nat} {σ : L2.St} {H1 : Hp} {D : Addr} {Qd : Hp → Prop} (f : Pr → V) (hL : LAt H1 l ps) (hz : ps.length ≤ sizeLine) (hD : H1 D = none)
    (body : ∀ (t : Addr) (p : Pr) (H : Hp) (Q : VK), p ∈ ps → Same H1 H → H t = some (.tup (prV p)) → (∀ H4, Same H H4 → Q (f p) H4) → g (.ref t) (wipe σ vs) H fun σ2 H2 => wipe σ2 vs = wipe σ vs ∧ te σ2 H2 Q)
    (hd : ∀ H, Same H1 H → H D = some (.lst (ps.map f)) → Qd H) :
    ∃ W : Nat → Nat → Hp → Prop, (∃ m, W 0 m (upd H1 D (.lst []))) ∧ ∀ i m H, W i m H →
      ((Itl K l).stop i H ∧ Qd H) ∨ ((Itl K l).go i H ∧ ∃ Nx : Hp → Prop, (∀ H', Nx H' → ∃ m', m' < m ∧ W (i + 1) m' H') ∧ ∀ x H', (Itl K l).yld i H x H' → g x (wipe σ vs) H' fun σ2 H2 => wipe σ2 vs = wipe σ vs ∧ tYes σ2 H2 fun b H3 =>
        if b = true then te σ2 H3 fun y H4 => ∃ acc, H4 D = some (.lst acc) ∧ acc.length < sizeLine ∧ Nx (upd H4 D (.lst (acc ++ [y]))) else Nx H3) := by
  obtain ⟨ts, hl, hP⟩ := hL
  refine lc_list (K := K) (a := l) (xs := ts.map V.ref) (fun i H => Same H1 H ∧ H D = some (.lst ((ps.take i).map f))) ⟨Rz.Same.new (Same.refl H1) hD, upd_same⟩ (fun i H _ h => SqL.of (h.1 _ _ hl)) (fun i x H hx h => ?_) (fun H h => hd H h.1 ?_)
  · obtain ⟨S, e⟩ := h
    obtain ⟨t, ht, rfl⟩ := refs_get hx
    obtain ⟨p, hp, h2⟩ := hP.get ht
    have hi : i < ps.length := (List.getElem?_eq_some_iff.mp hp).1
    refine body t p H _ (List.mem_of_getElem? hp) S (S _ _ h2) fun H4 S4 => ⟨_, S4 _ _ e, ?_, Rz.Same.upd (S.trans S4) hD, ?_⟩
    · rw [List.length_map, List.length_take]
      omega
    · rw [upd_same, List.take_add_one, hp, List.map_append]
      rfl
  · have := h.2
    rw [List.length_map, hP.length, List.take_length] at this
    exact this
end Rz
namespace Rz
open PySem PySem.Spec PyProof.Rows L2
theorem LAt.but {D : List Addr} {H H' : Hp} {l : Addr} {ps : List Pr} (a : LAt H l ps) (B : But D H H') (n : l ∉ D) (t : Tups H H') : LAt H' l ps := let ⟨ts, h1, h2⟩ := a; ⟨ts, B.at h1 n, h2.keep t⟩
theorem RAt.but {D : List Addr} {H H' : Hp} {cR p l : Addr} {ps : List Pr} (a : RAt cR H p l ps) (B : But D H H') (n1 : p ∉ D) (n2 : l ∉ D) (t : Tups H H') : RAt cR H' p l ps := let ⟨dx, h1, h2⟩ := a; ⟨dx, B.at h1 n1, h2.but B n2 t⟩
theorem LAt.upd {H : Hp} {l q : Addr} {ps : List Pr} {o : HO} (a : LAt H l ps) (n : l ≠ q) (t : ∀ xs, H q ≠ some (.tup xs)) : LAt (L2.upd H q o) l ps := let ⟨ts, h1, h2⟩ := a; ⟨ts, by rw [upd_ne n]; exact h1, h2.keep (Tups.upd (fun _ _ e => e) t)⟩
theorem RAt.upd {H : Hp} {cR p l q : Addr} {ps : List Pr} {o : HO} (a : RAt cR H p l ps) (n1 : p ≠ q) (n2 : l ≠ q) (t : ∀ xs, H q ≠ some (.tup xs)) : RAt cR (L2.upd H q o) p l ps := let ⟨dx, h1, h2⟩ := a; ⟨dx, by rw [upd_ne n1]; exact h1, h2.upd n2 t⟩
theorem Dr.but {D : List Addr} {H H' : Hp} {d : Addr} (a : Dr H d) (B : But D H H') (n : d ∉ D) : Dr H' d := let ⟨ns, h1, h2⟩ := a; ⟨ns, B.at h1 n, h2⟩
theorem Dr.upd {H : Hp} {d q : Addr} {o : HO} (a : Dr H d) (n : d ≠ q) : Dr (L2.upd H q o) d := let ⟨ns, h1, h2⟩ := a; ⟨ns, by rw [upd_ne n]; exact h1, h2⟩
theorem LAt.isL {H : Hp} {l : Addr} {ps : List Pr} (a : LAt H l ps) : ∃ xs, H l = some (.lst xs) := let ⟨ts, h1, _⟩ := a; ⟨_, h1⟩
theorem RAt.isI {H : Hp} {cR p l : Addr} {ps : List Pr} (a : RAt cR H p l ps) : ∃ dx fs, H p = some (.ins cR dx fs) := let ⟨dx, h1, _⟩ := a; ⟨dx, _, h1⟩
theorem RAt.lst {H : Hp} {cR p l : Addr} {ps : List Pr} (a : RAt cR H p l ps) : LAt H l ps := let ⟨_, _, h⟩ := a; h
theorem Dr.isL {H : Hp} {d : Addr} (a : Dr H d) : ∃ xs, H d = some (.lst xs) := let ⟨ns, h1, _⟩ := a; ⟨_, h1⟩
/-- a list and a row stand apart -/
theorem apartLI {H : Hp} {l p cR m : Addr} {ps : List Pr} (h : ∃ xs, H l = some (.lst xs)) (r : RAt cR H p m ps) : l ≠ p := by
  obtain ⟨xs, e⟩ := h
  obtain ⟨dx, fs, e2⟩ := r.isI
  exact ne_of e e2 fun z => nomatch z
theorem apartLT {H : Hp} {l t : Addr} {ys : List V} (h : ∃ xs, H l = some (.lst xs)) (e2 : H t = some (.tup ys)) : l ≠ t := by
  obtain ⟨xs, e⟩ := h
  exact ne_of e e2 fun z => nomatch z
theorem apartNew {H : Hp} {x y : Addr} (h : ∃ o, H x = some o) (n : H y = none) : x ≠ y := let ⟨_, e⟩ := h; ne_of_none e n
theorem LAt.some {H : Hp} {l : Addr} {ps : List Pr} (a : LAt H l ps) : ∃ o, H l = Option.some o := let ⟨ts, h1, _⟩ := a; ⟨_, h1⟩
theorem RAt.some {H : Hp} {cR p l : Addr} {ps : List Pr} (a : RAt cR H p l ps) : ∃ o, H p = Option.some o := let ⟨dx, h1, _⟩ := a; ⟨_, h1⟩
theorem Dr.some {H : Hp} {d : Addr} (a : Dr H d) : ∃ o, H d = Option.some o := let ⟨ns, h1, _⟩ := a; ⟨_, h1⟩
theorem not_tupL {H : Hp} {l : Addr} (h : ∃ xs, H l = some (.lst xs)) : ∀ xs, H l ≠ some (.tup xs) := fun ys e => by
  obtain ⟨xs, e2⟩ := h
  rw [e2] at e
  cases e
theorem not_tupI {H : Hp} {cR p l : Addr} {ps : List Pr} (r : RAt cR H p l ps) : ∀ xs, H p ≠ some (.tup xs) := fun ys e => by
  obtain ⟨dx, fs, e2⟩ := r.isI
  rw [e2] at e
  cases e
theorem not_tupN {H : Hp} {p : Addr} (h : H p = none) : ∀ xs, H p ≠ some (.tup xs) := fun ys e => by
  rw [h] at e
  cases e
theorem tups1 {H H' : Hp} {x : Addr} (B : But [x] H H') (n : ∀ xs, H x ≠ some (.tup xs)) : Tups H H' := Tups.but B fun d hd xs => by
  have e : d = x := by simpa using hd
  rw [e]
  exact n xs
theorem nin1 {x y : Addr} (n : x ≠ y) : x ∉ [y] := by simpa using n
end Rz

namespace Rz
open PySem PySem.Spec PyProof.Rows L2
/-! ### slice objects as values; own classes that are asked with slices -/
theorem sl_ga_slot : Slot "slice" "__getattribute__" "slice.__getattribute__" :=
  .of (owner := "slice") (n := "__getattribute__") (by rw [typeLookup_type, builtinLookup_eq_fast]; kernel_rfl) (by decide +kernel) (by decide +kernel) (by decide +kernel) (by first | exact .inl (by decide +kernel) | exact .inr (by decide +kernel)) (by rw [isSubtype_type]; kernel_rfl)
theorem sl_ga_args (a b : Value) : argsOk "slice.__getattribute__" ⟨[a, b], []⟩ := by unfold argsOk; kernel_rfl
theorem sl_ga_entry : entryFor table "slice.__getattribute__" = some Builtin.«object.__getattribute__» := entryFor_alias (id' := "object.__getattribute__") (by kernel_rfl) (by first | rfl | decide +kernel) (by decide +kernel) (by kernel_rfl)
theorem sl_lk_class : typeLookup (.type "slice") "__class__" = pure (some (.builtin "object.__class__")) := by rw [typeLookup_type, builtinLookup_eq_fast]; kernel_rfl
theorem sl_sub_owner : isSubtype (.type "slice") (.type (".".intercalate ("object.__class__".cutAt '.').dropLast)) = pure true := by rw [F.owner_object_class, isSubtype_type]; kernel_rfl
section
variable {prog : Program} {w : World} {A : Around} {E : Value → Shared → Prop} {h : Heap} {g : Array GenState} {d : Drawn} {t : Nat} {os : OsState} {a : Addr} {o : Obj}
theorem sl_class_get {R : Result → Shared → Prop} (hx : h.get? a = some o) (hc : o.cls = .type "slice") (hq : R (.ok (.ret (.type "slice"))) ⟨h, g, d, t, os⟩) : codeAny (model prog w) A (.call (.builtin "getset_descriptor.__get__") ⟨[.builtin "object.__class__", .ref a, .type "slice"], []⟩) R ⟨h, g, d, t, os⟩ := by
  have hTs : (⟨h, g, d, t, os⟩ : Shared).TypeIs (.ref a) "slice" := ⟨_, hx, hc⟩
  have hTg : (⟨h, g, d, t, os⟩ : Shared).TypeIs (.builtin "object.__class__") "getset_descriptor" := F.typeOf_object_class
  have f1 := sl_sub_owner
  refine codeAny_call_builtin F.slot_gs_get.plain F.entry_gs_get (F.slot_gs_get.check _ _ _ _ _ _ _ _ hTg (F.args_gs_get _ _ _) ?_)
  repeat (any_goals (first | assumption | wp_step))
  refine ⟨Code.quiet_builtin _ (by decide +kernel), codeAny_builtin F.entry_object_class ?_⟩
  repeat (any_goals (first | assumption | wp_step))
theorem sl_class_entry {tk : Tok} {Q : Fin → Shared → Prop} (hx : h.get? a = some o) (hc : o.cls = .type "slice") (hq : Q (.done (.ret (.type "slice"))) ⟨h, g, d, t, os⟩) : wpAny (model prog w) A (Builtin.«object.__getattribute__» ⟨[.ref a, .str "__class__" tk], []⟩) Q E ⟨h, g, d, t, os⟩ := by
  have hTs : (⟨h, g, d, t, os⟩ : Shared).TypeIs (.ref a) "slice" := ⟨_, hx, hc⟩
  have hTg : (⟨h, g, d, t, os⟩ : Shared).TypeIs (.builtin "object.__class__") "getset_descriptor" := F.typeOf_object_class
  have f1 := sl_lk_class
  have f2 := F.typeOf_object_class
  have f3 := F.slot_gs_get.lookup
  have f4 := F.slot_gs_set.lookup
  repeat (any_goals (first | assumption | wp_step))
  refine sl_class_get hx hc ?_
  repeat (any_goals (first | assumption | wp_step))
theorem sl_class_call {tk : Tok} {R : Result → Shared → Prop} (hx : h.get? a = some o) (hc : o.cls = .type "slice") (hq : R (.ok (.ret (.type "slice"))) ⟨h, g, d, t, os⟩) : codeAny (model prog w) A (.call (.builtin "slice.__getattribute__") ⟨[.ref a, .str "__class__" tk], []⟩) R ⟨h, g, d, t, os⟩ :=
  codeAny_call_builtin sl_ga_slot.plain sl_ga_entry (sl_ga_slot.check _ _ _ _ _ _ _ _ (show (⟨h, g, d, t, os⟩ : Shared).TypeIs (.ref a) "slice" from ⟨_, hx, hc⟩) (sl_ga_args _ _) (sl_class_entry hx hc hq))
theorem sl_class_by {tk : Tok} {Q : Value → Shared → Prop} (hx : h.get? a = some o) (hc : o.cls = .type "slice") (hq : Q (.type "slice") ⟨h, g, d, t, os⟩) : wpAny (model prog w) A (getAttrBy (.ref a) (.str "__class__" tk) false) Q E ⟨h, g, d, t, os⟩ := by
  have hTs : (⟨h, g, d, t, os⟩ : Shared).TypeIs (.ref a) "slice" := ⟨_, hx, hc⟩
  have f1 := sl_ga_slot.lookup
  have f2 := sl_ga_slot.bind (.ref a)
  repeat (any_goals (first | assumption | wp_step))
  refine sl_class_call hx hc ?_
  repeat (any_goals (first | assumption | wp_step))
theorem sl_class_attr {Q : Option Value → Shared → Prop} (hx : h.get? a = some o) (hc : o.cls = .type "slice") (hq : Q (some (.type "slice")) ⟨h, g, d, t + 1, os⟩) : wpAny (model prog w) A (getAttr? (.ref a) "__class__") Q E ⟨h, g, d, t, os⟩ := by
  unfold getAttr? getAttrBy?
  repeat (any_goals (first | assumption | with_reducible apply sl_class_by hx hc | wp_step))
end
/-- the slice lo:hi stands at a -/
def SlO (a : Addr) (lo hi : Int) : HO := .ext fun h => ∃ t u, h.IsSliceOf a (.int lo t) (.int hi u) .none
theorem slO_ok {P : Program} {w : World} {H : Hp} {h : Heap} {a : Addr} {lo hi : Int} {t u : Tok} (e : h.IsSliceOf a (.int lo t) (.int hi u) .none) : ObjOk P w H h a (SlO a lo hi) := by
  obtain ⟨o, e1, r⟩ := e
  exact ⟨⟨t, u, o, e1, r⟩, ⟨o, e1⟩, fun h1 h2 ⟨t, u, o, e1, r⟩ k => ⟨t, u, o, k _ e1, r⟩⟩
theorem slO_get {X : Cx} {pins : List (Addr × Obj)} {σ : L2.St} {H : Hp} {s : Shared} {a : Addr} {lo hi : Int} (I : Inv X pins σ H s) (e : H a = some (SlO a lo hi)) : ∃ t u, s.heap.IsSliceOf a (.int lo t) (.int hi u) .none := by
  obtain ⟨p, _, _⟩ := (show ObjOk X.prog X.w H s.heap a (SlO a lo hi) from I.hok a _ e)
  exact p
section
variable {X : Cx} {k : Nat} {f C : Addr} {fd : FuncData} {ps : List Str} {sp : Sp}
/-- isinstance(x, T) of a slice -/
theorem call_isiSl : CallR X (.builtin "isinstance") (fun xs H Q => ∃ (a : Addr) (lo hi : Int) (c : V) (u : Value) (b : Bool), xs = [.ref a, c] ∧ ClsV c u ∧ H a = some (SlO a lo hi) ∧ PySem.W.kitOne X.K (.type "slice") u = some b ∧ Q (.bl b) H) := by
  intro pins s σ H xs us Q I r h
  obtain ⟨a, lo, hi, c, u, b, rfl, kc, ea, e, q⟩ := h
  obtain ⟨u1, u2, rfl, r1, r2⟩ := vals2 r
  have e2 := kc.eq r2
  subst e2
  obtain rfl : u1 = Value.ref a := r1
  obtain ⟨t, u, o, e1, hc, _⟩ := slO_get I ea
  have Z : PySem.W.KitX X.K (.ref a) (.type "slice") (PySem.W.KitAt a "slice") := PySem.W.kitx_of PySem.W.kitAt_ty (fun {_ _ _ _ _ s} p k => by obtain ⟨h, g, d, t, os⟩ := s; obtain ⟨o, h1, h2⟩ := p; exact sl_class_attr h1 h2 k)
  exact PySem.W.kia_one Z I.kIn ⟨o, e1, hc⟩ e (fun z => nomatch z) fun tk => ⟨.bl b, H, I.tok tk, rfl, q⟩
/-- xs[s] of a list, s a slice -/
theorem ix_sliceV : IxR X (fun x y H Q => ∃ (p sl : Addr) (lo hi : Int) (xs : List V), x = .ref p ∧ y = .ref sl ∧ SqL X.K H p xs ∧ H sl = some (SlO sl lo hi) ∧ ∀ q, H q = none → Q (.ref q) (upd H q (.lst (cutV xs (some lo) (some hi))))) := by
  intro value slice pins s σ H x y v u Q I rx ry h hs
  obtain ⟨p, sl, lo, hi, xs, rfl, rfl, hq, es, q⟩ := h
  cases rx
  cases ry
  obtain ⟨t, u, hsl⟩ := slO_get I es
  obtain ⟨its, r, pl, hz⟩ := I.list hq
  have hlen := r.length
  refine tail_any (ops := [.ref p, .ref sl]) pl.isList.typeIs slot_list_getitem.lookup ?_ hs
  refine wpAny_getItem_list_slice pl.isList hsl (.int _ _) (.int _ _) .none (by simp) ?_ (by rw [List.size_toArray] <;> omega)
  rw [slicePick_cut, ← hlen]
  refine ⟨.ref s.heap.objs.size, _, I.laid (t' := s.toks) (o := .lst (cutV xs (some lo) (some hi))) (fun b ob q => Heap.get?_push_of_some _ q) (Nat.le_refl _) ?_, rfl, q _ (I.hok.fresh (Nat.le_refl _))⟩
  exact ⟨Nat.le_trans (cutV_length xs _ _) hz, _, 0, (r.drop _).take _, Heap.get?_push_size _ rfl⟩
/-- xs[s] = ys of lists, s a slice -/
theorem set_sliceV : PSet X (fun o i v H Q => ∃ (l b sl : Addr) (lo hi : Int) (xs ys : List V), o = .ref l ∧ i = .ref sl ∧ v = .ref b ∧ H l = some (.lst xs) ∧ H b = some (.lst ys) ∧ H sl = some (SlO sl lo hi) ∧ l ≠ b ∧ 0 ≤ lo ∧ lo ≤ hi ∧ hi ≤ xs.length ∧ xs.length + ys.length ≤ sizeLine ∧
    Q (upd H l (.lst (xs.take lo.toNat ++ ys ++ xs.drop hi.toNat)))) := by
  intro pins s σ H o i v ov iv u Q I r1 r2 r3 h
  obtain ⟨l, b, sl, lo, hi, xs, ys, rfl, rfl, rfl, hl, hb, es, ne, h0, h1, h2, hz, q⟩ := h
  cases r1
  cases r2
  cases r3
  obtain ⟨t, u, hsl⟩ := slO_get I es
  exact set_slice I hl hb ne hsl ⟨_, rfl⟩ ⟨_, rfl⟩ h0 h1 h2 hz fun s' I' => ⟨_, I', q⟩
variable {e : Expr} {lo hi : Expr} {te : TE} {tl th : TE} {pos p2 : Pos}
theorem sub_own {x : Addr} {h₀ : Heap} {L : Addr} {m : Str → Option Value} {od : Option Obj} {ox : Obj} {prog : Program} {w : World} {A : Around} {E : Value → Shared → Prop} {s : Shared} {K : PySem.W.Frag} {value lo hi : Expr} {i : Value} {Q : Value → Shared → Prop} (hF : Fr h₀ L s.heap m) (hX : K.In h₀) (J : PySem.W.InstAt s.heap x ox C od) (M : Meth K C "__getitem__" f) (hn : PySem.W.noSeq K C = true) (hf : PySem.W.fnIn K f = true)
    (h : wpAny (model prog w) A (call (.ref f) [.ref x, i]) Q E s) : wpAny (model prog w) A (subscriptTail value (.Slice (some lo) (some hi) none p2) (.ref x) i) Q E s := by
  have Y := hX.keeps hF.keep
  unfold PySem.W.fnIn at hf
  split at hf
  · rename_i ef
    unfold subscriptTail getitemInPython
    refine wpAny_bind (wpAny_bind (wpAny_bind (J.type.here ((PySem.W.looks_findIn Y M.at_).here ?_))))
    dsimp only
    refine wpAny_bind (wpAny_load (Y _ _ ef) (wpAny_pure ?_))
    dsimp only
    show wpAny _ _ (operate [i, .ref x] (getItem (.ref x) i) >>= _) _ _ _
    refine wpAny_bind (wpAny_operating (PySem.W.getItem_K hF hX J hn M.at_ M.fn (wpAny_mono h (fun v s' z => ?_) fun _ _ z => z)))
    exact wpAny_bind (wpAny_letTemporaryGo (wpAny_pure z))
  · cases hf
theorem fn_in {x qual : Str} {st : Stmt} {g : Addr} {K : PySem.W.Frag} {gd : FuncData} (F : Fun K x qual st g gd) : PySem.W.fnIn K g = true := by
  obtain ⟨_, _, _, _, _, _, _, _, _, _, lk, _⟩ := F.ex
  unfold PySem.W.fnIn
  rw [lk]
/-- x[lo:hi] by the own __getitem__, nothing is raised -/
def tSlG (C : Addr) (sp : Sp) (te tl th : TE) : TE := fun σ H Q => te σ H fun x H1 => tl σ H1 fun l H2 => ∃ i, l = .int i ∧ th σ H2 fun u H3 => ∃ j, u = .int j ∧ ∃ (a dx : Addr) (fs : List (Str × V)), x = .ref a ∧ H3 a = some (.ins C dx fs) ∧ ∀ sl, H3 sl = none → sp [.ref a, .ref sl] (upd H3 sl (SlO sl i j)) Q E0
theorem pe_sliceG (M : Meth X.K C "__getitem__" f) (hn : PySem.W.noSeq X.K C = true) (hf : PySem.W.fnIn X.K f = true) (G : FnOk X.prog X.w X.K X.mg X.base (L2.CX X.prog X.w) k f fd ps sp) (hr : Room k X.A) (hb : Binds X.K fd ps []) (he : PE X e te) (hl : PE X lo tl) (hu : PE X hi th) : PE X (.Subscript e (.Slice (some lo) (some hi) none p2) pos) (tSlG C sp te tl th) := by
  refine ⟨fun pins s σ H Q I h => ?_⟩
  refine Subscript_ (thn (he.run pins s σ H _ I h) fun v s1 ⟨x, H1, I1, r1, q1⟩ => ?_)
  refine wpAny_Slice ?_
  rw [evalPart_some, evalPart_some, evalPart_none]
  refine thn (hl.run pins s1 σ H1 _ I1 q1) fun vl s2 ⟨l, H2, I2, r2, i, el, q2⟩ => thn (hu.run pins s2 σ H2 _ I2 q2) fun vu s3 ⟨u, H3, I3, r3, j, eu, a, dx, fs, ex, ea, q3⟩ => ?_
  subst el eu ex
  obtain ⟨t2, rfl⟩ := r2
  obtain ⟨t3, rfl⟩ := r3
  obtain rfl : v = Value.ref a := r1
  refine wpAny_pure ?_
  have nsl : H3 s3.heap.objs.size = none := I3.hok.fresh (Nat.le_refl _)
  have I4 := I3.laid (t' := s3.toks) (o := SlO s3.heap.objs.size i j) (fun b ob q => Heap.get?_push_of_some { cls := .type "slice", data := .fields #[.int i t2, .int j t3, .none] } q) (Nat.le_refl _) (slO_ok (Heap.IsSliceOf.new ..))
  have ea4 : upd H3 s3.heap.objs.size (SlO s3.heap.objs.size i j) a = some (.ins C dx fs) := by rw [upd_ne (ne_of_none ea nsl)]; exact ea
  obtain ⟨od, J⟩ := inst_at I4 ea4
  obtain ⟨m0, hF⟩ := I4.fr
  exact sub_own hF I4.ok.mod.kin J M hn hf (run_below (vs := [.ref a, .ref s3.heap.objs.size]) G hr rfl hb I4 (.cons rfl (.cons rfl .nil)) (q3 _ nsl))
/-- x[lo:hi] = v by the own __setitem__, nothing is raised -/
def gSlS (C : Addr) (sp : Sp) (te tl th : TE) : TG := fun v σ H Q => te σ H fun x H1 => tl σ H1 fun l H2 => ∃ i, l = .int i ∧ th σ H2 fun u H3 => ∃ j, u = .int j ∧ ∃ (a dx : Addr) (fs : List (Str × V)), x = .ref a ∧ H3 a = some (.ins C dx fs) ∧ ∀ sl, H3 sl = none → sp [.ref a, .ref sl, v] (upd H3 sl (SlO sl i j)) (fun _ H' => Q σ H') E0
theorem pg_sliceS (M : Meth X.K C "__setitem__" f) (hn : PySem.W.noSeq X.K C = true) (G : FnOk X.prog X.w X.K X.mg X.base (L2.CX X.prog X.w) k f fd ps sp) (hr : Room k X.A) (hb : Binds X.K fd ps []) (he : PE X e te) (hl : PE X lo tl) (hu : PE X hi th) : PG X (.Subscript e (.Slice (some lo) (some hi) none p2) pos) (gSlS C sp te tl th) := by
  refine ⟨fun pins s σ H v w Q I r h => ?_⟩
  show wpAny _ _ (do
    let ov ← holding [w] (eval e X.env)
    let iv ← holding [w, ov] (eval (.Slice (some lo) (some hi) none p2) X.env)
    standAt pos
    holding [w, ov, iv] (setItem ov iv w)
    release [iv, w, ov] []) _ _ _
  refine wpAny_bind (wpAny_holding (thn (he.run pins s σ H _ I h) fun ov s1 ⟨x, H1, I1, r1, q1⟩ => ?_))
  refine wpAny_bind (wpAny_holding (wpAny_Slice ?_))
  rw [evalPart_some, evalPart_some, evalPart_none]
  refine thn (hl.run pins s1 σ H1 _ I1 q1) fun vl s2 ⟨l, H2, I2, r2, i, el, q2⟩ => thn (hu.run pins s2 σ H2 _ I2 q2) fun vu s3 ⟨u, H3, I3, r3, j, eu, a, dx, fs, ex, ea, q3⟩ => ?_
  subst el eu ex
  obtain ⟨t2, rfl⟩ := r2
  obtain ⟨t3, rfl⟩ := r3
  obtain rfl : ov = Value.ref a := r1
  refine wpAny_pure ?_
  have nsl : H3 s3.heap.objs.size = none := I3.hok.fresh (Nat.le_refl _)
  have I4 := I3.laid (t' := s3.toks) (o := SlO s3.heap.objs.size i j) (fun b ob q => Heap.get?_push_of_some { cls := .type "slice", data := .fields #[.int i t2, .int j t3, .none] } q) (Nat.le_refl _) (slO_ok (Heap.IsSliceOf.new ..))
  have ea4 : upd H3 s3.heap.objs.size (SlO s3.heap.objs.size i j) a = some (.ins C dx fs) := by rw [upd_ne (ne_of_none ea nsl)]; exact ea
  obtain ⟨od, J⟩ := inst_at I4 ea4
  obtain ⟨m0, hF⟩ := I4.fr
  refine wpAny_bind (wpAny_standAt (wpAny_bind (wpAny_holding (PySem.W.ksp_setItem hF I4.ok.mod.kin J hn M.at_ M.fn (wpAny_mono (run_below (vs := [.ref a, .ref s3.heap.objs.size, v]) G hr rfl hb I4 (.cons rfl (.cons rfl (.cons r .nil))) (q3 _ nsl)) (fun r s' hv => ?_) fun _ _ z => z)))))
  obtain ⟨z, H', J', rz, q⟩ := hv
  exact wpAny_release ⟨σ, H', J', q⟩
/-- x[i] by the own __getitem__, that may raise -/
def tGetO (C : Addr) (sp : Sp) (E : EX) (te ti : TE) : TE := fun σ H Q => te σ H fun x H1 => ti σ H1 fun i H2 => ∃ (a dx : Addr) (fs : List (Str × V)), x = .ref a ∧ H2 a = some (.ins C dx fs) ∧ sp [.ref a, i] H2 Q (E σ)
theorem pe_getO {CX : CXT} {E : EX} {b : Expr} {ti : TE} (M : Meth X.K C "__getitem__" f) (hf : PySem.W.fnIn X.K f = true) (G : FnOk X.prog X.w X.K X.mg X.base CX k f fd ps sp) (hr : Room (k + 1) X.A) (hb : Binds X.K fd ps []) (hx : ∀ σ, PassesAt CX X σ (E σ)) (he : PE X e te) (hi : PE X b ti)
    (hsl : ∀ x i, subscripted b true (.ref x) i = runValue (.builtin "lifetime.subscript" ⟨[.ref x, i], []⟩) := by intro _ _; rfl) : PE X (.Subscript e b pos) (tGetO C sp E te ti) := by
  refine ⟨fun pins s σ H Q I h => ?_⟩
  refine Subscript_ (thn (he.run pins s σ H _ I h) fun v s1 ⟨x, H1, I1, r1, q1⟩ => thn (hi.run pins s1 σ H1 _ I1 q1) fun u s2 ⟨y, H2, I2, r2, a, dx, fs, ex, ea, q2⟩ => ?_)
  subst ex
  obtain rfl : v = Value.ref a := r1
  obtain ⟨od, J⟩ := inst_at I2 ea
  obtain ⟨m0, hF⟩ := I2.fr
  exact PySem.W.sub_K hF I2.ok.mod.kin J M.at_ hf M.fn (wpAny_call (codeAny_mono (run_X (vs := [.ref a, y]) G hr.in1 rfl hb .nil (hx σ) I2 (.cons rfl (.cons r2 .nil)) (by rw [List.append_nil]; exact q2)) fun _ _ hq => ended hq)) (hsl _ _)
/-- x[i] = v by the own __setitem__, that may raise -/
def gSetX (C : Addr) (sp : Sp) (E : EX) (te ti : TE) : TG := fun v σ H Q => te σ H fun x H1 => ti σ H1 fun i H2 => ∃ (a dx : Addr) (fs : List (Str × V)), x = .ref a ∧ H2 a = some (.ins C dx fs) ∧ sp [.ref a, i, v] H2 (fun _ H' => Q σ H') (E σ)
theorem pg_setX {CX : CXT} {E : EX} {b : Expr} {ti : TE} (M : Meth X.K C "__setitem__" f) (hn : PySem.W.noSeq X.K C = true) (G : FnOk X.prog X.w X.K X.mg X.base CX k f fd ps sp) (hr : Room k X.A) (hb : Binds X.K fd ps []) (hx : ∀ σ, PassesAt CX X σ (E σ)) (he : PE X e te) (hi : PE X b ti)
    (ha : ∀ v, assign (.Subscript e b pos) X.env v = (do
      let ov ← holding [v] (eval e X.env)
      let iv ← holding [v, ov] (eval b X.env)
      standAt pos
      holding [v, ov, iv] (setItem ov iv v)
      release [v, ov, iv] []) := by intro _; rfl) : PG X (.Subscript e b pos) (gSetX C sp E te ti) := by
  refine ⟨fun pins s σ H v w Q I r h => ?_⟩
  rw [ha]
  refine wpAny_bind (wpAny_holding (thn (he.run pins s σ H _ I h) fun ov s1 ⟨x, H1, I1, r1, q1⟩ => ?_))
  refine wpAny_bind (wpAny_holding (thn (hi.run pins s1 σ H1 _ I1 q1) fun iv s2 ⟨y, H2, I2, r2, a, dx, fs, ex, ea, q2⟩ => ?_))
  subst ex
  obtain rfl : ov = Value.ref a := r1
  obtain ⟨od, J⟩ := inst_at I2 ea
  obtain ⟨m0, hF⟩ := I2.fr
  refine wpAny_bind (wpAny_standAt (wpAny_bind (wpAny_holding (PySem.W.ksp_setItem hF I2.ok.mod.kin J hn M.at_ M.fn (wpAny_mono (run_XC (vs := [.ref a, y, v]) G hr hb .nil (hx σ) I2 (.cons rfl (.cons r2 (.cons r .nil))) (by rw [List.append_nil]; exact q2)) (fun r s' hv => ?_) fun _ _ z => z)))))
  obtain ⟨z, H', J', rz, q⟩ := hv
  exact wpAny_release ⟨σ, H', J', q⟩
end
end Rz
namespace Rz
open PySem PySem.Spec PyProof.Rows L2
theorem PAt.nth {H : Hp} : ∀ {ts : List Addr} {ps : List Pr} {i : Nat} {p : Pr}, PAt H ts ps → ps[i]? = some p → ∃ t, ts[i]? = some t ∧ H t = some (.tup (prV p))
  | _, _, i, p, .nil, h => by cases h
  | _, _, 0, p, .cons e r, h => by
    have z := Option.some.inj h
    subst z
    exact ⟨_, rfl, e⟩
  | _, _, i + 1, p, .cons e r, h => PAt.nth (i := i) r (by simpa using h)
theorem ref_nth {ts : List Addr} {i : Nat} {t : Addr} (h : ts[i]? = some t) : (ts.map V.ref)[i]? = some (.ref t) := by
  rw [List.getElem?_map, h]
  rfl
theorem PAt.take {H : Hp} : ∀ {ts : List Addr} {ps : List Pr} (n : Nat), PAt H ts ps → PAt H (ts.take n) (ps.take n)
  | _, _, 0, _ => .nil
  | _, _, _ + 1, .nil => .nil
  | _, _, n + 1, .cons e r => .cons e (PAt.take n r)
theorem PAt.drop {H : Hp} : ∀ {ts : List Addr} {ps : List Pr} (n : Nat), PAt H ts ps → PAt H (ts.drop n) (ps.drop n)
  | _, _, 0, h => h
  | _, _, _ + 1, .nil => .nil
  | _, _, n + 1, .cons _ r => PAt.drop n r
theorem cutV_nat {xs : List V} {i j : Nat} (h : i ≤ j) (hj : j ≤ xs.length) : cutV xs (some (i : Int)) (some (j : Int)) = (xs.drop i).take (j - i) := by
  have e1 : HT.sIx xs.length 0 (some (i : Int)) = i := by
    unfold HT.sIx
    simp only
    rw [if_neg (by omega), Int.toNat_natCast]
    omega
  have e2 : HT.sIx xs.length xs.length (some (j : Int)) = j := by
    unfold HT.sIx
    simp only
    rw [if_neg (by omega), Int.toNat_natCast]
    omega
  unfold cutV
  rw [e1, e2]
end Rz

namespace Rz
open PySem PySem.Spec PyProof.Rows L2
/-! ### lists of pairs: joined, cut, copied, written out; the heap is let go of -/
theorem cutV_to {xs : List V} {j : Nat} (hj : j ≤ xs.length) : cutV xs none (some (j : Int)) = xs.take j := by
  have e1 : HT.sIx xs.length 0 none = 0 := rfl
  have e2 : HT.sIx xs.length xs.length (some (j : Int)) = j := by
    unfold HT.sIx
    simp only
    rw [if_neg (by omega), Int.toNat_natCast]
    omega
  unfold cutV
  rw [e1, e2, List.drop_zero, Nat.sub_zero]
theorem cutV_from {xs : List V} {i : Nat} (hi : i ≤ xs.length) : cutV xs (some (i : Int)) none = xs.drop i := by
  have e1 : HT.sIx xs.length 0 (some (i : Int)) = i := by
    unfold HT.sIx
    simp only
    rw [if_neg (by omega), Int.toNat_natCast]
    omega
  have e2 : HT.sIx xs.length xs.length none = xs.length := rfl
  unfold cutV
  rw [e1, e2, List.take_of_length_le (by rw [List.length_drop]; exact Nat.le_refl _)]
/-- len(xs), list(xs) of a list, by names that are not opened -/
@[irreducible] def rLenS (K : PySem.W.Frag) : List V → Hp → VK → Prop := fun xs H Q => ∃ p ys, xs = [.ref p] ∧ SqL K H p ys ∧ Q (.int ys.length) H
theorem call_lenS {X : Cx} : CallR X (.builtin "len") (rLenS X.K) := by
  intro pins s σ H xs us Q I r h
  unfold rLenS at h
  obtain ⟨p, ys, e, h1, q⟩ := h
  exact call_len_seq pins s σ H xs us Q I r ⟨p, ys, e, .inl h1, q⟩
@[irreducible] def rListS (K : PySem.W.Frag) : List V → Hp → VK → Prop := fun xs H Q => ∃ p ys, xs = [.ref p] ∧ SqL K H p ys ∧ ∀ l, H l = none → Q (.ref l) (upd H l (.lst ys))
theorem call_listS {X : Cx} : CallR X (.type "list") (rListS X.K) := by
  intro pins s σ H xs us Q I r h
  unfold rListS at h
  obtain ⟨p, ys, e, h1, q⟩ := h
  exact call_list_of pins s σ H xs us Q I r ⟨p, ys, e, .inl h1, q⟩
section
variable {K : PySem.W.Frag} {H : Hp} {l m : Addr} {us vs : List Pr} {Q : VK}
theorem cat_go (hu : LAt H l us) (hv : LAt H m vs) (hz : us.length + vs.length ≤ 1000000) (k : ∀ (p : Addr) (H' : Hp), H p = none → Same H H' → LAt H' p (us ++ vs) → Q (.ref p) H') : rCat (.ref l) (.ref m) H Q := by
  obtain ⟨ts, e1, P1⟩ := hu
  obtain ⟨ws, e2, P2⟩ := hv
  refine ⟨l, m, _, _, rfl, rfl, e1, e2, by rw [List.length_map, List.length_map, P1.length, P2.length, sizeLine_eq]; omega, fun p hp => ?_⟩
  have S := Rz.Same.new (o := .lst (ts.map V.ref ++ ws.map V.ref)) (Same.refl H) hp
  exact k p _ hp S ⟨ts ++ ws, by rw [upd_same, List.map_append], (P1.append P2).keep (Tups.of S)⟩
theorem to_go {j : Nat} (hu : LAt H l us) (hj : j ≤ us.length) (k : ∀ (p : Addr) (H' : Hp), H p = none → Same H H' → LAt H' p (us.take j) → Q (.ref p) H') : rSlL K (.ref l) none (some (j : Int)) H Q := by
  obtain ⟨ts, e1, P1⟩ := hu
  refine ⟨l, _, rfl, SqL.of e1, fun p hp => ?_⟩
  have S := Rz.Same.new (o := .lst (cutV (ts.map V.ref) none (some (j : Int)))) (Same.refl H) hp
  exact k p _ hp S ⟨ts.take j, by rw [upd_same, cutV_to (by rw [List.length_map, P1.length]; exact hj), List.map_take], (P1.take j).keep (Tups.of S)⟩
theorem from_go {i : Nat} {σ : L2.St} (hu : LAt H l us) (hi : i ≤ us.length) (k : ∀ (p : Addr) (H' : Hp), H p = none → Same H H' → LAt H' p (us.drop i) → Q (.ref p) H') : tNoPart σ H fun u H3 => rSlL K (.ref l) (some (i : Int)) u H3 Q := by
  obtain ⟨ts, e1, P1⟩ := hu
  refine ⟨l, _, rfl, SqL.of e1, fun p hp => ?_⟩
  have S := Rz.Same.new (o := .lst (cutV (ts.map V.ref) (some (i : Int)) none)) (Same.refl H) hp
  exact k p _ hp S ⟨ts.drop i, by rw [upd_same, cutV_from (by rw [List.length_map, P1.length]; exact hi), List.map_drop], (P1.drop i).keep (Tups.of S)⟩
theorem mid_go {i j : Nat} (hu : LAt H l us) (hij : i ≤ j) (hj : j ≤ us.length) (k : ∀ (p : Addr) (H' : Hp), H p = none → Same H H' → LAt H' p ((us.drop i).take (j - i)) → Q (.ref p) H') : rSlL K (.ref l) (some (i : Int)) (some (j : Int)) H Q := by
  obtain ⟨ts, e1, P1⟩ := hu
  refine ⟨l, _, rfl, SqL.of e1, fun p hp => ?_⟩
  have S := Rz.Same.new (o := .lst (cutV (ts.map V.ref) (some (i : Int)) (some (j : Int)))) (Same.refl H) hp
  exact k p _ hp S ⟨(ts.drop i).take (j - i), by rw [upd_same, cutV_nat hij (by rw [List.length_map, P1.length]; exact hj), List.map_take, List.map_drop], ((P1.drop i).take (j - i)).keep (Tups.of S)⟩
/-- list(xs) -/
theorem copy_go (hu : LAt H l us) (k : ∀ (p : Addr) (H' : Hp), H p = none → Same H H' → LAt H' p us → Q (.ref p) H') : rListS K [V.ref l] H Q := by
  obtain ⟨ts, e1, P1⟩ := hu
  unfold rListS
  refine ⟨l, _, rfl, SqL.of e1, fun p hp => ?_⟩
  have S := Rz.Same.new (o := .lst (ts.map V.ref)) (Same.refl H) hp
  exact k p _ hp S ⟨ts, upd_same, P1.keep (Tups.of S)⟩
/-- len(xs) of such a list -/
theorem len_go (hu : LAt H l us) (k : Q (.int (us.length : Nat)) H) : rLenS K [V.ref l] H Q := by
  obtain ⟨ts, e1, P1⟩ := hu
  unfold rLenS
  exact ⟨l, _, rfl, SqL.of e1, by rw [List.length_map, P1.length]; exact k⟩
end
theorem good_take {ps : List Pr} (h : GoodR ps) (n : Nat) : GoodR (ps.take n) := fun p hp => h p (List.mem_of_mem_take hp)
theorem good_drop {ps : List Pr} (h : GoodR ps) (n : Nat) : GoodR (ps.drop n) := fun p hp => h p (List.mem_of_mem_drop hp)
theorem good_cat {ps qs : List Pr} (h : GoodR ps) (g : GoodR qs) : GoodR (ps ++ qs) := fun p hp => (List.mem_append.mp hp).elim (h p) (g p)
theorem good_put {ps : List Pr} {p : Pr} (h : GoodR ps) (g : oddC p.1 = false ∧ 0 ≤ p.2 ∧ p.2 ≤ 9) (i : Nat) : GoodR (ps.set i p) := fun q hq => (List.mem_or_eq_of_mem_set hq).elim (h q) fun e => by rw [e]; exact g
end Rz
namespace Rz
open PySem PySem.Spec PyProof.Rows L2
/-! ### C(..), its wish by a name that is not opened -/
@[irreducible] def MkR (C : Addr) (sp : Sp) (dvs : List V) (E : XK) (vs : List V) (H : Hp) (Q : VK) : Prop := ∀ x dx, H x = none → H dx = none → dx ≠ x → sp (.ref x :: (vs ++ dvs)) (upd (upd H dx (.own x)) x (.ins C dx [])) (fun v H2 => v = .non ∧ Q (.ref x) H2) E
theorem mkR_eq {C : Addr} {sp : Sp} {dvs : List V} {E : XK} {vs : List V} {H : Hp} {Q : VK} : MkR C sp dvs E vs H Q = ∀ x dx, H x = none → H dx = none → dx ≠ x → sp (.ref x :: (vs ++ dvs)) (upd (upd H dx (.own x)) x (.ins C dx [])) (fun v H2 => v = .non ∧ Q (.ref x) H2) E := by
  unfold MkR
  rfl
def tMkR (C : Addr) (sp : Sp) (dvs : List V) (E : EX) (t : TA) : TE := fun σ H Q => t σ H fun vs H1 => MkR C sp dvs (E σ) vs H1 Q
theorem tMkR_eq {C : Addr} {sp : Sp} {dvs : List V} {E : EX} {t : TA} : tMkR C sp dvs E t = tMk C sp dvs E t := by
  funext σ H Q
  unfold tMkR tMk
  simp only [mkR_eq]
section
variable {X : Cx} {CX : CXT} {k : Nat} {f C : Addr} {fd : FuncData} {ps : List Str} {sp : Sp} {dvs : List V} {ds : List Value} {E : EX} {x : Str} {p pos : Pos} {e : Expr} {es : List Expr} {t : TA}
theorem pe_mkR (M : Mk X.K C f) (F : FnOk X.prog X.w X.K X.mg X.base CX k f fd ps sp) (hr : Room (k + 1) X.A) (hg : Gl X x) (hm : X.mg x = some (.ref C)) (hb : Binds X.K fd ps ds) (hd : Vals dvs ds) (hx : ∀ σ, PassesAt CX X σ (E σ))
    (ha : PA X (e :: es) t) (hdb : (x == ("__debug__" : Str)) = false := by decide) (he : starEach (e :: es) X.env = (false, eval e X.env) :: starEach es X.env := by rfl) (hpl : (backTo pos (starEach es X.env)).any (·.1) = false := by rfl) :
    PE X (.Call (.Name x p) (e :: es) [] pos) (tMkR C sp dvs E t) := by
  rw [tMkR_eq]
  exact pe_mk M F hr hg hm hb hd hx ha hdb he hpl
theorem pe_mkR0 (M : Mk X.K C f) (F : FnOk X.prog X.w X.K X.mg X.base CX k f fd ps sp) (hr : Room (k + 1) X.A) (hg : Gl X x) (hm : X.mg x = some (.ref C)) (hb : Binds X.K fd ps ds) (hd : Vals dvs ds) (hx : ∀ σ, PassesAt CX X σ (E σ))
    (hdb : (x == ("__debug__" : Str)) = false := by decide) : PE X (.Call (.Name x p) [] [] pos) (tMkR C sp dvs E tNil) := by
  rw [tMkR_eq]
  exact pe_mk0 M F hr hg hm hb hd hx hdb
end
end Rz
namespace Rz
open PySem PySem.Spec PyProof.Rows L2
theorem drT {H H' : Hp} {d : Addr} (D : Dr H d) (B : But [d] H H') : Tups H H' := Tups.but B fun b hb xs e => by
  have e2 : b = d := by simpa using hb
  obtain ⟨ns, q, _⟩ := D
  rw [e2, q] at e
  cases e
theorem evC {c : Nat} (h : c ∈ abc.cps.toList) : oddC c = false := by
  unfold oddC
  rw [decide_eq_true h]
  rfl
end Rz

namespace Rz
open PySem PySem.Spec PyProof.Rows L2
/-! ### calls of instances of an own class with __call__ -/
section
variable {X : Cx} {CX : CXT} {k n : Nat} {g C : Addr} {fd : FuncData} {ps ks : List Str} {sp : Sp} {dvs : List V} {ds : List Value} {E : EX} {pos : Pos} {e fe : Expr} {es : List Expr} {kws : List Keyword} {tf : TE} {t tk : TA} {gg : List Value → List Value → List Value} {gV : List V → List V → List V}
def tInst (C : Addr) (sp : Sp) (dvs : List V) (E : EX) (tf : TE) (t : TA) : TE := fun σ H Q => tf σ H fun y H1 => ∃ a, y = V.ref a ∧ t σ H1 fun vs H2 => (∃ dx fs, H2 a = some (.ins C dx fs)) ∧ sp (V.ref a :: (vs ++ dvs)) H2 Q (E σ)
theorem pe_inst (c : StX.CallO X.K C g) (F : FnOk X.prog X.w X.K X.mg X.base CX k g fd ps sp) (hr : Room k X.A) (hb : Binds X.K fd ps ds) (hd : Vals dvs ds) (hx : ∀ σ, PassesAt CX X σ (E σ)) (hf : PE X fe tf) (ha : PA X (e :: es) t)
    (ht : eval (.Call fe (e :: es) [] pos) X.env = (do callWith pos (← eval fe X.env) [] (backTo pos (starEach (e :: es) X.env)) (backToKw pos (keywordEach [] X.env))) := by rfl)
    (he : starEach (e :: es) X.env = (false, eval e X.env) :: starEach es X.env := by rfl) (hpl : (backTo pos (starEach es X.env)).any (·.1) = false := by rfl) : PE X (.Call fe (e :: es) [] pos) (tInst C sp dvs E tf t) := by
  refine ⟨fun pins s σ H Q I h => ?_⟩
  refine Call_ (thn (hf.run pins s σ H _ I h) fun u s1 ⟨y, H1, I1, ry, a, ey, q⟩ => ?_) ht
  subst ey
  obtain rfl : u = Value.ref a := ry
  refine StX.callO_with (thn (ha.run pos pins s1 σ H1 _ I1 q) fun us s2 ⟨vs, H2, I2, r, ⟨dx, fs, hi⟩, q2⟩ => ?_) he hpl
  obtain ⟨ox, od, J, hpd⟩ := StX.insC_at I2 (.inr ⟨dx, fs, hi⟩)
  exact ⟨⟨C, ox, od, J, hpd⟩, wpAny_call (PySem.W.kco_code I2.kIn J hpd c.at_ c.fn c.fi (codeAny_mono (run_X (us := .ref a :: us) (vs := .ref a :: vs) F hr rfl hb hd (hx σ) I2 (.cons rfl r) q2) fun _ _ hq => ended hq))⟩
theorem callO_kw {M : Model} {A : Around} {E : Value → Shared → Prop} {s : Shared} {a : Addr} {Q : Value → Shared → Prop} {args : List (Bool × Sem Value)} {kw : List (Option Str × Sem Value)} (hplain : (args.any (·.1) || kw.any (·.1.isNone)) = false)
    (h : wpAny M A (evalArgs (.ref a) true args kw) (fun z s₁ => (∃ C ox od, PySem.W.InstAt s₁.heap a ox C od ∧ ox.data = .plain) ∧ wpAny M A (call (.ref a) ([] ++ z.pos) z.kw) Q E s₁) E s) : wpAny M A (callWith pos (.ref a) [] args kw) Q E s := by
  unfold callWith
  refine wpAny_bind (wpAny_holding (wpAny_mono h (fun z s₁ h₁ => wpAny_bind (wpAny_standAt ?_)) fun _ _ y => y))
  obtain ⟨⟨C, ox, od, J, hpd⟩, h₂⟩ := h₁
  have L := PySem.W.kco_keeper (M := M) J hpd
  simp only [hplain]
  refine wpAny_bind (L.here ?_)
  have fin : ∀ {t : Sem Value}, wpAny M A t Q E s₁ → wpAny M A (t >>= fun r => holding [r] point >>= fun _ => pure r) Q E s₁ :=
    fun hq => wpAny_bind (wpAny_mono hq (fun r s₂ hr => wpAny_bind (wpAny_holding (wpAny_point (wpAny_pure hr)))) fun _ _ y => y)
  exact fin (wpAny_operateT h₂)
/-- f(e, .., k = v) of an instance -/
def tInstK (C : Addr) (n m : Nat) (sp : Sp) (gV : List V → List V → List V) (E : EX) (tf : TE) (t tk : TA) : TE := fun σ H Q => tf σ H fun y H1 => ∃ a, y = V.ref a ∧ t σ H1 fun vs H2 => tk σ H2 fun zs H3 => (∃ dx fs, H3 a = some (.ins C dx fs)) ∧ vs.length + 1 = n ∧ zs.length = m ∧ sp (gV (V.ref a :: vs) zs) H3 Q (E σ)
theorem pe_instK (c : StX.CallO X.K C g) (F : FnOk X.prog X.w X.K X.mg X.base CX k g fd ps sp) (hr : Room k X.A) (hb : KBn X.K fd ps n ks gg gV) (hx : ∀ σ, PassesAt CX X σ (E σ)) (hf : PE X fe tf) (ha : PA X (e :: es) t) (hkw : PK X kws tk)
    (ht : eval (.Call fe (e :: es) kws pos) X.env = (do callWith pos (← eval fe X.env) [] (backTo pos (starEach (e :: es) X.env)) (backToKw pos (keywordEach kws X.env))) := by rfl)
    (hall : (backToKw pos (keywordEach kws X.env)).all (·.1.isSome) = true := by rfl) (hks : (backToKw pos (keywordEach kws X.env)).filterMap (·.1) = ks := by rfl)
    (he : starEach (e :: es) X.env = (false, eval e X.env) :: starEach es X.env := by rfl) (hpl : ((backTo pos (starEach (e :: es) X.env)).any (·.1) || (backToKw pos (keywordEach kws X.env)).any (·.1.isNone)) = false := by rfl) :
    PE X (.Call fe (e :: es) kws pos) (tInstK C n ks.length sp gV E tf t tk) := by
  refine ⟨fun pins s σ H Q I h => ?_⟩
  rw [ht]
  refine wpAny_bind (thn (hf.run pins s σ H _ I h) fun u s1 ⟨y, H1, I1, ry, a, ey, q⟩ => ?_)
  subst ey
  obtain rfl : u = Value.ref a := ry
  refine callO_kw hpl (evalArgs_kw2 hall (thn (ha.run pos pins s1 σ H1 _ I1 q) fun us s2 ⟨vs, H2, I2, r, q2⟩ => thn (hkw.run pos pins s2 σ H2 _ I2 q2) fun ws s3 ⟨zs, H3, I3, rz, ⟨dx, fs, hi⟩, l1, l2, q3⟩ => ?_) he)
  obtain ⟨ox, od, J, hpd⟩ := StX.insC_at I3 (.inr ⟨dx, fs, hi⟩)
  refine ⟨⟨C, ox, od, J, hpd⟩, wpAny_call (PySem.W.kco_code I3.kIn J hpd c.at_ c.fn c.fi ?_)⟩
  rw [hks]
  have ra : Vals (V.ref a :: vs) (Value.ref a :: us) := .cons rfl r
  refine codeAny_mono (F.run X.A X.stack s3 H3 ⟨.ref a :: us, ks.zip ws⟩ (gg (.ref a :: us) ws) (gV (.ref a :: vs) zs) Q (E σ) hr I3.env0 (hb.to s3 _ ws I3.kIn (by rw [List.length_cons, ← r.length]; exact l1) (rz.length.symm.trans l2)) (hb.rel ra rz) q3) fun q s' hq => ?_
  match q, hq with
  | .error er, hq => exact hx σ pins H3 s3 er s' I3 hq
  | .ok (.ret u), hq => exact I3.after hq
  | .ok .next, hq => exact False.elim hq
  | .ok .brk, hq => exact False.elim hq
  | .ok .cont, hq => exact False.elim hq
end
/-- how keywords bind to a def with defaults and no keyword-only parameter -/
theorem kbinds1 {K : PySem.W.Frag} {x qual : Str} {params : Arguments} {body : List Stmt} {scope : Scope} {dvs : List V} {kws : List (Str × V)} {f : Addr} {fd : FuncData} {ps : List Str} (F : FunD K x qual params body scope dvs kws f fd) (n : Nat) (ks : List Str) (g : {α : Type} → List α → List α → List α → List α) (hd : dvs ≠ [])
    (hrel : ∀ {vs dv zs : List V} {us its ws : List Value}, Vals vs us → Vals dv its → Vals zs ws → Vals (g vs dv zs) (g us its ws))
    (h : ∀ (T : Addr) (kV doc pm : Value) (an : Option Addr) (cdv ct : Value) (us its ws : List Value), us.length = n → its.length = dvs.length → ws.length = ks.length →
      ∃ k, bindArgs (PySem.W.fnOf x qual params body scope (.ref T) kV doc pm an cdv ct) ⟨us, ks.zip ws⟩ = seqItems? (.ref T) >>= k ∧ k (some its.toArray) = pure (ps.zip (g us its ws))) : ∃ its : List Value, KBn K fd ps n ks (fun us ws => g us its ws) (fun vs zs => g vs dvs zs) := by
  obtain ⟨oc, od, dV, kV, doc, pm, an, cdv, ct, osl, rfl, lk, hcd, hD, hK⟩ := F.ex
  rcases hD with ⟨e, _⟩ | ⟨_, T, o, its, m, rfl, lT, oT, rT⟩
  · exact absurd e hd
  · refine ⟨its, ⟨fun s us ws X l1 l2 => ?_, fun r1 r2 => hrel r1 rT r2⟩⟩
    obtain ⟨k, e1, e2⟩ := h T kV doc pm an cdv ct us its ws l1 rT.length.symm l2
    exact PySem.W.binds_K X rfl lT oT e1 e2
end Rz
namespace Rz
open PySem PySem.Spec PyProof.Rows L2
theorem fn_inD {x qual : Str} {params : Arguments} {body : List Stmt} {scope : Scope} {dvs : List V} {kws : List (Str × V)} {g : Addr} {K : PySem.W.Frag} {gd : FuncData} (F : FunD K x qual params body scope dvs kws g gd) : PySem.W.fnIn K g = true := by
  obtain ⟨_, _, _, _, _, _, _, _, _, _, _, lk, _⟩ := F.ex
  unfold PySem.W.fnIn
  rw [lk]
end Rz

namespace Rz
open PySem PySem.Spec PyProof.Rows L2
/-! ### a step of a rule, as lists -/
/-- l stands in cs from i on -/
def fitAt (cs l : List Nat) (i : Int) : Bool := decide (0 ≤ i) && ((cs.drop i.toNat).take l.length == l)
theorem fit_iff {cs l : List Nat} {i : Int} : fitAt cs l i = true ↔ 0 ≤ i ∧ (cs.drop i.toNat).take l.length = l := by
  unfold fitAt
  rw [Bool.and_eq_true, decide_eq_true_iff, beq_iff_eq]
theorem fit_len {cs l : List Nat} {i : Int} (h : fitAt cs l i = true) (hl : l ≠ []) : i.toNat + l.length ≤ cs.length := by
  have e := congrArg List.length (fit_iff.mp h).2
  rw [List.length_take, List.length_drop] at e
  have : 0 < l.length := List.length_pos_iff.mpr hl
  omega
theorem starts_fit {x l : Str} {i : Int} (h0 : 0 ≤ i) (hl : l.cps.toList ≠ []) : Txt.startswith3 x l i = fitAt x.cps.toList l.cps.toList i := by
  unfold Txt.startswith3
  have e1 : PySem.fromIndex x.length i = i.toNat := by
    unfold PySem.fromIndex
    rw [if_neg (by omega)]
    omega
  rw [e1, PySem.StrLaws.subAt_eq]
  unfold fitAt
  rw [decide_eq_true h0, Bool.true_and]
  show (decide (i.toNat + l.length ≤ x.length) && ((x.cps.toList.drop i.toNat).take l.length == l.cps.toList)) = ((x.cps.toList.drop i.toNat).take l.length == l.cps.toList)
  cases e : ((x.cps.toList.drop i.toNat).take l.length == l.cps.toList) with
  | false => rw [Bool.and_false]
  | true =>
    have := fit_len (cs := x.cps.toList) (l := l.cps.toList) (i := i) (fit_iff.mpr ⟨h0, beq_iff_eq.mp e⟩) hl
    rw [decide_eq_true (show i.toNat + l.length ≤ x.length from this), Bool.true_and]
/-- the least number of a list -/
def leastL : List Int → Int
  | [] => 0
  | n :: r => r.foldl min n
theorem foldl_min : ∀ (r : List Int) (n : Int), (r.foldl min n = n ∨ r.foldl min n ∈ r) ∧ r.foldl min n ≤ n ∧ ∀ y ∈ r, r.foldl min n ≤ y
  | [], n => ⟨.inl rfl, Int.le_refl _, fun y h => by cases h⟩
  | x :: r, n => by
    obtain ⟨a, b, c⟩ := foldl_min r (min n x)
    refine ⟨?_, Int.le_trans b (Int.min_le_left ..), fun y hy => ?_⟩
    · rcases a with a | a
      · show (r.foldl min (min n x) = n) ∨ (r.foldl min (min n x) ∈ x :: r)
        rw [a]
        by_cases h : n ≤ x
        · exact .inl (Int.min_eq_left h)
        · right
          rw [Int.min_eq_right (by omega)]
          exact List.mem_cons_self
      · exact .inr (List.mem_cons_of_mem _ a)
    · rcases List.mem_cons.mp hy with rfl | hy
      · exact Int.le_trans b (Int.min_le_right ..)
      · exact c y hy
theorem leastL_eq {ns : List Int} {m : Int} (h : m ∈ ns) (hall : ∀ y ∈ ns, m ≤ y) : m = leastL ns := by
  cases ns with
  | nil => cases h
  | cons n r =>
    obtain ⟨a, b, c⟩ := foldl_min r n
    show m = r.foldl min n
    have h1 : m ≤ r.foldl min n := by
      rcases a with a | a
      · rw [a]
        exact hall n List.mem_cons_self
      · exact hall _ (List.mem_cons_of_mem _ a)
    have h2 : r.foldl min n ≤ m := by
      rcases List.mem_cons.mp h with rfl | h
      · exact b
      · exact c m h
    omega
theorem leastL_mem {ns : List Int} (h : ns ≠ []) : leastL ns ∈ ns := by
  cases ns with
  | nil => exact absurd rfl h
  | cons n r =>
    obtain ⟨a, _, _⟩ := foldl_min r n
    show r.foldl min n ∈ n :: r
    rcases a with a | a
    · rw [a]
      exact List.mem_cons_self
    · exact List.mem_cons_of_mem _ a
/-- the least height of the n pairs from i on -/
def leastAt (ps : List Pr) (i n : Nat) : Int := leastL (hts ((ps.drop i).take n))
theorem leastAt_good {ps : List Pr} {i n : Nat} (g : GoodR ps) (h : i + n ≤ ps.length) (hn : 0 < n) : 0 ≤ leastAt ps i n ∧ leastAt ps i n ≤ 9 := by
  have ne : hts ((ps.drop i).take n) ≠ [] := fun z => by
    have := congrArg List.length z
    rw [hts_len, List.length_take, List.length_drop, List.length_nil] at this
    omega
  have m := leastL_mem ne
  unfold hts at m
  obtain ⟨p, hp, e⟩ := List.mem_map.mp m
  have := (g p (List.mem_of_mem_drop (List.mem_of_mem_take hp))).2
  unfold leastAt hts
  rw [← e]
  exact this
/-- the pairs that the step writes -/
def fresh (r : List Nat) (h : Int) : List Pr := r.map fun c => (c, h)
theorem fresh_len (r : List Nat) (h : Int) : (fresh r h).length = r.length := List.length_map ..
theorem fresh_good {r : List Nat} {h : Int} (hr : ∀ c ∈ r, oddC c = false) (h0 : r ≠ [] → 0 ≤ h ∧ h ≤ 9) : GoodR (fresh r h) := fun p hp => by
  unfold fresh at hp
  obtain ⟨c, hc, rfl⟩ := List.mem_map.mp hp
  exact ⟨hr c hc, h0 (List.ne_nil_of_mem hc)⟩
theorem zip_rep (r : List Nat) (h : Int) : r.zip (List.replicate r.length h) = fresh r h := by
  unfold fresh
  induction r with
  | nil => rfl
  | cons c r ih =>
    rw [List.length_cons, List.replicate_succ, List.zip_cons_cons, ih]
    rfl
/-- the row after the step -/
def stepTo (ps : List Pr) (l r : List Nat) (i : Nat) : List Pr := ps.take i ++ fresh r (1 + leastAt ps i l.length) ++ ps.drop (i + l.length)
theorem fo_even {z : Str} (h : fo z = none) : ∀ c ∈ z.cps.toList, oddC c = false := fun c hc => by
  have := List.findIdx?_eq_none_iff.mp h c hc
  simpa using this
theorem rr_fresh {z : Str} {h : Int} (hz : fo z = none) (h0 : z.cps.toList ≠ [] → 0 ≤ h ∧ h ≤ 9) : rr z (List.replicate z.length h) = .row := by
  unfold rr
  rw [hz]
  dsimp only
  rw [if_neg (by rw [List.length_replicate]; simp)]
  have e : (List.replicate z.length h).find? badH = none := by
    rw [List.find?_eq_none]
    intro n hn
    obtain ⟨hne, rfl⟩ := List.mem_replicate.mp hn
    have h1 := h0 (fun e => hne (by
      have : z.cps.toList.length = 0 := by rw [e]; rfl
      rw [len_list] at this
      exact this))
    unfold badH
    simp
    omega
  rw [e]
theorem nodup_le : ∀ {xs z : List Nat}, xs.Nodup → (∀ x ∈ xs, x ∈ z) → xs.length ≤ z.length
  | [], z, _, _ => Nat.zero_le _
  | x :: xs, z, nd, h => by
    have hx := h x List.mem_cons_self
    have nd2 := List.nodup_cons.mp nd
    have ih := nodup_le (xs := xs) (z := z.erase x) nd2.2 fun y hy => (List.mem_erase_of_ne (fun e => nd2.1 (by rw [← e]; exact hy))).mpr (h y (List.mem_cons_of_mem _ hy))
    rw [List.length_erase_of_mem hx] at ih
    have : 0 < z.length := List.length_pos_of_mem hx
    rw [List.length_cons]
    omega
end Rz

namespace Rz
open PySem PySem.Spec PyProof.Rows L2
/-! ### making an instance whose __init__ has a star; class methods -/
section
variable {P : Program} {w : World} {K : PySem.W.Frag} {mg : Str → Option Value} {base : Heap} {CX : CXT} {k : Nat} {f : Addr} {fd : FuncData} {ps : List Str} {sp : Sp}
/-- the promise of a def that is called by position -/
theorem fnr_of (F : FnOk P w K mg base CX k f fd ps sp) (hb : Binds K fd ps []) : FnR P w K mg base CX k f sp := by
  intro A outer s H us vs Q E hr e0 r h
  have hl : us.length = ps.length := r.length.symm.trans (F.len _ _ _ _ h)
  have hbb := hb s us (e0.mod.kin.keeps fun b o e => (e0.bs b o e).1) (by rw [List.append_nil]; exact hl)
  rw [List.append_nil] at hbb
  exact F.run A outer s H ⟨us, []⟩ us vs Q E hr e0 hbb r h
end
/-- a new instance, by a positional promise of __init__ -/
@[irreducible] def MkS (C : Addr) (sp : Sp) (E : XK) (vs : List V) (H : Hp) (Q : VK) : Prop := ∀ x dx, H x = none → H dx = none → dx ≠ x →
  sp (V.ref x :: vs) (upd (upd H dx (.own x)) x (.ins C dx [])) (fun v H2 => v = .non ∧ Q (.ref x) H2) E
theorem mkS_eq {C : Addr} {sp : Sp} {E : XK} {vs : List V} {H : Hp} {Q : VK} : MkS C sp E vs H Q = ∀ x dx, H x = none → H dx = none → dx ≠ x →
  sp (V.ref x :: vs) (upd (upd H dx (.own x)) x (.ins C dx [])) (fun v H2 => v = .non ∧ Q (.ref x) H2) E := by
  unfold MkS
  rfl
def tMkS (C : Addr) (sp : Sp) (E : EX) (t : TA) : TE := fun σ H Q => t σ H fun vs H1 => MkS C sp (E σ) vs H1 Q
def tMkSL (i : Nat) (C : Addr) (sp : Sp) (E : EX) (t : TA) : TE := fun σ H Q => σ[i]? = some (some (.ref C)) ∧ t σ H fun vs H1 => MkS C sp (E σ) vs H1 Q
/-- C.m(..), m a classmethod -/
def tCm (C : Addr) (sp : Sp) (E : EX) (ta : TE) (t : TA) : TE := fun σ H Q => ta σ H fun x H1 => x = .ref C ∧ t σ H1 fun vs H2 => sp (.ref C :: vs) H2 Q (E σ)
section
variable {X : Cx} {CX : CXT} {k i : Nat} {f C : Addr} {sp : Sp} {E : EX} {x m : Str} {e o : Expr} {es : List Expr} {te ta : TE} {t : TA} {p pos sp_ apos : Pos} {q g : Addr} {mc : Value}
theorem run_fnRA {pins : List (Addr × Obj)} {σ : L2.St} {H : Hp} {s : Shared} {Q : VK} {E : XK} {us : List Value} {vs : List V} (F : FnR X.prog X.w X.K X.mg X.base CX k f sp) (hr : Room k X.A) (hx : PassesAt CX X σ E) (I : Inv X pins σ H s) (r : Vals vs us) (h : sp vs H Q E) :
    codeAny (model X.prog X.w) X.A (.call (.ref f) ⟨us, []⟩) (fun r s' => match r with | .ok (.ret v) => EP X pins σ Q v s' | .ok _ => False | .error e => X.xe e s') s := by
  refine codeAny_mono (F X.A X.stack s H us vs Q E hr I.env0 r h) fun q s' hq => ?_
  match q, hq with
  | .error er, hq => exact hx pins H s er s' I hq
  | .ok (.ret u), hq => exact I.after hq
  | .ok .next, hq => exact False.elim hq
  | .ok .brk, hq => exact False.elim hq
  | .ok .cont, hq => exact False.elim hq
theorem run_mkS {pins : List (Addr × Obj)} {σ : L2.St} {H : Hp} {s : Shared} {Q : VK} {E : XK} {us : List Value} {vs : List V} (M : Mk X.K C f) (F : FnR X.prog X.w X.K X.mg X.base CX k f sp) (hr : Room (k + 1) X.A) (hx : PassesAt CX X σ E) (I : Inv X pins σ H s) (r : Vals vs us)
    (h : MkS C sp E vs H Q) : wpAny (model X.prog X.w) X.A (call (.ref C) us) (EP X pins σ Q) X.xe s := by
  rw [mkS_eq] at h
  have hq := h (s.heap.objs.size + 1) s.heap.objs.size (I.hok.fresh (Nat.le_succ _)) (I.hok.fresh (Nat.le_refl _)) (Nat.ne_of_lt (Nat.lt_succ_self _))
  have I2 := Inv.made (C := C) I
  have r2 : Vals (V.ref (s.heap.objs.size + 1) :: vs) (Value.ref (s.heap.objs.size + 1) :: us) := .cons rfl r
  refine wpAny_call (make_map (f := f) I.kIn M.makes M.init (beq_iff_eq.mp M.fn) (codeAny_mono (F _ X.stack _ _ (Value.ref (s.heap.objs.size + 1) :: us) _ _ E (hr.make C us []) (I2.env0.make C us []) r2 hq) fun r s' hq' => ?_))
  cases r with
  | error e => exact hx pins _ _ e s' I2 hq'
  | ok fl =>
    cases fl with
    | ret u =>
      obtain ⟨v, H', I3, rv, ev, q3⟩ := I2.after hq'
      subst ev
      exact ⟨rv, ⟨V.ref (s.heap.objs.size + 1), H', I3, rfl, q3⟩⟩
    | next => exact False.elim hq'
    | brk => exact False.elim hq'
    | cont => exact False.elim hq'
theorem pe_mkS (M : Mk X.K C f) (F : FnR X.prog X.w X.K X.mg X.base CX k f sp) (hr : Room (k + 1) X.A) (hg : Gl X x) (hm : X.mg x = some (.ref C)) (hx : ∀ σ, PassesAt CX X σ (E σ)) (ha : PA X (e :: es) t) (hdb : (x == ("__debug__" : Str)) = false := by decide)
    (he : starEach (e :: es) X.env = (false, eval e X.env) :: starEach es X.env := by rfl) (hpl : (backTo pos (starEach es X.env)).any (·.1) = false := by rfl) : PE X (.Call (.Name x p) (e :: es) [] pos) (tMkS C sp E t) := ⟨fun pins s σ H Q I h =>
  wpAny_Call_Name_kw (ld_glob I hg hm (PySem.W.callWith_K (h₀ := X.base) I.ok.mod.kin M.kp (thn (ha.run pos pins s σ H _ I h) fun us s1 ⟨vs, H1, J, r, q⟩ => ⟨J.kIn, run_mkS M F hr (hx σ) J r q⟩) he hpl) hdb)⟩
theorem pe_mkS0 (M : Mk X.K C f) (F : FnR X.prog X.w X.K X.mg X.base CX k f sp) (hr : Room (k + 1) X.A) (hg : Gl X x) (hm : X.mg x = some (.ref C)) (hx : ∀ σ, PassesAt CX X σ (E σ)) (hdb : (x == ("__debug__" : Str)) = false := by decide) :
    PE X (.Call (.Name x p) [] [] pos) (tMkS C sp E tNil) := ⟨fun pins s σ H Q I h =>
  wpAny_Call_Name_kw (ld_glob I hg hm (PySem.W.callWith_K0 I.kIn M.kp (run_mkS (us := []) M F hr (hx σ) I .nil h)) hdb)⟩
/-- x() where the local x is the class -/
theorem pe_mkSL0 (M : Mk X.K C f) (F : FnR X.prog X.w X.K X.mg X.base CX k f sp) (hr : Room (k + 1) X.A) (hN : X.N[i]? = some x) (hv : Vis X.env.scope x) (hx : ∀ σ, PassesAt CX X σ (E σ))
    (hdb : (x == ("__debug__" : Str)) = false := by decide) (hcd : (x == ("__classdict__" : Str)) = false := by decide) : PE X (.Call (.Name x p) [] [] pos) (tMkSL i C sp E tNil) := by
  refine ⟨fun pins s σ H Q I h => ?_⟩
  obtain ⟨hs, ht⟩ := h
  refine wpAny_Call_Name_kw (thn ((pe_var (pos := p) hN hv hdb hcd).run pins s σ H (fun v H1 => v = .ref C ∧ H1 = H) I ⟨.ref C, hs, rfl, rfl⟩) fun u s1 ⟨v, H1, I1, r1, q1⟩ => ?_)
  obtain ⟨rfl, rfl⟩ := q1
  cases r1
  exact PySem.W.callWith_K0 I1.kIn M.kp (run_mkS (us := []) M F hr (hx σ) I1 .nil ht)
/-- x(*y) where the local x is the class -/
theorem pe_mkSLs (M : Mk X.K C f) (F : FnR X.prog X.w X.K X.mg X.base CX k f sp) (hr : Room (k + 1) X.A) (hN : X.N[i]? = some x) (hv : Vis X.env.scope x) (hx : ∀ σ, PassesAt CX X σ (E σ)) (he : PE X e te)
    (hdb : (x == ("__debug__" : Str)) = false := by decide) (hcd : (x == ("__classdict__" : Str)) = false := by decide) (hst : starEach [.Starred e sp_] X.env = [(true, eval e X.env)] := by rfl) :
    PE X (.Call (.Name x p) [.Starred e sp_] [] pos) (tMkSL i C sp E fun σ H Q => te σ H fun y H1 => ∃ a xs, y = V.ref a ∧ (SqT X.K H1 a xs ∨ SqL X.K H1 a xs) ∧ Q xs H1) := by
  refine ⟨fun pins s σ H Q I h => ?_⟩
  obtain ⟨hs, ht⟩ := h
  refine wpAny_Call_Name_kw (thn ((pe_var (pos := p) hN hv hdb hcd).run pins s σ H (fun v H1 => v = .ref C ∧ H1 = H) I ⟨.ref C, hs, rfl, rfl⟩) fun u s1 ⟨v, H1, I1, r1, q1⟩ => ?_)
  obtain ⟨rfl, rfl⟩ := q1
  cases r1
  refine PySem.W.callWith_S (h₀ := X.base) I.ok.mod.kin M.kp (thn (he.run pins s1 σ _ _ I1 ht) fun v s2 ⟨y, H2, I2, ry, a, xs, ey, hxs, q⟩ => ?_) hst
  subst ey
  obtain rfl : v = Value.ref a := ry
  exact StX.star_any I2 hxs fun us s3 I3 rv => ⟨I3.kIn, run_mkS M F hr (hx σ) I3 rv q⟩
theorem pe_cm {pl : Sem Bool} (he : PE X o ta) (r : ClX.CRead X.K C mc) (c : ClX.CMet X.K C mc m q g) (F : FnR X.prog X.w X.K X.mg X.base CX k g sp) (hr : Room k X.A) (hx : ∀ σ, PassesAt CX X σ (E σ)) (ha : PA X (e :: es) t)
    (hst : starEach (e :: es) X.env = (false, eval e X.env) :: starEach es X.env := by rfl) (hpl : (backTo pos (starEach es X.env)).any (·.1) = false := by rfl)
    (ht : eval (.Call (.Attribute o m apos) (e :: es) [] pos) X.env = (do
      let ov ← eval o X.env
      standAt apos.atName
      let (f, first) ← holding [ov] (getMethod ov m pl)
      callWith pos f first (backTo pos (starEach (e :: es) X.env)) (backToKw pos (keywordEach [] X.env))) := by rfl) :
    PE X (.Call (.Attribute o m apos) (e :: es) [] pos) (tCm C sp E ta t) := by
  refine ⟨fun pins s σ H Q I h => ?_⟩
  refine PySem.W.methodCall_KW (pl := pl) (thn (he.run pins s σ H _ I h) fun u s1 ⟨x, H1, I1, rx, ex, q⟩ => ?_) ht
  subst ex
  obtain rfl : u = Value.ref C := rx
  refine ClX.getmethcm_ok I1 r c fun s2 I2 => ?_
  refine ClX.callwith_cm I2 (ClX.base_none I1 (Nat.le_refl _)) c.fi (thn (ha.run pos _ s2 σ H1 _ I2 q) fun us s3 ⟨vs, H2, I3, rv, q2⟩ => ⟨⟨ClX.pin_at I3, I3.kIn⟩, ?_⟩) hst hpl
  have z : wpAny (model X.prog X.w) X.A (call (.ref _) us) (EP X ((_, PySem.W.methodObj (.ref g) (.ref C)) :: pins) σ Q) X.xe s3 :=
    wpAny_call (PySem.W.method_call (ClX.pin_at I3) (run_fnRA (us := .ref C :: us) (vs := .ref C :: vs) F hr (hx σ) I3 (.cons rfl rv) q2))
  exact thn z fun _ _ y => ClX.unpinE y
end
end Rz

namespace Rz
open PySem PySem.Spec PyProof.Rows L2
/-! ### set(text) -/
/-- the set at a has the texts l, its table can be walked -/
def SsAt (P : Program) (w : World) (h : Heap) (a : Addr) (l : List Str) : Prop :=
  ∃ D : PySem.Froz.SD, h.get? a = some (PySem.Froz.sObj "set" D) ∧ PySem.Froz.TxOk P w D l ∧ l.Nodup ∧ Ris D.2.2.place.toList ∧ (w.params.followText "set-order" = true ∨ D.2.2.led = true)
theorem SsAt.keep {P : Program} {w : World} {h h' : Heap} {a : Addr} {l : List Str} (x : SsAt P w h a l) (k : ∀ o, h.get? a = some o → h'.get? a = some o) : SsAt P w h' a l := let ⟨D, e, r⟩ := x; ⟨D, k _ e, r⟩
theorem tail_ris {ep : Nat} {es : Array (Int × Value)} {t : SetTable} {dm : Bool} (r : Ris t.place.toList) : Ris (PySem.Froz.tailTx ep es t dm).2.2.place.toList := by
  unfold PySem.Froz.tailTx
  split
  · exact relayAll_ris _ _ _
  · exact r
theorem tail_led {ep : Nat} {es : Array (Int × Value)} {t : SetTable} {dm : Bool} : (PySem.Froz.tailTx ep es t dm).2.2.led = t.led := by
  unfold PySem.Froz.tailTx
  split
  · exact relayAll_led _ _ _
  · rfl
theorem add_ris {D : PySem.Froz.SD} {h : Int} {v : Value} (r : Ris D.2.2.place.toList) : Ris (PySem.Froz.addTx h v D).2.2.place.toList := by
  have q := layNew_ris D.2.2 D.1 h v r
  refine tail_ris ?_
  split
  · exact q
  · exact q
theorem add_led {D : PySem.Froz.SD} {h : Int} {v : Value} : (PySem.Froz.addTx h v D).2.2.led = D.2.2.led := by
  have q := layNew_led D.2.2 D.1 h v
  refine tail_led.trans ?_
  split
  · exact q
  · exact q
section
variable {P : Program} {w : World} {A : Around} {E : Value → Shared → Prop} {s : Shared}
/-- a text that is there is added -/
theorem add_stay {a : Addr} {T : String} {D : PySem.Froz.SD} {l : List Str} {k : Str} {u : Tok} {Q : Bool → Shared → Prop} (ho : s.heap.get? a = some (PySem.Froz.sObj T D)) (F : PySem.Froz.TxOk P w D l) (hk : k ∈ l) (hb : l.length < scanBound) (h : Q false s) :
    wpAny (model P w) A (setAddHashed a (.str k u) (hashStr w k)) Q E s := by
  obtain ⟨es, ep, t⟩ := D
  have hsz : es.size = l.length := F.sz
  have kk : (strKind P w).is k (.str k u) = true := PySem.Froz.is_str k u
  obtain ⟨e, he, hp⟩ := (F.mem k).mp hk
  unfold setAddHashed setAddHashedIn
  refine wpAny_holding (wpAny_bind (wpAny_setState_of ho rfl F.fit ?_))
  dsimp only
  rw [byScan_of rfl (show es.size < scanBound by rw [hsz]; exact hb) F.el]
  simp only [↓reduceIte]
  unfold setAddByScan
  refine wpAny_bind (wpAny_bind (wpAny_rule (wpAny_bind (wpAny_setScan_of (knd := strKind P w) (k := k) kk ho rfl F.fit F.el ?_))))
  cases fi : List.findIdx? (fun e => (strKind P w).is k e.2) es.toList with
  | none => exact absurd (List.findIdx?_eq_none_iff.mp fi e he) (by rw [hp]; decide)
  | some j =>
    dsimp only
    exact wpAny_pure (wpAny_pure h)
theorem ss_add {a : Addr} {l : List Str} {k : Str} {u : Tok} {Q : Bool → Shared → Prop} (x : SsAt P w s.heap a l) (hb : l.length + 1 < scanBound)
    (h : ∀ (h' : Heap) (l' : List Str) (b : Bool), SsAt P w h' a l' → (∀ y, y ∈ l' ↔ y = k ∨ y ∈ l) → l'.length ≤ l.length + 1 → (∀ c o, c ≠ a → s.heap.get? c = some o → h'.get? c = some o) → Q b { s with heap := h' }) :
    wpAny (model P w) A (setAddHashed a (.str k u) (hashStr w k)) Q E s := by
  obtain ⟨D, ho, F, nd, r, led⟩ := x
  by_cases hk : k ∈ l
  · refine add_stay ho F hk (by omega) ?_
    exact h s.heap l false ⟨D, ho, F, nd, r, led⟩ (fun y => ⟨.inr, fun z => z.elim (fun e => e ▸ hk) id⟩) (by omega) fun c o _ e => e
  · refine PySem.Froz.add_x ho F hk hb ?_
    refine h _ (k :: l) true ⟨_, PySem.Froz.get_upd _ ho rfl, PySem.Froz.add_ok u F, List.nodup_cons.mpr ⟨hk, nd⟩, add_ris r, led.imp id fun z => add_led.trans z⟩ (fun y => List.mem_cons) (Nat.le_refl _) fun c o n e => ?_
    exact PySem.Heap.get?_update_of_ne _ (Ne.symm n) e
/-- the signs of x ahead of i -/
def upTo (x : Str) (i : Nat) (k : Str) : Prop := ∃ j c, j < i ∧ x.cps[j]? = some c ∧ k = ⟨#[c]⟩
theorem ss_loop {R : Result → Shared → Prop} {I a : Addr} {x : Str} {t : Tok} (hh : A.in1.handled = none) (ne : a ≠ I) (hz : x.cps.size + 1 < scanBound) : ∀ (k i : Nat) (s : Shared) (l : List Str), x.cps.size - i = k → i ≤ x.cps.size → s.heap.IsStrIter I "str_ascii_iterator" x t i →
    SsAt P w s.heap a l → (∀ y, y ∈ l ↔ upTo x i y) → l.length ≤ i →
    (∀ (h' : Heap) (tk : Nat) (l' : List Str), SsAt P w h' a l' → (∀ y, y ∈ l' ↔ upTo x x.cps.size y) → l'.length ≤ x.cps.size → (∀ c o, c ≠ a → c ≠ I → s.heap.get? c = some o → h'.get? c = some o) → R (.ok (.ret .none)) { s with heap := h', toks := tk }) →
    codeAny (model P w) A (.builtin "set.update.loop" ⟨[.ref a, .ref I], []⟩) R s := by
  have W := Walks.strAscii (prog := P) (w := w) hh I x t
  intro k
  induction k with
  | zero =>
    intro i s l hk hi st hS hm hl hR
    obtain rfl : i = x.cps.size := by omega
    refine codeAny_builtin PyProof.Rows.F.entry_set_update_loop ?_
    rw [Around.under_plainId PyProof.Rows.F.plain_set_update_loop _]
    show wpAny _ A.in1 (pyNext (.ref I) >>= _) _ _ s
    refine wpAny_bind (W.done s _ _ st fun h' tk kp => ?_)
    show wpAny _ A.in1 (ret Value.none) _ _ _
    exact wpAny_pure (hR h' tk l (hS.keep fun o e => kp a o (by simpa using ne) e) hm hl fun c o _ n2 e => kp c o (by simpa using n2) e)
  | succ k ih =>
    intro i s l hk hi st hS hm hl hR
    refine codeAny_builtin PyProof.Rows.F.entry_set_update_loop ?_
    rw [Around.under_plainId PyProof.Rows.F.plain_set_update_loop _]
    show wpAny _ A.in1 (pyNext (.ref I) >>= _) _ _ s
    refine wpAny_bind (W.item i s _ _ (by omega) st fun v h1 tk ⟨c, u, hc, ev⟩ st1 kp => ?_)
    subst ev
    show wpAny _ A.in1 (holding [Value.str ⟨#[c]⟩ u] (setAdd a (.str ⟨#[c]⟩ u)) >>= _) _ _ _
    refine wpAny_bind (wpAny_holding ?_)
    unfold setAdd
    refine wpAny_holding (wpAny_bind ((strKind P w).pyHash (k := ⟨#[c]⟩) (PySem.Froz.is_str _ _) ?_))
    refine ss_add (s := { s with heap := h1, toks := tk + 1 }) (l := l) (hS.keep fun o e => kp a o (by simpa using ne) e) (by omega) fun h2 l2 b hS2 hm2 hl2 kp2 => ?_
    have st2 : h2.IsStrIter I "str_ascii_iterator" x t (i + 1) := W.frame (i + 1) h1 h2 st1 fun b hb o e => kp2 b o (by
      have z : b = I := by simpa using hb
      rw [z]
      exact Ne.symm ne) e
    refine wpAny_pure ⟨plainId_quiet PyProof.Rows.F.plain_set_update_loop _, ih (i + 1) { s with heap := h2, toks := tk + 1 } l2 (by omega) (by omega) st2 hS2 (fun y => ?_) (by omega) fun h3 tk3 l3 hS3 hm3 hl3 kp3 => ?_⟩
    · rw [hm2, hm]
      constructor
      · rintro (rfl | ⟨j, d, hj, hd, rfl⟩)
        · exact ⟨i, c, by omega, hc, rfl⟩
        · exact ⟨j, d, by omega, hd, rfl⟩
      · rintro ⟨j, d, hj, hd, rfl⟩
        rcases Nat.lt_or_ge j i with h | h
        · exact .inr ⟨j, d, h, hd, rfl⟩
        · obtain rfl : j = i := by omega
          rw [hc] at hd
          cases hd
          exact .inl rfl
    · exact hR h3 tk3 l3 hS3 hm3 hl3 fun d o n1 n2 e => kp3 d o n1 n2 (kp2 d o n1 (kp d o (by simpa using n2) e))
/-- a set just made -/
abbrev frS (w : World) : Obj := { cls := .type "set", dict := none, data := .set #[] 0 (.fresh 0 0 (!w.params.followText "set-order")) }
theorem ss_fresh {h : Heap} {a : Addr} (e : h.get? a = some (frS w)) : SsAt P w h a [] := by
  refine ⟨(#[], 0, .fresh 0 0 (!w.params.followText "set-order")), e, PySem.Froz.TxOk.nil (by rfl), .nil, List.Pairwise.nil, ?_⟩
  show _ ∨ (!w.params.followText "set-order") = true
  cases w.params.followText "set-order"
  · exact .inr rfl
  · exact .inl rfl
/-- set(x) of a text of the plain signs -/
theorem call_setTx {x : Str} {t : Tok} {Q : Value → Shared → Prop} (hh : A.handled = none) (hx : x.cps.all (· < 128) = true) (hz : x.cps.size + 1 < scanBound)
    (h : ∀ (h' : Heap) (tk : Nat) (l : List Str), SsAt P w h' s.heap.objs.size l → (∀ y, y ∈ l ↔ upTo x x.cps.size y) → l.length ≤ x.cps.size → (∀ b o, s.heap.get? b = some o → h'.get? b = some o) → Q (.ref s.heap.objs.size) { s with heap := h', toks := tk }) :
    wpAny (model P w) A (call (.type "set") [.str x t]) Q E s := by
  obtain ⟨c, tl, hmro⟩ := PySem.F.called_set.mro
  have cm := PySem.F.called_set.made
  have cs := PySem.F.called_set.sub
  refine wpAny_call (codeAny_of_tree ?_)
  show wpAny _ _ (callAny (.type "set") _) _ _ _
  refine wpAny_pure ⟨Code.quiet_builtin _ (by decide +kernel), codeAny_builtin PySem.F.entry_type_call ?_⟩
  rw [Around.under_plain (weight_type_call_type "set" [.str x t] []) rfl]
  have cn := PySem.F.called_set.notType
  have cc := PySem.F.called_set.canCreate
  have ct := PySem.F.typeCall_set_1 (.str x t)
  repeat (any_goals (first | assumption | wp_step))
  refine codeAny_mono (code_set_led1 (.str x t) (E := E) (Q₁ := fun u s1 => u = .ref s.heap.objs.size ∧ s1 = { s with heap := s.heap.push (frS w) }) ⟨rfl, rfl⟩) fun r s1 hr => ?_
  match r, hr with
  | .error e, hr => exact hr
  | .ok .next, hr => exact hr.elim
  | .ok .brk, hr => exact hr.elim
  | .ok .cont, hr => exact hr.elim
  | .ok (.ret u), hr =>
    obtain ⟨rfl, rfl⟩ := hr
    have at0 : (s.heap.push (frS w)).get? s.heap.objs.size = some (frS w) := Heap.get?_push_size _ rfl
    have ty0 : Shared.TypeIs { s with heap := s.heap.push (frS w) } (.ref s.heap.objs.size) "set" := ⟨_, at0, rfl⟩
    have il := PySem.F.called_set.init.lookup
    have ib := PySem.F.called_set.init.bind (.ref s.heap.objs.size)
    repeat (any_goals (first | assumption | wp_step))
    refine codeAny_mono (codeAny_call_builtin (R := wants (fun r s2 => r = .none ∧ ∃ h' tk l, s2 = { s with heap := h', toks := tk } ∧ SsAt P w h' s.heap.objs.size l ∧ (∀ y, y ∈ l ↔ upTo x x.cps.size y) ∧ l.length ≤ x.cps.size ∧
        (∀ b o, s.heap.get? b = some o → h'.get? b = some o)) E) PySem.F.called_set.init.plain PySem.F.entry_set_init (check_set_init_1 ty0 ?_)) fun r2 s2 h2 => ?_
    · have f1 := PySem.F.sub_str_set
      have f2 := PySem.F.sub_str_frozenset
      have f3 : (Value.type "str" == Value.type "dict") = false := by decide
      unfold Builtin.«set.__init__» noKeywords Builtin.Frozenset.updateFrom
      generalize hPI : pyIter = PI
      wp_walk
      subst hPI
      refine wpAny_pyIter_ascii hx ?_
      refine wpAny_bind (wpAny_runValue ?_)
      have sz1 : (s.heap.push (frS w)).objs.size = s.heap.objs.size + 1 := Heap.size_push ..
      refine ss_loop (t := t) (I := (s.heap.push (frS w)).objs.size) (by simp [hh]) (by rw [sz1]; exact Nat.ne_of_lt (Nat.lt_succ_self _)) hz (x.cps.size - 0) 0 _ [] rfl (Nat.zero_le _) ⟨_, Heap.get?_push_size _ rfl, rfl, rfl⟩ (ss_fresh (Heap.get?_push_of_some _ at0))
        (fun y => ⟨fun z => (by cases z), fun ⟨j, c, hj, _⟩ => absurd hj (Nat.not_lt_zero _)⟩) (Nat.le_refl _) fun h' tk l hS hm hl kp => ?_
      show wpAny _ _ _ _ _ _
      refine wpAny_pure ?_
      show wpAny _ _ (ret Value.none) _ _ _
      refine wpAny_pure ⟨rfl, h', tk, l, rfl, hS, hm, hl, fun b o e => ?_⟩
      have lt := Heap.lt_size e
      exact kp b o (Nat.ne_of_lt lt) (by rw [sz1]; exact Nat.ne_of_lt (Nat.lt_succ_of_lt lt)) (Heap.get?_push_of_some _ (Heap.get?_push_of_some _ e))
    · match r2, h2 with
      | .error e, h2 => exact h2
      | .ok .next, h2 => exact h2.elim
      | .ok .brk, h2 => exact h2.elim
      | .ok .cont, h2 => exact h2.elim
      | .ok (.ret r), h2 =>
        obtain ⟨rfl, h', tk, l, rfl, hS, hm, hl, kp⟩ := h2
        repeat (any_goals (first | assumption | wp_step))
        exact h _ _ _ hS hm hl kp
end
end Rz

namespace Rz
open PySem PySem.Spec PyProof.Rows L2
/-! ### sorted(set) of texts -/
theorem perm_sub : ∀ {l ys : List Str}, l.Nodup → (∀ k ∈ l, k ∈ ys) → ys.length = l.length → ys.Perm l
  | [], ys, _, _, e => by
    rw [List.eq_nil_of_length_eq_zero e]
  | k :: l, ys, nd, sub, e => by
    obtain ⟨n1, n2⟩ := List.nodup_cons.mp nd
    have hk := sub k List.mem_cons_self
    have p := List.perm_cons_erase hk
    refine p.trans (.cons k (perm_sub n2 (fun j hj => ?_) ?_))
    · exact (List.mem_erase_of_ne (show j ≠ k from fun z => n1 (by rw [← z]; exact hj))).mpr (sub j (List.mem_cons_of_mem _ hj))
    · have q := List.length_erase_of_mem hk
      have e2 : ys.length = l.length + 1 := e
      omega
theorem strs_of : ∀ {vs : List Value}, (∀ v ∈ vs, ∃ k t, v = Value.str k t) → ∃ ys, StrsAre vs ys ∧ ∀ k t, Value.str k t ∈ vs → k ∈ ys
  | [], _ => ⟨[], .nil, fun k t h => by cases h⟩
  | v :: vs, h => by
    obtain ⟨k, t, rfl⟩ := h v List.mem_cons_self
    obtain ⟨ys, r, m⟩ := strs_of (vs := vs) fun u hu => h u (List.mem_cons_of_mem _ hu)
    refine ⟨k :: ys, .cons k t r, fun j u hj => ?_⟩
    rcases List.mem_cons.mp hj with e | e
    · cases e
      exact List.mem_cons_self
    · exact List.mem_cons_of_mem _ (m j u e)
section
variable {P : Program} {w : World} {A : Around} {E : Value → Shared → Prop} {s : Shared} {a : Addr} {l : List Str}
theorem sorted_ss {Q : Value → Shared → Prop} (x : SsAt P w s.heap a l) (hh : A.handled = none) (h64 : l.length < 64)
    (hQ : ∀ (s' : Shared) (p : Addr) (out : Array Value) (c : Nat) (ys : List Str), (∀ b o, s.heap.get? b = some o → s'.heap.get? b = some o) → s'.gens = s.gens → s'.os = s.os → s.heap.objs.size ≤ p →
      s'.heap.get? p = some (seqObj "list" out c) → StrsAre out.toList ys → ys.Perm l → sortedS ys = true → Q (.ref p) s') :
    wpAny (model P w) A (call (.builtin "sorted") [.ref a]) Q E s := by
  obtain ⟨⟨es, ep, t⟩, ho, F, nd, r, led⟩ := x
  have sz : es.size = l.length := F.sz
  have el : ElemsOf (strKind P w) es.toList := F.el
  have mm : ∀ k : Str, k ∈ l ↔ ∃ e ∈ es.toList, (strKind P w).is k e.2 = true := F.mem
  refine Calls.call_function_entry kind_sorted plain_sorted entry_sorted (args_sorted1 _) ?_
  unfold Builtin.«sorted»
  refine wpAny_bind (m := checkCount "sorted" 1 1 _) (wpAny_pure ?_)
  refine wpAny_bind (collect_set (A := A.in1) hh ⟨_, ho, rfl, rfl⟩ F.fit (show es.size < scanBound by rw [sz]; unfold scanBound; omega) r led fun s1 vs k1 z1 g1 o1 pv => ?_)
  have vl : vs.length = l.length := by rw [pv.length_eq, List.length_map, Array.length_toList, sz]
  obtain ⟨ys0, S0, m0⟩ := strs_of (vs := vs) fun v hv => by
    obtain ⟨e, he, q⟩ := List.mem_map.mp (pv.mem_iff.mp hv)
    obtain ⟨⟨k, h1, _⟩, _⟩ := el e he
    obtain ⟨tk, e1⟩ := Value.isStrOf_shape (x := k) (v := e.2) h1
    exact ⟨k, tk, by rw [← q]; exact e1⟩
  have p0 : ys0.Perm l := perm_sub nd (fun k hk => by
    obtain ⟨e, he, q⟩ := (mm k).mp hk
    obtain ⟨tk, e1⟩ := Value.isStrOf_shape (x := k) (v := e.2) q
    exact m0 k tk (pv.mem_iff.mpr (List.mem_map.mpr ⟨e, he, e1⟩))) (by rw [← StrsAre.len_eq S0, vl])
  refine wpAny_bind (wpAny_newList ?_ (by rw [vl, sizeLine_eq]; omega))
  have at1 : (s1.heap.push (seqObj "list" vs.toArray 0)).get? s1.heap.objs.size = some (seqObj "list" vs.toArray 0) := Heap.get?_push_size _ rfl
  refine wpAny_bind (wpAny_holding (wpAny_call_entry slot_list_sort ⟨_, at1, rfl⟩ entry_list_sort (list_sort_treeK strKind_oneLt at1 S0.keysOf (fun v1 v2 rest e => keyKind_strs (by rw [← e]; exact S0)) (by rw [vl]; exact h64) fun st' hp hs => ⟨_, rfl, ?_⟩) (args_list_sort _)))
  obtain ⟨ys, a1, a2, a3⟩ := sorted_out_str S0 hp hs
  obtain ⟨c, hc⟩ := sortedHeap_at (vs := vs) (out := (arrOf st').map (·.2)) at1
  refine wpAny_pure ⟨_, rfl, hQ _ s1.heap.objs.size _ c ys (fun b u e => ?_) g1 o1 z1 hc a1 (a2.trans p0) a3⟩
  have q := k1 b u e
  have lt := Heap.lt_size q
  show (sortedHeap (s1.heap.push (seqObj "list" vs.toArray 0)) s1.heap.objs.size vs _).get? b = some u
  rw [sortedHeap_old (Nat.ne_of_lt lt) (by rw [size_push']; exact Nat.lt_succ_of_lt lt)]
  exact Heap.get?_push_of_some _ q
end
/-- the set at a, tracked -/
def SsO (P : Program) (w : World) (a : Addr) (l : List Str) : HO := .ext fun h => SsAt P w h a l
theorem ssO_ok {P : Program} {w : World} {H : Hp} {h : Heap} {a : Addr} {l : List Str} (x : SsAt P w h a l) : ObjOk P w H h a (SsO P w a l) :=
  ⟨x, let ⟨_, e, _⟩ := x; ⟨_, e⟩, fun h1 h2 q k => SsAt.keep q fun o e => k o e⟩
def rSetTx (P : Program) (w : World) : List V → Hp → VK → Prop := fun xs H Q => ∃ x : Str, xs = [.str x] ∧ x.cps.all (· < 128) = true ∧ x.cps.size + 1 < scanBound ∧
  ∀ (p : Addr) (l : List Str), H p = none → (∀ y, y ∈ l ↔ upTo x x.cps.size y) → l.Nodup → l.length ≤ x.cps.size → Q (.ref p) (upd H p (SsO P w p l))
def rSortSs (P : Program) (w : World) : List V → Hp → VK → Prop := fun vs H Q => ∃ (a : Addr) (l : List Str), vs = [.ref a] ∧ H a = some (SsO P w a l) ∧ l.length < 64 ∧
  ∀ (ys : List Str) (p : Addr), ys.Perm l → sortedS ys = true → H p = none → Q (.ref p) (upd H p (.lst (ys.map V.str)))
section
variable {X : Cx}
theorem cr_setTx (hc : X.calm = true) : CallR X (.type "set") (rSetTx X.prog X.w) := by
  intro pins s σ H xs us Q I r h
  obtain ⟨x, rfl, ha, hz, q⟩ := h
  obtain ⟨u, rfl, t, rfl⟩ := vals1 r
  refine call_setTx (I.ok.hd hc) ha hz fun h' tk l hS hm hl kp => ?_
  exact ⟨.ref s.heap.objs.size, _, I.laid (t' := tk) kp (Nat.le_refl _) (ssO_ok hS), rfl, q _ l (I.hok.fresh (Nat.le_refl _)) hm (let ⟨_, _, _, nd, _⟩ := hS; nd) hl⟩
theorem cr_sortSs (hc : X.calm = true) : CallR X (.builtin "sorted") (rSortSs X.prog X.w) := by
  intro pins s σ H vs us Q I r h
  obtain ⟨a, l, rfl, ha, h64, q⟩ := h
  rw [Vals.ref1 r]
  have hS : SsAt X.prog X.w s.heap a l := (I.hok a _ ha).1
  refine sorted_ss hS (I.ok.hd hc) h64 fun s' p out c ys k g o hp hg hi pm hs => ?_
  have hlen : (ys.map V.str).length ≤ sizeLine := by rw [List.length_map, pm.length_eq, sizeLine_eq]; omega
  have hn : H p = none := I.hok.fresh hp
  have J : Inv X pins σ (upd H p (.lst (ys.map V.str))) { s with heap := s'.heap, gens := s'.gens, drawn := s'.drawn, toks := s'.toks } :=
    I.call (ch := []) (Un.laid k hp hn) (I.hok.laid k hp ⟨hlen, out.toList, c, vals_of_strs hi, hg⟩) (by rw [g]; exact I.bare) (fun _ z => nomatch z)
  have e : s' = { s with heap := s'.heap, gens := s'.gens, drawn := s'.drawn, toks := s'.toks } := by
    obtain ⟨_, _, _, _, _⟩ := s'
    obtain rfl := o
    rfl
  rw [e]
  exact ⟨.ref p, _, J, rfl, q ys p pm hs hn⟩
end
end Rz
namespace Rz
open PySem PySem.Spec PyProof.Rows L2
/-! ### ascending signs -/
theorem rise_eq : ∀ {a b : List Nat}, a.Pairwise (· < ·) → b.Pairwise (· < ·) → (∀ x, x ∈ a ↔ x ∈ b) → a = b
  | [], [], _, _, _ => rfl
  | [], y :: b, _, _, h => absurd ((h y).mpr List.mem_cons_self) (by simp)
  | x :: a, [], _, _, h => absurd ((h x).mp List.mem_cons_self) (by simp)
  | x :: a, y :: b, ha, hb, h => by
    obtain ⟨a1, a2⟩ := List.pairwise_cons.mp ha
    obtain ⟨b1, b2⟩ := List.pairwise_cons.mp hb
    have e : x = y := by
      rcases List.mem_cons.mp ((h x).mp List.mem_cons_self) with e | e
      · exact e
      · rcases List.mem_cons.mp ((h y).mpr List.mem_cons_self) with f | f
        · exact f.symm
        · have := b1 x e
          have := a1 y f
          omega
    subst e
    refine congrArg (x :: ·) (rise_eq a2 b2 fun z => ⟨fun hz => ?_, fun hz => ?_⟩)
    · rcases List.mem_cons.mp ((h z).mp (List.mem_cons_of_mem _ hz)) with f | f
      · have := a1 z hz
        omega
      · exact f
    · rcases List.mem_cons.mp ((h z).mpr (List.mem_cons_of_mem _ hz)) with f | f
      · have := b1 z hz
        omega
      · exact f
def sgs (cs : List Nat) : List Str := cs.map fun c => ⟨#[c]⟩
theorem rise_of : ∀ (cs : List Nat) (p : Nat), risingS ⟨#[p]⟩ (sgs cs) = true → (p :: cs).Nodup → (p :: cs).Pairwise (· < ·)
  | [], p, _, _ => by simp
  | c :: cs, p, h, nd => by
    have e : (!ltCps [c] [p] && risingS ⟨#[c]⟩ (sgs cs)) = true := h
    rw [Bool.and_eq_true] at e
    obtain ⟨n1, n2⟩ := List.nodup_cons.mp nd
    have ih := rise_of cs c e.2 n2
    have lt : p < c := by
      have h1 : ltCps [c] [p] = false := by simpa using e.1
      have h2 : ¬ c < p := fun z => by
        have : ltCps [c] [p] = true := by simp [ltCps, z]
        rw [this] at h1
        cases h1
      have h3 : p ≠ c := fun z => n1 (by rw [z]; exact List.mem_cons_self)
      omega
    refine List.pairwise_cons.mpr ⟨fun x hx => ?_, ih⟩
    rcases List.mem_cons.mp hx with f | f
    · rw [f]
      exact lt
    · have := (List.pairwise_cons.mp ih).1 x f
      omega
theorem rise_sorted : ∀ (cs : List Nat), sortedS (sgs cs) = true → cs.Nodup → cs.Pairwise (· < ·)
  | [], _, _ => .nil
  | c :: cs, h, nd => rise_of cs c h nd
theorem sgs_nodup : ∀ {cs : List Nat}, (sgs cs).Nodup → cs.Nodup
  | [], _ => .nil
  | c :: cs, h => by
    obtain ⟨h1, h2⟩ := List.nodup_cons.mp (show ((⟨#[c]⟩ : Str) :: sgs cs).Nodup from h)
    exact List.nodup_cons.mpr ⟨fun z => h1 (List.mem_map.mpr ⟨c, z, rfl⟩), sgs_nodup h2⟩
theorem sgs_of : ∀ {ys : List Str}, (∀ y ∈ ys, ∃ c : Nat, y = ⟨#[c]⟩) → ∃ cs, ys = sgs cs
  | [], _ => ⟨[], rfl⟩
  | y :: ys, h => by
    obtain ⟨c, rfl⟩ := h y List.mem_cons_self
    obtain ⟨cs, rfl⟩ := sgs_of (ys := ys) fun z hz => h z (List.mem_cons_of_mem _ hz)
    exact ⟨c :: cs, rfl⟩
/-- what sorted(set(x)) is: the signs of x, ascending -/
theorem sorted_signs {x : Str} {l ys : List Str} {ds : List Nat} (hm : ∀ y, y ∈ l ↔ upTo x x.cps.size y) (nd : l.Nodup) (p : ys.Perm l) (hs : sortedS ys = true) (hd : ds.Pairwise (· < ·)) (hx : ∀ c, c ∈ ds ↔ c ∈ x.cps.toList) : ys = sgs ds := by
  have one : ∀ y, y ∈ ys ↔ ∃ c, c ∈ x.cps.toList ∧ y = ⟨#[c]⟩ := fun y => by
    rw [p.mem_iff, hm]
    constructor
    · rintro ⟨j, c, hj, hc, rfl⟩
      exact ⟨c, List.mem_of_getElem? (by rw [Array.getElem?_toList]; exact hc), rfl⟩
    · rintro ⟨c, hc, rfl⟩
      obtain ⟨j, hj⟩ := List.mem_iff_getElem?.mp hc
      rw [Array.getElem?_toList] at hj
      have lt : j < x.cps.size := by
        rcases Nat.lt_or_ge j x.cps.size with h | h
        · exact h
        · rw [Array.getElem?_eq_none h] at hj; cases hj
      exact ⟨j, c, lt, hj, rfl⟩
  obtain ⟨cs, rfl⟩ := sgs_of (ys := ys) fun y hy => let ⟨c, _, e⟩ := (one y).mp hy; ⟨c, e⟩
  have ndc := sgs_nodup (p.nodup_iff.mpr nd)
  refine congrArg sgs (rise_eq (rise_sorted cs hs ndc) hd fun c => ?_)
  rw [hx]
  constructor
  · intro hc
    obtain ⟨d, hd, e⟩ := (one ⟨#[c]⟩).mp (List.mem_map.mpr ⟨c, hc, rfl⟩)
    have e2 : c = d := by
      have q := congrArg (fun y : Str => y.cps.toList) e
      simpa using q
    rw [e2]
    exact hd
  · intro hc
    obtain ⟨d, hd, e⟩ := List.mem_map.mp ((one ⟨#[c]⟩).mpr ⟨c, hc, rfl⟩)
    have e2 : d = c := by
      have q := congrArg (fun y : Str => y.cps.toList) e
      simpa using q
    rw [← e2]
    exact hd
end Rz

namespace Rz
open PySem PySem.Spec PyProof.Rows L2
/-! ### enumerate(list, start=k) -/
/-- the list at a as it stands at each turn, each item in a new pair, counted from k -/
def IteF (K : PySem.W.Frag) (k : Int) (a : Addr) : It :=
  ⟨fun i H => ∃ (xs : List V) (x : V), SqL K H a xs ∧ xs[i]? = some x, fun i H v H' => ∃ T x, v = .ref T ∧ H T = none ∧ H' = upd H T (.tup [.int (k + (i : Nat)), x]) ∧ ∀ xs, SqL K H a xs → xs[i]? = some x, fun i H => ∃ xs : List V, SqL K H a xs ∧ i = xs.length⟩
theorem ne_it {h : Heap} {a it : Addr} {items : Array Value} {i : Nat} (l : h.IsList a items) (t : h.IsListIter it a i) : a ≠ it := fun z => by
  obtain ⟨o1, h1, c1, _⟩ := l
  obtain ⟨o2, h2, c2, _⟩ := t
  rw [z, h2] at h1
  obtain rfl := Option.some.inj h1
  rw [c2] at c1
  exact absurd c1 (by decide)
theorem ne_en {h : Heap} {a e it : Addr} {items : Array Value} {c : Int} {old : Value} (l : h.IsList a items) (t : IsEnum h e it c old) : a ≠ e := fun z => by
  obtain ⟨o1, h1, c1, _⟩ := l
  have h2 : h.get? e = _ := t
  rw [z, h2] at h1
  obtain rfl := Option.some.inj h1
  exact absurd (show Value.type "enumerate" = Value.type "list" from c1) (by decide)
theorem turn_enumF {P : Program} {w : World} {K : PySem.W.Frag} {elts : List Expr} {kk : Nat} {tpos : Pos} (c : Int) (a e it : Addr) :
    Turn P w K (.Tuple elts kk tpos) (IteF K c a) [e, it] e (fun i h => (∃ old, IsEnum h e it (c + ((i : Nat) : Int)) old) ∧ h.IsListIter it a i ∧ e ≠ it) where
  mem := by simp
  obj := fun i h st b hb => by
    obtain ⟨⟨old, he⟩, ⟨o, ho, hc, hd⟩, _⟩ := st
    rcases (show b = e ∨ b = it by simpa using hb) with rfl | rfl
    · exact ⟨_, he, fun v q => nomatch q⟩
    · exact ⟨o, ho, fun v q => by rw [hd] at q; cases q⟩
  keep := fun i h h' st k => let ⟨⟨old, he⟩, hi, hne⟩ := st; ⟨⟨old, k e (by simp) _ he⟩, hi.at fun o q => k it (by simp) o q, hne⟩
  item := by
    intro X hP hw hK hc i pins s σ H E I hf st hg
    subst hP hw hK
    obtain ⟨⟨old, he⟩, hit, hne⟩ := st
    obtain ⟨xs, x, hq, hx⟩ := hg
    obtain ⟨its, rv, p, hz⟩ := I.list hq
    obtain ⟨u, hu, ru⟩ := rv.get hx
    have le : e < s.heap.objs.size := Heap.lt_size he
    have li : it < s.heap.objs.size := by obtain ⟨_, q, _⟩ := hit; exact Heap.lt_size q
    have D := Draws.list (prog := X.prog) (w := X.w) (A := X.A.in1) (I.ok.hd hc) it a (ne_it p.isList hit) its.toArray
    have lt : i < its.toArray.size := by
      have q := (List.getElem?_eq_some_iff.mp hu).1
      rw [List.size_toArray]
      exact q
    refine wpAny_pyNext_enum_itemC D he ⟨hit, p.isList⟩ lt hne (by
      have q := ne_en p.isList he
      simp [hne, Ne.symm q]) fun u1 h1 tk hu1 ho hit1 hT hsz hk => ?_
    obtain rfl : u1 = u := by
      rw [List.getElem?_toArray, hu] at hu1
      exact (Option.some.inj hu1).symm
    refine ⟨_, rfl, wpAny_letOwnedTupleGo_enum (s := { s with heap := h1, toks := tk + 1 }) ho fun h2 he2 sb => ?_⟩
    have at2 : h2.get? s.heap.objs.size = some { cls := .type "tuple", data := .seq #[.int (c + i) tk, u1] } := (sb.2 _ (Nat.ne_of_gt le)).trans hT
    have nw : ObjOk X.prog X.w (upd H s.heap.objs.size (.tup [.int (c + (i : Nat)), x])) h2 s.heap.objs.size (.tup [.int (c + (i : Nat)), x]) :=
      ⟨by show 2 ≤ sizeLine; decide, [.int (c + i) tk, u1], .cons ⟨_, rfl⟩ (.cons ru .nil), ⟨_, at2, rfl, _, rfl⟩⟩
    have J : Inv X pins σ (upd H s.heap.objs.size (.tup [.int (c + (i : Nat)), x])) { s with heap := h2, toks := tk + 1 } :=
      I.turnedNew (t' := tk + 1) (ch := [e, it]) (fun b ob hb q => (sb.2 b (fun z => hb (by simp [z]))).trans (hk b ob (fun z => hb (by simp [z])) (fun z => hb (by simp [z])) q)) hf (Nat.le_refl _) nw
    refine ⟨.ref s.heap.objs.size, _, J, rfl, ⟨_, x, rfl, I.hok.fresh (Nat.le_refl _), rfl, fun ys hy => by rw [I.list_inj hy hq]; exact hx⟩, ⟨⟨u1, ?_⟩, hit1.1.at fun o q => (sb.2 it (Ne.symm hne)).trans q, hne⟩, fun b hb => ?_⟩
    · have e1 : c + ((i + 1 : Nat) : Int) = c + (i : Int) + 1 := by omega
      rw [e1]
      exact he2
    · have lb : b < s.heap.objs.size := by
        rcases (show b = e ∨ b = it by simpa using hb) with rfl | rfl
        · exact le
        · exact li
      rw [upd_ne (Nat.ne_of_lt lb)]
      exact (hf b hb).1
  done := by
    intro X hP hw hK hc i pins s σ H E I hf st hg
    subst hP hw hK
    obtain ⟨⟨old, he⟩, hit, hne⟩ := st
    obtain ⟨xs, hq, hx⟩ := hg
    obtain ⟨its, rv, p, hz⟩ := I.list hq
    obtain ⟨f0, f1, f2, f3, f4, f5⟩ := hf it (by simp)
    have hl := rv.length
    have D := Draws.list (prog := X.prog) (w := X.w) (A := X.A.in1) (I.ok.hd hc) it a (ne_it p.isList hit) its.toArray
    obtain rfl : i = its.toArray.size := by
      rw [List.size_toArray]
      omega
    exact wpAny_pyNext_enum_endD D he ⟨hit, p.isList⟩ fun h' eb => ⟨rfl, I.turned (t' := s.toks) (fun b o hb q => eb b o hb q) f0 f1 f3 f4 f5⟩
  self := fun A i s Q E st h => let ⟨⟨_, he⟩, _⟩ := st; wpAny_pyIter_enum he h
section
variable {M : Model} {A : Around} {E : Value → Shared → Prop} {s : Shared} {env : Env}
theorem callWith_typeKw {pos : Pos} {T : String} {args : List (Bool × Sem Value)} {kw : List (Option Str × Sem Value)} {Q : Value → Shared → Prop} (hplain : args.any (·.1) = false) (hkw : kw.any (·.1.isNone) = false)
    (h : wpAny M A (evalArgs (.type T) true args kw) (fun a s₁ => wpAny M A (call (.type T) ([] ++ a.pos) a.kw) Q E s₁) E s) : wpAny M A (callWith pos (.type T) [] args kw) Q E s := by
  unfold callWith
  refine wpAny_bind (wpAny_holding (wpAny_mono h (fun a s1 h1 => wpAny_bind (wpAny_standAt ?_)) fun _ _ x => x))
  simp only [hplain, hkw, Bool.or_false]
  refine wpAny_bind (wpAny_pure ?_)
  exact wpAny_bind (wpAny_mono h1 (fun r s2 hr => wpAny_bind (wpAny_holding (wpAny_point (wpAny_pure hr)))) fun _ _ x => x)
end
def iEnumF (K : PySem.W.Frag) (ta tk : TA) : TI := fun σ H R => ta σ H fun vs H1 => tk σ H1 fun zs H2 => ∃ a xs k, vs = [.ref a] ∧ zs = [.int k] ∧ 0 ≤ k ∧ k < 2 ^ 62 ∧ SqL K H2 a xs ∧ R (IteF K k a) H2
theorem pi_enumF {X : Cx} {e : Expr} {kws : List Keyword} {ta tk : TA} {p pos tpos : Pos} {elts : List Expr} {kk : Nat} (hg : Gl X "enumerate") (hm : X.mg "enumerate" = none) (ha : PA X [e] ta) (hkw : PK X kws tk)
    (he : starEach [e] X.env = (false, eval e X.env) :: starEach [] X.env := by rfl) (hpl : (backTo pos (starEach [e] X.env)).any (·.1) = false := by rfl)
    (hall : (backToKw pos (keywordEach kws X.env)).all (·.1.isSome) = true := by rfl) (hnone : (backToKw pos (keywordEach kws X.env)).any (·.1.isNone) = false := by rfl) (hks : (backToKw pos (keywordEach kws X.env)).filterMap (·.1) = [Str.ofString "start"] := by rfl) :
    PI X (.Tuple elts kk tpos) (.Call (.Name "enumerate" p) [e] kws pos) (iEnumF X.K ta tk) := by
  refine ⟨fun pins s σ H R I h => ?_⟩
  refine wpAny_Call_Name_kw (ld_blt (u := .type "enumerate") I hg hm boot_enumerate (callWith_typeKw hpl hnone (evalArgs_kw2 hall (thn (ha.run pos pins s σ H _ I h) fun us s1 ⟨vs, H1, I1, r1, q1⟩ => thn (hkw.run pos pins s1 σ H1 _ I1 q1) fun ws s2 ⟨zs, H2, I2, r2, q2⟩ => ?_) he)) (by decide) (by decide))
  rw [hks]
  obtain ⟨a, xs, k, rfl, rfl, k0, k1, hq, q⟩ := q2
  obtain ⟨u, rfl, ru⟩ := vals1 r1
  obtain rfl : u = Value.ref a := ru
  obtain ⟨z, rfl, t, rfl⟩ := vals1 r2
  obtain ⟨its, rv, pl, hz⟩ := I2.list hq
  refine enum_begins_start (begins_list a its.toArray) pl.isList (by omega) (by omega) fun h' he hit hsz hk => wpAny_pyIter_enum he ?_
  have J : Inv X pins σ H2 { s2 with heap := h' } := I2.kept (t' := s2.toks) hk
  refine ⟨s2.heap.objs.size + 1, [s2.heap.objs.size + 1, s2.heap.objs.size], _, _, H2, rfl, J, turn_enumF k a (s2.heap.objs.size + 1) s2.heap.objs.size, ⟨⟨.none, ?_⟩, ⟨_, hit, rfl, rfl⟩, Nat.succ_ne_self _⟩, fun b hb => ?_, q⟩
  · have e0 : k + ((0 : Nat) : Int) = k := by simp
    rw [e0]
    exact he
  · have le : s2.heap.objs.size ≤ b := by
      rcases (show b = s2.heap.objs.size + 1 ∨ b = s2.heap.objs.size by simpa using hb) with z | z
      · rw [z]; exact Nat.le_add_right _ _
      · rw [z]; exact Nat.le_refl _
    exact I2.fpOk le (I2.hok.fresh le)
end Rz
namespace Rz
open PySem PySem.Spec PyProof.Rows L2
theorem walk_enumF {K : PySem.W.Frag} {k : Int} {a : Addr} {xs : List V} : Walk (IteF K k a) xs.length (fun H => SqL K H a xs) (fun i H v H' => ∃ T x, v = .ref T ∧ H T = none ∧ H' = upd H T (.tup [.int (k + (i : Nat)), x]) ∧ xs[i]? = some x) :=
  ⟨fun i H hi h => ⟨xs, _, h, List.getElem?_eq_getElem hi⟩, fun H h => ⟨xs, h, rfl⟩, fun i H v H' _ h y => by
    obtain ⟨T, x, e1, e2, e3, e4⟩ := y
    exact ⟨T, x, e1, e2, e3, e4 xs h⟩⟩
theorem joinL_len (s : List Nat) : ∀ ps : List (List Nat), (TL.joinL s ps).length ≤ (ps.map List.length).sum + ps.length * s.length
  | [] => by
    show ([] : List Nat).length ≤ _
    simp
  | [p] => by
    show p.length ≤ _
    simp
  | p :: q :: r => by
    have ih := joinL_len s (q :: r)
    have e : (TL.joinL s (p :: q :: r)).length = p.length + (s.length + (TL.joinL s (q :: r)).length) := by
      show (p ++ (s ++ TL.joinL s (q :: r))).length = _
      rw [List.length_append, List.length_append]
    have m : (p :: q :: r).length * s.length = s.length + (q :: r).length * s.length := by
      rw [List.length_cons, Nat.succ_mul, Nat.add_comm]
    rw [e, m, List.map_cons, List.sum_cons]
    omega
end Rz

namespace Rz
open PySem PySem.Spec PyProof.Rows L2
/-! ### o += x by an own __iadd__ that may let an exception out -/
section
variable {X : Cx} {k : Nat} {f C : Addr} {fd : FuncData} {ps : List Str} {sp : Sp} {E : EX}
def tIpX (C : Addr) (sp : Sp) (E : EX) : V → V → Hp → VK → Prop := fun x y H Q => ∃ a dx fs, x = .ref a ∧ H a = some (.ins C dx fs) ∧ ∀ σ, sp [x, y] H (fun v H' => (∃ b, v = .ref b) ∧ Q v H') (E σ)
theorem ip_ownX (M : Meth X.K C "__iadd__" f) (hc : PySem.W.selfFirst X.K C = true) (F : FnOk X.prog X.w X.K X.mg X.base (L2.CX X.prog X.w) k f fd ps sp) (hr : Room k X.A) (hb : Binds X.K fd ps []) (hx : ∀ σ, PassesAt (L2.CX X.prog X.w) X σ (E σ)) : PIp X .Add (tIpX C sp E) := by
  intro pins s σ H x y v u Q I r1 r2 h
  obtain ⟨a, dx, fs, rfl, ea, hq⟩ := h
  obtain rfl : v = Value.ref a := r1
  obtain ⟨od, J⟩ := inst_at I ea
  obtain ⟨m0, hF⟩ := I.fr
  have z := run_X (us := [.ref a, u]) (vs := [.ref a, y]) F hr rfl hb .nil (hx σ) I (.cons rfl (.cons r2 .nil)) (by rw [List.append_nil]; exact hq σ)
  refine PySem.W.ksp_inplace hF I.ok.mod.kin J hc M.at_ M.fn (wpAny_call (codeAny_mono z fun q s' hq => ?_))
  match q, hq with
  | .error er, hq => exact hq
  | .ok (.ret r), hq =>
    obtain ⟨z, H', J', rz, ⟨b, rfl⟩, q⟩ := hq
    obtain rfl : r = Value.ref b := rz
    exact ⟨.ref b, H', J', rfl, q⟩
  | .ok .next, hq => exact hq.elim
  | .ok .brk, hq => exact hq.elim
  | .ok .cont, hq => exact hq.elim
end
end Rz

namespace Rz
open PySem PySem.Spec PyProof.Rows L2
/-! ### enumerate(tuple) -/
theorem enu_new {v : Value} {ob : Obj} {G : Heap → Prop} (B : Begins v ob G) : Meets (Builtin.«enumerate.__new__» ⟨[.type "enumerate", v], []⟩) (fun _ R s => G s.heap ∧
    R (.ok (.ret (.ref (s.heap.push ob).objs.size))) { s with heap := (s.heap.push ob).push { cls := .type "enumerate", data := .fields #[.none, .bool false, .ref s.heap.objs.size, rawInt 0, .none, .none] } }) :=
  .of_wp fun prog w A R s h => by
    obtain ⟨hp, gens, dr, tk, os⟩ := s
    obtain ⟨hG, h⟩ := h
    have hsub := sub_enumerate
    have qq : ∀ {A2 : Around} {E2 Q2 : Value → Shared → Prop}, Q2 (.ref hp.objs.size) ⟨hp.push ob, gens, dr, tk, os⟩ → wpAny (model prog w) A2 (pyIter v) Q2 E2 ⟨hp, gens, dr, tk, os⟩ := fun z => B.iter prog w _ _ ⟨hp, gens, dr, tk, os⟩ _ hG z
    wp_walk using qq
    refine wpAny_stack_any fun stk => ?_
    refine wpAny_pure ?_
    split
    · rename_i cc _ _ _ _ _
      cases (cc == Value.type "enumerate")
      case' false => wp_walk using qq
      case' true => wp_walk using qq
      all_goals exact ⟨_, rfl, h⟩
    · wp_walk using qq
      exact ⟨_, rfl, h⟩
section
variable {prog : Program} {w : World} {A : Around} {E : Value → Shared → Prop} {s : Shared}
theorem enu_begins {v : Value} {ob : Obj} {G : Heap → Prop} {Q : Value → Shared → Prop} (B : Begins v ob G) (hG : G s.heap)
    (h : ∀ h2, IsEnum h2 (s.heap.objs.size + 1) s.heap.objs.size 0 .none → h2.get? s.heap.objs.size = some ob → (∀ b o, s.heap.get? b = some o → h2.get? b = some o) → Q (.ref (s.heap.objs.size + 1)) { s with heap := h2 }) :
    wpAny (model prog w) A (call (.type "enumerate") [v]) Q E s := by
  refine callType_new F.called_enumerate (by decide) (F.typeCall_enumerate_1 _) (F.newCall_enumerate_1 _) (fun x => F.args_object_init_2 x _) F.entry_enumerate_new (enu_new B) ⟨hG, ?_⟩
  have hsz : (s.heap.push ob).objs.size = s.heap.objs.size + 1 := Heap.size_push ..
  show _ ∧ _
  rw [hsz]
  have en : IsEnum ((s.heap.push ob).push { cls := .type "enumerate", data := .fields #[.none, .bool false, .ref s.heap.objs.size, rawInt 0, .none, .none] }) (s.heap.objs.size + 1) s.heap.objs.size 0 .none := by
    have z := Heap.get?_push_size (s.heap.push ob) (o := { cls := .type "enumerate", data := .fields #[.none, .bool false, .ref s.heap.objs.size, rawInt 0, .none, .none] }) rfl
    rw [hsz] at z
    exact z
  exact ⟨⟨_, en, rfl⟩, h _ en (Heap.get?_push_of_some _ (Heap.get?_push_size _ B.free)) fun b o x => Heap.get?_push_of_some _ (Heap.get?_push_of_some _ x)⟩
end
/-- the tuple at a, each item in a new pair with its number -/
def IteT (K : PySem.W.Frag) (a : Addr) : It :=
  ⟨fun i H => ∃ (xs : List V) (x : V), SqT K H a xs ∧ xs[i]? = some x, fun i H v H' => ∃ T x, v = .ref T ∧ H T = none ∧ H' = upd H T (.tup [.int (i : Nat), x]) ∧ ∀ xs, SqT K H a xs → xs[i]? = some x, fun i H => ∃ xs : List V, SqT K H a xs ∧ i = xs.length⟩
theorem tne_it {h : Heap} {a it : Addr} {items : Array Value} {i : Nat} (l : IsTup h a items) (t : h.IsTupleIter it a i) : a ≠ it := fun z => by
  obtain ⟨o1, h1, c1, _⟩ := l
  obtain ⟨o2, h2, c2, _⟩ := t
  rw [z, h2] at h1
  obtain rfl := Option.some.inj h1
  rw [c2] at c1
  exact absurd c1 (by decide)
theorem tne_en {h : Heap} {a e it : Addr} {items : Array Value} {c : Int} {old : Value} (l : IsTup h a items) (t : IsEnum h e it c old) : a ≠ e := fun z => by
  obtain ⟨o1, h1, c1, _⟩ := l
  have h2 : h.get? e = _ := t
  rw [z, h2] at h1
  obtain rfl := Option.some.inj h1
  exact absurd (show Value.type "enumerate" = Value.type "tuple" from c1) (by decide)
theorem turn_enumT {P : Program} {w : World} {K : PySem.W.Frag} {elts : List Expr} {kk : Nat} {tpos : Pos} (a e it : Addr) :
    Turn P w K (.Tuple elts kk tpos) (IteT K a) [e, it] e (fun i h => (∃ old, IsEnum h e it ((i : Nat) : Int) old) ∧ h.IsTupleIter it a i ∧ e ≠ it) where
  mem := by simp
  obj := fun i h st b hb => by
    obtain ⟨⟨old, he⟩, ⟨o, ho, hc, hd⟩, _⟩ := st
    rcases (show b = e ∨ b = it by simpa using hb) with rfl | rfl
    · exact ⟨_, he, fun v q => nomatch q⟩
    · exact ⟨o, ho, fun v q => by rw [hd] at q; cases q⟩
  keep := fun i h h' st k => let ⟨⟨old, he⟩, hi, hne⟩ := st; ⟨⟨old, k e (by simp) _ he⟩, hi.at fun o q => k it (by simp) o q, hne⟩
  item := by
    intro X hP hw hK hc i pins s σ H E I hf st hg
    subst hP hw hK
    obtain ⟨⟨old, he⟩, hit, hne⟩ := st
    obtain ⟨xs, x, hq, hx⟩ := hg
    obtain ⟨its, rv, p, hz⟩ := I.tuple hq
    obtain ⟨u, hu, ru⟩ := rv.get hx
    have le : e < s.heap.objs.size := Heap.lt_size he
    have li : it < s.heap.objs.size := by obtain ⟨_, q, _⟩ := hit; exact Heap.lt_size q
    have D := Draws.tuple (prog := X.prog) (w := X.w) (A := X.A.in1) (I.ok.hd hc) it a (tne_it p hit) its.toArray
    have lt : i < its.toArray.size := by
      have q := (List.getElem?_eq_some_iff.mp hu).1
      rw [List.size_toArray]
      exact q
    refine wpAny_pyNext_enum_itemC D he ⟨hit, p⟩ lt hne (by
      have q := tne_en p he
      simp [hne, Ne.symm q]) fun u1 h1 tk hu1 ho hit1 hT hsz hk => ?_
    obtain rfl : u1 = u := by
      rw [List.getElem?_toArray, hu] at hu1
      exact (Option.some.inj hu1).symm
    refine ⟨_, rfl, wpAny_letOwnedTupleGo_enum (s := { s with heap := h1, toks := tk + 1 }) ho fun h2 he2 sb => ?_⟩
    have at2 : h2.get? s.heap.objs.size = some { cls := .type "tuple", data := .seq #[.int (i : Nat) tk, u1] } := (sb.2 _ (Nat.ne_of_gt le)).trans hT
    have nw : ObjOk X.prog X.w (upd H s.heap.objs.size (.tup [.int (i : Nat), x])) h2 s.heap.objs.size (.tup [.int (i : Nat), x]) :=
      ⟨by show 2 ≤ sizeLine; decide, [.int (i : Nat) tk, u1], .cons ⟨_, rfl⟩ (.cons ru .nil), ⟨_, at2, rfl, _, rfl⟩⟩
    have J : Inv X pins σ (upd H s.heap.objs.size (.tup [.int (i : Nat), x])) { s with heap := h2, toks := tk + 1 } :=
      I.turnedNew (t' := tk + 1) (ch := [e, it]) (fun b ob hb q => (sb.2 b (fun z => hb (by simp [z]))).trans (hk b ob (fun z => hb (by simp [z])) (fun z => hb (by simp [z])) q)) hf (Nat.le_refl _) nw
    refine ⟨.ref s.heap.objs.size, _, J, rfl, ⟨_, x, rfl, I.hok.fresh (Nat.le_refl _), rfl, fun ys hy => by rw [I.tuple_inj hy hq]; exact hx⟩, ⟨⟨u1, ?_⟩, hit1.1.at fun o q => (sb.2 it (Ne.symm hne)).trans q, hne⟩, fun b hb => ?_⟩
    · have e1 : ((i + 1 : Nat) : Int) = (i : Int) + 1 := by omega
      rw [e1]
      exact he2
    · have lb : b < s.heap.objs.size := by
        rcases (show b = e ∨ b = it by simpa using hb) with rfl | rfl
        · exact le
        · exact li
      rw [upd_ne (Nat.ne_of_lt lb)]
      exact (hf b hb).1
  done := by
    intro X hP hw hK hc i pins s σ H E I hf st hg
    subst hP hw hK
    obtain ⟨⟨old, he⟩, hit, hne⟩ := st
    obtain ⟨xs, hq, hx⟩ := hg
    obtain ⟨its, rv, p, hz⟩ := I.tuple hq
    obtain ⟨f0, f1, f2, f3, f4, f5⟩ := hf it (by simp)
    have hl := rv.length
    have D := Draws.tuple (prog := X.prog) (w := X.w) (A := X.A.in1) (I.ok.hd hc) it a (tne_it p hit) its.toArray
    obtain rfl : i = its.toArray.size := by
      rw [List.size_toArray]
      omega
    exact wpAny_pyNext_enum_endD D he ⟨hit, p⟩ fun h' eb => ⟨rfl, I.turned (t' := s.toks) (fun b o hb q => eb b o hb q) f0 f1 f3 f4 f5⟩
  self := fun A i s Q E st h => let ⟨⟨_, he⟩, _⟩ := st; wpAny_pyIter_enum he h
def iEnumT (K : PySem.W.Frag) (ta : TA) : TI := fun σ H R => ta σ H fun vs H1 => ∃ a xs, vs = [.ref a] ∧ SqT K H1 a xs ∧ R (IteT K a) H1
theorem pi_enumT {X : Cx} {e : Expr} {ta : TA} {p pos tpos : Pos} {elts : List Expr} {kk : Nat} (hg : Gl X "enumerate") (hm : X.mg "enumerate" = none) (ha : PA X [e] ta) (hs : starEach [e] X.env = [(false, eval e X.env)] := by rfl) :
    PI X (.Tuple elts kk tpos) (.Call (.Name "enumerate" p) [e] [] pos) (iEnumT X.K ta) := by
  refine ⟨fun pins s σ H R I h => ?_⟩
  refine Call_ (ld_blt I hg hm boot_enumerate (PyProof.Rows.callWith_type1 (thn (ha.run pos pins s σ H _ I h) fun us s1 ⟨vs, H1, I1, r1, q1⟩ => ?_) hs rfl))
  obtain ⟨a, xs, rfl, hq, q⟩ := q1
  obtain ⟨u, rfl, ru⟩ := vals1 r1
  obtain rfl : u = Value.ref a := ru
  obtain ⟨its, rv, pl, hz⟩ := I1.tuple hq
  refine enu_begins (begins_tuple a its.toArray) pl fun h' he hit hk => wpAny_pyIter_enum he ?_
  have J : Inv X pins σ H1 { s1 with heap := h' } := I1.kept (t' := s1.toks) hk
  refine ⟨s1.heap.objs.size + 1, [s1.heap.objs.size + 1, s1.heap.objs.size], _, _, H1, rfl, J, turn_enumT a (s1.heap.objs.size + 1) s1.heap.objs.size, ⟨⟨.none, he⟩, ⟨_, hit, rfl, rfl⟩, Nat.succ_ne_self _⟩, fun b hb => ?_, q⟩
  have le : s1.heap.objs.size ≤ b := by
    rcases (show b = s1.heap.objs.size + 1 ∨ b = s1.heap.objs.size by simpa using hb) with z | z
    · rw [z]; exact Nat.le_add_right _ _
    · rw [z]; exact Nat.le_refl _
  exact I1.fpOk le (I1.hok.fresh le)
theorem walk_enumT {K : PySem.W.Frag} {a : Addr} {xs : List V} : Walk (IteT K a) xs.length (fun H => SqT K H a xs) (fun i H v H' => ∃ T x, v = .ref T ∧ H T = none ∧ H' = upd H T (.tup [.int (i : Nat), x]) ∧ xs[i]? = some x) :=
  ⟨fun i H hi h => ⟨xs, _, h, List.getElem?_eq_getElem hi⟩, fun H h => ⟨xs, h, rfl⟩, fun i H v H' _ h y => by
    obtain ⟨T, x, e1, e2, e3, e4⟩ := y
    exact ⟨T, x, e1, e2, e3, e4 xs h⟩⟩
end Rz

namespace Rz
open PySem PySem.Spec PyProof.Rows L2
/-! ### sets of objects that are known by a key (tuples of ints and texts) -/
/-- what such keys bear -/
structure KSet (P : Program) (w : World) (K : Type) [DecidableEq K] where
  kd : HeapKind P w K
  keep : ∀ {h h2 : Heap} {k : K} {b : Addr}, kd.is h k b → (∀ o, h.get? b = some o → h2.get? b = some o) → kd.is h2 k b
  noSet : ∀ {h : Heap} {k : K} {b : Addr} {o : Obj} {es : Array (Int × Value)} {ep : Nat} {t : SetTable}, kd.is h k b → h.get? b = some o → o.data ≠ .set es ep t
  cls : ∀ {A : Around} {E : Value → Shared → Prop} {s : Shared} {k : K} {b : Addr} {Q : Bool → Shared → Prop}, kd.is s.heap k b → Q false s → wpAny (model P w) A (ofAClassStatement 8 (.ref b)) Q E s
  byv : ∀ {A : Around} {E : Value → Shared → Prop} {s : Shared} {k : K} {b : Addr} {Q : Bool → Shared → Prop}, kd.is s.heap k b → (∀ v, Q v s) → wpAny (model P w) A (hashByValue 8 (.ref b)) Q E s
section
variable {P : Program} {w : World} {A : Around} {E : Value → Shared → Prop} {s : Shared} {K : Type} [DecidableEq K] {κ : KSet P w K}
def rws (κ : KSet P w K) (L : List (Addr × K)) : List (Int × Value) := L.map fun q => (κ.kd.hash q.2, Value.ref q.1)
def hss (κ : KSet P w K) (L : List (Addr × K)) : List Int := L.map fun q => κ.kd.hash q.2
/-- the set at a has the rows L -/
structure TsAt (κ : KSet P w K) (h : Heap) (a : Addr) (L : List (Addr × K)) (es : Array (Int × Value)) (ep : Nat) (t : SetTable) : Prop where
  obj : ∃ o, h.get? a = some o ∧ o.ExactSet ∧ o.data = .set es ep t
  lst : es.toList = rws κ L
  tab : TabOk t (hss κ L)
  nd : (L.map (·.2)).Nodup
  mem : ∀ q ∈ L, κ.kd.is h q.2 q.1
  led : w.params.followText "set-order" = true ∨ t.led = true
  room : L.length * 5 < t.mask * 3
  few : L.length < 64
variable {a : Addr} {L : List (Addr × K)} {es : Array (Int × Value)} {ep : Nat} {t : SetTable}
theorem rws_len (h : es.toList = rws κ L) : es.size = L.length := by
  have e := congrArg List.length h
  unfold rws at e
  rw [Array.length_toList, List.length_map] at e
  exact e
theorem TsAt.fit (Z : TsAt κ s.heap a L es ep t) : t.fits es.size = true := by
  have z1 := Z.tab.sz
  unfold hss at z1
  rw [List.length_map] at z1
  have z2 := rws_len Z.lst
  have z3 := Z.room
  unfold SetTable.fits SetTable.fill
  rw [Z.tab.dm, Bool.and_eq_true, beq_iff_eq, decide_eq_true_eq]
  show t.place.size = es.size ∧ t.place.size + 0 ≤ t.mask
  omega
theorem rws_at (h : es.toList = rws κ L) {i : Nat} {q : Addr × K} (e : L[i]? = some q) : es[i]? = some (κ.kd.hash q.2, Value.ref q.1) := by
  rw [← Array.getElem?_toList, h]
  unfold rws
  rw [List.getElem?_map, e]
  rfl
theorem ts_seen {k : K} {b : Addr} {Q : Bool → Shared → Prop} (hk : κ.kd.is s.heap k b) {ys : List Value} (hy : ∀ y ∈ ys, ∃ k2 c, y = Value.ref c ∧ κ.kd.is s.heap k2 c) (q : Q false s) : wpAny (model P w) A (searchCouldBeSeen (.ref b) ys) Q E s := by
  unfold searchCouldBeSeen
  refine wpAny_bind (wpAny_forIn_list _ (fun todo r s2 => r.1 = none ∧ s2 = s ∧ ∀ y ∈ todo, ∃ k2 c, y = Value.ref c ∧ κ.kd.is s.heap k2 c) _ ?_ ?_ _ _ ⟨rfl, rfl, hy⟩)
  · rintro v todo r s2 ⟨h1, rfl, h2⟩
    obtain ⟨k2, c, rfl, hc⟩ := h2 v List.mem_cons_self
    have h3 : ∀ y ∈ todo, ∃ k2 c, y = Value.ref c ∧ κ.kd.is s2.heap k2 c := fun u hu => h2 u (List.mem_cons_of_mem _ hu)
    dsimp only
    by_cases e : (b == c || (carriedByValue (.ref b) && carriedByValue (.ref c))) = true
    · exact wp_if_pos e (wpAny_pure ⟨rfl, rfl, h3⟩)
    · refine wp_if_neg e (wpAny_bind (κ.kd.quiet hk ?_))
      rw [if_neg (by decide)]
      refine wpAny_bind (κ.kd.quiet hc ?_)
      rw [if_neg (by decide)]
      refine wpAny_bind (κ.cls hk ?_)
      rw [if_neg (by decide)]
      refine wpAny_bind (κ.cls hc ?_)
      rw [if_neg (by decide)]
      exact wpAny_pure ⟨rfl, rfl, h3⟩
  · rintro ⟨r1, r2⟩ s2 ⟨h1, rfl, _⟩
    simp only at h1
    subst h1
    exact wpAny_pure q
/-- where the search for h stands after c steps -/
abbrev prb (m : Nat) (h : Int) (c : Nat) : SetTable.Probe := nth m (runAt m (SetTable.bits h % (m + 1)) (SetTable.bits h)) c
theorem prb_no (m : Nat) (h : Int) (c : Nat) : (prb m h c).dummy = none := by
  have go : ∀ (n : Nat) (p : SetTable.Probe), p.dummy = none → (nth m p n).dummy = none := by
    intro n
    induction n with
    | zero => exact fun p h => h
    | succ n ih =>
      intro p h
      refine ih (adv m p) ?_
      unfold adv
      split
      · exact h
      · exact h
  exact go c _ rfl
theorem ts_from (Z : TsAt κ s.heap a L es ep t) {x : Addr} {k : K} (hx : κ.kd.is s.heap k x) (hr : κ.kd.room A) {n : Nat} (n1 : n < 10 * SetTable.turns t.mask) (n2 : way t.mask (κ.kd.hash k) n ∉ t.place.toList)
    (n3 : ∀ c, c < n → way t.mask (κ.kd.hash k) c ∈ t.place.toList) {Q : SetFound → Shared → Prop} (yes : k ∈ L.map (·.2) → Q (.there none) s) (no : k ∉ L.map (·.2) → Q (.free (way t.mask (κ.kd.hash k) n) false) s) :
    ∀ (f c : Nat) (at_ : Option SetTable.Probe), at_.getD (t.probeStart (κ.kd.hash k)) = prb t.mask (κ.kd.hash k) c → c ≤ n → n - c < f →
      (∀ (i : Nat) q, L[i]? = some q → q.2 = k → ∃ d, c ≤ d ∧ d < n ∧ t.place.toList[i]? = some (way t.mask (κ.kd.hash k) d)) →
      wpAny (model P w) A (setSearchFrom a (.ref x) (κ.kd.hash k) true f at_) Q E s
  | 0, c, at_, _, _, hf, _ => absurd hf (Nat.not_lt_zero _)
  | f + 1, c, at_, hat, hc, hf, later => by
    obtain ⟨o, e1, e2, e3⟩ := Z.obj
    rw [setSearchFrom_succ]
    refine wpAny_bind (wpAny_setState_of e1 e3 Z.fit ?_)
    dsimp only
    refine wp_if_neg (by
      unfold SetTable.gaveWay
      rw [mask_odd Z.tab.mok]
      decide) ?_
    try refine wpAny_bind (wpAny_pure ?_)
    have shift : ∀ d, (nth t.mask (prb t.mask (κ.kd.hash k) c) d).j = way t.mask (κ.kd.hash k) (c + d) := fun d => congrArg SetTable.Probe.j (nth_add t.mask c _ d).symm
    have spec := go_spec t Z.tab.ris Z.tab.dm (fun i => (es[i]?.map (·.1)).getD 0) (κ.kd.hash k) (10 * SetTable.turns t.mask) (n - c) _ (prb_no t.mask (κ.kd.hash k) c) (by omega)
      (fun d hd => by rw [shift]; exact n3 (c + d) (by omega)) (by rw [shift, show c + (n - c) = n by omega]; exact n2)
    have hashes : ∀ (i : Nat) q, L[i]? = some q → (fun i => (es[i]?.map (·.1)).getD 0) i = κ.kd.hash q.2 := fun i q hq => by
      show (es[i]?.map (·.1)).getD 0 = _
      rw [rws_at Z.lst hq]
      rfl
    rcases spec with ⟨d, i, hd, hi, hh, fresh, hp⟩ | ⟨fresh, hp⟩
    · have met : t.probe (fun i => (es[i]?.map (·.1)).getD 0) (κ.kd.hash k) (at_.getD (t.probeStart (κ.kd.hash k))) = some (.candidate (way t.mask (κ.kd.hash k) (c + d)) i (prb t.mask (κ.kd.hash k) (c + (d + 1)))) := by
        rw [hat, ← shift, show prb t.mask (κ.kd.hash k) (c + (d + 1)) = nth t.mask (prb t.mask (κ.kd.hash k) c) (d + 1) from nth_add t.mask c _ (d + 1)]
        exact hp
      rw [met]
      dsimp only
      rw [shift] at hi
      have il : i < L.length := by
        have z1 := (List.getElem?_eq_some_iff.mp hi).1
        have z2 := Z.tab.sz
        unfold hss at z2
        rw [List.length_map] at z2
        rw [Array.length_toList] at z1
        omega
      have hq : L[i]? = some L[i] := List.getElem?_eq_getElem il
      generalize L[i] = q at hq
      have inL : q ∈ L := List.mem_of_getElem? hq
      have then_ : wpAny (model P w) A (searchRest a (.ref x) (κ.kd.hash k) true f es t (way t.mask (κ.kd.hash k) (c + d)) i (prb t.mask (κ.kd.hash k) (c + (d + 1)))) Q E s := by
        unfold searchRest
        rw [rws_at Z.lst hq]
        dsimp only
        refine wpAny_bind (wpAny_holding (κ.kd.eqBool hr (Z.mem q inL) hx ?_))
        refine wpAny_bind (wpAny_setState_of e1 e3 Z.fit ?_)
        dsimp only
        by_cases eq : q.2 = k
        · exact wp_if_pos (by simp [eq]) (wpAny_pure (yes (List.mem_map.mpr ⟨q, inL, eq⟩)))
        · refine wp_if_neg (by simp [eq]) ?_
          try refine wpAny_bind (wpAny_pure ?_)
          rw [sameMem]
          dsimp only
          have live : t.slot (way t.mask (κ.kd.hash k) (c + d)) = .live i := slot_live Z.tab.ris hi
          simp only [if_true, live, rws_at Z.lst hq]
          refine wpAny_bind (wpAny_isSame_ref_self (wpAny_bind (wpAny_pure ?_)))
          rw [if_pos rfl]
          refine wp_if_neg (by simp [eq]) ?_
          refine ts_from Z hx hr n1 n2 n3 yes no f (c + (d + 1)) _ rfl (by omega) (by omega) fun i0 q0 h0 hk0 => ?_
          obtain ⟨y, y1, y2, y3⟩ := later i0 q0 h0 hk0
          refine ⟨y, ?_, y2, y3⟩
          have hk1 : (fun i => (es[i]?.map (·.1)).getD 0) i0 = κ.kd.hash k := (hashes i0 q0 h0).trans (congrArg κ.kd.hash hk0)
          rcases Nat.lt_trichotomy y (c + d) with z | z | z
          · exact absurd hk1 (fresh (y - c) i0 (by omega) (by rw [shift, show c + (y - c) = y by omega]; exact y3))
          · rw [z] at y3
            have s0 := slot_live Z.tab.ris y3
            rw [live] at s0
            injection s0 with s0
            rw [← s0, hq] at h0
            exact absurd ((congrArg Prod.snd (Option.some.inj h0)).trans hk0) eq
          · omega
      by_cases ld : t.led = true
      · refine wp_if_neg (by simp [ld]) ?_
        try refine wpAny_bind (wpAny_pure ?_)
        exact then_
      · refine wp_if_pos (by simp [ld]) ?_
        refine wpAny_bind (ts_seen hx (fun y hy => ?_) ?_)
        · obtain ⟨u, hu, eu⟩ := List.mem_map.mp hy
          have u1 : u ∈ es ∧ u.1 = κ.kd.hash k := by simpa using hu
          have u2 : u ∈ es.toList := by simpa using u1.1
          rw [Z.lst] at u2
          obtain ⟨q2, hq2, e5⟩ := List.mem_map.mp u2
          exact ⟨q2.2, q2.1, by rw [← eu, ← e5], Z.mem q2 hq2⟩
        · refine wp_if_neg (by decide) ?_
          try refine wpAny_bind (wpAny_pure ?_)
          exact then_
    · have met : t.probe (fun i => (es[i]?.map (·.1)).getD 0) (κ.kd.hash k) (at_.getD (t.probeStart (κ.kd.hash k))) = some (.empty (way t.mask (κ.kd.hash k) n) none) := by
        have e5 : way t.mask (κ.kd.hash k) n = (nth t.mask (prb t.mask (κ.kd.hash k) c) (n - c)).j := by rw [shift, show c + (n - c) = n by omega]
        rw [hat, e5]
        exact hp
      rw [met]
      dsimp only
      refine wpAny_pure (no fun hm => ?_)
      obtain ⟨q0, h0, hk0⟩ := List.mem_map.mp hm
      obtain ⟨i0, hi0, e0⟩ := List.getElem_of_mem h0
      have h00 : L[i0]? = some q0 := by rw [List.getElem?_eq_getElem hi0, e0]
      obtain ⟨y, y1, y2, y3⟩ := later i0 q0 h00 hk0
      exact fresh (y - c) i0 (by omega) (by rw [shift, show c + (y - c) = y by omega]; exact y3) ((hashes i0 q0 h00).trans (congrArg κ.kd.hash hk0))
/-- the search as adding asks for it -/
theorem ts_search (Z : TsAt κ s.heap a L es ep t) {x : Addr} {k : K} (hx : κ.kd.is s.heap k x) (hr : κ.kd.room A) {Q : SetFound → Shared → Prop} (yes : k ∈ L.map (·.2) → Q (.there none) s)
    (no : ∀ n, k ∉ L.map (·.2) → way t.mask (κ.kd.hash k) n ∉ t.place.toList → (∀ c, c < n → way t.mask (κ.kd.hash k) c ∈ t.place.toList) → Q (.free (way t.mask (κ.kd.hash k) n) false) s) :
    wpAny (model P w) A (setSearch a (.ref x) (κ.kd.hash k) true) Q E s := by
  have z1 := Z.room
  obtain ⟨n, n1, n2, n3⟩ := Z.tab.first (by unfold hss; rw [List.length_map]; omega) (κ.kd.hash k)
  have few : n < 100000 := by
    have : 10 * SetTable.turns t.mask ≤ 1420 := by
      unfold SetTable.turns
      rcases Z.tab.mok with e | e | e <;> omega
    omega
  unfold setSearch
  refine ts_from Z hx hr n1 n2 n3 yes (fun h => no n h n2 n3) 100000 0 none rfl (Nat.zero_le _) (by omega) fun i q hq hk => ?_
  have h1 : (hss κ L)[i]? = some (κ.kd.hash k) := by
    unfold hss
    rw [List.getElem?_map, hq, ← hk]
    rfl
  have il : i < t.place.toList.length := by
    have y1 : i < L.length := (List.getElem?_eq_some_iff.mp hq).1
    have y2 := Z.tab.sz
    unfold hss at y2
    rw [List.length_map] at y2
    rw [Array.length_toList]
    omega
  have h2 := List.getElem?_eq_getElem il
  obtain ⟨c, hc, e⟩ := Z.tab.before n2 h1 h2
  exact ⟨c, Nat.zero_le _, hc, by rw [h2, e]⟩
/-- an item is not the set: it stays -/
theorem ts_stay {h h2 : Heap} {k : K} {b : Addr} {o : Obj} (hb : κ.kd.is h k b) (ho : h.get? a = some o) (hd : o.data = .set es ep t) (sb : Heap.SameBut a h h2) : κ.kd.is h2 k b :=
  κ.keep hb fun u e => (sb.2 b fun z => κ.noSet hb (by rw [z]; exact ho) hd).trans e
theorem filt_range {α : Type} (M : List α) : (List.range M.length).filterMap (fun i => M[i]?) = M := by
  have go : ∀ n, n ≤ M.length → (List.range n).filterMap (fun i => M[i]?) = M.take n := by
    intro n
    induction n with
    | zero => exact fun _ => rfl
    | succ n ih =>
      intro hn
      have lt : n < M.length := hn
      rw [List.range_succ, List.filterMap_append, ih (Nat.le_of_lt lt), List.take_add_one, List.filterMap_cons_some (List.getElem?_eq_getElem lt), List.getElem?_eq_getElem lt]
      rfl
  rw [go M.length (Nat.le_refl _), List.take_length]
theorem rws_order {order : Array Nat} (hl : es.toList = rws κ L) (hp : order.toList.Perm (List.range L.length)) :
    ∃ M, (order.filterMap (es[·]?)).toList = rws κ M ∧ M.Perm L ∧ hss κ M = order.toList.map fun i => (es.map (·.1)).getD i 0 := by
  have sz := rws_len hl
  have go : ∀ l : List Nat, (∀ i ∈ l, i < L.length) → l.filterMap (fun i => es[i]?) = rws κ (l.filterMap fun i => L[i]?) ∧ hss κ (l.filterMap fun i => L[i]?) = l.map fun i => (es.map (·.1)).getD i 0 := by
    intro l
    induction l with
    | nil => exact fun _ => ⟨rfl, rfl⟩
    | cons i l ih =>
      intro h
      have lt := h i List.mem_cons_self
      have at1 : L[i]? = some L[i] := List.getElem?_eq_getElem lt
      have at2 := rws_at hl at1
      obtain ⟨y1, y2⟩ := ih fun j hj => h j (List.mem_cons_of_mem _ hj)
      have at3 : (es.map (·.1)).getD i 0 = κ.kd.hash (L[i]).2 := by
        have e : (es.map (·.1))[i]? = some (κ.kd.hash (L[i]).2) := by
          rw [Array.getElem?_map, at2]
          rfl
        simp [Array.getD_eq_getD_getElem?, e]
      rw [List.filterMap_cons_some at1, List.filterMap_cons_some at2, y1, List.map_cons, at3, ← y2]
      exact ⟨rfl, rfl⟩
  obtain ⟨y1, y2⟩ := go order.toList fun i hi => List.mem_range.mp (hp.mem_iff.mp hi)
  refine ⟨_, by first | (rw [Array.toList_filterMap]; exact y1) | simpa using y1, ?_, y2⟩
  have pm := hp.filterMap (fun i => L[i]?)
  rw [filt_range] at pm
  exact pm
/-- the table laid anew, larger -/
theorem ts_relay {o : Obj} (ho : s.heap.get? a = some o) (hx : o.ExactSet) (hd : o.data = .set es ep t) (hl : es.toList = rws κ L) (h1 : t.place.size = es.size) (h2 : t.dummies = #[]) (h3 : es.size ≤ t.mask)
    (nd : (L.map (·.2)).Nodup) (mem : ∀ q ∈ L, κ.kd.is s.heap q.2 q.1) (led : w.params.followText "set-order" = true ∨ t.led = true) (few : L.length < 64) {want m : Nat}
    (m1 : SetTable.sizeAbove want - 1 = m) (m2 : MaskOk m) (m3 : SetTable.sizeAbove want ≤ 128) (m4 : L.length * 5 < m * 3) {Q : Unit → Shared → Prop}
    (q : ∀ g M us e2 u, Heap.SameBut a s.heap g → TsAt κ g a M us e2 u → M.Perm L → Q () { s with heap := g }) : wpAny (model P w) A (setRelay a want) Q E s := by
  have sz := rws_len hl
  have fit : t.fits es.size = true := by
    unfold SetTable.fits SetTable.fill
    rw [h2, Bool.and_eq_true, beq_iff_eq, decide_eq_true_eq]
    show t.place.size = es.size ∧ t.place.size + 0 ≤ t.mask
    omega
  obtain ⟨u, order, e1, hp, tab, e2, e3, e4, e5⟩ := relaid_ok t (hs := es.map (·.1)) (wanted := want) m1 m2 (by rw [Array.size_map, sz]; omega)
  rw [Array.size_map, sz] at hp
  obtain ⟨M, r1, r2, r3⟩ := rws_order hl hp
  rw [← r3] at tab
  have sz2 : (order.filterMap (es[·]?)).size = es.size := by rw [rws_len r1, r2.length_eq, sz]
  rw [setRelay_eq]
  refine wpAny_bind (wpAny_setState_of ho hd fit ?_)
  dsimp only
  refine wp_if_neg (by rw [sizeLine_eq]; omega) ?_
  try refine wpAny_bind (wpAny_pure ?_)
  rw [e1]
  dsimp only
  refine wpAny_bind (wp_if_neg (by rw [sz2]; simp) ?_)
  try refine wpAny_bind (wpAny_pure ?_)
  refine wpAny_pure ?_
  dsimp only
  refine wpAny_storeSet_of ho hd ?_ (by rw [sz2, sz, sizeLine_eq]; omega)
  have sb : Heap.SameBut a s.heap (s.heap.update a (Obj.putSet (order.filterMap (es[·]?)) u)) := Heap.SameBut.update ..
  exact q _ M _ (ep + 1) u sb ⟨⟨_, store_at ho hd, ⟨hx.1, hx.2.1, hx.2.2⟩, rfl⟩, r1, tab, (r2.map (·.2)).nodup_iff.mpr nd, fun y hy => ts_stay (mem y (r2.mem_iff.mp hy)) ho hd sb, by rw [e3]; exact led, by rw [r2.length_eq, e2]; exact m4, by rw [r2.length_eq]; exact few⟩ r2
theorem ite_pull {α β : Type} {c : Prop} [Decidable c] {m1 m2 : Sem α} {f : α → Sem β} : (if c then (m1 >>= f) else (m2 >>= f)) = ((if c then m1 else m2) >>= f) := by
  split <;> rfl
/-- one is added -/
theorem ts_add (Z : TsAt κ s.heap a L es ep t) {x : Addr} {k : K} (hx : κ.kd.is s.heap k x) (hr : κ.kd.room A) (few : L.length + 1 < 64) {Q : Bool → Shared → Prop}
    (q : ∀ b g M us e2 u, Heap.SameBut a s.heap g → TsAt κ g a M us e2 u → (k ∈ L.map (·.2) → M = L) → (k ∉ L.map (·.2) → M.Perm ((x, k) :: L)) → Q b { s with heap := g }) :
    wpAny (model P w) A (setAddHashed a (.ref x) (κ.kd.hash k)) Q E s := by
  obtain ⟨o, o1, o2, o3⟩ := Z.obj
  have sz := rws_len Z.lst
  have rm := Z.room
  unfold setAddHashed
  refine wpAny_holding ?_
  rw [show (100000 : Nat) = 99999 + 1 from rfl, setAddHashedIn_succ]
  refine wpAny_bind (wpAny_setState_of o1 o3 Z.fit ?_)
  dsimp only
  refine wp_if_neg (by simp [byScan, Value.scannable]) ?_
  try refine wpAny_bind (wpAny_pure ?_)
  refine wpAny_bind (ts_search Z hx hr (fun hm => ?_) fun n hm n2 n3 => ?_)
  · dsimp only
    exact wpAny_pure (q false s.heap L es ep t (Heap.SameBut.refl a s.heap) Z (fun _ => rfl) fun z => absurd hm z)
  dsimp only
  refine wpAny_bind (wpAny_setState_of o1 o3 Z.fit ?_)
  dsimp only
  obtain ⟨p1, p2, p3, p4, p5, p6, p7, p8, p9⟩ := Z.tab.put n2 n3
  generalize hput : t.put (way t.mask (κ.kd.hash k) n) = pr at p1 p3 p4 p5 p6 p7 p8 p9 ⊢
  obtain ⟨u0, c⟩ := pr
  dsimp only at p1 p3 p4 p5 p6 p7 p8 p9 ⊢
  subst p1
  rw [ite_pull]
  refine wpAny_bind (wpAny_mono (Q := fun _ s2 => s2 = s) ?_ (fun bv s2 e0 => ?_) fun _ _ z => z)
  · by_cases e : u0.plain = true
    · exact wp_if_pos e (κ.byv hx fun _ => rfl)
    · exact wp_if_neg e (wpAny_pure rfl)
  rw [e0]
  obtain ⟨u, hu2⟩ : ∃ u, u = (if bv = true then u0 else { u0 with plain := false }) := ⟨_, rfl⟩
  rw [← hu2]
  have q3 : TabOk u ((hss κ L).take (SetTable.below t.place (way t.mask (κ.kd.hash k) n)) ++ κ.kd.hash k :: (hss κ L).drop (SetTable.below t.place (way t.mask (κ.kd.hash k) n))) := by
    rw [hu2]
    cases bv
    · exact ⟨p3.ris, p3.dm, p3.sz, p3.mok, p3.bd, p3.reach⟩
    · exact p3
  have q4 : u.mask = t.mask := by
    rw [hu2]
    cases bv <;> exact p4
  have q5 : u.led = t.led := by
    rw [hu2]
    cases bv <;> exact p5
  have q9 : u.fill = (hss κ L).length + 1 := by
    rw [hu2]
    cases bv <;> exact p9
  clear p3 p4 p5 p6 p7 p8 p9 hu2
  have p3 := q3
  have p4 := q4
  have p5 := q5
  have p9 := q9
  clear q3 q4 q5 q9
  generalize hc : SetTable.below t.place (way t.mask (κ.kd.hash k) n) = c at p2 p3 ⊢
  have ins : (SetTable.insertAt es c (κ.kd.hash k, Value.ref x)).toList = rws κ (L.take c ++ (x, k) :: L.drop c) := by
    rw [SetTable.toList_insertAt, Z.lst]
    unfold rws
    rw [List.map_append, List.map_cons, List.map_take, List.map_drop]
  have pm := put_perm L c (x, k)
  have hs2 : hss κ (L.take c ++ (x, k) :: L.drop c) = (hss κ L).take c ++ κ.kd.hash k :: (hss κ L).drop c := by
    unfold hss
    rw [List.map_append, List.map_cons, List.map_take, List.map_drop]
  rw [← hs2] at p3
  generalize L.take c ++ (x, k) :: L.drop c = M at ins pm p3
  clear hs2
  have ml : M.length = L.length + 1 := pm.length_eq
  have nd2 : (M.map (·.2)).Nodup := (pm.map (·.2)).nodup_iff.mpr (by
    rw [List.map_cons]
    exact List.nodup_cons.mpr ⟨hm, Z.nd⟩)
  have sz2 := rws_len ins
  rw [ml] at sz2
  generalize SetTable.insertAt es c (κ.kd.hash k, Value.ref x) = us at ins sz2 ⊢
  refine wpAny_bind (wpAny_storeSet_of o1 o3 ?_ (by rw [sz2, sizeLine_eq]; omega))
  have sb : Heap.SameBut a s.heap (s.heap.update a (Obj.putSet us u)) := Heap.SameBut.update ..
  have o4 := store_at (es' := us) (t' := u) o1 o3
  generalize s.heap.update a (Obj.putSet us u) = g at sb o4 ⊢
  have mem2 : ∀ y ∈ M, κ.kd.is g y.2 y.1 := fun y hy => by
    rcases List.mem_cons.mp (pm.mem_iff.mp hy) with e | e
    · rw [e]
      exact ts_stay hx o1 o3 sb
    · exact ts_stay (Z.mem y e) o1 o3 sb
  have led2 : w.params.followText "set-order" = true ∨ u.led = true := by rw [p5]; exact Z.led
  have p10 : u.fill = L.length + 1 := by
    rw [p9]
    unfold hss
    rw [List.length_map]
  by_cases full : u.tooFull = true
  · first
      | (refine wpAny_bind ?_; refine wp_if_pos (by simp [full]) ?_)
      | (refine wp_if_pos (by simp [full]) ?_; refine wpAny_bind ?_)
    have much : (L.length + 1) * 5 ≥ u.mask * 3 := by
      unfold SetTable.tooFull at full
      rw [decide_eq_true_eq, p10] at full
      exact full
    rw [sz]
    have ps : u.place.size = us.size := by
      have e := p3.sz
      unfold hss at e
      rw [List.length_map, ml] at e
      rw [e, sz2]
    have which : (t.mask = 7 ∧ L.length = 4) ∨ (t.mask = 31 ∧ L.length = 18) := by
      rcases Z.tab.mok with e | e | e
      · exact .inl ⟨e, by rw [p4, e] at much; rw [e] at rm; omega⟩
      · exact .inr ⟨e, by rw [p4, e] at much; rw [e] at rm; omega⟩
      · rw [p4, e] at much
        omega
    have go : ∀ m, SetTable.sizeAbove (SetTable.grown (L.length + 1)) - 1 = m → MaskOk m → SetTable.sizeAbove (SetTable.grown (L.length + 1)) ≤ 128 → (L.length + 1) * 5 < m * 3 →
        wpAny (model P w) A (setRelay a (SetTable.grown (L.length + 1))) (fun _ s2 => wpAny (model P w) A (pure true) Q E s2) E { s with heap := g } := fun m y1 y2 y3 y4 => by
      refine ts_relay (s := { s with heap := g }) (L := M) o4 ⟨o2.1, o2.2.1, o2.2.2⟩ rfl ins ps p3.dm (by rw [sz2, p4]; rcases which with ⟨e, e2⟩ | ⟨e, e2⟩ <;> omega) nd2 mem2 led2 (by rw [ml]; exact few) y1 y2 y3 (by rw [ml]; exact y4) ?_
      intro g2 M2 vs e2 v sb2 Z2 pm2
      exact wpAny_pure (q true g2 M2 vs e2 v (sb.trans sb2) Z2 (fun z => absurd z hm) fun _ => pm2.trans pm)
    rcases which with ⟨_, e2⟩ | ⟨_, e2⟩
    · exact go 31 (by rw [e2, size_20]) (.inr (.inl rfl)) (by rw [e2, size_20]; decide) (by omega)
    · exact go 127 (by rw [e2, size_76]) (.inr (.inr rfl)) (by rw [e2, size_76]; decide) (by omega)
  · first
      | refine wp_if_neg (by simp [full]) ?_
      | (refine wpAny_bind ?_; refine wp_if_neg (by simp [full]) ?_; refine wpAny_pure ?_)
    refine wpAny_pure (q true g M us (ep + 1) u sb ⟨⟨_, o4, ⟨o2.1, o2.2.1, o2.2.2⟩, rfl⟩, ins, p3, nd2, mem2, led2, ?_, by rw [ml]; exact few⟩ (fun z => absurd z hm) fun _ => pm)
    unfold SetTable.tooFull at full
    rw [decide_eq_true_eq, p10] at full
    rw [ml]
    omega
end
end Rz
namespace Rz
open PySem PySem.Spec PyProof.Rows L2
section
variable {P : Program} {w : World} {A : Around} {E : Value → Shared → Prop} {s : Shared} {K : Type} [DecidableEq K] {κ : KSet P w K}
/-- what came in from the first i rows -/
structure Came (ks : List (Addr × K)) (i : Nat) (L : List (Addr × K)) : Prop where
  from_ : ∀ q ∈ L, q ∈ ks.take i
  all : ∀ q ∈ ks.take i, q.2 ∈ L.map (·.2)
  few : L.length ≤ i
theorem Came.step {ks L M : List (Addr × K)} {i : Nat} {x : Addr × K} (c : Came ks i L) (h : ks[i]? = some x) (yes : x.2 ∈ L.map (·.2) → M = L) (no : x.2 ∉ L.map (·.2) → M.Perm (x :: L)) : Came ks (i + 1) M := by
  have tk : ks.take (i + 1) = ks.take i ++ [x] := by rw [List.take_add_one, h]; rfl
  by_cases hm : x.2 ∈ L.map (·.2)
  · rw [yes hm]
    refine ⟨fun q hq => ?_, fun q hq => ?_, Nat.le_succ_of_le c.few⟩
    · rw [tk]
      exact List.mem_append_left _ (c.from_ q hq)
    · rw [tk] at hq
      rcases List.mem_append.mp hq with z | z
      · exact c.all q z
      · rw [List.mem_singleton.mp z]
        exact hm
  · have pm := no hm
    refine ⟨fun q hq => ?_, fun q hq => ?_, by rw [pm.length_eq]; exact Nat.succ_le_succ c.few⟩
    · rw [tk]
      rcases List.mem_cons.mp (pm.mem_iff.mp hq) with z | z
      · rw [z]
        exact List.mem_append_right _ (List.mem_singleton.mpr rfl)
      · exact List.mem_append_left _ (c.from_ q z)
    · rw [(pm.map (·.2)).mem_iff, List.map_cons]
      rw [tk] at hq
      rcases List.mem_append.mp hq with z | z
      · exact List.mem_cons_of_mem _ (c.all q z)
      · rw [List.mem_singleton.mp z]
        exact List.mem_cons_self
theorem TsAt.stay {h g : Heap} {a : Addr} {L : List (Addr × K)} {es : Array (Int × Value)} {ep : Nat} {t : SetTable} (Z : TsAt κ h a L es ep t) (ha : ∀ o, h.get? a = some o → g.get? a = some o) (hm : ∀ q ∈ L, κ.kd.is g q.2 q.1) : TsAt κ g a L es ep t :=
  ⟨let ⟨o, e, r⟩ := Z.obj; ⟨o, ha o e, r⟩, Z.lst, Z.tab, Z.nd, hm, Z.led, Z.room, Z.few⟩
theorem ts_fresh {h : Heap} {a : Addr} (e : h.get? a = some { cls := .type "set", dict := none, data := .set #[] 0 (.fresh 0 0 (!w.params.followText "set-order")) }) : TsAt κ h a [] #[] 0 (.fresh 0 0 (!w.params.followText "set-order")) := by
  refine ⟨⟨_, e, ⟨rfl, rfl, rfl⟩, rfl⟩, rfl, ⟨List.Pairwise.nil, rfl, rfl, .inl rfl, fun x hx => (by cases hx), fun i h j hi => (by simp [hss] at hi)⟩, List.nodup_nil, fun q hq => (by cases hq), ?_, by show 0 * 5 < 7 * 3; decide, by show 0 < 64; decide⟩
  show _ ∨ (!w.params.followText "set-order") = true
  cases w.params.followText "set-order"
  · exact .inr rfl
  · exact .inl rfl
/-- the loop that fills the set -/
theorem ts_loop {it : Addr} {fp wr : List Addr} {G : Array GenState → Array GenState → Prop} {n : Nat} {Pv : Nat → Value → Prop} {St : Nat → Shared → Prop} {R : Result → Shared → Prop}
    (W : WalksS P w A.in1 it fp wr G n Pv St) (a : Addr) (out : a ∉ fp) (ks : List (Addr × K)) (hn : n = ks.length) (few : ks.length < 64) (val : ∀ i v, Pv i v → ∃ q, ks[i]? = some q ∧ v = .ref q.1)
    (g0 : Heap) (hk : ∀ q ∈ ks, κ.kd.is g0 q.2 q.1) (new : g0.get? a = none) (newW : ∀ b ∈ wr, g0.get? b = none) (hr : κ.kd.room A.in1) :
    ∀ (m i : Nat) (s : Shared), n - i = m → i ≤ n → St i s → (∀ b o, g0.get? b = some o → s.heap.get? b = some o) → (∃ L es ep t, TsAt κ s.heap a L es ep t ∧ Came ks i L) →
      (∀ s2 L es ep t, Moved (a :: wr) G s s2 → TsAt κ s2.heap a L es ep t → Came ks n L → (∀ b o, g0.get? b = some o → s2.heap.get? b = some o) → R (.ok (.ret .none)) s2) →
      codeAny (model P w) A (.builtin "set.update.loop" ⟨[.ref a, .ref it], []⟩) R s := by
  have out2 : a ∉ wr := fun z => out (W.sub _ z)
  have more : ∀ b ∈ wr, b ∈ a :: wr := fun b hb => List.mem_cons_of_mem _ hb
  have old : ∀ {s1 s2 : Shared}, Moved wr G s1 s2 → (∀ b o, g0.get? b = some o → s1.heap.get? b = some o) → ∀ b o, g0.get? b = some o → s2.heap.get? b = some o := fun mv k b o e =>
    mv.heap b o (fun hb => by rw [newW b hb] at e; cases e) (k b o e)
  have inK : ∀ {i : Nat} {L : List (Addr × K)}, Came ks i L → ∀ q ∈ L, q ∈ ks := fun c q hq => List.mem_of_mem_take (c.from_ q hq)
  intro m
  induction m with
  | zero =>
    intro i s hm hi st k ⟨L, es, ep, t, Z, c⟩ fin
    obtain rfl : i = n := by omega
    refine codeAny_builtin F.entry_set_update_loop ?_
    rw [Around.under_plainId F.plain_set_update_loop _]
    show wpAny _ A.in1 (pyNext (.ref it) >>= _) _ _ s
    refine wpAny_bind (W.done s _ _ st fun s2 mv => ?_)
    show wpAny _ A.in1 (ret Value.none) _ _ s2
    have k2 := old mv k
    exact wpAny_pure (fin s2 L es ep t (mv.mono more) (Z.stay (fun o e => mv.heap a o out2 e) fun q hq => κ.keep (hk q (inK c q hq)) fun o e => k2 _ o e) c k2)
  | succ m ih =>
    intro i s hm hi st k ⟨L, es, ep, t, Z, c⟩ fin
    have lt : i < n := by omega
    refine codeAny_builtin F.entry_set_update_loop ?_
    rw [Around.under_plainId F.plain_set_update_loop _]
    show wpAny _ A.in1 (pyNext (.ref it) >>= _) _ _ s
    refine wpAny_bind (W.item i s _ _ lt st fun v s2 hv st2 mv => ?_)
    obtain ⟨x, hx, rfl⟩ := val i v hv
    have k2 := old mv k
    have Z2 := Z.stay (g := s2.heap) (fun o e => mv.heap a o out2 e) fun q hq => κ.keep (hk q (inK c q hq)) fun o e => k2 _ o e
    have x2 : κ.kd.is s2.heap x.2 x.1 := κ.keep (hk x (List.mem_of_getElem? hx)) fun o e => k2 _ o e
    show wpAny _ A.in1 (holding [Value.ref x.1] (setAdd a (.ref x.1)) >>= _) _ _ s2
    refine wpAny_bind (wpAny_holding ?_)
    unfold setAdd
    refine wpAny_holding (wpAny_bind (κ.kd.pyHash hr x2 ?_))
    refine ts_add (s := { s2 with toks := s2.toks + κ.kd.draws x.2 }) Z2 x2 hr (by have := c.few; omega) fun b g M us e2 u sb Z3 yes no => ?_
    have k3 : ∀ b o, g0.get? b = some o → g.get? b = some o := fun b o e => (sb.2 b (fun z => by rw [z, new] at e; cases e)).trans (k2 b o e)
    refine wpAny_pure ⟨plainId_quiet F.plain_set_update_loop _, ih (i + 1) _ (by omega) lt (W.frame _ s2 _ _ st2 (Nat.le_add_right _ _) fun b hb o e => ?_) k3 ⟨M, us, e2, u, Z3, c.step hx yes no⟩ fun s3 L3 es3 ep3 t3 mv3 Z4 c4 k4 => ?_⟩
    · rw [sb.2 b (fun z : b = a => out (by rw [← z]; exact hb))]
      exact e
    · refine fin s3 L3 es3 ep3 t3 (Moved.trans W.gtrans ((mv.mono more).then_heap (Nat.le_add_right _ _) fun b o hb e => ?_) mv3) Z4 c4 k4
      rw [sb.2 b (fun z : b = a => hb (by rw [z]; exact List.mem_cons_self))]
      exact e
end
end Rz

namespace Rz
open PySem PySem.Spec PyProof.Rows L2
section
variable {P : Program} {w : World} {A : Around} {E : Value → Shared → Prop} {s : Shared} {K : Type} [DecidableEq K] {κ : KSet P w K}
/-- a set that was just made -/
abbrev frK (w : World) : Obj := { cls := .type "set", dict := none, data := .set #[] 0 (.fresh 0 0 (!w.params.followText "set-order")) }
/-- set(xs) of a list -/
theorem call_setK {l : Addr} {items : Array Value} (ks : List (Addr × K)) {Q : Value → Shared → Prop} (hh : A.handled = none) (hl : s.heap.IsList l items) (hit : items.toList = ks.map fun q => Value.ref q.1)
    (hk : ∀ q ∈ ks, κ.kd.is s.heap q.2 q.1) (few : ks.length < 64) (hr : ∀ B : Around, B.units ≤ A.units + 3 → κ.kd.room B)
    (h : ∀ (g : Heap) (tk : Nat) L es ep t, TsAt κ g s.heap.objs.size L es ep t → Came ks ks.length L → (∀ b o, s.heap.get? b = some o → g.get? b = some o) → Q (.ref s.heap.objs.size) { s with heap := g, toks := tk }) :
    wpAny (model P w) A (call (.type "set") [.ref l]) Q E s := by
  have isz : items.size = ks.length := by
    have e := congrArg List.length hit
    rw [Array.length_toList, List.length_map] at e
    exact e
  obtain ⟨c, tl, hmro⟩ := PySem.F.called_set.mro
  have cm := PySem.F.called_set.made
  have cs := PySem.F.called_set.sub
  refine wpAny_call (codeAny_of_tree ?_)
  show wpAny _ _ (callAny (.type "set") _) _ _ _
  refine wpAny_pure ⟨Code.quiet_builtin _ (by decide +kernel), codeAny_builtin PySem.F.entry_type_call ?_⟩
  rw [Around.under_plain (weight_type_call_type "set" [.ref l] []) rfl]
  have cn := PySem.F.called_set.notType
  have cc := PySem.F.called_set.canCreate
  have ct := PySem.F.typeCall_set_1 (.ref l)
  repeat (any_goals (first | assumption | wp_step))
  refine codeAny_mono (code_set_led1 (.ref l) (E := E) (Q₁ := fun u s1 => u = .ref s.heap.objs.size ∧ s1 = { s with heap := s.heap.push (frK w) }) ⟨rfl, rfl⟩) fun r s1 hr1 => ?_
  match r, hr1 with
  | .error e, hr1 => exact hr1
  | .ok .next, hr1 => exact hr1.elim
  | .ok .brk, hr1 => exact hr1.elim
  | .ok .cont, hr1 => exact hr1.elim
  | .ok (.ret u), hr1 =>
    obtain ⟨rfl, rfl⟩ := hr1
    have at0 : (s.heap.push (frK w)).get? s.heap.objs.size = some (frK w) := Heap.get?_push_size _ rfl
    have ty0 : Shared.TypeIs { s with heap := s.heap.push (frK w) } (.ref s.heap.objs.size) "set" := ⟨_, at0, rfl⟩
    have il := PySem.F.called_set.init.lookup
    have ib := PySem.F.called_set.init.bind (.ref s.heap.objs.size)
    repeat (any_goals (first | assumption | wp_step))
    refine codeAny_mono (codeAny_call_builtin (R := wants (fun r s2 => r = .none ∧ ∃ g tk L es ep t, s2 = { s with heap := g, toks := tk } ∧ TsAt κ g s.heap.objs.size L es ep t ∧ Came ks ks.length L ∧
        (∀ b o, s.heap.get? b = some o → g.get? b = some o)) E) PySem.F.called_set.init.plain PySem.F.entry_set_init (check_set_init_1 ty0 ?_)) fun r2 s2 h2 => ?_
    · obtain ⟨ol, e1, e2, n, e3⟩ := id hl
      obtain ⟨oc, od, odt, osl⟩ := ol
      simp only at e2 e3
      subst e2
      subst e3
      have at1 : (s.heap.push (frK w)).get? l = some { cls := .type "list", dict := od, data := .seq items n, slots := osl } := Heap.get?_push_of_some _ e1
      have f1 := PySem.F.sub_list_set
      have f2 := PySem.F.sub_list_frozenset
      have f3 : (Value.type "list" == Value.type "dict") = false := by decide
      have hl1 : (s.heap.push (frK w)).IsList l items := ⟨_, at1, rfl, n, rfl⟩
      unfold Builtin.«set.__init__» noKeywords Builtin.Frozenset.updateFrom
      generalize hPI : pyIter = PI
      wp_walk
      subst hPI
      refine wpAny_pyIter_list hl1 ?_
      refine wpAny_bind (wpAny_runValue ?_)
      have lt := Heap.lt_size e1
      have sz1 : (s.heap.push (frK w)).objs.size = s.heap.objs.size + 1 := Heap.size_push ..
      have calm : A.in1.in1.in1.handled = none := by simp [hh]
      have ne : l ≠ (s.heap.push (frK w)).objs.size := by rw [sz1]; exact Nat.ne_of_lt (Nat.lt_succ_of_lt lt)
      have away : s.heap.objs.size ∉ [(s.heap.push (frK w)).objs.size, l] := by
        rw [sz1]
        simp only [List.mem_cons, List.not_mem_nil, or_false, not_or]
        exact ⟨Nat.ne_of_lt (Nat.lt_succ_self _), Nat.ne_of_gt lt⟩
      have val : ∀ (i : Nat) (v : Value), items[i]? = some v → ∃ q, ks[i]? = some q ∧ v = .ref q.1 := fun i v hv => by
        have e : items.toList[i]? = some v := by rw [Array.getElem?_toList]; exact hv
        rw [hit, List.getElem?_map] at e
        cases e4 : ks[i]? with
        | none => rw [e4] at e; cases e
        | some q =>
          rw [e4] at e
          exact ⟨q, rfl, (Option.some.inj e).symm⟩
      have none_ : ∀ b, s.heap.objs.size ≤ b → s.heap.get? b = none := fun b hb => by
        cases e : s.heap.get? b with
        | none => rfl
        | some o => exact absurd (Nat.lt_of_lt_of_le (Heap.lt_size e) hb) (Nat.lt_irrefl _)
      refine ts_loop ((Walks.list calm _ l ne items).toS) s.heap.objs.size away ks isz few val s.heap hk (none_ _ (Nat.le_refl _)) (fun b hb => none_ b (by
          rw [List.mem_singleton.mp hb, sz1]
          exact Nat.le_succ _)) (hr _ (Nat.le_refl _)) (items.size - 0) 0 _ rfl (Nat.zero_le _)
        ⟨⟨_, Heap.get?_push_size _ rfl, rfl, rfl⟩, (hl1.push _)⟩ (fun b o e => Heap.get?_push_of_some _ (Heap.get?_push_of_some _ e)) ⟨[], #[], 0, _, ts_fresh (Heap.get?_push_of_some _ at0), fun q hq => (by cases hq), fun q hq => (by simp at hq), Nat.le_refl _⟩ fun s3 L es ep t mv Z cm k3 => ?_
      obtain ⟨g, g2, d2, tk, o2⟩ := s3
      obtain rfl : g2 = s.gens := mv.gens
      obtain rfl : d2 = s.drawn := mv.drawn
      obtain rfl : o2 = s.os := mv.os
      show wpAny _ _ _ _ _ _
      refine wpAny_pure ?_
      show wpAny _ _ (ret Value.none) _ _ _
      rw [isz] at cm
      exact wpAny_pure ⟨rfl, g, tk, L, es, ep, t, rfl, Z, cm, k3⟩
    · match r2, h2 with
      | .error e, h2 => exact h2
      | .ok .next, h2 => exact h2.elim
      | .ok .brk, h2 => exact h2.elim
      | .ok .cont, h2 => exact h2.elim
      | .ok (.ret r), h2 =>
        obtain ⟨rfl, g, tk, L, es, ep, t, rfl, Z, cm, k3⟩ := h2
        repeat (any_goals (first | assumption | wp_step))
        exact h _ _ _ _ _ _ Z cm k3
end
end Rz

namespace Rz
open PySem PySem.Spec PyProof.Rows L2
/-! ### tuples of ints and texts: set(xs), sorted(set) -/
section
variable {P : Program} {w : World} {A : Around} {E : Value → Shared → Prop} {s : Shared}
theorem items_mix {k : List Key} {vs : List Value} (h : ItemsAre (mixKind P w) k vs) : ∀ v ∈ vs, (∃ i t, v = Value.int i t) ∨ ∃ x t, v = Value.str x t := by
  induction h with
  | nil => exact fun v hv => by cases hv
  | @cons k0 v0 ks vs h1 _ ih =>
    intro v hv
    rcases List.mem_cons.mp hv with e | e
    · subst e
      rcases keyIs_shape (show keyIs k0 v = true from h1) with ⟨i, t, _, e⟩ | ⟨x, t, _, e⟩
      · exact .inl ⟨i, t, e⟩
      · exact .inr ⟨x, t, e⟩
    · exact ih v e
theorem cls_int (n : Nat) (i : Int) (t : Tok) : ofAClassStatement n (.int i t) = pure false := by
  cases n <;> rfl
theorem cls_str (n : Nat) (x : Str) (t : Tok) : ofAClassStatement n (.str x t) = pure false := by
  cases n <;> rfl
theorem byv_int (n : Nat) (i : Int) (t : Tok) : hashByValue n (.int i t) = pure true := by
  cases n <;> rfl
theorem byv_str (n : Nat) (x : Str) (t : Tok) : hashByValue n (.str x t) = pure false := by
  cases n <;> rfl
theorem cls_mix {k : List Key} {b : Addr} {Q : Bool → Shared → Prop} (hk : IsTupleKey (mixKind P w) s.heap k b) (q : Q false s) : wpAny (model P w) A (ofAClassStatement 8 (.ref b)) Q E s := by
  have ty := hk.typeIs
  obtain ⟨o, items, n, e1, _, e2, hi⟩ := hk
  unfold ofAClassStatement
  refine wpAny_bind (wpAny_typeOf ty ?_)
  dsimp only
  have e3 : (("tuple" : String) == "tuple") = true := by decide
  simp only [e3, if_true, Bool.not_true, Bool.false_eq_true, if_false]
  try refine wpAny_bind (wpAny_pure ?_)
  try simp only [Bool.not_true, Bool.false_eq_true, if_false]
  show wpAny _ _ (seqItems? (.ref b) >>= _) _ _ s
  refine wpAny_bind (wpAny_seqItems e1 e2 ?_)
  dsimp only
  refine wpAny_bind ?_
  show wpAny _ _ (forIn items _ _) _ _ s
  rw [← Array.forIn_toList]
  refine wpAny_forIn_list _ (fun todo r s2 => r.1 = none ∧ s2 = s ∧ ∀ v ∈ todo, (∃ i t, v = Value.int i t) ∨ ∃ x t, v = Value.str x t) _ ?_ ?_ _ _ ⟨rfl, rfl, items_mix hi⟩
  · rintro v todo r s2 ⟨h1, rfl, h2⟩
    have h3 := fun u hu => h2 u (List.mem_cons_of_mem _ hu)
    rcases h2 v List.mem_cons_self with ⟨i, t, rfl⟩ | ⟨x, t, rfl⟩
    · rw [cls_int]
      refine wpAny_bind (wpAny_pure ?_)
      rw [if_neg (by decide)]
      exact wpAny_pure ⟨rfl, rfl, h3⟩
    · rw [cls_str]
      refine wpAny_bind (wpAny_pure ?_)
      rw [if_neg (by decide)]
      exact wpAny_pure ⟨rfl, rfl, h3⟩
  · rintro ⟨r1, r2⟩ s2 ⟨h1, rfl, _⟩
    simp only at h1
    subst h1
    exact wpAny_pure q
theorem byv_mix {k : List Key} {b : Addr} {Q : Bool → Shared → Prop} (hk : IsTupleKey (mixKind P w) s.heap k b) (q : ∀ v, Q v s) : wpAny (model P w) A (hashByValue 8 (.ref b)) Q E s := by
  have ty := hk.typeIs
  obtain ⟨o, items, n, e1, _, e2, hi⟩ := hk
  unfold hashByValue
  refine wpAny_bind (wpAny_specialOf ty PySem.F.slot_tuple_hash.lookup ?_)
  show wpAny _ _ (seqItems? (.ref b) >>= _) _ _ s
  refine wpAny_bind (wpAny_seqItems e1 e2 ?_)
  refine wpAny_bind ?_
  show wpAny _ _ (forIn items _ _) _ _ s
  rw [← Array.forIn_toList]
  refine wpAny_forIn_list _ (fun todo r s2 => s2 = s ∧ (r.1 = none ∨ r.1 = some false) ∧ ∀ v ∈ todo, (∃ i t, v = Value.int i t) ∨ ∃ x t, v = Value.str x t) _ ?_ ?_ _ _ ⟨rfl, .inl rfl, items_mix hi⟩
  · rintro v todo r s2 ⟨rfl, h1, h2⟩
    have h3 := fun u hu => h2 u (List.mem_cons_of_mem _ hu)
    rcases h2 v List.mem_cons_self with ⟨i, t, rfl⟩ | ⟨x, t, rfl⟩
    · rw [byv_int]
      refine wpAny_bind (wpAny_pure ?_)
      rw [if_neg (by decide)]
      exact wpAny_pure ⟨rfl, .inl rfl, h3⟩
    · rw [byv_str]
      refine wpAny_bind (wpAny_pure ?_)
      rw [if_pos (by decide)]
      refine wpAny_pure ?_
      show wpAny _ _ (pure false) _ _ _
      exact wpAny_pure (q false)
  · rintro ⟨r1, r2⟩ s2 ⟨rfl, h1, _⟩
    simp only at h1
    rcases h1 with rfl | rfl
    · exact wpAny_pure (q true)
    · exact wpAny_pure (q false)
/-- the keys of such tuples -/
def tkS (P : Program) (w : World) : KSet P w (List Key) where
  kd := tupleKind (mixKind P w)
  keep := fun hk k => let ⟨o, items, n, e, r⟩ := hk; ⟨o, items, n, k o e, r⟩
  noSet := fun hk ho hd => by
    obtain ⟨o2, items, n, e1, _, e2, _⟩ := hk
    rw [ho] at e1
    cases e1
    rw [hd] at e2
    cases e2
  cls := fun hk q => cls_mix hk q
  byv := fun hk q => byv_mix hk q
/-- a key as the sort sees it -/
def kN : Key → Int ⊕ List Nat
  | .inl i => .inl i
  | .inr x => .inr x.cps.toList
def kLt (a b : List Key) : Bool := (listOrd itemOrd).blt (a.map kN) (b.map kN)
/-- texts just where the shape has them -/
def Fits (sh : Nat → Bool) : Nat → List Key → Prop
  | _, [] => True
  | i, .inl _ :: r => sh i = false ∧ Fits sh (i + 1) r
  | i, .inr _ :: r => sh i = true ∧ Fits sh (i + 1) r
theorem tup_items {sh : Nat → Bool} : ∀ {k : List Key} {vs : List Value} {i : Nat}, ItemsAre (mixKind P w) k vs → Fits sh i k → tupItems sh i vs = some (k.map kN)
  | _, _, _, .nil, _ => rfl
  | .inl n :: r, _, i, .cons h1 h2, ⟨f1, f2⟩ => by
    rcases keyIs_shape (show keyIs (.inl n) _ = true from h1) with ⟨j, t, e1, rfl⟩ | ⟨x, t, e1, _⟩
    · cases e1
      show (if sh i = true then none else (tupItems sh (i + 1) _).map (Sum.inl n :: ·)) = _
      rw [f1, if_neg Bool.false_ne_true, tup_items h2 f2]
      rfl
    · cases e1
  | .inr x :: r, _, i, .cons h1 h2, ⟨f1, f2⟩ => by
    rcases keyIs_shape (show keyIs (.inr x) _ = true from h1) with ⟨j, t, e1, _⟩ | ⟨y, t, e1, rfl⟩
    · cases e1
    · cases e1
      show (if sh i = true then (tupItems sh (i + 1) _).map (Sum.inr x.cps.toList :: ·) else none) = _
      rw [f1, if_pos rfl, tup_items h2 f2]
      rfl
theorem keyC_of {sh : Nat → Bool} {h : Heap} {k : List Key} {b : Addr} (hk : IsTupleKey (mixKind P w) h k b) (f : Fits sh 0 k) : G.tupKeyC h sh (.ref b) = some (k.map kN) := by
  obtain ⟨o, items, n, e1, e2, e3, hi⟩ := hk
  unfold G.tupKeyC
  have t : G.isTupObj h (.ref b) = true := by
    unfold G.isTupObj
    show (match h.get? b with | some o => (match o.cls with | .type n => n == "tuple" | _ => false) | none => false) = true
    rw [e1]
    dsimp only
    rw [e2]
    rfl
  rw [if_pos t]
  show (match h.get? b with | some o => (match o.data with | .seq xs _ => tupItems sh 0 xs.toList | _ => none) | none => none) = _
  rw [e1]
  dsimp only
  rw [e3]
  exact tup_items hi f
end
end Rz

namespace Rz
open PySem PySem.Spec PyProof.Rows L2
/-! ### sorted(set) of tuples of ints and texts -/
theorem rows_of {K : Type} {L : List (Addr × K)} : ∀ {vs : List Value}, (∀ v ∈ vs, ∃ q ∈ L, v = Value.ref q.1) → ∃ M : List (Addr × K), vs = M.map (fun q => Value.ref q.1) ∧ ∀ q ∈ M, q ∈ L
  | [], _ => ⟨[], rfl, fun q hq => by cases hq⟩
  | v :: vs, h => by
    obtain ⟨q, hq, e⟩ := h v List.mem_cons_self
    obtain ⟨M, e2, m⟩ := rows_of (vs := vs) fun u hu => h u (List.mem_cons_of_mem _ hu)
    refine ⟨q :: M, by rw [List.map_cons, e, e2], fun r hr => ?_⟩
    rcases List.mem_cons.mp hr with z | z
    · rw [z]
      exact hq
    · exact m r z
theorem rows_perm {K : Type} {L M : List (Addr × K)} (nd : (L.map (·.2)).Nodup) (inj : ∀ q ∈ L, ∀ r ∈ L, q.1 = r.1 → q = r) (sub : ∀ q ∈ M, q ∈ L) (pm : (M.map fun q => Value.ref q.1).Perm (L.map fun q => Value.ref q.1)) : M.Perm L := by
  have nL : L.Nodup := List.Pairwise.of_map (·.2) (fun _ _ n e => n (congrArg _ e)) nd
  have nR : (L.map fun q => Value.ref q.1).Nodup := List.pairwise_map.mpr (List.Pairwise.imp_of_mem (fun {q r} hq hr n e => by
    injection e with e
    exact n (inj q hq r hr e)) nL)
  have nM : M.Nodup := List.Pairwise.of_map (fun q => Value.ref q.1) (fun _ _ n e => n (congrArg (fun q : Addr × K => Value.ref q.1) e)) (pm.nodup_iff.mpr nR)
  refine (List.perm_ext_iff_of_nodup nM nL).mpr fun q => ⟨sub q, fun hq => ?_⟩
  obtain ⟨r, hr, e⟩ := List.mem_map.mp (pm.mem_iff.mpr (List.mem_map.mpr ⟨q, hq, rfl⟩))
  injection e with e
  rw [← inj r (sub r hr) q hq e]
  exact hr
section
variable {P : Program} {w : World} {A : Around} {E : Value → Shared → Prop} {s : Shared}
theorem first_of {sh : Nat → Bool} {h : Heap} {k : List Key} {b : Addr} (hk : IsTupleKey (mixKind P w) h k b) (f : Fits sh 0 k) (ne : k ≠ []) : ∃ v, TupOf h sh (.ref b) v := by
  obtain ⟨o, items, n, e1, e2, e3, hi⟩ := hk
  generalize hl : items.toList = vs at hi
  cases hi with
  | nil => exact absurd rfl ne
  | @cons k0 v0 r us h1 h2 =>
    have at0 : items[0]? = some v0 := by
      rw [← Array.getElem?_toList, hl]
      rfl
    cases k0 with
    | inl i =>
      rcases keyIs_shape (show keyIs (.inl i) v0 = true from h1) with ⟨j, t, e4, e5⟩ | ⟨x, t, e4, _⟩
      · exact ⟨v0, b, o, items, n, rfl, e1, e2, e3, at0, fun _ => ⟨j, t, e5⟩, fun z => by rw [f.1] at z; cases z⟩
      · cases e4
    | inr y =>
      rcases keyIs_shape (show keyIs (.inr y) v0 = true from h1) with ⟨j, t, e4, _⟩ | ⟨x, t, e4, e5⟩
      · cases e4
      · exact ⟨v0, b, o, items, n, rfl, e1, e2, e3, at0, (fun z => by rw [f.1] at z; cases z), fun _ => ⟨x, t, e5⟩⟩
theorem tups_of {sh : Nat → Bool} {h : Heap} : ∀ {vs : List Value}, (∀ v ∈ vs, ∃ f, TupOf h sh v f) → ∃ fs, TupsOf h sh vs fs
  | [], _ => ⟨[], .nil⟩
  | v :: vs, hv => by
    obtain ⟨f, hf⟩ := hv v List.mem_cons_self
    obtain ⟨fs, hfs⟩ := tups_of (vs := vs) fun u hu => hv u (List.mem_cons_of_mem _ hu)
    exact ⟨f :: fs, .cons hf hfs⟩
theorem sorted_tsK {a : Addr} {L : List (Addr × List Key)} {es : Array (Int × Value)} {ep : Nat} {t : SetTable} {sh : Nat → Bool} {Q : Value → Shared → Prop} (Z : TsAt (tkS P w) s.heap a L es ep t) (hh : A.handled = none) (hf : ∀ q ∈ L, Fits sh 0 q.2 ∧ q.2 ≠ [])
    (hQ : ∀ (s2 : Shared) (p : Addr) (out : Array Value) (c : Nat) (M : List (Addr × List Key)), (∀ b o, s.heap.get? b = some o → s2.heap.get? b = some o) → s2.gens = s.gens → s2.os = s.os → s.heap.objs.size ≤ p →
      s2.heap.get? p = some (seqObj "list" out c) → out.toList = M.map (fun q => Value.ref q.1) → M.Perm L → M.Pairwise (fun q r => kLt r.2 q.2 = false) → Q (.ref p) s2) :
    wpAny (model P w) A (call (.builtin "sorted") [.ref a]) Q E s := by
  obtain ⟨o, e1, e2, e3⟩ := Z.obj
  have sz := rws_len Z.lst
  have few := Z.few
  refine Calls.call_function_entry kind_sorted plain_sorted entry_sorted (args_sorted1 _) ?_
  unfold Builtin.«sorted»
  refine wpAny_bind (m := checkCount "sorted" 1 1 _) (wpAny_pure ?_)
  refine wpAny_bind (collect_set (A := A.in1) hh ⟨o, e1, e2.1, e3⟩ Z.fit (by unfold scanBound; omega) Z.tab.ris Z.led fun s1 vs k1 z1 g1 o1 pv => ?_)
  have pv : vs.Perm (L.map fun q => Value.ref q.1) := by
    rw [Z.lst] at pv
    unfold rws at pv
    rw [List.map_map] at pv
    exact pv
  have vl : vs.length = L.length := by rw [pv.length_eq, List.length_map]
  refine wpAny_bind (wpAny_newList ?_ (by rw [vl, sizeLine_eq]; omega))
  have at1 : (s1.heap.push (seqObj "list" vs.toArray 0)).get? s1.heap.objs.size = some (seqObj "list" vs.toArray 0) := Heap.get?_push_size _ rfl
  have kept : ∀ q ∈ L, IsTupleKey (mixKind P w) (s1.heap.push (seqObj "list" vs.toArray 0)) q.2 q.1 := fun q hq => (tkS P w).keep (Z.mem q hq) fun u e => Heap.get?_push_of_some _ (k1 _ u e)
  have which : ∀ v ∈ vs, ∃ q ∈ L, v = Value.ref q.1 := fun v hv => by
    obtain ⟨q, hq, e⟩ := List.mem_map.mp (pv.mem_iff.mp hv)
    exact ⟨q, hq, e.symm⟩
  obtain ⟨fs, hfs⟩ := tups_of (sh := sh) (h := s1.heap.push (seqObj "list" vs.toArray 0)) (vs := vs) fun v hv => by
    obtain ⟨q, hq, rfl⟩ := which v hv
    exact first_of (kept q hq) (hf q hq).1 (hf q hq).2
  have keys : ∀ v ∈ vs, ∃ q ∈ L, v = Value.ref q.1 ∧ G.tupKeyC (s1.heap.push (seqObj "list" vs.toArray 0)) sh v = some (q.2.map kN) := fun v hv => by
    obtain ⟨q, hq, rfl⟩ := which v hv
    exact ⟨q, hq, rfl, keyC_of (kept q hq) (hf q hq).1⟩
  refine wpAny_bind (wpAny_holding (wpAny_call_entry slot_list_sort ⟨_, at1, rfl⟩ entry_list_sort (G.list_sort_tups (s := { s1 with heap := s1.heap.push (seqObj "list" vs.toArray 0) }) at1 hfs (fun v hv => let ⟨q, _, _, e⟩ := keys v hv; ⟨_, e⟩) (by rw [vl, sizeLine_eq]; omega) fun st hp hs _ => ⟨_, rfl, ?_⟩) (args_list_sort _)))
  have hl : (arrOf st).toList.Perm (vs.zip vs) := by rw [← pairsOf_toList]; exact Array.perm_iff_toList_perm.mp hp
  have pr : ∀ p ∈ (arrOf st).toList, p.1 = p.2 ∧ p.1 ∈ vs := fun p hp2 => mem_zip_self (hl.mem_iff.mp hp2)
  obtain ⟨c, hc⟩ := sortedHeap_at (vs := vs) (out := (arrOf st).map (·.2)) at1
  have outs : ((arrOf st).map (·.2)).toList.Perm vs := by
    rw [Array.toList_map]
    have y := hl.map (fun p : Value × Value => p.2)
    rw [show (vs.zip vs).map (fun p : Value × Value => p.2) = vs from List.map_snd_zip (Nat.le_refl _)] at y
    exact y
  obtain ⟨M, eM, sub⟩ := rows_of (L := L) (vs := ((arrOf st).map (·.2)).toList) fun v hv => which v (outs.mem_iff.mp hv)
  have inj : ∀ q ∈ L, ∀ r ∈ L, q.1 = r.1 → q = r := fun q hq r hr e => by
    have y1 := Z.mem q hq
    rw [e] at y1
    exact Prod.ext e ((tkS P w).kd.inj y1 (Z.mem r hr))
  have pM : M.Perm L := rows_perm Z.nd inj sub (by rw [← eM]; exact outs.trans pv)
  refine wpAny_pure ⟨_, rfl, hQ _ s1.heap.objs.size _ c M (fun b u e => ?_) g1 o1 z1 hc eM pM ?_⟩
  · have y := k1 b u e
    have lt := Heap.lt_size y
    show (sortedHeap (s1.heap.push (seqObj "list" vs.toArray 0)) s1.heap.objs.size vs _).get? b = some u
    rw [sortedHeap_old (Nat.ne_of_lt lt) (by rw [size_push']; exact Nat.lt_succ_of_lt lt)]
    exact Heap.get?_push_of_some _ y
  · rw [List.pairwise_iff_getElem]
    intro i j hi hj hij
    have ln : (arrOf st).size = M.length := by
      have y := congrArg List.length eM
      rw [Array.length_toList, Array.size_map, List.length_map] at y
      exact y
    have kk : ∀ (n : Nat) (hn : n < M.length), KK (G.tupKindC (s1.heap.push (seqObj "list" vs.toArray 0)) sh) (arrOf st) n = (M[n]).2.map kN := fun n hn => by
      have hn2 : n < (arrOf st).size := by rw [ln]; exact hn
      have e5 : (arrOf st)[n]? = some (arrOf st)[n] := Array.getElem?_eq_getElem hn2
      have inA : (arrOf st)[n] ∈ (arrOf st).toList := Array.mem_toList_iff.mpr (Array.getElem_mem hn2)
      obtain ⟨y1, y2⟩ := pr _ inA
      have e6 : (arrOf st)[n].2 = Value.ref (M[n]).1 := by
        have z := congrArg (fun l : List Value => l[n]?) eM
        simp only [Array.toList_map, List.getElem?_map, Array.getElem?_toList, e5, List.getElem?_eq_getElem hn] at z
        exact Option.some.inj z
      have key := keyC_of (kept _ (sub _ (List.getElem_mem hn))) (hf _ (sub _ (List.getElem_mem hn))).1
      unfold KK
      rw [e5]
      dsimp only
      rw [y1, e6, key]
      rfl
    have y := hs i j (Nat.le_of_lt hij) (by rw [pairsOf_size, vl, ← pM.length_eq]; exact hj)
    rw [kk i hi, kk j hj] at y
    exact y
end
end Rz

namespace Rz
open PySem PySem.Spec PyProof.Rows L2
/-! ### .. as rules -/
/-- the set at a, its tuples aside -/
def Ts0 (P : Program) (w : World) (h : Heap) (a : Addr) (L : List (Addr × List Key)) : Prop :=
  ∃ (es : Array (Int × Value)) (ep : Nat) (t : SetTable), (∃ o, h.get? a = some o ∧ o.ExactSet ∧ o.data = .set es ep t) ∧ es.toList = rws (tkS P w) L ∧ TabOk t (hss (tkS P w) L) ∧ (L.map (·.2)).Nodup ∧
    (w.params.followText "set-order" = true ∨ t.led = true) ∧ L.length * 5 < t.mask * 3 ∧ L.length < 64
def TsO (P : Program) (w : World) (a : Addr) (L : List (Addr × List Key)) : HO := .ext fun h => Ts0 P w h a L
theorem tsO_ok {P : Program} {w : World} {H : Hp} {h : Heap} {a : Addr} {L : List (Addr × List Key)} (x : Ts0 P w h a L) : ObjOk P w H h a (TsO P w a L) := by
  have x0 := x
  obtain ⟨es, ep, t, ⟨o, e, _⟩, _⟩ := x0
  refine ⟨x, ⟨o, e⟩, fun h1 h2 q k => ?_⟩
  obtain ⟨es, ep, t, ⟨o, e, r⟩, q2⟩ := (show Ts0 P w h1 a L from q)
  exact ⟨es, ep, t, ⟨o, k o e, r⟩, q2⟩
theorem items_vals {P : Program} {w : World} : ∀ {k : List Key} {us : List Value}, Vals (k.map kV) us → ItemsAre (mixKind P w) k us
  | [], _, .nil => .nil
  | .inl n :: k, _, .cons r t => by
    obtain ⟨tk, rfl⟩ := (show ∃ t, _ = Value.int n t from r)
    exact .cons (mixKind_int P w n tk) (items_vals t)
  | .inr x :: k, _, .cons r t => by
    obtain ⟨tk, rfl⟩ := (show ∃ t, _ = Value.str x t from r)
    exact .cons (mixKind_str P w x tk) (items_vals t)
theorem refs_vals : ∀ {ks : List (Addr × List Key)} {us : List Value}, Vals (ks.map fun p => V.ref p.1) us → us = ks.map fun p => Value.ref p.1
  | [], _, .nil => rfl
  | p :: ks, _, .cons r t => by
    cases r
    rw [refs_vals t]
    rfl
theorem vals_refs : ∀ (ks : List (Addr × List Key)), Vals (ks.map fun p => V.ref p.1) (ks.map fun p => Value.ref p.1)
  | [] => .nil
  | p :: ks => .cons rfl (vals_refs ks)
def rSetTs (K : PySem.W.Frag) (P : Program) (w : World) : List V → Hp → VK → Prop := fun xs H Q => ∃ (l : Addr) (ks : List (Addr × List Key)), xs = [V.ref l] ∧ SqL K H l (ks.map fun p => V.ref p.1) ∧ (∀ p ∈ ks, SqT K H p.1 (p.2.map kV)) ∧ ks.length < 64 ∧
  ∀ a L, H a = none → (∀ p ∈ L, p ∈ ks) → (∀ p ∈ ks, p.2 ∈ L.map (·.2)) → (L.map (·.2)).Nodup → L.length < 64 → Q (.ref a) (upd H a (TsO P w a L))
def rSortTs (K : PySem.W.Frag) (P : Program) (w : World) : List V → Hp → VK → Prop := fun vs H Q => ∃ (a : Addr) (L : List (Addr × List Key)) (sh : Nat → Bool), vs = [V.ref a] ∧ H a = some (TsO P w a L) ∧ (∀ p ∈ L, SqT K H p.1 (p.2.map kV)) ∧ (∀ p ∈ L, Fits sh 0 p.2 ∧ p.2 ≠ []) ∧
  ∀ (M : List (Addr × List Key)) (p : Addr), M.Perm L → M.Pairwise (fun q r => kLt r.2 q.2 = false) → H p = none → Q (.ref p) (upd H p (.lst (M.map fun q => V.ref q.1)))
section
variable {X : Cx}
theorem inv_key {pins : List (Addr × Obj)} {σ : L2.St} {H : Hp} {s : Shared} {b : Addr} {k : List Key} (I : Inv X pins σ H s) (h : SqT X.K H b (k.map kV)) : IsTupleKey (mixKind X.prog X.w) s.heap k b := by
  obtain ⟨its, r, ⟨o, ho, hc, n, hd⟩, _⟩ := I.tuple h
  exact ⟨o, its.toArray, n, ho, hc, hd, by simpa using items_vals r⟩
theorem cr_setTs (hc : X.calm = true) (hu : X.A.units + 64 < cLine) : CallR X (.type "set") (rSetTs X.K X.prog X.w) := by
  intro pins s σ H xs us Q I r h
  obtain ⟨l, ks, rfl, hl, hk, few, q⟩ := h
  rw [Vals.ref1 r]
  obtain ⟨its, rv, pl, hz⟩ := I.list hl
  have hn : H s.heap.objs.size = none := I.hok.fresh (Nat.le_refl _)
  refine call_setK (κ := tkS X.prog X.w) ks (I.ok.hd hc) pl.isList (by simpa using refs_vals rv) (fun p hp => inv_key I (hk p hp)) few (fun B hB => ?_) fun g tk L es ep t Z cm k => ?_
  · show B.units < cLine
    omega
  · have t0 : Ts0 X.prog X.w g s.heap.objs.size L := ⟨es, ep, t, Z.obj, Z.lst, Z.tab, Z.nd, Z.led, Z.room, Z.few⟩
    refine ⟨.ref s.heap.objs.size, upd H s.heap.objs.size (TsO X.prog X.w s.heap.objs.size L), I.laid (t' := tk) k (Nat.le_refl _) (tsO_ok t0), rfl, q _ L hn (fun p hp => ?_) (fun p hp => ?_) Z.nd Z.few⟩
    · exact List.mem_of_mem_take (cm.from_ p hp)
    · exact cm.all p (by rw [List.take_length]; exact hp)
theorem cr_sortTs (hc : X.calm = true) : CallR X (.builtin "sorted") (rSortTs X.K X.prog X.w) := by
  intro pins s σ H vs us Q I r h
  obtain ⟨a, L, sh, rfl, ha, hk, hf, q⟩ := h
  obtain ⟨es, ep, t, z1, z2, z3, z4, z5, z6, z7⟩ := (show Ts0 X.prog X.w s.heap a L from (I.hok a _ ha).1)
  rw [Vals.ref1 r]
  refine sorted_tsK (sh := sh) ⟨z1, z2, z3, z4, fun p hp => inv_key I (hk p hp), z5, z6, z7⟩ (I.ok.hd hc) hf fun s2 p out c M k g o hp hg hout pm pw => ?_
  have hlen : (M.map fun q => V.ref q.1).length ≤ sizeLine := by rw [List.length_map, pm.length_eq, sizeLine_eq]; omega
  have hn : H p = none := I.hok.fresh hp
  have J : Inv X pins σ (upd H p (.lst (M.map fun q => V.ref q.1))) { s with heap := s2.heap, gens := s2.gens, drawn := s2.drawn, toks := s2.toks } :=
    I.call (ch := []) (Un.laid k hp hn) (I.hok.laid k hp ⟨hlen, out.toList, c, by rw [hout]; exact vals_refs M, hg⟩) (by rw [g]; exact I.bare) (fun _ z => nomatch z)
  have e : s2 = { s with heap := s2.heap, gens := s2.gens, drawn := s2.drawn, toks := s2.toks } := by
    obtain ⟨_, _, _, _, _⟩ := s2
    obtain rfl := o
    rfl
  rw [e]
  exact ⟨.ref p, _, J, rfl, q M p pm pw hn⟩
end
theorem kN_inj : ∀ {a b : Key}, kN a = kN b → a = b
  | .inl i, .inl j, h => by
    injection h with h
    rw [h]
  | .inl _, .inr _, h => by cases h
  | .inr _, .inl _, h => by cases h
  | .inr x, .inr y, h => by
    injection h with h
    have e : x.cps = y.cps := Array.toList_inj.mp h
    cases x
    cases y
    exact congrArg (fun z => Sum.inr (PySem.Str.mk z)) e
theorem kNs_inj : ∀ {a b : List Key}, a.map kN = b.map kN → a = b
  | [], [], _ => rfl
  | [], _ :: _, h => by cases h
  | _ :: _, [], h => by cases h
  | x :: a, y :: b, h => by
    rw [List.map_cons, List.map_cons] at h
    injection h with h1 h2
    rw [kN_inj h1, kNs_inj h2]
theorem kLt_total {a b : List Key} (h1 : kLt a b = false) (h2 : kLt b a = false) : a = b := kNs_inj ((listOrd itemOrd).total _ _ h1 h2)
/-- there is one such list -/
theorem keys_one : ∀ {a b : List (List Key)}, a.Pairwise (fun q r => kLt r q = false) → b.Pairwise (fun q r => kLt r q = false) → a.Nodup → b.Nodup → (∀ x, x ∈ a ↔ x ∈ b) → a = b
  | [], [], _, _, _, _, _ => rfl
  | [], y :: b, _, _, _, _, h => absurd ((h y).mpr List.mem_cons_self) (by simp)
  | x :: a, [], _, _, _, _, h => absurd ((h x).mp List.mem_cons_self) (by simp)
  | x :: a, y :: b, ha, hb, na, nb, h => by
    obtain ⟨a1, a2⟩ := List.pairwise_cons.mp ha
    obtain ⟨b1, b2⟩ := List.pairwise_cons.mp hb
    obtain ⟨c1, c2⟩ := List.nodup_cons.mp na
    obtain ⟨d1, d2⟩ := List.nodup_cons.mp nb
    have e : x = y := by
      rcases List.mem_cons.mp ((h y).mpr List.mem_cons_self) with e | e
      · exact e.symm
      · rcases List.mem_cons.mp ((h x).mp List.mem_cons_self) with f | f
        · exact f
        · exact kLt_total (b1 x f) (a1 y e)
    subst e
    refine congrArg (x :: ·) (keys_one a2 b2 c2 d2 fun z => ⟨fun hz => ?_, fun hz => ?_⟩)
    · rcases List.mem_cons.mp ((h z).mp (List.mem_cons_of_mem _ hz)) with f | f
      · exact absurd (f ▸ hz) c1
      · exact f
    · rcases List.mem_cons.mp ((h z).mpr (List.mem_cons_of_mem _ hz)) with f | f
      · exact absurd (f ▸ hz) d1
      · exact f
end Rz

namespace Rz
open PySem PySem.Spec PyProof.Rows L2
/-! ### name = {k: v for ..} on one line, the name a local -/
theorem dsw_true {kx vx : Expr} {gs : List Comprehension} {scope : Scope} {po py : Pos} {y : Str} {l : Nat} {env : Env} (h1 : env.scope.kind = .function) (h2 : env.scope.names.lookup y = some .local) (h3 : (py.line == po.line) = true)
    (h4 : (scope.names.any fun (n, k) => n == y && (k == .local || k == .cell)) = false) : swapsWith (.DictComp kx vx gs scope po) (some (.Name y py)) l env = pure true := by
  have e1 : env.kindOf y = some .local := h2
  have e2 : env.blockKind = .function := by unfold Env.blockKind; rw [h1]; rfl
  unfold swapsWith
  simp only [e2, e1, h4, Expr.pos, h3]
  rfl
theorem ps_setDc {X : Cx} {i : Nat} {y : Str} {py : Pos} {kx vx tg it : Expr} {ifs : List Expr} {scope : Scope} {own : List (Str × Nat)} {po spo : Pos} {wi : TI} {g : TG} {tt : TT} {tk tv : TE} (calm : X.calm = true) (nd : X.N.Nodup) (hy : X.N[i]? = some y) (hyl : X.env.scope.names.lookup y = some .local)
    (hsw : swapsWith (.DictComp kx vx [⟨tg, it, ifs, 0⟩] scope po) (some (.Name y py)) spo.line X.env = pure true) (hi : PI X tg it wi) (bk : BlkOk X.N X.env.scope scope own)
    (hg : ∀ (s : Shared) (H : Hp) (C : Addr) (cl : List (Str × Addr)) (fp : List Addr), PG (X.blk s H scope (compEnvC scope cl C X.env) fp) tg g) (ht : ∀ (s : Shared) (H : Hp) (C : Addr) (cl : List (Str × Addr)) (fp : List Addr), PTs (X.blk s H scope (compEnvC scope cl C X.env) fp) ifs tt)
    (hk : ∀ (s : Shared) (H : Hp) (C : Addr) (cl : List (Str × Addr)) (fp : List Addr), PE (X.blk s H scope (compEnvC scope cl C X.env) fp) kx tk) (hv : ∀ (s : Shared) (H : Hp) (C : Addr) (cl : List (Str × Addr)) (fp : List Addr), PE (X.blk s H scope (compEnvC scope cl C X.env) fp) vx tv)
    (hs : ∀ x, foldedSetIterable it X.env x = pure x := by intro _; rfl) :
    PS X (.Assign [.Name y py] (.DictComp kx vx [⟨tg, it, ifs, 0⟩] scope po) spo) (tAsg (tDc wi g tt tk tv (own.map (·.2))) (gName i)) := by
  refine ⟨fun pins s σ H D I h => ?_⟩
  rw [exec_Assign_Name_used _ _ _ _ hsw]
  refine wpAny_bind (wpAny_standAt (wpAny_bind ?_))
  show wpAny _ X.A (do let _ ← comprehension (.DictComp kx vx [⟨tg, it, ifs, 0⟩] scope po) scope X.env (firstIterPos [⟨tg, it, ifs, 0⟩] po) newDict false (eval it X.env) (some (assign (.Name y py) X.env))) _ _ s
  have h : tDc wi g tt tk tv (own.map (·.2)) σ H (fun v H1 => gName i v σ H1 D.nx) := h
  refine wpAny_bind (thn (dc_core (Qf := fun _ sz => SP X pins D .next sz) calm nd I hi bk hg ht hk hv hs h fun L C sz m G Iz q hn fpk => ?_) fun _ sz hz => wpAny_pure (wpAny_pure hz))
  show wpAny _ _ (assign (.Name y py) X.env (.ref L)) _ _ _
  refine wpAny_assign_Name (store_ok2 (v := V.ref L) Iz nd hy (.inl hyl) rfl (fun s2 I2 ⟨a, same, ha⟩ => ?_) (.inr hyl))
  obtain ⟨f0, f1, f2, f3, f4, f5⟩ := fpk
  have ne : C ≠ a := by
    rcases ha with z | z
    · rw [z]; exact f1
    · exact fun q => f4 y a z q.symm
  exact ⟨m, hn.sameBut same ne, fun g3 same3 => ⟨_, G, I2.turned (t' := s2.toks) (fun c o hc z => (same3.2 c hc).trans z) f0 f1 f3 f4 f5, q⟩⟩
/-- over a list that stays -/
theorem dc_list {K : PySem.W.Frag} {a : Addr} {xs : List V} {g : TG} {tt : TT} {tk tv : TE} {vs : List Nat} {σ : L2.St} {H1 : Hp} {D : Addr} {Qd : Hp → Prop} (Pv : Nat → Hp → Prop) (h0 : Pv 0 (upd H1 D (.dK []))) (hl : ∀ i H, i ≤ xs.length → Pv i H → SqL K H a xs)
    (hs : ∀ i x H, xs[i]? = some x → Pv i H → g x (wipe σ vs) H fun σ2 H2 => wipe σ2 vs = wipe σ vs ∧ tt σ2 H2 fun b H3 =>
      if b = true then tk σ2 H3 fun y H4 => tv σ2 H4 fun z H5 => ∃ kvs k, y = kV k ∧ H5 D = some (.dK kvs) ∧ kvs.length < sizeLine ∧ Pv (i + 1) (upd H5 D (.dK (putK kvs k z))) else Pv (i + 1) H3) (hd : ∀ H, Pv xs.length H → Qd H) :
    ∃ W : Nat → Nat → Hp → Prop, (∃ m, W 0 m (upd H1 D (.dK []))) ∧ ∀ i m H, W i m H →
      ((Itl K a).stop i H ∧ Qd H) ∨ ((Itl K a).go i H ∧ ∃ Nx : Hp → Prop, (∀ H', Nx H' → ∃ m', m' < m ∧ W (i + 1) m' H') ∧ ∀ x H', (Itl K a).yld i H x H' → g x (wipe σ vs) H' fun σ2 H2 => wipe σ2 vs = wipe σ vs ∧ tt σ2 H2 fun b H3 =>
        if b = true then tk σ2 H3 fun y H4 => tv σ2 H4 fun z H5 => ∃ kvs k, y = kV k ∧ H5 D = some (.dK kvs) ∧ kvs.length < sizeLine ∧ Nx (upd H5 D (.dK (putK kvs k z))) else Nx H3) := by
  refine ⟨fun i m H => m = xs.length - i ∧ i ≤ xs.length ∧ Pv i H, ⟨xs.length, rfl, Nat.zero_le _, h0⟩, ?_⟩
  rintro i m H ⟨rfl, hi, p⟩
  have sq := hl i H hi p
  rcases Nat.lt_or_ge i xs.length with lt | ge
  · refine .inr ⟨⟨xs, xs[i], sq, List.getElem?_eq_getElem lt⟩, Pv (i + 1), fun G pg => ⟨xs.length - (i + 1), by omega, rfl, lt, pg⟩, fun x G y => ?_⟩
    obtain ⟨e, y⟩ := y
    subst e
    exact hs i x _ (y xs sq) p
  · obtain rfl : i = xs.length := Nat.le_antisymm hi ge
    exact .inl ⟨⟨xs, sq, Nat.le_refl _⟩, hd H p⟩
end Rz

namespace Rz
open PySem PySem.Spec PyProof.Rows L2
/-! ### set(xs) of a list of texts -/
theorem strs_nth : ∀ {us : List Value} {xs : List Str} {i : Nat} {v : Value}, StrsAre us xs → us[i]? = some v → ∃ k t, xs[i]? = some k ∧ v = .str k t
  | _, _, i, v, .nil, h => by cases h
  | _, _, 0, v, .cons k t r, h => by
    have z := Option.some.inj h
    exact ⟨k, t, rfl, z.symm⟩
  | _, _, i + 1, v, .cons k t r, h => strs_nth (i := i) r (by simpa using h)
section
variable {P : Program} {w : World} {A : Around} {E : Value → Shared → Prop} {s : Shared}
theorem sl_loop {R : Result → Shared → Prop} {I a ax : Addr} {items : Array Value} {xs : List Str} (hh : A.in1.handled = none) (ne : a ≠ I) (na : a ≠ ax) (nI : ax ≠ I) (hi : StrsAre items.toList xs) (sz : items.size = xs.length) (hz : xs.length + 1 < scanBound) :
    ∀ (k i : Nat) (s : Shared) (l : List Str), xs.length - i = k → i ≤ xs.length → s.heap.IsListIter I ax i → s.heap.IsList ax items → SsAt P w s.heap a l → (∀ y, y ∈ l ↔ y ∈ xs.take i) → l.length ≤ i →
    (∀ (h' : Heap) (tk : Nat) (l' : List Str), SsAt P w h' a l' → (∀ y, y ∈ l' ↔ y ∈ xs) → l'.length ≤ xs.length → (∀ c o, c ≠ a → c ≠ I → s.heap.get? c = some o → h'.get? c = some o) → R (.ok (.ret .none)) { s with heap := h', toks := tk }) →
    codeAny (model P w) A (.builtin "set.update.loop" ⟨[.ref a, .ref I], []⟩) R s := by
  have W := Walks.list (prog := P) (w := w) hh I ax nI items
  intro k
  induction k with
  | zero =>
    intro i s l hk hi0 st sl hS hm hl hR
    obtain rfl : i = xs.length := by omega
    refine codeAny_builtin PyProof.Rows.F.entry_set_update_loop ?_
    rw [Around.under_plainId PyProof.Rows.F.plain_set_update_loop _]
    show wpAny _ A.in1 (pyNext (.ref I) >>= _) _ _ s
    refine wpAny_bind (W.done s _ _ (by rw [sz]; exact ⟨st, sl⟩) fun h' tk kp => ?_)
    show wpAny _ A.in1 (ret Value.none) _ _ _
    exact wpAny_pure (hR h' tk l (hS.keep fun o e => kp a o (by simpa using ne) e) (fun y => by rw [hm, List.take_length]) hl fun c o _ n2 e => kp c o (by simpa using n2) e)
  | succ k ih =>
    intro i s l hk hi0 st sl hS hm hl hR
    refine codeAny_builtin PyProof.Rows.F.entry_set_update_loop ?_
    rw [Around.under_plainId PyProof.Rows.F.plain_set_update_loop _]
    show wpAny _ A.in1 (pyNext (.ref I) >>= _) _ _ s
    refine wpAny_bind (W.item i s _ _ (by omega) ⟨st, sl⟩ fun v h1 tk hv st1 kp => ?_)
    obtain ⟨x, t, hx, rfl⟩ := strs_nth hi (i := i) (v := v) (by rw [Array.getElem?_toList]; exact hv)
    show wpAny _ A.in1 (holding [Value.str x t] (setAdd a (.str x t)) >>= _) _ _ _
    refine wpAny_bind (wpAny_holding ?_)
    unfold setAdd
    refine wpAny_holding (wpAny_bind ((strKind P w).pyHash (k := x) (PySem.Froz.is_str _ _) ?_))
    refine ss_add (s := { s with heap := h1, toks := tk + 1 }) (l := l) (hS.keep fun o e => kp a o (by simpa using ne) e) (by omega) fun h2 l2 b hS2 hm2 hl2 kp2 => ?_
    have st2 := W.frame (i + 1) h1 h2 st1 fun b hb o e => kp2 b o (by
      rcases List.mem_cons.mp hb with z | z
      · rw [z]
        exact Ne.symm ne
      · rw [List.mem_singleton.mp z]
        exact Ne.symm na) e
    refine wpAny_pure ⟨plainId_quiet PyProof.Rows.F.plain_set_update_loop _, ih (i + 1) { s with heap := h2, toks := tk + 1 } l2 (by omega) (by omega) st2.1 st2.2 hS2 (fun y => ?_) (by omega) fun h3 tk3 l3 hS3 hm3 hl3 kp3 => ?_⟩
    · rw [hm2, hm, List.take_add_one, hx]
      show _ ↔ y ∈ xs.take i ++ [x]
      rw [List.mem_append, List.mem_singleton]
      exact Or.comm
    · exact hR h3 tk3 l3 hS3 hm3 hl3 fun d o n1 n2 e => kp3 d o n1 n2 (kp2 d o n1 (kp d o (by simpa using n2) e))
theorem call_setSl {l : Addr} {items : Array Value} {xs : List Str} {Q : Value → Shared → Prop} (hh : A.handled = none) (hl : s.heap.IsList l items) (hit : StrsAre items.toList xs) (hz : xs.length + 1 < scanBound)
    (h : ∀ (h' : Heap) (tk : Nat) (L : List Str), SsAt P w h' s.heap.objs.size L → (∀ y, y ∈ L ↔ y ∈ xs) → L.length ≤ xs.length → (∀ b o, s.heap.get? b = some o → h'.get? b = some o) → Q (.ref s.heap.objs.size) { s with heap := h', toks := tk }) :
    wpAny (model P w) A (call (.type "set") [.ref l]) Q E s := by
  have isz : items.size = xs.length := by
    have e := StrsAre.len_eq hit
    rw [Array.length_toList] at e
    exact e
  obtain ⟨c, tl, hmro⟩ := PySem.F.called_set.mro
  have cm := PySem.F.called_set.made
  have cs := PySem.F.called_set.sub
  refine wpAny_call (codeAny_of_tree ?_)
  show wpAny _ _ (callAny (.type "set") _) _ _ _
  refine wpAny_pure ⟨Code.quiet_builtin _ (by decide +kernel), codeAny_builtin PySem.F.entry_type_call ?_⟩
  rw [Around.under_plain (weight_type_call_type "set" [.ref l] []) rfl]
  have cn := PySem.F.called_set.notType
  have cc := PySem.F.called_set.canCreate
  have ct := PySem.F.typeCall_set_1 (.ref l)
  repeat (any_goals (first | assumption | wp_step))
  refine codeAny_mono (code_set_led1 (.ref l) (E := E) (Q₁ := fun u s1 => u = .ref s.heap.objs.size ∧ s1 = { s with heap := s.heap.push (frS w) }) ⟨rfl, rfl⟩) fun r s1 hr => ?_
  match r, hr with
  | .error e, hr => exact hr
  | .ok .next, hr => exact hr.elim
  | .ok .brk, hr => exact hr.elim
  | .ok .cont, hr => exact hr.elim
  | .ok (.ret u), hr =>
    obtain ⟨rfl, rfl⟩ := hr
    have at0 : (s.heap.push (frS w)).get? s.heap.objs.size = some (frS w) := Heap.get?_push_size _ rfl
    have ty0 : Shared.TypeIs { s with heap := s.heap.push (frS w) } (.ref s.heap.objs.size) "set" := ⟨_, at0, rfl⟩
    have il := PySem.F.called_set.init.lookup
    have ib := PySem.F.called_set.init.bind (.ref s.heap.objs.size)
    repeat (any_goals (first | assumption | wp_step))
    refine codeAny_mono (codeAny_call_builtin (R := wants (fun r s2 => r = .none ∧ ∃ h' tk L, s2 = { s with heap := h', toks := tk } ∧ SsAt P w h' s.heap.objs.size L ∧ (∀ y, y ∈ L ↔ y ∈ xs) ∧ L.length ≤ xs.length ∧
        (∀ b o, s.heap.get? b = some o → h'.get? b = some o)) E) PySem.F.called_set.init.plain PySem.F.entry_set_init (check_set_init_1 ty0 ?_)) fun r2 s2 h2 => ?_
    · obtain ⟨ol, e1, e2, n, e3⟩ := id hl
      obtain ⟨oc, od, odt, osl⟩ := ol
      simp only at e2 e3
      subst e2
      subst e3
      have at1 : (s.heap.push (frS w)).get? l = some { cls := .type "list", dict := od, data := .seq items n, slots := osl } := Heap.get?_push_of_some _ e1
      have f1 := PySem.F.sub_list_set
      have f2 := PySem.F.sub_list_frozenset
      have f3 : (Value.type "list" == Value.type "dict") = false := by decide
      have hl1 : (s.heap.push (frS w)).IsList l items := ⟨_, at1, rfl, n, rfl⟩
      unfold Builtin.«set.__init__» noKeywords Builtin.Frozenset.updateFrom
      generalize hPI : pyIter = PI
      wp_walk
      subst hPI
      refine wpAny_pyIter_list hl1 ?_
      refine wpAny_bind (wpAny_runValue ?_)
      have lt := Heap.lt_size e1
      have sz1 : (s.heap.push (frS w)).objs.size = s.heap.objs.size + 1 := Heap.size_push ..
      have calm : A.in1.in1.in1.handled = none := by simp [hh]
      have nl : l ≠ (s.heap.push (frS w)).objs.size := by rw [sz1]; exact Nat.ne_of_lt (Nat.lt_succ_of_lt lt)
      refine sl_loop (I := (s.heap.push (frS w)).objs.size) (ax := l) (items := items) calm (by rw [sz1]; exact Nat.ne_of_lt (Nat.lt_succ_self _)) (Nat.ne_of_gt lt) nl hit isz hz (xs.length - 0) 0 _ [] rfl (Nat.zero_le _) ⟨_, Heap.get?_push_size _ rfl, rfl, rfl⟩ (hl1.push _) (ss_fresh (Heap.get?_push_of_some _ at0))
        (fun y => ⟨fun z => (by cases z), fun z => (by simp at z)⟩) (Nat.le_refl _) fun h' tk L hS hm hL kp => ?_
      show wpAny _ _ _ _ _ _
      refine wpAny_pure ?_
      show wpAny _ _ (ret Value.none) _ _ _
      refine wpAny_pure ⟨rfl, h', tk, L, rfl, hS, hm, hL, fun b o e => ?_⟩
      have lt := Heap.lt_size e
      exact kp b o (Nat.ne_of_lt lt) (by rw [sz1]; exact Nat.ne_of_lt (Nat.lt_succ_of_lt lt)) (Heap.get?_push_of_some _ (Heap.get?_push_of_some _ e))
    · match r2, h2 with
      | .error e, h2 => exact h2
      | .ok .next, h2 => exact h2.elim
      | .ok .brk, h2 => exact h2.elim
      | .ok .cont, h2 => exact h2.elim
      | .ok (.ret r), h2 =>
        obtain ⟨rfl, h', tk, L, rfl, hS, hm, hL, kp⟩ := h2
        repeat (any_goals (first | assumption | wp_step))
        exact h _ _ _ hS hm hL kp
end
def rSetSl (K : PySem.W.Frag) (P : Program) (w : World) : List V → Hp → VK → Prop := fun vs H Q => ∃ (l : Addr) (xs : List Str), vs = [.ref l] ∧ SqL K H l (xs.map V.str) ∧ xs.length + 1 < scanBound ∧
  ∀ (p : Addr) (L : List Str), H p = none → (∀ y, y ∈ L ↔ y ∈ xs) → L.Nodup → L.length ≤ xs.length → Q (.ref p) (upd H p (SsO P w p L))
section
variable {X : Cx}
theorem cr_setSl (hc : X.calm = true) : CallR X (.type "set") (rSetSl X.K X.prog X.w) := by
  intro pins s σ H xs us Q I r h
  obtain ⟨l, ys, rfl, hl, hz, q⟩ := h
  rw [Vals.ref1 r]
  obtain ⟨its, rv, pl, _⟩ := I.list hl
  refine call_setSl (xs := ys) (I.ok.hd hc) pl.isList (by simpa using strsAre_of rv) hz fun h' tk L hS hm hL kp => ?_
  exact ⟨.ref s.heap.objs.size, _, I.laid (t' := tk) kp (Nat.le_refl _) (ssO_ok hS), rfl, q _ L (I.hok.fresh (Nat.le_refl _)) hm (let ⟨_, _, _, nd, _⟩ := hS; nd) hL⟩
end
end Rz

namespace Rz
open PySem PySem.Spec PyProof.Rows L2
/-! ### sorted(xs, key=len) of texts, equal lengths in their order -/
/-- the key of v is k, whatever stands in the heap -/
def GivesK (P : Program) (w : World) (A : Around) (f v : Value) (k : Int) : Prop :=
  ∀ s : Shared, wpAny (model P w) A (call f [v]) (fun u s2 => ∃ t tk, u = .int k t ∧ s2 = { s with toks := tk }) (fun _ _ => False) s
section
variable {P : Program} {w : World} {A : Around} {E : Value → Shared → Prop} {s : Shared} {a d : Addr} {us : List Value} {kz : List Int} {ka : Array Value} {e0 e1 : Nat} {R : PySem.Fin → Shared → Prop}
theorem ka_size (ik : IntsAre ka.toList kz) (len : kz.length = us.length) : ka.size = us.length := by
  have q := ik.length
  rw [Array.length_toList] at q
  omega
theorem kz_size (ik : IntsAre ka.toList kz) (len : kz.length = us.length) : (ka.zip us.toArray).size = us.length := by
  rw [Array.size_zip, ka_size ik len, List.size_toArray, Nat.min_self]
theorem kl_tail {z : SortSt} (hd : s.heap.get? d = some (seqObj "list" ka e0)) (ha : s.heap.get? a = some (seqObj "list" #[] e1)) (ne : d ≠ a) (ik : IntsAre ka.toList kz) (len : kz.length = us.length) (fit : us.length ≤ sizeLine)
    (hp : (arrOf z).Perm (ka.zip us.toArray)) (so : SortedTo (arrOf z) (arrOf z).size) (hf : failedOf z = none) (sb : Stable intKind (arrOf z) (ka.zip us.toArray))
    (k : ∀ g out c, g.get? a = some (seqObj "list" out c) → (∀ b o, b ≠ d → b ≠ a → s.heap.get? b = some o → g.get? b = some o) → KskOutSt false kz us out.toList → R (.done (.ret .none)) { s with heap := g }) :
    wpAny (model P w) A (ksk_tail a false e1 (.ref d) z) R E s := by
  have ks := ka_size ik len
  have as : (arrOf z).size = us.length := by rw [hp.size_eq, kz_size ik len]
  have b1 := Heap.SameBut.update s.heap d (Obj.mapSeq fun _ => (#[] : Array Value))
  have a1 := (b1.2 a ne.symm).trans ha
  have b2 := Heap.SameBut.update (s.heap.update d (Obj.mapSeq fun _ => (#[] : Array Value))) a (Obj.mapSeq fun _ => (arrOf z).map (·.2))
  have a2 := get?_update_seq a1 fun _ => (arrOf z).map (·.2)
  unfold ksk_tail
  try dsimp only
  have fit2 := fit
  rw [sizeLine_eq] at fit2
  refine wpAny_bind (listUpdate_at hd rfl ?_ (by rw [ks, sizeLine_eq]; omega) (Nat.zero_le _))
  refine wpAny_bind (wpAny_letGo (wpAny_bind (seqEpoch_at a1 rfl ?_)))
  refine wpAny_bind (listUpdate_at a1 rfl ?_ (Nat.zero_le _) (by
    show (if false = true then _ else (arrOf z).map (·.2)).size ≤ _
    rw [if_neg (by decide), Array.size_map, as, sizeLine_eq]
    omega))
  rw [hf]
  simp only [bne_self_eq_false, Bool.false_eq_true, if_false]
  exact wpAny_pure (k _ _ _ a2 (fun b o n1 n2 q => (b2.2 b n2).trans ((b1.2 b n1).trans q)) (ksk_outSt (b := false) ik hp so sb))
theorem kl_end (hd : s.heap.get? d = some (seqObj "list" ka e0)) (ha : s.heap.get? a = some (seqObj "list" #[] e1)) (ne : d ≠ a) (ik : IntsAre ka.toList kz) (len : kz.length = us.length) (fit : us.length ≤ sizeLine)
    (k : ∀ g out c, g.get? a = some (seqObj "list" out c) → (∀ b o, b ≠ d → b ≠ a → s.heap.get? b = some o → g.get? b = some o) → KskOutSt false kz us out.toList → R (.done (.ret .none)) { s with heap := g }) :
    wpAny (model P w) A (ksk_end a false us.toArray e1 (.ref d) ka) R E s := by
  have zs := kz_size ik len
  have pass : ∀ t : Sem PySem.Fin, wpAny (model P w) A t R E s → wpAny (model P w) A (if false = true then (do let _ ← rule "list.sort.reverse"; t) else t) R E s := fun t q => by
    rw [if_neg (by decide)]
    exact q
  unfold ksk_end
  try dsimp only
  refine pass _ ?_
  by_cases few : us.toArray.size < 2
  · rw [if_pos few, if_pos few]
    refine wpAny_bind (wpAny_pure ?_)
    rw [StateT.run_pure]
    refine wpAny_bind (wpAny_pure ?_)
    try dsimp only
    refine kl_tail (z := SortSt.mk' general' (ka.zip us.toArray) #[] 7 none) hd ha ne ik len fit (Array.Perm.refl _) ?_ rfl (Stable.refl _) k
    intro i j ij hj
    have hj2 : j < (ka.zip us.toArray).size := hj
    rw [zs] at hj2
    rw [List.size_toArray] at few
    obtain rfl : i = j := by omega
    exact Int.le_refl _
  · rw [if_neg few, if_neg few]
    rw [List.size_toArray] at few
    rw [ksk_kind ik (by rw [ka_size ik len]; omega)]
    refine wpAny_bind (wpAny_pure ?_)
    refine wpAny_bind (wpAny_mono (wpS_sortRunsSt (κ := intKind) (a₀ := ka.zip us.toArray) (st := SortSt.mk' oneType' (ka.zip us.toArray) #[] 7 none)
      (Q := fun _ z => (arrOf z).Perm (ka.zip us.toArray) ∧ failedOf z = none ∧ SortedTo (arrOf z) (arrOf z).size ∧ Stable intKind (arrOf z) (ka.zip us.toArray))
      intKind_oneLt (ksk_keysOfInt (ksk_intKeys ik)) ⟨Array.Perm.refl _, rfl, rfl⟩ rfl (Stable.refl _) (by rw [zs]; omega) fun z q1 q2 q3 q4 => ⟨q1, q2, by rw [q1.size_eq]; exact sortedTo_of_int q3, q4⟩) ?_ fun _ _ e => e)
    rintro ⟨⟨⟩, z⟩ s2 ⟨rfl, q1, q2, q3, q4⟩
    try dsimp only
    exact kl_tail hd ha ne ik len fit q1 q3 q2 q4 k
theorem kl_rest {f : Value} (hd : s.heap.get? d = some (seqObj "list" #[] 0)) (ha : s.heap.get? a = some (seqObj "list" #[] e1)) (ne : d ≠ a) (len : kz.length = us.length) (fit : us.length ≤ sizeLine)
    (turn : ∀ (i : Nat) (v : Value) (n : Int), us[i]? = some v → kz[i]? = some n → GivesK P w A f v n)
    (k : ∀ g tk out c, g.get? a = some (seqObj "list" out c) → (∀ b o, b ≠ d → b ≠ a → s.heap.get? b = some o → g.get? b = some o) → KskOutSt false kz us out.toList → R (.done (.ret .none)) { s with heap := g, toks := tk }) :
    wpAny (model P w) A (ksk_rest a f false us.toArray e1 (.ref d)) R E s := by
  unfold ksk_rest
  refine wpAny_bind (wpAny_rule ?_)
  rw [← Array.forIn_toList]
  simp only [List.toList_toArray]
  refine wpAny_bind (ksk_fold (fun i s2 => ∃ g tk ka e, s2 = { s with heap := g, toks := tk } ∧ g.get? d = some (seqObj "list" ka e) ∧ g.get? a = some (seqObj "list" #[] e1) ∧ (∀ b o, b ≠ d → b ≠ a → s.heap.get? b = some o → g.get? b = some o) ∧ IntsAre ka.toList (kz.take i)) us 0 s
    ⟨s.heap, s.toks, #[], 0, rfl, hd, ha, fun _ _ _ _ q => q, by simpa using IntsAre.nil⟩ ?turn ?fin)
  case turn =>
    rintro j x s2 hx ⟨g, tk, ka, e, rfl, gd, ga, gk, ik⟩
    simp only [Nat.zero_add] at ik ⊢
    have hj : j < us.length := (List.getElem?_eq_some_iff.mp hx).1
    have hn : kz[j]? = some kz[j] := List.getElem?_eq_getElem (by omega)
    generalize kz[j] = n at hn
    have sz : ka.size ≤ us.length := by
      have q := ik.length
      rw [Array.length_toList, List.length_take] at q
      omega
    have fit2 := fit
    rw [sizeLine_eq] at fit2
    refine wpAny_bind (wpAny_attempt (wpAny_mono (turn j x n hx hn { s with heap := g, toks := tk }) (fun v s3 he => ?_) fun _ _ q => q.elim))
    obtain ⟨t2, tk2, rfl, rfl⟩ := he
    try dsimp only
    have b1 := Heap.SameBut.update g d (Obj.mapSeq (·.push (.int n t2)))
    have d2 := get?_update_seq gd (·.push (.int n t2))
    refine wpAny_bind (listUpdate_at gd rfl ?_ (by rw [sizeLine_eq]; omega) (by rw [Array.size_push, sizeLine_eq]; omega))
    refine wpAny_pure ⟨rfl, _, _, ka.push (.int n t2), _, rfl, d2, (b1.2 a ne.symm).trans ga, fun b o n1 n2 q => (b1.2 b n1).trans (gk b o n1 n2 q), ?_⟩
    rw [Array.toList_push, List.take_add_one, hn]
    exact ksk_snoc ik
  case fin =>
    rintro s2 ⟨g, tk, ka, e, rfl, gd, ga, gk, ik⟩
    have ik2 : IntsAre ka.toList kz := by
      rw [List.take_of_length_le (by omega)] at ik
      exact ik
    try dsimp only
    refine wpAny_bind (listItems_at gd rfl ?_)
    exact kl_end (s := { s with heap := g, toks := tk }) gd ga ne ik2 len fit fun g2 out c q1 q2 q3 => k g2 tk out c q1 (fun b o n1 n2 q => q2 b o n1 n2 (gk b o n1 n2 q)) q3
theorem kl_sort {f : Value} {n : Nat} (ho : s.heap.get? a = some (seqObj "list" us.toArray n)) (len : kz.length = us.length) (fit : us.length ≤ sizeLine) (turn : ∀ (i : Nat) (v : Value) (n : Int), us[i]? = some v → kz[i]? = some n → GivesK P w A f v n)
    (k : ∀ g tk out c, g.get? a = some (seqObj "list" out c) → (∀ b o, b ≠ a → s.heap.get? b = some o → g.get? b = some o) → KskOutSt false kz us out.toList → R (.done (.ret .none)) { s with heap := g, toks := tk }) :
    wpAny (model P w) A (ksk_tree a f false) R E s := by
  have fit2 := fit
  rw [sizeLine_eq] at fit2
  have lt := Heap.lt_size ho
  have b1 := Heap.SameBut.update s.heap a (Obj.mapSeq fun _ => (#[] : Array Value))
  have a1 := get?_update_seq ho fun _ => (#[] : Array Value)
  have sz1 : ((s.heap.update a (Obj.mapSeq fun _ => (#[] : Array Value))).push (seqObj "tuple" us.toArray 0)).objs.size = s.heap.objs.size + 1 := by rw [size_push', Heap.size_update]
  unfold ksk_tree
  refine wpAny_bind (listItems_at ho rfl ?_)
  refine wpAny_bind (listUpdate_at ho rfl ?_ (by rw [List.size_toArray, sizeLine_eq]; omega) (Nat.zero_le _))
  refine wpAny_bind (seqEpoch_at a1 rfl ?_)
  refine wpAny_bind (wpAny_newTuple ?_ (by show us.length ≤ _; exact fit))
  refine wpAny_bind (wpAny_newList (wpAny_holding ?_) (Nat.zero_le _))
  refine kl_rest (s := { s with heap := ((s.heap.update a (Obj.mapSeq fun _ => (#[] : Array Value))).push (seqObj "tuple" us.toArray 0)).push (seqObj "list" #[] 0) }) (d := ((s.heap.update a (Obj.mapSeq fun _ => (#[] : Array Value))).push (seqObj "tuple" us.toArray 0)).objs.size)
    (Heap.get?_push_size _ rfl) (Heap.get?_push_of_some _ (Heap.get?_push_of_some _ a1)) (by rw [sz1]; exact Nat.ne_of_gt (Nat.lt_succ_of_lt lt)) len fit turn fun g tk out c q1 q2 q3 => k g tk out c q1 (fun b o n1 q => ?_) q3
  exact q2 b o (by rw [sz1]; exact Nat.ne_of_lt (Nat.lt_succ_of_lt (Heap.lt_size q))) n1 (Heap.get?_push_of_some _ (Heap.get?_push_of_some _ ((b1.2 b n1).trans q)))
theorem kl_sorted {l : Addr} {f : Value} {kw : List (Str × Value)} {Q : Value → Shared → Prop} (hl : s.heap.IsList l us.toArray) (len : kz.length = us.length) (fit : us.length ≤ sizeLine)
    (g1 : argsOk "sorted" ⟨[.ref l], kw⟩) (g2 : ∀ x, argsOk "list.sort" ⟨[.ref x], kw⟩) (ht : ∀ x, Builtin.«list.sort» ⟨[.ref x], kw⟩ = ksk_tree x f false)
    (turn : ∀ (i : Nat) (v : Value) (n : Int), us[i]? = some v → kz[i]? = some n → GivesK P w A.in1.in1 f v n)
    (k : ∀ D g tk out c, s.heap.objs.size ≤ D → g.get? D = some (seqObj "list" out c) → (∀ b o, s.heap.get? b = some o → g.get? b = some o) → KskOutSt false kz us out.toList → Q (.ref D) { s with heap := g, toks := tk }) :
    wpAny (model P w) A (call (.builtin "sorted") [.ref l] kw) Q E s := by
  refine call_function_entry_kw kind_sorted plain_sorted entry_sorted g1 ?_
  unfold Builtin.«sorted»
  refine wpAny_bind (m := checkCount "sorted" 1 1 _) (wpAny_pure ?_)
  refine wpAny_bind (collect_list hl ?_ fit)
  refine wpAny_bind (wpAny_newList ?_ fit)
  have sz1 : ((s.heap.push (seqObj "list" #[] 0)).update s.heap.objs.size (Obj.mapSeq (· ++ us.toArray))).objs.size = s.heap.objs.size + 1 := by rw [Heap.size_update, size_push']
  have hL := Heap.get?_push_size ((s.heap.push (seqObj "list" #[] 0)).update s.heap.objs.size (Obj.mapSeq (· ++ us.toArray))) (o := seqObj "list" us.toArray 0) rfl
  rw [sz1] at hL
  have old : ∀ b o, s.heap.get? b = some o → b ≠ s.heap.objs.size + 1 ∧ (((s.heap.push (seqObj "list" #[] 0)).update s.heap.objs.size (Obj.mapSeq (· ++ us.toArray))).push (seqObj "list" us.toArray 0)).get? b = some o := fun b o q => by
    have lt := Heap.lt_size q
    refine ⟨Nat.ne_of_lt (Nat.lt_succ_of_lt lt), Heap.get?_push_of_some _ ?_⟩
    rw [Heap.get?_update_ne _ _ _ _ (Nat.ne_of_lt lt)]
    exact Heap.get?_push_of_some _ q
  show wpAny _ _ _ _ _ { s with heap := ((s.heap.push (seqObj "list" #[] 0)).update s.heap.objs.size (Obj.mapSeq (· ++ us.toArray))).push (seqObj "list" us.toArray 0) }
  rw [sz1]
  refine wpAny_bind (wpAny_holding (wpAny_call_entry_kw slot_list_sort ⟨_, hL, rfl⟩ entry_list_sort ?_ (g2 _)))
  show wpAny (model P w) A.in1.in1 (Builtin.«list.sort» ⟨[.ref (s.heap.objs.size + 1)], kw⟩) _ _ _
  rw [ht]
  refine kl_sort (s := { s with heap := ((s.heap.push (seqObj "list" #[] 0)).update s.heap.objs.size (Obj.mapSeq (· ++ us.toArray))).push (seqObj "list" us.toArray 0) }) hL len fit turn fun g tk out c q1 q2 q3 => ⟨_, rfl, ?_⟩
  exact wpAny_pure ⟨_, rfl, k _ g tk out c (Nat.le_succ _) q1 (fun b o q => q2 b o (old b o q).1 (old b o q).2) q3⟩
end
/-- the texts ordered by length, those of one length in their order -/
def ByLen (xs ys : List Str) : Prop := ys.Perm xs ∧ ys.Pairwise (fun x y => x.length ≤ y.length) ∧ ∀ n : Nat, ys.filter (fun x => x.length == n) = xs.filter (fun x => x.length == n)
theorem strs_zip : ∀ {us : List Value} {xs : List Str}, StrsAre us xs → ∀ p ∈ (xs.map fun x => (x.length : Int)).zip us, ∃ x t, p = ((x.length : Int), Value.str x t)
  | _, _, .nil, p, h => by simp at h
  | _, _, .cons k t r, p, h => by
    rcases List.mem_cons.mp h with z | z
    · exact ⟨k, t, z⟩
    · exact strs_zip r p z
theorem strs_nth2 : ∀ {us : List Value} {xs : List Str} {i : Nat} {v : Value}, StrsAre us xs → us[i]? = some v → ∃ k t, xs[i]? = some k ∧ v = .str k t
  | _, _, i, v, .nil, h => by cases h
  | _, _, 0, v, .cons k t r, h => ⟨k, t, rfl, (Option.some.inj h).symm⟩
  | _, _, i + 1, v, .cons k t r, h => strs_nth2 (i := i) r (by simpa using h)
def strV : Value → Str
  | .str x _ => x
  | _ => Str.empty
theorem strs_back : ∀ {us : List Value} {xs : List Str}, StrsAre us xs → us.map strV = xs
  | _, _, .nil => rfl
  | _, _, .cons k t r => congrArg (k :: ·) (strs_back r)
theorem strs_zipV : ∀ {us : List Value} {xs : List Str}, StrsAre us xs → ((xs.map fun x => (x.length : Int)).zip us).map (fun p => strV p.2) = xs
  | _, _, .nil => rfl
  | _, _, .cons k t r => congrArg (k :: ·) (strs_zipV r)
theorem strs_pairs : ∀ {ps : List (Int × Value)}, (∀ p ∈ ps, ∃ x t, p = ((Str.length x : Int), Value.str x t)) → StrsAre (ps.map Prod.snd) (ps.map fun p => strV p.2)
  | [], _ => .nil
  | p :: ps, h => by
    obtain ⟨x, t, rfl⟩ := h p List.mem_cons_self
    exact .cons x t (strs_pairs fun q hq => h q (List.mem_cons_of_mem _ hq))
theorem filt_len : ∀ {ps : List (Int × Value)} (n : Nat), (∀ p ∈ ps, ∃ x t, p = ((Str.length x : Int), Value.str x t)) → (ps.map fun p => strV p.2).filter (fun x => x.length == n) = (ps.filter fun p => p.1 == (n : Int)).map fun p => strV p.2
  | [], _, _ => rfl
  | p :: ps, n, h => by
    obtain ⟨x, t, rfl⟩ := h p List.mem_cons_self
    have ih := filt_len n fun q hq => h q (List.mem_cons_of_mem _ hq)
    rw [List.map_cons, List.filter_cons, List.filter_cons]
    show (if (x.length == n) = true then x :: _ else _) = _
    by_cases e : x.length = n
    · have e2 : (((x.length : Int), Value.str x t).1 == (n : Int)) = true := by
        show ((x.length : Int) == (n : Int)) = true
        rw [e, beq_iff_eq]
      rw [if_pos (by rw [e, beq_iff_eq]), if_pos e2, ih]
      rfl
    · have e2 : ¬ (((x.length : Int), Value.str x t).1 == (n : Int)) = true := by
        show ¬ ((x.length : Int) == (n : Int)) = true
        rw [beq_iff_eq]
        omega
      rw [if_neg (by rw [beq_iff_eq]; exact e), if_neg e2, ih]
theorem byLen_of {us : List Value} {xs : List Str} {out : List Value} (hi : StrsAre us xs) (o : KskOutSt false (xs.map fun x => (x.length : Int)) us out) : ∃ ys, StrsAre out ys ∧ ByLen xs ys := by
  obtain ⟨ps, h1, rfl, h3, h4⟩ := o
  have hz := strs_zip hi
  have hp : ∀ p ∈ ps, ∃ x t, p = ((Str.length x : Int), Value.str x t) := fun p hp => hz p (h1.mem_iff.mp hp)
  refine ⟨_, strs_pairs hp, ?_, ?_, fun n => ?_⟩
  · have q := h1.map fun p => strV p.2
    rw [strs_zipV hi] at q
    exact q
  · rw [List.pairwise_map]
    refine List.Pairwise.imp_of_mem (fun {p q} m1 m2 r => ?_) h3
    obtain ⟨x, t, rfl⟩ := hp p m1
    obtain ⟨y, u, rfl⟩ := hp q m2
    have r2 : (x.length : Int) ≤ y.length := r
    show x.length ≤ y.length
    omega
  · rw [filt_len n hp, h4, ← filt_len n hz, strs_zipV hi]
/-- sorted(xs, key=len) -/
def tSortLen (K : PySem.W.Frag) (ta : TA) : TE := fun σ H Q => ta σ H fun vs H1 => ∃ (l : Addr) (xs : List Str), vs = [.ref l] ∧ SqL K H1 l (xs.map V.str) ∧ (∀ x ∈ xs, x.length ≤ sizeLine) ∧ ∀ (p : Addr) (ys : List Str), H1 p = none → ByLen xs ys → Q (.ref p) (upd H1 p (.lst (ys.map V.str)))
section
variable {X : Cx}
theorem gives_len {P : Program} {w : World} {A : Around} {x : Str} {t : Tok} (h : x.length ≤ sizeLine) : GivesK P w A (.builtin "len") (.str x t) (x.length : Int) := fun s => by
  refine PySem.P.len_str (by rw [sizeLine_eq] at h; omega) ⟨_, _, rfl, rfl⟩
theorem pe_sortLen {a : Expr} {ta : TA} {p kp lp pos : Pos} (hg : Gl X "sorted") (hm : X.mg "sorted" = none) (lg : Gl X "len") (lm : X.mg "len" = none) (ha : PA X [a] ta)
    (he : backTo pos (starEach [a] X.env) = (false, eval a X.env) :: backTo pos (starEach [] X.env) := by rfl) (hpl : (backTo pos (starEach [a] X.env)).any (·.1) = false := by rfl)
    (hall : (backToKw pos (keywordEach [⟨some "key", .Name "len" lp, kp⟩] X.env)).all (·.1.isSome) = true := by rfl) (hnone : (backToKw pos (keywordEach [⟨some "key", .Name "len" lp, kp⟩] X.env)).any (·.1.isNone) = false := by rfl) :
    PE X (.Call (.Name "sorted" p) [a] [⟨some "key", .Name "len" lp, kp⟩] pos) (tSortLen X.K ta) := by
  refine ⟨fun pins s σ H Q I h => ?_⟩
  refine wpAny_Call_Name_kw (ld_blt (u := .builtin "sorted") I hg hm (by decide +kernel) ?_)
  refine PyProof.Rows.callWith_kw (thn (ha.run pos pins s σ H _ I h) fun us s1 ⟨vs, H1, I1, r1, l, xs, e1, hl, hx, q⟩ => ?_) he hpl hall hnone
  subst e1
  rw [Vals.ref1 r1]
  show wpAny _ _ (evalAll ((do let v ← eval (.Name "len" lp) X.env; standAt pos; pure v) :: [])) _ _ s1
  refine wpAny_evalAll_cons (wpAny_bind (ld_blt (u := .builtin "len") I1 lg lm (by decide +kernel) (wpAny_bind (wpAny_standAt (wpAny_pure ?_)))))
  refine wpAny_evalAll_nil ?_
  obtain ⟨its, rv, pl, hz⟩ := I1.list hl
  have hi := strsAre_of rv
  have ln : (xs.map fun x => (x.length : Int)).length = its.length := by rw [List.length_map, StrsAre.len_eq hi]
  have hz2 : its.length ≤ sizeLine := by rw [← rv.length]; exact hz
  show wpAny _ _ (call (.builtin "sorted") [.ref l] [(Str.ofString "key", .builtin "len")]) _ _ _
  refine kl_sorted (kz := xs.map fun x => (x.length : Int)) pl.isList ln hz2 (PyProof.Rows.ksk_s1 _ _) (fun _ => PyProof.Rows.ksk_l1 _ _) (fun _ => rfl) (fun i v n hv hn => ?_) fun D g tk out c hD hg kp ho => ?_
  · obtain ⟨x, t, hx2, rfl⟩ := strs_nth2 hi hv
    rw [List.getElem?_map, hx2] at hn
    cases hn
    exact gives_len (hx x (List.mem_of_getElem? hx2))
  · obtain ⟨ys, hy, by_⟩ := byLen_of hi ho
    have hn : H1 D = none := I1.hok.fresh hD
    have hlen : (ys.map V.str).length ≤ sizeLine := by
      rw [List.length_map, by_.1.length_eq]
      rw [List.length_map] at hz
      exact hz
    exact ⟨.ref D, upd H1 D (.lst (ys.map V.str)), I1.laid (t' := tk) kp hD ⟨hlen, out.toList, c, vals_of_strs hy, hg⟩, rfl, q D ys hn by_⟩
end
end Rz

namespace Rz
open PySem PySem.Spec PyProof.Rows L2
/-! ### a walk over a tuple, a list, a range, whatever its turn asks -/
theorem wk_tup {K : PySem.W.Frag} {a : Addr} {xs : List V} {H0 : Hp} {Qd : Hp → Prop} {Bd : V → Hp → (Hp → Prop) → Prop} (Pv : Nat → Hp → Prop) (h0 : Pv 0 H0) (hl : ∀ i H, i ≤ xs.length → Pv i H → SqT K H a xs)
    (hs : ∀ i x H, xs[i]? = some x → Pv i H → Bd x H (Pv (i + 1))) (hd : ∀ H, Pv xs.length H → Qd H) :
    ∃ W : Nat → Nat → Hp → Prop, (∃ m, W 0 m H0) ∧ ∀ i m H, W i m H → ((Itt K a).stop i H ∧ Qd H) ∨ ((Itt K a).go i H ∧ ∃ Nx : Hp → Prop, (∀ H', Nx H' → ∃ m', m' < m ∧ W (i + 1) m' H') ∧ ∀ x H', (Itt K a).yld i H x H' → Bd x H' Nx) := by
  refine ⟨fun i m H => m = xs.length - i ∧ i ≤ xs.length ∧ Pv i H, ⟨_, rfl, Nat.zero_le _, h0⟩, ?_⟩
  rintro i m H ⟨rfl, hi, p⟩
  have q := hl i H hi p
  rcases Nat.lt_or_ge i xs.length with lt | ge
  · refine .inr ⟨⟨xs, xs[i], q, by simp [lt]⟩, Pv (i + 1), fun H2 p2 => ⟨xs.length - (i + 1), by omega, rfl, lt, p2⟩, fun x H2 y => ?_⟩
    obtain ⟨rfl, y⟩ := y
    exact hs i x _ (y xs q) p
  · obtain rfl : i = xs.length := by omega
    exact .inl ⟨⟨xs, q, Nat.le_refl _⟩, hd H p⟩
theorem wk_list {K : PySem.W.Frag} {a : Addr} {xs : List V} {H0 : Hp} {Qd : Hp → Prop} {Bd : V → Hp → (Hp → Prop) → Prop} (Pv : Nat → Hp → Prop) (h0 : Pv 0 H0) (hl : ∀ i H, i ≤ xs.length → Pv i H → SqL K H a xs)
    (hs : ∀ i x H, xs[i]? = some x → Pv i H → Bd x H (Pv (i + 1))) (hd : ∀ H, Pv xs.length H → Qd H) :
    ∃ W : Nat → Nat → Hp → Prop, (∃ m, W 0 m H0) ∧ ∀ i m H, W i m H → ((Itl K a).stop i H ∧ Qd H) ∨ ((Itl K a).go i H ∧ ∃ Nx : Hp → Prop, (∀ H', Nx H' → ∃ m', m' < m ∧ W (i + 1) m' H') ∧ ∀ x H', (Itl K a).yld i H x H' → Bd x H' Nx) := by
  refine ⟨fun i m H => m = xs.length - i ∧ i ≤ xs.length ∧ Pv i H, ⟨_, rfl, Nat.zero_le _, h0⟩, ?_⟩
  rintro i m H ⟨rfl, hi, p⟩
  have q := hl i H hi p
  rcases Nat.lt_or_ge i xs.length with lt | ge
  · refine .inr ⟨⟨xs, xs[i], q, by simp [lt]⟩, Pv (i + 1), fun H2 p2 => ⟨xs.length - (i + 1), by omega, rfl, lt, p2⟩, fun x H2 y => ?_⟩
    obtain ⟨rfl, y⟩ := y
    exact hs i x _ (y xs q) p
  · obtain rfl : i = xs.length := by omega
    exact .inl ⟨⟨xs, q, Nat.le_refl _⟩, hd H p⟩
theorem wk_range {lo : Int} {n : Nat} {H0 : Hp} {Qd : Hp → Prop} {Bd : V → Hp → (Hp → Prop) → Prop} (Pv : Nat → Hp → Prop) (h0 : Pv 0 H0)
    (hs : ∀ i H, i < n → Pv i H → Bd (.int (lo + i)) H (Pv (i + 1))) (hd : ∀ H, Pv n H → Qd H) :
    ∃ W : Nat → Nat → Hp → Prop, (∃ m, W 0 m H0) ∧ ∀ i m H, W i m H → ((Itr lo n).stop i H ∧ Qd H) ∨ ((Itr lo n).go i H ∧ ∃ Nx : Hp → Prop, (∀ H', Nx H' → ∃ m', m' < m ∧ W (i + 1) m' H') ∧ ∀ x H', (Itr lo n).yld i H x H' → Bd x H' Nx) := by
  refine ⟨fun i m H => m = n - i ∧ i ≤ n ∧ Pv i H, ⟨_, rfl, Nat.zero_le _, h0⟩, ?_⟩
  rintro i m H ⟨rfl, hi, p⟩
  rcases Nat.lt_or_ge i n with lt | ge
  · refine .inr ⟨lt, Pv (i + 1), fun H2 p2 => ⟨n - (i + 1), by omega, rfl, lt, p2⟩, fun x H2 y => ?_⟩
    obtain ⟨rfl, rfl⟩ := y
    exact hs i _ lt p
  · obtain rfl : i = n := by omega
    exact .inl ⟨Nat.le_refl _, hd H p⟩
/-- over whatever walks -/
theorem wk_it {J : It} {n : Nat} {G : Hp → Prop} {Y : Nat → Hp → V → Hp → Prop} (w : Walk J n G Y) {H0 : Hp} {Qd : Hp → Prop} {Bd : V → Hp → (Hp → Prop) → Prop} (Pv : Nat → Hp → Prop) (h0 : Pv 0 H0) (hG : ∀ i H, i ≤ n → Pv i H → G H)
    (hs : ∀ i x H H', i < n → Pv i H → Y i H x H' → Bd x H' (Pv (i + 1))) (hd : ∀ H, Pv n H → Qd H) :
    ∃ W : Nat → Nat → Hp → Prop, (∃ m, W 0 m H0) ∧ ∀ i m H, W i m H → (J.stop i H ∧ Qd H) ∨ (J.go i H ∧ ∃ Nx : Hp → Prop, (∀ H', Nx H' → ∃ m', m' < m ∧ W (i + 1) m' H') ∧ ∀ x H', J.yld i H x H' → Bd x H' Nx) := by
  refine ⟨fun i m H => m = n - i ∧ i ≤ n ∧ Pv i H, ⟨_, rfl, Nat.zero_le _, h0⟩, ?_⟩
  rintro i m H ⟨rfl, hi, p⟩
  have q := hG i H hi p
  rcases Nat.lt_or_ge i n with lt | ge
  · exact .inr ⟨w.goes i H lt q, Pv (i + 1), fun H2 p2 => ⟨n - (i + 1), by omega, rfl, lt, p2⟩, fun x H2 y => hs i x H H2 lt p (w.yields i H x H2 lt q y)⟩
  · obtain rfl : i = n := by omega
    exact .inl ⟨w.stops H q, hd H p⟩
/-- the truth of a name -/
def tTruN (K : PySem.W.Frag) (i : Nat) : TT := fun σ H Q => tVar i σ H fun x H' => ∃ k, TruV K x H' k ∧ Q k H'
end Rz

namespace Rz
open PySem PySem.Spec PyProof.Rows L2
/-! ### set(ns) of a list of ints -/
theorem ints_nth : ∀ {us : List Value} {xs : List Int} {i : Nat} {v : Value}, IntsAre us xs → us[i]? = some v → ∃ k t, xs[i]? = some k ∧ v = .int k t
  | _, _, i, v, .nil, h => by cases h
  | _, _, 0, v, .cons k t r, h => ⟨k, t, rfl, (Option.some.inj h).symm⟩
  | _, _, i + 1, v, .cons k t r, h => ints_nth (i := i) r (by simpa using h)
section
variable {P : Program} {w : World} {A : Around} {E : Value → Shared → Prop} {s : Shared}
theorem call_setIl {l : Addr} {items : Array Value} {ns : List Int} {Q : Value → Shared → Prop} (hh : A.handled = none) (hl : s.heap.IsList l items) (hit : IntsAre items.toList ns) (hz : ns.length + 1 < scanBound)
    (h : ∀ (h' : Heap) (tk c : Nat), SetR w h' s.heap.objs.size (fun j => decide (j ∈ ns)) c → c ≤ ns.length → (∀ b o, s.heap.get? b = some o → h'.get? b = some o) → Q (.ref s.heap.objs.size) { s with heap := h', toks := tk }) :
    wpAny (model P w) A (call (.type "set") [.ref l]) Q E s := by
  have isz : items.size = ns.length := by
    have e := IntsAre.length hit
    rw [Array.length_toList] at e
    exact e
  obtain ⟨c, tl, hmro⟩ := PySem.F.called_set.mro
  have cm := PySem.F.called_set.made
  have cs := PySem.F.called_set.sub
  refine wpAny_call (codeAny_of_tree ?_)
  show wpAny _ _ (callAny (.type "set") _) _ _ _
  refine wpAny_pure ⟨Code.quiet_builtin _ (by decide +kernel), codeAny_builtin PySem.F.entry_type_call ?_⟩
  rw [Around.under_plain (weight_type_call_type "set" [.ref l] []) rfl]
  have cn := PySem.F.called_set.notType
  have cc := PySem.F.called_set.canCreate
  have ct := PySem.F.typeCall_set_1 (.ref l)
  repeat (any_goals (first | assumption | wp_step))
  refine codeAny_mono (code_set_led1 (.ref l) (E := E) (Q₁ := fun u s1 => u = .ref s.heap.objs.size ∧ s1 = { s with heap := s.heap.push (frS w) }) ⟨rfl, rfl⟩) fun r s1 hr => ?_
  match r, hr with
  | .error e, hr => exact hr
  | .ok .next, hr => exact hr.elim
  | .ok .brk, hr => exact hr.elim
  | .ok .cont, hr => exact hr.elim
  | .ok (.ret u), hr =>
    obtain ⟨rfl, rfl⟩ := hr
    have at0 : (s.heap.push (frS w)).get? s.heap.objs.size = some (frS w) := Heap.get?_push_size _ rfl
    have ty0 : Shared.TypeIs { s with heap := s.heap.push (frS w) } (.ref s.heap.objs.size) "set" := ⟨_, at0, rfl⟩
    have il := PySem.F.called_set.init.lookup
    have ib := PySem.F.called_set.init.bind (.ref s.heap.objs.size)
    repeat (any_goals (first | assumption | wp_step))
    refine codeAny_mono (codeAny_call_builtin (R := wants (fun r s2 => r = .none ∧ ∃ h' tk c, s2 = { s with heap := h', toks := tk } ∧ SetR w h' s.heap.objs.size (fun j => decide (j ∈ ns)) c ∧ c ≤ ns.length ∧
        (∀ b o, s.heap.get? b = some o → h'.get? b = some o)) E) PySem.F.called_set.init.plain PySem.F.entry_set_init (check_set_init_1 ty0 ?_)) fun r2 s2 h2 => ?_
    · obtain ⟨ol, e1, e2, n, e3⟩ := id hl
      obtain ⟨oc, od, odt, osl⟩ := ol
      simp only at e2 e3
      subst e2
      subst e3
      have at1 : (s.heap.push (frS w)).get? l = some { cls := .type "list", dict := od, data := .seq items n, slots := osl } := Heap.get?_push_of_some _ e1
      have f1 := PySem.F.sub_list_set
      have f2 := PySem.F.sub_list_frozenset
      have f3 : (Value.type "list" == Value.type "dict") = false := by decide
      have hl1 : (s.heap.push (frS w)).IsList l items := ⟨_, at1, rfl, n, rfl⟩
      unfold Builtin.«set.__init__» noKeywords Builtin.Frozenset.updateFrom
      generalize hPI : pyIter = PI
      wp_walk
      subst hPI
      refine wpAny_pyIter_list hl1 ?_
      refine wpAny_bind (wpAny_runValue ?_)
      have lt := Heap.lt_size e1
      have sz1 : (s.heap.push (frS w)).objs.size = s.heap.objs.size + 1 := Heap.size_push ..
      have calm : A.in1.in1.in1.handled = none := by simp [hh]
      have nl : l ≠ (s.heap.push (frS w)).objs.size := by rw [sz1]; exact Nat.ne_of_lt (Nat.lt_succ_of_lt lt)
      have away : s.heap.objs.size ∉ [(s.heap.push (frS w)).objs.size, l] := by
        rw [sz1]
        simp only [List.mem_cons, List.not_mem_nil, or_false, not_or]
        exact ⟨Nat.ne_of_lt (Nat.lt_succ_self _), Nat.ne_of_gt lt⟩
      have val : ∀ (i : Nat) (v : Value), items[i]? = some v → ∃ k t, ns[i]? = some k ∧ v = .int k t := fun i v hv => ints_nth hit (by rw [Array.getElem?_toList]; exact hv)
      refine set_update_ints ((Walks.list calm _ l nl items).toS) s.heap.objs.size away ns isz hz val (items.size - 0) 0 _ rfl (Nat.zero_le _) ⟨⟨_, Heap.get?_push_size _ rfl, rfl, rfl⟩, (hl1.push _)⟩ ⟨0, Nat.le_refl 0, setR_new_at (Heap.get?_push_of_some _ at0)⟩ fun s3 c mv hc hS => ?_
      obtain ⟨g, g2, d2, tk, o2⟩ := s3
      obtain rfl : g2 = s.gens := mv.gens
      obtain rfl : d2 = s.drawn := mv.drawn
      obtain rfl : o2 = s.os := mv.os
      show wpAny _ _ _ _ _ _
      refine wpAny_pure ?_
      show wpAny _ _ (ret Value.none) _ _ _
      rw [isz] at hc
      refine wpAny_pure ⟨rfl, g, tk, c, rfl, hS, hc, fun b o e => ?_⟩
      have lt := Heap.lt_size e
      refine mv.heap b o (fun z => ?_) (Heap.get?_push_of_some _ (Heap.get?_push_of_some _ e))
      rcases List.mem_cons.mp z with z | z
      · exact Nat.ne_of_lt lt z
      · exact Nat.ne_of_lt (Nat.lt_succ_of_lt lt) (by rw [List.mem_singleton.mp z, sz1])
    · match r2, h2 with
      | .error e, h2 => exact h2
      | .ok .next, h2 => exact h2.elim
      | .ok .brk, h2 => exact h2.elim
      | .ok .cont, h2 => exact h2.elim
      | .ok (.ret r), h2 =>
        obtain ⟨rfl, h', tk, c, rfl, hS, hL, kp⟩ := h2
        repeat (any_goals (first | assumption | wp_step))
        exact h _ _ _ hS hL kp
end
def rSetIl (K : PySem.W.Frag) (w : World) : List V → Hp → VK → Prop := fun vs H Q => ∃ (l : Addr) (ns : List Int), vs = [.ref l] ∧ SqL K H l (ns.map V.int) ∧ ns.length + 1 < scanBound ∧
  ∀ (p : Addr) (c : Nat), H p = none → c ≤ ns.length → Q (.ref p) (upd H p (SetO w p (fun j => decide (j ∈ ns)) c))
section
variable {X : Cx}
theorem cr_setIl (hc : X.calm = true) : CallR X (.type "set") (rSetIl X.K X.w) := by
  intro pins s σ H xs us Q I r h
  obtain ⟨l, ns, rfl, hl, hz, q⟩ := h
  rw [Vals.ref1 r]
  obtain ⟨its, rv, pl, _⟩ := I.list hl
  refine call_setIl (ns := ns) (I.ok.hd hc) pl.isList (by simpa using ints_of_vals rv) hz fun h' tk c hS hL kp => ?_
  exact ⟨.ref s.heap.objs.size, _, I.laid (t' := tk) kp (Nat.le_refl _) (setO_new hS), rfl, q _ c (I.hok.fresh (Nat.le_refl _)) hL⟩
end
end Rz

namespace Rz
open PySem PySem.Spec PyProof.Rows L2
/-! ### x(a, ..) where the local x is the class; C.m() of a class method -/
section
variable {X : Cx} {CX : CXT} {k i : Nat} {f C : Addr} {sp : Sp} {E : EX} {x m : Str} {e o : Expr} {es : List Expr} {ta : TE} {t : TA} {p pos apos : Pos} {q g : Addr} {mc : Value}
theorem pe_mkSL (M : Mk X.K C f) (F : FnR X.prog X.w X.K X.mg X.base CX k f sp) (hr : Room (k + 1) X.A) (hN : X.N[i]? = some x) (hv : Vis X.env.scope x) (hx : ∀ σ, PassesAt CX X σ (E σ)) (ha : PA X (e :: es) t)
    (hdb : (x == ("__debug__" : Str)) = false := by decide) (hcd : (x == ("__classdict__" : Str)) = false := by decide)
    (he : starEach (e :: es) X.env = (false, eval e X.env) :: starEach es X.env := by rfl) (hpl : (backTo pos (starEach es X.env)).any (·.1) = false := by rfl) : PE X (.Call (.Name x p) (e :: es) [] pos) (tMkSL i C sp E t) := by
  refine ⟨fun pins s σ H Q I h => ?_⟩
  obtain ⟨hs, ht⟩ := h
  refine wpAny_Call_Name_kw (thn ((pe_var (pos := p) hN hv hdb hcd).run pins s σ H (fun v H1 => v = .ref C ∧ H1 = H) I ⟨.ref C, hs, rfl, rfl⟩) fun u s1 ⟨v, H1, I1, r1, q1⟩ => ?_)
  obtain ⟨rfl, rfl⟩ := q1
  cases r1
  exact PySem.W.callWith_K (h₀ := X.base) I1.ok.mod.kin M.kp (thn (ha.run pos pins s1 σ _ _ I1 ht) fun us s2 ⟨vs, H2, J, rv, z⟩ => ⟨J.kIn, run_mkS M F hr (hx σ) J rv z⟩) he hpl
theorem pe_cm0 {pl : Sem Bool} (he : PE X o ta) (r : ClX.CRead X.K C mc) (c : ClX.CMet X.K C mc m q g) (F : FnR X.prog X.w X.K X.mg X.base CX k g sp) (hr : Room k X.A) (hx : ∀ σ, PassesAt CX X σ (E σ))
    (ht : eval (.Call (.Attribute o m apos) [] [] pos) X.env = (do
      let ov ← eval o X.env
      standAt apos.atName
      let (f, first) ← holding [ov] (getMethod ov m pl)
      callWith pos f first (backTo pos (starEach [] X.env)) (backToKw pos (keywordEach [] X.env))) := by rfl) :
    PE X (.Call (.Attribute o m apos) [] [] pos) (tCm C sp E ta tNil) := by
  refine ⟨fun pins s σ H Q I h => ?_⟩
  refine PySem.W.methodCall_KW (pl := pl) (thn (he.run pins s σ H _ I h) fun u s1 ⟨x, H1, I1, rx, ex, z⟩ => ?_) ht
  subst ex
  obtain rfl : u = Value.ref C := rx
  refine ClX.getmethcm_ok I1 r c fun s2 I2 => ?_
  refine PySem.W.callWith_M0 (first := []) ⟨ClX.pin_at I2, I2.kIn⟩ c.fi ?_
  have y : wpAny (model X.prog X.w) X.A (call (.ref _) []) (EP X ((_, PySem.W.methodObj (.ref g) (.ref C)) :: pins) σ Q) X.xe s2 :=
    wpAny_call (PySem.W.method_call (ClX.pin_at I2) (run_fnRA (us := [.ref C]) (vs := [.ref C]) F hr (hx σ) I2 (.cons rfl .nil) z))
  exact thn y fun _ _ y => ClX.unpinE y
end
end Rz

namespace Rz
open PySem PySem.Spec PyProof.Rows L2
/-! ### list(text) -/
theorem sg_vals {us : List Value} {cs : List Nat} (ln : us.length = cs.length) (h : ∀ (i : Nat) (v : Value), us[i]? = some v → ∃ c t, cs[i]? = some c ∧ v = .str ⟨#[c]⟩ t) : Vals ((sgs cs).map V.str) us := by
  induction cs generalizing us with
  | nil =>
    rw [List.eq_nil_of_length_eq_zero ln]
    exact .nil
  | cons c cs ih =>
    cases us with
    | nil => cases ln
    | cons u us =>
      obtain ⟨c2, t, h1, rfl⟩ := h 0 u rfl
      cases h1
      exact .cons ⟨t, rfl⟩ (ih (by simpa using ln) fun i v hv => h (i + 1) v (by simpa using hv))
def rListTx : List V → Hp → VK → Prop := fun vs H Q => ∃ x : Str, vs = [.str x] ∧ x.length ≤ sizeLine ∧ ∀ p, H p = none → Q (.ref p) (upd H p (.lst ((sgs x.cps.toList).map V.str)))
section
variable {X : Cx}
theorem cr_listTx (hc : X.calm = true) : CallR X (.type "list") rListTx := by
  intro pins s σ H xs us Q I r h
  obtain ⟨x, rfl, hz, q⟩ := h
  obtain ⟨u, rfl, t, rfl⟩ := vals1 r
  refine call_list_str (I.ok.hd hc) x t (hn := hz) fun g tk acc c kp hS hacc => ?_
  have hn : H s.heap.objs.size = none := I.hok.fresh (Nat.le_refl _)
  have hv : Vals ((sgs x.cps.toList).map V.str) acc.toList := sg_vals (by rw [Array.length_toList, Array.length_toList]; exact hacc.1) fun i v hv => by
    obtain ⟨d, w, h1, h2⟩ := hacc.2 i v (by simpa using hv)
    exact ⟨d, w, by rw [Array.getElem?_toList]; exact h1, h2⟩
  have hl : ((sgs x.cps.toList).map V.str).length ≤ sizeLine := by
    unfold sgs
    rw [List.length_map, List.length_map]
    exact hz
  exact ⟨.ref s.heap.objs.size, upd H s.heap.objs.size (.lst ((sgs x.cps.toList).map V.str)), I.laid (t' := tk) kp (Nat.le_refl _) ⟨hl, acc.toList, c, hv, by simpa using hS⟩, rfl, q _ hn⟩
end
/-- the signs, sorted -/
theorem sgs_perm : ∀ {cs : List Nat} {ys : List Str}, ys.Perm (sgs cs) → ∃ ds, ys = sgs ds ∧ ds.Perm cs := fun {cs ys} h => by
  have e : ys = sgs (ys.map fun y => y.cps.toList.headD 0) := by
    unfold sgs
    rw [List.map_map]
    have : ∀ y ∈ ys, ((fun c => (⟨#[c]⟩ : Str)) ∘ fun y : Str => y.cps.toList.headD 0) y = y := fun y hy => by
      obtain ⟨c, _, rfl⟩ := List.mem_map.mp (h.mem_iff.mp hy)
      rfl
    rw [List.map_congr_left this, List.map_id']
  refine ⟨_, e, ?_⟩
  have q := h.map fun y : Str => y.cps.toList.headD 0
  unfold sgs at q
  rw [List.map_map] at q
  have e2 : List.map ((fun y : Str => y.cps.toList.headD 0) ∘ fun c => (⟨#[c]⟩ : Str)) cs = cs := by
    have : ∀ l : List Nat, List.map ((fun y : Str => y.cps.toList.headD 0) ∘ fun c => (⟨#[c]⟩ : Str)) l = l := fun l => by
      induction l with
      | nil => rfl
      | cons a l ih => rw [List.map_cons, ih]; rfl
    exact this cs
  rw [e2] at q
  exact q
theorem sgs_rise {cs : List Nat} (h : sortedS (sgs cs) = true) (nd : cs.Nodup) : cs.Pairwise (· < ·) := by
  cases cs with
  | nil => exact List.Pairwise.nil
  | cons c cs => exact rise_of cs c h nd
end Rz

namespace Rz
open PySem PySem.Spec PyProof.Rows L2
/-! ### comparisons of two of one own class -/
section
variable {X : Cx} {k : Nat} {f C : Addr} {fd : FuncData} {ps : List Str} {sp : Sp}
def rCmpO (C : Addr) (sp : Sp) : R2 := fun x y H Q => ∃ (a dx b dy : Addr) (fs gs : List (Str × V)), x = .ref a ∧ y = .ref b ∧ H a = some (.ins C dx fs) ∧ H b = some (.ins C dy gs) ∧ sp [.ref a, .ref b] H (fun v H' => (∃ r, v = .bl r) ∧ Q v H') E0
/-- x == y by the own __eq__ -/
theorem op_eqO (M : Meth X.K C "__eq__" f) (F : FnOk X.prog X.w X.K X.mg X.base (L2.CX X.prog X.w) k f fd ps sp) (hr : Room k X.A) (hb : Binds X.K fd ps []) (hu : X.A.units < cLine) : OpR X (compareOp .Eq) (rCmpO C sp) := by
  intro pins s σ H x y v u Q I r1 r2 h
  obtain ⟨a, dx, b, dy, fs, gs, rfl, rfl, ea, eb, hq⟩ := h
  obtain rfl : v = Value.ref a := r1
  obtain rfl : u = Value.ref b := r2
  obtain ⟨od, J⟩ := inst_at I ea
  obtain ⟨od2, J2⟩ := inst_at I eb
  obtain ⟨m0, hF⟩ := I.fr
  show wpAny _ _ (richCompare .Eq (.ref a) (.ref b)) _ _ _
  refine PySem.W.cmp_K (op := .Eq) hu hF I.ok.mod.kin J J2.type (by unfold PySem.W.notFirst; simp) M.at_ M.fn (wpAny_mono (run_below (vs := [.ref a, .ref b]) F hr rfl hb I (.cons rfl (.cons rfl .nil)) hq) (fun r s' hv => ?_) fun _ _ z => z)
  obtain ⟨z, H', J', rz, ⟨c, rfl⟩, q⟩ := hv
  obtain rfl : r = Value.bool c := rz
  exact ⟨.bl c, H', J', rfl, q⟩
/-- x < y by the own __lt__ -/
theorem op_ltO (M : Meth X.K C "__lt__" f) (F : FnOk X.prog X.w X.K X.mg X.base (L2.CX X.prog X.w) k f fd ps sp) (hr : Room k X.A) (hb : Binds X.K fd ps []) (hu : X.A.units < cLine) : OpR X (compareOp .Lt) (rCmpO C sp) := by
  intro pins s σ H x y v u Q I r1 r2 h
  obtain ⟨a, dx, b, dy, fs, gs, rfl, rfl, ea, eb, hq⟩ := h
  obtain rfl : v = Value.ref a := r1
  obtain rfl : u = Value.ref b := r2
  obtain ⟨od, J⟩ := inst_at I ea
  obtain ⟨od2, J2⟩ := inst_at I eb
  obtain ⟨m0, hF⟩ := I.fr
  show wpAny _ _ (richCompare .Lt (.ref a) (.ref b)) _ _ _
  refine PySem.W.cmp_K (op := .Lt) hu hF I.ok.mod.kin J J2.type (by unfold PySem.W.notFirst; simp) M.at_ M.fn (wpAny_mono (run_below (vs := [.ref a, .ref b]) F hr rfl hb I (.cons rfl (.cons rfl .nil)) hq) (fun r s' hv => ?_) fun _ _ z => z)
  obtain ⟨z, H', J', rz, ⟨c, rfl⟩, q⟩ := hv
  obtain rfl : r = Value.bool c := rz
  exact ⟨.bl c, H', J', rfl, q⟩
end
end Rz
namespace Rz
open PySem PySem.Spec PyProof.Rows L2
section
variable {X : Cx} {k : Nat} {f C : Addr} {fd : FuncData} {ps : List Str} {sp : Sp}
/-- y in x by the own __contains__, that gives a bool -/
def rInO (C : Addr) (sp : Sp) : R2 := fun y x H Q => ∃ (a dx : Addr) (fs : List (Str × V)), x = .ref a ∧ H a = some (.ins C dx fs) ∧ sp [.ref a, y] H (fun v H' => ∃ r, v = .bl r ∧ Q (.bl r) H') E0
theorem op_inO (M : Meth X.K C "__contains__" f) (F : FnOk X.prog X.w X.K X.mg X.base (L2.CX X.prog X.w) k f fd ps sp) (hr : Room k X.A) (hb : Binds X.K fd ps []) : OpR X (compareOp .In) (rInO C sp) := by
  intro pins s σ H y x u v Q I r1 r2 h
  obtain ⟨a, dx, fs, rfl, ea, hq⟩ := h
  obtain rfl : v = Value.ref a := r2
  obtain ⟨od, J⟩ := inst_at I ea
  obtain ⟨m0, hF⟩ := I.fr
  refine PySem.W.in_K hF I.ok.mod.kin J M.at_ M.fn (wpAny_mono (run_below (vs := [.ref a, y]) F hr rfl hb I (.cons rfl (.cons r1 .nil)) hq) (fun r s' hv => ?_) fun _ _ z => z)
  obtain ⟨z, H', J', rz, c, rfl, q⟩ := hv
  obtain rfl : r = Value.bool c := rz
  exact wpAny_truthy_bool ⟨.bl c, H', J', rfl, q⟩
/-- x[i] by the own __getitem__ -/
def rGetO (C : Addr) (sp : Sp) : V → V → Hp → VK → Prop := fun x i H Q => ∃ (a dx : Addr) (fs : List (Str × V)), x = .ref a ∧ H a = some (.ins C dx fs) ∧ sp [.ref a, i] H Q E0
theorem get_own (M : Meth X.K C "__getitem__" f) (hn : PySem.W.noSeq X.K C = true) (F : FnOk X.prog X.w X.K X.mg X.base (L2.CX X.prog X.w) k f fd ps sp) (hr : Room k X.A) (hb : Binds X.K fd ps []) : PGet X (rGetO C sp) := by
  intro pins s σ H x i v u Q I r1 r2 h
  obtain ⟨a, dx, fs, rfl, ea, hq⟩ := h
  obtain rfl : v = Value.ref a := r1
  obtain ⟨od, J⟩ := inst_at I ea
  obtain ⟨m0, hF⟩ := I.fr
  exact PySem.W.getItem_K hF I.ok.mod.kin J hn M.at_ M.fn (run_below (vs := [.ref a, i]) F hr rfl hb I (.cons rfl (.cons r2 .nil)) hq)
end
end Rz

namespace Rz
open PySem PySem.Spec PyProof.Rows L2
/-! ### sorted(xs), xs a list of different tuples of ints and texts -/
section
variable {P : Program} {w : World} {A : Around} {E : Value → Shared → Prop} {s : Shared}
theorem sorted_tlK {l : Addr} {L : List (Addr × List Key)} {sh : Nat → Bool} {Q : Value → Shared → Prop} (hl : s.heap.IsList l (L.map fun q => Value.ref q.1).toArray) (mem : ∀ q ∈ L, IsTupleKey (mixKind P w) s.heap q.2 q.1) (nd : (L.map (·.2)).Nodup) (few : L.length ≤ sizeLine) (hf : ∀ q ∈ L, Fits sh 0 q.2 ∧ q.2 ≠ [])
    (hQ : ∀ (g : Heap) (out : Array Value) (c : Nat) (M : List (Addr × List Key)), (∀ b o, s.heap.get? b = some o → g.get? b = some o) → g.get? (s.heap.objs.size + 1) = some (seqObj "list" out c) → out.toList = M.map (fun q => Value.ref q.1) → M.Perm L → M.Pairwise (fun q r => kLt r.2 q.2 = false) → Q (.ref (s.heap.objs.size + 1)) { s with heap := g }) :
    wpAny (model P w) A (call (.builtin "sorted") [.ref l]) Q E s := by
  have vl : (L.map fun q => Value.ref q.1).length = L.length := List.length_map _
  have which : ∀ v ∈ L.map (fun q => Value.ref q.1), ∃ q ∈ L, v = Value.ref q.1 := fun v hv => by
    obtain ⟨q, hq, e⟩ := List.mem_map.mp hv
    exact ⟨q, hq, e.symm⟩
  obtain ⟨fs, hfs⟩ := tups_of (sh := sh) (h := s.heap) (vs := L.map fun q => Value.ref q.1) fun v hv => by
    obtain ⟨q, hq, rfl⟩ := which v hv
    exact first_of (mem q hq) (hf q hq).1 (hf q hq).2
  have keys : ∀ v ∈ L.map (fun q => Value.ref q.1), ∃ q ∈ L, v = Value.ref q.1 ∧ G.tupKeyC s.heap sh v = some (q.2.map kN) := fun v hv => by
    obtain ⟨q, hq, rfl⟩ := which v hv
    exact ⟨q, hq, rfl, keyC_of (mem q hq) (hf q hq).1⟩
  generalize hvs : L.map (fun q => Value.ref q.1) = vs at hl vl which hfs keys
  refine G.sorted_tups hl hfs (fun v hv => let ⟨q, _, _, e⟩ := keys v hv; ⟨_, e⟩) (by rw [vl]; exact few) fun st hp hs _ => ?_
  have hl : (arrOf st).toList.Perm (vs.zip vs) := by rw [← pairsOf_toList]; exact Array.perm_iff_toList_perm.mp hp
  have pr : ∀ p ∈ (arrOf st).toList, p.1 = p.2 ∧ p.1 ∈ vs := fun p hp2 => mem_zip_self (hl.mem_iff.mp hp2)
  have outs : ((arrOf st).map (·.2)).toList.Perm vs := by
    rw [Array.toList_map]
    have y := hl.map (fun p : Value × Value => p.2)
    rw [show (vs.zip vs).map (fun p : Value × Value => p.2) = vs from List.map_snd_zip (Nat.le_refl _)] at y
    exact y
  obtain ⟨M, eM, sub⟩ := rows_of (L := L) (vs := ((arrOf st).map (·.2)).toList) fun v hv => which v (outs.mem_iff.mp hv)
  have inj : ∀ q ∈ L, ∀ r ∈ L, q.1 = r.1 → q = r := fun q hq r hr e => by
    have y1 := mem q hq
    rw [e] at y1
    exact Prod.ext e ((tkS P w).kd.inj y1 (mem r hr))
  have pM : M.Perm L := rows_perm nd inj sub (by rw [← eM, hvs]; exact outs)
  obtain ⟨c, hc⟩ := sortedAll_at s.heap vs ((arrOf st).map (·.2))
  refine hQ _ _ c M (fun b o e => sortedAll_old e) hc eM pM ?_
  rw [List.pairwise_iff_getElem]
  intro i j hi hj hij
  have ln : (arrOf st).size = M.length := by
    have y := congrArg List.length eM
    rw [Array.length_toList, Array.size_map, List.length_map] at y
    exact y
  have kk : ∀ (n : Nat) (hn : n < M.length), KK (G.tupKindC s.heap sh) (arrOf st) n = (M[n]).2.map kN := fun n hn => by
    have hn2 : n < (arrOf st).size := by rw [ln]; exact hn
    have e5 : (arrOf st)[n]? = some (arrOf st)[n] := Array.getElem?_eq_getElem hn2
    have inA : (arrOf st)[n] ∈ (arrOf st).toList := Array.mem_toList_iff.mpr (Array.getElem_mem hn2)
    obtain ⟨y1, y2⟩ := pr _ inA
    have e6 : (arrOf st)[n].2 = Value.ref (M[n]).1 := by
      have z := congrArg (fun l : List Value => l[n]?) eM
      simp only [Array.toList_map, List.getElem?_map, Array.getElem?_toList, e5, List.getElem?_eq_getElem hn] at z
      exact Option.some.inj z
    have key := keyC_of (mem _ (sub _ (List.getElem_mem hn))) (hf _ (sub _ (List.getElem_mem hn))).1
    unfold KK
    rw [e5]
    dsimp only
    rw [y1, e6, key]
    rfl
  have y := hs i j (Nat.le_of_lt hij) (by rw [pairsOf_size, vl, ← pM.length_eq]; exact hj)
  rw [kk i hi, kk j hj] at y
  exact y
end
@[irreducible] def rSortTl (K : PySem.W.Frag) : List V → Hp → VK → Prop := fun vs H Q => ∃ (a : Addr) (L : List (Addr × List Key)) (sh : Nat → Bool), vs = [V.ref a] ∧ SqL K H a (L.map fun p => V.ref p.1) ∧ (∀ p ∈ L, SqT K H p.1 (p.2.map kV)) ∧ (L.map (·.2)).Nodup ∧ (∀ p ∈ L, Fits sh 0 p.2 ∧ p.2 ≠ []) ∧
  ∀ (M : List (Addr × List Key)) (p : Addr), M.Perm L → M.Pairwise (fun q r => kLt r.2 q.2 = false) → H p = none → Q (.ref p) (upd H p (.lst (M.map fun q => V.ref q.1)))
theorem rSortTl_go {K : PySem.W.Frag} {H : Hp} {Q : VK} (a : Addr) (L : List (Addr × List Key)) (sh : Nat → Bool) (h1 : SqL K H a (L.map fun p => V.ref p.1)) (h2 : ∀ p ∈ L, SqT K H p.1 (p.2.map kV)) (h3 : (L.map (·.2)).Nodup) (h4 : ∀ p ∈ L, Fits sh 0 p.2 ∧ p.2 ≠ [])
    (q : ∀ (M : List (Addr × List Key)) (p : Addr), M.Perm L → M.Pairwise (fun q r => kLt r.2 q.2 = false) → H p = none → Q (.ref p) (upd H p (.lst (M.map fun q => V.ref q.1)))) : rSortTl K [V.ref a] H Q := by
  unfold rSortTl
  exact ⟨a, L, sh, rfl, h1, h2, h3, h4, q⟩
section
variable {X : Cx}
theorem cr_sortTl : CallR X (.builtin "sorted") (rSortTl X.K) := by
  intro pins s σ H vs us Q I r h
  unfold rSortTl at h
  obtain ⟨a, L, sh, rfl, hl, hk, nd, hf, q⟩ := h
  obtain ⟨its, rv, pl, hz⟩ := I.list hl
  rw [Vals.ref1 r]
  have ei := refs_vals rv
  subst ei
  rw [List.length_map] at hz
  refine sorted_tlK (P := X.prog) (w := X.w) (sh := sh) pl.isList (fun p hp => inv_key I (hk p hp)) nd hz hf fun g out c M k hg hout pm pw => ?_
  have hlen : (M.map fun q => V.ref q.1).length ≤ sizeLine := by rw [List.length_map, pm.length_eq]; exact hz
  have hn : H (s.heap.objs.size + 1) = none := I.hok.fresh (Nat.le_succ _)
  exact ⟨.ref (s.heap.objs.size + 1), upd H (s.heap.objs.size + 1) (.lst (M.map fun q => V.ref q.1)), I.laid (t' := s.toks) k (Nat.le_succ _) ⟨hlen, out.toList, c, by rw [hout]; exact vals_refs M, hg⟩, rfl, q M _ pm pw hn⟩
end
end Rz

namespace Rz
open PySem L2
/-! ### the text by places -/
def top (i : Nat) : Stmt := PySem.Challenge.pw_risensigns_k14_lot_texts.main.body.getD i (.Pass ⟨0, 0, 0, 0⟩)
abbrev prg : Program := PySem.Challenge.pw_risensigns_k14_lot_texts
abbrev s_is_sign : Stmt := top 7
abbrev s_check_text : Stmt := top 8
abbrev s__check_states : Stmt := top 12
abbrev s__leads_of : Stmt := top 13
abbrev s_led_to : Stmt := top 15
abbrev s__check_useful : Stmt := top 14
abbrev s__beginnings_of : Stmt := top 16
abbrev s_Lot_init : Stmt := inClass (top 11) 0
abbrev s_Lot_every : Stmt := inClass (top 11) 1
abbrev s_Lot_only : Stmt := inClass (top 11) 2
abbrev s_Lot_states : Stmt := inClass (top 11) 3
abbrev s_Lot_last : Stmt := inClass (top 11) 4
abbrev s_Lot_moves : Stmt := inClass (top 11) 5
abbrev s__law_pool : Stmt := top 18
abbrev s__law_pick : Stmt := top 19
abbrev s__law_alphabet : Stmt := top 20
abbrev s__law_word_of : Stmt := top 21
abbrev s__law_is_int : Stmt := top 22
abbrev s__law_led_from : Stmt := top 23
abbrev s_Lot_contains : Stmt := inClass (top 11) 6
abbrev s__law_lot_of : Stmt := top 24
abbrev s__law_in_lot : Stmt := top 25
abbrev s__law_odd_sign : Stmt := top 27
abbrev s__law_change : Stmt := top 30
abbrev s__law_has : Stmt := top 28
abbrev s__law_agrees : Stmt := top 29
abbrev s__law_from_lot : Stmt := top 26
abbrev s__law_begun : Stmt := top 31
abbrev s__law_tree : Stmt := top 32
abbrev s_law : Stmt := top 33
abbrev s_BadSign_init : Stmt := inClass (top 2) 0
abbrev s_Useless_init : Stmt := inClass (top 4) 0
abbrev N_is_sign : List Str := ["text"]
abbrev P_is_sign : List Str := ["text"]
abbrev N_check_text : List Str := ["text", "at", "sign"]
abbrev P_check_text : List Str := ["text"]
abbrev N__check_states : List Str := ["states", "last", "moves", "named", "state", "_", "to"]
abbrev P__check_states : List Str := ["states", "last", "moves"]
abbrev N__leads_of : List Str := ["moves", "leads", "state", "sign", "to"]
abbrev P__leads_of : List Str := ["moves"]
abbrev N_led_to : List Str := ["starts", "links", "follows", "state", "to", "reached", "waiting"]
abbrev P_led_to : List Str := ["starts", "links"]
abbrev N__check_useful : List Str := ["states", "last", "moves", "state", "_", "to", "begun", "ended"]
abbrev P__check_useful : List Str := ["states", "last", "moves"]
abbrev N__beginnings_of : List Str := ["texts", "text", "end", "beginnings"]
abbrev P__beginnings_of : List Str := ["texts"]
abbrev N_Lot_init : List Str := ["self", "states", "last", "moves", "leads"]
abbrev P_Lot_init : List Str := ["self", "states", "last", "moves"]
abbrev N_Lot_every : List Str := ["cls", "signs", "sign"]
abbrev P_Lot_every : List Str := ["cls", "signs"]
abbrev N_Lot_only : List Str := ["cls", "texts", "text", "beginnings", "number", "numbers", "last", "moves"]
abbrev P_Lot_only : List Str := ["cls", "texts"]
abbrev N_Lot_states : List Str := ["self"]
abbrev P_Lot_states : List Str := ["self"]
abbrev N_Lot_last : List Str := ["self"]
abbrev P_Lot_last : List Str := ["self"]
abbrev N_Lot_moves : List Str := ["self"]
abbrev P_Lot_moves : List Str := ["self"]
abbrev N__law_pool : List Str := ["_law_script", "_law_draws", "_law_seed", "_law_cell", "_law_rest", "_law_k", "_law_value"]
abbrev P__law_pool : List Str := ["_law_script"]
abbrev N__law_pick : List Str := ["_law_draws", "_law_many"]
abbrev P__law_pick : List Str := ["_law_draws", "_law_many"]
abbrev N__law_alphabet : List Str := ["_law_draws", "_law_many", "_law_letters", "_law_signs", "_law_k", "_law_letter", "_law_left"]
abbrev P__law_alphabet : List Str := ["_law_draws", "_law_many"]
abbrev N__law_word_of : List Str := ["_law_draws", "_law_signs", "_law_least", "_law_greatest", "_law_size", "_law_k"]
abbrev P__law_word_of : List Str := ["_law_draws", "_law_signs", "_law_least", "_law_greatest"]
abbrev N__law_is_int : List Str := ["_law_value"]
abbrev P__law_is_int : List Str := ["_law_value"]
abbrev N__law_led_from : List Str := ["_law_starts", "_law_arrows", "_law_found", "_law_k", "_law_start", "_law_goal"]
abbrev P__law_led_from : List Str := ["_law_starts", "_law_arrows"]
abbrev N_Lot_contains : List Str := ["self", "text", "state", "sign"]
abbrev P_Lot_contains : List Str := ["self", "text"]
abbrev N__law_lot_of : List Str := ["_law_draws", "_law_signs", "_law_kind", "_law_sign", "_law_text", "_law_k", "_law_many", "_law_moves", "_law_state", "_law_goal", "_law_last", "_law_move", "_law_ahead", "_law_back", "_law_kept", "_law_inner"]
abbrev P__law_lot_of : List Str := ["_law_draws", "_law_signs"]
abbrev N__law_in_lot : List Str := ["_law_text", "_law_parts", "_law_state", "_law_sign", "_law_move", "_law_goals"]
abbrev P__law_in_lot : List Str := ["_law_text", "_law_parts"]
abbrev N__law_odd_sign : List Str := ["_law_draws", "_law_odd"]
abbrev P__law_odd_sign : List Str := ["_law_draws"]
abbrev N__law_change : List Str := ["_law_draws", "_law_text", "_law_signs", "_law_at", "_law_sign", "_law_kind"]
abbrev P__law_change : List Str := ["_law_draws", "_law_text", "_law_signs"]
abbrev N__law_has : List Str := ["_law_made", "_law_parts", "_law_last", "_law_moves", "_law_state", "_law_move"]
abbrev P__law_has : List Str := ["_law_made", "_law_parts"]
abbrev N__law_agrees : List Str := ["_law_made", "_law_parts", "_law_texts", "_law_text", "_law_told"]
abbrev P__law_agrees : List Str := ["_law_made", "_law_parts", "_law_texts"]
abbrev N__law_from_lot : List Str := ["_law_draws", "_law_parts", "_law_size", "_law_far", "_law_state", "_law_k", "_law_sign", "_law_goal", "_law_text", "_law_move", "_law_options"]
abbrev P__law_from_lot : List Str := ["_law_draws", "_law_parts", "_law_size"]
abbrev N__law_begun : List Str := ["_law_words"]
abbrev P__law_begun : List Str := ["_law_words"]
abbrev N__law_tree : List Str := ["_law_words", "_law_found", "_law_word", "_law_size", "_law_pair", "_law_names", "_law_name", "_law_moves", "_law_k", "_law_last"]
abbrev P__law_tree : List Str := ["_law_words"]
abbrev N_law : List Str := ["_law_script", "_law_draws", "_law_letters", "_law_signs", "_law_parts", "_law_k", "_law_last", "_law_moves", "_law_passed", "_law_made", "_law_member", "_law_texts", "_law_sign", "_law_every", "_law_words"]
abbrev P_law : List Str := ["_law_script"]
/-! ### what stands behind the top -/
structure Txt (K : PySem.W.Frag) (mg : Str → Option Value) : Type where
  n_abs : mg "abs" = none
  n_bool : mg "bool" = none
  n_classmethod : mg "classmethod" = none
  n_enumerate : mg "enumerate" = none
  n_int : mg "int" = none
  n_isinstance : mg "isinstance" = none
  n_len : mg "len" = none
  n_list : mg "list" = none
  n_property : mg "property" = none
  n_range : mg "range" = none
  n_set : mg "set" = none
  n_sorted : mg "sorted" = none
  n_tuple : mg "tuple" = none
  k_SIGNS : ∃ t, mg "SIGNS" = some (.str "abcdefghijklmnopqrstuvwxyz" t)
  k_MOST_STATES : ∃ t, mg "MOST_STATES" = some (.int 40 t)
  c_BadSign : Addr
  m_BadSign : mg "BadSign" = some (.ref c_BadSign)
  o_BadSign : OexC K c_BadSign
  x_BadSign : ExF K c_BadSign "at"
  f_BadSign_init : Addr
  fd_BadSign_init : FuncData
  i_BadSign : PySem.W.findIn K (.ref c_BadSign) "__init__" = some (some (.ref f_BadSign_init))
  t_BadSign : PySem.W.typeIn K (.ref f_BadSign_init) = some (.type "function")
  F_BadSign_init : ExInit prg K mg c_BadSign f_BadSign_init fd_BadSign_init "at" s_BadSign_init
  b_BadSign_init : Binds K fd_BadSign_init ["self", "at"] []
  em_BadSign_BadSign : PySem.W.exmOne K (.ref c_BadSign) (.ref c_BadSign) = some true
  -- em_BadSign_Useless below
  -- em_BadSign_BadLot below
  c_Useless : Addr
  m_Useless : mg "Useless" = some (.ref c_Useless)
  o_Useless : OexC K c_Useless
  x_Useless : ExF K c_Useless "state"
  f_Useless_init : Addr
  fd_Useless_init : FuncData
  i_Useless : PySem.W.findIn K (.ref c_Useless) "__init__" = some (some (.ref f_Useless_init))
  t_Useless : PySem.W.typeIn K (.ref f_Useless_init) = some (.type "function")
  F_Useless_init : ExInit prg K mg c_Useless f_Useless_init fd_Useless_init "state" s_Useless_init
  b_Useless_init : Binds K fd_Useless_init ["self", "state"] []
  em_Useless_BadSign : PySem.W.exmOne K (.ref c_Useless) (.ref c_BadSign) = some false
  em_Useless_Useless : PySem.W.exmOne K (.ref c_Useless) (.ref c_Useless) = some true
  -- em_Useless_BadLot below
  c_BadLot : Addr
  m_BadLot : mg "BadLot" = some (.ref c_BadLot)
  o_BadLot : PySem.W.excIn K c_BadLot [.type "ValueError", .type "Exception", .type "BaseException", .type "object"] "ValueError.__new__" = true
  kp_BadLot : PySem.W.keepIn K (.ref c_BadLot) = true
  r_BadLot : PySem.W.subIn K (.ref c_BadLot) (.type "BaseException") = some true
  t_BadLot : PySem.W.typeIn K (.ref c_BadLot) = some (.type "type")
  em_BadLot_BadSign : PySem.W.exmOne K (.ref c_BadLot) (.ref c_BadSign) = some false
  em_BadLot_Useless : PySem.W.exmOne K (.ref c_BadLot) (.ref c_Useless) = some false
  em_BadLot_BadLot : PySem.W.exmOne K (.ref c_BadLot) (.ref c_BadLot) = some true
  em_BadSign_Useless : PySem.W.exmOne K (.ref c_BadSign) (.ref c_Useless) = some false
  em_BadSign_BadLot : PySem.W.exmOne K (.ref c_BadSign) (.ref c_BadLot) = some false
  em_Useless_BadLot : PySem.W.exmOne K (.ref c_Useless) (.ref c_BadLot) = some true
  c_Lot : Addr
  m_Lot : mg "Lot" = some (.ref c_Lot)
  cl_Lot : Cls K c_Lot
  mk_Lot : PySem.W.makesIn K c_Lot = true
  kp_Lot : PySem.W.keepIn K (.ref c_Lot) = true
  is_Lot : C8.InsC K c_Lot
  sf_Lot : PySem.W.selfFirst K c_Lot = true
  na_Lot__states : NoAttr K c_Lot "_states"
  na_Lot__last : NoAttr K c_Lot "_last"
  na_Lot__moves : NoAttr K c_Lot "_moves"
  na_Lot__leads : NoAttr K c_Lot "_leads"
  f_is_sign : Addr
  fd_is_sign : FuncData
  F_is_sign : Fun K "is_sign" "is_sign" s_is_sign f_is_sign fd_is_sign
  b_is_sign : Binds K fd_is_sign P_is_sign []
  m_is_sign : mg "is_sign" = some (.ref f_is_sign)
  f_check_text : Addr
  fd_check_text : FuncData
  F_check_text : Fun K "check_text" "check_text" s_check_text f_check_text fd_check_text
  b_check_text : Binds K fd_check_text P_check_text []
  m_check_text : mg "check_text" = some (.ref f_check_text)
  f__check_states : Addr
  fd__check_states : FuncData
  F__check_states : Fun K "_check_states" "_check_states" s__check_states f__check_states fd__check_states
  b__check_states : Binds K fd__check_states P__check_states []
  m__check_states : mg "_check_states" = some (.ref f__check_states)
  f__leads_of : Addr
  fd__leads_of : FuncData
  F__leads_of : Fun K "_leads_of" "_leads_of" s__leads_of f__leads_of fd__leads_of
  b__leads_of : Binds K fd__leads_of P__leads_of []
  m__leads_of : mg "_leads_of" = some (.ref f__leads_of)
  f_led_to : Addr
  fd_led_to : FuncData
  F_led_to : Fun K "led_to" "led_to" s_led_to f_led_to fd_led_to
  b_led_to : Binds K fd_led_to P_led_to []
  m_led_to : mg "led_to" = some (.ref f_led_to)
  f__check_useful : Addr
  fd__check_useful : FuncData
  F__check_useful : Fun K "_check_useful" "_check_useful" s__check_useful f__check_useful fd__check_useful
  b__check_useful : Binds K fd__check_useful P__check_useful []
  m__check_useful : mg "_check_useful" = some (.ref f__check_useful)
  f__beginnings_of : Addr
  fd__beginnings_of : FuncData
  F__beginnings_of : Fun K "_beginnings_of" "_beginnings_of" s__beginnings_of f__beginnings_of fd__beginnings_of
  b__beginnings_of : Binds K fd__beginnings_of P__beginnings_of []
  m__beginnings_of : mg "_beginnings_of" = some (.ref f__beginnings_of)
  f_Lot_init : Addr
  fd_Lot_init : FuncData
  F_Lot_init : Fun K "__init__" "Lot.__init__" s_Lot_init f_Lot_init fd_Lot_init
  b_Lot_init : Binds K fd_Lot_init P_Lot_init []
  M_Lot_init : Meth K c_Lot "__init__" f_Lot_init
  f_Lot_every : Addr
  fd_Lot_every : FuncData
  F_Lot_every : Fun K "every" "Lot.every" s_Lot_every f_Lot_every fd_Lot_every
  b_Lot_every : Binds K fd_Lot_every P_Lot_every []
  p_Lot_every : Addr
  cr_Lot_every : ClX.CRead K c_Lot (.type "type")
  M_Lot_every : ClX.CMet K c_Lot (.type "type") "every" p_Lot_every f_Lot_every
  f_Lot_only : Addr
  fd_Lot_only : FuncData
  F_Lot_only : Fun K "only" "Lot.only" s_Lot_only f_Lot_only fd_Lot_only
  p_Lot_only : Addr
  cr_Lot_only : ClX.CRead K c_Lot (.type "type")
  M_Lot_only : ClX.CMet K c_Lot (.type "type") "only" p_Lot_only f_Lot_only
  f_Lot_states : Addr
  fd_Lot_states : FuncData
  F_Lot_states : Fun K "states" "Lot.states" s_Lot_states f_Lot_states fd_Lot_states
  b_Lot_states : Binds K fd_Lot_states P_Lot_states []
  p_Lot_states : Addr
  M_Lot_states : PropOf K c_Lot "states" p_Lot_states f_Lot_states
  f_Lot_last : Addr
  fd_Lot_last : FuncData
  F_Lot_last : Fun K "last" "Lot.last" s_Lot_last f_Lot_last fd_Lot_last
  b_Lot_last : Binds K fd_Lot_last P_Lot_last []
  p_Lot_last : Addr
  M_Lot_last : PropOf K c_Lot "last" p_Lot_last f_Lot_last
  f_Lot_moves : Addr
  fd_Lot_moves : FuncData
  F_Lot_moves : Fun K "moves" "Lot.moves" s_Lot_moves f_Lot_moves fd_Lot_moves
  b_Lot_moves : Binds K fd_Lot_moves P_Lot_moves []
  p_Lot_moves : Addr
  M_Lot_moves : PropOf K c_Lot "moves" p_Lot_moves f_Lot_moves
  f__law_pool : Addr
  fd__law_pool : FuncData
  F__law_pool : Fun K "_law_pool" "_law_pool" s__law_pool f__law_pool fd__law_pool
  b__law_pool : Binds K fd__law_pool P__law_pool []
  m__law_pool : mg "_law_pool" = some (.ref f__law_pool)
  f__law_pick : Addr
  fd__law_pick : FuncData
  F__law_pick : Fun K "_law_pick" "_law_pick" s__law_pick f__law_pick fd__law_pick
  b__law_pick : Binds K fd__law_pick P__law_pick []
  m__law_pick : mg "_law_pick" = some (.ref f__law_pick)
  f__law_alphabet : Addr
  fd__law_alphabet : FuncData
  F__law_alphabet : Fun K "_law_alphabet" "_law_alphabet" s__law_alphabet f__law_alphabet fd__law_alphabet
  b__law_alphabet : Binds K fd__law_alphabet P__law_alphabet []
  m__law_alphabet : mg "_law_alphabet" = some (.ref f__law_alphabet)
  f__law_word_of : Addr
  fd__law_word_of : FuncData
  F__law_word_of : Fun K "_law_word_of" "_law_word_of" s__law_word_of f__law_word_of fd__law_word_of
  b__law_word_of : Binds K fd__law_word_of P__law_word_of []
  m__law_word_of : mg "_law_word_of" = some (.ref f__law_word_of)
  f__law_is_int : Addr
  fd__law_is_int : FuncData
  F__law_is_int : Fun K "_law_is_int" "_law_is_int" s__law_is_int f__law_is_int fd__law_is_int
  b__law_is_int : Binds K fd__law_is_int P__law_is_int []
  m__law_is_int : mg "_law_is_int" = some (.ref f__law_is_int)
  f__law_led_from : Addr
  fd__law_led_from : FuncData
  F__law_led_from : Fun K "_law_led_from" "_law_led_from" s__law_led_from f__law_led_from fd__law_led_from
  b__law_led_from : Binds K fd__law_led_from P__law_led_from []
  m__law_led_from : mg "_law_led_from" = some (.ref f__law_led_from)
  f_Lot_contains : Addr
  fd_Lot_contains : FuncData
  F_Lot_contains : Fun K "__contains__" "Lot.__contains__" s_Lot_contains f_Lot_contains fd_Lot_contains
  b_Lot_contains : Binds K fd_Lot_contains P_Lot_contains []
  M_Lot_contains : Meth K c_Lot "__contains__" f_Lot_contains
  f__law_lot_of : Addr
  fd__law_lot_of : FuncData
  F__law_lot_of : Fun K "_law_lot_of" "_law_lot_of" s__law_lot_of f__law_lot_of fd__law_lot_of
  b__law_lot_of : Binds K fd__law_lot_of P__law_lot_of []
  m__law_lot_of : mg "_law_lot_of" = some (.ref f__law_lot_of)
  f__law_in_lot : Addr
  fd__law_in_lot : FuncData
  F__law_in_lot : Fun K "_law_in_lot" "_law_in_lot" s__law_in_lot f__law_in_lot fd__law_in_lot
  b__law_in_lot : Binds K fd__law_in_lot P__law_in_lot []
  m__law_in_lot : mg "_law_in_lot" = some (.ref f__law_in_lot)
  f__law_odd_sign : Addr
  fd__law_odd_sign : FuncData
  F__law_odd_sign : Fun K "_law_odd_sign" "_law_odd_sign" s__law_odd_sign f__law_odd_sign fd__law_odd_sign
  b__law_odd_sign : Binds K fd__law_odd_sign P__law_odd_sign []
  m__law_odd_sign : mg "_law_odd_sign" = some (.ref f__law_odd_sign)
  f__law_change : Addr
  fd__law_change : FuncData
  F__law_change : Fun K "_law_change" "_law_change" s__law_change f__law_change fd__law_change
  b__law_change : Binds K fd__law_change P__law_change []
  m__law_change : mg "_law_change" = some (.ref f__law_change)
  f__law_has : Addr
  fd__law_has : FuncData
  F__law_has : Fun K "_law_has" "_law_has" s__law_has f__law_has fd__law_has
  b__law_has : Binds K fd__law_has P__law_has []
  m__law_has : mg "_law_has" = some (.ref f__law_has)
  f__law_agrees : Addr
  fd__law_agrees : FuncData
  F__law_agrees : Fun K "_law_agrees" "_law_agrees" s__law_agrees f__law_agrees fd__law_agrees
  b__law_agrees : Binds K fd__law_agrees P__law_agrees []
  m__law_agrees : mg "_law_agrees" = some (.ref f__law_agrees)
  f__law_from_lot : Addr
  fd__law_from_lot : FuncData
  F__law_from_lot : Fun K "_law_from_lot" "_law_from_lot" s__law_from_lot f__law_from_lot fd__law_from_lot
  b__law_from_lot : Binds K fd__law_from_lot P__law_from_lot []
  m__law_from_lot : mg "_law_from_lot" = some (.ref f__law_from_lot)
  f__law_begun : Addr
  fd__law_begun : FuncData
  F__law_begun : Fun K "_law_begun" "_law_begun" s__law_begun f__law_begun fd__law_begun
  b__law_begun : Binds K fd__law_begun P__law_begun []
  m__law_begun : mg "_law_begun" = some (.ref f__law_begun)
  f__law_tree : Addr
  fd__law_tree : FuncData
  F__law_tree : Fun K "_law_tree" "_law_tree" s__law_tree f__law_tree fd__law_tree
  b__law_tree : Binds K fd__law_tree P__law_tree []
  m__law_tree : mg "_law_tree" = some (.ref f__law_tree)
  f_law : Addr
  fd_law : FuncData
  F_law : Fun K "law" "law" s_law f_law fd_law
  b_law : Binds K fd_law P_law []
  m_law : mg "law" = some (.ref f_law)
theorem ok_BadSign_init {w : World} {K : PySem.W.Frag} {mg : Str → Option Value} {base : Heap} (T : Txt K mg) : FnOk prg w K mg base (L2.CX prg w) 1 T.f_BadSign_init T.fd_BadSign_init ["self", "at"] (spExI T.c_BadSign "at") :=
  exinit_ok T.o_BadSign T.F_BadSign_init rfl rfl rfl rfl rfl rfl rfl rfl rfl rfl (by decide +kernel) (by decide +kernel) (by decide +kernel) (by decide) (by decide) (msg_ok2 rfl (by decide) (by decide) (by decide +kernel)) (fun _ _ _ _ => rfl) (fun _ _ _ _ => rfl)
theorem ok_Useless_init {w : World} {K : PySem.W.Frag} {mg : Str → Option Value} {base : Heap} (T : Txt K mg) : FnOk prg w K mg base (L2.CX prg w) 1 T.f_Useless_init T.fd_Useless_init ["self", "state"] (spExI T.c_Useless "state") :=
  exinit_ok T.o_Useless T.F_Useless_init rfl rfl rfl rfl rfl rfl rfl rfl rfl rfl (by decide +kernel) (by decide +kernel) (by decide +kernel) (by decide) (by decide) (msg_ok3 rfl (by decide) (by decide) (by decide +kernel) (by decide +kernel)) (fun _ _ _ _ => rfl) (fun _ _ _ _ => rfl)

end Rz
namespace Rz
open PySem PySem.Spec PyProof.Rows L2
/-- exactly one sign -/
def isSg (z : Str) : Bool := match z.cps.toList with
  | [c] => !oddC c
  | _ => false
def sp_is_sign : Sp := fun vs H Q _ => ∃ z : Str, vs = [.str z] ∧ z.length ≤ 1000000 ∧ Q (.bl (isSg z)) H
section
variable {w : World} {K : PySem.W.Frag} {mg : Str → Option Value} {base : Heap}
theorem sc_is_sign : FnScope N_is_sign P_is_sign (defScope s_is_sign) := ⟨rfl, rfl, rfl, by decide +kernel, rfl, by decide +kernel, by decide +kernel⟩
theorem ok_is_sign (T : Txt K mg) : FnOk prg w K mg base (L2.CX prg w) 1 T.f_is_sign T.fd_is_sign P_is_sign sp_is_sign := by
  refine Rz.Fun.okN T.F_is_sign sc_is_sign (fun vs H Q E h => ?_) (fun cdv A outer s H vs Q E hr h => ?_)
  · obtain ⟨z, rfl, _⟩ := h
    rfl
  obtain ⟨z, rfl, hz, k⟩ := h
  obtain ⟨tS, k_SIGNS⟩ := T.k_SIGNS
  refine ⟨_, (pss_one (ps_ret (pe_and (pe_cmpR op_eq (pe_callB call_len_str (by rfl) T.n_len PySem.boot_len (pa_cons (pv 0) pa_nil)) pe_int (nomark _)) (pe_one (pe_cmpR op_in_sign (pv 0) (pe_glob (v := .str abc) (by rfl) k_SIGNS ⟨_, rfl⟩) rfl))))), ?_⟩
  refine ⟨_, rfl, z, rfl, by rw [sizeLine_eq]; omega, rfl, ?_⟩
  obtain ⟨a⟩ := z
  obtain ⟨cs⟩ := a
  match cs, hz, k with
  | [], _, k => exact ⟨false, rfl, iteF k⟩
  | [c], _, k =>
    refine ⟨true, rfl, iteT ?_⟩
    refine ⟨_, rfl, c, abc, rfl, rfl, ?_⟩
    have e : isSg ⟨⟨[c]⟩⟩ = decide (c ∈ abc.cps.toList) := by
      show (!oddC c) = _
      unfold oddC
      simp
    rw [e] at k
    exact k
  | c :: d :: r, _, k =>
    refine ⟨false, ?_, iteF k⟩
    show V.bl (decide (V.int ((c :: d :: r).length : Nat) = V.int 1)) = V.bl false
    rw [decide_eq_false]
    intro e
    injection e with e
    simp at e
    omega
end
end Rz

namespace Rz
open PySem PySem.Spec PyProof.Rows L2
/-- nothing for a text; else BadSign with the first place -/
def sp_check_text (cB : Addr) : Sp := fun vs H Q E => ∃ z : Str, vs = [.str z] ∧ z.length ≤ 1000000 ∧ (fo z = none → ∀ H', Same H H' → Q .non H') ∧
  (∀ i, fo z = some i → ∀ H' d, Same H H' → H d = none → H' d = some (.xd [("at", .int (i : Nat))]) → E (.ref cB) (some d) H')
section
variable {w : World} {K : PySem.W.Frag} {mg : Str → Option Value} {base : Heap}
theorem sc_check_text : FnScope N_check_text P_check_text (defScope s_check_text) := ⟨rfl, rfl, rfl, by decide +kernel, rfl, by decide +kernel, by decide +kernel⟩
theorem ok_check_text (T : Txt K mg) : FnOk prg w K mg base (L2.CX prg w) 3 T.f_check_text T.fd_check_text P_check_text (sp_check_text T.c_BadSign) := by
  refine T.F_check_text.okX sc_check_text (fun vs H Q E h => ?_) (fun cdv A outer s H vs Q E hr h => ?_)
  · obtain ⟨z, rfl, _⟩ := h
    rfl
  obtain ⟨z, rfl, hz, kg, kb⟩ := h
  have nd := sc_check_text.nd
  obtain ⟨tS, k_SIGNS⟩ := T.k_SIGNS
  have tk : Takes (cxOf (L2.CX prg w) prg w K mg base N_check_text "check_text" (defScope s_check_text) T.f_check_text cdv A outer s H E) (fun cls d _ H' => E cls d H') := takes_of rfl rfl rfl rfl
  refine ⟨_, (pss_one (ps_for (passes_of rfl) rfl (pi_enumS (by rfl) T.n_enumerate (pa_cons (pv 0) pa_nil)) (pg_tup rfl (pgs_cons (pg_name (i := 1) nd rfl (Or.inl rfl)) (pgs_cons (pg_name (i := 2) nd rfl (Or.inl rfl)) pgs_nil)))
      (pss_one (ps_if (pt_cmpR op_notIn_sign (pv 2) (pe_glob (v := .str abc) (by rfl) k_SIGNS ⟨_, rfl⟩) rfl) (pss_one (ps_raise rfl tk (pmk_oex T.o_BadSign T.i_BadSign T.t_BadSign (ok_BadSign_init T) (hr.mono (by decide)) T.b_BadSign_init .nil passN (by rfl) T.m_BadSign (pa_cons (pv 1) pa_nil)))) pss_nil)))), ?_⟩
  refine ⟨_, rfl, z, rfl, for_it walk_enumS (fun i σ H' => ∃ v1 v2 : Option V, σ = [some (.str z), v1, v2] ∧ Same H H' ∧ ∀ (j c : Nat), j < i → z.cps.toList[j]? = some c → oddC c = false)
    ⟨_, _, rfl, Same.refl H, fun j c hj => absurd hj (Nat.not_lt_zero j)⟩ (fun _ _ _ _ _ => True.intro) ?_ ?_⟩
  · rintro i x σ H1 H2 hi ⟨v1, v2, rfl, R, hb⟩ ⟨Tp, c, rfl, hT, rfl, hc⟩
    have R2 : Same H (upd H1 Tp (.tup [.int (i : Nat), .str ⟨#[c]⟩])) := Rz.Same.new R hT
    refine ⟨Tp, _, rfl, SqT.of upd_same, rfl, _, _, rfl, _, _, rfl, rfl, ?_⟩
    refine ⟨_, rfl, c, abc, rfl, rfl, _, rfl, ?_⟩
    refine ite2 (fun ho => ?_) (fun ho => ?_)
    · have hfo := fo_some hc ho hb
      have hl := fo_lt hfo
      exact ⟨_, rfl, by show 1 ≤ 1000; decide, raise_fld (log_nat (by omega)) fun H2 d S2 hd e => kb i hfo H2 d (R2.trans S2) (R2.free hd) e⟩
    · refine ⟨_, _, rfl, R2, fun j c2 hj h2 => ?_⟩
      by_cases e : j < i
      · exact hb j c2 e h2
      · have e3 : j = i := by omega
        subst e3
        rw [hc] at h2
        cases h2
        simpa [oddC] using ho
  · rintro σ H1 ⟨v1, v2, rfl, R, hb⟩
    exact kg (fo_none fun j c hj => hb j c (by
      have := (List.getElem?_eq_some_iff.mp hj).1
      simpa using this) hj) H1 R
end
end Rz

namespace Rz
open PySem PySem.Spec PyProof.Rows L2
/-! ### lists of moves: (state, sign, state) -/
abbrev Mv := Int × Str × Int
def mvV (m : Mv) : List V := [.int m.1, .str m.2.1, .int m.2.2]
def MvL (H : Hp) (ts : List Addr) (ms : List Mv) : Prop := Paired (fun (t : Addr) (m : Mv) => H t = some (.tup (mvV m))) ts ms
def MAt (H : Hp) (l : Addr) (ms : List Mv) : Prop := ∃ ts : List Addr, H l = some (.lst (ts.map V.ref)) ∧ MvL H ts ms
theorem MvL.keep {H H' : Hp} (h : Tups H H') : ∀ {ts : List Addr} {ms : List Mv}, MvL H ts ms → MvL H' ts ms
  | _, _, .nil => .nil
  | _, _, .cons e r => .cons (h _ _ e) (MvL.keep h r)
theorem MvL.len {H : Hp} {ts : List Addr} {ms : List Mv} (h : MvL H ts ms) : ts.length = ms.length := Paired.length h
theorem MvL.append {H : Hp} : ∀ {ts us : List Addr} {ms ns : List Mv}, MvL H ts ms → MvL H us ns → MvL H (ts ++ us) (ms ++ ns)
  | _, _, _, _, .nil, s => s
  | _, _, _, _, .cons e t, s => .cons e (MvL.append t s)
theorem MvL.get {H : Hp} : ∀ {ts : List Addr} {ms : List Mv} {i : Nat} {t : Addr}, MvL H ts ms → ts[i]? = some t → ∃ m, ms[i]? = some m ∧ H t = some (.tup (mvV m))
  | _, _, i, t, .nil, h => by cases h
  | _, _, 0, t, .cons e r, h => by
    have z := Option.some.inj h
    subst z
    exact ⟨_, rfl, e⟩
  | _, _, i + 1, t, .cons e r, h => MvL.get (i := i) r (by simpa using h)
theorem MvL.nth {H : Hp} : ∀ {ts : List Addr} {ms : List Mv} {i : Nat} {m : Mv}, MvL H ts ms → ms[i]? = some m → ∃ t, ts[i]? = some t ∧ H t = some (.tup (mvV m))
  | _, _, i, m, .nil, h => by cases h
  | _, _, 0, m, .cons e p, h => by
    have z := Option.some.inj h
    subst z
    exact ⟨_, rfl, e⟩
  | _, _, i + 1, m, .cons e p, h => MvL.nth (i := i) p (by simpa using h)
theorem MAt.same {H H' : Hp} {l : Addr} {ms : List Mv} (S : Same H H') (a : MAt H l ms) : MAt H' l ms := let ⟨ts, h1, h2⟩ := a; ⟨ts, S _ _ h1, h2.keep (.of S)⟩
theorem MAt.but {D : List Addr} {H H' : Hp} {l : Addr} {ms : List Mv} (a : MAt H l ms) (B : But D H H') (n : l ∉ D) (t : Tups H H') : MAt H' l ms := let ⟨ts, h1, h2⟩ := a; ⟨ts, B.at h1 n, h2.keep t⟩
/-- as keys -/
def mvK (m : Mv) : List Key := [.inl m.1, .inr m.2.1, .inl m.2.2]
theorem mvK_V (m : Mv) : (mvK m).map kV = mvV m := rfl
theorem mvK_fits (m : Mv) : Fits (fun i => i == 1) 0 (mvK m) ∧ mvK m ≠ [] := ⟨⟨rfl, rfl, rfl, trivial⟩, by simp [mvK]⟩
theorem mvK_inj {a b : Mv} (h : mvK a = mvK b) : a = b := by
  obtain ⟨a1, a2, a3⟩ := a
  obtain ⟨b1, b2, b3⟩ := b
  simp only [mvK, List.cons.injEq, Sum.inl.injEq, Sum.inr.injEq, and_true] at h
  obtain ⟨rfl, rfl, rfl⟩ := h
  rfl
/-- the states of a lot are fine -/
def okStates (n : Int) (ls : List Int) (ms : List Mv) : Prop := (1 ≤ n ∧ n ≤ 40) ∧ (∀ x ∈ ls, 0 ≤ x ∧ x < n) ∧ ∀ m ∈ ms, (0 ≤ m.1 ∧ m.1 < n) ∧ (0 ≤ m.2.2 ∧ m.2.2 < n)
end Rz

namespace Rz
open PySem PySem.Spec PyProof.Rows L2
/-! ### links between states, and where they lead -/
abbrev Lk := Int × Int
def LkL (H : Hp) (ts : List Addr) (ps : List Lk) : Prop := Paired (fun (t : Addr) (p : Lk) => H t = some (.tup [.int p.1, .int p.2])) ts ps
def LkAt (H : Hp) (l : Addr) (ps : List Lk) : Prop := ∃ ts : List Addr, H l = some (.lst (ts.map V.ref)) ∧ LkL H ts ps
theorem LkL.get {H : Hp} : ∀ {ts : List Addr} {ps : List Lk} {i : Nat} {t : Addr}, LkL H ts ps → ts[i]? = some t → ∃ p, ps[i]? = some p ∧ H t = some (.tup [.int p.1, .int p.2])
  | _, _, i, t, .nil, h => by cases h
  | _, _, 0, t, .cons e r, h => by
    have z := Option.some.inj h
    subst z
    exact ⟨_, rfl, e⟩
  | _, _, i + 1, t, .cons e r, h => LkL.get (i := i) r (by simpa using h)
theorem LkL.len {H : Hp} {ts : List Addr} {ps : List Lk} (h : LkL H ts ps) : ts.length = ps.length := Paired.length h
def succs (ps : List Lk) (s : Int) : List Int := (ps.filter fun p => decide (p.1 = s)).map (·.2)
theorem succs_snoc (ps : List Lk) (p : Lk) (s : Int) : succs (ps ++ [p]) s = if p.1 = s then succs ps s ++ [p.2] else succs ps s := by
  unfold succs
  rw [List.filter_append, List.map_append]
  by_cases h : p.1 = s
  · rw [if_pos h, List.filter_cons, if_pos (decide_eq_true h)]
    rfl
  · rw [if_neg h, List.filter_cons, if_neg (by simpa using h)]
    simp
theorem succs_len (ps : List Lk) (s : Int) : (succs ps s).length ≤ ps.length := by
  unfold succs
  rw [List.length_map]
  exact List.length_filter_le _ _
/-- the dict that says where each state leads, its lists younger than H0 -/
def FoAt (H0 H : Hp) (d : Addr) (ps : List Lk) (kvs : List (Key × V)) : Prop := H d = some (.dK kvs) ∧
  (∀ s : Int, (valV kvs (.inl s) = none ∧ succs ps s = []) ∨ ∃ l, valV kvs (.inl s) = some (.ref l) ∧ l ≠ d ∧ H0 l = none ∧ H l = some (.lst ((succs ps s).map V.int))) ∧
  ∀ s u l, valV kvs (.inl s) = some (.ref l) → valV kvs (.inl u) = some (.ref l) → s = u
/-- one link more -/
theorem fo_old {H0 H : Hp} {d l : Addr} {ps : List Lk} {kvs : List (Key × V)} {p : Lk} (F : FoAt H0 H d ps kvs) (h : valV kvs (.inl p.1) = some (.ref l)) : FoAt H0 (upd H l (.lst (((succs ps p.1).map V.int) ++ [.int p.2]))) d (ps ++ [p]) kvs := by
  obtain ⟨f1, f2, f3⟩ := F
  have nld : l ≠ d := by
    rcases f2 p.1 with ⟨z, _⟩ | ⟨l2, z, n, _⟩
    · rw [h] at z
      cases z
    · rw [h] at z
      cases z
      exact n
  refine ⟨by rw [upd_ne (Ne.symm nld)]; exact f1, fun s => ?_, f3⟩
  rw [succs_snoc]
  by_cases e : p.1 = s
  · rw [if_pos e]
    subst e
    rcases f2 p.1 with ⟨z, _⟩ | ⟨l2, z, n, m, _⟩
    · rw [h] at z
      cases z
    · rw [h] at z
      cases z
      exact .inr ⟨l, h, nld, m, by rw [upd_same, List.map_append]; rfl⟩
  · rw [if_neg e]
    rcases f2 s with z | ⟨l2, z1, z2, z3, z4⟩
    · exact .inl z
    · have n : l2 ≠ l := fun q => e (f3 p.1 s l h (by rw [← q]; exact z1))
      exact .inr ⟨l2, z1, z2, z3, by rw [upd_ne n]; exact z4⟩
theorem fo_new {H0 H : Hp} {d q : Addr} {ps : List Lk} {kvs : List (Key × V)} {p : Lk} (F : FoAt H0 H d ps kvs) (h : valV kvs (.inl p.1) = none) (hq : H q = none) (hq0 : H0 q = none) :
    FoAt H0 (upd (upd H d (.dK (putK kvs (.inl p.1) (.ref q)))) q (.lst [.int p.2])) d (ps ++ [p]) (putK kvs (.inl p.1) (.ref q)) := by
  obtain ⟨f1, f2, f3⟩ := F
  have nqd : q ≠ d := fun z => by rw [z, f1] at hq; cases hq
  have e0 : succs ps p.1 = [] := by
    rcases f2 p.1 with ⟨_, z⟩ | ⟨l, z, _⟩
    · exact z
    · rw [h] at z
      cases z
  have old : ∀ {s : Int} {l : Addr}, valV kvs (.inl s) = some (.ref l) → l ≠ q := fun {s l} z y => by
    rcases f2 s with ⟨w, _⟩ | ⟨l2, w, _, _, w4⟩
    · rw [z] at w
      cases w
    · rw [z] at w
      cases w
      rw [y, hq] at w4
      cases w4
  refine ⟨by rw [upd_ne (Ne.symm nqd), upd_same], fun s => ?_, fun s u l h1 h2 => ?_⟩
  · rw [succs_snoc, valV_put]
    by_cases e : p.1 = s
    · subst e
      rw [if_pos rfl, if_pos rfl, e0]
      exact .inr ⟨q, rfl, nqd, hq0, upd_same⟩
    · rw [if_neg e, if_neg (fun z => e (by injection z with z; exact z.symm))]
      rcases f2 s with z | ⟨l2, z1, z2, z3, z4⟩
      · exact .inl z
      · exact .inr ⟨l2, z1, z2, z3, by rw [upd_ne (old z1), upd_ne z2]; exact z4⟩
  · rw [valV_put] at h1 h2
    by_cases e1 : (Sum.inl s : Key) = .inl p.1
    · by_cases e2 : (Sum.inl u : Key) = .inl p.1
      · injection e1 with e1
        injection e2 with e2
        rw [e1, e2]
      · rw [if_pos e1] at h1
        rw [if_neg e2] at h2
        cases h1
        exact absurd rfl (old h2)
    · rw [if_neg e1] at h1
      by_cases e2 : (Sum.inl u : Key) = .inl p.1
      · rw [if_pos e2] at h2
        cases h2
        exact absurd rfl (old h1)
      · rw [if_neg e2] at h2
        exact f3 s u l h1 h2
end Rz

namespace Rz
open PySem PySem.Spec PyProof.Rows L2
/-- the states that moves name -/
def named : List Mv → List Int
  | [] => []
  | m :: ms => m.1 :: m.2.2 :: named ms
theorem named_append (a b : List Mv) : named (a ++ b) = named a ++ named b := by
  induction a with
  | nil => rfl
  | cons m a ih => show m.1 :: m.2.2 :: named (a ++ b) = _; rw [ih]; rfl
theorem named_len : ∀ a : List Mv, (named a).length = 2 * a.length
  | [] => rfl
  | m :: a => by
    show (named a).length + 1 + 1 = 2 * (a.length + 1)
    rw [named_len a]
    omega
theorem mem_named {x : Int} : ∀ {a : List Mv}, x ∈ named a ↔ ∃ m ∈ a, x = m.1 ∨ x = m.2.2
  | [] => by simp [named]
  | m :: a => by
    show x ∈ m.1 :: m.2.2 :: named a ↔ _
    rw [List.mem_cons, List.mem_cons, mem_named]
    constructor
    · rintro (h | h | ⟨k, hk, h⟩)
      · exact ⟨m, List.mem_cons_self, .inl h⟩
      · exact ⟨m, List.mem_cons_self, .inr h⟩
      · exact ⟨k, List.mem_cons_of_mem _ hk, h⟩
    · rintro ⟨k, hk, h⟩
      rcases List.mem_cons.mp hk with e | e
      · subst e
        exact h.imp id .inl
      · exact .inr (.inr ⟨k, e, h⟩)
def sp_check_states (cB : Addr) : Sp := fun vs H Q E => ∃ (n : Int) (l m : Addr) (ls : List Int) (ms : List Mv), vs = [.int n, .ref l, .ref m] ∧ H l = some (.lst (ls.map V.int)) ∧ MAt H m ms ∧ ls.length ≤ 100000 ∧ ms.length ≤ 100000 ∧ (∀ x ∈ ls ++ named ms, x.natAbs < 2 ^ 64) ∧
  (okStates n ls ms → ∀ H', Same H H' → Q .non H') ∧ (¬ okStates n ls ms → ∀ H', Same H H' → E (.ref cB) none H')
section
variable {w : World} {K : PySem.W.Frag} {mg : Str → Option Value} {base : Heap}
theorem sc_check_states : FnScope N__check_states P__check_states (defScope s__check_states) := ⟨rfl, rfl, rfl, by decide +kernel, rfl, by decide +kernel, by decide +kernel⟩
theorem ok_check_states (T : Txt K mg) : FnOk prg w K mg base (L2.CX prg w) 2 T.f__check_states T.fd__check_states P__check_states (sp_check_states T.c_BadLot) := by
  refine T.F__check_states.okX sc_check_states (fun vs H Q E h => ?_) (fun cdv A outer s H vs Q E hr h => ?_)
  · obtain ⟨n, l, m, ls, ms, rfl, _⟩ := h
    rfl
  obtain ⟨n, l, m, ls, ms, rfl, hl, hm, zl, zm, hb, kg, kb⟩ := h
  have nd := sc_check_states.nd
  obtain ⟨tM, k_MOST_STATES⟩ := T.k_MOST_STATES
  have tk : Takes (cxOf (L2.CX prg w) prg w K mg base N__check_states "_check_states" (defScope s__check_states) T.f__check_states cdv A outer s H E) (fun cls d _ H' => E cls d H') := takes_of rfl rfl rfl rfl
  refine ⟨_, (pss_cons (ps_if (pt_not (pt_chain op_le op_le pe_int (pv 0) (pe_glob (v := .int 40) (by rfl) k_MOST_STATES ⟨_, rfl⟩))) (pss_one (ps_raise rfl tk (pmk_own PySem.F.excBase_ValueError T.o_BadLot T.m_BadLot T.kp_BadLot (raises_own T.r_BadLot T.t_BadLot) rfl))) pss_nil)
    (pss_cons (ps_set (i := 3) nd rfl (Or.inl rfl) (pe_callTy call_listS (by rfl) T.n_list (by decide +kernel) (pa_cons (pv 1) pa_nil)))
    (pss_cons (ps_for (passes_of rfl) rfl (pi_list (pv 2)) (pg_tup rfl (pgs_cons (pg_name (i := 4) nd rfl (Or.inl rfl)) (pgs_cons (pg_name (i := 5) nd rfl (Or.inl rfl)) (pgs_cons (pg_name (i := 6) nd rfl (Or.inl rfl)) pgs_nil))))
      (pss_one (ps_expr (pe_bm PySem.F.plainAttrs_list PySem.F.slot_list_extend PySem.F.type_list_extend mt_extend (pv 3) (pa_cons (pe_lst (pa_cons (pv 4) (pa_cons (pv 6) pa_nil))) pa_nil)))))
    (pss_one (ps_for (passes_of rfl) rfl (pi_list (pv 3)) (pg_name (i := 4) nd rfl (Or.inl rfl))
      (pss_one (ps_if (pt_not (pt_chain op_le op_lt pe_int (pv 4) (pv 0))) (pss_one (ps_raise rfl tk (SkE.pmk_own1 PySem.F.excBase_ValueError T.o_BadLot T.m_BadLot T.kp_BadLot (raises_own T.r_BadLot T.t_BadLot) rfl (pe_joined (.cons pe_str (.cons (pe_fmt (pv 4)) .nil)))))) pss_nil))))))), ?_⟩
  have okb : ∀ {H2 : Hp}, Same H H2 → ¬ okStates n ls ms → E (.ref T.c_BadLot) none H2 := fun S h => kb h _ S
  refine ⟨_, rfl, _, _, rfl, rfl, decide (1 ≤ n), rfl, ?_⟩
  by_cases h1 : 1 ≤ n
  · rw [decide_eq_true h1]
    refine iteT ⟨_, _, rfl, rfl, decide (n ≤ 40), rfl, ?_⟩
    by_cases h40 : n ≤ 40
    · rw [decide_eq_true h40]
      refine iteF ?_
      unfold rListS
      refine ⟨_, rfl, l, _, rfl, SqL.of hl, fun p hp => ?_⟩
      have S1 := Rz.Same.new (o := .lst (ls.map V.int)) (Same.refl H) hp
      have e1 : upd H p (.lst (ls.map V.int)) p = some (.lst (ls.map V.int)) := upd_same
      generalize upd H p (.lst (ls.map V.int)) = H1 at S1 e1
      obtain ⟨ts, em, hM⟩ := hm
      have hpl : H p = none := hp
      refine ⟨_, rfl, m, rfl, ⟨_, SqL.of (S1 _ _ em)⟩, for_list (K := K) (a := m) (xs := ts.map V.ref) (fun i σ H' => ∃ v4 v5 v6 : Option V, σ = [some (.int n), some (.ref l), some (.ref m), some (.ref p), v4, v5, v6] ∧ Same H H' ∧ H' p = some (.lst ((ls ++ named (ms.take i)).map V.int)))
        ⟨none, none, none, rfl, S1, by show H1 p = some (.lst ((ls ++ []).map V.int)); rw [List.append_nil]; exact e1⟩ (fun i σ H' _ ⟨_, _, _, _, S, _⟩ => SqL.of (S _ _ em)) ?_ ?_⟩
      · rintro i y σ H' hi ⟨v4, v5, v6, rfl, S, e⟩
        obtain ⟨t, ht, rfl⟩ := refs_get hi
        obtain ⟨k, hk, et⟩ := hM.get ht
        have ik : i < ms.length := (List.getElem?_eq_some_iff.mp hk).1
        have nl := named_len (ms.take i)
        rw [List.length_take] at nl
        refine ⟨t, _, rfl, SqT.of (S _ _ et), rfl, _, _, rfl, _, _, rfl, _, _, rfl, rfl, ?_⟩
        refine ⟨_, rfl, .inl ⟨rfl, _, SqL.of e⟩, _, rfl, _, rfl, by show 2 ≤ sizeLine; decide, fun q hq => ?_⟩
        have S2 := Rz.Same.new (o := .lst [.int k.1, .int k.2.2]) (Same.refl H') hq
        refine ⟨p, q, _, _, rfl, rfl, S2 _ _ e, upd_same, ?_, ?_⟩
        · rw [List.length_map, List.length_append, sizeLine_eq]
          show _ + 2 ≤ _
          omega
        · refine ⟨_, _, _, rfl, Rz.Same.upd (S.trans S2) hpl, ?_⟩
          rw [upd_same, List.take_add_one, hk]
          show _ = some (HO.lst ((ls ++ named (ms.take i ++ [k])).map V.int))
          rw [named_append, ← List.append_assoc]
          simp only [List.map_append]
          rfl
      · rintro σ H' ⟨v4, v5, v6, rfl, S, e⟩
        rw [List.length_map, hM.len, List.take_length] at e
        have nl := named_len ms
        refine ⟨_, rfl, p, rfl, ⟨_, SqL.of e⟩, for_list (K := K) (a := p) (xs := (ls ++ named ms).map V.int) (fun i σ H2 => ∃ v4 v5 v6 : Option V, σ = [some (.int n), some (.ref l), some (.ref m), some (.ref p), v4, v5, v6] ∧ H2 = H' ∧ ∀ j x, j < i → (ls ++ named ms)[j]? = some x → 0 ≤ x ∧ x < n)
          ⟨v4, v5, v6, rfl, rfl, fun j x hj => absurd hj (Nat.not_lt_zero j)⟩ (fun i σ H2 _ ⟨_, _, _, _, z, _⟩ => by rw [z]; exact SqL.of e) ?_ ?_⟩
        · rintro i y σ H2 hi ⟨v4, v5, v6, rfl, rfl, ok⟩
          obtain ⟨x, hx, rfl⟩ := mapi_get hi
          have inx : x ∈ ls ++ named ms := List.mem_of_getElem? hx
          have bad : ¬ (0 ≤ x ∧ x < n) → ¬ okStates n ls ms := fun h z => h (by
            rcases List.mem_append.mp inx with q | q
            · exact z.2.1 x q
            · obtain ⟨k, hk, e1 | e1⟩ := mem_named.mp q
              · rw [e1]
                exact (z.2.2 k hk).1
              · rw [e1]
                exact (z.2.2 k hk).2)
          have lg : x.natAbs.log2 < 1920 := log_small (hb x inx) (by decide)
          have l1 := str_int_len lg
          have raise : ¬ (0 ≤ x ∧ x < n) → tJs [tC (V.str "the lot has no state "), tFmt (tVar 4)] Str.empty [some (.int n), some (.ref l), some (.ref m), some (.ref p), some (.int x), v5, v6] H2 fun out H1 => E (.ref T.c_BadLot) none H1 := fun h => by
            refine ⟨"the lot has no state ", rfl, by decide +kernel, _, rfl, .inr ⟨x, rfl, lg, _, rfl, ?_, okb S (bad h)⟩⟩
            rw [Str.length_append, Str.length_append, sizeLine_eq]
            show 0 + 21 + _ ≤ _
            omega
          refine ⟨_, rfl, _, _, rfl, rfl, decide (0 ≤ x), rfl, ?_⟩
          by_cases g0 : 0 ≤ x
          · rw [decide_eq_true g0]
            refine iteT ⟨_, rfl, _, _, rfl, rfl, decide (x < n), rfl, ?_⟩
            by_cases g1 : x < n
            · rw [decide_eq_true g1]
              refine iteF ⟨_, _, _, rfl, rfl, fun j z hj hz => ?_⟩
              by_cases ej : j < i
              · exact ok j z ej hz
              · have : j = i := by omega
                subst this
                rw [hx] at hz
                cases hz
                exact ⟨g0, g1⟩
            · rw [decide_eq_false g1]
              exact iteT (raise fun z => g1 z.2)
          · rw [decide_eq_false g0]
            exact iteF ⟨false, rfl, iteT (raise fun z => g0 z.1)⟩
        · rintro σ H2 ⟨v4, v5, v6, rfl, rfl, ok⟩
          have all : ∀ x ∈ ls ++ named ms, 0 ≤ x ∧ x < n := fun x hx => by
            obtain ⟨j, hj, e1⟩ := List.getElem_of_mem hx
            exact ok j x (by simpa using hj) (by rw [List.getElem?_eq_getElem hj, e1])
          exact kg ⟨⟨h1, h40⟩, fun x hx => all x (List.mem_append_left _ hx), fun k hk => ⟨all _ (List.mem_append_right _ (mem_named.mpr ⟨k, hk, .inl rfl⟩)), all _ (List.mem_append_right _ (mem_named.mpr ⟨k, hk, .inr rfl⟩))⟩⟩ _ S
    · rw [decide_eq_false h40]
      exact iteT (okb (Same.refl H) fun z => h40 z.1.2)
  · rw [decide_eq_false h1]
    exact iteF ⟨false, rfl, iteT (okb (Same.refl H) fun z => h1 z.1.1)⟩
end
end Rz

namespace Rz
open PySem PySem.Spec PyProof.Rows L2
/-! ### where a state goes with a sign -/
def leadK (m : Mv) : List Key := [.inl m.1, .inr m.2.1]
def Lead (ms : List Mv) (k : List Key) : Option Int := (ms.find? fun m => decide (leadK m = k)).map (·.2.2)
/-- each sign is one sign, and leads to one state -/
def okLeads (ms : List Mv) : Prop := (∀ m ∈ ms, isSg m.2.1 = true) ∧ ∀ a ∈ ms, ∀ b ∈ ms, leadK a = leadK b → a.2.2 = b.2.2
theorem lead_snoc (ms : List Mv) (m : Mv) (k : List Key) : Lead (ms ++ [m]) k = match Lead ms k with
    | some t => some t
    | none => if leadK m = k then some m.2.2 else none := by
  unfold Lead
  rw [List.find?_append]
  cases e : ms.find? fun m => decide (leadK m = k) with
  | some a => rfl
  | none =>
    rw [Option.none_or, List.find?_cons]
    by_cases h : leadK m = k
    · rw [decide_eq_true h, if_pos h]
      rfl
    · rw [decide_eq_false h, if_neg h]
      rfl
theorem lead_mem {ms : List Mv} {k : List Key} {t : Int} (h : Lead ms k = some t) : ∃ m ∈ ms, leadK m = k ∧ m.2.2 = t := by
  unfold Lead at h
  cases e : ms.find? fun m => decide (leadK m = k) with
  | none => rw [e] at h; cases h
  | some a =>
    rw [e] at h
    have := List.find?_some e
    exact ⟨a, List.mem_of_find?_eq_some e, by simpa using this, Option.some.inj h⟩
def sp_leads_of (cB : Addr) : Sp := fun vs H Q E => ∃ (m : Addr) (ms : List Mv), vs = [.ref m] ∧ MAt H m ms ∧ ms.length ≤ 100000 ∧ (∀ x ∈ ms, x.2.1.length ≤ 1000000) ∧
  (okLeads ms → ∀ H' d kvs, Same H H' → H d = none → H' d = some (.dT kvs) → (∀ k, valV kvs k = (Lead ms k).map V.int) → Q (.ref d) H') ∧ (¬ okLeads ms → ∀ H', Same H H' → E (.ref cB) none H')
section
variable {w : World} {K : PySem.W.Frag} {mg : Str → Option Value} {base : Heap}
theorem sc_leads_of : FnScope N__leads_of P__leads_of (defScope s__leads_of) := ⟨rfl, rfl, rfl, by decide +kernel, rfl, by decide +kernel, by decide +kernel⟩
theorem ok_leads_of (T : Txt K mg) : FnOk prg w K mg base (L2.CX prg w) 3 T.f__leads_of T.fd__leads_of P__leads_of (sp_leads_of T.c_BadLot) := by
  refine T.F__leads_of.okX sc_leads_of (fun vs H Q E h => ?_) (fun cdv A outer s H vs Q E hr h => ?_)
  · obtain ⟨m, ms, rfl, _⟩ := h
    rfl
  obtain ⟨m, ms, rfl, hm, zm, zs, kg, kb⟩ := h
  have nd := sc_leads_of.nd
  have tk : Takes (cxOf (L2.CX prg w) prg w K mg base N__leads_of "_leads_of" (defScope s__leads_of) T.f__leads_of cdv A outer s H E) (fun cls d _ H' => E cls d H') := takes_of rfl rfl rfl rfl
  have hu : (A.deeper (envOfC "_leads_of" (defScope s__leads_of) s.heap.objs.size T.f__leads_of cdv)).units + 1 < cLine := by
    have := hr.un
    omega
  refine ⟨_, (pss_cons (ps_set (i := 1) nd rfl (Or.inl rfl) pe_dnewT)
    (pss_cons (ps_for (passes_of rfl) rfl (pi_list (pv 0)) (pg_tup rfl (pgs_cons (pg_name (i := 2) nd rfl (Or.inl rfl)) (pgs_cons (pg_name (i := 3) nd rfl (Or.inl rfl)) (pgs_cons (pg_name (i := 4) nd rfl (Or.inl rfl)) pgs_nil))))
      (pss_cons (ps_if (pt_not (pt_val (pe_fn (ok_is_sign T) (hr.mono (by decide)) (by rfl) T.m_is_sign T.F_is_sign.kp T.b_is_sign .nil (fun _ => atN _) (pa_cons (pv 3) pa_nil)))) (pss_one (ps_raise rfl tk (pmk_own PySem.F.excBase_ValueError T.o_BadLot T.m_BadLot T.kp_BadLot (raises_own T.r_BadLot T.t_BadLot) rfl))) pss_nil)
      (pss_cons (ps_if (pt_cmpR op_ne (pe_dget2 hu (pv 1) (pe_tup (pa_cons (pv 2) (pa_cons (pv 3) pa_nil))) (pv 4) ⟨rfl, rfl, rfl, rfl⟩) (pv 4) (nomark _)) (pss_one (ps_raise rfl tk (pmk_own PySem.F.excBase_ValueError T.o_BadLot T.m_BadLot T.kp_BadLot (raises_own T.r_BadLot T.t_BadLot) rfl))) pss_nil)
      (pss_one (ps_dput hu (pv 1) (pe_tup (pa_cons (pv 2) (pa_cons (pv 3) pa_nil))) (pv 4) rfl)))))
    (pss_one (ps_ret (pv 1))))), ?_⟩
  refine fun d hd => ?_
  have S0 := Rz.Same.new (o := .dT []) (Same.refl H) hd
  have e0 : upd H d (.dT []) d = some (.dT []) := upd_same
  generalize upd H d (.dT []) = H0 at S0 e0
  obtain ⟨ts, em, hM⟩ := hm
  refine ⟨_, rfl, m, rfl, ⟨_, SqL.of (S0 _ _ em)⟩, for_list (K := K) (a := m) (xs := ts.map V.ref) (fun i σ H' => ∃ (v2 v3 v4 : Option V) (kvs : List (List Key × V)), σ = [some (.ref m), some (.ref d), v2, v3, v4] ∧ Same H H' ∧ H' d = some (.dT kvs) ∧ kvs.length ≤ i ∧ (∀ k, valV kvs k = (Lead (ms.take i) k).map V.int) ∧ okLeads (ms.take i))
    ⟨none, none, none, [], rfl, S0, e0, Nat.le_refl _, fun k => rfl, (fun x hx => by simp at hx), fun a ha => by simp at ha⟩ (fun i σ H' _ ⟨_, _, _, _, _, S, _⟩ => SqL.of (S _ _ em)) ?_ ?_⟩
  · rintro i y σ H' hi ⟨v2, v3, v4, kvs, rfl, S, ed, zk, hv, okt⟩
    obtain ⟨t, ht, rfl⟩ := refs_get hi
    obtain ⟨k, hk, et⟩ := hM.get ht
    have ik : i < ms.length := (List.getElem?_eq_some_iff.mp hk).1
    have ink : k ∈ ms := List.mem_of_getElem? hk
    have tk1 : ms.take (i + 1) = ms.take i ++ [k] := by rw [List.take_add_one, hk]; rfl
    refine ⟨t, _, rfl, SqT.of (S _ _ et), rfl, _, _, rfl, _, _, rfl, _, _, rfl, rfl, ?_⟩
    refine ⟨_, rfl, k.2.1, rfl, zs k ink, isSg k.2.1, rfl, ?_⟩
    have two : (2 : Nat) ≤ sizeLine := by decide
    cases hsg : isSg k.2.1 with
    | false => exact iteT (kb (fun z => by have := z.1 k ink; rw [hsg] at this; cases this) H' S)
    | true =>
      refine iteF ⟨_, rfl, d, rfl, .inr ⟨kvs, .inl ed⟩, _, rfl, _, rfl, two, fun b hb => ?_⟩
      have S1 := Rz.Same.new (o := .tup [.int k.1, .str k.2.1]) (Same.refl H') hb
      have eb : upd H' b (.tup [.int k.1, .str k.2.1]) b = some (.tup ((leadK k).map kV)) := upd_same
      have ed1 := S1 _ _ ed
      have S2 := S.trans S1
      generalize upd H' b (.tup [.int k.1, .str k.2.1]) = H1 at S1 eb ed1 S2
      refine ⟨_, rfl, _, DGet.t ed1 eb, ?_⟩
      rw [hv]
      have goput : (Lead (ms.take i) (leadK k) = none ∨ Lead (ms.take i) (leadK k) = some k.2.2) → sDPut (tVar 1) (tTup (tCons (tVar 2) (tCons (tVar 3) tNil))) (tVar 4) { nx := fun σ H' => ∃ (v2 v3 v4 : Option V) (kvs : List (List Key × V)), σ = [some (.ref m), some (.ref d), v2, v3, v4] ∧ Same H H' ∧ H' d = some (.dT kvs) ∧ kvs.length ≤ i + 1 ∧ (∀ k, valV kvs k = (Lead (ms.take (i + 1)) k).map V.int) ∧ okLeads (ms.take (i + 1)), rt := Q }
          [some (.ref m), some (.ref d), some (.int k.1), some (.str k.2.1), some (.int k.2.2)] H1 := fun hl => by
        refine ⟨_, rfl, _, rfl, _, rfl, _, rfl, two, fun c hc => ?_⟩
        have S3 := Rz.Same.new (o := .tup [.int k.1, .str k.2.1]) (Same.refl H1) hc
        have ec : upd H1 c (.tup [.int k.1, .str k.2.1]) c = some (.tup ((leadK k).map kV)) := upd_same
        have ed2 := S3 _ _ ed1
        have S4 := S2.trans S3
        generalize upd H1 c (.tup [.int k.1, .str k.2.1]) = H2 at S3 ec ed2 S4
        refine ⟨d, _, rfl, DPut.t ed2 ec (by rw [sizeLine_eq]; omega), ?_⟩
        refine ⟨_, _, _, _, rfl, Rz.Same.upd S4 hd, upd_same, Nat.le_trans (length_putK _ _ _) (by omega), fun q => ?_, ?_⟩
        · rw [valV_put, hv, tk1, lead_snoc]
          by_cases hq : q = leadK k
          · rw [if_pos hq, hq]
            rcases hl with hl | hl
            · rw [hl]
              dsimp only
              rw [if_pos rfl]
              rfl
            · rw [hl]
              rfl
          · rw [if_neg hq]
            cases Lead (ms.take i) q with
            | none =>
              dsimp only
              rw [if_neg (fun z => hq z.symm)]
            | some t => rfl
        · rw [tk1]
          refine ⟨fun x hx => ?_, ?_⟩
          · rcases List.mem_append.mp hx with z | z
            · exact okt.1 x z
            · rw [List.mem_singleton.mp z]
              exact hsg
          · have one : ∀ x ∈ ms.take i, leadK x = leadK k → x.2.2 = k.2.2 := fun x hx e => by
              have hn : Lead (ms.take i) (leadK k) ≠ none := fun z => by
                unfold Lead at z
                rw [Option.map_eq_none_iff, List.find?_eq_none] at z
                exact z x hx (by rw [decide_eq_true e])
              rcases hl with hl | hl
              · exact absurd hl hn
              · obtain ⟨y, hy, e1, e2⟩ := lead_mem hl
                rw [okt.2 x hx y hy (e.trans e1.symm), e2]
            intro x hx y hy e
            rcases List.mem_append.mp hx with z | z <;> rcases List.mem_append.mp hy with w2 | w2
            · exact okt.2 x z y w2 e
            · rw [List.mem_singleton.mp w2] at e ⊢
              exact one x z e
            · rw [List.mem_singleton.mp z] at e ⊢
              exact (one y w2 e.symm).symm
            · rw [List.mem_singleton.mp z, List.mem_singleton.mp w2]
      cases hl : Lead (ms.take i) (leadK k) with
      | none =>
        refine ⟨_, rfl, rfl, _, rfl, ?_⟩
        show if (!decide (V.int k.2.2 = V.int k.2.2)) = true then _ else _
        rw [decide_eq_true rfl]
        exact iteF (goput (.inl hl))
      | some t =>
        refine ⟨_, rfl, rfl, _, rfl, ?_⟩
        show if (!decide (V.int t = V.int k.2.2)) = true then _ else _
        by_cases h : t = k.2.2
        · rw [decide_eq_true (by rw [h])]
          exact iteF (goput (.inr (by rw [hl, h])))
        · rw [decide_eq_false (fun z => h (by injection z))]
          refine iteT (kb (fun z => ?_) H1 S2)
          obtain ⟨y, hy, e1, e2⟩ := lead_mem hl
          exact h (by rw [← e2]; exact z.2 y (List.mem_of_mem_take hy) k ink e1)
  · rintro σ H' ⟨v2, v3, v4, kvs, rfl, S, ed, zk, hv, okt⟩
    rw [List.length_map, hM.len, List.take_length] at hv okt
    exact ⟨_, rfl, kg okt H' d kvs S hd ed hv⟩
end
end Rz

namespace Rz
open PySem PySem.Spec PyProof.Rows L2
/-- what the starts lead to -/
inductive Reach (ps : List Lk) (ss : List Int) : Int → Prop
  | start {x : Int} : x ∈ ss → Reach ps ss x
  | step {x y : Int} : Reach ps ss x → y ∈ succs ps x → Reach ps ss y
def hasK (kvs : List (Key × V)) (x : Int) : Bool := (valV kvs (.inl x)).isSome
/-- the targets that are not reached yet -/
def undone (ps : List Lk) (kvs : List (Key × V)) : Nat := (ps.filter fun p => !hasK kvs p.2).length
theorem filter_le2 {α : Type} {f g : α → Bool} (h : ∀ p, g p = true → f p = true) : ∀ ps : List α, (ps.filter g).length ≤ (ps.filter f).length
  | [] => Nat.le_refl _
  | p :: ps => by
    have r := filter_le2 h ps
    rw [List.filter_cons, List.filter_cons]
    by_cases e : g p = true
    · rw [if_pos e, if_pos (h p e)]
      exact Nat.succ_le_succ r
    · rw [if_neg e]
      by_cases e2 : f p = true
      · rw [if_pos e2]
        exact Nat.le_succ_of_le r
      · rw [if_neg e2]
        exact r
theorem filter_lt2 {α : Type} {f g : α → Bool} (h : ∀ p, g p = true → f p = true) {x : α} (hf : f x = true) (hg : ¬ g x = true) : ∀ ps : List α, x ∈ ps → (ps.filter g).length + 1 ≤ (ps.filter f).length
  | [], z => by cases z
  | p :: ps, z => by
    rw [List.filter_cons, List.filter_cons]
    by_cases ex : x = p
    · subst ex
      rw [if_pos hf, if_neg hg]
      exact Nat.succ_le_succ (filter_le2 h ps)
    · have r := filter_lt2 h hf hg ps ((List.mem_cons.mp z).resolve_left ex)
      by_cases e : g p = true
      · rw [if_pos e, if_pos (h p e)]
        exact Nat.succ_le_succ r
      · rw [if_neg e]
        by_cases e2 : f p = true
        · rw [if_pos e2]
          exact Nat.le_succ_of_le r
        · rw [if_neg e2]
          exact r
theorem hasK_put {R : List (Key × V)} {y z : Int} {v : V} : hasK (putK R (.inl y) v) z = true ↔ z = y ∨ hasK R z = true := by
  unfold hasK
  rw [valV_put]
  by_cases e : (Sum.inl z : Key) = .inl y
  · rw [if_pos e]
    injection e with e
    exact ⟨fun _ => .inl e, fun _ => rfl⟩
  · rw [if_neg e]
    exact ⟨.inr, fun q => q.resolve_left fun k => e (by rw [k])⟩
theorem undone_le (ps : List Lk) (R : List (Key × V)) : undone ps R ≤ ps.length := List.length_filter_le _ _
theorem succs_mem {ps : List Lk} {x y : Int} (h : y ∈ succs ps x) : ∃ p ∈ ps, p.2 = y := by
  unfold succs at h
  obtain ⟨p, hp, e⟩ := List.mem_map.mp h
  exact ⟨p, (List.mem_filter.mp hp).1, e⟩
theorem undone_put {ps : List Lk} {R : List (Key × V)} {x y : Int} {v : V} (h : y ∈ succs ps x) (n : ¬ hasK R y = true) : undone ps (putK R (.inl y) v) + 1 ≤ undone ps R := by
  obtain ⟨p, hp, e⟩ := succs_mem h
  unfold undone
  refine filter_lt2 (x := p) (fun q z => ?_) (by rw [e]; simpa using n) ?_ ps hp
  · have z2 : ¬ hasK (putK R (.inl y) v) q.2 = true := by simpa using z
    have z3 : ¬ hasK R q.2 = true := fun k => z2 (hasK_put.mpr (.inr k))
    simpa using z3
  · have : hasK (putK R (.inl y) v) p.2 = true := hasK_put.mpr (.inl e)
    rw [this]
    simp
theorem reach_all {ps : List Lk} {ss : List Int} {P : Int → Prop} (h0 : ∀ x ∈ ss, P x) (h1 : ∀ x, P x → ∀ y ∈ succs ps x, P y) : ∀ {x}, Reach ps ss x → P x
  | _, .start h => h0 _ h
  | _, .step r h => h1 _ (reach_all h0 h1 r) _ h
def LedW (st lk d D wl : Addr) (H3 : Hp) (ps : List Lk) (ss : List Int) (m : Nat) (σ : L2.St) (H' : Hp) : Prop := ∃ (v3 v4 : Option V) (R : List (Key × V)) (w : List Int), σ = [some (.ref st), some (.ref lk), some (.ref d), v3, v4, some (.ref D), some (.ref wl)] ∧ (∀ b o, b ≠ D → b ≠ wl → H3 b = some o → H' b = some o) ∧ H' D = some (.dK R) ∧ H' wl = some (.lst (w.map V.int)) ∧ R.length + undone ps R ≤ 20000 ∧ w.length + undone ps R ≤ 20000 ∧ (∀ x, hasK R x = true → Reach ps ss x) ∧ (∀ x ∈ ss, hasK R x = true) ∧ (∀ x ∈ w, hasK R x = true) ∧ (∀ x, hasK R x = true → x ∈ w ∨ ∀ y ∈ succs ps x, hasK R y = true) ∧ m = 2 * undone ps R + w.length
def sp_led_to : Sp := fun vs H Q _ => ∃ (st lk : Addr) (ss : List Int) (ps : List Lk), vs = [.ref st, .ref lk] ∧ H st = some (.lst (ss.map V.int)) ∧ LkAt H lk ps ∧ ss.length ≤ 10000 ∧ ps.length ≤ 10000 ∧
  ∀ H' d kvs, Same H H' → H d = none → H' d = some (.dK kvs) → (∀ x, hasK kvs x = true ↔ Reach ps ss x) → Q (.ref d) H'
section
variable {w : World} {K : PySem.W.Frag} {mg : Str → Option Value} {base : Heap}
theorem sc_led_to : FnScope N_led_to P_led_to (defScope s_led_to) := ⟨rfl, rfl, rfl, by decide +kernel, rfl, by decide +kernel, by decide +kernel⟩
theorem ok_led_to (T : Txt K mg) : FnOk prg w K mg base (L2.CX prg w) 2 T.f_led_to T.fd_led_to P_led_to sp_led_to := by
  refine Rz.Fun.okN T.F_led_to sc_led_to (fun vs H Q E h => ?_) (fun cdv A outer s H vs Q E hr h => ?_)
  · obtain ⟨st, lk, ss, ps, rfl, _⟩ := h
    rfl
  obtain ⟨st, lk, ss, ps, rfl, hst, ⟨ts, hlk, hL⟩, zs, zp, k⟩ := h
  have nd := sc_led_to.nd
  have hu : (A.deeper (envOfC "led_to" (defScope s_led_to) s.heap.objs.size T.f_led_to cdv)).units + 1 < cLine := by
    have := hr.un
    omega
  refine ⟨_, (pss_cons (ps_set (i := 2) nd rfl (Or.inl rfl) pe_dnewK)
    (pss_cons (ps_for PassesOwn.never rfl (pi_list (pv 1)) (pg_tup rfl (pgs_cons (pg_name (i := 3) nd rfl (Or.inl rfl)) (pgs_cons (pg_name (i := 4) nd rfl (Or.inl rfl)) pgs_nil)))
      (pss_one (ps_expr (pe_bm PySem.F.plainAttrs_list PySem.F.slot_list_append PySem.F.type_list_append mt_append (pe_dsetd (pv 2) (pv 3) (pe_lst pa_nil) ⟨rfl, rfl, rfl, rfl⟩) (pa_cons (pv 4) pa_nil)))))
    (pss_cons (ps_setDc (i := 5) (own := [("state", 3)]) (g := gName 3) (tt := tYes) rfl nd rfl rfl (dsw_true rfl rfl rfl (by decide +kernel)) (pi_list (pv 0)) (blkOk_by (N := N_led_to) (sc := defScope s_led_to) (by decide +kernel)) (fun _ _ _ _ _ => pg_name (i := 3) nd rfl (Or.inl rfl)) (fun _ _ _ _ _ => pts_nil) (fun _ _ _ _ _ => pv 3) (fun _ _ _ _ _ => pe_bl))
    (pss_cons (ps_set (i := 6) nd rfl (Or.inl rfl) (pe_callTy call_listS (by rfl) T.n_list (by decide +kernel) (pa_cons (pv 0) pa_nil)))
    (pss_cons (ps_while PassesOwn.never (pt_truth (pv 6) (by intro _; rfl)) (pss_cons (ps_set (i := 3) nd rfl (Or.inl rfl) (pe_bm0 PySem.F.plainAttrs_list PySem.F.slot_list_pop PySem.F.type_list_pop mt_pop (pv 6)))
      (pss_one (ps_for PassesOwn.never rfl (pi_list (pe_dget2 hu (pv 2) (pv 3) (pe_lst pa_nil) ⟨rfl, rfl, rfl, rfl⟩)) (pg_name (i := 4) nd rfl (Or.inl rfl))
        (pss_one (ps_if (pt_cmp (pc_dnotin hu (pv 4) (pv 5)) rfl) (pss_cons (ps_dput hu (pv 5) (pv 4) pe_bl rfl)
          (pss_one (ps_expr (pe_bm PySem.F.plainAttrs_list PySem.F.slot_list_append PySem.F.type_list_append mt_append (pv 6) (pa_cons (pv 4) pa_nil))))) pss_nil))))))
    (pss_one (ps_ret (pv 5)))))))), ?_⟩
  refine fun d hd => ?_
  have S0 := Rz.Same.new (o := .dK []) (Same.refl H) hd
  have F0 : FoAt H (upd H d (.dK [])) d [] [] := ⟨upd_same, fun s => .inl ⟨rfl, rfl⟩, fun s u l z => by cases z⟩
  generalize upd H d (.dK []) = H0 at S0 F0
  refine ⟨_, rfl, lk, rfl, ⟨_, SqL.of (S0 _ _ hlk)⟩, for_list (K := K) (a := lk) (xs := ts.map V.ref) (fun i σ H' => ∃ (v3 v4 : Option V) (kvs : List (Key × V)), σ = [some (.ref st), some (.ref lk), some (.ref d), v3, v4, none, none] ∧ Same H H' ∧ FoAt H H' d (ps.take i) kvs ∧ kvs.length ≤ i)
    ⟨none, none, [], rfl, S0, F0, Nat.le_refl _⟩ (fun i σ H' _ ⟨_, _, _, _, S, _⟩ => SqL.of (S _ _ hlk)) ?_ ?_⟩
  · rintro i y σ H' hi ⟨v3, v4, kvs, rfl, S, F, zk⟩
    obtain ⟨t, ht, rfl⟩ := refs_get hi
    obtain ⟨p, hp, et⟩ := hL.get ht
    have ip : i < ps.length := (List.getElem?_eq_some_iff.mp hp).1
    have tk1 : ps.take (i + 1) = ps.take i ++ [p] := by rw [List.take_add_one, hp]; rfl
    refine ⟨t, _, rfl, SqT.of (S _ _ et), rfl, _, _, rfl, _, _, rfl, rfl, ?_⟩
    refine ⟨_, rfl, d, rfl, .inl ⟨kvs, .inl F.1⟩, _, rfl, by show 0 ≤ sizeLine; decide, fun q hq => ?_⟩
    have S1 := Rz.Same.new (o := .lst []) (Same.refl H') hq
    have F1 : FoAt H (upd H' q (.lst [])) d (ps.take i) kvs := ⟨S1 _ _ F.1, fun s => (F.2.1 s).imp id fun ⟨l, z1, z2, z3, z4⟩ => ⟨l, z1, z2, z3, S1 _ _ z4⟩, F.2.2⟩
    have eq1 : upd H' q (.lst []) q = some (.lst []) := upd_same
    refine ⟨kvs, .inl p.1, F1.1, rfl, by rw [sizeLine_eq]; omega, fun v hv => ?_, fun hv => ?_⟩
    · rcases F1.2.1 p.1 with ⟨z, _⟩ | ⟨l, z1, nld, hl0, z4⟩
      · rw [hv] at z
        cases z
      · rw [hv] at z1
        cases z1
        have zl := succs_len (ps.take i) p.1
        rw [List.length_take] at zl
        refine ⟨.inl ⟨rfl, _, SqL.of z4⟩, _, rfl, l, _, _, rfl, rfl, z4, by rw [List.length_map, sizeLine_eq]; omega, ?_⟩
        refine ⟨_, _, kvs, rfl, Rz.Same.upd (S.trans S1) hl0, ?_, Nat.le_succ_of_le zk⟩
        rw [tk1]
        exact fo_old F1 hv
    · have nqd : q ≠ d := fun z => by rw [z, F.1] at hq; cases hq
      have e2 : upd (upd H' q (.lst [])) d (.dK (putK kvs (.inl p.1) (.ref q))) q = some (.lst []) := by rw [upd_ne nqd]; exact upd_same
      refine ⟨.inl ⟨rfl, _, SqL.of e2⟩, _, rfl, q, _, _, rfl, rfl, e2, by show 0 < sizeLine; decide, ?_⟩
      have sw : upd (upd (upd H' q (.lst [])) d (.dK (putK kvs (.inl p.1) (.ref q)))) q (.lst ([] ++ [.int p.2])) = upd (upd H' d (.dK (putK kvs (.inl p.1) (.ref q)))) q (.lst [.int p.2]) := by
        funext b
        by_cases e : b = q
        · rw [e, upd_same, upd_same]
          rfl
        · rw [upd_ne e, upd_ne e]
          by_cases e3 : b = d
          · rw [e3, upd_same, upd_same]
          · rw [upd_ne e3, upd_ne e3, upd_ne e]
      have hq0 : H q = none := S.free hq
      refine ⟨_, _, _, rfl, Rz.Same.upd (Rz.Same.upd (S.trans S1) hd) hq0, ?_, Nat.le_trans (length_putK kvs (.inl p.1) (.ref q)) (Nat.succ_le_succ zk)⟩
      rw [tk1, sw]
      exact fo_new F hv hq hq0
  · rintro σ H1 ⟨v3, v4, kvs, rfl, S, F, zk⟩
    rw [List.length_map, hL.len, List.take_length] at F
    refine ⟨_, rfl, st, rfl, ⟨_, SqL.of (S _ _ hst)⟩, fun D hD => dc_list (K := K) (a := st) (xs := ss.map V.int) (fun i H' => Same H1 H' ∧ ∃ R : List (Key × V), H' D = some (.dK R) ∧ R.length ≤ i ∧ ∀ x, hasK R x = true ↔ x ∈ ss.take i)
      ⟨Rz.Same.new (Same.refl H1) hD, [], upd_same, Nat.le_refl _, fun x => ⟨fun z => (by cases z), fun z => (by simp at z)⟩⟩ (fun i H' _ h => SqL.of (h.1 _ _ (S _ _ hst))) ?_ ?_⟩
    · rintro i y H' hi ⟨S1, R, eR, zR, hR⟩
      obtain ⟨x, hx, rfl⟩ := mapi_get hi
      have ix : i < ss.length := (List.getElem?_eq_some_iff.mp hx).1
      refine ⟨rfl, yesT ⟨_, rfl, R, .inl x, rfl, eR, by rw [sizeLine_eq]; omega, Rz.Same.upd S1 hD, _, upd_same, Nat.le_trans (length_putK R (.inl x) (.bl true)) (Nat.succ_le_succ zR), fun z => ?_⟩⟩
      unfold hasK
      rw [valV_put, List.take_add_one, hx]
      by_cases e : (Sum.inl z : Key) = .inl x
      · rw [if_pos e]
        injection e with e
        rw [e]
        exact ⟨fun _ => by simp, fun _ => rfl⟩
      · rw [if_neg e]
        have nz : z ≠ x := fun q => e (by rw [q])
        refine (hR z).trans ⟨fun q => List.mem_append_left _ q, fun q => ?_⟩
        rcases List.mem_append.mp q with q | q
        · exact q
        · exact absurd (by simpa using q) nz
    rintro H2 ⟨S2, R0, eR0, zR0, hR0⟩
    rw [List.length_map] at zR0 hR0
    rw [List.take_length] at hR0
    unfold rListS
    refine ⟨_, rfl, st, _, rfl, SqL.of (S2 _ _ (S _ _ hst)), fun wl hwl => ?_⟩
    have S3 := Rz.Same.new (o := .lst (ss.map V.int)) (Same.refl H2) hwl
    have ew : upd H2 wl (.lst (ss.map V.int)) wl = some (.lst (ss.map V.int)) := upd_same
    have eD := S3 _ _ eR0
    have nDw : D ≠ wl := fun z => by rw [z, hwl] at eR0; cases eR0
    have F3 : ∀ s : Int, (valV kvs (.inl s) = none ∧ succs ps s = []) ∨ ∃ l, valV kvs (.inl s) = some (.ref l) ∧ l ≠ D ∧ l ≠ wl ∧ upd H2 wl (.lst (ss.map V.int)) l = some (.lst ((succs ps s).map V.int)) := fun s => (F.2.1 s).imp id fun ⟨l, z1, z2, z3, z4⟩ =>
      ⟨l, z1, (fun z => by rw [z, hD] at z4; cases z4), (fun z => by rw [z] at z4; rw [S2 _ _ z4] at hwl; cases hwl), S3 _ _ (S2 _ _ z4)⟩
    have ed3 := S3 _ _ (S2 _ _ F.1)
    have ndD : d ≠ D := fun z => by rw [← z, F.1] at hD; cases hD
    have ndw : d ≠ wl := fun z => by rw [← z] at hwl; rw [S2 _ _ F.1] at hwl; cases hwl
    have SH : Same H (upd H2 wl (.lst (ss.map V.int))) := (S.trans S2).trans S3
    generalize upd H2 wl (.lst (ss.map V.int)) = H3 at S3 ew eD F3 ed3 SH
    have hD0 : H D = none := S.free hD
    have hw0 : H wl = none := (S.trans S2).free hwl
    have zw := undone_le ps R0
    refine ⟨LedW st lk d D wl H3 ps ss, ⟨_, v3, v4, R0, ss, rfl, fun b o _ _ h => h, eD, ew, by omega, by omega, fun x h => .start ((hR0 x).mp h), fun x h => (hR0 x).mpr h, fun x h => (hR0 x).mpr h, fun x h => .inl ((hR0 x).mp h), rfl⟩, ?_⟩
    rintro m σ H' ⟨v3, v4, R, w, rfl, I, eR, ewl, zR, zw, c1, c2, c3, c4, rfl⟩
    have SH' : Same H H' := fun b o h => I b o (fun z => by rw [z, hD0] at h; cases h) (fun z => by rw [z, hw0] at h; cases h) (SH b o h)
    by_cases hw : w = []
    · subst hw
      refine ⟨_, rfl, false, .inl ⟨_, SqL.of ewl, rfl⟩, ?_⟩
      exact ⟨_, rfl, k H' D R SH' hD0 eR fun x => ⟨c1 x, reach_all (P := fun x => hasK R x = true) c2 (fun x h y hy => (c4 x h).elim (fun z => by cases z) fun z => z y hy)⟩⟩
    obtain ⟨w0, x, rfl⟩ : ∃ w0 x, w = w0 ++ [x] := ⟨w.dropLast, w.getLast hw, (List.dropLast_concat_getLast hw).symm⟩
    refine ⟨_, rfl, true, .inl ⟨_, SqL.of ewl, by simp⟩, ?_⟩
    show (if true = true then _ else _)
    rw [if_pos rfl]
    refine ⟨fun σ' H1 => ∃ m', m' < 2 * undone ps R + (w0 ++ [x]).length ∧ LedW st lk d D wl H3 ps ss m' σ' H1, fun _ _ h => h, ?_⟩
    have eg : ((w0 ++ [x]).map V.int)[((w0 ++ [x]).map V.int).length - 1]? = some (.int x) := by simp
    have edl : ((w0 ++ [x]).map V.int).dropLast = w0.map V.int := by simp
    refine ⟨_, rfl, .inl ⟨rfl, _, SqL.of ewl⟩, wl, _, _, rfl, rfl, ewl, eg, ?_⟩
    rw [edl]
    have e1D : upd H' wl (.lst (w0.map V.int)) D = some (.dK R) := by rw [upd_ne nDw]; exact eR
    have I1 : ∀ b o, b ≠ D → b ≠ wl → H3 b = some o → upd H' wl (.lst (w0.map V.int)) b = some o := fun b o h1 h2 h => by rw [upd_ne h2]; exact I b o h1 h2 h
    have e1w : upd H' wl (.lst (w0.map V.int)) wl = some (.lst (w0.map V.int)) := upd_same
    generalize upd H' wl (.lst (w0.map V.int)) = H4 at I1 e1D e1w ⊢
    have e1d := I1 d _ ndD ndw ed3
    refine ⟨_, rfl, d, rfl, .inl ⟨kvs, .inl e1d⟩, _, rfl, by show 0 ≤ sizeLine; decide, fun q hq => ?_⟩
    have S5 := Rz.Same.new (o := .lst []) (Same.refl H4) hq
    have n1 : q ≠ D := fun z => by rw [z, e1D] at hq; cases hq
    have n2 : q ≠ wl := fun z => by rw [z, e1w] at hq; cases hq
    obtain ⟨a, ea, nD, nw, el⟩ : ∃ a, (valV kvs (.inl x)).getD (.ref q) = .ref a ∧ a ≠ D ∧ a ≠ wl ∧ upd H4 q (.lst []) a = some (.lst ((succs ps x).map V.int)) := by
      rcases F3 x with ⟨z1, z2⟩ | ⟨l, z1, z2, z3, z4⟩
      · exact ⟨q, by rw [z1]; rfl, n1, n2, by rw [z2]; exact upd_same⟩
      · exact ⟨l, by rw [z1]; rfl, z2, z3, S5 _ _ (I1 l _ z2 z3 z4)⟩
    refine ⟨valV kvs (.inl x), .inl ⟨kvs, .inl x, .inl (S5 _ _ e1d), rfl, rfl⟩, a, ea, ⟨_, SqL.of el⟩, ?_⟩
    have I5 : ∀ b o, b ≠ D → b ≠ wl → H3 b = some o → upd H4 q (.lst []) b = some o := fun b o h1 h2 h => S5 _ _ (I1 b o h1 h2 h)
    have e5D := S5 _ _ e1D
    have e5w := S5 _ _ e1w
    generalize upd H4 q (.lst []) = H5 at I5 e5D e5w el ⊢
    have hx : hasK R x = true := c3 x (by simp)
    rw [List.length_append, List.length_singleton] at zw
    refine for_list (K := K) (a := a) (xs := (succs ps x).map V.int) (fun i σ H'' => ∃ (v4 : Option V) (R' : List (Key × V)) (w' : List Int), σ = [some (.ref st), some (.ref lk), some (.ref d), some (.int x), v4, some (.ref D), some (.ref wl)] ∧ (∀ b o, b ≠ D → b ≠ wl → H5 b = some o → H'' b = some o) ∧ H'' D = some (.dK R') ∧ H'' wl = some (.lst (w'.map V.int)) ∧ R'.length + undone ps R' ≤ 20000 ∧ w'.length + undone ps R' ≤ 20000 ∧ (∀ z, hasK R' z = true → Reach ps ss z) ∧ (∀ z ∈ ss, hasK R' z = true) ∧ (∀ z ∈ w', hasK R' z = true) ∧ (∀ z, hasK R' z = true → z = x ∨ z ∈ w' ∨ ∀ y ∈ succs ps z, hasK R' y = true) ∧ (∀ y ∈ (succs ps x).take i, hasK R' y = true) ∧ 2 * undone ps R' + w'.length < 2 * undone ps R + (w0 ++ [x]).length ∧ hasK R' x = true)
      ⟨v4, R, w0, rfl, fun _ _ _ _ h => h, e5D, e5w, zR, by omega, c1, c2, fun z h => c3 z (List.mem_append_left _ h), fun z h => (c4 z h).elim (fun q => (List.mem_append.mp q).elim (fun q => .inr (.inl q)) (fun q => .inl (by simpa using q))) (fun q => .inr (.inr q)), fun y h => by simp at h, by rw [List.length_append, List.length_singleton]; omega, hx⟩ (fun i σ H'' _ ⟨_, _, _, _, J, _⟩ => SqL.of (J a _ nD nw el)) ?_ ?_
    · rintro i y σ H'' hi ⟨v4, R', w', rfl, J, fR, fw, y1, y2, b1, b2, b3, b4, b5, b6, b7⟩
      obtain ⟨y, hy, rfl⟩ := mapi_get hi
      have ym : y ∈ succs ps x := List.mem_of_getElem? hy
      have tk : (succs ps x).take (i + 1) = (succs ps x).take i ++ [y] := by rw [List.take_add_one, hy]; rfl
      refine ⟨_, rfl, _, rfl, D, valV R' (.inl y), rfl, .inl ⟨R', .inl y, .inl fR, rfl, rfl⟩, ?_⟩
      cases hv : valV R' (.inl y) with
      | some v =>
        have hyk : hasK R' y = true := by unfold hasK; rw [hv]; rfl
        refine ⟨_, rfl, ?_⟩
        exact ⟨_, R', w', rfl, J, fR, fw, y1, y2, b1, b2, b3, b4, (by rw [tk]; exact fun z h => (List.mem_append.mp h).elim (b5 z) (fun e => by rw [show z = y by simpa using e]; exact hyk)), b6, b7⟩
      | none =>
        have hyk : ¬ hasK R' y = true := by unfold hasK; rw [hv]; simp
        have up : undone ps (putK R' (.inl y) (.bl true)) + 1 ≤ undone ps R' := undone_put ym hyk
        have lp := length_putK R' (.inl y) (.bl true)
        have ew2 : upd H'' D (.dK (putK R' (.inl y) (.bl true))) wl = some (.lst (w'.map V.int)) := by rw [upd_ne (Ne.symm nDw)]; exact fw
        refine ⟨_, rfl, ?_⟩
        show (if true = true then _ else _)
        rw [if_pos rfl]
        refine ⟨_, rfl, _, rfl, D, _, rfl, .inl ⟨R', .inl y, fR, rfl, by rw [sizeLine_eq]; omega, rfl⟩, ?_⟩
        refine ⟨_, rfl, .inl ⟨rfl, _, SqL.of ew2⟩, _, rfl, wl, _, _, rfl, rfl, ew2, by rw [List.length_map, sizeLine_eq]; omega, ?_⟩
        rw [List.length_append, List.length_singleton] at b6
        refine ⟨_, putK R' (.inl y) (.bl true), w' ++ [y], rfl, fun b o h1 h2 h => by rw [upd_ne h2, upd_ne h1]; exact J b o h1 h2 h, by rw [upd_ne nDw, upd_same], by rw [upd_same, List.map_append]; rfl, by omega, by rw [List.length_append, List.length_singleton]; omega,
          fun z h => (hasK_put.mp h).elim (fun e => by rw [e]; exact .step (b1 x b7) ym) (b1 z), fun z h => hasK_put.mpr (.inr (b2 z h)), fun z h => hasK_put.mpr ((List.mem_append.mp h).elim (fun q => .inr (b3 z q)) (fun q => .inl (by simpa using q))),
          fun z h => (hasK_put.mp h).elim (fun e => .inr (.inl (List.mem_append_right _ (by rw [e]; simp)))) (fun q => (b4 z q).elim .inl fun q => .inr (q.elim (fun q => .inl (List.mem_append_left _ q)) fun q => .inr fun u hu => hasK_put.mpr (.inr (q u hu)))),
          ?_, by rw [List.length_append, List.length_append, List.length_singleton, List.length_singleton]; omega, hasK_put.mpr (.inr b7)⟩
        rw [tk]
        exact fun z h => hasK_put.mpr ((List.mem_append.mp h).elim (fun q => .inr (b5 z q)) (fun e => .inl (by simpa using e)))
    · rintro σ H'' ⟨v4, R', w', rfl, J, fR, fw, y1, y2, b1, b2, b3, b4, b5, b6, b7⟩
      rw [List.length_map, List.take_length] at b5
      exact ⟨_, b6, some (.int x), v4, R', w', rfl, fun b o h1 h2 h => J b o h1 h2 (I5 b o h1 h2 h), fR, fw, y1, y2, b1, b2, b3, fun z h => (b4 z h).elim (fun e => .inr (by rw [e]; exact b5)) id, rfl⟩
end
end Rz

namespace Rz
open PySem PySem.Spec PyProof.Rows L2
theorem LkL.keep {H H' : Hp} (h : Tups H H') : ∀ {ts : List Addr} {ps : List Lk}, LkL H ts ps → LkL H' ts ps
  | _, _, .nil => .nil
  | _, _, .cons e r => .cons (h _ _ e) (LkL.keep h r)
theorem LkL.append {H : Hp} : ∀ {ts us : List Addr} {ps qs : List Lk}, LkL H ts ps → LkL H us qs → LkL H (ts ++ us) (ps ++ qs)
  | _, _, _, _, .nil, s => s
  | _, _, _, _, .cons e t, s => .cons e (LkL.append t s)
def fwd (ms : List Mv) : List Lk := ms.map fun m => (m.1, m.2.2)
def bwd (ms : List Mv) : List Lk := ms.map fun m => (m.2.2, m.1)
/-- the state is on a way from the first state to a last one -/
def useful (ls : List Int) (ms : List Mv) (s : Int) : Prop := Reach (fwd ms) [0] s ∧ Reach (bwd ms) ls s
def sp_check_useful (cU : Addr) : Sp := fun vs H Q E => ∃ (n : Int) (l m : Addr) (ls : List Int) (ms : List Mv), vs = [.int n, .ref l, .ref m] ∧ H l = some (.lst (ls.map V.int)) ∧ MAt H m ms ∧ ls.length ≤ 10000 ∧ ms.length ≤ 10000 ∧ 0 ≤ n ∧ n ≤ 10000 ∧
  ((∀ i : Nat, (i : Int) < n → useful ls ms i) → ∀ H', Same H H' → Q .non H') ∧
  ∀ i : Nat, (i : Int) < n → (∀ j : Nat, j < i → useful ls ms j) → ¬ useful ls ms i → ∀ H' d, Same H H' → H d = none → H' d = some (.xd [("state", .int i)]) → E (.ref cU) (some d) H'
section
variable {w : World} {K : PySem.W.Frag} {mg : Str → Option Value} {base : Heap}
theorem sc_check_useful : FnScope N__check_useful P__check_useful (defScope s__check_useful) := ⟨rfl, rfl, rfl, by decide +kernel, rfl, by decide +kernel, by decide +kernel⟩
theorem ok_check_useful (T : Txt K mg) : FnOk prg w K mg base (L2.CX prg w) 3 T.f__check_useful T.fd__check_useful P__check_useful (sp_check_useful T.c_Useless) := by
  refine T.F__check_useful.okX sc_check_useful (fun vs H Q E h => ?_) (fun cdv A outer s H vs Q E hr h => ?_)
  · obtain ⟨n, l, m, ls, ms, rfl, _⟩ := h
    rfl
  obtain ⟨n, l, m, ls, ms, rfl, hl, ⟨ts, em, hM⟩, zl, zm, n0, n1, kg, kb⟩ := h
  have nd := sc_check_useful.nd
  have tk : Takes (cxOf (L2.CX prg w) prg w K mg base N__check_useful "_check_useful" (defScope s__check_useful) T.f__check_useful cdv A outer s H E) (fun cls d _ H' => E cls d H') := takes_of rfl rfl rfl rfl
  have hu : (A.deeper (envOfC "_check_useful" (defScope s__check_useful) s.heap.objs.size T.f__check_useful cdv)).units + 1 < cLine := by
    have := hr.un
    omega
  refine ⟨_, (pss_cons (ps_set (i := 6) nd rfl (Or.inl rfl) (pe_fn (ok_led_to T) (hr.mono (by decide)) (by rfl) T.m_led_to T.F_led_to.kp T.b_led_to .nil (fun _ => atN _) (pa_cons (pe_lst (pa_cons pe_int pa_nil)) (pa_cons (pe_lc (own := [("state", 3), ("_", 4), ("to", 5)]) (g := gTup K 3 (gCons (gName 3) (gCons (gName 4) (gCons (gName 5) gNil)))) (tt := tYes) rfl nd (pi_list (pv 2)) (blkOk_by (N := N__check_useful) (sc := defScope s__check_useful) (by decide +kernel)) (fun _ _ _ _ _ => (pg_tup rfl (pgs_cons (pg_name (i := 3) nd rfl (Or.inl rfl)) (pgs_cons (pg_name (i := 4) nd rfl (Or.inl rfl)) (pgs_cons (pg_name (i := 5) nd rfl (Or.inl rfl)) pgs_nil))))) (fun _ _ _ _ _ => pts_nil) (fun _ _ _ _ _ => (pe_tup (pa_cons (pv 3) (pa_cons (pv 5) pa_nil))))) pa_nil))))
    (pss_cons (ps_set (i := 7) nd rfl (Or.inl rfl) (pe_fn (ok_led_to T) (hr.mono (by decide)) (by rfl) T.m_led_to T.F_led_to.kp T.b_led_to .nil (fun _ => atN _) (pa_cons (pv 1) (pa_cons (pe_lc (own := [("state", 3), ("_", 4), ("to", 5)]) (g := gTup K 3 (gCons (gName 3) (gCons (gName 4) (gCons (gName 5) gNil)))) (tt := tYes) rfl nd (pi_list (pv 2)) (blkOk_by (N := N__check_useful) (sc := defScope s__check_useful) (by decide +kernel)) (fun _ _ _ _ _ => (pg_tup rfl (pgs_cons (pg_name (i := 3) nd rfl (Or.inl rfl)) (pgs_cons (pg_name (i := 4) nd rfl (Or.inl rfl)) (pgs_cons (pg_name (i := 5) nd rfl (Or.inl rfl)) pgs_nil))))) (fun _ _ _ _ _ => pts_nil) (fun _ _ _ _ _ => (pe_tup (pa_cons (pv 5) (pa_cons (pv 3) pa_nil))))) pa_nil))))
    (pss_one (ps_for (passes_of rfl) rfl (pi_range1 rfl T.n_range (pa_cons (pv 0) pa_nil)) (pg_name (i := 3) nd rfl (Or.inl rfl))
      (pss_one (ps_if (PW.pt (pw_or (pt_cmp (pc_dnotin hu (pv 3) (pv 6)) rfl) (pw_or1 (pt_cmp (pc_dnotin hu (pv 3) (pv 7)) rfl)))) (pss_one (ps_raise rfl tk (pmk_oex T.o_Useless T.i_Useless T.t_Useless (ok_Useless_init T) (hr.mono (by decide)) T.b_Useless_init .nil passN (by rfl) T.m_Useless (pa_cons (pv 3) pa_nil)))) pss_nil)))))), ?_⟩
  refine ⟨by show 1 ≤ sizeLine; decide, fun z hz => ?_⟩
  have S0 := Rz.Same.new (o := .lst [.int 0]) (Same.refl H) hz
  have ez : upd H z (.lst [.int 0]) z = some (.lst [.int 0]) := upd_same
  generalize upd H z (.lst [.int 0]) = H0 at S0 ez ⊢
  refine ⟨_, rfl, m, rfl, ⟨_, SqL.of (S0 _ _ em)⟩, fun D hD => lc_list (K := K) (a := m) (xs := ts.map V.ref) (fun i W => Same H0 W ∧ ∃ us : List Addr, W D = some (.lst (us.map V.ref)) ∧ LkL W us (fwd (ms.take i))) ⟨Rz.Same.new (Same.refl _) hD, [], upd_same, .nil⟩ (fun i W _ h => SqL.of (h.1 _ _ (S0 _ _ em))) ?_ ?_⟩
  · rintro i y W hi ⟨S, us, e, P⟩
    obtain ⟨t, ht, rfl⟩ := refs_get hi
    obtain ⟨q, hq, eq⟩ := hM.get ht
    have hi := (List.getElem?_eq_some_iff.mp hq).1
    have lus := Paired.length P
    have l1 : (fwd (ms.take i)).length ≤ 10000 := by unfold fwd; rw [List.length_map, List.length_take]; omega
    have et := S _ _ (S0 _ _ eq)
    refine ⟨t, _, rfl, SqT.of et, rfl, _, _, rfl, _, _, rfl, _, _, rfl, rfl, rfl, yesT ⟨_, rfl, _, rfl, by show 2 ≤ sizeLine; decide, fun u hu => ?_⟩⟩
    have S2 := Rz.Same.new (o := .tup [.int q.1, .int q.2.2]) (Same.refl W) hu
    have e2 := S2 _ _ e
    refine ⟨_, e2, by rw [List.length_map, sizeLine_eq]; omega, Rz.Same.upd (S.trans S2) hD, us ++ [u], by rw [upd_same, List.map_append]; rfl, ?_⟩
    have nuD : u ≠ D := fun z => by rw [z, e] at hu; cases hu
    have T3 : Tups W (upd (upd W u (.tup [.int q.1, .int q.2.2])) D (.lst (us.map V.ref ++ [.ref u]))) := Tups.upd (Tups.of S2) (not_tupL ⟨_, e2⟩)
    unfold fwd at P ⊢
    rw [List.take_add_one, hq, List.map_append]
    exact (LkL.keep T3 P).append (.cons (by rw [upd_ne nuD, upd_same]) .nil)
  rintro W ⟨S, us, e, P⟩
  rw [List.length_map, hM.len, List.take_length] at P
  have lf : (fwd ms).length = ms.length := by unfold fwd; rw [List.length_map]
  refine ⟨z, D, [0], fwd ms, rfl, S _ _ ez, ⟨us, e, P⟩, by decide, by omega, fun H1 d1 k1 S1 hd1 e1 h1 => ?_⟩
  have S01 := (S0.trans S).trans S1
  refine ⟨_, rfl, _, rfl, m, rfl, ⟨_, SqL.of (S01 _ _ em)⟩, fun D2 hD2 => lc_list (K := K) (a := m) (xs := ts.map V.ref) (fun i W => Same H1 W ∧ ∃ us : List Addr, W D2 = some (.lst (us.map V.ref)) ∧ LkL W us (bwd (ms.take i))) ⟨Rz.Same.new (Same.refl _) hD2, [], upd_same, .nil⟩ (fun i W _ h => SqL.of (h.1 _ _ (S01 _ _ em))) ?_ ?_⟩
  · rintro i y W hi ⟨S, us, e, P⟩
    obtain ⟨t, ht, rfl⟩ := refs_get hi
    obtain ⟨q, hq, eq⟩ := hM.get ht
    have hi := (List.getElem?_eq_some_iff.mp hq).1
    have lus := Paired.length P
    have l1 : (bwd (ms.take i)).length ≤ 10000 := by unfold bwd; rw [List.length_map, List.length_take]; omega
    have et := S _ _ (S01 _ _ eq)
    refine ⟨t, _, rfl, SqT.of et, rfl, _, _, rfl, _, _, rfl, _, _, rfl, rfl, rfl, yesT ⟨_, rfl, _, rfl, by show 2 ≤ sizeLine; decide, fun u hu => ?_⟩⟩
    have S2 := Rz.Same.new (o := .tup [.int q.2.2, .int q.1]) (Same.refl W) hu
    have e2 := S2 _ _ e
    refine ⟨_, e2, by rw [List.length_map, sizeLine_eq]; omega, Rz.Same.upd (S.trans S2) hD2, us ++ [u], by rw [upd_same, List.map_append]; rfl, ?_⟩
    have nuD : u ≠ D2 := fun z => by rw [z, e] at hu; cases hu
    have T3 : Tups W (upd (upd W u (.tup [.int q.2.2, .int q.1])) D2 (.lst (us.map V.ref ++ [.ref u]))) := Tups.upd (Tups.of S2) (not_tupL ⟨_, e2⟩)
    unfold bwd at P ⊢
    rw [List.take_add_one, hq, List.map_append]
    exact (LkL.keep T3 P).append (.cons (by rw [upd_ne nuD, upd_same]) .nil)
  rintro W2 ⟨S2, us2, e2, P2⟩
  rw [List.length_map, hM.len, List.take_length] at P2
  have lb : (bwd ms).length = ms.length := by unfold bwd; rw [List.length_map]
  refine ⟨l, D2, ls, bwd ms, rfl, S2 _ _ (S01 _ _ hl), ⟨us2, e2, P2⟩, zl, by omega, fun H3 d2 k2 S3 hd2 e3 h2 => ?_⟩
  have SA := (S01.trans S2).trans S3
  have ed1 := S3 _ _ (S2 _ _ e1)
  refine ⟨_, rfl, n, rfl, by omega, by omega, for_range (n := n.toNat) (fun i σ H' => ∃ v3 : Option V, σ = [some (.int n), some (.ref l), some (.ref m), v3, none, none, some (.ref d1), some (.ref d2)] ∧ H' = H3 ∧ ∀ j : Nat, j < i → useful ls ms j) ⟨none, rfl, rfl, fun j hj => absurd hj (Nat.not_lt_zero j)⟩ ?_ ?_⟩
  · rintro i σ H5 hi ⟨v3, rfl, rfl, us⟩
    rw [Int.zero_add]
    have hin : (i : Int) < n := by omega
    have bad : ¬ useful ls ms i → _ := fun no => raise_fld (C := T.c_Useless) (fld := "state") (n := i) (H1 := H5) (Q := E) (log_small (k := 64) (by omega) (by decide)) fun H6 d S6 hd e => kb i hin us no H6 d (SA.trans S6) (SA.free hd) e
    cases hv1 : valV k1 (.inl (i : Int)) with
    | none =>
      have no : ¬ useful ls ms i := fun z => by
        have := (h1 i).mpr z.1
        unfold hasK at this
        rw [hv1] at this
        cases this
      exact ⟨_, rfl, _, rfl, d1, none, rfl, .inl ⟨k1, .inl (i : Int), .inl ed1, rfl, hv1.symm⟩, true, rfl, iteT (iteT ⟨_, rfl, by show 1 ≤ 1000; decide, bad no⟩)⟩
    | some x1 =>
      refine ⟨_, rfl, _, rfl, d1, some x1, rfl, .inl ⟨k1, .inl (i : Int), .inl ed1, rfl, hv1.symm⟩, false, rfl, iteF ?_⟩
      cases hv2 : valV k2 (.inl (i : Int)) with
      | none =>
        have no : ¬ useful ls ms i := fun z => by
          have := (h2 i).mpr z.2
          unfold hasK at this
          rw [hv2] at this
          cases this
        exact ⟨_, rfl, _, rfl, d2, none, rfl, .inl ⟨k2, .inl (i : Int), .inl e3, rfl, hv2.symm⟩, true, rfl, iteT ⟨_, rfl, by show 1 ≤ 1000; decide, bad no⟩⟩
      | some x2 =>
        have yes : useful ls ms i := ⟨(h1 i).mp (by unfold hasK; rw [hv1]; rfl), (h2 i).mp (by unfold hasK; rw [hv2]; rfl)⟩
        refine ⟨_, rfl, _, rfl, d2, some x2, rfl, .inl ⟨k2, .inl (i : Int), .inl e3, rfl, hv2.symm⟩, false, rfl, iteF ?_⟩
        refine ⟨_, rfl, rfl, fun j hj => ?_⟩
        by_cases e : j = i
        · rw [e]
          exact yes
        · exact us j (by omega)
  · rintro σ H5 ⟨v3, rfl, rfl, us⟩
    exact kg (fun i hi => us i (by omega)) _ SA
end
end Rz

namespace Rz
open PySem PySem.Spec PyProof.Rows L2
/-! ### the beginnings of texts -/
def pre (x : Str) (n : Nat) : Str := ⟨(x.cps.toList.take n).toArray⟩
theorem pre_cut {x : Str} {n : Nat} (h : n ≤ x.length) : cutS x none (some (n : Int)) = pre x n := by
  unfold cutS pre
  rw [HT.sIx_nat, HT.sIx_none, Nat.min_eq_left h, List.drop_zero, Nat.sub_zero]
theorem pre_len {x : Str} {n : Nat} (h : n ≤ x.length) : (pre x n).length = n := by
  show ((x.cps.toList.take n).toArray).size = n
  rw [List.size_toArray, List.length_take, Array.length_toList]
  exact Nat.min_eq_left h
theorem pre_list {x : Str} {n : Nat} : (pre x n).cps.toList = x.cps.toList.take n := rfl
def begs1 (x : Str) (n : Nat) : List Str := (List.range n).map (pre x)
def begs (xs : List Str) : List Str := (xs.map fun x => begs1 x (x.length + 1)).flatten
theorem begs_snoc (xs : List Str) (x : Str) : begs (xs ++ [x]) = begs xs ++ begs1 x (x.length + 1) := by
  unfold begs
  rw [List.map_append, List.flatten_append]
  simp
theorem begs1_snoc (x : Str) (n : Nat) : begs1 x (n + 1) = begs1 x n ++ [pre x n] := by
  unfold begs1
  rw [List.range_succ, List.map_append]
  rfl
theorem mem_begs {xs : List Str} {y : Str} : y ∈ begs xs ↔ ∃ x ∈ xs, ∃ n, n ≤ x.length ∧ y = pre x n := by
  unfold begs begs1
  rw [List.mem_flatten]
  constructor
  · rintro ⟨l, hl, hy⟩
    obtain ⟨x, hx, rfl⟩ := List.mem_map.mp hl
    obtain ⟨n, hn, rfl⟩ := List.mem_map.mp hy
    exact ⟨x, hx, n, Nat.le_of_lt_succ (List.mem_range.mp hn), rfl⟩
  · rintro ⟨x, hx, n, hn, rfl⟩
    exact ⟨_, List.mem_map.mpr ⟨x, hx, rfl⟩, List.mem_map.mpr ⟨n, List.mem_range.mpr (Nat.lt_succ_of_le hn), rfl⟩⟩
theorem begs_len_take (xs : List Str) (i : Nat) : (begs (xs.take i)).length ≤ (begs xs).length := by
  rw [← List.take_append_drop i xs]
  unfold begs
  rw [List.map_append, List.flatten_append, List.length_append, List.take_append_drop]
  exact Nat.le_add_right _ _
theorem begs_take_succ {xs : List Str} {i : Nat} {x : Str} (h : xs[i]? = some x) : (begs (xs.take i)).length + (x.length + 1) ≤ (begs xs).length := by
  have q := begs_len_take xs (i + 1)
  rw [List.take_add_one, h] at q
  have e : begs (xs.take i ++ (some x).toList) = begs (xs.take i) ++ begs1 x (x.length + 1) := begs_snoc _ _
  rw [e, List.length_append] at q
  have e2 : (begs1 x (x.length + 1)).length = x.length + 1 := by
    unfold begs1
    rw [List.length_map, List.length_range]
  omega
theorem nlt_trans : ∀ {a b c : List Nat}, ltCps b a = false → ltCps c b = false → ltCps c a = false
  | [], [], _, _, h => h
  | [], _ :: _, [], _, h => by cases h
  | [], _ :: _, _ :: _, _, _ => rfl
  | _ :: _, [], _, h, _ => by cases h
  | _ :: _, _ :: _, [], _, h => by cases h
  | x :: a, y :: b, z :: c, h1, h2 => by
    simp only [ltCps, Bool.or_eq_false_iff, decide_eq_false_iff_not, Bool.and_eq_false_iff, beq_eq_false_iff_ne] at h1 h2 ⊢
    refine ⟨by omega, ?_⟩
    rcases h1.2 with n1 | n1
    · exact .inl (by omega)
    rcases h2.2 with n2 | n2
    · exact .inl (by omega)
    exact .inr (nlt_trans n1 n2)
theorem pairs_rising : ∀ (l : List Str) (p : Str), risingS p l = true → (p :: l).Pairwise fun a b => ltCps b.cps.toList a.cps.toList = false
  | [], p, _ => List.pairwise_singleton _ _
  | x :: r, p, h => by
    have e : (!ltCps x.cps.toList p.cps.toList && risingS x r) = true := h
    rw [Bool.and_eq_true] at e
    have ih := pairs_rising r x e.2
    have n1 : ltCps x.cps.toList p.cps.toList = false := by simpa using e.1
    refine List.pairwise_cons.mpr ⟨fun y hy => ?_, ih⟩
    rcases List.mem_cons.mp hy with rfl | hy
    · exact n1
    · exact nlt_trans n1 ((List.pairwise_cons.mp ih).1 y hy)
theorem pairs_sorted : ∀ (l : List Str), sortedS l = true → l.Pairwise fun a b => ltCps b.cps.toList a.cps.toList = false
  | [], _ => List.Pairwise.nil
  | x :: r, h => pairs_rising r x h
/-- by length, then by alphabet -/
def BegOrd (ys : List Str) : Prop := ys.Pairwise fun a b => a.length < b.length ∨ (a.length = b.length ∧ ltCps b.cps.toList a.cps.toList = false)
theorem begOrd_of {xs ys : List Str} (b : ByLen xs ys) (h : sortedS xs = true) : BegOrd ys := by
  obtain ⟨_, h2, h3⟩ := b
  have p := pairs_sorted xs h
  unfold BegOrd
  rw [List.pairwise_iff_forall_sublist] at h2 p ⊢
  intro x y s
  have le := h2 s
  rcases Nat.lt_or_ge x.length y.length with lt | ge
  · exact .inl lt
  · have e : x.length = y.length := by omega
    refine .inr ⟨e, p ?_⟩
    have q := s.filter fun z => z.length == x.length
    rw [h3] at q
    have e1 : ([x, y] : List Str).filter (fun z => z.length == x.length) = [x, y] := by
      rw [List.filter_cons, if_pos (by simp), List.filter_cons, if_pos (by simp [e]), List.filter_nil]
    rw [e1] at q
    exact q.trans List.filter_sublist
def sp_beginnings_of : Sp := fun vs H Q _ => ∃ (t : Addr) (xs : List Str), vs = [.ref t] ∧ H t = some (.tup (xs.map V.str)) ∧ (begs xs).length < 64 ∧
  ∀ H' (p : Addr) (ys : List Str), Same H H' → H p = none → H' p = some (.lst (ys.map V.str)) → (∀ y, y ∈ ys ↔ y ∈ begs xs) → ys.Nodup → BegOrd ys → ys.length < 64 → Q (.ref p) H'
section
variable {w : World} {K : PySem.W.Frag} {mg : Str → Option Value} {base : Heap}
theorem sc_beginnings_of : FnScope N__beginnings_of P__beginnings_of (defScope s__beginnings_of) := ⟨rfl, rfl, rfl, by decide +kernel, rfl, by decide +kernel, by decide +kernel⟩
theorem ok_beginnings_of (T : Txt K mg) : FnOk prg w K mg base (L2.CX prg w) 2 T.f__beginnings_of T.fd__beginnings_of P__beginnings_of sp_beginnings_of := by
  refine Rz.Fun.okN T.F__beginnings_of sc_beginnings_of (fun vs H Q E h => ?_) (fun cdv A outer s H vs Q E hr h => ?_)
  · obtain ⟨t, xs, rfl, _⟩ := h
    rfl
  obtain ⟨t, xs, rfl, ht, few, k⟩ := h
  have nd := sc_beginnings_of.nd
  refine ⟨_, (pss_cons (ps_setLc2 (i := 3) (own := [("text", 1), ("end", 2)]) (vs1 := [2]) (g := gName 1) (tt := tYes) (g1 := gName 2) (tt1 := tYes) rfl nd rfl rfl (sw_true rfl rfl rfl (by decide +kernel)) (pi_tup (pv 0)) (blkOk_by (N := N__beginnings_of) (sc := defScope s__beginnings_of) (by decide +kernel)) (by decide)
      (fun _ _ _ _ _ => pg_name (i := 1) nd rfl (Or.inl rfl)) (fun _ _ _ _ _ => pts_nil) (fun _ _ _ _ _ => pi_range1 rfl T.n_range (pa_cons (pe_op op_add (pe_callB call_len_str (by rfl) T.n_len PySem.boot_len (pa_cons (pv 1) pa_nil)) pe_int) pa_nil)) (fun _ _ _ _ _ => pg_name (i := 2) nd rfl (Or.inl rfl)) (fun _ _ _ _ _ => pts_nil)
      (fun _ _ _ _ _ => (pe_slice sl_str (pv 1) po_none (po_some (pv 2)))))
    (pss_one (ps_ret (pe_sortLen (by rfl) T.n_sorted (by rfl) T.n_len (pa_cons (pe_callB (cr_sortSs (by rfl)) (by rfl) T.n_sorted (by decide +kernel) (pa_cons (pe_callTy (cr_setSl (by rfl)) (by rfl) T.n_set (by decide +kernel) (pa_cons (pv 3) pa_nil)) pa_nil)) pa_nil))))), ?_⟩
  have small : ∀ x ∈ xs, x.length ≤ 64 := fun x hx => by
    obtain ⟨i, hi⟩ := List.getElem?_of_mem hx
    have := begs_take_succ hi
    omega
  refine ⟨_, rfl, t, rfl, ⟨_, SqT.of ht⟩, fun D hD => wk_tup (K := K) (a := t) (xs := xs.map V.str) (fun i H' => Same H H' ∧ H' D = some (.lst ((begs (xs.take i)).map V.str))) ⟨Rz.Same.new (Same.refl H) hD, upd_same⟩ (fun i H' _ h => SqT.of (h.1 _ _ ht)) ?_ ?_⟩
  · rintro i y H1 hi ⟨S, e⟩
    rw [List.getElem?_map] at hi
    cases hx : xs[i]? with
    | none => rw [hx] at hi; cases hi
    | some x =>
      rw [hx] at hi
      cases hi
      have sx := small x (List.mem_of_getElem? hx)
      have tk := begs_take_succ hx
      refine ⟨rfl, yesT ⟨_, rfl, _, rfl, by rw [sizeLine_eq]; omega, _, _, rfl, rfl, _, rfl, by omega, by omega, ?_⟩⟩
      refine wk_range (lo := 0) (n := ((x.length : Int) + 1).toNat) (fun j H' => Same H H' ∧ H' D = some (.lst ((begs (xs.take i) ++ begs1 x j).map V.str))) ⟨S, by rw [show begs1 x 0 = [] from rfl, List.append_nil]; exact e⟩ ?_ ?_
      · rintro j H2 hj ⟨S2, e2⟩
        have e0 : (0 : Int) + (j : Int) = (j : Int) := Int.zero_add _
        have jl : j ≤ x.length := by omega
        refine ⟨rfl, yesT ⟨_, rfl, _, rfl, _, rfl, x, rfl, by rw [sizeLine_eq]; omega, _, e2, ?_, Rz.Same.upd S2 hD, ?_⟩⟩
        · rw [List.length_map, List.length_append, sizeLine_eq]
          unfold begs1
          rw [List.length_map, List.length_range]
          omega
        · rw [upd_same, begs1_snoc, ← List.append_assoc, List.map_append (l₁ := begs (xs.take i) ++ begs1 x j)]
          show some (HO.lst (_ ++ [V.str (cutS x none (some ((0 : Int) + (j : Int))))])) = _
          rw [e0, pre_cut jl]
          rfl
      · rintro H2 ⟨S2, e2⟩
        refine ⟨S2, ?_⟩
        rw [e2, List.take_add_one, hx]
        show _ = some (HO.lst ((begs (xs.take i ++ [x])).map V.str))
        rw [begs_snoc, show ((x.length : Int) + 1).toNat = x.length + 1 by omega]
  · rintro H1 ⟨S, e⟩
    rw [List.length_map, List.take_length] at e
    refine ⟨_, rfl, D, begs xs, rfl, SqL.of e, by unfold scanBound; omega, fun p L hp hm ndl hl => ?_⟩
    have S1 := Rz.Same.new (o := SsO prg w p L) (Same.refl H1) hp
    refine ⟨p, L, rfl, upd_same, by omega, fun ys q pm hs hq => ?_⟩
    have S2 := Rz.Same.new (o := .lst (ys.map V.str)) (Same.refl (upd H1 p (SsO prg w p L))) hq
    refine ⟨q, ys, rfl, SqL.of upd_same, fun x hx => ?_, fun r zs hr by_ => ?_⟩
    · obtain ⟨z, hz, n, hn, rfl⟩ := mem_begs.mp ((hm x).mp (pm.mem_iff.mp hx))
      have := small z hz
      rw [pre_len hn, sizeLine_eq]
      omega
    · have S3 := Rz.Same.new (o := .lst (zs.map V.str)) (Same.refl (upd (upd H1 p (SsO prg w p L)) q (.lst (ys.map V.str)))) hr
      have SA := ((S.trans S1).trans S2).trans S3
      exact k _ r zs SA (((S.trans S1).trans S2).free hr) upd_same (fun y => (by_.1.mem_iff.trans pm.mem_iff).trans (hm y)) ((by_.1.trans pm).nodup_iff.mpr ndl) (begOrd_of by_ hs) (by rw [(by_.1.trans pm).length_eq]; omega)
end
end Rz

namespace Rz
open PySem PySem.Spec PyProof.Rows L2
/-! ### lots -/
/-- ascending, each once -/
def SrtI (ns xs : List Int) : Prop := xs.Pairwise (· < ·) ∧ ∀ k, k ∈ xs ↔ k ∈ ns
def SrtM (ms qs : List Mv) : Prop := (qs.map mvK).Pairwise (fun q r => kLt r q = false) ∧ qs.Nodup ∧ ∀ m, m ∈ qs ↔ m ∈ ms
def lotF (n : Int) (l m d : Addr) : List (Str × V) := putF "_leads" (.ref d) (putF "_moves" (.ref m) (putF "_last" (.ref l) (putF "_states" (.int n) [])))
/-- a lot at o: its states, last states, moves, and where the moves lead -/
def LtAt (cL : Addr) (H : Hp) (o : Addr) (n : Int) (ls : List Int) (ms : List Mv) (f : List Key → Option Int) : Prop := ∃ dx l m d kvs, H o = some (.ins cL dx (lotF n l m d)) ∧ H l = some (.lst (ls.map V.int)) ∧ MAt H m ms ∧ H d = some (.dT kvs) ∧ ∀ k, valV kvs k = (f k).map V.int
theorem LtAt.same {cL : Addr} {H H' : Hp} {o : Addr} {n : Int} {ls : List Int} {ms : List Mv} {f : List Key → Option Int} (S : Same H H') (a : LtAt cL H o n ls ms f) : LtAt cL H' o n ls ms f :=
  let ⟨dx, l, m, d, kvs, h1, h2, h3, h4, h5⟩ := a
  ⟨dx, l, m, d, kvs, S _ _ h1, S _ _ h2, h3.same S, S _ _ h4, h5⟩
theorem mv_keys {H : Hp} : ∀ {ts : List Addr} {ms : List Mv}, MvL H ts ms → ∃ ks : List (Addr × List Key), ts.map V.ref = ks.map (fun p => V.ref p.1) ∧ ks.map (·.2) = ms.map mvK ∧ (∀ p ∈ ks, H p.1 = some (.tup (p.2.map kV))) ∧ ks.length = ms.length
  | _, _, .nil => ⟨[], rfl, rfl, fun p hp => (by cases hp), rfl⟩
  | _, _, .cons (a := t) (b := m) e r => by
    obtain ⟨ks, h1, h2, h3, h4⟩ := mv_keys r
    refine ⟨(t, mvK m) :: ks, by rw [List.map_cons, h1]; rfl, by rw [List.map_cons, h2]; rfl, fun p hp => ?_, by rw [List.length_cons, List.length_cons, h4]⟩
    rcases List.mem_cons.mp hp with z | z
    · rw [z]
      exact e
    · exact h3 p z
theorem keys_mv {H : Hp} : ∀ {M : List (Addr × List Key)}, (∀ p ∈ M, H p.1 = some (.tup (p.2.map kV)) ∧ ∃ m : Mv, p.2 = mvK m) → ∃ qs : List Mv, M.map (·.2) = qs.map mvK ∧ MvL H (M.map (·.1)) qs
  | [], _ => ⟨[], rfl, .nil⟩
  | p :: M, h => by
    obtain ⟨e, m, em⟩ := h p List.mem_cons_self
    obtain ⟨qs, h1, h2⟩ := keys_mv (M := M) fun q hq => h q (List.mem_cons_of_mem _ hq)
    refine ⟨m :: qs, by rw [List.map_cons, List.map_cons, h1, em], .cons ?_ h2⟩
    rw [em] at e
    exact e
def sp_Lot_init (cB cU cL : Addr) : Sp := fun vs H Q E => ∃ (p dx l m : Addr) (n : Int) (ls : List Int) (ms : List Mv), vs = [.ref p, .int n, .ref l, .ref m] ∧ H p = some (.ins cL dx []) ∧ H l = some (.lst (ls.map V.int)) ∧ MAt H m ms ∧ ls.length < 64 ∧ ms.length < 64 ∧ (∀ x ∈ ls ++ named ms, x.natAbs < 2 ^ 64) ∧ (∀ x ∈ ms, x.2.1.length ≤ 1000000) ∧
  (okStates n ls ms → okLeads ms → (∀ i : Nat, (i : Int) < n → useful ls ms i) → ∀ H' ls' ms', SrtI ls ls' → SrtM ms ms' → But [p] H H' → LtAt cL H' p n ls' ms' (Lead ms) → Q .non H') ∧
  (¬ okStates n ls ms ∨ ¬ okLeads ms → ∀ H', Same H H' → E (.ref cB) none H') ∧
  (okStates n ls ms → okLeads ms → ∀ i : Nat, (i : Int) < n → (∀ j : Nat, j < i → useful ls ms j) → ¬ useful ls ms i → ∀ H' d, Same H H' → H d = none → H' d = some (.xd [("state", .int i)]) → E (.ref cU) (some d) H')
section
variable {w : World} {K : PySem.W.Frag} {mg : Str → Option Value} {base : Heap}
theorem sc_Lot_init : FnScope N_Lot_init P_Lot_init (defScope s_Lot_init) := ⟨rfl, rfl, rfl, by decide +kernel, rfl, by decide +kernel, by decide +kernel⟩
theorem ok_Lot_init (T : Txt K mg) : FnOk prg w K mg base (L2.CX prg w) 4 T.f_Lot_init T.fd_Lot_init P_Lot_init (sp_Lot_init T.c_BadLot T.c_Useless T.c_Lot) := by
  refine T.F_Lot_init.okX sc_Lot_init (fun vs H Q E h => ?_) (fun cdv A outer s H vs Q E hr h => ?_)
  · obtain ⟨p, dx, l, m, n, ls, ms, rfl, _⟩ := h
    rfl
  obtain ⟨p, dx, l, m, n, ls, ms, rfl, hp, hl, hm, zl, zm, zn, zs, kg, kb, ku⟩ := h
  have nd := sc_Lot_init.nd
  have tk : Takes (cxOf (L2.CX prg w) prg w K mg base N_Lot_init "Lot.__init__" (defScope s_Lot_init) T.f_Lot_init cdv A outer s H E) (fun cls d _ H' => E cls d H') := takes_of rfl rfl rfl rfl
  have hu : (A.deeper (envOfC "Lot.__init__" (defScope s_Lot_init) s.heap.objs.size T.f_Lot_init cdv)).units + 64 < cLine := hr.units
  refine ⟨_, (pss_cons (ps_expr (pe_fn (ok_check_states T) (hr.mono (by decide)) (by rfl) T.m__check_states T.F__check_states.kp T.b__check_states .nil (passAt tk) (pa_cons (pv 1) (pa_cons (pv 2) (pa_cons (pv 3) pa_nil)))))
    (pss_cons (ps_set (i := 4) nd rfl (Or.inl rfl) (pe_fn (ok_leads_of T) (hr.mono (by decide)) (by rfl) T.m__leads_of T.F__leads_of.kp T.b__leads_of .nil (passAt tk) (pa_cons (pv 3) pa_nil)))
    (pss_cons (ps_expr (pe_fn (ok_check_useful T) (hr.mono (by decide)) (by rfl) T.m__check_useful T.F__check_useful.kp T.b__check_useful .nil (passAt tk) (pa_cons (pv 1) (pa_cons (pv 2) (pa_cons (pv 3) pa_nil)))))
    (pss_cons (ps_fld (pv 0) (pv 1) rfl)
    (pss_cons (ps_fld (pv 0) (pe_callB (cr_sortedSet (by rfl)) (by rfl) T.n_sorted (by decide +kernel) (pa_cons (pe_callTy (cr_setIl (by rfl)) (by rfl) T.n_set (by decide +kernel) (pa_cons (pv 2) pa_nil)) pa_nil)) rfl)
    (pss_cons (ps_fld (pv 0) (pe_callB (cr_sortTs (by rfl)) (by rfl) T.n_sorted (by decide +kernel) (pa_cons (pe_callTy (cr_setTs (by rfl) hu) (by rfl) T.n_set (by decide +kernel) (pa_cons (pv 3) pa_nil)) pa_nil)) rfl)
    (pss_one (ps_fld (pv 0) (pv 4) rfl)))))))), ?_⟩
  refine ⟨_, rfl, _, rfl, _, rfl, n, l, m, ls, ms, rfl, hl, hm, by omega, by omega, zn, fun os H1 S1 => ?_, fun os H1 S1 => kb (.inl os) H1 S1⟩
  refine ⟨_, rfl, m, ms, rfl, hm.same S1, by omega, zs, fun ol H2 d kvs S2 hd ed hv => ?_, fun ol H2 S2 => kb (.inr ol) H2 (S1.trans S2)⟩
  have S12 := S1.trans S2
  have n1 := os.1.1
  have n40 := os.1.2
  refine ⟨_, rfl, _, rfl, _, rfl, n, l, m, ls, ms, rfl, S12 _ _ hl, hm.same S12, by omega, by omega, by omega, by omega, fun us H3 S3 => ?_, fun i hi us no H3 x S3 hx e => ku os ol i hi us no H3 x (S12.trans S3) (S12.free hx) e⟩
  have S13 := S12.trans S3
  have hd0 : H d = none := S1.free hd
  have ed3 := S3 _ _ ed
  have npt : ∀ xs, H p ≠ some (.tup xs) := fun xs z => by rw [hp] at z; cases z
  have npl : l ∉ [p] := fun z => by rw [List.mem_singleton.mp z, hp] at hl; cases hl
  have npm : m ∉ [p] := fun z => by
    obtain ⟨ts, e, _⟩ := hm
    rw [List.mem_singleton.mp z, hp] at e
    cases e
  have npd : d ≠ p := fun z => by rw [z, hp] at hd0; cases hd0
  refine ⟨_, rfl, _, rfl, p, _, dx, _, rfl, S13 _ _ hp, T.cl_Lot, T.na_Lot__states, by show 0 < 1000; decide, ?_⟩
  have B4 : But [p] H (upd H3 p (.ins T.c_Lot dx (putF "_states" (.int n) []))) := (But.of S13).upd (.inl (by simp))
  have p4 : upd H3 p (.ins T.c_Lot dx (putF "_states" (.int n) [])) p = some (.ins T.c_Lot dx (putF "_states" (.int n) [])) := upd_same
  have d4 : upd H3 p (.ins T.c_Lot dx (putF "_states" (.int n) [])) d = some (.dT kvs) := by rw [upd_ne npd]; exact ed3
  generalize upd H3 p (.ins T.c_Lot dx (putF "_states" (.int n) [])) = H4 at B4 p4 d4 ⊢
  refine ⟨_, rfl, l, ls, rfl, SqL.of (B4.at hl npl), by unfold scanBound; omega, fun q c hq hc => ?_⟩
  have S5 := Rz.Same.new (o := SetO w q (fun j => decide (j ∈ ls)) c) (Same.refl H4) hq
  refine ⟨q, _, c, rfl, upd_same, by omega, fun xs r xp xm xl hr2 => ?_⟩
  have S6 := Rz.Same.new (o := .lst (xs.map V.int)) (Same.refl (upd H4 q (SetO w q (fun j => decide (j ∈ ls)) c))) hr2
  have S56 := S5.trans S6
  have r6 : upd (upd H4 q (SetO w q (fun j => decide (j ∈ ls)) c)) r (.lst (xs.map V.int)) r = some (.lst (xs.map V.int)) := upd_same
  have srt : SrtI ls xs := ⟨xp, fun k => by rw [xm]; simp⟩
  refine ⟨_, rfl, p, _, dx, _, rfl, S56 _ _ p4, T.cl_Lot, T.na_Lot__last, by show 1 < 1000; decide, ?_⟩
  show tSeq (sFld K (tVar 0) (tCB (rSortTs K prg w) (tCons (tCB (rSetTs K prg w) (tCons (tVar 3) tNil)) tNil)) "_moves") (sFld K (tVar 0) (tVar 4) "_leads") { nx := fun _ H' => Q .non H', rt := Q } [some (.ref p), some (.int n), some (.ref l), some (.ref m), some (.ref d)]
    (upd (upd (upd H4 q (SetO w q (fun j => decide (j ∈ ls)) c)) r (.lst (xs.map V.int))) p (.ins T.c_Lot dx (putF "_last" (.ref r) (putF "_states" (.int n) []))))
  have hr3 : upd H4 q (SetO w q (fun j => decide (j ∈ ls)) c) r = none := hr2
  have nrp : r ≠ p := fun z => by rw [z, S5 _ _ p4] at hr3; cases hr3
  have B7 : But [p] H (upd (upd (upd H4 q (SetO w q (fun j => decide (j ∈ ls)) c)) r (.lst (xs.map V.int))) p (.ins T.c_Lot dx (putF "_last" (.ref r) (putF "_states" (.int n) [])))) := (B4.trans (But.of S56)).upd (.inl (by simp))
  have p7 : upd (upd (upd H4 q (SetO w q (fun j => decide (j ∈ ls)) c)) r (.lst (xs.map V.int))) p (.ins T.c_Lot dx (putF "_last" (.ref r) (putF "_states" (.int n) []))) p = some (.ins T.c_Lot dx (putF "_last" (.ref r) (putF "_states" (.int n) []))) := upd_same
  have d7 : upd (upd (upd H4 q (SetO w q (fun j => decide (j ∈ ls)) c)) r (.lst (xs.map V.int))) p (.ins T.c_Lot dx (putF "_last" (.ref r) (putF "_states" (.int n) []))) d = some (.dT kvs) := by rw [upd_ne npd]; exact S56 _ _ d4
  have r7 : upd (upd (upd H4 q (SetO w q (fun j => decide (j ∈ ls)) c)) r (.lst (xs.map V.int))) p (.ins T.c_Lot dx (putF "_last" (.ref r) (putF "_states" (.int n) []))) r = some (.lst (xs.map V.int)) := by rw [upd_ne nrp]; exact r6
  generalize upd (upd (upd H4 q (SetO w q (fun j => decide (j ∈ ls)) c)) r (.lst (xs.map V.int))) p (.ins T.c_Lot dx (putF "_last" (.ref r) (putF "_states" (.int n) []))) = H7 at B7 p7 d7 r7 ⊢
  have m7 := hm.but B7 npm (tups1 B7 npt)
  obtain ⟨ts, em, hM⟩ := m7
  obtain ⟨ks, k1, k2, k3, k4⟩ := mv_keys hM
  refine ⟨_, rfl, m, ks, rfl, SqL.of (by rw [← k1]; exact em), fun x hx => SqT.of (k3 x hx), by omega, fun a L ha sub all ndL zL => ?_⟩
  have S8 := Rz.Same.new (o := TsO prg w a L) (Same.refl H7) ha
  refine ⟨a, L, fun i => i == 1, rfl, upd_same, fun x hx => SqT.of (S8 _ _ (k3 x (sub x hx))), fun x hx => ?_, fun M b pm pw hb => ?_⟩
  · have inm : x.2 ∈ ms.map mvK := by rw [← k2]; exact List.mem_map.mpr ⟨x, sub x hx, rfl⟩
    obtain ⟨y, _, ey⟩ := List.mem_map.mp inm
    rw [← ey]
    exact mvK_fits y
  have S9 := Rz.Same.new (o := .lst (M.map fun q => V.ref q.1)) (Same.refl (upd H7 a (TsO prg w a L))) hb
  have S89 := S8.trans S9
  have e9 : upd (upd H7 a (TsO prg w a L)) b (.lst (M.map fun q => V.ref q.1)) b = some (.lst (M.map fun q => V.ref q.1)) := upd_same
  obtain ⟨qs, q1, q2⟩ := keys_mv (H := H7) (M := M) fun x hx => by
    have inL := pm.mem_iff.mp hx
    have inm : x.2 ∈ ms.map mvK := by rw [← k2]; exact List.mem_map.mpr ⟨x, sub x inL, rfl⟩
    obtain ⟨y, _, ey⟩ := List.mem_map.mp inm
    exact ⟨k3 x (sub x inL), y, ey.symm⟩
  have sm : SrtM ms qs := by
    refine ⟨?_, ?_, fun y => ?_⟩
    · rw [← q1, List.pairwise_map]
      exact pw
    · have nM : (M.map (·.2)).Nodup := (pm.map (·.2)).nodup_iff.mpr ndL
      rw [q1] at nM
      exact List.Pairwise.of_map mvK (fun _ _ n e => n (congrArg _ e)) nM
    · have h1 : mvK y ∈ M.map (·.2) ↔ mvK y ∈ ks.map (·.2) := by
        rw [(pm.map (·.2)).mem_iff]
        refine ⟨fun h => ?_, fun h => ?_⟩
        · obtain ⟨x, hx, e⟩ := List.mem_map.mp h
          exact List.mem_map.mpr ⟨x, sub x hx, e⟩
        · obtain ⟨x, hx, e⟩ := List.mem_map.mp h
          rw [← e]
          exact all x hx
      rw [q1, k2] at h1
      have h2 : ∀ zs : List Mv, mvK y ∈ zs.map mvK ↔ y ∈ zs := fun zs => ⟨fun h => by
        obtain ⟨x, hx, e⟩ := List.mem_map.mp h
        rw [← mvK_inj e]
        exact hx, fun h => List.mem_map.mpr ⟨y, h, rfl⟩⟩
      rw [h2, h2] at h1
      exact h1
  have hb3 : upd H7 a (TsO prg w a L) b = none := hb
  have nbp : b ≠ p := fun z => by rw [z, S8 _ _ p7] at hb3; cases hb3
  refine ⟨_, rfl, p, _, dx, _, rfl, S89 _ _ p7, T.cl_Lot, T.na_Lot__moves, by show 2 < 1000; decide, ?_⟩
  show sFld K (tVar 0) (tVar 4) "_leads" { nx := fun _ H' => Q .non H', rt := Q } [some (.ref p), some (.int n), some (.ref l), some (.ref m), some (.ref d)]
    (upd (upd (upd H7 a (TsO prg w a L)) b (.lst (M.map fun q => V.ref q.1))) p (.ins T.c_Lot dx (putF "_moves" (.ref b) (putF "_last" (.ref r) (putF "_states" (.int n) [])))))
  refine ⟨_, rfl, _, rfl, p, _, dx, _, rfl, upd_same, T.cl_Lot, T.na_Lot__leads, by show 3 < 1000; decide, ?_⟩
  have BX : But [p] (upd (upd H7 a (TsO prg w a L)) b (.lst (M.map fun q => V.ref q.1))) (upd (upd (upd (upd H7 a (TsO prg w a L)) b (.lst (M.map fun q => V.ref q.1))) p (.ins T.c_Lot dx (putF "_moves" (.ref b) (putF "_last" (.ref r) (putF "_states" (.int n) []))))) p (.ins T.c_Lot dx (lotF n r b d))) := ((But.refl _ _).upd (.inl (by simp))).upd (.inl (by simp))
  have BY := (B7.trans (But.of S89)).trans BX
  refine kg os ol us _ xs qs srt sm BY ⟨dx, r, b, d, kvs, upd_same, BX.at (S89 _ _ r7) (by simpa using nrp), ⟨M.map (fun x => x.1), ?_, ?_⟩, BX.at (S89 _ _ d7) (by simpa using npd), hv⟩
  · rw [List.map_map]
    exact BX.at e9 (by simpa using nbp)
  · refine q2.keep ((Tups.of S89).trans (tups1 BX fun xs z => ?_))
    rw [S89 _ _ p7] at z
    cases z
end
end Rz

namespace Rz
open PySem PySem.Spec PyProof.Rows L2
/-- what Lot(n, l, m) asks -/
theorem lot_made {cB cU cL : Addr} {H : Hp} {Q : VK} {E : XK} {n : Int} {l m : Addr} {ls : List Int} {ms : List Mv} (hl : H l = some (.lst (ls.map V.int))) (hm : MAt H m ms) (zl : ls.length < 64) (zm : ms.length < 64) (zn : ∀ x ∈ ls ++ named ms, x.natAbs < 2 ^ 64) (zs : ∀ x ∈ ms, x.2.1.length ≤ 1000000)
    (kg : okStates n ls ms → okLeads ms → (∀ i : Nat, (i : Int) < n → useful ls ms i) → ∀ H' o ls' ms', SrtI ls ls' → SrtM ms ms' → Same H H' → H o = none → LtAt cL H' o n ls' ms' (Lead ms) → Q (.ref o) H')
    (kb : ¬ okStates n ls ms ∨ ¬ okLeads ms → ∀ H', Same H H' → E (.ref cB) none H')
    (ku : okStates n ls ms → okLeads ms → ∀ i : Nat, (i : Int) < n → (∀ j : Nat, j < i → useful ls ms j) → ¬ useful ls ms i → ∀ H' d, Same H H' → H d = none → H' d = some (.xd [("state", .int i)]) → E (.ref cU) (some d) H') :
    MkS cL (sp_Lot_init cB cU cL) E [.int n, .ref l, .ref m] H Q := by
  rw [mkS_eq]
  intro x dx hx hdx ndx
  have S0 : Same H (upd (upd H dx (.own x)) x (.ins cL dx [])) := fun b o e => by
    rw [upd_ne (ne_of_none e hx), upd_ne (ne_of_none e hdx)]
    exact e
  refine ⟨x, dx, l, m, n, ls, ms, rfl, upd_same, S0 _ _ hl, hm.same S0, zl, zm, zn, zs, fun o1 o2 u H' ls' ms' s1 s2 B L => ⟨rfl, ?_⟩, fun o H' S => kb o H' (S0.trans S), fun o1 o2 i hi us no H' d S hd e => ku o1 o2 i hi us no H' d (S0.trans S) (S0.free hd) e⟩
  refine kg o1 o2 u H' x ls' ms' s1 s2 (fun b o e => ?_) hx L
  exact B b o (by have := ne_of_none e hx; simpa using this) (S0 b o e)
end Rz

namespace Rz
open PySem PySem.Spec PyProof.Rows L2
/-- the moves of the lot of all texts over these signs -/
def everyM (cs : List Nat) : List Mv := cs.map fun c => (0, ⟨#[c]⟩, 0)
theorem every_states (cs : List Nat) : okStates 1 [0] (everyM cs) := by
  refine ⟨⟨by decide, by decide⟩, fun x hx => ?_, fun m hm => ?_⟩
  · rw [List.mem_singleton.mp hx]
    decide
  · obtain ⟨c, _, rfl⟩ := List.mem_map.mp hm
    exact ⟨⟨by show (0 : Int) ≤ 0; decide, by show (0 : Int) < 1; decide⟩, by show (0 : Int) ≤ 0; decide, by show (0 : Int) < 1; decide⟩
theorem sg_one {c : Nat} (h : oddC c = false) : isSg ⟨#[c]⟩ = true := by
  show (!oddC c) = true
  rw [h]
  rfl
theorem every_leads {cs : List Nat} (h : ∀ c ∈ cs, oddC c = false) : okLeads (everyM cs) := by
  refine ⟨fun m hm => ?_, fun a ha b hb _ => ?_⟩
  · obtain ⟨c, hc, rfl⟩ := List.mem_map.mp hm
    exact sg_one (h c hc)
  · obtain ⟨c, _, rfl⟩ := List.mem_map.mp ha
    obtain ⟨d, _, rfl⟩ := List.mem_map.mp hb
    rfl
theorem every_useful (cs : List Nat) (i : Nat) (hi : (i : Int) < 1) : useful [0] (everyM cs) i := by
  obtain rfl : i = 0 := by omega
  exact ⟨.start (by simp), .start (by simp)⟩
def sp_Lot_every (cS cL : Addr) : Sp := fun vs H Q E => ∃ z : Str, vs = [.ref cL, .str z] ∧ z.length < 64 ∧
  (fo z = none → ∀ H' o ls ms, SrtI [0] ls → SrtM (everyM z.cps.toList) ms → Same H H' → H o = none → LtAt cL H' o 1 ls ms (Lead (everyM z.cps.toList)) → Q (.ref o) H') ∧
  (∀ i, fo z = some i → ∀ H' d, Same H H' → H d = none → H' d = some (.xd [("at", .int (i : Nat))]) → E (.ref cS) (some d) H')
section
variable {w : World} {K : PySem.W.Frag} {mg : Str → Option Value} {base : Heap}
theorem sc_Lot_every : FnScope N_Lot_every P_Lot_every (defScope s_Lot_every) := ⟨rfl, rfl, rfl, by decide +kernel, rfl, by decide +kernel, by decide +kernel⟩
theorem ok_Lot_every (T : Txt K mg) : FnOk prg w K mg base (L2.CX prg w) 6 T.f_Lot_every T.fd_Lot_every P_Lot_every (sp_Lot_every T.c_BadSign T.c_Lot) := by
  refine T.F_Lot_every.okX sc_Lot_every (fun vs H Q E h => ?_) (fun cdv A outer s H vs Q E hr h => ?_)
  · obtain ⟨z, rfl, _⟩ := h
    rfl
  obtain ⟨z, rfl, hz, kg, kb⟩ := h
  have nd := sc_Lot_every.nd
  have tk : Takes (cxOf (L2.CX prg w) prg w K mg base N_Lot_every "Lot.every" (defScope s_Lot_every) T.f_Lot_every cdv A outer s H E) (fun cls d _ H' => E cls d H') := takes_of rfl rfl rfl rfl
  have mk : Mk K T.c_Lot T.f_Lot_init := ⟨T.mk_Lot, T.M_Lot_init.at_, T.M_Lot_init.fn, T.kp_Lot⟩
  refine ⟨_, (pss_cons (ps_expr (pe_fn (ok_check_text T) (hr.mono (by decide)) (by rfl) T.m_check_text T.F_check_text.kp T.b_check_text .nil (passAt tk) (pa_cons (pv 1) pa_nil)))
    (pss_one (ps_ret (pe_mkSL (i := 0) mk (fnr_of (ok_Lot_init T) T.b_Lot_init) (hr.mono (by decide)) rfl (Or.inl rfl) (passAt tk) (pa_cons pe_int (pa_cons (pe_lst (pa_cons pe_int pa_nil)) (pa_cons (pe_lc (own := [("sign", 2)]) (g := gName 2) (tt := tYes) rfl nd (pi_str (pv 1)) (blkOk_by (N := N_Lot_every) (sc := defScope s_Lot_every) (by decide +kernel)) (fun _ _ _ _ _ => pg_name (i := 2) nd rfl (Or.inl rfl)) (fun _ _ _ _ _ => pts_nil) (fun _ _ _ _ _ => (pe_tup (pa_cons pe_int (pa_cons (pv 2) (pa_cons pe_int pa_nil)))))) pa_nil))))))), ?_⟩
  refine ⟨_, rfl, z, rfl, by omega, fun f0 H1 S1 => ?_, fun i f0 H1 d S1 hd e => kb i f0 H1 d S1 hd e⟩
  refine ⟨rfl, by show 1 ≤ sizeLine; decide, fun l hl => ?_⟩
  have S2 := Rz.Same.new (o := .lst [.int 0]) (Same.refl H1) hl
  have el : upd H1 l (.lst [.int 0]) l = some (.lst [.int 0]) := upd_same
  generalize upd H1 l (.lst [.int 0]) = H2 at S2 el ⊢
  refine ⟨_, rfl, z, rfl, fun D hD => lc_it walk_str (fun i H' => Same H2 H' ∧ ∃ ts : List Addr, H' D = some (.lst (ts.map V.ref)) ∧ MvL H' ts (everyM (z.cps.toList.take i))) ⟨Rz.Same.new (Same.refl _) hD, [], upd_same, .nil⟩ (fun _ _ _ _ => trivial) ?_ ?_⟩
  · rintro i x G1 G2 hi ⟨S, ts, e, P⟩ ⟨rfl, c, hc, rfl⟩
    have hi2 : i < z.length := hi
    have lts := P.len
    unfold everyM at lts
    rw [List.length_map, List.length_take] at lts
    refine ⟨rfl, yesT ⟨_, rfl, by show 3 ≤ sizeLine; decide, fun t' ht' => ?_⟩⟩
    have S3 := Rz.Same.new (o := .tup [.int 0, .str ⟨#[c]⟩, .int 0]) (Same.refl G2) ht'
    have e2 := S3 _ _ e
    refine ⟨_, e2, by rw [List.length_map, sizeLine_eq]; omega, Rz.Same.upd (S.trans S3) hD, ts ++ [t'], by rw [upd_same, List.map_append]; rfl, ?_⟩
    have ntD : t' ≠ D := fun q => by rw [q, e] at ht'; cases ht'
    have T3 : Tups G2 (upd (upd G2 t' (.tup [.int 0, .str ⟨#[c]⟩, .int 0])) D (.lst (ts.map V.ref ++ [.ref t']))) := Tups.upd (Tups.of S3) (not_tupL ⟨_, e2⟩)
    have hc2 : z.cps.toList[i]? = some c := by rw [Array.getElem?_toList]; exact hc
    unfold everyM at P ⊢
    rw [List.take_add_one, hc2, List.map_append]
    exact (P.keep T3).append (.cons (by rw [upd_ne ntD, upd_same]; rfl) .nil)
  rintro G1 ⟨SG, tz, eD, PD⟩
  have ezl : z.cps.toList.take z.cps.size = z.cps.toList := List.take_length
  rw [ezl] at PD
  have ev : ∀ c ∈ z.cps.toList, oddC c = false := fo_even f0
  have SA := (S1.trans S2).trans SG
  have lz : (everyM z.cps.toList).length = z.length := by
    unfold everyM
    rw [List.length_map]
    rfl
  refine lot_made (ls := [0]) (SG _ _ el) ⟨tz, eD, PD⟩ (by show 1 < 64; decide) (by rw [lz]; exact hz) (fun x hx => ?_) (fun m hm => ?_) (fun _ _ _ H' o ls' ms' s1 s2 S ho L => kg f0 H' o ls' ms' s1 s2 (SA.trans S) (SA.free ho) L) (fun o => ?_) (fun _ _ i hi _ no => absurd (every_useful _ i hi) no)
  · have x0 : x = 0 := by
      rcases List.mem_append.mp hx with q | q
      · exact List.mem_singleton.mp q
      · obtain ⟨k, hk, e⟩ := mem_named.mp q
        obtain ⟨c, _, rfl⟩ := List.mem_map.mp hk
        rcases e with e | e
        · exact e
        · exact e
    rw [x0]
    decide
  · obtain ⟨c, _, rfl⟩ := List.mem_map.mp hm
    show (1 : Nat) ≤ 1000000
    decide
  · rcases o with o | o
    · exact absurd (every_states _) o
    · exact absurd (every_leads ev) o
end
end Rz

namespace Rz
open PySem PySem.Spec PyProof.Rows L2
/-! ### the states and moves of given texts -/
theorem str_eq {x y : Str} (h : x.cps.toList = y.cps.toList) : x = y := by
  obtain ⟨a⟩ := x
  obtain ⟨b⟩ := y
  exact congrArg Str.mk (Array.toList_inj.mp h)
theorem pre_full (x : Str) : pre x x.length = x := str_eq (by rw [pre_list]; exact List.take_length)
theorem pre_zero (x : Str) : pre x 0 = "" := rfl
theorem pre_pre {x : Str} {k n : Nat} (h : n ≤ k) : pre (pre x k) n = pre x n := str_eq (by rw [pre_list, pre_list, pre_list, List.take_take, Nat.min_eq_left h])
theorem len_zero {x : Str} (h : x.length = 0) : x = "" := str_eq (by
  have : x.cps.toList.length = 0 := h
  rw [List.eq_nil_of_length_eq_zero this]
  rfl)
def ix (ys : List Str) (y : Str) : Nat := ys.idxOf y
def par (y : Str) : Str := pre y (y.length - 1)
def lastS (y : Str) : Str := ⟨#[y.cps.toList.getLastD 0]⟩
def trieM (ys : List Str) : List Mv := (ys.filter fun y => decide (y.length ≠ 0)).map fun y => ((ix ys (par y) : Nat), lastS y, (ix ys y : Nat))
def trieL (xs ys : List Str) : List Int := xs.map fun x => ((ix ys x : Nat) : Int)
theorem ix_lt {ys : List Str} {y : Str} (h : y ∈ ys) : ix ys y < ys.length := List.idxOf_lt_length_of_mem h
theorem ix_at {ys : List Str} {y : Str} (h : y ∈ ys) : ys[ix ys y]? = some y := by
  rw [List.getElem?_eq_getElem (ix_lt h)]
  exact congrArg some (List.getElem_idxOf (ix_lt h))
theorem ix_inj {ys : List Str} {x y : Str} (hx : x ∈ ys) (hy : y ∈ ys) (e : ix ys x = ix ys y) : x = y := by
  have a := ix_at hx
  rw [e, ix_at hy] at a
  exact (Option.some.inj a).symm
theorem ix_nth {ys : List Str} (nd : ys.Nodup) {i : Nat} {y : Str} (h : ys[i]? = some y) : ix ys y = i := by
  have hm := List.mem_of_getElem? h
  have a := ix_at hm
  have l1 := ix_lt hm
  have l2 := (List.getElem?_eq_some_iff.mp h).1
  rw [List.getElem?_eq_getElem l1] at a
  rw [List.getElem?_eq_getElem l2] at h
  exact (List.getElem_inj nd).mp ((Option.some.inj a).trans (Option.some.inj h).symm)
/-- the beginnings of the texts xs, in their order -/
structure Trie (xs ys : List Str) : Prop where
  ne : xs ≠ []
  mem : ∀ y, y ∈ ys ↔ y ∈ begs xs
  nd : ys.Nodup
  ord : BegOrd ys
  even : ∀ x ∈ xs, fo x = none
section
variable {xs ys : List Str}
theorem Trie.self (t : Trie xs ys) {x : Str} (h : x ∈ xs) : x ∈ ys := (t.mem x).mpr (mem_begs.mpr ⟨x, h, x.length, Nat.le_refl _, (pre_full x).symm⟩)
theorem Trie.down (t : Trie xs ys) {y : Str} (h : y ∈ ys) {n : Nat} (hn : n ≤ y.length) : pre y n ∈ ys := by
  obtain ⟨x, hx, k, hk, rfl⟩ := mem_begs.mp ((t.mem y).mp h)
  rw [pre_len hk] at hn
  rw [pre_pre hn]
  exact (t.mem _).mpr (mem_begs.mpr ⟨x, hx, n, Nat.le_trans hn hk, rfl⟩)
theorem Trie.empty (t : Trie xs ys) : ("" : Str) ∈ ys := by
  cases e : xs with
  | nil => exact absurd e t.ne
  | cons x r =>
    have := t.down (t.self (show x ∈ xs by rw [e]; exact List.mem_cons_self)) (Nat.zero_le _)
    rwa [pre_zero] at this
theorem Trie.par (t : Trie xs ys) {y : Str} (h : y ∈ ys) : Rz.par y ∈ ys := t.down h (Nat.sub_le _ _)
theorem Trie.first (t : Trie xs ys) : ix ys "" = 0 := by
  have h := t.empty
  have o := t.ord
  unfold ix
  cases e : ys with
  | nil => rw [e] at h; cases h
  | cons a r =>
    rw [e] at o h
    have q := (List.pairwise_cons.mp o).1
    rcases List.mem_cons.mp h with z | z
    · rw [z]
      exact List.idxOf_cons_self
    · have e2 : a = "" := by
        have e0 : ("" : Str).length = 0 := rfl
        rcases q "" z with k | ⟨k, _⟩
        · rw [e0] at k
          omega
        · exact len_zero (k.trans e0)
      rw [e2]
      exact List.idxOf_cons_self
theorem Trie.pos (t : Trie xs ys) : 1 ≤ ys.length := List.length_pos_of_mem t.empty
theorem trieM_mem {m : Mv} : m ∈ trieM ys ↔ ∃ y ∈ ys, y.length ≠ 0 ∧ m = (((ix ys (par y) : Nat) : Int), lastS y, ((ix ys y : Nat) : Int)) := by
  unfold trieM
  rw [List.mem_map]
  constructor
  · rintro ⟨y, hy, rfl⟩
    obtain ⟨h1, h2⟩ := List.mem_filter.mp hy
    exact ⟨y, h1, of_decide_eq_true h2, rfl⟩
  · rintro ⟨y, h1, h2, rfl⟩
    exact ⟨y, List.mem_filter.mpr ⟨h1, decide_eq_true h2⟩, rfl⟩
theorem Trie.states (t : Trie xs ys) (h : ys.length ≤ 40) : okStates ys.length (trieL xs ys) (trieM ys) := by
  have p := t.pos
  refine ⟨⟨by omega, by omega⟩, fun x hx => ?_, fun m hm => ?_⟩
  · obtain ⟨y, hy, rfl⟩ := List.mem_map.mp hx
    have := ix_lt (t.self hy)
    exact ⟨by omega, by omega⟩
  · obtain ⟨y, hy, _, rfl⟩ := trieM_mem.mp hm
    have a := ix_lt hy
    have b := ix_lt (t.par hy)
    exact ⟨⟨by show (0 : Int) ≤ (ix ys (Rz.par y) : Nat); omega, by show ((ix ys (Rz.par y) : Nat) : Int) < _; omega⟩, by show (0 : Int) ≤ (ix ys y : Nat); omega, by show ((ix ys y : Nat) : Int) < _; omega⟩
theorem last_split {y : Str} (h : y.length ≠ 0) : y.cps.toList = (par y).cps.toList ++ [y.cps.toList.getLastD 0] := by
  unfold par
  rw [pre_list]
  have ln : y.cps.toList.length = y.length := rfl
  rw [← ln] at h ⊢
  generalize y.cps.toList = l at h ⊢
  cases l with
  | nil => exact absurd rfl h
  | cons a r =>
    rw [← List.dropLast_eq_take]
    have e := List.dropLast_concat_getLast (l := a :: r) (by simp)
    rw [List.getLastD_eq_getLast?, List.getLast?_eq_some_getLast (by simp)]
    exact e.symm
theorem Trie.leads (t : Trie xs ys) : okLeads (trieM ys) := by
  refine ⟨fun m hm => ?_, fun a ha b hb e => ?_⟩
  · obtain ⟨y, hy, h0, rfl⟩ := trieM_mem.mp hm
    obtain ⟨x, hx, k, hk, rfl⟩ := mem_begs.mp ((t.mem y).mp hy)
    refine sg_one (fo_even (t.even x hx) _ ?_)
    have e := last_split h0
    have m : (pre x k).cps.toList.getLastD 0 ∈ (pre x k).cps.toList := by
      rw [e]
      simp
    rw [pre_list] at m
    exact List.mem_of_mem_take m
  · obtain ⟨y, hy, hy0, rfl⟩ := trieM_mem.mp ha
    obtain ⟨z, hz, hz0, rfl⟩ := trieM_mem.mp hb
    unfold leadK at e
    simp only [List.cons.injEq, Sum.inl.injEq, Sum.inr.injEq, and_true] at e
    have e1 : Rz.par y = Rz.par z := ix_inj (t.par hy) (t.par hz) (by have := e.1; omega)
    have e2 : y.cps.toList.getLastD 0 = z.cps.toList.getLastD 0 := by
      have q := congrArg (fun s : Str => s.cps.toList) e.2
      have q2 : [y.cps.toList.getLastD 0] = [z.cps.toList.getLastD 0] := q
      exact (List.cons.inj q2).1
    have e3 : y = z := str_eq (by rw [last_split hy0, last_split hz0, e1, e2])
    rw [e3]
theorem succs_in {ps : List Lk} {p : Lk} (h : p ∈ ps) : p.2 ∈ succs ps p.1 := by
  unfold succs
  exact List.mem_map.mpr ⟨p, List.mem_filter.mpr ⟨h, by simp⟩, rfl⟩
theorem Trie.link (t : Trie xs ys) {x : Str} (hx : x ∈ ys) {n : Nat} (hn : n + 1 ≤ x.length) : (((ix ys (pre x n) : Nat) : Int), lastS (pre x (n + 1)), ((ix ys (pre x (n + 1)) : Nat) : Int)) ∈ trieM ys := by
  refine trieM_mem.mpr ⟨pre x (n + 1), t.down hx hn, by rw [pre_len hn]; omega, ?_⟩
  have e : Rz.par (pre x (n + 1)) = pre x n := by
    unfold Rz.par
    rw [pre_len hn, pre_pre (by omega)]
    rfl
  rw [e]
theorem Trie.there (t : Trie xs ys) {x : Str} (hx : x ∈ ys) : ∀ n, n ≤ x.length → Reach (fwd (trieM ys)) [0] ((ix ys (pre x n) : Nat) : Int)
  | 0, _ => by
    rw [pre_zero, t.first]
    exact .start (by simp)
  | n + 1, h => .step (t.there hx n (by omega)) (by
    have q := t.link hx h
    have m : (((ix ys (pre x n) : Nat) : Int), ((ix ys (pre x (n + 1)) : Nat) : Int)) ∈ fwd (trieM ys) := List.mem_map.mpr ⟨_, q, rfl⟩
    exact succs_in m)
theorem Trie.back (t : Trie xs ys) {x : Str} (hx : x ∈ xs) : ∀ k, k ≤ x.length → Reach (bwd (trieM ys)) (trieL xs ys) ((ix ys (pre x (x.length - k)) : Nat) : Int)
  | 0, _ => by
    rw [Nat.sub_zero, pre_full]
    exact .start (List.mem_map.mpr ⟨x, hx, rfl⟩)
  | k + 1, h => .step (t.back hx k (by omega)) (by
    have q := t.link (t.self hx) (n := x.length - (k + 1)) (by omega)
    have e : x.length - (k + 1) + 1 = x.length - k := by omega
    rw [e] at q
    have m : (((ix ys (pre x (x.length - k)) : Nat) : Int), ((ix ys (pre x (x.length - (k + 1))) : Nat) : Int)) ∈ bwd (trieM ys) := List.mem_map.mpr ⟨_, q, rfl⟩
    exact succs_in m)
theorem Trie.use (t : Trie xs ys) {i : Nat} (hi : i < ys.length) : useful (trieL xs ys) (trieM ys) i := by
  have hy : ys[i]? = some ys[i] := List.getElem?_eq_getElem hi
  generalize ys[i] = y at hy
  have hm := List.mem_of_getElem? hy
  have e := ix_nth t.nd hy
  obtain ⟨x, hx, k, hk, e2⟩ := mem_begs.mp ((t.mem y).mp hm)
  have a := t.there hm y.length (Nat.le_refl _)
  rw [pre_full, e] at a
  have b := t.back hx (x.length - k) (by omega)
  rw [show x.length - (x.length - k) = k by omega, ← e2, e] at b
  exact ⟨a, b⟩
end
end Rz

namespace Rz
open PySem PySem.Spec PyProof.Rows L2
theorem par_cut (y : Str) : cutS y none (some (-1)) = par y := by
  unfold cutS par pre
  rw [HT.sIx_none, List.drop_zero, Nat.sub_zero]
  have e : HT.sIx y.length y.length (some (-1)) = y.length - 1 := by
    show (if (-1 : Int) < 0 then ((-1 : Int) + (y.length : Int)).toNat else min (-1 : Int).toNat y.length) = _
    rw [if_pos (by decide)]
    omega
  rw [e]
theorem last_at {y : Str} (h : y.length ≠ 0) : atI y.cps.toList (-1) = some (y.cps.toList.getLastD 0) := by
  have q := atI_last (par y).cps.toList (y.cps.toList.getLastD 0)
  rwa [← last_split h] at q
theorem begs_size (xs : List Str) : xs.length ≤ (begs xs).length := by
  have go : ∀ i, i ≤ xs.length → i ≤ (begs (xs.take i)).length := by
    intro i
    induction i with
    | zero => intro _; exact Nat.zero_le _
    | succ i ih =>
      intro h
      have hx : xs[i]? = some xs[i] := List.getElem?_eq_getElem h
      generalize xs[i] = x at hx
      rw [List.take_add_one, hx]
      have e : begs (xs.take i ++ (some x).toList) = begs (xs.take i) ++ begs1 x (x.length + 1) := begs_snoc _ _
      have l : (begs1 x (x.length + 1)).length = x.length + 1 := by unfold begs1; rw [List.length_map, List.length_range]
      rw [e, List.length_append, l]
      have := ih (by omega)
      omega
  have := go xs.length (Nat.le_refl _)
  rwa [List.take_length] at this
/-- what Lot.only(..) wants, its texts in a tuple -/
def OnlyW (cB cS cL : Addr) (xs : List Str) (H : Hp) (Q : VK) (E : XK) : Prop := xs.length ≤ 10 ∧ (∀ x ∈ xs, x.length ≤ 1000000) ∧ ((∀ x ∈ xs, fo x = none) → (begs xs).length < 64) ∧
  (xs = [] → ∀ H', Same H H' → E (.ref cB) none H') ∧
  (∀ (i : Nat) (x : Str) (j : Nat), xs[i]? = some x → (∀ (k : Nat) (z : Str), k < i → xs[k]? = some z → fo z = none) → fo x = some j → ∀ H' d, Same H H' → H d = none → H' d = some (.xd [("at", .int (j : Nat))]) → E (.ref cS) (some d) H') ∧
  (∀ ys : List Str, Trie xs ys → (40 < ys.length → ∀ H', Same H H' → E (.ref cB) none H') ∧
    (ys.length ≤ 40 → ∀ H' o ls' ms', SrtI (trieL xs ys) ls' → SrtM (trieM ys) ms' → Same H H' → H o = none → LtAt cL H' o ys.length ls' ms' (Lead (trieM ys)) → Q (.ref o) H'))
theorem OnlyW.same {cB cS cL : Addr} {xs : List Str} {H H' : Hp} {Q : VK} {E : XK} (S : Same H H') (h : OnlyW cB cS cL xs H Q E) : OnlyW cB cS cL xs H' Q E :=
  let ⟨h1, h2, h3, h4, h5, h6⟩ := h
  ⟨h1, h2, h3, fun e G SG => h4 e G (S.trans SG), fun i x j a b c G d SG hd e => h5 i x j a b c G d (S.trans SG) (S.free hd) e, fun ys t => ⟨fun l G SG => (h6 ys t).1 l G (S.trans SG), fun l G o ls ms s1 s2 SG ho L => (h6 ys t).2 l G o ls ms s1 s2 (S.trans SG) (S.free ho) L⟩⟩
def sp_Lot_only (cB cS cL : Addr) : Sp := fun vs H Q E => ∃ xs : List Str, vs = V.ref cL :: xs.map V.str ∧ OnlyW cB cS cL xs H Q E
section
variable {w : World} {K : PySem.W.Frag} {mg : Str → Option Value} {base : Heap}
theorem sc_Lot_only : FnScope N_Lot_only P_Lot_only (defScope s_Lot_only) := ⟨rfl, rfl, rfl, by decide +kernel, rfl, by decide +kernel, by decide +kernel⟩
theorem ok_Lot_only (T : Txt K mg) : FnR prg w K mg base (L2.CX prg w) 7 T.f_Lot_only (sp_Lot_only T.c_BadLot T.c_BadSign T.c_Lot) := by
  obtain ⟨oc, od, kV, doc, pm, an, cdv, ct, osl, efd, lk, hcd⟩ := T.F_Lot_only.ex
  rw [efd] at lk
  refine FnR.imp (StX.fn_star (ps := ["cls"]) (pv := "texts") (k := 6) lk hcd sc_Lot_only StX.cxUp (StX.bind_star1 (B := fun us => bindArgs (PySem.W.fnOf "only" "Lot.only" (defArgs s_Lot_only) (defBody s_Lot_only) (defScope s_Lot_only) .none kV doc pm an cdv ct) ⟨us, []⟩) (p1 := "cls") (pv := "texts") (fun a => rfl) (fun a r rs => rfl)) (sp := fun vs H Q E => ∃ (t : Addr) (xs : List Str), vs = [.ref T.c_Lot, .ref t] ∧ H t = some (.tup (xs.map V.str)) ∧ OnlyW T.c_BadLot T.c_BadSign T.c_Lot xs H Q E) (fun A outer s H vs Q E hr h => ?_)) (fun vs H Q E h => ?_)
  · obtain ⟨t, xs, rfl, ht, h10, hz, hbg, kE, kS, kT⟩ := h
    have nd := sc_Lot_only.nd
    have tk : Takes (cxOf (L2.CX prg w) prg w K mg base N_Lot_only "Lot.only" (defScope s_Lot_only) T.f_Lot_only cdv A outer s H E) (fun cls d _ H' => E cls d H') := takes_of rfl rfl rfl rfl
    have mk : Mk K T.c_Lot T.f_Lot_init := ⟨T.mk_Lot, T.M_Lot_init.at_, T.M_Lot_init.fn, T.kp_Lot⟩
    have hu : (A.deeper (envOfC "Lot.only" (defScope s_Lot_only) s.heap.objs.size T.f_Lot_only cdv)).units + 1 < cLine := by
      have := hr.un
      omega
    refine ⟨_, (pss_cons (ps_if (pt_not (pt_truth (pv 1) (by intro _; rfl))) (pss_one (ps_raise rfl tk (pmk_own PySem.F.excBase_ValueError T.o_BadLot T.m_BadLot T.kp_BadLot (raises_own T.r_BadLot T.t_BadLot) rfl))) pss_nil)
      (pss_cons (ps_for (passes_of rfl) rfl (pi_tup (pv 1)) (pg_name (i := 2) nd rfl (Or.inl rfl))
        (pss_one (ps_expr (pe_fn (ok_check_text T) (hr.mono (by decide)) (by rfl) T.m_check_text T.F_check_text.kp T.b_check_text .nil (passAt tk) (pa_cons (pv 2) pa_nil)))))
      (pss_cons (ps_set (i := 3) nd rfl (Or.inl rfl) (pe_fn (ok_beginnings_of T) (hr.mono (by decide)) (by rfl) T.m__beginnings_of T.F__beginnings_of.kp T.b__beginnings_of .nil (fun _ => atN _) (pa_cons (pv 1) pa_nil)))
      (pss_cons (ps_set (i := 5) nd rfl (Or.inr rfl) (pe_dc (own := [("text", 2), ("number", 4)]) (g := gTup K 2 (gCons (gName 4) (gCons (gName 2) gNil))) (tt := tYes) rfl nd (pi_enum (by rfl) T.n_enumerate (pa_cons (pv 3) pa_nil)) (blkOk_by (N := N_Lot_only) (sc := defScope s_Lot_only) (by decide +kernel)) (fun _ _ _ _ _ => (pg_tup rfl (pgs_cons (pg_name (i := 4) nd rfl (Or.inl rfl)) (pgs_cons (pg_name (i := 2) nd rfl (Or.inl rfl)) pgs_nil)))) (fun _ _ _ _ _ => pts_nil) (fun _ _ _ _ _ => pv 2) (fun _ _ _ _ _ => pv 4)))
      (pss_cons (ps_setLc (i := 6) (own := [("text", 2)]) (g := (gName 2)) (tt := tYes) rfl nd rfl rfl (sw_true rfl rfl rfl (by decide +kernel)) (pi_tup (pv 1)) (blkOk_by (N := N_Lot_only) (sc := defScope s_Lot_only) (by decide +kernel)) (fun _ _ _ _ _ => (pg_name (i := 2) nd rfl (Or.inl rfl))) (fun _ _ _ _ _ => pts_nil) (fun _ _ _ _ _ => (pe_dget hu (pv 5) (pv 2) (fun _ _ => rfl))))
      (pss_cons (ps_setLc (i := 7) (own := [("text", 2)]) (g := (gName 2)) (tt := tTruN K 2) rfl nd rfl rfl (sw_true rfl rfl rfl (by decide +kernel)) (pi_list (pv 3)) (blkOk_by (N := N_Lot_only) (sc := defScope s_Lot_only) (by decide +kernel)) (fun _ _ _ _ _ => (pg_name (i := 2) nd rfl (Or.inl rfl))) (fun _ _ _ _ _ => (pts_one (pt_truth (pv 2) (by intro _; rfl)))) (fun _ _ _ _ _ => (pe_tup (pa_cons (pe_dget hu (pv 5) (pe_slice sl_str (pv 2) po_none (po_some (pe_un un_neg pe_int))) (fun _ _ => rfl)) (pa_cons (pe_ix ix_str (pv 2) (pe_un un_neg pe_int) (fun _ _ => rfl)) (pa_cons (pe_dget hu (pv 5) (pv 2) (fun _ _ => rfl)) pa_nil))))))
      (pss_one (ps_ret (pe_mkSL (i := 0) mk (fnr_of (ok_Lot_init T) T.b_Lot_init) (hr.mono (by decide)) rfl (Or.inl rfl) (passAt tk) (pa_cons (pe_callB call_len_seq (by rfl) T.n_len PySem.boot_len (pa_cons (pv 3) pa_nil)) (pa_cons (pv 6) (pa_cons (pv 7) pa_nil)))))))))))), ?_⟩
    by_cases hne : xs = []
    · subst hne
      exact ⟨_, rfl, false, .inr (.inl ⟨_, SqT.of ht, rfl⟩), iteT (kE rfl H (Same.refl H))⟩
    have e1 : true = !(xs.map V.str).isEmpty := by
      cases xs with
      | nil => exact absurd rfl hne
      | cons a b => rfl
    refine ⟨_, rfl, true, .inr (.inl ⟨_, SqT.of ht, e1⟩), ?_⟩
    refine iteF ⟨_, rfl, t, rfl, ⟨_, SqT.of ht⟩, for_it walk_tup (fun i σ H' => ∃ v2 : Option V, σ = [some (.ref T.c_Lot), some (.ref t), v2, none, none, none, none, none] ∧ Same H H' ∧ ∀ (k : Nat) (z : Str), k < i → xs[k]? = some z → fo z = none)
      ⟨none, rfl, Same.refl H, fun k z hk => absurd hk (Nat.not_lt_zero k)⟩ (fun i σ H' _ ⟨_, _, S, _⟩ => SqT.of (S _ _ ht)) ?_ ?_⟩
    · rintro i y σ H1 H2 hi ⟨v2, rfl, S, ok⟩ ⟨rfl, hy⟩
      rw [List.getElem?_map] at hy
      cases hx : xs[i]? with
      | none => rw [hx] at hy; cases hy
      | some x =>
        rw [hx] at hy
        cases hy
        refine ⟨_, rfl, x, rfl, hz x (List.mem_of_getElem? hx), fun f0 H3 S3 => ⟨_, rfl, S.trans S3, fun k z hk hz2 => ?_⟩, fun j f0 H3 d S3 hd e => kS i x j hx ok f0 H3 d (S.trans S3) (S.free hd) e⟩
        by_cases ek : k < i
        · exact ok k z ek hz2
        · obtain rfl : k = i := by omega
          rw [hx] at hz2
          cases hz2
          exact f0
    rintro σ H1 ⟨v2, rfl, S1, ok⟩
    rw [List.length_map] at ok
    have even : ∀ x ∈ xs, fo x = none := fun x hx => by
      obtain ⟨i, hi⟩ := List.getElem?_of_mem hx
      exact ok i x (List.getElem?_eq_some_iff.mp hi).1 hi
    have hb := hbg even
    refine ⟨_, rfl, t, xs, rfl, S1 _ _ ht, hb, fun H2 p ys S2 hp ep hm ndy oy ly => ?_⟩
    have tr : Trie xs ys := ⟨hne, hm, ndy, oy, even⟩
    have t2 := S2 _ _ (S1 _ _ ht)
    refine ⟨_, rfl, p, _, rfl, SqL.of ep, fun D hD => wk_it walk_enum (fun i H' => Same H2 H' ∧ ∃ kvs : List (Key × V), H' D = some (.dK kvs) ∧ kvs.length ≤ i ∧ ∀ y : Str, valV kvs (.inr y) = if y ∈ ys.take i then some (.int (ix ys y : Nat)) else none) ⟨Rz.Same.new (Same.refl _) hD, [], upd_same, Nat.le_refl _, fun y => by simp [valV]⟩ (fun i H' _ h => SqL.of (h.1 _ _ ep)) ?_ ?_⟩
    · rintro i v G1 G2 hi ⟨S, kvs, e, zk, hv⟩ ⟨U, x, y, rfl, hU, rfl, hx, hy⟩
      have hy : (ys.map V.str)[i]? = some y := hy
      rw [List.getElem?_map] at hy
      cases hy2 : ys[i]? with
      | none => rw [hy2] at hy; cases hy
      | some z =>
        rw [hy2] at hy
        cases hy
        cases hx
        have S3 := Rz.Same.new (o := .tup [.int (i : Nat), .str z]) (Same.refl G1) hU
        rw [List.length_map] at hi
        refine ⟨U, _, rfl, SqT.of upd_same, rfl, _, _, rfl, _, _, rfl, rfl, rfl, yesT ⟨_, rfl, _, rfl, kvs, .inr z, rfl, S3 _ _ e, by rw [sizeLine_eq]; omega, Rz.Same.upd (S.trans S3) hD, _, upd_same, Nat.le_trans (length_putK kvs (.inr z) (.int (i : Nat))) (Nat.succ_le_succ zk), fun y => ?_⟩⟩
        rw [valV_put, hv, List.take_add_one, hy2]
        by_cases ey : (Sum.inr y : Key) = .inr z
        · rw [if_pos ey]
          injection ey with ey
          subst ey
          rw [if_pos (by simp), ix_nth ndy hy2]
        · rw [if_neg ey]
          have nyz : y ≠ z := fun q => ey (by rw [q])
          by_cases m : y ∈ ys.take i
          · rw [if_pos m, if_pos (List.mem_append_left _ m)]
          · rw [if_neg m, if_neg (fun q => (List.mem_append.mp q).elim m fun q => nyz (by simpa using q))]
    rintro H3 ⟨S3, kvs, eD, zk, hv⟩
    rw [List.length_map] at zk hv
    rw [List.take_length] at hv
    have get : ∀ {y : Str}, y ∈ ys → valV kvs (.inr y) = some (.int (ix ys y : Nat)) := fun {y} h => by rw [hv, if_pos h]
    have zb := begs_size xs
    refine ⟨_, rfl, t, rfl, ⟨_, SqT.of (S3 _ _ t2)⟩, fun B hB => lc_it walk_tup (fun i H' => Same H3 H' ∧ H' B = some (.lst ((trieL (xs.take i) ys).map V.int))) ⟨Rz.Same.new (Same.refl _) hB, upd_same⟩ (fun i H' _ h => SqT.of (h.1 _ _ (S3 _ _ t2))) ?_ ?_⟩
    · rintro i y G1 G2 hi ⟨S, e⟩ ⟨rfl, hy⟩
      rw [List.getElem?_map] at hy
      cases hx : xs[i]? with
      | none => rw [hx] at hy; cases hy
      | some x =>
        rw [hx] at hy
        cases hy
        have inx : x ∈ ys := tr.self (List.mem_of_getElem? hx)
        refine ⟨rfl, yesT ⟨_, rfl, _, rfl, D, _, rfl, .inl ⟨kvs, .inr x, .inl (S _ _ eD), rfl, (get inx).symm⟩, _, e, ?_, Rz.Same.upd S hB, ?_⟩⟩
        · unfold trieL
          rw [List.length_map, List.length_map, List.length_take, sizeLine_eq]
          omega
        · rw [upd_same, List.take_add_one, hx]
          unfold trieL
          rw [List.map_append, List.map_append]
          rfl
    rintro H4 ⟨S4, eB⟩
    rw [List.length_map, List.take_length] at eB
    have p4 := S4 _ _ (S3 _ _ ep)
    have D4 := S4 _ _ eD
    refine ⟨_, rfl, p, rfl, ⟨_, SqL.of p4⟩, fun C hC => lc_it walk_list (fun i H' => Same H4 H' ∧ ∃ us : List Addr, H' C = some (.lst (us.map V.ref)) ∧ MvL H' us (((ys.take i).filter fun y => decide (y.length ≠ 0)).map fun y => (((ix ys (par y) : Nat) : Int), lastS y, ((ix ys y : Nat) : Int)))) ⟨Rz.Same.new (Same.refl _) hC, [], upd_same, .nil⟩ (fun i H' _ h => SqL.of (h.1 _ _ p4)) ?_ ?_⟩
    · rintro i v G1 G2 hi ⟨S, us, e, P⟩ ⟨rfl, hy⟩
      rw [List.getElem?_map] at hy
      cases hy2 : ys[i]? with
      | none => rw [hy2] at hy; cases hy
      | some y =>
        rw [hy2] at hy
        cases hy
        have iny : y ∈ ys := List.mem_of_getElem? hy2
        have ly2 : y.length ≤ 1000000 := by
          obtain ⟨x, hx, n, hn, rfl⟩ := mem_begs.mp ((hm y).mp iny)
          have := hz x hx
          rw [pre_len hn]
          omega
        have lus := P.len
        rw [List.length_map] at lus
        have lf := List.length_filter_le (fun y : Str => decide (y.length ≠ 0)) (ys.take i)
        rw [List.length_take] at lf
        have tk1 : ys.take (i + 1) = ys.take i ++ [y] := by rw [List.take_add_one, hy2]; rfl
        refine ⟨rfl, _, rfl, _, ⟨by rw [sizeLine_eq]; omega, rfl⟩, ?_⟩
        by_cases h0 : y.length = 0
        · have e0 : ((y.length : Int) != 0) = false := by rw [h0]; rfl
          rw [e0]
          show if false = true then _ else _
          rw [if_neg (by decide)]
          refine ⟨S, us, e, ?_⟩
          rw [tk1, List.filter_append, List.filter_cons, if_neg (by simpa using h0), List.filter_nil, List.append_nil]
          exact P
        · have e0 : ((y.length : Int) != 0) = true := by simpa using h0
          rw [e0]
          show if true = true then _ else _
          rw [if_pos rfl]
          have ly3 : y.length ≤ sizeLine := by rw [sizeLine_eq]; omega
          refine ⟨_, rfl, _, rfl, _, rfl, _, rfl, y, rfl, ly3, D, _, rfl, .inl ⟨kvs, .inr (par y), .inl (S _ _ D4), congrArg V.str (par_cut y), (get (tr.par iny)).symm⟩, ?_⟩
          refine ⟨_, rfl, _, rfl, y, -1, _, rfl, rfl, ly3, last_at h0, ?_⟩
          refine ⟨_, rfl, _, rfl, D, _, rfl, .inl ⟨kvs, .inr y, .inl (S _ _ D4), rfl, (get iny).symm⟩, by show 3 ≤ sizeLine; decide, fun u hu => ?_⟩
          have S6 := Rz.Same.new (o := .tup [.int (ix ys (par y) : Nat), .str (lastS y), .int (ix ys y : Nat)]) (Same.refl G2) hu
          have e2 := S6 _ _ e
          refine ⟨_, e2, by rw [List.length_map, sizeLine_eq]; omega, Rz.Same.upd (S.trans S6) hC, us ++ [u], by rw [upd_same, List.map_append]; rfl, ?_⟩
          have nuC : u ≠ C := fun q => by rw [q, e] at hu; cases hu
          have T3 : Tups G2 (upd (upd G2 u (.tup [.int (ix ys (par y) : Nat), .str (lastS y), .int (ix ys y : Nat)])) C (.lst (us.map V.ref ++ [.ref u]))) := Tups.upd (Tups.of S6) (not_tupL ⟨_, e2⟩)
          rw [tk1, List.filter_append, List.filter_cons, if_pos (by simpa using h0), List.filter_nil, List.map_append]
          exact (P.keep T3).append (.cons (by rw [upd_ne nuC, upd_same]; rfl) .nil)
    rintro H5 ⟨S5, us, eC, PC⟩
    rw [List.length_map, List.take_length] at PC
    have PC : MvL H5 us (trieM ys) := PC
    have SA := (((S1.trans S2).trans S3).trans S4).trans S5
    have lM : (trieM ys).length ≤ ys.length := by
      unfold trieM
      rw [List.length_map]
      exact List.length_filter_le _ _
    have lL : (trieL xs ys).length = xs.length := by unfold trieL; rw [List.length_map]
    have bound : ∀ y, y ∈ ys → ((ix ys y : Nat) : Int).natAbs < 2 ^ 64 := fun y hy => by
      have := ix_lt hy
      have : ((ix ys y : Nat) : Int).natAbs = ix ys y := Int.natAbs_natCast _
      omega
    refine ⟨rfl, _, rfl, p, _, rfl, .inl (SqL.of (S5 _ _ p4)), _, rfl, _, rfl, ?_⟩
    rw [List.length_map]
    refine lot_made (ls := trieL xs ys) (S5 _ _ eB) ⟨us, eC, PC⟩ (by omega) (by omega) (fun x hx => ?_) (fun m hm2 => ?_) (fun os _ _ H' o ls' ms' s1 s2 S ho L => (kT ys tr).2 (by have := os.1.2; omega) H' o ls' ms' s1 s2 (SA.trans S) (SA.free ho) L) (fun o H' S => (kT ys tr).1 ?_ H' (SA.trans S)) (fun _ _ i hi _ no => absurd (tr.use (by omega)) no)
    · rcases List.mem_append.mp hx with q | q
      · obtain ⟨y, hy, rfl⟩ := List.mem_map.mp q
        exact bound y (tr.self hy)
      · obtain ⟨k, hk, e⟩ := mem_named.mp q
        obtain ⟨y, hy, _, rfl⟩ := trieM_mem.mp hk
        rcases e with e | e
        · rw [e]
          exact bound _ (tr.par hy)
        · rw [e]
          exact bound _ hy
    · obtain ⟨y, hy, _, rfl⟩ := trieM_mem.mp hm2
      show (1 : Nat) ≤ 1000000
      decide
    · rcases o with o | o
      · rcases Nat.lt_or_ge 40 ys.length with q | q
        · exact q
        · exact absurd (tr.states q) o
      · exact absurd tr.leads o
  · obtain ⟨xs, rfl, h⟩ := h
    refine ⟨[.ref T.c_Lot], xs.map V.str, rfl, rfl, ?_, fun p hp => ⟨p, xs, rfl, upd_same, h.same (Rz.Same.new (Same.refl H) hp)⟩⟩
    have := h.1
    rw [List.length_map, sizeLine_eq]
    omega
end
end Rz

namespace Rz
open PySem PySem.Spec PyProof.Rows L2
def sp_Lot_states (cL : Addr) : Sp := fun vs H Q _ => ∃ (o dx : Addr) (n : Int) (l m d : Addr), vs = [.ref o] ∧ H o = some (.ins cL dx (lotF n l m d)) ∧ Q (.int n) H
section
variable {w : World} {K : PySem.W.Frag} {mg : Str → Option Value} {base : Heap}
theorem sc_Lot_states : FnScope N_Lot_states P_Lot_states (defScope s_Lot_states) := ⟨rfl, rfl, rfl, by decide +kernel, rfl, by decide +kernel, by decide +kernel⟩
theorem ok_Lot_states (T : Txt K mg) : FnOk prg w K mg base (L2.CX prg w) 1 T.f_Lot_states T.fd_Lot_states P_Lot_states (sp_Lot_states T.c_Lot) := by
  refine Rz.Fun.okN T.F_Lot_states sc_Lot_states (fun vs H Q E h => ?_) (fun cdv A outer s H vs Q E hr h => ?_)
  · obtain ⟨o, dx, n, l, m, d, rfl, _⟩ := h
    rfl
  obtain ⟨o, dx, n, l, m, d, rfl, ho, k⟩ := h
  have nd := sc_Lot_states.nd
  refine ⟨_, (pss_one (ps_ret (pe_fld (pv 0) rfl))), ?_⟩
  exact ⟨_, rfl, o, _, dx, _, _, rfl, ho, T.cl_Lot, T.na_Lot__states, rfl, k⟩
end
end Rz

namespace Rz
open PySem PySem.Spec PyProof.Rows L2
def sp_Lot_last (cL : Addr) : Sp := fun vs H Q _ => ∃ (o : Addr) (n : Int) (ls : List Int) (ms : List Mv) (f : List Key → Option Int), vs = [.ref o] ∧ LtAt cL H o n ls ms f ∧ ∀ H' l, Same H H' → H l = none → H' l = some (.lst (ls.map V.int)) → Q (.ref l) H'
section
variable {w : World} {K : PySem.W.Frag} {mg : Str → Option Value} {base : Heap}
theorem sc_Lot_last : FnScope N_Lot_last P_Lot_last (defScope s_Lot_last) := ⟨rfl, rfl, rfl, by decide +kernel, rfl, by decide +kernel, by decide +kernel⟩
theorem ok_Lot_last (T : Txt K mg) : FnOk prg w K mg base (L2.CX prg w) 1 T.f_Lot_last T.fd_Lot_last P_Lot_last (sp_Lot_last T.c_Lot) := by
  refine Rz.Fun.okN T.F_Lot_last sc_Lot_last (fun vs H Q E h => ?_) (fun cdv A outer s H vs Q E hr h => ?_)
  · obtain ⟨o, n, ls, ms, f, rfl, _⟩ := h
    rfl
  obtain ⟨o, n, ls, ms, f, rfl, ⟨dx, l, m, d, kvs, ho, hl, _⟩, k⟩ := h
  have nd := sc_Lot_last.nd
  refine ⟨_, (pss_one (ps_ret (pe_callTy call_listS (by rfl) T.n_list (by decide +kernel) (pa_cons (pe_fld (pv 0) rfl) pa_nil)))), ?_⟩
  unfold rListS
  exact ⟨_, rfl, o, _, dx, _, _, rfl, ho, T.cl_Lot, T.na_Lot__last, rfl, l, _, rfl, SqL.of hl, fun q hq => k _ q (Rz.Same.new (Same.refl H) hq) hq upd_same⟩
end
end Rz

namespace Rz
open PySem PySem.Spec PyProof.Rows L2
def sp_Lot_moves (cL : Addr) : Sp := fun vs H Q _ => ∃ (o : Addr) (n : Int) (ls : List Int) (ms : List Mv) (f : List Key → Option Int), vs = [.ref o] ∧ LtAt cL H o n ls ms f ∧ ∀ H' l, Same H H' → H l = none → MAt H' l ms → Q (.ref l) H'
section
variable {w : World} {K : PySem.W.Frag} {mg : Str → Option Value} {base : Heap}
theorem sc_Lot_moves : FnScope N_Lot_moves P_Lot_moves (defScope s_Lot_moves) := ⟨rfl, rfl, rfl, by decide +kernel, rfl, by decide +kernel, by decide +kernel⟩
theorem ok_Lot_moves (T : Txt K mg) : FnOk prg w K mg base (L2.CX prg w) 1 T.f_Lot_moves T.fd_Lot_moves P_Lot_moves (sp_Lot_moves T.c_Lot) := by
  refine Rz.Fun.okN T.F_Lot_moves sc_Lot_moves (fun vs H Q E h => ?_) (fun cdv A outer s H vs Q E hr h => ?_)
  · obtain ⟨o, n, ls, ms, f, rfl, _⟩ := h
    rfl
  obtain ⟨o, n, ls, ms, f, rfl, ⟨dx, l, m, d, kvs, ho, _, ⟨ts, hm, P⟩, _⟩, k⟩ := h
  have nd := sc_Lot_moves.nd
  refine ⟨_, (pss_one (ps_ret (pe_callTy call_listS (by rfl) T.n_list (by decide +kernel) (pa_cons (pe_fld (pv 0) rfl) pa_nil)))), ?_⟩
  unfold rListS
  exact ⟨_, rfl, o, _, dx, _, _, rfl, ho, T.cl_Lot, T.na_Lot__moves, rfl, m, _, rfl, SqL.of hm, fun q hq => k _ q (Rz.Same.new (Same.refl H) hq) hq ⟨ts, upd_same, P.keep (Tups.of (Rz.Same.new (Same.refl H) hq))⟩⟩
end
end Rz

namespace Rz
open PySem PySem.Spec PyProof.Rows L2
def sp_law_pool (K : PySem.W.Frag) : Sp := fun vs H Q _ => ∃ (a : Addr) (ns : List Int), vs = [.ref a] ∧ SqL K H a (ns.map V.int) ∧ ns.length ≤ 63 ∧ ∀ H' d, Same H H' → H d = none → Dr H' d → Q (.ref d) H'
section
variable {w : World} {K : PySem.W.Frag} {mg : Str → Option Value} {base : Heap}
theorem sc_law_pool : FnScope N__law_pool P__law_pool (defScope s__law_pool) := ⟨rfl, rfl, rfl, by decide +kernel, rfl, by decide +kernel, by decide +kernel⟩
theorem ok_law_pool (T : Txt K mg) : FnOk prg w K mg base (L2.CX prg w) 1 T.f__law_pool T.fd__law_pool P__law_pool (sp_law_pool K) := by
  refine Rz.Fun.okN T.F__law_pool sc_law_pool (fun vs H Q E h => ?_) (fun cdv A outer s H vs Q E hr h => ?_)
  · obtain ⟨a, ns, rfl, _⟩ := h
    rfl
  obtain ⟨a, ns, rfl, hS, hlen, k⟩ := h
  have nd := sc_law_pool.nd
  refine ⟨_, pss_cons (ps_set (i := 1) nd rfl (Or.inl rfl) (pe_lst pa_nil)) (pss_cons (ps_set (i := 2) nd rfl (Or.inl rfl) pe_int)
    (pss_cons (ps_for PassesOwn.never rfl (pi_list (pv 0)) (pg_name (i := 3) nd rfl (Or.inl rfl))
      (pss_cons (ps_set (i := 4) nd rfl (Or.inl rfl) (pe_callB call_abs (by rfl) T.n_abs (by decide +kernel) (pa_cons (pv 3) pa_nil)))
      (pss_cons (ps_set (i := 2) nd rfl (Or.inl rfl) (pe_op op_mod (pe_callTy call_int1 (by rfl) T.n_int (by decide +kernel) (pa_cons (pe_op op_add (pe_op op_mul (pv 2) pe_int) (pv 4)) pa_nil)) pe_int))
      (pss_one (ps_if (pt_cmpR op_lt (pv 4) (pe_op op_pow pe_int pe_int) (nomark _))
        (pss_one (ps_expr (pe_bm PySem.F.plainAttrs_list PySem.F.slot_list_append PySem.F.type_list_append mt_append (pv 1) (pa_cons (pv 4) pa_nil))))
        (pss_one (ps_for PassesOwn.never rfl (pi_range1 rfl T.n_range (pa_cons pe_int pa_nil)) (pg_name (i := 5) nd rfl (Or.inl rfl))
          (pss_one (ps_if (pt_cmpR op_gt (pv 4) pe_int (nomark _))
            (pss_cons (ps_expr (pe_bm PySem.F.plainAttrs_list PySem.F.slot_list_append PySem.F.type_list_append mt_append (pv 1) (pa_cons (pe_op op_mod (pe_callTy call_int1 (by rfl) T.n_int (by decide +kernel) (pa_cons (pv 4) pa_nil)) pe_int) pa_nil)))
              (pss_one (ps_set (i := 4) nd rfl (Or.inl rfl) (pe_op op_fdiv (pv 4) pe_int))))
            pss_nil)))))))))
    (pss_cons (ps_for PassesOwn.never rfl (pi_range1 rfl T.n_range (pa_cons pe_int pa_nil)) (pg_name (i := 5) nd rfl (Or.inl rfl))
      (pss_cons (ps_set (i := 6) nd rfl (Or.inl rfl) (pe_op op_mod (pe_callTy call_int1 (by rfl) T.n_int (by decide +kernel) (pa_cons (pe_op op_mul (pe_op op_add (pv 2) pe_int) (pe_op op_add (pe_op op_fdiv (pe_op op_add (pe_op op_mul (pe_op op_mul pe_int (pv 5)) (pv 5)) (pe_op op_mul pe_int (pv 5))) pe_int) pe_int)) pa_nil)) pe_int))
        (pss_one (ps_expr (pe_bm PySem.F.plainAttrs_list PySem.F.slot_list_append PySem.F.type_list_append mt_append (pv 1) (pa_cons (pe_op op_mod (pe_callTy call_int1 (by rfl) T.n_int (by decide +kernel) (pa_cons (pe_op op_add (pe_op op_mul (pv 6) (pv 6)) (pv 5)) pa_nil)) pe_int) pa_nil))))))
    (pss_one (ps_ret (pv 1)))))), ?_⟩
  refine ⟨Nat.zero_le _, fun d hd => ?_⟩
  have S0 : Same H (upd H d (.lst [])) := Rz.Same.new (Same.refl H) hd
  refine ⟨_, rfl, a, rfl, ⟨_, S0.seq hS⟩, for_list (K := K) (a := a) (xs := ns.map V.int) (fun i σ H' => ∃ (ks : List Int) (sd : Int) (v3 v4 v5 v6 : Option V), σ = [some (.ref a), some (.ref d), some (.int sd), v3, v4, v5, v6] ∧ Same H H' ∧ H' d = some (.lst (ks.map V.int)) ∧ ks.length ≤ i * 60 ∧ 0 ≤ sd ∧ sd < 1009)
    ⟨[], 0, none, none, none, none, rfl, S0, upd_same, Nat.le_refl _, by omega, by omega⟩ (fun i σ H' _ ⟨_, _, _, _, _, _, _, R, _⟩ => R.seq hS) ?_ ?_⟩
  · rintro i y σ H' hi ⟨ks, sd, v3, v4, v5, v6, rfl, R, hK, hl, h0, h1⟩
    obtain ⟨u, hu, rfl⟩ := mapi_get hi
    have hi63 : i < ns.length := (List.getElem?_eq_some_iff.mp hu).1
    refine ⟨_, rfl, u, rfl, ?_⟩
    refine ⟨_, rfl, _, _, rfl, rfl, .inl ⟨by omega, by omega⟩, _, rfl, _, _, rfl, rfl, .inl ⟨_, rfl, _, _, rfl, rfl, (by show (0 : Int) < 1009; decide), ?_⟩⟩
    refine ⟨_, rfl, _, _, rfl, rfl, ⟨by decide, by decide, by decide⟩, _, _, rfl, rfl, _, rfl, ?_⟩
    generalize (if u < 0 then -u else u) = r
    have b0 : 0 ≤ (sd * 31 + r) % 1009 := by omega
    have b1 : (sd * 31 + r) % 1009 < 1009 := by omega
    refine ite2 (fun _ => ?_) (fun _ => ?_)
    · refine ⟨_, rfl, .inl ⟨rfl, _, SqL.of hK⟩, _, rfl, d, _, _, rfl, rfl, hK, (by rw [List.length_map, sizeLine_eq]; omega), ?_⟩
      exact ⟨ks ++ [r], (sd * 31 + r) % 1009, _, _, _, _, rfl, Rz.Same.upd R hd, by rw [upd_same, List.map_append]; rfl, by rw [List.length_append, List.length_singleton]; omega, b0, b1⟩
    · refine ⟨60, rfl, by decide, by decide, for_range (n := 60) (fun j σ H2 => ∃ (ks2 : List Int) (r2 : Int) (v5 : Option V), σ = [some (.ref a), some (.ref d), some (.int ((sd * 31 + r) % 1009)), some (.int u), some (.int r2), v5, v6] ∧ Same H H2 ∧ H2 d = some (.lst (ks2.map V.int)) ∧ ks2.length ≤ i * 60 + j)
        ⟨ks, r, _, rfl, R, hK, by omega⟩ ?_ ?_⟩
      · rintro j σ2 H2 hj ⟨ks2, r2, v7, rfl, R2, hK2, hl2⟩
        refine ⟨_, rfl, _, _, rfl, rfl, _, rfl, ?_⟩
        refine ite2 (fun _ => ?_) (fun _ => ?_)
        · refine ⟨_, rfl, .inl ⟨rfl, _, SqL.of hK2⟩, _, rfl, .inl ⟨_, rfl, _, _, rfl, rfl, (by show (0 : Int) < 1000; decide), d, _, _, rfl, rfl, hK2, (by rw [List.length_map, sizeLine_eq]; omega), ?_⟩⟩
          refine ⟨_, rfl, _, _, rfl, rfl, ⟨by decide, by decide⟩, ?_⟩
          exact ⟨ks2 ++ [r2 % 1000], _, _, rfl, Rz.Same.upd R2 hd, by rw [upd_same, List.map_append]; rfl, by rw [List.length_append, List.length_singleton]; omega⟩
        · exact ⟨ks2, r2, _, rfl, R2, hK2, by omega⟩
      · rintro σ2 H2 ⟨ks2, r2, v7, rfl, R2, hK2, hl2⟩
        exact ⟨ks2, (sd * 31 + r) % 1009, _, _, _, _, rfl, R2, hK2, by omega, b0, b1⟩
  · rintro σ H' ⟨ks, sd, v3, v4, v5, v6, rfl, R, hK, hl, h0, h1⟩
    rw [List.length_map] at hl
    refine ⟨90, rfl, by decide, by decide, for_range (n := 90) (fun j σ H2 => ∃ (ks2 : List Int) (v5 v6 : Option V), σ = [some (.ref a), some (.ref d), some (.int sd), v3, v4, v5, v6] ∧ Same H H2 ∧ H2 d = some (.lst (ks2.map V.int)) ∧ ks2.length ≤ 3780 + j)
      ⟨ks, _, _, rfl, R, hK, by omega⟩ ?_ ?_⟩
    · rintro j σ2 H2 hj ⟨ks2, v7, v8, rfl, R2, hK2, hl2⟩
      refine ⟨_, rfl, _, _, rfl, rfl, _, rfl, _, _, rfl, rfl, .inl ⟨by decide, by decide⟩, _, rfl, _, _, rfl, rfl, .inl ⟨by omega, by omega⟩, _, rfl, _, _, rfl, rfl, .inl ⟨by decide, by decide⟩, _, _, rfl, rfl,
        _, _, rfl, rfl, ⟨by decide, by decide⟩, _, _, rfl, rfl, _, _, rfl, rfl, .inl ⟨by omega, by omega⟩, .inl ⟨_, rfl, _, _, rfl, rfl, (by show (0 : Int) < 1009; decide), ?_⟩⟩
      have m0 : ∀ z : Int, -(2 ^ 64) < z % 1009 ∧ z % 1009 < 2 ^ 64 := fun z => by omega
      refine ⟨_, rfl, .inl ⟨rfl, _, SqL.of hK2⟩, _, rfl, _, rfl, _, _, rfl, rfl, .inl (m0 _), _, rfl, _, _, rfl, rfl, .inl ⟨_, rfl, _, _, rfl, rfl, (by show (0 : Int) < 1013; decide), d, _, _, rfl, rfl, hK2, (by rw [List.length_map, sizeLine_eq]; omega), ?_⟩⟩
      exact ⟨ks2 ++ [_], _, _, rfl, Rz.Same.upd R2 hd, by rw [upd_same, List.map_append]; rfl, by rw [List.length_append, List.length_singleton]; omega⟩
    · rintro σ2 H2 ⟨ks2, v7, v8, rfl, R2, hK2, hl2⟩
      exact ⟨_, rfl, k H2 d R2 hd ⟨ks2, hK2, by omega⟩⟩
end
end Rz

namespace Rz
open PySem PySem.Spec PyProof.Rows L2
def sp_law_pick : Sp := fun vs H Q _ => ∃ (d : Addr) (m : Int), vs = [.ref d, .int m] ∧ 0 < m ∧ Dr H d ∧ ∀ H' r, 0 ≤ r → r < m → Dr H' d → But [d] H H' → Q (.int r) H'
section
variable {w : World} {K : PySem.W.Frag} {mg : Str → Option Value} {base : Heap}
theorem sc_law_pick : FnScope N__law_pick P__law_pick (defScope s__law_pick) := ⟨rfl, rfl, rfl, by decide +kernel, rfl, by decide +kernel, by decide +kernel⟩
theorem ok_law_pick (T : Txt K mg) : FnOk prg w K mg base (L2.CX prg w) 1 T.f__law_pick T.fd__law_pick P__law_pick sp_law_pick := by
  refine Rz.Fun.okN T.F__law_pick sc_law_pick (fun vs H Q E h => ?_) (fun cdv A outer s H vs Q E hr h => ?_)
  · obtain ⟨d, m, rfl, _⟩ := h
    rfl
  obtain ⟨d, m, rfl, hm, ⟨ns, hd, hl⟩, k⟩ := h
  have nd := sc_law_pick.nd
  refine ⟨_, (pss_cons (ps_if (pt_cmpR (op_eqD hr.units) (pv 0) (pe_lst pa_nil) (nomark _)) (pss_one (ps_ret pe_int)) pss_nil)
    (pss_one (ps_ret (pe_op op_mod (pe_callTy call_int1 (by rfl) T.n_int (by decide +kernel) (pa_cons (pe_bm PySem.F.plainAttrs_list PySem.F.slot_list_pop PySem.F.type_list_pop mt_popAt (pv 0) (pa_cons pe_int pa_nil)) pa_nil)) (pv 1))))), ?_⟩
  refine ⟨_, rfl, Nat.zero_le _, fun p hp => ?_⟩
  have np : d ≠ p := ne_of_none hd hp
  have hd2 : upd H p (.lst []) d = some (.lst (ns.map V.int)) := by rw [upd_ne np]; exact hd
  refine ⟨dInts ns, dInts [], dp_ints (SqL.of hd2), dp_ints (SqL.of upd_same), ints_shaped _, ints_shaped _, _, rfl, ?_⟩
  rw [ints_eqv]
  refine ite2 (fun e => ?_) (fun e => ?_)
  · exact k _ 0 (Int.le_refl _) hm ⟨ns, hd2, hl⟩ ((But.refl [d] H).upd (.inr hp))
  · have e2 : ns ≠ [] := fun z => e (decide_eq_true z)
    obtain ⟨x, r, rfl⟩ := List.exists_cons_of_ne_nil e2
    refine ⟨_, rfl, .inl ⟨rfl, _, SqL.of hd2⟩, d, _, 0, 0, .int x, rfl, rfl, hd2, by decide, by decide, (by simp [seqIndex?]), rfl, .inl ⟨x, rfl, ?_⟩⟩
    refine ⟨_, rfl, x, m, rfl, rfl, hm, ?_⟩
    refine k _ _ (Int.emod_nonneg _ (by omega)) (Int.emod_lt_of_pos _ hm) ⟨r, by rw [upd_same]; rfl, by simp at hl; omega⟩ (((But.refl [d] H).upd (.inr hp)).upd (.inl (by simp)))
end
end Rz

namespace Rz
open PySem PySem.Spec PyProof.Rows L2
/-- some of the letters, each once -/
def sp_law_alphabet : Sp := fun vs H Q _ => ∃ (d : Addr) (n : Int), vs = [.ref d, .int n] ∧ 0 ≤ n ∧ n ≤ 20 ∧ Dr H d ∧ ∀ H' (z : Str), (z.length : Int) = n → Over abc z → z.cps.toList.Nodup → Dr H' d → But [d] H H' → Q (.str z) H'
section
variable {w : World} {K : PySem.W.Frag} {mg : Str → Option Value} {base : Heap}
theorem sc_law_alphabet : FnScope N__law_alphabet P__law_alphabet (defScope s__law_alphabet) := ⟨rfl, rfl, rfl, by decide +kernel, rfl, by decide +kernel, by decide +kernel⟩
theorem abc_nodup : abc.cps.toList.Nodup := by decide +kernel
theorem ok_law_alphabet (T : Txt K mg) : FnOk prg w K mg base (L2.CX prg w) 2 T.f__law_alphabet T.fd__law_alphabet P__law_alphabet sp_law_alphabet := by
  refine Rz.Fun.okN T.F__law_alphabet sc_law_alphabet (fun vs H Q E h => ?_) (fun cdv A outer s H vs Q E hr h => ?_)
  · obtain ⟨d, n, rfl, _⟩ := h
    rfl
  obtain ⟨d, n, rfl, n0, n1, hD, k⟩ := h
  have nd := sc_law_alphabet.nd
  refine ⟨_, (pss_cons (ps_set (i := 2) nd rfl (Or.inl rfl) pe_str)
    (pss_cons (ps_set (i := 3) nd rfl (Or.inr rfl) pe_str)
    (pss_cons (ps_for PassesOwn.never rfl (pi_range1 rfl T.n_range (pa_cons (pv 1) pa_nil)) (pg_name (i := 4) nd rfl (Or.inl rfl))
      (pss_cons (ps_setLc (i := 6) (own := [("_law_letter", 5)]) (g := (gName 5)) (tt := _) rfl nd rfl rfl (sw_true rfl rfl rfl (by decide +kernel)) (pi_str (pv 2)) (blkOk_by (N := N__law_alphabet) (sc := defScope s__law_alphabet) (by decide +kernel)) (fun _ _ _ _ _ => (pg_name (i := 5) nd rfl (Or.inl rfl))) (fun _ _ _ _ _ => (pts_one (pt_cmpR op_notIn_sign (pv 5) (pv 3) rfl))) (fun _ _ _ _ _ => (pv 5)))
      (pss_one (ps_set (i := 3) nd rfl (Or.inr rfl) (pe_op op_add_str (pv 3) (pe_ix ix_list (pv 6) (pe_fn (ok_law_pick T) (hr.mono (by decide)) (by rfl) T.m__law_pick T.F__law_pick.kp T.b__law_pick .nil (fun _ => atN _) (pa_cons (pv 0) (pa_cons (pe_callB call_len_seq (by rfl) T.n_len PySem.boot_len (pa_cons (pv 6) pa_nil)) pa_nil))) (fun _ _ => rfl)))))))
    (pss_one (ps_ret (pv 3)))))), ?_⟩
  refine ⟨_, rfl, n, rfl, by omega, by omega, for_range (n := n.toNat) (fun i σ H' => ∃ (v4 v5 v6 : Option V) (z : Str), σ = [some (.ref d), some (.int n), some (.str abc), some (.str z), v4, v5, v6] ∧ z.length = i ∧ Over abc z ∧ z.cps.toList.Nodup ∧ Dr H' d ∧ But [d] H H') ?_ ?_ ?_⟩
  · exact ⟨none, none, none, "", rfl, rfl, (fun c hc => by cases hc), List.Pairwise.nil, hD, But.refl _ _⟩
  · rintro i σ H1 hi ⟨v4, v5, v6, z, rfl, hz, ho, hn, D1, B1⟩
    refine ⟨_, rfl, abc, rfl, fun D hDn => lc_it walk_str (fun i H2 => ∃ ys : List Nat, H2 D = some (.lst (ys.map fun c => V.str ⟨#[c]⟩)) ∧ ys = (abc.cps.toList.take i).filter (fun c => !decide (c ∈ z.cps.toList)) ∧ Same H1 H2) ?_ (fun _ _ _ _ => True.intro) ?_ ?_⟩
    · exact ⟨[], upd_same, rfl, Rz.Same.new (Same.refl _) hDn⟩
    · rintro j x H2 H3 hj ⟨ys, e, ey, S⟩ ⟨rfl, c, hc, rfl⟩
      have hc' : abc.cps.toList[j]? = some c := by
        rw [← hc]
        exact Array.getElem?_toList ..
      have et : abc.cps.toList.take (j + 1) = abc.cps.toList.take j ++ [c] := by rw [List.take_add_one, hc']; rfl
      have lys : ys.length ≤ 26 := by
        rw [ey]
        refine Nat.le_trans (List.length_filter_le ..) ?_
        rw [List.length_take]
        exact Nat.le_trans (Nat.min_le_right ..) (by decide +kernel)
      refine ⟨rfl, _, rfl, _, rfl, c, z, rfl, rfl, _, rfl, ?_⟩
      refine ite2 (fun hb => ?_) (fun hb => ?_)
      · refine ⟨_, rfl, _, e, by rw [List.length_map, sizeLine_eq]; omega, ys ++ [c], by rw [upd_same, List.map_append]; rfl, ?_, Rz.Same.upd S hDn⟩
        rw [et, List.filter_append, ey]
        simp only [List.filter_cons, List.filter_nil]
        rw [if_pos hb]
      · refine ⟨ys, e, ?_, S⟩
        rw [et, List.filter_append, ey]
        simp only [List.filter_cons, List.filter_nil]
        rw [if_neg hb, List.append_nil]
    · rintro H2 ⟨ys, e, ey, S⟩
      have eall : abc.cps.toList.take abc.cps.size = abc.cps.toList := List.take_of_length_le (Nat.le_refl _)
      rw [eall] at ey
      have pos : 0 < ys.length := by
        refine Nat.pos_of_ne_zero fun h0 => ?_
        have h1 : ys = [] := List.length_eq_zero_iff.mp h0
        have h2 := nodup_le abc_nodup (z := z.cps.toList) fun x hx => Classical.byContradiction fun hn => by
          have h3 : x ∈ ys := by
            rw [ey]
            exact List.mem_filter.mpr ⟨hx, by simp [hn]⟩
          rw [h1] at h3
          cases h3
        have h4 : abc.cps.toList.length = 26 := by decide +kernel
        rw [h4, len_list] at h2
        omega
      have nDd : D ≠ d := Ne.symm (apartNew D1.some hDn)
      refine ⟨_, rfl, _, rfl, _, rfl, _, rfl, D, _, rfl, .inl (SqL.of e), d, _, rfl, by rw [List.length_map]; omega, D1.same S, fun H3 r r0 r1 D3 B3 => ?_⟩
      have e3 := B3.at e (nin1 nDd)
      obtain ⟨v, hv, hat⟩ := atI_in r0 r1
      obtain ⟨c, hc, rfl⟩ := List.mem_map.mp hv
      refine ⟨D, _, r, _, rfl, rfl, SqL.of e3, hat, z, ⟨#[c]⟩, rfl, rfl, by show z.length + 1 ≤ _; rw [sizeLine_eq]; omega, ?_⟩
      refine ⟨_, _, _, z ++ ⟨#[c]⟩, rfl, by rw [Str.length_append]; show z.length + 1 = _; omega, fun x hx => ?_, ?_, D3, fun b o hb he => B3 b o hb ((S _ _ (B1 b o hb he)))⟩
      · have hx2 : x ∈ z.cps.toList ++ [c] := by
          have e5 : (z ++ ⟨#[c]⟩ : Str).cps.toList = z.cps.toList ++ [c] := by
            show (z.cps ++ #[c]).toList = _
            rw [Array.toList_append]
          rw [← e5]
          exact hx
        rcases List.mem_append.mp hx2 with h | h
        · exact ho x h
        · have e6 : x = c := by simpa using h
          rw [e6]
          rw [ey] at hc
          exact (List.mem_filter.mp hc).1
      · have e5 : (z ++ ⟨#[c]⟩ : Str).cps.toList = z.cps.toList ++ [c] := by
          show (z.cps ++ #[c]).toList = _
          rw [Array.toList_append]
        rw [e5]
        rw [ey] at hc
        have nc : c ∉ z.cps.toList := by simpa using (List.mem_filter.mp hc).2
        exact List.nodup_append.mpr ⟨hn, by simp, fun a ha b hb e => nc (by rw [← List.mem_singleton.mp hb, ← e]; exact ha)⟩
  · rintro σ H1 ⟨v4, v5, v6, z, rfl, hz, ho, hn, D1, B1⟩
    exact ⟨_, rfl, k H1 z (by omega) ho hn D1 B1⟩
end
end Rz

namespace Rz
open PySem PySem.Spec PyProof.Rows L2
/-- some word over the signs of z, not longer than g -/
def sp_law_word_of : Sp := fun vs H Q _ => ∃ (d : Addr) (z : Str) (l g : Int), vs = [.ref d, .str z, .int l, .int g] ∧ 0 ≤ l ∧ l ≤ g ∧ g ≤ 1000 ∧ 0 < z.length ∧ z.length ≤ 1000 ∧ Dr H d ∧
  ∀ H' (x : Str), (l : Int) ≤ x.length → (x.length : Int) ≤ g → Over z x → Dr H' d → But [d] H H' → Q (.str x) H'
section
variable {w : World} {K : PySem.W.Frag} {mg : Str → Option Value} {base : Heap}
theorem sc_law_word_of : FnScope N__law_word_of P__law_word_of (defScope s__law_word_of) := ⟨rfl, rfl, rfl, by decide +kernel, rfl, by decide +kernel, by decide +kernel⟩
theorem ok_law_word_of (T : Txt K mg) : FnOk prg w K mg base (L2.CX prg w) 2 T.f__law_word_of T.fd__law_word_of P__law_word_of sp_law_word_of := by
  refine Rz.Fun.okN T.F__law_word_of sc_law_word_of (fun vs H Q E h => ?_) (fun cdv A outer s H vs Q E hr h => ?_)
  · obtain ⟨d, z, l, g, rfl, _⟩ := h
    rfl
  obtain ⟨d, z, l, g, rfl, hl0, hlg, hg, hz0, hz, hD, k⟩ := h
  have nd := sc_law_word_of.nd
  refine ⟨_, (pss_cons (ps_set (i := 4) nd rfl (Or.inl rfl) (pe_op op_add (pv 2) (pe_fn (ok_law_pick T) (hr.mono (by decide)) (by rfl) T.m__law_pick T.F__law_pick.kp T.b__law_pick .nil (fun _ => atN _) (pa_cons (pv 0) (pa_cons (pe_op op_add (pe_op op_sub (pv 3) (pv 2)) pe_int) pa_nil)))))
    (pss_one (ps_ret (pe_join pe_str (pe_lc (own := [("_law_k", 5)]) (g := (gName 5)) (tt := tYes) rfl nd (pi_range1 rfl T.n_range (pa_cons (pv 4) pa_nil)) (blkOk_by (N := N__law_word_of) (sc := defScope s__law_word_of) (by decide +kernel)) (fun _ _ _ _ _ => (pg_name (i := 5) nd rfl (Or.inl rfl))) (fun _ _ _ _ _ => pts_nil)
      (fun _ _ _ _ _ => (pe_ix ix_str (pv 1) (pe_fn (ok_law_pick T) (hr.mono (by decide)) (by rfl) T.m__law_pick T.F__law_pick.kp T.b__law_pick .nil (fun _ => atN _) (pa_cons (pv 0) (pa_cons (pe_callB call_len_str (by rfl) T.n_len PySem.boot_len (pa_cons (pv 1) pa_nil)) pa_nil))) (fun _ _ => rfl)))))))), ?_⟩
  refine ⟨_, rfl, _, rfl, _, rfl, _, rfl, _, _, rfl, rfl, _, _, rfl, rfl, d, _, rfl, by omega, hD, fun H1 r h0 h1 D1 B1 => ⟨_, _, rfl, rfl, ?_⟩⟩
  refine ⟨⟨_, rfl⟩, _, rfl, l + r, rfl, by omega, by omega, fun D hDn => lc_range (lo := 0) (n := (l + r).toNat) (fun i H2 => ∃ ys : List Str, H2 D = some (.lst (ys.map V.str)) ∧ ys.length = i ∧ (∀ y ∈ ys, y.length = 1 ∧ Over z y) ∧ Dr H2 d ∧ But [d] H H2) ?_ ?_ ?_⟩
  · exact ⟨[], upd_same, rfl, (fun y hy => by cases hy), D1.same (Rz.Same.new (Same.refl _) hDn), B1.upd (.inr (B1.free (fun z => by
      obtain ⟨_, q, _⟩ := D1
      have e : D = d := by simpa using z
      rw [e, q] at hDn
      cases hDn) hDn))⟩
  · rintro i H2 hi ⟨ys, hY, hl, hy, D2, B2⟩
    refine ⟨rfl, yesT ⟨_, rfl, _, rfl, _, rfl, z, rfl, by rw [sizeLine_eq]; omega, d, _, rfl, by omega, D2, fun H3 r2 g0 g1 D3 B3 => ?_⟩⟩
    obtain ⟨c, hc, hat⟩ := atI_in (xs := z.cps.toList) g0 (by rw [len_list]; exact g1)
    have nDd : D ∉ [d] := fun z => by
      obtain ⟨_, q, _⟩ := D1
      have e : D = d := by simpa using z
      rw [e, q] at hDn
      cases hDn
    have hY3 := B3.at hY nDd
    have l3 : ys.length < sizeLine := by rw [sizeLine_eq]; omega
    refine ⟨z, _, c, rfl, rfl, by rw [sizeLine_eq]; omega, hat, _, hY3, by rw [List.length_map]; exact l3, ys ++ [⟨#[c]⟩], by rw [upd_same, List.map_append]; rfl, by rw [List.length_append, hl]; rfl, fun y h => ?_, ?_, ?_⟩
    · rcases List.mem_append.mp h with h | h
      · exact hy y h
      · have e : y = ⟨#[c]⟩ := by simpa using h
        subst e
        exact ⟨rfl, fun c2 h2 => by
          have e2 : c2 = c := by simpa using h2
          rw [e2]
          exact hc⟩
    · obtain ⟨ns, n1, n2⟩ := D3
      exact ⟨ns, by rw [upd_ne (fun z => nDd (by simp [z]))]; exact n1, n2⟩
    · exact (B2.trans B3).upd (.inr (B1.free nDd hDn))
  · rintro H2 ⟨ys, hY, hl, hy, D2, B2⟩
    have s1 := sum_ones fun y h => (hy y h).1
    refine ⟨_, D, ys, rfl, rfl, .inl (SqL.of hY), by show _ + ys.length * 0 ≤ _; omega, k H2 _ ?_ ?_ (over_join fun y h => (hy y h).2) D2 B2⟩
    · rw [join0_len]; omega
    · rw [join0_len]; omega
end
end Rz

namespace Rz
open PySem PySem.Spec PyProof.Rows L2
def sp_law_is_int : Sp := fun vs H Q _ => ∃ n : Int, vs = [.int n] ∧ Q (.bl true) H
section
variable {w : World} {K : PySem.W.Frag} {mg : Str → Option Value} {base : Heap}
theorem sc_law_is_int : FnScope N__law_is_int P__law_is_int (defScope s__law_is_int) := ⟨rfl, rfl, rfl, by decide +kernel, rfl, by decide +kernel, by decide +kernel⟩
theorem ok_law_is_int (T : Txt K mg) : FnOk prg w K mg base (L2.CX prg w) 1 T.f__law_is_int T.fd__law_is_int P__law_is_int sp_law_is_int := by
  refine Rz.Fun.okN T.F__law_is_int sc_law_is_int (fun vs H Q E h => ?_) (fun cdv A outer s H vs Q E hr h => ?_)
  · obtain ⟨n, rfl, _⟩ := h
    rfl
  obtain ⟨n, rfl, k⟩ := h
  refine ⟨_, (pss_one (ps_ret (pe_and (pe_callB call_isi (by rfl) T.n_isinstance (by decide +kernel) (pa_cons (pv 0) (pa_cons (pe_bltn (v := .ty "int") (by rfl) T.n_int (by decide +kernel) rfl) pa_nil))) (pe_one (pe_not (pe_callB call_isi (by rfl) T.n_isinstance (by decide +kernel) (pa_cons (pv 0) (pa_cons (pe_bltn (v := .ty "bool") (by rfl) T.n_bool (by decide +kernel) rfl) pa_nil)))))))), ?_⟩
  refine ⟨_, rfl, _, _, .type "int", .type "int", true, rfl, .ty _, .base (.int n), kit_ty (by decide +kernel), true, rfl, ?_⟩
  exact iteT ⟨_, rfl, _, _, .type "int", .type "bool", false, rfl, .ty _, .base (.int n), kit_ty (by decide +kernel), false, rfl, k⟩
end
end Rz

namespace Rz
open PySem PySem.Spec PyProof.Rows L2
theorem in_ints {x : Int} {xs : List Int} : inV (.int x) (xs.map V.int) = decide (x ∈ xs) := by
  unfold inV
  rw [List.any_map]
  induction xs with
  | nil => rfl
  | cons y xs ih =>
    rw [List.any_cons, ih]
    show ((y == x) || decide (x ∈ xs)) = decide (x ∈ y :: xs)
    by_cases e : y = x
    · subst e
      simp
    · have e2 : ¬ x = y := fun z => e z.symm
      simp [e, e2]
theorem flat_ints (xs : List Int) : (xs.map V.int).all flatV = true := by
  rw [List.all_map, List.all_eq_true]
  exact fun _ _ => rfl
/-- so few different numbers below n -/
theorem few_below : ∀ (n : Nat) (xs : List Int), xs.Nodup → (∀ x ∈ xs, 0 ≤ x ∧ x < (n : Int)) → xs.length ≤ n
  | 0, [], _, _ => Nat.le_refl _
  | 0, x :: xs, _, h => by
    have := h x List.mem_cons_self
    omega
  | n + 1, xs, nd, h => by
    by_cases hm : ((n : Nat) : Int) ∈ xs
    · have q := few_below n (xs.erase (n : Int)) (nd.erase _) fun x hx => by
        have a := h x (List.mem_of_mem_erase hx)
        have b : x ≠ (n : Int) := fun e => by
          rw [e] at hx
          exact nd.not_mem_erase hx
        omega
      rw [List.length_erase_of_mem hm] at q
      omega
    · have q := few_below n xs nd fun x hx => by
        have a := h x hx
        have b : x ≠ (n : Int) := fun e => hm (by rw [← e]; exact hx)
        omega
      omega
def Clo (ps : List Lk) (fs : List Int) : Prop := ∀ p ∈ ps, p.1 ∈ fs → p.2 ∈ fs
def FW (ps : List Lk) (ss fs : List Int) : Prop := fs.Nodup ∧ (∀ x ∈ ss, x ∈ fs) ∧ (∀ x ∈ fs, Reach ps ss x) ∧ ∀ x ∈ fs, 0 ≤ x ∧ x < 7
theorem succs_of {ps : List Lk} {x y : Int} (h : y ∈ succs ps x) : (x, y) ∈ ps := by
  unfold succs at h
  obtain ⟨p, hp, rfl⟩ := List.mem_map.mp h
  obtain ⟨h1, h2⟩ := List.mem_filter.mp hp
  have e : p.1 = x := of_decide_eq_true h2
  rw [← e]
  exact h1
theorem in_succs {ps : List Lk} {x y : Int} (h : (x, y) ∈ ps) : y ∈ succs ps x := by
  unfold succs
  exact List.mem_map.mpr ⟨(x, y), List.mem_filter.mpr ⟨h, by simp⟩, rfl⟩
theorem clo_reach {ps : List Lk} {ss fs : List Int} (f : FW ps ss fs) (c : Clo ps fs) {x : Int} : x ∈ fs ↔ Reach ps ss x :=
  ⟨f.2.2.1 x, reach_all (P := fun x => x ∈ fs) f.2.1 fun x hx y hy => c _ (succs_of hy) hx⟩
def sp_law_led_from : Sp := fun vs H Q _ => ∃ (st ar : Addr) (ss : List Int) (ps : List Lk), vs = [.ref st, .ref ar] ∧ H st = some (.lst (ss.map V.int)) ∧ LkAt H ar ps ∧ ss.Nodup ∧ (∀ x ∈ ss, 0 ≤ x ∧ x < 7) ∧ (∀ p ∈ ps, 0 ≤ p.2 ∧ p.2 < 7) ∧
  ∀ H' (r : Addr) (fs : List Int), Same H H' → H r = none → H' r = some (.lst (fs.map V.int)) → fs.Nodup → (∀ x, x ∈ fs ↔ Reach ps ss x) → Q (.ref r) H'
section
variable {w : World} {K : PySem.W.Frag} {mg : Str → Option Value} {base : Heap}
theorem sc_law_led_from : FnScope N__law_led_from P__law_led_from (defScope s__law_led_from) := ⟨rfl, rfl, rfl, by decide +kernel, rfl, by decide +kernel, by decide +kernel⟩
theorem ok_law_led_from (T : Txt K mg) : FnOk prg w K mg base (L2.CX prg w) 1 T.f__law_led_from T.fd__law_led_from P__law_led_from sp_law_led_from := by
  refine Rz.Fun.okN T.F__law_led_from sc_law_led_from (fun vs H Q E h => ?_) (fun cdv A outer s H vs Q E hr h => ?_)
  · obtain ⟨st, ar, ss, ps, rfl, _⟩ := h
    rfl
  obtain ⟨st, ar, ss, ps, rfl, hst, ⟨ts, har, hL⟩, nds, hs, hp, k⟩ := h
  have nd := sc_law_led_from.nd
  refine ⟨_, (pss_cons (ps_set (i := 2) nd rfl (Or.inl rfl) (pe_callTy call_listS (by rfl) T.n_list (by decide +kernel) (pa_cons (pv 0) pa_nil)))
    (pss_cons (ps_for PassesOwn.never rfl (pi_range1 rfl T.n_range (pa_cons pe_int pa_nil)) (pg_name (i := 3) nd rfl (Or.inl rfl))
      (pss_one (ps_for PassesOwn.never rfl (pi_list (pv 1)) (pg_tup rfl (pgs_cons (pg_name (i := 4) nd rfl (Or.inl rfl)) (pgs_cons (pg_name (i := 5) nd rfl (Or.inl rfl)) pgs_nil)))
        (pss_one (ps_if (PW.pt (pw_and (pt_cmpR op_in_seq (pv 4) (pv 2) rfl) (pw_and1 (pt_cmpR op_notIn_seq (pv 5) (pv 2) rfl)))) (pss_one (ps_expr (pe_bm PySem.F.plainAttrs_list PySem.F.slot_list_append PySem.F.type_list_append mt_append (pv 2) (pa_cons (pv 5) pa_nil)))) pss_nil)))))
    (pss_one (ps_ret (pv 2))))), ?_⟩
  unfold rListS
  refine ⟨_, rfl, st, _, rfl, SqL.of hst, fun r hr0 => ?_⟩
  have S0 := Rz.Same.new (o := .lst (ss.map V.int)) (Same.refl H) hr0
  have e0 : upd H r (.lst (ss.map V.int)) r = some (.lst (ss.map V.int)) := upd_same
  have hrn : H r = none := hr0
  generalize upd H r (.lst (ss.map V.int)) = H0 at S0 e0 ⊢
  refine ⟨8, rfl, by decide, by decide, for_range (n := 8) (fun i σ H' => ∃ (v3 v4 v5 : Option V) (fs : List Int), σ = [some (.ref st), some (.ref ar), some (.ref r), v3, v4, v5] ∧ Same H H' ∧ H' r = some (.lst (fs.map V.int)) ∧ FW ps ss fs ∧ (Clo ps fs ∨ i ≤ fs.length))
    ⟨none, none, none, ss, rfl, S0, e0, ⟨nds, fun x h => h, fun x h => .start h, hs⟩, .inr (Nat.zero_le _)⟩ ?_ ?_⟩
  · rintro i σ H1 hi ⟨v3, v4, v5, fs, rfl, S1, e1, f1, c1⟩
    refine ⟨_, rfl, ar, rfl, ⟨_, SqL.of (S1 _ _ har)⟩, for_it walk_list (fun j σ H' => ∃ (v4 v5 : Option V) (gs : List Int), σ = [some (.ref st), some (.ref ar), some (.ref r), some (.int ((0 : Int) + (i : Nat))), v4, v5] ∧ Same H H' ∧ H' r = some (.lst (gs.map V.int)) ∧ FW ps ss gs ∧ (Clo ps fs → gs = fs) ∧ ((gs = fs ∧ ∀ p ∈ ps.take j, p.1 ∈ fs → p.2 ∈ fs) ∨ fs.length < gs.length))
      ⟨v4, v5, fs, rfl, S1, e1, f1, fun _ => rfl, .inl ⟨rfl, fun p hp => by simp at hp⟩⟩ (fun j σ H' _ ⟨_, _, _, _, S, _⟩ => SqL.of (S _ _ har)) ?_ ?_⟩
    · rintro j y σ H2 H3 hj ⟨v4, v5, gs, rfl, S2, e2, f2, c2, d2⟩ ⟨rfl, hy⟩
      obtain ⟨t, ht, rfl⟩ := refs_get hy
      obtain ⟨p, hpj, et⟩ := hL.get ht
      have inp : p ∈ ps := List.mem_of_getElem? hpj
      have tk1 : ps.take (j + 1) = ps.take j ++ [p] := by rw [List.take_add_one, hpj]; rfl
      have small := few_below 7 gs f2.1 f2.2.2.2
      refine ⟨t, _, rfl, SqT.of (S2 _ _ et), rfl, _, _, rfl, _, _, rfl, rfl, ?_⟩
      have stay : (p.1 ∈ gs → p.2 ∈ gs) → (gs = fs ∧ ∀ q ∈ ps.take (j + 1), q.1 ∈ fs → q.2 ∈ fs) ∨ fs.length < gs.length := fun h => d2.imp (fun ⟨a, b⟩ => ⟨a, fun q hq => by
        rw [tk1] at hq
        rcases List.mem_append.mp hq with z | z
        · exact b q z
        · rw [List.mem_singleton.mp z, ← a]
          exact h⟩) id
      refine ⟨_, rfl, _, rfl, r, _, rfl, .inl (SqL.of e2), rfl, flat_ints _, _, rfl, ?_⟩
      rw [if_neg (by decide), in_ints]
      refine ite2 (fun h1 => ?_) (fun h1 => ?_)
      · have m1 : p.1 ∈ gs := of_decide_eq_true h1
        refine ⟨_, rfl, _, rfl, r, _, rfl, .inl (SqL.of e2), rfl, flat_ints _, _, rfl, ?_⟩
        rw [if_pos rfl, in_ints]
        refine ite2 (fun h2 => ?_) (fun h2 => ?_)
        · have m2 : p.2 ∉ gs := by simpa using h2
          refine ⟨_, rfl, .inl ⟨rfl, _, SqL.of e2⟩, _, rfl, r, _, _, rfl, rfl, e2, by rw [List.length_map, sizeLine_eq]; omega, ?_⟩
          refine ⟨_, _, gs ++ [p.2], rfl, Rz.Same.upd S2 hrn, by rw [upd_same, List.map_append]; rfl, ⟨?_, fun x hx => List.mem_append_left _ (f2.2.1 x hx), fun x hx => ?_, fun x hx => ?_⟩, fun c => ?_, .inr ?_⟩
          · exact List.nodup_append.mpr ⟨f2.1, by simp, fun a ha b hb e => m2 (by rw [← List.mem_singleton.mp hb, ← e]; exact ha)⟩
          · rcases List.mem_append.mp hx with z | z
            · exact f2.2.2.1 x z
            · rw [List.mem_singleton.mp z]
              exact .step (f2.2.2.1 _ m1) (in_succs inp)
          · rcases List.mem_append.mp hx with z | z
            · exact f2.2.2.2 x z
            · rw [List.mem_singleton.mp z]
              exact hp p inp
          · have e3 := c2 c
            rw [e3] at m1 m2
            exact absurd (c p inp m1) m2
          · rw [List.length_append]
            show fs.length < gs.length + 1
            rcases d2 with ⟨a, _⟩ | a
            · rw [a]
              omega
            · omega
        · have m2 : p.2 ∈ gs := by simpa using h2
          exact ⟨_, _, gs, rfl, S2, e2, f2, c2, stay fun _ => m2⟩
      · have m1 : p.1 ∉ gs := by simpa using h1
        exact ⟨_, _, gs, rfl, S2, e2, f2, c2, stay fun z => absurd z m1⟩
    · rintro σ H2 ⟨v4, v5, gs, rfl, S2, e2, f2, c2, d2⟩
      rw [List.length_map, hL.len, List.take_length] at d2
      refine ⟨_, _, _, gs, rfl, S2, e2, f2, ?_⟩
      rcases d2 with ⟨a, b⟩ | a
      · exact .inl (by rw [a]; exact b)
      · rcases c1 with c | c
        · rw [c2 c] at a
          omega
        · exact .inr (by omega)
  · rintro σ H1 ⟨v3, v4, v5, fs, rfl, S1, e1, f1, c1⟩
    have small := few_below 7 fs f1.1 f1.2.2.2
    have c : Clo ps fs := c1.resolve_right (by omega)
    exact ⟨_, rfl, k H1 r fs S1 hrn e1 f1.1 fun x => clo_reach f1 c⟩
end
end Rz

namespace Rz
open PySem PySem.Spec PyProof.Rows L2
/-- one step by a sign, and all steps of a text -/
def gstep (f : List Key → Option Int) (s : Int) (c : Nat) : Int := (f [.inl s, .inr ⟨#[c]⟩]).getD (-1)
def gwalk (f : List Key → Option Int) (cs : List Nat) : Int := cs.foldl (gstep f) 0
def holds (f : List Key → Option Int) (ls : List Int) (z : Str) : Bool := decide (gwalk f z.cps.toList ∈ ls)
theorem gwalk_snoc (f : List Key → Option Int) (cs : List Nat) (c : Nat) : gwalk f (cs ++ [c]) = gstep f (gwalk f cs) c := by
  unfold gwalk
  rw [List.foldl_append]
  rfl
def sp_Lot_contains (cL : Addr) : Sp := fun vs H Q _ => ∃ (o : Addr) (z : Str) (n : Int) (ls : List Int) (ms : List Mv) (f : List Key → Option Int), vs = [.ref o, .str z] ∧ LtAt cL H o n ls ms f ∧ ∀ H', Same H H' → Q (.bl (holds f ls z)) H'
section
variable {w : World} {K : PySem.W.Frag} {mg : Str → Option Value} {base : Heap}
theorem sc_Lot_contains : FnScope N_Lot_contains P_Lot_contains (defScope s_Lot_contains) := ⟨rfl, rfl, rfl, by decide +kernel, rfl, by decide +kernel, by decide +kernel⟩
theorem ok_Lot_contains (T : Txt K mg) : FnOk prg w K mg base (L2.CX prg w) 1 T.f_Lot_contains T.fd_Lot_contains P_Lot_contains (sp_Lot_contains T.c_Lot) := by
  refine Rz.Fun.okN T.F_Lot_contains sc_Lot_contains (fun vs H Q E h => ?_) (fun cdv A outer s H vs Q E hr h => ?_)
  · obtain ⟨o, z, n, ls, ms, f, rfl, _⟩ := h
    rfl
  obtain ⟨o, z, n, ls, ms, f, rfl, ⟨dx, l, m, d, kvs, ho, hl, _, hd, hf⟩, k⟩ := h
  have nd := sc_Lot_contains.nd
  have hu : (A.deeper (envOfC "Lot.__contains__" (defScope s_Lot_contains) s.heap.objs.size T.f_Lot_contains cdv)).units + 1 < cLine := by
    have := hr.un
    omega
  refine ⟨_, (pss_cons (ps_set (i := 2) nd rfl (Or.inl rfl) pe_int)
    (pss_cons (ps_for PassesOwn.never rfl (pi_str (pv 1)) (pg_name (i := 3) nd rfl (Or.inl rfl))
      (pss_one (ps_set (i := 2) nd rfl (Or.inl rfl) (pe_dget2 hu (pe_fld (pv 0) rfl) (pe_tup (pa_cons (pv 2) (pa_cons (pv 3) pa_nil))) (pe_un un_neg pe_int) ⟨rfl, rfl, rfl, rfl⟩))))
    (pss_one (ps_ret (pe_cmpR op_in_seq (pv 2) (pe_fld (pv 0) rfl) rfl))))), ?_⟩
  have lz : z.cps.toList.length = z.cps.size := Array.length_toList
  refine ⟨_, rfl, z, rfl, for_it walk_str (fun i σ H' => ∃ v3 : Option V, σ = [some (.ref o), some (.str z), some (.int (gwalk f (z.cps.toList.take i))), v3] ∧ Same H H') ⟨_, rfl, Same.refl _⟩ (fun _ _ _ _ _ => trivial) ?_ ?_⟩
  · rintro i x σ G G' hi ⟨v3, rfl, S⟩ ⟨rfl, c, hc, rfl⟩
    have hc2 : z.cps.toList[i]? = some c := by rw [Array.getElem?_toList]; exact hc
    refine ⟨_, rfl, o, _, dx, _, _, rfl, S _ _ ho, T.cl_Lot, T.na_Lot__leads, rfl, d, rfl, .inr ⟨kvs, .inl (S _ _ hd)⟩, _, rfl, _, rfl, by show 2 ≤ sizeLine; decide, fun b hb => ?_⟩
    have S1 := Rz.Same.new (o := .tup [.int (gwalk f (z.cps.toList.take i)), .str ⟨#[c]⟩]) (Same.refl G') hb
    have eb : upd G' b (.tup [.int (gwalk f (z.cps.toList.take i)), .str ⟨#[c]⟩]) b = some (.tup (([.inl (gwalk f (z.cps.toList.take i)), .inr ⟨#[c]⟩] : List Key).map kV)) := upd_same
    have ed1 := (S.trans S1) _ _ hd
    refine ⟨_, rfl, _, DGet.t ed1 eb, ?_⟩
    rw [hf]
    refine ⟨some (.str ⟨#[c]⟩), ?_, S.trans S1⟩
    rw [List.take_add_one, hc2]
    show _ = [_, _, some (V.int (gwalk f (z.cps.toList.take i ++ [c]))), _]
    rw [gwalk_snoc]
    unfold gstep
    cases f [.inl (gwalk f (z.cps.toList.take i)), .inr ⟨#[c]⟩] <;> rfl
  · rintro σ G ⟨v3, rfl, S⟩
    rw [← lz, List.take_length]
    refine ⟨_, rfl, _, rfl, o, _, dx, _, _, rfl, S _ _ ho, T.cl_Lot, T.na_Lot__last, rfl, l, _, rfl, .inl (SqL.of (S _ _ hl)), rfl, flat_ints _, ?_⟩
    rw [in_ints]
    exact k _ S
end
end Rz

namespace Rz
open PySem PySem.Spec PyProof.Rows L2
/-! ### lists of moves as data -/
abbrev dMv (m : Mv) : PyData := .tuple [.int m.1, .str m.2.1, .int m.2.2]
abbrev dMvs (ms : List Mv) : PyData := .list (ms.map dMv)
def GoodM (ms : List Mv) : Prop := ∀ m ∈ ms, PyData.strOk m.2.1 = true
theorem dmv_at {K : PySem.W.Frag} {H : Hp} {t : Addr} {m : Mv} (e : H t = some (.tup (mvV m))) : Dp K H (.ref t) (dMv m) := .tup (SqT.of e) (.cons (.int _) (.cons (.str _) (.cons (.int _) .nil)))
theorem dmvs_all {K : PySem.W.Frag} {H : Hp} : ∀ {ts : List Addr} {ms : List Mv}, MvL H ts ms → DpAll K H (ts.map V.ref) (ms.map dMv)
  | _, _, .nil => .nil
  | _, _, .cons e r => .cons (dmv_at e) (dmvs_all r)
theorem dmvs_at {K : PySem.W.Frag} {H : Hp} {l : Addr} {ms : List Mv} (h : MAt H l ms) : Dp K H (.ref l) (dMvs ms) := let ⟨_, h1, h2⟩ := h; .lst (SqL.of h1) (dmvs_all h2)
theorem dmvs_lay : ∀ {ms : List Mv}, GoodM ms → PyData.canLayAll0 (ms.map dMv) = true
  | [], _ => rfl
  | m :: ms, h => by
    have a : PyData.canLay0 (dMv m) = true := by
      show PyData.canLayAll0 [PyData.int m.1, PyData.str m.2.1, PyData.int m.2.2] = true
      simp [PyData.canLayAll0, PyData.canLay0, h m List.mem_cons_self]
    have b := dmvs_lay (ms := ms) fun q hq => h q (List.mem_cons_of_mem _ hq)
    simp only [List.map_cons, PyData.canLayAll0, a, b, Bool.and_self]
theorem dmvs_depth : ∀ ms : List Mv, PyData.depthAll (ms.map dMv) ≤ 1
  | [] => by simp [PyData.depthAll]
  | m :: ms => by
    have b := dmvs_depth ms
    simp only [List.map_cons, PyData.depthAll]
    have a : PyData.depth (dMv m) = 1 := by simp [PyData.depth, PyData.depthAll]
    rw [a]
    omega
theorem dmvs_deep (ms : List Mv) : PyData.depth (dMvs ms) ≤ 2 := by
  have := dmvs_depth ms
  show PyData.depthAll (ms.map dMv) + 1 ≤ 2
  omega
theorem dmvs_shaped {ms : List Mv} (h : GoodM ms) : SeqAt.shaped (dMvs ms) = true := by
  have d : PyData.depth (dMvs ms) ≤ 64 := Nat.le_trans (dmvs_deep ms) (by decide)
  show (PyData.canLayAll0 (ms.map dMv) && decide (PyData.depth (dMvs ms) ≤ 64)) = true
  rw [dmvs_lay h, decide_eq_true d]
  rfl
theorem dmv_eqv (p q : Mv) : PyData.eqv (dMv p) (dMv q) = decide (p = q) := by
  show PyData.eqvAll [PyData.int p.1, PyData.str p.2.1, PyData.int p.2.2] [PyData.int q.1, PyData.str q.2.1, PyData.int q.2.2] = _
  obtain ⟨a, x, n⟩ := p
  obtain ⟨b, y, m⟩ := q
  show ((a == b) && ((x == y) && ((n == m) && true))) = decide ((a, x, n) = (b, y, m))
  by_cases e1 : a = b
  · by_cases e2 : x = y
    · by_cases e3 : n = m
      · simp [e1, e2, e3]
      · simp [e1, e2, e3]
    · simp [e1, e2]
  · simp [e1]
theorem dmvs_eqvA : ∀ ps qs : List Mv, PyData.eqvAll (ps.map dMv) (qs.map dMv) = decide (ps = qs)
  | [], [] => rfl
  | [], _ :: _ => by simp [PyData.eqvAll]
  | _ :: _, [] => by simp [PyData.eqvAll]
  | p :: ps, q :: qs => by
    rw [List.map_cons, List.map_cons, PyData.eqvAll, dmvs_eqvA ps qs, dmv_eqv]
    simp
theorem dmvs_eqv (ps qs : List Mv) : PyData.eqv (dMvs ps) (dMvs qs) = decide (ps = qs) := by
  show PyData.eqvAll _ _ = _
  exact dmvs_eqvA ps qs
theorem small_ok {c : Nat} (h : c < 128) : PyData.strOk ⟨#[c]⟩ = true := by
  simp [PyData.strOk]
  omega
theorem str_ok {z : Str} (h : ∀ c ∈ z.cps.toList, c < 128) : PyData.strOk z = true := by
  unfold PyData.strOk
  rw [← Array.all_toList, List.all_eq_true]
  intro c hc
  have := h c hc
  simp
  omega
end Rz

namespace Rz
open PySem PySem.Spec PyProof.Rows L2
/-! ### good lots -/
structure LotOk (n : Int) (ls : List Int) (ms : List Mv) : Prop where
  st : okStates n ls ms
  ld : okLeads ms
  us : ∀ i : Nat, (i : Int) < n → useful ls ms i
  sl : SrtI ls ls
  sm : SrtM ms ms
abbrev Mc := Int × Nat × Int
def toM (x : Mc) : Mv := (x.1, ⟨#[x.2.1]⟩, x.2.2)
def CLt (a b : Mc) : Prop := a.1 < b.1 ∨ (a.1 = b.1 ∧ a.2.1 < b.2.1)
theorem clt_key {a b : Mc} (h : CLt a b) : kLt (mvK (toM b)) (mvK (toM a)) = false := by
  show lexLt itemOrd [.inl b.1, .inr [b.2.1], .inl b.2.2] [.inl a.1, .inr [a.2.1], .inl a.2.2] = false
  refine lex_false.mpr ?_
  rcases h with h | ⟨h1, h2⟩
  · exact ⟨decide_eq_false (by show ¬ b.1 < a.1; omega), .inl (decide_eq_true h)⟩
  · refine ⟨decide_eq_false (by show ¬ b.1 < a.1; omega), .inr (lex_false.mpr ⟨?_, .inl ?_⟩)⟩
    · refine decide_eq_false fun q => ?_
      have q : ([b.2.1] : List Nat) < [a.2.1] := q
      rw [List.cons_lt_cons_iff] at q
      rcases q with q | ⟨q, _⟩
      · omega
      · omega
    · refine decide_eq_true ?_
      show ([a.2.1] : List Nat) < [b.2.1]
      rw [List.cons_lt_cons_iff]
      exact .inl h2
theorem clt_one {xs : List Mc} (h : xs.Pairwise CLt) : ∀ a ∈ xs, ∀ b ∈ xs, a.1 = b.1 → a.2.1 = b.2.1 → a = b := by
  induction xs with
  | nil => intro a ha; cases ha
  | cons x xs ih =>
    obtain ⟨h1, h2⟩ := List.pairwise_cons.mp h
    intro a ha b hb e1 e2
    have no : ∀ y ∈ xs, ¬ (x.1 = y.1 ∧ x.2.1 = y.2.1) := fun y hy z => by
      rcases h1 y hy with q | q
      · omega
      · omega
    rcases List.mem_cons.mp ha with ea | ha <;> rcases List.mem_cons.mp hb with eb | hb
    · rw [ea, eb]
    · rw [ea] at e1 e2
      exact absurd ⟨e1, e2⟩ (no b hb)
    · rw [eb] at e1 e2
      exact absurd ⟨e1.symm, e2.symm⟩ (no a ha)
    · exact ih h2 a ha b hb e1 e2
theorem clt_srt {xs : List Mc} (h : xs.Pairwise CLt) : SrtM (xs.map toM) (xs.map toM) := by
  refine ⟨?_, ?_, fun m => Iff.rfl⟩
  · rw [List.map_map, List.pairwise_map]
    exact h.imp fun q => clt_key q
  · rw [List.Nodup, List.pairwise_map]
    refine h.imp fun {a b} q e => ?_
    have e1 : a.1 = b.1 := congrArg (fun m : Mv => m.1) e
    have e2 : (⟨#[a.2.1]⟩ : Str) = ⟨#[b.2.1]⟩ := congrArg (fun m : Mv => m.2.1) e
    have e3 : a.2.1 = b.2.1 := by
      have z := congrArg (fun s : Str => s.cps.toList) e2
      exact (List.cons.inj z).1
    rcases q with q | q
    · omega
    · omega
theorem clt_leads {xs : List Mc} (h : xs.Pairwise CLt) (hc : ∀ x ∈ xs, oddC x.2.1 = false) : okLeads (xs.map toM) := by
  refine ⟨fun m hm => ?_, fun a ha b hb e => ?_⟩
  · obtain ⟨x, hx, rfl⟩ := List.mem_map.mp hm
    exact sg_one (hc x hx)
  · obtain ⟨x, hx, rfl⟩ := List.mem_map.mp ha
    obtain ⟨y, hy, rfl⟩ := List.mem_map.mp hb
    unfold leadK toM at e
    simp only [List.cons.injEq, Sum.inl.injEq, Sum.inr.injEq, and_true] at e
    have e3 : x.2.1 = y.2.1 := by
      have z := congrArg (fun s : Str => s.cps.toList) e.2
      exact (List.cons.inj z).1
    rw [clt_one h x hx y hy e.1 e3]
/-- all texts -/
theorem every_ok {cs : List Nat} (hp : cs.Pairwise (· < ·)) (he : ∀ c ∈ cs, oddC c = false) : LotOk 1 [0] (everyM cs) := by
  have e : everyM cs = (cs.map fun c => ((0, c, 0) : Mc)).map toM := by
    unfold everyM
    rw [List.map_map]
    rfl
  have pw : (cs.map fun c => ((0, c, 0) : Mc)).Pairwise CLt := by
    rw [List.pairwise_map]
    exact hp.imp fun q => .inr ⟨rfl, q⟩
  refine ⟨every_states cs, every_leads he, every_useful cs, ⟨by simp, fun _ => Iff.rfl⟩, ?_⟩
  rw [e]
  exact clt_srt pw
/-- one text -/
def wordC (cs : List Nat) : Nat → List Mc
  | 0 => []
  | k + 1 => wordC cs k ++ [(((k : Nat) : Int), cs.getD k 0, ((k + 1 : Nat) : Int))]
theorem wordC_mem {cs : List Nat} : ∀ {k : Nat} {x : Mc}, x ∈ wordC cs k ↔ ∃ j, j < k ∧ x = (((j : Nat) : Int), cs.getD j 0, ((j + 1 : Nat) : Int))
  | 0, x => by simp [wordC]
  | k + 1, x => by
    unfold wordC
    rw [List.mem_append, wordC_mem, List.mem_singleton]
    constructor
    · rintro (⟨j, hj, e⟩ | e)
      · exact ⟨j, by omega, e⟩
      · exact ⟨k, by omega, e⟩
    · rintro ⟨j, hj, e⟩
      rcases Nat.lt_or_ge j k with h | h
      · exact .inl ⟨j, h, e⟩
      · obtain rfl : j = k := by omega
        exact .inr e
theorem wordC_pw (cs : List Nat) : ∀ k, (wordC cs k).Pairwise CLt
  | 0 => List.Pairwise.nil
  | k + 1 => by
    unfold wordC
    refine List.pairwise_append.mpr ⟨wordC_pw cs k, List.pairwise_singleton _ _, fun a ha b hb => ?_⟩
    obtain ⟨j, hj, rfl⟩ := wordC_mem.mp ha
    rw [List.mem_singleton.mp hb]
    exact .inl (by show (j : Int) < (k : Int); omega)
theorem wordC_len (cs : List Nat) : ∀ k, (wordC cs k).length = k
  | 0 => rfl
  | k + 1 => by
    unfold wordC
    rw [List.length_append, wordC_len cs k]
    rfl
theorem word_ok {cs : List Nat} {k : Nat} (h : k ≤ 39) (hl : k ≤ cs.length) (he : ∀ c ∈ cs, oddC c = false) : LotOk ((k : Int) + 1) [(k : Int)] ((wordC cs k).map toM) := by
  have mem : ∀ {m : Mv}, m ∈ (wordC cs k).map toM → ∃ j, j < k ∧ m = (((j : Nat) : Int), ⟨#[cs.getD j 0]⟩, ((j + 1 : Nat) : Int)) := fun {m} hm => by
    obtain ⟨x, hx, rfl⟩ := List.mem_map.mp hm
    obtain ⟨j, hj, rfl⟩ := wordC_mem.mp hx
    exact ⟨j, hj, rfl⟩
  have mem2 : ∀ {j}, j < k → ((((j : Nat) : Int), ⟨#[cs.getD j 0]⟩, ((j + 1 : Nat) : Int)) : Mv) ∈ (wordC cs k).map toM := fun {j} hj => List.mem_map.mpr ⟨_, wordC_mem.mpr ⟨j, hj, rfl⟩, rfl⟩
  refine ⟨⟨⟨by omega, by omega⟩, fun x hx => ?_, fun m hm => ?_⟩, clt_leads (wordC_pw cs k) fun x hx => ?_, fun i hi => ⟨?_, ?_⟩, ⟨by simp, fun _ => Iff.rfl⟩, clt_srt (wordC_pw cs k)⟩
  · rw [List.mem_singleton.mp hx]
    omega
  · obtain ⟨j, hj, rfl⟩ := mem hm
    exact ⟨⟨by show (0 : Int) ≤ (j : Nat); omega, by show ((j : Nat) : Int) < _; omega⟩, by show (0 : Int) ≤ ((j + 1 : Nat) : Int); omega, by show ((j + 1 : Nat) : Int) < _; omega⟩
  · obtain ⟨j, hj, rfl⟩ := wordC_mem.mp hx
    refine he _ ?_
    show cs.getD j 0 ∈ cs
    rw [List.getD_eq_getElem?_getD, List.getElem?_eq_getElem (by omega)]
    exact List.getElem_mem _
  · have go : ∀ i : Nat, i ≤ k → Reach (fwd ((wordC cs k).map toM)) [0] ((i : Nat) : Int) := by
      intro i
      induction i with
      | zero => exact fun _ => .start (by simp)
      | succ i ih => exact fun hi => .step (ih (by omega)) (in_succs (List.mem_map.mpr ⟨_, mem2 (show i < k by omega), rfl⟩))
    exact go i (by omega)
  · have go : ∀ j : Nat, j ≤ k → Reach (bwd ((wordC cs k).map toM)) [(k : Int)] (((k - j : Nat)) : Int) := by
      intro j
      induction j with
      | zero => exact fun _ => .start (by simp)
      | succ j ih =>
        intro hj
        have q := mem2 (show k - (j + 1) < k by omega)
        have e : k - (j + 1) + 1 = k - j := by omega
        rw [e] at q
        exact .step (ih (by omega)) (in_succs (List.mem_map.mpr ⟨_, q, rfl⟩))
    have q := go (k - i) (by omega)
    rwa [show k - (k - i) = i by omega] at q
/-! drawn states -/
structure Drawn (many : Nat) (m0 : List Mc) (l1 ks : List Int) : Prop where
  m1 : 1 ≤ many
  m3 : many ≤ 39
  pw : m0.Pairwise CLt
  rg : ∀ x ∈ m0, (0 ≤ x.1 ∧ x.1 < many) ∧ 0 ≤ x.2.2 ∧ x.2.2 < many
  ev : ∀ x ∈ m0, oddC x.2.1 = false
  ll : l1.Pairwise (· < ·)
  lr : ∀ x ∈ l1, 0 ≤ x ∧ x < many
  hit : ∃ x ∈ l1, Reach (fwd (m0.map toM)) [0] x
  kp : ks.Pairwise (· < ·)
  km : ∀ x, x ∈ ks ↔ (0 ≤ x ∧ x < many) ∧ Reach (fwd (m0.map toM)) [0] x ∧ Reach (bwd (m0.map toM)) l1 x
def kx (ks : List Int) (x : Int) : Int := ((ks.idxOf x : Nat) : Int)
def keepM (ks : List Int) (m0 : List Mc) : List Mc := (m0.filter fun x => decide (x.1 ∈ ks ∧ x.2.2 ∈ ks)).map fun x => (kx ks x.1, x.2.1, kx ks x.2.2)
def keepL (ks l1 : List Int) : List Int := (l1.filter fun x => decide (x ∈ ks)).map (kx ks)
theorem kx_lt {ks : List Int} {x : Int} (h : x ∈ ks) : 0 ≤ kx ks x ∧ kx ks x < ks.length := by
  have := List.idxOf_lt_length_of_mem h
  unfold kx
  omega
theorem kx_mono {ks : List Int} (kp : ks.Pairwise (· < ·)) {x y : Int} (hx : x ∈ ks) (hy : y ∈ ks) (h : x < y) : kx ks x < kx ks y := by
  have a := List.idxOf_lt_length_of_mem hx
  have b := List.idxOf_lt_length_of_mem hy
  have ea : ks[ks.idxOf x] = x := List.getElem_idxOf a
  have eb : ks[ks.idxOf y] = y := List.getElem_idxOf b
  unfold kx
  rcases Nat.lt_trichotomy (ks.idxOf x) (ks.idxOf y) with q | q | q
  · omega
  · have : ks[ks.idxOf x] = ks[ks.idxOf y] := by congr 1
    omega
  · have := List.pairwise_iff_getElem.mp kp _ _ b a q
    omega
section
variable {many : Nat} {m0 : List Mc} {l1 ks : List Int}
theorem reach_in {ps : List Lk} {ss : List Int} {P : Int → Prop} (h0 : ∀ x ∈ ss, P x) (h1 : ∀ p ∈ ps, P p.2) {x : Int} (r : Reach ps ss x) : P x := by
  cases r with
  | start h => exact h0 _ h
  | step _ h => exact h1 _ (succs_of h)
theorem fwd_mem {ms : List Mv} {x y : Int} : (x, y) ∈ fwd ms ↔ (y, x) ∈ bwd ms := by
  unfold fwd bwd
  rw [List.mem_map, List.mem_map]
  constructor
  · rintro ⟨m, hm, e⟩
    cases e
    exact ⟨m, hm, rfl⟩
  · rintro ⟨m, hm, e⟩
    cases e
    exact ⟨m, hm, rfl⟩
theorem back_to {ms : List Mv} {s : Int} {L : List Int} {x : Int} (r : Reach (fwd ms) [s] x) : Reach (bwd ms) L x → Reach (bwd ms) L s := by
  induction r with
  | start h =>
    rw [List.mem_singleton.mp h]
    exact id
  | step _ h ih => exact fun q => ih (.step q (in_succs (fwd_mem.mp (succs_of h))))
theorem fwd_of {x y : Int} (h : (x, y) ∈ fwd (m0.map toM)) : ∃ c, (x, c, y) ∈ m0 := by
  obtain ⟨m, hm, e⟩ := List.mem_map.mp h
  obtain ⟨z, hz, rfl⟩ := List.mem_map.mp hm
  cases e
  exact ⟨z.2.1, hz⟩
theorem of_fwd {x y : Int} {c : Nat} (h : (x, c, y) ∈ m0) : (x, y) ∈ fwd (m0.map toM) := List.mem_map.mpr ⟨_, List.mem_map.mpr ⟨_, h, rfl⟩, rfl⟩
theorem Drawn.zero (d : Drawn many m0 l1 ks) : (0 : Int) ∈ ks := by
  obtain ⟨x, hx, r⟩ := d.hit
  have := d.m1
  exact (d.km 0).mpr ⟨⟨by omega, by omega⟩, .start (by simp), back_to r (.start hx)⟩
theorem Drawn.kx0 (d : Drawn many m0 l1 ks) : kx ks 0 = 0 := by
  have z := d.zero
  have kp := d.kp
  have lo : ∀ x ∈ ks, 0 ≤ x := fun x hx => ((d.km x).mp hx).1.1
  unfold kx
  cases e : ks with
  | nil => rw [e] at z; cases z
  | cons a r =>
    rw [e] at z kp lo
    rcases List.mem_cons.mp z with q | q
    · rw [← q, List.idxOf_cons_self]
      rfl
    · have := (List.pairwise_cons.mp kp).1 0 q
      have := lo a List.mem_cons_self
      omega
theorem keepM_mem {x y : Int} {c : Nat} (h : (x, c, y) ∈ m0) (hx : x ∈ ks) (hy : y ∈ ks) : (kx ks x, c, kx ks y) ∈ keepM ks m0 :=
  List.mem_map.mpr ⟨_, List.mem_filter.mpr ⟨h, decide_eq_true ⟨hx, hy⟩⟩, rfl⟩
theorem keepM_of {z : Mc} (h : z ∈ keepM ks m0) : ∃ x c y, (x, c, y) ∈ m0 ∧ x ∈ ks ∧ y ∈ ks ∧ z = (kx ks x, c, kx ks y) := by
  obtain ⟨w, hw, rfl⟩ := List.mem_map.mp h
  obtain ⟨h1, h2⟩ := List.mem_filter.mp hw
  obtain ⟨h3, h4⟩ := of_decide_eq_true h2
  exact ⟨w.1, w.2.1, w.2.2, h1, h3, h4, rfl⟩
theorem Drawn.inR (d : Drawn many m0 l1 ks) {x : Int} (r : Reach (fwd (m0.map toM)) [0] x) : 0 ≤ x ∧ x < many :=
  reach_in (P := fun x => 0 ≤ x ∧ x < (many : Int)) (fun y hy => by
    have := d.m1
    rw [List.mem_singleton.mp hy]
    omega) (fun p hp => by
    obtain ⟨c, hc⟩ := fwd_of (x := p.1) (y := p.2) hp
    exact (d.rg _ hc).2) r
theorem Drawn.fwdR (d : Drawn many m0 l1 ks) {x : Int} (r : Reach (fwd (m0.map toM)) [0] x) : Reach (bwd (m0.map toM)) l1 x → Reach (fwd ((keepM ks m0).map toM)) [0] (kx ks x) := by
  induction r with
  | start h =>
    intro _
    rw [List.mem_singleton.mp h, d.kx0]
    exact .start (by simp)
  | @step x y r h ih =>
    intro q
    have xy := succs_of h
    have qx : Reach (bwd (m0.map toM)) l1 x := .step q (in_succs (fwd_mem.mp xy))
    obtain ⟨c, hc⟩ := fwd_of xy
    have kxm := (d.km x).mpr ⟨d.inR r, r, qx⟩
    have kym := (d.km y).mpr ⟨d.inR (.step r h), .step r h, q⟩
    exact .step (ih qx) (in_succs (of_fwd (keepM_mem hc kxm kym)))
theorem Drawn.bwdR (d : Drawn many m0 l1 ks) {x : Int} (r : Reach (bwd (m0.map toM)) l1 x) : Reach (fwd (m0.map toM)) [0] x → Reach (bwd ((keepM ks m0).map toM)) (keepL ks l1) (kx ks x) := by
  induction r with
  | @start x h =>
    intro q
    have kxm := (d.km x).mpr ⟨d.inR q, q, .start h⟩
    exact .start (List.mem_map.mpr ⟨x, List.mem_filter.mpr ⟨h, decide_eq_true kxm⟩, rfl⟩)
  | @step x y r h ih =>
    intro q
    have yx := fwd_mem.mpr (succs_of h)
    have qx : Reach (fwd (m0.map toM)) [0] x := .step q (in_succs yx)
    obtain ⟨c, hc⟩ := fwd_of yx
    have kxm := (d.km x).mpr ⟨d.inR qx, qx, r⟩
    have kym := (d.km y).mpr ⟨d.inR q, q, .step r h⟩
    exact .step (ih qx) (in_succs (fwd_mem.mp (of_fwd (keepM_mem hc kym kxm))))
theorem Drawn.kpw (d : Drawn many m0 l1 ks) : (keepM ks m0).Pairwise CLt := by
  unfold keepM
  rw [List.pairwise_map]
  refine List.Pairwise.imp_of_mem (fun {a b} ha hb q => ?_) (d.pw.filter _)
  have a1 := of_decide_eq_true (List.mem_filter.mp ha).2
  have b1 := of_decide_eq_true (List.mem_filter.mp hb).2
  rcases q with q | ⟨q1, q2⟩
  · exact .inl (kx_mono d.kp a1.1 b1.1 q)
  · exact .inr ⟨by show kx ks a.1 = kx ks b.1; rw [q1], q2⟩
theorem Drawn.size (d : Drawn many m0 l1 ks) : ks.length ≤ many := few_below many ks (d.kp.imp fun q => by omega) fun x hx => ((d.km x).mp hx).1
theorem Drawn.ok (d : Drawn many m0 l1 ks) : LotOk ks.length (keepL ks l1) ((keepM ks m0).map toM) := by
  have z := List.length_pos_of_mem d.zero
  have sz := d.size
  have m3 := d.m3
  refine ⟨⟨⟨by omega, by omega⟩, fun x hx => ?_, fun m hm => ?_⟩, clt_leads d.kpw fun x hx => ?_, fun i hi => ?_, ⟨?_, fun _ => Iff.rfl⟩, clt_srt d.kpw⟩
  · obtain ⟨y, hy, rfl⟩ := List.mem_map.mp hx
    exact kx_lt (of_decide_eq_true (List.mem_filter.mp hy).2)
  · obtain ⟨w, hw, rfl⟩ := List.mem_map.mp hm
    obtain ⟨x, c, y, h1, h2, h3, rfl⟩ := keepM_of hw
    exact ⟨kx_lt h2, kx_lt h3⟩
  · obtain ⟨a, c, b, h1, h2, h3, rfl⟩ := keepM_of hx
    exact d.ev (a, c, b) h1
  · have hi2 : i < ks.length := by omega
    have nd : ks.Nodup := d.kp.imp fun q => by omega
    have e : kx ks ks[i] = i := by
      unfold kx
      have a := List.idxOf_lt_length_of_mem (List.getElem_mem hi2)
      have b : ks[ks.idxOf ks[i]] = ks[i] := List.getElem_idxOf a
      have := (List.getElem_inj nd).mp b
      omega
    obtain ⟨_, r1, r2⟩ := (d.km ks[i]).mp (List.getElem_mem hi2)
    rw [← e]
    exact ⟨d.fwdR r1 r2, d.bwdR r2 r1⟩
  · unfold keepL
    rw [List.pairwise_map]
    exact List.Pairwise.imp_of_mem (fun {a b} ha hb q => kx_mono d.kp (of_decide_eq_true (List.mem_filter.mp ha).2) (of_decide_eq_true (List.mem_filter.mp hb).2) q) (d.ll.filter _)
end
end Rz

namespace Rz
open PySem PySem.Spec PyProof.Rows L2
/-- one move more -/
theorem mat_push {G : Hp} {D u : Addr} {ts : List Addr} {ms : List Mv} {m : Mv} (e : G D = some (.lst (ts.map V.ref))) (P : MvL G ts ms) (hu : G u = none) :
    MAt (upd (upd G u (.tup (mvV m))) D (.lst (ts.map V.ref ++ [.ref u]))) D (ms ++ [m]) := by
  have nuD : u ≠ D := fun q => by rw [q, e] at hu; cases hu
  have S := Rz.Same.new (o := .tup (mvV m)) (Same.refl G) hu
  have T : Tups G (upd (upd G u (.tup (mvV m))) D (.lst (ts.map V.ref ++ [.ref u]))) := Tups.upd (Tups.of S) (not_tupL ⟨_, S _ _ e⟩)
  refine ⟨ts ++ [u], by rw [upd_same, List.map_append]; rfl, (P.keep T).append (.cons (by rw [upd_ne nuD, upd_same]) .nil)⟩
theorem lkat_push {G : Hp} {D u : Addr} {ts : List Addr} {ps : List Lk} {p : Lk} (e : G D = some (.lst (ts.map V.ref))) (P : LkL G ts ps) (hu : G u = none) :
    LkAt (upd (upd G u (.tup [.int p.1, .int p.2])) D (.lst (ts.map V.ref ++ [.ref u]))) D (ps ++ [p]) := by
  have nuD : u ≠ D := fun q => by rw [q, e] at hu; cases hu
  have S := Rz.Same.new (o := .tup [.int p.1, .int p.2]) (Same.refl G) hu
  have T : Tups G (upd (upd G u (.tup [.int p.1, .int p.2])) D (.lst (ts.map V.ref ++ [.ref u]))) := Tups.upd (Tups.of S) (not_tupL ⟨_, S _ _ e⟩)
  refine ⟨ts ++ [u], by rw [upd_same, List.map_append]; rfl, (P.keep T).append (.cons (by rw [upd_ne nuD, upd_same]) .nil)⟩
theorem But.free1 {H H' : Hp} {d x : Addr} (B : But [d] H H') (D : Dr H' d) (h : H' x = none) : H x = none := B.free (fun z => by
  obtain ⟨ns, e, _⟩ := D
  rw [List.mem_singleton.mp z, e] at h
  cases h) h
theorem sort_signs {K : PySem.W.Frag} {σ : L2.St} {G : Hp} {z : Str} {Q : VK} (hσ : σ[1]? = some (some (.str z))) (hz : z.length < 64) (nd : z.cps.toList.Nodup)
    (k : ∀ (G' : Hp) (q : Addr) (ds : List Nat), Same G G' → G q = none → G' q = some (.lst ((sgs ds).map V.str)) → ds.Perm z.cps.toList → ds.Pairwise (· < ·) → Q (.ref q) G') : tCB (rSortedS K) (tCons (tCB rListTx (tCons (tVar 1) tNil)) tNil) σ G Q := by
  refine ⟨_, hσ, z, rfl, by rw [sizeLine_eq]; omega, fun p hp => ?_⟩
  have S1 := Rz.Same.new (o := .lst ((sgs z.cps.toList).map V.str)) (Same.refl G) hp
  refine ⟨p, sgs z.cps.toList, rfl, SqL.of upd_same, by unfold sgs; rw [List.length_map]; exact hz, fun ys q pm hs hq => ?_⟩
  have S2 := Rz.Same.new (o := .lst (ys.map V.str)) (Same.refl (upd G p (.lst ((sgs z.cps.toList).map V.str)))) hq
  obtain ⟨ds, rfl, pd⟩ := sgs_perm pm
  exact k _ q ds (S1.trans S2) (S1.free hq) upd_same pd (sgs_rise hs (pd.nodup_iff.mpr nd))
theorem sgs_get {ds : List Nat} {i : Nat} {y : V} (h : ((sgs ds).map V.str)[i]? = some y) : ∃ c, ds[i]? = some c ∧ y = .str ⟨#[c]⟩ := by
  unfold sgs at h
  rw [List.map_map, List.getElem?_map] at h
  cases e : ds[i]? with
  | none => rw [e] at h; cases h
  | some c =>
    rw [e] at h
    cases h
    exact ⟨c, rfl, rfl⟩
/-- links out of the moves -/
theorem links_lc {K : PySem.W.Frag} {G : Hp} {lm : Addr} {ts : List Addr} {ms : List Mv} {Q : VK} {v0 v1 v2 v3 v4 v5 v6 v8 v9 v10 v11 v12 v13 v14 v15 : Option V} {a b : Int} (f : Mv → Lk) (em : G lm = some (.lst (ts.map V.ref))) (hM : MvL G ts ms) (few : ms.length ≤ 1000)
    (ha : ∀ m : Mv, atI (mvV m) a = some (.int (f m).1)) (hb : ∀ m : Mv, atI (mvV m) b = some (.int (f m).2)) (k : ∀ (G' : Hp) (D : Addr), Same G G' → G D = none → LkAt G' D (ms.map f) → Q (.ref D) G') :
    tLc (iList K (tVar 7)) (gName 11) tYes (tTup (tCons (tOp (rIxT K) (tVar 11) (tC (.int a))) (tCons (tOp (rIxT K) (tVar 11) (tC (.int b))) tNil))) [11] [v0, v1, v2, v3, v4, v5, v6, some (.ref lm), v8, v9, v10, v11, v12, v13, v14, v15] G Q := by
  refine ⟨_, rfl, lm, rfl, ⟨_, SqL.of em⟩, fun D hD => lc_it walk_list (fun i H' => Same G H' ∧ LkAt H' D ((ms.take i).map f)) ⟨Rz.Same.new (Same.refl _) hD, [], upd_same, .nil⟩ (fun i H' _ h => SqL.of (h.1 _ _ em)) ?_ ?_⟩
  · rintro i y G1 G2 hi ⟨S, us, e, P⟩ ⟨rfl, hy⟩
    obtain ⟨t, ht, rfl⟩ := refs_get hy
    obtain ⟨m, hm, et⟩ := hM.get ht
    have im := (List.getElem?_eq_some_iff.mp hm).1
    have lus := P.len
    rw [List.length_map, List.length_take] at lus
    refine ⟨rfl, yesT ⟨_, rfl, t, _, a, _, rfl, rfl, SqT.of (S _ _ et), ha m, _, rfl, t, _, b, _, rfl, rfl, SqT.of (S _ _ et), hb m, by show 2 ≤ sizeLine; decide, fun u hu => ?_⟩⟩
    have S2 := Rz.Same.new (o := .tup [.int (f m).1, .int (f m).2]) (Same.refl G2) hu
    refine ⟨_, S2 _ _ e, by rw [List.length_map, sizeLine_eq]; omega, Rz.Same.upd (S.trans S2) hD, ?_⟩
    have L := lkat_push (p := f m) e P hu
    rw [List.take_add_one, hm, List.map_append]
    exact L
  · rintro G1 ⟨S, L⟩
    rw [List.length_map, hM.len, List.take_length] at L
    exact k G1 D S hD L
theorem index_ints {K : PySem.W.Frag} {kp : Addr} {G : Hp} {ks : List Int} {x : Int} {Q : VK} (e : G kp = some (.lst (ks.map V.int))) (h : x ∈ ks) (q : Q (.int (kx ks x)) G) : rIndex K (.ref kp) [.int x] G Q := by
  have a := List.idxOf_lt_length_of_mem h
  have b : ks[ks.idxOf x] = x := List.getElem_idxOf a
  refine ⟨kp, _, .int x, ks.idxOf x, .int x, rfl, rfl, SqL.of e, rfl, flat_ints ks, ?_, ?_, fun m w hm hw => ?_, q⟩
  · rw [List.getElem?_map, List.getElem?_eq_getElem a, b]
    rfl
  · show (x == x) = true
    simp
  · obtain ⟨y, hy, rfl⟩ := mapi_get hw
    show (y == x) = false
    have l := (List.getElem?_eq_some_iff.mp hy).1
    have ne := List.not_of_lt_findIdx (p := fun z => z == x) (xs := ks) (i := m) hm
    rw [List.getElem?_eq_getElem l] at hy
    rw [← Option.some.inj hy]
    simpa using ne
theorem index_args {K : PySem.W.Frag} {kp : Addr} {σ : L2.St} {G : Hp} {ks : List Int} {x : Int} {Q : VK} (e : G kp = some (.lst (ks.map V.int))) (h : x ∈ ks) (q : Q (.int (kx ks x)) G) : tNil σ G fun xs H2 => rIndex K (.ref kp) (V.int x :: xs) H2 Q := index_ints e h q
def sp_law_lot_of : Sp := fun vs H Q _ => ∃ (d : Addr) (z : Str), vs = [.ref d, .str z] ∧ Dr H d ∧ 1 ≤ z.length ∧ z.length ≤ 4 ∧ Over abc z ∧ z.cps.toList.Nodup ∧
  ∀ H' (t l m : Addr) (n : Int) (ls : List Int) (ms : List Mv), H' t = some (.tup [.int n, .ref l, .ref m]) → H' l = some (.lst (ls.map V.int)) → MAt H' m ms → LotOk n ls ms → n ≤ 7 → ls.length ≤ 7 → ms.length ≤ 12 → (∀ x ∈ ms, ∃ c ∈ z.cps.toList, x.2.1 = ⟨#[c]⟩) → H t = none → H l = none → H m = none → Dr H' d → But [d] H H' → Q (.ref t) H'
section
variable {w : World} {K : PySem.W.Frag} {mg : Str → Option Value} {base : Heap}
theorem sc_law_lot_of : FnScope N__law_lot_of P__law_lot_of (defScope s__law_lot_of) := ⟨rfl, rfl, rfl, by decide +kernel, rfl, by decide +kernel, by decide +kernel⟩
theorem ok_law_lot_of (T : Txt K mg) : FnOk prg w K mg base (L2.CX prg w) 4 T.f__law_lot_of T.fd__law_lot_of P__law_lot_of sp_law_lot_of := by
  refine Rz.Fun.okN T.F__law_lot_of sc_law_lot_of (fun vs H Q E h => ?_) (fun cdv A outer s H vs Q E hr h => ?_)
  · obtain ⟨d, z, rfl, _⟩ := h
    rfl
  obtain ⟨d, z, rfl, hD, hz1, hz4, ho, hn, k⟩ := h
  have nd := sc_law_lot_of.nd
  refine ⟨_, (pss_cons (ps_set (i := 2) nd rfl (Or.inl rfl) (pe_fn (ok_law_pick T) (hr.mono (by decide)) (by rfl) T.m__law_pick T.F__law_pick.kp T.b__law_pick .nil (fun _ => atN _) (pa_cons (pv 0) (pa_cons pe_int pa_nil))))
    (pss_cons (ps_if (pt_cmpR op_eq (pv 2) pe_int (nomark _)) (pss_one (ps_ret (pe_tup (pa_cons pe_int (pa_cons (pe_lst (pa_cons pe_int pa_nil)) (pa_cons (pe_lc (own := [("_law_sign", 3)]) (g := (gName 3)) (tt := tYes) rfl nd (pi_list (pe_callB cr_sortedS (by rfl) T.n_sorted (by decide +kernel) (pa_cons (pe_callTy (cr_listTx (by rfl)) (by rfl) T.n_list (by decide +kernel) (pa_cons (pv 1) pa_nil)) pa_nil))) (blkOk_by (N := N__law_lot_of) (sc := defScope s__law_lot_of) (by decide +kernel)) (fun _ _ _ _ _ => (pg_name (i := 3) nd rfl (Or.inl rfl))) (fun _ _ _ _ _ => pts_nil) (fun _ _ _ _ _ => (pe_tup (pa_cons pe_int (pa_cons (pv 3) (pa_cons pe_int pa_nil)))))) pa_nil)))))) pss_nil)
    (pss_cons (ps_if (pt_cmpR op_eq (pv 2) pe_int (nomark _)) (pss_cons (ps_set (i := 4) nd rfl (Or.inr rfl) (pe_fn (ok_law_word_of T) (hr.mono (by decide)) (by rfl) T.m__law_word_of T.F__law_word_of.kp T.b__law_word_of .nil (fun _ => atN _) (pa_cons (pv 0) (pa_cons (pv 1) (pa_cons pe_int (pa_cons pe_int pa_nil))))))
      (pss_one (ps_ret (pe_tup (pa_cons (pe_op op_add (pe_callB call_len_str (by rfl) T.n_len PySem.boot_len (pa_cons (pv 4) pa_nil)) pe_int) (pa_cons (pe_lst (pa_cons (pe_callB call_len_str (by rfl) T.n_len PySem.boot_len (pa_cons (pv 4) pa_nil)) pa_nil)) (pa_cons (pe_lc (own := [("_law_k", 5)]) (g := (gName 5)) (tt := tYes) rfl nd (pi_range1 rfl T.n_range (pa_cons (pe_callB call_len_str (by rfl) T.n_len PySem.boot_len (pa_cons (pv 4) pa_nil)) pa_nil)) (blkOk_by (N := N__law_lot_of) (sc := defScope s__law_lot_of) (by decide +kernel)) (fun _ _ _ _ _ => (pg_name (i := 5) nd rfl (Or.inl rfl))) (fun _ _ _ _ _ => pts_nil) (fun _ _ _ _ _ => (pe_tup (pa_cons (pv 5) (pa_cons (pe_ix ix_str (pv 4) (pv 5) (fun _ _ => rfl)) (pa_cons (pe_op op_add (pv 5) pe_int) pa_nil)))))) pa_nil))))))) pss_nil)
    (pss_cons (ps_set (i := 6) nd rfl (Or.inl rfl) (pe_op op_add pe_int (pe_fn (ok_law_pick T) (hr.mono (by decide)) (by rfl) T.m__law_pick T.F__law_pick.kp T.b__law_pick .nil (fun _ => atN _) (pa_cons (pv 0) (pa_cons pe_int pa_nil)))))
    (pss_cons (ps_set (i := 7) nd rfl (Or.inl rfl) (pe_lst pa_nil))
    (pss_cons (ps_for PassesOwn.never rfl (pi_range1 rfl T.n_range (pa_cons (pv 6) pa_nil)) (pg_name (i := 8) nd rfl (Or.inl rfl))
      (pss_one (ps_for PassesOwn.never rfl (pi_list (pe_callB cr_sortedS (by rfl) T.n_sorted (by decide +kernel) (pa_cons (pe_callTy (cr_listTx (by rfl)) (by rfl) T.n_list (by decide +kernel) (pa_cons (pv 1) pa_nil)) pa_nil))) (pg_name (i := 3) nd rfl (Or.inl rfl))
        (pss_cons (ps_set (i := 9) nd rfl (Or.inl rfl) (pe_fn (ok_law_pick T) (hr.mono (by decide)) (by rfl) T.m__law_pick T.F__law_pick.kp T.b__law_pick .nil (fun _ => atN _) (pa_cons (pv 0) (pa_cons (pe_op op_add (pv 6) pe_int) pa_nil))))
        (pss_one (ps_if (pt_cmpR op_lt (pv 9) (pv 6) (nomark _)) (pss_one (ps_expr (pe_bm PySem.F.plainAttrs_list PySem.F.slot_list_append PySem.F.type_list_append mt_append (pv 7) (pa_cons (pe_tup (pa_cons (pv 8) (pa_cons (pv 3) (pa_cons (pv 9) pa_nil)))) pa_nil)))) pss_nil))))))
    (pss_cons (ps_setLc (i := 10) (own := [("_law_state", 8)]) (g := (gName 8)) (tt := _) rfl nd rfl rfl (sw_true rfl rfl rfl (by decide +kernel)) (pi_range1 rfl T.n_range (pa_cons (pv 6) pa_nil)) (blkOk_by (N := N__law_lot_of) (sc := defScope s__law_lot_of) (by decide +kernel)) (fun _ _ _ _ _ => (pg_name (i := 8) nd rfl (Or.inl rfl))) (fun _ _ _ _ _ => (pts_one (pt_cmpR op_eq (pe_fn (ok_law_pick T) (hr.mono (by decide)) (by rfl) T.m__law_pick T.F__law_pick.kp T.b__law_pick .nil (fun _ => atN _) (pa_cons (pv 0) (pa_cons pe_int pa_nil))) pe_int (nomark _)))) (fun _ _ _ _ _ => (pv 8)))
    (pss_cons (ps_set (i := 12) nd rfl (Or.inr rfl) (pe_fn (ok_law_led_from T) (hr.mono (by decide)) (by rfl) T.m__law_led_from T.F__law_led_from.kp T.b__law_led_from .nil (fun _ => atN _) (pa_cons (pe_lst (pa_cons pe_int pa_nil)) (pa_cons (pe_lc (own := [("_law_move", 11)]) (g := (gName 11)) (tt := tYes) rfl nd (pi_list (pv 7)) (blkOk_by (N := N__law_lot_of) (sc := defScope s__law_lot_of) (by decide +kernel)) (fun _ _ _ _ _ => (pg_name (i := 11) nd rfl (Or.inl rfl))) (fun _ _ _ _ _ => pts_nil) (fun _ _ _ _ _ => (pe_tup (pa_cons (pe_ix (show IxR _ (rIxT K) from ix_tup) (pv 11) pe_int (fun _ _ => rfl)) (pa_cons (pe_ix (show IxR _ (rIxT K) from ix_tup) (pv 11) pe_int (fun _ _ => rfl)) pa_nil))))) pa_nil))))
    (C8.pss_cut (ps_if (pt_cmpR (op_eqD hr.units) (pe_lc (own := [("_law_state", 8)]) (g := (gName 8)) (tt := _) rfl nd (pi_list (pv 10)) (blkOk_by (N := N__law_lot_of) (sc := defScope s__law_lot_of) (by decide +kernel)) (fun _ _ _ _ _ => (pg_name (i := 8) nd rfl (Or.inl rfl))) (fun _ _ _ _ _ => (pts_one (pt_cmpR (show OpR _ (compareOp .In) (rIn K false) from op_in_seq) (pv 8) (pv 12) rfl))) (fun _ _ _ _ _ => (pv 8))) (pe_lst pa_nil) (nomark _)) (pss_one (ps_set (i := 10) nd rfl (Or.inl rfl) (pe_lst (pa_cons pe_int pa_nil)))) pss_nil)
    (pss_cons (ps_set (i := 13) nd rfl (Or.inr rfl) (pe_fn (ok_law_led_from T) (hr.mono (by decide)) (by rfl) T.m__law_led_from T.F__law_led_from.kp T.b__law_led_from .nil (fun _ => atN _) (pa_cons (pv 10) (pa_cons (pe_lc (own := [("_law_move", 11)]) (g := (gName 11)) (tt := tYes) rfl nd (pi_list (pv 7)) (blkOk_by (N := N__law_lot_of) (sc := defScope s__law_lot_of) (by decide +kernel)) (fun _ _ _ _ _ => (pg_name (i := 11) nd rfl (Or.inl rfl))) (fun _ _ _ _ _ => pts_nil) (fun _ _ _ _ _ => (pe_tup (pa_cons (pe_ix (show IxR _ (rIxT K) from ix_tup) (pv 11) pe_int (fun _ _ => rfl)) (pa_cons (pe_ix (show IxR _ (rIxT K) from ix_tup) (pv 11) pe_int (fun _ _ => rfl)) pa_nil))))) pa_nil))))
    (pss_cons (ps_set (i := 14) nd rfl (Or.inr rfl) (pe_lc (own := [("_law_state", 8)]) (g := (gName 8)) (tt := _) rfl nd (pi_range1 rfl T.n_range (pa_cons (pv 6) pa_nil)) (blkOk_by (N := N__law_lot_of) (sc := defScope s__law_lot_of) (by decide +kernel)) (fun _ _ _ _ _ => (pg_name (i := 8) nd rfl (Or.inl rfl))) (fun _ _ _ _ _ => (pts_one (PW.pt (pw_and (pt_cmpR (show OpR _ (compareOp .In) (rIn K false) from op_in_seq) (pv 8) (pv 12) rfl) (pw_and1 (pt_cmpR (show OpR _ (compareOp .In) (rIn K false) from op_in_seq) (pv 8) (pv 13) rfl)))))) (fun _ _ _ _ _ => (pv 8))))
    (pss_cons (ps_setLc (i := 15) (own := [("_law_move", 11)]) (g := (gName 11)) (tt := _) rfl nd rfl rfl (sw_true rfl rfl rfl (by decide +kernel)) (pi_list (pv 7)) (blkOk_by (N := N__law_lot_of) (sc := defScope s__law_lot_of) (by decide +kernel)) (fun _ _ _ _ _ => (pg_name (i := 11) nd rfl (Or.inl rfl))) (fun _ _ _ _ _ => (pts_one (PW.pt (pw_and (pt_cmpR (show OpR _ (compareOp .In) (rIn K false) from op_in_seq) (pe_ix (show IxR _ (rIxT K) from ix_tup) (pv 11) pe_int (fun _ _ => rfl)) (pv 14) rfl) (pw_and1 (pt_cmpR (show OpR _ (compareOp .In) (rIn K false) from op_in_seq) (pe_ix (show IxR _ (rIxT K) from ix_tup) (pv 11) pe_int (fun _ _ => rfl)) (pv 14) rfl)))))) (fun _ _ _ _ _ => (pv 11)))
    (pss_cons (ps_setLc (i := 7) (own := [("_law_move", 11)]) (g := (gName 11)) (tt := tYes) rfl nd rfl rfl (sw_true rfl rfl rfl (by decide +kernel)) (pi_list (pv 15)) (blkOk_by (N := N__law_lot_of) (sc := defScope s__law_lot_of) (by decide +kernel)) (fun _ _ _ _ _ => (pg_name (i := 11) nd rfl (Or.inl rfl))) (fun _ _ _ _ _ => pts_nil) (fun _ _ _ _ _ => (pe_tup (pa_cons (show PE _ _ (tBM K "list" (rIndex K) (tVar 14) (tCons (tOp (rIxT K) (tVar 11) (tC (.int 0))) tNil)) from pe_bm PySem.F.plainAttrs_list PySem.F.slot_list_index PySem.F.type_list_index mt_index (pv 14) (pa_cons (pe_ix (show IxR _ (rIxT K) from ix_tup) (pv 11) pe_int (fun _ _ => rfl)) pa_nil)) (pa_cons (pe_ix (show IxR _ (rIxT K) from ix_tup) (pv 11) pe_int (fun _ _ => rfl)) (pa_cons (show PE _ _ (tBM K "list" (rIndex K) (tVar 14) (tCons (tOp (rIxT K) (tVar 11) (tC (.int 2))) tNil)) from pe_bm PySem.F.plainAttrs_list PySem.F.slot_list_index PySem.F.type_list_index mt_index (pv 14) (pa_cons (pe_ix (show IxR _ (rIxT K) from ix_tup) (pv 11) pe_int (fun _ _ => rfl)) pa_nil)) pa_nil))))))
    (pss_one (ps_ret (pe_tup (pa_cons (pe_callB call_lenS (by rfl) T.n_len PySem.boot_len (pa_cons (pv 14) pa_nil)) (pa_cons (pe_lc (own := [("_law_state", 8)]) (g := (gName 8)) (tt := _) rfl nd (pi_list (pv 10)) (blkOk_by (N := N__law_lot_of) (sc := defScope s__law_lot_of) (by decide +kernel)) (fun _ _ _ _ _ => (pg_name (i := 8) nd rfl (Or.inl rfl))) (fun _ _ _ _ _ => (pts_one (pt_cmpR (show OpR _ (compareOp .In) (rIn K false) from op_in_seq) (pv 8) (pv 14) rfl))) (fun _ _ _ _ _ => (show PE _ _ (tBM K "list" (rIndex K) (tVar 14) (tCons (tVar 8) tNil)) from pe_bm PySem.F.plainAttrs_list PySem.F.slot_list_index PySem.F.type_list_index mt_index (pv 14) (pa_cons (pv 8) pa_nil)))) (pa_cons (pv 7) pa_nil))))))))))))))))))), ?_⟩
  have even : ∀ c ∈ z.cps.toList, oddC c = false := fun c hc => by
    unfold oddC
    rw [decide_eq_true (ho c hc)]
    rfl
  refine ⟨_, rfl, d, _, rfl, by decide, hD, fun H1 kind g0 g3 D1 B1 => ?_⟩
  refine ⟨_, rfl, rfl, _, rfl, ?_⟩
  refine ite2 (fun _ => ?_) (fun n0 => ?_)
  · refine ⟨by show 1 ≤ sizeLine; decide, fun l hl => ?_⟩
    have S2 := Rz.Same.new (o := .lst [.int 0]) (Same.refl H1) hl
    have el : upd H1 l (.lst [.int 0]) l = some (.lst [.int 0]) := upd_same
    have D2 := D1.same S2
    have hl1 : H1 l = none := hl
    generalize upd H1 l (.lst [.int 0]) = H2 at S2 el D2 ⊢
    refine sort_signs rfl (by omega) hn fun H3 q ds S3 hq eq pm pw => ⟨q, rfl, ⟨_, SqL.of eq⟩, fun D hDn => lc_it walk_list (fun i H' => Same H3 H' ∧ MAt H' D (everyM (ds.take i))) ⟨Rz.Same.new (Same.refl _) hDn, [], upd_same, .nil⟩ (fun i H' _ h => SqL.of (h.1 _ _ eq)) ?_ ?_⟩
    · rintro i x G1 G2 hi ⟨S, ts, e, P⟩ ⟨rfl, hx⟩
      obtain ⟨c, hc, rfl⟩ := sgs_get hx
      have lts := P.len
      unfold everyM at lts
      rw [List.length_map, List.length_take] at lts
      have lds := pm.length_eq
      have lz : z.cps.toList.length = z.length := rfl
      refine ⟨rfl, yesT ⟨_, rfl, by show 3 ≤ sizeLine; decide, fun u hu => ?_⟩⟩
      have S4 := Rz.Same.new (o := .tup [.int 0, .str ⟨#[c]⟩, .int 0]) (Same.refl G2) hu
      refine ⟨_, S4 _ _ e, by rw [List.length_map, sizeLine_eq]; omega, Rz.Same.upd (S.trans S4) hDn, ?_⟩
      have M := mat_push (m := (0, ⟨#[c]⟩, 0)) e P hu
      unfold everyM at M ⊢
      rw [List.take_add_one, hc, List.map_append]
      exact M
    rintro G ⟨SG, M⟩
    have ll : ((sgs ds).map V.str).length = ds.length := by unfold sgs; rw [List.length_map, List.length_map]
    rw [ll, List.take_length] at M
    refine ⟨by show 3 ≤ sizeLine; decide, fun t ht => ?_⟩
    have S5 := Rz.Same.new (o := .tup [.int 1, .ref l, .ref D]) (Same.refl G) ht
    have SA := ((S2.trans S3).trans SG).trans S5
    have hD0 : H1 D = none := (S2.trans S3).free hDn
    have ht0 : H1 t = none := ((S2.trans S3).trans SG).free ht
    have lds := pm.length_eq
    have lz : z.cps.toList.length = z.length := rfl
    have lM : (everyM ds).length = ds.length := by unfold everyM; rw [List.length_map]
    refine k _ t l D 1 [0] (everyM ds) upd_same (((S3.trans SG).trans S5) _ _ el) (M.same S5) (every_ok pw fun c hc => even c (pm.mem_iff.mp hc)) (by decide) (by decide) (by omega) (fun x hx => ?_) (B1.free1 D1 ht0) (B1.free1 D1 hl1) (B1.free1 D1 hD0) (D1.same SA) (B1.trans (But.of SA))
    obtain ⟨c, hc, rfl⟩ := List.mem_map.mp hx
    exact ⟨c, pm.mem_iff.mp hc, rfl⟩
  refine ⟨_, rfl, rfl, _, rfl, ?_⟩
  refine ite2 (fun _ => ?_) (fun n1 => ?_)
  · refine ⟨_, rfl, _, rfl, d, z, 0, 6, rfl, by decide, by decide, by decide, by omega, by omega, D1, fun H2 x _ x6 ox D2 B2 => ?_⟩
    have lx : x.length ≤ sizeLine := by rw [sizeLine_eq]; omega
    refine ⟨_, rfl, x, rfl, lx, _, _, rfl, rfl, ?_⟩
    refine ⟨_, rfl, x, rfl, lx, by show 1 ≤ sizeLine; decide, fun l hl => ?_⟩
    have S3 := Rz.Same.new (o := .lst [.int x.length]) (Same.refl H2) hl
    have el : upd H2 l (.lst [.int x.length]) l = some (.lst [.int x.length]) := upd_same
    have hl2 : H2 l = none := hl
    generalize upd H2 l (.lst [.int x.length]) = H3 at S3 el ⊢
    refine ⟨_, rfl, x, rfl, lx, _, rfl, by omega, by omega, fun D hDn => lc_range (lo := 0) (n := ((x.length : Nat) : Int).toNat) (fun i H' => Same H3 H' ∧ MAt H' D ((wordC x.cps.toList i).map toM)) ⟨Rz.Same.new (Same.refl _) hDn, [], upd_same, .nil⟩ ?_ ?_⟩
    · rintro i G2 hi ⟨S, ts, e, P⟩
      have hi2 : i < x.cps.toList.length := by
        show i < x.cps.size
        have : x.cps.size = x.length := rfl
        omega
      have hc : x.cps.toList[i]? = some x.cps.toList[i] := List.getElem?_eq_getElem hi2
      have lts := P.len
      rw [List.length_map, wordC_len] at lts
      have e0 : (0 : Int) + (i : Nat) = (i : Nat) := Int.zero_add _
      rw [e0]
      refine ⟨rfl, yesT ⟨_, rfl, _, rfl, _, rfl, x, _, x.cps.toList[i], rfl, rfl, lx, atI_nat hc, ?_⟩⟩
      refine ⟨_, rfl, _, _, rfl, rfl, by show 3 ≤ sizeLine; decide, fun u hu => ?_⟩
      have S4 := Rz.Same.new (o := .tup [.int (i : Nat), .str ⟨#[x.cps.toList[i]]⟩, .int ((i : Nat) + 1)]) (Same.refl G2) hu
      refine ⟨_, S4 _ _ e, by rw [List.length_map, sizeLine_eq]; omega, Rz.Same.upd (S.trans S4) hDn, ?_⟩
      have M := mat_push (m := (((i : Nat) : Int), ⟨#[x.cps.toList[i]]⟩, ((i : Nat) : Int) + 1)) e P hu
      have ew : (wordC x.cps.toList (i + 1)).map toM = (wordC x.cps.toList i).map toM ++ [(((i : Nat) : Int), ⟨#[x.cps.toList[i]]⟩, ((i : Nat) : Int) + 1)] := by
        show (wordC x.cps.toList i ++ _).map toM = _
        rw [List.map_append]
        show _ ++ [toM (((i : Nat) : Int), x.cps.toList.getD i 0, ((i + 1 : Nat) : Int))] = _
        rw [List.getD_eq_getElem?_getD, hc]
        rfl
      rw [ew]
      exact M
    rintro G ⟨SG, M⟩
    refine ⟨by show 3 ≤ sizeLine; decide, fun t ht => ?_⟩
    have en : ((x.length : Nat) : Int).toNat = x.length := by omega
    rw [en] at M
    have S5 := Rz.Same.new (o := .tup [.int ((x.length : Int) + 1), .ref l, .ref D]) (Same.refl G) ht
    have SA := (S3.trans SG).trans S5
    have BA := B1.trans B2
    have f1 : ∀ {y : Addr}, H2 y = none → H y = none := fun h => BA.free1 D2 h
    have cl : x.cps.toList.length = x.length := rfl
    have ev : ∀ c ∈ x.cps.toList, oddC c = false := fun c hc => even c (ox c hc)
    refine k _ t l D _ [(x.length : Int)] _ upd_same ((SG.trans S5) _ _ el) (M.same S5) (word_ok (by omega) (by omega) ev) (by omega) (by show 1 ≤ 7; decide) (by rw [List.length_map, wordC_len]; omega) (fun m hm => ?_) (f1 ((S3.trans SG).free ht)) (f1 hl2) (f1 (S3.free hDn)) (D2.same SA) (BA.trans (But.of SA))
    obtain ⟨y, hy, rfl⟩ := List.mem_map.mp hm
    obtain ⟨j, hj, rfl⟩ := wordC_mem.mp hy
    refine ⟨x.cps.toList.getD j 0, ox _ ?_, rfl⟩
    rw [List.getD_eq_getElem?_getD, List.getElem?_eq_getElem (by omega)]
    exact List.getElem_mem _
  refine ⟨_, rfl, d, _, rfl, by decide, D1, fun H2 r r0 r3 D2 B2 => ⟨_, _, rfl, rfl, ?_⟩⟩
  obtain ⟨many, em⟩ : ∃ n : Nat, (1 : Int) + r = (n : Int) := ⟨(1 + r).toNat, by omega⟩
  show gName 6 (V.int (1 + r)) _ _ _
  rw [em]
  have m1 : 1 ≤ many := by omega
  have m3 : many ≤ 3 := by omega
  refine ⟨Nat.zero_le _, fun lm hlm => ?_⟩
  have BA2 := B1.trans B2
  have hlm0 : H lm = none := BA2.free1 D2 hlm
  have D3 := D2.same (Rz.Same.new (o := .lst []) (Same.refl H2) hlm)
  have B3 : But [d] H (upd H2 lm (.lst [])) := BA2.upd (.inr hlm0)
  have M3 : MAt (upd H2 lm (.lst [])) lm (([] : List Mc).map toM) := ⟨[], upd_same, .nil⟩
  generalize upd H2 lm (.lst []) = H3 at D3 B3 M3 ⊢
  have ndl : lm ≠ d := fun z => by
    obtain ⟨ns, e, _⟩ := hD
    rw [z, e] at hlm0
    cases hlm0
  have ndt : ∀ {G : Hp}, Dr G d → ∀ xs, G d ≠ some (.tup xs) := fun D xs z => by
    obtain ⟨ns, e, _⟩ := D
    rw [e] at z
    cases z
  refine ⟨_, rfl, (many : Int), rfl, by omega, by omega, for_range (n := ((many : Nat) : Int).toNat) (fun i σ H' => ∃ (v3 v8 v9 : Option V) (m0 : List Mc), σ = [some (.ref d), some (.str z), some (.int kind), v3, none, none, some (.int many), some (.ref lm), v8, v9, none, none, none, none, none, none] ∧ MAt H' lm (m0.map toM) ∧ m0.Pairwise CLt ∧
      (∀ x ∈ m0, (0 ≤ x.1 ∧ x.1 < (i : Int)) ∧ 0 ≤ x.2.2 ∧ x.2.2 < (many : Int)) ∧ (∀ x ∈ m0, x.2.1 ∈ z.cps.toList) ∧ m0.length ≤ 4 * i ∧ Dr H' d ∧ But [d] H H')
    ⟨none, none, none, [], rfl, M3, List.Pairwise.nil, (fun x hx => by cases hx), (fun x hx => by cases hx), Nat.zero_le _, D3, B3⟩ ?_ ?_⟩
  · rintro i σ G1 hi ⟨v3, v8, v9, m0, rfl, M1, pw1, rg1, sg1, zl1, DG, BG⟩
    have e0 : (0 : Int) + (i : Nat) = (i : Nat) := Int.zero_add _
    rw [e0]
    refine sort_signs rfl (by omega) hn fun G2 q ds S2 hq eq pm pw => ⟨q, rfl, ⟨_, SqL.of eq⟩, for_it walk_list (fun j σ H' => ∃ (v3 v9 : Option V) (m0 : List Mc), σ = [some (.ref d), some (.str z), some (.int kind), v3, none, none, some (.int many), some (.ref lm), some (.int (i : Nat)), v9, none, none, none, none, none, none] ∧ MAt H' lm (m0.map toM) ∧ m0.Pairwise CLt ∧
      (∀ x ∈ m0, (0 ≤ x.1 ∧ (x.1 < (i : Int) ∨ (x.1 = (i : Int) ∧ x.2.1 ∈ ds.take j))) ∧ 0 ≤ x.2.2 ∧ x.2.2 < (many : Int)) ∧ (∀ x ∈ m0, x.2.1 ∈ z.cps.toList) ∧ m0.length ≤ 4 * i + j ∧ Dr H' d ∧ But [d] H H' ∧ H' q = some (.lst ((sgs ds).map V.str)))
      ⟨v3, v9, m0, rfl, M1.same S2, pw1, fun x hx => ⟨⟨(rg1 x hx).1.1, .inl (rg1 x hx).1.2⟩, (rg1 x hx).2⟩, sg1, zl1, DG.same S2, BG.trans (But.of S2), eq⟩ (fun j σ H' _ ⟨_, _, _, _, _, _, _, _, _, _, _, e⟩ => SqL.of e) ?_ ?_⟩
    · rintro j y σ G3 G4 hj ⟨v3, v9, m0, rfl, M3, pw3, rg3, sg3, zl3, D3, B3, e3⟩ ⟨rfl, hy⟩
      obtain ⟨c, hc, rfl⟩ := sgs_get hy
      have cz : c ∈ z.cps.toList := pm.mem_iff.mp (List.mem_of_getElem? hc)
      have jd : j < ds.length := (List.getElem?_eq_some_iff.mp hc).1
      have lds := pm.length_eq
      have lz : z.cps.toList.length = z.length := rfl
      have tk1 : ds.take (j + 1) = ds.take j ++ [c] := by rw [List.take_add_one, hc]; rfl
      refine ⟨_, rfl, _, rfl, _, _, rfl, rfl, d, _, rfl, by omega, D3, fun G5 g g0 g1 D5 B5 => ?_⟩
      have nqd : q ∉ [d] := fun z => by
        obtain ⟨ns, e, _⟩ := DG
        rw [List.mem_singleton.mp z, e] at hq
        cases hq
      have e5 := B5.at e3 nqd
      have M5 := M3.but B5 (by simpa using ndl) (tups1 B5 (ndt D3))
      have B05 := B3.trans B5
      refine ⟨_, rfl, _, rfl, _, _, rfl, rfl, _, rfl, ?_⟩
      refine ite2 (fun h1 => ?_) (fun h1 => ?_)
      · have gm : g < (many : Int) := of_decide_eq_true h1
        obtain ⟨ts, em5, P5⟩ := M5
        have lts := P5.len
        rw [List.length_map] at lts
        refine ⟨_, rfl, .inl ⟨rfl, _, SqL.of em5⟩, _, rfl, _, rfl, _, rfl, by show 3 ≤ sizeLine; decide, fun u hu => ?_⟩
        have S6 := Rz.Same.new (o := .tup [.int (i : Nat), .str ⟨#[c]⟩, .int g]) (Same.refl G5) hu
        have nql : q ≠ lm := fun z => by
          obtain ⟨ts0, e0, _⟩ := M1
          rw [z, e0] at hq
          cases hq
        refine ⟨lm, _, _, rfl, rfl, S6 _ _ em5, by rw [List.length_map, sizeLine_eq]; omega, ?_⟩
        refine ⟨_, _, m0 ++ [(((i : Nat) : Int), c, g)], rfl, ?_, ?_, fun x hx => ?_, fun x hx => ?_, ?_, ?_, ?_, ?_⟩
        · rw [List.map_append]
          exact mat_push (m := toM (((i : Nat) : Int), c, g)) em5 P5 hu
        · refine List.pairwise_append.mpr ⟨pw3, List.pairwise_singleton _ _, fun a ha b hb => ?_⟩
          rw [List.mem_singleton.mp hb]
          rcases (rg3 a ha).1.2 with q1 | ⟨q1, q2⟩
          · exact .inl q1
          · refine .inr ⟨q1, ?_⟩
            obtain ⟨x, hx, e⟩ := List.getElem_of_mem q2
            rw [List.getElem_take] at e
            rw [List.length_take] at hx
            have := List.pairwise_iff_getElem.mp pw x j (by omega) jd (by omega)
            rw [e] at this
            have e7 : ds[j] = c := by
              rw [List.getElem?_eq_getElem jd] at hc
              exact Option.some.inj hc
            rw [e7] at this
            exact this
        · rcases List.mem_append.mp hx with q1 | q1
          · obtain ⟨⟨a1, a2⟩, a3⟩ := rg3 x q1
            exact ⟨⟨a1, a2.imp id fun ⟨b1, b2⟩ => ⟨b1, by rw [tk1]; exact List.mem_append_left _ b2⟩⟩, a3⟩
          · rw [List.mem_singleton.mp q1]
            exact ⟨⟨by show (0 : Int) ≤ (i : Nat); omega, .inr ⟨rfl, by rw [tk1]; simp⟩⟩, g0, gm⟩
        · rcases List.mem_append.mp hx with q1 | q1
          · exact sg3 x q1
          · rw [List.mem_singleton.mp q1]
            exact cz
        · rw [List.length_append]
          show m0.length + 1 ≤ _
          omega
        · exact (D5.same S6).upd (by simpa using Ne.symm ndl)
        · exact (B05.trans (But.of S6)).upd (.inr hlm0)
        · rw [upd_ne nql]
          exact S6 _ _ e5
      · refine ⟨_, _, m0, rfl, M5, pw3, fun x hx => ?_, sg3, by omega, D5, B05, e5⟩
        obtain ⟨⟨a1, a2⟩, a3⟩ := rg3 x hx
        exact ⟨⟨a1, a2.imp id fun ⟨b1, b2⟩ => ⟨b1, by rw [tk1]; exact List.mem_append_left _ b2⟩⟩, a3⟩
    · rintro σ G3 ⟨v3, v9, m0, rfl, M3, pw3, rg3, sg3, zl3, D3, B3, e3⟩
      have lds := pm.length_eq
      have lz : z.cps.toList.length = z.length := rfl
      have ll : ((sgs ds).map V.str).length = ds.length := by unfold sgs; rw [List.length_map, List.length_map]
      rw [ll] at zl3
      refine ⟨_, _, _, m0, rfl, M3, pw3, fun x hx => ?_, sg3, by omega, D3, B3⟩
      obtain ⟨⟨a1, a2⟩, a3⟩ := rg3 x hx
      refine ⟨⟨a1, ?_⟩, a3⟩
      have a2 : x.1 < ((i : Nat) : Int) ∨ x.1 = ((i : Nat) : Int) := a2.imp id (·.1)
      show x.1 < ((i + 1 : Nat) : Int)
      omega
  rintro σ G1 ⟨v3, v8, v9, m0, rfl, M1, pw1, rg1, sg1, zl1, DG1, BG1⟩
  have en : ((many : Nat) : Int).toNat = many := by omega
  rw [en] at rg1 zl1
  refine ⟨_, rfl, (many : Int), rfl, by omega, by omega, fun L hL => lc_range (lo := 0) (n := ((many : Nat) : Int).toNat) (fun i H' => ∃ l0 : List Int, H' L = some (.lst (l0.map V.int)) ∧ l0.Pairwise (· < ·) ∧ (∀ x ∈ l0, 0 ≤ x ∧ x < (i : Int)) ∧ l0.length ≤ i ∧ MAt H' lm (m0.map toM) ∧ Dr H' d ∧ But [d] H H')
    ⟨[], upd_same, List.Pairwise.nil, (fun x hx => by cases hx), Nat.zero_le _, M1.same (Rz.Same.new (Same.refl _) hL), DG1.same (Rz.Same.new (Same.refl _) hL), BG1.upd (.inr (BG1.free1 DG1 hL))⟩ ?_ ?_⟩
  · rintro i G2 hi ⟨l0, e, pl, rl, zl0, M2, D2, B2⟩
    have e0 : (0 : Int) + (i : Nat) = (i : Nat) := Int.zero_add _
    rw [e0]
    have nLd : L ∉ [d] := fun z => by
      obtain ⟨ns, e, _⟩ := DG1
      rw [List.mem_singleton.mp z, e] at hL
      cases hL
    have nLm : lm ≠ L := fun z => by
      obtain ⟨ts, e, _⟩ := M1
      rw [← z, e] at hL
      cases hL
    refine ⟨rfl, _, rfl, d, _, rfl, by decide, D2, fun G3 r r0 r1 D3 B3 => ⟨rfl, _, rfl, ?_⟩⟩
    have M3 := M2.but B3 (by simpa using ndl) (tups1 B3 (ndt D2))
    have e3 := B3.at e nLd
    refine ite2 (fun _ => ?_) (fun _ => ?_)
    · refine ⟨_, rfl, _, e3, by rw [List.length_map, sizeLine_eq]; omega, l0 ++ [((i : Nat) : Int)], by rw [upd_same, List.map_append]; rfl, ?_, fun x hx => ?_, ?_, ?_, ?_, ?_⟩
      · refine List.pairwise_append.mpr ⟨pl, List.pairwise_singleton _ _, fun a ha b hb => ?_⟩
        rw [List.mem_singleton.mp hb]
        exact (rl a ha).2
      · rcases List.mem_append.mp hx with q | q
        · have := rl x q
          omega
        · rw [List.mem_singleton.mp q]
          omega
      · rw [List.length_append]
        show l0.length + 1 ≤ _
        omega
      · obtain ⟨ts, em3, P3⟩ := M3
        exact ⟨ts, by rw [upd_ne nLm]; exact em3, P3.keep (Tups.upd (Tups.of (Same.refl G3)) (not_tupL ⟨_, e3⟩))⟩
      · exact D3.upd (by simpa using Ne.symm (by simpa using nLd))
      · exact (B2.trans B3).upd (.inr (BG1.free1 DG1 hL))
    · exact ⟨l0, e3, pl, fun x hx => by have := rl x hx; omega, by omega, M3, D3, B2.trans B3⟩
  rintro G2 ⟨l0, eL, pl, rl, zl0, M2, D2, B2⟩
  rw [en] at rl zl0
  have hL0 : H L = none := BG1.free1 DG1 hL
  refine ⟨by show 1 ≤ sizeLine; decide, fun st hst => ?_⟩
  have S3 := Rz.Same.new (o := .lst [.int 0]) (Same.refl G2) hst
  have est : upd G2 st (.lst [.int 0]) st = some (.lst (([0] : List Int).map V.int)) := upd_same
  generalize upd G2 st (.lst [.int 0]) = G3 at S3 est ⊢
  obtain ⟨ts2, em2, P2⟩ := M2
  have P3 := P2.keep (Tups.of S3)
  have lm0 : (m0.map toM).length = m0.length := List.length_map _
  refine links_lc (fun m => (m.1, m.2.2)) (S3 _ _ em2) P3 (by omega) (fun m => atI_nat (j := 0) rfl) (fun m => atI_nat (j := 2) rfl) fun G4 D4 S4 hD4 LK4 => ?_
  have LK4 : LkAt G4 D4 (fwd (m0.map toM)) := LK4
  have fin : ∀ p ∈ fwd (m0.map toM), 0 ≤ p.2 ∧ p.2 < 7 := fun p hp => by
    obtain ⟨c, hc⟩ := fwd_of (x := p.1) (y := p.2) hp
    have : 0 ≤ p.2 ∧ p.2 < (many : Int) := (rg1 _ hc).2
    omega
  refine ⟨st, D4, [0], fwd (m0.map toM), rfl, S4 _ _ est, LK4, by simp, (fun x hx => by rw [List.mem_singleton.mp hx]; decide), fin, fun G5 ah fs S5 hah eah ndf hf => ?_⟩
  have S25 := (S3.trans S4).trans S5
  have eL5 := S25 _ _ eL
  have em5 := S25 _ _ em2
  have P5 := P2.keep (Tups.of S25)
  have D5 := D2.same S25
  have B5 := B2.trans (But.of S25)
  refine ⟨fun σ H' => ∃ (L1 : Addr) (l1 : List Int), σ = [some (.ref d), some (.str z), some (.int kind), v3, none, none, some (.int many), some (.ref lm), v8, v9, some (.ref L1), none, some (.ref ah), none, none, none] ∧ H' L1 = some (.lst (l1.map V.int)) ∧ l1.Pairwise (· < ·) ∧ (∀ x ∈ l1, 0 ≤ x ∧ x < (many : Int)) ∧ (∃ x ∈ l1, Reach (fwd (m0.map toM)) [0] x) ∧ l1.length ≤ 3 ∧ Same G5 H', ?_, ?_⟩
  · refine ⟨_, rfl, L, rfl, ⟨_, SqL.of eL5⟩, fun D hD => lc_it walk_list (fun i H' => Same G5 H' ∧ H' D = some (.lst (((l0.take i).filter fun x => decide (x ∈ fs)).map V.int))) ⟨Rz.Same.new (Same.refl _) hD, upd_same⟩ (fun i H' _ h => SqL.of (h.1 _ _ eL5)) ?_ ?_⟩
    · rintro i y G6 G7 hi ⟨S, e⟩ ⟨rfl, hy⟩
      obtain ⟨x, hx, rfl⟩ := mapi_get hy
      have lf := List.length_filter_le (fun x => decide (x ∈ fs)) (l0.take i)
      rw [List.length_take] at lf
      refine ⟨rfl, _, rfl, _, rfl, ah, _, rfl, .inl (SqL.of (S _ _ eah)), rfl, flat_ints _, _, rfl, ?_⟩
      rw [if_neg (by decide), in_ints]
      have tk1 : l0.take (i + 1) = l0.take i ++ [x] := by rw [List.take_add_one, hx]; rfl
      refine ite2 (fun h => ?_) (fun h => ?_)
      · refine ⟨_, rfl, _, e, by rw [List.length_map, sizeLine_eq]; omega, Rz.Same.upd S hD, ?_⟩
        rw [tk1, List.filter_append, List.filter_cons, List.filter_nil, if_pos h, upd_same, List.map_append]
        rfl
      · refine ⟨S, ?_⟩
        rw [tk1, List.filter_append, List.filter_cons, List.filter_nil, if_neg h, List.append_nil]
        exact e
    rintro G6 ⟨S6, e6⟩
    rw [List.length_map, List.take_length] at e6
    refine ⟨Nat.zero_le _, fun p hp => ?_⟩
    have S7 := Rz.Same.new (o := .lst []) (Same.refl G6) hp
    have e7 := S7 _ _ e6
    have S57 := S6.trans S7
    refine ⟨dInts (l0.filter fun x => decide (x ∈ fs)), dInts [], dp_ints (SqL.of e7), dp_ints (SqL.of upd_same), ints_shaped _, ints_shaped _, _, rfl, ?_⟩
    rw [ints_eqv]
    refine ite2 (fun e => ?_) (fun e => ?_)
    · refine ⟨by show 1 ≤ sizeLine; decide, fun p2 hp2 => ?_⟩
      have S8 := Rz.Same.new (o := .lst [.int 0]) (Same.refl (upd G6 p (.lst []))) hp2
      exact ⟨p2, [0], rfl, upd_same, by simp, (fun x hx => by rw [List.mem_singleton.mp hx]; omega), ⟨0, by simp, .start (by simp)⟩, by decide, S57.trans S8⟩
    · have ne : l0.filter (fun x => decide (x ∈ fs)) ≠ [] := fun q => e (decide_eq_true q)
      obtain ⟨x, hx⟩ := List.exists_mem_of_ne_nil _ ne
      obtain ⟨h1, h2⟩ := List.mem_filter.mp hx
      exact ⟨L, l0, rfl, S57 _ _ eL5, pl, rl, ⟨x, h1, (hf x).mp (of_decide_eq_true h2)⟩, by omega, S57⟩
  rintro σ G6 ⟨L1, l1, rfl, eL1, pl1, rl1, hit, zl1b, S6⟩
  refine ⟨_, rfl, ?_⟩
  refine links_lc (fun m => (m.2.2, m.1)) (S6 _ _ em5) (P5.keep (Tups.of S6)) (by omega) (fun m => atI_nat (j := 2) rfl) (fun m => atI_nat (j := 0) rfl) fun G7 D7 S7 hD7 LK7 => ?_
  have LK7 : LkAt G7 D7 (bwd (m0.map toM)) := LK7
  have fin2 : ∀ p ∈ bwd (m0.map toM), 0 ≤ p.2 ∧ p.2 < 7 := fun p hp => by
    obtain ⟨c, hc⟩ := fwd_of (x := p.2) (y := p.1) (fwd_mem.mpr hp)
    have : 0 ≤ p.2 ∧ p.2 < (many : Int) := (rg1 _ hc).1
    omega
  refine ⟨L1, D7, l1, bwd (m0.map toM), rfl, S7 _ _ eL1, LK7, pl1.imp (fun q => by omega), (fun x hx => by have := rl1 x hx; omega), fin2, fun G8 bk gs S8 hbk ebk ndg hg => ?_⟩
  have S58 := (S6.trans S7).trans S8
  have S68 := S7.trans S8
  refine ⟨_, rfl, (many : Int), rfl, by omega, by omega, fun KP hKP => lc_range (lo := 0) (n := ((many : Nat) : Int).toNat) (fun i H' => Same G8 H' ∧ ∃ ks : List Int, H' KP = some (.lst (ks.map V.int)) ∧ ks.length ≤ i ∧ ks.Pairwise (· < ·) ∧ ∀ x, x ∈ ks ↔ (0 ≤ x ∧ x < (i : Int)) ∧ x ∈ fs ∧ x ∈ gs)
    ⟨Rz.Same.new (Same.refl _) hKP, [], upd_same, Nat.zero_le _, List.Pairwise.nil, fun x => ⟨fun h => (by cases h), fun h => (by have := h.1; omega)⟩⟩ ?_ ?_⟩
  · rintro i Ga hi ⟨S, ks, e, zk, kp, km⟩
    have e0 : (0 : Int) + (i : Nat) = (i : Nat) := Int.zero_add _
    rw [e0]
    have no : ¬ (((i : Nat) : Int) ∈ fs ∧ ((i : Nat) : Int) ∈ gs) → ∀ x, x ∈ ks ↔ (0 ≤ x ∧ x < ((i + 1 : Nat) : Int)) ∧ x ∈ fs ∧ x ∈ gs := fun h x => by
      rw [km]
      constructor
      · rintro ⟨a, b⟩
        exact ⟨by omega, b⟩
      · rintro ⟨a, b⟩
        refine ⟨?_, b⟩
        have : x ≠ ((i : Nat) : Int) := fun q => h (by rw [← q]; exact b)
        omega
    refine ⟨rfl, _, rfl, _, rfl, ah, _, rfl, .inl (SqL.of (S _ _ (S58 _ _ eah))), rfl, flat_ints _, _, rfl, ?_⟩
    rw [if_neg (by decide), in_ints]
    refine ite2 (fun h1 => ?_) (fun h1 => ?_)
    · refine ⟨_, rfl, _, rfl, bk, _, rfl, .inl (SqL.of (S _ _ ebk)), rfl, flat_ints _, _, rfl, ?_⟩
      rw [if_neg (by decide), in_ints]
      refine ite2 (fun h2 => ?_) (fun h2 => ?_)
      · refine ⟨_, rfl, _, e, by rw [List.length_map, sizeLine_eq]; omega, Rz.Same.upd S hKP, ks ++ [((i : Nat) : Int)], by rw [upd_same, List.map_append]; rfl, by rw [List.length_append]; exact Nat.succ_le_succ zk, ?_, fun x => ?_⟩
        · refine List.pairwise_append.mpr ⟨kp, List.pairwise_singleton _ _, fun a ha b hb => ?_⟩
          rw [List.mem_singleton.mp hb]
          exact ((km a).mp ha).1.2
        · rw [List.mem_append, km, List.mem_singleton]
          constructor
          · rintro (⟨a, b⟩ | a)
            · exact ⟨by omega, b⟩
            · rw [a]
              exact ⟨by omega, of_decide_eq_true h1, of_decide_eq_true h2⟩
          · rintro ⟨a, b⟩
            by_cases q : x = ((i : Nat) : Int)
            · exact .inr q
            · exact .inl ⟨by omega, b⟩
      · exact ⟨S, ks, e, Nat.le_succ_of_le zk, kp, no fun z => h2 (decide_eq_true z.2)⟩
    · exact ⟨S, ks, e, Nat.le_succ_of_le zk, kp, no fun z => h1 (decide_eq_true z.1)⟩
  rintro G9 ⟨S9, ks, eK, zk, kp, km⟩
  rw [en] at zk km
  have dr : Drawn many m0 l1 ks := ⟨m1, by omega, pw1, rg1, fun x hx => even _ (sg1 x hx), pl1, rl1, hit, kp, fun x => by rw [km, hf, hg]⟩
  have S59 := S58.trans S9
  have em9 := S59 _ _ em5
  have P9 := P5.keep (Tups.of S59)
  have lts := P9.len
  refine ⟨_, rfl, lm, rfl, ⟨_, SqL.of em9⟩, fun IN hIN => lc_it walk_list (fun i H' => Same G9 H' ∧ ∃ us : List Addr, H' IN = some (.lst (us.map V.ref)) ∧ MvL H' us (((m0.take i).filter fun x => decide (x.1 ∈ ks ∧ x.2.2 ∈ ks)).map toM)) ⟨Rz.Same.new (Same.refl _) hIN, [], upd_same, .nil⟩ (fun i H' _ h => SqL.of (h.1 _ _ em9)) ?_ ?_⟩
  · rintro i y Ga Gb hi ⟨S, us, e, P⟩ ⟨rfl, hy⟩
    obtain ⟨t, ht, rfl⟩ := refs_get hy
    obtain ⟨m, hm, et⟩ := P9.get ht
    rw [List.getElem?_map] at hm
    cases hx : m0[i]? with
    | none => rw [hx] at hm; cases hm
    | some x =>
      rw [hx] at hm
      cases hm
      have lus := P.len
      rw [List.length_map] at lus
      have lf := List.length_filter_le (fun x : Mc => decide (x.1 ∈ ks ∧ x.2.2 ∈ ks)) (m0.take i)
      rw [List.length_take] at lf
      have tk1 : m0.take (i + 1) = m0.take i ++ [x] := by rw [List.take_add_one, hx]; rfl
      have no : ¬ (x.1 ∈ ks ∧ x.2.2 ∈ ks) → Same G9 Gb ∧ ∃ us : List Addr, Gb IN = some (.lst (us.map V.ref)) ∧ MvL Gb us (((m0.take (i + 1)).filter fun x => decide (x.1 ∈ ks ∧ x.2.2 ∈ ks)).map toM) := fun h => by
        refine ⟨S, us, e, ?_⟩
        rw [tk1, List.filter_append, List.filter_cons, List.filter_nil, if_neg (fun q => h (of_decide_eq_true q)), List.append_nil]
        exact P
      refine ⟨rfl, _, rfl, t, _, 0, _, rfl, rfl, SqT.of (S _ _ et), atI_nat (j := 0) rfl, _, rfl, KP, _, rfl, .inl (SqL.of (S _ _ eK)), rfl, flat_ints _, _, rfl, ?_⟩
      rw [if_neg (by decide)]
      show if inV (.int x.1) (ks.map V.int) = true then _ else _
      rw [in_ints]
      refine ite2 (fun h1 => ?_) (fun h1 => no fun q => h1 (decide_eq_true q.1))
      refine ⟨_, rfl, t, _, 2, _, rfl, rfl, SqT.of (S _ _ et), atI_nat (j := 2) rfl, _, rfl, KP, _, rfl, .inl (SqL.of (S _ _ eK)), rfl, flat_ints _, _, rfl, ?_⟩
      rw [if_neg (by decide)]
      show if inV (.int x.2.2) (ks.map V.int) = true then _ else _
      rw [in_ints]
      refine ite2 (fun h2 => ?_) (fun h2 => no fun q => h2 (decide_eq_true q.2))
      have yes : x.1 ∈ ks ∧ x.2.2 ∈ ks := ⟨of_decide_eq_true h1, of_decide_eq_true h2⟩
      refine ⟨_, rfl, _, e, by rw [List.length_map, sizeLine_eq]; omega, Rz.Same.upd S hIN, us ++ [t], by rw [upd_same, List.map_append]; rfl, ?_⟩
      rw [tk1, List.filter_append, List.filter_cons, List.filter_nil, if_pos (decide_eq_true yes), List.map_append]
      have T3 : Tups Gb (upd Gb IN (.lst (us.map V.ref ++ [.ref t]))) := Tups.upd (Tups.of (Same.refl _)) (not_tupL ⟨_, e⟩)
      exact (P.keep T3).append (.cons (T3 _ _ (S _ _ et)) .nil)
  rintro Gc ⟨Sc, us, eI, PI⟩
  have len1 : ((ts2.map V.ref).length) = m0.length := by rw [List.length_map, lts, List.length_map]
  rw [len1, List.take_length] at PI
  have eK2 := Sc _ _ eK
  have inn : ∀ x ∈ m0.filter (fun x => decide (x.1 ∈ ks ∧ x.2.2 ∈ ks)), x.1 ∈ ks ∧ x.2.2 ∈ ks := fun x hx => of_decide_eq_true (List.mem_filter.mp hx).2
  have lin := List.length_filter_le (fun x : Mc => decide (x.1 ∈ ks ∧ x.2.2 ∈ ks)) m0
  have ekeep : keepM ks m0 = (m0.filter fun x => decide (x.1 ∈ ks ∧ x.2.2 ∈ ks)).map fun x => (kx ks x.1, x.2.1, kx ks x.2.2) := rfl
  generalize m0.filter (fun x => decide (x.1 ∈ ks ∧ x.2.2 ∈ ks)) = inner at PI inn lin ekeep
  refine ⟨_, rfl, IN, rfl, ⟨_, SqL.of eI⟩, fun MV hMV => lc_it walk_list (fun i H' => Same Gc H' ∧ MAt H' MV (((inner.take i).map fun x => ((kx ks x.1, x.2.1, kx ks x.2.2) : Mc)).map toM)) ⟨Rz.Same.new (Same.refl _) hMV, [], upd_same, .nil⟩ (fun i H' _ h => SqL.of (h.1 _ _ eI)) ?_ ?_⟩
  · rintro i y Ga Gb hi ⟨S, ws, e, P⟩ ⟨rfl, hy⟩
    obtain ⟨t, ht, rfl⟩ := refs_get hy
    obtain ⟨m, hm, et⟩ := PI.get ht
    rw [List.getElem?_map] at hm
    cases hx : inner[i]? with
    | none => rw [hx] at hm; cases hm
    | some x =>
      rw [hx] at hm
      cases hm
      have hin := inn x (List.mem_of_getElem? hx)
      have lws := P.len
      rw [List.length_map, List.length_map, List.length_take] at lws
      have tk1 : inner.take (i + 1) = inner.take i ++ [x] := by rw [List.take_add_one, hx]; rfl
      have eK3 := S _ _ eK2
      have et3 := S _ _ et
      refine ⟨rfl, yesT ⟨_, rfl, .inl ⟨rfl, _, SqL.of eK3⟩, _, rfl, t, _, 0, _, rfl, rfl, SqT.of et3, atI_nat (j := 0) rfl, index_args eK3 hin.1 ?_⟩⟩
      refine ⟨_, rfl, t, _, 1, _, rfl, rfl, SqT.of et3, atI_nat (j := 1) rfl, ?_⟩
      refine ⟨_, rfl, .inl ⟨rfl, _, SqL.of eK3⟩, _, rfl, t, _, 2, _, rfl, rfl, SqT.of et3, atI_nat (j := 2) rfl, index_args eK3 hin.2 ?_⟩
      refine ⟨by show 3 ≤ sizeLine; decide, fun u hu => ?_⟩
      have S4 := Rz.Same.new (o := .tup [.int (kx ks x.1), .str ⟨#[x.2.1]⟩, .int (kx ks x.2.2)]) (Same.refl Gb) hu
      refine ⟨_, S4 _ _ e, by rw [List.length_map, sizeLine_eq]; omega, Rz.Same.upd (S.trans S4) hMV, ?_⟩
      rw [tk1, List.map_append, List.map_append]
      exact mat_push (m := toM (kx ks x.1, x.2.1, kx ks x.2.2)) e P hu
  rintro Gd ⟨Sd, MM⟩
  have lus := PI.len
  rw [List.length_map] at lus
  rw [List.length_map, lus, List.take_length, ← ekeep] at MM
  have eK4 := Sd _ _ eK2
  have eL4 := Sd _ _ (Sc _ _ (S9 _ _ (S68 _ _ eL1)))
  refine ⟨_, rfl, ?_⟩
  unfold rLenS
  refine ⟨KP, _, rfl, SqL.of eK4, ?_⟩
  refine ⟨_, rfl, L1, rfl, ⟨_, SqL.of eL4⟩, fun LL hLL => lc_it walk_list (fun i H' => Same Gd H' ∧ H' LL = some (.lst ((keepL ks (l1.take i)).map V.int))) ⟨Rz.Same.new (Same.refl _) hLL, upd_same⟩ (fun i H' _ h => SqL.of (h.1 _ _ eL4)) ?_ ?_⟩
  · rintro i y Ga Gb hi ⟨S, e⟩ ⟨rfl, hy⟩
    obtain ⟨x, hx, rfl⟩ := mapi_get hy
    have tk1 : l1.take (i + 1) = l1.take i ++ [x] := by rw [List.take_add_one, hx]; rfl
    have lf := List.length_filter_le (fun x => decide (x ∈ ks)) (l1.take i)
    rw [List.length_take] at lf
    refine ⟨rfl, _, rfl, _, rfl, KP, _, rfl, .inl (SqL.of (S _ _ eK4)), rfl, flat_ints _, _, rfl, ?_⟩
    rw [if_neg (by decide), in_ints]
    refine ite2 (fun h => ?_) (fun h => ?_)
    · refine ⟨_, rfl, .inl ⟨rfl, _, SqL.of (S _ _ eK4)⟩, _, rfl, index_args (S _ _ eK4) (of_decide_eq_true h) ⟨_, e, ?_, Rz.Same.upd S hLL, ?_⟩⟩
      · unfold keepL
        rw [List.length_map, List.length_map, sizeLine_eq]
        omega
      · unfold keepL
        rw [tk1, List.filter_append, List.filter_cons, List.filter_nil, if_pos h, upd_same, List.map_append, List.map_append]
        rfl
    · refine ⟨S, ?_⟩
      unfold keepL at e ⊢
      rw [tk1, List.filter_append, List.filter_cons, List.filter_nil, if_neg h, List.append_nil]
      exact e
  rintro Ge ⟨Se, eLL⟩
  rw [List.length_map, List.take_length] at eLL
  refine ⟨_, rfl, by show 3 ≤ sizeLine; decide, fun t ht => ?_⟩
  have Sf := Rz.Same.new (o := .tup [.int (ks.map V.int).length, .ref LL, .ref MV]) (Same.refl Ge) ht
  have S5d := (S59.trans Sc).trans Sd
  have S5f := (S5d.trans Se).trans Sf
  have f1 : ∀ {y : Addr}, G5 y = none → H y = none := fun h => B5.free1 D5 h
  have lk := dr.size
  have lkl : (keepL ks l1).length ≤ 3 := by
    unfold keepL
    rw [List.length_map]
    exact Nat.le_trans (List.length_filter_le _ _) zl1b
  refine k _ t LL MV ((ks.map V.int).length : Nat) (keepL ks l1) ((keepM ks m0).map toM) upd_same (Sf _ _ eLL) ((MM.same Se).same Sf) (by rw [List.length_map]; exact dr.ok) (by rw [List.length_map]; omega) (by omega) (by rw [ekeep, List.length_map, List.length_map]; omega) (fun m hm => ?_) (f1 ((S5d.trans Se).free ht)) (f1 (S5d.free hLL)) (f1 ((S59.trans Sc).free hMV)) (D5.same S5f) (B5.trans (But.of S5f))
  obtain ⟨y, hy, rfl⟩ := List.mem_map.mp hm
  obtain ⟨a, c, b, h1, _, _, rfl⟩ := keepM_of hy
  exact ⟨c, sg1 _ h1, rfl⟩
end
end Rz

namespace Rz
open PySem PySem.Spec PyProof.Rows L2
/-- where the moves lead a text, None when nothing leads on -/
def inlot (ms : List Mv) : List Nat → Option Int
  | cs => cs.foldl (fun s c => s.bind fun q => Lead ms [.inl q, .inr ⟨#[c]⟩]) (some 0)
def inLot (ls : List Int) (ms : List Mv) (z : Str) : Bool := match inlot ms z.cps.toList with
  | some q => decide (q ∈ ls)
  | none => false
/-- the goals of the moves from q with the sign x -/
def goalsOf (ms : List Mv) (q : Int) (x : Str) : List Int := (ms.filter fun m => decide (m.1 = q ∧ m.2.1 = x)).map (·.2.2)
theorem goals_lead (ms : List Mv) (q : Int) (x : Str) : (goalsOf ms q x).head? = Lead ms [.inl q, .inr x] := by
  unfold goalsOf Lead
  rw [List.head?_map, List.head?_filter]
  have e : (fun m : Mv => decide (leadK m = [.inl q, .inr x])) = fun m => decide (m.1 = q ∧ m.2.1 = x) := by
    funext m
    unfold leadK
    simp only [List.cons.injEq, Sum.inl.injEq, Sum.inr.injEq, and_true]
  rw [e]
theorem inlot_snoc (ms : List Mv) (cs : List Nat) (c : Nat) : inlot ms (cs ++ [c]) = (inlot ms cs).bind fun q => Lead ms [.inl q, .inr ⟨#[c]⟩] := by
  unfold inlot
  rw [List.foldl_append]
  rfl
theorem inlot_dead (ms : List Mv) : ∀ cs : List Nat, cs.foldl (fun s c => s.bind fun q => Lead ms [.inl q, .inr ⟨#[c]⟩]) none = none
  | [] => rfl
  | c :: cs => inlot_dead ms cs
theorem inlot_none {ms : List Mv} {as bs : List Nat} (h : inlot ms as = none) : inlot ms (as ++ bs) = none := by
  unfold inlot at h ⊢
  rw [List.foldl_append, h]
  exact inlot_dead ms bs
def sp_law_in_lot : Sp := fun vs H Q _ => ∃ (t l m : Addr) (n : Int) (ls : List Int) (ms : List Mv) (z : Str), vs = [.str z, .ref t] ∧ H t = some (.tup [.int n, .ref l, .ref m]) ∧ H l = some (.lst (ls.map V.int)) ∧ MAt H m ms ∧ ms.length ≤ 1000 ∧ ∀ H', Same H H' → Q (.bl (inLot ls ms z)) H'
section
variable {w : World} {K : PySem.W.Frag} {mg : Str → Option Value} {base : Heap}
theorem sc_law_in_lot : FnScope N__law_in_lot P__law_in_lot (defScope s__law_in_lot) := ⟨rfl, rfl, rfl, by decide +kernel, rfl, by decide +kernel, by decide +kernel⟩
theorem ok_law_in_lot (T : Txt K mg) : FnOk prg w K mg base (L2.CX prg w) 1 T.f__law_in_lot T.fd__law_in_lot P__law_in_lot sp_law_in_lot := by
  refine Rz.Fun.okN T.F__law_in_lot sc_law_in_lot (fun vs H Q E h => ?_) (fun cdv A outer s H vs Q E hr h => ?_)
  · obtain ⟨t, l, m, n, ls, ms, z, rfl, _⟩ := h
    rfl
  obtain ⟨t, l, m, n, ls, ms, z, rfl, ht, hl, ⟨ts, em, hM⟩, zm, k⟩ := h
  have nd := sc_law_in_lot.nd
  refine ⟨_, (pss_cons (ps_set (i := 2) nd rfl (Or.inr rfl) pe_int)
    (pss_cons (ps_for PassesOwn.never rfl (pi_str (pv 0)) (pg_name (i := 3) nd rfl (Or.inr rfl))
      (pss_cons (ps_setLc (i := 5) (own := [("_law_move", 4)]) (g := (gName 4)) (tt := _) rfl nd rfl rfl (sw_true rfl rfl rfl (by decide +kernel)) (pi_list (pe_ix (show IxR _ (rIxT K) from ix_tup) (pv 1) pe_int (fun _ _ => rfl))) (blkOk_by (N := N__law_in_lot) (sc := defScope s__law_in_lot) (by decide +kernel)) (fun _ _ _ _ _ => (pg_name (i := 4) nd rfl (Or.inl rfl))) (fun _ _ _ _ _ => (pts_one (PW.pt (pw_and (pt_cmpR op_eq (pe_ix (show IxR _ (rIxT K) from ix_tup) (pv 4) pe_int (fun _ _ => rfl)) (pv 2) (nomark _)) (pw_and1 (pt_cmpR op_eq (pe_ix (show IxR _ (rIxT K) from ix_tup) (pv 4) pe_int (fun _ _ => rfl)) (pv 3) (nomark _))))))) (fun _ _ _ _ _ => (pe_ix (show IxR _ (rIxT K) from ix_tup) (pv 4) pe_int (fun _ _ => rfl))))
      (pss_cons (ps_if (pt_cmpR (op_eqD hr.units) (pv 5) (pe_lst pa_nil) (nomark _)) (pss_one (ps_ret pe_bl)) pss_nil)
      (pss_one (ps_set (i := 2) nd rfl (Or.inr rfl) (pe_ix ix_list (pv 5) pe_int (fun _ _ => rfl)))))))
    (pss_one (ps_ret (pe_cmpR (show OpR _ (compareOp .In) (rIn K false) from op_in_seq) (pv 2) (pe_ix (show IxR _ (rIxT K) from ix_tup) (pv 1) pe_int (fun _ _ => rfl)) rfl))))), ?_⟩
  have lz : z.cps.toList.length = z.cps.size := Array.length_toList
  refine ⟨_, rfl, z, rfl, for_it walk_str (fun i σ H' => ∃ (q : Int) (v3 v5 : Option V), σ = [some (.str z), some (.ref t), some (.int q), v3, none, v5] ∧ inlot ms (z.cps.toList.take i) = some q ∧ Same H H') ⟨0, _, _, rfl, rfl, Same.refl _⟩ (fun _ _ _ _ _ => trivial) ?_ ?_⟩
  · rintro i x σ G G' hi ⟨q, v3, v5, rfl, hq, S⟩ ⟨rfl, c, hc, rfl⟩
    have hc2 : z.cps.toList[i]? = some c := by rw [Array.getElem?_toList]; exact hc
    have tk1 : z.cps.toList.take (i + 1) = z.cps.toList.take i ++ [c] := by rw [List.take_add_one, hc2]; rfl
    refine ⟨_, rfl, t, _, 2, _, rfl, rfl, SqT.of (S _ _ ht), atI_nat (j := 2) rfl, m, rfl, ⟨_, SqL.of (S _ _ em)⟩, fun D hD => lc_it walk_list (fun j H' => Same G' H' ∧ H' D = some (.lst ((goalsOf (ms.take j) q ⟨#[c]⟩).map V.int))) ⟨Rz.Same.new (Same.refl _) hD, upd_same⟩ (fun i H' _ h => SqL.of (h.1 _ _ (S _ _ em))) ?_ ?_⟩
    · rintro j y G1 G2 hj ⟨S1, e⟩ ⟨rfl, hy⟩
      obtain ⟨u, hu, rfl⟩ := refs_get hy
      obtain ⟨x, hx, et⟩ := hM.get hu
      have hj2 : j < ts.length := (List.getElem?_eq_some_iff.mp hu).1
      have lms := hM.len
      have tk : ms.take (j + 1) = ms.take j ++ [x] := by rw [List.take_add_one, hx]; rfl
      have no : ¬ (x.1 = q ∧ x.2.1 = ⟨#[c]⟩) → Same G' G2 ∧ G2 D = some (.lst ((goalsOf (ms.take (j + 1)) q ⟨#[c]⟩).map V.int)) := fun h => by
        refine ⟨S1, ?_⟩
        unfold goalsOf at e ⊢
        rw [tk, List.filter_append, List.filter_cons, List.filter_nil, if_neg (by simpa using h), List.append_nil]
        exact e
      refine ⟨rfl, _, rfl, u, _, 0, _, rfl, rfl, SqT.of ((S.trans S1) _ _ et), atI_nat (j := 0) rfl, _, rfl, rfl, _, rfl, ?_⟩
      refine ite2 (fun h1 => ?_) (fun h1 => no fun z => h1 (decide_eq_true (by rw [z.1])))
      have q1 : x.1 = q := by
        have h := of_decide_eq_true h1
        injection h
      refine ⟨_, rfl, u, _, 1, _, rfl, rfl, SqT.of ((S.trans S1) _ _ et), atI_nat (j := 1) rfl, _, rfl, rfl, _, rfl, ?_⟩
      refine ite2 (fun h2 => ?_) (fun h2 => no fun z => h2 (decide_eq_true (by rw [z.2])))
      have q2 : x.2.1 = ⟨#[c]⟩ := by
        have h := of_decide_eq_true h2
        injection h
      have lf := List.length_filter_le (fun m : Mv => decide (m.1 = q ∧ m.2.1 = ⟨#[c]⟩)) (ms.take j)
      rw [List.length_take] at lf
      refine ⟨_, rfl, u, _, 2, _, rfl, rfl, SqT.of ((S.trans S1) _ _ et), atI_nat (j := 2) rfl, _, e, ?_, Rz.Same.upd S1 hD, ?_⟩
      · unfold goalsOf
        rw [List.length_map, List.length_map, sizeLine_eq]
        omega
      · unfold goalsOf
        rw [tk, List.filter_append, List.filter_cons, List.filter_nil, if_pos (decide_eq_true ⟨q1, q2⟩), upd_same, List.map_append, List.map_append]
        rfl
    · rintro G3 ⟨S3, e3⟩
      have lms := hM.len
      rw [List.length_map, lms, List.take_length] at e3
      refine ⟨_, rfl, Nat.zero_le _, fun p hp => ?_⟩
      have S4 := Rz.Same.new (o := .lst []) (Same.refl G3) hp
      have S04 := (S.trans S3).trans S4
      refine ⟨dInts (goalsOf ms q ⟨#[c]⟩), dInts [], dp_ints (SqL.of (S4 _ _ e3)), dp_ints (SqL.of upd_same), ints_shaped _, ints_shaped _, _, rfl, ?_⟩
      rw [ints_eqv]
      have gl := goals_lead ms q ⟨#[c]⟩
      have si := inlot_snoc ms (z.cps.toList.take i) c
      rw [hq, Option.bind_some, ← gl, ← tk1] at si
      refine ite2 (fun h => ?_) (fun h => ?_)
      · have h := of_decide_eq_true h
        rw [h] at si
        have dead : inLot ls ms z = false := by
          have := inlot_none (ms := ms) (as := z.cps.toList.take (i + 1)) (bs := z.cps.toList.drop (i + 1)) si
          rw [List.take_append_drop] at this
          unfold inLot
          rw [this]
        have kk := k _ S04
        rw [dead] at kk
        exact kk
      · cases eg : goalsOf ms q ⟨#[c]⟩ with
        | nil => exact absurd (decide_eq_true eg) h
        | cons g gs =>
          rw [eg] at e3 si
          exact ⟨_, rfl, D, _, 0, _, rfl, rfl, SqL.of (S4 _ _ e3), atI_nat (j := 0) rfl, g, _, _, rfl, si, S04⟩
  · rintro σ G ⟨q, v3, v5, rfl, hq, S⟩
    rw [← lz, List.take_length] at hq
    refine ⟨_, rfl, _, rfl, t, _, 1, _, rfl, rfl, SqT.of (S _ _ ht), atI_nat (j := 1) rfl, l, _, rfl, .inl (SqL.of (S _ _ hl)), rfl, flat_ints _, ?_⟩
    rw [if_neg (by decide), in_ints]
    have kk := k _ S
    unfold inLot at kk
    rw [hq] at kk
    exact kk
end
end Rz

namespace Rz
open PySem PySem.Spec PyProof.Rows L2
def sp_law_odd_sign : Sp := fun vs H Q _ => ∃ d : Addr, vs = [.ref d] ∧ Dr H d ∧ ∀ H' c, oddC c = true → c < 128 → Dr H' d → But [d] H H' → Q (.str ⟨#[c]⟩) H'
section
variable {w : World} {K : PySem.W.Frag} {mg : Str → Option Value} {base : Heap}
theorem sc_law_odd_sign : FnScope N__law_odd_sign P__law_odd_sign (defScope s__law_odd_sign) := ⟨rfl, rfl, rfl, by decide +kernel, rfl, by decide +kernel, by decide +kernel⟩
theorem ok_law_odd_sign (T : Txt K mg) : FnOk prg w K mg base (L2.CX prg w) 2 T.f__law_odd_sign T.fd__law_odd_sign P__law_odd_sign sp_law_odd_sign := by
  refine Rz.Fun.okN T.F__law_odd_sign sc_law_odd_sign (fun vs H Q E h => ?_) (fun cdv A outer s H vs Q E hr h => ?_)
  · obtain ⟨d, rfl, _⟩ := h
    rfl
  obtain ⟨d, rfl, hD, k⟩ := h
  have nd := sc_law_odd_sign.nd
  refine ⟨_, (pss_cons (ps_set (i := 1) nd rfl (Or.inl rfl) pe_str)
    (pss_one (ps_ret (pe_ix ix_str (pv 1) (pe_fn (ok_law_pick T) (hr.mono (by decide)) (by rfl) T.m__law_pick T.F__law_pick.kp T.b__law_pick .nil (fun _ => atN _) (pa_cons (pv 0) (pa_cons (pe_callB call_len_str (by rfl) T.n_len PySem.boot_len (pa_cons (pv 1) pa_nil)) pa_nil))) (fun _ _ => rfl))))), ?_⟩
  refine ⟨_, rfl, _, rfl, _, rfl, _, rfl, by decide +kernel, d, _, rfl, by decide +kernel, hD, fun H1 r h0 h1 D1 B1 => ?_⟩
  obtain ⟨c, hm, hat⟩ := atI_in h0 (by rw [len_list]; exact h1)
  have hc : oddC c = true ∧ c < 128 := by
    have all : ∀ x ∈ (" !\"#$&'()*+,-./0123456789:;<=>?@ABCDEFGHIJKLMNOPQRSTUVWXYZ[\\]^_`{|}~\n\t" : Str).cps.toList, oddC x = true ∧ x < 128 := by decide +kernel
    exact all c hm
  exact ⟨_, _, c, rfl, rfl, by decide +kernel, hat, k H1 c hc.1 hc.2 D1 B1⟩
end
end Rz

namespace Rz
open PySem PySem.Spec PyProof.Rows L2
def sp_law_change : Sp := fun vs H Q _ => ∃ (d : Addr) (z g : Str), vs = [.ref d, .str z, .str g] ∧ z.length ≤ 1000 ∧ 1 ≤ g.length ∧ g.length ≤ 1000 ∧ Dr H d ∧ ∀ H' y, y.length ≤ 2001 → Dr H' d → But [d] H H' → Q (.str y) H'
section
variable {w : World} {K : PySem.W.Frag} {mg : Str → Option Value} {base : Heap}
theorem sc_law_change : FnScope N__law_change P__law_change (defScope s__law_change) := ⟨rfl, rfl, rfl, by decide +kernel, rfl, by decide +kernel, by decide +kernel⟩
theorem ok_law_change (T : Txt K mg) : FnOk prg w K mg base (L2.CX prg w) 2 T.f__law_change T.fd__law_change P__law_change sp_law_change := by
  refine Rz.Fun.okN T.F__law_change sc_law_change (fun vs H Q E h => ?_) (fun cdv A outer s H vs Q E hr h => ?_)
  · obtain ⟨d, z, g, rfl, _⟩ := h
    rfl
  obtain ⟨d, z, g, rfl, zz, g1, zg, hD, k⟩ := h
  have nd := sc_law_change.nd
  refine ⟨_, (pss_cons (ps_set (i := 3) nd rfl (Or.inl rfl) (pe_fn (ok_law_pick T) (hr.mono (by decide)) (by rfl) T.m__law_pick T.F__law_pick.kp T.b__law_pick .nil (fun _ => atN _) (pa_cons (pv 0) (pa_cons (pe_op op_add (pe_callB call_len_str (by rfl) T.n_len PySem.boot_len (pa_cons (pv 1) pa_nil)) pe_int) pa_nil))))
    (pss_cons (ps_set (i := 4) nd rfl (Or.inl rfl) (pe_ix ix_str (pv 2) (pe_fn (ok_law_pick T) (hr.mono (by decide)) (by rfl) T.m__law_pick T.F__law_pick.kp T.b__law_pick .nil (fun _ => atN _) (pa_cons (pv 0) (pa_cons (pe_callB call_len_str (by rfl) T.n_len PySem.boot_len (pa_cons (pv 2) pa_nil)) pa_nil))) (fun _ _ => rfl)))
    (pss_cons (ps_set (i := 5) nd rfl (Or.inl rfl) (pe_fn (ok_law_pick T) (hr.mono (by decide)) (by rfl) T.m__law_pick T.F__law_pick.kp T.b__law_pick .nil (fun _ => atN _) (pa_cons (pv 0) (pa_cons pe_int pa_nil))))
    (pss_cons (ps_if (pt_cmpR op_eq (pv 5) pe_int (nomark _)) (pss_one (ps_ret (pe_op op_add_str (pe_op op_add_str (pe_slice sl_str (pv 1) po_none (po_some (pv 3))) (pv 4)) (pe_slice sl_str (pv 1) (po_some (pv 3)) po_none)))) pss_nil)
    (pss_cons (ps_if (pt_cmpR op_eq (pv 5) pe_int (nomark _)) (pss_one (ps_ret (pe_op op_add_str (pe_slice sl_str (pv 1) po_none (po_some (pv 3))) (pe_slice sl_str (pv 1) (po_some (pe_op op_add (pv 3) pe_int)) po_none)))) pss_nil)
    (pss_one (ps_ret (pe_op op_add_str (pe_op op_add_str (pe_slice sl_str (pv 1) po_none (po_some (pv 3))) (pv 4)) (pe_slice sl_str (pv 1) (po_some (pe_op op_add (pv 3) pe_int)) po_none))))))))), ?_⟩
  have lz : z.length ≤ sizeLine := by rw [sizeLine_eq]; omega
  have lg : g.length ≤ sizeLine := by rw [sizeLine_eq]; omega
  have lcg : g.cps.toList.length = g.length := rfl
  refine ⟨_, rfl, _, rfl, z, rfl, lz, _, _, rfl, rfl, d, _, rfl, by omega, hD, fun H1 at_ a0 a1 D1 B1 => ?_⟩
  refine ⟨_, rfl, _, rfl, _, rfl, g, rfl, lg, d, _, rfl, by omega, D1, fun H2 r r0 r1 D2 B2 => ?_⟩
  obtain ⟨c, hc, hat⟩ := atI_in (xs := g.cps.toList) r0 (by omega)
  refine ⟨g, _, c, rfl, rfl, lg, hat, ?_⟩
  refine ⟨_, rfl, d, _, rfl, by decide, D2, fun H3 kd k0 k1 D3 B3 => ?_⟩
  have B := (B1.trans B2).trans B3
  have c1 := cutS_length z none (some at_)
  have c2 := cutS_length z (some at_) none
  have c3 := cutS_length z (some (at_ + 1)) none
  refine ⟨_, rfl, rfl, _, rfl, ?_⟩
  refine ite2 (fun _ => ?_) (fun _ => ?_)
  · refine ⟨_, rfl, _, rfl, at_, rfl, z, rfl, lz, _, rfl, _, _, rfl, rfl, ?_, _, rfl, _, rfl, at_, rfl, z, rfl, lz, _, _, rfl, rfl, ?_, k _ _ ?_ D3 B⟩
    · rw [sizeLine_eq]
      show _ + 1 ≤ _
      omega
    · rw [Str.length_append, sizeLine_eq]
      show _ + 1 + _ ≤ _
      omega
    · rw [Str.length_append, Str.length_append]
      show _ + 1 + _ ≤ _
      omega
  refine ⟨_, rfl, rfl, _, rfl, ?_⟩
  refine ite2 (fun _ => ?_) (fun _ => ?_)
  · refine ⟨_, rfl, _, rfl, at_, rfl, z, rfl, lz, _, rfl, _, rfl, _, _, rfl, rfl, at_ + 1, rfl, z, rfl, lz, _, _, rfl, rfl, ?_, k _ _ ?_ D3 B⟩
    · rw [sizeLine_eq]
      omega
    · rw [Str.length_append]
      omega
  refine ⟨_, rfl, _, rfl, at_, rfl, z, rfl, lz, _, rfl, _, _, rfl, rfl, ?_, _, rfl, _, rfl, _, _, rfl, rfl, at_ + 1, rfl, z, rfl, lz, _, _, rfl, rfl, ?_, k _ _ ?_ D3 B⟩
  · rw [sizeLine_eq]
    show _ + 1 ≤ _
    omega
  · rw [Str.length_append, sizeLine_eq]
    show _ + 1 + _ ≤ _
    omega
  · rw [Str.length_append, Str.length_append]
    show _ + 1 + _ ≤ _
    omega
end
end Rz

namespace Rz
open PySem PySem.Spec PyProof.Rows L2
/-- the parts of a lot at t -/
def PtAt (H : Hp) (t l m : Addr) (n : Int) (ls : List Int) (ms : List Mv) : Prop := H t = some (.tup [.int n, .ref l, .ref m]) ∧ H l = some (.lst (ls.map V.int)) ∧ MAt H m ms
theorem PtAt.same {H H' : Hp} {t l m : Addr} {n : Int} {ls : List Int} {ms : List Mv} (h : PtAt H t l m n ls ms) (S : Same H H') : PtAt H' t l m n ls ms := ⟨S _ _ h.1, S _ _ h.2.1, h.2.2.same S⟩
def sp_law_has (cL : Addr) : Sp := fun vs H Q _ => ∃ (o t l m : Addr) (n : Int) (ls : List Int) (ms : List Mv) (f : List Key → Option Int), vs = [.ref o, .ref t] ∧ LtAt cL H o n ls ms f ∧ PtAt H t l m n ls ms ∧ GoodM ms ∧ ls.length ≤ 1000 ∧ ms.length ≤ 1000 ∧ ∀ H', Same H H' → Q (.bl true) H'
section
variable {w : World} {K : PySem.W.Frag} {mg : Str → Option Value} {base : Heap}
theorem sc_law_has : FnScope N__law_has P__law_has (defScope s__law_has) := ⟨rfl, rfl, rfl, by decide +kernel, rfl, by decide +kernel, by decide +kernel⟩
theorem ok_law_has (T : Txt K mg) : FnOk prg w K mg base (L2.CX prg w) 3 T.f__law_has T.fd__law_has P__law_has (sp_law_has T.c_Lot) := by
  refine Rz.Fun.okN T.F__law_has sc_law_has (fun vs H Q E h => ?_) (fun cdv A outer s H vs Q E hr h => ?_)
  · obtain ⟨o, t, l, m, n, ls, ms, f, rfl, _⟩ := h
    rfl
  obtain ⟨o, t, l, m, n, ls, ms, f, rfl, L, P, gm, zl, zm, k⟩ := h
  have nd := sc_law_has.nd
  refine ⟨_, (pss_cons (ps_if (PW.pt (pw_or (pt_not (pt_val (pe_fn (ok_law_is_int T) (hr.mono (by decide)) (by rfl) T.m__law_is_int T.F__law_is_int.kp T.b__law_is_int .nil (fun _ => atN _) (pa_cons (pe_pr (pv 0) T.cl_Lot T.M_Lot_states (ok_Lot_states T) (hr.mono (by decide)) T.b_Lot_states passN) pa_nil)))) (pw_or1 (pt_cmpR op_ne (pe_pr (pv 0) T.cl_Lot T.M_Lot_states (ok_Lot_states T) (hr.mono (by decide)) T.b_Lot_states passN) (pe_ix (show IxR _ (rIxT K) from ix_tup) (pv 1) pe_int (fun _ _ => rfl)) (nomark _))))) (pss_one (ps_ret pe_bl)) pss_nil)
    (pss_cons (ps_set (i := 2) nd rfl (Or.inl rfl) (pe_pr (pv 0) T.cl_Lot T.M_Lot_last (ok_Lot_last T) (hr.mono (by decide)) T.b_Lot_last passN))
    (pss_cons (ps_set (i := 3) nd rfl (Or.inl rfl) (pe_pr (pv 0) T.cl_Lot T.M_Lot_moves (ok_Lot_moves T) (hr.mono (by decide)) T.b_Lot_moves passN))
    (pss_cons (ps_if (PW.pt (pw_or (pt_not (pt_val (pe_callB call_isi (by rfl) T.n_isinstance (by decide +kernel) (pa_cons (pv 2) (pa_cons (pe_bltn (v := .ty "list") (by rfl) T.n_list (by decide +kernel) rfl) pa_nil))))) (pw_or (pt_not (pt_val (pe_callB call_isi (by rfl) T.n_isinstance (by decide +kernel) (pa_cons (pv 3) (pa_cons (pe_bltn (v := .ty "list") (by rfl) T.n_list (by decide +kernel) rfl) pa_nil))))) (pw_or (pt_cmpR (op_neD hr.units) (pv 2) (pe_ix (show IxR _ (rIxT K) from ix_tup) (pv 1) pe_int (fun _ _ => rfl)) (nomark _)) (pw_or1 (pt_cmpR (op_neD hr.units) (pv 3) (pe_ix (show IxR _ (rIxT K) from ix_tup) (pv 1) pe_int (fun _ _ => rfl)) (nomark _))))))) (pss_one (ps_ret pe_bl)) pss_nil)
    (pss_cons (ps_for PassesOwn.never rfl (pi_list (pv 2)) (pg_name (i := 4) nd rfl (Or.inl rfl))
      (pss_one (ps_if (pt_not (pt_val (pe_fn (ok_law_is_int T) (hr.mono (by decide)) (by rfl) T.m__law_is_int T.F__law_is_int.kp T.b__law_is_int .nil (fun _ => atN _) (pa_cons (pv 4) pa_nil)))) (pss_one (ps_ret pe_bl)) pss_nil)))
    (pss_cons (ps_for PassesOwn.never rfl (pi_list (pv 3)) (pg_name (i := 5) nd rfl (Or.inl rfl))
      (pss_one (ps_if (PW.pt (pw_or (pt_not (pt_val (pe_callB call_isi (by rfl) T.n_isinstance (by decide +kernel) (pa_cons (pv 5) (pa_cons (pe_bltn (v := .ty "tuple") (by rfl) T.n_tuple (by decide +kernel) rfl) pa_nil))))) (pw_or (pt_not (pt_val (pe_fn (ok_law_is_int T) (hr.mono (by decide)) (by rfl) T.m__law_is_int T.F__law_is_int.kp T.b__law_is_int .nil (fun _ => atN _) (pa_cons (pe_ix (show IxR _ (rIxT K) from ix_tup) (pv 5) pe_int (fun _ _ => rfl)) pa_nil)))) (pw_or1 (pt_not (pt_val (pe_fn (ok_law_is_int T) (hr.mono (by decide)) (by rfl) T.m__law_is_int T.F__law_is_int.kp T.b__law_is_int .nil (fun _ => atN _) (pa_cons (pe_ix (show IxR _ (rIxT K) from ix_tup) (pv 5) pe_int (fun _ _ => rfl)) pa_nil)))))))) (pss_one (ps_ret pe_bl)) pss_nil)))
    (pss_cons (ps_expr (pe_bm PySem.F.plainAttrs_list PySem.F.slot_list_append PySem.F.type_list_append mt_append (pv 2) (pa_cons pe_int pa_nil)))
    (pss_cons (ps_expr (pe_bm PySem.F.plainAttrs_list PySem.F.slot_list_append PySem.F.type_list_append mt_append (pv 3) (pa_cons (pe_tup (pa_cons pe_int (pa_cons pe_str (pa_cons pe_int pa_nil)))) pa_nil)))
    (pss_one (ps_ret (pe_and (pe_cmpR (op_eqD hr.units) (pe_pr (pv 0) T.cl_Lot T.M_Lot_last (ok_Lot_last T) (hr.mono (by decide)) T.b_Lot_last passN) (pe_ix (show IxR _ (rIxT K) from ix_tup) (pv 1) pe_int (fun _ _ => rfl)) (nomark _)) (pe_one (pe_cmpR (op_eqD hr.units) (pe_pr (pv 0) T.cl_Lot T.M_Lot_moves (ok_Lot_moves T) (hr.mono (by decide)) T.b_Lot_moves passN) (pe_ix (show IxR _ (rIxT K) from ix_tup) (pv 1) pe_int (fun _ _ => rfl)) (nomark _)))))))))))))), ?_⟩
  obtain ⟨dx, l0, m0, d0, kvs, eo, _⟩ := id L
  refine ⟨_, rfl, o, dx, _, rfl, eo, o, dx, n, l0, m0, d0, rfl, eo, n, rfl, _, rfl, iteF ?_⟩
  refine ⟨_, rfl, o, dx, _, rfl, eo, o, dx, n, l0, m0, d0, rfl, eo, _, rfl, t, _, 0, _, rfl, rfl, SqT.of P.1, atI_nat (j := 0) rfl, rfl, _, rfl, ?_⟩
  refine ite2 (fun h => absurd h (by simp)) (fun _ => ?_)
  refine ⟨_, rfl, o, dx, _, rfl, eo, o, n, ls, ms, f, rfl, L, fun H1 q1 S1 hq1 e1 => ?_⟩
  refine ⟨_, rfl, o, dx, _, rfl, S1 _ _ eo, o, n, ls, ms, f, rfl, L.same S1, fun H2 q2 S2 hq2 M2 => ?_⟩
  have S02 := S1.trans S2
  have e12 := S2 _ _ e1
  have P2 := P.same S02
  obtain ⟨ts, e2, hM⟩ := id M2
  refine ⟨_, rfl, _, _, .type "list", .type "list", true, rfl, .ty _, .base (.lst e12), kit_ty (by decide +kernel), _, rfl, iteF ?_⟩
  refine ⟨_, rfl, _, _, .type "list", .type "list", true, rfl, .ty _, .base (.lst e2), kit_ty (by decide +kernel), _, rfl, iteF ?_⟩
  refine ⟨_, rfl, _, rfl, t, _, 1, _, rfl, rfl, SqT.of P2.1, atI_nat (j := 1) rfl, dInts ls, dInts ls, dp_ints (SqL.of e12), dp_ints (SqL.of P2.2.1), ints_shaped _, ints_shaped _, _, rfl, ?_⟩
  rw [ints_eqv]
  refine ite2 (fun h => absurd h (by simp)) (fun _ => ?_)
  refine ⟨_, rfl, _, rfl, t, _, 2, _, rfl, rfl, SqT.of P2.1, atI_nat (j := 2) rfl, dMvs ms, dMvs ms, dmvs_at M2, dmvs_at P2.2.2, dmvs_shaped gm, dmvs_shaped gm, _, rfl, ?_⟩
  rw [dmvs_eqv]
  refine ite2 (fun h => absurd h (by simp)) (fun _ => ?_)
  refine ⟨_, rfl, q1, rfl, ⟨_, SqL.of e12⟩, for_list (xs := ls.map V.int) (fun i σ H' => ∃ v4 : Option V, σ = [some (.ref o), some (.ref t), some (.ref q1), some (.ref q2), v4, none] ∧ Same H2 H') ⟨_, rfl, Same.refl _⟩ (fun i σ H' _ h => ?_) ?_ ?_⟩
  · obtain ⟨_, _, S⟩ := h
    exact SqL.of (S _ _ e12)
  · rintro i x σ G hx ⟨v4, rfl, S⟩
    obtain ⟨y, hy, rfl⟩ := mapi_get hx
    exact ⟨_, rfl, y, rfl, _, rfl, iteF ⟨_, rfl, S⟩⟩
  rintro σ H3 ⟨v4, rfl, S3⟩
  refine ⟨_, rfl, q2, rfl, ⟨_, SqL.of (S3 _ _ e2)⟩, for_list (xs := ts.map V.ref) (fun i σ H' => ∃ v5 : Option V, σ = [some (.ref o), some (.ref t), some (.ref q1), some (.ref q2), v4, v5] ∧ Same H2 H') ⟨_, rfl, S3⟩ (fun i σ H' _ h => ?_) ?_ ?_⟩
  · obtain ⟨_, _, S⟩ := h
    exact SqL.of (S _ _ e2)
  · rintro i x σ G hx ⟨v5, rfl, S⟩
    obtain ⟨u, hu, rfl⟩ := refs_get hx
    obtain ⟨y, hy, et⟩ := hM.get hu
    have eu := S _ _ et
    refine ⟨_, rfl, _, _, .type "tuple", .type "tuple", true, rfl, .ty _, .base (.tup eu), kit_ty (by decide +kernel), _, rfl, iteF ?_⟩
    refine ⟨_, rfl, u, _, 0, _, rfl, rfl, SqT.of eu, atI_nat (j := 0) rfl, y.1, rfl, _, rfl, iteF ?_⟩
    exact ⟨_, rfl, u, _, 2, _, rfl, rfl, SqT.of eu, atI_nat (j := 2) rfl, y.2.2, rfl, _, rfl, iteF ⟨_, rfl, S⟩⟩
  clear S3
  rintro σ H4 ⟨v5, rfl, S4⟩
  have n12 : q1 ≠ q2 := fun e => by rw [← e, e1] at hq2; cases hq2
  have hq20 : H q2 = none := S1.free hq2
  refine ⟨_, rfl, .inl ⟨rfl, _, SqL.of (S4 _ _ e12)⟩, q1, _, _, rfl, rfl, S4 _ _ e12, by rw [List.length_map, sizeLine_eq]; omega, ?_⟩
  have S5 : Same H (upd H4 q1 (.lst (ls.map V.int ++ [.int 0]))) := Rz.Same.upd (S02.trans S4) hq1
  have e5 : upd H4 q1 (.lst (ls.map V.int ++ [.int 0])) q2 = some (.lst (ts.map V.ref)) := by rw [upd_ne (Ne.symm n12)]; exact S4 _ _ e2
  generalize upd H4 q1 (.lst (ls.map V.int ++ [.int 0])) = H5 at S5 e5 ⊢
  have lts := hM.len
  refine ⟨_, rfl, .inl ⟨rfl, _, SqL.of e5⟩, by show 3 ≤ sizeLine; decide, fun u hu => ?_⟩
  have S6 := Rz.Same.new (o := .tup [.int 0, .str "a", .int 0]) (Same.refl H5) hu
  refine ⟨q2, _, _, rfl, rfl, S6 _ _ e5, by rw [List.length_map, sizeLine_eq]; omega, ?_⟩
  have S7 : Same H (upd (upd H5 u (.tup [.int 0, .str "a", .int 0])) q2 (.lst (ts.map V.ref ++ [.ref u]))) := Rz.Same.upd (S5.trans S6) hq20
  generalize upd (upd H5 u (.tup [.int 0, .str "a", .int 0])) q2 (.lst (ts.map V.ref ++ [.ref u])) = H7 at S7 ⊢
  have P7 := P.same S7
  refine ⟨_, rfl, o, dx, _, rfl, S7 _ _ eo, o, n, ls, ms, f, rfl, L.same S7, fun H8 q3 S8 _ e8 => ?_⟩
  have P8 := P7.same S8
  refine ⟨_, rfl, t, _, 1, _, rfl, rfl, SqT.of P8.1, atI_nat (j := 1) rfl, dInts ls, dInts ls, dp_ints (SqL.of e8), dp_ints (SqL.of P8.2.1), ints_shaped _, ints_shaped _, _, rfl, ?_⟩
  rw [ints_eqv]
  refine ite2 (fun _ => ?_) (fun h => absurd (decide_eq_true rfl) h)
  refine ⟨_, rfl, o, dx, _, rfl, (S7.trans S8) _ _ eo, o, n, ls, ms, f, rfl, L.same (S7.trans S8), fun H9 q4 S9 _ M9 => ?_⟩
  have P9 := P8.same S9
  refine ⟨_, rfl, t, _, 2, _, rfl, rfl, SqT.of P9.1, atI_nat (j := 2) rfl, dMvs ms, dMvs ms, dmvs_at M9, dmvs_at P9.2.2, dmvs_shaped gm, dmvs_shaped gm, ?_⟩
  rw [dmvs_eqv, decide_eq_true rfl]
  exact k _ ((S7.trans S8).trans S9)
end
end Rz

namespace Rz
open PySem PySem.Spec PyProof.Rows L2
theorem lead_neg {ms : List Mv} (h : ∀ m ∈ ms, 0 ≤ m.1) (x : Str) : Lead ms [.inl (-1), .inr x] = none := by
  cases e : Lead ms [.inl (-1), .inr x] with
  | none => rfl
  | some t =>
    obtain ⟨m, hm, hk, _⟩ := lead_mem e
    unfold leadK at hk
    have q : m.1 = -1 := by
      have := (List.cons.inj hk).1
      injection this
    have := h m hm
    omega
theorem walk_inlot {ms : List Mv} (h : ∀ m ∈ ms, 0 ≤ m.1) : ∀ (cs : List Nat) (s : Option Int), cs.foldl (gstep (Lead ms)) (s.getD (-1)) = (cs.foldl (fun s c => s.bind fun q => Lead ms [.inl q, .inr ⟨#[c]⟩]) s).getD (-1)
  | [], s => rfl
  | c :: cs, s => by
    rw [List.foldl_cons, List.foldl_cons, ← walk_inlot h cs]
    congr 1
    cases s with
    | none =>
      show gstep (Lead ms) (-1) c = -1
      unfold gstep
      rw [lead_neg h]
      rfl
    | some q => rfl
/-- `in` says what the walk says -/
theorem holds_in {n : Int} {ls : List Int} {ms : List Mv} (h : okStates n ls ms) (z : Str) : holds (Lead ms) ls z = inLot ls ms z := by
  have e := walk_inlot (fun m hm => (h.2.2 m hm).1.1) z.cps.toList (some 0)
  unfold holds inLot gwalk
  rw [show ((some 0 : Option Int).getD (-1)) = 0 from rfl] at e
  rw [e]
  unfold inlot
  cases z.cps.toList.foldl (fun s c => s.bind fun q => Lead ms [.inl q, .inr ⟨#[c]⟩]) (some 0) with
  | none =>
    refine decide_eq_false fun q => ?_
    have := h.2.1 _ q
    have e1 : (none : Option Int).getD (-1) = -1 := rfl
    omega
  | some q => rfl
def sp_law_agrees (cL : Addr) : Sp := fun vs H Q _ => ∃ (o t l m tx : Addr) (n : Int) (ls : List Int) (ms : List Mv) (f : List Key → Option Int) (xs : List Str), vs = [.ref o, .ref t, .ref tx] ∧ LtAt cL H o n ls ms f ∧ PtAt H t l m n ls ms ∧ H tx = some (.lst (xs.map V.str)) ∧ (∀ x ∈ xs, holds f ls x = inLot ls ms x) ∧ GoodM ms ∧ ls.length ≤ 1000 ∧ ms.length ≤ 1000 ∧ ∀ H', Same H H' → Q (.bl true) H'
section
variable {w : World} {K : PySem.W.Frag} {mg : Str → Option Value} {base : Heap}
theorem sc_law_agrees : FnScope N__law_agrees P__law_agrees (defScope s__law_agrees) := ⟨rfl, rfl, rfl, by decide +kernel, rfl, by decide +kernel, by decide +kernel⟩
theorem ok_law_agrees (T : Txt K mg) : FnOk prg w K mg base (L2.CX prg w) 4 T.f__law_agrees T.fd__law_agrees P__law_agrees (sp_law_agrees T.c_Lot) := by
  refine Rz.Fun.okN T.F__law_agrees sc_law_agrees (fun vs H Q E h => ?_) (fun cdv A outer s H vs Q E hr h => ?_)
  · obtain ⟨o, t, l, m, tx, n, ls, ms, f, xs, rfl, _⟩ := h
    rfl
  obtain ⟨o, t, l, m, tx, n, ls, ms, f, xs, rfl, L, P, ex, hx, gm, zl, zm, k⟩ := h
  have nd := sc_law_agrees.nd
  refine ⟨_, (pss_cons (ps_for PassesOwn.never rfl (pi_list (pv 2)) (pg_name (i := 3) nd rfl (Or.inl rfl))
      (pss_cons (ps_set (i := 4) nd rfl (Or.inl rfl) (pe_cmpR (op_inO T.M_Lot_contains (ok_Lot_contains T) (hr.mono (by decide)) T.b_Lot_contains) (pv 3) (pv 0) rfl))
      (pss_one (ps_if (PW.pt (pw_or (pt_not (pt_val (pe_callB call_isi (by rfl) T.n_isinstance (by decide +kernel) (pa_cons (pv 4) (pa_cons (pe_bltn (v := .ty "bool") (by rfl) T.n_bool (by decide +kernel) rfl) pa_nil))))) (pw_or1 (pt_cmpR op_ne (pv 4) (pe_fn (ok_law_in_lot T) (hr.mono (by decide)) (by rfl) T.m__law_in_lot T.F__law_in_lot.kp T.b__law_in_lot .nil (fun _ => atN _) (pa_cons (pv 3) (pa_cons (pv 1) pa_nil))) (nomark _))))) (pss_one (ps_ret pe_bl)) pss_nil))))
    (pss_one (ps_ret (pe_fn (ok_law_has T) (hr.mono (by decide)) (by rfl) T.m__law_has T.F__law_has.kp T.b__law_has .nil (fun _ => atN _) (pa_cons (pv 0) (pa_cons (pv 1) pa_nil)))))), ?_⟩
  obtain ⟨dx, l0, m0, d0, kvs, eo, _⟩ := id L
  refine ⟨_, rfl, tx, rfl, ⟨_, SqL.of ex⟩, for_list (xs := xs.map V.str) (fun i σ H' => ∃ v3 v4 : Option V, σ = [some (.ref o), some (.ref t), some (.ref tx), v3, v4] ∧ Same H H') ⟨_, _, rfl, Same.refl _⟩ (fun i σ H' _ h => ?_) ?_ ?_⟩
  · obtain ⟨_, _, _, S⟩ := h
    exact SqL.of (S _ _ ex)
  · rintro i x σ G hv ⟨v3, v4, rfl, S⟩
    obtain ⟨z, hz, rfl⟩ : ∃ z, z ∈ xs ∧ x = .str z := by
      have := List.mem_of_getElem? hv
      obtain ⟨z, h1, h2⟩ := List.mem_map.mp this
      exact ⟨z, h1, h2.symm⟩
    refine ⟨_, rfl, _, rfl, o, dx, _, rfl, S _ _ eo, o, z, n, ls, ms, f, rfl, L.same S, fun G1 S1 => ⟨_, rfl, ?_⟩⟩
    have S01 := S.trans S1
    have P1 := P.same S01
    refine ⟨_, rfl, _, _, .type "bool", .type "bool", true, rfl, .ty _, .base (.bl _), kit_ty (by decide +kernel), _, rfl, iteF ?_⟩
    refine ⟨_, rfl, _, rfl, _, rfl, t, l, m, n, ls, ms, z, rfl, P1.1, P1.2.1, P1.2.2, zm, fun G2 S2 => ⟨rfl, _, rfl, ?_⟩⟩
    rw [hx z hz]
    refine ite2 (fun h => absurd h (by simp)) (fun _ => ⟨_, _, rfl, S01.trans S2⟩)
  rintro σ G ⟨v3, v4, rfl, S⟩
  exact ⟨_, rfl, _, rfl, o, t, l, m, n, ls, ms, f, rfl, L.same S, P.same S, gm, zl, zm, fun G' S' => k _ (S.trans S')⟩
end
end Rz

namespace Rz
open PySem PySem.Spec PyProof.Rows L2
/-! ### how far a last state is -/
def FarAt (H : Hp) (D : Addr) (fs : List Int) (g : Int → Int) (k : Nat) : Prop := ∃ kvs : List (Key × V), H D = some (.dK kvs) ∧ kvs.length ≤ k ∧ ∀ s : Int, valV kvs (.inl s) = if s ∈ fs then some (.int (g s)) else none
structure FarOk (ls : List Int) (ms : List Mv) (fs : List Int) (g : Int → Int) (k : Nat) : Prop where
  nd : fs.Nodup
  rg : ∀ x ∈ fs, 0 ≤ x ∧ x < 7
  st : ∀ x ∈ ls, x ∈ fs
  le : ∀ x ∈ fs, 0 ≤ g x ∧ g x ≤ k
  zr : ∀ x ∈ fs, g x = 0 → x ∈ ls
  dn : ∀ x ∈ fs, g x ≠ 0 → ∃ m ∈ ms, m.1 = x ∧ m.2.2 ∈ fs ∧ g m.2.2 < g x
def addF (fs : List Int) (s : Int) : List Int := if s ∈ fs then fs else fs ++ [s]
def setF (g : Int → Int) (s v : Int) : Int → Int := fun x => if x = s then v else g x
theorem mem_addF {fs : List Int} {s x : Int} : x ∈ addF fs s ↔ x ∈ fs ∨ x = s := by
  unfold addF
  split
  · rename_i h
    exact ⟨.inl, fun q => q.elim id fun e => by rw [e]; exact h⟩
  · rw [List.mem_append, List.mem_singleton]
theorem FarAt.put {H : Hp} {D : Addr} {fs : List Int} {g : Int → Int} {k : Nat} (h : FarAt H D fs g k) (hk : k ≤ 10000) (s v : Int) : ∃ H', DPut H D (.int s) (.int v) H' ∧ FarAt H' D (addF fs s) (setF g s v) (k + 1) ∧ ∃ o, H' = upd H D o := by
  obtain ⟨kvs, e, l, hv⟩ := h
  refine ⟨_, DPut.k (k := .inl s) e (by rw [sizeLine_eq]; omega), ⟨_, upd_same, Nat.le_trans (length_putK _ _ _) (by omega), fun x => ?_⟩, _, rfl⟩
  rw [valV_put, hv]
  by_cases q : x = s
  · subst q
    rw [if_pos rfl, if_pos (mem_addF.mpr (.inr rfl))]
    unfold setF
    rw [if_pos rfl]
  · have q2 : ¬ (Sum.inl x : Key) = .inl s := fun z => q (by injection z)
    rw [if_neg q2]
    by_cases m : x ∈ fs
    · rw [if_pos m, if_pos (mem_addF.mpr (.inl m))]
      unfold setF
      rw [if_neg q]
    · rw [if_neg m, if_neg (fun z => (mem_addF.mp z).elim m q)]
theorem FarAt.get {H : Hp} {D : Addr} {fs : List Int} {g : Int → Int} {k : Nat} (h : FarAt H D fs g k) (s : Int) : DGet H D (.int s) (if s ∈ fs then some (.int (g s)) else none) := by
  obtain ⟨kvs, e, l, hv⟩ := h
  rw [← hv]
  exact DGet.k (k := .inl s) e
theorem FarAt.isD {H : Hp} {D : Addr} {fs : List Int} {g : Int → Int} {k : Nat} (h : FarAt H D fs g k) : IsD H D := let ⟨kvs, e, _⟩ := h; .inl ⟨kvs, .inl e⟩
theorem FarAt.keep {H H' : Hp} {D : Addr} {fs : List Int} {g : Int → Int} {k : Nat} (h : FarAt H D fs g k) (q : ∀ o, H D = some o → H' D = some o) : FarAt H' D fs g k := let ⟨kvs, e, r⟩ := h; ⟨kvs, q _ e, r⟩
theorem FarAt.more {H : Hp} {D : Addr} {fs : List Int} {g : Int → Int} {k k' : Nat} (h : FarAt H D fs g k) (q : k ≤ k') : FarAt H D fs g k' := let ⟨kvs, e, r, s⟩ := h; ⟨kvs, e, Nat.le_trans r q, s⟩
theorem FarOk.more {ls : List Int} {ms : List Mv} {fs : List Int} {g : Int → Int} {k k' : Nat} (h : FarOk ls ms fs g k) (q : k ≤ k') : FarOk ls ms fs g k' :=
  ⟨h.nd, h.rg, h.st, fun x hx => ⟨(h.le x hx).1, by have := (h.le x hx).2; omega⟩, h.zr, h.dn⟩
theorem FarOk.step {ls : List Int} {ms : List Mv} {fs : List Int} {g : Int → Int} {k : Nat} (h : FarOk ls ms fs g k) {m : Mv} (hm : m ∈ ms) (ht : m.2.2 ∈ fs) (hs : m.1 ∈ fs → g m.1 > g m.2.2 + 1) (hr : 0 ≤ m.1 ∧ m.1 < 7) : FarOk ls ms (addF fs m.1) (setF g m.1 (g m.2.2 + 1)) (k + 1) := by
  have t0 := h.le _ ht
  have ne : m.2.2 ≠ m.1 := fun e => by
    have := hs (by rw [← e]; exact ht)
    rw [← e] at this
    omega
  refine ⟨?_, fun x hx => ?_, fun x hx => mem_addF.mpr (.inl (h.st x hx)), fun x hx => ?_, fun x hx z => ?_, fun x hx z => ?_⟩
  · unfold addF
    split
    · exact h.nd
    · rename_i q
      exact List.nodup_append.mpr ⟨h.nd, by simp, fun a ha b hb e => q (by rw [← List.mem_singleton.mp hb, ← e]; exact ha)⟩
  · rcases mem_addF.mp hx with q | q
    · exact h.rg x q
    · rw [q]
      exact hr
  · unfold setF
    by_cases q : x = m.1
    · rw [if_pos q]
      omega
    · rw [if_neg q]
      have := h.le x ((mem_addF.mp hx).elim id fun e => absurd e q)
      omega
  · unfold setF at z
    by_cases q : x = m.1
    · rw [if_pos q] at z
      omega
    · rw [if_neg q] at z
      exact h.zr x ((mem_addF.mp hx).elim id fun e => absurd e q) z
  · by_cases q : x = m.1
    · refine ⟨m, hm, q.symm, mem_addF.mpr (.inl ht), ?_⟩
      unfold setF
      rw [if_neg ne, if_pos q]
      omega
    · unfold setF at z
      rw [if_neg q] at z
      obtain ⟨w, hw, e1, e2, e3⟩ := h.dn x ((mem_addF.mp hx).elim id fun e => absurd e q) z
      refine ⟨w, hw, e1, mem_addF.mpr (.inl e2), ?_⟩
      unfold setF
      rw [if_neg q]
      by_cases p : w.2.2 = m.1
      · rw [if_pos p]
        have := hs (by rw [← p]; exact e2)
        rw [← p] at this
        omega
      · rw [if_neg p]
        exact e3
def CloB (ms : List Mv) (fs : List Int) : Prop := ∀ m ∈ ms, m.2.2 ∈ fs → m.1 ∈ fs
theorem far_all {n : Int} {ls : List Int} {ms : List Mv} {fs : List Int} {g : Int → Int} {k : Nat} (L : LotOk n ls ms) (h : FarOk ls ms fs g k) (c : CloB ms fs) {q : Int} (h0 : 0 ≤ q) (h1 : q < n) : q ∈ fs := by
  have u := (L.us q.toNat (by omega)).2
  rw [show ((q.toNat : Nat) : Int) = q by omega] at u
  refine reach_all (P := fun x => x ∈ fs) h.st (fun x hx y hy => ?_) u
  have q := succs_of hy
  unfold bwd at q
  obtain ⟨m, hm, e⟩ := List.mem_map.mp q
  cases e
  exact c m hm hx
def outOf (ms : List Mv) (q : Int) : List Mv := ms.filter fun m => decide (m.1 = q)
def nearer (ms : List Mv) (g : Int → Int) (q : Int) : List Mv := (outOf ms q).filter fun m => decide (g m.2.2 < g q)
theorem near_ne {ls : List Int} {ms : List Mv} {fs : List Int} {g : Int → Int} {k : Nat} {q : Int} (h : FarOk ls ms fs g k) (hq : q ∈ fs) (hl : q ∉ ls) : nearer ms g q ≠ [] := fun e => by
  obtain ⟨m, hm, e1, e2, e3⟩ := h.dn q hq (fun z => hl (h.zr q hq z))
  have : m ∈ nearer ms g q := List.mem_filter.mpr ⟨List.mem_filter.mpr ⟨hm, decide_eq_true e1⟩, decide_eq_true e3⟩
  rw [e] at this
  cases this
theorem out_ne {ls : List Int} {ms : List Mv} {fs : List Int} {g : Int → Int} {k : Nat} {q : Int} (h : FarOk ls ms fs g k) (hq : q ∈ fs) (hl : q ∉ ls) : outOf ms q ≠ [] := fun e => near_ne h hq hl (by unfold nearer; rw [e]; rfl)
end Rz

namespace Rz
open PySem PySem.Spec PyProof.Rows L2
def sp_law_from_lot : Sp := fun vs H Q _ => ∃ (d t l m : Addr) (n sz : Int) (ls : List Int) (ms : List Mv), vs = [.ref d, .ref t, .int sz] ∧ Dr H d ∧ PtAt H t l m n ls ms ∧ LotOk n ls ms ∧ n ≤ 7 ∧ ms.length ≤ 12 ∧ (∀ x ∈ ms, x.2.1.length ≤ 1) ∧ GoodM ms ∧ l ≠ d ∧ m ≠ d ∧ 0 ≤ sz ∧ sz ≤ 1000 ∧
  ∀ H' y, (y.length : Int) ≤ sz + 9 → Dr H' d → But [d] H H' → Q (.str y) H'
section
variable {w : World} {K : PySem.W.Frag} {mg : Str → Option Value} {base : Heap}
theorem sc_law_from_lot : FnScope N__law_from_lot P__law_from_lot (defScope s__law_from_lot) := ⟨rfl, rfl, rfl, by decide +kernel, rfl, by decide +kernel, by decide +kernel⟩
theorem ok_law_from_lot (T : Txt K mg) : FnOk prg w K mg base (L2.CX prg w) 2 T.f__law_from_lot T.fd__law_from_lot P__law_from_lot sp_law_from_lot := by
  refine Rz.Fun.okN T.F__law_from_lot sc_law_from_lot (fun vs H Q E h => ?_) (fun cdv A outer s H vs Q E hr h => ?_)
  · obtain ⟨d, t, l, m, n, sz, ls, ms, rfl, _⟩ := h
    rfl
  obtain ⟨d, t, l, m, n, sz, ls, ms, rfl, hD, ⟨ht, hl, ts, em, hM⟩, LO, n7, m12, m1, gm, nl, nm, sz0, sz1, k⟩ := h
  have nd := sc_law_from_lot.nd
  have hu : (A.deeper (envOfC "_law_from_lot" (defScope s__law_from_lot) s.heap.objs.size T.f__law_from_lot cdv)).units + 1 < cLine := by
    have := hr.un
    omega
  refine ⟨_, (pss_cons (ps_set (i := 3) nd rfl (Or.inr rfl) pe_dnewK)
    (pss_cons (ps_for PassesOwn.never rfl (pi_list (pe_ix (show IxR _ (rIxT K) from ix_tup) (pv 1) pe_int (fun _ _ => rfl))) (pg_name (i := 4) nd rfl (Or.inr rfl))
      (pss_one (ps_dput hu (pv 3) (pv 4) pe_int rfl)))
    (pss_cons (ps_for PassesOwn.never rfl (pi_range1 rfl T.n_range (pa_cons pe_int pa_nil)) (pg_name (i := 5) nd rfl (Or.inl rfl))
      (pss_one (ps_for PassesOwn.never rfl (pi_list (pe_ix (show IxR _ (rIxT K) from ix_tup) (pv 1) pe_int (fun _ _ => rfl))) (pg_tup rfl (pgs_cons (pg_name (i := 4) nd rfl (Or.inr rfl)) (pgs_cons (pg_name (i := 6) nd rfl (Or.inl rfl)) (pgs_cons (pg_name (i := 7) nd rfl (Or.inl rfl)) pgs_nil))))
        (pss_one (ps_if (PW.pt (pw_and (pt_cmp (pc_din hu (pv 7) (pv 3)) rfl) (pw_and1 (pt_cmpR op_gt (pe_dget2 hu (pv 3) (pv 4) pe_int ⟨rfl, rfl, rfl, rfl⟩) (pe_op op_add (pe_dget hu (pv 3) (pv 7) (fun _ _ => rfl)) pe_int) (nomark _))))) (pss_one (ps_dput hu (pv 3) (pv 4) (pe_op op_add (pe_dget hu (pv 3) (pv 7) (fun _ _ => rfl)) pe_int) rfl)) pss_nil)))))
    (pss_cons (ps_set (i := 8) nd rfl (Or.inl rfl) pe_str)
    (pss_cons (ps_set (i := 4) nd rfl (Or.inr rfl) pe_int)
    (pss_cons (ps_for PassesOwn.never rfl (pi_range1 rfl T.n_range (pa_cons (pe_op op_add (pv 2) pe_int) pa_nil)) (pg_name (i := 5) nd rfl (Or.inl rfl))
      (pss_cons (ps_setLc (i := 10) (own := [("_law_move", 9)]) (g := (gName 9)) (tt := _) rfl nd rfl rfl (sw_true rfl rfl rfl (by decide +kernel)) (pi_list (pe_ix (show IxR _ (rIxT K) from ix_tup) (pv 1) pe_int (fun _ _ => rfl))) (blkOk_by (N := N__law_from_lot) (sc := defScope s__law_from_lot) (by decide +kernel)) (fun _ _ _ _ _ => (pg_name (i := 9) nd rfl (Or.inl rfl))) (fun _ _ _ _ _ => (pts_one (pt_cmpR op_eq (pe_ix (show IxR _ (rIxT K) from ix_tup) (pv 9) pe_int (fun _ _ => rfl)) (pv 4) (nomark _)))) (fun _ _ _ _ _ => (pv 9)))
      (C8.pss_cut (ps_if (PW.pt (pw_and (pt_cmpR (show OpR _ (compareOp .In) (rIn K false) from op_in_seq) (pv 4) (pe_ix (show IxR _ (rIxT K) from ix_tup) (pv 1) pe_int (fun _ _ => rfl)) rfl) (pw_and1 (PW.pt (pw_or (pt_cmpR (op_eqD hr.units) (pv 10) (pe_lst pa_nil) (nomark _)) (pw_or (pt_cmpR op_ge (pv 5) (pv 2) (nomark _)) (pw_or1 (pt_cmpR op_eq (pe_fn (ok_law_pick T) (hr.mono (by decide)) (by rfl) T.m__law_pick T.F__law_pick.kp T.b__law_pick .nil (fun _ => atN _) (pa_cons (pv 0) (pa_cons pe_int pa_nil))) pe_int (nomark _))))))))) (pss_one (ps_ret (pv 8))) pss_nil)
      (C8.pss_cut (ps_if (pt_cmpR op_ge (pv 5) (pv 2) (nomark _)) (pss_one (ps_setLc (i := 10) (own := [("_law_move", 9)]) (g := (gName 9)) (tt := _) rfl nd rfl rfl (sw_true rfl rfl rfl (by decide +kernel)) (pi_list (pv 10)) (blkOk_by (N := N__law_from_lot) (sc := defScope s__law_from_lot) (by decide +kernel)) (fun _ _ _ _ _ => (pg_name (i := 9) nd rfl (Or.inl rfl))) (fun _ _ _ _ _ => (pts_one (pt_cmpR op_lt (pe_dget hu (pv 3) (pe_ix (show IxR _ (rIxT K) from ix_tup) (pv 9) pe_int (fun _ _ => rfl)) (fun _ _ => rfl)) (pe_dget hu (pv 3) (pv 4) (fun _ _ => rfl)) (nomark _)))) (fun _ _ _ _ _ => (pv 9)))) pss_nil)
      (pss_cons (ps_set (i := 9) nd rfl (Or.inl rfl) (pe_ix ix_list (pv 10) (pe_fn (ok_law_pick T) (hr.mono (by decide)) (by rfl) T.m__law_pick T.F__law_pick.kp T.b__law_pick .nil (fun _ => atN _) (pa_cons (pv 0) (pa_cons (pe_callB call_lenS (by rfl) T.n_len PySem.boot_len (pa_cons (pv 10) pa_nil)) pa_nil))) (fun _ _ => rfl)))
      (pss_cons (ps_set (i := 8) nd rfl (Or.inl rfl) (pe_op op_add_str (pv 8) (pe_ix (show IxR _ (rIxT K) from ix_tup) (pv 9) pe_int (fun _ _ => rfl))))
      (pss_one (ps_set (i := 4) nd rfl (Or.inr rfl) (pe_ix (show IxR _ (rIxT K) from ix_tup) (pv 9) pe_int (fun _ _ => rfl))))))))))
    (pss_one (ps_ret (pv 8))))))))), ?_⟩
  have lts := hM.len
  have lls : ls.Pairwise (· < ·) := LO.sl.1
  have ndl : ls.Nodup := lls.imp fun q => by omega
  have lrg : ∀ x ∈ ls, 0 ≤ x ∧ x < 7 := fun x hx => by have := LO.st.2.1 x hx; omega
  have zl := few_below 7 ls ndl lrg
  refine fun F hF => ?_
  have S0 := Rz.Same.new (o := .dK []) (Same.refl H) hF
  have F0 : FarAt (upd H F (.dK [])) F [] (fun _ => 0) 0 := ⟨[], upd_same, Nat.le_refl _, fun s => by rw [if_neg (by simp)]; rfl⟩
  generalize upd H F (.dK []) = H0 at S0 F0 ⊢
  have z0 : ∀ s : Int, setF (fun _ => 0) s 0 = fun _ => 0 := fun s => by
    funext x
    unfold setF
    split <;> rfl
  refine ⟨_, rfl, t, _, 1, _, rfl, rfl, SqT.of (S0 _ _ ht), atI_nat (j := 1) rfl, l, rfl, ⟨_, SqL.of (S0 _ _ hl)⟩, for_list (xs := ls.map V.int) (fun i σ H' => ∃ (v4 : Option V) (fs : List Int), σ = [some (.ref d), some (.ref t), some (.int sz), some (.ref F), v4, none, none, none, none, none, none] ∧ Same H H' ∧ FarAt H' F fs (fun _ => 0) i ∧ (∀ x, x ∈ fs ↔ x ∈ ls.take i) ∧ fs.Nodup)
    ⟨none, [], rfl, S0, F0, fun x => by simp, List.Pairwise.nil⟩ (fun i σ H' _ h => ?_) ?_ ?_⟩
  · obtain ⟨_, _, _, S, _⟩ := h
    exact SqL.of (S _ _ hl)
  · rintro i v σ G hv ⟨v4, fs, rfl, S, FA, hm, hn⟩
    obtain ⟨x, hx, rfl⟩ := mapi_get hv
    have ii := (List.getElem?_eq_some_iff.mp hx).1
    obtain ⟨G', hp, FA', o, rfl⟩ := FA.put (by omega) x 0
    refine ⟨_, rfl, _, rfl, F, _, rfl, hp, ?_⟩
    rw [z0] at FA'
    refine ⟨_, addF fs x, rfl, Rz.Same.upd S hF, FA', fun y => ?_, ?_⟩
    · rw [mem_addF, hm, List.take_add_one, hx, List.mem_append]
      simp
    · unfold addF
      split
      · exact hn
      · rename_i q
        exact List.nodup_append.mpr ⟨hn, by simp, fun a ha b hb e => q (by rw [← List.mem_singleton.mp hb, ← e]; exact ha)⟩
  rintro σ G ⟨v4, fs0, rfl, S, FA, hm, hn⟩
  rw [List.length_map] at FA
  rw [List.length_map, List.take_length] at hm
  have FO : FarOk ls ms fs0 (fun _ => 0) 0 := ⟨hn, fun x hx => lrg x ((hm x).mp hx), fun x hx => (hm x).mpr hx, fun x hx => ⟨Int.le_refl 0, Int.le_refl 0⟩, fun x hx _ => (hm x).mp hx, fun x hx h => absurd rfl h⟩
  refine ⟨8, rfl, by decide, by decide, for_range (n := 8) (fun i σ H' => ∃ (v4 v5 v6 v7 : Option V) (fs : List Int) (g : Int → Int), σ = [some (.ref d), some (.ref t), some (.int sz), some (.ref F), v4, v5, v6, v7, none, none, none] ∧ Same H H' ∧ FarAt H' F fs g (7 + 12 * i) ∧ FarOk ls ms fs g (12 * i) ∧ (CloB ms fs ∨ i ≤ fs.length))
    ⟨v4, none, none, none, fs0, _, rfl, S, FA.more (by omega), FO, .inr (Nat.zero_le _)⟩ ?_ ?_⟩
  · clear FA FO hm hn S
    rintro i σ H1 hi ⟨v4, v5, v6, v7, fs, g, rfl, S1, FA, FO, c1⟩
    refine ⟨_, rfl, t, _, 2, _, rfl, rfl, SqT.of (S1 _ _ ht), atI_nat (j := 2) rfl, m, rfl, ⟨_, SqL.of (S1 _ _ em)⟩, for_list (xs := ts.map V.ref) (fun j σ H' => ∃ (v4 v6 v7 : Option V) (gs : List Int) (g' : Int → Int), σ = [some (.ref d), some (.ref t), some (.int sz), some (.ref F), v4, some (.int ((0 : Int) + (i : Nat))), v6, v7, none, none, none] ∧ Same H H' ∧ FarAt H' F gs g' (7 + 12 * i + j) ∧ FarOk ls ms gs g' (12 * i + j) ∧ (CloB ms fs → gs = fs) ∧ ((gs = fs ∧ ∀ p ∈ ms.take j, p.2.2 ∈ fs → p.1 ∈ fs) ∨ fs.length < gs.length))
      ⟨v4, v6, v7, fs, g, rfl, S1, FA, FO, fun _ => rfl, .inl ⟨rfl, fun p hp => by simp at hp⟩⟩ (fun j σ H' _ h => ?_) ?_ ?_⟩
    · obtain ⟨_, _, _, _, _, _, S, _⟩ := h
      exact SqL.of (S _ _ em)
    · rintro j v σ G hv ⟨v4, v6, v7, gs, g', rfl, S, FA, FO, c2, d2⟩
      obtain ⟨u, hu2, rfl⟩ := refs_get hv
      obtain ⟨p, hp, et⟩ := hM.get hu2
      have inp : p ∈ ms := List.mem_of_getElem? hp
      have j12 : j < ms.length := (List.getElem?_eq_some_iff.mp hp).1
      have tk1 : ms.take (j + 1) = ms.take j ++ [p] := by rw [List.take_add_one, hp]; rfl
      have pr := LO.st.2.2 p inp
      refine ⟨u, _, rfl, SqT.of (S _ _ et), rfl, _, _, rfl, _, _, rfl, _, _, rfl, rfl, ?_⟩
      have stay : (p.2.2 ∈ gs → p.1 ∈ gs) → (gs = fs ∧ ∀ q ∈ ms.take (j + 1), q.2.2 ∈ fs → q.1 ∈ fs) ∨ fs.length < gs.length := fun h => d2.imp (fun ⟨a, b⟩ => ⟨a, fun q hq => by
        rw [tk1] at hq
        rcases List.mem_append.mp hq with z | z
        · exact b q z
        · rw [List.mem_singleton.mp z, ← a]
          exact h⟩) id
      by_cases m2 : p.2.2 ∈ gs
      · have eg : DGet G F (.int p.2.2) (some (.int (g' p.2.2))) := by
          have := FA.get p.2.2
          rwa [if_pos m2] at this
        have gb := FO.le _ m2
        obtain ⟨G', hput, FA', o, rfl⟩ := FA.put (by omega) p.1 (g' p.2.2 + 1)
        refine ⟨_, rfl, _, rfl, F, _, rfl, eg, _, rfl, iteT ?_⟩
        by_cases m1' : p.1 ∈ gs
        · have e1 : DGet G F (.int p.1) (some (.int (g' p.1))) := by
            have := FA.get p.1
            rwa [if_pos m1'] at this
          refine ⟨_, rfl, F, rfl, FA.isD, _, rfl, _, e1, _, rfl, _, rfl, F, _, rfl, eg, _, _, rfl, rfl, _, _, rfl, rfl, _, rfl, ?_⟩
          refine ite2 (fun h => ?_) (fun h => ⟨_, _, _, gs, g', rfl, S, FA.more (by omega), FO.more (by omega), c2, stay fun _ => m1'⟩)
          have gt := of_decide_eq_true h
          have same : addF gs p.1 = gs := if_pos m1'
          refine ⟨_, rfl, _, rfl, F, _, rfl, eg, _, _, rfl, rfl, _, rfl, _, rfl, F, _, rfl, hput, ?_⟩
          refine ⟨_, _, _, _, _, rfl, Rz.Same.upd S hF, FA'.more (by omega), (FO.step inp m2 (fun _ => gt) ⟨by omega, by omega⟩).more (by omega), fun c => by rw [same]; exact c2 c, ?_⟩
          rw [same]
          exact stay fun _ => m1'
        · have e1 : DGet G F (.int p.1) none := by
            have := FA.get p.1
            rwa [if_neg m1'] at this
          refine ⟨_, rfl, F, rfl, FA.isD, _, rfl, _, e1, _, rfl, _, rfl, F, _, rfl, eg, _, _, rfl, rfl, _, _, rfl, rfl, _, rfl, ?_⟩
          refine ite2 (fun _ => ?_) (fun h => absurd (decide_eq_true (by omega)) h)
          have same : addF gs p.1 = gs ++ [p.1] := if_neg m1'
          refine ⟨_, rfl, _, rfl, F, _, rfl, eg, _, _, rfl, rfl, _, rfl, _, rfl, F, _, rfl, hput, ?_⟩
          refine ⟨_, _, _, _, _, rfl, Rz.Same.upd S hF, FA'.more (by omega), (FO.step inp m2 (fun z => absurd z m1') ⟨by omega, by omega⟩).more (by omega), fun c => ?_, ?_⟩
          · have e := c2 c
            rw [e] at m1' m2
            exact absurd (c p inp m2) m1'
          · refine .inr ?_
            rw [same, List.length_append]
            show fs.length < gs.length + 1
            rcases d2 with ⟨q, _⟩ | q
            · rw [q]
              omega
            · omega
      · have eg : DGet G F (.int p.2.2) none := by
          have := FA.get p.2.2
          rwa [if_neg m2] at this
        refine ⟨_, rfl, _, rfl, F, _, rfl, eg, _, rfl, iteF ?_⟩
        exact ⟨_, _, _, gs, g', rfl, S, FA.more (by omega), FO.more (by omega), c2, stay fun z => absurd z m2⟩
    · rintro σ G ⟨v4, v6, v7, gs, g', rfl, S, FA, FO, c2, d2⟩
      rw [List.length_map] at FA FO d2
      rw [lts, List.take_length] at d2
      refine ⟨_, _, _, _, gs, g', rfl, S, FA.more (by omega), FO.more (by omega), ?_⟩
      rcases c1 with c | c
      · have := c2 c
        rw [this]
        exact .inl c
      · rcases d2 with ⟨q, h⟩ | q
        · rw [q]
          exact .inl h
        · exact .inr (by omega)
  clear FA FO hm hn S
  rintro σ G ⟨v4, v5, v6, v7, fs, g, rfl, S, FA, FO, c⟩
  have small := few_below 7 fs FO.nd FO.rg
  have C : CloB ms fs := c.elim id fun h => by omega
  have all : ∀ q : Int, 0 ≤ q → q < n → q ∈ fs := fun q h0 h1 => far_all LO FO C h0 h1
  have nF : F ≠ d := fun q => by
    obtain ⟨ns, e, _⟩ := hD
    rw [q, e] at hF
    cases hF
  have ndt : ∀ {G : Hp}, Dr G d → ∀ xs, G d ≠ some (.tup xs) := fun D xs z => by
    obtain ⟨ns, e, _⟩ := D
    rw [e] at z
    cases z
  have D0 := hD.same S
  have n1 := LO.st.1.1
  have cz : FarAt G F fs g 103 := FA
  have gq : ∀ {q : Int}, GoodM (outOf ms q) := fun {q} x hx => gm x (List.mem_filter.mp hx).1
  have hb : ∀ {H' : Hp}, But [d] H H' → H' t = some (.tup [.int n, .ref l, .ref m]) ∧ H' l = some (.lst (ls.map V.int)) ∧ H' m = some (.lst (ts.map V.ref)) ∧ MvL H' ts ms := fun {H'} B =>
    ⟨B.at ht (by simp; intro q; rw [q] at ht; exact ndt hD _ ht), B.at hl (by simpa using nl), B.at em (by simpa using nm), hM.keep (tups1 B (ndt hD))⟩
  unfold rLenS
  refine ⟨_, rfl, _, _, rfl, rfl, sz + 9, rfl, by omega, by omega, for_range (n := (sz + 9).toNat) (fun i σ H' => ∃ (q : Int) (v5 v9 v10 : Option V) (y : Str), σ = [some (.ref d), some (.ref t), some (.int sz), some (.ref F), some (.int q), v5, v6, v7, some (.str y), v9, v10] ∧ (0 ≤ q ∧ q < n) ∧ y.length ≤ i ∧ Dr H' d ∧ But [d] H H' ∧ FarAt H' F fs g 103)
    ⟨0, _, none, none, "", rfl, ⟨Int.le_refl 0, by omega⟩, Nat.le_refl _, D0, But.of S, cz⟩ ?_ ?_⟩
  · clear cz FA D0 S
    rintro i σ G1 hi ⟨q, v5, v9, v10, y, rfl, hq, zy, D1, B1, FA⟩
    obtain ⟨ht1, hl1, em1, hM1⟩ := hb B1
    have qf := all q hq.1 hq.2
    refine ⟨_, rfl, t, _, 2, _, rfl, rfl, SqT.of ht1, atI_nat (j := 2) rfl, m, rfl, ⟨_, SqL.of em1⟩, fun D hDn => lc_it walk_list (fun j H' => Same G1 H' ∧ ∃ us : List Addr, H' D = some (.lst (us.map V.ref)) ∧ MvL H' us (outOf (ms.take j) q)) ⟨Rz.Same.new (Same.refl _) hDn, [], upd_same, .nil⟩ (fun i H' _ h => SqL.of (h.1 _ _ em1)) ?_ ?_⟩
    · rintro j v Ga Gb hj ⟨S, us, e, P⟩ ⟨rfl, hv⟩
      obtain ⟨u, hu2, rfl⟩ := refs_get hv
      obtain ⟨x, hx, et⟩ := hM1.get hu2
      have tk : ms.take (j + 1) = ms.take j ++ [x] := by rw [List.take_add_one, hx]; rfl
      have et2 := S _ _ et
      have zus := P.len
      have lf := List.length_filter_le (fun x : Mv => decide (x.1 = q)) (ms.take j)
      rw [List.length_take] at lf
      unfold outOf at zus
      refine ⟨rfl, _, rfl, u, _, 0, _, rfl, rfl, SqT.of et2, atI_nat (j := 0) rfl, _, rfl, rfl, _, rfl, ?_⟩
      refine ite2 (fun h => ?_) (fun h => ?_)
      · have e1 : x.1 = q := by
          have h := of_decide_eq_true h
          injection h
        have T3 : Tups Gb (upd Gb D (.lst (us.map V.ref ++ [.ref u]))) := Tups.upd (Tups.of (Same.refl _)) (not_tupL ⟨_, e⟩)
        refine ⟨_, rfl, _, e, by rw [List.length_map, sizeLine_eq]; omega, Rz.Same.upd S hDn, us ++ [u], by rw [upd_same, List.map_append]; rfl, ?_⟩
        unfold outOf
        rw [tk, List.filter_append, List.filter_cons, List.filter_nil, if_pos (decide_eq_true e1)]
        exact (P.keep T3).append (.cons (T3 _ _ et2) .nil)
      · refine ⟨S, us, e, ?_⟩
        unfold outOf
        rw [tk, List.filter_append, List.filter_cons, List.filter_nil, if_neg (fun z => h (decide_eq_true (by rw [of_decide_eq_true z]))), List.append_nil]
        exact P
    rintro G2 ⟨S2, us, e2, P2⟩
    rw [List.length_map, lts, List.take_length] at P2
    have nDd : D ≠ d := fun q => by
      obtain ⟨ns, e, _⟩ := D1
      rw [q, e] at hDn
      cases hDn
    have D2 := D1.same S2
    have B2 := B1.trans (But.of S2)
    have FA2 := FA.keep (S2 _)
    refine ⟨fun σ H' => σ = [some (.ref d), some (.ref t), some (.int sz), some (.ref F), some (.int q), some (.int ((0 : Int) + (i : Nat))), v6, v7, some (.str y), v9, some (.ref D)] ∧ Dr H' d ∧ But [d] H H' ∧ FarAt H' F fs g 103 ∧ H' D = some (.lst (us.map V.ref)) ∧ MvL H' us (outOf ms q) ∧ outOf ms q ≠ [] ∧ (q ∈ ls → (i : Int) < sz), ?_, ?_⟩
    · obtain ⟨ht2, hl2, em2, hM2⟩ := hb B2
      refine ⟨_, rfl, _, rfl, t, _, 1, _, rfl, rfl, SqT.of ht2, atI_nat (j := 1) rfl, l, _, rfl, .inl (SqL.of hl2), rfl, flat_ints _, _, rfl, ?_⟩
      rw [if_neg (by decide), in_ints]
      refine ite2 (fun h => ?_) (fun h => ?_)
      · have inl := of_decide_eq_true h
        refine ⟨_, rfl, Nat.zero_le _, fun p hp => ?_⟩
        have S3 := Rz.Same.new (o := .lst []) (Same.refl G2) hp
        refine ⟨dMvs (outOf ms q), dMvs [], dmvs_at ⟨us, S3 _ _ e2, P2.keep (Tups.of S3)⟩, dmvs_at ⟨[], upd_same, .nil⟩, dmvs_shaped gq, dmvs_shaped (fun m hm => (by cases hm)), _, rfl, ?_⟩
        rw [dmvs_eqv]
        have ret : ∀ G', Dr G' d → But [d] H G' → Q (.str y) G' := fun G' a b => k _ _ (by omega) a b
        refine ite2 (fun _ => ⟨_, rfl, ret _ (D2.same S3) (B2.trans (But.of S3))⟩) (fun hne => ?_)
        refine ⟨_, rfl, _, rfl, _, _, rfl, rfl, _, rfl, ?_⟩
        refine ite2 (fun _ => ⟨_, rfl, ret _ (D2.same S3) (B2.trans (But.of S3))⟩) (fun hlt => ?_)
        have ilt : (i : Int) < sz := by
          have : ¬ ((0 : Int) + (i : Nat) ≥ sz) := fun z => hlt (decide_eq_true z)
          omega
        refine ⟨_, rfl, d, 4, rfl, by decide, D2.same S3, fun G4 r r0 r4 D4 B4 => ⟨rfl, _, rfl, ?_⟩⟩
        have B04 := (B2.trans (But.of S3)).trans B4
        refine ite2 (fun _ => ⟨_, rfl, ret _ D4 B04⟩) (fun _ => ?_)
        exact ⟨rfl, D4, B04, (FA2.keep (S3 _)).keep (fun o e => B4.at e (by simpa using nF)), B4.at (S3 _ _ e2) (by simpa using nDd), (P2.keep (Tups.of S3)).keep (tups1 B4 (ndt (D2.same S3))), fun z => hne (decide_eq_true z), fun _ => ilt⟩
      · have nin : q ∉ ls := fun z => h (decide_eq_true z)
        exact ⟨rfl, D2, B2, FA2, e2, P2, out_ne FO qf nin, fun z => absurd z nin⟩
    clear D2 B2 FA2 e2 P2 S2
    rintro σ G3 ⟨rfl, D3, B3, FA3, e3, P3, one, hin⟩
    refine ⟨fun σ H' => ∃ (D' : Addr) (us : List Addr) (qs : List Mv), σ = [some (.ref d), some (.ref t), some (.int sz), some (.ref F), some (.int q), some (.int ((0 : Int) + (i : Nat))), v6, v7, some (.str y), v9, some (.ref D')] ∧ Dr H' d ∧ But [d] H H' ∧ FarAt H' F fs g 103 ∧ H' D' = some (.lst (us.map V.ref)) ∧ MvL H' us qs ∧ qs ≠ [] ∧ (∀ x ∈ qs, x ∈ ms) ∧ D' ≠ d, ?_, ?_⟩
    · refine ⟨_, rfl, _, rfl, _, _, rfl, rfl, _, rfl, ?_⟩
      refine ite2 (fun h => ?_) (fun _ => ⟨D, us, outOf ms q, rfl, D3, B3, FA3, e3, P3, one, fun x hx => (List.mem_filter.mp hx).1, nDd⟩)
      have ge := of_decide_eq_true h
      have nin : q ∉ ls := fun z => by have := hin z; omega
      have eq : DGet G3 F (.int q) (some (.int (g q))) := by
        have := FA3.get q
        rwa [if_pos qf] at this
      have zus := P3.len
      refine ⟨_, rfl, D, rfl, ⟨_, SqL.of e3⟩, fun D' hD' => lc_it walk_list (fun j H' => Same G3 H' ∧ ∃ us' : List Addr, H' D' = some (.lst (us'.map V.ref)) ∧ MvL H' us' (((outOf ms q).take j).filter fun x => decide (g x.2.2 < g q))) ⟨Rz.Same.new (Same.refl _) hD', [], upd_same, .nil⟩ (fun i H' _ h => SqL.of (h.1 _ _ e3)) ?_ ?_⟩
      · rintro j v Ga Gb hj ⟨S, us', e, P⟩ ⟨rfl, hv⟩
        obtain ⟨u, hu2, rfl⟩ := refs_get hv
        obtain ⟨x, hx, et⟩ := P3.get hu2
        have inm : x ∈ ms := (List.mem_filter.mp (List.mem_of_getElem? hx)).1
        have xf : x.2.2 ∈ fs := by
          have := (LO.st.2.2 x inm).2
          exact all _ this.1 this.2
        have tk : (outOf ms q).take (j + 1) = (outOf ms q).take j ++ [x] := by rw [List.take_add_one, hx]; rfl
        have et2 := S _ _ et
        have FAb := FA3.keep (S _)
        have ex : DGet Gb F (.int x.2.2) (some (.int (g x.2.2))) := by
          have := FAb.get x.2.2
          rwa [if_pos xf] at this
        have eqb : DGet Gb F (.int q) (some (.int (g q))) := by
          have := FAb.get q
          rwa [if_pos qf] at this
        have zus' := P.len
        have lf := List.length_filter_le (fun x : Mv => decide (g x.2.2 < g q)) ((outOf ms q).take j)
        have lf2 := List.length_filter_le (fun x : Mv => decide (x.1 = q)) ms
        rw [List.length_take] at lf
        have lo : (outOf ms q).length ≤ ms.length := lf2
        refine ⟨rfl, _, rfl, _, rfl, u, _, 2, _, rfl, rfl, SqT.of et2, atI_nat (j := 2) rfl, F, _, rfl, ex, _, rfl, _, rfl, F, _, rfl, eqb, _, _, rfl, rfl, _, rfl, ?_⟩
        refine ite2 (fun h => ?_) (fun h => ?_)
        · have T3 : Tups Gb (upd Gb D' (.lst (us'.map V.ref ++ [.ref u]))) := Tups.upd (Tups.of (Same.refl _)) (not_tupL ⟨_, e⟩)
          refine ⟨_, rfl, _, e, by rw [List.length_map, sizeLine_eq]; omega, Rz.Same.upd S hD', us' ++ [u], by rw [upd_same, List.map_append]; rfl, ?_⟩
          rw [tk, List.filter_append, List.filter_cons, List.filter_nil, if_pos h]
          exact (P.keep T3).append (.cons (T3 _ _ et2) .nil)
        · refine ⟨S, us', e, ?_⟩
          rw [tk, List.filter_append, List.filter_cons, List.filter_nil, if_neg h, List.append_nil]
          exact P
      rintro G4 ⟨S4, us', e4, P4⟩
      rw [List.length_map, zus, List.take_length] at P4
      refine ⟨D', us', nearer ms g q, rfl, D3.same S4, B3.trans (But.of S4), FA3.keep (S4 _), e4, P4, near_ne FO qf nin, fun x hx => (List.mem_filter.mp (List.mem_filter.mp hx).1).1, fun q => ?_⟩
      obtain ⟨ns, e, _⟩ := D3
      rw [q, e] at hD'
      cases hD'
    clear D3 B3 FA3 e3 P3 one hin
    rintro σ G3 ⟨D', us, qs, rfl, D3, B3, FA3, e3, P3, one, inm, nD⟩
    have zus := P3.len
    have pos : 0 < us.length := by
      have := List.length_pos_iff.mpr one
      omega
    refine ⟨_, rfl, _, rfl, _, rfl, D', _, rfl, SqL.of e3, d, _, rfl, by rw [List.length_map]; omega, D3, fun G4 r r0 r1 D4 B4 => ?_⟩
    obtain ⟨v, hv, hat⟩ := atI_in (xs := us.map V.ref) r0 r1
    obtain ⟨u, hu2, rfl⟩ := List.mem_map.mp hv
    have e4 := B4.at e3 (by simpa using nD)
    have P4 := P3.keep (tups1 B4 (ndt D3))
    obtain ⟨j, hj⟩ := List.getElem?_of_mem hu2
    obtain ⟨x, hx, et⟩ := P4.get hj
    have xm := inm x (List.mem_of_getElem? hx)
    have x1 := m1 x xm
    have xr := (LO.st.2.2 x xm).2
    refine ⟨D', _, r, _, rfl, rfl, SqL.of e4, hat, ?_⟩
    refine ⟨_, rfl, _, rfl, u, _, 1, _, rfl, rfl, SqT.of et, atI_nat (j := 1) rfl, _, _, rfl, rfl, by rw [sizeLine_eq]; omega, ?_⟩
    refine ⟨_, rfl, u, _, 2, _, rfl, rfl, SqT.of et, atI_nat (j := 2) rfl, ?_⟩
    exact ⟨x.2.2, _, _, _, y ++ x.2.1, rfl, xr, by rw [Str.length_append]; omega, D4, B3.trans B4, FA3.keep (fun o e => B4.at e (by simpa using nF))⟩
  · rintro σ G1 ⟨q, v5, v9, v10, y, rfl, hq, zy, D1, B1, FA⟩
    exact ⟨_, rfl, k _ _ (by omega) D1 B1⟩
end
end Rz

namespace Rz
open PySem PySem.Spec PyProof.Rows L2
/-! ### what is sorted is one list; the beginnings in their order -/
theorem begs_len1 (x : Str) (n : Nat) : (begs1 x n).length = n := by unfold begs1; rw [List.length_map, List.length_range]
theorem begs_cons (x : Str) (xs : List Str) : begs (x :: xs) = begs1 x (x.length + 1) ++ begs xs := by
  unfold begs
  rw [List.map_cons, List.flatten_cons]
theorem begs_few : ∀ {xs : List Str}, (∀ x ∈ xs, x.length ≤ 4) → (begs xs).length ≤ 5 * xs.length
  | [], _ => Nat.le_refl _
  | x :: xs, h => by
    have a := h x List.mem_cons_self
    have b := begs_few (xs := xs) fun y hy => h y (List.mem_cons_of_mem _ hy)
    rw [begs_cons, List.length_append, begs_len1, List.length_cons]
    omega
theorem len_sub : ∀ {xs ys : List Str}, xs.Nodup → (∀ x ∈ xs, x ∈ ys) → xs.length ≤ ys.length
  | [], _, _, _ => Nat.zero_le _
  | x :: xs, ys, nd, h => by
    obtain ⟨n1, n2⟩ := List.nodup_cons.mp nd
    have hx := h x List.mem_cons_self
    have q := len_sub (ys := ys.erase x) n2 fun y hy => (List.mem_erase_of_ne (fun e => n1 (by rw [← e]; exact hy))).mpr (h y (List.mem_cons_of_mem _ hy))
    rw [List.length_erase_of_mem hx] at q
    have := List.length_pos_of_mem hx
    rw [List.length_cons]
    omega
theorem pw_one {α : Type} {R : α → α → Prop} (as : ∀ a b, R a b → R b a → a = b) : ∀ {xs ys : List α}, xs.Pairwise R → ys.Pairwise R → xs.Nodup → ys.Nodup → (∀ a, a ∈ xs ↔ a ∈ ys) → xs = ys
  | [], [], _, _, _, _, _ => rfl
  | [], y :: b, _, _, _, _, h => absurd ((h y).mpr List.mem_cons_self) (by simp)
  | x :: a, [], _, _, _, _, h => absurd ((h x).mp List.mem_cons_self) (by simp)
  | x :: a, y :: b, ha, hb, na, nb, h => by
    obtain ⟨a1, a2⟩ := List.pairwise_cons.mp ha
    obtain ⟨b1, b2⟩ := List.pairwise_cons.mp hb
    obtain ⟨c1, c2⟩ := List.nodup_cons.mp na
    obtain ⟨d1, d2⟩ := List.nodup_cons.mp nb
    have e : x = y := by
      rcases List.mem_cons.mp ((h y).mpr List.mem_cons_self) with e | e
      · exact e.symm
      · rcases List.mem_cons.mp ((h x).mp List.mem_cons_self) with f | f
        · exact f
        · exact as _ _ (a1 y e) (b1 x f)
    subst e
    refine congrArg (x :: ·) (pw_one as a2 b2 c2 d2 fun z => ⟨fun hz => ?_, fun hz => ?_⟩)
    · rcases List.mem_cons.mp ((h z).mp (List.mem_cons_of_mem _ hz)) with f | f
      · exact absurd (f ▸ hz) c1
      · exact f
    · rcases List.mem_cons.mp ((h z).mpr (List.mem_cons_of_mem _ hz)) with f | f
      · exact absurd (f ▸ hz) d1
      · exact f
theorem cps_total {a b : Str} (h1 : ltCps a.cps.toList b.cps.toList = false) (h2 : ltCps b.cps.toList a.cps.toList = false) : a = b := by
  rw [ltCps_eq] at h1 h2
  have n1 := of_decide_eq_false h1
  have n2 := of_decide_eq_false h2
  exact str_eq (List.le_antisymm (List.not_lt.mp n2) (List.not_lt.mp n1))
theorem trie_same {ws ys zs : List Str} (a : Trie ws ys) (b : Trie ws zs) : ys = zs :=
  pw_one (fun x y p q => by
    rcases p with p | ⟨p1, p2⟩ <;> rcases q with q | ⟨q1, q2⟩
    · omega
    · omega
    · omega
    · exact cps_total q2 p2) a.ord b.ord a.nd b.nd fun y => (a.mem y).trans (b.mem y).symm
theorem lt_nodup {xs : List Int} (h : xs.Pairwise (· < ·)) : xs.Nodup := h.imp fun q => by omega
theorem srtI_one {ns xs ys : List Int} (a : SrtI ns xs) (b : SrtI ns ys) : xs = ys :=
  pw_one (fun x y p q => by omega) a.1 b.1 (lt_nodup a.1) (lt_nodup b.1) fun k => (a.2 k).trans (b.2 k).symm
theorem mk_nodup {qs : List Mv} (h : qs.Nodup) : (qs.map mvK).Nodup := by
  rw [List.Nodup, List.pairwise_map]
  exact h.imp fun n e => n (mvK_inj e)
theorem mk_map : ∀ {qs rs : List Mv}, qs.map mvK = rs.map mvK → qs = rs
  | [], [], _ => rfl
  | [], _ :: _, h => by cases h
  | _ :: _, [], h => by cases h
  | x :: a, y :: b, h => by
    rw [List.map_cons, List.map_cons] at h
    injection h with h1 h2
    rw [mvK_inj h1, mk_map h2]
theorem mk_mem {zs : List Mv} {y : Mv} : mvK y ∈ zs.map mvK ↔ y ∈ zs := ⟨fun h => by
  obtain ⟨x, hx, e⟩ := List.mem_map.mp h
  rw [← mvK_inj e]
  exact hx, fun h => List.mem_map.mpr ⟨y, h, rfl⟩⟩
theorem srtM_one {ms qs rs : List Mv} (a : SrtM ms qs) (b : SrtM ms rs) : qs = rs := by
  refine mk_map (keys_one a.1 b.1 (mk_nodup a.2.1) (mk_nodup b.2.1) fun k => ⟨fun h => ?_, fun h => ?_⟩)
  · obtain ⟨y, hy, rfl⟩ := List.mem_map.mp h
    exact mk_mem.mpr ((b.2.2 y).mpr ((a.2.2 y).mp hy))
  · obtain ⟨y, hy, rfl⟩ := List.mem_map.mp h
    exact mk_mem.mpr ((a.2.2 y).mpr ((b.2.2 y).mp hy))
theorem lead_same {a b : List Mv} (h : okLeads a) (m : ∀ x, x ∈ a ↔ x ∈ b) (k : List Key) : Lead a k = Lead b k := by
  cases ea : Lead a k with
  | some t =>
    obtain ⟨x, hx, e1, e2⟩ := lead_mem ea
    cases eb : Lead b k with
    | some u =>
      obtain ⟨y, hy, f1, f2⟩ := lead_mem eb
      have := h.2 x hx y ((m y).mpr hy) (e1.trans f1.symm)
      rw [← e2, ← f2, this]
    | none =>
      exfalso
      unfold Lead at eb
      rw [Option.map_eq_none_iff, List.find?_eq_none] at eb
      exact eb x ((m x).mp hx) (decide_eq_true e1)
  | none =>
    cases eb : Lead b k with
    | none => rfl
    | some u =>
      exfalso
      obtain ⟨y, hy, f1, f2⟩ := lead_mem eb
      unfold Lead at ea
      rw [Option.map_eq_none_iff, List.find?_eq_none] at ea
      exact ea y ((m y).mpr hy) (decide_eq_true f1)
/-! ### pairs (size, text) in a list -/
def dY (y : Str) : PyData := .tuple [.int y.length, .str y]
def yK (y : Str) : List Key := [.inl y.length, .inr y]
def YL (H : Hp) : List Addr → List Str → Prop := Paired fun t y => H t = some (.tup [.int y.length, .str y])
theorem YL.keep {H H' : Hp} (h : Tups H H') : ∀ {ts : List Addr} {ys : List Str}, YL H ts ys → YL H' ts ys
  | _, _, .nil => .nil
  | _, _, .cons e r => .cons (h _ _ e) (YL.keep h r)
theorem YL.len {H : Hp} {ts : List Addr} {ys : List Str} (h : YL H ts ys) : ts.length = ys.length := Paired.length h
theorem YL.append {H : Hp} : ∀ {ts us : List Addr} {ys zs : List Str}, YL H ts ys → YL H us zs → YL H (ts ++ us) (ys ++ zs)
  | _, _, _, _, .nil, s => s
  | _, _, _, _, .cons e t, s => .cons e (YL.append t s)
theorem YL.all {K : PySem.W.Frag} {H : Hp} : ∀ {ts : List Addr} {ys : List Str}, YL H ts ys → DpAll K H (ts.map V.ref) (ys.map dY)
  | _, _, .nil => .nil
  | _, _, .cons e r => .cons (.tup (SqT.of e) (.cons (.int _) (.cons (.str _) .nil))) (YL.all r)
theorem dy_shaped {y : Str} (h : PyData.strOk y = true) : SeqAt.shaped (dY y) = true := by
  have a : PyData.canLayAll0 [PyData.int y.length, PyData.str y] = true := by simp [PyData.canLayAll0, PyData.canLay0, h]
  have d : PyData.depth (dY y) ≤ 64 := by simp [dY, PyData.depth, PyData.depthAll]
  show (PyData.canLayAll0 [PyData.int y.length, PyData.str y] && decide (PyData.depth (dY y) ≤ 64)) = true
  rw [a, decide_eq_true d]
  rfl
theorem dys_lay : ∀ {ys : List Str}, (∀ y ∈ ys, PyData.strOk y = true) → PyData.canLayAll0 (ys.map dY) = true
  | [], _ => rfl
  | y :: ys, h => by
    have a : PyData.canLay0 (dY y) = true := by
      show PyData.canLayAll0 [PyData.int y.length, PyData.str y] = true
      simp [PyData.canLayAll0, PyData.canLay0, h y List.mem_cons_self]
    have b := dys_lay (ys := ys) fun q hq => h q (List.mem_cons_of_mem _ hq)
    simp only [List.map_cons, PyData.canLayAll0, a, b, Bool.and_self]
theorem dys_depth : ∀ ys : List Str, PyData.depthAll (ys.map dY) ≤ 1
  | [] => by simp [PyData.depthAll]
  | y :: ys => by
    have b := dys_depth ys
    simp only [List.map_cons, PyData.depthAll]
    have a : PyData.depth (dY y) = 1 := by simp [dY, PyData.depth, PyData.depthAll]
    rw [a]
    omega
theorem dys_shaped {ys : List Str} (h : ∀ y ∈ ys, PyData.strOk y = true) : SeqAt.shaped (.list (ys.map dY)) = true := by
  have b := dys_depth ys
  have d : PyData.depth (.list (ys.map dY)) ≤ 64 := by
    show PyData.depthAll (ys.map dY) + 1 ≤ 64
    omega
  show (PyData.canLayAll0 (ys.map dY) && decide (PyData.depth (.list (ys.map dY)) ≤ 64)) = true
  rw [dys_lay h, decide_eq_true d]
  rfl
theorem dy_eqv (a b : Str) : PyData.eqv (dY a) (dY b) = decide (a = b) := by
  show PyData.eqvAll [PyData.int a.length, PyData.str a] [PyData.int b.length, PyData.str b] = _
  by_cases h : a = b
  · subst h
    simp [PyData.eqvAll, PyData.eqv]
  · have e : (a == b) = false := by simpa using h
    simp [PyData.eqvAll, PyData.eqv, h]
theorem dys_any (y : Str) : ∀ ys : List Str, ((ys.map dY).any fun z => PyData.eqv z (dY y)) = decide (y ∈ ys)
  | [] => rfl
  | z :: ys => by
    rw [List.map_cons, List.any_cons, dys_any y ys, dy_eqv]
    by_cases h : z = y
    · subst h
      simp
    · have h2 : ¬ y = z := fun e => h e.symm
      simp [h, h2]
theorem yl_keys {H : Hp} : ∀ {ts : List Addr} {ys : List Str}, YL H ts ys → ∃ ks : List (Addr × List Key), ts.map V.ref = ks.map (fun p => V.ref p.1) ∧ ks.map (·.2) = ys.map yK ∧ (∀ p ∈ ks, H p.1 = some (.tup (p.2.map kV)) ∧ ∃ y, p.2 = yK y)
  | _, _, .nil => ⟨[], rfl, rfl, fun p hp => (by cases hp)⟩
  | _, _, .cons (a := t) (b := y) e r => by
    obtain ⟨ks, h1, h2, h3⟩ := yl_keys r
    refine ⟨(t, yK y) :: ks, by rw [List.map_cons, h1]; rfl, by rw [List.map_cons, h2]; rfl, fun p hp => ?_⟩
    rcases List.mem_cons.mp hp with z | z
    · rw [z]
      exact ⟨e, y, rfl⟩
    · exact h3 p z
theorem keys_yl {H : Hp} : ∀ {M : List (Addr × List Key)}, (∀ p ∈ M, H p.1 = some (.tup (p.2.map kV)) ∧ ∃ y : Str, p.2 = yK y) → ∃ zs : List Str, M.map (·.2) = zs.map yK ∧ YL H (M.map (·.1)) zs
  | [], _ => ⟨[], rfl, .nil⟩
  | p :: M, h => by
    obtain ⟨e, y, ey⟩ := h p List.mem_cons_self
    obtain ⟨zs, h1, h2⟩ := keys_yl (M := M) fun q hq => h q (List.mem_cons_of_mem _ hq)
    refine ⟨y :: zs, by rw [List.map_cons, List.map_cons, h1, ey], .cons ?_ h2⟩
    rw [ey] at e
    exact e
theorem yK_inj {a b : Str} (h : yK a = yK b) : a = b := by
  unfold yK at h
  simp only [List.cons.injEq, Sum.inr.injEq, and_true] at h
  exact h.2
theorem yK_ord {zs : List Str} (h : (zs.map yK).Pairwise (fun q r => kLt r q = false)) : BegOrd zs := by
  unfold BegOrd
  rw [List.pairwise_map] at h
  refine h.imp fun {a b} q => ?_
  have q : lexLt itemOrd [.inl (b.length : Int), .inr b.cps.toList] [.inl (a.length : Int), .inr a.cps.toList] = false := q
  obtain ⟨q1, q2⟩ := lex_false.mp q
  have q1 := of_decide_eq_false (show decide ((b.length : Int) < a.length) = false from q1)
  rcases q2 with q2 | q2
  · have q2 := of_decide_eq_true (show decide ((a.length : Int) < b.length) = true from q2)
    exact .inl (by omega)
  · rcases Nat.lt_or_ge a.length b.length with lt | ge
    · exact .inl lt
    · refine .inr ⟨by omega, ?_⟩
      have q3 := (lex_false.mp q2).1
      rw [ltCps_eq]
      exact q3
/-! ### names.index(name) -/
theorem flat_strs (xs : List Str) : (xs.map V.str).all flatV = true := by
  rw [List.all_map, List.all_eq_true]
  exact fun _ _ => rfl
theorem in_strs {x : Str} {xs : List Str} : inV (.str x) (xs.map V.str) = decide (x ∈ xs) := by
  unfold inV
  rw [List.any_map]
  induction xs with
  | nil => rfl
  | cons y xs ih =>
    rw [List.any_cons, ih]
    show ((y == x) || decide (x ∈ xs)) = decide (x ∈ y :: xs)
    by_cases e : y = x
    · subst e
      simp
    · have e2 : ¬ x = y := fun z => e z.symm
      simp [e, e2]
theorem str_nth {ns : List Str} {i : Nat} {y : V} (h : (ns.map V.str)[i]? = some y) : ∃ u, ns[i]? = some u ∧ y = .str u := by
  rw [List.getElem?_map] at h
  cases e : ns[i]? with
  | none => rw [e] at h; cases h
  | some u =>
    rw [e] at h
    exact ⟨u, rfl, (Option.some.inj h).symm⟩
theorem index_strs {K : PySem.W.Frag} {kp : Addr} {σ : L2.St} {G : Hp} {ks : List Str} {x : Str} {Q : VK} (e : G kp = some (.lst (ks.map V.str))) (h : x ∈ ks) (q : Q (.int (ix ks x : Nat)) G) : tNil σ G fun xs H2 => rIndex K (.ref kp) (V.str x :: xs) H2 Q := by
  have a := List.idxOf_lt_length_of_mem h
  have b : ks[ks.idxOf x] = x := List.getElem_idxOf a
  refine ⟨kp, _, .str x, ks.idxOf x, .str x, rfl, rfl, SqL.of e, rfl, flat_strs ks, ?_, ?_, fun m w hm hw => ?_, q⟩
  · rw [List.getElem?_map, List.getElem?_eq_getElem a, b]
    rfl
  · show (x == x) = true
    simp
  · obtain ⟨y, hy, rfl⟩ := str_nth hw
    show (y == x) = false
    have l := (List.getElem?_eq_some_iff.mp hy).1
    have ne := List.not_of_lt_findIdx (p := fun z => z == x) (xs := ks) (i := m) hm
    rw [List.getElem?_eq_getElem l] at hy
    rw [← Option.some.inj hy]
    simpa using ne
/-! ### last states and moves of the tree -/
def lastsOf (ws zs : List Str) (n : Nat) : List Int := ((List.range n).filter fun k => decide (zs.getD k "" ∈ ws)).map fun (k : Nat) => (k : Int)
theorem lasts_snoc (ws zs : List Str) (n : Nat) : lastsOf ws zs (n + 1) = lastsOf ws zs n ++ if zs.getD n "" ∈ ws then [(n : Int)] else [] := by
  unfold lastsOf
  rw [List.range_succ, List.filter_append, List.map_append]
  congr 1
  by_cases h : zs.getD n "" ∈ ws
  · rw [if_pos h, List.filter_cons, if_pos (decide_eq_true h)]
    rfl
  · rw [if_neg h, List.filter_cons, if_neg (fun q => h (of_decide_eq_true q))]
    rfl
theorem lasts_len (ws zs : List Str) (n : Nat) : (lastsOf ws zs n).length ≤ n := by
  unfold lastsOf
  rw [List.length_map]
  refine Nat.le_trans (List.length_filter_le _ _) ?_
  rw [List.length_range]
  exact Nat.le_refl _
theorem lasts_srt {ws zs : List Str} (t : Trie ws zs) : SrtI (trieL ws zs) (lastsOf ws zs zs.length) := by
  unfold SrtI lastsOf trieL
  refine ⟨?_, fun k => ⟨fun h => ?_, fun h => ?_⟩⟩
  · rw [List.pairwise_map]
    exact (List.pairwise_lt_range.filter _).imp fun q => by omega
  · obtain ⟨j, hj, rfl⟩ := List.mem_map.mp h
    obtain ⟨h1, h2⟩ := List.mem_filter.mp hj
    have hw := of_decide_eq_true h2
    have lt := List.mem_range.mp h1
    rw [List.getD_eq_getElem?_getD, List.getElem?_eq_getElem lt] at hw
    exact List.mem_map.mpr ⟨zs[j], hw, by rw [ix_nth t.nd (List.getElem?_eq_getElem lt)]⟩
  · obtain ⟨x, hx, rfl⟩ := List.mem_map.mp h
    have hm := t.self hx
    refine List.mem_map.mpr ⟨ix zs x, List.mem_filter.mpr ⟨List.mem_range.mpr (ix_lt hm), decide_eq_true ?_⟩, rfl⟩
    rw [List.getD_eq_getElem?_getD, ix_at hm]
    exact hx
theorem trieM_nodup {ws zs : List Str} (t : Trie ws zs) : (trieM zs).Nodup := by
  unfold trieM
  rw [List.Nodup, List.pairwise_map]
  refine List.Pairwise.imp_of_mem (fun {a b} ha hb n e => n ?_) (t.nd.filter _)
  have e3 : ((ix zs a : Nat) : Int) = (ix zs b : Nat) := congrArg (fun m : Mv => m.2.2) e
  exact ix_inj (List.mem_filter.mp ha).1 (List.mem_filter.mp hb).1 (by omega)
end Rz

namespace Rz
open PySem PySem.Spec PyProof.Rows L2
theorem only_good {cB cS cL : Addr} {xs : List Str} {H : Hp} {Q : VK} {E : XK} (ne : xs ≠ []) (z4 : xs.length ≤ 4) (ev : ∀ x ∈ xs, fo x = none ∧ x.length ≤ 4)
    (k : ∀ ys, Trie xs ys → ∀ H' o ls ms, SrtI (trieL xs ys) ls → SrtM (trieM ys) ms → ys.length ≤ 40 → Same H H' → H o = none → LtAt cL H' o ys.length ls ms (Lead (trieM ys)) → Q (.ref o) H') : OnlyW cB cS cL xs H Q E := by
  have bf := begs_few (xs := xs) fun x hx => (ev x hx).2
  have few : ∀ ys, Trie xs ys → ys.length ≤ 40 := fun ys t => by
    have := len_sub (ys := begs xs) t.nd fun x hx => (t.mem x).mp hx
    omega
  refine ⟨by omega, fun x hx => by have := (ev x hx).2; omega, fun _ => by omega, fun e => absurd e ne, fun i x j hx _ hj => ?_, fun ys t => ⟨fun l => by have := few ys t; omega, fun l H' o ls ms s1 s2 S ho L => k ys t H' o ls ms s1 s2 l S ho L⟩⟩
  rw [(ev x (List.mem_of_getElem? hx)).1] at hj
  cases hj
def sp_law_begun (cL : Addr) : Sp := fun vs H Q _ => ∃ (wl : Addr) (ws : List Str), vs = [.ref wl] ∧ H wl = some (.lst (ws.map V.str)) ∧ ws ≠ [] ∧ ws.length ≤ 4 ∧ (∀ x ∈ ws, fo x = none ∧ x.length ≤ 4) ∧
  ∀ ys, Trie ws ys → ∀ H' o ls ms, SrtI (trieL ws ys) ls → SrtM (trieM ys) ms → ys.length ≤ 40 → Same H H' → H o = none → LtAt cL H' o ys.length ls ms (Lead (trieM ys)) → Q (.ref o) H'
section
variable {w : World} {K : PySem.W.Frag} {mg : Str → Option Value} {base : Heap}
theorem sc_law_begun : FnScope N__law_begun P__law_begun (defScope s__law_begun) := ⟨rfl, rfl, rfl, by decide +kernel, rfl, by decide +kernel, by decide +kernel⟩
theorem ok_law_begun (T : Txt K mg) : FnOk prg w K mg base (L2.CX prg w) 8 T.f__law_begun T.fd__law_begun P__law_begun (sp_law_begun T.c_Lot) := by
  refine Rz.Fun.okN T.F__law_begun sc_law_begun (fun vs H Q E h => ?_) (fun cdv A outer s H vs Q E hr h => ?_)
  · obtain ⟨wl, ws, rfl, _⟩ := h
    rfl
  obtain ⟨wl, ws, rfl, e, ne, z4, ev, k⟩ := h
  have nd := sc_law_begun.nd
  refine ⟨_, (pss_cons (ps_if (pt_cmpR op_eq (pe_callB call_lenS (by rfl) T.n_len PySem.boot_len (pa_cons (pv 0) pa_nil)) pe_int (nomark _)) (pss_one (ps_ret (pe_cm (pe_glob (v := .ref T.c_Lot) (by rfl) T.m_Lot rfl) T.cr_Lot_only T.M_Lot_only (ok_Lot_only T) (hr.mono (by decide)) (fun _ => atN _) (pa_cons (pe_ix ix_list (pv 0) pe_int (fun _ _ => rfl)) pa_nil)))) pss_nil)
    (pss_cons (ps_if (pt_cmpR op_eq (pe_callB call_lenS (by rfl) T.n_len PySem.boot_len (pa_cons (pv 0) pa_nil)) pe_int (nomark _)) (pss_one (ps_ret (pe_cm (pe_glob (v := .ref T.c_Lot) (by rfl) T.m_Lot rfl) T.cr_Lot_only T.M_Lot_only (ok_Lot_only T) (hr.mono (by decide)) (fun _ => atN _) (pa_cons (pe_ix ix_list (pv 0) pe_int (fun _ _ => rfl)) (pa_cons (pe_ix ix_list (pv 0) pe_int (fun _ _ => rfl)) pa_nil))))) pss_nil)
    (pss_cons (ps_if (pt_cmpR op_eq (pe_callB call_lenS (by rfl) T.n_len PySem.boot_len (pa_cons (pv 0) pa_nil)) pe_int (nomark _)) (pss_one (ps_ret (pe_cm (pe_glob (v := .ref T.c_Lot) (by rfl) T.m_Lot rfl) T.cr_Lot_only T.M_Lot_only (ok_Lot_only T) (hr.mono (by decide)) (fun _ => atN _) (pa_cons (pe_ix ix_list (pv 0) pe_int (fun _ _ => rfl)) (pa_cons (pe_ix ix_list (pv 0) pe_int (fun _ _ => rfl)) (pa_cons (pe_ix ix_list (pv 0) pe_int (fun _ _ => rfl)) pa_nil)))))) pss_nil)
    (pss_one (ps_ret (pe_cm (pe_glob (v := .ref T.c_Lot) (by rfl) T.m_Lot rfl) T.cr_Lot_only T.M_Lot_only (ok_Lot_only T) (hr.mono (by decide)) (fun _ => atN _) (pa_cons (pe_ix ix_list (pv 0) pe_int (fun _ _ => rfl)) (pa_cons (pe_ix ix_list (pv 0) pe_int (fun _ _ => rfl)) (pa_cons (pe_ix ix_list (pv 0) pe_int (fun _ _ => rfl)) (pa_cons (pe_ix ix_list (pv 0) pe_int (fun _ _ => rfl)) pa_nil)))))))))), ?_⟩
  have go : ∀ {E : XK}, OnlyW T.c_BadLot T.c_BadSign T.c_Lot ws H (fun v H' => Q v H') E := fun {E} => only_good ne z4 ev k
  unfold rLenS
  match ws, ne, z4 with
  | [], ne, _ => exact absurd rfl ne
  | [a], _, _ =>
    have L : SqL K H wl (([a] : List Str).map V.str) := SqL.of e
    refine ⟨_, rfl, wl, _, rfl, L, rfl, _, rfl, ?_⟩
    refine ite2 (fun _ => ?_) (fun h => absurd (decide_eq_true rfl) h)
    exact ⟨rfl, _, rfl, wl, _, 0, _, rfl, rfl, L, atI_nat (j := 0) rfl, [a], rfl, go⟩
  | [a, b], _, _ =>
    have L : SqL K H wl (([a, b] : List Str).map V.str) := SqL.of e
    refine ⟨_, rfl, wl, _, rfl, L, rfl, _, rfl, ?_⟩
    refine ite2 (fun h => absurd (of_decide_eq_true h) (fun z => by injection z with z; exact absurd z (by simp only [List.map_cons, List.map_nil, List.length_cons, List.length_nil]; decide))) (fun _ => ?_)
    refine ⟨_, rfl, wl, _, rfl, L, rfl, _, rfl, ?_⟩
    refine ite2 (fun _ => ?_) (fun h => absurd (decide_eq_true rfl) h)
    exact ⟨rfl, _, rfl, wl, _, 0, _, rfl, rfl, L, atI_nat (j := 0) rfl, _, rfl, wl, _, 1, _, rfl, rfl, L, atI_nat (j := 1) rfl, [a, b], rfl, go⟩
  | [a, b, c], _, _ =>
    have L : SqL K H wl (([a, b, c] : List Str).map V.str) := SqL.of e
    refine ⟨_, rfl, wl, _, rfl, L, rfl, _, rfl, ?_⟩
    refine ite2 (fun h => absurd (of_decide_eq_true h) (fun z => by injection z with z; exact absurd z (by simp only [List.map_cons, List.map_nil, List.length_cons, List.length_nil]; decide))) (fun _ => ?_)
    refine ⟨_, rfl, wl, _, rfl, L, rfl, _, rfl, ?_⟩
    refine ite2 (fun h => absurd (of_decide_eq_true h) (fun z => by injection z with z; exact absurd z (by simp only [List.map_cons, List.map_nil, List.length_cons, List.length_nil]; decide))) (fun _ => ?_)
    refine ⟨_, rfl, wl, _, rfl, L, rfl, _, rfl, ?_⟩
    refine ite2 (fun _ => ?_) (fun h => absurd (decide_eq_true rfl) h)
    exact ⟨rfl, _, rfl, wl, _, 0, _, rfl, rfl, L, atI_nat (j := 0) rfl, _, rfl, wl, _, 1, _, rfl, rfl, L, atI_nat (j := 1) rfl, _, rfl, wl, _, 2, _, rfl, rfl, L, atI_nat (j := 2) rfl, [a, b, c], rfl, go⟩
  | [a, b, c, f], _, _ =>
    have L : SqL K H wl (([a, b, c, f] : List Str).map V.str) := SqL.of e
    refine ⟨_, rfl, wl, _, rfl, L, rfl, _, rfl, ?_⟩
    refine ite2 (fun h => absurd (of_decide_eq_true h) (fun z => by injection z with z; exact absurd z (by simp only [List.map_cons, List.map_nil, List.length_cons, List.length_nil]; decide))) (fun _ => ?_)
    refine ⟨_, rfl, wl, _, rfl, L, rfl, _, rfl, ?_⟩
    refine ite2 (fun h => absurd (of_decide_eq_true h) (fun z => by injection z with z; exact absurd z (by simp only [List.map_cons, List.map_nil, List.length_cons, List.length_nil]; decide))) (fun _ => ?_)
    refine ⟨_, rfl, wl, _, rfl, L, rfl, _, rfl, ?_⟩
    refine ite2 (fun h => absurd (of_decide_eq_true h) (fun z => by injection z with z; exact absurd z (by simp only [List.map_cons, List.map_nil, List.length_cons, List.length_nil]; decide))) (fun _ => ?_)
    exact ⟨rfl, _, rfl, wl, _, 0, _, rfl, rfl, L, atI_nat (j := 0) rfl, _, rfl, wl, _, 1, _, rfl, rfl, L, atI_nat (j := 1) rfl, _, rfl, wl, _, 2, _, rfl, rfl, L, atI_nat (j := 2) rfl, _, rfl, wl, _, 3, _, rfl, rfl, L, atI_nat (j := 3) rfl, [a, b, c, f], rfl, go⟩
  | _ :: _ :: _ :: _ :: _ :: _, _, z4 => simp at z4
end
end Rz

namespace Rz
open PySem PySem.Spec PyProof.Rows L2
theorem mem_begs1 {x y : Str} {n : Nat} : y ∈ begs1 x (n + 1) ↔ y ∈ begs1 x n ∨ y = pre x n := by
  rw [begs1_snoc, List.mem_append, List.mem_singleton]
theorem abc_lt : ∀ c ∈ abc.cps.toList, c < 128 := by decide +kernel
theorem pre_ok {x : Str} {n : Nat} (h : fo x = none) : PyData.strOk (pre x n) = true := str_ok fun c hc => by
  rw [pre_list] at hc
  have e := fo_even h c (List.mem_of_mem_take hc)
  unfold oddC at e
  simp at e
  exact abc_lt c (by simpa using e)
theorem YL.get {H : Hp} : ∀ {ts : List Addr} {ys : List Str} {i : Nat} {t : Addr}, YL H ts ys → ts[i]? = some t → ∃ y, ys[i]? = some y ∧ H t = some (.tup [.int y.length, .str y])
  | _, _, i, t, .nil, h => by cases h
  | _, _, 0, t, .cons e r, h => by
    have z := Option.some.inj h
    subst z
    exact ⟨_, rfl, e⟩
  | _, _, i + 1, t, .cons e r, h => YL.get (i := i) r (by simpa using h)
def tMv (zs : List Str) (y : Str) : Mv := ((ix zs (par y) : Nat), lastS y, (ix zs y : Nat))
def tM (zs l : List Str) : List Mv := (l.filter fun y => decide (y.length ≠ 0)).map (tMv zs)
def sp_law_tree : Sp := fun vs H Q _ => ∃ (wl : Addr) (ws : List Str), vs = [.ref wl] ∧ H wl = some (.lst (ws.map V.str)) ∧ ws ≠ [] ∧ ws.length ≤ 4 ∧ (∀ x ∈ ws, fo x = none ∧ x.length ≤ 4) ∧
  ∀ H' (t l m : Addr) (zs : List Str) (ls : List Int) (ms : List Mv), Same H H' → PtAt H' t l m zs.length ls ms → Trie ws zs → SrtI (trieL ws zs) ls → SrtM (trieM zs) ms → Q (.ref t) H'
section
variable {w : World} {K : PySem.W.Frag} {mg : Str → Option Value} {base : Heap}
theorem sc_law_tree : FnScope N__law_tree P__law_tree (defScope s__law_tree) := ⟨rfl, rfl, rfl, by decide +kernel, rfl, by decide +kernel, by decide +kernel⟩
theorem ok_law_tree (T : Txt K mg) : FnOk prg w K mg base (L2.CX prg w) 2 T.f__law_tree T.fd__law_tree P__law_tree sp_law_tree := by
  refine Rz.Fun.okN T.F__law_tree sc_law_tree (fun vs H Q E h => ?_) (fun cdv A outer s H vs Q E hr h => ?_)
  · obtain ⟨wl, ws, rfl, _⟩ := h
    rfl
  obtain ⟨wl, ws, rfl, ew, ne, z4, ev, k⟩ := h
  have nd := sc_law_tree.nd
  have hu : (A.deeper (envOfC "_law_tree" (defScope s__law_tree) s.heap.objs.size T.f__law_tree cdv)).units + 65 < cLine := by
    have := hr.un
    omega
  refine ⟨_, (pss_cons (ps_set (i := 1) nd rfl (Or.inl rfl) (pe_lst pa_nil))
    (pss_cons (ps_for PassesOwn.never rfl (pi_list (pv 0)) (pg_name (i := 2) nd rfl (Or.inl rfl))
      (pss_one (ps_for PassesOwn.never rfl (pi_range1 rfl T.n_range (pa_cons (pe_op op_add (pe_callB call_len_str (by rfl) T.n_len PySem.boot_len (pa_cons (pv 2) pa_nil)) pe_int) pa_nil)) (pg_name (i := 3) nd rfl (Or.inl rfl))
        (pss_one (ps_if (pt_cmpR (op_notInD hu) (pe_tup (pa_cons (pv 3) (pa_cons (pe_slice sl_str (pv 2) po_none (po_some (pv 3))) pa_nil))) (pv 1) rfl) (pss_one (ps_expr (pe_bm PySem.F.plainAttrs_list PySem.F.slot_list_append PySem.F.type_list_append mt_append (pv 1) (pa_cons (pe_tup (pa_cons (pv 3) (pa_cons (pe_slice sl_str (pv 2) po_none (po_some (pv 3))) pa_nil))) pa_nil)))) pss_nil)))))
    (pss_cons (ps_set (i := 5) nd rfl (Or.inr rfl) (pe_lc (own := [("_law_pair", 4)]) (g := (gName 4)) (tt := tYes) rfl nd (pi_list (pe_callB cr_sortTl (by rfl) T.n_sorted (by decide +kernel) (pa_cons (pv 1) pa_nil))) (blkOk_by (N := N__law_tree) (sc := defScope s__law_tree) (by decide +kernel)) (fun _ _ _ _ _ => (pg_name (i := 4) nd rfl (Or.inl rfl))) (fun _ _ _ _ _ => pts_nil) (fun _ _ _ _ _ => (pe_ix (show IxR _ (rIxT K) from ix_tup) (pv 4) pe_int (fun _ _ => rfl)))))
    (pss_cons (ps_setLc (i := 7) (own := [("_law_name", 6)]) (g := (gName 6)) (tt := _) rfl nd rfl rfl (sw_true rfl rfl rfl (by decide +kernel)) (pi_list (pv 5)) (blkOk_by (N := N__law_tree) (sc := defScope s__law_tree) (by decide +kernel)) (fun _ _ _ _ _ => (pg_name (i := 6) nd rfl (Or.inl rfl))) (fun _ _ _ _ _ => (pts_one (pt_cmpR op_ne (pv 6) pe_str (nomark _)))) (fun _ _ _ _ _ => (pe_tup (pa_cons (show PE _ _ (tBM K "list" (rIndex K) (tVar 5) (tCons (tSl rSlS (tVar 6) tNoPart (tPart (tUn (rU fun i => .int (-i)) (tC (.int 1))))) tNil)) from pe_bm PySem.F.plainAttrs_list PySem.F.slot_list_index PySem.F.type_list_index mt_index (pv 5) (pa_cons (pe_slice sl_str (pv 6) po_none (po_some (pe_un un_neg pe_int))) pa_nil)) (pa_cons (pe_ix ix_str (pv 6) (pe_un un_neg pe_int) (fun _ _ => rfl)) (pa_cons (show PE _ _ (tBM K "list" (rIndex K) (tVar 5) (tCons (tVar 6) tNil)) from pe_bm PySem.F.plainAttrs_list PySem.F.slot_list_index PySem.F.type_list_index mt_index (pv 5) (pa_cons (pv 6) pa_nil)) pa_nil))))))
    (pss_cons (ps_setLc (i := 9) (own := [("_law_k", 8)]) (g := (gName 8)) (tt := _) rfl nd rfl rfl (sw_true rfl rfl rfl (by decide +kernel)) (pi_range1 rfl T.n_range (pa_cons (pe_callB call_lenS (by rfl) T.n_len PySem.boot_len (pa_cons (pv 5) pa_nil)) pa_nil)) (blkOk_by (N := N__law_tree) (sc := defScope s__law_tree) (by decide +kernel)) (fun _ _ _ _ _ => (pg_name (i := 8) nd rfl (Or.inl rfl))) (fun _ _ _ _ _ => (pts_one (pt_cmpR (show OpR _ (compareOp .In) (rIn K false) from op_in_seq) (pe_ix (show IxR _ (rIxL K) from ix_list) (pv 5) (pv 8) (fun _ _ => rfl)) (pv 0) rfl))) (fun _ _ _ _ _ => (pv 8)))
    (pss_one (ps_ret (pe_tup (pa_cons (pe_callB call_lenS (by rfl) T.n_len PySem.boot_len (pa_cons (pv 5) pa_nil)) (pa_cons (pv 9) (pa_cons (pe_callB cr_sortTl (by rfl) T.n_sorted (by decide +kernel) (pa_cons (pv 7) pa_nil)) pa_nil))))))))))), ?_⟩
  have bf := begs_few (xs := ws) fun x hx => (ev x hx).2
  refine ⟨Nat.zero_le _, fun F hF => ?_⟩
  have S0 := Rz.Same.new (o := .lst []) (Same.refl H) hF
  have nFw : F ≠ wl := fun q => by rw [q, ew] at hF; cases hF
  refine ⟨_, rfl, wl, rfl, ⟨_, SqL.of (S0 _ _ ew)⟩, for_list (xs := ws.map V.str) (fun i σ H' => ∃ (v2 v3 : Option V) (ts : List Addr) (ys : List Str), σ = [some (.ref wl), some (.ref F), v2, v3, none, none, none, none, none, none] ∧ Same H H' ∧ H' F = some (.lst (ts.map V.ref)) ∧ YL H' ts ys ∧ ys.Nodup ∧ ∀ y, y ∈ ys ↔ y ∈ begs (ws.take i))
    ⟨none, none, [], [], rfl, S0, upd_same, .nil, List.Pairwise.nil, fun y => Iff.rfl⟩ (fun i σ H' _ h => ?_) ?_ ?_⟩
  · obtain ⟨_, _, _, _, _, S, _⟩ := h
    exact SqL.of (S _ _ ew)
  · rintro i v σ G hv ⟨v2, v3, ts, ys, rfl, S, e, Y, hn, hm⟩
    obtain ⟨x, hx, rfl⟩ := str_nth hv
    have xin := List.mem_of_getElem? hx
    have ex := ev x xin
    have tk : begs (ws.take (i + 1)) = begs (ws.take i) ++ begs1 x (x.length + 1) := by
      rw [List.take_add_one, hx]
      exact begs_snoc _ _
    have sm : ∀ {j : Nat}, j ≤ x.length + 1 → ∀ y, (y ∈ begs (ws.take i) ∨ y ∈ begs1 x j) → y ∈ begs ws := fun {j} hj y h => by
      have q : y ∈ begs (ws.take (i + 1)) := by
        rw [tk, List.mem_append]
        refine h.imp id fun q => ?_
        unfold begs1 at q ⊢
        obtain ⟨a, ha, rfl⟩ := List.mem_map.mp q
        exact List.mem_map.mpr ⟨a, List.mem_range.mpr (by have := List.mem_range.mp ha; omega), rfl⟩
      obtain ⟨z, hz, n, hn2, rfl⟩ := mem_begs.mp q
      exact mem_begs.mpr ⟨z, List.mem_of_mem_take hz, n, hn2, rfl⟩
    have lx : x.length ≤ sizeLine := by rw [sizeLine_eq]; omega
    refine ⟨_, rfl, x, rfl, lx, _, _, rfl, rfl, (x.length : Int) + 1, rfl, by omega, by omega, for_range (n := ((x.length : Int) + 1).toNat) (fun j σ H' => ∃ (v3 : Option V) (ts : List Addr) (ys : List Str), σ = [some (.ref wl), some (.ref F), some (.str x), v3, none, none, none, none, none, none] ∧ Same H H' ∧ H' F = some (.lst (ts.map V.ref)) ∧ YL H' ts ys ∧ ys.Nodup ∧ ∀ y, y ∈ ys ↔ y ∈ begs (ws.take i) ∨ y ∈ begs1 x j)
      ⟨v3, ts, ys, rfl, S, e, Y, hn, fun y => by rw [hm]; simp [begs1]⟩ ?_ ?_⟩
    · clear e Y hn hm S
      rintro j σ G hj ⟨v3, ts, ys, rfl, S, e, Y, hn, hm⟩
      have jx : j ≤ x.length := by omega
      have e0 : (0 : Int) + (j : Nat) = (j : Nat) := Int.zero_add _
      rw [e0]
      have pc := pre_cut jx
      have pl := pre_len jx
      have ok : ∀ y ∈ ys, PyData.strOk y = true := fun y hy => by
        obtain ⟨z, hz, n, _, rfl⟩ := mem_begs.mp (sm (Nat.le_succ_of_le jx) y ((hm y).mp hy))
        exact pre_ok (ev z hz).1
      have fewy : ys.length ≤ 20 := by
        have := len_sub (ys := begs ws) hn fun y hy => sm (Nat.le_succ_of_le jx) y ((hm y).mp hy)
        omega
      have lts := Y.len
      refine ⟨_, rfl, _, rfl, _, rfl, _, rfl, x, rfl, lx, by show 2 ≤ sizeLine; decide, fun u hu2 => ?_⟩
      rw [pc]
      have S1 := Rz.Same.new (o := .tup [.int (j : Nat), .str (pre x j)]) (Same.refl G) hu2
      have eu : upd G u (.tup [.int (j : Nat), .str (pre x j)]) u = some (.tup [.int (j : Nat), .str (pre x j)]) := upd_same
      generalize upd G u (.tup [.int (j : Nat), .str (pre x j)]) = G1 at S1 eu ⊢
      have e1 := S1 _ _ e
      have Y1 := Y.keep (Tups.of S1)
      have dp : Dp K G1 (.ref u) (dY (pre x j)) := by
        unfold dY
        rw [pl]
        exact .tup (SqT.of eu) (.cons (.int _) (.cons (.str _) .nil))
      refine ⟨_, rfl, dY (pre x j), ys.map dY, dp, .lst (SqL.of e1) Y1.all, dy_shaped (pre_ok ex.1), dys_shaped ok, _, rfl, ?_⟩
      rw [dys_any]
      refine ite2 (fun h => ?_) (fun h => ?_)
      · have nin : pre x j ∉ ys := by simpa using h
        refine ⟨_, rfl, .inl ⟨rfl, _, SqL.of e1⟩, _, rfl, _, rfl, _, rfl, _, rfl, x, rfl, lx, by show 2 ≤ sizeLine; decide, fun u2 hu3 => ?_⟩
        rw [pc]
        have S2 := Rz.Same.new (o := .tup [.int (j : Nat), .str (pre x j)]) (Same.refl G1) hu3
        have eu2 : upd G1 u2 (.tup [.int (j : Nat), .str (pre x j)]) u2 = some (.tup [.int (j : Nat), .str (pre x j)]) := upd_same
        generalize upd G1 u2 (.tup [.int (j : Nat), .str (pre x j)]) = G2 at S2 eu2 ⊢
        have e2 := S2 _ _ e1
        have T3 : Tups G2 (upd G2 F (.lst (ts.map V.ref ++ [.ref u2]))) := Tups.upd (Tups.of (Same.refl _)) (not_tupL ⟨_, e2⟩)
        refine ⟨F, _, _, rfl, rfl, e2, by rw [List.length_map, sizeLine_eq]; omega, ?_⟩
        refine ⟨_, ts ++ [u2], ys ++ [pre x j], rfl, Rz.Same.upd ((S.trans S1).trans S2) hF, by rw [upd_same, List.map_append]; rfl, ((Y1.keep (Tups.of S2)).keep T3).append (.cons ?_ .nil), ?_, fun y => ?_⟩
        · rw [pl]
          exact T3 _ _ eu2
        · exact List.nodup_append.mpr ⟨hn, by simp, fun a ha b hb q => nin (by rw [← List.mem_singleton.mp hb, ← q]; exact ha)⟩
        · rw [List.mem_append, List.mem_singleton, hm, mem_begs1, or_assoc]
      · have inn : pre x j ∈ ys := by simpa using h
        refine ⟨_, ts, ys, rfl, S.trans S1, e1, Y1, hn, fun y => ?_⟩
        rw [hm, mem_begs1]
        refine ⟨fun q => q.imp id .inl, fun q => ?_⟩
        rcases q with q | q | q
        · exact .inl q
        · exact .inr q
        · rw [q]
          exact (hm _).mp inn
    · clear e Y hn hm S
      rintro σ G ⟨v3, ts, ys, rfl, S, e, Y, hn, hm⟩
      refine ⟨_, _, ts, ys, rfl, S, e, Y, hn, fun y => ?_⟩
      rw [tk, List.mem_append, hm, show ((x.length : Int) + 1).toNat = x.length + 1 by omega]
  rintro σ G ⟨v2, v3, ts, ys, rfl, S, e, Y, hn, hm⟩
  rw [List.length_map, List.take_length] at hm
  have fewy : ys.length ≤ 20 := by
    have := len_sub (ys := begs ws) hn fun y hy => (hm y).mp hy
    omega
  obtain ⟨ks, k1, k2, k3⟩ := yl_keys Y
  refine ⟨_, rfl, rSortTl_go F ks (fun i => i == 1) (by rw [← k1]; exact SqL.of e) (fun p hp => SqT.of (k3 p hp).1) ?_ (fun p hp => ?_) fun M q pm pw hq => ?_⟩
  · rw [k2, List.Nodup, List.pairwise_map]
    exact hn.imp fun n z => n (yK_inj z)
  · obtain ⟨y, ey⟩ := (k3 p hp).2
    rw [ey]
    exact ⟨⟨rfl, rfl, trivial⟩, by simp [yK]⟩
  have S1 := Rz.Same.new (o := .lst (M.map fun q => V.ref q.1)) (Same.refl G) hq
  have eq1 : upd G q (.lst (M.map fun q => V.ref q.1)) q = some (.lst (M.map fun q => V.ref q.1)) := upd_same
  generalize upd G q (.lst (M.map fun q => V.ref q.1)) = G1 at S1 eq1 ⊢
  obtain ⟨zs, q1, q2⟩ := keys_yl (H := G) (M := M) fun p hp => k3 p (pm.mem_iff.mp hp)
  have zy : (zs.map yK).Perm (ys.map yK) := by
    rw [← q1, ← k2]
    exact pm.map _
  have zmem : ∀ y, y ∈ zs ↔ y ∈ ys := fun y => by
    have h2 : ∀ l : List Str, yK y ∈ l.map yK ↔ y ∈ l := fun l => ⟨fun h => by
      obtain ⟨x, hx, z⟩ := List.mem_map.mp h
      rw [← yK_inj z]
      exact hx, fun h => List.mem_map.mpr ⟨y, h, rfl⟩⟩
    rw [← h2 zs, ← h2 ys]
    exact zy.mem_iff
  have znd : zs.Nodup := by
    have a : (ys.map yK).Nodup := by
      rw [List.Nodup, List.pairwise_map]
      exact hn.imp fun n z => n (yK_inj z)
    exact List.Pairwise.of_map yK (fun _ _ n z => n (congrArg _ z)) (zy.nodup_iff.mpr a)
  have zord : BegOrd zs := yK_ord (by rw [← q1, List.pairwise_map]; exact pw)
  have tr : Trie ws zs := ⟨ne, fun y => (zmem y).trans (hm y), znd, zord, fun x hx => (ev x hx).1⟩
  have zlen : zs.length ≤ 20 := by
    have := len_sub (ys := begs ws) znd fun y hy => (tr.mem y).mp hy
    omega
  have Q1 := q2.keep (Tups.of S1)
  have em : (M.map fun q => V.ref q.1) = (M.map (·.1)).map V.ref := by rw [List.map_map]; rfl
  rw [em] at eq1
  have lM := q2.len
  have S01 := S.trans S1
  have y4 : ∀ y ∈ zs, y.length ≤ 4 := fun y hy => by
    obtain ⟨x, hx, n, hn, rfl⟩ := mem_begs.mp ((tr.mem y).mp hy)
    have := (ev x hx).2
    rw [pre_len hn]
    omega
  refine ⟨q, rfl, ⟨_, SqL.of eq1⟩, fun NM hNM => lc_it walk_list (fun j H' => Same G1 H' ∧ H' NM = some (.lst ((zs.take j).map V.str))) ⟨Rz.Same.new (Same.refl _) hNM, upd_same⟩ (fun i H' _ h => SqL.of (h.1 _ _ eq1)) ?_ ?_⟩
  · rintro j v Ga Gb hj ⟨Sj, ej⟩ ⟨rfl, hv⟩
    obtain ⟨u, hu2, rfl⟩ := refs_get hv
    obtain ⟨y, hy, eu⟩ := Q1.get hu2
    refine ⟨rfl, yesT ⟨_, rfl, u, _, 1, _, rfl, rfl, SqT.of (Sj _ _ eu), atI_nat (j := 1) rfl, _, ej, by rw [List.length_map, List.length_take, sizeLine_eq]; omega, Rz.Same.upd Sj hNM, ?_⟩⟩
    rw [upd_same, List.take_add_one, hy, List.map_append]
    rfl
  rintro G2 ⟨S2, eN⟩
  rw [List.length_map, lM, List.take_length] at eN
  have S02 := S01.trans S2
  refine ⟨_, rfl, NM, rfl, ⟨_, SqL.of eN⟩, fun MV hMV => lc_it walk_list (fun j H' => Same G2 H' ∧ MAt H' MV (tM zs (zs.take j))) ⟨Rz.Same.new (Same.refl _) hMV, [], upd_same, .nil⟩ (fun i H' _ h => SqL.of (h.1 _ _ eN)) ?_ ?_⟩
  · rintro j v Ga Gb hj ⟨Sj, us, ej, Pj⟩ ⟨rfl, hv⟩
    obtain ⟨y, hy, rfl⟩ := str_nth hv
    have yin := List.mem_of_getElem? hy
    have tk : tM zs (zs.take (j + 1)) = tM zs (zs.take j) ++ tM zs [y] := by
      unfold tM
      rw [List.take_add_one, hy, List.filter_append, List.map_append]
      rfl
    have ly : y.length ≤ sizeLine := by rw [sizeLine_eq]; have := y4 y yin; omega
    have eNj := Sj _ _ eN
    refine ⟨rfl, _, rfl, rfl, _, rfl, ?_⟩
    by_cases h0 : y.length = 0
    · have e0 := len_zero h0
      subst e0
      refine iteF ⟨Sj, us, ej, ?_⟩
      rw [tk]
      have : tM zs [("" : Str)] = [] := rfl
      rw [this, List.append_nil]
      exact Pj
    · have nz : y ≠ "" := fun q => h0 (by rw [q]; rfl)
      refine ite2 (fun _ => ?_) (fun h => absurd (by simpa using nz) h)
      have one : tM zs [y] = [tMv zs y] := by
        unfold tM
        rw [List.filter_cons, if_pos (decide_eq_true h0)]
        rfl
      have lus := Pj.len
      have lf : (tM zs (zs.take j)).length ≤ 20 := by
        unfold tM
        rw [List.length_map]
        refine Nat.le_trans (List.length_filter_le _ _) ?_
        rw [List.length_take]
        omega
      refine ⟨_, rfl, .inl ⟨rfl, _, SqL.of eNj⟩, _, rfl, _, rfl, _, rfl, y, rfl, ly, ?_⟩
      rw [par_cut]
      refine index_strs eNj (tr.par yin) ?_
      refine ⟨_, rfl, _, rfl, y, -1, _, rfl, rfl, ly, last_at h0, ?_⟩
      refine ⟨_, rfl, .inl ⟨rfl, _, SqL.of eNj⟩, _, rfl, index_strs eNj yin ?_⟩
      refine ⟨by show 3 ≤ sizeLine; decide, fun u hu2 => ?_⟩
      have S4 := Rz.Same.new (o := .tup (mvV (tMv zs y))) (Same.refl Gb) hu2
      refine ⟨_, S4 _ _ ej, by rw [List.length_map, sizeLine_eq]; omega, Rz.Same.upd (Sj.trans S4) hMV, ?_⟩
      rw [tk, one]
      exact mat_push (m := tMv zs y) ej Pj hu2
  rintro G3 ⟨S3, MM⟩
  rw [List.length_map, List.take_length] at MM
  have MM : MAt G3 MV (trieM zs) := MM
  have eN3 := S3 _ _ eN
  unfold rLenS
  refine ⟨_, rfl, NM, _, rfl, SqL.of eN3, _, rfl, by rw [List.length_map]; omega, by rw [List.length_map]; omega, fun LL hLL => lc_range (lo := 0) (n := (((zs.map V.str).length : Nat) : Int).toNat) (fun j H' => Same G3 H' ∧ H' LL = some (.lst ((lastsOf ws zs j).map V.int))) ⟨Rz.Same.new (Same.refl _) hLL, upd_same⟩ ?_ ?_⟩
  · rintro j Ga hj ⟨Sj, ej⟩
    have jz : j < zs.length := by rw [List.length_map] at hj; omega
    have hz : zs[j]? = some zs[j] := List.getElem?_eq_getElem jz
    have gd : zs.getD j "" = zs[j] := by rw [List.getD_eq_getElem?_getD, hz]; rfl
    have e0 : (0 : Int) + (j : Nat) = (j : Nat) := Int.zero_add _
    rw [e0]
    have ll := lasts_len ws zs j
    have ls1 := lasts_snoc ws zs j
    rw [gd] at ls1
    refine ⟨rfl, _, rfl, _, rfl, NM, _, (j : Nat), _, rfl, rfl, SqL.of (Sj _ _ eN3), atI_nat (by rw [List.getElem?_map, hz]; rfl), _, rfl, wl, _, rfl, .inl (SqL.of ((S02.trans S3).trans Sj _ _ ew)), rfl, flat_strs _, _, rfl, ?_⟩
    rw [if_neg (by decide), in_strs]
    refine ite2 (fun h => ?_) (fun h => ?_)
    · refine ⟨_, rfl, _, ej, by rw [List.length_map, sizeLine_eq]; omega, Rz.Same.upd Sj hLL, ?_⟩
      rw [ls1, if_pos (of_decide_eq_true h), upd_same, List.map_append]
      rfl
    · refine ⟨Sj, ?_⟩
      rw [ls1, if_neg (fun q => h (decide_eq_true q)), List.append_nil]
      exact ej
  rintro G4 ⟨S4, eLL⟩
  have en : (((zs.map V.str).length : Nat) : Int).toNat = zs.length := by rw [List.length_map]; omega
  rw [en] at eLL
  obtain ⟨ts4, eMV, P4⟩ := MM.same S4
  obtain ⟨ks2, j1, j2, j3, j4⟩ := mv_keys P4
  refine ⟨_, rfl, NM, _, rfl, SqL.of (S4 _ _ eN3), _, rfl, _, rfl, rSortTl_go MV ks2 (fun i => i == 1) (by rw [← j1]; exact SqL.of eMV) (fun p hp => SqT.of (j3 p hp)) (by rw [j2]; exact mk_nodup (trieM_nodup tr)) (fun p hp => ?_) fun M2 r pm2 pw2 hr2 => ?_⟩
  · have : p.2 ∈ (trieM zs).map mvK := by rw [← j2]; exact List.mem_map.mpr ⟨p, hp, rfl⟩
    obtain ⟨y, _, ey⟩ := List.mem_map.mp this
    rw [← ey]
    exact mvK_fits y
  obtain ⟨qs, r1, r2⟩ := keys_mv (H := G4) (M := M2) fun p hp => by
    have inL := pm2.mem_iff.mp hp
    have inm : p.2 ∈ (trieM zs).map mvK := by rw [← j2]; exact List.mem_map.mpr ⟨p, inL, rfl⟩
    obtain ⟨y, _, ey⟩ := List.mem_map.mp inm
    exact ⟨j3 p inL, y, ey.symm⟩
  have pq : (qs.map mvK).Perm ((trieM zs).map mvK) := by
    rw [← r1, ← j2]
    exact pm2.map _
  have sm : SrtM (trieM zs) qs := by
    refine ⟨by rw [← r1, List.pairwise_map]; exact pw2, ?_, fun y => ?_⟩
    · exact List.Pairwise.of_map mvK (fun _ _ n e => n (congrArg _ e)) (pq.nodup_iff.mpr (mk_nodup (trieM_nodup tr)))
    · rw [← mk_mem (zs := qs), ← mk_mem (zs := trieM zs)]
      exact pq.mem_iff
  have S5 := Rz.Same.new (o := .lst (M2.map fun q => V.ref q.1)) (Same.refl G4) hr2
  have er : upd G4 r (.lst (M2.map fun q => V.ref q.1)) r = some (.lst (M2.map fun q => V.ref q.1)) := upd_same
  generalize upd G4 r (.lst (M2.map fun q => V.ref q.1)) = G5 at S5 er ⊢
  have em2 : (M2.map fun q => V.ref q.1) = (M2.map (·.1)).map V.ref := by rw [List.map_map]; rfl
  rw [em2] at er
  refine ⟨by show 3 ≤ sizeLine; decide, fun t ht => ?_⟩
  have S6 := Rz.Same.new (o := .tup [.int ((zs.map V.str).length : Nat), .ref LL, .ref r]) (Same.refl G5) ht
  have Sall := (((S02.trans S3).trans S4).trans S5).trans S6
  refine k _ t LL r zs (lastsOf ws zs zs.length) qs Sall ⟨?_, (S5.trans S6) _ _ eLL, ⟨_, S6 _ _ er, (r2.keep (Tups.of S5)).keep (Tups.of S6)⟩⟩ tr (lasts_srt tr) sm
  rw [upd_same, List.length_map]
end
end Rz

namespace Rz
open PySem PySem.Spec PyProof.Rows L2
/-! ### a new lot, and that it keeps its own lists -/
def sp_Lot_initF (cB cU cL : Addr) : Sp := fun vs H Q E => ∃ (p dx l m : Addr) (n : Int) (ls : List Int) (ms : List Mv), vs = [.ref p, .int n, .ref l, .ref m] ∧ H p = some (.ins cL dx []) ∧ H l = some (.lst (ls.map V.int)) ∧ MAt H m ms ∧ ls.length < 64 ∧ ms.length < 64 ∧ (∀ x ∈ ls ++ named ms, x.natAbs < 2 ^ 64) ∧ (∀ x ∈ ms, x.2.1.length ≤ 1000000) ∧
  (okStates n ls ms → okLeads ms → (∀ i : Nat, (i : Int) < n → useful ls ms i) → ∀ H' ls' ms', SrtI ls ls' → SrtM ms ms' → But [p] H H' → LtAt cL H' p n ls' ms' (Lead ms) → (∀ H'', (∀ b o, (H b = none ∨ b = p) → H' b = some o → H'' b = some o) → Tups H' H'' → LtAt cL H'' p n ls' ms' (Lead ms)) → Q .non H') ∧
  (¬ okStates n ls ms ∨ ¬ okLeads ms → ∀ H', Same H H' → E (.ref cB) none H') ∧
  (okStates n ls ms → okLeads ms → ∀ i : Nat, (i : Int) < n → (∀ j : Nat, j < i → useful ls ms j) → ¬ useful ls ms i → ∀ H' d, Same H H' → H d = none → H' d = some (.xd [("state", .int i)]) → E (.ref cU) (some d) H')
section
variable {w : World} {K : PySem.W.Frag} {mg : Str → Option Value} {base : Heap}
theorem ok_Lot_initF (T : Txt K mg) : FnOk prg w K mg base (L2.CX prg w) 4 T.f_Lot_init T.fd_Lot_init P_Lot_init (sp_Lot_initF T.c_BadLot T.c_Useless T.c_Lot) := by
  refine T.F_Lot_init.okX sc_Lot_init (fun vs H Q E h => ?_) (fun cdv A outer s H vs Q E hr h => ?_)
  · obtain ⟨p, dx, l, m, n, ls, ms, rfl, _⟩ := h
    rfl
  obtain ⟨p, dx, l, m, n, ls, ms, rfl, hp, hl, hm, zl, zm, zn, zs, kg, kb, ku⟩ := h
  have nd := sc_Lot_init.nd
  have tk : Takes (cxOf (L2.CX prg w) prg w K mg base N_Lot_init "Lot.__init__" (defScope s_Lot_init) T.f_Lot_init cdv A outer s H E) (fun cls d _ H' => E cls d H') := takes_of rfl rfl rfl rfl
  have hu : (A.deeper (envOfC "Lot.__init__" (defScope s_Lot_init) s.heap.objs.size T.f_Lot_init cdv)).units + 64 < cLine := hr.units
  refine ⟨_, (pss_cons (ps_expr (pe_fn (ok_check_states T) (hr.mono (by decide)) (by rfl) T.m__check_states T.F__check_states.kp T.b__check_states .nil (passAt tk) (pa_cons (pv 1) (pa_cons (pv 2) (pa_cons (pv 3) pa_nil)))))
    (pss_cons (ps_set (i := 4) nd rfl (Or.inl rfl) (pe_fn (ok_leads_of T) (hr.mono (by decide)) (by rfl) T.m__leads_of T.F__leads_of.kp T.b__leads_of .nil (passAt tk) (pa_cons (pv 3) pa_nil)))
    (pss_cons (ps_expr (pe_fn (ok_check_useful T) (hr.mono (by decide)) (by rfl) T.m__check_useful T.F__check_useful.kp T.b__check_useful .nil (passAt tk) (pa_cons (pv 1) (pa_cons (pv 2) (pa_cons (pv 3) pa_nil)))))
    (pss_cons (ps_fld (pv 0) (pv 1) rfl)
    (pss_cons (ps_fld (pv 0) (pe_callB (cr_sortedSet (by rfl)) (by rfl) T.n_sorted (by decide +kernel) (pa_cons (pe_callTy (cr_setIl (by rfl)) (by rfl) T.n_set (by decide +kernel) (pa_cons (pv 2) pa_nil)) pa_nil)) rfl)
    (pss_cons (ps_fld (pv 0) (pe_callB (cr_sortTs (by rfl)) (by rfl) T.n_sorted (by decide +kernel) (pa_cons (pe_callTy (cr_setTs (by rfl) hu) (by rfl) T.n_set (by decide +kernel) (pa_cons (pv 3) pa_nil)) pa_nil)) rfl)
    (pss_one (ps_fld (pv 0) (pv 4) rfl)))))))), ?_⟩
  refine ⟨_, rfl, _, rfl, _, rfl, n, l, m, ls, ms, rfl, hl, hm, by omega, by omega, zn, fun os H1 S1 => ?_, fun os H1 S1 => kb (.inl os) H1 S1⟩
  refine ⟨_, rfl, m, ms, rfl, hm.same S1, by omega, zs, fun ol H2 d kvs S2 hd ed hv => ?_, fun ol H2 S2 => kb (.inr ol) H2 (S1.trans S2)⟩
  have S12 := S1.trans S2
  have n1 := os.1.1
  have n40 := os.1.2
  refine ⟨_, rfl, _, rfl, _, rfl, n, l, m, ls, ms, rfl, S12 _ _ hl, hm.same S12, by omega, by omega, by omega, by omega, fun us H3 S3 => ?_, fun i hi us no H3 x S3 hx e => ku os ol i hi us no H3 x (S12.trans S3) (S12.free hx) e⟩
  have S13 := S12.trans S3
  have hd0 : H d = none := S1.free hd
  have ed3 := S3 _ _ ed
  have npt : ∀ xs, H p ≠ some (.tup xs) := fun xs z => by rw [hp] at z; cases z
  have npl : l ∉ [p] := fun z => by rw [List.mem_singleton.mp z, hp] at hl; cases hl
  have npm : m ∉ [p] := fun z => by
    obtain ⟨ts, e, _⟩ := hm
    rw [List.mem_singleton.mp z, hp] at e
    cases e
  have npd : d ≠ p := fun z => by rw [z, hp] at hd0; cases hd0
  refine ⟨_, rfl, _, rfl, p, _, dx, _, rfl, S13 _ _ hp, T.cl_Lot, T.na_Lot__states, by show 0 < 1000; decide, ?_⟩
  have B4 : But [p] H (upd H3 p (.ins T.c_Lot dx (putF "_states" (.int n) []))) := (But.of S13).upd (.inl (by simp))
  have p4 : upd H3 p (.ins T.c_Lot dx (putF "_states" (.int n) [])) p = some (.ins T.c_Lot dx (putF "_states" (.int n) [])) := upd_same
  have d4 : upd H3 p (.ins T.c_Lot dx (putF "_states" (.int n) [])) d = some (.dT kvs) := by rw [upd_ne npd]; exact ed3
  generalize upd H3 p (.ins T.c_Lot dx (putF "_states" (.int n) [])) = H4 at B4 p4 d4 ⊢
  refine ⟨_, rfl, l, ls, rfl, SqL.of (B4.at hl npl), by unfold scanBound; omega, fun q c hq hc => ?_⟩
  have S5 := Rz.Same.new (o := SetO w q (fun j => decide (j ∈ ls)) c) (Same.refl H4) hq
  refine ⟨q, _, c, rfl, upd_same, by omega, fun xs r xp xm xl hr2 => ?_⟩
  have S6 := Rz.Same.new (o := .lst (xs.map V.int)) (Same.refl (upd H4 q (SetO w q (fun j => decide (j ∈ ls)) c))) hr2
  have S56 := S5.trans S6
  have r6 : upd (upd H4 q (SetO w q (fun j => decide (j ∈ ls)) c)) r (.lst (xs.map V.int)) r = some (.lst (xs.map V.int)) := upd_same
  have srt : SrtI ls xs := ⟨xp, fun k => by rw [xm]; simp⟩
  refine ⟨_, rfl, p, _, dx, _, rfl, S56 _ _ p4, T.cl_Lot, T.na_Lot__last, by show 1 < 1000; decide, ?_⟩
  show tSeq (sFld K (tVar 0) (tCB (rSortTs K prg w) (tCons (tCB (rSetTs K prg w) (tCons (tVar 3) tNil)) tNil)) "_moves") (sFld K (tVar 0) (tVar 4) "_leads") { nx := fun _ H' => Q .non H', rt := Q } [some (.ref p), some (.int n), some (.ref l), some (.ref m), some (.ref d)]
    (upd (upd (upd H4 q (SetO w q (fun j => decide (j ∈ ls)) c)) r (.lst (xs.map V.int))) p (.ins T.c_Lot dx (putF "_last" (.ref r) (putF "_states" (.int n) []))))
  have hr3 : upd H4 q (SetO w q (fun j => decide (j ∈ ls)) c) r = none := hr2
  have nrp : r ≠ p := fun z => by rw [z, S5 _ _ p4] at hr3; cases hr3
  have B7 : But [p] H (upd (upd (upd H4 q (SetO w q (fun j => decide (j ∈ ls)) c)) r (.lst (xs.map V.int))) p (.ins T.c_Lot dx (putF "_last" (.ref r) (putF "_states" (.int n) [])))) := (B4.trans (But.of S56)).upd (.inl (by simp))
  have p7 : upd (upd (upd H4 q (SetO w q (fun j => decide (j ∈ ls)) c)) r (.lst (xs.map V.int))) p (.ins T.c_Lot dx (putF "_last" (.ref r) (putF "_states" (.int n) []))) p = some (.ins T.c_Lot dx (putF "_last" (.ref r) (putF "_states" (.int n) []))) := upd_same
  have d7 : upd (upd (upd H4 q (SetO w q (fun j => decide (j ∈ ls)) c)) r (.lst (xs.map V.int))) p (.ins T.c_Lot dx (putF "_last" (.ref r) (putF "_states" (.int n) []))) d = some (.dT kvs) := by rw [upd_ne npd]; exact S56 _ _ d4
  have r7 : upd (upd (upd H4 q (SetO w q (fun j => decide (j ∈ ls)) c)) r (.lst (xs.map V.int))) p (.ins T.c_Lot dx (putF "_last" (.ref r) (putF "_states" (.int n) []))) r = some (.lst (xs.map V.int)) := by rw [upd_ne nrp]; exact r6
  generalize upd (upd (upd H4 q (SetO w q (fun j => decide (j ∈ ls)) c)) r (.lst (xs.map V.int))) p (.ins T.c_Lot dx (putF "_last" (.ref r) (putF "_states" (.int n) []))) = H7 at B7 p7 d7 r7 ⊢
  have m7 := hm.but B7 npm (tups1 B7 npt)
  obtain ⟨ts, em, hM⟩ := m7
  obtain ⟨ks, k1, k2, k3, k4⟩ := mv_keys hM
  refine ⟨_, rfl, m, ks, rfl, SqL.of (by rw [← k1]; exact em), fun x hx => SqT.of (k3 x hx), by omega, fun a L ha sub all ndL zL => ?_⟩
  have S8 := Rz.Same.new (o := TsO prg w a L) (Same.refl H7) ha
  refine ⟨a, L, fun i => i == 1, rfl, upd_same, fun x hx => SqT.of (S8 _ _ (k3 x (sub x hx))), fun x hx => ?_, fun M b pm pw hb => ?_⟩
  · have inm : x.2 ∈ ms.map mvK := by rw [← k2]; exact List.mem_map.mpr ⟨x, sub x hx, rfl⟩
    obtain ⟨y, _, ey⟩ := List.mem_map.mp inm
    rw [← ey]
    exact mvK_fits y
  have S9 := Rz.Same.new (o := .lst (M.map fun q => V.ref q.1)) (Same.refl (upd H7 a (TsO prg w a L))) hb
  have S89 := S8.trans S9
  have e9 : upd (upd H7 a (TsO prg w a L)) b (.lst (M.map fun q => V.ref q.1)) b = some (.lst (M.map fun q => V.ref q.1)) := upd_same
  obtain ⟨qs, q1, q2⟩ := keys_mv (H := H7) (M := M) fun x hx => by
    have inL := pm.mem_iff.mp hx
    have inm : x.2 ∈ ms.map mvK := by rw [← k2]; exact List.mem_map.mpr ⟨x, sub x inL, rfl⟩
    obtain ⟨y, _, ey⟩ := List.mem_map.mp inm
    exact ⟨k3 x (sub x inL), y, ey.symm⟩
  have sm : SrtM ms qs := by
    refine ⟨?_, ?_, fun y => ?_⟩
    · rw [← q1, List.pairwise_map]
      exact pw
    · have nM : (M.map (·.2)).Nodup := (pm.map (·.2)).nodup_iff.mpr ndL
      rw [q1] at nM
      exact List.Pairwise.of_map mvK (fun _ _ n e => n (congrArg _ e)) nM
    · have h1 : mvK y ∈ M.map (·.2) ↔ mvK y ∈ ks.map (·.2) := by
        rw [(pm.map (·.2)).mem_iff]
        refine ⟨fun h => ?_, fun h => ?_⟩
        · obtain ⟨x, hx, e⟩ := List.mem_map.mp h
          exact List.mem_map.mpr ⟨x, sub x hx, e⟩
        · obtain ⟨x, hx, e⟩ := List.mem_map.mp h
          rw [← e]
          exact all x hx
      rw [q1, k2] at h1
      have h2 : ∀ zs : List Mv, mvK y ∈ zs.map mvK ↔ y ∈ zs := fun zs => ⟨fun h => by
        obtain ⟨x, hx, e⟩ := List.mem_map.mp h
        rw [← mvK_inj e]
        exact hx, fun h => List.mem_map.mpr ⟨y, h, rfl⟩⟩
      rw [h2, h2] at h1
      exact h1
  have hb3 : upd H7 a (TsO prg w a L) b = none := hb
  have nbp : b ≠ p := fun z => by rw [z, S8 _ _ p7] at hb3; cases hb3
  refine ⟨_, rfl, p, _, dx, _, rfl, S89 _ _ p7, T.cl_Lot, T.na_Lot__moves, by show 2 < 1000; decide, ?_⟩
  show sFld K (tVar 0) (tVar 4) "_leads" { nx := fun _ H' => Q .non H', rt := Q } [some (.ref p), some (.int n), some (.ref l), some (.ref m), some (.ref d)]
    (upd (upd (upd H7 a (TsO prg w a L)) b (.lst (M.map fun q => V.ref q.1))) p (.ins T.c_Lot dx (putF "_moves" (.ref b) (putF "_last" (.ref r) (putF "_states" (.int n) [])))))
  refine ⟨_, rfl, _, rfl, p, _, dx, _, rfl, upd_same, T.cl_Lot, T.na_Lot__leads, by show 3 < 1000; decide, ?_⟩
  have BX : But [p] (upd (upd H7 a (TsO prg w a L)) b (.lst (M.map fun q => V.ref q.1))) (upd (upd (upd (upd H7 a (TsO prg w a L)) b (.lst (M.map fun q => V.ref q.1))) p (.ins T.c_Lot dx (putF "_moves" (.ref b) (putF "_last" (.ref r) (putF "_states" (.int n) []))))) p (.ins T.c_Lot dx (lotF n r b d))) := ((But.refl _ _).upd (.inl (by simp))).upd (.inl (by simp))
  have BY := (B7.trans (But.of S89)).trans BX
  have hr0 : H r = none := B4.free (by simpa using nrp) (S5.free hr2)
  have hb0 : H b = none := B7.free (by simpa using nbp) (S8.free hb)
  have e9' : upd (upd (upd (upd H7 a (TsO prg w a L)) b (.lst (M.map fun q => V.ref q.1))) p (.ins T.c_Lot dx (putF "_moves" (.ref b) (putF "_last" (.ref r) (putF "_states" (.int n) []))))) p (.ins T.c_Lot dx (lotF n r b d)) b = some (.lst ((M.map fun x => x.1).map V.ref)) := by
    rw [List.map_map]
    exact BX.at e9 (by simpa using nbp)
  have q9 := q2.keep ((Tups.of S89).trans (tups1 BX fun xs z => by
    rw [S89 _ _ p7] at z
    cases z))
  exact kg os ol us _ xs qs srt sm BY ⟨dx, r, b, d, kvs, upd_same, BX.at (S89 _ _ r7) (by simpa using nrp), ⟨M.map (fun x : Addr × List Key => x.1), e9', q9⟩, BX.at (S89 _ _ d7) (by simpa using npd), hv⟩
    fun H'' hk tp => ⟨dx, r, b, d, kvs, hk p _ (.inr rfl) upd_same, hk r _ (.inl hr0) (BX.at (S89 _ _ r7) (by simpa using nrp)), ⟨M.map (fun x : Addr × List Key => x.1), hk b _ (.inl hb0) e9', q9.keep tp⟩, hk d _ (.inl hd0) (BX.at (S89 _ _ d7) (by simpa using npd)), hv⟩
end
theorem lot_madeF {cB cU cL : Addr} {H : Hp} {Q : VK} {E : XK} {n : Int} {l m : Addr} {ls : List Int} {ms : List Mv} (hl : H l = some (.lst (ls.map V.int))) (hm : MAt H m ms) (zl : ls.length < 64) (zm : ms.length < 64) (zn : ∀ x ∈ ls ++ named ms, x.natAbs < 2 ^ 64) (zs : ∀ x ∈ ms, x.2.1.length ≤ 1000000)
    (o1 : okStates n ls ms) (o2 : okLeads ms) (u : ∀ i : Nat, (i : Int) < n → useful ls ms i)
    (kg : ∀ H' o ls' ms', SrtI ls ls' → SrtM ms ms' → Same H H' → H o = none → LtAt cL H' o n ls' ms' (Lead ms) → (∀ H'', (∀ b o, H b = none → H' b = some o → H'' b = some o) → Tups H' H'' → LtAt cL H'' o n ls' ms' (Lead ms)) → Q (.ref o) H') :
    MkS cL (sp_Lot_initF cB cU cL) E [.int n, .ref l, .ref m] H Q := by
  rw [mkS_eq]
  intro x dx hx hdx ndx
  have S0 : Same H (upd (upd H dx (.own x)) x (.ins cL dx [])) := fun b o e => by
    rw [upd_ne (ne_of_none e hx), upd_ne (ne_of_none e hdx)]
    exact e
  refine ⟨x, dx, l, m, n, ls, ms, rfl, upd_same, S0 _ _ hl, hm.same S0, zl, zm, zn, zs, fun _ _ _ H' ls' ms' s1 s2 B L L2 => ⟨rfl, ?_⟩, fun o H' S => ?_, fun _ _ i hi us no H' d S hd e => absurd (u i hi) no⟩
  · refine kg H' x ls' ms' s1 s2 (fun b o e => ?_) hx L fun H'' hk tp => L2 H'' (fun b o h e => hk b o (h.elim (fun z => S0.free z) (fun z => by rw [z]; exact hx)) e) tp
    exact B b o (by have := ne_of_none e hx; simpa using this) (S0 b o e)
  · exact absurd o1 (o.elim id fun z => absurd o2 z)
end Rz

namespace Rz
open PySem PySem.Spec PyProof.Rows L2
/-- the two lists that are passed on -/
def dPt (ls : List Int) (ms : List Mv) : PyData := .tuple [dInts ls, dMvs ms]
theorem dpt_at {K : PySem.W.Frag} {H : Hp} {t l m : Addr} {ls : List Int} {ms : List Mv} (e : H t = some (.tup [.ref l, .ref m])) (el : H l = some (.lst (ls.map V.int))) (em : MAt H m ms) : Dp K H (.ref t) (dPt ls ms) :=
  .tup (SqT.of e) (.cons (dp_ints (SqL.of el)) (.cons (dmvs_at em) .nil))
theorem dpt_shaped {ls : List Int} {ms : List Mv} (h : GoodM ms) : SeqAt.shaped (dPt ls ms) = true := by
  show (PyData.canLayAll0 [dInts ls, dMvs ms] && decide (PyData.depth (.tuple [dInts ls, dMvs ms]) ≤ 64)) = true
  have d1 : PyData.depth (dInts ls) ≤ 63 := by
    show PyData.depthAll (ls.map PyData.int) + 1 ≤ 63
    rw [all_ints_depth]
    decide
  have d2 := dmvs_deep ms
  have d3 : PyData.depth (.tuple [dInts ls, dMvs ms]) ≤ 64 := by
    show PyData.depthAll [dInts ls, dMvs ms] + 1 ≤ 64
    simp only [PyData.depthAll]
    omega
  have x : PyData.canLay0 (dInts ls) = true := all_ints_lay ls
  have y : PyData.canLay0 (dMvs ms) = true := dmvs_lay h
  rw [decide_eq_true d3, Bool.and_true]
  simp only [PyData.canLayAll0, x, y, Bool.and_self]
theorem dpt_eqv (ls : List Int) (ms : List Mv) : PyData.eqv (dPt ls ms) (dPt ls ms) = true := by
  show PyData.eqvAll [dInts ls, dMvs ms] [dInts ls, dMvs ms] = true
  have a := ints_eqv ls ls
  have b := dmvs_eqv ms ms
  simp only [PyData.eqvAll]
  rw [a, b]
  simp
end Rz

namespace Rz
open PySem PySem.Spec PyProof.Rows L2
def spLaw (K : PySem.W.Frag) : Sp := fun vs H Q _ => ∃ (a : Addr) (ns : List Int), vs = [.ref a] ∧ SqL K H a (ns.map V.int) ∧ ns.length ≤ 63 ∧ ∀ H', Q (.bl true) H'
theorem MvL.takeL {H : Hp} : ∀ {ts : List Addr} {ms : List Mv} (i : Nat), MvL H ts ms → MvL H (ts.take i) (ms.take i)
  | _, _, 0, _ => .nil
  | _, _, _ + 1, .nil => .nil
  | _, _, i + 1, .cons e r => .cons e (MvL.takeL i r)
theorem MvL.dropL {H : Hp} : ∀ {ts : List Addr} {ms : List Mv} (i : Nat), MvL H ts ms → MvL H (ts.drop i) (ms.drop i)
  | _, _, 0, h => h
  | _, _, _ + 1, .nil => .nil
  | _, _, i + 1, .cons _ r => MvL.dropL i r
theorem reach_mono {ps qs : List Lk} {ss tt : List Int} (h : ∀ p ∈ ps, p ∈ qs) (g : ∀ x ∈ ss, x ∈ tt) {x : Int} (r : Reach ps ss x) : Reach qs tt x := by
  induction r with
  | start q => exact .start (g _ q)
  | step _ q ih => exact .step ih (in_succs (h _ (succs_of q)))
theorem lot_mirror {n : Int} {ls ls' : List Int} {ms ms' : List Mv} (L : LotOk n ls ms) (hl : ∀ x, x ∈ ls' ↔ x ∈ ls) (hm : ∀ m, m ∈ ms' ↔ m ∈ ms) : okStates n ls' ms' ∧ okLeads ms' ∧ ∀ i : Nat, (i : Int) < n → useful ls' ms' i := by
  refine ⟨⟨L.st.1, fun x hx => L.st.2.1 x ((hl x).mp hx), fun m h => L.st.2.2 m ((hm m).mp h)⟩, ⟨fun m h => L.ld.1 m ((hm m).mp h), fun a ha b hb e => L.ld.2 a ((hm a).mp ha) b ((hm b).mp hb) e⟩, fun i hi => ?_⟩
  have u := L.us i hi
  refine ⟨reach_mono (fun p hp => ?_) (fun x hx => hx) u.1, reach_mono (fun p hp => ?_) (fun x hx => (hl x).mpr hx) u.2⟩
  · obtain ⟨m, h1, h2⟩ := List.mem_map.mp hp
    exact List.mem_map.mpr ⟨m, (hm m).mpr h1, h2⟩
  · obtain ⟨m, h1, h2⟩ := List.mem_map.mp hp
    exact List.mem_map.mpr ⟨m, (hm m).mpr h1, h2⟩
theorem SrtM.mem {a b qs : List Mv} (h : ∀ m, m ∈ a ↔ m ∈ b) (s : SrtM a qs) : SrtM b qs := ⟨s.1, s.2.1, fun m => (s.2.2 m).trans (h m)⟩
theorem SrtI.mem {a b qs : List Int} (h : ∀ m, m ∈ a ↔ m ∈ b) (s : SrtI a qs) : SrtI b qs := ⟨s.1, fun m => (s.2 m).trans (h m)⟩
theorem agree_of {n : Int} {ls : List Int} {ms ms' : List Mv} (h : okLeads ms') (m : ∀ x, x ∈ ms' ↔ x ∈ ms) (o : okStates n ls ms) (z : Str) : holds (Lead ms') ls z = inLot ls ms z := by
  rw [show Lead ms' = Lead ms from funext (lead_same h m)]
  exact holds_in o z
theorem PtAt.but {G G' : Hp} {d t l m : Addr} {n : Int} {ls : List Int} {ms : List Mv} (h : PtAt G t l m n ls ms) (D : Dr G d) (B : But [d] G G') (nl : l ≠ d) (nm : m ≠ d) : PtAt G' t l m n ls ms := by
  have ndt : ∀ xs, G d ≠ some (.tup xs) := fun xs z => by
    obtain ⟨ns, e, _⟩ := D
    rw [e] at z
    cases z
  have nt : t ≠ d := fun e => by
    have := h.1
    rw [e] at this
    exact ndt _ this
  exact ⟨B.at h.1 (by simpa using nt), B.at h.2.1 (by simpa using nl), h.2.2.but B (by simpa using nm) (tups1 B ndt)⟩
theorem sort_signs3 {K : PySem.W.Frag} {σ : L2.St} {G : Hp} {z : Str} {Q : VK} (hσ : σ[3]? = some (some (.str z))) (hz : z.length < 64) (nd : z.cps.toList.Nodup)
    (k : ∀ (G' : Hp) (q : Addr) (ds : List Nat), Same G G' → G q = none → G' q = some (.lst ((sgs ds).map V.str)) → ds.Perm z.cps.toList → ds.Pairwise (· < ·) → Q (.ref q) G') : tCB (rSortedS K) (tCons (tCB rListTx (tCons (tVar 3) tNil)) tNil) σ G Q := by
  refine ⟨_, hσ, z, rfl, by rw [sizeLine_eq]; omega, fun p hp => ?_⟩
  have S1 := Rz.Same.new (o := .lst ((sgs z.cps.toList).map V.str)) (Same.refl G) hp
  refine ⟨p, sgs z.cps.toList, rfl, SqL.of upd_same, by unfold sgs; rw [List.length_map]; exact hz, fun ys q pm hs hq => ?_⟩
  have S2 := Rz.Same.new (o := .lst (ys.map V.str)) (Same.refl (upd G p (.lst ((sgs z.cps.toList).map V.str)))) hq
  obtain ⟨ds, rfl, pd⟩ := sgs_perm pm
  exact k _ q ds (S1.trans S2) (S1.free hq) upd_same pd (sgs_rise hs (pd.nodup_iff.mpr nd))
theorem cut_ints (ls : List Int) (lo hi : Option Int) : ∃ cl : List Int, cutV (ls.map V.int) lo hi = cl.map V.int ∧ (∀ x ∈ cl, x ∈ ls) ∧ cl.length ≤ ls.length := by
  refine ⟨(ls.drop (HT.sIx ls.length 0 lo)).take (HT.sIx ls.length ls.length hi - HT.sIx ls.length 0 lo), ?_, fun x hx => List.mem_of_mem_drop (List.mem_of_mem_take hx), ?_⟩
  · unfold cutV
    rw [List.length_map, List.map_take, List.map_drop]
  · rw [List.length_take, List.length_drop]
    omega
theorem cut_mvs {H : Hp} {ts : List Addr} {ms : List Mv} (P : MvL H ts ms) (lo hi : Option Int) : ∃ (ct : List Addr) (cm : List Mv), cutV (ts.map V.ref) lo hi = ct.map V.ref ∧ MvL H ct cm ∧ (∀ x ∈ cm, x ∈ ms) ∧ cm.length ≤ ms.length := by
  refine ⟨(ts.drop (HT.sIx ts.length 0 lo)).take (HT.sIx ts.length ts.length hi - HT.sIx ts.length 0 lo), (ms.drop (HT.sIx ts.length 0 lo)).take (HT.sIx ts.length ts.length hi - HT.sIx ts.length 0 lo), ?_, (P.dropL _).takeL _, fun x hx => List.mem_of_mem_drop (List.mem_of_mem_take hx), ?_⟩
  · unfold cutV
    rw [List.length_map, List.map_take, List.map_drop]
  · rw [List.length_take, List.length_drop]
    omega
theorem sg_ok {x : Str} (h : isSg x = true) : PyData.strOk x = true := str_ok fun c hc => by
  unfold isSg at h
  generalize x.cps.toList = l at h hc
  match l, h, hc with
  | [], h, _ => cases h
  | [e], h, hc =>
    rw [List.mem_singleton.mp hc]
    have h : oddC e = false := by simpa using h
    unfold oddC at h
    simp at h
    exact abc_lt e (by simpa using h)
  | _ :: _ :: _, h, _ => cases h
section
variable {w : World} {K : PySem.W.Frag} {mg : Str → Option Value} {base : Heap}
theorem sc_law : FnScope N_law P_law (defScope s_law) := ⟨rfl, rfl, rfl, by decide +kernel, rfl, by decide +kernel, by decide +kernel⟩
theorem ok_law (T : Txt K mg) : FnOk prg w K mg base (L2.CX prg w) 14 T.f_law T.fd_law P_law (spLaw K) := by
  refine Rz.Fun.okN T.F_law sc_law (fun vs H Q E h => ?_) (fun cdv A outer s H vs Q E hr h => ?_)
  · obtain ⟨a, ns, rfl, _⟩ := h
    rfl
  obtain ⟨a, ns, rfl, hS, hlen, k⟩ := h
  have nd := sc_law.nd
  have mk : Mk K T.c_Lot T.f_Lot_init := ⟨T.mk_Lot, T.M_Lot_init.at_, T.M_Lot_init.fn, T.kp_Lot⟩
  refine ⟨_, (pss_cons (ps_set (i := 1) nd rfl (Or.inr rfl) (pe_fn (ok_law_pool T) (hr.mono (by decide)) (by rfl) T.m__law_pool T.F__law_pool.kp T.b__law_pool .nil (fun _ => atN _) (pa_cons (pv 0) pa_nil)))
    (pss_cons (ps_set (i := 2) nd rfl (Or.inl rfl) pe_str)
    (pss_cons (ps_set (i := 3) nd rfl (Or.inr rfl) (pe_fn (ok_law_alphabet T) (hr.mono (by decide)) (by rfl) T.m__law_alphabet T.F__law_alphabet.kp T.b__law_alphabet .nil (fun _ => atN _) (pa_cons (pv 1) (pa_cons (pe_op op_add pe_int (pe_fn (ok_law_pick T) (hr.mono (by decide)) (by rfl) T.m__law_pick T.F__law_pick.kp T.b__law_pick .nil (fun _ => atN _) (pa_cons (pv 1) (pa_cons pe_int pa_nil)))) pa_nil))))
    (pss_cons (ps_set (i := 4) nd rfl (Or.inr rfl) (pe_fn (ok_law_lot_of T) (hr.mono (by decide)) (by rfl) T.m__law_lot_of T.F__law_lot_of.kp T.b__law_lot_of .nil (fun _ => atN _) (pa_cons (pv 1) (pa_cons (pv 3) pa_nil))))
    (pss_cons (ps_set (i := 6) nd rfl (Or.inl rfl) (pe_op op_cat (pe_lc (own := [("_law_k", 5)]) (g := (gName 5)) (tt := tYes) rfl nd (pi_range1 rfl T.n_range (pa_cons (pe_callB (show CallR _ (.builtin "len") (rLenS K) from call_lenS) (by rfl) T.n_len PySem.boot_len (pa_cons (pe_ix (show IxR _ (rIxT K) from ix_tup) (pv 4) pe_int (fun _ _ => rfl)) pa_nil)) pa_nil)) (blkOk_by (N := N_law) (sc := defScope s_law) (by decide +kernel)) (fun _ _ _ _ _ => (pg_name (i := 5) nd rfl (Or.inl rfl))) (fun _ _ _ _ _ => pts_nil) (fun _ _ _ _ _ => (pe_ix (show IxR _ (rIxL K) from ix_list) (pe_ix (show IxR _ (rIxT K) from ix_tup) (pv 4) pe_int (fun _ _ => rfl)) (pe_op op_sub (pe_op op_sub (pe_callB (show CallR _ (.builtin "len") (rLenS K) from call_lenS) (by rfl) T.n_len PySem.boot_len (pa_cons (pe_ix (show IxR _ (rIxT K) from ix_tup) (pv 4) pe_int (fun _ _ => rfl)) pa_nil)) pe_int) (pv 5)) (fun _ _ => rfl)))) (pe_slice sl_list (pe_ix (show IxR _ (rIxT K) from ix_tup) (pv 4) pe_int (fun _ _ => rfl)) po_none (po_some pe_int))))
    (pss_cons (ps_set (i := 7) nd rfl (Or.inl rfl) (pe_op op_cat (pe_lc (own := [("_law_k", 5)]) (g := (gName 5)) (tt := tYes) rfl nd (pi_range1 rfl T.n_range (pa_cons (pe_callB (show CallR _ (.builtin "len") (rLenS K) from call_lenS) (by rfl) T.n_len PySem.boot_len (pa_cons (pe_ix (show IxR _ (rIxT K) from ix_tup) (pv 4) pe_int (fun _ _ => rfl)) pa_nil)) pa_nil)) (blkOk_by (N := N_law) (sc := defScope s_law) (by decide +kernel)) (fun _ _ _ _ _ => (pg_name (i := 5) nd rfl (Or.inl rfl))) (fun _ _ _ _ _ => pts_nil) (fun _ _ _ _ _ => (pe_ix (show IxR _ (rIxL K) from ix_list) (pe_ix (show IxR _ (rIxT K) from ix_tup) (pv 4) pe_int (fun _ _ => rfl)) (pe_op op_sub (pe_op op_sub (pe_callB (show CallR _ (.builtin "len") (rLenS K) from call_lenS) (by rfl) T.n_len PySem.boot_len (pa_cons (pe_ix (show IxR _ (rIxT K) from ix_tup) (pv 4) pe_int (fun _ _ => rfl)) pa_nil)) pe_int) (pv 5)) (fun _ _ => rfl)))) (pe_slice sl_list (pe_ix (show IxR _ (rIxT K) from ix_tup) (pv 4) pe_int (fun _ _ => rfl)) (po_some pe_int) po_none)))
    (pss_cons (ps_set (i := 8) nd rfl (Or.inl rfl) (pe_tup (pa_cons (pe_callTy call_listS (by rfl) T.n_list (by decide +kernel) (pa_cons (pv 6) pa_nil)) (pa_cons (pe_callTy call_listS (by rfl) T.n_list (by decide +kernel) (pa_cons (pv 7) pa_nil)) pa_nil))))
    (pss_cons (ps_set (i := 9) nd rfl (Or.inl rfl) (pe_mkS mk (fnr_of (ok_Lot_initF T) T.b_Lot_init) (hr.mono (by decide)) (by rfl) T.m_Lot (fun _ => atN _) (pa_cons (pe_ix ix_tup (pv 4) pe_int (fun _ _ => rfl)) (pa_cons (pe_ix ix_tup (pv 8) pe_int (fun _ _ => rfl)) (pa_cons (pe_ix ix_tup (pv 8) pe_int (fun _ _ => rfl)) pa_nil)))))
    (pss_cons (ps_if (pt_cmpR (op_neD hr.units) (pv 8) (pe_tup (pa_cons (pv 6) (pa_cons (pv 7) pa_nil))) (nomark _)) (pss_one (ps_ret pe_bl)) pss_nil)
    (pss_cons (ps_expr (pe_bm PySem.F.plainAttrs_list PySem.F.slot_list_append PySem.F.type_list_append mt_append (pe_ix ix_tup (pv 8) pe_int (fun _ _ => rfl)) (pa_cons pe_int pa_nil)))
    (pss_cons (ps_expr (pe_bm PySem.F.plainAttrs_list PySem.F.slot_list_append PySem.F.type_list_append mt_append (pe_ix ix_tup (pv 8) pe_int (fun _ _ => rfl)) (pa_cons (pe_tup (pa_cons pe_int (pa_cons pe_str (pa_cons pe_int pa_nil)))) pa_nil)))
    (pss_cons (ps_set (i := 10) nd rfl (Or.inl rfl) (pe_fn (ok_law_from_lot T) (hr.mono (by decide)) (by rfl) T.m__law_from_lot T.F__law_from_lot.kp T.b__law_from_lot .nil (fun _ => atN _) (pa_cons (pv 1) (pa_cons (pv 4) (pa_cons (pe_fn (ok_law_pick T) (hr.mono (by decide)) (by rfl) T.m__law_pick T.F__law_pick.kp T.b__law_pick .nil (fun _ => atN _) (pa_cons (pv 1) (pa_cons pe_int pa_nil))) pa_nil)))))
    (pss_cons (ps_set (i := 11) nd rfl (Or.inl rfl) (pe_lst (pa_cons (pv 10) (pa_cons (pe_fn (ok_law_change T) (hr.mono (by decide)) (by rfl) T.m__law_change T.F__law_change.kp T.b__law_change .nil (fun _ => atN _) (pa_cons (pv 1) (pa_cons (pv 10) (pa_cons (pv 3) pa_nil)))) (pa_cons (pe_fn (ok_law_word_of T) (hr.mono (by decide)) (by rfl) T.m__law_word_of T.F__law_word_of.kp T.b__law_word_of .nil (fun _ => atN _) (pa_cons (pv 1) (pa_cons (pv 3) (pa_cons pe_int (pa_cons pe_int pa_nil))))) (pa_cons pe_str pa_nil))))))
    (C8.pss_cut (ps_set (i := 11) nd rfl (Or.inl rfl) (pe_op op_cat (pv 11) (pe_lst (pa_cons (pe_fn (ok_law_word_of T) (hr.mono (by decide)) (by rfl) T.m__law_word_of T.F__law_word_of.kp T.b__law_word_of .nil (fun _ => atN _) (pa_cons (pv 1) (pa_cons (pv 2) (pa_cons pe_int (pa_cons pe_int pa_nil))))) (pa_cons (pe_fn (ok_law_odd_sign T) (hr.mono (by decide)) (by rfl) T.m__law_odd_sign T.F__law_odd_sign.kp T.b__law_odd_sign .nil (fun _ => atN _) (pa_cons (pv 1) pa_nil)) (pa_cons (pe_op op_add_str (pv 10) (pe_fn (ok_law_odd_sign T) (hr.mono (by decide)) (by rfl) T.m__law_odd_sign T.F__law_odd_sign.kp T.b__law_odd_sign .nil (fun _ => atN _) (pa_cons (pv 1) pa_nil))) pa_nil))))))
    (pss_cons (ps_if (pt_not (pt_val (pe_fn (ok_law_agrees T) (hr.mono (by decide)) (by rfl) T.m__law_agrees T.F__law_agrees.kp T.b__law_agrees .nil (fun _ => atN _) (pa_cons (pv 9) (pa_cons (pv 4) (pa_cons (pv 11) pa_nil)))))) (pss_one (ps_ret pe_bl)) pss_nil)
    (pss_cons (ps_set (i := 13) nd rfl (Or.inl rfl) (pe_tup (pa_cons pe_int (pa_cons (pe_lst (pa_cons pe_int pa_nil)) (pa_cons (pe_lc (own := [("_law_sign", 12)]) (g := (gName 12)) (tt := tYes) rfl nd (pi_list (pe_callB cr_sortedS (by rfl) T.n_sorted (by decide +kernel) (pa_cons (pe_callTy (cr_listTx (by rfl)) (by rfl) T.n_list (by decide +kernel) (pa_cons (pv 3) pa_nil)) pa_nil))) (blkOk_by (N := N_law) (sc := defScope s_law) (by decide +kernel)) (fun _ _ _ _ _ => (pg_name (i := 12) nd rfl (Or.inl rfl))) (fun _ _ _ _ _ => pts_nil) (fun _ _ _ _ _ => (pe_tup (pa_cons pe_int (pa_cons (pv 12) (pa_cons pe_int pa_nil)))))) pa_nil)))))
    (C8.pss_cut (ps_if (PW.pt (pw_or (pt_not (pt_val (pe_fn (ok_law_agrees T) (hr.mono (by decide)) (by rfl) T.m__law_agrees T.F__law_agrees.kp T.b__law_agrees .nil (fun _ => atN _) (pa_cons (pe_cm (pe_glob (v := .ref T.c_Lot) (by rfl) T.m_Lot rfl) T.cr_Lot_every T.M_Lot_every (fnr_of (ok_Lot_every T) T.b_Lot_every) (hr.mono (by decide)) (fun _ => atN _) (pa_cons (pe_op op_add_str (pv 3) (pe_slice sl_str (pv 3) po_none (po_some pe_int))) pa_nil)) (pa_cons (pv 13) (pa_cons (pv 11) pa_nil)))))) (pw_or1 (pt_not (pt_val (pe_fn (ok_law_agrees T) (hr.mono (by decide)) (by rfl) T.m__law_agrees T.F__law_agrees.kp T.b__law_agrees .nil (fun _ => atN _) (pa_cons (pe_cm (pe_glob (v := .ref T.c_Lot) (by rfl) T.m_Lot rfl) T.cr_Lot_every T.M_Lot_every (fnr_of (ok_Lot_every T) T.b_Lot_every) (hr.mono (by decide)) (fun _ => atN _) (pa_cons pe_str pa_nil)) (pa_cons (pe_tup (pa_cons pe_int (pa_cons (pe_lst (pa_cons pe_int pa_nil)) (pa_cons (pe_lst pa_nil) pa_nil)))) (pa_cons (pv 11) pa_nil))))))))) (pss_one (ps_ret pe_bl)) pss_nil)
    (pss_cons (ps_setLc (i := 14) (own := [("_law_k", 5)]) (g := (gName 5)) (tt := tYes) rfl nd rfl rfl (sw_true rfl rfl rfl (by decide +kernel)) (pi_range1 rfl T.n_range (pa_cons (pe_op op_add pe_int (pe_fn (ok_law_pick T) (hr.mono (by decide)) (by rfl) T.m__law_pick T.F__law_pick.kp T.b__law_pick .nil (fun _ => atN _) (pa_cons (pv 1) (pa_cons pe_int pa_nil)))) pa_nil)) (blkOk_by (N := N_law) (sc := defScope s_law) (by decide +kernel)) (fun _ _ _ _ _ => (pg_name (i := 5) nd rfl (Or.inl rfl))) (fun _ _ _ _ _ => pts_nil) (fun _ _ _ _ _ => (pe_fn (ok_law_word_of T) (hr.mono (by decide)) (by rfl) T.m__law_word_of T.F__law_word_of.kp T.b__law_word_of .nil (fun _ => atN _) (pa_cons (pv 1) (pa_cons (pv 3) (pa_cons pe_int (pa_cons pe_int pa_nil)))))))
    (pss_one (ps_ret (pe_and (pe_fn (ok_law_agrees T) (hr.mono (by decide)) (by rfl) T.m__law_agrees T.F__law_agrees.kp T.b__law_agrees .nil (fun _ => atN _) (pa_cons (pe_fn (ok_law_begun T) (hr.mono (by decide)) (by rfl) T.m__law_begun T.F__law_begun.kp T.b__law_begun .nil (fun _ => atN _) (pa_cons (pv 14) pa_nil)) (pa_cons (pe_fn (ok_law_tree T) (hr.mono (by decide)) (by rfl) T.m__law_tree T.F__law_tree.kp T.b__law_tree .nil (fun _ => atN _) (pa_cons (pv 14) pa_nil)) (pa_cons (pe_op op_cat (pv 11) (pv 14)) pa_nil)))) (pe_one (pe_fn (ok_law_agrees T) (hr.mono (by decide)) (by rfl) T.m__law_agrees T.F__law_agrees.kp T.b__law_agrees .nil (fun _ => atN _) (pa_cons (pv 9) (pa_cons (pv 4) (pa_cons (pv 11) pa_nil)))))))))))))))))))))))))), ?_⟩
  unfold rLenS rListS
  refine ⟨_, rfl, a, ns, rfl, hS, hlen, fun H1 d S1 hd D1 => ?_⟩
  refine ⟨_, rfl, _, rfl, d, 3, rfl, by decide, D1, fun H1b r r0 r3 D1b B1b => ⟨_, _, rfl, rfl, d, _, rfl, by omega, by omega, D1b, fun H2 z hz3 ho hnd D2 B2 => ?_⟩⟩
  have lz : z.cps.toList.length = z.length := rfl
  have lzz : z.length ≤ sizeLine := by rw [sizeLine_eq]; omega
  have even : ∀ c ∈ z.cps.toList, oddC c = false := fun c hc => by
    unfold oddC
    rw [decide_eq_true (ho c hc)]
    rfl
  have fz : fo z = none := fo_none fun j c hc => even c (List.mem_of_getElem? hc)
  have ndt : ∀ {G : Hp}, Dr G d → ∀ xs, G d ≠ some (.tup xs) := fun D xs z => by
    obtain ⟨ns, e, _⟩ := D
    rw [e] at z
    cases z
  have apart : ∀ {G : Hp} {x : Addr}, Dr G d → G x = none → x ≠ d := fun D hx q => by
    obtain ⟨ns, e, _⟩ := D
    rw [q, e] at hx
    cases hx
  refine ⟨_, rfl, _, rfl, d, z, rfl, D2, by omega, by omega, ho, hnd, fun H3 t l m n ls ms ht hl hm LO n7 l7 m12 hms ft fl fm D3 B3 => ?_⟩
  have nl := apart D2 fl
  have nm := apart D2 fm
  have gm : GoodM ms := fun x hx => by
    obtain ⟨c, hc, e⟩ := hms x hx
    rw [e]
    exact small_ok (abc_lt c (ho c hc))
  obtain ⟨ts, em, hM⟩ := hm
  have lts := hM.len
  -- the last states, reversed, the first twice
  refine ⟨_, rfl, t, _, 1, _, rfl, rfl, SqT.of ht, atI_nat (j := 1) rfl, l, _, rfl, SqL.of hl, _, rfl, by rw [List.length_map]; omega, by rw [List.length_map]; omega, fun D hD => lc_range (lo := 0) (n := (((ls.map V.int).length : Nat) : Int).toNat) (fun i H' => Same H3 H' ∧ H' D = some (.lst ((ls.reverse.take i).map V.int))) ⟨Rz.Same.new (Same.refl _) hD, upd_same⟩ ?_ ?_⟩
  · rintro i G hi ⟨S, e⟩
    have il : i < ls.length := by rw [List.length_map] at hi; omega
    have hx : ls[ls.length - 1 - i]? = some ls[ls.length - 1 - i] := List.getElem?_eq_getElem (by omega)
    have hr2 : ls.reverse[i]? = some ls[ls.length - 1 - i] := by rw [List.getElem?_reverse il]; exact hx
    have at_ : atI (ls.map V.int) (((ls.map V.int).length : Int) - 1 - ((0 : Int) + (i : Nat))) = some (.int ls[ls.length - 1 - i]) := by
      rw [show (((ls.map V.int).length : Int) - 1 - ((0 : Int) + (i : Nat))) = ((ls.length - 1 - i : Nat) : Int) by rw [List.length_map]; omega]
      exact atI_nat (by rw [List.getElem?_map, hx]; rfl)
    refine ⟨rfl, yesT ⟨_, rfl, t, _, 1, _, rfl, rfl, SqT.of (S _ _ ht), atI_nat (j := 1) rfl, _, rfl, t, _, 1, _, rfl, rfl, SqT.of (S _ _ ht), atI_nat (j := 1) rfl, l, _, rfl, SqL.of (S _ _ hl), _, _, rfl, rfl, _, rfl, _, _, rfl, rfl, l, _, _, _, rfl, rfl, SqL.of (S _ _ hl), at_, _, e, by rw [List.length_map, List.length_take, sizeLine_eq]; omega, Rz.Same.upd S hD, ?_⟩⟩
    rw [upd_same, List.take_add_one, hr2, List.map_append]
    rfl
  rintro H4 ⟨S4, e4⟩
  rw [show (((ls.map V.int).length : Nat) : Int).toNat = ls.reverse.length by rw [List.length_map, List.length_reverse]; omega, List.take_length] at e4
  obtain ⟨cl, hcl, mcl, zcl⟩ := cut_ints ls none (some 1)
  refine ⟨_, rfl, t, _, 1, _, rfl, rfl, SqT.of (S4 _ _ ht), atI_nat (j := 1) rfl, 1, rfl, l, _, rfl, SqL.of (S4 _ _ hl), fun c hc => ?_⟩
  rw [hcl]
  have S5 := Rz.Same.new (o := .lst (cl.map V.int)) (Same.refl H4) hc
  have ec : upd H4 c (.lst (cl.map V.int)) c = some (.lst (cl.map V.int)) := upd_same
  generalize upd H4 c (.lst (cl.map V.int)) = H5 at S5 ec ⊢
  refine ⟨D, c, _, _, rfl, rfl, S5 _ _ e4, ec, by rw [List.length_map, List.length_map, List.length_reverse, sizeLine_eq]; omega, fun L0 hL0 => ?_⟩
  rw [← List.map_append]
  have S6 := Rz.Same.new (o := .lst ((ls.reverse ++ cl).map V.int)) (Same.refl H5) hL0
  have eL0 : upd H5 L0 (.lst ((ls.reverse ++ cl).map V.int)) L0 = some (.lst ((ls.reverse ++ cl).map V.int)) := upd_same
  have ml2 : ∀ x, x ∈ ls.reverse ++ cl ↔ x ∈ ls := fun x => by
    rw [List.mem_append, List.mem_reverse]
    exact ⟨fun h => h.elim id (mcl x), .inl⟩
  have zl2 : (ls.reverse ++ cl).length ≤ 14 := by rw [List.length_append, List.length_reverse]; omega
  generalize ls.reverse ++ cl = ls2 at S6 eL0 ml2 zl2 ⊢
  generalize upd H5 L0 (.lst (ls2.map V.int)) = H6 at S6 eL0 ⊢
  have S36 := (S4.trans S5).trans S6
  -- the moves, reversed, all but the first twice
  have ht6 := S36 _ _ ht
  have em6 := S36 _ _ em
  have hM6 := hM.keep (Tups.of S36)
  refine ⟨_, rfl, t, _, 2, _, rfl, rfl, SqT.of ht6, atI_nat (j := 2) rfl, m, _, rfl, SqL.of em6, _, rfl, by rw [List.length_map]; omega, by rw [List.length_map]; omega, fun E0 hE0 => lc_range (lo := 0) (n := (((ts.map V.ref).length : Nat) : Int).toNat) (fun i H' => Same H6 H' ∧ MAt H' E0 (ms.reverse.take i)) ⟨Rz.Same.new (Same.refl _) hE0, [], upd_same, .nil⟩ ?_ ?_⟩
  · rintro i G hi ⟨S, us, e, P⟩
    have il : i < ts.length := by rw [List.length_map] at hi; omega
    have hx : ts[ts.length - 1 - i]? = some ts[ts.length - 1 - i] := List.getElem?_eq_getElem (by omega)
    obtain ⟨x, hxm, et⟩ := hM6.get hx
    have hr2 : ms.reverse[i]? = some x := by
      rw [List.getElem?_reverse (by omega), ← lts]
      exact hxm
    have et2 := S _ _ et
    have lus := P.len
    rw [List.length_take, List.length_reverse] at lus
    have at_ : atI (ts.map V.ref) (((ts.map V.ref).length : Int) - 1 - ((0 : Int) + (i : Nat))) = some (.ref ts[ts.length - 1 - i]) := by
      rw [show (((ts.map V.ref).length : Int) - 1 - ((0 : Int) + (i : Nat))) = ((ts.length - 1 - i : Nat) : Int) by rw [List.length_map]; omega]
      exact atI_nat (by rw [List.getElem?_map, hx]; rfl)
    have T3 : Tups G (upd G E0 (.lst (us.map V.ref ++ [.ref ts[ts.length - 1 - i]]))) := Tups.upd (Tups.of (Same.refl _)) (not_tupL ⟨_, e⟩)
    refine ⟨rfl, yesT ⟨_, rfl, t, _, 2, _, rfl, rfl, SqT.of (S _ _ ht6), atI_nat (j := 2) rfl, _, rfl, t, _, 2, _, rfl, rfl, SqT.of (S _ _ ht6), atI_nat (j := 2) rfl, m, _, rfl, SqL.of (S _ _ em6), _, _, rfl, rfl, _, rfl, _, _, rfl, rfl, m, _, _, _, rfl, rfl, SqL.of (S _ _ em6), at_, _, e, by rw [List.length_map, sizeLine_eq]; omega, Rz.Same.upd S hE0, us ++ [ts[ts.length - 1 - i]], by rw [upd_same, List.map_append]; rfl, ?_⟩⟩
    rw [List.take_add_one, hr2]
    exact (P.keep T3).append (.cons (T3 _ _ et2) .nil)
  rintro H7 ⟨S7, us, e7, P7⟩
  rw [show (((ts.map V.ref).length : Nat) : Int).toNat = ms.reverse.length by rw [List.length_map, List.length_reverse]; omega, List.take_length] at P7
  have lus := P7.len
  rw [List.length_reverse] at lus
  obtain ⟨ct, cm, hct, Pc, mcm, zcm⟩ := cut_mvs (hM6.keep (Tups.of S7)) (some 1) none
  have lct := Pc.len
  refine ⟨_, rfl, t, _, 2, _, rfl, rfl, SqT.of (S7 _ _ ht6), atI_nat (j := 2) rfl, 1, rfl, m, _, rfl, SqL.of (S7 _ _ em6), fun c2 hc2 => ?_⟩
  rw [hct]
  have S8 := Rz.Same.new (o := .lst (ct.map V.ref)) (Same.refl H7) hc2
  have ec2 : upd H7 c2 (.lst (ct.map V.ref)) c2 = some (.lst (ct.map V.ref)) := upd_same
  generalize upd H7 c2 (.lst (ct.map V.ref)) = H8 at S8 ec2 ⊢
  refine ⟨E0, c2, _, _, rfl, rfl, S8 _ _ e7, ec2, by rw [List.length_map, List.length_map, sizeLine_eq]; omega, fun M0 hM0 => ?_⟩
  rw [← List.map_append]
  have S9 := Rz.Same.new (o := .lst ((us ++ ct).map V.ref)) (Same.refl H8) hM0
  have eM0 : upd H8 M0 (.lst ((us ++ ct).map V.ref)) M0 = some (.lst ((us ++ ct).map V.ref)) := upd_same
  have PM0 := ((P7.append Pc).keep (Tups.of S8)).keep (Tups.of S9)
  have mm2 : ∀ x, x ∈ ms.reverse ++ cm ↔ x ∈ ms := fun x => by
    rw [List.mem_append, List.mem_reverse]
    exact ⟨fun h => h.elim id (mcm x), .inl⟩
  have zm2 : (ms.reverse ++ cm).length ≤ 24 := by rw [List.length_append, List.length_reverse]; omega
  generalize ms.reverse ++ cm = ms2 at PM0 mm2 zm2
  generalize us ++ ct = ts2 at S9 eM0 PM0 ⊢
  generalize upd H8 M0 (.lst (ts2.map V.ref)) = H9 at S9 eM0 PM0 ⊢
  have S69 := (S7.trans S8).trans S9
  have S39 := S36.trans S69
  have eL9 := S69 _ _ eL0
  -- copies of both are passed
  refine ⟨_, rfl, L0, _, rfl, SqL.of eL9, fun L hL => ?_⟩
  have SA := Rz.Same.new (o := .lst (ls2.map V.int)) (Same.refl H9) hL
  have eL : upd H9 L (.lst (ls2.map V.int)) L = some (.lst (ls2.map V.int)) := upd_same
  generalize upd H9 L (.lst (ls2.map V.int)) = HA at SA eL ⊢
  refine ⟨_, rfl, M0, _, rfl, SqL.of (SA _ _ eM0), fun M hMM => ?_⟩
  have SB := Rz.Same.new (o := .lst (ts2.map V.ref)) (Same.refl HA) hMM
  have eM : upd HA M (.lst (ts2.map V.ref)) M = some (.lst (ts2.map V.ref)) := upd_same
  generalize upd HA M (.lst (ts2.map V.ref)) = HB at SB eM ⊢
  refine ⟨by show 2 ≤ sizeLine; decide, fun p hp => ?_⟩
  have SC := Rz.Same.new (o := .tup [.ref L, .ref M]) (Same.refl HB) hp
  have ep : upd HB p (.tup [.ref L, .ref M]) p = some (.tup [.ref L, .ref M]) := upd_same
  generalize upd HB p (.tup [.ref L, .ref M]) = HC at SC ep ⊢
  have S9C := (SA.trans SB).trans SC
  have S3C := S39.trans S9C
  have eLC := (SB.trans SC) _ _ eL
  have eMC := SC _ _ eM
  have PMC := PM0.keep (Tups.of S9C)
  obtain ⟨o1, o2, us2⟩ := lot_mirror LO ml2 mm2
  have htC := S3C _ _ ht
  have gm2 : GoodM ms2 := fun x hx => gm x ((mm2 x).mp hx)
  have s1l : ∀ x ∈ ms, x.2.1.length ≤ 1 := fun x hx => by
    obtain ⟨c, _, e⟩ := hms x hx
    rw [e]
    exact Nat.le_refl 1
  refine ⟨_, rfl, t, _, 0, _, rfl, rfl, SqT.of htC, atI_nat (j := 0) rfl, _, rfl, p, _, 0, _, rfl, rfl, SqT.of ep, atI_nat (j := 0) rfl, _, rfl, p, _, 1, _, rfl, rfl, SqT.of ep, atI_nat (j := 1) rfl, lot_madeF eLC ⟨ts2, eMC, PMC⟩ (by omega) (by omega) (fun x hx => ?_) (fun x hx => by have := s1l x ((mm2 x).mp hx); omega) o1 o2 us2 (fun HD o ls' ms' s1 s2 SD _ LT LP => ?_)⟩
  · have nn := o1.1
    rcases List.mem_append.mp hx with q | q
    · have := o1.2.1 x q
      omega
    · obtain ⟨y, hy, e⟩ := mem_named.mp q
      have := o1.2.2 y hy
      rcases e with e | e <;> omega
  have el' : ls' = ls := srtI_one (SrtI.mem ml2 s1) LO.sl
  have em' : ms' = ms := srtM_one (SrtM.mem mm2 s2) LO.sm
  subst el' em'
  have eLD := SD _ _ eLC
  have eMD := SD _ _ eMC
  have epD := SD _ _ ep
  have PMD := PMC.keep (Tups.of SD)
  have S3D := S3C.trans SD
  -- what was passed is as it was
  refine ⟨_, rfl, _, rfl, _, rfl, by show 2 ≤ sizeLine; decide, fun q hq => ?_⟩
  have SE := Rz.Same.new (o := .tup [.ref L0, .ref M0]) (Same.refl HD) hq
  refine ⟨dPt ls2 ms2, dPt ls2 ms2, dpt_at (SE _ _ epD) (SE _ _ eLD) ⟨ts2, SE _ _ eMD, PMD.keep (Tups.of SE)⟩, dpt_at upd_same ((S9C.trans (SD.trans SE)) _ _ eL9) ⟨ts2, (S9C.trans (SD.trans SE)) _ _ eM0, PMD.keep (Tups.of SE)⟩, dpt_shaped gm2, dpt_shaped gm2, _, rfl, ?_⟩
  rw [dpt_eqv]
  refine iteF ?_
  have eLE := SE _ _ eLD
  have eME := SE _ _ eMD
  have epE := SE _ _ epD
  generalize upd HD q (.tup [.ref L0, .ref M0]) = HE at SE eLE eME epE ⊢
  have nLM : L ≠ M := fun z => by rw [← z, eL] at hMM; cases hMM
  have npL : p ≠ L := fun z => by rw [z, eLE] at epE; cases epE
  -- the passed lists are changed
  refine ⟨_, rfl, p, _, 0, _, rfl, rfl, SqT.of epE, atI_nat (j := 0) rfl, .inl ⟨rfl, _, SqL.of eLE⟩, L, _, _, rfl, rfl, eLE, by rw [List.length_map, sizeLine_eq]; omega, ?_⟩
  have kF : ∀ b o, b ≠ L → HE b = some o → upd HE L (.lst (ls2.map V.int ++ [.int 0])) b = some o := fun b o n e => by rw [upd_ne n]; exact e
  have epF := kF _ _ npL epE
  have eMF := kF _ _ (Ne.symm nLM) eME
  generalize upd HE L (.lst (ls2.map V.int ++ [.int 0])) = HF at kF epF eMF ⊢
  refine ⟨_, rfl, p, _, 1, _, rfl, rfl, SqT.of epF, atI_nat (j := 1) rfl, .inl ⟨rfl, _, SqL.of eMF⟩, by show 3 ≤ sizeLine; decide, fun u hu => ?_⟩
  have SG := Rz.Same.new (o := .tup [.int 0, .str "a", .int 0]) (Same.refl HF) hu
  have zts := PMD.len
  refine ⟨M, _, _, rfl, rfl, SG _ _ eMF, by rw [List.length_map, sizeLine_eq]; omega, ?_⟩
  have kG : ∀ b o, b ≠ L → b ≠ M → HD b = some o → upd (upd HF u (.tup [.int 0, .str "a", .int 0])) M (.lst (ts2.map V.ref ++ [.ref u])) b = some o := fun b o n1 n2 e => by
    rw [upd_ne n2]
    exact SG _ _ (kF _ _ n1 (SE _ _ e))
  generalize upd (upd HF u (.tup [.int 0, .str "a", .int 0])) M (.lst (ts2.map V.ref ++ [.ref u])) = HG at kG ⊢
  have L9 : H9 L = none := hL
  have M9 : H9 M = none := SA.free hMM
  have S3G : Same H3 HG := fun b o e => kG b o (fun z => by
    have := S39 _ _ e
    rw [z, L9] at this
    cases this) (fun z => by
    have := S39 _ _ e
    rw [z, M9] at this
    cases this) (S3D _ _ e)
  have DG := D3.same S3G
  have DC := D3.same S3C
  have PG : PtAt HG t l m n ls' ms' := ⟨S3G _ _ ht, S3G _ _ hl, ⟨ts, S3G _ _ em, hM.keep (Tups.of S3G)⟩⟩
  have PK : ∀ {K : Hp}, But [d] HG K → PtAt K t l m n ls' ms' := fun B => PG.but DG B nl nm
  have LK : ∀ {K : Hp}, But [d] HG K → LtAt T.c_Lot K o n ls' ms' (Lead ms2) := fun {K} B => LP K (fun b x h e => by
      have nb : b ≠ L := fun z => by rw [z, eLC] at h; cases h
      have nb2 : b ≠ M := fun z => by rw [z, eMC] at h; cases h
      exact B.at (kG b x nb nb2 e) (by simpa using apart DC h)) (fun b xs e => by
      have nb : b ≠ L := fun z => by rw [z, eLD] at e; cases e
      have nb2 : b ≠ M := fun z => by rw [z, eMD] at e; cases e
      have e2 := kG b _ nb nb2 e
      exact B.at e2 (by
        have nd2 : b ≠ d := fun z => by rw [z] at e2; exact ndt DG _ e2
        simpa using nd2))
  clear LT LP kG kF S3D S3C S39 S9C eLC eMC eLD eMD epD eLE eME epE epF eMF
  have ag : ∀ x : Str, holds (Lead ms2) ls' x = inLot ls' ms' x := agree_of o2 mm2 LO.st
  have gm : GoodM ms' := gm
  -- texts
  refine ⟨_, rfl, _, rfl, _, rfl, d, 9, rfl, by decide, DG, fun K1 r r0 r9 D1 B1 => ?_⟩
  refine ⟨d, t, l, m, n, r, ls', ms', rfl, D1, PK B1, LO, n7, m12, s1l, gm, nl, nm, r0, by omega, fun K2 y zy D2 B2 => ?_⟩
  have B02 := B1.trans B2
  refine ⟨_, rfl, _, rfl, _, rfl, _, rfl, d, y, z, rfl, by omega, by omega, by omega, D2, fun K3 y2 zy2 D3 B3 => ?_⟩
  refine ⟨_, rfl, _, rfl, d, z, 0, 6, rfl, by decide, by decide, by decide, by omega, by omega, D3, fun K4 x4 _ _ _ D4 B4 => ?_⟩
  have B04 := (B02.trans B3).trans B4
  refine ⟨by show 4 ≤ sizeLine; decide, fun tx htx => ?_⟩
  have S5 := Rz.Same.new (o := .lst (([y, y2, x4, ""] : List Str).map V.str)) (Same.refl K4) htx
  have etx : upd K4 tx (.lst (([y, y2, x4, ""] : List Str).map V.str)) tx = some (.lst (([y, y2, x4, ""] : List Str).map V.str)) := upd_same
  have D5 := D4.same S5
  have ntx := apart D4 htx
  have B05 := B04.trans (But.of S5)
  refine ⟨fun σ G => ∃ (T0 : Addr) (xs : List Str), σ = [some (.ref a), some (.ref d), some (.str abc), some (.str z), some (.ref t), none, some (.ref L0), some (.ref M0), some (.ref p), some (.ref o), some (.str y), some (.ref T0), none, none, none] ∧ xs.length = 7 ∧ G T0 = some (.lst (xs.map V.str)) ∧ Dr G d ∧ But [d] HG G ∧ T0 ≠ d, ?_, ?_⟩
  · refine ⟨_, rfl, _, rfl, _, rfl, d, abc, 0, 6, rfl, by decide, by decide, by decide, by decide +kernel, by decide +kernel, D5, fun K6 x6 _ _ _ D6 B6 => ?_⟩
    refine ⟨_, rfl, d, rfl, D6, fun K7 c7 _ _ D7 B7 => ?_⟩
    refine ⟨_, rfl, _, rfl, d, rfl, D7, fun K8 c8 _ _ D8 B8 => ⟨_, _, rfl, rfl, by rw [sizeLine_eq]; show _ + 1 ≤ _; omega, by show 3 ≤ sizeLine; decide, fun ty hty => ?_⟩⟩
    have S9 := Rz.Same.new (o := .lst (([x6, (⟨#[c7]⟩ : Str), y ++ (⟨#[c8]⟩ : Str)] : List Str).map V.str)) (Same.refl K8) hty
    have etx8 := S9 _ _ (((B6.trans B7).trans B8).at etx (by simpa using ntx))
    refine ⟨tx, ty, _, _, rfl, rfl, etx8, upd_same, by show 4 + 3 ≤ sizeLine; decide, fun T0 hT0 => ?_⟩
    have SA1 := Rz.Same.new (o := .lst (([y, y2, x4, "", x6, (⟨#[c7]⟩ : Str), y ++ (⟨#[c8]⟩ : Str)] : List Str).map V.str)) (Same.refl (upd K8 ty (.lst (([x6, (⟨#[c7]⟩ : Str), y ++ (⟨#[c8]⟩ : Str)] : List Str).map V.str)))) hT0
    obtain ⟨xs, three, eT⟩ : ∃ xs : List Str, xs.length = 7 ∧ upd (upd K8 ty (.lst (([x6, (⟨#[c7]⟩ : Str), y ++ (⟨#[c8]⟩ : Str)] : List Str).map V.str))) T0 (.lst (([y, y2, x4, "", x6, (⟨#[c7]⟩ : Str), y ++ (⟨#[c8]⟩ : Str)] : List Str).map V.str)) T0 = some (.lst (xs.map V.str)) := ⟨([y, y2, x4, "", x6, (⟨#[c7]⟩ : Str), y ++ (⟨#[c8]⟩ : Str)] : List Str), rfl, upd_same⟩
    have B0A := (((((B05.trans B6).trans B7).trans B8).trans (But.of S9)).trans (But.of SA1))
    have DA := (D8.same S9).same SA1
    have nT0 : T0 ≠ d := apart (D8.same S9) hT0
    exact ⟨T0, xs, rfl, three, eT, DA, B0A, nT0⟩
  clear etx D5 B05 S5 htx D4 D2 D1 B4 B3 B02 B04 B1 B2 D3
  rintro σ KA ⟨T0, xs, rfl, three, eT, DA, B0A, nT0⟩
  -- the lot agrees
  refine ⟨_, rfl, _, rfl, _, rfl, o, t, l, m, T0, n, ls', ms', _, xs, rfl, LK B0A, PK B0A, eT, fun x _ => ag x, gm, by omega, by omega, fun KB SB1 => ⟨_, rfl, iteF ?_⟩⟩
  have B0B := B0A.trans (But.of SB1)
  have eTB := SB1 _ _ eT
  have DB := DA.same SB1
  -- all texts
  refine ⟨by show 1 ≤ sizeLine; decide, fun l1 hl1 => ?_⟩
  have SC1 := Rz.Same.new (o := .lst [.int 0]) (Same.refl KB) hl1
  have el1 : upd KB l1 (.lst [.int 0]) l1 = some (.lst (([0] : List Int).map V.int)) := upd_same
  refine sort_signs3 rfl (by omega) hnd fun KD qd ds SD1 hqd eqd pmd pwd => ⟨qd, rfl, ⟨_, SqL.of eqd⟩, fun ED hED => lc_it walk_list (fun i H' => Same KD H' ∧ MAt H' ED (everyM (ds.take i))) ⟨Rz.Same.new (Same.refl _) hED, [], upd_same, .nil⟩ (fun i H' _ h => SqL.of (h.1 _ _ eqd)) ?_ ?_⟩
  · rintro i v G1 G2 hi ⟨S, us, e, P⟩ ⟨rfl, hv⟩
    obtain ⟨c, hc, rfl⟩ := sgs_get hv
    have lus := P.len
    unfold everyM at lus
    rw [List.length_map, List.length_take] at lus
    have lds := pmd.length_eq
    refine ⟨rfl, yesT ⟨_, rfl, by show 3 ≤ sizeLine; decide, fun u hu => ?_⟩⟩
    have S4 := Rz.Same.new (o := .tup [.int 0, .str ⟨#[c]⟩, .int 0]) (Same.refl G2) hu
    refine ⟨_, S4 _ _ e, by rw [List.length_map, sizeLine_eq]; omega, Rz.Same.upd (S.trans S4) hED, ?_⟩
    have MM := mat_push (m := (0, ⟨#[c]⟩, 0)) e P hu
    unfold everyM at MM ⊢
    rw [List.take_add_one, hc, List.map_append]
    exact MM
  rintro KE ⟨SE1, ME⟩
  have lsg : ((sgs ds).map V.str).length = ds.length := by unfold sgs; rw [List.length_map, List.length_map]
  rw [lsg, List.take_length] at ME
  refine ⟨by show 3 ≤ sizeLine; decide, fun tv htv => ?_⟩
  have SF1 := Rz.Same.new (o := .tup [.int 1, .ref l1, .ref ED]) (Same.refl KE) htv
  have etv : upd KE tv (.tup [.int 1, .ref l1, .ref ED]) tv = some (.tup [.int 1, .ref l1, .ref ED]) := upd_same
  have MF := ME.same SF1
  have eds : ∀ c ∈ ds, oddC c = false := fun c hc => even c (pmd.mem_iff.mp hc)
  have EO := every_ok pwd eds
  have SBF := ((SC1.trans SD1).trans SE1).trans SF1
  have PE1 : PtAt (upd KE tv (.tup [.int 1, .ref l1, .ref ED])) tv l1 ED 1 [0] (everyM ds) := ⟨etv, ((SD1.trans SE1).trans SF1) _ _ el1, MF⟩
  have lds := pmd.length_eq
  have ge : GoodM (everyM ds) := fun x hx => by
    obtain ⟨c, hc, rfl⟩ := List.mem_map.mp hx
    exact small_ok (abc_lt c (ho c (pmd.mem_iff.mp hc)))
  have eTF := SBF _ _ eTB
  have DF := DB.same SBF
  have B0F := B0B.trans (But.of SBF)
  generalize upd KE tv (.tup [.int 1, .ref l1, .ref ED]) = KF at PE1 eTF DF B0F ⊢
  have pc : cutS z none (some 1) = pre z 1 := pre_cut (n := 1) (by omega)
  have z2l : (z ++ cutS z none (some 1) : Str).cps.toList = z.cps.toList ++ z.cps.toList.take 1 := by
    rw [pc, PySem.Str.cps_append, Array.toList_append, pre_list]
  have z2m : ∀ c, c ∈ (z ++ cutS z none (some 1) : Str).cps.toList ↔ c ∈ ds := fun c => by
    rw [z2l, List.mem_append, pmd.mem_iff]
    exact ⟨fun h => h.elim id List.mem_of_mem_take, .inl⟩
  have z2z : (z ++ cutS z none (some 1) : Str).length ≤ 6 := by
    rw [Str.length_append]
    have := cutS_length z none (some 1)
    omega
  have f2 : fo (z ++ cutS z none (some 1) : Str) = none := fo_none fun j c hc => eds c ((z2m c).mp (List.mem_of_getElem? hc))
  refine ⟨fun σ G => σ = [some (.ref a), some (.ref d), some (.str abc), some (.str z), some (.ref t), none, some (.ref L0), some (.ref M0), some (.ref p), some (.ref o), some (.str y), some (.ref T0), none, some (.ref tv), none] ∧ G T0 = some (.lst (xs.map V.str)) ∧ Dr G d ∧ But [d] HG G, ?_, ?_⟩
  · refine ⟨rfl, _, rfl, _, rfl, 1, rfl, z, rfl, lzz, _, _, rfl, rfl, by rw [← Str.length_append, sizeLine_eq]; omega, _, rfl, by omega, fun _ K1 o1 l2 m2 s1 s2 SX _ LX => ?_, fun i f0 => by rw [f2] at f0; cases f0⟩
    have hme : ∀ x, x ∈ everyM (z ++ cutS z none (some 1) : Str).cps.toList ↔ x ∈ everyM ds := fun x => by
      unfold everyM
      rw [List.mem_map, List.mem_map]
      exact ⟨fun ⟨c, h, e⟩ => ⟨c, (z2m c).mp h, e⟩, fun ⟨c, h, e⟩ => ⟨c, (z2m c).mpr h, e⟩⟩
    obtain rfl := srtI_one s1 EO.sl
    obtain rfl := srtM_one (SrtM.mem hme s2) EO.sm
    refine ⟨_, rfl, _, rfl, o1, tv, l1, ED, T0, 1, [0], everyM ds, _, xs, rfl, LX, PE1.same SX, SX _ _ eTF, fun x _ => agree_of (every_leads fun c hc => eds c ((z2m c).mp hc)) hme EO.st x, ge, by decide, by unfold everyM; rw [List.length_map]; omega, fun K2 SY => ⟨_, rfl, iteF ?_⟩⟩
    refine ⟨rfl, "", rfl, by decide, fun _ K3 o2 l2 m2 s1 s2 SZ _ LZ => ?_, fun i f0 => by cases f0⟩
    have E0 := every_ok (cs := []) List.Pairwise.nil (fun c hc => by cases hc)
    obtain rfl := srtI_one s1 E0.sl
    obtain rfl := srtM_one s2 E0.sm
    refine ⟨by show 1 ≤ sizeLine; decide, fun lq hlq => ⟨Nat.zero_le _, fun mq hmq => ⟨by show 3 ≤ sizeLine; decide, fun tq htq => ?_⟩⟩⟩
    have SW1 := Rz.Same.new (o := .lst [.int 0]) (Same.refl K3) hlq
    have ew1 : upd K3 lq (.lst [.int 0]) lq = some (.lst (([0] : List Int).map V.int)) := upd_same
    have SW2 := Rz.Same.new (o := .lst []) (Same.refl (upd K3 lq (.lst [.int 0]))) hmq
    have ew2 : upd (upd K3 lq (.lst [.int 0])) mq (.lst []) mq = some (.lst (([] : List Addr).map V.ref)) := upd_same
    have SW3 := Rz.Same.new (o := .tup [.int 1, .ref lq, .ref mq]) (Same.refl (upd (upd K3 lq (.lst [.int 0])) mq (.lst []))) htq
    have SW := (SW1.trans SW2).trans SW3
    have SFW := ((SX.trans SY).trans SZ).trans SW
    refine ⟨_, rfl, o2, tq, lq, mq, T0, 1, [0], everyM [], _, xs, rfl, LZ.same SW, ⟨upd_same, (SW2.trans SW3) _ _ ew1, ⟨[], SW3 _ _ ew2, .nil⟩⟩, SFW _ _ eTF, fun x _ => agree_of E0.ld (fun _ => Iff.rfl) E0.st x, fun x hx => (by cases hx), by decide, by decide, fun K4 SV => ⟨_, rfl, iteF ?_⟩⟩
    exact ⟨rfl, (SFW.trans SV) _ _ eTF, DF.same (SFW.trans SV), B0F.trans (But.of (SFW.trans SV))⟩
  clear PE1 eTF DF B0F SBF SC1 SD1 SE1 SF1 eTB DB B0B MF ME etv el1 eqd eT DA B0A
  rintro σ KA ⟨rfl, eT, DA, BA⟩
  refine ⟨_, rfl, d, 4, rfl, by decide, DA, fun KB r r0 r4 DB BB => ⟨_, _, rfl, rfl, 1 + r, rfl, by omega, by omega, fun W hW => lc_range (lo := 0) (n := (1 + r).toNat) (fun i H' => ∃ ws : List Str, H' W = some (.lst (ws.map V.str)) ∧ ws.length = i ∧ (∀ x ∈ ws, fo x = none ∧ x.length ≤ 4) ∧ Dr H' d ∧ But [d] HG H' ∧ H' T0 = some (.lst (xs.map V.str)))
    ⟨[], upd_same, rfl, (fun x hx => by cases hx), DB.same (Rz.Same.new (Same.refl _) hW), (BA.trans BB).trans (But.of (Rz.Same.new (Same.refl _) hW)), (Rz.Same.new (Same.refl _) hW) _ _ (BB.at eT (by simpa using nT0))⟩ ?_ ?_⟩⟩
  · have nW : W ≠ d := apart DB hW
    have nTW : T0 ≠ W := fun q => by
      have := BB.at eT (by simpa using nT0)
      rw [q, hW] at this
      cases this
    have hWG : HG W = none := (BA.trans BB).free1 DB hW
    rintro i G hi ⟨ws, e, lw, ev, DG2, BG2, eTG⟩
    refine ⟨rfl, yesT ⟨_, rfl, _, rfl, d, z, 0, 4, rfl, by decide, by decide, by decide, by omega, by omega, DG2, fun G2 x _ x4 ox D2 B2 => ?_⟩⟩
    refine ⟨_, B2.at e (by simpa using nW), by rw [List.length_map, sizeLine_eq]; omega, ws ++ [x], by rw [upd_same, List.map_append]; rfl, by rw [List.length_append, lw]; rfl, fun v hv => ?_, D2.upd (Ne.symm nW), (BG2.trans B2).upd (.inr hWG), by rw [upd_ne nTW]; exact B2.at eTG (by simpa using nT0)⟩
    rcases List.mem_append.mp hv with q | q
    · exact ev v q
    · rw [List.mem_singleton.mp q]
      exact ⟨fo_none fun j c hc => even c (ox c (List.mem_of_getElem? hc)), by omega⟩
  rintro KC ⟨ws, eW, lw, ev, DC2, BC, eTC⟩
  have ne : ws ≠ [] := fun q => by
    rw [q] at lw
    have : (0 : Nat) = (1 + r).toNat := lw
    omega
  have le4 : ws.length ≤ 4 := by omega
  refine ⟨_, rfl, W, ws, rfl, eW, ne, le4, ev, fun ys tr K1 o2 l2 m2 s1 s2 y40 SX _ LX => ?_⟩
  refine ⟨_, rfl, W, ws, rfl, SX _ _ eW, ne, le4, ev, fun K2 t2 lt2 mt2 zs l3 m3 SY PY tr2 s3 s4 => ?_⟩
  obtain rfl := trie_same tr tr2
  obtain rfl := srtI_one s1 s3
  obtain rfl := srtM_one s2 s4
  have SXY := SX.trans SY
  have st := tr.states y40
  have ld := tr.leads
  have hm2 : ∀ m, m ∈ trieM ys ↔ m ∈ m2 := fun m => (s2.2.2 m).symm
  have ost : okStates ys.length l2 m2 := ⟨st.1, fun x hx => st.2.1 x ((s1.2 x).mp hx), fun m hm => st.2.2 m ((hm2 m).mpr hm)⟩
  have gm3 : GoodM m2 := fun m hm => sg_ok (ld.1 m ((hm2 m).mpr hm))
  have zl3 : l2.length ≤ 1000 := by
    have := few_below ys.length l2 (lt_nodup s1.1) ost.2.1
    omega
  have zm3 : m2.length ≤ 1000 := by
    have q := (List.perm_ext_iff_of_nodup s2.2.1 (trieM_nodup tr)).mpr s2.2.2
    rw [q.length_eq]
    unfold trieM
    rw [List.length_map]
    exact Nat.le_trans (List.length_filter_le _ _) (by omega)
  refine ⟨_, rfl, _, rfl, T0, W, _, _, rfl, rfl, SXY _ _ eTC, SXY _ _ eW, by rw [List.length_map, List.length_map, sizeLine_eq]; omega, fun q hq => ?_⟩
  have SQ := Rz.Same.new (o := .lst (xs.map V.str ++ ws.map V.str)) (Same.refl K2) hq
  have eq : upd K2 q (.lst (xs.map V.str ++ ws.map V.str)) q = some (.lst ((xs ++ ws).map V.str)) := by rw [upd_same, List.map_append]
  refine ⟨o2, t2, lt2, mt2, q, ys.length, l2, m2, _, xs ++ ws, rfl, (LX.same SY).same SQ, PY.same SQ, eq, fun x _ => agree_of ld hm2 ost x, gm3, zl3, zm3, fun K3 SZ => ?_⟩
  have SF := (SXY.trans SQ).trans SZ
  have BF := BC.trans (But.of SF)
  refine ⟨_, rfl, iteT ?_⟩
  exact ⟨_, rfl, _, rfl, _, rfl, o, t, l, m, T0, n, ls', ms', _, xs, rfl, LK BF, PK BF, SF _ _ eTC, fun x _ => ag x, gm, by omega, by omega, fun K4 _ => k _⟩
end
end Rz

namespace Rz
open PySem L2
theorem all_mk {w : World} {K : PySem.W.Frag} {h : Heap} {mg : Str → Option Value} {fa : Addr} (X : K.In h) (G : h.Ns mainGlobals mg) (hfa : mg "law" = some (.ref fa))
    {tk_SIGNS : Tok}
    {tk_MOST_STATES : Tok}
    {c_BadSign : Addr}
    {nm_BadSign q_BadSign : Str} {N_BadSign : Addr} {bs_BadSign bm_BadSign : List Value} {sn_BadSign : List Str} {sub_BadSign : List Value} {ab_BadSign : Bool} {col_BadSign : Option Bool} {dd_BadSign : Option Addr} {k0_BadSign k1_BadSign k2_BadSign k3_BadSign k5_BadSign : Option Value}
    {f_BadSign_init cc_BadSign_init cda_BadSign_init : Addr} {oc_BadSign_init kV_BadSign_init dc_BadSign_init pm_BadSign_init ct_BadSign_init ccl_BadSign_init cl_BadSign_init : Value} {od_BadSign_init an_BadSign_init cdd_BadSign_init cld_BadSign_init : Option Addr} {sl_BadSign_init cs_BadSign_init ls_BadSign_init : Array (Option Value)} {vs_BadSign_init : Array Value} {fl_BadSign_init : Str} {tf_BadSign_init : Tok}
    {c_Useless : Addr}
    {nm_Useless q_Useless : Str} {N_Useless : Addr} {bs_Useless bm_Useless : List Value} {sn_Useless : List Str} {sub_Useless : List Value} {ab_Useless : Bool} {col_Useless : Option Bool} {dd_Useless : Option Addr} {k0_Useless k1_Useless k2_Useless k3_Useless k5_Useless : Option Value}
    {f_Useless_init cc_Useless_init cda_Useless_init : Addr} {oc_Useless_init kV_Useless_init dc_Useless_init pm_Useless_init ct_Useless_init ccl_Useless_init cl_Useless_init : Value} {od_Useless_init an_Useless_init cdd_Useless_init cld_Useless_init : Option Addr} {sl_Useless_init cs_Useless_init ls_Useless_init : Array (Option Value)} {vs_Useless_init : Array Value} {fl_Useless_init : Str} {tf_Useless_init : Tok}
    {c_BadLot : Addr}
    {c_Lot : Addr}
    {f_is_sign : Addr} {oc_is_sign kV_is_sign dc_is_sign pm_is_sign cd_is_sign ct_is_sign : Value} {od_is_sign an_is_sign : Option Addr} {sl_is_sign : Array (Option Value)}
    {f_check_text : Addr} {oc_check_text kV_check_text dc_check_text pm_check_text cd_check_text ct_check_text : Value} {od_check_text an_check_text : Option Addr} {sl_check_text : Array (Option Value)}
    {f__check_states : Addr} {oc__check_states kV__check_states dc__check_states pm__check_states cd__check_states ct__check_states : Value} {od__check_states an__check_states : Option Addr} {sl__check_states : Array (Option Value)}
    {f__leads_of : Addr} {oc__leads_of kV__leads_of dc__leads_of pm__leads_of cd__leads_of ct__leads_of : Value} {od__leads_of an__leads_of : Option Addr} {sl__leads_of : Array (Option Value)}
    {f_led_to : Addr} {oc_led_to kV_led_to dc_led_to pm_led_to cd_led_to ct_led_to : Value} {od_led_to an_led_to : Option Addr} {sl_led_to : Array (Option Value)}
    {f__check_useful : Addr} {oc__check_useful kV__check_useful dc__check_useful pm__check_useful cd__check_useful ct__check_useful : Value} {od__check_useful an__check_useful : Option Addr} {sl__check_useful : Array (Option Value)}
    {f__beginnings_of : Addr} {oc__beginnings_of kV__beginnings_of dc__beginnings_of pm__beginnings_of cd__beginnings_of ct__beginnings_of : Value} {od__beginnings_of an__beginnings_of : Option Addr} {sl__beginnings_of : Array (Option Value)}
    {f_Lot_init : Addr} {oc_Lot_init kV_Lot_init dc_Lot_init pm_Lot_init cd_Lot_init ct_Lot_init : Value} {od_Lot_init an_Lot_init : Option Addr} {sl_Lot_init : Array (Option Value)}
    {f_Lot_every : Addr} {oc_Lot_every kV_Lot_every dc_Lot_every pm_Lot_every cd_Lot_every ct_Lot_every : Value} {od_Lot_every an_Lot_every : Option Addr} {sl_Lot_every : Array (Option Value)}
    {p_Lot_every : Addr} {rs_Lot_every : List Value}
    {f_Lot_only : Addr} {oc_Lot_only kV_Lot_only dc_Lot_only pm_Lot_only cd_Lot_only ct_Lot_only : Value} {od_Lot_only an_Lot_only : Option Addr} {sl_Lot_only : Array (Option Value)}
    {p_Lot_only : Addr} {rs_Lot_only : List Value}
    {f_Lot_states : Addr} {oc_Lot_states kV_Lot_states dc_Lot_states pm_Lot_states cd_Lot_states ct_Lot_states : Value} {od_Lot_states an_Lot_states : Option Addr} {sl_Lot_states : Array (Option Value)}
    {p_Lot_states : Addr} {rs_Lot_states : List Value}
    {f_Lot_last : Addr} {oc_Lot_last kV_Lot_last dc_Lot_last pm_Lot_last cd_Lot_last ct_Lot_last : Value} {od_Lot_last an_Lot_last : Option Addr} {sl_Lot_last : Array (Option Value)}
    {p_Lot_last : Addr} {rs_Lot_last : List Value}
    {f_Lot_moves : Addr} {oc_Lot_moves kV_Lot_moves dc_Lot_moves pm_Lot_moves cd_Lot_moves ct_Lot_moves : Value} {od_Lot_moves an_Lot_moves : Option Addr} {sl_Lot_moves : Array (Option Value)}
    {p_Lot_moves : Addr} {rs_Lot_moves : List Value}
    {f__law_pool : Addr} {oc__law_pool kV__law_pool dc__law_pool pm__law_pool cd__law_pool ct__law_pool : Value} {od__law_pool an__law_pool : Option Addr} {sl__law_pool : Array (Option Value)}
    {f__law_pick : Addr} {oc__law_pick kV__law_pick dc__law_pick pm__law_pick cd__law_pick ct__law_pick : Value} {od__law_pick an__law_pick : Option Addr} {sl__law_pick : Array (Option Value)}
    {f__law_alphabet : Addr} {oc__law_alphabet kV__law_alphabet dc__law_alphabet pm__law_alphabet cd__law_alphabet ct__law_alphabet : Value} {od__law_alphabet an__law_alphabet : Option Addr} {sl__law_alphabet : Array (Option Value)}
    {f__law_word_of : Addr} {oc__law_word_of kV__law_word_of dc__law_word_of pm__law_word_of cd__law_word_of ct__law_word_of : Value} {od__law_word_of an__law_word_of : Option Addr} {sl__law_word_of : Array (Option Value)}
    {f__law_is_int : Addr} {oc__law_is_int kV__law_is_int dc__law_is_int pm__law_is_int cd__law_is_int ct__law_is_int : Value} {od__law_is_int an__law_is_int : Option Addr} {sl__law_is_int : Array (Option Value)}
    {f__law_led_from : Addr} {oc__law_led_from kV__law_led_from dc__law_led_from pm__law_led_from cd__law_led_from ct__law_led_from : Value} {od__law_led_from an__law_led_from : Option Addr} {sl__law_led_from : Array (Option Value)}
    {f_Lot_contains : Addr} {oc_Lot_contains kV_Lot_contains dc_Lot_contains pm_Lot_contains cd_Lot_contains ct_Lot_contains : Value} {od_Lot_contains an_Lot_contains : Option Addr} {sl_Lot_contains : Array (Option Value)}
    {f__law_lot_of : Addr} {oc__law_lot_of kV__law_lot_of dc__law_lot_of pm__law_lot_of cd__law_lot_of ct__law_lot_of : Value} {od__law_lot_of an__law_lot_of : Option Addr} {sl__law_lot_of : Array (Option Value)}
    {f__law_in_lot : Addr} {oc__law_in_lot kV__law_in_lot dc__law_in_lot pm__law_in_lot cd__law_in_lot ct__law_in_lot : Value} {od__law_in_lot an__law_in_lot : Option Addr} {sl__law_in_lot : Array (Option Value)}
    {f__law_odd_sign : Addr} {oc__law_odd_sign kV__law_odd_sign dc__law_odd_sign pm__law_odd_sign cd__law_odd_sign ct__law_odd_sign : Value} {od__law_odd_sign an__law_odd_sign : Option Addr} {sl__law_odd_sign : Array (Option Value)}
    {f__law_change : Addr} {oc__law_change kV__law_change dc__law_change pm__law_change cd__law_change ct__law_change : Value} {od__law_change an__law_change : Option Addr} {sl__law_change : Array (Option Value)}
    {f__law_has : Addr} {oc__law_has kV__law_has dc__law_has pm__law_has cd__law_has ct__law_has : Value} {od__law_has an__law_has : Option Addr} {sl__law_has : Array (Option Value)}
    {f__law_agrees : Addr} {oc__law_agrees kV__law_agrees dc__law_agrees pm__law_agrees cd__law_agrees ct__law_agrees : Value} {od__law_agrees an__law_agrees : Option Addr} {sl__law_agrees : Array (Option Value)}
    {f__law_from_lot : Addr} {oc__law_from_lot kV__law_from_lot dc__law_from_lot pm__law_from_lot cd__law_from_lot ct__law_from_lot : Value} {od__law_from_lot an__law_from_lot : Option Addr} {sl__law_from_lot : Array (Option Value)}
    {f__law_begun : Addr} {oc__law_begun kV__law_begun dc__law_begun pm__law_begun cd__law_begun ct__law_begun : Value} {od__law_begun an__law_begun : Option Addr} {sl__law_begun : Array (Option Value)}
    {f__law_tree : Addr} {oc__law_tree kV__law_tree dc__law_tree pm__law_tree cd__law_tree ct__law_tree : Value} {od__law_tree an__law_tree : Option Addr} {sl__law_tree : Array (Option Value)}
    {f_law : Addr} {oc_law kV_law dc_law pm_law cd_law ct_law : Value} {od_law an_law : Option Addr} {sl_law : Array (Option Value)}
    (z_abs : PySem.W.nsIn K mainGlobals "abs" = some none)
    (z_bool : PySem.W.nsIn K mainGlobals "bool" = some none)
    (z_classmethod : PySem.W.nsIn K mainGlobals "classmethod" = some none)
    (z_enumerate : PySem.W.nsIn K mainGlobals "enumerate" = some none)
    (z_int : PySem.W.nsIn K mainGlobals "int" = some none)
    (z_isinstance : PySem.W.nsIn K mainGlobals "isinstance" = some none)
    (z_len : PySem.W.nsIn K mainGlobals "len" = some none)
    (z_list : PySem.W.nsIn K mainGlobals "list" = some none)
    (z_property : PySem.W.nsIn K mainGlobals "property" = some none)
    (z_range : PySem.W.nsIn K mainGlobals "range" = some none)
    (z_set : PySem.W.nsIn K mainGlobals "set" = some none)
    (z_sorted : PySem.W.nsIn K mainGlobals "sorted" = some none)
    (z_tuple : PySem.W.nsIn K mainGlobals "tuple" = some none)
    (a_SIGNS : PySem.W.nsIn K mainGlobals "SIGNS" = some (some (.str "abcdefghijklmnopqrstuvwxyz" tk_SIGNS)))
    (a_MOST_STATES : PySem.W.nsIn K mainGlobals "MOST_STATES" = some (some (.int 40 tk_MOST_STATES)))
    (a_BadSign : PySem.W.nsIn K mainGlobals "BadSign" = some (some (.ref c_BadSign)))
    (l_BadSign : K.lookup c_BadSign = some (excClassObj nm_BadSign q_BadSign c_BadSign N_BadSign bs_BadSign bm_BadSign true sn_BadSign sub_BadSign ab_BadSign col_BadSign dd_BadSign k0_BadSign k1_BadSign k2_BadSign k3_BadSign k5_BadSign "ValueError.__new__"))
    (ve_BadSign : PySem.HandSPX.refsVE bm_BadSign = true)
    (sa_BadSign : PySem.W.findIn K (.ref c_BadSign) "__setattr__" = some (some (.builtin "object.__setattr__")))
    (eb_BadSign : PySem.W.subIn K (.ref c_BadSign) (.type "BaseException") = some true)
    (ev_BadSign : PySem.W.subIn K (.ref c_BadSign) (.type "ValueError") = some true)
    (ty_BadSign : PySem.W.typeIn K (.ref c_BadSign) = some (.type "type"))
    (kc_BadSign : PySem.W.keepIn K (.ref c_BadSign) = true)
    (ga_BadSign : PySem.W.findIn K (.ref c_BadSign) "__getattribute__" = some (some (.builtin "BaseException.__getattribute__")))
    (gg_BadSign : PySem.W.findIn K (.ref c_BadSign) "__getattr__" = some none)
    (nf_BadSign : PySem.W.findIn K (.ref c_BadSign) "at" = some none)
    (hd_BadSign : PySem.W.hasDictIn K c_BadSign = true)
    (mc_BadSign : PySem.W.mroIn K c_BadSign (.ref c_BadSign) = some true)
    (si_BadSign : PySem.W.ks_superIn K c_BadSign c_BadSign "__init__" = some (some (.builtin "ValueError.__init__")))
    (i_BadSign_init : PySem.W.findIn K (.ref c_BadSign) "__init__" = some (some (.ref f_BadSign_init)))
    (t_BadSign_init : PySem.W.typeIn K (.ref f_BadSign_init) = some (.type "function"))
    (l_BadSign_init : K.lookup f_BadSign_init = some ⟨oc_BadSign_init, od_BadSign_init, .func (PySem.W.ksFn "__init__" "BadSign.__init__" (defArgs s_BadSign_init) (defBody s_BadSign_init) (defScope s_BadSign_init) .none kV_BadSign_init dc_BadSign_init pm_BadSign_init an_BadSign_init (.ref cda_BadSign_init) ct_BadSign_init cc_BadSign_init), sl_BadSign_init⟩)
    (d_BadSign_init : PySem.W.codeIn K (.ref cda_BadSign_init) "BadSign.__init__" = true)
    (e_BadSign_init : K.lookup cda_BadSign_init = some ⟨ccl_BadSign_init, cdd_BadSign_init, .fields vs_BadSign_init, cs_BadSign_init⟩)
    (v_BadSign_init : vs_BadSign_init[2]? = some (.str fl_BadSign_init tf_BadSign_init))
    (g_BadSign_init : ((prg.main.file : Str) == fl_BadSign_init) = true)
    (h_BadSign_init : K.lookup cc_BadSign_init = some ⟨cl_BadSign_init, cld_BadSign_init, .cell (some (.ref c_BadSign)), ls_BadSign_init⟩)
    (em_BadSign_BadSign : PySem.W.exmOne K (.ref c_BadSign) (.ref c_BadSign) = some true)
    (a_Useless : PySem.W.nsIn K mainGlobals "Useless" = some (some (.ref c_Useless)))
    (l_Useless : K.lookup c_Useless = some (excClassObj nm_Useless q_Useless c_Useless N_Useless bs_Useless bm_Useless true sn_Useless sub_Useless ab_Useless col_Useless dd_Useless k0_Useless k1_Useless k2_Useless k3_Useless k5_Useless "ValueError.__new__"))
    (ve_Useless : PySem.HandSPX.refsVE bm_Useless = true)
    (sa_Useless : PySem.W.findIn K (.ref c_Useless) "__setattr__" = some (some (.builtin "object.__setattr__")))
    (eb_Useless : PySem.W.subIn K (.ref c_Useless) (.type "BaseException") = some true)
    (ev_Useless : PySem.W.subIn K (.ref c_Useless) (.type "ValueError") = some true)
    (ty_Useless : PySem.W.typeIn K (.ref c_Useless) = some (.type "type"))
    (kc_Useless : PySem.W.keepIn K (.ref c_Useless) = true)
    (ga_Useless : PySem.W.findIn K (.ref c_Useless) "__getattribute__" = some (some (.builtin "BaseException.__getattribute__")))
    (gg_Useless : PySem.W.findIn K (.ref c_Useless) "__getattr__" = some none)
    (nf_Useless : PySem.W.findIn K (.ref c_Useless) "state" = some none)
    (hd_Useless : PySem.W.hasDictIn K c_Useless = true)
    (mc_Useless : PySem.W.mroIn K c_Useless (.ref c_Useless) = some true)
    (si_Useless : PySem.W.ks_superIn K c_Useless c_Useless "__init__" = some (some (.builtin "ValueError.__init__")))
    (i_Useless_init : PySem.W.findIn K (.ref c_Useless) "__init__" = some (some (.ref f_Useless_init)))
    (t_Useless_init : PySem.W.typeIn K (.ref f_Useless_init) = some (.type "function"))
    (l_Useless_init : K.lookup f_Useless_init = some ⟨oc_Useless_init, od_Useless_init, .func (PySem.W.ksFn "__init__" "Useless.__init__" (defArgs s_Useless_init) (defBody s_Useless_init) (defScope s_Useless_init) .none kV_Useless_init dc_Useless_init pm_Useless_init an_Useless_init (.ref cda_Useless_init) ct_Useless_init cc_Useless_init), sl_Useless_init⟩)
    (d_Useless_init : PySem.W.codeIn K (.ref cda_Useless_init) "Useless.__init__" = true)
    (e_Useless_init : K.lookup cda_Useless_init = some ⟨ccl_Useless_init, cdd_Useless_init, .fields vs_Useless_init, cs_Useless_init⟩)
    (v_Useless_init : vs_Useless_init[2]? = some (.str fl_Useless_init tf_Useless_init))
    (g_Useless_init : ((prg.main.file : Str) == fl_Useless_init) = true)
    (h_Useless_init : K.lookup cc_Useless_init = some ⟨cl_Useless_init, cld_Useless_init, .cell (some (.ref c_Useless)), ls_Useless_init⟩)
    (em_Useless_BadSign : PySem.W.exmOne K (.ref c_Useless) (.ref c_BadSign) = some false)
    (em_Useless_Useless : PySem.W.exmOne K (.ref c_Useless) (.ref c_Useless) = some true)
    (a_BadLot : PySem.W.nsIn K mainGlobals "BadLot" = some (some (.ref c_BadLot)))
    (o_BadLot : PySem.W.excIn K c_BadLot [.type "ValueError", .type "Exception", .type "BaseException", .type "object"] "ValueError.__new__" = true)
    (kp_BadLot : PySem.W.keepIn K (.ref c_BadLot) = true)
    (r_BadLot : PySem.W.subIn K (.ref c_BadLot) (.type "BaseException") = some true)
    (t_BadLot : PySem.W.typeIn K (.ref c_BadLot) = some (.type "type"))
    (em_BadLot_BadSign : PySem.W.exmOne K (.ref c_BadLot) (.ref c_BadSign) = some false)
    (em_BadLot_Useless : PySem.W.exmOne K (.ref c_BadLot) (.ref c_Useless) = some false)
    (em_BadLot_BadLot : PySem.W.exmOne K (.ref c_BadLot) (.ref c_BadLot) = some true)
    (em_BadSign_Useless : PySem.W.exmOne K (.ref c_BadSign) (.ref c_Useless) = some false)
    (em_BadSign_BadLot : PySem.W.exmOne K (.ref c_BadSign) (.ref c_BadLot) = some false)
    (em_Useless_BadLot : PySem.W.exmOne K (.ref c_Useless) (.ref c_BadLot) = some true)
    (z_super : PySem.W.nsIn K mainGlobals "super" = some none)
    (ops : PySem.W.nsIn K cStatics "thirdparty.any" = some none)
    (a_Lot : PySem.W.nsIn K mainGlobals "Lot" = some (some (.ref c_Lot)))
    (pg_Lot : PySem.W.plainGet K c_Lot Str.empty = true)
    (hd_Lot : PySem.W.hasDictIn K c_Lot = true)
    (po_Lot : PySem.W.plainOver K c_Lot = true)
    (sa_Lot : PySem.W.findIn K (.ref c_Lot) "__setattr__" = some (some (.builtin "object.__setattr__")))
    (mk_Lot : PySem.W.makesIn K c_Lot = true)
    (kc_Lot : PySem.W.keepIn K (.ref c_Lot) = true)
    (j0_Lot : PySem.W.findIn K (.ref c_Lot) "__class__" = some (some (.builtin "object.__class__")))
    (j1_Lot : PySem.W.specialIn K (.builtin "object.__class__") "__get__" = some (some (.builtin "getset_descriptor.__get__")))
    (j2_Lot : PySem.W.takesIn K (.builtin "object.__class__") = some true)
    (j3_Lot : PySem.W.mroIn K c_Lot (.type "object") = some true)
    (j4_Lot : PySem.W.kitOne K (.ref c_Lot) (.ref c_Lot) = some true)
    (sf_Lot : PySem.W.selfFirst K c_Lot = true)
    (na_Lot__states : PySem.W.findIn K (.ref c_Lot) "_states" = some none)
    (na_Lot__last : PySem.W.findIn K (.ref c_Lot) "_last" = some none)
    (na_Lot__moves : PySem.W.findIn K (.ref c_Lot) "_moves" = some none)
    (na_Lot__leads : PySem.W.findIn K (.ref c_Lot) "_leads" = some none)
    (a_is_sign : PySem.W.nsIn K mainGlobals "is_sign" = some (some (.ref f_is_sign)))
    (l_is_sign : K.lookup f_is_sign = some ⟨oc_is_sign, od_is_sign, .func (PySem.W.fnOf "is_sign" "is_sign" (defArgs s_is_sign) (defBody s_is_sign) (defScope s_is_sign) .none kV_is_sign dc_is_sign pm_is_sign an_is_sign cd_is_sign ct_is_sign), sl_is_sign⟩)
    (d_is_sign : PySem.W.codeIn K cd_is_sign "is_sign" = true)
    (k_is_sign : PySem.W.keepIn K (.ref f_is_sign) = true)
    (a_check_text : PySem.W.nsIn K mainGlobals "check_text" = some (some (.ref f_check_text)))
    (l_check_text : K.lookup f_check_text = some ⟨oc_check_text, od_check_text, .func (PySem.W.fnOf "check_text" "check_text" (defArgs s_check_text) (defBody s_check_text) (defScope s_check_text) .none kV_check_text dc_check_text pm_check_text an_check_text cd_check_text ct_check_text), sl_check_text⟩)
    (d_check_text : PySem.W.codeIn K cd_check_text "check_text" = true)
    (k_check_text : PySem.W.keepIn K (.ref f_check_text) = true)
    (a__check_states : PySem.W.nsIn K mainGlobals "_check_states" = some (some (.ref f__check_states)))
    (l__check_states : K.lookup f__check_states = some ⟨oc__check_states, od__check_states, .func (PySem.W.fnOf "_check_states" "_check_states" (defArgs s__check_states) (defBody s__check_states) (defScope s__check_states) .none kV__check_states dc__check_states pm__check_states an__check_states cd__check_states ct__check_states), sl__check_states⟩)
    (d__check_states : PySem.W.codeIn K cd__check_states "_check_states" = true)
    (k__check_states : PySem.W.keepIn K (.ref f__check_states) = true)
    (a__leads_of : PySem.W.nsIn K mainGlobals "_leads_of" = some (some (.ref f__leads_of)))
    (l__leads_of : K.lookup f__leads_of = some ⟨oc__leads_of, od__leads_of, .func (PySem.W.fnOf "_leads_of" "_leads_of" (defArgs s__leads_of) (defBody s__leads_of) (defScope s__leads_of) .none kV__leads_of dc__leads_of pm__leads_of an__leads_of cd__leads_of ct__leads_of), sl__leads_of⟩)
    (d__leads_of : PySem.W.codeIn K cd__leads_of "_leads_of" = true)
    (k__leads_of : PySem.W.keepIn K (.ref f__leads_of) = true)
    (a_led_to : PySem.W.nsIn K mainGlobals "led_to" = some (some (.ref f_led_to)))
    (l_led_to : K.lookup f_led_to = some ⟨oc_led_to, od_led_to, .func (PySem.W.fnOf "led_to" "led_to" (defArgs s_led_to) (defBody s_led_to) (defScope s_led_to) .none kV_led_to dc_led_to pm_led_to an_led_to cd_led_to ct_led_to), sl_led_to⟩)
    (d_led_to : PySem.W.codeIn K cd_led_to "led_to" = true)
    (k_led_to : PySem.W.keepIn K (.ref f_led_to) = true)
    (a__check_useful : PySem.W.nsIn K mainGlobals "_check_useful" = some (some (.ref f__check_useful)))
    (l__check_useful : K.lookup f__check_useful = some ⟨oc__check_useful, od__check_useful, .func (PySem.W.fnOf "_check_useful" "_check_useful" (defArgs s__check_useful) (defBody s__check_useful) (defScope s__check_useful) .none kV__check_useful dc__check_useful pm__check_useful an__check_useful cd__check_useful ct__check_useful), sl__check_useful⟩)
    (d__check_useful : PySem.W.codeIn K cd__check_useful "_check_useful" = true)
    (k__check_useful : PySem.W.keepIn K (.ref f__check_useful) = true)
    (a__beginnings_of : PySem.W.nsIn K mainGlobals "_beginnings_of" = some (some (.ref f__beginnings_of)))
    (l__beginnings_of : K.lookup f__beginnings_of = some ⟨oc__beginnings_of, od__beginnings_of, .func (PySem.W.fnOf "_beginnings_of" "_beginnings_of" (defArgs s__beginnings_of) (defBody s__beginnings_of) (defScope s__beginnings_of) .none kV__beginnings_of dc__beginnings_of pm__beginnings_of an__beginnings_of cd__beginnings_of ct__beginnings_of), sl__beginnings_of⟩)
    (d__beginnings_of : PySem.W.codeIn K cd__beginnings_of "_beginnings_of" = true)
    (k__beginnings_of : PySem.W.keepIn K (.ref f__beginnings_of) = true)
    (a_Lot_init : PySem.W.findIn K (.ref c_Lot) "__init__" = some (some (.ref f_Lot_init)))
    (i_Lot_init : PySem.W.isFn K (.ref f_Lot_init) = true)
    (l_Lot_init : K.lookup f_Lot_init = some ⟨oc_Lot_init, od_Lot_init, .func (PySem.W.fnOf "__init__" "Lot.__init__" (defArgs s_Lot_init) (defBody s_Lot_init) (defScope s_Lot_init) .none kV_Lot_init dc_Lot_init pm_Lot_init an_Lot_init cd_Lot_init ct_Lot_init), sl_Lot_init⟩)
    (d_Lot_init : PySem.W.codeIn K cd_Lot_init "Lot.__init__" = true)
    (k_Lot_init : PySem.W.keepIn K (.ref f_Lot_init) = true)
    (cr1_Lot_every : PySem.W.readsIn K c_Lot (.type "type") = true)
    (cr2_Lot_every : PySem.W.specialIn K (.ref c_Lot) "__getattribute__" = some (some (.builtin "type.__getattribute__")))
    (a_Lot_every : PySem.W.findCls K (.ref c_Lot) (.type "type") "every" = some (.get (.builtin "classmethod.__get__") (.ref p_Lot_every) .none (.ref c_Lot)))
    (pr_Lot_every : PySem.W.recIn K p_Lot_every "classmethod" = some (.ref f_Lot_every :: rs_Lot_every))
    (fi_Lot_every : PySem.W.fnIn K f_Lot_every = true)
    (l_Lot_every : K.lookup f_Lot_every = some ⟨oc_Lot_every, od_Lot_every, .func (PySem.W.fnOf "every" "Lot.every" (defArgs s_Lot_every) (defBody s_Lot_every) (defScope s_Lot_every) .none kV_Lot_every dc_Lot_every pm_Lot_every an_Lot_every cd_Lot_every ct_Lot_every), sl_Lot_every⟩)
    (d_Lot_every : PySem.W.codeIn K cd_Lot_every "Lot.every" = true)
    (k_Lot_every : PySem.W.keepIn K (.ref f_Lot_every) = true)
    (cr1_Lot_only : PySem.W.readsIn K c_Lot (.type "type") = true)
    (cr2_Lot_only : PySem.W.specialIn K (.ref c_Lot) "__getattribute__" = some (some (.builtin "type.__getattribute__")))
    (a_Lot_only : PySem.W.findCls K (.ref c_Lot) (.type "type") "only" = some (.get (.builtin "classmethod.__get__") (.ref p_Lot_only) .none (.ref c_Lot)))
    (pr_Lot_only : PySem.W.recIn K p_Lot_only "classmethod" = some (.ref f_Lot_only :: rs_Lot_only))
    (fi_Lot_only : PySem.W.fnIn K f_Lot_only = true)
    (l_Lot_only : K.lookup f_Lot_only = some ⟨oc_Lot_only, od_Lot_only, .func (PySem.W.fnOf "only" "Lot.only" (defArgs s_Lot_only) (defBody s_Lot_only) (defScope s_Lot_only) .none kV_Lot_only dc_Lot_only pm_Lot_only an_Lot_only cd_Lot_only ct_Lot_only), sl_Lot_only⟩)
    (d_Lot_only : PySem.W.codeIn K cd_Lot_only "Lot.only" = true)
    (k_Lot_only : PySem.W.keepIn K (.ref f_Lot_only) = true)
    (a_Lot_states : PySem.W.findIn K (.ref c_Lot) "states" = some (some (.ref p_Lot_states)))
    (pg_Lot_states : PySem.W.specialIn K (.ref p_Lot_states) "__get__" = some (some (.builtin "property.__get__")))
    (pt_Lot_states : PySem.W.takesIn K (.ref p_Lot_states) = some true)
    (pr_Lot_states : PySem.W.recIn K p_Lot_states "property" = some (.ref f_Lot_states :: rs_Lot_states))
    (l_Lot_states : K.lookup f_Lot_states = some ⟨oc_Lot_states, od_Lot_states, .func (PySem.W.fnOf "states" "Lot.states" (defArgs s_Lot_states) (defBody s_Lot_states) (defScope s_Lot_states) .none kV_Lot_states dc_Lot_states pm_Lot_states an_Lot_states cd_Lot_states ct_Lot_states), sl_Lot_states⟩)
    (d_Lot_states : PySem.W.codeIn K cd_Lot_states "Lot.states" = true)
    (k_Lot_states : PySem.W.keepIn K (.ref f_Lot_states) = true)
    (a_Lot_last : PySem.W.findIn K (.ref c_Lot) "last" = some (some (.ref p_Lot_last)))
    (pg_Lot_last : PySem.W.specialIn K (.ref p_Lot_last) "__get__" = some (some (.builtin "property.__get__")))
    (pt_Lot_last : PySem.W.takesIn K (.ref p_Lot_last) = some true)
    (pr_Lot_last : PySem.W.recIn K p_Lot_last "property" = some (.ref f_Lot_last :: rs_Lot_last))
    (l_Lot_last : K.lookup f_Lot_last = some ⟨oc_Lot_last, od_Lot_last, .func (PySem.W.fnOf "last" "Lot.last" (defArgs s_Lot_last) (defBody s_Lot_last) (defScope s_Lot_last) .none kV_Lot_last dc_Lot_last pm_Lot_last an_Lot_last cd_Lot_last ct_Lot_last), sl_Lot_last⟩)
    (d_Lot_last : PySem.W.codeIn K cd_Lot_last "Lot.last" = true)
    (k_Lot_last : PySem.W.keepIn K (.ref f_Lot_last) = true)
    (a_Lot_moves : PySem.W.findIn K (.ref c_Lot) "moves" = some (some (.ref p_Lot_moves)))
    (pg_Lot_moves : PySem.W.specialIn K (.ref p_Lot_moves) "__get__" = some (some (.builtin "property.__get__")))
    (pt_Lot_moves : PySem.W.takesIn K (.ref p_Lot_moves) = some true)
    (pr_Lot_moves : PySem.W.recIn K p_Lot_moves "property" = some (.ref f_Lot_moves :: rs_Lot_moves))
    (l_Lot_moves : K.lookup f_Lot_moves = some ⟨oc_Lot_moves, od_Lot_moves, .func (PySem.W.fnOf "moves" "Lot.moves" (defArgs s_Lot_moves) (defBody s_Lot_moves) (defScope s_Lot_moves) .none kV_Lot_moves dc_Lot_moves pm_Lot_moves an_Lot_moves cd_Lot_moves ct_Lot_moves), sl_Lot_moves⟩)
    (d_Lot_moves : PySem.W.codeIn K cd_Lot_moves "Lot.moves" = true)
    (k_Lot_moves : PySem.W.keepIn K (.ref f_Lot_moves) = true)
    (a__law_pool : PySem.W.nsIn K mainGlobals "_law_pool" = some (some (.ref f__law_pool)))
    (l__law_pool : K.lookup f__law_pool = some ⟨oc__law_pool, od__law_pool, .func (PySem.W.fnOf "_law_pool" "_law_pool" (defArgs s__law_pool) (defBody s__law_pool) (defScope s__law_pool) .none kV__law_pool dc__law_pool pm__law_pool an__law_pool cd__law_pool ct__law_pool), sl__law_pool⟩)
    (d__law_pool : PySem.W.codeIn K cd__law_pool "_law_pool" = true)
    (k__law_pool : PySem.W.keepIn K (.ref f__law_pool) = true)
    (a__law_pick : PySem.W.nsIn K mainGlobals "_law_pick" = some (some (.ref f__law_pick)))
    (l__law_pick : K.lookup f__law_pick = some ⟨oc__law_pick, od__law_pick, .func (PySem.W.fnOf "_law_pick" "_law_pick" (defArgs s__law_pick) (defBody s__law_pick) (defScope s__law_pick) .none kV__law_pick dc__law_pick pm__law_pick an__law_pick cd__law_pick ct__law_pick), sl__law_pick⟩)
    (d__law_pick : PySem.W.codeIn K cd__law_pick "_law_pick" = true)
    (k__law_pick : PySem.W.keepIn K (.ref f__law_pick) = true)
    (a__law_alphabet : PySem.W.nsIn K mainGlobals "_law_alphabet" = some (some (.ref f__law_alphabet)))
    (l__law_alphabet : K.lookup f__law_alphabet = some ⟨oc__law_alphabet, od__law_alphabet, .func (PySem.W.fnOf "_law_alphabet" "_law_alphabet" (defArgs s__law_alphabet) (defBody s__law_alphabet) (defScope s__law_alphabet) .none kV__law_alphabet dc__law_alphabet pm__law_alphabet an__law_alphabet cd__law_alphabet ct__law_alphabet), sl__law_alphabet⟩)
    (d__law_alphabet : PySem.W.codeIn K cd__law_alphabet "_law_alphabet" = true)
    (k__law_alphabet : PySem.W.keepIn K (.ref f__law_alphabet) = true)
    (a__law_word_of : PySem.W.nsIn K mainGlobals "_law_word_of" = some (some (.ref f__law_word_of)))
    (l__law_word_of : K.lookup f__law_word_of = some ⟨oc__law_word_of, od__law_word_of, .func (PySem.W.fnOf "_law_word_of" "_law_word_of" (defArgs s__law_word_of) (defBody s__law_word_of) (defScope s__law_word_of) .none kV__law_word_of dc__law_word_of pm__law_word_of an__law_word_of cd__law_word_of ct__law_word_of), sl__law_word_of⟩)
    (d__law_word_of : PySem.W.codeIn K cd__law_word_of "_law_word_of" = true)
    (k__law_word_of : PySem.W.keepIn K (.ref f__law_word_of) = true)
    (a__law_is_int : PySem.W.nsIn K mainGlobals "_law_is_int" = some (some (.ref f__law_is_int)))
    (l__law_is_int : K.lookup f__law_is_int = some ⟨oc__law_is_int, od__law_is_int, .func (PySem.W.fnOf "_law_is_int" "_law_is_int" (defArgs s__law_is_int) (defBody s__law_is_int) (defScope s__law_is_int) .none kV__law_is_int dc__law_is_int pm__law_is_int an__law_is_int cd__law_is_int ct__law_is_int), sl__law_is_int⟩)
    (d__law_is_int : PySem.W.codeIn K cd__law_is_int "_law_is_int" = true)
    (k__law_is_int : PySem.W.keepIn K (.ref f__law_is_int) = true)
    (a__law_led_from : PySem.W.nsIn K mainGlobals "_law_led_from" = some (some (.ref f__law_led_from)))
    (l__law_led_from : K.lookup f__law_led_from = some ⟨oc__law_led_from, od__law_led_from, .func (PySem.W.fnOf "_law_led_from" "_law_led_from" (defArgs s__law_led_from) (defBody s__law_led_from) (defScope s__law_led_from) .none kV__law_led_from dc__law_led_from pm__law_led_from an__law_led_from cd__law_led_from ct__law_led_from), sl__law_led_from⟩)
    (d__law_led_from : PySem.W.codeIn K cd__law_led_from "_law_led_from" = true)
    (k__law_led_from : PySem.W.keepIn K (.ref f__law_led_from) = true)
    (a_Lot_contains : PySem.W.findIn K (.ref c_Lot) "__contains__" = some (some (.ref f_Lot_contains)))
    (i_Lot_contains : PySem.W.isFn K (.ref f_Lot_contains) = true)
    (l_Lot_contains : K.lookup f_Lot_contains = some ⟨oc_Lot_contains, od_Lot_contains, .func (PySem.W.fnOf "__contains__" "Lot.__contains__" (defArgs s_Lot_contains) (defBody s_Lot_contains) (defScope s_Lot_contains) .none kV_Lot_contains dc_Lot_contains pm_Lot_contains an_Lot_contains cd_Lot_contains ct_Lot_contains), sl_Lot_contains⟩)
    (d_Lot_contains : PySem.W.codeIn K cd_Lot_contains "Lot.__contains__" = true)
    (k_Lot_contains : PySem.W.keepIn K (.ref f_Lot_contains) = true)
    (a__law_lot_of : PySem.W.nsIn K mainGlobals "_law_lot_of" = some (some (.ref f__law_lot_of)))
    (l__law_lot_of : K.lookup f__law_lot_of = some ⟨oc__law_lot_of, od__law_lot_of, .func (PySem.W.fnOf "_law_lot_of" "_law_lot_of" (defArgs s__law_lot_of) (defBody s__law_lot_of) (defScope s__law_lot_of) .none kV__law_lot_of dc__law_lot_of pm__law_lot_of an__law_lot_of cd__law_lot_of ct__law_lot_of), sl__law_lot_of⟩)
    (d__law_lot_of : PySem.W.codeIn K cd__law_lot_of "_law_lot_of" = true)
    (k__law_lot_of : PySem.W.keepIn K (.ref f__law_lot_of) = true)
    (a__law_in_lot : PySem.W.nsIn K mainGlobals "_law_in_lot" = some (some (.ref f__law_in_lot)))
    (l__law_in_lot : K.lookup f__law_in_lot = some ⟨oc__law_in_lot, od__law_in_lot, .func (PySem.W.fnOf "_law_in_lot" "_law_in_lot" (defArgs s__law_in_lot) (defBody s__law_in_lot) (defScope s__law_in_lot) .none kV__law_in_lot dc__law_in_lot pm__law_in_lot an__law_in_lot cd__law_in_lot ct__law_in_lot), sl__law_in_lot⟩)
    (d__law_in_lot : PySem.W.codeIn K cd__law_in_lot "_law_in_lot" = true)
    (k__law_in_lot : PySem.W.keepIn K (.ref f__law_in_lot) = true)
    (a__law_odd_sign : PySem.W.nsIn K mainGlobals "_law_odd_sign" = some (some (.ref f__law_odd_sign)))
    (l__law_odd_sign : K.lookup f__law_odd_sign = some ⟨oc__law_odd_sign, od__law_odd_sign, .func (PySem.W.fnOf "_law_odd_sign" "_law_odd_sign" (defArgs s__law_odd_sign) (defBody s__law_odd_sign) (defScope s__law_odd_sign) .none kV__law_odd_sign dc__law_odd_sign pm__law_odd_sign an__law_odd_sign cd__law_odd_sign ct__law_odd_sign), sl__law_odd_sign⟩)
    (d__law_odd_sign : PySem.W.codeIn K cd__law_odd_sign "_law_odd_sign" = true)
    (k__law_odd_sign : PySem.W.keepIn K (.ref f__law_odd_sign) = true)
    (a__law_change : PySem.W.nsIn K mainGlobals "_law_change" = some (some (.ref f__law_change)))
    (l__law_change : K.lookup f__law_change = some ⟨oc__law_change, od__law_change, .func (PySem.W.fnOf "_law_change" "_law_change" (defArgs s__law_change) (defBody s__law_change) (defScope s__law_change) .none kV__law_change dc__law_change pm__law_change an__law_change cd__law_change ct__law_change), sl__law_change⟩)
    (d__law_change : PySem.W.codeIn K cd__law_change "_law_change" = true)
    (k__law_change : PySem.W.keepIn K (.ref f__law_change) = true)
    (a__law_has : PySem.W.nsIn K mainGlobals "_law_has" = some (some (.ref f__law_has)))
    (l__law_has : K.lookup f__law_has = some ⟨oc__law_has, od__law_has, .func (PySem.W.fnOf "_law_has" "_law_has" (defArgs s__law_has) (defBody s__law_has) (defScope s__law_has) .none kV__law_has dc__law_has pm__law_has an__law_has cd__law_has ct__law_has), sl__law_has⟩)
    (d__law_has : PySem.W.codeIn K cd__law_has "_law_has" = true)
    (k__law_has : PySem.W.keepIn K (.ref f__law_has) = true)
    (a__law_agrees : PySem.W.nsIn K mainGlobals "_law_agrees" = some (some (.ref f__law_agrees)))
    (l__law_agrees : K.lookup f__law_agrees = some ⟨oc__law_agrees, od__law_agrees, .func (PySem.W.fnOf "_law_agrees" "_law_agrees" (defArgs s__law_agrees) (defBody s__law_agrees) (defScope s__law_agrees) .none kV__law_agrees dc__law_agrees pm__law_agrees an__law_agrees cd__law_agrees ct__law_agrees), sl__law_agrees⟩)
    (d__law_agrees : PySem.W.codeIn K cd__law_agrees "_law_agrees" = true)
    (k__law_agrees : PySem.W.keepIn K (.ref f__law_agrees) = true)
    (a__law_from_lot : PySem.W.nsIn K mainGlobals "_law_from_lot" = some (some (.ref f__law_from_lot)))
    (l__law_from_lot : K.lookup f__law_from_lot = some ⟨oc__law_from_lot, od__law_from_lot, .func (PySem.W.fnOf "_law_from_lot" "_law_from_lot" (defArgs s__law_from_lot) (defBody s__law_from_lot) (defScope s__law_from_lot) .none kV__law_from_lot dc__law_from_lot pm__law_from_lot an__law_from_lot cd__law_from_lot ct__law_from_lot), sl__law_from_lot⟩)
    (d__law_from_lot : PySem.W.codeIn K cd__law_from_lot "_law_from_lot" = true)
    (k__law_from_lot : PySem.W.keepIn K (.ref f__law_from_lot) = true)
    (a__law_begun : PySem.W.nsIn K mainGlobals "_law_begun" = some (some (.ref f__law_begun)))
    (l__law_begun : K.lookup f__law_begun = some ⟨oc__law_begun, od__law_begun, .func (PySem.W.fnOf "_law_begun" "_law_begun" (defArgs s__law_begun) (defBody s__law_begun) (defScope s__law_begun) .none kV__law_begun dc__law_begun pm__law_begun an__law_begun cd__law_begun ct__law_begun), sl__law_begun⟩)
    (d__law_begun : PySem.W.codeIn K cd__law_begun "_law_begun" = true)
    (k__law_begun : PySem.W.keepIn K (.ref f__law_begun) = true)
    (a__law_tree : PySem.W.nsIn K mainGlobals "_law_tree" = some (some (.ref f__law_tree)))
    (l__law_tree : K.lookup f__law_tree = some ⟨oc__law_tree, od__law_tree, .func (PySem.W.fnOf "_law_tree" "_law_tree" (defArgs s__law_tree) (defBody s__law_tree) (defScope s__law_tree) .none kV__law_tree dc__law_tree pm__law_tree an__law_tree cd__law_tree ct__law_tree), sl__law_tree⟩)
    (d__law_tree : PySem.W.codeIn K cd__law_tree "_law_tree" = true)
    (k__law_tree : PySem.W.keepIn K (.ref f__law_tree) = true)
    (a_law : PySem.W.nsIn K mainGlobals "law" = some (some (.ref f_law)))
    (l_law : K.lookup f_law = some ⟨oc_law, od_law, .func (PySem.W.fnOf "law" "law" (defArgs s_law) (defBody s_law) (defScope s_law) .none kV_law dc_law pm_law an_law cd_law ct_law), sl_law⟩)
    (d_law : PySem.W.codeIn K cd_law "law" = true)
    (k_law : PySem.W.keepIn K (.ref f_law) = true)
    : ∃ fd : FuncData, (∀ (s : Shared) (u : Value), BindsTo s fd ⟨[u], []⟩ [("_law_script", u)]) ∧ ∀ base : Heap, K.In base → base.Ns mainGlobals mg → FnOk prg w K mg base (L2.CX prg w) 14 fa fd ["_law_script"] (spLaw K) := by
  have e := hfa.symm.trans (PySem.W.mg_of X G a_law)
  have e2 : f_law = fa := by cases e; rfl
  subst e2
  let T : Txt K mg := {
    n_abs := PySem.W.mg_none_of X G z_abs
    n_bool := PySem.W.mg_none_of X G z_bool
    n_classmethod := PySem.W.mg_none_of X G z_classmethod
    n_enumerate := PySem.W.mg_none_of X G z_enumerate
    n_int := PySem.W.mg_none_of X G z_int
    n_isinstance := PySem.W.mg_none_of X G z_isinstance
    n_len := PySem.W.mg_none_of X G z_len
    n_list := PySem.W.mg_none_of X G z_list
    n_property := PySem.W.mg_none_of X G z_property
    n_range := PySem.W.mg_none_of X G z_range
    n_set := PySem.W.mg_none_of X G z_set
    n_sorted := PySem.W.mg_none_of X G z_sorted
    n_tuple := PySem.W.mg_none_of X G z_tuple
    k_SIGNS := ⟨_, PySem.W.mg_of X G a_SIGNS⟩
    k_MOST_STATES := ⟨_, PySem.W.mg_of X G a_MOST_STATES⟩
    c_BadSign := c_BadSign
    m_BadSign := PySem.W.mg_of X G a_BadSign
    o_BadSign := ⟨⟨nm_BadSign, q_BadSign, N_BadSign, bs_BadSign, bm_BadSign, sn_BadSign, sub_BadSign, ab_BadSign, col_BadSign, dd_BadSign, k0_BadSign, k1_BadSign, k2_BadSign, k3_BadSign, k5_BadSign, l_BadSign, ve_BadSign⟩, sa_BadSign, eb_BadSign, ty_BadSign, kc_BadSign⟩
    x_BadSign := ⟨⟨ga_BadSign, gg_BadSign, eb_BadSign, hd_BadSign⟩, nf_BadSign⟩
    f_BadSign_init := f_BadSign_init
    fd_BadSign_init := _
    i_BadSign := i_BadSign_init
    t_BadSign := t_BadSign_init
    F_BadSign_init := ⟨⟨_, _, _, _, _, _, _, _, _, _, _, _, _, _, _, _, _, _, _, _, rfl, l_BadSign_init, d_BadSign_init, e_BadSign_init, v_BadSign_init, g_BadSign_init, h_BadSign_init⟩, ops, PySem.W.mg_none_of X G z_super, si_BadSign, ev_BadSign, mc_BadSign, nf_BadSign, by rfl⟩
    b_BadSign_init := .all fun us hl => match us, hl with | [_, _], _ => rfl
    em_BadSign_BadSign := em_BadSign_BadSign
    c_Useless := c_Useless
    m_Useless := PySem.W.mg_of X G a_Useless
    o_Useless := ⟨⟨nm_Useless, q_Useless, N_Useless, bs_Useless, bm_Useless, sn_Useless, sub_Useless, ab_Useless, col_Useless, dd_Useless, k0_Useless, k1_Useless, k2_Useless, k3_Useless, k5_Useless, l_Useless, ve_Useless⟩, sa_Useless, eb_Useless, ty_Useless, kc_Useless⟩
    x_Useless := ⟨⟨ga_Useless, gg_Useless, eb_Useless, hd_Useless⟩, nf_Useless⟩
    f_Useless_init := f_Useless_init
    fd_Useless_init := _
    i_Useless := i_Useless_init
    t_Useless := t_Useless_init
    F_Useless_init := ⟨⟨_, _, _, _, _, _, _, _, _, _, _, _, _, _, _, _, _, _, _, _, rfl, l_Useless_init, d_Useless_init, e_Useless_init, v_Useless_init, g_Useless_init, h_Useless_init⟩, ops, PySem.W.mg_none_of X G z_super, si_Useless, ev_Useless, mc_Useless, nf_Useless, by rfl⟩
    b_Useless_init := .all fun us hl => match us, hl with | [_, _], _ => rfl
    em_Useless_BadSign := em_Useless_BadSign
    em_Useless_Useless := em_Useless_Useless
    c_BadLot := c_BadLot
    m_BadLot := PySem.W.mg_of X G a_BadLot
    o_BadLot := o_BadLot
    kp_BadLot := kp_BadLot
    r_BadLot := r_BadLot
    t_BadLot := t_BadLot
    em_BadLot_BadSign := em_BadLot_BadSign
    em_BadLot_Useless := em_BadLot_Useless
    em_BadLot_BadLot := em_BadLot_BadLot
    em_BadSign_Useless := em_BadSign_Useless
    em_BadSign_BadLot := em_BadSign_BadLot
    em_Useless_BadLot := em_Useless_BadLot
    c_Lot := c_Lot
    m_Lot := PySem.W.mg_of X G a_Lot
    cl_Lot := ⟨pg_Lot, hd_Lot, po_Lot, sa_Lot⟩
    mk_Lot := mk_Lot
    kp_Lot := kc_Lot
    is_Lot := ⟨⟨pg_Lot, hd_Lot, po_Lot, sa_Lot⟩, j0_Lot, j1_Lot, j2_Lot, j3_Lot, j4_Lot⟩
    sf_Lot := sf_Lot
    na_Lot__states := na_Lot__states
    na_Lot__last := na_Lot__last
    na_Lot__moves := na_Lot__moves
    na_Lot__leads := na_Lot__leads
    f_is_sign := f_is_sign
    fd_is_sign := PySem.W.fnOf "is_sign" "is_sign" (defArgs s_is_sign) (defBody s_is_sign) (defScope s_is_sign) .none kV_is_sign dc_is_sign pm_is_sign an_is_sign cd_is_sign ct_is_sign
    F_is_sign := fun_mk (st := s_is_sign) l_is_sign d_is_sign k_is_sign
    b_is_sign := (fun_mk (st := s_is_sign) l_is_sign d_is_sign k_is_sign).binds (ps := P_is_sign) fun _ _ _ _ _ _ us hl => match us, hl with | [_], _ => rfl
    m_is_sign := PySem.W.mg_of X G a_is_sign
    f_check_text := f_check_text
    fd_check_text := PySem.W.fnOf "check_text" "check_text" (defArgs s_check_text) (defBody s_check_text) (defScope s_check_text) .none kV_check_text dc_check_text pm_check_text an_check_text cd_check_text ct_check_text
    F_check_text := fun_mk (st := s_check_text) l_check_text d_check_text k_check_text
    b_check_text := (fun_mk (st := s_check_text) l_check_text d_check_text k_check_text).binds (ps := P_check_text) fun _ _ _ _ _ _ us hl => match us, hl with | [_], _ => rfl
    m_check_text := PySem.W.mg_of X G a_check_text
    f__check_states := f__check_states
    fd__check_states := PySem.W.fnOf "_check_states" "_check_states" (defArgs s__check_states) (defBody s__check_states) (defScope s__check_states) .none kV__check_states dc__check_states pm__check_states an__check_states cd__check_states ct__check_states
    F__check_states := fun_mk (st := s__check_states) l__check_states d__check_states k__check_states
    b__check_states := (fun_mk (st := s__check_states) l__check_states d__check_states k__check_states).binds (ps := P__check_states) fun _ _ _ _ _ _ us hl => match us, hl with | [_, _, _], _ => rfl
    m__check_states := PySem.W.mg_of X G a__check_states
    f__leads_of := f__leads_of
    fd__leads_of := PySem.W.fnOf "_leads_of" "_leads_of" (defArgs s__leads_of) (defBody s__leads_of) (defScope s__leads_of) .none kV__leads_of dc__leads_of pm__leads_of an__leads_of cd__leads_of ct__leads_of
    F__leads_of := fun_mk (st := s__leads_of) l__leads_of d__leads_of k__leads_of
    b__leads_of := (fun_mk (st := s__leads_of) l__leads_of d__leads_of k__leads_of).binds (ps := P__leads_of) fun _ _ _ _ _ _ us hl => match us, hl with | [_], _ => rfl
    m__leads_of := PySem.W.mg_of X G a__leads_of
    f_led_to := f_led_to
    fd_led_to := PySem.W.fnOf "led_to" "led_to" (defArgs s_led_to) (defBody s_led_to) (defScope s_led_to) .none kV_led_to dc_led_to pm_led_to an_led_to cd_led_to ct_led_to
    F_led_to := fun_mk (st := s_led_to) l_led_to d_led_to k_led_to
    b_led_to := (fun_mk (st := s_led_to) l_led_to d_led_to k_led_to).binds (ps := P_led_to) fun _ _ _ _ _ _ us hl => match us, hl with | [_, _], _ => rfl
    m_led_to := PySem.W.mg_of X G a_led_to
    f__check_useful := f__check_useful
    fd__check_useful := PySem.W.fnOf "_check_useful" "_check_useful" (defArgs s__check_useful) (defBody s__check_useful) (defScope s__check_useful) .none kV__check_useful dc__check_useful pm__check_useful an__check_useful cd__check_useful ct__check_useful
    F__check_useful := fun_mk (st := s__check_useful) l__check_useful d__check_useful k__check_useful
    b__check_useful := (fun_mk (st := s__check_useful) l__check_useful d__check_useful k__check_useful).binds (ps := P__check_useful) fun _ _ _ _ _ _ us hl => match us, hl with | [_, _, _], _ => rfl
    m__check_useful := PySem.W.mg_of X G a__check_useful
    f__beginnings_of := f__beginnings_of
    fd__beginnings_of := PySem.W.fnOf "_beginnings_of" "_beginnings_of" (defArgs s__beginnings_of) (defBody s__beginnings_of) (defScope s__beginnings_of) .none kV__beginnings_of dc__beginnings_of pm__beginnings_of an__beginnings_of cd__beginnings_of ct__beginnings_of
    F__beginnings_of := fun_mk (st := s__beginnings_of) l__beginnings_of d__beginnings_of k__beginnings_of
    b__beginnings_of := (fun_mk (st := s__beginnings_of) l__beginnings_of d__beginnings_of k__beginnings_of).binds (ps := P__beginnings_of) fun _ _ _ _ _ _ us hl => match us, hl with | [_], _ => rfl
    m__beginnings_of := PySem.W.mg_of X G a__beginnings_of
    f_Lot_init := f_Lot_init
    fd_Lot_init := PySem.W.fnOf "__init__" "Lot.__init__" (defArgs s_Lot_init) (defBody s_Lot_init) (defScope s_Lot_init) .none kV_Lot_init dc_Lot_init pm_Lot_init an_Lot_init cd_Lot_init ct_Lot_init
    F_Lot_init := fun_mk (st := s_Lot_init) l_Lot_init d_Lot_init k_Lot_init
    b_Lot_init := (fun_mk (st := s_Lot_init) l_Lot_init d_Lot_init k_Lot_init).binds (ps := P_Lot_init) fun _ _ _ _ _ _ us hl => match us, hl with | [_, _, _, _], _ => rfl
    M_Lot_init := ⟨a_Lot_init, i_Lot_init, k_Lot_init⟩
    f_Lot_every := f_Lot_every
    fd_Lot_every := PySem.W.fnOf "every" "Lot.every" (defArgs s_Lot_every) (defBody s_Lot_every) (defScope s_Lot_every) .none kV_Lot_every dc_Lot_every pm_Lot_every an_Lot_every cd_Lot_every ct_Lot_every
    F_Lot_every := fun_mk (st := s_Lot_every) l_Lot_every d_Lot_every k_Lot_every
    b_Lot_every := (fun_mk (st := s_Lot_every) l_Lot_every d_Lot_every k_Lot_every).binds (ps := P_Lot_every) fun _ _ _ _ _ _ us hl => match us, hl with | [_, _], _ => rfl
    p_Lot_every := p_Lot_every
    cr_Lot_every := ⟨cr1_Lot_every, cr2_Lot_every⟩
    M_Lot_every := ⟨a_Lot_every, ⟨_, pr_Lot_every⟩, fi_Lot_every⟩
    f_Lot_only := f_Lot_only
    fd_Lot_only := PySem.W.fnOf "only" "Lot.only" (defArgs s_Lot_only) (defBody s_Lot_only) (defScope s_Lot_only) .none kV_Lot_only dc_Lot_only pm_Lot_only an_Lot_only cd_Lot_only ct_Lot_only
    F_Lot_only := fun_mk (st := s_Lot_only) l_Lot_only d_Lot_only k_Lot_only
    p_Lot_only := p_Lot_only
    cr_Lot_only := ⟨cr1_Lot_only, cr2_Lot_only⟩
    M_Lot_only := ⟨a_Lot_only, ⟨_, pr_Lot_only⟩, fi_Lot_only⟩
    f_Lot_states := f_Lot_states
    fd_Lot_states := PySem.W.fnOf "states" "Lot.states" (defArgs s_Lot_states) (defBody s_Lot_states) (defScope s_Lot_states) .none kV_Lot_states dc_Lot_states pm_Lot_states an_Lot_states cd_Lot_states ct_Lot_states
    F_Lot_states := fun_mk (st := s_Lot_states) l_Lot_states d_Lot_states k_Lot_states
    b_Lot_states := (fun_mk (st := s_Lot_states) l_Lot_states d_Lot_states k_Lot_states).binds (ps := P_Lot_states) fun _ _ _ _ _ _ us hl => match us, hl with | [_], _ => rfl
    p_Lot_states := p_Lot_states
    M_Lot_states := ⟨a_Lot_states, pg_Lot_states, pt_Lot_states, ⟨_, pr_Lot_states⟩⟩
    f_Lot_last := f_Lot_last
    fd_Lot_last := PySem.W.fnOf "last" "Lot.last" (defArgs s_Lot_last) (defBody s_Lot_last) (defScope s_Lot_last) .none kV_Lot_last dc_Lot_last pm_Lot_last an_Lot_last cd_Lot_last ct_Lot_last
    F_Lot_last := fun_mk (st := s_Lot_last) l_Lot_last d_Lot_last k_Lot_last
    b_Lot_last := (fun_mk (st := s_Lot_last) l_Lot_last d_Lot_last k_Lot_last).binds (ps := P_Lot_last) fun _ _ _ _ _ _ us hl => match us, hl with | [_], _ => rfl
    p_Lot_last := p_Lot_last
    M_Lot_last := ⟨a_Lot_last, pg_Lot_last, pt_Lot_last, ⟨_, pr_Lot_last⟩⟩
    f_Lot_moves := f_Lot_moves
    fd_Lot_moves := PySem.W.fnOf "moves" "Lot.moves" (defArgs s_Lot_moves) (defBody s_Lot_moves) (defScope s_Lot_moves) .none kV_Lot_moves dc_Lot_moves pm_Lot_moves an_Lot_moves cd_Lot_moves ct_Lot_moves
    F_Lot_moves := fun_mk (st := s_Lot_moves) l_Lot_moves d_Lot_moves k_Lot_moves
    b_Lot_moves := (fun_mk (st := s_Lot_moves) l_Lot_moves d_Lot_moves k_Lot_moves).binds (ps := P_Lot_moves) fun _ _ _ _ _ _ us hl => match us, hl with | [_], _ => rfl
    p_Lot_moves := p_Lot_moves
    M_Lot_moves := ⟨a_Lot_moves, pg_Lot_moves, pt_Lot_moves, ⟨_, pr_Lot_moves⟩⟩
    f__law_pool := f__law_pool
    fd__law_pool := PySem.W.fnOf "_law_pool" "_law_pool" (defArgs s__law_pool) (defBody s__law_pool) (defScope s__law_pool) .none kV__law_pool dc__law_pool pm__law_pool an__law_pool cd__law_pool ct__law_pool
    F__law_pool := fun_mk (st := s__law_pool) l__law_pool d__law_pool k__law_pool
    b__law_pool := (fun_mk (st := s__law_pool) l__law_pool d__law_pool k__law_pool).binds (ps := P__law_pool) fun _ _ _ _ _ _ us hl => match us, hl with | [_], _ => rfl
    m__law_pool := PySem.W.mg_of X G a__law_pool
    f__law_pick := f__law_pick
    fd__law_pick := PySem.W.fnOf "_law_pick" "_law_pick" (defArgs s__law_pick) (defBody s__law_pick) (defScope s__law_pick) .none kV__law_pick dc__law_pick pm__law_pick an__law_pick cd__law_pick ct__law_pick
    F__law_pick := fun_mk (st := s__law_pick) l__law_pick d__law_pick k__law_pick
    b__law_pick := (fun_mk (st := s__law_pick) l__law_pick d__law_pick k__law_pick).binds (ps := P__law_pick) fun _ _ _ _ _ _ us hl => match us, hl with | [_, _], _ => rfl
    m__law_pick := PySem.W.mg_of X G a__law_pick
    f__law_alphabet := f__law_alphabet
    fd__law_alphabet := PySem.W.fnOf "_law_alphabet" "_law_alphabet" (defArgs s__law_alphabet) (defBody s__law_alphabet) (defScope s__law_alphabet) .none kV__law_alphabet dc__law_alphabet pm__law_alphabet an__law_alphabet cd__law_alphabet ct__law_alphabet
    F__law_alphabet := fun_mk (st := s__law_alphabet) l__law_alphabet d__law_alphabet k__law_alphabet
    b__law_alphabet := (fun_mk (st := s__law_alphabet) l__law_alphabet d__law_alphabet k__law_alphabet).binds (ps := P__law_alphabet) fun _ _ _ _ _ _ us hl => match us, hl with | [_, _], _ => rfl
    m__law_alphabet := PySem.W.mg_of X G a__law_alphabet
    f__law_word_of := f__law_word_of
    fd__law_word_of := PySem.W.fnOf "_law_word_of" "_law_word_of" (defArgs s__law_word_of) (defBody s__law_word_of) (defScope s__law_word_of) .none kV__law_word_of dc__law_word_of pm__law_word_of an__law_word_of cd__law_word_of ct__law_word_of
    F__law_word_of := fun_mk (st := s__law_word_of) l__law_word_of d__law_word_of k__law_word_of
    b__law_word_of := (fun_mk (st := s__law_word_of) l__law_word_of d__law_word_of k__law_word_of).binds (ps := P__law_word_of) fun _ _ _ _ _ _ us hl => match us, hl with | [_, _, _, _], _ => rfl
    m__law_word_of := PySem.W.mg_of X G a__law_word_of
    f__law_is_int := f__law_is_int
    fd__law_is_int := PySem.W.fnOf "_law_is_int" "_law_is_int" (defArgs s__law_is_int) (defBody s__law_is_int) (defScope s__law_is_int) .none kV__law_is_int dc__law_is_int pm__law_is_int an__law_is_int cd__law_is_int ct__law_is_int
    F__law_is_int := fun_mk (st := s__law_is_int) l__law_is_int d__law_is_int k__law_is_int
    b__law_is_int := (fun_mk (st := s__law_is_int) l__law_is_int d__law_is_int k__law_is_int).binds (ps := P__law_is_int) fun _ _ _ _ _ _ us hl => match us, hl with | [_], _ => rfl
    m__law_is_int := PySem.W.mg_of X G a__law_is_int
    f__law_led_from := f__law_led_from
    fd__law_led_from := PySem.W.fnOf "_law_led_from" "_law_led_from" (defArgs s__law_led_from) (defBody s__law_led_from) (defScope s__law_led_from) .none kV__law_led_from dc__law_led_from pm__law_led_from an__law_led_from cd__law_led_from ct__law_led_from
    F__law_led_from := fun_mk (st := s__law_led_from) l__law_led_from d__law_led_from k__law_led_from
    b__law_led_from := (fun_mk (st := s__law_led_from) l__law_led_from d__law_led_from k__law_led_from).binds (ps := P__law_led_from) fun _ _ _ _ _ _ us hl => match us, hl with | [_, _], _ => rfl
    m__law_led_from := PySem.W.mg_of X G a__law_led_from
    f_Lot_contains := f_Lot_contains
    fd_Lot_contains := PySem.W.fnOf "__contains__" "Lot.__contains__" (defArgs s_Lot_contains) (defBody s_Lot_contains) (defScope s_Lot_contains) .none kV_Lot_contains dc_Lot_contains pm_Lot_contains an_Lot_contains cd_Lot_contains ct_Lot_contains
    F_Lot_contains := fun_mk (st := s_Lot_contains) l_Lot_contains d_Lot_contains k_Lot_contains
    b_Lot_contains := (fun_mk (st := s_Lot_contains) l_Lot_contains d_Lot_contains k_Lot_contains).binds (ps := P_Lot_contains) fun _ _ _ _ _ _ us hl => match us, hl with | [_, _], _ => rfl
    M_Lot_contains := ⟨a_Lot_contains, i_Lot_contains, k_Lot_contains⟩
    f__law_lot_of := f__law_lot_of
    fd__law_lot_of := PySem.W.fnOf "_law_lot_of" "_law_lot_of" (defArgs s__law_lot_of) (defBody s__law_lot_of) (defScope s__law_lot_of) .none kV__law_lot_of dc__law_lot_of pm__law_lot_of an__law_lot_of cd__law_lot_of ct__law_lot_of
    F__law_lot_of := fun_mk (st := s__law_lot_of) l__law_lot_of d__law_lot_of k__law_lot_of
    b__law_lot_of := (fun_mk (st := s__law_lot_of) l__law_lot_of d__law_lot_of k__law_lot_of).binds (ps := P__law_lot_of) fun _ _ _ _ _ _ us hl => match us, hl with | [_, _], _ => rfl
    m__law_lot_of := PySem.W.mg_of X G a__law_lot_of
    f__law_in_lot := f__law_in_lot
    fd__law_in_lot := PySem.W.fnOf "_law_in_lot" "_law_in_lot" (defArgs s__law_in_lot) (defBody s__law_in_lot) (defScope s__law_in_lot) .none kV__law_in_lot dc__law_in_lot pm__law_in_lot an__law_in_lot cd__law_in_lot ct__law_in_lot
    F__law_in_lot := fun_mk (st := s__law_in_lot) l__law_in_lot d__law_in_lot k__law_in_lot
    b__law_in_lot := (fun_mk (st := s__law_in_lot) l__law_in_lot d__law_in_lot k__law_in_lot).binds (ps := P__law_in_lot) fun _ _ _ _ _ _ us hl => match us, hl with | [_, _], _ => rfl
    m__law_in_lot := PySem.W.mg_of X G a__law_in_lot
    f__law_odd_sign := f__law_odd_sign
    fd__law_odd_sign := PySem.W.fnOf "_law_odd_sign" "_law_odd_sign" (defArgs s__law_odd_sign) (defBody s__law_odd_sign) (defScope s__law_odd_sign) .none kV__law_odd_sign dc__law_odd_sign pm__law_odd_sign an__law_odd_sign cd__law_odd_sign ct__law_odd_sign
    F__law_odd_sign := fun_mk (st := s__law_odd_sign) l__law_odd_sign d__law_odd_sign k__law_odd_sign
    b__law_odd_sign := (fun_mk (st := s__law_odd_sign) l__law_odd_sign d__law_odd_sign k__law_odd_sign).binds (ps := P__law_odd_sign) fun _ _ _ _ _ _ us hl => match us, hl with | [_], _ => rfl
    m__law_odd_sign := PySem.W.mg_of X G a__law_odd_sign
    f__law_change := f__law_change
    fd__law_change := PySem.W.fnOf "_law_change" "_law_change" (defArgs s__law_change) (defBody s__law_change) (defScope s__law_change) .none kV__law_change dc__law_change pm__law_change an__law_change cd__law_change ct__law_change
    F__law_change := fun_mk (st := s__law_change) l__law_change d__law_change k__law_change
    b__law_change := (fun_mk (st := s__law_change) l__law_change d__law_change k__law_change).binds (ps := P__law_change) fun _ _ _ _ _ _ us hl => match us, hl with | [_, _, _], _ => rfl
    m__law_change := PySem.W.mg_of X G a__law_change
    f__law_has := f__law_has
    fd__law_has := PySem.W.fnOf "_law_has" "_law_has" (defArgs s__law_has) (defBody s__law_has) (defScope s__law_has) .none kV__law_has dc__law_has pm__law_has an__law_has cd__law_has ct__law_has
    F__law_has := fun_mk (st := s__law_has) l__law_has d__law_has k__law_has
    b__law_has := (fun_mk (st := s__law_has) l__law_has d__law_has k__law_has).binds (ps := P__law_has) fun _ _ _ _ _ _ us hl => match us, hl with | [_, _], _ => rfl
    m__law_has := PySem.W.mg_of X G a__law_has
    f__law_agrees := f__law_agrees
    fd__law_agrees := PySem.W.fnOf "_law_agrees" "_law_agrees" (defArgs s__law_agrees) (defBody s__law_agrees) (defScope s__law_agrees) .none kV__law_agrees dc__law_agrees pm__law_agrees an__law_agrees cd__law_agrees ct__law_agrees
    F__law_agrees := fun_mk (st := s__law_agrees) l__law_agrees d__law_agrees k__law_agrees
    b__law_agrees := (fun_mk (st := s__law_agrees) l__law_agrees d__law_agrees k__law_agrees).binds (ps := P__law_agrees) fun _ _ _ _ _ _ us hl => match us, hl with | [_, _, _], _ => rfl
    m__law_agrees := PySem.W.mg_of X G a__law_agrees
    f__law_from_lot := f__law_from_lot
    fd__law_from_lot := PySem.W.fnOf "_law_from_lot" "_law_from_lot" (defArgs s__law_from_lot) (defBody s__law_from_lot) (defScope s__law_from_lot) .none kV__law_from_lot dc__law_from_lot pm__law_from_lot an__law_from_lot cd__law_from_lot ct__law_from_lot
    F__law_from_lot := fun_mk (st := s__law_from_lot) l__law_from_lot d__law_from_lot k__law_from_lot
    b__law_from_lot := (fun_mk (st := s__law_from_lot) l__law_from_lot d__law_from_lot k__law_from_lot).binds (ps := P__law_from_lot) fun _ _ _ _ _ _ us hl => match us, hl with | [_, _, _], _ => rfl
    m__law_from_lot := PySem.W.mg_of X G a__law_from_lot
    f__law_begun := f__law_begun
    fd__law_begun := PySem.W.fnOf "_law_begun" "_law_begun" (defArgs s__law_begun) (defBody s__law_begun) (defScope s__law_begun) .none kV__law_begun dc__law_begun pm__law_begun an__law_begun cd__law_begun ct__law_begun
    F__law_begun := fun_mk (st := s__law_begun) l__law_begun d__law_begun k__law_begun
    b__law_begun := (fun_mk (st := s__law_begun) l__law_begun d__law_begun k__law_begun).binds (ps := P__law_begun) fun _ _ _ _ _ _ us hl => match us, hl with | [_], _ => rfl
    m__law_begun := PySem.W.mg_of X G a__law_begun
    f__law_tree := f__law_tree
    fd__law_tree := PySem.W.fnOf "_law_tree" "_law_tree" (defArgs s__law_tree) (defBody s__law_tree) (defScope s__law_tree) .none kV__law_tree dc__law_tree pm__law_tree an__law_tree cd__law_tree ct__law_tree
    F__law_tree := fun_mk (st := s__law_tree) l__law_tree d__law_tree k__law_tree
    b__law_tree := (fun_mk (st := s__law_tree) l__law_tree d__law_tree k__law_tree).binds (ps := P__law_tree) fun _ _ _ _ _ _ us hl => match us, hl with | [_], _ => rfl
    m__law_tree := PySem.W.mg_of X G a__law_tree
    f_law := f_law
    fd_law := PySem.W.fnOf "law" "law" (defArgs s_law) (defBody s_law) (defScope s_law) .none kV_law dc_law pm_law an_law cd_law ct_law
    F_law := fun_mk (st := s_law) l_law d_law k_law
    b_law := (fun_mk (st := s_law) l_law d_law k_law).binds (ps := P_law) fun _ _ _ _ _ _ us hl => match us, hl with | [_], _ => rfl
    m_law := PySem.W.mg_of X G a_law
  }
  exact ⟨T.fd_law, fun s v => .of_eq rfl, fun base _ _ => ok_law T⟩
theorem walk {l : PySem.W.OpenLaw} {q : Program} {loose : List Str} {XP : (Str → Option Value) → Heap → Prop} {YP : World → Heap → Prop} {d : DefRec} {K : Params → PySem.W.Frag} (hn : l.most = some 63) (hdf : d.params.defaults = []) (hp : l.prog = prg)
    (hY : ∀ (w : World) (h : Heap), YP w h → (K w.params).In h)
    (F : ∀ (w : World) (mg : Str → Option Value) (fa : Addr) (h : Heap), (K w.params).In h → h.Ns mainGlobals mg → mg d.name = some (.ref fa) →
      ∃ fd : FuncData, (∀ (s : Shared) (u : Value), BindsTo s fd ⟨[u], []⟩ [("_law_script", u)]) ∧ ∀ base : Heap, (K w.params).In base → base.Ns mainGlobals mg → FnOk prg w (K w.params) mg base (L2.CX prg w) 14 fa fd ["_law_script"] (spLaw (K w.params))) :
    PySem.W.WalkO q loose XP YP l.row.toRowW d [] (fun f vs => PySem.call f vs) :=
  L2.walk_of (n := 63) (k := 14) (x := "_law_script") (CX := fun w => L2.CX prg w) (sp := fun w => spLaw (K w.params)) hn (by decide) hdf ⟨rfl, by decide, by decide⟩ hY (by rw [hp]; exact F) (fun _ _ a ns hl _ hS => ⟨a, ns, rfl, hS, hl, fun _ => rfl⟩) fun w H s e s' z => no_cx w H s e s' z
end Rz
open PySem PySem.W PyProof.Rows in
set_option maxRecDepth 100000 in
set_option maxHeartbeats 0 in
theorem PySem.Challenge.cw_risensigns_k14_lot_texts_holds : PySem.Challenge.rw_risensigns_k14_lot_texts.Holds := by
  w_on; o_law; k_head; (case hw => w_witness2)
  k_fill
  refine Rz.walk (l := PySem.Challenge.rw_risensigns_k14_lot_texts) rfl rfl rfl (fun w h Y => PySem.W.kIn_of Y) ?F
  case F =>
    intro w mg fa h KX G hmg
    refine' Rz.all_mk KX G hmg ?z_abs ?z_bool ?z_classmethod ?z_enumerate ?z_int ?z_isinstance ?z_len ?z_list ?z_property ?z_range ?z_set ?z_sorted ?z_tuple ?a_SIGNS ?a_MOST_STATES ?a_BadSign ?l_BadSign ?ve_BadSign ?sa_BadSign ?eb_BadSign ?ev_BadSign ?ty_BadSign ?kc_BadSign ?ga_BadSign ?gg_BadSign ?nf_BadSign ?hd_BadSign ?mc_BadSign ?si_BadSign ?i_BadSign_init ?t_BadSign_init ?l_BadSign_init ?d_BadSign_init ?e_BadSign_init ?v_BadSign_init ?g_BadSign_init ?h_BadSign_init ?em_BadSign_BadSign ?a_Useless ?l_Useless ?ve_Useless ?sa_Useless ?eb_Useless ?ev_Useless ?ty_Useless ?kc_Useless ?ga_Useless ?gg_Useless ?nf_Useless ?hd_Useless ?mc_Useless ?si_Useless ?i_Useless_init ?t_Useless_init ?l_Useless_init ?d_Useless_init ?e_Useless_init ?v_Useless_init ?g_Useless_init ?h_Useless_init ?em_Useless_BadSign ?em_Useless_Useless ?a_BadLot ?o_BadLot ?kp_BadLot ?r_BadLot ?t_BadLot ?em_BadLot_BadSign ?em_BadLot_Useless ?em_BadLot_BadLot ?em_BadSign_Useless ?em_BadSign_BadLot ?em_Useless_BadLot ?z_super ?ops ?a_Lot ?pg_Lot ?hd_Lot ?po_Lot ?sa_Lot ?mk_Lot ?kc_Lot ?j0_Lot ?j1_Lot ?j2_Lot ?j3_Lot ?j4_Lot ?sf_Lot ?na_Lot__states ?na_Lot__last ?na_Lot__moves ?na_Lot__leads ?a_is_sign ?l_is_sign ?d_is_sign ?k_is_sign ?a_check_text ?l_check_text ?d_check_text ?k_check_text ?a__check_states ?l__check_states ?d__check_states ?k__check_states ?a__leads_of ?l__leads_of ?d__leads_of ?k__leads_of ?a_led_to ?l_led_to ?d_led_to ?k_led_to ?a__check_useful ?l__check_useful ?d__check_useful ?k__check_useful ?a__beginnings_of ?l__beginnings_of ?d__beginnings_of ?k__beginnings_of ?a_Lot_init ?i_Lot_init ?l_Lot_init ?d_Lot_init ?k_Lot_init ?cr1_Lot_every ?cr2_Lot_every ?a_Lot_every ?pr_Lot_every ?fi_Lot_every ?l_Lot_every ?d_Lot_every ?k_Lot_every ?cr1_Lot_only ?cr2_Lot_only ?a_Lot_only ?pr_Lot_only ?fi_Lot_only ?l_Lot_only ?d_Lot_only ?k_Lot_only ?a_Lot_states ?pg_Lot_states ?pt_Lot_states ?pr_Lot_states ?l_Lot_states ?d_Lot_states ?k_Lot_states ?a_Lot_last ?pg_Lot_last ?pt_Lot_last ?pr_Lot_last ?l_Lot_last ?d_Lot_last ?k_Lot_last ?a_Lot_moves ?pg_Lot_moves ?pt_Lot_moves ?pr_Lot_moves ?l_Lot_moves ?d_Lot_moves ?k_Lot_moves ?a__law_pool ?l__law_pool ?d__law_pool ?k__law_pool ?a__law_pick ?l__law_pick ?d__law_pick ?k__law_pick ?a__law_alphabet ?l__law_alphabet ?d__law_alphabet ?k__law_alphabet ?a__law_word_of ?l__law_word_of ?d__law_word_of ?k__law_word_of ?a__law_is_int ?l__law_is_int ?d__law_is_int ?k__law_is_int ?a__law_led_from ?l__law_led_from ?d__law_led_from ?k__law_led_from ?a_Lot_contains ?i_Lot_contains ?l_Lot_contains ?d_Lot_contains ?k_Lot_contains ?a__law_lot_of ?l__law_lot_of ?d__law_lot_of ?k__law_lot_of ?a__law_in_lot ?l__law_in_lot ?d__law_in_lot ?k__law_in_lot ?a__law_odd_sign ?l__law_odd_sign ?d__law_odd_sign ?k__law_odd_sign ?a__law_change ?l__law_change ?d__law_change ?k__law_change ?a__law_has ?l__law_has ?d__law_has ?k__law_has ?a__law_agrees ?l__law_agrees ?d__law_agrees ?k__law_agrees ?a__law_from_lot ?l__law_from_lot ?d__law_from_lot ?k__law_from_lot ?a__law_begun ?l__law_begun ?d__law_begun ?k__law_begun ?a__law_tree ?l__law_tree ?d__law_tree ?k__law_tree ?a_law ?l_law ?d_law ?k_law
    (case z_abs => k_is)
    (case z_bool => k_is)
    (case z_classmethod => k_is)
    (case z_enumerate => k_is)
    (case z_int => k_is)
    (case z_isinstance => k_is)
    (case z_len => k_is)
    (case z_list => k_is)
    (case z_property => k_is)
    (case z_range => k_is)
    (case z_set => k_is)
    (case z_sorted => k_is)
    (case z_tuple => k_is)
    (case a_SIGNS => k_is)
    (case a_MOST_STATES => k_is)
    (case a_BadSign => k_is)
    (case l_BadSign => k_is)
    (case ve_BadSign => first | rfl | kernel_rfl | decide +kernel)
    (case sa_BadSign => k_is)
    (case eb_BadSign => k_is)
    (case ev_BadSign => k_is)
    (case ty_BadSign => k_is)
    (case kc_BadSign => k_is)
    (case ga_BadSign => k_is)
    (case gg_BadSign => k_is)
    (case nf_BadSign => k_is)
    (case hd_BadSign => k_is)
    (case mc_BadSign => k_is)
    (case si_BadSign => first | rfl | kernel_rfl | decide +kernel)
    (case i_BadSign_init => k_is)
    (case t_BadSign_init => k_is)
    (case l_BadSign_init => k_is)
    (case d_BadSign_init => k_is)
    (case e_BadSign_init => k_is)
    (case v_BadSign_init => rfl)
    (case g_BadSign_init => first | rfl | kernel_rfl | decide +kernel)
    (case h_BadSign_init => k_is)
    (case em_BadSign_BadSign => first | rfl | kernel_rfl | decide +kernel)
    (case a_Useless => k_is)
    (case l_Useless => k_is)
    (case ve_Useless => first | rfl | kernel_rfl | decide +kernel)
    (case sa_Useless => k_is)
    (case eb_Useless => k_is)
    (case ev_Useless => k_is)
    (case ty_Useless => k_is)
    (case kc_Useless => k_is)
    (case ga_Useless => k_is)
    (case gg_Useless => k_is)
    (case nf_Useless => k_is)
    (case hd_Useless => k_is)
    (case mc_Useless => k_is)
    (case si_Useless => first | rfl | kernel_rfl | decide +kernel)
    (case i_Useless_init => k_is)
    (case t_Useless_init => k_is)
    (case l_Useless_init => k_is)
    (case d_Useless_init => k_is)
    (case e_Useless_init => k_is)
    (case v_Useless_init => rfl)
    (case g_Useless_init => first | rfl | kernel_rfl | decide +kernel)
    (case h_Useless_init => k_is)
    (case em_Useless_BadSign => first | rfl | kernel_rfl | decide +kernel)
    (case em_Useless_Useless => first | rfl | kernel_rfl | decide +kernel)
    (case a_BadLot => k_is)
    (case o_BadLot => k_exc)
    (case kp_BadLot => k_is)
    (case r_BadLot => k_is)
    (case t_BadLot => k_is)
    (case em_BadLot_BadSign => first | rfl | kernel_rfl | decide +kernel)
    (case em_BadLot_Useless => first | rfl | kernel_rfl | decide +kernel)
    (case em_BadLot_BadLot => first | rfl | kernel_rfl | decide +kernel)
    (case em_BadSign_Useless => first | rfl | kernel_rfl | decide +kernel)
    (case em_BadSign_BadLot => first | rfl | kernel_rfl | decide +kernel)
    (case em_Useless_BadLot => first | rfl | kernel_rfl | decide +kernel)
    (case z_super => k_is)
    (case ops => k_is)
    (case a_Lot => k_is)
    (case pg_Lot => k_is)
    (case hd_Lot => k_is)
    (case po_Lot => k_is)
    (case sa_Lot => k_is)
    (case mk_Lot => k_is)
    (case kc_Lot => k_is)
    (case j0_Lot => k_is)
    (case j1_Lot => k_is)
    (case j2_Lot => k_is)
    (case j3_Lot => k_is)
    (case j4_Lot => first | rfl | kernel_rfl | decide +kernel)
    (case sf_Lot => k_is)
    (case na_Lot__states => k_is)
    (case na_Lot__last => k_is)
    (case na_Lot__moves => k_is)
    (case na_Lot__leads => k_is)
    (case a_is_sign => k_is)
    (case l_is_sign => k_is)
    (case d_is_sign => k_is)
    (case k_is_sign => k_is)
    (case a_check_text => k_is)
    (case l_check_text => k_is)
    (case d_check_text => k_is)
    (case k_check_text => k_is)
    (case a__check_states => k_is)
    (case l__check_states => k_is)
    (case d__check_states => k_is)
    (case k__check_states => k_is)
    (case a__leads_of => k_is)
    (case l__leads_of => k_is)
    (case d__leads_of => k_is)
    (case k__leads_of => k_is)
    (case a_led_to => k_is)
    (case l_led_to => k_is)
    (case d_led_to => k_is)
    (case k_led_to => k_is)
    (case a__check_useful => k_is)
    (case l__check_useful => k_is)
    (case d__check_useful => k_is)
    (case k__check_useful => k_is)
    (case a__beginnings_of => k_is)
    (case l__beginnings_of => k_is)
    (case d__beginnings_of => k_is)
    (case k__beginnings_of => k_is)
    (case a_Lot_init => k_is)
    (case i_Lot_init => k_is)
    (case l_Lot_init => k_is)
    (case d_Lot_init => k_is)
    (case k_Lot_init => k_is)
    (case cr1_Lot_every => k_is)
    (case cr2_Lot_every => k_is)
    (case a_Lot_every => k_is)
    (case pr_Lot_every => k_is)
    (case fi_Lot_every => k_is)
    (case l_Lot_every => k_is)
    (case d_Lot_every => k_is)
    (case k_Lot_every => k_is)
    (case cr1_Lot_only => k_is)
    (case cr2_Lot_only => k_is)
    (case a_Lot_only => k_is)
    (case pr_Lot_only => k_is)
    (case fi_Lot_only => k_is)
    (case l_Lot_only => k_is)
    (case d_Lot_only => k_is)
    (case k_Lot_only => k_is)
    (case a_Lot_states => k_is)
    (case pg_Lot_states => k_is)
    (case pt_Lot_states => k_is)
    (case pr_Lot_states => k_is)
    (case l_Lot_states => k_is)
    (case d_Lot_states => k_is)
    (case k_Lot_states => k_is)
    (case a_Lot_last => k_is)
    (case pg_Lot_last => k_is)
    (case pt_Lot_last => k_is)
    (case pr_Lot_last => k_is)
    (case l_Lot_last => k_is)
    (case d_Lot_last => k_is)
    (case k_Lot_last => k_is)
    (case a_Lot_moves => k_is)
    (case pg_Lot_moves => k_is)
    (case pt_Lot_moves => k_is)
    (case pr_Lot_moves => k_is)
    (case l_Lot_moves => k_is)
    (case d_Lot_moves => k_is)
    (case k_Lot_moves => k_is)
    (case a__law_pool => k_is)
    (case l__law_pool => k_is)
    (case d__law_pool => k_is)
    (case k__law_pool => k_is)
    (case a__law_pick => k_is)
    (case l__law_pick => k_is)
    (case d__law_pick => k_is)
    (case k__law_pick => k_is)
    (case a__law_alphabet => k_is)
    (case l__law_alphabet => k_is)
    (case d__law_alphabet => k_is)
    (case k__law_alphabet => k_is)
    (case a__law_word_of => k_is)
    (case l__law_word_of => k_is)
    (case d__law_word_of => k_is)
    (case k__law_word_of => k_is)
    (case a__law_is_int => k_is)
    (case l__law_is_int => k_is)
    (case d__law_is_int => k_is)
    (case k__law_is_int => k_is)
    (case a__law_led_from => k_is)
    (case l__law_led_from => k_is)
    (case d__law_led_from => k_is)
    (case k__law_led_from => k_is)
    (case a_Lot_contains => k_is)
    (case i_Lot_contains => k_is)
    (case l_Lot_contains => k_is)
    (case d_Lot_contains => k_is)
    (case k_Lot_contains => k_is)
    (case a__law_lot_of => k_is)
    (case l__law_lot_of => k_is)
    (case d__law_lot_of => k_is)
    (case k__law_lot_of => k_is)
    (case a__law_in_lot => k_is)
    (case l__law_in_lot => k_is)
    (case d__law_in_lot => k_is)
    (case k__law_in_lot => k_is)
    (case a__law_odd_sign => k_is)
    (case l__law_odd_sign => k_is)
    (case d__law_odd_sign => k_is)
    (case k__law_odd_sign => k_is)
    (case a__law_change => k_is)
    (case l__law_change => k_is)
    (case d__law_change => k_is)
    (case k__law_change => k_is)
    (case a__law_has => k_is)
    (case l__law_has => k_is)
    (case d__law_has => k_is)
    (case k__law_has => k_is)
    (case a__law_agrees => k_is)
    (case l__law_agrees => k_is)
    (case d__law_agrees => k_is)
    (case k__law_agrees => k_is)
    (case a__law_from_lot => k_is)
    (case l__law_from_lot => k_is)
    (case d__law_from_lot => k_is)
    (case k__law_from_lot => k_is)
    (case a__law_begun => k_is)
    (case l__law_begun => k_is)
    (case d__law_begun => k_is)
    (case k__law_begun => k_is)
    (case a__law_tree => k_is)
    (case l__law_tree => k_is)
    (case d__law_tree => k_is)
    (case k__law_tree => k_is)
    (case a_law => k_is)
    (case l_law => k_is)
    (case d_law => k_is)
    (case k_law => k_is)
#print axioms PySem.Challenge.cw_risensigns_k14_lot_texts_holds
