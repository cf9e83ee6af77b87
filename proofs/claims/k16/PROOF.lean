import PyProof.Rows.All
import Wide.All
import OpenK.AllK
import Wide.FinOn
import KE.KExcSuper
import KE.GoesEnum
import HandS.ForMost
import HandS.ForExc
import HandS.ExcInit
import HandS.ExcField
import HandS.TryMany
import HandS.Walk
import HandS.Defaults
import HandS.Property
import HandS.IsInst
import HandS.Codes
import HandS.FStr
import KE.KCallOwn
import KE.KDictZip
import KE.GoesZip
import KE.GoesMore
import HandS.ListItems
import HandS.Zip
import KE.KOpsOwn
import KE.KOwnIter
import HandS.IterNext
import HandS.SortKw
import PyProof.WalkInts
import HandS.More
import HandS.Star
import HandS.ClsMeth
import HandS.TupAny
import HandS.StrMore
import HandS.IterVal
import HandS.SetTxt0
import HandS.Set
import HandS.Strs
import HandS.SetFor
import PyProof.StrWalks
import KE.GoesEnumKw
import HandS.GenList
import HandS.Replace
import HandS.ReplaceList
import HandS.MakeKwOnly
import HandS.Bytes
import HandS.TupSets
import HandS.Dict
import HandS.DictTup
import HandS.DictComp
import HandS.SetKeys
import KE.KSortTupG
import HandS.RaiseMore
import KE.KSortKeySt
import HandS.MapJoin
import PyProof.ListStr
import KE.DataCmp
import HandS.Deep
import HandS.SetBool
import HandS.GenYield
import HandS.WideBits
import HandS.Wide
import KE.KBits
import KE.OsArith
import KE.KStateDown
import HandS.Head0
import HandS.Head1
import HandS.Head2
import HandS.HeadHook1
import HandS.HeadHook2
import HandS.HeadWalk
import PySem.Challenge.RW_risensigns_k16_machine_reads
set_option Elab.async false
set_option linter.all false
set_option maxRecDepth 100000
set_option maxHeartbeats 4000000
namespace Rz
open PySem PySem.Spec PyProof.Rows L2

theorem one_lookup {x k : Str} {a c : Addr} (h : List.lookup x [(k, a)] = some c) : c = a := by
  by_cases e : x = k
  · subst e
    simp [List.lookup] at h
    exact h.symm
  · have e2 : (x == k) = false := by simpa using e
    simp [List.lookup, e2] at h

/-- the context of an __init__ that knows its class -/
def cxS (P : Program) (w : World) (K : PySem.W.Frag) (mg : Str → Option Value) (base : Heap) (N : List Str) (qual : Str) (scope : Scope) (f : Addr) (cd : Value) (cc : Addr) (A : Around) (outer : List Env) (s : Shared) (H : Hp) : Cx where
  prog := P
  w := w
  K := K
  mg := mg
  base := base
  A := A.deeper (PySem.W.ksEnv qual scope s.heap.objs.size f cd cc)
  N := N
  s_0 := s
  H_0 := H
  env := PySem.W.ksEnv qual scope s.heap.objs.size f cd cc
  outer := outer
  stack := PySem.W.ksEnv qual scope s.heap.objs.size f cd cc :: outer
  ex := []
  calm := true
  fn := fun _ => false
  pn := []
  xe := fun _ _ => False

/-- what such an __init__ promises: the field is set -/
def spExI (C : Addr) (fld : Str) : Sp := fun vs H Q _ => ∃ (a : Addr) (n : Int), vs = [.ref a, .int n] ∧ n.natAbs.log2 < 1920 ∧ H a = some (exo a C none) ∧
  ∀ dx, H dx = none → dx ≠ a → Q .non (upd (upd H dx (exd dx [(fld, .int n)])) a (exo a C (some dx)))

/-- super().__init__(..) of an exception that has no dict yet -/
theorem call_mw {X : Cx} {pins : List (Addr × Obj)} {σ : L2.St} {H : Hp} {s : Shared} {a C u : Addr} {us : List Value} {Q : Value → Shared → Prop} {E : Value → Shared → Prop} {A : Around} (T : OexC X.K C) (I : Inv X pins σ H s) (e : H a = some (exo a C none)) (hl : us.length ≤ sizeLine)
    (hu : s.heap.get? u = some (PySem.W.kxs_mw "ValueError.__init__" a)) (h : ∀ s', Inv X pins σ H s' → Q .none s') : wpAny (model X.prog X.w) A (call (.ref u) us) Q E s := by
  obtain ⟨nm, q, N, bs, bm, sn, sub, ab, col, dd, k0, k1, k2, k3, k5, hC, hbm⟩ := T.cls
  obtain ⟨t1, ho⟩ := exo_at I.hok e
  have hC' := I.kIn _ _ hC
  have fin : ∀ (h' : Heap) (t2 : Addr), (∀ b o, b ≠ a → s.heap.get? b = some o → h'.get? b = some o) → h'.get? a = some ({ cls := .ref C, dict := none, data := .fields #[.ref t2, .none, .none, .none, .bool false, .none] } : Obj) → Inv X pins σ H { s with heap := h' } := fun h' t2 k hx => by
    have J := I.write (t' := s.toks) (x := a) (e := a) (o := exo a C none) (by rw [e]; exact True.intro) (.inl rfl) k ⟨_, hx⟩ (exo_ok hx)
    have eu : upd H a (exo a C none) = H := by
      funext b
      by_cases hb : b = a
      · rw [hb, upd_same, e]
      · rw [upd_ne hb]
    rw [eu] at J
    exact J
  obtain ⟨hp, g, d, t, os⟩ := s
  refine wpAny_call (codeAny_of_tree ?_)
  show wpAny _ A.in1 (callAny (.ref u) ⟨us, []⟩) _ _ _
  simp only [callAny]
  refine wpAny_bind (wpAny_load hu ?_)
  simp only [PySem.W.kxs_mw, show (Value.type "method-wrapper" == Value.type "method" || Value.type "method-wrapper" == Value.type "builtin_function_or_method" || Value.type "method-wrapper" == Value.type "method-wrapper") = true by decide, if_true]
  refine PySem.W.KFB.if_so (by decide) ?_
  refine wpAny_bind (PySem.W.check_bound_init F.excBase_ValueError.toExcCallFacts hC' ho rfl ?_)
  refine wpAny_bind (wpAny_pure (wpAny_pure ?_))
  refine ⟨plainId_quiet F.excBase_ValueError.init.plain _, codeAny_builtin F.excBase_ValueError.initEntry ?_⟩
  rw [Around.under_plainId F.excBase_ValueError.init.plain _]
  exact PySem.W.exc_init_tree (cls := .ref C) (t0 := t1) (dv := none) (c2 := .none) (c3 := .none) (b4 := .bool false) ho hl fun h' k hx _ => h _ (fin h' _ k hx)

section
variable {P : Program} {w : World} {K : PySem.W.Frag} {mg : Str → Option Value} {base : Heap}
theorem exsup_ok {CX : CXT} {k : Nat} {C f cc cda : Addr} {qual fld : Str} {params : Arguments} {body : List Stmt} {scope : Scope} {oc kV doc pm ct ccl cl : Value} {od an cdd cld : Option Addr} {osl ccs csl : Array (Option Value)} {vs5 : Array Value} {file : Str} {tf : Tok} {ar : Arg}
    {p0 p1 p2 p3 p4 q1 q2 q3 q4 : Pos} {e : Expr}
    (T : OexC K C)
    (lk : K.lookup f = some ⟨oc, od, .func (PySem.W.ksFn "__init__" qual params body scope .none kV doc pm an (.ref cda) ct cc), osl⟩) (hcd : PySem.W.codeIn K (.ref cda) qual = true)
    (hcode : K.lookup cda = some ⟨ccl, cdd, .fields vs5, ccs⟩) (hvs : vs5[2]? = some (.str file tf)) (hfile : ((P.main.file : Str) == file) = true)
    (hcell : K.lookup cc = some ⟨cl, cld, .cell (some (.ref C)), csl⟩)
    (hops : PySem.W.nsIn K cStatics "thirdparty.any" = some none) (hsuper : mg "super" = none)
    (hsin : PySem.W.ks_superIn K C C "__init__" = some (some (.builtin "ValueError.__init__")))
    (hB : PySem.W.subIn K (.ref C) (.type "ValueError") = some true) (hCC : PySem.W.mroIn K C (.ref C) = some true) (noN : PySem.W.findIn K (.ref C) fld = some none)
    (htop : (P.main.scope.names.lookup ("super" : Str)).isSome = false)
    (hbody : body = [.Expr (.Call (.Attribute (.Call (.Name "super" p0) [] [] p1) "__init__" p2) [e] [] p3) p4, .Assign [.Attribute (.Name "self" q1) fld q2] (.Name fld q3) q4])
    (hp : (params.posonlyargs ++ params.args).head? = some ar) (har : ar.arg = "self")
    (hks : scope.names.lookup ("super" : Str) = some .globalImplicit) (hkc : scope.names.lookup ("__class__" : Str) = some .free) (hka : scope.names.lookup ("self" : Str) = some .local) (hkf : scope.names.lookup fld = some .local)
    (hkind : scope.kind = .function) (hco : scope.isCoroutine = false) (hgen : scope.isGenerator = false) (hnc : ∀ x ∈ scope.names, x.2 ≠ .cell) (honly : ∀ x, scope.names.lookup x = some .free → x = "__class__") (hnd : fld ≠ "self")
    (hdb : (fld == ("__debug__" : Str)) = false) (hdc : (fld == ("__classdict__" : Str)) = false)
    (hmsg : ∀ X : Cx, X.N = [("self" : Str), fld] → X.env.scope = scope → ∃ t, PE X e t ∧ ∀ (σ : L2.St) (n : Int) (H : Hp) (Q : VK), σ[1]? = some (some (.int n)) → n.natAbs.log2 < 1920 → (∀ z : Str, Q (.str z) H) → t σ H Q)
    (hst : ∀ (L : Addr), starEach [e] (PySem.W.ksEnv qual scope L f (.ref cda) cc) = (false, eval e (PySem.W.ksEnv qual scope L f (.ref cda) cc)) :: starEach [] (PySem.W.ksEnv qual scope L f (.ref cda) cc))
    {pl : Sem Bool} (hms : ∀ (L : Addr), eval (.Call (.Attribute (.Call (.Name "super" p0) [] [] p1) "__init__" p2) [e] [] p3) (PySem.W.ksEnv qual scope L f (.ref cda) cc) = (do
      let ov ← attributeBase (.Call (.Name "super" p0) [] [] p1) "__init__" (PySem.W.ksEnv qual scope L f (.ref cda) cc) (eval (.Call (.Name "super" p0) [] [] p1) (PySem.W.ksEnv qual scope L f (.ref cda) cc))
      standAt p2.atName
      let (g, first) ← holding [ov] (getMethod ov "__init__" pl)
      callWith p3 g first (backTo p3 (starEach [e] (PySem.W.ksEnv qual scope L f (.ref cda) cc))) [])) :
    FnOk P w K mg base CX (k + 1) f (PySem.W.ksFn "__init__" qual params body scope .none kV doc pm an (.ref cda) ct cc) ["self", fld] (spExI C fld) := by
  refine ⟨fun vs H Q E h => ?_, fun A outer s H args us vs Q E hr e0 hb r hsp => ?_⟩
  · obtain ⟨a, n, rfl, _⟩ := h
    rfl
  obtain ⟨a, n, rfl, hn, ha, hk⟩ := hsp
  obtain ⟨u0, u1, rfl, r0, r1⟩ := vals2 r
  obtain rfl : u0 = Value.ref a := r0
  obtain ⟨tk, rfl⟩ := r1
  have KX : K.In s.heap := e0.mod.kin.keeps fun b o q => (e0.bs b o q).1
  have lim : s.heap.NoLimit := e0.mod.nolimit.keeps fun b o q => (e0.bs b o q).1
  refine PySem.ks_codeAny_call_defAt (body := body) (binds := (["self", fld] : List Str).zip [Value.ref a, Value.int n tk]) hr.depth (KX _ _ lk) rfl lim (PySem.W.codeRec_of KX hcd) rfl hb hnc (fun x hx => ?_) (fun h1 hns hk1 => ?_) hco hgen hkind
  · have hx' : x = (("self" : Str), Value.ref a) ∨ x = (fld, Value.int n tk) := by simpa using hx
    rcases hx' with rfl | rfl
    · exact hka
    · exact hkf
  have hne : (("self" : Str) == fld) = false := by simpa using Ne.symm hnd
  have nocell : ∀ x, scope.names.lookup x ≠ some .cell := fun x hx => hnc _ (PySem.mem_of_lookup hx) rfl
  have cells : ∀ {x c}, (cxS P w K mg base ["self", fld] qual scope f (.ref cda) cc A outer s H).env.cells.lookup x = some c → c = cc := fun h => one_lookup h
  have freeCC : H cc = none := (e0.bs _ _ (e0.mod.kin _ _ hcell)).2
  have I : Inv (cxS P w K mg base ["self", fld] qual scope f (.ref cda) cc A outer s H) [] [some (.ref a), some (.int n)] H { s with heap := h1, toks := s.toks + 2 } := by
    have noA : ∀ b : Addr, b ∉ (cxS P w K mg base ["self", fld] qual scope f (.ref cda) cc A outer s H).ex := fun b z => absurd (show b ∈ ([] : List Addr) from z) (by simp)
    refine ⟨⟨e0.mod, hkind, rfl, rfl, Nat.le_refl _, fun y z c h1 h2 => ?_, fun y hy => ?_, fun y c z _ => ?_, fun _ => hr.hd, Around.frames_deeper e0.frames, .inr ⟨rfl, rfl⟩, fun b z => absurd z (noA b), e0.bs, e0.bsz, fun b _ _ => noA b, fun b z => absurd z (noA b), e0.funs, e0.frf⟩,
      rfl, e0.bare, Un.kept hk1, ⟨_, hns, fun i y v h1 h2 h3 => ?_⟩, fun y c h => ?_, e0.hok.fresh (Nat.le_refl _), fun y c h => ?_, fun p hp => absurd (show p ∈ ([] : List (Addr × Obj)) from hp) (by simp), e0.hok.kept hk1, rfl⟩
    · have k1 : ∀ {y c}, List.lookup y [(("__class__" : Str), cc)] = some c → y = "__class__" := fun {y c} q => by
        by_cases z : y = "__class__"
        · exact z
        · have e2 : (y == ("__class__" : Str)) = false := by simpa using z
          simp [List.lookup, e2] at q
      rw [k1 h1, k1 h2]
    · rcases hy with hy | hy
      · exact absurd hy (nocell y)
      · have e1 := honly y hy
        subst e1
        exact ⟨cc, rfl⟩
    · exact Bool.noConfusion (show false = true from z)
    · refine match i, h1, h2 with
        | 0, h1, h2 => ?_
        | 1, h1, h2 => ?_
        | i + 2, h1, h2 => ?_
      · have e1 : ("self" : Str) = y := Option.some.inj h1
        have e2 : V.ref a = v := Option.some.inj (Option.some.inj h2)
        subst e1
        subst e2
        exact ⟨.ref a, rfl, .inl ⟨hka, by simp [List.lookup, hne]⟩⟩
      · have e1 : fld = y := Option.some.inj h1
        have e2 : V.int n = v := Option.some.inj (Option.some.inj h2)
        subst e1
        subst e2
        exact ⟨.int n tk, ⟨tk, rfl⟩, .inl ⟨hkf, by simp [List.lookup]⟩⟩
      · exact absurd h1 (by simp [cxS])
    · rw [cells h]
      exact ⟨_, _, hk1 _ _ (KX _ _ hcell), rfl⟩
    · rw [cells h]
      exact freeCC
  subst hbody
  have KX1 : K.In h1 := KX.keeps hk1
  obtain ⟨nm, q, N, bs, bm, sn, sub, ab, col, dd, k0, k1, k2, k3, k5, hC, hbm⟩ := id T.cls
  have hcl : PySem.W.clsIn K C = some { name := nm, bases := bs, mro := .ref C :: bm, ns := N, qualname := q, hasDict := true, slotNames := sn, subclasses := sub, abstract := ab, collection := col, hasDel := false } := by unfold PySem.W.clsIn; rw [hC] <;> rfl
  obtain ⟨t1, ho⟩ := exo_at I.hok ha
  obtain ⟨mb, b1, b2⟩ := I.mod.blt
  obtain ⟨hh, g, d, t0, os⟩ := s
  have hac : a ≠ C := fun z => by
    have z1 := KX1 _ _ hC
    rw [← z] at z1
    have z2 := z1.symm.trans ho
    cases z2
  refine PySem.ks_wpAt_execs_cons (PySem.ks_wpAt_Expr_any (PySem.ks_wpAt_MethodCall (pl := pl) ?_ (hms _)) I.quiet rfl)
  refine PySem.ks_wpAt_super_base hks hkc (by decide) rfl (KX1 _ _ lk) rfl hp rfl (KX1 _ _ hcode) rfl hvs hfile htop ?_
  refine PySem.W.ks_loadName_global hkind hks (Calls.loadGlobal_builtin (I.mod.glob.keeps I.bk) hsuper (b1.keeps I.bk) ((b2 "super" (by decide)).trans (by decide +kernel : bootBuiltins "super" = some (.type "super"))) ⟨rfl, ?_⟩)
  refine wpAny_loadName_free hkind hkc rfl ⟨_, KX1 _ _ hcell, rfl⟩ ?_
  rw [har]
  refine wpAny_loadName_local (v := .ref a) hkind hka hns (by simp [List.lookup, hne]) ?_
  refine PySem.ks_wpAny_isType_cls (KX1 _ _ hC) rfl ⟨rfl, ?_⟩
  refine PySem.ks_wpAny_call_super (KX1 _ _ hC) rfl ho rfl (fun c z => by cases z) (PySem.W.looks_mroIn KX1 hCC) (fun h2 e2 kk2 => ?_)
  have I2 := I.kept (t' := t0 + 2) kk2
  have KX2 := KX1.keeps kk2
  have ho2 := kk2 _ _ ho
  have hI : PySem.W.Looks (model P w) h2 (isInstance (.ref a) (.type "ValueError")) true :=
    (PySem.W.InstAt.type (M := model P w) (ox := { cls := .ref C, data := .fields #[.ref t1, .none, .none, .none, .bool false, .none] }) (od := none) ⟨ho2, rfl, rfl, trivial⟩).andThen (PySem.W.looks_subIn KX2 hB)
  have hsin2 : PySem.W.alongIn K "__init__" (((Value.ref C :: bm).dropWhile (· != .ref C)).drop 1) = some (some (.builtin "ValueError.__init__")) := by
    unfold PySem.W.ks_superIn at hsin
    rw [hcl] at hsin
    exact hsin
  refine PySem.W.kxs_getMethod PySem.W.kxs_ValueError e2 (PySem.W.looks_opaque KX2 hops) (l₀ := .ref C :: bm) ?_ rfl KX2 hsin2 hI hac (by decide) ?_
  · exact fun A Q E s k q => wpAny_bind ((PySem.W.looks_clsIn KX2 hcl) A _ E s k (wpAny_pure q))
  have kk3 : ∀ b o, h2.get? b = some o → (h2.push (PySem.W.kxs_mw "ValueError.__init__" a)).get? b = some o := fun b o q => Heap.get?_push_of_some _ q
  have I3 := I2.kept (t' := t0 + 2 + 1) kk3
  have hu : (h2.push (PySem.W.kxs_mw "ValueError.__init__" a)).get? h2.objs.size = some (PySem.W.kxs_mw "ValueError.__init__" a) := Heap.get?_push_at rfl rfl
  have I4 := I3.pins_of (pins' := [(h2.objs.size, PySem.W.kxs_mw "ValueError.__init__" a)]) (fun p hp => by
    obtain rfl : p = (h2.objs.size, PySem.W.kxs_mw "ValueError.__init__" a) := by simpa using hp
    refine ⟨hu, I2.hok.fresh (Nat.le_refl _), fun z => ?_, I2.nofs (Nat.le_refl _), fun v z => by cases z⟩
    have z1 := I2.lt
    rw [← z] at z1
    exact Nat.lt_irrefl _ z1)
  obtain ⟨te, pe, rd⟩ := hmsg (cxS P w K mg base ["self", fld] qual scope f (.ref cda) cc A outer ⟨hh, g, d, t0, os⟩ H) rfl rfl
  have pa := pa_cons pe pa_nil (hst _)
  have e3 : backTo p3 (starEach [e] (PySem.W.ksEnv qual scope hh.objs.size f (.ref cda) cc)) = (false, eval e (PySem.W.ksEnv qual scope hh.objs.size f (.ref cda) cc)) :: backTo p3 (starEach [] (PySem.W.ksEnv qual scope hh.objs.size f (.ref cda) cc)) := by rw [hst]; rfl
  refine PySem.W.kxs_callWith (i := "ValueError.__init__") (x := a) (by show (backTo p3 (starEach [e] (PySem.W.ksEnv qual scope hh.objs.size f (.ref cda) cc))).any (·.1) = false; rw [e3]; rfl) ?_
  show wpAny _ _ (evalArgs _ true (backTo p3 (starEach [e] (PySem.W.ksEnv qual scope hh.objs.size f (.ref cda) cc))) []) _ _ _
  rw [e3]
  refine Calls.evalArgs_plain ?_
  rw [← e3]
  refine wpAny_mono (pa.run p3 _ _ _ _ (fun vs H' => (∃ z, vs = [V.str z]) ∧ H' = H) I4 (rd _ n H _ rfl hn fun z => ⟨⟨z, rfl⟩, rfl⟩)) (fun us s5 hu5 => ?_) fun _ _ z => z.elim
  obtain ⟨vs, H', I5, r5, ⟨z, rfl⟩, rfl⟩ := hu5
  have hu6 := (I5.pin (h2.objs.size, PySem.W.kxs_mw "ValueError.__init__" a) (by simp [cxS])).1
  refine ⟨hu6, ?_⟩
  obtain ⟨uz, rfl, _⟩ := vals1 r5
  refine call_mw T I5 ha (by show 1 ≤ sizeLine; decide) hu6 fun s6 I6 => ?_
  show PySem.wpAt _ _ _ (execs _ _) _ _ _
  refine wpAt_of_wpAny ?_
  have J6 := I6.pins_of (pins' := []) (fun p hp => by cases hp)
  have ps : PSs (cxS P w K mg base ["self", fld] qual scope f (.ref cda) cc A outer ⟨hh, g, d, t0, os⟩ H') [.Assign [.Attribute (.Name "self" q1) fld q2] (.Name fld q3) q4] (tOst K fld (tVar 0) (tVar 1)) :=
    pss_one (ps_ost (pe_var rfl (.inl hka)) (pe_var rfl (.inl hkf) hdb hdc) rfl)
  refine wpAny_mono (ps.run [] s6 _ H' { nx := fun _ H2 => Q .non H2, rt := fun _ _ => False } J6 ⟨_, rfl, _, rfl, a, C, rfl, T, noN, .inl ⟨ha, hk⟩⟩) (fun fl s7 hs => ?_) fun _ _ z => z.elim
  cases fl with
  | next =>
    obtain ⟨σ7, H7, J, q7⟩ := hs
    exact ⟨.non, H7, J.os, J.bare, J.base, J.hok, rfl, q7⟩
  | ret u =>
    obtain ⟨_, _, _, _, _, q7⟩ := hs
    exact q7.elim
  | brk =>
    obtain ⟨_, _, _, q7⟩ := hs
    exact q7.elim
  | cont =>
    obtain ⟨_, _, _, q7⟩ := hs
    exact q7.elim
end
/-- what stands of such an __init__ behind the top -/
structure ExInit (P : Program) (K : PySem.W.Frag) (mg : Str → Option Value) (C f : Addr) (fd : FuncData) (fld : Str) (st : Stmt) : Prop where
  ex : ∃ (qual : Str) (oc kV doc pm ct ccl cl : Value) (od an cdd cld : Option Addr) (osl ccs csl : Array (Option Value)) (vs5 : Array Value) (file : Str) (tf : Tok) (cc cda : Addr),
    fd = PySem.W.ksFn "__init__" qual (defArgs st) (defBody st) (defScope st) .none kV doc pm an (.ref cda) ct cc ∧ K.lookup f = some ⟨oc, od, .func fd, osl⟩ ∧ PySem.W.codeIn K (.ref cda) qual = true ∧
    K.lookup cda = some ⟨ccl, cdd, .fields vs5, ccs⟩ ∧ vs5[2]? = some (.str file tf) ∧ ((P.main.file : Str) == file) = true ∧ K.lookup cc = some ⟨cl, cld, .cell (some (.ref C)), csl⟩
  ops : PySem.W.nsIn K cStatics "thirdparty.any" = some none
  nsup : mg "super" = none
  sin : PySem.W.ks_superIn K C C "__init__" = some (some (.builtin "ValueError.__init__"))
  sub : PySem.W.subIn K (.ref C) (.type "ValueError") = some true
  mro : PySem.W.mroIn K C (.ref C) = some true
  noN : PySem.W.findIn K (.ref C) fld = some none
  top : (P.main.scope.names.lookup ("super" : Str)).isSome = false
/-- .. and what its instances are read by -/
structure ExF (K : PySem.W.Frag) (C : Addr) (fld : Str) : Prop where
  xf : XfC K C
  noN : PySem.W.findIn K (.ref C) fld = some none
end Rz

namespace Rz
open PySem PySem.Spec PyProof.Rows L2
theorem str_int_len {n : Int} (h : n.natAbs.log2 < 1920) : (toString n : Str).length ≤ 1921 := PyProof.Rows.int_text_len_1921 h
theorem exinit_ok {P : Program} {w : World} {K : PySem.W.Frag} {mg : Str → Option Value} {base : Heap} {CX : CXT} {C f : Addr} {fd : FuncData} {fld : Str} {st : Stmt} {ar : Arg} {p0 p1 p2 p3 p4 q1 q2 q3 q4 : Pos} {e : Expr}
    (T : OexC K C) (I : ExInit P K mg C f fd fld st)
    (hbody : defBody st = [.Expr (.Call (.Attribute (.Call (.Name "super" p0) [] [] p1) "__init__" p2) [e] [] p3) p4, .Assign [.Attribute (.Name "self" q1) fld q2] (.Name fld q3) q4])
    (hp : ((defArgs st).posonlyargs ++ (defArgs st).args).head? = some ar) (har : ar.arg = "self")
    (hks : (defScope st).names.lookup ("super" : Str) = some .globalImplicit) (hkc : (defScope st).names.lookup ("__class__" : Str) = some .free) (hka : (defScope st).names.lookup ("self" : Str) = some .local) (hkf : (defScope st).names.lookup fld = some .local)
    (hkind : (defScope st).kind = .function) (hco : (defScope st).isCoroutine = false) (hgen : (defScope st).isGenerator = false)
    (hnc : ((defScope st).names.all fun x => decide (x.2 ≠ .cell)) = true) (hfr : ((defScope st).names.all fun x => decide (x.2 = .free → x.1 = "__class__")) = true) (hnd : fld ≠ "self")
    (hdb : (fld == ("__debug__" : Str)) = false) (hdc : (fld == ("__classdict__" : Str)) = false)
    (hmsg : ∀ X : Cx, X.N = [("self" : Str), fld] → X.env.scope = defScope st → ∃ t, PE X e t ∧ ∀ (σ : L2.St) (n : Int) (H : Hp) (Q : VK), σ[1]? = some (some (.int n)) → n.natAbs.log2 < 1920 → (∀ z : Str, Q (.str z) H) → t σ H Q)
    (hst : ∀ (qual : Str) (L cda cc : Addr), starEach [e] (PySem.W.ksEnv qual (defScope st) L f (.ref cda) cc) = (false, eval e (PySem.W.ksEnv qual (defScope st) L f (.ref cda) cc)) :: starEach [] (PySem.W.ksEnv qual (defScope st) L f (.ref cda) cc))
    {pl : Sem Bool} (hms : ∀ (qual : Str) (L cda cc : Addr), eval (.Call (.Attribute (.Call (.Name "super" p0) [] [] p1) "__init__" p2) [e] [] p3) (PySem.W.ksEnv qual (defScope st) L f (.ref cda) cc) = (do
      let ov ← attributeBase (.Call (.Name "super" p0) [] [] p1) "__init__" (PySem.W.ksEnv qual (defScope st) L f (.ref cda) cc) (eval (.Call (.Name "super" p0) [] [] p1) (PySem.W.ksEnv qual (defScope st) L f (.ref cda) cc))
      standAt p2.atName
      let (g, first) ← holding [ov] (getMethod ov "__init__" pl)
      callWith p3 g first (backTo p3 (starEach [e] (PySem.W.ksEnv qual (defScope st) L f (.ref cda) cc))) [])) :
    FnOk P w K mg base CX 1 f fd ["self", fld] (spExI C fld) := by
  obtain ⟨qual, oc, kV, doc, pm, ct, ccl, cl, od, an, cdd, cld, osl, ccs, csl, vs5, file, tf, cc, cda, rfl, lk, hcd, hcode, hvs, hfile, hcell⟩ := I.ex
  refine exsup_ok (k := 0) T lk hcd hcode hvs hfile hcell I.ops I.nsup I.sin I.sub I.mro I.noN I.top hbody hp har hks hkc hka hkf hkind hco hgen (fun x hx => ?_) (fun x hx => ?_) hnd hdb hdc hmsg (fun L => hst qual L cda cc) (fun L => hms qual L cda cc)
  · exact of_decide_eq_true (List.all_eq_true.mp hnc x hx)
  · exact of_decide_eq_true (List.all_eq_true.mp hfr _ (PySem.mem_of_lookup hx)) rfl
theorem msg_ok2 {sc : Scope} {fld c : Str} {p1 p2 p3 p4 : Pos} {j : Nat} (hv : sc.names.lookup fld = some .local) (hd : (fld == ("__debug__" : Str)) = false) (hdc : (fld == ("__classdict__" : Str)) = false) (hc : c.length ≤ 1000) (X : Cx) (hN : X.N = [("self" : Str), fld]) (hs : X.env.scope = sc) :
    ∃ t, PE X (.JoinedStr [.Constant (.str c) j p1, .FormattedValue (.Name fld p2) (-1) none p3] p4) t ∧ ∀ (σ : L2.St) (n : Int) (H : Hp) (Q : VK), σ[1]? = some (some (.int n)) → n.natAbs.log2 < 1920 → (∀ z : Str, Q (.str z) H) → t σ H Q := by
  refine ⟨_, pe_joined (.cons pe_str (.cons (pe_fmt (pe_var (i := 1) (by rw [hN]; rfl) (.inl (by rw [hs]; exact hv)) hd hdc)) .nil)), fun σ n H Q h1 hn hq => ?_⟩
  have l1 := str_int_len hn
  refine ⟨c, rfl, ?_, ?_⟩
  · rw [Str.length_append, sizeLine_eq]
    show 0 + c.length ≤ _
    omega
  · refine ⟨_, h1, .inr ⟨n, rfl, hn, _, rfl, ?_, hq _⟩⟩
    rw [Str.length_append, Str.length_append, sizeLine_eq]
    show 0 + c.length + _ ≤ _
    omega
theorem msg_ok3 {sc : Scope} {fld c c2 : Str} {p1 p2 p3 p4 p5 : Pos} {j j2 : Nat} (hv : sc.names.lookup fld = some .local) (hd : (fld == ("__debug__" : Str)) = false) (hdc : (fld == ("__classdict__" : Str)) = false) (hc : c.length ≤ 1000) (hc2 : c2.length ≤ 1000) (X : Cx) (hN : X.N = [("self" : Str), fld]) (hs : X.env.scope = sc) :
    ∃ t, PE X (.JoinedStr [.Constant (.str c) j p1, .FormattedValue (.Name fld p2) (-1) none p3, .Constant (.str c2) j2 p5] p4) t ∧ ∀ (σ : L2.St) (n : Int) (H : Hp) (Q : VK), σ[1]? = some (some (.int n)) → n.natAbs.log2 < 1920 → (∀ z : Str, Q (.str z) H) → t σ H Q := by
  refine ⟨_, pe_joined (.cons pe_str (.cons (pe_fmt (pe_var (i := 1) (by rw [hN]; rfl) (.inl (by rw [hs]; exact hv)) hd hdc)) (.cons pe_str .nil))), fun σ n H Q h1 hn hq => ?_⟩
  have l1 := str_int_len hn
  refine ⟨c, rfl, ?_, ?_⟩
  · rw [Str.length_append, sizeLine_eq]
    show 0 + c.length ≤ _
    omega
  · refine ⟨_, h1, .inr ⟨n, rfl, hn, _, rfl, ?_, c2, rfl, ?_, hq _⟩⟩
    · rw [Str.length_append, Str.length_append, sizeLine_eq]
      show 0 + c.length + _ ≤ _
      omega
    · rw [Str.length_append, Str.length_append, Str.length_append, sizeLine_eq]
      show 0 + c.length + _ + _ ≤ _
      omega
end Rz

namespace Rz
open PySem PySem.Spec PyProof.Rows L2

/-! ### enumerate(text) -/
def Ites (x : Str) : It :=
  ⟨fun i _ => i < x.cps.size, fun i H v H' => ∃ T c, v = .ref T ∧ H T = none ∧ H' = upd H T (.tup [.int (i : Nat), .str ⟨#[c]⟩]) ∧ x.cps[i]? = some c, fun i _ => i = x.cps.size⟩
theorem turn_enumS {P : Program} {w : World} {K : PySem.W.Frag} {elts : List Expr} {kk : Nat} {tpos : Pos} (e it : Addr) (x : Str) (t : Tok) :
    Turn P w K (.Tuple elts kk tpos) (Ites x) [e, it] e (fun i h => (∃ old, IsEnum h e it ((i : Nat) : Int) old) ∧ h.IsStrIter it (strIterType x) x t i ∧ e ≠ it) where
  mem := by simp
  obj := fun i h st b hb => by
    obtain ⟨⟨old, he⟩, ⟨o, ho, hc, hd⟩, _⟩ := st
    have z2 : b = e ∨ b = it := by simpa using hb
    rcases z2 with rfl | rfl
    · exact ⟨_, he, fun v q => nomatch q⟩
    · exact ⟨o, ho, fun v q => by rw [hd] at q; cases q⟩
  keep := fun i h h' st k => by
    obtain ⟨⟨old, he⟩, ⟨o, ho, r⟩, hne⟩ := st
    exact ⟨⟨old, k e (by simp) _ he⟩, ⟨o, k it (by simp) _ ho, r⟩, hne⟩
  item := by
    intro X hP hw hK hc i pins s σ H E I hf st hg
    subst hP hw hK
    obtain ⟨⟨old, he⟩, hit, hne⟩ := st
    have hel : e < s.heap.objs.size := Heap.lt_size he
    have hil : it < s.heap.objs.size := by obtain ⟨_, q, _⟩ := hit; exact Heap.lt_size q
    have D := Draws.text (prog := X.prog) (w := X.w) (A := X.A.in1) (I.ok.hd hc) it x t
    refine wpAny_pyNext_enum_itemD D he hit hg hne (by simpa using hne) fun u h' tk hu ho hit2 hT hsz hk => ?_
    obtain ⟨c, tc, hcx, rfl⟩ := hu
    refine ⟨_, rfl, wpAny_letOwnedTupleGo_enum (s := { s with heap := h', toks := tk + 1 }) ho fun h2 he2 sb => ?_⟩
    have hT2 : h2.get? s.heap.objs.size = some { cls := .type "tuple", data := .seq #[.int i tk, .str ⟨#[c]⟩ tc] } := (sb.2 _ (Nat.ne_of_gt hel)).trans hT
    have new : ObjOk X.prog X.w (upd H s.heap.objs.size (.tup [.int (i : Nat), .str ⟨#[c]⟩])) h2 s.heap.objs.size (.tup [.int (i : Nat), .str ⟨#[c]⟩]) :=
      ⟨by show 2 ≤ sizeLine; decide, [.int i tk, .str ⟨#[c]⟩ tc], .cons ⟨_, rfl⟩ (.cons ⟨_, rfl⟩ .nil), ⟨_, hT2, rfl, _, rfl⟩⟩
    have J : Inv X pins σ (upd H s.heap.objs.size (.tup [.int (i : Nat), .str ⟨#[c]⟩])) { s with heap := h2, toks := tk + 1 } :=
      I.turnedNew (t' := tk + 1) (ch := [e, it]) (fun b ob hb q => (sb.2 b (fun z => hb (by simp [z]))).trans (hk b ob (fun z => hb (by simp [z])) (fun z => hb (by simp [z])) q)) hf (Nat.le_refl _) new
    obtain ⟨oi, e3, r3⟩ := hit2
    refine ⟨.ref s.heap.objs.size, _, J, rfl, ⟨_, c, rfl, I.hok.fresh (Nat.le_refl _), rfl, hcx⟩, ⟨⟨.str ⟨#[c]⟩ tc, ?_⟩, ⟨oi, (sb.2 it (Ne.symm hne)).trans e3, r3⟩, hne⟩, fun b hb => ?_⟩
    · have e1 : ((i + 1 : Nat) : Int) = (i : Int) + 1 := by omega
      rw [e1]
      exact he2
    · have hbl : b < s.heap.objs.size := by
        have z2 : b = e ∨ b = it := by simpa using hb
        rcases z2 with rfl | rfl
        · exact hel
        · exact hil
      rw [upd_ne (Nat.ne_of_lt hbl)]
      exact (hf b hb).1
  done := by
    intro X hP hw hK hc i pins s σ H E I hf st hg
    subst hP hw hK
    obtain ⟨⟨old, he⟩, hit, hne⟩ := st
    obtain ⟨f0, f1, f2, f3, f4, f5⟩ := hf it (by simp)
    have D := Draws.text (prog := X.prog) (w := X.w) (A := X.A.in1) (I.ok.hd hc) it x t
    have hg' : i = x.cps.size := hg
    subst hg'
    exact wpAny_pyNext_enum_endD D he hit fun h' eb => ⟨rfl, I.turned (t' := s.toks) (fun b o hb q => eb b o hb q) f0 f1 f3 f4 f5⟩
  self := fun A i s Q E st h => let ⟨⟨_, he⟩, _⟩ := st; wpAny_pyIter_enum he h
theorem walk_enumS {z : Str} : Walk (Ites z) z.cps.size (fun _ => True) (fun i H v H' => ∃ T c, v = .ref T ∧ H T = none ∧ H' = upd H T (.tup [.int (i : Nat), .str ⟨#[c]⟩]) ∧ z.cps.toList[i]? = some c) :=
  ⟨fun _ _ hi _ => hi, fun _ _ => rfl, fun i H x H' _ _ y => by
    obtain ⟨T, c, e1, e2, e3, e4⟩ := y
    exact ⟨T, c, e1, e2, e3, by rw [Array.getElem?_toList]; exact e4⟩⟩
def iEnumS (ta : TA) : TI := fun σ H R => ta σ H fun vs H1 => ∃ x, vs = [.str x] ∧ R (Ites x) H1
theorem pi_enumS {X : Cx} {e : Expr} {ta : TA} {p pos tpos : Pos} {elts : List Expr} {kk : Nat} (hg : Gl X "enumerate") (hm : X.mg "enumerate" = none) (ha : PA X [e] ta) (hs : starEach [e] X.env = [(false, eval e X.env)] := by rfl) :
    PI X (.Tuple elts kk tpos) (.Call (.Name "enumerate" p) [e] [] pos) (iEnumS ta) := by
  refine ⟨fun pins s σ H R I h => ?_⟩
  refine Call_ (ld_blt I hg hm boot_enumerate (PyProof.Rows.callWith_type1 (thn (ha.run pos pins s σ H _ I h) fun us s1 ⟨vs, H1, I1, r1, q1⟩ => ?_) hs rfl))
  obtain ⟨x, rfl, q⟩ := q1
  obtain ⟨u, rfl, ru⟩ := vals1 r1
  obtain ⟨t, rfl⟩ := ru
  refine call_enumerate_str fun h' he hit hsz hk => wpAny_pyIter_enum he ?_
  have J : Inv X pins σ H1 { s1 with heap := h' } := I1.kept (t' := s1.toks) hk
  refine ⟨s1.heap.objs.size + 1, [s1.heap.objs.size + 1, s1.heap.objs.size], _, _, H1, rfl, J, turn_enumS (s1.heap.objs.size + 1) s1.heap.objs.size x t, ⟨⟨.none, he⟩, hit, Nat.succ_ne_self _⟩, fun b hb => ?_, q⟩
  have hle : s1.heap.objs.size ≤ b := by
    have z2 : b = s1.heap.objs.size + 1 ∨ b = s1.heap.objs.size := by simpa using hb
    rcases z2 with rfl | rfl
    · exact Nat.le_add_right _ _
    · exact Nat.le_refl _
  exact I1.fpOk hle (I1.hok.fresh hle)
end Rz

namespace Rz
open PySem PySem.Spec PyProof.Rows L2

abbrev SuR := Addr → Value → Option Addr → TS
/-- a clause: its class, the slot of its name if it has one, its suite -/
abbrev Cls1 := Value × Option Nat × SuR
def endM (i : Option Nat) (D : Ends) : Ends := match i with
  | none => D
  | some i => { nx := fun σ H => D.nx (σ.set i none) H, rt := D.rt, bk := fun σ H => D.bk (σ.set i none) H, ct := fun σ H => D.ct (σ.set i none) H }
def stM (i : Option Nat) (a : Addr) (σ : L2.St) : L2.St := match i with
  | none => σ
  | some i => σ.set i (some (.ref a))
def wMix (K : PySem.W.Frag) (Wout : WX) (D : Ends) : List Cls1 → WX
  | [] => Wout
  | (c, i, ts) :: r => fun cls d σ H => ∃ b, PySem.W.exmOne K cls c = some b ∧ (b = true → ∀ a, H a = none → ts a cls d (endM i D) (stM i a σ) H) ∧ (b = false → wMix K Wout D r cls d σ H)
inductive HdsM (X : Cx) : List ExceptHandler → List Cls1 → Prop
  | nil : HdsM X [] []
  | plain {x : Str} {c : Value} {ts : SuR} {b0 : Stmt} {suite : List Stmt} {np p2 : Pos} {hds : List ExceptHandler} {l : List Cls1} (hc : Names X x c)
      (su : ∀ (a : Addr) (oe : Obj) (cls : Value) (d : Option Addr) (pn : List (Addr × Obj)), Zc cls d oe → (∃ vs, oe.data = .fields vs) → PSs (X.suite a ((a, oe) :: pn)) (b0 :: suite) (ts a cls d))
      (r : HdsM X hds l) : HdsM X (.ExceptHandler (some (.Name x np)) none (b0 :: suite) p2 :: hds) ((c, none, ts) :: l)
  | named {x n : Str} {i : Nat} {c : Value} {ts : SuR} {b0 : Stmt} {suite : List Stmt} {np p2 : Pos} {hds : List ExceptHandler} {l : List Cls1} (hN : X.N.Nodup) (hi : X.N[i]? = some n) (hl : X.env.kindOf n = some .local) (hc : Names X x c)
      (su : ∀ (a : Addr) (oe : Obj) (cls : Value) (d : Option Addr) (pn : List (Addr × Obj)), Zc cls d oe → (∃ vs, oe.data = .fields vs) → PSs (X.suite a ((a, oe) :: pn)) (b0 :: suite) (ts a cls d))
      (r : HdsM X hds l) : HdsM X (.ExceptHandler (some (.Name x np)) (some n) (b0 :: suite) p2 :: hds) ((c, some i, ts) :: l)
section
variable {X : Cx} {body : List Stmt} {h0 : ExceptHandler} {hds : List ExceptHandler} {l : List Cls1} {pos : Pos} {tb : WX → TS} {Wout : WX}
theorem ps_try_mix (hs : X.stack = X.env :: X.outer) (hf : X.env.frame = some X.env.locals) (tk : Takes X Wout)
    (hb : ∀ (W : WX) (pn : List (Addr × Obj)) (xe : Value → Shared → Prop), Takes (X.tr pn xe) W → PassesOwn (model X.prog X.w) X.A X.env xe → PSs (X.tr pn xe) body (tb W))
    (hh : HdsM X (h0 :: hds) l) : PS X (.Try body (h0 :: hds) [] [] pos) (fun D σ H => tb (wMix X.K Wout D l) D σ H) := by
  refine ⟨fun pins s σ H D I h => ?_⟩
  have ok := I.ok
  have fr0 : X.A.frames = some (X.env :: X.outer) := ok.frames.trans (by rw [hs])
  refine wpAny_Try_except ?_
  refine wpAny_mono ((hb (wMix X.K Wout D l) (X.pn ++ pins) (fun e sa => wpAny (model X.prog X.w) X.A (noteFrame e X.env) (fun _ sb => wpAny (model X.prog X.w) X.A (setFlight e none) (fun _ sc =>
    wpAny (model X.prog X.w) X.A (handleBy e X.env (h0 :: hds)) (SP X pins D) X.xe sc) X.xe sb) X.xe sa) (fun u s2 air => ?_) PassesOwn.looking).run [] s σ H D (I.toTry _) h) (fun f s1 hsp => ?_) (fun e s1 he => he)
  · obtain ⟨a, B, sI, pins2, σ2, H2, cls, d, rfl, J0, nb, up, sky, na, os, ag, w⟩ := air
    have J := J0.ofTry ok
    rw [hs] at sky
    show wpAny (model X.prog X.w) X.A (noteFrame (.ref a) X.env) _ _ _
    refine Sky.land Zc.steady fr0 hf sky fun g3 fl3 up3 => ?_
    have J3 : Inv X pins σ2 H2 { s2 with heap := g3 } := J.landed nb fl3.1 (up.trans up3) os ag
    obtain ⟨o3, vs3, e3, z3, d3⟩ := fl3.there
    have nfr : a ∉ frs (X.env :: X.outer) := fun hm => by
      obtain ⟨_, o', e', hnf⟩ := fl3.2.2.1.mem hm
      rw [e3] at e'
      cases e'
      exact hnf _ d3
    have nL : a ≠ X.env.locals := fun z => nfr (List.mem_filterMap.mpr ⟨X.env, List.mem_cons_self, by rw [hf, z]⟩)
    have nF : a ∉ X.fs := fun hm => by
      obtain ⟨e, he, q⟩ := List.mem_filterMap.mp hm
      exact nfr (List.mem_filterMap.mpr ⟨e, List.mem_cons_of_mem _ he, q⟩)
    have S3 := J3.suite e3 d3 na nL nF
    have look : ∀ {x : Str} {np : Pos} {c : Value} {Q : Value → Shared → Prop} {E : Value → Shared → Prop}, Names X x c → Q c { s2 with heap := g3 } → wpAny (model X.prog X.w) (X.A.mark (some (.ref a))) (eval (.Name x np) X.env) Q E { s2 with heap := g3 } := fun {x np c Q E} hc q => by
      obtain ⟨hg, hdbg, hm | ⟨hm, hv, hnn⟩⟩ := hc
      · exact ld_glob (X := X.suite a ((a, o3) :: (X.pn ++ pins))) S3 hg hm q hdbg
      · exact ld_blt (X := X.suite a ((a, o3) :: (X.pn ++ pins))) S3 hg hm hv q hnn hdbg
    have LT : PySem.W.Looks (model X.prog X.w) g3 (typeOf (.ref a)) cls := fun A Q E s k q => wpAny_typeOf_ref (k _ _ e3) (by rw [z3.1]; exact q)
    have go : ∀ {hds2 : List ExceptHandler} {l2 : List Cls1}, HdsM X hds2 l2 → wMix X.K Wout D l2 cls d σ2 H2 →
        wpAny (model X.prog X.w) X.A (handleBy (.ref a) X.env hds2) (SP X pins D) X.xe { s2 with heap := g3 } := by
      intro hds2 l2 hk
      induction hk with
      | nil =>
        intro w
        refine wpAny_handleBy_nil ?_
        obtain ⟨k1, k2, k3, oe, vs, T, oT, tr, he, hz, hd, h1, hr⟩ := id fl3
        unfold PySem.passOn
        refine wpAny_bind (wpAny_field he hd h1 ?_)
        rw [if_neg (show ¬ ((Value.ref T == Value.none) = true) from by simp)]
        have fin : wpAny (model X.prog X.w) X.A (setFlight (.ref a) X.env.frame) (fun _ s4 => wpAny (model X.prog X.w) X.A (throw (.ref a) : Sem Flow) (SP X pins D) X.xe s4) X.xe { s2 with heap := g3 } := by
          rw [hf]
          refine HandSPX.setFlight_upZ fl3 fun g4 hh4 up4 => wpAny_throw (tk _ _ ?_)
          exact ⟨a, B, sI, pins, σ2, H2, cls, d, rfl, J, nb, (up.trans up3).trans up4, .inr (.inr (by rw [hs]; exact hh4)), na, os, ag, w⟩
        first
          | exact wpAny_bind (wpAny_pure (wpAny_bind fin))
          | exact wpAny_bind fin
      | @plain x c ts b0 suite np p2 hds3 l3 hc su r ih =>
        intro w
        obtain ⟨b, hb1, hyes, hno⟩ := w
        refine wpAny_handleBy_cons (codeAny_handlers_test ?_) (by intro q; cases q)
        refine look hc ((PySem.W.exm_one (M := model X.prog X.w) J3.kIn LT hb1).here ?_)
        cases b with
        | true =>
          refine codeAny_handlers_suite ?_
          refine HandSPX.lands_againZ fl3 fun g4 fl4 up4 => ?_
          have J4 : Inv X pins σ2 H2 { s2 with heap := g4 } := J.landed nb fl4.1 ((up.trans up3).trans up4) os ag
          obtain ⟨o4, vs4, e4, z4, d4⟩ := fl4.there
          refine wpAny_mono ((su a o4 cls d (X.pn ++ pins) z4 ⟨_, d4⟩).run [] _ _ H2 _ (J4.suite e4 d4 na nL nF) (hyes rfl a na)) (fun f s6 hsp => ?_) (fun _ _ z => False.elim z)
          cases f with
          | next => obtain ⟨_, _, S6, q6⟩ := hsp; exact ⟨_, _, S6.unsuite ok, q6⟩
          | brk => obtain ⟨_, _, S6, q6⟩ := hsp; exact ⟨_, _, S6.unsuite ok, q6⟩
          | cont => obtain ⟨_, _, S6, q6⟩ := hsp; exact ⟨_, _, S6.unsuite ok, q6⟩
          | ret u => obtain ⟨_, _, _, S6, r6, q6⟩ := hsp; exact ⟨_, _, _, S6.unsuite ok, r6, q6⟩
        | false =>
          show wpAny _ X.A (handleBy (.ref a) X.env hds3) _ _ _
          exact ih (hno rfl)
      | @named x n i c ts b0 suite np p2 hds3 l3 hN hi hln hc su r ih =>
        intro w
        obtain ⟨b, hb1, hyes, hno⟩ := w
        refine wpAny_handleBy_cons (codeAny_handlers_test ?_) (by intro q; cases q)
        refine look hc ((PySem.W.exm_one (M := model X.prog X.w) J3.kIn LT hb1).here ?_)
        cases b with
        | true =>
          refine codeAny_handlers_suite_as ?_
          refine HandSPX.lands_againZ fl3 fun g4 fl4 up4 => ?_
          have J4 : Inv X pins σ2 H2 { s2 with heap := g4 } := J.landed nb fl4.1 ((up.trans up3).trans up4) os ag
          obtain ⟨o4, vs4, e4, z4, d4⟩ := fl4.there
          refine store_ok (X := X.suite a ((a, o4) :: (X.pn ++ pins))) (v := .ref a) (J4.suite e4 d4 na nL nF) hN hi (.inl hln) rfl (fun s5 S5 => ?_) (.inr hln)
          refine wpAny_mono ((su a o4 cls d (X.pn ++ pins) z4 ⟨_, d4⟩).run [] s5 _ H2 _ S5 (hyes rfl a na)) (fun f s6 hsp => ?_) (fun _ _ z => False.elim z)
          have away : ∀ {σ6 : L2.St} {H6 : Hp} {Q : Shared → Prop}, Inv (X.suite a ((a, o4) :: (X.pn ++ pins))) [] σ6 H6 s6 → (∀ s7, Inv X pins (σ6.set i none) H6 s7 → Q s7) →
              wpAny (model X.prog X.w) X.A (do bindName X.env n .none; unbindBehindTheSuite X.env n p2) (fun _ s7 => Q s7) X.xe s6 := fun {σ6 H6 Q} S6 hq => gone_ok (S6.unsuite ok) hN hi hln hq
          cases f with
          | next => obtain ⟨_, _, S6, q6⟩ := hsp; exact away S6 fun s7 J7 => ⟨_, _, J7, q6⟩
          | brk => obtain ⟨_, _, S6, q6⟩ := hsp; exact away S6 fun s7 J7 => ⟨_, _, J7, q6⟩
          | cont => obtain ⟨_, _, S6, q6⟩ := hsp; exact away S6 fun s7 J7 => ⟨_, _, J7, q6⟩
          | ret u => obtain ⟨_, _, _, S6, r6, q6⟩ := hsp; exact away S6 fun s7 J7 => ⟨_, _, _, J7, r6, q6⟩
        | false =>
          show wpAny _ X.A (handleBy (.ref a) X.env hds3) _ _ _
          exact ih (hno rfl)
    exact go hh w
  · cases f with
    | next => obtain ⟨_, _, S6, q6⟩ := hsp; exact wpAny_execs_nil ⟨_, _, S6.ofTry ok, q6⟩
    | brk => obtain ⟨_, _, S6, q6⟩ := hsp; exact ⟨_, _, S6.ofTry ok, q6⟩
    | cont => obtain ⟨_, _, S6, q6⟩ := hsp; exact ⟨_, _, S6.ofTry ok, q6⟩
    | ret u => obtain ⟨_, _, _, S6, r6, q6⟩ := hsp; exact ⟨_, _, _, S6.ofTry ok, r6, q6⟩
end
end Rz

namespace Rz
open PySem PySem.Spec PyProof.Rows L2
/-! ### calls whose exceptions are wished for at the caller's slots -/
abbrev EX := L2.St → XK
/-- nothing is let out -/
abbrev EN : EX := fun _ => E0
theorem atN {X : Cx} (σ : L2.St) : PassesAt (L2.CX X.prog X.w) X σ (EN σ) := fun _ _ _ _ _ _ h => by
  obtain ⟨_, _, _, _, _, _, _, _, _, _, _, _, z⟩ := h
  exact z.elim
section
variable {X : Cx} {CX : CXT} {k : Nat} {f C : Addr} {fd : FuncData} {ps : List Str} {sp : Sp} {dvs : List V} {ds : List Value} {E : EX} {x m : Str} {p pos apos : Pos} {e o : Expr} {es : List Expr} {ta : TE} {t : TA}
theorem run_X {pins : List (Addr × Obj)} {σ : L2.St} {H : Hp} {s : Shared} {Q : VK} {us : List Value} {vs : List V} {A : Around} (F : FnOk X.prog X.w X.K X.mg X.base CX k f fd ps sp) (hr : Room k A) (hfr : A.frames = X.A.frames) (hb : Binds X.K fd ps ds) (hd : Vals dvs ds) (hx : PassesAt CX X σ (E σ))
    (I : Inv X pins σ H s) (r : Vals vs us) (h : sp (vs ++ dvs) H Q (E σ)) : codeAny (model X.prog X.w) A (.call (.ref f) ⟨us, []⟩) (fun q s' => match q with
      | .ok (.ret u) => EP X pins σ Q u s'
      | .ok _ => False
      | .error er => X.xe er s') s := by
  have e0 : Env0 X.prog X.w X.K X.mg X.base A X.stack s H := by
    have z := I.env0
    exact ⟨by rw [hfr]; exact z.frames, z.mod, z.bs, z.bsz, z.funs, z.frf, z.hok, z.bare⟩
  have hz := F.len _ _ _ _ h
  rw [(r.append hd).length] at hz
  refine codeAny_mono (F.run A X.stack s H ⟨us, []⟩ (us ++ ds) (vs ++ dvs) Q (E σ) hr e0 (hb s us I.kIn hz) (r.append hd) h) fun q s' hq => ?_
  match q, hq with
  | .error er, hq => exact hx pins H s er s' I hq
  | .ok (.ret u), hq => exact I.after hq
  | .ok .next, hq => exact hq
  | .ok .brk, hq => exact hq
  | .ok .cont, hq => exact hq
theorem ended {pins : List (Addr × Obj)} {σ : L2.St} {Q : VK} {q : Result} {s' : Shared} (h : match q with
      | .ok (.ret u) => EP X pins σ Q u s'
      | .ok _ => False
      | .error er => X.xe er s') : wants (EP X pins σ Q) X.xe q s' := by
  match q, h with
  | .error er, h => exact h
  | .ok (.ret u), h => exact h
  | .ok .next, h => exact h.elim
  | .ok .brk, h => exact h.elim
  | .ok .cont, h => exact h.elim
theorem run_XC {pins : List (Addr × Obj)} {σ : L2.St} {H : Hp} {s : Shared} {Q : VK} {us : List Value} {vs : List V} (F : FnOk X.prog X.w X.K X.mg X.base CX k f fd ps sp) (hr : Room k X.A) (hb : Binds X.K fd ps ds) (hd : Vals dvs ds) (hx : PassesAt CX X σ (E σ))
    (I : Inv X pins σ H s) (r : Vals vs us) (h : sp (vs ++ dvs) H Q (E σ)) : wpAny (model X.prog X.w) X.A (call (.ref f) us) (EP X pins σ Q) X.xe s :=
  wpAny_call (codeAny_mono (run_X F hr rfl hb hd hx I r h) fun _ _ hq => ended hq)
/-- f(..) -/
def tFn (sp : Sp) (dvs : List V) (E : EX) (t : TA) : TE := fun σ H Q => t σ H fun vs H1 => sp (vs ++ dvs) H1 Q (E σ)
theorem pe_fn (F : FnOk X.prog X.w X.K X.mg X.base CX k f fd ps sp) (hr : Room k X.A) (hg : Gl X x) (hm : X.mg x = some (.ref f)) (hk : PySem.W.keepIn X.K (.ref f) = true) (hb : Binds X.K fd ps ds) (hd : Vals dvs ds) (hx : ∀ σ, PassesAt CX X σ (E σ))
    (ha : PA X (e :: es) t) (hdb : (x == ("__debug__" : Str)) = false := by decide) (he : starEach (e :: es) X.env = (false, eval e X.env) :: starEach es X.env := by rfl) (hpl : (backTo pos (starEach es X.env)).any (·.1) = false := by rfl) :
    PE X (.Call (.Name x p) (e :: es) [] pos) (tFn sp dvs E t) := ⟨fun pins s σ H Q I h =>
  wpAny_Call_Name_kw (ld_glob I hg hm (PySem.W.callWith_K (h₀ := X.base) I.ok.mod.kin hk (thn (ha.run pos pins s σ H _ I h) fun us s1 ⟨vs, H1, J, r, q⟩ => ⟨J.kIn, run_XC F hr hb hd (hx σ) J r q⟩) he hpl) hdb)⟩
theorem pe_fn0 (F : FnOk X.prog X.w X.K X.mg X.base CX k f fd ps sp) (hr : Room k X.A) (hg : Gl X x) (hm : X.mg x = some (.ref f)) (hk : PySem.W.keepIn X.K (.ref f) = true) (hb : Binds X.K fd ps ds) (hd : Vals dvs ds) (hx : ∀ σ, PassesAt CX X σ (E σ))
    (hdb : (x == ("__debug__" : Str)) = false := by decide) : PE X (.Call (.Name x p) [] [] pos) (tFn sp dvs E tNil) := ⟨fun pins s σ H Q I h =>
  wpAny_Call_Name_kw (ld_glob I hg hm (PySem.W.callWith_K0 I.kIn hk (run_XC (us := []) F hr hb hd (hx σ) I .nil h)) hdb)⟩
/-- o.m(..) -/
def tMt (C : Addr) (m : Str) (sp : Sp) (dvs : List V) (E : EX) (ta : TE) (t : TA) : TE := fun σ H Q => ta σ H fun x H1 => ∃ a dx fs, x = .ref a ∧ H1 a = some (.ins C dx fs) ∧ fs.lookup m = none ∧
  t σ H1 fun vs H2 => sp (x :: (vs ++ dvs)) H2 Q (E σ)
theorem pe_mt {pl : Sem Bool} (he : PE X o ta) (c : Cls X.K C) (hm : Meth X.K C m f) (F : FnOk X.prog X.w X.K X.mg X.base CX k f fd ps sp) (hr : Room k X.A) (hb : Binds X.K fd ps ds) (hd : Vals dvs ds) (hx : ∀ σ, PassesAt CX X σ (E σ)) (ha : PA X (e :: es) t)
    (hst : starEach (e :: es) X.env = (false, eval e X.env) :: starEach es X.env := by rfl) (hpl : (backTo pos (starEach es X.env)).any (·.1) = false := by rfl)
    (ht : eval (.Call (.Attribute o m apos) (e :: es) [] pos) X.env = (do
      let ov ← eval o X.env
      standAt apos.atName
      let (f, first) ← holding [ov] (getMethod ov m pl)
      callWith pos f first (backTo pos (starEach (e :: es) X.env)) (backToKw pos (keywordEach [] X.env))) := by rfl) :
    PE X (.Call (.Attribute o m apos) (e :: es) [] pos) (tMt C m sp dvs E ta t) := by
  refine ⟨fun pins s σ H Q I h => PySem.W.methodCall_KW (pl := pl) (thn (he.run pins s σ H _ I h) fun u s1 hh => ?_) ht⟩
  obtain ⟨x, H1, J, rx, a, dx, fs, rfl, ea, l, q⟩ := hh
  obtain rfl : u = Value.ref a := rx
  refine getmeth_ok J ea c hm l (PySem.W.callWith_K (first := [.ref a]) (h₀ := X.base) I.ok.mod.kin hm.kp (thn (ha.run pos pins s1 σ H1 _ J q) fun us s2 ⟨vs, H2, J2, r, q2⟩ => ⟨J2.kIn, ?_⟩) hst hpl)
  exact run_XC (us := .ref a :: us) (vs := .ref a :: vs) F hr hb hd (hx σ) J2 (.cons rfl r) q2
theorem pe_mt0 {pl : Sem Bool} (he : PE X o ta) (c : Cls X.K C) (hm : Meth X.K C m f) (F : FnOk X.prog X.w X.K X.mg X.base CX k f fd ps sp) (hr : Room k X.A) (hb : Binds X.K fd ps ds) (hd : Vals dvs ds) (hx : ∀ σ, PassesAt CX X σ (E σ))
    (ht : eval (.Call (.Attribute o m apos) [] [] pos) X.env = (do
      let ov ← eval o X.env
      standAt apos.atName
      let (f, first) ← holding [ov] (getMethod ov m pl)
      callWith pos f first (backTo pos (starEach [] X.env)) (backToKw pos (keywordEach [] X.env))) := by rfl) :
    PE X (.Call (.Attribute o m apos) [] [] pos) (tMt C m sp dvs E ta tNil) := by
  refine ⟨fun pins s σ H Q I h => PySem.W.methodCall_KW (pl := pl) (thn (he.run pins s σ H _ I h) fun u s1 hh => ?_) ht⟩
  obtain ⟨x, H1, J, rx, a, dx, fs, rfl, ea, l, q⟩ := hh
  obtain rfl : u = Value.ref a := rx
  refine getmeth_ok J ea c hm l (PySem.W.callWith_K0 (first := [.ref a]) J.kIn hm.kp ?_)
  exact run_XC (us := [.ref a]) (vs := [.ref a]) F hr hb hd (hx σ) J (.cons rfl .nil) q
/-- C(..): a new instance, then its __init__ -/
def tMk (C : Addr) (sp : Sp) (dvs : List V) (E : EX) (t : TA) : TE := fun σ H Q => t σ H fun vs H1 => ∀ x dx, H1 x = none → H1 dx = none → dx ≠ x →
  sp (.ref x :: (vs ++ dvs)) (upd (upd H1 dx (.own x)) x (.ins C dx [])) (fun v H2 => v = .non ∧ Q (.ref x) H2) (E σ)
theorem run_mk {pins : List (Addr × Obj)} {σ : L2.St} {H : Hp} {s : Shared} {Q : VK} {us : List Value} {vs : List V} (M : Mk X.K C f) (F : FnOk X.prog X.w X.K X.mg X.base CX k f fd ps sp) (hr : Room (k + 1) X.A) (hb : Binds X.K fd ps ds) (hd : Vals dvs ds)
    (hx : PassesAt CX X σ (E σ)) (I : Inv X pins σ H s) (r : Vals vs us)
    (h : ∀ x dx, H x = none → H dx = none → dx ≠ x → sp (.ref x :: (vs ++ dvs)) (upd (upd H dx (.own x)) x (.ins C dx [])) (fun v H2 => v = .non ∧ Q (.ref x) H2) (E σ)) :
    wpAny (model X.prog X.w) X.A (call (.ref C) us) (EP X pins σ Q) X.xe s := by
  have hq := h (s.heap.objs.size + 1) s.heap.objs.size (I.hok.fresh (Nat.le_succ _)) (I.hok.fresh (Nat.le_refl _)) (Nat.ne_of_lt (Nat.lt_succ_self _))
  have J := Inv.made (C := C) I
  refine wpAny_call (make_map (f := f) I.kIn M.makes M.init (beq_iff_eq.mp M.fn) (codeAny_mono (run_X (vs := .ref (s.heap.objs.size + 1) :: vs) (us := .ref (s.heap.objs.size + 1) :: us) F (hr.make C us []) ((J.env0.make C us []).frames.trans J.ok.frames.symm) hb hd hx J (.cons rfl r) hq) fun q s' hq' => ?_))
  match q, hq' with
  | .error er, hq' => exact hq'
  | .ok (.ret u), hq' =>
    obtain ⟨v, H2, J2, rv, ev, q3⟩ := hq'
    subst ev
    exact ⟨rv, ⟨V.ref (s.heap.objs.size + 1), H2, J2, rfl, q3⟩⟩
  | .ok .next, hq' => exact hq'.elim
  | .ok .brk, hq' => exact hq'.elim
  | .ok .cont, hq' => exact hq'.elim
theorem pe_mk (M : Mk X.K C f) (F : FnOk X.prog X.w X.K X.mg X.base CX k f fd ps sp) (hr : Room (k + 1) X.A) (hg : Gl X x) (hm : X.mg x = some (.ref C)) (hb : Binds X.K fd ps ds) (hd : Vals dvs ds) (hx : ∀ σ, PassesAt CX X σ (E σ))
    (ha : PA X (e :: es) t) (hdb : (x == ("__debug__" : Str)) = false := by decide) (he : starEach (e :: es) X.env = (false, eval e X.env) :: starEach es X.env := by rfl) (hpl : (backTo pos (starEach es X.env)).any (·.1) = false := by rfl) :
    PE X (.Call (.Name x p) (e :: es) [] pos) (tMk C sp dvs E t) := ⟨fun pins s σ H Q I h =>
  wpAny_Call_Name_kw (ld_glob I hg hm (PySem.W.callWith_K (h₀ := X.base) I.ok.mod.kin M.kp (thn (ha.run pos pins s σ H _ I h) fun us s1 ⟨vs, H1, J, r, q⟩ => ⟨J.kIn, run_mk M F hr hb hd (hx σ) J r q⟩) he hpl) hdb)⟩
theorem pe_mk0 (M : Mk X.K C f) (F : FnOk X.prog X.w X.K X.mg X.base CX k f fd ps sp) (hr : Room (k + 1) X.A) (hg : Gl X x) (hm : X.mg x = some (.ref C)) (hb : Binds X.K fd ps ds) (hd : Vals dvs ds) (hx : ∀ σ, PassesAt CX X σ (E σ))
    (hdb : (x == ("__debug__" : Str)) = false := by decide) : PE X (.Call (.Name x p) [] [] pos) (tMk C sp dvs E tNil) := ⟨fun pins s σ H Q I h =>
  wpAny_Call_Name_kw (ld_glob I hg hm (PySem.W.callWith_K0 I.kIn M.kp (run_mk (us := []) M F hr hb hd (hx σ) I .nil h)) hdb)⟩
/-- e.f, a property -/
def tPr (C : Addr) (sp : Sp) (E : EX) (ta : TE) : TE := fun σ H Q => ta σ H fun x H1 => ∃ a dx fs, x = .ref a ∧ H1 a = some (.ins C dx fs) ∧ sp [.ref a] H1 Q (E σ)
theorem pe_pr {p g : Addr} {fn : Str} (he : PE X e ta) (c : Cls X.K C) (hp : PropOf X.K C fn p g) (F : FnOk X.prog X.w X.K X.mg X.base CX k g fd ps sp) (hr : Room (k + 1) X.A) (hb : Binds X.K fd ps []) (hx : Passes CX X.nox E0)
    (hab : attributeBase e fn X.env (eval e X.env) = eval e X.env := by rfl) : PE X (.Attribute e fn pos) (tPr C sp EN ta) := by
  have z := pe_prop (pos := pos) he c hp F hr hb .nil hx hab
  exact z
end
/-- .. nothing leaves -/
theorem passN {X : Cx} : Passes (L2.CX X.prog X.w) X E0 := fun _ σ H s e s' I h => atN (X := X) σ [] H s e s' (I.pins_of (pins' := []) fun p hp => by cases hp) h
end Rz

namespace Rz
open PySem PySem.Spec PyProof.Rows L2
/-! ### short words -/
/-- all but what stands at D is as it was -/
def But (D : List Addr) (H H' : Hp) : Prop := ∀ b o, b ∉ D → H b = some o → H' b = some o
theorem But.refl (D : List Addr) (H : Hp) : But D H H := fun _ _ _ h => h
theorem But.trans {D : List Addr} {H H1 H2 : Hp} (a : But D H H1) (b : But D H1 H2) : But D H H2 := fun c o n h => b c o n (a c o n h)
theorem But.mono {D D' : List Addr} {H H' : Hp} (a : But D H H') (h : ∀ b ∈ D, b ∈ D') : But D' H H' := fun c o n e => a c o (fun z => n (h c z)) e
theorem But.of {D : List Addr} {H H' : Hp} (h : Same H H') : But D H H' := fun b o _ e => h b o e
theorem But.same {H H' : Hp} (h : But [] H H') : Same H H' := fun b o e => h b o (by simp) e
theorem But.at {D : List Addr} {H H' : Hp} {b : Addr} {o : HO} (h : But D H H') (e : H b = some o) (n : b ∉ D := by simp) : H' b = some o := h b o n e
theorem But.upd {D : List Addr} {H H' : Hp} {p : Addr} {o : HO} (h : But D H H') (hp : p ∈ D ∨ H p = none) : But D H (upd H' p o) := fun b u n e => by
  have nb : b ≠ p := fun z => by
    subst z
    rcases hp with hp | hp
    · exact n hp
    · rw [hp] at e; cases e
  rw [upd_ne nb]
  exact h b u n e
theorem Same.upd {H H' : Hp} {p : Addr} {o : HO} (h : Same H H') (hp : H p = none) : Same H (upd H' p o) := fun b u e => by
  have nb : b ≠ p := fun z => by
    subst z
    rw [hp] at e; cases e
  rw [upd_ne nb]
  exact h b u e
theorem Same.new {H H' : Hp} {p : Addr} {o : HO} (h : Same H H') (hp : H' p = none) : Same H (L2.upd H' p o) := Rz.Same.upd h (h.free hp)
theorem Same.seqT {K : PySem.W.Frag} {H H' : Hp} {a : Addr} {xs : List V} (e : Same H H') (h : SqT K H a xs) : SqT K H' a xs := by
  rcases h with (h | ⟨o, h⟩) | h
  · exact .inl (.inl (e _ _ h))
  · exact .inl (.inr ⟨o, e _ _ h⟩)
  · exact .inr h
theorem But.free {D : List Addr} {H H' : Hp} (e : But D H H') {l : Addr} (n : l ∉ D) (h : H' l = Option.none) : H l = Option.none := by
  cases q : H l with
  | none => rfl
  | some o => rw [e l o n q] at h; cases h
section
variable {P : Program} {w : World} {K : PySem.W.Frag} {mg : Str → Option Value} {base : Heap}
/-- a def that lets nothing out -/
theorem Fun.okN {x qual : Str} {st : Stmt} {f : Addr} {fd : FuncData} {N ps : List Str} {k : Nat} {sp : Sp} (F : Fun K x qual st f fd) (S : FnScope N ps (defScope st)) (len : ∀ vs H Q E, sp vs H Q E → vs.length = ps.length)
    (hb : ∀ (cdv : Value) (A : Around) (outer : List Env) (s : Shared) (H : Hp) (vs : List V) (Q : VK) (E : XK), Room k (A.deeper (envOfC qual (defScope st) s.heap.objs.size f cdv)) → sp vs H Q E →
      ∃ t, PSs (cxOf (L2.CX P w) P w K mg base N qual (defScope st) f cdv A outer s H E).nox (defBody st) t ∧ t { nx := fun _ H' => Q .non H', rt := Q } (start N vs) H) : FnOk P w K mg base (L2.CX P w) (k + 1) f fd ps sp :=
  F.okX S len fun cdv A outer s H vs Q E hr h => let ⟨t, h1, h2⟩ := hb cdv A outer s H vs Q E hr h; ⟨t, h1.nox, h2⟩
end
/-! ### the law's draws -/
def Dr (H : Hp) (d : Addr) : Prop := ∃ ns : List Int, H d = some (.lst (ns.map V.int)) ∧ ns.length ≤ 4000
theorem Dr.same {H H' : Hp} {d : Addr} (h : Dr H d) (e : Same H H') : Dr H' d := let ⟨ns, h1, h2⟩ := h; ⟨ns, e _ _ h1, h2⟩
theorem mapi_get {ns : List Int} {i : Nat} {y : V} (h : (ns.map V.int)[i]? = some y) : ∃ u, ns[i]? = some u ∧ y = .int u := by
  rw [List.getElem?_map] at h
  cases e : ns[i]? with
  | none => rw [e] at h; cases h
  | some u => rw [e] at h; exact ⟨u, rfl, (Option.some.inj h).symm⟩
theorem no_cx : ∀ {P : Program} (w : World) (H : Hp) (s : Shared) (e : Value) (s' : Shared), L2.CX P w [] H s (fun _ _ _ => False) e s' → False := fun _ _ _ _ _ h => by
  obtain ⟨_, _, _, _, _, _, _, _, _, _, _, _, z⟩ := h
  exact z
end Rz
namespace Rz
open PySem PySem.Spec PyProof.Rows L2
theorem joinL_nil : ∀ ps : List (List Nat), TL.joinL [] ps = ps.flatten
  | [] => rfl
  | [p] => by simp [TL.joinL]
  | p :: q :: r => by
    have ih := joinL_nil (q :: r)
    show p ++ ([] ++ TL.joinL [] (q :: r)) = _
    rw [ih]
    simp
theorem join0 (ys : List Str) : (Txt.join "" ys).cps.toList = (ys.map fun y => y.cps.toList).flatten := by
  rw [TL.join_eq]
  exact (TL.tl_join "" ys).trans (joinL_nil _)
theorem join0_len (ys : List Str) : (Txt.join "" ys).length = (ys.map fun y => y.length).sum := by
  have h := congrArg List.length (join0 ys)
  rw [List.length_flatten, List.map_map] at h
  exact h
/-- every sign of x is one of z -/
def Over (z x : Str) : Prop := ∀ c ∈ x.cps.toList, c ∈ z.cps.toList
theorem over_join {z : Str} {ys : List Str} (h : ∀ y ∈ ys, Over z y) : Over z (Txt.join "" ys) := fun c hc => by
  rw [join0, List.mem_flatten] at hc
  obtain ⟨l, hl, hc⟩ := hc
  obtain ⟨y, hy, rfl⟩ := List.mem_map.mp hl
  exact h y hy c hc
theorem sum_ones : ∀ {ys : List Str}, (∀ y ∈ ys, y.length = 1) → (ys.map fun y => y.length).sum = ys.length
  | [], _ => rfl
  | y :: r, h => by
    rw [List.map_cons, List.sum_cons, sum_ones (ys := r) fun z hz => h z (List.mem_cons_of_mem _ hz), h y List.mem_cons_self, List.length_cons]
    omega
theorem atI_in {α : Type} {xs : List α} {r : Int} (h0 : 0 ≤ r) (h1 : r < xs.length) : ∃ v, v ∈ xs ∧ atI xs r = some v := by
  obtain ⟨n, rfl⟩ := Int.eq_ofNat_of_zero_le h0
  have hn : n < xs.length := by omega
  exact ⟨xs[n], List.getElem_mem hn, atI_nat (List.getElem?_eq_getElem hn)⟩
theorem yesT {σ : L2.St} {H : Hp} {A B : Hp → Prop} (h : A H) : tYes σ H fun b H3 => if b = true then A H3 else B H3 := by
  show (if true = true then A H else B H)
  rw [if_pos rfl]
  exact h
theorem len_list (z : Str) : z.cps.toList.length = z.length := rfl
end Rz
namespace Rz
open PySem PySem.Spec PyProof.Rows L2
/-! ### signs -/
def abc : Str := "abcdefghijklmnopqrstuvwxyz"
def oddC (c : Nat) : Bool := !decide (c ∈ abc.cps.toList)
/-- the place of the first character that is no sign -/
def fo (z : Str) : Option Nat := z.cps.toList.findIdx? oddC
def foI (z : Str) : Int := match fo z with
  | some i => (i : Int)
  | none => -1
theorem fo_some {z : Str} {i : Nat} {c : Nat} (h : z.cps.toList[i]? = some c) (ho : oddC c = true) (hb : ∀ (j c : Nat), j < i → z.cps.toList[j]? = some c → oddC c = false) : fo z = some i := by
  obtain ⟨hi, hc⟩ := List.getElem?_eq_some_iff.mp h
  refine List.findIdx?_eq_some_iff_getElem.mpr ⟨hi, by rw [hc]; exact ho, fun j hj => ?_⟩
  have e := hb j _ hj (List.getElem?_eq_getElem (Nat.lt_trans hj hi))
  rw [e]
  exact Bool.false_ne_true
theorem fo_none {z : Str} (h : ∀ (j c : Nat), z.cps.toList[j]? = some c → oddC c = false) : fo z = none :=
  List.findIdx?_eq_none_iff.mpr fun c hc => by
    obtain ⟨j, hj, e⟩ := List.getElem_of_mem hc
    exact h j c (by rw [List.getElem?_eq_getElem hj, e])
theorem fo_lt {z : Str} {i : Nat} (h : fo z = some i) : i < z.length := by
  obtain ⟨hi, _⟩ := List.findIdx?_eq_some_iff_getElem.mp h
  exact hi
theorem log_small {n : Int} {k : Nat} (h : n.natAbs < 2 ^ k) (hk : k ≤ 1919) : n.natAbs.log2 < 1920 := by
  by_cases h0 : n.natAbs = 0
  · rw [h0]
    decide
  · exact Nat.lt_of_lt_of_le ((Nat.log2_lt h0).mpr h) (by omega)
theorem log_nat {i : Nat} (h : i < 2 ^ 64) : (i : Int).natAbs.log2 < 1920 := log_small (k := 64) (by simpa using h) (by decide)
end Rz
namespace Rz
open PySem PySem.Spec PyProof.Rows L2
/-- what is asked where such an exception is made, and what is known then -/
theorem raise_fld {C : Addr} {fld : Str} {n : Int} {H1 : Hp} {Q : XK} (hn : n.natAbs.log2 < 1920) (q : ∀ H' d, Same H1 H' → H1 d = none → H' d = some (.xd [(fld, .int n)]) → Q (.ref C) (some d) H') :
    ∀ a, H1 a = none → spExI C fld (.ref a :: ([V.int n] ++ [])) (upd H1 a (exo a C none))
      (fun v H2 => v = .non ∧ ∃ (d : Addr) (fs : List (Str × V)), H2 a = some (exo a C (some d)) ∧ H2 d = some (exd d fs) ∧ H1 d = none ∧ Q (.ref C) (some d) (upd (del H2 a) d (.xd fs))) (fun _ _ _ => False) := fun a ha => by
  refine ⟨a, n, rfl, hn, upd_same, fun dx hdx nda => ⟨rfl, dx, [(fld, .int n)], by rw [upd_same], ?_, ?_, ?_⟩⟩
  · rw [upd_ne nda, upd_same]
  · rw [upd_ne nda] at hdx
    exact hdx
  · have hd1 : H1 dx = none := by
      rw [upd_ne nda] at hdx
      exact hdx
    refine q _ dx (fun b o e => ?_) hd1 upd_same
    have nba : b ≠ a := ne_of_none e ha
    have nbd : b ≠ dx := ne_of_none e hd1
    rw [upd_ne nbd, del_ne nba, upd_ne nba, upd_ne nbd, upd_ne nba]
    exact e
end Rz

namespace Rz
open PySem PySem.Spec PyProof.Rows L2
/-! ### data: lists of ints -/
abbrev dInts (ns : List Int) : PyData := .list (ns.map PyData.int)
theorem all_ints_lay : ∀ ns : List Int, PyData.canLayAll0 (ns.map PyData.int) = true
  | [] => rfl
  | n :: ns => by simp only [List.map_cons, PyData.canLayAll0, PyData.canLay0, all_ints_lay ns, Bool.and_self]
theorem all_ints_depth : ∀ ns : List Int, PyData.depthAll (ns.map PyData.int) = 0
  | [] => rfl
  | n :: ns => by simp only [List.map_cons, PyData.depthAll, PyData.depth, all_ints_depth ns, Nat.max_self]
theorem ints_shaped (ns : List Int) : SeqAt.shaped (dInts ns) = true := by
  have h : PyData.depth (dInts ns) ≤ 64 := by
    show PyData.depthAll (ns.map PyData.int) + 1 ≤ 64
    rw [all_ints_depth]
    decide
  show (PyData.canLayAll0 (ns.map PyData.int) && decide (PyData.depth (dInts ns) ≤ 64)) = true
  rw [all_ints_lay, decide_eq_true h]
  rfl
theorem ints_eqvA : ∀ a b : List Int, PyData.eqvAll (a.map PyData.int) (b.map PyData.int) = decide (a = b)
  | [], [] => rfl
  | [], _ :: _ => by simp [PyData.eqvAll]
  | _ :: _, [] => by simp [PyData.eqvAll]
  | x :: xs, y :: ys => by
    rw [List.map_cons, List.map_cons, PyData.eqvAll, ints_eqvA xs ys]
    show ((x == y) && decide (xs = ys)) = _
    by_cases h : x = y
    · subst h; simp
    · simp [h]
theorem ints_eqv (a b : List Int) : PyData.eqv (dInts a) (dInts b) = decide (a = b) := by
  show PyData.eqvAll _ _ = _
  exact ints_eqvA a b
theorem dp_intsA {K : PySem.W.Frag} {H : Hp} : ∀ ns : List Int, DpAll K H (ns.map V.int) (ns.map PyData.int)
  | [] => .nil
  | n :: ns => .cons (.int n) (dp_intsA ns)
theorem dp_ints {K : PySem.W.Frag} {H : Hp} {a : Addr} {ns : List Int} (h : SqL K H a (ns.map V.int)) : Dp K H (.ref a) (dInts ns) := .lst h (dp_intsA ns)
end Rz

namespace Rz
open PySem PySem.Spec PyProof.Rows L2
/-! ### the class's own special methods -/
section
variable {X : Cx} {k : Nat} {f C a dx : Addr} {fs : List (Str × V)} {fd : FuncData} {ps : List Str} {sp : Sp} {pins : List (Addr × Obj)} {σ : L2.St} {H : Hp} {s : Shared}
/-- the instance as the library's rules want it -/
theorem inst_at (I : Inv X pins σ H s) (e : H a = some (.ins C dx fs)) : ∃ od, PySem.W.InstAt s.heap a (PySem.W.instObj C dx) C (some od) := by
  obtain ⟨mA, O, _⟩ := ins_get I.hok e
  obtain ⟨od, J, _⟩ := O.look
  exact ⟨od, J⟩
/-- the def called somewhere below the running body, nothing leaves it -/
theorem run_below {Q : VK} {us : List Value} {vs : List V} {A : Around} {E' : Value → Shared → Prop} (F : FnOk X.prog X.w X.K X.mg X.base (L2.CX X.prog X.w) k f fd ps sp) (hr : Room k A) (hfr : A.frames = X.A.frames) (hb : Binds X.K fd ps [])
    (I : Inv X pins σ H s) (r : Vals vs us) (h : sp vs H Q E0) : wpAny (model X.prog X.w) A (call (.ref f) us) (EP X pins σ Q) E' s := by
  have z := run_X (E := EN) (X := X.nox) (A := A) (pins := pins) (σ := σ) (Q := Q) F hr hfr hb .nil (atN (X := X.nox) σ) (I.wish _) r (by rw [List.append_nil]; exact h)
  refine wpAny_call (codeAny_mono z fun q s' hq => ?_)
  match q, hq with
  | .error er, hq => exact hq.elim
  | .ok (.ret u), hq =>
    obtain ⟨v, H', J, rv, q⟩ := hq
    exact ⟨v, H', J.unwish, rv, q⟩
  | .ok .next, hq => exact hq.elim
  | .ok .brk, hq => exact hq.elim
  | .ok .cont, hq => exact hq.elim
/-- str(x) by the own __str__ -/
theorem call_strO (M : Meth X.K C "__str__" f) (F : FnOk X.prog X.w X.K X.mg X.base (L2.CX X.prog X.w) k f fd ps sp) (hr : Room (k + 2) X.A) (hb : Binds X.K fd ps []) :
    CallR X (.type "str") (fun xs H Q => ∃ a dx fs, xs = [.ref a] ∧ H a = some (.ins C dx fs) ∧ sp [.ref a] H (fun v H' => (∃ z, v = .str z) ∧ Q v H') E0) := by
  intro pins s σ H xs us Q I r h
  obtain ⟨a, dx, fs, rfl, ea, hq⟩ := h
  obtain ⟨u, rfl, ru⟩ := vals1 r
  obtain rfl : u = Value.ref a := ru
  obtain ⟨od, J⟩ := inst_at I ea
  refine PySem.W.kso_call hr.in1.in1.units0 I.kIn J M.at_ M.fn (wpAny_mono (run_below (vs := [.ref a]) F hr.in1.in1 rfl hb I (.cons rfl .nil) hq) (fun v s' hv => ?_) fun _ _ z => z)
  obtain ⟨x, H', J', rx, ⟨z, rfl⟩, q⟩ := hv
  obtain ⟨t, rfl⟩ := rx
  show EP X pins σ Q _ _
  exact ⟨.str z, H', J', ⟨t, rfl⟩, q⟩
end
end Rz

namespace Rz
open PySem PySem.Spec PyProof.Rows L2
open Sem (wp)
/-! ### list(zip(text, list)) -/
theorem zip_nolen : typeLookup (.type "zip") "__len__" = pure Option.none := am_miss_of_fast (by decide +kernel)
theorem zip_nohint : typeLookup (.type "zip") "__length_hint__" = pure Option.none := am_miss_of_fast (by decide +kernel)
section
variable {prog : Program} {w : World} {A : Around} {E : Value → Shared → Prop} {s : Shared} {zz TI TO T i1 i2 L : Addr} {f1 f2 : List Addr} {n1 n2 i n : Nat} {P1 P2 : Nat → Value → Prop} {S1 S2 : Nat → Heap → Prop} {fl : Bool} {oT : Obj}

/-- next of a zip whose tuple is still out -/
theorem zh_item {Q : Value → Shared → Prop} (Z : ZipSep2 zz TI TO i1 i2 f1 f2) (D1 : Draws prog w A i1 f1 n1 P1 S1) (D2 : Draws prog w A i2 f2 n2 P2 S2)
    (gz : IsZipHeld s.heap zz TI TO T fl) (gT : s.heap.get? T = some oT) (gI : IsTupOf2 s.heap TI (.ref i1) (.ref i2)) (t1 : S1 i s.heap) (t2 : S2 i s.heap) (l1 : i < n1) (l2 : i < n2)
    (hQ : ∀ x y h' tk, P1 i x → P2 i y → IsZipHeld h' zz TI TO T true → S1 (i + 1) h' → S2 (i + 1) h' → IsTupOf2 h' s.heap.objs.size x y → h'.objs.size = s.heap.objs.size + 1 →
      (∀ c o, c ≠ zz → c ≠ i1 → c ≠ i2 → s.heap.get? c = some o → h'.get? c = some o) → Q (.ref s.heap.objs.size) { s with heap := h', toks := tk }) :
    wpAny (model prog w) A (Builtin.«zip.__next__» ⟨[.ref zz], []⟩) (fun fin s' => ∃ v, fin = .done (.ret v) ∧ Q v s') E s := by
  obtain ⟨hp, g, d, tk0, os⟩ := s
  show wpAny _ _ (field (.ref zz) 2 >>= _) _ _ _
  refine wpAny_bind (wpAny_field gz rfl (x := .bool false) rfl ?_)
  show wpAny _ _ (field (.ref zz) 3 >>= _) _ _ _
  refine wpAny_bind (wpAny_field gz rfl (x := .ref TI) rfl ?_)
  refine wpAny_bind (wpAny_seqItems gI rfl ?_)
  show wpAny _ _ (Builtin.SmallTypes.ownedTupleIsFree (.ref zz) >>= _) _ _ _
  refine wpAny_bind (wpAny_tupleHeld_zip gz gT fun h1 gz1 s1 => ?_)
  simp only [Bool.false_eq_true, if_false]
  refine wpAny_bind ?_
  rw [← Array.forIn_toList]
  simp only [List.forIn_cons, List.forIn_nil]
  refine wpAny_bind (wpAny_bind (wpAny_holding ?_))
  show wpAny _ _ (Builtin.SmallTypes.nextOf (.ref i1) >>= _) _ _ ⟨h1, g, d, tk0, os⟩
  refine wpAny_bind (D1.item i _ _ _ l1 (D1.over t1 s1 Z.zf1) fun x h2 tk1 px u1 s2 => wpAny_pure (wpAny_pure ?_))
  replace s2 : Heap.SameBut i1 h1 h2 := s2
  refine wpAny_bind (wpAny_bind (wpAny_holding ?_))
  show wpAny _ _ (Builtin.SmallTypes.nextOf (.ref i2) >>= _) _ _ ⟨h2, g, d, tk1, os⟩
  refine wpAny_bind (D2.item i _ _ _ l2 (D2.over (D2.over t2 s1 Z.zf2) s2 Z.sep1_2) fun y h3 tk2 py u2 s3 => wpAny_pure (wpAny_pure (wpAny_pure ?_)))
  replace s3 : Heap.SameBut i2 h2 h3 := s3
  show wpAny _ _ (newTuple [x, y] >>= _) _ _ ⟨h3, g, d, tk2, os⟩
  refine wpAny_bind (wpAny_newTuple ?_)
  have size3 : h3.objs.size = hp.objs.size := by rw [s3.1, s2.1, s1.1]
  have gz3 : IsZipHeld h3 zz TI TO T true := s3.extBut _ _ Z.zi2 (s2.extBut _ _ Z.zi1 gz1)
  have kk : ∀ c o, c ≠ zz → c ≠ i1 → c ≠ i2 → hp.get? c = some o → h3.get? c = some o := fun c o c1 c2 c3 e => s3.extBut _ _ c3 (s2.extBut _ _ c2 (s1.extBut _ _ c1 e))
  refine wpAny_pure ⟨_, rfl, ?_⟩
  show Q (.ref h3.objs.size) ⟨h3.push { cls := .type "tuple", data := .seq #[x, y] }, g, d, tk2, os⟩
  have new : IsTupOf2 (h3.push { cls := .type "tuple", data := .seq #[x, y] }) h3.objs.size x y := Heap.get?_push_size _ rfl
  have size4 : (h3.push { cls := .type "tuple", data := .seq #[x, y] }).objs.size = h3.objs.size + 1 := Heap.size_push ..
  rw [size3] at new size4 ⊢
  exact hQ x y _ tk2 px py (Heap.get?_push_of_some _ gz3) (D1.frame _ _ _ (D1.over u1 s3 Z.sep2_1) fun b _ o e => Heap.get?_push_of_some _ e) (D2.frame _ _ _ u2 fun b _ o e => Heap.get?_push_of_some _ e) new size4 fun c o c1 c2 c3 e => Heap.get?_push_of_some _ (kk c o c1 c2 c3 e)

theorem zh_end {Q : Fin → Shared → Prop} (Z : ZipSep2 zz TI TO i1 i2 f1 f2) (D1 : Draws prog w A i1 f1 n1 P1 S1) (D2 : Draws prog w A i2 f2 n2 P2 S2)
    (gz : IsZipHeld s.heap zz TI TO T fl) (gT : s.heap.get? T = some oT) (gI : IsTupOf2 s.heap TI (.ref i1) (.ref i2)) (t1 : S1 i s.heap) (t2 : S2 i s.heap) (hn1 : i = n1) 
    (hE : ∀ h' tk e, (∀ c o, c ≠ zz → c ≠ i1 → c ≠ i2 → s.heap.get? c = some o → h'.get? c = some o) → (∃ o, h'.get? e = some o ∧ o.cls = .type "StopIteration") → E (.ref e) { s with heap := h', toks := tk }) :
    wpAny (model prog w) A (Builtin.«zip.__next__» ⟨[.ref zz], []⟩) Q E s := by
  obtain ⟨hp, g, d, tk0, os⟩ := s
  show wpAny _ _ (field (.ref zz) 2 >>= _) _ _ _
  refine wpAny_bind (wpAny_field gz rfl (x := .bool false) rfl ?_)
  show wpAny _ _ (field (.ref zz) 3 >>= _) _ _ _
  refine wpAny_bind (wpAny_field gz rfl (x := .ref TI) rfl ?_)
  refine wpAny_bind (wpAny_seqItems gI rfl ?_)
  show wpAny _ _ (Builtin.SmallTypes.ownedTupleIsFree (.ref zz) >>= _) _ _ _
  refine wpAny_bind (wpAny_tupleHeld_zip gz gT fun h1 gz1 s1 => ?_)
  simp only [Bool.false_eq_true, if_false]
  refine wpAny_bind ?_
  rw [← Array.forIn_toList]
  simp only [List.forIn_cons, List.forIn_nil]
  refine wpAny_bind (wpAny_bind (wpAny_holding ?_))
  show wpAny _ _ (Builtin.SmallTypes.nextOf (.ref i1) >>= _) _ _ ⟨h1, g, d, tk0, os⟩
  subst hn1
  refine wpAny_bind (D1.done ⟨h1, g, d, tk0, os⟩ _ _ (D1.over t1 s1 Z.zf1) fun q e hq he => ?_)
  exact hE q tk0 e (fun c o c1 c2 _ x => hq _ _ c2 (s1.extBut _ _ c1 x)) he

/-- such a zip while a list at L is filled from it -/
def ZS (zz TI TO i1 i2 L : Addr) (S1 S2 : Nat → Heap → Prop) (i : Nat) (h : Heap) : Prop := IsTupOf2 h TI (.ref i1) (.ref i2) ∧ S1 i h ∧ S2 i h ∧
  ((IsZip h zz TI TO .none ∧ ∃ a b, IsTupOf2 h TO a b) ∨ ∃ T f o, IsZipHeld h zz TI TO T f ∧ h.get? T = some o ∧ T ≠ zz ∧ T ≠ i1 ∧ T ≠ i2 ∧ T ≠ L)
theorem zs_item {Q : Option Value → Shared → Prop} (Z : ZipSep2 zz TI TO i1 i2 f1 f2) (D1 : Draws prog w A.in1 i1 f1 n1 P1 S1) (D2 : Draws prog w A.in1 i2 f2 n2 P2 S2)
    (st : ZS zz TI TO i1 i2 L S1 S2 i s.heap) (hL : L < s.heap.objs.size) (l1 : i < n1) (l2 : i < n2)
    (hQ : ∀ x y h' tk, P1 i x → P2 i y → ZS zz TI TO i1 i2 L S1 S2 (i + 1) h' → IsTupOf2 h' s.heap.objs.size x y → h'.objs.size = s.heap.objs.size + 1 →
      (∀ c o, c ≠ zz → c ≠ TO → c ≠ i1 → c ≠ i2 → s.heap.get? c = some o → h'.get? c = some o) → Q (some (.ref s.heap.objs.size)) { s with heap := h', toks := tk }) :
    wpAny (model prog w) A (pyNext (.ref zz)) Q E s := by
  obtain ⟨gI, t1, t2, st⟩ := st
  have o1 : s.heap.objs.size ≠ i1 := let ⟨_, e⟩ := D1.live _ _ t1; Nat.ne_of_gt (Heap.lt_size e)
  have o2 : s.heap.objs.size ≠ i2 := let ⟨_, e⟩ := D2.live _ _ t2; Nat.ne_of_gt (Heap.lt_size e)
  rcases st with ⟨gz, a, b, gO⟩ | ⟨T, f, o, gz, gT, r1, r2, r3, r4⟩
  · refine wpAny_pyNext_zipD2_item Z D1 D2 gz gI gO t1 t2 l1 l2 fun x y h' tk px py b1 b2 u1 u2 new sz kk => ?_
    exact hQ x y h' tk px py ⟨kk _ _ Z.TIz Z.TITO Z.TIi1 Z.TIi2 gI, u1, u2, .inr ⟨_, false, _, b1, new, Nat.ne_of_gt (Heap.lt_size gz), o1, o2, Nat.ne_of_gt hL⟩⟩ new sz kk
  · have ty : s.TypeIs (.ref zz) "zip" := ⟨_, gz, rfl⟩
    unfold pyNext
    exact wpAny_bind (wpAny_attempt (wpAny_callSpecial?_slot (name := Str.ofString "__next__") ty F.slot_zip_next (wpAny_call_entry F.slot_zip_next ty F.entry_zip_next
      (zh_item Z D1 D2 gz gT gI t1 t2 l1 l2 fun x y h' tk px py b1 u1 u2 new sz kk => wpAny_pure
        (hQ x y h' tk px py ⟨kk _ _ Z.TIz Z.TIi1 Z.TIi2 gI, u1, u2, .inr ⟨T, true, o, b1, kk _ _ r1 r2 r3 gT, r1, r2, r3, r4⟩⟩ new sz fun c o c1 _ c3 c4 e => kk c o c1 c3 c4 e)) (F.args_zip_next_1 _))))
theorem zs_end {Q : Option Value → Shared → Prop} (Z : ZipSep2 zz TI TO i1 i2 f1 f2) (D1 : Draws prog w A.in1 i1 f1 n1 P1 S1) (D2 : Draws prog w A.in1 i2 f2 n2 P2 S2)
    (st : ZS zz TI TO i1 i2 L S1 S2 i s.heap) (hn : i = n1) (h12 : n1 ≤ n2)
    (hQ : ∀ h' tk, (∀ c o, c ≠ zz → c ≠ TO → c ≠ i1 → c ≠ i2 → s.heap.get? c = some o → h'.get? c = some o) → Q Option.none { s with heap := h', toks := tk }) : wpAny (model prog w) A (pyNext (.ref zz)) Q E s := by
  obtain ⟨gI, t1, t2, st⟩ := st
  rcases st with ⟨gz, a, b, gO⟩ | ⟨T, f, o, gz, gT, r1, r2, r3, r4⟩
  · exact wpAny_pyNext_zipD2_end Z D1 D2 gz gI gO t1 t2 (by omega) (by omega) (.inl hn) fun h' tk kk => hQ h' tk kk
  · have ty : s.TypeIs (.ref zz) "zip" := ⟨_, gz, rfl⟩
    unfold pyNext
    refine wpAny_bind (wpAny_attempt (wpAny_callSpecial?_slot (name := Str.ofString "__next__") ty F.slot_zip_next (wpAny_call_entry F.slot_zip_next ty F.entry_zip_next
      (zh_end Z D1 D2 gz gT gI t1 t2 hn fun h' tk e kk he => ?_) (F.args_zip_next_1 _))))
    obtain ⟨oe, h1, h2⟩ := he
    refine wpAny_bind (wpAny_isInstance (T := "StopIteration") (b := true) ⟨oe, h1, h2⟩ isSubtype_stop ?_)
    exact wpAny_pure (hQ _ _ fun c o c1 _ c3 c4 e => kk c o c1 c3 c4 e)
theorem ZS.keep {h h' : Heap} (st : ZS zz TI TO i1 i2 L S1 S2 i h) (D1 : Draws prog w A i1 f1 n1 P1 S1) (D2 : Draws prog w A i2 f2 n2 P2 S2) (kk : ∀ b o, b ≠ L → h.get? b = some o → h'.get? b = some o) (n0 : zz ≠ L) (nI : TI ≠ L) (nO : TO ≠ L) (nf1 : L ∉ f1) (nf2 : L ∉ f2) :
    ZS zz TI TO i1 i2 L S1 S2 i h' := by
  obtain ⟨gI, t1, t2, st⟩ := st
  refine ⟨kk _ _ nI gI, D1.frame _ _ _ t1 fun b hb o e => kk b o (fun z => nf1 (z ▸ hb)) e, D2.frame _ _ _ t2 fun b hb o e => kk b o (fun z => nf2 (z ▸ hb)) e, ?_⟩
  rcases st with ⟨gz, a, b, gO⟩ | ⟨T, f, o, gz, gT, r1, r2, r3, r4⟩
  · exact .inl ⟨kk _ _ n0 gz, a, b, kk _ _ nO gO⟩
  · exact .inr ⟨T, f, o, kk _ _ n0 gz, kk _ _ r4 gT, r1, r2, r3, r4⟩

/-- the tuples that came -/
structure ZG (P1 P2 : Nat → Value → Prop) (lo : Addr) (h : Heap) (as : List Addr) : Prop where
  rise : as.Pairwise (· < ·)
  over : ∀ a ∈ as, lo < a
  pairs : ∀ (j : Nat) (a : Addr), as[j]? = some a → ∃ x y, P1 j x ∧ P2 j y ∧ IsTupOf2 h a x y
theorem zg_loop {R : Result → Shared → Prop} {base : Heap} (Z : ZipSep2 zz TI TO i1 i2 f1 f2) (D1 : Draws prog w A.in1.in1 i1 f1 n1 P1 S1) (D2 : Draws prog w A.in1.in1 i2 f2 n2 P2 S2) (h12 : n1 ≤ n2)
    (n0 : zz < L) (nI : TI < L) (nO : TO < L) (m1 : i1 < L) (m2 : i2 < L) (nf1 : L ∉ f1) (nf2 : L ∉ f2) (hn : n1 ≤ sizeLine) (res : Value)
    (hR : ∀ h' tk acc c as, (∀ b o, b ≠ L → b ≠ zz → b ≠ TO → b ≠ i1 → b ≠ i2 → base.get? b = some o → h'.get? b = some o) → h'.get? L = some { cls := .type "list", dict := Option.none, data := .seq acc c, slots := #[] } → as.length = n1 → ZG P1 P2 L h' as →
      acc.toList = as.map Value.ref → R (.ok (.ret res)) { s with heap := h', toks := tk }) :
    ∀ (k i : Nat) (h : Heap) (tk c : Nat) (acc : Array Value) (as : List Addr), n1 - i = k → i ≤ n1 → ZS zz TI TO i1 i2 L S1 S2 i h → (∀ b o, b ≠ L → b ≠ zz → b ≠ TO → b ≠ i1 → b ≠ i2 → base.get? b = some o → h.get? b = some o) →
      h.get? L = some { cls := .type "list", dict := Option.none, data := .seq acc c, slots := #[] } → acc.toList = as.map Value.ref → as.length = i → ZG P1 P2 L h as →
      codeAny (model prog w) A (.builtin "list.extend.loop" ⟨[.ref L, .ref zz, res], []⟩) R { s with heap := h, toks := tk } := by
  intro k
  induction k with
  | zero =>
    intro i h tk c acc as hk hi st keep hL hacc hal hG
    refine codeAny_builtin F.entry_extend_loop ?_
    rw [Around.under_plainId F.plain_extend_loop _]
    show wpAny _ A.in1 (pyNext (.ref zz) >>= _) _ _ _
    refine wpAny_bind (zs_end (s := { s with heap := h, toks := tk }) Z D1 D2 st (by omega) h12 fun h' tk' kk => ?_)
    refine wpAny_pure (hR h' tk' acc c as (fun b o h1 h2 h3 h4 h5 e => kk b o h2 h3 h4 h5 (keep b o h1 h2 h3 h4 h5 e)) (kk L _ (Nat.ne_of_gt n0) (Nat.ne_of_gt nO) (Nat.ne_of_gt m1) (Nat.ne_of_gt m2) hL) (by omega) ⟨hG.rise, hG.over, fun j a hj => ?_⟩ hacc)
    obtain ⟨x, y, px, py, e⟩ := hG.pairs j a hj
    have hb := hG.over a (List.mem_of_getElem? hj)
    exact ⟨x, y, px, py, kk a _ (Nat.ne_of_gt (Nat.lt_trans n0 hb)) (Nat.ne_of_gt (Nat.lt_trans nO hb)) (Nat.ne_of_gt (Nat.lt_trans m1 hb)) (Nat.ne_of_gt (Nat.lt_trans m2 hb)) e⟩
  | succ k ih =>
    intro i h tk c acc as hk hi st keep hL hacc hal hG
    have hlt : i < n1 := by omega
    have size : acc.size = i := by rw [← Array.length_toList, hacc, List.length_map, hal]
    have lL : L < h.objs.size := Heap.lt_size hL
    refine codeAny_builtin F.entry_extend_loop ?_
    rw [Around.under_plainId F.plain_extend_loop _]
    show wpAny _ A.in1 (pyNext (.ref zz) >>= _) _ _ _
    refine wpAny_bind (zs_item (s := { s with heap := h, toks := tk }) Z D1 D2 st lL hlt (by omega) fun x y h' tk' px py st' new sz kk => ?_)
    dsimp only at new sz kk ⊢
    have hL' := kk L _ (Nat.ne_of_gt n0) (Nat.ne_of_gt nO) (Nat.ne_of_gt m1) (Nat.ne_of_gt m2) hL
    have up : ∀ b o, b ≠ L → h'.get? b = some o → (h'.update L (Obj.mapSeq (·.push (Value.ref h.objs.size)))).get? b = some o := fun b o hb e => (Heap.get?_update_other _ _ (Ne.symm hb)).trans e
    show wpAny _ A.in1 (updateSeq L (·.push (Value.ref h.objs.size)) >>= _) _ _ _
    refine wpAny_bind ?_
    refine wpAny_updateSeq hL' rfl (wpAny_pure ⟨plainId_quiet F.plain_extend_loop _, ih (i + 1) _ tk' _ (acc.push (Value.ref h.objs.size)) (as ++ [h.objs.size]) (by omega) hlt (st'.keep D1 D2 up (Nat.ne_of_lt n0) (Nat.ne_of_lt nI) (Nat.ne_of_lt nO) nf1 nf2)
      (fun b o h1 h2 h3 h4 h5 e => up b o h1 (kk b o h2 h3 h4 h5 (keep b o h1 h2 h3 h4 h5 e))) (Heap.get?_update_self _ hL' rfl) (by rw [Array.toList_push, hacc, List.map_append]; rfl) (by rw [List.length_append, hal]; rfl) ⟨?_, ?_, ?_⟩⟩) (by rw [size]; omega) (by show (acc.push (Value.ref h.objs.size)).size ≤ sizeLine + 1; rw [Array.size_push, size]; omega)
    · refine List.pairwise_append.mpr ⟨hG.rise, List.pairwise_singleton _ _, fun a ha b hb => ?_⟩
      obtain ⟨j, hj⟩ := List.mem_iff_getElem?.mp ha
      obtain ⟨_, _, _, _, e⟩ := hG.pairs j a hj
      rw [List.mem_singleton.mp hb]
      exact Heap.lt_size e
    · intro a ha
      rcases List.mem_append.mp ha with ha | ha
      · exact hG.over a ha
      · rw [List.mem_singleton.mp ha]; exact lL
    · intro j b hj
      rcases Nat.lt_trichotomy j as.length with h1 | h1 | h1
      · rw [List.getElem?_append_left h1] at hj
        obtain ⟨x', y', q1, q2, q3⟩ := hG.pairs j b hj
        have hb := hG.over b (List.mem_of_getElem? hj)
        exact ⟨x', y', q1, q2, up b _ (Nat.ne_of_gt hb) (kk b _ (Nat.ne_of_gt (Nat.lt_trans n0 hb)) (Nat.ne_of_gt (Nat.lt_trans nO hb)) (Nat.ne_of_gt (Nat.lt_trans m1 hb)) (Nat.ne_of_gt (Nat.lt_trans m2 hb)) q3)⟩
      · subst h1
        have hb : h.objs.size = b := by simpa using hj
        subst hb
        exact ⟨x, y, by rw [hal]; exact px, by rw [hal]; exact py, up _ _ (Nat.ne_of_gt lL) new⟩
      · rw [List.getElem?_eq_none (by rw [List.length_append, List.length_singleton]; omega)] at hj
        cases hj
theorem zg_call {Q : Value → Shared → Prop} (Z : ZipSep2 zz TI TO i1 i2 f1 f2) (D1 : Draws prog w A.in1.in1.in1 i1 f1 n1 P1 S1) (D2 : Draws prog w A.in1.in1.in1 i2 f2 n2 P2 S2) (h12 : n1 ≤ n2) (hn : n1 ≤ sizeLine)
    (gz : IsZip s.heap zz TI TO .none) (gI : IsTupOf2 s.heap TI (.ref i1) (.ref i2)) {a b : Value} (gO : IsTupOf2 s.heap TO a b) (t1 : S1 0 s.heap) (t2 : S2 0 s.heap) (nf1 : ∀ c ∈ f1, c < s.heap.objs.size) (nf2 : ∀ c ∈ f2, c < s.heap.objs.size)
    (hQ : ∀ h' tk acc c as, (∀ b o, b ≠ zz → b ≠ TO → b ≠ i1 → b ≠ i2 → s.heap.get? b = some o → h'.get? b = some o) → h'.get? s.heap.objs.size = some { cls := .type "list", dict := Option.none, data := .seq acc c, slots := #[] } → as.length = n1 → ZG P1 P2 s.heap.objs.size h' as →
      acc.toList = as.map Value.ref → Q (.ref s.heap.objs.size) { s with heap := h', toks := tk }) :
    wpAny (model prog w) A (call (.type "list") [.ref zz]) Q E s := by
  have q1 : s.heap.objs.size ∉ f1 := fun z => Nat.lt_irrefl _ (nf1 _ z)
  have q2 : s.heap.objs.size ∉ f2 := fun z => Nat.lt_irrefl _ (nf2 _ z)
  have lz := Heap.lt_size gz
  have lI := Heap.lt_size gI
  have lO := Heap.lt_size gO
  have m1 := nf1 _ Z.mem1
  have m2 := nf2 _ Z.mem2
  refine callType_codes (Q₁ := fun obj s₁ => obj = .ref s.heap.objs.size ∧ s₁ = { s with heap := s.heap.push { cls := .type "list", data := .seq #[] } }) F.called_list (F.typeCall_list_1 (.ref zz)) F.entry_list_init
    (code_list_new _ ⟨rfl, rfl⟩) fun obj s₁ h₁ => ?_
  obtain ⟨rfl, rfl⟩ := h₁
  have hS : (s.heap.push { cls := .type "list", data := .seq #[] }).get? s.heap.objs.size = some { cls := .type "list", data := .seq #[] } := Heap.get?_push_size _ rfl
  refine ⟨⟨_, hS, rfl⟩, F.args_list_init_2 _ (.ref zz), ?_⟩
  generalize hL : s.heap.objs.size = L at *
  have st0 : ZS zz TI TO i1 i2 L S1 S2 0 (s.heap.push { cls := .type "list", data := .seq #[] }) := ⟨Heap.get?_push_of_some _ gI, D1.frame _ _ _ t1 fun b _ o e => Heap.get?_push_of_some _ e, D2.frame _ _ _ t2 fun b _ o e => Heap.get?_push_of_some _ e, .inl ⟨Heap.get?_push_of_some _ gz, a, b, Heap.get?_push_of_some _ gO⟩⟩
  have k0 : ∀ b o, s.heap.get? b = some o → (s.heap.push { cls := .type "list", data := .seq #[] }).get? b = some o := fun b o e => Heap.get?_push_of_some _ e
  generalize (s.heap.push { cls := .type "list", data := .seq #[] }) = h0 at hS st0 k0
  show wpAny _ A.in1.in1 (do let old ← Builtin.List.listItems (.ref L); Builtin.List.listUpdate (.ref L) (fun _ => #[]); letGo old.toList.reverse; Builtin.List.listExtendWith (.ref L) (.ref zz) .none) _ _ _
  refine wpAny_bind ?_
  unfold Builtin.List.listItems
  refine wpAny_bind (wpAny_seqItems hS rfl (wpAny_pure ?_))
  show wpAny _ A.in1.in1 (updateSeq L (fun _ => #[]) >>= fun _ => letGo (#[] : Array Value).toList.reverse >>= fun _ => Builtin.List.listExtendWith (.ref L) (.ref zz) .none) _ _ _
  refine wpAny_bind (wpAny_updateSeq hS rfl ?_)
  have g2 := Heap.get?_update_self (Obj.mapSeq (fun _ => (#[] : Array Value))) hS rfl
  have kk2 : ∀ b o, b ≠ L → h0.get? b = some o → (h0.update L (Obj.mapSeq (fun _ => (#[] : Array Value)))).get? b = some o := fun b o hb e => (Heap.get?_update_other _ _ (Ne.symm hb)).trans e
  have st2 := st0.keep D1 D2 kk2 (Nat.ne_of_lt lz) (Nat.ne_of_lt lI) (Nat.ne_of_lt lO) q1 q2
  refine wpAny_bind (wpAny_letGo ?_)
  dsimp only at g2 kk2 st2 ⊢
  generalize (h0.update L (Obj.mapSeq (fun _ => (#[] : Array Value)))) = hh2 at g2 kk2 st2 ⊢
  have gz2 : IsZip hh2 zz TI TO .none := kk2 _ _ (Nat.ne_of_lt lz) (k0 _ _ gz)
  have ty2 : Shared.TypeIs { s with heap := hh2 } (.ref zz) "zip" := ⟨_, gz2, rfl⟩
  unfold Builtin.List.listExtendWith
  refine wpAny_bind (wpAny_typeOf ty2 ?_)
  have c1 : Builtin.List.listSameRef (.ref L) (.ref zz) = false := by simp [Builtin.List.listSameRef, Nat.ne_of_gt lz]
  have c2 : (Value.type "zip" == Value.type "list") = false := by decide
  have c3 : (Value.type "zip" == Value.type "tuple") = false := by decide
  simp only [c1, c2, c3, Bool.or_false, Bool.false_eq_true, if_false]
  refine wpAny_bind (wpAny_pyIter_zip gz2 ?_)
  refine wpAny_bind (wpAny_holding ?_)
  unfold Builtin.List.listLengthHint
  refine wpAny_bind (wpAny_specialOf ty2 zip_nolen ?_)
  show wpAny _ A.in1.in1 (specialOf (Value.ref zz) (Str.ofString "__length_hint__") >>= _) _ _ _
  refine wpAny_bind (wpAny_specialOf ty2 zip_nohint ?_)
  refine wpAny_pure ?_
  show wpAny _ A.in1.in1 (rule "list.extend.makes-room" >>= fun _ => Builtin.List.listTouch (.ref L) >>= fun _ =>
    again (.builtin "list.extend.loop" ⟨[.ref L, .ref zz, .none], []⟩)) _ _ _
  refine wpAny_bind (wpAny_rule ?_)
  refine wpAny_bind ?_
  show wpAny _ A.in1.in1 (updateSeq L (·.push .none) >>= fun _ => updateSeq L (·.pop)) _ _ _
  refine wpAny_bind (wpAny_updateSeq g2 rfl ?_)
  have g3 := Heap.get?_update_self (Obj.mapSeq (·.push Value.none)) g2 rfl
  refine wpAny_updateSeq (hz := by seq_fits) g3 rfl ?_
  have g4 := Heap.get?_update_self (Obj.mapSeq (·.pop)) g3 rfl
  have kk4 : ∀ b o, b ≠ L → hh2.get? b = some o → ((hh2.update L (Obj.mapSeq (·.push Value.none))).update L (Obj.mapSeq (·.pop))).get? b = some o :=
    fun b o hb e => (Heap.get?_update_other _ _ (Ne.symm hb)).trans ((Heap.get?_update_other _ _ (Ne.symm hb)).trans e)
  have lb : ∀ b o, s.heap.get? b = some o → b ≠ L := fun b o e => by rw [← hL]; exact Nat.ne_of_lt (Heap.lt_size e)
  refine wpAny_pure ⟨plainId_quiet F.plain_extend_loop _, ?_⟩
  refine zg_loop (s := { s with heap := _ }) (base := s.heap) Z D1 D2 h12 lz lI lO m1 m2 q1 q2 hn .none (fun h' tk acc c as kk hl hal hG hacc => ⟨rfl, hQ h' tk acc c as (fun b o h2 h3 h4 h5 e => kk b o (lb b o e) h2 h3 h4 h5 e) hl hal hG hacc⟩)
    n1 0 _ _ _ #[] [] (by omega) (Nat.zero_le _) (st2.keep D1 D2 kk4 (Nat.ne_of_lt lz) (Nat.ne_of_lt lI) (Nat.ne_of_lt lO) q1 q2) (fun b o h1 _ _ _ _ e => kk4 b o h1 (kk2 b o h1 (k0 b o e))) g4 rfl rfl ⟨List.Pairwise.nil, (fun _ ha => nomatch ha), (fun j a hj => by simp at hj)⟩
end
section
variable {X : Cx} {e e2 : Expr} {ta : TA} {p p2 cpos pos : Pos}
theorem vals_back : ∀ {xs : List V} {us : List Value} {i : Nat} {u : Value}, Paired RelV xs us → us[i]? = some u → ∃ x, xs[i]? = some x ∧ RelV x u
  | _, _, i, u, .nil, h => by cases h
  | _, _, 0, u, .cons r t, h => by
    have e := Option.some.inj h
    subst e
    exact ⟨_, rfl, r⟩
  | _, _, i + 1, u, .cons r t, h => vals_back (i := i) t (by simpa using h)
theorem sep5 (n l : Nat) (h : l < n) : ZipSep2 (n + 4) (n + 2) (n + 3) n (n + 1) [n] [n + 1, l] := by
  have ne : ∀ a b : Nat, a < b → ¬ (a : Addr) = b := fun a b h z => Nat.ne_of_lt h z
  have en : ∀ a b : Nat, b < a → ¬ (a : Addr) = b := fun a b h z => Nat.ne_of_gt h z
  have no1 : ∀ a b : Nat, (a < b ∨ b < a) → (a : Addr) ∉ [(b : Addr)] := fun a b h z => by
    have e : a = b := List.mem_singleton.mp z
    omega
  have no2 : ∀ a b c : Nat, (a < b ∨ b < a) → (a < c ∨ c < a) → (a : Addr) ∉ [(b : Addr), (c : Addr)] := fun a b c h1 h2 z => by
    rcases List.mem_cons.mp z with e | e
    · have e : a = b := e
      omega
    · have e : a = c := List.mem_singleton.mp e
      omega
  exact ⟨ne _ _ (by omega), ne _ _ (by omega), ne _ _ (by omega), en _ _ (by omega), List.mem_cons_self, no1 _ _ (by omega), no1 _ _ (by omega), en _ _ (by omega), List.mem_cons_self, no2 _ _ _ (by omega) (by omega), no2 _ _ _ (by omega) (by omega), no2 _ _ _ (by omega) (by omega), no1 _ _ (by omega)⟩
/-- the pairs of the signs of x and of ys -/
def zkv (x : Str) (ys : List V) : List (Key × V) := (x.cps.toList.zip ys).map fun q => (Sum.inr ⟨#[q.1]⟩, q.2)
theorem zkv_len {x : Str} {ys : List V} (h : x.length = ys.length) : (zkv x ys).length = x.length := by
  unfold zkv
  rw [List.length_map, List.length_zip]
  show min x.length ys.length = _
  omega
theorem zkv_at {x : Str} {ys : List V} {j c : Nat} {y : V} (h1 : x.cps[j]? = some c) (h2 : ys[j]? = some y) : (zkv x ys)[j]? = some (Sum.inr ⟨#[c]⟩, y) := by
  unfold zkv
  rw [List.getElem?_map, List.zip_eq_zipWith, List.getElem?_zipWith, Array.getElem?_toList, h1, h2]
  rfl
theorem zip_laid {pins : List (Addr × Obj)} {σ : L2.St} {H : Hp} {s : Shared} {h' : Heap} {tk : Nat} {kvs : List (Key × V)} {acc : Array Value} {c : Nat} {L : Addr} {as : List Addr} (I : Inv X pins σ H s) (hL : s.heap.objs.size ≤ L) (hz : kvs.length ≤ sizeLine)
    (kk : ∀ b o, s.heap.get? b = some o → h'.get? b = some o) (eL : h'.get? L = some { cls := .type "list", dict := none, data := .seq acc c, slots := #[] }) (hl : as.length = kvs.length) (rise : as.Pairwise (· < ·)) (over : ∀ a ∈ as, L < a)
    (prs : ∀ (j : Nat) (a : Addr), as[j]? = some a → ∃ q x y, kvs[j]? = some q ∧ RelV (kV q.1) x ∧ RelV q.2 y ∧ IsTupOf2 h' a x y) (hacc : acc.toList = as.map Value.ref) :
    ∃ H' : Hp, (∀ b o, H b = some o → H' b = some o) ∧ H L = none ∧ (∀ t ∈ as, H t = none) ∧ L ∉ as ∧ H' L = some (.lst (as.map V.ref)) ∧ Paired (fun (t : Addr) (q : Key × V) => H' t = some (.tup [kV q.1, q.2])) as kvs ∧ Inv X pins σ H' { s with heap := h', toks := tk } := by
  have nL : L ∉ as := fun z => Nat.lt_irrefl _ (over _ z)
  have nd : as.Nodup := List.Pairwise.imp (fun {a b} (h : a < b) => Nat.ne_of_lt h) rise
  have newT : ∀ t ∈ as, H t = none := fun t ht => I.hok.fresh (Nat.le_trans hL (Nat.le_of_lt (over t ht)))
  have newL : H L = none := I.hok.fresh hL
  have laid := LiI.putT_at as kvs (upd H L (.lst (as.map V.ref))) hl nd
  have off : ∀ b, b ∉ as → b ≠ L → LiI.putT (upd H L (.lst (as.map V.ref))) as kvs b = H b := fun b q1 q2 => by rw [LiI.putT_off as kvs _ q1, upd_ne q2]
  have low : ∀ b o, s.heap.get? b = some o → b ∉ as ∧ b ≠ L := fun b o e => ⟨fun z => absurd (Heap.lt_size e) (Nat.not_lt.mpr (Nat.le_trans hL (Nat.le_of_lt (over b z)))), fun z => absurd (Heap.lt_size e) (Nat.not_lt.mpr (z ▸ hL))⟩
  have same : ∀ b u, H b = some u → (LiI.putT (upd H L (.lst (as.map V.ref))) as kvs) b = some u := fun b u e => by
    rw [off b (fun z => by rw [newT b z] at e; cases e) (fun z => by rw [z, newL] at e; cases e), e]
  have atL : LiI.putT (upd H L (.lst (as.map V.ref))) as kvs L = some (.lst (as.map V.ref)) := by rw [LiI.putT_off as kvs _ nL, upd_same]
  refine ⟨LiI.putT (upd H L (.lst (as.map V.ref))) as kvs, same, newL, newT, nL, atL, laid, ?_⟩
  refine I.call' (ch := []) rfl ⟨fun b o q _ _ _ => kk b o q, fun b o q _ _ _ => ⟨o.slots, kk b o q⟩, fun b o q n _ => ?_, fun b o q _ => ⟨o, kk b o q⟩, fun b xs q => same b _ q, fun b o u q => same b _ q, fun b ps q => ⟨#[], by rw [same b _ q]; simp⟩⟩ (fun b u q => ?_) I.bare fun b z => by simp at z
  · obtain ⟨z1, z2⟩ := low b o q
    rw [off b z1 z2, n]
  · by_cases hb : b ∈ as
    · obtain ⟨j, pk, e1, e2, e3⟩ := LiI.paired_ix laid hb
      rw [e3] at q
      cases q
      obtain ⟨pq, x, y, g1, g2, g3, g4⟩ := prs j b e1
      rw [e2] at g1
      cases g1
      exact ⟨by show 2 ≤ sizeLine; decide, [x, y], .cons g2 (.cons g3 .nil), ⟨_, g4, rfl, _, rfl⟩⟩
    · by_cases hb2 : b = L
      · rw [hb2] at q ⊢
        rw [atL] at q
        cases q
        refine ⟨by rw [List.length_map, hl]; exact hz, acc.toList, c, by rw [hacc]; exact LiI.vals_refs as, ?_⟩
        rw [Array.toArray_toList]
        exact eL
      · rw [off b hb hb2] at q
        exact (I.hok b u q).stay (fun d v _ y => kk d v y) (fun d y => same d _ y) fun d xs y => same d _ y
def rZipL (K : PySem.W.Frag) : List V → Hp → VK → Prop := fun vs H Q => ∃ (x : Str) (l : Addr) (ys : List V), vs = [.str x, .ref l] ∧ SqL K H l ys ∧ x.length = ys.length ∧ x.length ≤ sizeLine ∧
  ∀ (H' : Hp) (q : Addr) (ts : List Addr), Same H H' → H q = none → (∀ t ∈ ts, H t = none) → q ∉ ts → H' q = some (.lst (ts.map V.ref)) → Paired (fun (t : Addr) (u : Key × V) => H' t = some (.tup [kV u.1, u.2])) ts (zkv x ys) → Q (.ref q) H'
def tLstZ (K : PySem.W.Frag) (ta : TA) : TE := fun σ H Q => ta σ H fun vs H1 => rZipL K vs H1 Q
/-- list(zip(text, list)) -/
theorem pe_listZip (hc : X.calm = true) (ha : PA X [e, e2] ta) (hg : Gl X "list") (hm : X.mg "list" = none) (hv : bootBuiltins "list" = some (.type "list")) (hg2 : Gl X "zip") (hm2 : X.mg "zip" = none)
    (hs : starEach [e, e2] X.env = (false, eval e X.env) :: starEach [e2] X.env := by rfl) (hpl : (backTo cpos (starEach [e2] X.env)).any (·.1) = false := by rfl)
    (na : starEach [.Call (.Name "zip" p2) [e, e2] [] cpos] X.env = (false, eval (.Call (.Name "zip" p2) [e, e2] [] cpos) X.env) :: starEach [] X.env := by rfl) :
    PE X (.Call (.Name "list" p) [.Call (.Name "zip" p2) [e, e2] [] cpos] [] pos) (tLstZ X.K ta) := by
  refine ⟨fun pins s σ H Q I h => ?_⟩
  refine Call_ (ld_blt I hg hm hv ?_)
  refine PyProof.Rows.callWith_type1 (PyProof.Rows.args_cons ?_ na) na rfl
  refine Call_ (ld_blt I hg2 hm2 PyProof.Rows.boot_zip (PyProof.Rows.callWith_type1 (thn (ha.run cpos pins s σ H _ I h) fun us s1 ⟨vs, H1, I1, r1, q1⟩ => ?_) hs hpl))
  obtain ⟨x, l, ys, rfl, hq, hxy, hxz, q⟩ := q1
  cases r1 with
  | cons r rr =>
    cases rr with
    | cons r' rr =>
      cases rr
      obtain ⟨t, rfl⟩ := r
      cases r'
      obtain ⟨its, rv, p1, hiz⟩ := I1.list hq
      have ll : l < s1.heap.objs.size := p1.lt
      have hlen : its.toArray.size = x.cps.size := by
        rw [List.size_toArray, ← rv.length]
        exact hxy.symm
      have D0 : (s1.heap.objs.size : Nat) < s1.heap.objs.size + 1 := Nat.lt_succ_self _
      have hh : X.A.in1.in1.in1.handled = none := I1.ok.hd hc
      refine zip_begins2 (begins_text x t) (begins_list l its.toArray) trivial p1.isList fun h' gz gI gO g1 g2 size kk => PyProof.Rows.args_nil ?_
      have Z := sep5 s1.heap.objs.size l ll
      refine zg_call (n1 := x.cps.size) (n2 := its.toArray.size) (P1 := fun i v => ∃ c u, x.cps[i]? = some c ∧ v = .str ⟨#[c]⟩ u) (P2 := fun i v => its.toArray[i]? = some v) (S1 := fun i h => h.IsStrIter s1.heap.objs.size (strIterType x) x t i) (S2 := fun i h => h.IsListIter (s1.heap.objs.size + 1) l i ∧ h.IsList l its.toArray)
        Z (Draws.text hh _ x t) (Draws.list hh _ l (Nat.ne_of_lt (Nat.lt_succ_of_lt ll)) its.toArray) (by omega) hxz gz gI gO ⟨_, g1, rfl, rfl⟩ ⟨⟨_, g2, rfl, rfl⟩, p1.isList.at fun o e => kk l o e⟩ ?_ ?_ ?_
      · intro c hc
        have e : c = s1.heap.objs.size := by simpa using hc
        subst e
        show _ < h'.objs.size
        omega
      · intro c hc
        show (c : Nat) < h'.objs.size
        have z : c = s1.heap.objs.size + 1 ∨ c = l := by simpa using hc
        have ll' : (l : Nat) < s1.heap.objs.size := ll
        rcases z with z | z
        · rw [size, z]
          exact Nat.add_lt_add_left (by decide) _
        · rw [size, z]
          exact Nat.lt_of_lt_of_le ll' (Nat.le_add_right _ _)
      · intro h2 tk acc c as kp eL hal hG hacc
        dsimp only at kp eL hG ⊢
        have lows : ∀ b o, s1.heap.get? b = some o → h2.get? b = some o := fun b o e => by
          have hb : (b : Nat) < s1.heap.objs.size := Heap.lt_size e
          have far : ∀ k : Nat, b ≠ s1.heap.objs.size + k := fun k z => Nat.ne_of_lt (Nat.lt_of_lt_of_le hb (Nat.le_add_right _ k)) z
          exact kp b o (far 4) (far 3) (far 0) (far 1) (kk b o e)
        obtain ⟨H', k1, k2, k3, k4, k5, k6, J⟩ := zip_laid (tk := tk) (kvs := zkv x ys) I1 (L := h'.objs.size) (by rw [size]; exact Nat.le_add_right _ _) (by rw [zkv_len hxy]; exact hxz) lows eL (by rw [zkv_len hxy]; exact hal) hG.rise hG.over (fun j a hj => by
          obtain ⟨u, v, ⟨cc, uu, e1, e2⟩, e3, e4⟩ := hG.pairs j a hj
          subst e2
          have e3' : its[j]? = some v := by simpa using e3
          obtain ⟨y, hy, ry⟩ := vals_back rv e3'
          exact ⟨_, _, _, zkv_at e1 hy, ⟨_, rfl⟩, ry, e4⟩) hacc
        exact ⟨.ref _, H', J, rfl, q H' _ as k1 k2 k3 k4 k5 k6⟩
end
end Rz

namespace Rz
open PySem PySem.Spec PyProof.Rows L2
/-! ### more of the class's own special methods -/
section
variable {X : Cx} {k : Nat} {f C a dx : Addr} {fs : List (Str × V)} {fd : FuncData} {ps : List Str} {sp : Sp} {pins : List (Addr × Obj)} {σ : L2.St} {H : Hp} {s : Shared}
/-- o += x by the own __iadd__ -/
def tIpO (C : Addr) (sp : Sp) : V → V → Hp → VK → Prop := fun x y H Q => ∃ a dx fs, x = .ref a ∧ H a = some (.ins C dx fs) ∧ sp [x, y] H (fun v H' => (∃ b, v = .ref b) ∧ Q v H') E0
theorem ip_own (M : Meth X.K C "__iadd__" f) (hc : PySem.W.selfFirst X.K C = true) (F : FnOk X.prog X.w X.K X.mg X.base (L2.CX X.prog X.w) k f fd ps sp) (hr : Room k X.A) (hb : Binds X.K fd ps []) : PIp X .Add (tIpO C sp) := by
  intro pins s σ H x y v u Q I r1 r2 h
  obtain ⟨a, dx, fs, rfl, ea, hq⟩ := h
  obtain rfl : v = Value.ref a := r1
  obtain ⟨od, J⟩ := inst_at I ea
  obtain ⟨m0, hF⟩ := I.fr
  refine PySem.W.ksp_inplace hF I.ok.mod.kin J hc M.at_ M.fn (wpAny_mono (run_below (vs := [.ref a, y]) F hr rfl hb I (.cons rfl (.cons r2 .nil)) hq) (fun r s' hv => ?_) fun _ _ z => z)
  obtain ⟨z, H', J', rz, ⟨b, rfl⟩, q⟩ := hv
  obtain rfl : r = Value.ref b := rz
  exact ⟨.ref b, H', J', rfl, q⟩
/-- o[i] = v by the own __setitem__ -/
def tSetO (C : Addr) (sp : Sp) : TSet := fun o i v H Q => ∃ a dx fs, o = .ref a ∧ H a = some (.ins C dx fs) ∧ sp [o, i, v] H (fun _ H' => Q H') E0
theorem set_own (M : Meth X.K C "__setitem__" f) (hn : PySem.W.noSeq X.K C = true) (F : FnOk X.prog X.w X.K X.mg X.base (L2.CX X.prog X.w) k f fd ps sp) (hr : Room k X.A) (hb : Binds X.K fd ps []) : PSet X (tSetO C sp) := by
  intro pins s σ H o i v ov iv u Q I r1 r2 r3 h
  obtain ⟨a, dx, fs, rfl, ea, hq⟩ := h
  obtain rfl : ov = Value.ref a := r1
  obtain ⟨od, J⟩ := inst_at I ea
  obtain ⟨m0, hF⟩ := I.fr
  refine PySem.W.ksp_setItem hF I.ok.mod.kin J hn M.at_ M.fn (wpAny_mono (run_below (vs := [.ref a, i, v]) F hr rfl hb I (.cons rfl (.cons r2 (.cons r3 .nil))) hq) (fun r s' hv => ?_) fun _ _ z => z)
  obtain ⟨z, H', J', rz, q⟩ := hv
  exact ⟨H', J', q⟩
/-- len(x) by the own __len__ -/
def rLenO (C : Addr) (sp : Sp) : List V → Hp → VK → Prop := fun xs H Q => ∃ a dx fs, xs = [.ref a] ∧ H a = some (.ins C dx fs) ∧ sp [.ref a] H (fun v H' => ∃ n : Nat, v = .int n ∧ n < 2 ^ 63 ∧ Q v H') E0
theorem call_lenO (M : Meth X.K C "__len__" f) (F : FnOk X.prog X.w X.K X.mg X.base (L2.CX X.prog X.w) k f fd ps sp) (hr : Room (k + 1) X.A) (hb : Binds X.K fd ps []) : CallR X (.builtin "len") (rLenO C sp) := by
  intro pins s σ H xs us Q I r h
  obtain ⟨a, dx, fs, rfl, ea, hq⟩ := h
  obtain ⟨u, rfl, ru⟩ := vals1 r
  obtain rfl : u = Value.ref a := ru
  obtain ⟨od, J⟩ := inst_at I ea
  obtain ⟨m0, hF⟩ := I.fr
  refine PySem.W.len_K hF I.ok.mod.kin J M.at_ M.fn (wpAny_mono (run_below (vs := [.ref a]) F hr.in1 rfl hb I (.cons rfl .nil) hq) (fun r s' hv => ?_) fun _ _ z => z)
  obtain ⟨z, H', J', rz, n, rfl, hn, q⟩ := hv
  obtain ⟨t, rfl⟩ := rz
  exact ⟨⟨by omega, by omega⟩, .int n, H', J'.tok _, ⟨_, rfl⟩, q⟩
/-- abs(x) by the own __abs__ -/
def rAbsO (C : Addr) (sp : Sp) : List V → Hp → VK → Prop := fun xs H Q => ∃ a dx fs, xs = [.ref a] ∧ H a = some (.ins C dx fs) ∧ sp [.ref a] H Q E0
theorem call_absO (M : Meth X.K C "__abs__" f) (F : FnOk X.prog X.w X.K X.mg X.base (L2.CX X.prog X.w) k f fd ps sp) (hr : Room (k + 1) X.A) (hb : Binds X.K fd ps []) : CallR X (.builtin "abs") (rAbsO C sp) := by
  intro pins s σ H xs us Q I r h
  obtain ⟨a, dx, fs, rfl, ea, hq⟩ := h
  obtain ⟨u, rfl, ru⟩ := vals1 r
  obtain rfl : u = Value.ref a := ru
  obtain ⟨od, J⟩ := inst_at I ea
  refine Calls.call_function_entry kind_abs plain_abs entry_abs (args_abs _) ?_
  unfold Builtin.«abs»
  refine wpAny_bind (m := oneArg "abs" _) (wpAny_pure ?_)
  refine wpAny_bind (m := callSpecial? (.ref a) (Str.ofString "__abs__")) (PySem.W.special_fn I.kIn J M.at_ (beq_iff_eq.mp M.fn) (wpAny_mono (run_below (vs := [.ref a]) F hr.in1 rfl hb I (.cons rfl .nil) hq) (fun r s' hv => ?_) fun _ _ z => z))
  exact wpAny_pure ⟨_, rfl, hv⟩
end
end Rz
namespace Rz
open PySem PySem.Spec PyProof.Rows L2
section
variable {X : Cx} {k : Nat} {fi fn C : Addr} {fdI fdN : FuncData} {psI psN : List Str} {spI spN : Sp} {pins : List (Addr × Obj)} {σ : L2.St} {A1 : Around} {l q it : Addr} {ys : List V} {H0 : Hp} {Rs : Result → Shared → Prop}
/-- a list filled from an iterator over another one -/
theorem lo_loop (hh : A1.handled = none) (hs : SqL X.K H0 l ys) (hz : ys.length ≤ sizeLine) (nq : H0 q = none) (ni : H0 it = none) (ne : it ≠ q)
    (hR : ∀ H s, Inv X pins σ H s → (∀ b o, H0 b = some o → H b = some o) → H q = some (.lst ys) → Rs (.ok (.ret .none)) s) :
    ∀ (j i : Nat) (H : Hp) (s : Shared), ys.length - i = j → i ≤ ys.length → Inv X pins σ H s → (∀ b o, H0 b = some o → H b = some o) → H it = some (ItO l it i) → H q = some (.lst (ys.take i)) →
      codeAny (model X.prog X.w) A1 (.builtin "list.extend.loop" ⟨[.ref q, .ref it, .none], []⟩) Rs s := by
  intro j
  induction j with
  | zero =>
    intro i H s hj hi I S ei eq
    have e0 : i = ys.length := by omega
    subst e0
    obtain ⟨its, rv, pl, _⟩ := I.list (Same.seq (H := H0) (H' := H) (fun b o e => S b o e) hs)
    have ty : s.TypeIs (.ref it) "list_iterator" := ⟨_, itO_get I ei, rfl⟩
    have mu : Mut (H it) := by rw [ei]; exact True.intro
    refine codeAny_builtin PySem.F.entry_extend_loop ?_
    rw [Around.under_plainId PySem.F.plain_extend_loop _]
    show wpAny _ A1.in1 (pyNext (.ref it) >>= _) _ _ s
    refine wpAny_bind ?_
    unfold pyNext
    refine wpAny_bind (wpAny_attempt (wpAny_callSpecial?_slot (name := Str.ofString "__next__") ty slot_listiter_next (wpAny_call_entry slot_listiter_next ty entry_listiter_next
      (GNX.next_end (A := A1.in1) hh (itO_get I ei) pl.isList (by rw [List.getElem?_toArray]; exact rv.none_of (List.getElem?_eq_none (Nat.le_refl _))) fun h1 h' e vs e1 sb kk nn he hv => ?_) (args_listiter_next _))))
    refine wpAny_bind (wpAny_isInstance (T := "StopIteration") (b := true) ⟨_, he, rfl⟩ isSubtype_stop ?_)
    have I2 : Inv X pins σ (upd H it (ItE it ys.length)) { s with heap := h1 } := I.write (x := it) (e := it) (t' := s.toks) mu (.inl rfl) (fun b o nb z => (sb.2 b nb).trans z) ⟨_, e1⟩ (itE_ok e1)
    have I3 : Inv X pins σ (upd H it (ItE it ys.length)) { s with heap := h' } := I2.kept (t' := s.toks) kk
    refine wpAny_pure (wpAny_pure (hR _ _ I3 (fun b o e => ?_) ?_))
    · rw [upd_ne (ne_of_none e ni)]
      exact S b o e
    · rw [upd_ne (Ne.symm ne), eq, List.take_length]
  | succ j ih =>
    intro i H s hj hi I S ei eq
    have hlt : i < ys.length := by omega
    obtain ⟨its, rv, pl, _⟩ := I.list (Same.seq (H := H0) (H' := H) (fun b o e => S b o e) hs)
    obtain ⟨u, hu, ru⟩ := rv.get (List.getElem?_eq_getElem hlt)
    have ty : s.TypeIs (.ref it) "list_iterator" := ⟨_, itO_get I ei, rfl⟩
    have mu : Mut (H it) := by rw [ei]; exact True.intro
    refine codeAny_builtin PySem.F.entry_extend_loop ?_
    rw [Around.under_plainId PySem.F.plain_extend_loop _]
    show wpAny _ A1.in1 (pyNext (.ref it) >>= _) _ _ s
    refine wpAny_bind ?_
    unfold pyNext
    refine wpAny_bind (wpAny_attempt (wpAny_callSpecial?_slot (name := Str.ofString "__next__") ty slot_listiter_next (wpAny_call_entry slot_listiter_next ty entry_listiter_next
      (GNX.next_item (itO_get I ei) pl.isList (by rw [List.getElem?_toArray]; exact hu) fun h' e' sb => wpAny_pure ?_) (args_listiter_next _))))
    have I1 : Inv X pins σ (upd H it (ItO l it (i + 1))) { s with heap := h' } := I.write (x := it) (e := it) (t' := s.toks) mu (.inl rfl) (fun b o nb z => (sb.2 b nb).trans z) ⟨_, e'⟩ (itO_ok e')
    have eq1 : upd H it (ItO l it (i + 1)) q = some (.lst (ys.take i)) := by rw [upd_ne (Ne.symm ne), eq]
    obtain ⟨z, its2, n, r2, hl, e⟩ := I1.lstM eq1
    have ltk : (ys.take i).length = i := by rw [List.length_take]; omega
    have tk1 : ys.take (i + 1) = ys.take i ++ [ys[i]] := by rw [List.take_add_one, List.getElem?_eq_getElem hlt]; rfl
    show wpAny _ A1.in1 (updateSeq q (·.push u) >>= _) _ _ _
    refine wpAny_bind (wpAny_updateSeq e rfl (wpAny_pure ⟨plainId_quiet PySem.F.plain_extend_loop _, ?_⟩) (by rw [List.size_toArray]; omega) (by show (its2.toArray.push u).size ≤ sizeLine + 1; rw [Array.size_push, List.size_toArray]; omega))
    refine ih (i + 1) _ _ (by omega) hlt (I1.lset (its' := its2 ++ [u]) (t' := s.toks) eq1 e (by simp) (r2.append (.cons ru .nil)) (by rw [List.length_append, List.length_singleton]; omega)) (fun b o e => ?_) ?_ ?_
    · rw [upd_ne (ne_of_none e nq), upd_ne (ne_of_none e ni)]
      exact S b o e
    · rw [upd_ne ne, upd_same]
    · rw [upd_same, tk1]
def rListO (K : PySem.W.Frag) (C : Addr) (spI spN : Sp) : List V → Hp → VK → Prop := fun xs H Q => ∃ (a dx : Addr) (fs : List (Str × V)) (l : Addr) (ys : List V) (n : Nat), xs = [.ref a] ∧ H a = some (.ins C dx fs) ∧ SqL K H l ys ∧ n < 2 ^ 63 ∧ Builtin.List.listTooLong n = false ∧
  (∀ (H1 : Hp) (R : VK), Same H H1 → (∀ it, H1 it = none → R (.ref it) (upd H1 it (ItO l it 0))) → spI [.ref a] H1 R E0) ∧ (∀ (H1 : Hp) (R : VK), Same H H1 → R (.int (n : Nat)) H1 → spN [.ref a] H1 R E0) ∧
  ∀ (H' : Hp) (q : Addr), Same H H' → H q = none → H' q = some (.lst ys) → Q (.ref q) H'
theorem hint_own {M : Model} {A : Around} {E : Value → Shared → Prop} {s : Shared} {a : Addr} {Q : Bool → Shared → Prop} {K : PySem.W.Frag} {ox : Obj} {od : Option Obj} (hK : K.In s.heap) (MN : Meth K C "__len__" fn) (J : PySem.W.InstAt s.heap a ox C od)
    (h : wpAny M A (call (.builtin "len") [.ref a]) (fun v s' => ∃ (n : Int) (t : Tok), v = .int n t ∧ Builtin.List.listTooLong n.toNat = false ∧ Q (n != 0) s') (fun _ _ => False) s) : wpAny M A (Builtin.List.listLengthHint (.ref a)) Q E s := by
  unfold Builtin.List.listLengthHint
  refine wpAny_bind (wpAny_bind (J.type.here ((PySem.W.looks_findIn hK MN.at_).here ?_)))
  refine PySem.W.KFB.if_not rfl ?_
  refine PySem.W.KFB.if_so rfl ?_
  refine wpAny_bind (wpAny_rule ?_)
  refine wpAny_bind (wpAny_attempt (wpAny_mono h (fun v s' hv => ?_) fun _ _ z => z.elim))
  obtain ⟨n, t, rfl, hl, q⟩ := hv
  refine wpAny_bind (wpAny_of_eq (a := some n) rfl ?_)
  refine PySem.W.KFB.if_not hl ?_
  exact wpAny_pure q
theorem li_next : typeLookup (.type "list_iterator") "__next__" = pure (some (.builtin "list_iterator.__next__")) := slot_listiter_next.lookup
/-- list(x) by the own __iter__, that yields an iterator over a list, and the own __len__ -/
theorem call_listR (hcalm : X.calm = true) (MI : Meth X.K C "__iter__" fi) (FI : FnOk X.prog X.w X.K X.mg X.base (L2.CX X.prog X.w) k fi fdI psI spI) (bI : Binds X.K fdI psI []) (MN : Meth X.K C "__len__" fn) (FN : FnOk X.prog X.w X.K X.mg X.base (L2.CX X.prog X.w) k fn fdN psN spN) (bN : Binds X.K fdN psN [])
    (hr : Room (k + 3) X.A) : CallR X (.type "list") (rListO X.K C spI spN) := by
  intro pins s σ H xs us Q I r h
  obtain ⟨a, dx, fs, l, ys, n, rfl, ha, hq, hn, hlong, hI, hN, fin⟩ := h
  obtain ⟨u, rfl, ru⟩ := vals1 r
  obtain rfl : u = Value.ref a := ru
  obtain ⟨its0, rv0, pl0, hz⟩ := I.list hq
  have hyz : ys.length ≤ sizeLine := by
    have := rv0.length
    omega
  refine callType_codes (Q₁ := fun obj s₁ => obj = .ref s.heap.objs.size ∧ s₁ = { s with heap := s.heap.push { cls := .type "list", data := .seq #[] } }) PySem.F.called_list (PySem.F.typeCall_list_1 (.ref a)) PySem.F.entry_list_init
    (code_list_new _ ⟨rfl, rfl⟩) fun obj s₁ h₁ => ?_
  obtain ⟨rfl, rfl⟩ := h₁
  have hS : (s.heap.push { cls := .type "list", data := .seq #[] }).get? s.heap.objs.size = some { cls := .type "list", data := .seq #[] } := Heap.get?_push_size _ rfl
  refine ⟨⟨_, hS, rfl⟩, PySem.F.args_list_init_2 _ (.ref a), ?_⟩
  have fr : H s.heap.objs.size = none := I.hok.fresh (Nat.le_refl _)
  have I1 : Inv X pins σ (upd H s.heap.objs.size (.lst [])) { s with heap := s.heap.push { cls := .type "list", data := .seq #[] } } := I.lnew (its := []) (t' := s.toks) .nil (Nat.zero_le _)
  generalize s.heap.objs.size = p at fr I1 hS ⊢
  show wpAny _ X.A.in1.in1 (do let old ← Builtin.List.listItems (.ref p); Builtin.List.listUpdate (.ref p) (fun _ => #[]); letGo old.toList.reverse; Builtin.List.listExtendWith (.ref p) (.ref a) .none) _ _ _
  refine wpAny_bind ?_
  unfold Builtin.List.listItems
  refine wpAny_bind (wpAny_seqItems hS rfl (wpAny_pure ?_))
  show wpAny _ _ (updateSeq p (fun _ => #[]) >>= fun _ => letGo (#[] : Array Value).toList.reverse >>= fun _ => Builtin.List.listExtendWith (.ref p) (.ref a) .none) _ _ _
  refine wpAny_bind (wpAny_updateSeq hS rfl ?_)
  have I2 := I1.lset (f := fun _ => #[]) (its := []) (its' := []) (ys := []) (t' := s.toks) upd_same hS rfl .nil (Nat.zero_le _)
  rw [upd_upd] at I2
  refine wpAny_bind (wpAny_letGo ?_)
  have S2 : Same H (upd H p (.lst [])) := Rz.Same.new (Same.refl H) fr
  have ha2 := S2 _ _ ha
  have hne : p ≠ a := fun z => by
    subst z
    rw [fr] at ha
    cases ha
  obtain ⟨od, J⟩ := inst_at I2 ha2
  obtain ⟨m0, hF⟩ := I2.fr
  unfold Builtin.List.listExtendWith
  refine wpAny_bind (J.type.here ?_)
  have c1 : Builtin.List.listSameRef (.ref p) (.ref a) = false := by simp [Builtin.List.listSameRef, hne]
  have c2 : (Value.ref C == Value.type "list") = false := rfl
  have c3 : (Value.ref C == Value.type "tuple") = false := rfl
  simp only [c1, c2, c3, Bool.or_false, Bool.false_eq_true, if_false]
  refine wpAny_bind (PySem.W.owit_iter hF I2.ok.mod.kin J MI.at_ MI.fn (wpAny_mono (run_below (A := X.A.in1.in1) (vs := [.ref a]) FI (hr.in1.in1.mono (Nat.le_succ k)) rfl bI I2 (.cons rfl .nil)
    (hI _ (fun v H' => ∃ it, v = .ref it ∧ upd H p (.lst []) it = none ∧ H' = upd (upd H p (.lst [])) it (ItO l it 0)) S2 fun it hit => ⟨it, rfl, hit, rfl⟩)) (fun v s' hv => ?_) fun _ _ z => z))
  obtain ⟨x, H3, I3, rx, it, rfl, hit, rfl⟩ := hv
  obtain rfl : v = Value.ref it := rx
  have S3 : Same H (upd (upd H p (.lst [])) it (ItO l it 0)) := Rz.Same.new S2 hit
  have fit : H it = none := by
    cases e : H it with
    | none => rfl
    | some o => rw [S2 _ _ e] at hit; cases hit
  have nip : it ≠ p := fun z => by
    subst z
    rw [upd_same] at hit
    cases hit
  have ty : s'.TypeIs (.ref it) "list_iterator" := ⟨_, itO_get I3 upd_same, rfl⟩
  unfold PySem.W.OwitIt
  refine wpAny_specialOf ty li_next ?_
  refine wpAny_bind (wpAny_holding ?_)
  have ha3 := S3 _ _ ha
  obtain ⟨od3, J3⟩ := inst_at I3 ha3
  obtain ⟨m3, hF3⟩ := I3.fr
  refine hint_own I3.kIn MN J3 (PySem.W.len_K hF3 I3.ok.mod.kin J3 MN.at_ MN.fn (wpAny_mono (run_below (A := X.A.in1.in1.in1) (vs := [.ref a]) (E' := fun _ _ => False) FN hr.in1.in1.in1 rfl bN I3 (.cons rfl .nil)
    (hN _ (fun v H' => v = .int (n : Nat) ∧ H' = upd (upd H p (.lst [])) it (ItO l it 0)) S3 ⟨rfl, rfl⟩)) (fun v s4 hv => ?_) fun _ _ z => z.elim))
  obtain ⟨x, H4, I4, rx, rfl, rfl⟩ := hv
  obtain ⟨t4, rfl⟩ := rx
  refine ⟨⟨by omega, by omega⟩, (n : Nat), s4.toks, rfl, hlong, ?_⟩
  have eq4 : upd (upd H p (.lst [])) it (ItO l it 0) p = some (.lst []) := by rw [upd_ne (Ne.symm nip), upd_same]
  have J4 : Inv X pins σ (upd (upd H p (.lst [])) it (ItO l it 0)) { s4 with toks := s4.toks + 1 } := I4.tok _
  have last : ∀ s5, Inv X pins σ (upd (upd H p (.lst [])) it (ItO l it 0)) s5 → codeAny (model X.prog X.w) X.A.in1 (.builtin "list.extend.loop" ⟨[.ref p, .ref it, .none], []⟩) (wants (fun r s₂ => r = .none ∧ EP X pins σ Q (.ref p) s₂) X.xe) s5 := fun s5 I5 =>
    lo_loop (A1 := X.A.in1) (H0 := H) (Rs := wants (fun r s₂ => r = .none ∧ EP X pins σ Q (.ref p) s₂) X.xe) (I5.ok.hd hcalm) hq hyz fr fit nip (fun H6 s6 I6 S6 e6 => ⟨rfl, .ref p, H6, I6, rfl, fin H6 p (fun b o e => S6 b o e) fr e6⟩) ys.length 0 _ _ (by omega) (Nat.zero_le _) I5 (fun b o e => S3 b o e) upd_same eq4
  obtain ⟨z, its, kk, r3, hl3, e3⟩ := J4.lstM eq4
  cases r3
  refine wpAny_ite_split (fun _ => ?_) (fun _ => wpAny_pure ⟨plainId_quiet PySem.F.plain_extend_loop _, last _ J4⟩)
  refine wpAny_bind (wpAny_rule ?_)
  refine wpAny_bind ?_
  show wpAny _ _ (updateSeq p (·.push .none) >>= fun _ => updateSeq p (·.pop)) _ _ _
  refine wpAny_bind (wpAny_updateSeq e3 rfl ?_)
  have K2 := J4.lset (f := (·.push Value.none)) (its' := [Value.none]) (ys := [.non]) (t' := s4.toks + 1) eq4 e3 (by simp) (.cons rfl .nil) (by rw [List.length_singleton, sizeLine_eq]; decide)
  obtain ⟨z4, its4, k4, r4, hl4, e4⟩ := K2.lstM upd_same
  obtain ⟨u4, rfl, ru4⟩ := r4.one
  refine wpAny_updateSeq e4 rfl ?_ (by show 1 ≤ sizeLine; rw [sizeLine_eq]; decide) (by show 0 ≤ sizeLine + 1; exact Nat.zero_le _)
  refine wpAny_pure ⟨plainId_quiet PySem.F.plain_extend_loop _, last _ ?_⟩
  have K3 := K2.lset (f := (·.pop)) (its := [u4]) (its' := []) (ys := []) (t' := s4.toks + 1) upd_same e4 (by rfl) .nil (Nat.zero_le _)
  rw [upd_upd] at K3
  have back : ∀ (G : Hp), G p = some (.lst []) → upd G p (.lst []) = G := fun G g => by
    funext b
    by_cases hb : b = p
    · rw [hb, upd_same, g]
    · rw [upd_ne hb]
  rw [back _ eq4] at K3
  exact K3
end
end Rz

namespace Rz
open PySem PySem.Spec PyProof.Rows L2
/-! ### max(list of ints, default=d) -/
section
variable {prog : Program} {w : World} {A : Around} {R : Result → Shared → Prop} {I S : Addr} {f1 wr : List Addr} {n : Nat} {P : Nat → Value → Prop} {St : Nat → Heap → Prop} {kw : List (Str × Value)}
theorem mx_name : (toString "max" ++ toString ".loop" : String) = "max.loop" := by decide
theorem mxd_loop (Wk : Walks prog w A.in1 I f1 wr n P St) (bt : Nat → Nat → Bool) (cmp : CmpOf prog w A.in1 .Gt P bt) (sep : S ∉ f1) : ∀ (k j : Nat) (s : Shared) (best : Value) (c : Nat), n - (j + 1) = k → j + 1 ≤ n → St (j + 1) s.heap → P (argBest bt j) best →
    s.heap.get? S = some { cls := .type "list", dict := none, data := .seq #[best, best] c, slots := #[] } →
    (∀ v h' tk, P (argBest bt (n - 1)) v → (∀ b o, b ∉ wr → b ≠ S → s.heap.get? b = some o → h'.get? b = some o) → R (.ok (.ret v)) { s with heap := h', toks := tk }) → codeAny (model prog w) A (.builtin "max.loop" ⟨[.ref I, .none, .ref S], kw⟩) R s := by
  have sepW : S ∉ wr := fun h => sep (Wk.sub _ h)
  intro k
  induction k with
  | zero =>
    intro j s best c hk hj st pb gS fin
    have last : j + 1 = n := by omega
    refine codeAny_builtin F.entry_max_loop ?_
    rw [Around.under_plainId F.plain_max_loop _]
    show wpAny _ A.in1 (seqItems? (.ref S) >>= _) _ _ s
    refine wpAny_bind (wpAny_seqItems gS rfl ?_)
    show wpAny _ A.in1 (tryCatch (pyNext (.ref I)) _ >>= _) _ _ s
    refine wpAny_bind (wpAny_tryCatch (Wk.done s _ _ (last ▸ st) fun h' tk kk => ?_))
    have gS' := kk S _ sepW gS
    show wpAny _ A.in1 (updateSeq S (fun _ => #[]) >>= _) _ _ _
    refine wpAny_bind ?_
    refine wpAny_updateSeq gS' rfl (wpAny_bind (wpAny_letGo (wpAny_pure ?_)))
    refine fin best _ tk (by rw [← last]; exact pb) fun b o nb nS e => (Heap.get?_update_other _ _ (Ne.symm nS)).trans (kk b o nb e)
  | succ k ih =>
    intro j s best c hk hj st pb gS fin
    have lt : j + 1 < n := by omega
    refine codeAny_builtin F.entry_max_loop ?_
    rw [Around.under_plainId F.plain_max_loop _]
    show wpAny _ A.in1 (seqItems? (.ref S) >>= _) _ _ s
    refine wpAny_bind (wpAny_seqItems gS rfl ?_)
    show wpAny _ A.in1 (tryCatch (pyNext (.ref I)) _ >>= _) _ _ s
    refine wpAny_bind (wpAny_tryCatch (Wk.item (j + 1) s _ _ lt st fun v h' tk pv st' kk => ?_))
    have gS' := kk S _ sepW gS
    show wpAny _ A.in1 (tryCatch (holding [v, v] (richCompare .Gt v best >>= _)) _ >>= _) _ _ _
    refine wpAny_bind (wpAny_tryCatch (wpAny_holding (wpAny_bind (cmp (j + 1) (argBest bt j) v best _ _ _ pv pb ?_))))
    refine wpAny_bind (wpAny_holding (wpAny_truthy_bool ?_))
    refine wpAny_bind (wpAny_letGo (wpAny_pure ?_))
    cases better : bt (j + 1) (argBest bt j) with
    | true =>
      simp only [if_true]
      refine wpAny_bind ?_
      refine wpAny_updateSeq gS' rfl (wpAny_bind (wpAny_letGo ?_))
      rw [mx_name]
      refine wpAny_pure ⟨plainId_quiet F.plain_max_loop _, ih (j + 1) _ v _ (by omega) lt (Wk.frame _ _ _ st' fun b hb o e => (Heap.get?_update_other _ _ (fun h : S = b => sep (by rw [h]; exact hb))).trans e) (by simp only [argBest, better, if_true]; exact pv) (Heap.get?_update_self _ gS' rfl)
        fun v' h2 tk2 pv2 kk2 => fin v' h2 tk2 pv2 fun b o nb nS e => kk2 b o nb nS ((Heap.get?_update_other _ _ (Ne.symm nS)).trans (kk b o nb e))⟩
    | false =>
      simp only [Bool.false_eq_true, if_false]
      refine wpAny_bind (wpAny_letGo ?_)
      rw [mx_name]
      refine wpAny_pure ⟨plainId_quiet F.plain_max_loop _, ih (j + 1) _ best c (by omega) lt st' (by simp only [argBest, better, Bool.false_eq_true, if_false]; exact pb) gS'
        fun v' h2 tk2 pv2 kk2 => fin v' h2 tk2 pv2 fun b o nb nS e => kk2 b o nb nS (kk b o nb e)⟩
theorem mxd_first (Wk : Walks prog w A.in1 I f1 wr n P St) (bt : Nat → Nat → Bool) (cmp : CmpOf prog w A.in1 .Gt P bt) (sep : S ∉ f1) (pos : 0 < n) {s : Shared} {c : Nat} (st : St 0 s.heap)
    (gS : s.heap.get? S = some { cls := .type "list", dict := none, data := .seq #[] c, slots := #[] })
    (fin : ∀ v h' tk, P (argBest bt (n - 1)) v → (∀ b o, b ∉ wr → b ≠ S → s.heap.get? b = some o → h'.get? b = some o) → R (.ok (.ret v)) { s with heap := h', toks := tk }) : codeAny (model prog w) A (.builtin "max.loop" ⟨[.ref I, .none, .ref S], kw⟩) R s := by
  have sepW : S ∉ wr := fun h => sep (Wk.sub _ h)
  refine codeAny_builtin F.entry_max_loop ?_
  rw [Around.under_plainId F.plain_max_loop _]
  show wpAny _ A.in1 (seqItems? (.ref S) >>= _) _ _ s
  refine wpAny_bind (wpAny_seqItems gS rfl ?_)
  show wpAny _ A.in1 (tryCatch (pyNext (.ref I)) _ >>= _) _ _ s
  refine wpAny_bind (wpAny_tryCatch (Wk.item 0 s _ _ pos st fun v h' tk pv st' kk => ?_))
  have gS' := kk S _ sepW gS
  show wpAny _ A.in1 (updateSeq S (fun _ => #[v, v]) >>= _) _ _ _
  refine wpAny_bind ?_
  refine wpAny_updateSeq gS' rfl ?_
  rw [mx_name]
  refine wpAny_pure ⟨plainId_quiet F.plain_max_loop _, mxd_loop Wk bt cmp sep _ 0 _ v _ rfl pos (Wk.frame _ _ _ st' fun b hb o e => (Heap.get?_update_other _ _ (fun h : S = b => sep (by rw [h]; exact hb))).trans e) pv (Heap.get?_update_self _ gS' rfl)
    fun v' h2 tk2 pv2 kk2 => fin v' h2 tk2 pv2 fun b o nb nS e => kk2 b o nb nS ((Heap.get?_update_other _ _ (Ne.symm nS)).trans (kk b o nb e))⟩
theorem mxd_none (Wk : Walks prog w A.in1 I f1 wr 0 P St) (sep : S ∉ f1) {s : Shared} {c : Nat} {x : Str} {d : Value} (st : St 0 s.heap)
    (gS : s.heap.get? S = some { cls := .type "list", dict := none, data := .seq #[] c, slots := #[] })
    (fin : ∀ h' tk, (∀ b o, b ∉ wr → b ≠ S → s.heap.get? b = some o → h'.get? b = some o) → R (.ok (.ret d)) { s with heap := h', toks := tk }) : codeAny (model prog w) A (.builtin "max.loop" ⟨[.ref I, .none, .ref S], [(x, d)]⟩) R s := by
  refine codeAny_builtin F.entry_max_loop ?_
  rw [Around.under_plainId F.plain_max_loop _]
  show wpAny _ A.in1 (seqItems? (.ref S) >>= _) _ _ s
  refine wpAny_bind (wpAny_seqItems gS rfl ?_)
  show wpAny _ A.in1 (tryCatch (pyNext (.ref I)) _ >>= _) _ _ s
  refine wpAny_bind (wpAny_tryCatch (Wk.done s _ _ st fun h' tk kk => ?_))
  exact wpAny_bind (wpAny_rule (wpAny_pure (fin h' tk fun b o nb _ e => kk b o nb e)))
end
section
variable {prog : Program} {w : World} {A : Around} {E : Value → Shared → Prop} {s : Shared} {l : Addr} {xs : Array (Int × Tok)} {d : Value}
theorem mxd_args (a d : Value) : argsOk "max" ⟨[a], [("default", d)]⟩ := by unfold argsOk; kernel_rfl
theorem mxd_entry {Q : Value → Shared → Prop} (h : wpAny (model prog w) A.in1 (pyIter (.ref l)) (fun it s2 => ∃ I f1 wr n P St bt, it = .ref I ∧ Walks prog w A.in1 I f1 wr n P St ∧ St 0 s2.heap ∧ (∀ b ∈ f1, b < s2.heap.objs.size) ∧ CmpOf prog w A.in1 .Gt P bt ∧
      (n = 0 → ∀ h' tk, (∀ b o, b ∉ wr → s2.heap.get? b = some o → h'.get? b = some o) → Q d { s2 with heap := h', toks := tk }) ∧
      (0 < n → ∀ v h' tk, P (argBest bt (n - 1)) v → (∀ b o, b ∉ wr → s2.heap.get? b = some o → h'.get? b = some o) → Q v { s2 with heap := h', toks := tk })) E s) :
    wpAny (model prog w) A (call (.builtin "max") [.ref l] [("default", d)]) Q E s := by
  refine wpAny_call (codeAny_call_builtin F.plain_max F.entry_max ?_)
  have e : checkBuiltinCall "max" ⟨[.ref l], [("default", d)]⟩ = pure () := by
    have ha := mxd_args (.ref l) d
    simp only [checkBuiltinCall, F.kind_max]
    unfold argsOk at ha
    cases hs : Manifest.signature? "max" with
    | none => rfl
    | some sig => rw [hs] at ha; exact ha
  rw [e]
  refine wpAny_pure ?_
  show wpAny _ A.in1 (Builtin.Builtins.bindParams "max" ["key", "default"] 0 ⟨[], [("default", d)]⟩ >>= _) _ _ s
  refine wpAny_bind (wpAny_of_eq (show Builtin.Builtins.bindParams "max" ["key", "default"] 0 ⟨[], [("default", d)]⟩ = pure [none, some d] from rfl) ?_)
  refine wpAny_bind (wpAny_pure ?_)
  refine wpAny_bind (wpAny_mono h (fun it s2 h2 => ?_) fun _ _ e => e)
  obtain ⟨I, f1, wr, n, P, St, bt, rfl, Wk, st, below, cmp, q0, q1⟩ := h2
  refine wpAny_bind (wpAny_newObj_type ?_)
  have sep : s2.heap.objs.size ∉ f1 := fun hm => Nat.lt_irrefl _ (below _ hm)
  rw [mx_name]
  have st2 := Wk.frame _ _ _ st fun b _ o e => Heap.get?_push_of_some { cls := .type "list", data := .seq #[] } e
  rcases Nat.eq_zero_or_pos n with z | pos
  · subst z
    exact wpAny_pure ⟨plainId_quiet F.plain_max_loop _, mxd_none Wk sep st2 (Heap.get?_push_size _ rfl) fun h' tk kk => q0 rfl h' tk fun b o nb e => kk b o nb (Nat.ne_of_lt (Heap.lt_size e)) (Heap.get?_push_of_some _ e)⟩
  · exact wpAny_pure ⟨plainId_quiet F.plain_max_loop _, mxd_first Wk bt cmp sep pos st2 (Heap.get?_push_size _ rfl) fun v h' tk pv kk => q1 pos v h' tk pv fun b o nb e => kk b o nb (Nat.ne_of_lt (Heap.lt_size e)) (Heap.get?_push_of_some _ e)⟩
end
section
variable {X : Cx}
def rMaxDef (K : PySem.W.Frag) : List V → List V → Hp → VK → Prop := fun xs zs H Q => ∃ (l : Addr) (ns : List Int) (d : Int), xs = [.ref l] ∧ zs = [.int d] ∧ SqL K H l (ns.map V.int) ∧ (ns = [] → Q (.int d) H) ∧ (∀ m, m ∈ ns → (∀ y, y ∈ ns → y ≤ m) → Q (.int m) H)
theorem call_maxDef (hc : X.calm = true) : CallRK X (.builtin "max") ["default"] (rMaxDef X.K) := by
  intro pins s σ H xs zs us ws Q I r1 r2 h
  obtain ⟨l, ns, d, rfl, rfl, hs, q0, q1⟩ := h
  obtain ⟨its, rv, hl, _⟩ := I.list hs
  obtain ⟨u, rfl, ru⟩ := vals1 r2
  obtain ⟨td, rfl⟩ := ru
  rw [Vals.ref1 r1]
  have hi := rv.ints
  obtain ⟨as, e⟩ := hi.allInts.items
  have hn : numsOf (intItems as).toList = ns := by rw [← e]; exact hi.numsOf
  rw [nums_intItems] at hn
  subst hn
  have hl2 := hl.isList
  rw [e] at hl2
  show wpAny _ _ (call (.builtin "max") [.ref l] [("default", .int d td)]) _ _ _
  refine mxd_entry (iter_intList hl2 fun s2 e st below hlI => ?_)
  subst e
  refine ⟨_, _, _, _, _, _, _, rfl, Walks.list (A := X.A.in1) (I.ok.hd hc) _ l hlI (intItems as), st, below, CmpOf.ints_gt (numAt as) (fun _ _ => intItems_at), fun hz h' tk kk => ?_, fun pos v h' tk pv kk => ?_⟩
  · have e0 : as.size = 0 := by simpa [intItems] using hz
    exact ⟨.int d, H, I.kept (old_kept kk), ⟨_, rfl⟩, q0 (by rw [Array.eq_empty_of_size_eq_zero e0]; rfl)⟩
  · have p0 : 0 < as.size := by simpa [intItems] using pos
    have pv' : (intItems as)[argBest (fun i j => decide (numAt as i > numAt as j)) (as.size - 1)]? = some v := by simpa [intItems] using pv
    obtain ⟨t, rfl⟩ := intItems_at pv'
    obtain ⟨h1, h2⟩ := argBest_gt (numAt as) (as.size - 1)
    refine ⟨.int _, H, I.kept (old_kept kk), ⟨t, rfl⟩, q1 _ ?_ fun a ha => ?_⟩
    · rw [numAt_eq]
      exact PySem.getD_mem (by rw [List.length_map, Array.length_toList]; omega)
    · obtain ⟨j, hj, rfl⟩ := mem_getD ha
      rw [List.length_map, Array.length_toList] at hj
      rw [← numAt_eq]
      exact h2 j (by omega)
end
end Rz

namespace Rz
open PySem PySem.Spec PyProof.Rows L2
/-! ### rows: pairs of a sign's code and a height -/
abbrev Pr := Nat × Int
def prV (p : Pr) : List V := [.str ⟨#[p.1]⟩, .int p.2]
/-- the tuples ts are the pairs ps -/
def PAt (H : Hp) (ts : List Addr) (ps : List Pr) : Prop := Paired (fun (t : Addr) (p : Pr) => H t = some (.tup (prV p))) ts ps
/-- a list of such tuples -/
def LAt (H : Hp) (l : Addr) (ps : List Pr) : Prop := ∃ ts : List Addr, H l = some (.lst (ts.map V.ref)) ∧ PAt H ts ps
/-- a row: its list stands at l -/
def RAt (cR : Addr) (H : Hp) (p l : Addr) (ps : List Pr) : Prop := ∃ dx, H p = some (.ins cR dx [("_pairs", .ref l)]) ∧ LAt H l ps
/-- signs with heights -/
def GoodR (ps : List Pr) : Prop := ∀ p ∈ ps, oddC p.1 = false ∧ 0 ≤ p.2 ∧ p.2 ≤ 9
def tx (ps : List Pr) : Str := ⟨(ps.map (·.1)).toArray⟩
def hts (ps : List Pr) : List Int := ps.map (·.2)
theorem tx_len (ps : List Pr) : (tx ps).length = ps.length := by
  show (ps.map (·.1)).toArray.size = _
  rw [List.size_toArray, List.length_map]
theorem tx_list (ps : List Pr) : (tx ps).cps.toList = ps.map (·.1) := rfl
theorem hts_len (ps : List Pr) : (hts ps).length = ps.length := List.length_map ..
/-- tuples stay -/
def Tups (H H' : Hp) : Prop := ∀ b xs, H b = some (.tup xs) → H' b = some (.tup xs)
theorem Tups.of {H H' : Hp} (h : Same H H') : Tups H H' := fun b _ e => h b _ e
theorem Tups.but {D : List Addr} {H H' : Hp} (h : But D H H') (n : ∀ d ∈ D, ∀ xs, H d ≠ some (.tup xs)) : Tups H H' := fun b xs e => h b _ (fun hb => n b hb xs e) e
theorem Tups.trans {H H1 H2 : Hp} (a : Tups H H1) (b : Tups H1 H2) : Tups H H2 := fun c xs e => b c xs (a c xs e)
theorem Tups.upd {H H' : Hp} {p : Addr} {o : HO} (a : Tups H H') (n : ∀ xs, H' p ≠ some (.tup xs)) : Tups H (L2.upd H' p o) := fun c xs e => by
  have e1 := a c xs e
  rw [upd_ne (fun z => n xs (by rw [← z]; exact e1))]
  exact e1
theorem PAt.keep {H H' : Hp} (h : Tups H H') : ∀ {ts : List Addr} {ps : List Pr}, PAt H ts ps → PAt H' ts ps
  | _, _, .nil => .nil
  | _, _, .cons e t => .cons (h _ _ e) (PAt.keep h t)
theorem PAt.length {H : Hp} {ts : List Addr} {ps : List Pr} (h : PAt H ts ps) : ts.length = ps.length := Paired.length h
theorem PAt.append {H : Hp} : ∀ {ts us : List Addr} {ps qs : List Pr}, PAt H ts ps → PAt H us qs → PAt H (ts ++ us) (ps ++ qs)
  | _, _, _, _, .nil, s => s
  | _, _, _, _, .cons e t, s => .cons e (PAt.append t s)
theorem PAt.set {H : Hp} {t : Addr} {p : Pr} (e : H t = some (.tup (prV p))) : ∀ {ts : List Addr} {ps : List Pr} (i : Nat), PAt H ts ps → PAt H (ts.set i t) (ps.set i p)
  | _, _, _, .nil => .nil
  | _, _, 0, .cons _ r => .cons e r
  | _, _, i + 1, .cons a r => .cons a (PAt.set e i r)
theorem PAt.rep {H : Hp} {ts : List Addr} {ps : List Pr} (h : PAt H ts ps) : ∀ n : Nat, PAt H (List.replicate n ts).flatten (List.replicate n ps).flatten
  | 0 => .nil
  | n + 1 => by
    rw [List.replicate_succ, List.replicate_succ, List.flatten_cons, List.flatten_cons]
    exact PAt.append h (PAt.rep h n)
theorem PAt.get {H : Hp} : ∀ {ts : List Addr} {ps : List Pr} {i : Nat} {t : Addr}, PAt H ts ps → ts[i]? = some t → ∃ p, ps[i]? = some p ∧ H t = some (.tup (prV p))
  | _, _, i, t, .nil, h => by cases h
  | _, _, 0, t, .cons e r, h => by
    have z := Option.some.inj h
    subst z
    exact ⟨_, rfl, e⟩
  | _, _, i + 1, t, .cons e r, h => PAt.get (i := i) r (by simpa using h)
theorem refs_get {ts : List Addr} {i : Nat} {y : V} (h : (ts.map V.ref)[i]? = some y) : ∃ t, ts[i]? = some t ∧ y = .ref t := by
  rw [List.getElem?_map] at h
  cases e : ts[i]? with
  | none => rw [e] at h; cases h
  | some u => rw [e] at h; exact ⟨u, rfl, (Option.some.inj h).symm⟩
theorem LAt.keep {H H' : Hp} {l : Addr} {ps : List Pr} (h : Tups H H') (e : H' l = H l) (a : LAt H l ps) : LAt H' l ps := let ⟨ts, h1, h2⟩ := a; ⟨ts, e.trans h1, h2.keep h⟩
theorem LAt.same {H H' : Hp} {l : Addr} {ps : List Pr} (h : Same H H') (a : LAt H l ps) : LAt H' l ps := let ⟨ts, h1, h2⟩ := a; ⟨ts, h _ _ h1, h2.keep (.of h)⟩
theorem LAt.at {H : Hp} {l : Addr} {ps : List Pr} (a : LAt H l ps) : ∃ ts : List Addr, H l = some (.lst (ts.map V.ref)) ∧ ts.length = ps.length := let ⟨ts, h1, h2⟩ := a; ⟨ts, h1, h2.length⟩
theorem RAt.same {H H' : Hp} {cR p l : Addr} {ps : List Pr} (h : Same H H') (a : RAt cR H p l ps) : RAt cR H' p l ps := let ⟨dx, h1, h2⟩ := a; ⟨dx, h _ _ h1, h2.same h⟩
theorem RAt.keep {H H' : Hp} {cR p l : Addr} {ps : List Pr} (h : Tups H H') (e : H' p = H p) (e2 : H' l = H l) (a : RAt cR H p l ps) : RAt cR H' p l ps := let ⟨dx, h1, h2⟩ := a; ⟨dx, e.trans h1, h2.keep h e2⟩
/-- what list(zip(signs, heights)) gives -/
theorem zkv_pairs {H : Hp} {ts : List Addr} {x : Str} {ns : List Int} (h : Paired (fun (t : Addr) (u : Key × V) => H t = some (.tup [kV u.1, u.2])) ts (zkv x (ns.map V.int))) : PAt H ts (x.cps.toList.zip ns) := by
  unfold zkv at h
  generalize x.cps.toList = cs at h ⊢
  induction cs generalizing ts ns with
  | nil => cases h; exact .nil
  | cons c cs ih =>
    cases ns with
    | nil => cases h; exact .nil
    | cons n ns =>
      cases h with
      | cons e r => exact .cons e (ih r)
theorem join_signs (ps : List Pr) : Txt.join "" (ps.map fun p => (⟨#[p.1]⟩ : Str)) = tx ps := by
  have h := join0 (ps.map fun p => (⟨#[p.1]⟩ : Str))
  have e : ((ps.map fun p => (⟨#[p.1]⟩ : Str)).map fun y => y.cps.toList).flatten = ps.map (·.1) := by
    rw [List.map_map]
    clear h
    induction ps with
    | nil => rfl
    | cons p ps ih => rw [List.map_cons, List.flatten_cons, ih]; rfl
  rw [e] at h
  generalize Txt.join "" (ps.map fun p => (⟨#[p.1]⟩ : Str)) = j at h
  cases j with
  | mk a =>
    have h2 : a = (ps.map (·.1)).toArray := by
      rw [← h]
    rw [h2]
    rfl
theorem zip_tx {z : Str} {ns : List Int} (h : ns.length = z.length) : (z.cps.toList.zip ns).map (·.1) = z.cps.toList := by
  rw [List.map_fst_zip]
  rw [h]
  exact Nat.le_refl _
theorem zip_hts {z : Str} {ns : List Int} (h : ns.length = z.length) : (z.cps.toList.zip ns).map (·.2) = ns := by
  rw [List.map_snd_zip]
  rw [h]
  exact Nat.le_refl _
theorem tx_hts_zip (ps : List Pr) : (tx ps).cps.toList.zip (hts ps) = ps := by
  rw [tx_list]
  induction ps with
  | nil => rfl
  | cons p ps ih =>
    show (p.1, p.2) :: _ = _
    exact congrArg (p :: ·) ih
/-- a height that is none -/
def badH (n : Int) : Bool := decide (n < 0) || decide (9 < n)
/-- what becomes of Row(z, ns) -/
inductive RR | sign (i : Nat) | uneven | height (n : Int) | row
def rr (z : Str) (ns : List Int) : RR := match fo z with
  | some i => .sign i
  | none => if ns.length ≠ z.length then .uneven else match ns.find? badH with
    | some n => .height n
    | none => .row
theorem rr_good {ps : List Pr} (h : GoodR ps) : rr (tx ps) (hts ps) = .row := by
  have e1 : fo (tx ps) = none := fo_none fun j c hj => by
    rw [tx_list, List.getElem?_map] at hj
    cases e : ps[j]? with
    | none => rw [e] at hj; cases hj
    | some p =>
      rw [e] at hj
      have e2 := Option.some.inj hj
      rw [← e2]
      exact (h p (List.mem_of_getElem? e)).1
  have e2 : (hts ps).find? badH = none := by
    rw [List.find?_eq_none]
    intro n hn
    obtain ⟨p, hp, rfl⟩ := List.mem_map.mp hn
    have h2 := (h p hp).2
    unfold badH
    simp
    omega
  unfold rr
  rw [e1]
  dsimp only
  rw [if_neg (by rw [tx_len, hts_len]; simp), e2]
end Rz
namespace Rz
open PySem PySem.Spec PyProof.Rows L2
/-- a comprehension over such a list -/
theorem lc_pairs {K : PySem.W.Frag} {l : Addr} {ps : List Pr} {g : TG} {te : TE} {vs : List Nat} {σ : L2.St} {H1 : Hp} {D : Addr} {Qd : Hp → Prop} (f : Pr → V) (hL : LAt H1 l ps) (hz : ps.length ≤ sizeLine) (hD : H1 D = none)
    (body : ∀ (t : Addr) (p : Pr) (H : Hp) (Q : VK), p ∈ ps → Same H1 H → H t = some (.tup (prV p)) → (∀ H4, Same H H4 → Q (f p) H4) → g (.ref t) (wipe σ vs) H fun σ2 H2 => wipe σ2 vs = wipe σ vs ∧ te σ2 H2 Q)
    (hd : ∀ H, Same H1 H → H D = some (.lst (ps.map f)) → Qd H) :
    ∃ W : Nat → Nat → Hp → Prop, (∃ m, W 0 m (upd H1 D (.lst []))) ∧ ∀ i m H, W i m H →
      ((Itl K l).stop i H ∧ Qd H) ∨ ((Itl K l).go i H ∧ ∃ Nx : Hp → Prop, (∀ H', Nx H' → ∃ m', m' < m ∧ W (i + 1) m' H') ∧ ∀ x H', (Itl K l).yld i H x H' → g x (wipe σ vs) H' fun σ2 H2 => wipe σ2 vs = wipe σ vs ∧ tYes σ2 H2 fun b H3 =>
        if b = true then te σ2 H3 fun y H4 => ∃ acc, H4 D = some (.lst acc) ∧ acc.length < sizeLine ∧ Nx (upd H4 D (.lst (acc ++ [y]))) else Nx H3) := by
  obtain ⟨ts, hl, hP⟩ := hL
  refine lc_list (K := K) (a := l) (xs := ts.map V.ref) (fun i H => Same H1 H ∧ H D = some (.lst ((ps.take i).map f))) ⟨Rz.Same.new (Same.refl H1) hD, upd_same⟩ (fun i H _ h => SqL.of (h.1 _ _ hl)) (fun i x H hx h => ?_) (fun H h => hd H h.1 ?_)
  · obtain ⟨S, e⟩ := h
    obtain ⟨t, ht, rfl⟩ := refs_get hx
    obtain ⟨p, hp, h2⟩ := hP.get ht
    have hi : i < ps.length := (List.getElem?_eq_some_iff.mp hp).1
    refine body t p H _ (List.mem_of_getElem? hp) S (S _ _ h2) fun H4 S4 => ⟨_, S4 _ _ e, ?_, Rz.Same.upd (S.trans S4) hD, ?_⟩
    · rw [List.length_map, List.length_take]
      omega
    · rw [upd_same, List.take_add_one, hp, List.map_append]
      rfl
  · have := h.2
    rw [List.length_map, hP.length, List.take_length] at this
    exact this
end Rz
namespace Rz
open PySem PySem.Spec PyProof.Rows L2
theorem LAt.but {D : List Addr} {H H' : Hp} {l : Addr} {ps : List Pr} (a : LAt H l ps) (B : But D H H') (n : l ∉ D) (t : Tups H H') : LAt H' l ps := let ⟨ts, h1, h2⟩ := a; ⟨ts, B.at h1 n, h2.keep t⟩
theorem RAt.but {D : List Addr} {H H' : Hp} {cR p l : Addr} {ps : List Pr} (a : RAt cR H p l ps) (B : But D H H') (n1 : p ∉ D) (n2 : l ∉ D) (t : Tups H H') : RAt cR H' p l ps := let ⟨dx, h1, h2⟩ := a; ⟨dx, B.at h1 n1, h2.but B n2 t⟩
theorem LAt.upd {H : Hp} {l q : Addr} {ps : List Pr} {o : HO} (a : LAt H l ps) (n : l ≠ q) (t : ∀ xs, H q ≠ some (.tup xs)) : LAt (L2.upd H q o) l ps := let ⟨ts, h1, h2⟩ := a; ⟨ts, by rw [upd_ne n]; exact h1, h2.keep (Tups.upd (fun _ _ e => e) t)⟩
theorem RAt.upd {H : Hp} {cR p l q : Addr} {ps : List Pr} {o : HO} (a : RAt cR H p l ps) (n1 : p ≠ q) (n2 : l ≠ q) (t : ∀ xs, H q ≠ some (.tup xs)) : RAt cR (L2.upd H q o) p l ps := let ⟨dx, h1, h2⟩ := a; ⟨dx, by rw [upd_ne n1]; exact h1, h2.upd n2 t⟩
theorem Dr.but {D : List Addr} {H H' : Hp} {d : Addr} (a : Dr H d) (B : But D H H') (n : d ∉ D) : Dr H' d := let ⟨ns, h1, h2⟩ := a; ⟨ns, B.at h1 n, h2⟩
theorem Dr.upd {H : Hp} {d q : Addr} {o : HO} (a : Dr H d) (n : d ≠ q) : Dr (L2.upd H q o) d := let ⟨ns, h1, h2⟩ := a; ⟨ns, by rw [upd_ne n]; exact h1, h2⟩
theorem LAt.isL {H : Hp} {l : Addr} {ps : List Pr} (a : LAt H l ps) : ∃ xs, H l = some (.lst xs) := let ⟨ts, h1, _⟩ := a; ⟨_, h1⟩
theorem RAt.isI {H : Hp} {cR p l : Addr} {ps : List Pr} (a : RAt cR H p l ps) : ∃ dx fs, H p = some (.ins cR dx fs) := let ⟨dx, h1, _⟩ := a; ⟨dx, _, h1⟩
theorem RAt.lst {H : Hp} {cR p l : Addr} {ps : List Pr} (a : RAt cR H p l ps) : LAt H l ps := let ⟨_, _, h⟩ := a; h
theorem Dr.isL {H : Hp} {d : Addr} (a : Dr H d) : ∃ xs, H d = some (.lst xs) := let ⟨ns, h1, _⟩ := a; ⟨_, h1⟩
/-- a list and a row stand apart -/
theorem apartLI {H : Hp} {l p cR m : Addr} {ps : List Pr} (h : ∃ xs, H l = some (.lst xs)) (r : RAt cR H p m ps) : l ≠ p := by
  obtain ⟨xs, e⟩ := h
  obtain ⟨dx, fs, e2⟩ := r.isI
  exact ne_of e e2 fun z => nomatch z
theorem apartLT {H : Hp} {l t : Addr} {ys : List V} (h : ∃ xs, H l = some (.lst xs)) (e2 : H t = some (.tup ys)) : l ≠ t := by
  obtain ⟨xs, e⟩ := h
  exact ne_of e e2 fun z => nomatch z
theorem apartNew {H : Hp} {x y : Addr} (h : ∃ o, H x = some o) (n : H y = none) : x ≠ y := let ⟨_, e⟩ := h; ne_of_none e n
theorem LAt.some {H : Hp} {l : Addr} {ps : List Pr} (a : LAt H l ps) : ∃ o, H l = Option.some o := let ⟨ts, h1, _⟩ := a; ⟨_, h1⟩
theorem RAt.some {H : Hp} {cR p l : Addr} {ps : List Pr} (a : RAt cR H p l ps) : ∃ o, H p = Option.some o := let ⟨dx, h1, _⟩ := a; ⟨_, h1⟩
theorem Dr.some {H : Hp} {d : Addr} (a : Dr H d) : ∃ o, H d = Option.some o := let ⟨ns, h1, _⟩ := a; ⟨_, h1⟩
theorem not_tupL {H : Hp} {l : Addr} (h : ∃ xs, H l = some (.lst xs)) : ∀ xs, H l ≠ some (.tup xs) := fun ys e => by
  obtain ⟨xs, e2⟩ := h
  rw [e2] at e
  cases e
theorem not_tupI {H : Hp} {cR p l : Addr} {ps : List Pr} (r : RAt cR H p l ps) : ∀ xs, H p ≠ some (.tup xs) := fun ys e => by
  obtain ⟨dx, fs, e2⟩ := r.isI
  rw [e2] at e
  cases e
theorem not_tupN {H : Hp} {p : Addr} (h : H p = none) : ∀ xs, H p ≠ some (.tup xs) := fun ys e => by
  rw [h] at e
  cases e
theorem tups1 {H H' : Hp} {x : Addr} (B : But [x] H H') (n : ∀ xs, H x ≠ some (.tup xs)) : Tups H H' := Tups.but B fun d hd xs => by
  have e : d = x := by simpa using hd
  rw [e]
  exact n xs
theorem nin1 {x y : Addr} (n : x ≠ y) : x ∉ [y] := by simpa using n
end Rz

namespace Rz
open PySem PySem.Spec PyProof.Rows L2
/-! ### slice objects as values; own classes that are asked with slices -/
theorem sl_ga_slot : Slot "slice" "__getattribute__" "slice.__getattribute__" :=
  .of (owner := "slice") (n := "__getattribute__") (by rw [typeLookup_type, builtinLookup_eq_fast]; kernel_rfl) (by decide +kernel) (by decide +kernel) (by decide +kernel) (by first | exact .inl (by decide +kernel) | exact .inr (by decide +kernel)) (by rw [isSubtype_type]; kernel_rfl)
theorem sl_ga_args (a b : Value) : argsOk "slice.__getattribute__" ⟨[a, b], []⟩ := by unfold argsOk; kernel_rfl
theorem sl_ga_entry : entryFor table "slice.__getattribute__" = some Builtin.«object.__getattribute__» := entryFor_alias (id' := "object.__getattribute__") (by kernel_rfl) (by first | rfl | decide +kernel) (by decide +kernel) (by kernel_rfl)
theorem sl_lk_class : typeLookup (.type "slice") "__class__" = pure (some (.builtin "object.__class__")) := by rw [typeLookup_type, builtinLookup_eq_fast]; kernel_rfl
theorem sl_sub_owner : isSubtype (.type "slice") (.type (".".intercalate ("object.__class__".cutAt '.').dropLast)) = pure true := by rw [F.owner_object_class, isSubtype_type]; kernel_rfl
section
variable {prog : Program} {w : World} {A : Around} {E : Value → Shared → Prop} {h : Heap} {g : Array GenState} {d : Drawn} {t : Nat} {os : OsState} {a : Addr} {o : Obj}
theorem sl_class_get {R : Result → Shared → Prop} (hx : h.get? a = some o) (hc : o.cls = .type "slice") (hq : R (.ok (.ret (.type "slice"))) ⟨h, g, d, t, os⟩) : codeAny (model prog w) A (.call (.builtin "getset_descriptor.__get__") ⟨[.builtin "object.__class__", .ref a, .type "slice"], []⟩) R ⟨h, g, d, t, os⟩ := by
  have hTs : (⟨h, g, d, t, os⟩ : Shared).TypeIs (.ref a) "slice" := ⟨_, hx, hc⟩
  have hTg : (⟨h, g, d, t, os⟩ : Shared).TypeIs (.builtin "object.__class__") "getset_descriptor" := F.typeOf_object_class
  have f1 := sl_sub_owner
  refine codeAny_call_builtin F.slot_gs_get.plain F.entry_gs_get (F.slot_gs_get.check _ _ _ _ _ _ _ _ hTg (F.args_gs_get _ _ _) ?_)
  repeat (any_goals (first | assumption | wp_step))
  refine ⟨Code.quiet_builtin _ (by decide +kernel), codeAny_builtin F.entry_object_class ?_⟩
  repeat (any_goals (first | assumption | wp_step))
theorem sl_class_entry {tk : Tok} {Q : Fin → Shared → Prop} (hx : h.get? a = some o) (hc : o.cls = .type "slice") (hq : Q (.done (.ret (.type "slice"))) ⟨h, g, d, t, os⟩) : wpAny (model prog w) A (Builtin.«object.__getattribute__» ⟨[.ref a, .str "__class__" tk], []⟩) Q E ⟨h, g, d, t, os⟩ := by
  have hTs : (⟨h, g, d, t, os⟩ : Shared).TypeIs (.ref a) "slice" := ⟨_, hx, hc⟩
  have hTg : (⟨h, g, d, t, os⟩ : Shared).TypeIs (.builtin "object.__class__") "getset_descriptor" := F.typeOf_object_class
  have f1 := sl_lk_class
  have f2 := F.typeOf_object_class
  have f3 := F.slot_gs_get.lookup
  have f4 := F.slot_gs_set.lookup
  repeat (any_goals (first | assumption | wp_step))
  refine sl_class_get hx hc ?_
  repeat (any_goals (first | assumption | wp_step))
theorem sl_class_call {tk : Tok} {R : Result → Shared → Prop} (hx : h.get? a = some o) (hc : o.cls = .type "slice") (hq : R (.ok (.ret (.type "slice"))) ⟨h, g, d, t, os⟩) : codeAny (model prog w) A (.call (.builtin "slice.__getattribute__") ⟨[.ref a, .str "__class__" tk], []⟩) R ⟨h, g, d, t, os⟩ :=
  codeAny_call_builtin sl_ga_slot.plain sl_ga_entry (sl_ga_slot.check _ _ _ _ _ _ _ _ (show (⟨h, g, d, t, os⟩ : Shared).TypeIs (.ref a) "slice" from ⟨_, hx, hc⟩) (sl_ga_args _ _) (sl_class_entry hx hc hq))
theorem sl_class_by {tk : Tok} {Q : Value → Shared → Prop} (hx : h.get? a = some o) (hc : o.cls = .type "slice") (hq : Q (.type "slice") ⟨h, g, d, t, os⟩) : wpAny (model prog w) A (getAttrBy (.ref a) (.str "__class__" tk) false) Q E ⟨h, g, d, t, os⟩ := by
  have hTs : (⟨h, g, d, t, os⟩ : Shared).TypeIs (.ref a) "slice" := ⟨_, hx, hc⟩
  have f1 := sl_ga_slot.lookup
  have f2 := sl_ga_slot.bind (.ref a)
  repeat (any_goals (first | assumption | wp_step))
  refine sl_class_call hx hc ?_
  repeat (any_goals (first | assumption | wp_step))
theorem sl_class_attr {Q : Option Value → Shared → Prop} (hx : h.get? a = some o) (hc : o.cls = .type "slice") (hq : Q (some (.type "slice")) ⟨h, g, d, t + 1, os⟩) : wpAny (model prog w) A (getAttr? (.ref a) "__class__") Q E ⟨h, g, d, t, os⟩ := by
  unfold getAttr? getAttrBy?
  repeat (any_goals (first | assumption | with_reducible apply sl_class_by hx hc | wp_step))
end
/-- the slice lo:hi stands at a -/
def SlO (a : Addr) (lo hi : Int) : HO := .ext fun h => ∃ t u, h.IsSliceOf a (.int lo t) (.int hi u) .none
theorem slO_ok {P : Program} {w : World} {H : Hp} {h : Heap} {a : Addr} {lo hi : Int} {t u : Tok} (e : h.IsSliceOf a (.int lo t) (.int hi u) .none) : ObjOk P w H h a (SlO a lo hi) := by
  obtain ⟨o, e1, r⟩ := e
  exact ⟨⟨t, u, o, e1, r⟩, ⟨o, e1⟩, fun h1 h2 ⟨t, u, o, e1, r⟩ k => ⟨t, u, o, k _ e1, r⟩⟩
theorem slO_get {X : Cx} {pins : List (Addr × Obj)} {σ : L2.St} {H : Hp} {s : Shared} {a : Addr} {lo hi : Int} (I : Inv X pins σ H s) (e : H a = some (SlO a lo hi)) : ∃ t u, s.heap.IsSliceOf a (.int lo t) (.int hi u) .none := by
  obtain ⟨p, _, _⟩ := (show ObjOk X.prog X.w H s.heap a (SlO a lo hi) from I.hok a _ e)
  exact p
section
variable {X : Cx} {k : Nat} {f C : Addr} {fd : FuncData} {ps : List Str} {sp : Sp}
/-- isinstance(x, T) of a slice -/
theorem call_isiSl : CallR X (.builtin "isinstance") (fun xs H Q => ∃ (a : Addr) (lo hi : Int) (c : V) (u : Value) (b : Bool), xs = [.ref a, c] ∧ ClsV c u ∧ H a = some (SlO a lo hi) ∧ PySem.W.kitOne X.K (.type "slice") u = some b ∧ Q (.bl b) H) := by
  intro pins s σ H xs us Q I r h
  obtain ⟨a, lo, hi, c, u, b, rfl, kc, ea, e, q⟩ := h
  obtain ⟨u1, u2, rfl, r1, r2⟩ := vals2 r
  have e2 := kc.eq r2
  subst e2
  obtain rfl : u1 = Value.ref a := r1
  obtain ⟨t, u, o, e1, hc, _⟩ := slO_get I ea
  have Z : PySem.W.KitX X.K (.ref a) (.type "slice") (PySem.W.KitAt a "slice") := PySem.W.kitx_of PySem.W.kitAt_ty (fun {_ _ _ _ _ s} p k => by obtain ⟨h, g, d, t, os⟩ := s; obtain ⟨o, h1, h2⟩ := p; exact sl_class_attr h1 h2 k)
  exact PySem.W.kia_one Z I.kIn ⟨o, e1, hc⟩ e (fun z => nomatch z) fun tk => ⟨.bl b, H, I.tok tk, rfl, q⟩
/-- xs[s] of a list, s a slice -/
theorem ix_sliceV : IxR X (fun x y H Q => ∃ (p sl : Addr) (lo hi : Int) (xs : List V), x = .ref p ∧ y = .ref sl ∧ SqL X.K H p xs ∧ H sl = some (SlO sl lo hi) ∧ ∀ q, H q = none → Q (.ref q) (upd H q (.lst (cutV xs (some lo) (some hi))))) := by
  intro value slice pins s σ H x y v u Q I rx ry h hs
  obtain ⟨p, sl, lo, hi, xs, rfl, rfl, hq, es, q⟩ := h
  cases rx
  cases ry
  obtain ⟨t, u, hsl⟩ := slO_get I es
  obtain ⟨its, r, pl, hz⟩ := I.list hq
  have hlen := r.length
  refine tail_any (ops := [.ref p, .ref sl]) pl.isList.typeIs slot_list_getitem.lookup ?_ hs
  refine wpAny_getItem_list_slice pl.isList hsl (.int _ _) (.int _ _) .none (by simp) ?_ (by rw [List.size_toArray] <;> omega)
  rw [slicePick_cut, ← hlen]
  refine ⟨.ref s.heap.objs.size, _, I.laid (t' := s.toks) (o := .lst (cutV xs (some lo) (some hi))) (fun b ob q => Heap.get?_push_of_some _ q) (Nat.le_refl _) ?_, rfl, q _ (I.hok.fresh (Nat.le_refl _))⟩
  exact ⟨Nat.le_trans (cutV_length xs _ _) hz, _, 0, (r.drop _).take _, Heap.get?_push_size _ rfl⟩
/-- xs[s] = ys of lists, s a slice -/
theorem set_sliceV : PSet X (fun o i v H Q => ∃ (l b sl : Addr) (lo hi : Int) (xs ys : List V), o = .ref l ∧ i = .ref sl ∧ v = .ref b ∧ H l = some (.lst xs) ∧ H b = some (.lst ys) ∧ H sl = some (SlO sl lo hi) ∧ l ≠ b ∧ 0 ≤ lo ∧ lo ≤ hi ∧ hi ≤ xs.length ∧ xs.length + ys.length ≤ sizeLine ∧
    Q (upd H l (.lst (xs.take lo.toNat ++ ys ++ xs.drop hi.toNat)))) := by
  intro pins s σ H o i v ov iv u Q I r1 r2 r3 h
  obtain ⟨l, b, sl, lo, hi, xs, ys, rfl, rfl, rfl, hl, hb, es, ne, h0, h1, h2, hz, q⟩ := h
  cases r1
  cases r2
  cases r3
  obtain ⟨t, u, hsl⟩ := slO_get I es
  exact set_slice I hl hb ne hsl ⟨_, rfl⟩ ⟨_, rfl⟩ h0 h1 h2 hz fun s' I' => ⟨_, I', q⟩
variable {e : Expr} {lo hi : Expr} {te : TE} {tl th : TE} {pos p2 : Pos}
theorem sub_own {x : Addr} {h₀ : Heap} {L : Addr} {m : Str → Option Value} {od : Option Obj} {ox : Obj} {prog : Program} {w : World} {A : Around} {E : Value → Shared → Prop} {s : Shared} {K : PySem.W.Frag} {value lo hi : Expr} {i : Value} {Q : Value → Shared → Prop} (hF : Fr h₀ L s.heap m) (hX : K.In h₀) (J : PySem.W.InstAt s.heap x ox C od) (M : Meth K C "__getitem__" f) (hn : PySem.W.noSeq K C = true) (hf : PySem.W.fnIn K f = true)
    (h : wpAny (model prog w) A (call (.ref f) [.ref x, i]) Q E s) : wpAny (model prog w) A (subscriptTail value (.Slice (some lo) (some hi) none p2) (.ref x) i) Q E s := by
  have Y := hX.keeps hF.keep
  unfold PySem.W.fnIn at hf
  split at hf
  · rename_i ef
    unfold subscriptTail getitemInPython
    refine wpAny_bind (wpAny_bind (wpAny_bind (J.type.here ((PySem.W.looks_findIn Y M.at_).here ?_))))
    dsimp only
    refine wpAny_bind (wpAny_load (Y _ _ ef) (wpAny_pure ?_))
    dsimp only
    show wpAny _ _ (operate [i, .ref x] (getItem (.ref x) i) >>= _) _ _ _
    refine wpAny_bind (wpAny_operating (PySem.W.getItem_K hF hX J hn M.at_ M.fn (wpAny_mono h (fun v s' z => ?_) fun _ _ z => z)))
    exact wpAny_bind (wpAny_letTemporaryGo (wpAny_pure z))
  · cases hf
theorem fn_in {x qual : Str} {st : Stmt} {g : Addr} {K : PySem.W.Frag} {gd : FuncData} (F : Fun K x qual st g gd) : PySem.W.fnIn K g = true := by
  obtain ⟨_, _, _, _, _, _, _, _, _, _, lk, _⟩ := F.ex
  unfold PySem.W.fnIn
  rw [lk]
/-- x[lo:hi] by the own __getitem__, nothing is raised -/
def tSlG (C : Addr) (sp : Sp) (te tl th : TE) : TE := fun σ H Q => te σ H fun x H1 => tl σ H1 fun l H2 => ∃ i, l = .int i ∧ th σ H2 fun u H3 => ∃ j, u = .int j ∧ ∃ (a dx : Addr) (fs : List (Str × V)), x = .ref a ∧ H3 a = some (.ins C dx fs) ∧ ∀ sl, H3 sl = none → sp [.ref a, .ref sl] (upd H3 sl (SlO sl i j)) Q E0
theorem pe_sliceG (M : Meth X.K C "__getitem__" f) (hn : PySem.W.noSeq X.K C = true) (hf : PySem.W.fnIn X.K f = true) (G : FnOk X.prog X.w X.K X.mg X.base (L2.CX X.prog X.w) k f fd ps sp) (hr : Room k X.A) (hb : Binds X.K fd ps []) (he : PE X e te) (hl : PE X lo tl) (hu : PE X hi th) : PE X (.Subscript e (.Slice (some lo) (some hi) none p2) pos) (tSlG C sp te tl th) := by
  refine ⟨fun pins s σ H Q I h => ?_⟩
  refine Subscript_ (thn (he.run pins s σ H _ I h) fun v s1 ⟨x, H1, I1, r1, q1⟩ => ?_)
  refine wpAny_Slice ?_
  rw [evalPart_some, evalPart_some, evalPart_none]
  refine thn (hl.run pins s1 σ H1 _ I1 q1) fun vl s2 ⟨l, H2, I2, r2, i, el, q2⟩ => thn (hu.run pins s2 σ H2 _ I2 q2) fun vu s3 ⟨u, H3, I3, r3, j, eu, a, dx, fs, ex, ea, q3⟩ => ?_
  subst el eu ex
  obtain ⟨t2, rfl⟩ := r2
  obtain ⟨t3, rfl⟩ := r3
  obtain rfl : v = Value.ref a := r1
  refine wpAny_pure ?_
  have nsl : H3 s3.heap.objs.size = none := I3.hok.fresh (Nat.le_refl _)
  have I4 := I3.laid (t' := s3.toks) (o := SlO s3.heap.objs.size i j) (fun b ob q => Heap.get?_push_of_some { cls := .type "slice", data := .fields #[.int i t2, .int j t3, .none] } q) (Nat.le_refl _) (slO_ok (Heap.IsSliceOf.new ..))
  have ea4 : upd H3 s3.heap.objs.size (SlO s3.heap.objs.size i j) a = some (.ins C dx fs) := by rw [upd_ne (ne_of_none ea nsl)]; exact ea
  obtain ⟨od, J⟩ := inst_at I4 ea4
  obtain ⟨m0, hF⟩ := I4.fr
  exact sub_own hF I4.ok.mod.kin J M hn hf (run_below (vs := [.ref a, .ref s3.heap.objs.size]) G hr rfl hb I4 (.cons rfl (.cons rfl .nil)) (q3 _ nsl))
/-- x[lo:hi] = v by the own __setitem__, nothing is raised -/
def gSlS (C : Addr) (sp : Sp) (te tl th : TE) : TG := fun v σ H Q => te σ H fun x H1 => tl σ H1 fun l H2 => ∃ i, l = .int i ∧ th σ H2 fun u H3 => ∃ j, u = .int j ∧ ∃ (a dx : Addr) (fs : List (Str × V)), x = .ref a ∧ H3 a = some (.ins C dx fs) ∧ ∀ sl, H3 sl = none → sp [.ref a, .ref sl, v] (upd H3 sl (SlO sl i j)) (fun _ H' => Q σ H') E0
theorem pg_sliceS (M : Meth X.K C "__setitem__" f) (hn : PySem.W.noSeq X.K C = true) (G : FnOk X.prog X.w X.K X.mg X.base (L2.CX X.prog X.w) k f fd ps sp) (hr : Room k X.A) (hb : Binds X.K fd ps []) (he : PE X e te) (hl : PE X lo tl) (hu : PE X hi th) : PG X (.Subscript e (.Slice (some lo) (some hi) none p2) pos) (gSlS C sp te tl th) := by
  refine ⟨fun pins s σ H v w Q I r h => ?_⟩
  show wpAny _ _ (do
    let ov ← holding [w] (eval e X.env)
    let iv ← holding [w, ov] (eval (.Slice (some lo) (some hi) none p2) X.env)
    standAt pos
    holding [w, ov, iv] (setItem ov iv w)
    release [iv, w, ov] []) _ _ _
  refine wpAny_bind (wpAny_holding (thn (he.run pins s σ H _ I h) fun ov s1 ⟨x, H1, I1, r1, q1⟩ => ?_))
  refine wpAny_bind (wpAny_holding (wpAny_Slice ?_))
  rw [evalPart_some, evalPart_some, evalPart_none]
  refine thn (hl.run pins s1 σ H1 _ I1 q1) fun vl s2 ⟨l, H2, I2, r2, i, el, q2⟩ => thn (hu.run pins s2 σ H2 _ I2 q2) fun vu s3 ⟨u, H3, I3, r3, j, eu, a, dx, fs, ex, ea, q3⟩ => ?_
  subst el eu ex
  obtain ⟨t2, rfl⟩ := r2
  obtain ⟨t3, rfl⟩ := r3
  obtain rfl : ov = Value.ref a := r1
  refine wpAny_pure ?_
  have nsl : H3 s3.heap.objs.size = none := I3.hok.fresh (Nat.le_refl _)
  have I4 := I3.laid (t' := s3.toks) (o := SlO s3.heap.objs.size i j) (fun b ob q => Heap.get?_push_of_some { cls := .type "slice", data := .fields #[.int i t2, .int j t3, .none] } q) (Nat.le_refl _) (slO_ok (Heap.IsSliceOf.new ..))
  have ea4 : upd H3 s3.heap.objs.size (SlO s3.heap.objs.size i j) a = some (.ins C dx fs) := by rw [upd_ne (ne_of_none ea nsl)]; exact ea
  obtain ⟨od, J⟩ := inst_at I4 ea4
  obtain ⟨m0, hF⟩ := I4.fr
  refine wpAny_bind (wpAny_standAt (wpAny_bind (wpAny_holding (PySem.W.ksp_setItem hF I4.ok.mod.kin J hn M.at_ M.fn (wpAny_mono (run_below (vs := [.ref a, .ref s3.heap.objs.size, v]) G hr rfl hb I4 (.cons rfl (.cons rfl (.cons r .nil))) (q3 _ nsl)) (fun r s' hv => ?_) fun _ _ z => z)))))
  obtain ⟨z, H', J', rz, q⟩ := hv
  exact wpAny_release ⟨σ, H', J', q⟩
/-- x[i] by the own __getitem__, that may raise -/
def tGetO (C : Addr) (sp : Sp) (E : EX) (te ti : TE) : TE := fun σ H Q => te σ H fun x H1 => ti σ H1 fun i H2 => ∃ (a dx : Addr) (fs : List (Str × V)), x = .ref a ∧ H2 a = some (.ins C dx fs) ∧ sp [.ref a, i] H2 Q (E σ)
theorem pe_getO {CX : CXT} {E : EX} {b : Expr} {ti : TE} (M : Meth X.K C "__getitem__" f) (hf : PySem.W.fnIn X.K f = true) (G : FnOk X.prog X.w X.K X.mg X.base CX k f fd ps sp) (hr : Room (k + 1) X.A) (hb : Binds X.K fd ps []) (hx : ∀ σ, PassesAt CX X σ (E σ)) (he : PE X e te) (hi : PE X b ti)
    (hsl : ∀ x i, subscripted b true (.ref x) i = runValue (.builtin "lifetime.subscript" ⟨[.ref x, i], []⟩) := by intro _ _; rfl) : PE X (.Subscript e b pos) (tGetO C sp E te ti) := by
  refine ⟨fun pins s σ H Q I h => ?_⟩
  refine Subscript_ (thn (he.run pins s σ H _ I h) fun v s1 ⟨x, H1, I1, r1, q1⟩ => thn (hi.run pins s1 σ H1 _ I1 q1) fun u s2 ⟨y, H2, I2, r2, a, dx, fs, ex, ea, q2⟩ => ?_)
  subst ex
  obtain rfl : v = Value.ref a := r1
  obtain ⟨od, J⟩ := inst_at I2 ea
  obtain ⟨m0, hF⟩ := I2.fr
  exact PySem.W.sub_K hF I2.ok.mod.kin J M.at_ hf M.fn (wpAny_call (codeAny_mono (run_X (vs := [.ref a, y]) G hr.in1 rfl hb .nil (hx σ) I2 (.cons rfl (.cons r2 .nil)) (by rw [List.append_nil]; exact q2)) fun _ _ hq => ended hq)) (hsl _ _)
/-- x[i] = v by the own __setitem__, that may raise -/
def gSetX (C : Addr) (sp : Sp) (E : EX) (te ti : TE) : TG := fun v σ H Q => te σ H fun x H1 => ti σ H1 fun i H2 => ∃ (a dx : Addr) (fs : List (Str × V)), x = .ref a ∧ H2 a = some (.ins C dx fs) ∧ sp [.ref a, i, v] H2 (fun _ H' => Q σ H') (E σ)
theorem pg_setX {CX : CXT} {E : EX} {b : Expr} {ti : TE} (M : Meth X.K C "__setitem__" f) (hn : PySem.W.noSeq X.K C = true) (G : FnOk X.prog X.w X.K X.mg X.base CX k f fd ps sp) (hr : Room k X.A) (hb : Binds X.K fd ps []) (hx : ∀ σ, PassesAt CX X σ (E σ)) (he : PE X e te) (hi : PE X b ti)
    (ha : ∀ v, assign (.Subscript e b pos) X.env v = (do
      let ov ← holding [v] (eval e X.env)
      let iv ← holding [v, ov] (eval b X.env)
      standAt pos
      holding [v, ov, iv] (setItem ov iv v)
      release [v, ov, iv] []) := by intro _; rfl) : PG X (.Subscript e b pos) (gSetX C sp E te ti) := by
  refine ⟨fun pins s σ H v w Q I r h => ?_⟩
  rw [ha]
  refine wpAny_bind (wpAny_holding (thn (he.run pins s σ H _ I h) fun ov s1 ⟨x, H1, I1, r1, q1⟩ => ?_))
  refine wpAny_bind (wpAny_holding (thn (hi.run pins s1 σ H1 _ I1 q1) fun iv s2 ⟨y, H2, I2, r2, a, dx, fs, ex, ea, q2⟩ => ?_))
  subst ex
  obtain rfl : ov = Value.ref a := r1
  obtain ⟨od, J⟩ := inst_at I2 ea
  obtain ⟨m0, hF⟩ := I2.fr
  refine wpAny_bind (wpAny_standAt (wpAny_bind (wpAny_holding (PySem.W.ksp_setItem hF I2.ok.mod.kin J hn M.at_ M.fn (wpAny_mono (run_XC (vs := [.ref a, y, v]) G hr hb .nil (hx σ) I2 (.cons rfl (.cons r2 (.cons r .nil))) (by rw [List.append_nil]; exact q2)) (fun r s' hv => ?_) fun _ _ z => z)))))
  obtain ⟨z, H', J', rz, q⟩ := hv
  exact wpAny_release ⟨σ, H', J', q⟩
end
end Rz
namespace Rz
open PySem PySem.Spec PyProof.Rows L2
theorem PAt.nth {H : Hp} : ∀ {ts : List Addr} {ps : List Pr} {i : Nat} {p : Pr}, PAt H ts ps → ps[i]? = some p → ∃ t, ts[i]? = some t ∧ H t = some (.tup (prV p))
  | _, _, i, p, .nil, h => by cases h
  | _, _, 0, p, .cons e r, h => by
    have z := Option.some.inj h
    subst z
    exact ⟨_, rfl, e⟩
  | _, _, i + 1, p, .cons e r, h => PAt.nth (i := i) r (by simpa using h)
theorem ref_nth {ts : List Addr} {i : Nat} {t : Addr} (h : ts[i]? = some t) : (ts.map V.ref)[i]? = some (.ref t) := by
  rw [List.getElem?_map, h]
  rfl
theorem PAt.take {H : Hp} : ∀ {ts : List Addr} {ps : List Pr} (n : Nat), PAt H ts ps → PAt H (ts.take n) (ps.take n)
  | _, _, 0, _ => .nil
  | _, _, _ + 1, .nil => .nil
  | _, _, n + 1, .cons e r => .cons e (PAt.take n r)
theorem PAt.drop {H : Hp} : ∀ {ts : List Addr} {ps : List Pr} (n : Nat), PAt H ts ps → PAt H (ts.drop n) (ps.drop n)
  | _, _, 0, h => h
  | _, _, _ + 1, .nil => .nil
  | _, _, n + 1, .cons _ r => PAt.drop n r
theorem cutV_nat {xs : List V} {i j : Nat} (h : i ≤ j) (hj : j ≤ xs.length) : cutV xs (some (i : Int)) (some (j : Int)) = (xs.drop i).take (j - i) := by
  have e1 : HT.sIx xs.length 0 (some (i : Int)) = i := by
    unfold HT.sIx
    simp only
    rw [if_neg (by omega), Int.toNat_natCast]
    omega
  have e2 : HT.sIx xs.length xs.length (some (j : Int)) = j := by
    unfold HT.sIx
    simp only
    rw [if_neg (by omega), Int.toNat_natCast]
    omega
  unfold cutV
  rw [e1, e2]
end Rz

namespace Rz
open PySem PySem.Spec PyProof.Rows L2
/-! ### lists of pairs: joined, cut, copied, written out; the heap is let go of -/
theorem cutV_to {xs : List V} {j : Nat} (hj : j ≤ xs.length) : cutV xs none (some (j : Int)) = xs.take j := by
  have e1 : HT.sIx xs.length 0 none = 0 := rfl
  have e2 : HT.sIx xs.length xs.length (some (j : Int)) = j := by
    unfold HT.sIx
    simp only
    rw [if_neg (by omega), Int.toNat_natCast]
    omega
  unfold cutV
  rw [e1, e2, List.drop_zero, Nat.sub_zero]
theorem cutV_from {xs : List V} {i : Nat} (hi : i ≤ xs.length) : cutV xs (some (i : Int)) none = xs.drop i := by
  have e1 : HT.sIx xs.length 0 (some (i : Int)) = i := by
    unfold HT.sIx
    simp only
    rw [if_neg (by omega), Int.toNat_natCast]
    omega
  have e2 : HT.sIx xs.length xs.length none = xs.length := rfl
  unfold cutV
  rw [e1, e2, List.take_of_length_le (by rw [List.length_drop]; exact Nat.le_refl _)]
/-- len(xs), list(xs) of a list, by names that are not opened -/
@[irreducible] def rLenS (K : PySem.W.Frag) : List V → Hp → VK → Prop := fun xs H Q => ∃ p ys, xs = [.ref p] ∧ SqL K H p ys ∧ Q (.int ys.length) H
theorem call_lenS {X : Cx} : CallR X (.builtin "len") (rLenS X.K) := by
  intro pins s σ H xs us Q I r h
  unfold rLenS at h
  obtain ⟨p, ys, e, h1, q⟩ := h
  exact call_len_seq pins s σ H xs us Q I r ⟨p, ys, e, .inl h1, q⟩
@[irreducible] def rListS (K : PySem.W.Frag) : List V → Hp → VK → Prop := fun xs H Q => ∃ p ys, xs = [.ref p] ∧ SqL K H p ys ∧ ∀ l, H l = none → Q (.ref l) (upd H l (.lst ys))
theorem call_listS {X : Cx} : CallR X (.type "list") (rListS X.K) := by
  intro pins s σ H xs us Q I r h
  unfold rListS at h
  obtain ⟨p, ys, e, h1, q⟩ := h
  exact call_list_of pins s σ H xs us Q I r ⟨p, ys, e, .inl h1, q⟩
section
variable {K : PySem.W.Frag} {H : Hp} {l m : Addr} {us vs : List Pr} {Q : VK}
theorem cat_go (hu : LAt H l us) (hv : LAt H m vs) (hz : us.length + vs.length ≤ 1000000) (k : ∀ (p : Addr) (H' : Hp), H p = none → Same H H' → LAt H' p (us ++ vs) → Q (.ref p) H') : rCat (.ref l) (.ref m) H Q := by
  obtain ⟨ts, e1, P1⟩ := hu
  obtain ⟨ws, e2, P2⟩ := hv
  refine ⟨l, m, _, _, rfl, rfl, e1, e2, by rw [List.length_map, List.length_map, P1.length, P2.length, sizeLine_eq]; omega, fun p hp => ?_⟩
  have S := Rz.Same.new (o := .lst (ts.map V.ref ++ ws.map V.ref)) (Same.refl H) hp
  exact k p _ hp S ⟨ts ++ ws, by rw [upd_same, List.map_append], (P1.append P2).keep (Tups.of S)⟩
theorem to_go {j : Nat} (hu : LAt H l us) (hj : j ≤ us.length) (k : ∀ (p : Addr) (H' : Hp), H p = none → Same H H' → LAt H' p (us.take j) → Q (.ref p) H') : rSlL K (.ref l) none (some (j : Int)) H Q := by
  obtain ⟨ts, e1, P1⟩ := hu
  refine ⟨l, _, rfl, SqL.of e1, fun p hp => ?_⟩
  have S := Rz.Same.new (o := .lst (cutV (ts.map V.ref) none (some (j : Int)))) (Same.refl H) hp
  exact k p _ hp S ⟨ts.take j, by rw [upd_same, cutV_to (by rw [List.length_map, P1.length]; exact hj), List.map_take], (P1.take j).keep (Tups.of S)⟩
theorem from_go {i : Nat} {σ : L2.St} (hu : LAt H l us) (hi : i ≤ us.length) (k : ∀ (p : Addr) (H' : Hp), H p = none → Same H H' → LAt H' p (us.drop i) → Q (.ref p) H') : tNoPart σ H fun u H3 => rSlL K (.ref l) (some (i : Int)) u H3 Q := by
  obtain ⟨ts, e1, P1⟩ := hu
  refine ⟨l, _, rfl, SqL.of e1, fun p hp => ?_⟩
  have S := Rz.Same.new (o := .lst (cutV (ts.map V.ref) (some (i : Int)) none)) (Same.refl H) hp
  exact k p _ hp S ⟨ts.drop i, by rw [upd_same, cutV_from (by rw [List.length_map, P1.length]; exact hi), List.map_drop], (P1.drop i).keep (Tups.of S)⟩
theorem mid_go {i j : Nat} (hu : LAt H l us) (hij : i ≤ j) (hj : j ≤ us.length) (k : ∀ (p : Addr) (H' : Hp), H p = none → Same H H' → LAt H' p ((us.drop i).take (j - i)) → Q (.ref p) H') : rSlL K (.ref l) (some (i : Int)) (some (j : Int)) H Q := by
  obtain ⟨ts, e1, P1⟩ := hu
  refine ⟨l, _, rfl, SqL.of e1, fun p hp => ?_⟩
  have S := Rz.Same.new (o := .lst (cutV (ts.map V.ref) (some (i : Int)) (some (j : Int)))) (Same.refl H) hp
  exact k p _ hp S ⟨(ts.drop i).take (j - i), by rw [upd_same, cutV_nat hij (by rw [List.length_map, P1.length]; exact hj), List.map_take, List.map_drop], ((P1.drop i).take (j - i)).keep (Tups.of S)⟩
/-- list(xs) -/
theorem copy_go (hu : LAt H l us) (k : ∀ (p : Addr) (H' : Hp), H p = none → Same H H' → LAt H' p us → Q (.ref p) H') : rListS K [V.ref l] H Q := by
  obtain ⟨ts, e1, P1⟩ := hu
  unfold rListS
  refine ⟨l, _, rfl, SqL.of e1, fun p hp => ?_⟩
  have S := Rz.Same.new (o := .lst (ts.map V.ref)) (Same.refl H) hp
  exact k p _ hp S ⟨ts, upd_same, P1.keep (Tups.of S)⟩
/-- len(xs) of such a list -/
theorem len_go (hu : LAt H l us) (k : Q (.int (us.length : Nat)) H) : rLenS K [V.ref l] H Q := by
  obtain ⟨ts, e1, P1⟩ := hu
  unfold rLenS
  exact ⟨l, _, rfl, SqL.of e1, by rw [List.length_map, P1.length]; exact k⟩
end
theorem good_take {ps : List Pr} (h : GoodR ps) (n : Nat) : GoodR (ps.take n) := fun p hp => h p (List.mem_of_mem_take hp)
theorem good_drop {ps : List Pr} (h : GoodR ps) (n : Nat) : GoodR (ps.drop n) := fun p hp => h p (List.mem_of_mem_drop hp)
theorem good_cat {ps qs : List Pr} (h : GoodR ps) (g : GoodR qs) : GoodR (ps ++ qs) := fun p hp => (List.mem_append.mp hp).elim (h p) (g p)
theorem good_put {ps : List Pr} {p : Pr} (h : GoodR ps) (g : oddC p.1 = false ∧ 0 ≤ p.2 ∧ p.2 ≤ 9) (i : Nat) : GoodR (ps.set i p) := fun q hq => (List.mem_or_eq_of_mem_set hq).elim (h q) fun e => by rw [e]; exact g
end Rz
namespace Rz
open PySem PySem.Spec PyProof.Rows L2
/-! ### C(..), its wish by a name that is not opened -/
@[irreducible] def MkR (C : Addr) (sp : Sp) (dvs : List V) (E : XK) (vs : List V) (H : Hp) (Q : VK) : Prop := ∀ x dx, H x = none → H dx = none → dx ≠ x → sp (.ref x :: (vs ++ dvs)) (upd (upd H dx (.own x)) x (.ins C dx [])) (fun v H2 => v = .non ∧ Q (.ref x) H2) E
theorem mkR_eq {C : Addr} {sp : Sp} {dvs : List V} {E : XK} {vs : List V} {H : Hp} {Q : VK} : MkR C sp dvs E vs H Q = ∀ x dx, H x = none → H dx = none → dx ≠ x → sp (.ref x :: (vs ++ dvs)) (upd (upd H dx (.own x)) x (.ins C dx [])) (fun v H2 => v = .non ∧ Q (.ref x) H2) E := by
  unfold MkR
  rfl
def tMkR (C : Addr) (sp : Sp) (dvs : List V) (E : EX) (t : TA) : TE := fun σ H Q => t σ H fun vs H1 => MkR C sp dvs (E σ) vs H1 Q
theorem tMkR_eq {C : Addr} {sp : Sp} {dvs : List V} {E : EX} {t : TA} : tMkR C sp dvs E t = tMk C sp dvs E t := by
  funext σ H Q
  unfold tMkR tMk
  simp only [mkR_eq]
section
variable {X : Cx} {CX : CXT} {k : Nat} {f C : Addr} {fd : FuncData} {ps : List Str} {sp : Sp} {dvs : List V} {ds : List Value} {E : EX} {x : Str} {p pos : Pos} {e : Expr} {es : List Expr} {t : TA}
theorem pe_mkR (M : Mk X.K C f) (F : FnOk X.prog X.w X.K X.mg X.base CX k f fd ps sp) (hr : Room (k + 1) X.A) (hg : Gl X x) (hm : X.mg x = some (.ref C)) (hb : Binds X.K fd ps ds) (hd : Vals dvs ds) (hx : ∀ σ, PassesAt CX X σ (E σ))
    (ha : PA X (e :: es) t) (hdb : (x == ("__debug__" : Str)) = false := by decide) (he : starEach (e :: es) X.env = (false, eval e X.env) :: starEach es X.env := by rfl) (hpl : (backTo pos (starEach es X.env)).any (·.1) = false := by rfl) :
    PE X (.Call (.Name x p) (e :: es) [] pos) (tMkR C sp dvs E t) := by
  rw [tMkR_eq]
  exact pe_mk M F hr hg hm hb hd hx ha hdb he hpl
theorem pe_mkR0 (M : Mk X.K C f) (F : FnOk X.prog X.w X.K X.mg X.base CX k f fd ps sp) (hr : Room (k + 1) X.A) (hg : Gl X x) (hm : X.mg x = some (.ref C)) (hb : Binds X.K fd ps ds) (hd : Vals dvs ds) (hx : ∀ σ, PassesAt CX X σ (E σ))
    (hdb : (x == ("__debug__" : Str)) = false := by decide) : PE X (.Call (.Name x p) [] [] pos) (tMkR C sp dvs E tNil) := by
  rw [tMkR_eq]
  exact pe_mk0 M F hr hg hm hb hd hx hdb
end
end Rz
namespace Rz
open PySem PySem.Spec PyProof.Rows L2
theorem drT {H H' : Hp} {d : Addr} (D : Dr H d) (B : But [d] H H') : Tups H H' := Tups.but B fun b hb xs e => by
  have e2 : b = d := by simpa using hb
  obtain ⟨ns, q, _⟩ := D
  rw [e2, q] at e
  cases e
theorem evC {c : Nat} (h : c ∈ abc.cps.toList) : oddC c = false := by
  unfold oddC
  rw [decide_eq_true h]
  rfl
end Rz

namespace Rz
open PySem PySem.Spec PyProof.Rows L2
/-! ### calls of instances of an own class with __call__ -/
section
variable {X : Cx} {CX : CXT} {k n : Nat} {g C : Addr} {fd : FuncData} {ps ks : List Str} {sp : Sp} {dvs : List V} {ds : List Value} {E : EX} {pos : Pos} {e fe : Expr} {es : List Expr} {kws : List Keyword} {tf : TE} {t tk : TA} {gg : List Value → List Value → List Value} {gV : List V → List V → List V}
def tInst (C : Addr) (sp : Sp) (dvs : List V) (E : EX) (tf : TE) (t : TA) : TE := fun σ H Q => tf σ H fun y H1 => ∃ a, y = V.ref a ∧ t σ H1 fun vs H2 => (∃ dx fs, H2 a = some (.ins C dx fs)) ∧ sp (V.ref a :: (vs ++ dvs)) H2 Q (E σ)
theorem pe_inst (c : StX.CallO X.K C g) (F : FnOk X.prog X.w X.K X.mg X.base CX k g fd ps sp) (hr : Room k X.A) (hb : Binds X.K fd ps ds) (hd : Vals dvs ds) (hx : ∀ σ, PassesAt CX X σ (E σ)) (hf : PE X fe tf) (ha : PA X (e :: es) t)
    (ht : eval (.Call fe (e :: es) [] pos) X.env = (do callWith pos (← eval fe X.env) [] (backTo pos (starEach (e :: es) X.env)) (backToKw pos (keywordEach [] X.env))) := by rfl)
    (he : starEach (e :: es) X.env = (false, eval e X.env) :: starEach es X.env := by rfl) (hpl : (backTo pos (starEach es X.env)).any (·.1) = false := by rfl) : PE X (.Call fe (e :: es) [] pos) (tInst C sp dvs E tf t) := by
  refine ⟨fun pins s σ H Q I h => ?_⟩
  refine Call_ (thn (hf.run pins s σ H _ I h) fun u s1 ⟨y, H1, I1, ry, a, ey, q⟩ => ?_) ht
  subst ey
  obtain rfl : u = Value.ref a := ry
  refine StX.callO_with (thn (ha.run pos pins s1 σ H1 _ I1 q) fun us s2 ⟨vs, H2, I2, r, ⟨dx, fs, hi⟩, q2⟩ => ?_) he hpl
  obtain ⟨ox, od, J, hpd⟩ := StX.insC_at I2 (.inr ⟨dx, fs, hi⟩)
  exact ⟨⟨C, ox, od, J, hpd⟩, wpAny_call (PySem.W.kco_code I2.kIn J hpd c.at_ c.fn c.fi (codeAny_mono (run_X (us := .ref a :: us) (vs := .ref a :: vs) F hr rfl hb hd (hx σ) I2 (.cons rfl r) q2) fun _ _ hq => ended hq))⟩
theorem callO_kw {M : Model} {A : Around} {E : Value → Shared → Prop} {s : Shared} {a : Addr} {Q : Value → Shared → Prop} {args : List (Bool × Sem Value)} {kw : List (Option Str × Sem Value)} (hplain : (args.any (·.1) || kw.any (·.1.isNone)) = false)
    (h : wpAny M A (evalArgs (.ref a) true args kw) (fun z s₁ => (∃ C ox od, PySem.W.InstAt s₁.heap a ox C od ∧ ox.data = .plain) ∧ wpAny M A (call (.ref a) ([] ++ z.pos) z.kw) Q E s₁) E s) : wpAny M A (callWith pos (.ref a) [] args kw) Q E s := by
  unfold callWith
  refine wpAny_bind (wpAny_holding (wpAny_mono h (fun z s₁ h₁ => wpAny_bind (wpAny_standAt ?_)) fun _ _ y => y))
  obtain ⟨⟨C, ox, od, J, hpd⟩, h₂⟩ := h₁
  have L := PySem.W.kco_keeper (M := M) J hpd
  simp only [hplain]
  refine wpAny_bind (L.here ?_)
  have fin : ∀ {t : Sem Value}, wpAny M A t Q E s₁ → wpAny M A (t >>= fun r => holding [r] point >>= fun _ => pure r) Q E s₁ :=
    fun hq => wpAny_bind (wpAny_mono hq (fun r s₂ hr => wpAny_bind (wpAny_holding (wpAny_point (wpAny_pure hr)))) fun _ _ y => y)
  exact fin (wpAny_operateT h₂)
/-- f(e, .., k = v) of an instance -/
def tInstK (C : Addr) (n m : Nat) (sp : Sp) (gV : List V → List V → List V) (E : EX) (tf : TE) (t tk : TA) : TE := fun σ H Q => tf σ H fun y H1 => ∃ a, y = V.ref a ∧ t σ H1 fun vs H2 => tk σ H2 fun zs H3 => (∃ dx fs, H3 a = some (.ins C dx fs)) ∧ vs.length + 1 = n ∧ zs.length = m ∧ sp (gV (V.ref a :: vs) zs) H3 Q (E σ)
theorem pe_instK (c : StX.CallO X.K C g) (F : FnOk X.prog X.w X.K X.mg X.base CX k g fd ps sp) (hr : Room k X.A) (hb : KBn X.K fd ps n ks gg gV) (hx : ∀ σ, PassesAt CX X σ (E σ)) (hf : PE X fe tf) (ha : PA X (e :: es) t) (hkw : PK X kws tk)
    (ht : eval (.Call fe (e :: es) kws pos) X.env = (do callWith pos (← eval fe X.env) [] (backTo pos (starEach (e :: es) X.env)) (backToKw pos (keywordEach kws X.env))) := by rfl)
    (hall : (backToKw pos (keywordEach kws X.env)).all (·.1.isSome) = true := by rfl) (hks : (backToKw pos (keywordEach kws X.env)).filterMap (·.1) = ks := by rfl)
    (he : starEach (e :: es) X.env = (false, eval e X.env) :: starEach es X.env := by rfl) (hpl : ((backTo pos (starEach (e :: es) X.env)).any (·.1) || (backToKw pos (keywordEach kws X.env)).any (·.1.isNone)) = false := by rfl) :
    PE X (.Call fe (e :: es) kws pos) (tInstK C n ks.length sp gV E tf t tk) := by
  refine ⟨fun pins s σ H Q I h => ?_⟩
  rw [ht]
  refine wpAny_bind (thn (hf.run pins s σ H _ I h) fun u s1 ⟨y, H1, I1, ry, a, ey, q⟩ => ?_)
  subst ey
  obtain rfl : u = Value.ref a := ry
  refine callO_kw hpl (evalArgs_kw2 hall (thn (ha.run pos pins s1 σ H1 _ I1 q) fun us s2 ⟨vs, H2, I2, r, q2⟩ => thn (hkw.run pos pins s2 σ H2 _ I2 q2) fun ws s3 ⟨zs, H3, I3, rz, ⟨dx, fs, hi⟩, l1, l2, q3⟩ => ?_) he)
  obtain ⟨ox, od, J, hpd⟩ := StX.insC_at I3 (.inr ⟨dx, fs, hi⟩)
  refine ⟨⟨C, ox, od, J, hpd⟩, wpAny_call (PySem.W.kco_code I3.kIn J hpd c.at_ c.fn c.fi ?_)⟩
  rw [hks]
  have ra : Vals (V.ref a :: vs) (Value.ref a :: us) := .cons rfl r
  refine codeAny_mono (F.run X.A X.stack s3 H3 ⟨.ref a :: us, ks.zip ws⟩ (gg (.ref a :: us) ws) (gV (.ref a :: vs) zs) Q (E σ) hr I3.env0 (hb.to s3 _ ws I3.kIn (by rw [List.length_cons, ← r.length]; exact l1) (rz.length.symm.trans l2)) (hb.rel ra rz) q3) fun q s' hq => ?_
  match q, hq with
  | .error er, hq => exact hx σ pins H3 s3 er s' I3 hq
  | .ok (.ret u), hq => exact I3.after hq
  | .ok .next, hq => exact False.elim hq
  | .ok .brk, hq => exact False.elim hq
  | .ok .cont, hq => exact False.elim hq
end
/-- how keywords bind to a def with defaults and no keyword-only parameter -/
theorem kbinds1 {K : PySem.W.Frag} {x qual : Str} {params : Arguments} {body : List Stmt} {scope : Scope} {dvs : List V} {kws : List (Str × V)} {f : Addr} {fd : FuncData} {ps : List Str} (F : FunD K x qual params body scope dvs kws f fd) (n : Nat) (ks : List Str) (g : {α : Type} → List α → List α → List α → List α) (hd : dvs ≠ [])
    (hrel : ∀ {vs dv zs : List V} {us its ws : List Value}, Vals vs us → Vals dv its → Vals zs ws → Vals (g vs dv zs) (g us its ws))
    (h : ∀ (T : Addr) (kV doc pm : Value) (an : Option Addr) (cdv ct : Value) (us its ws : List Value), us.length = n → its.length = dvs.length → ws.length = ks.length →
      ∃ k, bindArgs (PySem.W.fnOf x qual params body scope (.ref T) kV doc pm an cdv ct) ⟨us, ks.zip ws⟩ = seqItems? (.ref T) >>= k ∧ k (some its.toArray) = pure (ps.zip (g us its ws))) : ∃ its : List Value, KBn K fd ps n ks (fun us ws => g us its ws) (fun vs zs => g vs dvs zs) := by
  obtain ⟨oc, od, dV, kV, doc, pm, an, cdv, ct, osl, rfl, lk, hcd, hD, hK⟩ := F.ex
  rcases hD with ⟨e, _⟩ | ⟨_, T, o, its, m, rfl, lT, oT, rT⟩
  · exact absurd e hd
  · refine ⟨its, ⟨fun s us ws X l1 l2 => ?_, fun r1 r2 => hrel r1 rT r2⟩⟩
    obtain ⟨k, e1, e2⟩ := h T kV doc pm an cdv ct us its ws l1 rT.length.symm l2
    exact PySem.W.binds_K X rfl lT oT e1 e2
end Rz
namespace Rz
open PySem PySem.Spec PyProof.Rows L2
theorem fn_inD {x qual : Str} {params : Arguments} {body : List Stmt} {scope : Scope} {dvs : List V} {kws : List (Str × V)} {g : Addr} {K : PySem.W.Frag} {gd : FuncData} (F : FunD K x qual params body scope dvs kws g gd) : PySem.W.fnIn K g = true := by
  obtain ⟨_, _, _, _, _, _, _, _, _, _, _, lk, _⟩ := F.ex
  unfold PySem.W.fnIn
  rw [lk]
end Rz

namespace Rz
open PySem PySem.Spec PyProof.Rows L2
/-! ### a step of a rule, as lists -/
/-- l stands in cs from i on -/
def fitAt (cs l : List Nat) (i : Int) : Bool := decide (0 ≤ i) && ((cs.drop i.toNat).take l.length == l)
theorem fit_iff {cs l : List Nat} {i : Int} : fitAt cs l i = true ↔ 0 ≤ i ∧ (cs.drop i.toNat).take l.length = l := by
  unfold fitAt
  rw [Bool.and_eq_true, decide_eq_true_iff, beq_iff_eq]
theorem fit_len {cs l : List Nat} {i : Int} (h : fitAt cs l i = true) (hl : l ≠ []) : i.toNat + l.length ≤ cs.length := by
  have e := congrArg List.length (fit_iff.mp h).2
  rw [List.length_take, List.length_drop] at e
  have : 0 < l.length := List.length_pos_iff.mpr hl
  omega
theorem starts_fit {x l : Str} {i : Int} (h0 : 0 ≤ i) (hl : l.cps.toList ≠ []) : Txt.startswith3 x l i = fitAt x.cps.toList l.cps.toList i := by
  unfold Txt.startswith3
  have e1 : PySem.fromIndex x.length i = i.toNat := by
    unfold PySem.fromIndex
    rw [if_neg (by omega)]
    omega
  rw [e1, PySem.StrLaws.subAt_eq]
  unfold fitAt
  rw [decide_eq_true h0, Bool.true_and]
  show (decide (i.toNat + l.length ≤ x.length) && ((x.cps.toList.drop i.toNat).take l.length == l.cps.toList)) = ((x.cps.toList.drop i.toNat).take l.length == l.cps.toList)
  cases e : ((x.cps.toList.drop i.toNat).take l.length == l.cps.toList) with
  | false => rw [Bool.and_false]
  | true =>
    have := fit_len (cs := x.cps.toList) (l := l.cps.toList) (i := i) (fit_iff.mpr ⟨h0, beq_iff_eq.mp e⟩) hl
    rw [decide_eq_true (show i.toNat + l.length ≤ x.length from this), Bool.true_and]
/-- the least number of a list -/
def leastL : List Int → Int
  | [] => 0
  | n :: r => r.foldl min n
theorem foldl_min : ∀ (r : List Int) (n : Int), (r.foldl min n = n ∨ r.foldl min n ∈ r) ∧ r.foldl min n ≤ n ∧ ∀ y ∈ r, r.foldl min n ≤ y
  | [], n => ⟨.inl rfl, Int.le_refl _, fun y h => by cases h⟩
  | x :: r, n => by
    obtain ⟨a, b, c⟩ := foldl_min r (min n x)
    refine ⟨?_, Int.le_trans b (Int.min_le_left ..), fun y hy => ?_⟩
    · rcases a with a | a
      · show (r.foldl min (min n x) = n) ∨ (r.foldl min (min n x) ∈ x :: r)
        rw [a]
        by_cases h : n ≤ x
        · exact .inl (Int.min_eq_left h)
        · right
          rw [Int.min_eq_right (by omega)]
          exact List.mem_cons_self
      · exact .inr (List.mem_cons_of_mem _ a)
    · rcases List.mem_cons.mp hy with rfl | hy
      · exact Int.le_trans b (Int.min_le_right ..)
      · exact c y hy
theorem leastL_eq {ns : List Int} {m : Int} (h : m ∈ ns) (hall : ∀ y ∈ ns, m ≤ y) : m = leastL ns := by
  cases ns with
  | nil => cases h
  | cons n r =>
    obtain ⟨a, b, c⟩ := foldl_min r n
    show m = r.foldl min n
    have h1 : m ≤ r.foldl min n := by
      rcases a with a | a
      · rw [a]
        exact hall n List.mem_cons_self
      · exact hall _ (List.mem_cons_of_mem _ a)
    have h2 : r.foldl min n ≤ m := by
      rcases List.mem_cons.mp h with rfl | h
      · exact b
      · exact c m h
    omega
theorem leastL_mem {ns : List Int} (h : ns ≠ []) : leastL ns ∈ ns := by
  cases ns with
  | nil => exact absurd rfl h
  | cons n r =>
    obtain ⟨a, _, _⟩ := foldl_min r n
    show r.foldl min n ∈ n :: r
    rcases a with a | a
    · rw [a]
      exact List.mem_cons_self
    · exact List.mem_cons_of_mem _ a
/-- the least height of the n pairs from i on -/
def leastAt (ps : List Pr) (i n : Nat) : Int := leastL (hts ((ps.drop i).take n))
theorem leastAt_good {ps : List Pr} {i n : Nat} (g : GoodR ps) (h : i + n ≤ ps.length) (hn : 0 < n) : 0 ≤ leastAt ps i n ∧ leastAt ps i n ≤ 9 := by
  have ne : hts ((ps.drop i).take n) ≠ [] := fun z => by
    have := congrArg List.length z
    rw [hts_len, List.length_take, List.length_drop, List.length_nil] at this
    omega
  have m := leastL_mem ne
  unfold hts at m
  obtain ⟨p, hp, e⟩ := List.mem_map.mp m
  have := (g p (List.mem_of_mem_drop (List.mem_of_mem_take hp))).2
  unfold leastAt hts
  rw [← e]
  exact this
/-- the pairs that the step writes -/
def fresh (r : List Nat) (h : Int) : List Pr := r.map fun c => (c, h)
theorem fresh_len (r : List Nat) (h : Int) : (fresh r h).length = r.length := List.length_map ..
theorem fresh_good {r : List Nat} {h : Int} (hr : ∀ c ∈ r, oddC c = false) (h0 : r ≠ [] → 0 ≤ h ∧ h ≤ 9) : GoodR (fresh r h) := fun p hp => by
  unfold fresh at hp
  obtain ⟨c, hc, rfl⟩ := List.mem_map.mp hp
  exact ⟨hr c hc, h0 (List.ne_nil_of_mem hc)⟩
theorem zip_rep (r : List Nat) (h : Int) : r.zip (List.replicate r.length h) = fresh r h := by
  unfold fresh
  induction r with
  | nil => rfl
  | cons c r ih =>
    rw [List.length_cons, List.replicate_succ, List.zip_cons_cons, ih]
    rfl
/-- the row after the step -/
def stepTo (ps : List Pr) (l r : List Nat) (i : Nat) : List Pr := ps.take i ++ fresh r (1 + leastAt ps i l.length) ++ ps.drop (i + l.length)
theorem fo_even {z : Str} (h : fo z = none) : ∀ c ∈ z.cps.toList, oddC c = false := fun c hc => by
  have := List.findIdx?_eq_none_iff.mp h c hc
  simpa using this
theorem rr_fresh {z : Str} {h : Int} (hz : fo z = none) (h0 : z.cps.toList ≠ [] → 0 ≤ h ∧ h ≤ 9) : rr z (List.replicate z.length h) = .row := by
  unfold rr
  rw [hz]
  dsimp only
  rw [if_neg (by rw [List.length_replicate]; simp)]
  have e : (List.replicate z.length h).find? badH = none := by
    rw [List.find?_eq_none]
    intro n hn
    obtain ⟨hne, rfl⟩ := List.mem_replicate.mp hn
    have h1 := h0 (fun e => hne (by
      have : z.cps.toList.length = 0 := by rw [e]; rfl
      rw [len_list] at this
      exact this))
    unfold badH
    simp
    omega
  rw [e]
theorem nodup_le : ∀ {xs z : List Nat}, xs.Nodup → (∀ x ∈ xs, x ∈ z) → xs.length ≤ z.length
  | [], z, _, _ => Nat.zero_le _
  | x :: xs, z, nd, h => by
    have hx := h x List.mem_cons_self
    have nd2 := List.nodup_cons.mp nd
    have ih := nodup_le (xs := xs) (z := z.erase x) nd2.2 fun y hy => (List.mem_erase_of_ne (fun e => nd2.1 (by rw [← e]; exact hy))).mpr (h y (List.mem_cons_of_mem _ hy))
    rw [List.length_erase_of_mem hx] at ih
    have : 0 < z.length := List.length_pos_of_mem hx
    rw [List.length_cons]
    omega
end Rz

namespace Rz
open PySem PySem.Spec PyProof.Rows L2
/-! ### making an instance whose __init__ has a star; class methods -/
section
variable {P : Program} {w : World} {K : PySem.W.Frag} {mg : Str → Option Value} {base : Heap} {CX : CXT} {k : Nat} {f : Addr} {fd : FuncData} {ps : List Str} {sp : Sp}
/-- the promise of a def that is called by position -/
theorem fnr_of (F : FnOk P w K mg base CX k f fd ps sp) (hb : Binds K fd ps []) : FnR P w K mg base CX k f sp := by
  intro A outer s H us vs Q E hr e0 r h
  have hl : us.length = ps.length := r.length.symm.trans (F.len _ _ _ _ h)
  have hbb := hb s us (e0.mod.kin.keeps fun b o e => (e0.bs b o e).1) (by rw [List.append_nil]; exact hl)
  rw [List.append_nil] at hbb
  exact F.run A outer s H ⟨us, []⟩ us vs Q E hr e0 hbb r h
end
/-- a new instance, by a positional promise of __init__ -/
@[irreducible] def MkS (C : Addr) (sp : Sp) (E : XK) (vs : List V) (H : Hp) (Q : VK) : Prop := ∀ x dx, H x = none → H dx = none → dx ≠ x →
  sp (V.ref x :: vs) (upd (upd H dx (.own x)) x (.ins C dx [])) (fun v H2 => v = .non ∧ Q (.ref x) H2) E
theorem mkS_eq {C : Addr} {sp : Sp} {E : XK} {vs : List V} {H : Hp} {Q : VK} : MkS C sp E vs H Q = ∀ x dx, H x = none → H dx = none → dx ≠ x →
  sp (V.ref x :: vs) (upd (upd H dx (.own x)) x (.ins C dx [])) (fun v H2 => v = .non ∧ Q (.ref x) H2) E := by
  unfold MkS
  rfl
def tMkS (C : Addr) (sp : Sp) (E : EX) (t : TA) : TE := fun σ H Q => t σ H fun vs H1 => MkS C sp (E σ) vs H1 Q
def tMkSL (i : Nat) (C : Addr) (sp : Sp) (E : EX) (t : TA) : TE := fun σ H Q => σ[i]? = some (some (.ref C)) ∧ t σ H fun vs H1 => MkS C sp (E σ) vs H1 Q
/-- C.m(..), m a classmethod -/
def tCm (C : Addr) (sp : Sp) (E : EX) (ta : TE) (t : TA) : TE := fun σ H Q => ta σ H fun x H1 => x = .ref C ∧ t σ H1 fun vs H2 => sp (.ref C :: vs) H2 Q (E σ)
section
variable {X : Cx} {CX : CXT} {k i : Nat} {f C : Addr} {sp : Sp} {E : EX} {x m : Str} {e o : Expr} {es : List Expr} {te ta : TE} {t : TA} {p pos sp_ apos : Pos} {q g : Addr} {mc : Value}
theorem run_fnRA {pins : List (Addr × Obj)} {σ : L2.St} {H : Hp} {s : Shared} {Q : VK} {E : XK} {us : List Value} {vs : List V} (F : FnR X.prog X.w X.K X.mg X.base CX k f sp) (hr : Room k X.A) (hx : PassesAt CX X σ E) (I : Inv X pins σ H s) (r : Vals vs us) (h : sp vs H Q E) :
    codeAny (model X.prog X.w) X.A (.call (.ref f) ⟨us, []⟩) (fun r s' => match r with | .ok (.ret v) => EP X pins σ Q v s' | .ok _ => False | .error e => X.xe e s') s := by
  refine codeAny_mono (F X.A X.stack s H us vs Q E hr I.env0 r h) fun q s' hq => ?_
  match q, hq with
  | .error er, hq => exact hx pins H s er s' I hq
  | .ok (.ret u), hq => exact I.after hq
  | .ok .next, hq => exact False.elim hq
  | .ok .brk, hq => exact False.elim hq
  | .ok .cont, hq => exact False.elim hq
theorem run_mkS {pins : List (Addr × Obj)} {σ : L2.St} {H : Hp} {s : Shared} {Q : VK} {E : XK} {us : List Value} {vs : List V} (M : Mk X.K C f) (F : FnR X.prog X.w X.K X.mg X.base CX k f sp) (hr : Room (k + 1) X.A) (hx : PassesAt CX X σ E) (I : Inv X pins σ H s) (r : Vals vs us)
    (h : MkS C sp E vs H Q) : wpAny (model X.prog X.w) X.A (call (.ref C) us) (EP X pins σ Q) X.xe s := by
  rw [mkS_eq] at h
  have hq := h (s.heap.objs.size + 1) s.heap.objs.size (I.hok.fresh (Nat.le_succ _)) (I.hok.fresh (Nat.le_refl _)) (Nat.ne_of_lt (Nat.lt_succ_self _))
  have I2 := Inv.made (C := C) I
  have r2 : Vals (V.ref (s.heap.objs.size + 1) :: vs) (Value.ref (s.heap.objs.size + 1) :: us) := .cons rfl r
  refine wpAny_call (make_map (f := f) I.kIn M.makes M.init (beq_iff_eq.mp M.fn) (codeAny_mono (F _ X.stack _ _ (Value.ref (s.heap.objs.size + 1) :: us) _ _ E (hr.make C us []) (I2.env0.make C us []) r2 hq) fun r s' hq' => ?_))
  cases r with
  | error e => exact hx pins _ _ e s' I2 hq'
  | ok fl =>
    cases fl with
    | ret u =>
      obtain ⟨v, H', I3, rv, ev, q3⟩ := I2.after hq'
      subst ev
      exact ⟨rv, ⟨V.ref (s.heap.objs.size + 1), H', I3, rfl, q3⟩⟩
    | next => exact False.elim hq'
    | brk => exact False.elim hq'
    | cont => exact False.elim hq'
theorem pe_mkS (M : Mk X.K C f) (F : FnR X.prog X.w X.K X.mg X.base CX k f sp) (hr : Room (k + 1) X.A) (hg : Gl X x) (hm : X.mg x = some (.ref C)) (hx : ∀ σ, PassesAt CX X σ (E σ)) (ha : PA X (e :: es) t) (hdb : (x == ("__debug__" : Str)) = false := by decide)
    (he : starEach (e :: es) X.env = (false, eval e X.env) :: starEach es X.env := by rfl) (hpl : (backTo pos (starEach es X.env)).any (·.1) = false := by rfl) : PE X (.Call (.Name x p) (e :: es) [] pos) (tMkS C sp E t) := ⟨fun pins s σ H Q I h =>
  wpAny_Call_Name_kw (ld_glob I hg hm (PySem.W.callWith_K (h₀ := X.base) I.ok.mod.kin M.kp (thn (ha.run pos pins s σ H _ I h) fun us s1 ⟨vs, H1, J, r, q⟩ => ⟨J.kIn, run_mkS M F hr (hx σ) J r q⟩) he hpl) hdb)⟩
theorem pe_mkS0 (M : Mk X.K C f) (F : FnR X.prog X.w X.K X.mg X.base CX k f sp) (hr : Room (k + 1) X.A) (hg : Gl X x) (hm : X.mg x = some (.ref C)) (hx : ∀ σ, PassesAt CX X σ (E σ)) (hdb : (x == ("__debug__" : Str)) = false := by decide) :
    PE X (.Call (.Name x p) [] [] pos) (tMkS C sp E tNil) := ⟨fun pins s σ H Q I h =>
  wpAny_Call_Name_kw (ld_glob I hg hm (PySem.W.callWith_K0 I.kIn M.kp (run_mkS (us := []) M F hr (hx σ) I .nil h)) hdb)⟩
/-- x() where the local x is the class -/
theorem pe_mkSL0 (M : Mk X.K C f) (F : FnR X.prog X.w X.K X.mg X.base CX k f sp) (hr : Room (k + 1) X.A) (hN : X.N[i]? = some x) (hv : Vis X.env.scope x) (hx : ∀ σ, PassesAt CX X σ (E σ))
    (hdb : (x == ("__debug__" : Str)) = false := by decide) (hcd : (x == ("__classdict__" : Str)) = false := by decide) : PE X (.Call (.Name x p) [] [] pos) (tMkSL i C sp E tNil) := by
  refine ⟨fun pins s σ H Q I h => ?_⟩
  obtain ⟨hs, ht⟩ := h
  refine wpAny_Call_Name_kw (thn ((pe_var (pos := p) hN hv hdb hcd).run pins s σ H (fun v H1 => v = .ref C ∧ H1 = H) I ⟨.ref C, hs, rfl, rfl⟩) fun u s1 ⟨v, H1, I1, r1, q1⟩ => ?_)
  obtain ⟨rfl, rfl⟩ := q1
  cases r1
  exact PySem.W.callWith_K0 I1.kIn M.kp (run_mkS (us := []) M F hr (hx σ) I1 .nil ht)
/-- x(*y) where the local x is the class -/
theorem pe_mkSLs (M : Mk X.K C f) (F : FnR X.prog X.w X.K X.mg X.base CX k f sp) (hr : Room (k + 1) X.A) (hN : X.N[i]? = some x) (hv : Vis X.env.scope x) (hx : ∀ σ, PassesAt CX X σ (E σ)) (he : PE X e te)
    (hdb : (x == ("__debug__" : Str)) = false := by decide) (hcd : (x == ("__classdict__" : Str)) = false := by decide) (hst : starEach [.Starred e sp_] X.env = [(true, eval e X.env)] := by rfl) :
    PE X (.Call (.Name x p) [.Starred e sp_] [] pos) (tMkSL i C sp E fun σ H Q => te σ H fun y H1 => ∃ a xs, y = V.ref a ∧ (SqT X.K H1 a xs ∨ SqL X.K H1 a xs) ∧ Q xs H1) := by
  refine ⟨fun pins s σ H Q I h => ?_⟩
  obtain ⟨hs, ht⟩ := h
  refine wpAny_Call_Name_kw (thn ((pe_var (pos := p) hN hv hdb hcd).run pins s σ H (fun v H1 => v = .ref C ∧ H1 = H) I ⟨.ref C, hs, rfl, rfl⟩) fun u s1 ⟨v, H1, I1, r1, q1⟩ => ?_)
  obtain ⟨rfl, rfl⟩ := q1
  cases r1
  refine PySem.W.callWith_S (h₀ := X.base) I.ok.mod.kin M.kp (thn (he.run pins s1 σ _ _ I1 ht) fun v s2 ⟨y, H2, I2, ry, a, xs, ey, hxs, q⟩ => ?_) hst
  subst ey
  obtain rfl : v = Value.ref a := ry
  exact StX.star_any I2 hxs fun us s3 I3 rv => ⟨I3.kIn, run_mkS M F hr (hx σ) I3 rv q⟩
theorem pe_cm {pl : Sem Bool} (he : PE X o ta) (r : ClX.CRead X.K C mc) (c : ClX.CMet X.K C mc m q g) (F : FnR X.prog X.w X.K X.mg X.base CX k g sp) (hr : Room k X.A) (hx : ∀ σ, PassesAt CX X σ (E σ)) (ha : PA X (e :: es) t)
    (hst : starEach (e :: es) X.env = (false, eval e X.env) :: starEach es X.env := by rfl) (hpl : (backTo pos (starEach es X.env)).any (·.1) = false := by rfl)
    (ht : eval (.Call (.Attribute o m apos) (e :: es) [] pos) X.env = (do
      let ov ← eval o X.env
      standAt apos.atName
      let (f, first) ← holding [ov] (getMethod ov m pl)
      callWith pos f first (backTo pos (starEach (e :: es) X.env)) (backToKw pos (keywordEach [] X.env))) := by rfl) :
    PE X (.Call (.Attribute o m apos) (e :: es) [] pos) (tCm C sp E ta t) := by
  refine ⟨fun pins s σ H Q I h => ?_⟩
  refine PySem.W.methodCall_KW (pl := pl) (thn (he.run pins s σ H _ I h) fun u s1 ⟨x, H1, I1, rx, ex, q⟩ => ?_) ht
  subst ex
  obtain rfl : u = Value.ref C := rx
  refine ClX.getmethcm_ok I1 r c fun s2 I2 => ?_
  refine ClX.callwith_cm I2 (ClX.base_none I1 (Nat.le_refl _)) c.fi (thn (ha.run pos _ s2 σ H1 _ I2 q) fun us s3 ⟨vs, H2, I3, rv, q2⟩ => ⟨⟨ClX.pin_at I3, I3.kIn⟩, ?_⟩) hst hpl
  have z : wpAny (model X.prog X.w) X.A (call (.ref _) us) (EP X ((_, PySem.W.methodObj (.ref g) (.ref C)) :: pins) σ Q) X.xe s3 :=
    wpAny_call (PySem.W.method_call (ClX.pin_at I3) (run_fnRA (us := .ref C :: us) (vs := .ref C :: vs) F hr (hx σ) I3 (.cons rfl rv) q2))
  exact thn z fun _ _ y => ClX.unpinE y
end
end Rz

namespace Rz
open PySem PySem.Spec PyProof.Rows L2
/-! ### iter(t) of a tuple; a comprehension over an own class whose __iter__ gives it -/
/-- at it a tuple's iterator that has not begun -/
def ItT (t it : Addr) : HO := .ext fun h => h.IsTupleIter it t 0
theorem itT_ok {P : Program} {w : World} {H : Hp} {h : Heap} {t it : Addr} (e : h.IsTupleIter it t 0) : ObjOk P w H h it (ItT t it) :=
  ⟨e, let ⟨o, ho, _⟩ := e; ⟨o, ho⟩, fun h1 h2 q k => let ⟨o, ho, r⟩ := q; ⟨o, k _ ho, r⟩⟩
section
variable {prog : Program} {w : World} {A : Around} {E : Value → Shared → Prop} {s : Shared} {t : Addr} {items : Array Value}
theorem iter_tup {Q : Value → Shared → Prop} (hl : s.heap.IsTuple t items) (h : Q (.ref s.heap.objs.size) { s with heap := s.heap.push { cls := .type "tuple_iterator", data := .fields #[.ref t, .int 0 0] } }) : wpAny (model prog w) A (call (.builtin "iter") [.ref t]) Q E s := by
  refine Calls.call_function_entry (by decide +kernel) (by decide +kernel) PySem.W.kdk_entry_iter (PySem.W.kdk_args_iter _) ?_
  unfold Builtin.«iter»
  refine wpAny_bind (m := someArgs "iter" 1 2 _) (wpAny_of_eq (a := [Value.ref t]) (by first | rfl | kernel_rfl!) ?_)
  show wpAny _ _ (pyIter (.ref t) >>= _) _ _ _
  refine wpAny_bind (wpAny_pyIter_tuple hl ?_)
  exact wpAny_pure ⟨_, rfl, h⟩
end
def rIterT (K : PySem.W.Frag) (n : Nat) : List V → Hp → VK → Prop := fun xs H Q => ∃ (t : Addr) (zs : List V), xs = [.ref t] ∧ SqT K H t zs ∧ ∀ it, H it = none → n ≤ it → Q (.ref it) (upd H it (ItT t it))
section
variable {X : Cx}
theorem call_iterT : CallR X (.builtin "iter") (rIterT X.K X.s_0.heap.objs.size) := by
  intro pins s σ H xs us Q I r h
  obtain ⟨l, zs, rfl, hq, q⟩ := h
  obtain ⟨u, rfl, ru⟩ := vals1 r
  cases ru
  obtain ⟨its, rv, pl, hz⟩ := I.tuple hq
  refine iter_tup (show s.heap.IsTuple l its.toArray from pl) ?_
  exact ⟨.ref s.heap.objs.size, _, I.laid (t' := s.toks) (fun b u e => Heap.get?_push_of_some _ e) (Nat.le_refl _) (itT_ok ⟨_, Heap.get?_push_size _ rfl, rfl, rfl⟩), rfl, q _ (I.hok.fresh (Nat.le_refl _)) I.sz⟩
end
/-- the def gives a new iterator of the tuple at t -/
def IterOk (P : Program) (w : World) (K : PySem.W.Frag) (mg : Str → Option Value) (base : Heap) (k : Nat) (f : Addr) (pre : Addr → Addr → Hp → Prop) : Prop :=
  ∀ (A : Around) (outer : List Env) (s : Shared) (H : Hp) (a t : Addr), Room k A → Env0 P w K mg base A outer s H → pre a t H →
    codeAny (model P w) A (.call (.ref f) ⟨[.ref a], []⟩) (fun q s' => match q with
      | .ok (.ret u) => CE outer P w H s (fun v H' => ∃ it, v = .ref it ∧ s.heap.objs.size ≤ it ∧ H it = none ∧ H' = upd H it (ItT t it)) u s'
      | .ok _ => False
      | .error e => L2.CX P w outer H s E0 e s') s
theorem iter_of {P : Program} {w : World} {K : PySem.W.Frag} {mg : Str → Option Value} {base : Heap} {k : Nat} {x qual : Str} {st : Stmt} {f : Addr} {fd : FuncData} {N ps : List Str} {pre : Addr → Addr → Hp → Prop} {e : Expr} {p2 : Pos} (F : Fun K x qual st f fd) (S : FnScope N ps (defScope st))
    (hb : Binds K fd ps []) (hl : ps.length = 1) (hst : defBody st = [.Return (some e) p2])
    (hbody : ∀ (cdv : Value) (A : Around) (outer : List Env) (s : Shared) (H : Hp) (a t : Addr), Room k (A.deeper (envOfC qual (defScope st) s.heap.objs.size f cdv)) → pre a t H →
      ∃ te, PE (cxOf (L2.CX P w) P w K mg base N qual (defScope st) f cdv A outer s H E0) e te ∧ te (start N [.ref a]) H (fun v H' => ∃ it, v = .ref it ∧ s.heap.objs.size ≤ it ∧ H it = none ∧ H' = upd H it (ItT t it))) : IterOk P w K mg base (k + 1) f pre := by
  intro A outer s H a t hr e0 hpre
  have KX : K.In s.heap := e0.mod.kin.keeps fun b o e => (e0.bs b o e).1
  have hbb := hb s [.ref a] KX (by rw [List.append_nil]; exact hl.symm)
  rw [List.append_nil] at hbb
  obtain ⟨oc, od, kV, doc, pm, an, cdv, ct, osl, rfl, lk, hcd⟩ := F.ex
  have lim : s.heap.NoLimit := e0.mod.nolimit.keeps fun b o e => (e0.bs b o e).1
  have hkind : ∀ y ∈ ps.zip [Value.ref a], (defScope st).names.lookup y.1 = some .local ∨ ((defScope st).names.lookup y.1 = some .cell ∧ ((cellsFrom (s.heap.objs.size + 1) (defScope st).names []).lookup y.1).isSome = true) := fun ⟨n, v⟩ hy => by
    rcases S.par n (List.of_mem_zip hy).1 with q | q
    · exact .inl q
    · exact .inr ⟨q, PySem.W.cellsFrom_some _ _ _ (.inl q)⟩
  refine codeAny_call_function hr.depth (KX _ _ lk) rfl S.co S.gen rfl (PySem.W.codeRec_of KX hcd) (hbb _ _ _ _ ?_)
  refine wpAny_newFunctionEnv_cells S.kind hkind fun env he s1 xx => ?_
  subst he
  refine ⟨lim.keeps xx.toInCall.keep, codeAny_func ?_⟩
  obtain ⟨te, hc, hq⟩ := hbody cdv A outer s H a t (hr.deeper _) hpre
  have I : Inv (cxOf (L2.CX P w) P w K mg base N qual (defScope st) f cdv A outer s H E0) [] (start N [.ref a]) H s1 := inv_start S hr.hd e0 (by rw [hl]; rfl) (.cons rfl .nil) xx
  show wpAny _ _ (execs (defBody st) _) _ _ _
  rw [hst]
  refine wpAny_execs_cons (wpAny_Return_some (wpAny_mono (hc.run [] s1 (start N [.ref a]) H _ I hq) (fun b s2 hs => ?_) (fun e s' hs => ?_)))
  · obtain ⟨v, H2, I2, rv, hv⟩ := hs
    exact ⟨v, H2, I2.os, I2.bare, I2.base, I2.hok, rv, hv⟩
  · exact hs
/-- a comprehension or a loop over such an instance -/
def iOwnT (K : PySem.W.Frag) (C : Addr) (pre : Addr → Addr → Hp → Prop) (te : TE) : TI := fun σ H R => te σ H fun x H1 => ∃ a t dx fs xs, x = .ref a ∧ H1 a = some (.ins C dx fs) ∧ pre a t H1 ∧ SqT K H1 t xs ∧ R (Itt K t) H1
section
variable {X : Cx} {tg e : Expr} {te : TE} {C f : Addr} {k : Nat} {pre : Addr → Addr → Hp → Prop}
theorem pi_ownT (M : Meth X.K C "__iter__" f) (F : IterOk X.prog X.w X.K X.mg X.base k f pre) (hr : Room k X.A) (he : PE X e te) : PI X tg e (iOwnT X.K C pre te) := by
  refine ⟨fun pins s σ H R I h => ?_⟩
  refine thn (he.run pins s σ H _ I h) fun v s1 ⟨x, H1, I1, r1, q1⟩ => ?_
  obtain ⟨a, t, dx, fs, xs, ex, ea, hp, ht, q⟩ := q1
  subst ex
  obtain rfl : v = Value.ref a := r1
  obtain ⟨od, J⟩ := inst_at I1 ea
  obtain ⟨m0, hF⟩ := I1.fr
  refine PySem.W.owit_iter hF I1.ok.mod.kin J M.at_ M.fn (wpAny_call (codeAny_mono (F X.A X.stack s1 H1 a t hr I1.env0 hp) fun r s' hq => ?_))
  match r, hq with
  | .error er, hq =>
    obtain ⟨_, _, _, _, _, _, _, _, _, _, _, _, z⟩ := hq
    exact z.elim
  | .ok .next, hq => exact False.elim hq
  | .ok .brk, hq => exact False.elim hq
  | .ok .cont, hq => exact False.elim hq
  | .ok (.ret u), hq =>
    obtain ⟨v, H', I2, rv, it, rfl, young, hn, rfl⟩ := I1.after hq
    obtain rfl : u = Value.ref it := rv
    have hit : upd H1 it (ItT t it) it = some (ItT t it) := upd_same
    have st : s'.heap.IsTupleIter it t 0 := (I2.hok it _ hit).1
    have hit2 := hit
    unfold ItT at hit2
    unfold PySem.W.OwitIt
    refine wpAny_specialOf (name := Str.ofString "__next__") st.typeIs slot_tupleiter_next.lookup ?_
    have I3 := ItX.inv_drop I2 hit2
    have fp := ItX.inv_fp I2 hit2 (Nat.le_trans I1.sz young)
    have eH : ItX.dropH (upd H1 it (ItT t it)) it = H1 := ItX.dropH_upd hn
    rw [eH] at I3 fp
    refine ⟨it, [it], _, _, H1, rfl, I3, turn_tuple t it, st, fun b hb => ?_, q⟩
    have e : b = it := by simpa using hb
    rw [e]
    exact fp
end
end Rz

namespace Rz
open PySem PySem.Spec PyProof.Rows L2
/-! ### set(text) -/
/-- the set at a has the texts l, its table can be walked -/
def SsAt (P : Program) (w : World) (h : Heap) (a : Addr) (l : List Str) : Prop :=
  ∃ D : PySem.Froz.SD, h.get? a = some (PySem.Froz.sObj "set" D) ∧ PySem.Froz.TxOk P w D l ∧ l.Nodup ∧ Ris D.2.2.place.toList ∧ (w.params.followText "set-order" = true ∨ D.2.2.led = true)
theorem SsAt.keep {P : Program} {w : World} {h h' : Heap} {a : Addr} {l : List Str} (x : SsAt P w h a l) (k : ∀ o, h.get? a = some o → h'.get? a = some o) : SsAt P w h' a l := let ⟨D, e, r⟩ := x; ⟨D, k _ e, r⟩
theorem tail_ris {ep : Nat} {es : Array (Int × Value)} {t : SetTable} {dm : Bool} (r : Ris t.place.toList) : Ris (PySem.Froz.tailTx ep es t dm).2.2.place.toList := by
  unfold PySem.Froz.tailTx
  split
  · exact relayAll_ris _ _ _
  · exact r
theorem tail_led {ep : Nat} {es : Array (Int × Value)} {t : SetTable} {dm : Bool} : (PySem.Froz.tailTx ep es t dm).2.2.led = t.led := by
  unfold PySem.Froz.tailTx
  split
  · exact relayAll_led _ _ _
  · rfl
theorem add_ris {D : PySem.Froz.SD} {h : Int} {v : Value} (r : Ris D.2.2.place.toList) : Ris (PySem.Froz.addTx h v D).2.2.place.toList := by
  have q := layNew_ris D.2.2 D.1 h v r
  refine tail_ris ?_
  split
  · exact q
  · exact q
theorem add_led {D : PySem.Froz.SD} {h : Int} {v : Value} : (PySem.Froz.addTx h v D).2.2.led = D.2.2.led := by
  have q := layNew_led D.2.2 D.1 h v
  refine tail_led.trans ?_
  split
  · exact q
  · exact q
section
variable {P : Program} {w : World} {A : Around} {E : Value → Shared → Prop} {s : Shared}
/-- a text that is there is added -/
theorem add_stay {a : Addr} {T : String} {D : PySem.Froz.SD} {l : List Str} {k : Str} {u : Tok} {Q : Bool → Shared → Prop} (ho : s.heap.get? a = some (PySem.Froz.sObj T D)) (F : PySem.Froz.TxOk P w D l) (hk : k ∈ l) (hb : l.length < scanBound) (h : Q false s) :
    wpAny (model P w) A (setAddHashed a (.str k u) (hashStr w k)) Q E s := by
  obtain ⟨es, ep, t⟩ := D
  have hsz : es.size = l.length := F.sz
  have kk : (strKind P w).is k (.str k u) = true := PySem.Froz.is_str k u
  obtain ⟨e, he, hp⟩ := (F.mem k).mp hk
  unfold setAddHashed setAddHashedIn
  refine wpAny_holding (wpAny_bind (wpAny_setState_of ho rfl F.fit ?_))
  dsimp only
  rw [byScan_of rfl (show es.size < scanBound by rw [hsz]; exact hb) F.el]
  simp only [↓reduceIte]
  unfold setAddByScan
  refine wpAny_bind (wpAny_bind (wpAny_rule (wpAny_bind (wpAny_setScan_of (knd := strKind P w) (k := k) kk ho rfl F.fit F.el ?_))))
  cases fi : List.findIdx? (fun e => (strKind P w).is k e.2) es.toList with
  | none => exact absurd (List.findIdx?_eq_none_iff.mp fi e he) (by rw [hp]; decide)
  | some j =>
    dsimp only
    exact wpAny_pure (wpAny_pure h)
theorem ss_add {a : Addr} {l : List Str} {k : Str} {u : Tok} {Q : Bool → Shared → Prop} (x : SsAt P w s.heap a l) (hb : l.length + 1 < scanBound)
    (h : ∀ (h' : Heap) (l' : List Str) (b : Bool), SsAt P w h' a l' → (∀ y, y ∈ l' ↔ y = k ∨ y ∈ l) → l'.length ≤ l.length + 1 → (∀ c o, c ≠ a → s.heap.get? c = some o → h'.get? c = some o) → Q b { s with heap := h' }) :
    wpAny (model P w) A (setAddHashed a (.str k u) (hashStr w k)) Q E s := by
  obtain ⟨D, ho, F, nd, r, led⟩ := x
  by_cases hk : k ∈ l
  · refine add_stay ho F hk (by omega) ?_
    exact h s.heap l false ⟨D, ho, F, nd, r, led⟩ (fun y => ⟨.inr, fun z => z.elim (fun e => e ▸ hk) id⟩) (by omega) fun c o _ e => e
  · refine PySem.Froz.add_x ho F hk hb ?_
    refine h _ (k :: l) true ⟨_, PySem.Froz.get_upd _ ho rfl, PySem.Froz.add_ok u F, List.nodup_cons.mpr ⟨hk, nd⟩, add_ris r, led.imp id fun z => add_led.trans z⟩ (fun y => List.mem_cons) (Nat.le_refl _) fun c o n e => ?_
    exact PySem.Heap.get?_update_of_ne _ (Ne.symm n) e
/-- the signs of x ahead of i -/
def upTo (x : Str) (i : Nat) (k : Str) : Prop := ∃ j c, j < i ∧ x.cps[j]? = some c ∧ k = ⟨#[c]⟩
theorem ss_loop {R : Result → Shared → Prop} {I a : Addr} {x : Str} {t : Tok} (hh : A.in1.handled = none) (ne : a ≠ I) (hz : x.cps.size + 1 < scanBound) : ∀ (k i : Nat) (s : Shared) (l : List Str), x.cps.size - i = k → i ≤ x.cps.size → s.heap.IsStrIter I "str_ascii_iterator" x t i →
    SsAt P w s.heap a l → (∀ y, y ∈ l ↔ upTo x i y) → l.length ≤ i →
    (∀ (h' : Heap) (tk : Nat) (l' : List Str), SsAt P w h' a l' → (∀ y, y ∈ l' ↔ upTo x x.cps.size y) → l'.length ≤ x.cps.size → (∀ c o, c ≠ a → c ≠ I → s.heap.get? c = some o → h'.get? c = some o) → R (.ok (.ret .none)) { s with heap := h', toks := tk }) →
    codeAny (model P w) A (.builtin "set.update.loop" ⟨[.ref a, .ref I], []⟩) R s := by
  have W := Walks.strAscii (prog := P) (w := w) hh I x t
  intro k
  induction k with
  | zero =>
    intro i s l hk hi st hS hm hl hR
    obtain rfl : i = x.cps.size := by omega
    refine codeAny_builtin PyProof.Rows.F.entry_set_update_loop ?_
    rw [Around.under_plainId PyProof.Rows.F.plain_set_update_loop _]
    show wpAny _ A.in1 (pyNext (.ref I) >>= _) _ _ s
    refine wpAny_bind (W.done s _ _ st fun h' tk kp => ?_)
    show wpAny _ A.in1 (ret Value.none) _ _ _
    exact wpAny_pure (hR h' tk l (hS.keep fun o e => kp a o (by simpa using ne) e) hm hl fun c o _ n2 e => kp c o (by simpa using n2) e)
  | succ k ih =>
    intro i s l hk hi st hS hm hl hR
    refine codeAny_builtin PyProof.Rows.F.entry_set_update_loop ?_
    rw [Around.under_plainId PyProof.Rows.F.plain_set_update_loop _]
    show wpAny _ A.in1 (pyNext (.ref I) >>= _) _ _ s
    refine wpAny_bind (W.item i s _ _ (by omega) st fun v h1 tk ⟨c, u, hc, ev⟩ st1 kp => ?_)
    subst ev
    show wpAny _ A.in1 (holding [Value.str ⟨#[c]⟩ u] (setAdd a (.str ⟨#[c]⟩ u)) >>= _) _ _ _
    refine wpAny_bind (wpAny_holding ?_)
    unfold setAdd
    refine wpAny_holding (wpAny_bind ((strKind P w).pyHash (k := ⟨#[c]⟩) (PySem.Froz.is_str _ _) ?_))
    refine ss_add (s := { s with heap := h1, toks := tk + 1 }) (l := l) (hS.keep fun o e => kp a o (by simpa using ne) e) (by omega) fun h2 l2 b hS2 hm2 hl2 kp2 => ?_
    have st2 : h2.IsStrIter I "str_ascii_iterator" x t (i + 1) := W.frame (i + 1) h1 h2 st1 fun b hb o e => kp2 b o (by
      have z : b = I := by simpa using hb
      rw [z]
      exact Ne.symm ne) e
    refine wpAny_pure ⟨plainId_quiet PyProof.Rows.F.plain_set_update_loop _, ih (i + 1) { s with heap := h2, toks := tk + 1 } l2 (by omega) (by omega) st2 hS2 (fun y => ?_) (by omega) fun h3 tk3 l3 hS3 hm3 hl3 kp3 => ?_⟩
    · rw [hm2, hm]
      constructor
      · rintro (rfl | ⟨j, d, hj, hd, rfl⟩)
        · exact ⟨i, c, by omega, hc, rfl⟩
        · exact ⟨j, d, by omega, hd, rfl⟩
      · rintro ⟨j, d, hj, hd, rfl⟩
        rcases Nat.lt_or_ge j i with h | h
        · exact .inr ⟨j, d, h, hd, rfl⟩
        · obtain rfl : j = i := by omega
          rw [hc] at hd
          cases hd
          exact .inl rfl
    · exact hR h3 tk3 l3 hS3 hm3 hl3 fun d o n1 n2 e => kp3 d o n1 n2 (kp2 d o n1 (kp d o (by simpa using n2) e))
/-- a set just made -/
abbrev frS (w : World) : Obj := { cls := .type "set", dict := none, data := .set #[] 0 (.fresh 0 0 (!w.params.followText "set-order")) }
theorem ss_fresh {h : Heap} {a : Addr} (e : h.get? a = some (frS w)) : SsAt P w h a [] := by
  refine ⟨(#[], 0, .fresh 0 0 (!w.params.followText "set-order")), e, PySem.Froz.TxOk.nil (by rfl), .nil, List.Pairwise.nil, ?_⟩
  show _ ∨ (!w.params.followText "set-order") = true
  cases w.params.followText "set-order"
  · exact .inr rfl
  · exact .inl rfl
/-- set(x) of a text of the plain signs -/
theorem call_setTx {x : Str} {t : Tok} {Q : Value → Shared → Prop} (hh : A.handled = none) (hx : x.cps.all (· < 128) = true) (hz : x.cps.size + 1 < scanBound)
    (h : ∀ (h' : Heap) (tk : Nat) (l : List Str), SsAt P w h' s.heap.objs.size l → (∀ y, y ∈ l ↔ upTo x x.cps.size y) → l.length ≤ x.cps.size → (∀ b o, s.heap.get? b = some o → h'.get? b = some o) → Q (.ref s.heap.objs.size) { s with heap := h', toks := tk }) :
    wpAny (model P w) A (call (.type "set") [.str x t]) Q E s := by
  obtain ⟨c, tl, hmro⟩ := PySem.F.called_set.mro
  have cm := PySem.F.called_set.made
  have cs := PySem.F.called_set.sub
  refine wpAny_call (codeAny_of_tree ?_)
  show wpAny _ _ (callAny (.type "set") _) _ _ _
  refine wpAny_pure ⟨Code.quiet_builtin _ (by decide +kernel), codeAny_builtin PySem.F.entry_type_call ?_⟩
  rw [Around.under_plain (weight_type_call_type "set" [.str x t] []) rfl]
  have cn := PySem.F.called_set.notType
  have cc := PySem.F.called_set.canCreate
  have ct := PySem.F.typeCall_set_1 (.str x t)
  repeat (any_goals (first | assumption | wp_step))
  refine codeAny_mono (code_set_led1 (.str x t) (E := E) (Q₁ := fun u s1 => u = .ref s.heap.objs.size ∧ s1 = { s with heap := s.heap.push (frS w) }) ⟨rfl, rfl⟩) fun r s1 hr => ?_
  match r, hr with
  | .error e, hr => exact hr
  | .ok .next, hr => exact hr.elim
  | .ok .brk, hr => exact hr.elim
  | .ok .cont, hr => exact hr.elim
  | .ok (.ret u), hr =>
    obtain ⟨rfl, rfl⟩ := hr
    have at0 : (s.heap.push (frS w)).get? s.heap.objs.size = some (frS w) := Heap.get?_push_size _ rfl
    have ty0 : Shared.TypeIs { s with heap := s.heap.push (frS w) } (.ref s.heap.objs.size) "set" := ⟨_, at0, rfl⟩
    have il := PySem.F.called_set.init.lookup
    have ib := PySem.F.called_set.init.bind (.ref s.heap.objs.size)
    repeat (any_goals (first | assumption | wp_step))
    refine codeAny_mono (codeAny_call_builtin (R := wants (fun r s2 => r = .none ∧ ∃ h' tk l, s2 = { s with heap := h', toks := tk } ∧ SsAt P w h' s.heap.objs.size l ∧ (∀ y, y ∈ l ↔ upTo x x.cps.size y) ∧ l.length ≤ x.cps.size ∧
        (∀ b o, s.heap.get? b = some o → h'.get? b = some o)) E) PySem.F.called_set.init.plain PySem.F.entry_set_init (check_set_init_1 ty0 ?_)) fun r2 s2 h2 => ?_
    · have f1 := PySem.F.sub_str_set
      have f2 := PySem.F.sub_str_frozenset
      have f3 : (Value.type "str" == Value.type "dict") = false := by decide
      unfold Builtin.«set.__init__» noKeywords Builtin.Frozenset.updateFrom
      generalize hPI : pyIter = PI
      wp_walk
      subst hPI
      refine wpAny_pyIter_ascii hx ?_
      refine wpAny_bind (wpAny_runValue ?_)
      have sz1 : (s.heap.push (frS w)).objs.size = s.heap.objs.size + 1 := Heap.size_push ..
      refine ss_loop (t := t) (I := (s.heap.push (frS w)).objs.size) (by simp [hh]) (by rw [sz1]; exact Nat.ne_of_lt (Nat.lt_succ_self _)) hz (x.cps.size - 0) 0 _ [] rfl (Nat.zero_le _) ⟨_, Heap.get?_push_size _ rfl, rfl, rfl⟩ (ss_fresh (Heap.get?_push_of_some _ at0))
        (fun y => ⟨fun z => (by cases z), fun ⟨j, c, hj, _⟩ => absurd hj (Nat.not_lt_zero _)⟩) (Nat.le_refl _) fun h' tk l hS hm hl kp => ?_
      show wpAny _ _ _ _ _ _
      refine wpAny_pure ?_
      show wpAny _ _ (ret Value.none) _ _ _
      refine wpAny_pure ⟨rfl, h', tk, l, rfl, hS, hm, hl, fun b o e => ?_⟩
      have lt := Heap.lt_size e
      exact kp b o (Nat.ne_of_lt lt) (by rw [sz1]; exact Nat.ne_of_lt (Nat.lt_succ_of_lt lt)) (Heap.get?_push_of_some _ (Heap.get?_push_of_some _ e))
    · match r2, h2 with
      | .error e, h2 => exact h2
      | .ok .next, h2 => exact h2.elim
      | .ok .brk, h2 => exact h2.elim
      | .ok .cont, h2 => exact h2.elim
      | .ok (.ret r), h2 =>
        obtain ⟨rfl, h', tk, l, rfl, hS, hm, hl, kp⟩ := h2
        repeat (any_goals (first | assumption | wp_step))
        exact h _ _ _ hS hm hl kp
end
end Rz

namespace Rz
open PySem PySem.Spec PyProof.Rows L2
/-! ### sorted(set) of texts -/
theorem perm_sub : ∀ {l ys : List Str}, l.Nodup → (∀ k ∈ l, k ∈ ys) → ys.length = l.length → ys.Perm l
  | [], ys, _, _, e => by
    rw [List.eq_nil_of_length_eq_zero e]
  | k :: l, ys, nd, sub, e => by
    obtain ⟨n1, n2⟩ := List.nodup_cons.mp nd
    have hk := sub k List.mem_cons_self
    have p := List.perm_cons_erase hk
    refine p.trans (.cons k (perm_sub n2 (fun j hj => ?_) ?_))
    · exact (List.mem_erase_of_ne (show j ≠ k from fun z => n1 (by rw [← z]; exact hj))).mpr (sub j (List.mem_cons_of_mem _ hj))
    · have q := List.length_erase_of_mem hk
      have e2 : ys.length = l.length + 1 := e
      omega
theorem strs_of : ∀ {vs : List Value}, (∀ v ∈ vs, ∃ k t, v = Value.str k t) → ∃ ys, StrsAre vs ys ∧ ∀ k t, Value.str k t ∈ vs → k ∈ ys
  | [], _ => ⟨[], .nil, fun k t h => by cases h⟩
  | v :: vs, h => by
    obtain ⟨k, t, rfl⟩ := h v List.mem_cons_self
    obtain ⟨ys, r, m⟩ := strs_of (vs := vs) fun u hu => h u (List.mem_cons_of_mem _ hu)
    refine ⟨k :: ys, .cons k t r, fun j u hj => ?_⟩
    rcases List.mem_cons.mp hj with e | e
    · cases e
      exact List.mem_cons_self
    · exact List.mem_cons_of_mem _ (m j u e)
section
variable {P : Program} {w : World} {A : Around} {E : Value → Shared → Prop} {s : Shared} {a : Addr} {l : List Str}
theorem sorted_ss {Q : Value → Shared → Prop} (x : SsAt P w s.heap a l) (hh : A.handled = none) (h64 : l.length < 64)
    (hQ : ∀ (s' : Shared) (p : Addr) (out : Array Value) (c : Nat) (ys : List Str), (∀ b o, s.heap.get? b = some o → s'.heap.get? b = some o) → s'.gens = s.gens → s'.os = s.os → s.heap.objs.size ≤ p →
      s'.heap.get? p = some (seqObj "list" out c) → StrsAre out.toList ys → ys.Perm l → sortedS ys = true → Q (.ref p) s') :
    wpAny (model P w) A (call (.builtin "sorted") [.ref a]) Q E s := by
  obtain ⟨⟨es, ep, t⟩, ho, F, nd, r, led⟩ := x
  have sz : es.size = l.length := F.sz
  have el : ElemsOf (strKind P w) es.toList := F.el
  have mm : ∀ k : Str, k ∈ l ↔ ∃ e ∈ es.toList, (strKind P w).is k e.2 = true := F.mem
  refine Calls.call_function_entry kind_sorted plain_sorted entry_sorted (args_sorted1 _) ?_
  unfold Builtin.«sorted»
  refine wpAny_bind (m := checkCount "sorted" 1 1 _) (wpAny_pure ?_)
  refine wpAny_bind (collect_set (A := A.in1) hh ⟨_, ho, rfl, rfl⟩ F.fit (show es.size < scanBound by rw [sz]; unfold scanBound; omega) r led fun s1 vs k1 z1 g1 o1 pv => ?_)
  have vl : vs.length = l.length := by rw [pv.length_eq, List.length_map, Array.length_toList, sz]
  obtain ⟨ys0, S0, m0⟩ := strs_of (vs := vs) fun v hv => by
    obtain ⟨e, he, q⟩ := List.mem_map.mp (pv.mem_iff.mp hv)
    obtain ⟨⟨k, h1, _⟩, _⟩ := el e he
    obtain ⟨tk, e1⟩ := Value.isStrOf_shape (x := k) (v := e.2) h1
    exact ⟨k, tk, by rw [← q]; exact e1⟩
  have p0 : ys0.Perm l := perm_sub nd (fun k hk => by
    obtain ⟨e, he, q⟩ := (mm k).mp hk
    obtain ⟨tk, e1⟩ := Value.isStrOf_shape (x := k) (v := e.2) q
    exact m0 k tk (pv.mem_iff.mpr (List.mem_map.mpr ⟨e, he, e1⟩))) (by rw [← StrsAre.len_eq S0, vl])
  refine wpAny_bind (wpAny_newList ?_ (by rw [vl, sizeLine_eq]; omega))
  have at1 : (s1.heap.push (seqObj "list" vs.toArray 0)).get? s1.heap.objs.size = some (seqObj "list" vs.toArray 0) := Heap.get?_push_size _ rfl
  refine wpAny_bind (wpAny_holding (wpAny_call_entry slot_list_sort ⟨_, at1, rfl⟩ entry_list_sort (list_sort_treeK strKind_oneLt at1 S0.keysOf (fun v1 v2 rest e => keyKind_strs (by rw [← e]; exact S0)) (by rw [vl]; exact h64) fun st' hp hs => ⟨_, rfl, ?_⟩) (args_list_sort _)))
  obtain ⟨ys, a1, a2, a3⟩ := sorted_out_str S0 hp hs
  obtain ⟨c, hc⟩ := sortedHeap_at (vs := vs) (out := (arrOf st').map (·.2)) at1
  refine wpAny_pure ⟨_, rfl, hQ _ s1.heap.objs.size _ c ys (fun b u e => ?_) g1 o1 z1 hc a1 (a2.trans p0) a3⟩
  have q := k1 b u e
  have lt := Heap.lt_size q
  show (sortedHeap (s1.heap.push (seqObj "list" vs.toArray 0)) s1.heap.objs.size vs _).get? b = some u
  rw [sortedHeap_old (Nat.ne_of_lt lt) (by rw [size_push']; exact Nat.lt_succ_of_lt lt)]
  exact Heap.get?_push_of_some _ q
end
/-- the set at a, tracked -/
def SsO (P : Program) (w : World) (a : Addr) (l : List Str) : HO := .ext fun h => SsAt P w h a l
theorem ssO_ok {P : Program} {w : World} {H : Hp} {h : Heap} {a : Addr} {l : List Str} (x : SsAt P w h a l) : ObjOk P w H h a (SsO P w a l) :=
  ⟨x, let ⟨_, e, _⟩ := x; ⟨_, e⟩, fun h1 h2 q k => SsAt.keep q fun o e => k o e⟩
def rSetTx (P : Program) (w : World) : List V → Hp → VK → Prop := fun xs H Q => ∃ x : Str, xs = [.str x] ∧ x.cps.all (· < 128) = true ∧ x.cps.size + 1 < scanBound ∧
  ∀ (p : Addr) (l : List Str), H p = none → (∀ y, y ∈ l ↔ upTo x x.cps.size y) → l.Nodup → l.length ≤ x.cps.size → Q (.ref p) (upd H p (SsO P w p l))
def rSortSs (P : Program) (w : World) : List V → Hp → VK → Prop := fun vs H Q => ∃ (a : Addr) (l : List Str), vs = [.ref a] ∧ H a = some (SsO P w a l) ∧ l.length < 64 ∧
  ∀ (ys : List Str) (p : Addr), ys.Perm l → sortedS ys = true → H p = none → Q (.ref p) (upd H p (.lst (ys.map V.str)))
section
variable {X : Cx}
theorem cr_setTx (hc : X.calm = true) : CallR X (.type "set") (rSetTx X.prog X.w) := by
  intro pins s σ H xs us Q I r h
  obtain ⟨x, rfl, ha, hz, q⟩ := h
  obtain ⟨u, rfl, t, rfl⟩ := vals1 r
  refine call_setTx (I.ok.hd hc) ha hz fun h' tk l hS hm hl kp => ?_
  exact ⟨.ref s.heap.objs.size, _, I.laid (t' := tk) kp (Nat.le_refl _) (ssO_ok hS), rfl, q _ l (I.hok.fresh (Nat.le_refl _)) hm (let ⟨_, _, _, nd, _⟩ := hS; nd) hl⟩
theorem cr_sortSs (hc : X.calm = true) : CallR X (.builtin "sorted") (rSortSs X.prog X.w) := by
  intro pins s σ H vs us Q I r h
  obtain ⟨a, l, rfl, ha, h64, q⟩ := h
  rw [Vals.ref1 r]
  have hS : SsAt X.prog X.w s.heap a l := (I.hok a _ ha).1
  refine sorted_ss hS (I.ok.hd hc) h64 fun s' p out c ys k g o hp hg hi pm hs => ?_
  have hlen : (ys.map V.str).length ≤ sizeLine := by rw [List.length_map, pm.length_eq, sizeLine_eq]; omega
  have hn : H p = none := I.hok.fresh hp
  have J : Inv X pins σ (upd H p (.lst (ys.map V.str))) { s with heap := s'.heap, gens := s'.gens, drawn := s'.drawn, toks := s'.toks } :=
    I.call (ch := []) (Un.laid k hp hn) (I.hok.laid k hp ⟨hlen, out.toList, c, vals_of_strs hi, hg⟩) (by rw [g]; exact I.bare) (fun _ z => nomatch z)
  have e : s' = { s with heap := s'.heap, gens := s'.gens, drawn := s'.drawn, toks := s'.toks } := by
    obtain ⟨_, _, _, _, _⟩ := s'
    obtain rfl := o
    rfl
  rw [e]
  exact ⟨.ref p, _, J, rfl, q ys p pm hs hn⟩
end
end Rz
namespace Rz
open PySem PySem.Spec PyProof.Rows L2
/-! ### ascending signs -/
theorem rise_eq : ∀ {a b : List Nat}, a.Pairwise (· < ·) → b.Pairwise (· < ·) → (∀ x, x ∈ a ↔ x ∈ b) → a = b
  | [], [], _, _, _ => rfl
  | [], y :: b, _, _, h => absurd ((h y).mpr List.mem_cons_self) (by simp)
  | x :: a, [], _, _, h => absurd ((h x).mp List.mem_cons_self) (by simp)
  | x :: a, y :: b, ha, hb, h => by
    obtain ⟨a1, a2⟩ := List.pairwise_cons.mp ha
    obtain ⟨b1, b2⟩ := List.pairwise_cons.mp hb
    have e : x = y := by
      rcases List.mem_cons.mp ((h x).mp List.mem_cons_self) with e | e
      · exact e
      · rcases List.mem_cons.mp ((h y).mpr List.mem_cons_self) with f | f
        · exact f.symm
        · have := b1 x e
          have := a1 y f
          omega
    subst e
    refine congrArg (x :: ·) (rise_eq a2 b2 fun z => ⟨fun hz => ?_, fun hz => ?_⟩)
    · rcases List.mem_cons.mp ((h z).mp (List.mem_cons_of_mem _ hz)) with f | f
      · have := a1 z hz
        omega
      · exact f
    · rcases List.mem_cons.mp ((h z).mpr (List.mem_cons_of_mem _ hz)) with f | f
      · have := b1 z hz
        omega
      · exact f
def sgs (cs : List Nat) : List Str := cs.map fun c => ⟨#[c]⟩
theorem rise_of : ∀ (cs : List Nat) (p : Nat), risingS ⟨#[p]⟩ (sgs cs) = true → (p :: cs).Nodup → (p :: cs).Pairwise (· < ·)
  | [], p, _, _ => by simp
  | c :: cs, p, h, nd => by
    have e : (!ltCps [c] [p] && risingS ⟨#[c]⟩ (sgs cs)) = true := h
    rw [Bool.and_eq_true] at e
    obtain ⟨n1, n2⟩ := List.nodup_cons.mp nd
    have ih := rise_of cs c e.2 n2
    have lt : p < c := by
      have h1 : ltCps [c] [p] = false := by simpa using e.1
      have h2 : ¬ c < p := fun z => by
        have : ltCps [c] [p] = true := by simp [ltCps, z]
        rw [this] at h1
        cases h1
      have h3 : p ≠ c := fun z => n1 (by rw [z]; exact List.mem_cons_self)
      omega
    refine List.pairwise_cons.mpr ⟨fun x hx => ?_, ih⟩
    rcases List.mem_cons.mp hx with f | f
    · rw [f]
      exact lt
    · have := (List.pairwise_cons.mp ih).1 x f
      omega
theorem rise_sorted : ∀ (cs : List Nat), sortedS (sgs cs) = true → cs.Nodup → cs.Pairwise (· < ·)
  | [], _, _ => .nil
  | c :: cs, h, nd => rise_of cs c h nd
theorem sgs_nodup : ∀ {cs : List Nat}, (sgs cs).Nodup → cs.Nodup
  | [], _ => .nil
  | c :: cs, h => by
    obtain ⟨h1, h2⟩ := List.nodup_cons.mp (show ((⟨#[c]⟩ : Str) :: sgs cs).Nodup from h)
    exact List.nodup_cons.mpr ⟨fun z => h1 (List.mem_map.mpr ⟨c, z, rfl⟩), sgs_nodup h2⟩
theorem sgs_of : ∀ {ys : List Str}, (∀ y ∈ ys, ∃ c : Nat, y = ⟨#[c]⟩) → ∃ cs, ys = sgs cs
  | [], _ => ⟨[], rfl⟩
  | y :: ys, h => by
    obtain ⟨c, rfl⟩ := h y List.mem_cons_self
    obtain ⟨cs, rfl⟩ := sgs_of (ys := ys) fun z hz => h z (List.mem_cons_of_mem _ hz)
    exact ⟨c :: cs, rfl⟩
/-- what sorted(set(x)) is: the signs of x, ascending -/
theorem sorted_signs {x : Str} {l ys : List Str} {ds : List Nat} (hm : ∀ y, y ∈ l ↔ upTo x x.cps.size y) (nd : l.Nodup) (p : ys.Perm l) (hs : sortedS ys = true) (hd : ds.Pairwise (· < ·)) (hx : ∀ c, c ∈ ds ↔ c ∈ x.cps.toList) : ys = sgs ds := by
  have one : ∀ y, y ∈ ys ↔ ∃ c, c ∈ x.cps.toList ∧ y = ⟨#[c]⟩ := fun y => by
    rw [p.mem_iff, hm]
    constructor
    · rintro ⟨j, c, hj, hc, rfl⟩
      exact ⟨c, List.mem_of_getElem? (by rw [Array.getElem?_toList]; exact hc), rfl⟩
    · rintro ⟨c, hc, rfl⟩
      obtain ⟨j, hj⟩ := List.mem_iff_getElem?.mp hc
      rw [Array.getElem?_toList] at hj
      have lt : j < x.cps.size := by
        rcases Nat.lt_or_ge j x.cps.size with h | h
        · exact h
        · rw [Array.getElem?_eq_none h] at hj; cases hj
      exact ⟨j, c, lt, hj, rfl⟩
  obtain ⟨cs, rfl⟩ := sgs_of (ys := ys) fun y hy => let ⟨c, _, e⟩ := (one y).mp hy; ⟨c, e⟩
  have ndc := sgs_nodup (p.nodup_iff.mpr nd)
  refine congrArg sgs (rise_eq (rise_sorted cs hs ndc) hd fun c => ?_)
  rw [hx]
  constructor
  · intro hc
    obtain ⟨d, hd, e⟩ := (one ⟨#[c]⟩).mp (List.mem_map.mpr ⟨c, hc, rfl⟩)
    have e2 : c = d := by
      have q := congrArg (fun y : Str => y.cps.toList) e
      simpa using q
    rw [e2]
    exact hd
  · intro hc
    obtain ⟨d, hd, e⟩ := List.mem_map.mp ((one ⟨#[c]⟩).mpr ⟨c, hc, rfl⟩)
    have e2 : d = c := by
      have q := congrArg (fun y : Str => y.cps.toList) e
      simpa using q
    rw [← e2]
    exact hd
end Rz

namespace Rz
open PySem PySem.Spec PyProof.Rows L2
/-! ### enumerate(list, start=k) -/
/-- the list at a as it stands at each turn, each item in a new pair, counted from k -/
def IteF (K : PySem.W.Frag) (k : Int) (a : Addr) : It :=
  ⟨fun i H => ∃ (xs : List V) (x : V), SqL K H a xs ∧ xs[i]? = some x, fun i H v H' => ∃ T x, v = .ref T ∧ H T = none ∧ H' = upd H T (.tup [.int (k + (i : Nat)), x]) ∧ ∀ xs, SqL K H a xs → xs[i]? = some x, fun i H => ∃ xs : List V, SqL K H a xs ∧ i = xs.length⟩
theorem ne_it {h : Heap} {a it : Addr} {items : Array Value} {i : Nat} (l : h.IsList a items) (t : h.IsListIter it a i) : a ≠ it := fun z => by
  obtain ⟨o1, h1, c1, _⟩ := l
  obtain ⟨o2, h2, c2, _⟩ := t
  rw [z, h2] at h1
  obtain rfl := Option.some.inj h1
  rw [c2] at c1
  exact absurd c1 (by decide)
theorem ne_en {h : Heap} {a e it : Addr} {items : Array Value} {c : Int} {old : Value} (l : h.IsList a items) (t : IsEnum h e it c old) : a ≠ e := fun z => by
  obtain ⟨o1, h1, c1, _⟩ := l
  have h2 : h.get? e = _ := t
  rw [z, h2] at h1
  obtain rfl := Option.some.inj h1
  exact absurd (show Value.type "enumerate" = Value.type "list" from c1) (by decide)
theorem turn_enumF {P : Program} {w : World} {K : PySem.W.Frag} {elts : List Expr} {kk : Nat} {tpos : Pos} (c : Int) (a e it : Addr) :
    Turn P w K (.Tuple elts kk tpos) (IteF K c a) [e, it] e (fun i h => (∃ old, IsEnum h e it (c + ((i : Nat) : Int)) old) ∧ h.IsListIter it a i ∧ e ≠ it) where
  mem := by simp
  obj := fun i h st b hb => by
    obtain ⟨⟨old, he⟩, ⟨o, ho, hc, hd⟩, _⟩ := st
    rcases (show b = e ∨ b = it by simpa using hb) with rfl | rfl
    · exact ⟨_, he, fun v q => nomatch q⟩
    · exact ⟨o, ho, fun v q => by rw [hd] at q; cases q⟩
  keep := fun i h h' st k => let ⟨⟨old, he⟩, hi, hne⟩ := st; ⟨⟨old, k e (by simp) _ he⟩, hi.at fun o q => k it (by simp) o q, hne⟩
  item := by
    intro X hP hw hK hc i pins s σ H E I hf st hg
    subst hP hw hK
    obtain ⟨⟨old, he⟩, hit, hne⟩ := st
    obtain ⟨xs, x, hq, hx⟩ := hg
    obtain ⟨its, rv, p, hz⟩ := I.list hq
    obtain ⟨u, hu, ru⟩ := rv.get hx
    have le : e < s.heap.objs.size := Heap.lt_size he
    have li : it < s.heap.objs.size := by obtain ⟨_, q, _⟩ := hit; exact Heap.lt_size q
    have D := Draws.list (prog := X.prog) (w := X.w) (A := X.A.in1) (I.ok.hd hc) it a (ne_it p.isList hit) its.toArray
    have lt : i < its.toArray.size := by
      have q := (List.getElem?_eq_some_iff.mp hu).1
      rw [List.size_toArray]
      exact q
    refine wpAny_pyNext_enum_itemC D he ⟨hit, p.isList⟩ lt hne (by
      have q := ne_en p.isList he
      simp [hne, Ne.symm q]) fun u1 h1 tk hu1 ho hit1 hT hsz hk => ?_
    obtain rfl : u1 = u := by
      rw [List.getElem?_toArray, hu] at hu1
      exact (Option.some.inj hu1).symm
    refine ⟨_, rfl, wpAny_letOwnedTupleGo_enum (s := { s with heap := h1, toks := tk + 1 }) ho fun h2 he2 sb => ?_⟩
    have at2 : h2.get? s.heap.objs.size = some { cls := .type "tuple", data := .seq #[.int (c + i) tk, u1] } := (sb.2 _ (Nat.ne_of_gt le)).trans hT
    have nw : ObjOk X.prog X.w (upd H s.heap.objs.size (.tup [.int (c + (i : Nat)), x])) h2 s.heap.objs.size (.tup [.int (c + (i : Nat)), x]) :=
      ⟨by show 2 ≤ sizeLine; decide, [.int (c + i) tk, u1], .cons ⟨_, rfl⟩ (.cons ru .nil), ⟨_, at2, rfl, _, rfl⟩⟩
    have J : Inv X pins σ (upd H s.heap.objs.size (.tup [.int (c + (i : Nat)), x])) { s with heap := h2, toks := tk + 1 } :=
      I.turnedNew (t' := tk + 1) (ch := [e, it]) (fun b ob hb q => (sb.2 b (fun z => hb (by simp [z]))).trans (hk b ob (fun z => hb (by simp [z])) (fun z => hb (by simp [z])) q)) hf (Nat.le_refl _) nw
    refine ⟨.ref s.heap.objs.size, _, J, rfl, ⟨_, x, rfl, I.hok.fresh (Nat.le_refl _), rfl, fun ys hy => by rw [I.list_inj hy hq]; exact hx⟩, ⟨⟨u1, ?_⟩, hit1.1.at fun o q => (sb.2 it (Ne.symm hne)).trans q, hne⟩, fun b hb => ?_⟩
    · have e1 : c + ((i + 1 : Nat) : Int) = c + (i : Int) + 1 := by omega
      rw [e1]
      exact he2
    · have lb : b < s.heap.objs.size := by
        rcases (show b = e ∨ b = it by simpa using hb) with rfl | rfl
        · exact le
        · exact li
      rw [upd_ne (Nat.ne_of_lt lb)]
      exact (hf b hb).1
  done := by
    intro X hP hw hK hc i pins s σ H E I hf st hg
    subst hP hw hK
    obtain ⟨⟨old, he⟩, hit, hne⟩ := st
    obtain ⟨xs, hq, hx⟩ := hg
    obtain ⟨its, rv, p, hz⟩ := I.list hq
    obtain ⟨f0, f1, f2, f3, f4, f5⟩ := hf it (by simp)
    have hl := rv.length
    have D := Draws.list (prog := X.prog) (w := X.w) (A := X.A.in1) (I.ok.hd hc) it a (ne_it p.isList hit) its.toArray
    obtain rfl : i = its.toArray.size := by
      rw [List.size_toArray]
      omega
    exact wpAny_pyNext_enum_endD D he ⟨hit, p.isList⟩ fun h' eb => ⟨rfl, I.turned (t' := s.toks) (fun b o hb q => eb b o hb q) f0 f1 f3 f4 f5⟩
  self := fun A i s Q E st h => let ⟨⟨_, he⟩, _⟩ := st; wpAny_pyIter_enum he h
section
variable {M : Model} {A : Around} {E : Value → Shared → Prop} {s : Shared} {env : Env}
theorem callWith_typeKw {pos : Pos} {T : String} {args : List (Bool × Sem Value)} {kw : List (Option Str × Sem Value)} {Q : Value → Shared → Prop} (hplain : args.any (·.1) = false) (hkw : kw.any (·.1.isNone) = false)
    (h : wpAny M A (evalArgs (.type T) true args kw) (fun a s₁ => wpAny M A (call (.type T) ([] ++ a.pos) a.kw) Q E s₁) E s) : wpAny M A (callWith pos (.type T) [] args kw) Q E s := by
  unfold callWith
  refine wpAny_bind (wpAny_holding (wpAny_mono h (fun a s1 h1 => wpAny_bind (wpAny_standAt ?_)) fun _ _ x => x))
  simp only [hplain, hkw, Bool.or_false]
  refine wpAny_bind (wpAny_pure ?_)
  exact wpAny_bind (wpAny_mono h1 (fun r s2 hr => wpAny_bind (wpAny_holding (wpAny_point (wpAny_pure hr)))) fun _ _ x => x)
end
def iEnumF (K : PySem.W.Frag) (ta tk : TA) : TI := fun σ H R => ta σ H fun vs H1 => tk σ H1 fun zs H2 => ∃ a xs k, vs = [.ref a] ∧ zs = [.int k] ∧ 0 ≤ k ∧ k < 2 ^ 62 ∧ SqL K H2 a xs ∧ R (IteF K k a) H2
theorem pi_enumF {X : Cx} {e : Expr} {kws : List Keyword} {ta tk : TA} {p pos tpos : Pos} {elts : List Expr} {kk : Nat} (hg : Gl X "enumerate") (hm : X.mg "enumerate" = none) (ha : PA X [e] ta) (hkw : PK X kws tk)
    (he : starEach [e] X.env = (false, eval e X.env) :: starEach [] X.env := by rfl) (hpl : (backTo pos (starEach [e] X.env)).any (·.1) = false := by rfl)
    (hall : (backToKw pos (keywordEach kws X.env)).all (·.1.isSome) = true := by rfl) (hnone : (backToKw pos (keywordEach kws X.env)).any (·.1.isNone) = false := by rfl) (hks : (backToKw pos (keywordEach kws X.env)).filterMap (·.1) = [Str.ofString "start"] := by rfl) :
    PI X (.Tuple elts kk tpos) (.Call (.Name "enumerate" p) [e] kws pos) (iEnumF X.K ta tk) := by
  refine ⟨fun pins s σ H R I h => ?_⟩
  refine wpAny_Call_Name_kw (ld_blt (u := .type "enumerate") I hg hm boot_enumerate (callWith_typeKw hpl hnone (evalArgs_kw2 hall (thn (ha.run pos pins s σ H _ I h) fun us s1 ⟨vs, H1, I1, r1, q1⟩ => thn (hkw.run pos pins s1 σ H1 _ I1 q1) fun ws s2 ⟨zs, H2, I2, r2, q2⟩ => ?_) he)) (by decide) (by decide))
  rw [hks]
  obtain ⟨a, xs, k, rfl, rfl, k0, k1, hq, q⟩ := q2
  obtain ⟨u, rfl, ru⟩ := vals1 r1
  obtain rfl : u = Value.ref a := ru
  obtain ⟨z, rfl, t, rfl⟩ := vals1 r2
  obtain ⟨its, rv, pl, hz⟩ := I2.list hq
  refine enum_begins_start (begins_list a its.toArray) pl.isList (by omega) (by omega) fun h' he hit hsz hk => wpAny_pyIter_enum he ?_
  have J : Inv X pins σ H2 { s2 with heap := h' } := I2.kept (t' := s2.toks) hk
  refine ⟨s2.heap.objs.size + 1, [s2.heap.objs.size + 1, s2.heap.objs.size], _, _, H2, rfl, J, turn_enumF k a (s2.heap.objs.size + 1) s2.heap.objs.size, ⟨⟨.none, ?_⟩, ⟨_, hit, rfl, rfl⟩, Nat.succ_ne_self _⟩, fun b hb => ?_, q⟩
  · have e0 : k + ((0 : Nat) : Int) = k := by simp
    rw [e0]
    exact he
  · have le : s2.heap.objs.size ≤ b := by
      rcases (show b = s2.heap.objs.size + 1 ∨ b = s2.heap.objs.size by simpa using hb) with z | z
      · rw [z]; exact Nat.le_add_right _ _
      · rw [z]; exact Nat.le_refl _
    exact I2.fpOk le (I2.hok.fresh le)
end Rz
namespace Rz
open PySem PySem.Spec PyProof.Rows L2
theorem walk_enumF {K : PySem.W.Frag} {k : Int} {a : Addr} {xs : List V} : Walk (IteF K k a) xs.length (fun H => SqL K H a xs) (fun i H v H' => ∃ T x, v = .ref T ∧ H T = none ∧ H' = upd H T (.tup [.int (k + (i : Nat)), x]) ∧ xs[i]? = some x) :=
  ⟨fun i H hi h => ⟨xs, _, h, List.getElem?_eq_getElem hi⟩, fun H h => ⟨xs, h, rfl⟩, fun i H v H' _ h y => by
    obtain ⟨T, x, e1, e2, e3, e4⟩ := y
    exact ⟨T, x, e1, e2, e3, e4 xs h⟩⟩
theorem joinL_len (s : List Nat) : ∀ ps : List (List Nat), (TL.joinL s ps).length ≤ (ps.map List.length).sum + ps.length * s.length
  | [] => by
    show ([] : List Nat).length ≤ _
    simp
  | [p] => by
    show p.length ≤ _
    simp
  | p :: q :: r => by
    have ih := joinL_len s (q :: r)
    have e : (TL.joinL s (p :: q :: r)).length = p.length + (s.length + (TL.joinL s (q :: r)).length) := by
      show (p ++ (s ++ TL.joinL s (q :: r))).length = _
      rw [List.length_append, List.length_append]
    have m : (p :: q :: r).length * s.length = s.length + (q :: r).length * s.length := by
      rw [List.length_cons, Nat.succ_mul, Nat.add_comm]
    rw [e, m, List.map_cons, List.sum_cons]
    omega
end Rz

namespace Rz
open PySem PySem.Spec PyProof.Rows L2
/-! ### o += x by an own __iadd__ that may let an exception out -/
section
variable {X : Cx} {k : Nat} {f C : Addr} {fd : FuncData} {ps : List Str} {sp : Sp} {E : EX}
def tIpX (C : Addr) (sp : Sp) (E : EX) : V → V → Hp → VK → Prop := fun x y H Q => ∃ a dx fs, x = .ref a ∧ H a = some (.ins C dx fs) ∧ ∀ σ, sp [x, y] H (fun v H' => (∃ b, v = .ref b) ∧ Q v H') (E σ)
theorem ip_ownX (M : Meth X.K C "__iadd__" f) (hc : PySem.W.selfFirst X.K C = true) (F : FnOk X.prog X.w X.K X.mg X.base (L2.CX X.prog X.w) k f fd ps sp) (hr : Room k X.A) (hb : Binds X.K fd ps []) (hx : ∀ σ, PassesAt (L2.CX X.prog X.w) X σ (E σ)) : PIp X .Add (tIpX C sp E) := by
  intro pins s σ H x y v u Q I r1 r2 h
  obtain ⟨a, dx, fs, rfl, ea, hq⟩ := h
  obtain rfl : v = Value.ref a := r1
  obtain ⟨od, J⟩ := inst_at I ea
  obtain ⟨m0, hF⟩ := I.fr
  have z := run_X (us := [.ref a, u]) (vs := [.ref a, y]) F hr rfl hb .nil (hx σ) I (.cons rfl (.cons r2 .nil)) (by rw [List.append_nil]; exact hq σ)
  refine PySem.W.ksp_inplace hF I.ok.mod.kin J hc M.at_ M.fn (wpAny_call (codeAny_mono z fun q s' hq => ?_))
  match q, hq with
  | .error er, hq => exact hq
  | .ok (.ret r), hq =>
    obtain ⟨z, H', J', rz, ⟨b, rfl⟩, q⟩ := hq
    obtain rfl : r = Value.ref b := rz
    exact ⟨.ref b, H', J', rfl, q⟩
  | .ok .next, hq => exact hq.elim
  | .ok .brk, hq => exact hq.elim
  | .ok .cont, hq => exact hq.elim
end
end Rz

namespace Rz
open PySem PySem.Spec PyProof.Rows L2 GenW
/-! ### if and for in the body of a generator -/
section
variable {M : Model} {A : Around} {R : GenEnd} {Y : Protocol} {n : Nat} {s₀ : Shared} {c : Code} {fs : List Frame} {s : Shared} {env : Env}
  {K : Flow → Sem PySem.Fin} {H : Value → Sem PySem.Fin} {gd : Bool → Bool} {lv : List Value → List Value}
theorem seg_iff_stmt {test : Expr} {body orelse : List Stmt} {pos : Pos}
    (h : wpAny M (A.over c fs) (isTrue test env (eval test env)) (fun b s' => if b = true then Seg M A R Y n s₀ c ((execs body env).wrap K H gd lv) fs s' else Seg M A R Y n s₀ c ((execs orelse env).wrap K H gd lv) fs s') (fun x s' => Seg M A R Y n s₀ c (H x) fs s') s) :
    Seg M A R Y n s₀ c ((exec (.If test body orelse pos) env).wrap K H gd lv) fs s := by
  show Seg M A R Y n s₀ c ((standAt pos >>= fun _ => isTrue test env (eval test env) >>= fun b => if b = true then execs body env else execs orelse env).wrap K H gd lv) fs s
  refine seg_bind_wrap (wpAny_standAt ?_)
  refine seg_bind_wrap (wpAny_mono h (fun b s' hb => ?_) fun _ _ z => z)
  cases b with
  | true => exact hb
  | false => exact hb
theorem seg_For {target iter : Expr} {body orelse : List Stmt} {pos : Pos}
    (h : wpAny M (A.over c fs) (eval iter env) (fun x s1 => wpAny M (A.over c fs) (pyIter x) (fun it s2 => ∀ p, Seg M A R Y n s₀ (.forLoop target it body orelse env) (M.den (.forLoop target it body orelse env))
      (.ret (fun r => ((match r with | .ok f => (.pure f : Sem Flow) | .error e => .raise e).onRaise (cameBack env)).wrap K H gd lv) none (gd false) (lv []) c p [] :: fs) s2)
      (fun x s' => Seg M A R Y n s₀ c (H x) fs s') s1) (fun x s' => Seg M A R Y n s₀ c (H x) fs s') s)
    (hs : ∀ x, foldedSetIterable iter env x = pure x) :
    Seg M A R Y n s₀ c ((exec (.For target iter body orelse pos) env).wrap K H gd lv) fs s := by
  rw [exec_For]
  refine seg_bind_wrap (wpAny_standAt ?_)
  refine seg_bind_wrap (wpAny_mono h (fun x s1 h1 => ?_) fun _ _ z => z)
  refine seg_bind_wrap (wpAny_of_eq (hs x) ?_)
  refine seg_bind_wrap (wpAny_standAt ?_)
  refine seg_bind_wrap (wpAny_holding (wpAny_mono h1 (fun it s2 h2 => ?_) fun _ _ z => z))
  exact seg_call h2
end
section
variable {prog : Program} {w : World} {A : Around} {R : GenEnd} {Y : Protocol} {n : Nat} {s₀ : Shared} {fs : List Frame} {s : Shared} {env : Env}
/-- what a loop's code does with an exception of its own -/
def noteX (env : Env) (e : Value) : Sem PySem.Fin := (do noteFrame e env; theTreesLotGoes e : Sem Unit).bind fun _ => .raise e
theorem seg_forLoop {target : Expr} {it : Value} {body orelse : List Stmt}
    (h : wpAny (model prog w) (A.over (.forLoop target it body orelse env) fs) (pyNext it) (fun r s1 => match r with
        | none => Seg (model prog w) A R Y n s₀ (.forLoop target it body orelse env) (.pure (.again (.block orelse env))) fs s1
        | some v => wpAny (model prog w) (A.over (.forLoop target it body orelse env) fs) (letOwnedTupleGo target it v) (fun _ s2 =>
            wpAny (model prog w) (A.over (.forLoop target it body orelse env) fs) (assign target env v) (fun _ s3 =>
              Seg (model prog w) A R Y n s₀ (.forLoop target it body orelse env) ((execs body env).wrap (fun f => ((match f with
                | .next | .cont => again (.forLoop target it body orelse env)
                | .brk => pure (.done .next)
                | .ret v => pure (.done (.ret v)) : Sem PySem.Fin)).wrap .pure (noteX env) id id) (noteX env) id id) fs s3)
              (fun x s' => Seg (model prog w) A R Y n s₀ (.forLoop target it body orelse env) (noteX env x) fs s') s2)
            (fun x s' => Seg (model prog w) A R Y n s₀ (.forLoop target it body orelse env) (noteX env x) fs s') s1)
      (fun x s' => Seg (model prog w) A R Y n s₀ (.forLoop target it body orelse env) (noteX env x) fs s') s) :
    Seg (model prog w) A R Y n s₀ (.forLoop target it body orelse env) ((model prog w).den (.forLoop target it body orelse env)) fs s := by
  show Seg _ A R Y n s₀ _ ((forTurn target it body orelse env).onRaise (fun x => do noteFrame x env; theTreesLotGoes x)) fs s
  rw [Sem.onRaise_eq_wrap]
  show Seg _ A R Y n s₀ _ ((forTurn target it body orelse env).wrap .pure (noteX env) id id) fs s
  unfold forTurn
  refine seg_bind_wrap (wpAny_standAt ?_)
  refine seg_bind_wrap (wpAny_onRaise (wpAny_mono h (fun r s1 h1 => ?_) fun _ _ z => wpAny_standAt z))
  cases r with
  | none => exact h1
  | some v =>
    refine seg_bind_wrap (wpAny_mono h1 (fun _ s2 h2 => ?_) fun _ _ z => z)
    refine seg_bind_wrap (wpAny_mono h2 (fun _ s3 h3 => ?_) fun _ _ z => z)
    rw [Sem.bind_eq_wrap', Sem.wrap_wrap]
    exact h3
end
section
variable {X : Cx} {st : Stmt} {rest : List Stmt} {pos : Pos}
theorem gss_one {t : TGn} (a : GS X st t) : GSs X [st] (tGThen t tG0) := gss_cons a gss_nil
def tGIf (c : TT) (t u : TGn) : TGn := fun D ys σ H => c σ H fun b H1 => if b = true then t D ys σ H1 else u D ys σ H1
theorem gs_if {c : Expr} {a b : List Stmt} {tc : TT} {t u : TGn} (hc : PT X c tc) (ha : GSs X a t) (hb : GSs X b u) : GS X (.If c a b pos) (tGIf tc t u) := by
  refine ⟨fun A S ip R n ys s₀ c' fs K J gd lv s σ H D g hn k hI ht => ?_⟩
  obtain ⟨acc, cc, r, I⟩ := hI
  refine seg_iff_stmt ?_
  rw [g.over]
  refine wpAny_mono (hc.run _ s σ H _ I ht) (fun d s1 q => ?_) fun x s' hx => k.exc n s₀ x s' hx
  obtain ⟨H1, I1, q1⟩ := q
  cases d with
  | true => exact ha.run A S ip R n ys s₀ c' fs K J gd lv s1 σ H1 D g hn k ⟨acc, cc, r, I1⟩ q1
  | false => exact hb.run A S ip R n ys s₀ c' fs K J gd lv s1 σ H1 D g hn k ⟨acc, cc, r, I1⟩ q1
/-- W: the invariant by the turn, a measure, what is out so far -/
def tGFor (wi : TI) (g : TG) (tb : TGn) : TGn := fun D ys σ H => wi σ H fun J H1 => ∃ W : Nat → Nat → List V → L2.St → Hp → Prop, (∃ m, W 0 m ys σ H1) ∧ ∀ i m ys σ H, W i m ys σ H →
  (J.stop i H ∧ D.nx ys σ H) ∨ (J.go i H ∧ ∃ N : List V → L2.St → Hp → Prop, (∀ ys' σ' H', N ys' σ' H' → ∃ m', m' < m ∧ W (i + 1) m' ys' σ' H') ∧ ∀ x H', J.yld i H x H' → g x σ H' fun σ2 H2 => tb { D with nx := N, ct := N, bk := D.nx } ys σ2 H2)
theorem gs_for {tg iter : Expr} {body : List Stmt} {wi : TI} {gg : TG} {tb : TGn} (hp : PassesOwn (model X.prog X.w) X.A X.env X.xe) (hc : X.calm = true) (hi : PI X tg iter wi) (hg : PG X tg gg) (hb : GSs X body tb)
    (hs : ∀ x, foldedSetIterable iter X.env x = pure x := by intro _; rfl) : GS X (.For tg iter body [] pos) (tGFor wi gg tb) := by
  refine ⟨fun A S ip R n ys s₀ c fs K J gd lv s σ H D g hn k hI ht => ?_⟩
  obtain ⟨acc0, cc0, r0, I0⟩ := hI
  refine seg_For ?_ hs
  rw [g.over]
  refine wpAny_mono (hi.run _ s σ H _ I0 ht) (fun v s1 h1 => wpAny_mono h1 (fun itv s2 h2 p => ?_) fun x s' hx => k.exc n s₀ x s' hx) fun x s' hx => k.exc n s₀ x s' hx
  obtain ⟨it, fp, tn, Jt, H2, rfl, I2, T, st2, f2, W, ⟨m0, w0⟩, turn⟩ := h2
  have stat : ∀ {H' : Hp} {acc : Array Value} {cc : Nat}, (∀ b ∈ fp, H' b = none) → ∀ b ∈ fp, FpOk X ((S, lstObj acc cc) :: ip) H' b := fun {H' acc cc} hn b hb => by
    obtain ⟨_, f1, f3, f4, f5, f6⟩ := f2 b hb
    refine ⟨hn b hb, f1, f3, f4, f5, fun p hp => ?_⟩
    rcases List.mem_append.mp hp with z | z
    · exact f6 p (List.mem_append_left _ z)
    · rcases List.mem_cons.mp z with z | z
      · rw [z]
        exact f6 (S, lstObj acc0 cc0) (List.mem_append_right _ List.mem_cons_self)
      · exact f6 p (List.mem_append_right _ (List.mem_cons_of_mem _ z))
  have gl := fun (kk : Result → Sem PySem.Fin) => gc_loop (k := kk) (c' := .forLoop tg (.ref it) body [] X.env) (l := lv []) (kp := []) (p := p) g rfl rfl
  have gb := fun (kk : Result → Sem PySem.Fin) => gc_loop (k := kk) (c' := .block [] X.env) (l := lv []) (kp := []) (p := p) g rfl rfl
  have loop : ∀ (m i n : Nat) (ys : List V) (s₀ s : Shared) (σ : L2.St) (H : Hp), n + ys.length = sizeLine → W i m ys σ H → GI X S ip ys σ H s → tn i s.heap → (∀ b ∈ fp, H b = none) →
      Seg (model X.prog X.w) A R (GY X S) n s₀ (.forLoop tg (.ref it) body [] X.env) ((model X.prog X.w).den (.forLoop tg (.ref it) body [] X.env))
        (.ret (fun r => ((match r with | .ok f => (.pure f : Sem Flow) | .error e => .raise e).onRaise (cameBack X.env)).wrap K J gd lv) none (gd false) (lv []) c p [] :: fs) s := by
    intro m
    induction m using Nat.strongRecOn with
    | ind m ih =>
      intro i n ys s₀ s σ H hn w hI hst hfr
      have ee : ∀ (n : Nat) (s₀ : Shared) (x : Value) (s' : Shared), X.xe x s' → Seg (model X.prog X.w) A R (GY X S) n s₀ (.forLoop tg (.ref it) body [] X.env) (noteX X.env x)
          (.ret (fun r => ((match r with | .ok f => (.pure f : Sem Flow) | .error e => .raise e).onRaise (cameBack X.env)).wrap K J gd lv) none (gd false) (lv []) c p [] :: fs) s' := fun n s₀ x s' hx => by
        unfold noteX
        rw [Sem.bind_eq_wrap]
        refine seg_wrap ?_
        rw [(gl _).over]
        refine wpAny_bind (wpAny_mono (hp x s' hx) (fun _ s'' hcb => wpAny_theTreesLotGoes ?_) fun y s'' hcb => ?_)
        · exact seg_leaf (.error x) (seg_cameBack g k hcb)
        · exact seg_leaf (.error y) (seg_cameBack g k hcb)
      obtain ⟨acc, cc, r, I⟩ := hI
      refine seg_forLoop ?_
      rw [(gl _).over]
      rcases turn i m ys σ H w with ⟨stop, qn⟩ | ⟨go, N, hN, step⟩
      · refine wpAny_mono (T.done X rfl rfl rfl hc i _ s σ H X.xe I (stat hfr) hst stop) (fun r s4 q => ?_) fun x s' hx => ee n s₀ x s' hx
        obtain ⟨hr, I4⟩ := q
        subst hr
        refine seg_again rfl ?_
        exact seg_leaf (.ok .next) (k.ok n ys s₀ s4 .next hn ⟨σ, H, ⟨acc, cc, ‹_›, I4⟩, qn⟩)
      · refine wpAny_mono (T.item X rfl rfl rfl hc i _ s σ H X.xe I (stat hfr) hst go) (fun r s4 q => ?_) fun x s' hx => ee n s₀ x s' hx
        obtain ⟨u, hr, h4⟩ := q
        subst hr
        refine wpAny_mono h4 (fun _ s5 q5 => ?_) fun x s' hx => ee n s₀ x s' hx
        obtain ⟨x, H5, I5, r5, y5, st5, fr5⟩ := q5
        have I5' := I5.pinned (stat fr5) (T.obj _ _ st5)
        refine wpAny_mono (hg.run _ s5 σ H5 x u _ I5' r5 (step x H5 y5)) (fun _ s6 q6 => ?_) fun x s' hx => ee n s₀ x s' hx
        obtain ⟨σ6, H6, I6, q6⟩ := q6
        have g2 : ∀ kk, GC X S (ip ++ pinsAt fp s5.heap) A (.forLoop tg (.ref it) body [] X.env) (.ret kk none (gd false) (lv []) c p [] :: fs) id := fun kk =>
          ⟨(gl kk).pn, fun q hq => (List.mem_append.mp hq).elim (fun z => g.ip q z) fun z => fun e => (f2 q.1 (of_pinsAt z).1).2.2.2.2.2 (S, lstObj acc0 cc0) (List.mem_append_right _ List.mem_cons_self) e.symm, (gl kk).apart, (gl kk).over, (gl kk).split, (gl kk).guard, (gl kk).gd⟩
        have back : ∀ {ys' : List V} {σ7 : L2.St} {H7 : Hp} {s7 : Shared}, GI X S (ip ++ pinsAt fp s5.heap) ys' σ7 H7 s7 → GI X S ip ys' σ7 H7 s7 := fun {ys' σ7 H7 s7} h => by
          obtain ⟨acc7, cc7, r7, I7⟩ := h
          exact ⟨acc7, cc7, r7, Inv.unpinned (pins := (S, lstObj acc7 cc7) :: ip) I7⟩
        have still : ∀ {ys' : List V} {σ7 : L2.St} {H7 : Hp} {s7 : Shared}, GI X S (ip ++ pinsAt fp s5.heap) ys' σ7 H7 s7 → tn (i + 1) s7.heap ∧ ∀ b ∈ fp, H7 b = none := fun {ys' σ7 H7 s7} h => by
          obtain ⟨acc7, cc7, r7, I7⟩ := h
          refine ⟨T.keep _ _ _ st5 fun b hb o e => (I7.pin (b, o) (List.mem_append_right _ (List.mem_cons_of_mem _ (List.mem_append_right _ (mem_pinsAt hb e))))).1, fun b hb => ?_⟩
          obtain ⟨o, e, d⟩ := T.obj _ _ st5 b hb
          exact (I7.pin (b, o) (List.mem_append_right _ (List.mem_cons_of_mem _ (List.mem_append_right _ (mem_pinsAt hb e))))).2.1
        refine hb.run A S (ip ++ pinsAt fp s5.heap) R n ys s₀ _ _ _ _ id id s6 σ6 H6 { D with nx := N, ct := N, bk := D.nx } (g2 _) hn ⟨fun n' ys' s₀' s7 f hn' hs => ?_, fun n' s₀' x s3 hx => ee n' s₀' x s3 hx⟩ ⟨acc, cc, ‹_›, I6⟩ q6
        cases f with
        | next =>
          obtain ⟨σ7, H7, I7, n7⟩ := hs
          obtain ⟨m', hm, w7⟩ := hN ys' σ7 H7 n7
          obtain ⟨t7, f7⟩ := still I7
          exact seg_again rfl (ih m' hm (i + 1) n' ys' s₀' s7 σ7 H7 hn' w7 (back I7) t7 f7)
        | cont =>
          obtain ⟨σ7, H7, I7, n7⟩ := hs
          obtain ⟨m', hm, w7⟩ := hN ys' σ7 H7 n7
          obtain ⟨t7, f7⟩ := still I7
          exact seg_again rfl (ih m' hm (i + 1) n' ys' s₀' s7 σ7 H7 hn' w7 (back I7) t7 f7)
        | brk =>
          obtain ⟨σ7, H7, I7, q7⟩ := hs
          exact seg_leaf (.ok .next) (k.ok n' ys' s₀' s7 .next hn' ⟨σ7, H7, back I7, q7⟩)
        | ret v =>
          obtain ⟨x7, σ7, H7, I7, r7, q7⟩ := hs
          exact seg_leaf (.ok (.ret v)) (k.ok n' ys' s₀' s7 (.ret v) hn' ⟨x7, σ7, H7, back I7, r7, q7⟩)
  exact loop m0 0 n ys s₀ s2 σ H2 hn w0 ⟨acc0, cc0, r0, I2⟩ st2 fun b hb => (f2 b hb).1
/-- a for over a walk: Pv by the turn, what is out, the slots and the heap -/
theorem gfor_it {J : It} {n : Nat} {G : Hp → Prop} {Y : Nat → Hp → V → Hp → Prop} (w : Walk J n G Y) {g : TG} {tb : TGn} {D : GEnds} {ys : List V} {σ : L2.St} {H : Hp} (Pv : Nat → List V → L2.St → Hp → Prop) (h0 : Pv 0 ys σ H) (hG : ∀ i ys σ H, i ≤ n → Pv i ys σ H → G H)
    (hs : ∀ i x ys σ H H', i < n → Pv i ys σ H → Y i H x H' → g x σ H' fun σ2 H2 => tb { D with nx := Pv (i + 1), ct := Pv (i + 1), bk := D.nx } ys σ2 H2) (hd : ∀ ys σ H, Pv n ys σ H → D.nx ys σ H) :
    ∃ W : Nat → Nat → List V → L2.St → Hp → Prop, (∃ m, W 0 m ys σ H) ∧ ∀ i m ys σ H, W i m ys σ H →
      (J.stop i H ∧ D.nx ys σ H) ∨ (J.go i H ∧ ∃ N : List V → L2.St → Hp → Prop, (∀ ys' σ' H', N ys' σ' H' → ∃ m', m' < m ∧ W (i + 1) m' ys' σ' H') ∧ ∀ x H', J.yld i H x H' → g x σ H' fun σ2 H2 => tb { D with nx := N, ct := N, bk := D.nx } ys σ2 H2) := by
  refine ⟨fun i m ys σ H => m = n - i ∧ i ≤ n ∧ Pv i ys σ H, ⟨n, by simp, Nat.zero_le _, h0⟩, ?_⟩
  rintro i m ys σ H ⟨rfl, hi, p⟩
  have q := hG i ys σ H hi p
  by_cases hlt : i < n
  · exact .inr ⟨w.goes i H hlt q, Pv (i + 1), fun ys' σ' H' p' => ⟨n - (i + 1), by omega, rfl, hlt, p'⟩, fun x H' y => hs i x ys σ H H' hlt p (w.yields i H x H' hlt q y)⟩
  · have e : i = n := by omega
    subst e
    exact .inl ⟨w.stops H q, hd ys σ H p⟩
end
end Rz
namespace Rz
open PySem PySem.Spec PyProof.Rows L2 GenW
/-- a generator def by its body -/
theorem gfn_by {P : Program} {w : World} {K : PySem.W.Frag} {mg : Str → Option Value} {base : Heap} {k : Nat} {x qual : Str} {st : Stmt} {f : Addr} {fd : FuncData} {N ps : List Str} {sp : SpG} (F : Fun K x qual st f fd) (S : GScope N ps (defScope st)) (len : ∀ vs H Q E, sp vs H Q E → vs.length = ps.length)
    (hbody : ∀ (cdv : Value) (A : Around) (outer : List Env) (s : Shared) (H : Hp) (vs : List V) (Q : List V → Hp → Prop) (E : XK) (pn : List (Addr × Obj)), Room k (A.deeper (envOfC qual (defScope st) s.heap.objs.size f cdv)) → sp vs H Q E →
      ∃ t, GSs (gcxOf P w K mg base N qual (defScope st) f cdv A outer s H E pn) (defBody st) t ∧ t { nx := fun ys _ H' => Q ys H', rt := fun ys v H' => v = .non ∧ Q ys H' } [] (start N vs) H) : GFn P w K mg base (k + 1) f fd ps sp := by
  obtain ⟨oc, od, kV, doc, pm, an, cdv, ct, osl, rfl, lk, hcd⟩ := F.ex
  exact gfn_of lk hcd S len fun A outer s H vs Q E pn hr hsp => hbody cdv A outer s H vs Q E pn hr hsp
end Rz

namespace Rz
open PySem PySem.Spec PyProof.Rows L2
/-! ### sets of objects that are known by a key (tuples of ints and texts) -/
/-- what such keys bear -/
structure KSet (P : Program) (w : World) (K : Type) [DecidableEq K] where
  kd : HeapKind P w K
  keep : ∀ {h h2 : Heap} {k : K} {b : Addr}, kd.is h k b → (∀ o, h.get? b = some o → h2.get? b = some o) → kd.is h2 k b
  noSet : ∀ {h : Heap} {k : K} {b : Addr} {o : Obj} {es : Array (Int × Value)} {ep : Nat} {t : SetTable}, kd.is h k b → h.get? b = some o → o.data ≠ .set es ep t
  cls : ∀ {A : Around} {E : Value → Shared → Prop} {s : Shared} {k : K} {b : Addr} {Q : Bool → Shared → Prop}, kd.is s.heap k b → Q false s → wpAny (model P w) A (ofAClassStatement 8 (.ref b)) Q E s
  byv : ∀ {A : Around} {E : Value → Shared → Prop} {s : Shared} {k : K} {b : Addr} {Q : Bool → Shared → Prop}, kd.is s.heap k b → (∀ v, Q v s) → wpAny (model P w) A (hashByValue 8 (.ref b)) Q E s
section
variable {P : Program} {w : World} {A : Around} {E : Value → Shared → Prop} {s : Shared} {K : Type} [DecidableEq K] {κ : KSet P w K}
def rws (κ : KSet P w K) (L : List (Addr × K)) : List (Int × Value) := L.map fun q => (κ.kd.hash q.2, Value.ref q.1)
def hss (κ : KSet P w K) (L : List (Addr × K)) : List Int := L.map fun q => κ.kd.hash q.2
/-- the set at a has the rows L -/
structure TsAt (κ : KSet P w K) (h : Heap) (a : Addr) (L : List (Addr × K)) (es : Array (Int × Value)) (ep : Nat) (t : SetTable) : Prop where
  obj : ∃ o, h.get? a = some o ∧ o.ExactSet ∧ o.data = .set es ep t
  lst : es.toList = rws κ L
  tab : TabOk t (hss κ L)
  nd : (L.map (·.2)).Nodup
  mem : ∀ q ∈ L, κ.kd.is h q.2 q.1
  led : w.params.followText "set-order" = true ∨ t.led = true
  room : L.length * 5 < t.mask * 3
  few : L.length < 64
variable {a : Addr} {L : List (Addr × K)} {es : Array (Int × Value)} {ep : Nat} {t : SetTable}
theorem rws_len (h : es.toList = rws κ L) : es.size = L.length := by
  have e := congrArg List.length h
  unfold rws at e
  rw [Array.length_toList, List.length_map] at e
  exact e
theorem TsAt.fit (Z : TsAt κ s.heap a L es ep t) : t.fits es.size = true := by
  have z1 := Z.tab.sz
  unfold hss at z1
  rw [List.length_map] at z1
  have z2 := rws_len Z.lst
  have z3 := Z.room
  unfold SetTable.fits SetTable.fill
  rw [Z.tab.dm, Bool.and_eq_true, beq_iff_eq, decide_eq_true_eq]
  show t.place.size = es.size ∧ t.place.size + 0 ≤ t.mask
  omega
theorem rws_at (h : es.toList = rws κ L) {i : Nat} {q : Addr × K} (e : L[i]? = some q) : es[i]? = some (κ.kd.hash q.2, Value.ref q.1) := by
  rw [← Array.getElem?_toList, h]
  unfold rws
  rw [List.getElem?_map, e]
  rfl
theorem ts_seen {k : K} {b : Addr} {Q : Bool → Shared → Prop} (hk : κ.kd.is s.heap k b) {ys : List Value} (hy : ∀ y ∈ ys, ∃ k2 c, y = Value.ref c ∧ κ.kd.is s.heap k2 c) (q : Q false s) : wpAny (model P w) A (searchCouldBeSeen (.ref b) ys) Q E s := by
  unfold searchCouldBeSeen
  refine wpAny_bind (wpAny_forIn_list _ (fun todo r s2 => r.1 = none ∧ s2 = s ∧ ∀ y ∈ todo, ∃ k2 c, y = Value.ref c ∧ κ.kd.is s.heap k2 c) _ ?_ ?_ _ _ ⟨rfl, rfl, hy⟩)
  · rintro v todo r s2 ⟨h1, rfl, h2⟩
    obtain ⟨k2, c, rfl, hc⟩ := h2 v List.mem_cons_self
    have h3 : ∀ y ∈ todo, ∃ k2 c, y = Value.ref c ∧ κ.kd.is s2.heap k2 c := fun u hu => h2 u (List.mem_cons_of_mem _ hu)
    dsimp only
    by_cases e : (b == c || (carriedByValue (.ref b) && carriedByValue (.ref c))) = true
    · exact wp_if_pos e (wpAny_pure ⟨rfl, rfl, h3⟩)
    · refine wp_if_neg e (wpAny_bind (κ.kd.quiet hk ?_))
      rw [if_neg (by decide)]
      refine wpAny_bind (κ.kd.quiet hc ?_)
      rw [if_neg (by decide)]
      refine wpAny_bind (κ.cls hk ?_)
      rw [if_neg (by decide)]
      refine wpAny_bind (κ.cls hc ?_)
      rw [if_neg (by decide)]
      exact wpAny_pure ⟨rfl, rfl, h3⟩
  · rintro ⟨r1, r2⟩ s2 ⟨h1, rfl, _⟩
    simp only at h1
    subst h1
    exact wpAny_pure q
/-- where the search for h stands after c steps -/
abbrev prb (m : Nat) (h : Int) (c : Nat) : SetTable.Probe := nth m (runAt m (SetTable.bits h % (m + 1)) (SetTable.bits h)) c
theorem prb_no (m : Nat) (h : Int) (c : Nat) : (prb m h c).dummy = none := by
  have go : ∀ (n : Nat) (p : SetTable.Probe), p.dummy = none → (nth m p n).dummy = none := by
    intro n
    induction n with
    | zero => exact fun p h => h
    | succ n ih =>
      intro p h
      refine ih (adv m p) ?_
      unfold adv
      split
      · exact h
      · exact h
  exact go c _ rfl
theorem ts_from (Z : TsAt κ s.heap a L es ep t) {x : Addr} {k : K} (hx : κ.kd.is s.heap k x) (hr : κ.kd.room A) {n : Nat} (n1 : n < 10 * SetTable.turns t.mask) (n2 : way t.mask (κ.kd.hash k) n ∉ t.place.toList)
    (n3 : ∀ c, c < n → way t.mask (κ.kd.hash k) c ∈ t.place.toList) {Q : SetFound → Shared → Prop} (yes : k ∈ L.map (·.2) → Q (.there none) s) (no : k ∉ L.map (·.2) → Q (.free (way t.mask (κ.kd.hash k) n) false) s) :
    ∀ (f c : Nat) (at_ : Option SetTable.Probe), at_.getD (t.probeStart (κ.kd.hash k)) = prb t.mask (κ.kd.hash k) c → c ≤ n → n - c < f →
      (∀ (i : Nat) q, L[i]? = some q → q.2 = k → ∃ d, c ≤ d ∧ d < n ∧ t.place.toList[i]? = some (way t.mask (κ.kd.hash k) d)) →
      wpAny (model P w) A (setSearchFrom a (.ref x) (κ.kd.hash k) true f at_) Q E s
  | 0, c, at_, _, _, hf, _ => absurd hf (Nat.not_lt_zero _)
  | f + 1, c, at_, hat, hc, hf, later => by
    obtain ⟨o, e1, e2, e3⟩ := Z.obj
    rw [setSearchFrom_succ]
    refine wpAny_bind (wpAny_setState_of e1 e3 Z.fit ?_)
    dsimp only
    refine wp_if_neg (by
      unfold SetTable.gaveWay
      rw [mask_odd Z.tab.mok]
      decide) ?_
    try refine wpAny_bind (wpAny_pure ?_)
    have shift : ∀ d, (nth t.mask (prb t.mask (κ.kd.hash k) c) d).j = way t.mask (κ.kd.hash k) (c + d) := fun d => congrArg SetTable.Probe.j (nth_add t.mask c _ d).symm
    have spec := go_spec t Z.tab.ris Z.tab.dm (fun i => (es[i]?.map (·.1)).getD 0) (κ.kd.hash k) (10 * SetTable.turns t.mask) (n - c) _ (prb_no t.mask (κ.kd.hash k) c) (by omega)
      (fun d hd => by rw [shift]; exact n3 (c + d) (by omega)) (by rw [shift, show c + (n - c) = n by omega]; exact n2)
    have hashes : ∀ (i : Nat) q, L[i]? = some q → (fun i => (es[i]?.map (·.1)).getD 0) i = κ.kd.hash q.2 := fun i q hq => by
      show (es[i]?.map (·.1)).getD 0 = _
      rw [rws_at Z.lst hq]
      rfl
    rcases spec with ⟨d, i, hd, hi, hh, fresh, hp⟩ | ⟨fresh, hp⟩
    · have met : t.probe (fun i => (es[i]?.map (·.1)).getD 0) (κ.kd.hash k) (at_.getD (t.probeStart (κ.kd.hash k))) = some (.candidate (way t.mask (κ.kd.hash k) (c + d)) i (prb t.mask (κ.kd.hash k) (c + (d + 1)))) := by
        rw [hat, ← shift, show prb t.mask (κ.kd.hash k) (c + (d + 1)) = nth t.mask (prb t.mask (κ.kd.hash k) c) (d + 1) from nth_add t.mask c _ (d + 1)]
        exact hp
      rw [met]
      dsimp only
      rw [shift] at hi
      have il : i < L.length := by
        have z1 := (List.getElem?_eq_some_iff.mp hi).1
        have z2 := Z.tab.sz
        unfold hss at z2
        rw [List.length_map] at z2
        rw [Array.length_toList] at z1
        omega
      have hq : L[i]? = some L[i] := List.getElem?_eq_getElem il
      generalize L[i] = q at hq
      have inL : q ∈ L := List.mem_of_getElem? hq
      have then_ : wpAny (model P w) A (searchRest a (.ref x) (κ.kd.hash k) true f es t (way t.mask (κ.kd.hash k) (c + d)) i (prb t.mask (κ.kd.hash k) (c + (d + 1)))) Q E s := by
        unfold searchRest
        rw [rws_at Z.lst hq]
        dsimp only
        refine wpAny_bind (wpAny_holding (κ.kd.eqBool hr (Z.mem q inL) hx ?_))
        refine wpAny_bind (wpAny_setState_of e1 e3 Z.fit ?_)
        dsimp only
        by_cases eq : q.2 = k
        · exact wp_if_pos (by simp [eq]) (wpAny_pure (yes (List.mem_map.mpr ⟨q, inL, eq⟩)))
        · refine wp_if_neg (by simp [eq]) ?_
          try refine wpAny_bind (wpAny_pure ?_)
          rw [sameMem]
          dsimp only
          have live : t.slot (way t.mask (κ.kd.hash k) (c + d)) = .live i := slot_live Z.tab.ris hi
          simp only [if_true, live, rws_at Z.lst hq]
          refine wpAny_bind (wpAny_isSame_ref_self (wpAny_bind (wpAny_pure ?_)))
          rw [if_pos rfl]
          refine wp_if_neg (by simp [eq]) ?_
          refine ts_from Z hx hr n1 n2 n3 yes no f (c + (d + 1)) _ rfl (by omega) (by omega) fun i0 q0 h0 hk0 => ?_
          obtain ⟨y, y1, y2, y3⟩ := later i0 q0 h0 hk0
          refine ⟨y, ?_, y2, y3⟩
          have hk1 : (fun i => (es[i]?.map (·.1)).getD 0) i0 = κ.kd.hash k := (hashes i0 q0 h0).trans (congrArg κ.kd.hash hk0)
          rcases Nat.lt_trichotomy y (c + d) with z | z | z
          · exact absurd hk1 (fresh (y - c) i0 (by omega) (by rw [shift, show c + (y - c) = y by omega]; exact y3))
          · rw [z] at y3
            have s0 := slot_live Z.tab.ris y3
            rw [live] at s0
            injection s0 with s0
            rw [← s0, hq] at h0
            exact absurd ((congrArg Prod.snd (Option.some.inj h0)).trans hk0) eq
          · omega
      by_cases ld : t.led = true
      · refine wp_if_neg (by simp [ld]) ?_
        try refine wpAny_bind (wpAny_pure ?_)
        exact then_
      · refine wp_if_pos (by simp [ld]) ?_
        refine wpAny_bind (ts_seen hx (fun y hy => ?_) ?_)
        · obtain ⟨u, hu, eu⟩ := List.mem_map.mp hy
          have u1 : u ∈ es ∧ u.1 = κ.kd.hash k := by simpa using hu
          have u2 : u ∈ es.toList := by simpa using u1.1
          rw [Z.lst] at u2
          obtain ⟨q2, hq2, e5⟩ := List.mem_map.mp u2
          exact ⟨q2.2, q2.1, by rw [← eu, ← e5], Z.mem q2 hq2⟩
        · refine wp_if_neg (by decide) ?_
          try refine wpAny_bind (wpAny_pure ?_)
          exact then_
    · have met : t.probe (fun i => (es[i]?.map (·.1)).getD 0) (κ.kd.hash k) (at_.getD (t.probeStart (κ.kd.hash k))) = some (.empty (way t.mask (κ.kd.hash k) n) none) := by
        have e5 : way t.mask (κ.kd.hash k) n = (nth t.mask (prb t.mask (κ.kd.hash k) c) (n - c)).j := by rw [shift, show c + (n - c) = n by omega]
        rw [hat, e5]
        exact hp
      rw [met]
      dsimp only
      refine wpAny_pure (no fun hm => ?_)
      obtain ⟨q0, h0, hk0⟩ := List.mem_map.mp hm
      obtain ⟨i0, hi0, e0⟩ := List.getElem_of_mem h0
      have h00 : L[i0]? = some q0 := by rw [List.getElem?_eq_getElem hi0, e0]
      obtain ⟨y, y1, y2, y3⟩ := later i0 q0 h00 hk0
      exact fresh (y - c) i0 (by omega) (by rw [shift, show c + (y - c) = y by omega]; exact y3) ((hashes i0 q0 h00).trans (congrArg κ.kd.hash hk0))
/-- the search as adding asks for it -/
theorem ts_search (Z : TsAt κ s.heap a L es ep t) {x : Addr} {k : K} (hx : κ.kd.is s.heap k x) (hr : κ.kd.room A) {Q : SetFound → Shared → Prop} (yes : k ∈ L.map (·.2) → Q (.there none) s)
    (no : ∀ n, k ∉ L.map (·.2) → way t.mask (κ.kd.hash k) n ∉ t.place.toList → (∀ c, c < n → way t.mask (κ.kd.hash k) c ∈ t.place.toList) → Q (.free (way t.mask (κ.kd.hash k) n) false) s) :
    wpAny (model P w) A (setSearch a (.ref x) (κ.kd.hash k) true) Q E s := by
  have z1 := Z.room
  obtain ⟨n, n1, n2, n3⟩ := Z.tab.first (by unfold hss; rw [List.length_map]; omega) (κ.kd.hash k)
  have few : n < 100000 := by
    have : 10 * SetTable.turns t.mask ≤ 1420 := by
      unfold SetTable.turns
      rcases Z.tab.mok with e | e | e <;> omega
    omega
  unfold setSearch
  refine ts_from Z hx hr n1 n2 n3 yes (fun h => no n h n2 n3) 100000 0 none rfl (Nat.zero_le _) (by omega) fun i q hq hk => ?_
  have h1 : (hss κ L)[i]? = some (κ.kd.hash k) := by
    unfold hss
    rw [List.getElem?_map, hq, ← hk]
    rfl
  have il : i < t.place.toList.length := by
    have y1 : i < L.length := (List.getElem?_eq_some_iff.mp hq).1
    have y2 := Z.tab.sz
    unfold hss at y2
    rw [List.length_map] at y2
    rw [Array.length_toList]
    omega
  have h2 := List.getElem?_eq_getElem il
  obtain ⟨c, hc, e⟩ := Z.tab.before n2 h1 h2
  exact ⟨c, Nat.zero_le _, hc, by rw [h2, e]⟩
/-- an item is not the set: it stays -/
theorem ts_stay {h h2 : Heap} {k : K} {b : Addr} {o : Obj} (hb : κ.kd.is h k b) (ho : h.get? a = some o) (hd : o.data = .set es ep t) (sb : Heap.SameBut a h h2) : κ.kd.is h2 k b :=
  κ.keep hb fun u e => (sb.2 b fun z => κ.noSet hb (by rw [z]; exact ho) hd).trans e
theorem filt_range {α : Type} (M : List α) : (List.range M.length).filterMap (fun i => M[i]?) = M := by
  have go : ∀ n, n ≤ M.length → (List.range n).filterMap (fun i => M[i]?) = M.take n := by
    intro n
    induction n with
    | zero => exact fun _ => rfl
    | succ n ih =>
      intro hn
      have lt : n < M.length := hn
      rw [List.range_succ, List.filterMap_append, ih (Nat.le_of_lt lt), List.take_add_one, List.filterMap_cons_some (List.getElem?_eq_getElem lt), List.getElem?_eq_getElem lt]
      rfl
  rw [go M.length (Nat.le_refl _), List.take_length]
theorem rws_order {order : Array Nat} (hl : es.toList = rws κ L) (hp : order.toList.Perm (List.range L.length)) :
    ∃ M, (order.filterMap (es[·]?)).toList = rws κ M ∧ M.Perm L ∧ hss κ M = order.toList.map fun i => (es.map (·.1)).getD i 0 := by
  have sz := rws_len hl
  have go : ∀ l : List Nat, (∀ i ∈ l, i < L.length) → l.filterMap (fun i => es[i]?) = rws κ (l.filterMap fun i => L[i]?) ∧ hss κ (l.filterMap fun i => L[i]?) = l.map fun i => (es.map (·.1)).getD i 0 := by
    intro l
    induction l with
    | nil => exact fun _ => ⟨rfl, rfl⟩
    | cons i l ih =>
      intro h
      have lt := h i List.mem_cons_self
      have at1 : L[i]? = some L[i] := List.getElem?_eq_getElem lt
      have at2 := rws_at hl at1
      obtain ⟨y1, y2⟩ := ih fun j hj => h j (List.mem_cons_of_mem _ hj)
      have at3 : (es.map (·.1)).getD i 0 = κ.kd.hash (L[i]).2 := by
        have e : (es.map (·.1))[i]? = some (κ.kd.hash (L[i]).2) := by
          rw [Array.getElem?_map, at2]
          rfl
        simp [Array.getD_eq_getD_getElem?, e]
      rw [List.filterMap_cons_some at1, List.filterMap_cons_some at2, y1, List.map_cons, at3, ← y2]
      exact ⟨rfl, rfl⟩
  obtain ⟨y1, y2⟩ := go order.toList fun i hi => List.mem_range.mp (hp.mem_iff.mp hi)
  refine ⟨_, by first | (rw [Array.toList_filterMap]; exact y1) | simpa using y1, ?_, y2⟩
  have pm := hp.filterMap (fun i => L[i]?)
  rw [filt_range] at pm
  exact pm
/-- the table laid anew, larger -/
theorem ts_relay {o : Obj} (ho : s.heap.get? a = some o) (hx : o.ExactSet) (hd : o.data = .set es ep t) (hl : es.toList = rws κ L) (h1 : t.place.size = es.size) (h2 : t.dummies = #[]) (h3 : es.size ≤ t.mask)
    (nd : (L.map (·.2)).Nodup) (mem : ∀ q ∈ L, κ.kd.is s.heap q.2 q.1) (led : w.params.followText "set-order" = true ∨ t.led = true) (few : L.length < 64) {want m : Nat}
    (m1 : SetTable.sizeAbove want - 1 = m) (m2 : MaskOk m) (m3 : SetTable.sizeAbove want ≤ 128) (m4 : L.length * 5 < m * 3) {Q : Unit → Shared → Prop}
    (q : ∀ g M us e2 u, Heap.SameBut a s.heap g → TsAt κ g a M us e2 u → M.Perm L → Q () { s with heap := g }) : wpAny (model P w) A (setRelay a want) Q E s := by
  have sz := rws_len hl
  have fit : t.fits es.size = true := by
    unfold SetTable.fits SetTable.fill
    rw [h2, Bool.and_eq_true, beq_iff_eq, decide_eq_true_eq]
    show t.place.size = es.size ∧ t.place.size + 0 ≤ t.mask
    omega
  obtain ⟨u, order, e1, hp, tab, e2, e3, e4, e5⟩ := relaid_ok t (hs := es.map (·.1)) (wanted := want) m1 m2 (by rw [Array.size_map, sz]; omega)
  rw [Array.size_map, sz] at hp
  obtain ⟨M, r1, r2, r3⟩ := rws_order hl hp
  rw [← r3] at tab
  have sz2 : (order.filterMap (es[·]?)).size = es.size := by rw [rws_len r1, r2.length_eq, sz]
  rw [setRelay_eq]
  refine wpAny_bind (wpAny_setState_of ho hd fit ?_)
  dsimp only
  refine wp_if_neg (by rw [sizeLine_eq]; omega) ?_
  try refine wpAny_bind (wpAny_pure ?_)
  rw [e1]
  dsimp only
  refine wpAny_bind (wp_if_neg (by rw [sz2]; simp) ?_)
  try refine wpAny_bind (wpAny_pure ?_)
  refine wpAny_pure ?_
  dsimp only
  refine wpAny_storeSet_of ho hd ?_ (by rw [sz2, sz, sizeLine_eq]; omega)
  have sb : Heap.SameBut a s.heap (s.heap.update a (Obj.putSet (order.filterMap (es[·]?)) u)) := Heap.SameBut.update ..
  exact q _ M _ (ep + 1) u sb ⟨⟨_, store_at ho hd, ⟨hx.1, hx.2.1, hx.2.2⟩, rfl⟩, r1, tab, (r2.map (·.2)).nodup_iff.mpr nd, fun y hy => ts_stay (mem y (r2.mem_iff.mp hy)) ho hd sb, by rw [e3]; exact led, by rw [r2.length_eq, e2]; exact m4, by rw [r2.length_eq]; exact few⟩ r2
theorem ite_pull {α β : Type} {c : Prop} [Decidable c] {m1 m2 : Sem α} {f : α → Sem β} : (if c then (m1 >>= f) else (m2 >>= f)) = ((if c then m1 else m2) >>= f) := by
  split <;> rfl
/-- one is added -/
theorem ts_add (Z : TsAt κ s.heap a L es ep t) {x : Addr} {k : K} (hx : κ.kd.is s.heap k x) (hr : κ.kd.room A) (few : L.length + 1 < 64) {Q : Bool → Shared → Prop}
    (q : ∀ b g M us e2 u, Heap.SameBut a s.heap g → TsAt κ g a M us e2 u → (k ∈ L.map (·.2) → M = L) → (k ∉ L.map (·.2) → M.Perm ((x, k) :: L)) → Q b { s with heap := g }) :
    wpAny (model P w) A (setAddHashed a (.ref x) (κ.kd.hash k)) Q E s := by
  obtain ⟨o, o1, o2, o3⟩ := Z.obj
  have sz := rws_len Z.lst
  have rm := Z.room
  unfold setAddHashed
  refine wpAny_holding ?_
  rw [show (100000 : Nat) = 99999 + 1 from rfl, setAddHashedIn_succ]
  refine wpAny_bind (wpAny_setState_of o1 o3 Z.fit ?_)
  dsimp only
  refine wp_if_neg (by simp [byScan, Value.scannable]) ?_
  try refine wpAny_bind (wpAny_pure ?_)
  refine wpAny_bind (ts_search Z hx hr (fun hm => ?_) fun n hm n2 n3 => ?_)
  · dsimp only
    exact wpAny_pure (q false s.heap L es ep t (Heap.SameBut.refl a s.heap) Z (fun _ => rfl) fun z => absurd hm z)
  dsimp only
  refine wpAny_bind (wpAny_setState_of o1 o3 Z.fit ?_)
  dsimp only
  obtain ⟨p1, p2, p3, p4, p5, p6, p7, p8, p9⟩ := Z.tab.put n2 n3
  generalize hput : t.put (way t.mask (κ.kd.hash k) n) = pr at p1 p3 p4 p5 p6 p7 p8 p9 ⊢
  obtain ⟨u0, c⟩ := pr
  dsimp only at p1 p3 p4 p5 p6 p7 p8 p9 ⊢
  subst p1
  rw [ite_pull]
  refine wpAny_bind (wpAny_mono (Q := fun _ s2 => s2 = s) ?_ (fun bv s2 e0 => ?_) fun _ _ z => z)
  · by_cases e : u0.plain = true
    · exact wp_if_pos e (κ.byv hx fun _ => rfl)
    · exact wp_if_neg e (wpAny_pure rfl)
  rw [e0]
  obtain ⟨u, hu2⟩ : ∃ u, u = (if bv = true then u0 else { u0 with plain := false }) := ⟨_, rfl⟩
  rw [← hu2]
  have q3 : TabOk u ((hss κ L).take (SetTable.below t.place (way t.mask (κ.kd.hash k) n)) ++ κ.kd.hash k :: (hss κ L).drop (SetTable.below t.place (way t.mask (κ.kd.hash k) n))) := by
    rw [hu2]
    cases bv
    · exact ⟨p3.ris, p3.dm, p3.sz, p3.mok, p3.bd, p3.reach⟩
    · exact p3
  have q4 : u.mask = t.mask := by
    rw [hu2]
    cases bv <;> exact p4
  have q5 : u.led = t.led := by
    rw [hu2]
    cases bv <;> exact p5
  have q9 : u.fill = (hss κ L).length + 1 := by
    rw [hu2]
    cases bv <;> exact p9
  clear p3 p4 p5 p6 p7 p8 p9 hu2
  have p3 := q3
  have p4 := q4
  have p5 := q5
  have p9 := q9
  clear q3 q4 q5 q9
  generalize hc : SetTable.below t.place (way t.mask (κ.kd.hash k) n) = c at p2 p3 ⊢
  have ins : (SetTable.insertAt es c (κ.kd.hash k, Value.ref x)).toList = rws κ (L.take c ++ (x, k) :: L.drop c) := by
    rw [SetTable.toList_insertAt, Z.lst]
    unfold rws
    rw [List.map_append, List.map_cons, List.map_take, List.map_drop]
  have pm := put_perm L c (x, k)
  have hs2 : hss κ (L.take c ++ (x, k) :: L.drop c) = (hss κ L).take c ++ κ.kd.hash k :: (hss κ L).drop c := by
    unfold hss
    rw [List.map_append, List.map_cons, List.map_take, List.map_drop]
  rw [← hs2] at p3
  generalize L.take c ++ (x, k) :: L.drop c = M at ins pm p3
  clear hs2
  have ml : M.length = L.length + 1 := pm.length_eq
  have nd2 : (M.map (·.2)).Nodup := (pm.map (·.2)).nodup_iff.mpr (by
    rw [List.map_cons]
    exact List.nodup_cons.mpr ⟨hm, Z.nd⟩)
  have sz2 := rws_len ins
  rw [ml] at sz2
  generalize SetTable.insertAt es c (κ.kd.hash k, Value.ref x) = us at ins sz2 ⊢
  refine wpAny_bind (wpAny_storeSet_of o1 o3 ?_ (by rw [sz2, sizeLine_eq]; omega))
  have sb : Heap.SameBut a s.heap (s.heap.update a (Obj.putSet us u)) := Heap.SameBut.update ..
  have o4 := store_at (es' := us) (t' := u) o1 o3
  generalize s.heap.update a (Obj.putSet us u) = g at sb o4 ⊢
  have mem2 : ∀ y ∈ M, κ.kd.is g y.2 y.1 := fun y hy => by
    rcases List.mem_cons.mp (pm.mem_iff.mp hy) with e | e
    · rw [e]
      exact ts_stay hx o1 o3 sb
    · exact ts_stay (Z.mem y e) o1 o3 sb
  have led2 : w.params.followText "set-order" = true ∨ u.led = true := by rw [p5]; exact Z.led
  have p10 : u.fill = L.length + 1 := by
    rw [p9]
    unfold hss
    rw [List.length_map]
  by_cases full : u.tooFull = true
  · first
      | (refine wpAny_bind ?_; refine wp_if_pos (by simp [full]) ?_)
      | (refine wp_if_pos (by simp [full]) ?_; refine wpAny_bind ?_)
    have much : (L.length + 1) * 5 ≥ u.mask * 3 := by
      unfold SetTable.tooFull at full
      rw [decide_eq_true_eq, p10] at full
      exact full
    rw [sz]
    have ps : u.place.size = us.size := by
      have e := p3.sz
      unfold hss at e
      rw [List.length_map, ml] at e
      rw [e, sz2]
    have which : (t.mask = 7 ∧ L.length = 4) ∨ (t.mask = 31 ∧ L.length = 18) := by
      rcases Z.tab.mok with e | e | e
      · exact .inl ⟨e, by rw [p4, e] at much; rw [e] at rm; omega⟩
      · exact .inr ⟨e, by rw [p4, e] at much; rw [e] at rm; omega⟩
      · rw [p4, e] at much
        omega
    have go : ∀ m, SetTable.sizeAbove (SetTable.grown (L.length + 1)) - 1 = m → MaskOk m → SetTable.sizeAbove (SetTable.grown (L.length + 1)) ≤ 128 → (L.length + 1) * 5 < m * 3 →
        wpAny (model P w) A (setRelay a (SetTable.grown (L.length + 1))) (fun _ s2 => wpAny (model P w) A (pure true) Q E s2) E { s with heap := g } := fun m y1 y2 y3 y4 => by
      refine ts_relay (s := { s with heap := g }) (L := M) o4 ⟨o2.1, o2.2.1, o2.2.2⟩ rfl ins ps p3.dm (by rw [sz2, p4]; rcases which with ⟨e, e2⟩ | ⟨e, e2⟩ <;> omega) nd2 mem2 led2 (by rw [ml]; exact few) y1 y2 y3 (by rw [ml]; exact y4) ?_
      intro g2 M2 vs e2 v sb2 Z2 pm2
      exact wpAny_pure (q true g2 M2 vs e2 v (sb.trans sb2) Z2 (fun z => absurd z hm) fun _ => pm2.trans pm)
    rcases which with ⟨_, e2⟩ | ⟨_, e2⟩
    · exact go 31 (by rw [e2, size_20]) (.inr (.inl rfl)) (by rw [e2, size_20]; decide) (by omega)
    · exact go 127 (by rw [e2, size_76]) (.inr (.inr rfl)) (by rw [e2, size_76]; decide) (by omega)
  · first
      | refine wp_if_neg (by simp [full]) ?_
      | (refine wpAny_bind ?_; refine wp_if_neg (by simp [full]) ?_; refine wpAny_pure ?_)
    refine wpAny_pure (q true g M us (ep + 1) u sb ⟨⟨_, o4, ⟨o2.1, o2.2.1, o2.2.2⟩, rfl⟩, ins, p3, nd2, mem2, led2, ?_, by rw [ml]; exact few⟩ (fun z => absurd z hm) fun _ => pm)
    unfold SetTable.tooFull at full
    rw [decide_eq_true_eq, p10] at full
    rw [ml]
    omega
end
end Rz
namespace Rz
open PySem PySem.Spec PyProof.Rows L2
section
variable {P : Program} {w : World} {A : Around} {E : Value → Shared → Prop} {s : Shared} {K : Type} [DecidableEq K] {κ : KSet P w K}
/-- what came in from the first i rows -/
structure Came (ks : List (Addr × K)) (i : Nat) (L : List (Addr × K)) : Prop where
  from_ : ∀ q ∈ L, q ∈ ks.take i
  all : ∀ q ∈ ks.take i, q.2 ∈ L.map (·.2)
  few : L.length ≤ i
theorem Came.step {ks L M : List (Addr × K)} {i : Nat} {x : Addr × K} (c : Came ks i L) (h : ks[i]? = some x) (yes : x.2 ∈ L.map (·.2) → M = L) (no : x.2 ∉ L.map (·.2) → M.Perm (x :: L)) : Came ks (i + 1) M := by
  have tk : ks.take (i + 1) = ks.take i ++ [x] := by rw [List.take_add_one, h]; rfl
  by_cases hm : x.2 ∈ L.map (·.2)
  · rw [yes hm]
    refine ⟨fun q hq => ?_, fun q hq => ?_, Nat.le_succ_of_le c.few⟩
    · rw [tk]
      exact List.mem_append_left _ (c.from_ q hq)
    · rw [tk] at hq
      rcases List.mem_append.mp hq with z | z
      · exact c.all q z
      · rw [List.mem_singleton.mp z]
        exact hm
  · have pm := no hm
    refine ⟨fun q hq => ?_, fun q hq => ?_, by rw [pm.length_eq]; exact Nat.succ_le_succ c.few⟩
    · rw [tk]
      rcases List.mem_cons.mp (pm.mem_iff.mp hq) with z | z
      · rw [z]
        exact List.mem_append_right _ (List.mem_singleton.mpr rfl)
      · exact List.mem_append_left _ (c.from_ q z)
    · rw [(pm.map (·.2)).mem_iff, List.map_cons]
      rw [tk] at hq
      rcases List.mem_append.mp hq with z | z
      · exact List.mem_cons_of_mem _ (c.all q z)
      · rw [List.mem_singleton.mp z]
        exact List.mem_cons_self
theorem TsAt.stay {h g : Heap} {a : Addr} {L : List (Addr × K)} {es : Array (Int × Value)} {ep : Nat} {t : SetTable} (Z : TsAt κ h a L es ep t) (ha : ∀ o, h.get? a = some o → g.get? a = some o) (hm : ∀ q ∈ L, κ.kd.is g q.2 q.1) : TsAt κ g a L es ep t :=
  ⟨let ⟨o, e, r⟩ := Z.obj; ⟨o, ha o e, r⟩, Z.lst, Z.tab, Z.nd, hm, Z.led, Z.room, Z.few⟩
theorem ts_fresh {h : Heap} {a : Addr} (e : h.get? a = some { cls := .type "set", dict := none, data := .set #[] 0 (.fresh 0 0 (!w.params.followText "set-order")) }) : TsAt κ h a [] #[] 0 (.fresh 0 0 (!w.params.followText "set-order")) := by
  refine ⟨⟨_, e, ⟨rfl, rfl, rfl⟩, rfl⟩, rfl, ⟨List.Pairwise.nil, rfl, rfl, .inl rfl, fun x hx => (by cases hx), fun i h j hi => (by simp [hss] at hi)⟩, List.nodup_nil, fun q hq => (by cases hq), ?_, by show 0 * 5 < 7 * 3; decide, by show 0 < 64; decide⟩
  show _ ∨ (!w.params.followText "set-order") = true
  cases w.params.followText "set-order"
  · exact .inr rfl
  · exact .inl rfl
/-- the loop that fills the set -/
theorem ts_loop {it : Addr} {fp wr : List Addr} {G : Array GenState → Array GenState → Prop} {n : Nat} {Pv : Nat → Value → Prop} {St : Nat → Shared → Prop} {R : Result → Shared → Prop}
    (W : WalksS P w A.in1 it fp wr G n Pv St) (a : Addr) (out : a ∉ fp) (ks : List (Addr × K)) (hn : n = ks.length) (few : ks.length < 64) (val : ∀ i v, Pv i v → ∃ q, ks[i]? = some q ∧ v = .ref q.1)
    (g0 : Heap) (hk : ∀ q ∈ ks, κ.kd.is g0 q.2 q.1) (new : g0.get? a = none) (newW : ∀ b ∈ wr, g0.get? b = none) (hr : κ.kd.room A.in1) :
    ∀ (m i : Nat) (s : Shared), n - i = m → i ≤ n → St i s → (∀ b o, g0.get? b = some o → s.heap.get? b = some o) → (∃ L es ep t, TsAt κ s.heap a L es ep t ∧ Came ks i L) →
      (∀ s2 L es ep t, Moved (a :: wr) G s s2 → TsAt κ s2.heap a L es ep t → Came ks n L → (∀ b o, g0.get? b = some o → s2.heap.get? b = some o) → R (.ok (.ret .none)) s2) →
      codeAny (model P w) A (.builtin "set.update.loop" ⟨[.ref a, .ref it], []⟩) R s := by
  have out2 : a ∉ wr := fun z => out (W.sub _ z)
  have more : ∀ b ∈ wr, b ∈ a :: wr := fun b hb => List.mem_cons_of_mem _ hb
  have old : ∀ {s1 s2 : Shared}, Moved wr G s1 s2 → (∀ b o, g0.get? b = some o → s1.heap.get? b = some o) → ∀ b o, g0.get? b = some o → s2.heap.get? b = some o := fun mv k b o e =>
    mv.heap b o (fun hb => by rw [newW b hb] at e; cases e) (k b o e)
  have inK : ∀ {i : Nat} {L : List (Addr × K)}, Came ks i L → ∀ q ∈ L, q ∈ ks := fun c q hq => List.mem_of_mem_take (c.from_ q hq)
  intro m
  induction m with
  | zero =>
    intro i s hm hi st k ⟨L, es, ep, t, Z, c⟩ fin
    obtain rfl : i = n := by omega
    refine codeAny_builtin F.entry_set_update_loop ?_
    rw [Around.under_plainId F.plain_set_update_loop _]
    show wpAny _ A.in1 (pyNext (.ref it) >>= _) _ _ s
    refine wpAny_bind (W.done s _ _ st fun s2 mv => ?_)
    show wpAny _ A.in1 (ret Value.none) _ _ s2
    have k2 := old mv k
    exact wpAny_pure (fin s2 L es ep t (mv.mono more) (Z.stay (fun o e => mv.heap a o out2 e) fun q hq => κ.keep (hk q (inK c q hq)) fun o e => k2 _ o e) c k2)
  | succ m ih =>
    intro i s hm hi st k ⟨L, es, ep, t, Z, c⟩ fin
    have lt : i < n := by omega
    refine codeAny_builtin F.entry_set_update_loop ?_
    rw [Around.under_plainId F.plain_set_update_loop _]
    show wpAny _ A.in1 (pyNext (.ref it) >>= _) _ _ s
    refine wpAny_bind (W.item i s _ _ lt st fun v s2 hv st2 mv => ?_)
    obtain ⟨x, hx, rfl⟩ := val i v hv
    have k2 := old mv k
    have Z2 := Z.stay (g := s2.heap) (fun o e => mv.heap a o out2 e) fun q hq => κ.keep (hk q (inK c q hq)) fun o e => k2 _ o e
    have x2 : κ.kd.is s2.heap x.2 x.1 := κ.keep (hk x (List.mem_of_getElem? hx)) fun o e => k2 _ o e
    show wpAny _ A.in1 (holding [Value.ref x.1] (setAdd a (.ref x.1)) >>= _) _ _ s2
    refine wpAny_bind (wpAny_holding ?_)
    unfold setAdd
    refine wpAny_holding (wpAny_bind (κ.kd.pyHash hr x2 ?_))
    refine ts_add (s := { s2 with toks := s2.toks + κ.kd.draws x.2 }) Z2 x2 hr (by have := c.few; omega) fun b g M us e2 u sb Z3 yes no => ?_
    have k3 : ∀ b o, g0.get? b = some o → g.get? b = some o := fun b o e => (sb.2 b (fun z => by rw [z, new] at e; cases e)).trans (k2 b o e)
    refine wpAny_pure ⟨plainId_quiet F.plain_set_update_loop _, ih (i + 1) _ (by omega) lt (W.frame _ s2 _ _ st2 (Nat.le_add_right _ _) fun b hb o e => ?_) k3 ⟨M, us, e2, u, Z3, c.step hx yes no⟩ fun s3 L3 es3 ep3 t3 mv3 Z4 c4 k4 => ?_⟩
    · rw [sb.2 b (fun z : b = a => out (by rw [← z]; exact hb))]
      exact e
    · refine fin s3 L3 es3 ep3 t3 (Moved.trans W.gtrans ((mv.mono more).then_heap (Nat.le_add_right _ _) fun b o hb e => ?_) mv3) Z4 c4 k4
      rw [sb.2 b (fun z : b = a => hb (by rw [z]; exact List.mem_cons_self))]
      exact e
end
end Rz

namespace Rz
open PySem PySem.Spec PyProof.Rows L2
section
variable {P : Program} {w : World} {A : Around} {E : Value → Shared → Prop} {s : Shared} {K : Type} [DecidableEq K] {κ : KSet P w K}
/-- a set that was just made -/
abbrev frK (w : World) : Obj := { cls := .type "set", dict := none, data := .set #[] 0 (.fresh 0 0 (!w.params.followText "set-order")) }
/-- set(xs) of a list -/
theorem call_setK {l : Addr} {items : Array Value} (ks : List (Addr × K)) {Q : Value → Shared → Prop} (hh : A.handled = none) (hl : s.heap.IsList l items) (hit : items.toList = ks.map fun q => Value.ref q.1)
    (hk : ∀ q ∈ ks, κ.kd.is s.heap q.2 q.1) (few : ks.length < 64) (hr : ∀ B : Around, B.units ≤ A.units + 3 → κ.kd.room B)
    (h : ∀ (g : Heap) (tk : Nat) L es ep t, TsAt κ g s.heap.objs.size L es ep t → Came ks ks.length L → (∀ b o, s.heap.get? b = some o → g.get? b = some o) → Q (.ref s.heap.objs.size) { s with heap := g, toks := tk }) :
    wpAny (model P w) A (call (.type "set") [.ref l]) Q E s := by
  have isz : items.size = ks.length := by
    have e := congrArg List.length hit
    rw [Array.length_toList, List.length_map] at e
    exact e
  obtain ⟨c, tl, hmro⟩ := PySem.F.called_set.mro
  have cm := PySem.F.called_set.made
  have cs := PySem.F.called_set.sub
  refine wpAny_call (codeAny_of_tree ?_)
  show wpAny _ _ (callAny (.type "set") _) _ _ _
  refine wpAny_pure ⟨Code.quiet_builtin _ (by decide +kernel), codeAny_builtin PySem.F.entry_type_call ?_⟩
  rw [Around.under_plain (weight_type_call_type "set" [.ref l] []) rfl]
  have cn := PySem.F.called_set.notType
  have cc := PySem.F.called_set.canCreate
  have ct := PySem.F.typeCall_set_1 (.ref l)
  repeat (any_goals (first | assumption | wp_step))
  refine codeAny_mono (code_set_led1 (.ref l) (E := E) (Q₁ := fun u s1 => u = .ref s.heap.objs.size ∧ s1 = { s with heap := s.heap.push (frK w) }) ⟨rfl, rfl⟩) fun r s1 hr1 => ?_
  match r, hr1 with
  | .error e, hr1 => exact hr1
  | .ok .next, hr1 => exact hr1.elim
  | .ok .brk, hr1 => exact hr1.elim
  | .ok .cont, hr1 => exact hr1.elim
  | .ok (.ret u), hr1 =>
    obtain ⟨rfl, rfl⟩ := hr1
    have at0 : (s.heap.push (frK w)).get? s.heap.objs.size = some (frK w) := Heap.get?_push_size _ rfl
    have ty0 : Shared.TypeIs { s with heap := s.heap.push (frK w) } (.ref s.heap.objs.size) "set" := ⟨_, at0, rfl⟩
    have il := PySem.F.called_set.init.lookup
    have ib := PySem.F.called_set.init.bind (.ref s.heap.objs.size)
    repeat (any_goals (first | assumption | wp_step))
    refine codeAny_mono (codeAny_call_builtin (R := wants (fun r s2 => r = .none ∧ ∃ g tk L es ep t, s2 = { s with heap := g, toks := tk } ∧ TsAt κ g s.heap.objs.size L es ep t ∧ Came ks ks.length L ∧
        (∀ b o, s.heap.get? b = some o → g.get? b = some o)) E) PySem.F.called_set.init.plain PySem.F.entry_set_init (check_set_init_1 ty0 ?_)) fun r2 s2 h2 => ?_
    · obtain ⟨ol, e1, e2, n, e3⟩ := id hl
      obtain ⟨oc, od, odt, osl⟩ := ol
      simp only at e2 e3
      subst e2
      subst e3
      have at1 : (s.heap.push (frK w)).get? l = some { cls := .type "list", dict := od, data := .seq items n, slots := osl } := Heap.get?_push_of_some _ e1
      have f1 := PySem.F.sub_list_set
      have f2 := PySem.F.sub_list_frozenset
      have f3 : (Value.type "list" == Value.type "dict") = false := by decide
      have hl1 : (s.heap.push (frK w)).IsList l items := ⟨_, at1, rfl, n, rfl⟩
      unfold Builtin.«set.__init__» noKeywords Builtin.Frozenset.updateFrom
      generalize hPI : pyIter = PI
      wp_walk
      subst hPI
      refine wpAny_pyIter_list hl1 ?_
      refine wpAny_bind (wpAny_runValue ?_)
      have lt := Heap.lt_size e1
      have sz1 : (s.heap.push (frK w)).objs.size = s.heap.objs.size + 1 := Heap.size_push ..
      have calm : A.in1.in1.in1.handled = none := by simp [hh]
      have ne : l ≠ (s.heap.push (frK w)).objs.size := by rw [sz1]; exact Nat.ne_of_lt (Nat.lt_succ_of_lt lt)
      have away : s.heap.objs.size ∉ [(s.heap.push (frK w)).objs.size, l] := by
        rw [sz1]
        simp only [List.mem_cons, List.not_mem_nil, or_false, not_or]
        exact ⟨Nat.ne_of_lt (Nat.lt_succ_self _), Nat.ne_of_gt lt⟩
      have val : ∀ (i : Nat) (v : Value), items[i]? = some v → ∃ q, ks[i]? = some q ∧ v = .ref q.1 := fun i v hv => by
        have e : items.toList[i]? = some v := by rw [Array.getElem?_toList]; exact hv
        rw [hit, List.getElem?_map] at e
        cases e4 : ks[i]? with
        | none => rw [e4] at e; cases e
        | some q =>
          rw [e4] at e
          exact ⟨q, rfl, (Option.some.inj e).symm⟩
      have none_ : ∀ b, s.heap.objs.size ≤ b → s.heap.get? b = none := fun b hb => by
        cases e : s.heap.get? b with
        | none => rfl
        | some o => exact absurd (Nat.lt_of_lt_of_le (Heap.lt_size e) hb) (Nat.lt_irrefl _)
      refine ts_loop ((Walks.list calm _ l ne items).toS) s.heap.objs.size away ks isz few val s.heap hk (none_ _ (Nat.le_refl _)) (fun b hb => none_ b (by
          rw [List.mem_singleton.mp hb, sz1]
          exact Nat.le_succ _)) (hr _ (Nat.le_refl _)) (items.size - 0) 0 _ rfl (Nat.zero_le _)
        ⟨⟨_, Heap.get?_push_size _ rfl, rfl, rfl⟩, (hl1.push _)⟩ (fun b o e => Heap.get?_push_of_some _ (Heap.get?_push_of_some _ e)) ⟨[], #[], 0, _, ts_fresh (Heap.get?_push_of_some _ at0), fun q hq => (by cases hq), fun q hq => (by simp at hq), Nat.le_refl _⟩ fun s3 L es ep t mv Z cm k3 => ?_
      obtain ⟨g, g2, d2, tk, o2⟩ := s3
      obtain rfl : g2 = s.gens := mv.gens
      obtain rfl : d2 = s.drawn := mv.drawn
      obtain rfl : o2 = s.os := mv.os
      show wpAny _ _ _ _ _ _
      refine wpAny_pure ?_
      show wpAny _ _ (ret Value.none) _ _ _
      rw [isz] at cm
      exact wpAny_pure ⟨rfl, g, tk, L, es, ep, t, rfl, Z, cm, k3⟩
    · match r2, h2 with
      | .error e, h2 => exact h2
      | .ok .next, h2 => exact h2.elim
      | .ok .brk, h2 => exact h2.elim
      | .ok .cont, h2 => exact h2.elim
      | .ok (.ret r), h2 =>
        obtain ⟨rfl, g, tk, L, es, ep, t, rfl, Z, cm, k3⟩ := h2
        repeat (any_goals (first | assumption | wp_step))
        exact h _ _ _ _ _ _ Z cm k3
end
end Rz

namespace Rz
open PySem PySem.Spec PyProof.Rows L2
/-! ### tuples of ints and texts: set(xs), sorted(set) -/
section
variable {P : Program} {w : World} {A : Around} {E : Value → Shared → Prop} {s : Shared}
theorem items_mix {k : List Key} {vs : List Value} (h : ItemsAre (mixKind P w) k vs) : ∀ v ∈ vs, (∃ i t, v = Value.int i t) ∨ ∃ x t, v = Value.str x t := by
  induction h with
  | nil => exact fun v hv => by cases hv
  | @cons k0 v0 ks vs h1 _ ih =>
    intro v hv
    rcases List.mem_cons.mp hv with e | e
    · subst e
      rcases keyIs_shape (show keyIs k0 v = true from h1) with ⟨i, t, _, e⟩ | ⟨x, t, _, e⟩
      · exact .inl ⟨i, t, e⟩
      · exact .inr ⟨x, t, e⟩
    · exact ih v e
theorem cls_int (n : Nat) (i : Int) (t : Tok) : ofAClassStatement n (.int i t) = pure false := by
  cases n <;> rfl
theorem cls_str (n : Nat) (x : Str) (t : Tok) : ofAClassStatement n (.str x t) = pure false := by
  cases n <;> rfl
theorem byv_int (n : Nat) (i : Int) (t : Tok) : hashByValue n (.int i t) = pure true := by
  cases n <;> rfl
theorem byv_str (n : Nat) (x : Str) (t : Tok) : hashByValue n (.str x t) = pure false := by
  cases n <;> rfl
theorem cls_mix {k : List Key} {b : Addr} {Q : Bool → Shared → Prop} (hk : IsTupleKey (mixKind P w) s.heap k b) (q : Q false s) : wpAny (model P w) A (ofAClassStatement 8 (.ref b)) Q E s := by
  have ty := hk.typeIs
  obtain ⟨o, items, n, e1, _, e2, hi⟩ := hk
  unfold ofAClassStatement
  refine wpAny_bind (wpAny_typeOf ty ?_)
  dsimp only
  have e3 : (("tuple" : String) == "tuple") = true := by decide
  simp only [e3, if_true, Bool.not_true, Bool.false_eq_true, if_false]
  try refine wpAny_bind (wpAny_pure ?_)
  try simp only [Bool.not_true, Bool.false_eq_true, if_false]
  show wpAny _ _ (seqItems? (.ref b) >>= _) _ _ s
  refine wpAny_bind (wpAny_seqItems e1 e2 ?_)
  dsimp only
  refine wpAny_bind ?_
  show wpAny _ _ (forIn items _ _) _ _ s
  rw [← Array.forIn_toList]
  refine wpAny_forIn_list _ (fun todo r s2 => r.1 = none ∧ s2 = s ∧ ∀ v ∈ todo, (∃ i t, v = Value.int i t) ∨ ∃ x t, v = Value.str x t) _ ?_ ?_ _ _ ⟨rfl, rfl, items_mix hi⟩
  · rintro v todo r s2 ⟨h1, rfl, h2⟩
    have h3 := fun u hu => h2 u (List.mem_cons_of_mem _ hu)
    rcases h2 v List.mem_cons_self with ⟨i, t, rfl⟩ | ⟨x, t, rfl⟩
    · rw [cls_int]
      refine wpAny_bind (wpAny_pure ?_)
      rw [if_neg (by decide)]
      exact wpAny_pure ⟨rfl, rfl, h3⟩
    · rw [cls_str]
      refine wpAny_bind (wpAny_pure ?_)
      rw [if_neg (by decide)]
      exact wpAny_pure ⟨rfl, rfl, h3⟩
  · rintro ⟨r1, r2⟩ s2 ⟨h1, rfl, _⟩
    simp only at h1
    subst h1
    exact wpAny_pure q
theorem byv_mix {k : List Key} {b : Addr} {Q : Bool → Shared → Prop} (hk : IsTupleKey (mixKind P w) s.heap k b) (q : ∀ v, Q v s) : wpAny (model P w) A (hashByValue 8 (.ref b)) Q E s := by
  have ty := hk.typeIs
  obtain ⟨o, items, n, e1, _, e2, hi⟩ := hk
  unfold hashByValue
  refine wpAny_bind (wpAny_specialOf ty PySem.F.slot_tuple_hash.lookup ?_)
  show wpAny _ _ (seqItems? (.ref b) >>= _) _ _ s
  refine wpAny_bind (wpAny_seqItems e1 e2 ?_)
  refine wpAny_bind ?_
  show wpAny _ _ (forIn items _ _) _ _ s
  rw [← Array.forIn_toList]
  refine wpAny_forIn_list _ (fun todo r s2 => s2 = s ∧ (r.1 = none ∨ r.1 = some false) ∧ ∀ v ∈ todo, (∃ i t, v = Value.int i t) ∨ ∃ x t, v = Value.str x t) _ ?_ ?_ _ _ ⟨rfl, .inl rfl, items_mix hi⟩
  · rintro v todo r s2 ⟨rfl, h1, h2⟩
    have h3 := fun u hu => h2 u (List.mem_cons_of_mem _ hu)
    rcases h2 v List.mem_cons_self with ⟨i, t, rfl⟩ | ⟨x, t, rfl⟩
    · rw [byv_int]
      refine wpAny_bind (wpAny_pure ?_)
      rw [if_neg (by decide)]
      exact wpAny_pure ⟨rfl, .inl rfl, h3⟩
    · rw [byv_str]
      refine wpAny_bind (wpAny_pure ?_)
      rw [if_pos (by decide)]
      refine wpAny_pure ?_
      show wpAny _ _ (pure false) _ _ _
      exact wpAny_pure (q false)
  · rintro ⟨r1, r2⟩ s2 ⟨rfl, h1, _⟩
    simp only at h1
    rcases h1 with rfl | rfl
    · exact wpAny_pure (q true)
    · exact wpAny_pure (q false)
/-- the keys of such tuples -/
def tkS (P : Program) (w : World) : KSet P w (List Key) where
  kd := tupleKind (mixKind P w)
  keep := fun hk k => let ⟨o, items, n, e, r⟩ := hk; ⟨o, items, n, k o e, r⟩
  noSet := fun hk ho hd => by
    obtain ⟨o2, items, n, e1, _, e2, _⟩ := hk
    rw [ho] at e1
    cases e1
    rw [hd] at e2
    cases e2
  cls := fun hk q => cls_mix hk q
  byv := fun hk q => byv_mix hk q
/-- a key as the sort sees it -/
def kN : Key → Int ⊕ List Nat
  | .inl i => .inl i
  | .inr x => .inr x.cps.toList
def kLt (a b : List Key) : Bool := (listOrd itemOrd).blt (a.map kN) (b.map kN)
/-- texts just where the shape has them -/
def Fits (sh : Nat → Bool) : Nat → List Key → Prop
  | _, [] => True
  | i, .inl _ :: r => sh i = false ∧ Fits sh (i + 1) r
  | i, .inr _ :: r => sh i = true ∧ Fits sh (i + 1) r
theorem tup_items {sh : Nat → Bool} : ∀ {k : List Key} {vs : List Value} {i : Nat}, ItemsAre (mixKind P w) k vs → Fits sh i k → tupItems sh i vs = some (k.map kN)
  | _, _, _, .nil, _ => rfl
  | .inl n :: r, _, i, .cons h1 h2, ⟨f1, f2⟩ => by
    rcases keyIs_shape (show keyIs (.inl n) _ = true from h1) with ⟨j, t, e1, rfl⟩ | ⟨x, t, e1, _⟩
    · cases e1
      show (if sh i = true then none else (tupItems sh (i + 1) _).map (Sum.inl n :: ·)) = _
      rw [f1, if_neg Bool.false_ne_true, tup_items h2 f2]
      rfl
    · cases e1
  | .inr x :: r, _, i, .cons h1 h2, ⟨f1, f2⟩ => by
    rcases keyIs_shape (show keyIs (.inr x) _ = true from h1) with ⟨j, t, e1, _⟩ | ⟨y, t, e1, rfl⟩
    · cases e1
    · cases e1
      show (if sh i = true then (tupItems sh (i + 1) _).map (Sum.inr x.cps.toList :: ·) else none) = _
      rw [f1, if_pos rfl, tup_items h2 f2]
      rfl
theorem keyC_of {sh : Nat → Bool} {h : Heap} {k : List Key} {b : Addr} (hk : IsTupleKey (mixKind P w) h k b) (f : Fits sh 0 k) : G.tupKeyC h sh (.ref b) = some (k.map kN) := by
  obtain ⟨o, items, n, e1, e2, e3, hi⟩ := hk
  unfold G.tupKeyC
  have t : G.isTupObj h (.ref b) = true := by
    unfold G.isTupObj
    show (match h.get? b with | some o => (match o.cls with | .type n => n == "tuple" | _ => false) | none => false) = true
    rw [e1]
    dsimp only
    rw [e2]
    rfl
  rw [if_pos t]
  show (match h.get? b with | some o => (match o.data with | .seq xs _ => tupItems sh 0 xs.toList | _ => none) | none => none) = _
  rw [e1]
  dsimp only
  rw [e3]
  exact tup_items hi f
end
end Rz

namespace Rz
open PySem PySem.Spec PyProof.Rows L2
/-! ### sorted(set) of tuples of ints and texts -/
theorem rows_of {K : Type} {L : List (Addr × K)} : ∀ {vs : List Value}, (∀ v ∈ vs, ∃ q ∈ L, v = Value.ref q.1) → ∃ M : List (Addr × K), vs = M.map (fun q => Value.ref q.1) ∧ ∀ q ∈ M, q ∈ L
  | [], _ => ⟨[], rfl, fun q hq => by cases hq⟩
  | v :: vs, h => by
    obtain ⟨q, hq, e⟩ := h v List.mem_cons_self
    obtain ⟨M, e2, m⟩ := rows_of (vs := vs) fun u hu => h u (List.mem_cons_of_mem _ hu)
    refine ⟨q :: M, by rw [List.map_cons, e, e2], fun r hr => ?_⟩
    rcases List.mem_cons.mp hr with z | z
    · rw [z]
      exact hq
    · exact m r z
theorem rows_perm {K : Type} {L M : List (Addr × K)} (nd : (L.map (·.2)).Nodup) (inj : ∀ q ∈ L, ∀ r ∈ L, q.1 = r.1 → q = r) (sub : ∀ q ∈ M, q ∈ L) (pm : (M.map fun q => Value.ref q.1).Perm (L.map fun q => Value.ref q.1)) : M.Perm L := by
  have nL : L.Nodup := List.Pairwise.of_map (·.2) (fun _ _ n e => n (congrArg _ e)) nd
  have nR : (L.map fun q => Value.ref q.1).Nodup := List.pairwise_map.mpr (List.Pairwise.imp_of_mem (fun {q r} hq hr n e => by
    injection e with e
    exact n (inj q hq r hr e)) nL)
  have nM : M.Nodup := List.Pairwise.of_map (fun q => Value.ref q.1) (fun _ _ n e => n (congrArg (fun q : Addr × K => Value.ref q.1) e)) (pm.nodup_iff.mpr nR)
  refine (List.perm_ext_iff_of_nodup nM nL).mpr fun q => ⟨sub q, fun hq => ?_⟩
  obtain ⟨r, hr, e⟩ := List.mem_map.mp (pm.mem_iff.mpr (List.mem_map.mpr ⟨q, hq, rfl⟩))
  injection e with e
  rw [← inj r (sub r hr) q hq e]
  exact hr
section
variable {P : Program} {w : World} {A : Around} {E : Value → Shared → Prop} {s : Shared}
theorem first_of {sh : Nat → Bool} {h : Heap} {k : List Key} {b : Addr} (hk : IsTupleKey (mixKind P w) h k b) (f : Fits sh 0 k) (ne : k ≠ []) : ∃ v, TupOf h sh (.ref b) v := by
  obtain ⟨o, items, n, e1, e2, e3, hi⟩ := hk
  generalize hl : items.toList = vs at hi
  cases hi with
  | nil => exact absurd rfl ne
  | @cons k0 v0 r us h1 h2 =>
    have at0 : items[0]? = some v0 := by
      rw [← Array.getElem?_toList, hl]
      rfl
    cases k0 with
    | inl i =>
      rcases keyIs_shape (show keyIs (.inl i) v0 = true from h1) with ⟨j, t, e4, e5⟩ | ⟨x, t, e4, _⟩
      · exact ⟨v0, b, o, items, n, rfl, e1, e2, e3, at0, fun _ => ⟨j, t, e5⟩, fun z => by rw [f.1] at z; cases z⟩
      · cases e4
    | inr y =>
      rcases keyIs_shape (show keyIs (.inr y) v0 = true from h1) with ⟨j, t, e4, _⟩ | ⟨x, t, e4, e5⟩
      · cases e4
      · exact ⟨v0, b, o, items, n, rfl, e1, e2, e3, at0, (fun z => by rw [f.1] at z; cases z), fun _ => ⟨x, t, e5⟩⟩
theorem tups_of {sh : Nat → Bool} {h : Heap} : ∀ {vs : List Value}, (∀ v ∈ vs, ∃ f, TupOf h sh v f) → ∃ fs, TupsOf h sh vs fs
  | [], _ => ⟨[], .nil⟩
  | v :: vs, hv => by
    obtain ⟨f, hf⟩ := hv v List.mem_cons_self
    obtain ⟨fs, hfs⟩ := tups_of (vs := vs) fun u hu => hv u (List.mem_cons_of_mem _ hu)
    exact ⟨f :: fs, .cons hf hfs⟩
theorem sorted_tsK {a : Addr} {L : List (Addr × List Key)} {es : Array (Int × Value)} {ep : Nat} {t : SetTable} {sh : Nat → Bool} {Q : Value → Shared → Prop} (Z : TsAt (tkS P w) s.heap a L es ep t) (hh : A.handled = none) (hf : ∀ q ∈ L, Fits sh 0 q.2 ∧ q.2 ≠ [])
    (hQ : ∀ (s2 : Shared) (p : Addr) (out : Array Value) (c : Nat) (M : List (Addr × List Key)), (∀ b o, s.heap.get? b = some o → s2.heap.get? b = some o) → s2.gens = s.gens → s2.os = s.os → s.heap.objs.size ≤ p →
      s2.heap.get? p = some (seqObj "list" out c) → out.toList = M.map (fun q => Value.ref q.1) → M.Perm L → M.Pairwise (fun q r => kLt r.2 q.2 = false) → Q (.ref p) s2) :
    wpAny (model P w) A (call (.builtin "sorted") [.ref a]) Q E s := by
  obtain ⟨o, e1, e2, e3⟩ := Z.obj
  have sz := rws_len Z.lst
  have few := Z.few
  refine Calls.call_function_entry kind_sorted plain_sorted entry_sorted (args_sorted1 _) ?_
  unfold Builtin.«sorted»
  refine wpAny_bind (m := checkCount "sorted" 1 1 _) (wpAny_pure ?_)
  refine wpAny_bind (collect_set (A := A.in1) hh ⟨o, e1, e2.1, e3⟩ Z.fit (by unfold scanBound; omega) Z.tab.ris Z.led fun s1 vs k1 z1 g1 o1 pv => ?_)
  have pv : vs.Perm (L.map fun q => Value.ref q.1) := by
    rw [Z.lst] at pv
    unfold rws at pv
    rw [List.map_map] at pv
    exact pv
  have vl : vs.length = L.length := by rw [pv.length_eq, List.length_map]
  refine wpAny_bind (wpAny_newList ?_ (by rw [vl, sizeLine_eq]; omega))
  have at1 : (s1.heap.push (seqObj "list" vs.toArray 0)).get? s1.heap.objs.size = some (seqObj "list" vs.toArray 0) := Heap.get?_push_size _ rfl
  have kept : ∀ q ∈ L, IsTupleKey (mixKind P w) (s1.heap.push (seqObj "list" vs.toArray 0)) q.2 q.1 := fun q hq => (tkS P w).keep (Z.mem q hq) fun u e => Heap.get?_push_of_some _ (k1 _ u e)
  have which : ∀ v ∈ vs, ∃ q ∈ L, v = Value.ref q.1 := fun v hv => by
    obtain ⟨q, hq, e⟩ := List.mem_map.mp (pv.mem_iff.mp hv)
    exact ⟨q, hq, e.symm⟩
  obtain ⟨fs, hfs⟩ := tups_of (sh := sh) (h := s1.heap.push (seqObj "list" vs.toArray 0)) (vs := vs) fun v hv => by
    obtain ⟨q, hq, rfl⟩ := which v hv
    exact first_of (kept q hq) (hf q hq).1 (hf q hq).2
  have keys : ∀ v ∈ vs, ∃ q ∈ L, v = Value.ref q.1 ∧ G.tupKeyC (s1.heap.push (seqObj "list" vs.toArray 0)) sh v = some (q.2.map kN) := fun v hv => by
    obtain ⟨q, hq, rfl⟩ := which v hv
    exact ⟨q, hq, rfl, keyC_of (kept q hq) (hf q hq).1⟩
  refine wpAny_bind (wpAny_holding (wpAny_call_entry slot_list_sort ⟨_, at1, rfl⟩ entry_list_sort (G.list_sort_tups (s := { s1 with heap := s1.heap.push (seqObj "list" vs.toArray 0) }) at1 hfs (fun v hv => let ⟨q, _, _, e⟩ := keys v hv; ⟨_, e⟩) (by rw [vl, sizeLine_eq]; omega) fun st hp hs _ => ⟨_, rfl, ?_⟩) (args_list_sort _)))
  have hl : (arrOf st).toList.Perm (vs.zip vs) := by rw [← pairsOf_toList]; exact Array.perm_iff_toList_perm.mp hp
  have pr : ∀ p ∈ (arrOf st).toList, p.1 = p.2 ∧ p.1 ∈ vs := fun p hp2 => mem_zip_self (hl.mem_iff.mp hp2)
  obtain ⟨c, hc⟩ := sortedHeap_at (vs := vs) (out := (arrOf st).map (·.2)) at1
  have outs : ((arrOf st).map (·.2)).toList.Perm vs := by
    rw [Array.toList_map]
    have y := hl.map (fun p : Value × Value => p.2)
    rw [show (vs.zip vs).map (fun p : Value × Value => p.2) = vs from List.map_snd_zip (Nat.le_refl _)] at y
    exact y
  obtain ⟨M, eM, sub⟩ := rows_of (L := L) (vs := ((arrOf st).map (·.2)).toList) fun v hv => which v (outs.mem_iff.mp hv)
  have inj : ∀ q ∈ L, ∀ r ∈ L, q.1 = r.1 → q = r := fun q hq r hr e => by
    have y1 := Z.mem q hq
    rw [e] at y1
    exact Prod.ext e ((tkS P w).kd.inj y1 (Z.mem r hr))
  have pM : M.Perm L := rows_perm Z.nd inj sub (by rw [← eM]; exact outs.trans pv)
  refine wpAny_pure ⟨_, rfl, hQ _ s1.heap.objs.size _ c M (fun b u e => ?_) g1 o1 z1 hc eM pM ?_⟩
  · have y := k1 b u e
    have lt := Heap.lt_size y
    show (sortedHeap (s1.heap.push (seqObj "list" vs.toArray 0)) s1.heap.objs.size vs _).get? b = some u
    rw [sortedHeap_old (Nat.ne_of_lt lt) (by rw [size_push']; exact Nat.lt_succ_of_lt lt)]
    exact Heap.get?_push_of_some _ y
  · rw [List.pairwise_iff_getElem]
    intro i j hi hj hij
    have ln : (arrOf st).size = M.length := by
      have y := congrArg List.length eM
      rw [Array.length_toList, Array.size_map, List.length_map] at y
      exact y
    have kk : ∀ (n : Nat) (hn : n < M.length), KK (G.tupKindC (s1.heap.push (seqObj "list" vs.toArray 0)) sh) (arrOf st) n = (M[n]).2.map kN := fun n hn => by
      have hn2 : n < (arrOf st).size := by rw [ln]; exact hn
      have e5 : (arrOf st)[n]? = some (arrOf st)[n] := Array.getElem?_eq_getElem hn2
      have inA : (arrOf st)[n] ∈ (arrOf st).toList := Array.mem_toList_iff.mpr (Array.getElem_mem hn2)
      obtain ⟨y1, y2⟩ := pr _ inA
      have e6 : (arrOf st)[n].2 = Value.ref (M[n]).1 := by
        have z := congrArg (fun l : List Value => l[n]?) eM
        simp only [Array.toList_map, List.getElem?_map, Array.getElem?_toList, e5, List.getElem?_eq_getElem hn] at z
        exact Option.some.inj z
      have key := keyC_of (kept _ (sub _ (List.getElem_mem hn))) (hf _ (sub _ (List.getElem_mem hn))).1
      unfold KK
      rw [e5]
      dsimp only
      rw [y1, e6, key]
      rfl
    have y := hs i j (Nat.le_of_lt hij) (by rw [pairsOf_size, vl, ← pM.length_eq]; exact hj)
    rw [kk i hi, kk j hj] at y
    exact y
end
end Rz

namespace Rz
open PySem PySem.Spec PyProof.Rows L2
/-! ### .. as rules -/
/-- the set at a, its tuples aside -/
def Ts0 (P : Program) (w : World) (h : Heap) (a : Addr) (L : List (Addr × List Key)) : Prop :=
  ∃ (es : Array (Int × Value)) (ep : Nat) (t : SetTable), (∃ o, h.get? a = some o ∧ o.ExactSet ∧ o.data = .set es ep t) ∧ es.toList = rws (tkS P w) L ∧ TabOk t (hss (tkS P w) L) ∧ (L.map (·.2)).Nodup ∧
    (w.params.followText "set-order" = true ∨ t.led = true) ∧ L.length * 5 < t.mask * 3 ∧ L.length < 64
def TsO (P : Program) (w : World) (a : Addr) (L : List (Addr × List Key)) : HO := .ext fun h => Ts0 P w h a L
theorem tsO_ok {P : Program} {w : World} {H : Hp} {h : Heap} {a : Addr} {L : List (Addr × List Key)} (x : Ts0 P w h a L) : ObjOk P w H h a (TsO P w a L) := by
  have x0 := x
  obtain ⟨es, ep, t, ⟨o, e, _⟩, _⟩ := x0
  refine ⟨x, ⟨o, e⟩, fun h1 h2 q k => ?_⟩
  obtain ⟨es, ep, t, ⟨o, e, r⟩, q2⟩ := (show Ts0 P w h1 a L from q)
  exact ⟨es, ep, t, ⟨o, k o e, r⟩, q2⟩
theorem items_vals {P : Program} {w : World} : ∀ {k : List Key} {us : List Value}, Vals (k.map kV) us → ItemsAre (mixKind P w) k us
  | [], _, .nil => .nil
  | .inl n :: k, _, .cons r t => by
    obtain ⟨tk, rfl⟩ := (show ∃ t, _ = Value.int n t from r)
    exact .cons (mixKind_int P w n tk) (items_vals t)
  | .inr x :: k, _, .cons r t => by
    obtain ⟨tk, rfl⟩ := (show ∃ t, _ = Value.str x t from r)
    exact .cons (mixKind_str P w x tk) (items_vals t)
theorem refs_vals : ∀ {ks : List (Addr × List Key)} {us : List Value}, Vals (ks.map fun p => V.ref p.1) us → us = ks.map fun p => Value.ref p.1
  | [], _, .nil => rfl
  | p :: ks, _, .cons r t => by
    cases r
    rw [refs_vals t]
    rfl
theorem vals_refs : ∀ (ks : List (Addr × List Key)), Vals (ks.map fun p => V.ref p.1) (ks.map fun p => Value.ref p.1)
  | [] => .nil
  | p :: ks => .cons rfl (vals_refs ks)
def rSetTs (K : PySem.W.Frag) (P : Program) (w : World) : List V → Hp → VK → Prop := fun xs H Q => ∃ (l : Addr) (ks : List (Addr × List Key)), xs = [V.ref l] ∧ SqL K H l (ks.map fun p => V.ref p.1) ∧ (∀ p ∈ ks, SqT K H p.1 (p.2.map kV)) ∧ ks.length < 64 ∧
  ∀ a L, H a = none → (∀ p ∈ L, p ∈ ks) → (∀ p ∈ ks, p.2 ∈ L.map (·.2)) → (L.map (·.2)).Nodup → L.length < 64 → Q (.ref a) (upd H a (TsO P w a L))
def rSortTs (K : PySem.W.Frag) (P : Program) (w : World) : List V → Hp → VK → Prop := fun vs H Q => ∃ (a : Addr) (L : List (Addr × List Key)) (sh : Nat → Bool), vs = [V.ref a] ∧ H a = some (TsO P w a L) ∧ (∀ p ∈ L, SqT K H p.1 (p.2.map kV)) ∧ (∀ p ∈ L, Fits sh 0 p.2 ∧ p.2 ≠ []) ∧
  ∀ (M : List (Addr × List Key)) (p : Addr), M.Perm L → M.Pairwise (fun q r => kLt r.2 q.2 = false) → H p = none → Q (.ref p) (upd H p (.lst (M.map fun q => V.ref q.1)))
section
variable {X : Cx}
theorem inv_key {pins : List (Addr × Obj)} {σ : L2.St} {H : Hp} {s : Shared} {b : Addr} {k : List Key} (I : Inv X pins σ H s) (h : SqT X.K H b (k.map kV)) : IsTupleKey (mixKind X.prog X.w) s.heap k b := by
  obtain ⟨its, r, ⟨o, ho, hc, n, hd⟩, _⟩ := I.tuple h
  exact ⟨o, its.toArray, n, ho, hc, hd, by simpa using items_vals r⟩
theorem cr_setTs (hc : X.calm = true) (hu : X.A.units + 64 < cLine) : CallR X (.type "set") (rSetTs X.K X.prog X.w) := by
  intro pins s σ H xs us Q I r h
  obtain ⟨l, ks, rfl, hl, hk, few, q⟩ := h
  rw [Vals.ref1 r]
  obtain ⟨its, rv, pl, hz⟩ := I.list hl
  have hn : H s.heap.objs.size = none := I.hok.fresh (Nat.le_refl _)
  refine call_setK (κ := tkS X.prog X.w) ks (I.ok.hd hc) pl.isList (by simpa using refs_vals rv) (fun p hp => inv_key I (hk p hp)) few (fun B hB => ?_) fun g tk L es ep t Z cm k => ?_
  · show B.units < cLine
    omega
  · have t0 : Ts0 X.prog X.w g s.heap.objs.size L := ⟨es, ep, t, Z.obj, Z.lst, Z.tab, Z.nd, Z.led, Z.room, Z.few⟩
    refine ⟨.ref s.heap.objs.size, upd H s.heap.objs.size (TsO X.prog X.w s.heap.objs.size L), I.laid (t' := tk) k (Nat.le_refl _) (tsO_ok t0), rfl, q _ L hn (fun p hp => ?_) (fun p hp => ?_) Z.nd Z.few⟩
    · exact List.mem_of_mem_take (cm.from_ p hp)
    · exact cm.all p (by rw [List.take_length]; exact hp)
theorem cr_sortTs (hc : X.calm = true) : CallR X (.builtin "sorted") (rSortTs X.K X.prog X.w) := by
  intro pins s σ H vs us Q I r h
  obtain ⟨a, L, sh, rfl, ha, hk, hf, q⟩ := h
  obtain ⟨es, ep, t, z1, z2, z3, z4, z5, z6, z7⟩ := (show Ts0 X.prog X.w s.heap a L from (I.hok a _ ha).1)
  rw [Vals.ref1 r]
  refine sorted_tsK (sh := sh) ⟨z1, z2, z3, z4, fun p hp => inv_key I (hk p hp), z5, z6, z7⟩ (I.ok.hd hc) hf fun s2 p out c M k g o hp hg hout pm pw => ?_
  have hlen : (M.map fun q => V.ref q.1).length ≤ sizeLine := by rw [List.length_map, pm.length_eq, sizeLine_eq]; omega
  have hn : H p = none := I.hok.fresh hp
  have J : Inv X pins σ (upd H p (.lst (M.map fun q => V.ref q.1))) { s with heap := s2.heap, gens := s2.gens, drawn := s2.drawn, toks := s2.toks } :=
    I.call (ch := []) (Un.laid k hp hn) (I.hok.laid k hp ⟨hlen, out.toList, c, by rw [hout]; exact vals_refs M, hg⟩) (by rw [g]; exact I.bare) (fun _ z => nomatch z)
  have e : s2 = { s with heap := s2.heap, gens := s2.gens, drawn := s2.drawn, toks := s2.toks } := by
    obtain ⟨_, _, _, _, _⟩ := s2
    obtain rfl := o
    rfl
  rw [e]
  exact ⟨.ref p, _, J, rfl, q M p pm pw hn⟩
end
theorem kN_inj : ∀ {a b : Key}, kN a = kN b → a = b
  | .inl i, .inl j, h => by
    injection h with h
    rw [h]
  | .inl _, .inr _, h => by cases h
  | .inr _, .inl _, h => by cases h
  | .inr x, .inr y, h => by
    injection h with h
    have e : x.cps = y.cps := Array.toList_inj.mp h
    cases x
    cases y
    exact congrArg (fun z => Sum.inr (PySem.Str.mk z)) e
theorem kNs_inj : ∀ {a b : List Key}, a.map kN = b.map kN → a = b
  | [], [], _ => rfl
  | [], _ :: _, h => by cases h
  | _ :: _, [], h => by cases h
  | x :: a, y :: b, h => by
    rw [List.map_cons, List.map_cons] at h
    injection h with h1 h2
    rw [kN_inj h1, kNs_inj h2]
theorem kLt_total {a b : List Key} (h1 : kLt a b = false) (h2 : kLt b a = false) : a = b := kNs_inj ((listOrd itemOrd).total _ _ h1 h2)
/-- there is one such list -/
theorem keys_one : ∀ {a b : List (List Key)}, a.Pairwise (fun q r => kLt r q = false) → b.Pairwise (fun q r => kLt r q = false) → a.Nodup → b.Nodup → (∀ x, x ∈ a ↔ x ∈ b) → a = b
  | [], [], _, _, _, _, _ => rfl
  | [], y :: b, _, _, _, _, h => absurd ((h y).mpr List.mem_cons_self) (by simp)
  | x :: a, [], _, _, _, _, h => absurd ((h x).mp List.mem_cons_self) (by simp)
  | x :: a, y :: b, ha, hb, na, nb, h => by
    obtain ⟨a1, a2⟩ := List.pairwise_cons.mp ha
    obtain ⟨b1, b2⟩ := List.pairwise_cons.mp hb
    obtain ⟨c1, c2⟩ := List.nodup_cons.mp na
    obtain ⟨d1, d2⟩ := List.nodup_cons.mp nb
    have e : x = y := by
      rcases List.mem_cons.mp ((h y).mpr List.mem_cons_self) with e | e
      · exact e.symm
      · rcases List.mem_cons.mp ((h x).mp List.mem_cons_self) with f | f
        · exact f
        · exact kLt_total (b1 x f) (a1 y e)
    subst e
    refine congrArg (x :: ·) (keys_one a2 b2 c2 d2 fun z => ⟨fun hz => ?_, fun hz => ?_⟩)
    · rcases List.mem_cons.mp ((h z).mp (List.mem_cons_of_mem _ hz)) with f | f
      · exact absurd (f ▸ hz) c1
      · exact f
    · rcases List.mem_cons.mp ((h z).mpr (List.mem_cons_of_mem _ hz)) with f | f
      · exact absurd (f ▸ hz) d1
      · exact f
end Rz

namespace Rz
open PySem PySem.Spec PyProof.Rows L2
/-! ### name = {k: v for ..} on one line, the name a local -/
theorem dsw_true {kx vx : Expr} {gs : List Comprehension} {scope : Scope} {po py : Pos} {y : Str} {l : Nat} {env : Env} (h1 : env.scope.kind = .function) (h2 : env.scope.names.lookup y = some .local) (h3 : (py.line == po.line) = true)
    (h4 : (scope.names.any fun (n, k) => n == y && (k == .local || k == .cell)) = false) : swapsWith (.DictComp kx vx gs scope po) (some (.Name y py)) l env = pure true := by
  have e1 : env.kindOf y = some .local := h2
  have e2 : env.blockKind = .function := by unfold Env.blockKind; rw [h1]; rfl
  unfold swapsWith
  simp only [e2, e1, h4, Expr.pos, h3]
  rfl
theorem ps_setDc {X : Cx} {i : Nat} {y : Str} {py : Pos} {kx vx tg it : Expr} {ifs : List Expr} {scope : Scope} {own : List (Str × Nat)} {po spo : Pos} {wi : TI} {g : TG} {tt : TT} {tk tv : TE} (calm : X.calm = true) (nd : X.N.Nodup) (hy : X.N[i]? = some y) (hyl : X.env.scope.names.lookup y = some .local)
    (hsw : swapsWith (.DictComp kx vx [⟨tg, it, ifs, 0⟩] scope po) (some (.Name y py)) spo.line X.env = pure true) (hi : PI X tg it wi) (bk : BlkOk X.N X.env.scope scope own)
    (hg : ∀ (s : Shared) (H : Hp) (C : Addr) (cl : List (Str × Addr)) (fp : List Addr), PG (X.blk s H scope (compEnvC scope cl C X.env) fp) tg g) (ht : ∀ (s : Shared) (H : Hp) (C : Addr) (cl : List (Str × Addr)) (fp : List Addr), PTs (X.blk s H scope (compEnvC scope cl C X.env) fp) ifs tt)
    (hk : ∀ (s : Shared) (H : Hp) (C : Addr) (cl : List (Str × Addr)) (fp : List Addr), PE (X.blk s H scope (compEnvC scope cl C X.env) fp) kx tk) (hv : ∀ (s : Shared) (H : Hp) (C : Addr) (cl : List (Str × Addr)) (fp : List Addr), PE (X.blk s H scope (compEnvC scope cl C X.env) fp) vx tv)
    (hs : ∀ x, foldedSetIterable it X.env x = pure x := by intro _; rfl) :
    PS X (.Assign [.Name y py] (.DictComp kx vx [⟨tg, it, ifs, 0⟩] scope po) spo) (tAsg (tDc wi g tt tk tv (own.map (·.2))) (gName i)) := by
  refine ⟨fun pins s σ H D I h => ?_⟩
  rw [exec_Assign_Name_used _ _ _ _ hsw]
  refine wpAny_bind (wpAny_standAt (wpAny_bind ?_))
  show wpAny _ X.A (do let _ ← comprehension (.DictComp kx vx [⟨tg, it, ifs, 0⟩] scope po) scope X.env (firstIterPos [⟨tg, it, ifs, 0⟩] po) newDict false (eval it X.env) (some (assign (.Name y py) X.env))) _ _ s
  have h : tDc wi g tt tk tv (own.map (·.2)) σ H (fun v H1 => gName i v σ H1 D.nx) := h
  refine wpAny_bind (thn (dc_core (Qf := fun _ sz => SP X pins D .next sz) calm nd I hi bk hg ht hk hv hs h fun L C sz m G Iz q hn fpk => ?_) fun _ sz hz => wpAny_pure (wpAny_pure hz))
  show wpAny _ _ (assign (.Name y py) X.env (.ref L)) _ _ _
  refine wpAny_assign_Name (store_ok2 (v := V.ref L) Iz nd hy (.inl hyl) rfl (fun s2 I2 ⟨a, same, ha⟩ => ?_) (.inr hyl))
  obtain ⟨f0, f1, f2, f3, f4, f5⟩ := fpk
  have ne : C ≠ a := by
    rcases ha with z | z
    · rw [z]; exact f1
    · exact fun q => f4 y a z q.symm
  exact ⟨m, hn.sameBut same ne, fun g3 same3 => ⟨_, G, I2.turned (t' := s2.toks) (fun c o hc z => (same3.2 c hc).trans z) f0 f1 f3 f4 f5, q⟩⟩
/-- over a list that stays -/
theorem dc_list {K : PySem.W.Frag} {a : Addr} {xs : List V} {g : TG} {tt : TT} {tk tv : TE} {vs : List Nat} {σ : L2.St} {H1 : Hp} {D : Addr} {Qd : Hp → Prop} (Pv : Nat → Hp → Prop) (h0 : Pv 0 (upd H1 D (.dK []))) (hl : ∀ i H, i ≤ xs.length → Pv i H → SqL K H a xs)
    (hs : ∀ i x H, xs[i]? = some x → Pv i H → g x (wipe σ vs) H fun σ2 H2 => wipe σ2 vs = wipe σ vs ∧ tt σ2 H2 fun b H3 =>
      if b = true then tk σ2 H3 fun y H4 => tv σ2 H4 fun z H5 => ∃ kvs k, y = kV k ∧ H5 D = some (.dK kvs) ∧ kvs.length < sizeLine ∧ Pv (i + 1) (upd H5 D (.dK (putK kvs k z))) else Pv (i + 1) H3) (hd : ∀ H, Pv xs.length H → Qd H) :
    ∃ W : Nat → Nat → Hp → Prop, (∃ m, W 0 m (upd H1 D (.dK []))) ∧ ∀ i m H, W i m H →
      ((Itl K a).stop i H ∧ Qd H) ∨ ((Itl K a).go i H ∧ ∃ Nx : Hp → Prop, (∀ H', Nx H' → ∃ m', m' < m ∧ W (i + 1) m' H') ∧ ∀ x H', (Itl K a).yld i H x H' → g x (wipe σ vs) H' fun σ2 H2 => wipe σ2 vs = wipe σ vs ∧ tt σ2 H2 fun b H3 =>
        if b = true then tk σ2 H3 fun y H4 => tv σ2 H4 fun z H5 => ∃ kvs k, y = kV k ∧ H5 D = some (.dK kvs) ∧ kvs.length < sizeLine ∧ Nx (upd H5 D (.dK (putK kvs k z))) else Nx H3) := by
  refine ⟨fun i m H => m = xs.length - i ∧ i ≤ xs.length ∧ Pv i H, ⟨xs.length, rfl, Nat.zero_le _, h0⟩, ?_⟩
  rintro i m H ⟨rfl, hi, p⟩
  have sq := hl i H hi p
  rcases Nat.lt_or_ge i xs.length with lt | ge
  · refine .inr ⟨⟨xs, xs[i], sq, List.getElem?_eq_getElem lt⟩, Pv (i + 1), fun G pg => ⟨xs.length - (i + 1), by omega, rfl, lt, pg⟩, fun x G y => ?_⟩
    obtain ⟨e, y⟩ := y
    subst e
    exact hs i x _ (y xs sq) p
  · obtain rfl : i = xs.length := Nat.le_antisymm hi ge
    exact .inl ⟨⟨xs, sq, Nat.le_refl _⟩, hd H p⟩
end Rz

namespace Rz
open PySem PySem.Spec PyProof.Rows L2
/-! ### a walk over a tuple, a list, a range, whatever its turn asks -/
theorem wk_tup {K : PySem.W.Frag} {a : Addr} {xs : List V} {H0 : Hp} {Qd : Hp → Prop} {Bd : V → Hp → (Hp → Prop) → Prop} (Pv : Nat → Hp → Prop) (h0 : Pv 0 H0) (hl : ∀ i H, i ≤ xs.length → Pv i H → SqT K H a xs)
    (hs : ∀ i x H, xs[i]? = some x → Pv i H → Bd x H (Pv (i + 1))) (hd : ∀ H, Pv xs.length H → Qd H) :
    ∃ W : Nat → Nat → Hp → Prop, (∃ m, W 0 m H0) ∧ ∀ i m H, W i m H → ((Itt K a).stop i H ∧ Qd H) ∨ ((Itt K a).go i H ∧ ∃ Nx : Hp → Prop, (∀ H', Nx H' → ∃ m', m' < m ∧ W (i + 1) m' H') ∧ ∀ x H', (Itt K a).yld i H x H' → Bd x H' Nx) := by
  refine ⟨fun i m H => m = xs.length - i ∧ i ≤ xs.length ∧ Pv i H, ⟨_, rfl, Nat.zero_le _, h0⟩, ?_⟩
  rintro i m H ⟨rfl, hi, p⟩
  have q := hl i H hi p
  rcases Nat.lt_or_ge i xs.length with lt | ge
  · refine .inr ⟨⟨xs, xs[i], q, by simp [lt]⟩, Pv (i + 1), fun H2 p2 => ⟨xs.length - (i + 1), by omega, rfl, lt, p2⟩, fun x H2 y => ?_⟩
    obtain ⟨rfl, y⟩ := y
    exact hs i x _ (y xs q) p
  · obtain rfl : i = xs.length := by omega
    exact .inl ⟨⟨xs, q, Nat.le_refl _⟩, hd H p⟩
theorem wk_list {K : PySem.W.Frag} {a : Addr} {xs : List V} {H0 : Hp} {Qd : Hp → Prop} {Bd : V → Hp → (Hp → Prop) → Prop} (Pv : Nat → Hp → Prop) (h0 : Pv 0 H0) (hl : ∀ i H, i ≤ xs.length → Pv i H → SqL K H a xs)
    (hs : ∀ i x H, xs[i]? = some x → Pv i H → Bd x H (Pv (i + 1))) (hd : ∀ H, Pv xs.length H → Qd H) :
    ∃ W : Nat → Nat → Hp → Prop, (∃ m, W 0 m H0) ∧ ∀ i m H, W i m H → ((Itl K a).stop i H ∧ Qd H) ∨ ((Itl K a).go i H ∧ ∃ Nx : Hp → Prop, (∀ H', Nx H' → ∃ m', m' < m ∧ W (i + 1) m' H') ∧ ∀ x H', (Itl K a).yld i H x H' → Bd x H' Nx) := by
  refine ⟨fun i m H => m = xs.length - i ∧ i ≤ xs.length ∧ Pv i H, ⟨_, rfl, Nat.zero_le _, h0⟩, ?_⟩
  rintro i m H ⟨rfl, hi, p⟩
  have q := hl i H hi p
  rcases Nat.lt_or_ge i xs.length with lt | ge
  · refine .inr ⟨⟨xs, xs[i], q, by simp [lt]⟩, Pv (i + 1), fun H2 p2 => ⟨xs.length - (i + 1), by omega, rfl, lt, p2⟩, fun x H2 y => ?_⟩
    obtain ⟨rfl, y⟩ := y
    exact hs i x _ (y xs q) p
  · obtain rfl : i = xs.length := by omega
    exact .inl ⟨⟨xs, q, Nat.le_refl _⟩, hd H p⟩
theorem wk_range {lo : Int} {n : Nat} {H0 : Hp} {Qd : Hp → Prop} {Bd : V → Hp → (Hp → Prop) → Prop} (Pv : Nat → Hp → Prop) (h0 : Pv 0 H0)
    (hs : ∀ i H, i < n → Pv i H → Bd (.int (lo + i)) H (Pv (i + 1))) (hd : ∀ H, Pv n H → Qd H) :
    ∃ W : Nat → Nat → Hp → Prop, (∃ m, W 0 m H0) ∧ ∀ i m H, W i m H → ((Itr lo n).stop i H ∧ Qd H) ∨ ((Itr lo n).go i H ∧ ∃ Nx : Hp → Prop, (∀ H', Nx H' → ∃ m', m' < m ∧ W (i + 1) m' H') ∧ ∀ x H', (Itr lo n).yld i H x H' → Bd x H' Nx) := by
  refine ⟨fun i m H => m = n - i ∧ i ≤ n ∧ Pv i H, ⟨_, rfl, Nat.zero_le _, h0⟩, ?_⟩
  rintro i m H ⟨rfl, hi, p⟩
  rcases Nat.lt_or_ge i n with lt | ge
  · refine .inr ⟨lt, Pv (i + 1), fun H2 p2 => ⟨n - (i + 1), by omega, rfl, lt, p2⟩, fun x H2 y => ?_⟩
    obtain ⟨rfl, rfl⟩ := y
    exact hs i _ lt p
  · obtain rfl : i = n := by omega
    exact .inl ⟨Nat.le_refl _, hd H p⟩
/-- over whatever walks -/
theorem wk_it {J : It} {n : Nat} {G : Hp → Prop} {Y : Nat → Hp → V → Hp → Prop} (w : Walk J n G Y) {H0 : Hp} {Qd : Hp → Prop} {Bd : V → Hp → (Hp → Prop) → Prop} (Pv : Nat → Hp → Prop) (h0 : Pv 0 H0) (hG : ∀ i H, i ≤ n → Pv i H → G H)
    (hs : ∀ i x H H', i < n → Pv i H → Y i H x H' → Bd x H' (Pv (i + 1))) (hd : ∀ H, Pv n H → Qd H) :
    ∃ W : Nat → Nat → Hp → Prop, (∃ m, W 0 m H0) ∧ ∀ i m H, W i m H → (J.stop i H ∧ Qd H) ∨ (J.go i H ∧ ∃ Nx : Hp → Prop, (∀ H', Nx H' → ∃ m', m' < m ∧ W (i + 1) m' H') ∧ ∀ x H', J.yld i H x H' → Bd x H' Nx) := by
  refine ⟨fun i m H => m = n - i ∧ i ≤ n ∧ Pv i H, ⟨_, rfl, Nat.zero_le _, h0⟩, ?_⟩
  rintro i m H ⟨rfl, hi, p⟩
  have q := hG i H hi p
  rcases Nat.lt_or_ge i n with lt | ge
  · exact .inr ⟨w.goes i H lt q, Pv (i + 1), fun H2 p2 => ⟨n - (i + 1), by omega, rfl, lt, p2⟩, fun x H2 y => hs i x H H2 lt p (w.yields i H x H2 lt q y)⟩
  · obtain rfl : i = n := by omega
    exact .inl ⟨w.stops H q, hd H p⟩
/-- the truth of a name -/
def tTruN (K : PySem.W.Frag) (i : Nat) : TT := fun σ H Q => tVar i σ H fun x H' => ∃ k, TruV K x H' k ∧ Q k H'
end Rz

namespace Rz
open PySem PySem.Spec PyProof.Rows L2
/-! ### set(ns) of a list of ints -/
theorem ints_nth : ∀ {us : List Value} {xs : List Int} {i : Nat} {v : Value}, IntsAre us xs → us[i]? = some v → ∃ k t, xs[i]? = some k ∧ v = .int k t
  | _, _, i, v, .nil, h => by cases h
  | _, _, 0, v, .cons k t r, h => ⟨k, t, rfl, (Option.some.inj h).symm⟩
  | _, _, i + 1, v, .cons k t r, h => ints_nth (i := i) r (by simpa using h)
section
variable {P : Program} {w : World} {A : Around} {E : Value → Shared → Prop} {s : Shared}
theorem call_setIl {l : Addr} {items : Array Value} {ns : List Int} {Q : Value → Shared → Prop} (hh : A.handled = none) (hl : s.heap.IsList l items) (hit : IntsAre items.toList ns) (hz : ns.length + 1 < scanBound)
    (h : ∀ (h' : Heap) (tk c : Nat), SetR w h' s.heap.objs.size (fun j => decide (j ∈ ns)) c → c ≤ ns.length → (∀ b o, s.heap.get? b = some o → h'.get? b = some o) → Q (.ref s.heap.objs.size) { s with heap := h', toks := tk }) :
    wpAny (model P w) A (call (.type "set") [.ref l]) Q E s := by
  have isz : items.size = ns.length := by
    have e := IntsAre.length hit
    rw [Array.length_toList] at e
    exact e
  obtain ⟨c, tl, hmro⟩ := PySem.F.called_set.mro
  have cm := PySem.F.called_set.made
  have cs := PySem.F.called_set.sub
  refine wpAny_call (codeAny_of_tree ?_)
  show wpAny _ _ (callAny (.type "set") _) _ _ _
  refine wpAny_pure ⟨Code.quiet_builtin _ (by decide +kernel), codeAny_builtin PySem.F.entry_type_call ?_⟩
  rw [Around.under_plain (weight_type_call_type "set" [.ref l] []) rfl]
  have cn := PySem.F.called_set.notType
  have cc := PySem.F.called_set.canCreate
  have ct := PySem.F.typeCall_set_1 (.ref l)
  repeat (any_goals (first | assumption | wp_step))
  refine codeAny_mono (code_set_led1 (.ref l) (E := E) (Q₁ := fun u s1 => u = .ref s.heap.objs.size ∧ s1 = { s with heap := s.heap.push (frS w) }) ⟨rfl, rfl⟩) fun r s1 hr => ?_
  match r, hr with
  | .error e, hr => exact hr
  | .ok .next, hr => exact hr.elim
  | .ok .brk, hr => exact hr.elim
  | .ok .cont, hr => exact hr.elim
  | .ok (.ret u), hr =>
    obtain ⟨rfl, rfl⟩ := hr
    have at0 : (s.heap.push (frS w)).get? s.heap.objs.size = some (frS w) := Heap.get?_push_size _ rfl
    have ty0 : Shared.TypeIs { s with heap := s.heap.push (frS w) } (.ref s.heap.objs.size) "set" := ⟨_, at0, rfl⟩
    have il := PySem.F.called_set.init.lookup
    have ib := PySem.F.called_set.init.bind (.ref s.heap.objs.size)
    repeat (any_goals (first | assumption | wp_step))
    refine codeAny_mono (codeAny_call_builtin (R := wants (fun r s2 => r = .none ∧ ∃ h' tk c, s2 = { s with heap := h', toks := tk } ∧ SetR w h' s.heap.objs.size (fun j => decide (j ∈ ns)) c ∧ c ≤ ns.length ∧
        (∀ b o, s.heap.get? b = some o → h'.get? b = some o)) E) PySem.F.called_set.init.plain PySem.F.entry_set_init (check_set_init_1 ty0 ?_)) fun r2 s2 h2 => ?_
    · obtain ⟨ol, e1, e2, n, e3⟩ := id hl
      obtain ⟨oc, od, odt, osl⟩ := ol
      simp only at e2 e3
      subst e2
      subst e3
      have at1 : (s.heap.push (frS w)).get? l = some { cls := .type "list", dict := od, data := .seq items n, slots := osl } := Heap.get?_push_of_some _ e1
      have f1 := PySem.F.sub_list_set
      have f2 := PySem.F.sub_list_frozenset
      have f3 : (Value.type "list" == Value.type "dict") = false := by decide
      have hl1 : (s.heap.push (frS w)).IsList l items := ⟨_, at1, rfl, n, rfl⟩
      unfold Builtin.«set.__init__» noKeywords Builtin.Frozenset.updateFrom
      generalize hPI : pyIter = PI
      wp_walk
      subst hPI
      refine wpAny_pyIter_list hl1 ?_
      refine wpAny_bind (wpAny_runValue ?_)
      have lt := Heap.lt_size e1
      have sz1 : (s.heap.push (frS w)).objs.size = s.heap.objs.size + 1 := Heap.size_push ..
      have calm : A.in1.in1.in1.handled = none := by simp [hh]
      have nl : l ≠ (s.heap.push (frS w)).objs.size := by rw [sz1]; exact Nat.ne_of_lt (Nat.lt_succ_of_lt lt)
      have away : s.heap.objs.size ∉ [(s.heap.push (frS w)).objs.size, l] := by
        rw [sz1]
        simp only [List.mem_cons, List.not_mem_nil, or_false, not_or]
        exact ⟨Nat.ne_of_lt (Nat.lt_succ_self _), Nat.ne_of_gt lt⟩
      have val : ∀ (i : Nat) (v : Value), items[i]? = some v → ∃ k t, ns[i]? = some k ∧ v = .int k t := fun i v hv => ints_nth hit (by rw [Array.getElem?_toList]; exact hv)
      refine set_update_ints ((Walks.list calm _ l nl items).toS) s.heap.objs.size away ns isz hz val (items.size - 0) 0 _ rfl (Nat.zero_le _) ⟨⟨_, Heap.get?_push_size _ rfl, rfl, rfl⟩, (hl1.push _)⟩ ⟨0, Nat.le_refl 0, setR_new_at (Heap.get?_push_of_some _ at0)⟩ fun s3 c mv hc hS => ?_
      obtain ⟨g, g2, d2, tk, o2⟩ := s3
      obtain rfl : g2 = s.gens := mv.gens
      obtain rfl : d2 = s.drawn := mv.drawn
      obtain rfl : o2 = s.os := mv.os
      show wpAny _ _ _ _ _ _
      refine wpAny_pure ?_
      show wpAny _ _ (ret Value.none) _ _ _
      rw [isz] at hc
      refine wpAny_pure ⟨rfl, g, tk, c, rfl, hS, hc, fun b o e => ?_⟩
      have lt := Heap.lt_size e
      refine mv.heap b o (fun z => ?_) (Heap.get?_push_of_some _ (Heap.get?_push_of_some _ e))
      rcases List.mem_cons.mp z with z | z
      · exact Nat.ne_of_lt lt z
      · exact Nat.ne_of_lt (Nat.lt_succ_of_lt lt) (by rw [List.mem_singleton.mp z, sz1])
    · match r2, h2 with
      | .error e, h2 => exact h2
      | .ok .next, h2 => exact h2.elim
      | .ok .brk, h2 => exact h2.elim
      | .ok .cont, h2 => exact h2.elim
      | .ok (.ret r), h2 =>
        obtain ⟨rfl, h', tk, c, rfl, hS, hL, kp⟩ := h2
        repeat (any_goals (first | assumption | wp_step))
        exact h _ _ _ hS hL kp
end
def rSetIl (K : PySem.W.Frag) (w : World) : List V → Hp → VK → Prop := fun vs H Q => ∃ (l : Addr) (ns : List Int), vs = [.ref l] ∧ SqL K H l (ns.map V.int) ∧ ns.length + 1 < scanBound ∧
  ∀ (p : Addr) (c : Nat), H p = none → c ≤ ns.length → Q (.ref p) (upd H p (SetO w p (fun j => decide (j ∈ ns)) c))
section
variable {X : Cx}
theorem cr_setIl (hc : X.calm = true) : CallR X (.type "set") (rSetIl X.K X.w) := by
  intro pins s σ H xs us Q I r h
  obtain ⟨l, ns, rfl, hl, hz, q⟩ := h
  rw [Vals.ref1 r]
  obtain ⟨its, rv, pl, _⟩ := I.list hl
  refine call_setIl (ns := ns) (I.ok.hd hc) pl.isList (by simpa using ints_of_vals rv) hz fun h' tk c hS hL kp => ?_
  exact ⟨.ref s.heap.objs.size, _, I.laid (t' := tk) kp (Nat.le_refl _) (setO_new hS), rfl, q _ c (I.hok.fresh (Nat.le_refl _)) hL⟩
end
end Rz

namespace Rz
open PySem PySem.Spec PyProof.Rows L2
/-! ### x(a, ..) where the local x is the class; C.m() of a class method -/
section
variable {X : Cx} {CX : CXT} {k i : Nat} {f C : Addr} {sp : Sp} {E : EX} {x m : Str} {e o : Expr} {es : List Expr} {ta : TE} {t : TA} {p pos apos : Pos} {q g : Addr} {mc : Value}
theorem pe_mkSL (M : Mk X.K C f) (F : FnR X.prog X.w X.K X.mg X.base CX k f sp) (hr : Room (k + 1) X.A) (hN : X.N[i]? = some x) (hv : Vis X.env.scope x) (hx : ∀ σ, PassesAt CX X σ (E σ)) (ha : PA X (e :: es) t)
    (hdb : (x == ("__debug__" : Str)) = false := by decide) (hcd : (x == ("__classdict__" : Str)) = false := by decide)
    (he : starEach (e :: es) X.env = (false, eval e X.env) :: starEach es X.env := by rfl) (hpl : (backTo pos (starEach es X.env)).any (·.1) = false := by rfl) : PE X (.Call (.Name x p) (e :: es) [] pos) (tMkSL i C sp E t) := by
  refine ⟨fun pins s σ H Q I h => ?_⟩
  obtain ⟨hs, ht⟩ := h
  refine wpAny_Call_Name_kw (thn ((pe_var (pos := p) hN hv hdb hcd).run pins s σ H (fun v H1 => v = .ref C ∧ H1 = H) I ⟨.ref C, hs, rfl, rfl⟩) fun u s1 ⟨v, H1, I1, r1, q1⟩ => ?_)
  obtain ⟨rfl, rfl⟩ := q1
  cases r1
  exact PySem.W.callWith_K (h₀ := X.base) I1.ok.mod.kin M.kp (thn (ha.run pos pins s1 σ _ _ I1 ht) fun us s2 ⟨vs, H2, J, rv, z⟩ => ⟨J.kIn, run_mkS M F hr (hx σ) J rv z⟩) he hpl
theorem pe_cm0 {pl : Sem Bool} (he : PE X o ta) (r : ClX.CRead X.K C mc) (c : ClX.CMet X.K C mc m q g) (F : FnR X.prog X.w X.K X.mg X.base CX k g sp) (hr : Room k X.A) (hx : ∀ σ, PassesAt CX X σ (E σ))
    (ht : eval (.Call (.Attribute o m apos) [] [] pos) X.env = (do
      let ov ← eval o X.env
      standAt apos.atName
      let (f, first) ← holding [ov] (getMethod ov m pl)
      callWith pos f first (backTo pos (starEach [] X.env)) (backToKw pos (keywordEach [] X.env))) := by rfl) :
    PE X (.Call (.Attribute o m apos) [] [] pos) (tCm C sp E ta tNil) := by
  refine ⟨fun pins s σ H Q I h => ?_⟩
  refine PySem.W.methodCall_KW (pl := pl) (thn (he.run pins s σ H _ I h) fun u s1 ⟨x, H1, I1, rx, ex, z⟩ => ?_) ht
  subst ex
  obtain rfl : u = Value.ref C := rx
  refine ClX.getmethcm_ok I1 r c fun s2 I2 => ?_
  refine PySem.W.callWith_M0 (first := []) ⟨ClX.pin_at I2, I2.kIn⟩ c.fi ?_
  have y : wpAny (model X.prog X.w) X.A (call (.ref _) []) (EP X ((_, PySem.W.methodObj (.ref g) (.ref C)) :: pins) σ Q) X.xe s2 :=
    wpAny_call (PySem.W.method_call (ClX.pin_at I2) (run_fnRA (us := [.ref C]) (vs := [.ref C]) F hr (hx σ) I2 (.cons rfl .nil) z))
  exact thn y fun _ _ y => ClX.unpinE y
end
end Rz

namespace Rz
open PySem PySem.Spec PyProof.Rows L2
/-! ### comparisons of two of one own class -/
section
variable {X : Cx} {k : Nat} {f C : Addr} {fd : FuncData} {ps : List Str} {sp : Sp}
def rCmpO (C : Addr) (sp : Sp) : R2 := fun x y H Q => ∃ (a dx b dy : Addr) (fs gs : List (Str × V)), x = .ref a ∧ y = .ref b ∧ H a = some (.ins C dx fs) ∧ H b = some (.ins C dy gs) ∧ sp [.ref a, .ref b] H (fun v H' => (∃ r, v = .bl r) ∧ Q v H') E0
/-- x == y by the own __eq__ -/
theorem op_eqO (M : Meth X.K C "__eq__" f) (F : FnOk X.prog X.w X.K X.mg X.base (L2.CX X.prog X.w) k f fd ps sp) (hr : Room k X.A) (hb : Binds X.K fd ps []) (hu : X.A.units < cLine) : OpR X (compareOp .Eq) (rCmpO C sp) := by
  intro pins s σ H x y v u Q I r1 r2 h
  obtain ⟨a, dx, b, dy, fs, gs, rfl, rfl, ea, eb, hq⟩ := h
  obtain rfl : v = Value.ref a := r1
  obtain rfl : u = Value.ref b := r2
  obtain ⟨od, J⟩ := inst_at I ea
  obtain ⟨od2, J2⟩ := inst_at I eb
  obtain ⟨m0, hF⟩ := I.fr
  show wpAny _ _ (richCompare .Eq (.ref a) (.ref b)) _ _ _
  refine PySem.W.cmp_K (op := .Eq) hu hF I.ok.mod.kin J J2.type (by unfold PySem.W.notFirst; simp) M.at_ M.fn (wpAny_mono (run_below (vs := [.ref a, .ref b]) F hr rfl hb I (.cons rfl (.cons rfl .nil)) hq) (fun r s' hv => ?_) fun _ _ z => z)
  obtain ⟨z, H', J', rz, ⟨c, rfl⟩, q⟩ := hv
  obtain rfl : r = Value.bool c := rz
  exact ⟨.bl c, H', J', rfl, q⟩
/-- x < y by the own __lt__ -/
theorem op_ltO (M : Meth X.K C "__lt__" f) (F : FnOk X.prog X.w X.K X.mg X.base (L2.CX X.prog X.w) k f fd ps sp) (hr : Room k X.A) (hb : Binds X.K fd ps []) (hu : X.A.units < cLine) : OpR X (compareOp .Lt) (rCmpO C sp) := by
  intro pins s σ H x y v u Q I r1 r2 h
  obtain ⟨a, dx, b, dy, fs, gs, rfl, rfl, ea, eb, hq⟩ := h
  obtain rfl : v = Value.ref a := r1
  obtain rfl : u = Value.ref b := r2
  obtain ⟨od, J⟩ := inst_at I ea
  obtain ⟨od2, J2⟩ := inst_at I eb
  obtain ⟨m0, hF⟩ := I.fr
  show wpAny _ _ (richCompare .Lt (.ref a) (.ref b)) _ _ _
  refine PySem.W.cmp_K (op := .Lt) hu hF I.ok.mod.kin J J2.type (by unfold PySem.W.notFirst; simp) M.at_ M.fn (wpAny_mono (run_below (vs := [.ref a, .ref b]) F hr rfl hb I (.cons rfl (.cons rfl .nil)) hq) (fun r s' hv => ?_) fun _ _ z => z)
  obtain ⟨z, H', J', rz, ⟨c, rfl⟩, q⟩ := hv
  obtain rfl : r = Value.bool c := rz
  exact ⟨.bl c, H', J', rfl, q⟩
end
end Rz
namespace Rz
open PySem PySem.Spec PyProof.Rows L2
section
variable {X : Cx} {k : Nat} {f C : Addr} {fd : FuncData} {ps : List Str} {sp : Sp}
/-- y in x by the own __contains__, that gives a bool -/
def rInO (C : Addr) (sp : Sp) : R2 := fun y x H Q => ∃ (a dx : Addr) (fs : List (Str × V)), x = .ref a ∧ H a = some (.ins C dx fs) ∧ sp [.ref a, y] H (fun v H' => ∃ r, v = .bl r ∧ Q (.bl r) H') E0
theorem op_inO (M : Meth X.K C "__contains__" f) (F : FnOk X.prog X.w X.K X.mg X.base (L2.CX X.prog X.w) k f fd ps sp) (hr : Room k X.A) (hb : Binds X.K fd ps []) : OpR X (compareOp .In) (rInO C sp) := by
  intro pins s σ H y x u v Q I r1 r2 h
  obtain ⟨a, dx, fs, rfl, ea, hq⟩ := h
  obtain rfl : v = Value.ref a := r2
  obtain ⟨od, J⟩ := inst_at I ea
  obtain ⟨m0, hF⟩ := I.fr
  refine PySem.W.in_K hF I.ok.mod.kin J M.at_ M.fn (wpAny_mono (run_below (vs := [.ref a, y]) F hr rfl hb I (.cons rfl (.cons r1 .nil)) hq) (fun r s' hv => ?_) fun _ _ z => z)
  obtain ⟨z, H', J', rz, c, rfl, q⟩ := hv
  obtain rfl : r = Value.bool c := rz
  exact wpAny_truthy_bool ⟨.bl c, H', J', rfl, q⟩
/-- x[i] by the own __getitem__ -/
def rGetO (C : Addr) (sp : Sp) : V → V → Hp → VK → Prop := fun x i H Q => ∃ (a dx : Addr) (fs : List (Str × V)), x = .ref a ∧ H a = some (.ins C dx fs) ∧ sp [.ref a, i] H Q E0
theorem get_own (M : Meth X.K C "__getitem__" f) (hn : PySem.W.noSeq X.K C = true) (F : FnOk X.prog X.w X.K X.mg X.base (L2.CX X.prog X.w) k f fd ps sp) (hr : Room k X.A) (hb : Binds X.K fd ps []) : PGet X (rGetO C sp) := by
  intro pins s σ H x i v u Q I r1 r2 h
  obtain ⟨a, dx, fs, rfl, ea, hq⟩ := h
  obtain rfl : v = Value.ref a := r1
  obtain ⟨od, J⟩ := inst_at I ea
  obtain ⟨m0, hF⟩ := I.fr
  exact PySem.W.getItem_K hF I.ok.mod.kin J hn M.at_ M.fn (run_below (vs := [.ref a, i]) F hr rfl hb I (.cons rfl (.cons r2 .nil)) hq)
end
end Rz

namespace Rz
open PySem PySem.Spec PyProof.Rows L2
/-! ### sorted(xs), xs a list of different tuples of ints and texts -/
section
variable {P : Program} {w : World} {A : Around} {E : Value → Shared → Prop} {s : Shared}
theorem sorted_tlK {l : Addr} {L : List (Addr × List Key)} {sh : Nat → Bool} {Q : Value → Shared → Prop} (hl : s.heap.IsList l (L.map fun q => Value.ref q.1).toArray) (mem : ∀ q ∈ L, IsTupleKey (mixKind P w) s.heap q.2 q.1) (nd : (L.map (·.2)).Nodup) (few : L.length ≤ sizeLine) (hf : ∀ q ∈ L, Fits sh 0 q.2 ∧ q.2 ≠ [])
    (hQ : ∀ (g : Heap) (out : Array Value) (c : Nat) (M : List (Addr × List Key)), (∀ b o, s.heap.get? b = some o → g.get? b = some o) → g.get? (s.heap.objs.size + 1) = some (seqObj "list" out c) → out.toList = M.map (fun q => Value.ref q.1) → M.Perm L → M.Pairwise (fun q r => kLt r.2 q.2 = false) → Q (.ref (s.heap.objs.size + 1)) { s with heap := g }) :
    wpAny (model P w) A (call (.builtin "sorted") [.ref l]) Q E s := by
  have vl : (L.map fun q => Value.ref q.1).length = L.length := List.length_map _
  have which : ∀ v ∈ L.map (fun q => Value.ref q.1), ∃ q ∈ L, v = Value.ref q.1 := fun v hv => by
    obtain ⟨q, hq, e⟩ := List.mem_map.mp hv
    exact ⟨q, hq, e.symm⟩
  obtain ⟨fs, hfs⟩ := tups_of (sh := sh) (h := s.heap) (vs := L.map fun q => Value.ref q.1) fun v hv => by
    obtain ⟨q, hq, rfl⟩ := which v hv
    exact first_of (mem q hq) (hf q hq).1 (hf q hq).2
  have keys : ∀ v ∈ L.map (fun q => Value.ref q.1), ∃ q ∈ L, v = Value.ref q.1 ∧ G.tupKeyC s.heap sh v = some (q.2.map kN) := fun v hv => by
    obtain ⟨q, hq, rfl⟩ := which v hv
    exact ⟨q, hq, rfl, keyC_of (mem q hq) (hf q hq).1⟩
  generalize hvs : L.map (fun q => Value.ref q.1) = vs at hl vl which hfs keys
  refine G.sorted_tups hl hfs (fun v hv => let ⟨q, _, _, e⟩ := keys v hv; ⟨_, e⟩) (by rw [vl]; exact few) fun st hp hs _ => ?_
  have hl : (arrOf st).toList.Perm (vs.zip vs) := by rw [← pairsOf_toList]; exact Array.perm_iff_toList_perm.mp hp
  have pr : ∀ p ∈ (arrOf st).toList, p.1 = p.2 ∧ p.1 ∈ vs := fun p hp2 => mem_zip_self (hl.mem_iff.mp hp2)
  have outs : ((arrOf st).map (·.2)).toList.Perm vs := by
    rw [Array.toList_map]
    have y := hl.map (fun p : Value × Value => p.2)
    rw [show (vs.zip vs).map (fun p : Value × Value => p.2) = vs from List.map_snd_zip (Nat.le_refl _)] at y
    exact y
  obtain ⟨M, eM, sub⟩ := rows_of (L := L) (vs := ((arrOf st).map (·.2)).toList) fun v hv => which v (outs.mem_iff.mp hv)
  have inj : ∀ q ∈ L, ∀ r ∈ L, q.1 = r.1 → q = r := fun q hq r hr e => by
    have y1 := mem q hq
    rw [e] at y1
    exact Prod.ext e ((tkS P w).kd.inj y1 (mem r hr))
  have pM : M.Perm L := rows_perm nd inj sub (by rw [← eM, hvs]; exact outs)
  obtain ⟨c, hc⟩ := sortedAll_at s.heap vs ((arrOf st).map (·.2))
  refine hQ _ _ c M (fun b o e => sortedAll_old e) hc eM pM ?_
  rw [List.pairwise_iff_getElem]
  intro i j hi hj hij
  have ln : (arrOf st).size = M.length := by
    have y := congrArg List.length eM
    rw [Array.length_toList, Array.size_map, List.length_map] at y
    exact y
  have kk : ∀ (n : Nat) (hn : n < M.length), KK (G.tupKindC s.heap sh) (arrOf st) n = (M[n]).2.map kN := fun n hn => by
    have hn2 : n < (arrOf st).size := by rw [ln]; exact hn
    have e5 : (arrOf st)[n]? = some (arrOf st)[n] := Array.getElem?_eq_getElem hn2
    have inA : (arrOf st)[n] ∈ (arrOf st).toList := Array.mem_toList_iff.mpr (Array.getElem_mem hn2)
    obtain ⟨y1, y2⟩ := pr _ inA
    have e6 : (arrOf st)[n].2 = Value.ref (M[n]).1 := by
      have z := congrArg (fun l : List Value => l[n]?) eM
      simp only [Array.toList_map, List.getElem?_map, Array.getElem?_toList, e5, List.getElem?_eq_getElem hn] at z
      exact Option.some.inj z
    have key := keyC_of (mem _ (sub _ (List.getElem_mem hn))) (hf _ (sub _ (List.getElem_mem hn))).1
    unfold KK
    rw [e5]
    dsimp only
    rw [y1, e6, key]
    rfl
  have y := hs i j (Nat.le_of_lt hij) (by rw [pairsOf_size, vl, ← pM.length_eq]; exact hj)
  rw [kk i hi, kk j hj] at y
  exact y
end
@[irreducible] def rSortTl (K : PySem.W.Frag) : List V → Hp → VK → Prop := fun vs H Q => ∃ (a : Addr) (L : List (Addr × List Key)) (sh : Nat → Bool), vs = [V.ref a] ∧ SqL K H a (L.map fun p => V.ref p.1) ∧ (∀ p ∈ L, SqT K H p.1 (p.2.map kV)) ∧ (L.map (·.2)).Nodup ∧ (∀ p ∈ L, Fits sh 0 p.2 ∧ p.2 ≠ []) ∧
  ∀ (M : List (Addr × List Key)) (p : Addr), M.Perm L → M.Pairwise (fun q r => kLt r.2 q.2 = false) → H p = none → Q (.ref p) (upd H p (.lst (M.map fun q => V.ref q.1)))
theorem rSortTl_go {K : PySem.W.Frag} {H : Hp} {Q : VK} (a : Addr) (L : List (Addr × List Key)) (sh : Nat → Bool) (h1 : SqL K H a (L.map fun p => V.ref p.1)) (h2 : ∀ p ∈ L, SqT K H p.1 (p.2.map kV)) (h3 : (L.map (·.2)).Nodup) (h4 : ∀ p ∈ L, Fits sh 0 p.2 ∧ p.2 ≠ [])
    (q : ∀ (M : List (Addr × List Key)) (p : Addr), M.Perm L → M.Pairwise (fun q r => kLt r.2 q.2 = false) → H p = none → Q (.ref p) (upd H p (.lst (M.map fun q => V.ref q.1)))) : rSortTl K [V.ref a] H Q := by
  unfold rSortTl
  exact ⟨a, L, sh, rfl, h1, h2, h3, h4, q⟩
section
variable {X : Cx}
theorem cr_sortTl : CallR X (.builtin "sorted") (rSortTl X.K) := by
  intro pins s σ H vs us Q I r h
  unfold rSortTl at h
  obtain ⟨a, L, sh, rfl, hl, hk, nd, hf, q⟩ := h
  obtain ⟨its, rv, pl, hz⟩ := I.list hl
  rw [Vals.ref1 r]
  have ei := refs_vals rv
  subst ei
  rw [List.length_map] at hz
  refine sorted_tlK (P := X.prog) (w := X.w) (sh := sh) pl.isList (fun p hp => inv_key I (hk p hp)) nd hz hf fun g out c M k hg hout pm pw => ?_
  have hlen : (M.map fun q => V.ref q.1).length ≤ sizeLine := by rw [List.length_map, pm.length_eq]; exact hz
  have hn : H (s.heap.objs.size + 1) = none := I.hok.fresh (Nat.le_succ _)
  exact ⟨.ref (s.heap.objs.size + 1), upd H (s.heap.objs.size + 1) (.lst (M.map fun q => V.ref q.1)), I.laid (t' := s.toks) k (Nat.le_succ _) ⟨hlen, out.toList, c, by rw [hout]; exact vals_refs M, hg⟩, rfl, q M _ pm pw hn⟩
end
end Rz

namespace Rz
open PySem PySem.Spec PyProof.Rows L2
/-! ### sorted(xs), xs a list of tuples of ints and texts, some of them twice -/
theorem refs_perm : ∀ {a b : List Addr}, (a.map Value.ref).Perm (b.map Value.ref) → a.Perm b := fun {a b} h => by
  have e := h.map (fun v : Value => match v with | .ref x => x | _ => 0)
  rw [List.map_map, List.map_map] at e
  have f : ((fun v : Value => match v with | .ref x => x | _ => 0) ∘ Value.ref) = (id : Addr → Addr) := rfl
  rw [f, List.map_id, List.map_id] at e
  exact e
theorem rows_permD {K : Type} {L M : List (Addr × K)} (inj : ∀ q ∈ L, ∀ r ∈ L, q.1 = r.1 → q = r) (sub : ∀ q ∈ M, q ∈ L) (pm : (M.map fun q => Value.ref q.1).Perm (L.map fun q => Value.ref q.1)) : M.Perm L := by
  cases L with
  | nil =>
    cases M with
    | nil => exact .refl _
    | cons q M => exact absurd (sub q List.mem_cons_self) (by simp)
  | cons l0 L0 =>
    generalize hL : l0 :: L0 = L at inj sub pm
    let key : Addr → Addr × K := fun a => (L.find? fun q => decide (q.1 = a)).getD l0
    have kk : ∀ q ∈ L, key q.1 = q := fun q hq => by
      show ((L.find? fun r => decide (r.1 = q.1)).getD l0) = q
      cases e : L.find? fun r => decide (r.1 = q.1) with
      | none => exact absurd (List.find?_eq_none.mp e q hq) (by simp)
      | some r =>
        have h1 := List.mem_of_find?_eq_some e
        have h2 := List.find?_some e
        exact inj r h1 q hq (by simpa using h2)
    have fix : ∀ {N : List (Addr × K)}, (∀ q ∈ N, q ∈ L) → (N.map (·.1)).map key = N := fun {N} h => by
      rw [List.map_map]
      refine (List.map_congr_left fun q hq => ?_).trans (List.map_id N)
      exact kk q (h q hq)
    have p1 : (M.map (·.1)).Perm (L.map (·.1)) := refs_perm (by rw [List.map_map, List.map_map]; exact pm)
    have p2 := p1.map key
    rw [fix sub, fix fun q h => h] at p2
    exact p2
section
variable {P : Program} {w : World} {A : Around} {E : Value → Shared → Prop} {s : Shared}
theorem sorted_tdK {l : Addr} {L : List (Addr × List Key)} {sh : Nat → Bool} {Q : Value → Shared → Prop} (hl : s.heap.IsList l (L.map fun q => Value.ref q.1).toArray) (mem : ∀ q ∈ L, IsTupleKey (mixKind P w) s.heap q.2 q.1) (few : L.length ≤ sizeLine) (hf : ∀ q ∈ L, Fits sh 0 q.2 ∧ q.2 ≠ [])
    (hQ : ∀ (g : Heap) (out : Array Value) (c : Nat) (M : List (Addr × List Key)), (∀ b o, s.heap.get? b = some o → g.get? b = some o) → g.get? (s.heap.objs.size + 1) = some (seqObj "list" out c) → out.toList = M.map (fun q => Value.ref q.1) → M.Perm L → M.Pairwise (fun q r => kLt r.2 q.2 = false) → Q (.ref (s.heap.objs.size + 1)) { s with heap := g }) :
    wpAny (model P w) A (call (.builtin "sorted") [.ref l]) Q E s := by
  have vl : (L.map fun q => Value.ref q.1).length = L.length := List.length_map _
  have which : ∀ v ∈ L.map (fun q => Value.ref q.1), ∃ q ∈ L, v = Value.ref q.1 := fun v hv => by
    obtain ⟨q, hq, e⟩ := List.mem_map.mp hv
    exact ⟨q, hq, e.symm⟩
  obtain ⟨fs, hfs⟩ := tups_of (sh := sh) (h := s.heap) (vs := L.map fun q => Value.ref q.1) fun v hv => by
    obtain ⟨q, hq, rfl⟩ := which v hv
    exact first_of (mem q hq) (hf q hq).1 (hf q hq).2
  have keys : ∀ v ∈ L.map (fun q => Value.ref q.1), ∃ q ∈ L, v = Value.ref q.1 ∧ G.tupKeyC s.heap sh v = some (q.2.map kN) := fun v hv => by
    obtain ⟨q, hq, rfl⟩ := which v hv
    exact ⟨q, hq, rfl, keyC_of (mem q hq) (hf q hq).1⟩
  generalize hvs : L.map (fun q => Value.ref q.1) = vs at hl vl which hfs keys
  refine G.sorted_tups hl hfs (fun v hv => let ⟨q, _, _, e⟩ := keys v hv; ⟨_, e⟩) (by rw [vl]; exact few) fun st hp hs _ => ?_
  have hl : (arrOf st).toList.Perm (vs.zip vs) := by rw [← pairsOf_toList]; exact Array.perm_iff_toList_perm.mp hp
  have pr : ∀ p ∈ (arrOf st).toList, p.1 = p.2 ∧ p.1 ∈ vs := fun p hp2 => mem_zip_self (hl.mem_iff.mp hp2)
  have outs : ((arrOf st).map (·.2)).toList.Perm vs := by
    rw [Array.toList_map]
    have y := hl.map (fun p : Value × Value => p.2)
    rw [show (vs.zip vs).map (fun p : Value × Value => p.2) = vs from List.map_snd_zip (Nat.le_refl _)] at y
    exact y
  obtain ⟨M, eM, sub⟩ := rows_of (L := L) (vs := ((arrOf st).map (·.2)).toList) fun v hv => which v (outs.mem_iff.mp hv)
  have inj : ∀ q ∈ L, ∀ r ∈ L, q.1 = r.1 → q = r := fun q hq r hr e => by
    have y1 := mem q hq
    rw [e] at y1
    exact Prod.ext e ((tkS P w).kd.inj y1 (mem r hr))
  have pM : M.Perm L := rows_permD inj sub (by rw [← eM, hvs]; exact outs)
  obtain ⟨c, hc⟩ := sortedAll_at s.heap vs ((arrOf st).map (·.2))
  refine hQ _ _ c M (fun b o e => sortedAll_old e) hc eM pM ?_
  rw [List.pairwise_iff_getElem]
  intro i j hi hj hij
  have ln : (arrOf st).size = M.length := by
    have y := congrArg List.length eM
    rw [Array.length_toList, Array.size_map, List.length_map] at y
    exact y
  have kk : ∀ (n : Nat) (hn : n < M.length), KK (G.tupKindC s.heap sh) (arrOf st) n = (M[n]).2.map kN := fun n hn => by
    have hn2 : n < (arrOf st).size := by rw [ln]; exact hn
    have e5 : (arrOf st)[n]? = some (arrOf st)[n] := Array.getElem?_eq_getElem hn2
    have inA : (arrOf st)[n] ∈ (arrOf st).toList := Array.mem_toList_iff.mpr (Array.getElem_mem hn2)
    obtain ⟨y1, y2⟩ := pr _ inA
    have e6 : (arrOf st)[n].2 = Value.ref (M[n]).1 := by
      have z := congrArg (fun l : List Value => l[n]?) eM
      simp only [Array.toList_map, List.getElem?_map, Array.getElem?_toList, e5, List.getElem?_eq_getElem hn] at z
      exact Option.some.inj z
    have key := keyC_of (mem _ (sub _ (List.getElem_mem hn))) (hf _ (sub _ (List.getElem_mem hn))).1
    unfold KK
    rw [e5]
    dsimp only
    rw [y1, e6, key]
    rfl
  have y := hs i j (Nat.le_of_lt hij) (by rw [pairsOf_size, vl, ← pM.length_eq]; exact hj)
  rw [kk i hi, kk j hj] at y
  exact y
end
@[irreducible] def rSortTd (K : PySem.W.Frag) : List V → Hp → VK → Prop := fun vs H Q => ∃ (a : Addr) (L : List (Addr × List Key)) (sh : Nat → Bool), vs = [V.ref a] ∧ SqL K H a (L.map fun p => V.ref p.1) ∧ (∀ p ∈ L, SqT K H p.1 (p.2.map kV)) ∧ (∀ p ∈ L, Fits sh 0 p.2 ∧ p.2 ≠ []) ∧
  ∀ (M : List (Addr × List Key)) (p : Addr), M.Perm L → M.Pairwise (fun q r => kLt r.2 q.2 = false) → H p = none → Q (.ref p) (upd H p (.lst (M.map fun q => V.ref q.1)))
theorem rSortTd_go {K : PySem.W.Frag} {H : Hp} {Q : VK} (a : Addr) (L : List (Addr × List Key)) (sh : Nat → Bool) (h1 : SqL K H a (L.map fun p => V.ref p.1)) (h2 : ∀ p ∈ L, SqT K H p.1 (p.2.map kV)) (h4 : ∀ p ∈ L, Fits sh 0 p.2 ∧ p.2 ≠ [])
    (q : ∀ (M : List (Addr × List Key)) (p : Addr), M.Perm L → M.Pairwise (fun q r => kLt r.2 q.2 = false) → H p = none → Q (.ref p) (upd H p (.lst (M.map fun q => V.ref q.1)))) : rSortTd K [V.ref a] H Q := by
  unfold rSortTd
  exact ⟨a, L, sh, rfl, h1, h2, h4, q⟩
section
variable {X : Cx}
theorem cr_sortTd : CallR X (.builtin "sorted") (rSortTd X.K) := by
  intro pins s σ H vs us Q I r h
  unfold rSortTd at h
  obtain ⟨a, L, sh, rfl, hl, hk, hf, q⟩ := h
  obtain ⟨its, rv, pl, hz⟩ := I.list hl
  rw [Vals.ref1 r]
  have ei := refs_vals rv
  subst ei
  rw [List.length_map] at hz
  refine sorted_tdK (P := X.prog) (w := X.w) (sh := sh) pl.isList (fun p hp => inv_key I (hk p hp)) hz hf fun g out c M k hg hout pm pw => ?_
  have hlen : (M.map fun q => V.ref q.1).length ≤ sizeLine := by rw [List.length_map, pm.length_eq]; exact hz
  have hn : H (s.heap.objs.size + 1) = none := I.hok.fresh (Nat.le_succ _)
  exact ⟨.ref (s.heap.objs.size + 1), upd H (s.heap.objs.size + 1) (.lst (M.map fun q => V.ref q.1)), I.laid (t' := s.toks) k (Nat.le_succ _) ⟨hlen, out.toList, c, by rw [hout]; exact vals_refs M, hg⟩, rfl, q M _ pm pw hn⟩
end
end Rz

namespace Rz
open PySem PySem.Spec PyProof.Rows L2
/-! ### {(..) for .. in .. if ..}: a set of tuples of ints and texts -/
section
variable {X : Cx}
theorem set_is {P : Program} {w : World} {h : Heap} {a : Addr} {L : List (Addr × List Key)} (x : Ts0 P w h a L) : ∃ od, Heap.get? h a = some od ∧ od.cls = .type "set" := by
  obtain ⟨es, ep, t, ⟨od, e1, e2, e3⟩, _⟩ := x
  exact ⟨od, e1, e2.1⟩
/-- set.add of such a tuple -/
theorem addT_ok {pn : List (Addr × Obj)} {σ : L2.St} {G : Hp} {z : Shared} {EE : Value → Shared → Prop} {D u : Addr} {L : List (Addr × List Key)} {k : List Key} {Qq : Value → Shared → Prop} (J : Inv X pn σ G z) (hu : X.A.units + 64 < cLine) (hD : G D = some (TsO X.prog X.w D L))
    (hk : SqT X.K G u (k.map kV)) (hL : ∀ p ∈ L, SqT X.K G p.1 (p.2.map kV)) (few : L.length + 1 < 64)
    (go : ∀ M z2, (k ∈ L.map (·.2) → M = L) → (k ∉ L.map (·.2) → M.Perm ((u, k) :: L)) → (M.map (·.2)).Nodup → Inv X pn σ (upd G D (TsO X.prog X.w D M)) z2 → Qq .none z2) : wpAny (model X.prog X.w) X.A (call (.builtin "set.add") [.ref D, .ref u]) Qq EE z := by
  obtain ⟨es, ep, t, c1, c2, c3, c4, c5, c6, c7⟩ := (show Ts0 X.prog X.w z.heap D L from (J.hok D _ hD).1)
  have Z : TsAt (tkS X.prog X.w) z.heap D L es ep t := ⟨c1, c2, c3, c4, fun p hp => inv_key J (hL p hp), c5, c6, c7⟩
  have kx := inv_key J hk
  have ty : Shared.TypeIs z (.ref D) "set" := let ⟨od, e1, e2, _⟩ := c1; ⟨od, e1, e2.1⟩
  refine wpAny_call_entry PySem.F.slot_set_add ty PySem.F.entry_set_add ?_ (PySem.F.args_set_add_2 _ _)
  unfold Builtin.«set.add» Builtin.Frozenset.oneOther
  simp only [List.isEmpty_nil, bind_assoc]
  unfold Builtin.Frozenset.addrOf setAdd
  refine wpAny_bind (wpAny_pure ?_)
  try dsimp only
  refine wpAny_bind (wpAny_pure ?_)
  try dsimp only
  refine wpAny_bind ?_
  refine wpAny_holding ?_
  have rm : (tkS X.prog X.w).kd.room X.A.in1 := by
    show X.A.units + 1 < cLine
    omega
  refine wpAny_bind ((tkS X.prog X.w).kd.pyHash rm kx ?_)
  refine ts_add (s := { z with toks := z.toks + (tkS X.prog X.w).kd.draws k }) Z kx rm few fun b g M us e2 tb sb Z3 yes no => ?_
  show wpAny _ _ (ret Value.none) _ _ _
  have he : ∃ od, g.get? D = some od := let ⟨od, e, _⟩ := Z3.obj; ⟨od, e⟩
  refine wpAny_pure ⟨_, rfl, go M _ yes no Z3.nd ?_⟩
  exact J.write (e := D) (t' := z.toks + (tkS X.prog X.w).kd.draws k) (by rw [hD]; trivial) (.inl rfl) (fun c od hc hod => (sb.2 c hc).trans hod) he (tsO_ok ⟨us, e2, tb, Z3.obj, Z3.lst, Z3.tab, Z3.nd, Z3.led, Z3.room, Z3.few⟩)
/-- D: the new set -/
def tScT (P : Program) (w : World) (K : PySem.W.Frag) (wi : TI) (g : TG) (tt : TT) (te : TE) (vs : List Nat) : TE := fun σ H Q => wi σ H fun J G1 => ∀ D, G1 D = none → ∃ V : Nat → Nat → Hp → Prop, (∃ m, V 0 m (upd G1 D (TsO P w D []))) ∧ ∀ i m G, V i m G →
  (J.stop i G ∧ Q (.ref D) G) ∨ (J.go i G ∧ ∃ N : Hp → Prop, (∀ G', N G' → ∃ m', m' < m ∧ V (i + 1) m' G') ∧ ∀ x G', J.yld i G x G' → g x (wipe σ vs) G' fun σ2 G2 => wipe σ2 vs = wipe σ vs ∧ tt σ2 G2 fun b G3 =>
    if b = true then te σ2 G3 fun y G4 => ∃ (u : Addr) (L : List (Addr × List Key)) (k : List Key), y = .ref u ∧ G4 D = some (TsO P w D L) ∧ SqT K G4 u (k.map kV) ∧ (∀ p ∈ L, SqT K G4 p.1 (p.2.map kV)) ∧ L.length + 1 < 64 ∧
      ∀ M, (k ∈ L.map (·.2) → M = L) → (k ∉ L.map (·.2) → M.Perm ((u, k) :: L)) → (M.map (·.2)).Nodup → N (upd G4 D (TsO P w D M)) else N G3)
theorem scT_core {pn : List (Addr × Obj)} {z : Shared} {σ : L2.St} {G : Hp} {Q : VK} {el tg itr : Expr} {fs : List Expr} {sc : Scope} {own : List (PySem.Str × Nat)} {po po' : Pos} {wi : TI} {g : TG} {tt : TT} {te : TE} {use : Option (Value → Sem Unit)} {Qf : Value → Shared → Prop}
    (calm : X.calm = true) (hu : X.A.units + 64 < cLine) (ndN : X.N.Nodup) (J : Inv X pn σ G z) (hi : PI X tg itr wi) (bk : BlkOk X.N X.env.scope sc own)
    (hg : ∀ (z : Shared) (G : Hp) (C : Addr) (cl : List (PySem.Str × Addr)) (fp : List Addr), PG (X.blk z G sc (compEnvC sc cl C X.env) fp) tg g) (ht : ∀ (z : Shared) (G : Hp) (C : Addr) (cl : List (PySem.Str × Addr)) (fp : List Addr), PTs (X.blk z G sc (compEnvC sc cl C X.env) fp) fs tt)
    (he : ∀ (z : Shared) (G : Hp) (C : Addr) (cl : List (PySem.Str × Addr)) (fp : List Addr), PE (X.blk z G sc (compEnvC sc cl C X.env) fp) el te) (nofold : ∀ x, foldedSetIterable itr X.env x = pure x)
    (h : tScT X.prog X.w X.K wi g tt te (own.map (·.2)) σ G Q)
    (end_ : ∀ D C z' m G', Inv X pn σ G' z' → Q (.ref D) G' → z'.heap.Ns C m → FpOk X pn G' C → compPost (model X.prog X.w) X.A X.xe use Qf (.ref D) C (.ok .next) z') :
    wpAny (model X.prog X.w) X.A (comprehension (.SetComp el [⟨tg, itr, fs, 0⟩] sc po) sc X.env po' (newSet (.type "set")) false (eval itr X.env) use) Qf X.xe z := by
  have frees : ∀ y ∈ sc.names, y.2 = .free → ∃ c, X.env.cells.lookup y.1 = some c := fun y hy e => (bk.free y hy e).elim (fun k => J.ok.has _ (.inl k)) fun k => J.ok.has _ (.inr k)
  refine wpAny_comprehension_free (use := use) rfl nofold (closure_ok frees) bk.kind (fun y hy e => by rw [bk.uniq y hy, e]) ?_
  refine thn (hi.run pn z σ G _ J h) fun xv z1 hx => ?_
  refine thn hx fun itv z2 h2 => ?_
  obtain ⟨it, fp, tn, Jt, G2, rfl, I2, T, st2, f2, q⟩ := h2
  refine PpSet.newSet_ok (newEnv_comp ?_)
  generalize hD : z2.heap.objs.size = D
  have fresh : G2 D = none := I2.hok.fresh (Nat.le_of_eq hD)
  obtain ⟨V, ⟨m0, v0⟩, turn⟩ := q D fresh
  generalize hz3 : ({ z2 with heap := z2.heap.push (frK X.w) } : Shared) = z3
  have h3 : z3.heap = z2.heap.push (frK X.w) := by rw [← hz3]
  have I3 : Inv X pn σ (upd G2 D (TsO X.prog X.w D [])) z3 := by
    rw [← hz3]
    refine I2.laid (t' := z2.toks) (fun b o e => Heap.get?_push_of_some _ e) (Nat.le_of_eq hD) ?_
    rw [← hD]
    have F := ts_fresh (κ := tkS X.prog X.w) (h := z2.heap.push (frK X.w)) (a := z2.heap.objs.size) (Heap.get?_push_size _ rfl)
    exact tsO_ok ⟨_, _, _, F.obj, F.lst, F.tab, F.nd, F.led, F.room, F.few⟩
  have small : ∀ b ∈ fp, b < z2.heap.objs.size := fun b hb => let ⟨_, e, _⟩ := T.obj _ _ st2 b hb; Heap.lt_size e
  have f3 : ∀ b ∈ fp, FpOk X pn (upd G2 D (TsO X.prog X.w D [])) b ∧ b < z3.heap.objs.size := fun b hb => by
    have lt := small b hb
    refine ⟨⟨?_, (f2 b hb).2⟩, ?_⟩
    · rw [upd_ne (by rw [← hD]; exact Nat.ne_of_lt lt)]
      exact (f2 b hb).1
    · rw [h3, Heap.size_push]
      exact Nat.lt_succ_of_lt lt
  have st3 : tn 0 z3.heap := T.keep _ _ _ st2 fun b _ o e => by
    rw [h3]
    exact Heap.get?_push_of_some _ e
  have I4 := block_start I3 bk ndN f3
  have pg := hg z3 (upd G2 D (TsO X.prog X.w D [])) z3.heap.objs.size (cellsFrom (z3.heap.objs.size + 1) sc.names (cloFrom X.env.cells sc.names [])) fp
  have pt := ht z3 (upd G2 D (TsO X.prog X.w D [])) z3.heap.objs.size (cellsFrom (z3.heap.objs.size + 1) sc.names (cloFrom X.env.cells sc.names [])) fp
  have pe := he z3 (upd G2 D (TsO X.prog X.w D [])) z3.heap.objs.size (cellsFrom (z3.heap.objs.size + 1) sc.names (cloFrom X.env.cells sc.names [])) fp
  show codeAny _ _ (.compStart (.SetComp el [⟨tg, itr, fs, 0⟩] sc po) 0 (.ref it) (.ref D) (compEnvC sc (cellsFrom (z3.heap.objs.size + 1) sc.names (cloFrom X.env.cells sc.names [])) z3.heap.objs.size X.env)) (compPost (model X.prog X.w) X.A X.xe use Qf (.ref D) z3.heap.objs.size) { z3 with heap := pushCells (z3.heap.push { cls := .type "dict", data := .dict #[] }) sc.names }
  have gone : ∀ b ∈ fp, (upd G2 D (TsO X.prog X.w D [])) b = none := fun b hb => (f3 b hb).1.1
  generalize hev : compEnvC sc (cellsFrom (z3.heap.objs.size + 1) sc.names (cloFrom X.env.cells sc.names [])) z3.heap.objs.size X.env = ev at I4 pg pt pe ⊢
  have evL : ev.locals = z3.heap.objs.size := by
    subst hev
    rfl
  generalize hG3 : upd G2 D (TsO X.prog X.w D []) = G3 at I3 I4 pg pt pe v0 gone f3
  generalize hz4 : ({ z3 with heap := pushCells (z3.heap.push { cls := .type "dict", data := .dict #[] }) sc.names } : Shared) = z4 at I4 ⊢
  have st4 : tn 0 z4.heap := T.keep _ _ _ st3 fun b _ o e => by
    rw [← hz4]
    exact pushCells_keeps _ _ _ _ (Heap.get?_push_of_some _ e)
  have stat : ∀ {σ' : L2.St} {G' : Hp} {z' : Shared}, Inv (X.blk z3 G3 sc ev fp) [] σ' G' z' → (∀ b ∈ fp, G' b = none) → ∀ b ∈ fp, FpOk (X.blk z3 G3 sc ev fp) [] G' b := fun {σ' G' z'} K' hn b hb =>
    ⟨hn b hb, (K'.ok.exf b hb).1, K'.ok.exfs b hb, .inl hb, fun x c e => (K'.ok.exf b hb).2 x c e, fun p hp => absurd (show p ∈ ([] : List (Addr × Obj)) ++ [] from hp) (by simp)⟩
  have loop : codeAny (model X.prog X.w) X.A (.compLoop (.SetComp el [⟨tg, itr, fs, 0⟩] sc po) 0 (.ref it) (.ref D) ev) (compPost (model X.prog X.w) X.A X.xe use Qf (.ref D) z3.heap.objs.size) z4 := by
    refine PpSet.compLoopS_any (fun n z' => ∃ i G', Inv (X.blk z3 G3 sc ev fp) [] (wipe σ (own.map (·.2))) G' z' ∧ tn i z'.heap ∧ (∀ b ∈ fp, G' b = none) ∧ V i n G') ?_ m0 ⟨0, G3, I4, st4, gone, v0⟩
    rintro n z5 ⟨i, G5, I5, st5, n5, v5⟩
    rcases turn i n G5 v5 with ⟨stop, fin⟩ | ⟨go, N, hN, step⟩
    · have td := T.done (X.blk z3 G3 sc ev fp) rfl rfl rfl calm i [] z5 _ G5 (fun _ _ => False) I5 (stat I5 n5) st5 stop
      refine thnF td fun r z6 ⟨hr, I6⟩ => ?_
      subst hr
      have I7 : Inv X pn σ G5 z6 := I3.call' (ch := fp) I6.os I6.base I6.hok I6.bare fun b hb => let f := (f3 b hb).1.2; ⟨f.2.2.1, f.1, f.2.2.2.1, f.2.2.2.2⟩
      have nC : G5 z3.heap.objs.size = none := by
        have y : G5 ev.locals = none := I6.free
        rwa [evL] at y
      obtain ⟨m, hn, _⟩ := I6.loc
      have hn : z6.heap.Ns ev.locals m := hn
      rw [evL] at hn
      exact end_ D z3.heap.objs.size z6 m G5 I7 fin hn (I3.fpOk (Nat.le_refl _) nC)
    · have ti := T.item (X.blk z3 G3 sc ev fp) rfl rfl rfl calm i [] z5 _ G5 (fun _ _ => False) I5 (stat I5 n5) st5 go
      refine thnF ti fun r z6 ⟨u, hr, h6⟩ => ?_
      subst hr
      refine thnF h6 fun _ z7 ⟨x, G7, I7, r7, y7, st7, n7⟩ => ?_
      have I7' := I7.pinned (stat I7 n7) (T.obj _ _ st7)
      refine thnF (pg.run _ z7 _ G7 x u _ I7' r7 (step x G7 y7)) fun _ z8 ⟨σ8, G8, I8, hw8, q8⟩ => ?_
      refine thnF (pt.run _ z8 σ8 G8 _ I8 q8) fun b z9 ⟨G9, I9, q9⟩ => ?_
      have next : ∀ {z' : Shared} {G' : Hp}, Inv (X.blk z3 G3 sc ev fp) ([] ++ pinsAt fp z7.heap) σ8 G' z' → N G' → ∃ m, m < n ∧ ∃ i G', Inv (X.blk z3 G3 sc ev fp) [] (wipe σ (own.map (·.2))) G' z' ∧ tn i z'.heap ∧ (∀ b ∈ fp, G' b = none) ∧ V i m G' := fun {z' G'} K' nx => by
        obtain ⟨m', hm, v'⟩ := hN G' nx
        have stays : ∀ b ∈ fp, ∀ o, z7.heap.get? b = some o → z'.heap.get? b = some o ∧ G' b = none := fun b hb o e => by
          have y := K'.pin (b, o) (List.mem_append_right _ (List.mem_append_right _ (mem_pinsAt hb e)))
          exact ⟨y.1, y.2.1⟩
        have ln : (wipe σ (own.map (·.2))).length = σ8.length := by rw [← hw8, wipe_length]
        refine ⟨m', hm, i + 1, G', (K'.unpinned (pins := [])).weak ln (fun j v e => ?_), ?_, fun b hb => ?_, v'⟩
        · rw [← hw8] at e
          exact (wipe_some e).1
        · exact T.keep _ _ _ st7 fun b hb o e => (stays b hb o e).1
        · obtain ⟨o, e, _⟩ := T.obj _ _ st7 b hb
          exact (stays b hb o e).2
      cases b with
      | false =>
        simp only [Bool.false_eq_true, if_false] at q9 ⊢
        exact next I9 q9
      | true =>
        simp only [if_true] at q9 ⊢
        refine thnF (pe.run _ z9 σ8 G9 _ I9 q9) fun yv zA ⟨y, GA, IA, rA, ua, L, k, ey, eD, hk, hL, few, nx⟩ => ?_
        subst ey
        cases (show yv = Value.ref ua from rA)
        exact addT_ok (X := X.blk z3 G3 sc ev fp) IA hu eD hk hL few fun M zB yes no nd IB => next IB (nx M yes no nd)
  exact PpSet.codeAny_compStart_set loop (T.self X.A 0 _ _ _ st4 loop)
theorem pe_scT {el tg itr : Expr} {fs : List Expr} {sc : Scope} {own : List (PySem.Str × Nat)} {po : Pos} {wi : TI} {g : TG} {tt : TT} {te : TE} (calm : X.calm = true) (hu : X.A.units + 64 < cLine) (ndN : X.N.Nodup) (hi : PI X tg itr wi) (bk : BlkOk X.N X.env.scope sc own)
    (hg : ∀ (z : Shared) (G : Hp) (C : Addr) (cl : List (PySem.Str × Addr)) (fp : List Addr), PG (X.blk z G sc (compEnvC sc cl C X.env) fp) tg g) (ht : ∀ (z : Shared) (G : Hp) (C : Addr) (cl : List (PySem.Str × Addr)) (fp : List Addr), PTs (X.blk z G sc (compEnvC sc cl C X.env) fp) fs tt)
    (he : ∀ (z : Shared) (G : Hp) (C : Addr) (cl : List (PySem.Str × Addr)) (fp : List Addr), PE (X.blk z G sc (compEnvC sc cl C X.env) fp) el te) (nofold : ∀ x, foldedSetIterable itr X.env x = pure x := by intro _; rfl) :
    PE X (.SetComp el [⟨tg, itr, fs, 0⟩] sc po) (tScT X.prog X.w X.K wi g tt te (own.map (·.2))) := by
  refine ⟨fun pn z σ G Q J h => ?_⟩
  rw [PpSet.eval_SetComp]
  refine scT_core calm hu ndN J hi bk hg ht he nofold h fun D C z' m G' J' q hn f => ⟨m, hn, fun h2 sb => ?_⟩
  exact ⟨.ref D, G', J'.turned (t' := z'.toks) (fun b o hb e => (sb.2 b hb).trans e) f.1 f.2.1 f.2.2.2.1 f.2.2.2.2.1 f.2.2.2.2.2, rfl, q⟩
end
end Rz

namespace Rz
open PySem PySem.Spec PyProof.Rows L2 GenW
/-! ### yield from a list that stays -/
section
variable {P : Program} {w : World} {B : Around} {EE : Value → Shared → Prop} {z : Shared} {ir lr : Addr} {i : Nat} {xs : Array Value}
theorem lst_more {v : Value} {Qq : Option Value → Shared → Prop} (h1 : z.heap.get? ir = some (GNX.itObj lr i)) (h2 : z.heap.IsList lr xs) (h3 : xs[i]? = some v)
    (go : ∀ g, g.get? ir = some (GNX.itObj lr (i + 1)) → Heap.SameBut ir z.heap g → Qq (some v) { z with heap := g }) : wpAny (model P w) B (callSpecial? (.ref ir) "__next__") Qq EE z := by
  have ty : z.TypeIs (.ref ir) "list_iterator" := ⟨_, h1, rfl⟩
  refine wpAny_callSpecial?_slot (name := Str.ofString "__next__") ty slot_listiter_next (wpAny_call_entry slot_listiter_next ty entry_listiter_next ?_ (args_listiter_next _))
  exact GNX.next_item h1 h2 h3 go
theorem lst_over {Qq : Option Value → Shared → Prop} (calm : B.handled = none) (h1 : z.heap.get? ir = some (GNX.itObj lr i)) (h2 : z.heap.IsList lr xs) (h3 : xs[i]? = none)
    (go : ∀ e g, StopX e g → Heap.ExtBut ir z.heap g → EE e { z with heap := g }) : wpAny (model P w) B (callSpecial? (.ref ir) "__next__") Qq EE z := by
  have ty : z.TypeIs (.ref ir) "list_iterator" := ⟨_, h1, rfl⟩
  obtain ⟨lo, e1, _, nl, e2⟩ := h2
  refine wpAny_callSpecial?_slot (name := Str.ofString "__next__") ty slot_listiter_next (wpAny_call_entry slot_listiter_next ty entry_listiter_next ?_ (args_listiter_next _))
  show wpAny _ _ (field (.ref ir) 0 >>= _) _ _ z
  refine wpAny_bind (wpAny_field h1 rfl (x := .ref lr) rfl ?_)
  show wpAny _ _ (if (Value.ref lr == Value.none) = true then _ else _) _ _ z
  rw [if_neg (show ¬ ((Value.ref lr == Value.none) = true) from Bool.false_ne_true)]
  show wpAny _ _ (field (.ref ir) 1 >>= _) _ _ z
  refine wpAny_bind (wpAny_field h1 rfl (x := .int i 0) rfl ?_)
  show wpAny _ _ (seqItems? (.ref lr) >>= _) _ _ z
  refine wpAny_bind (wpAny_seqItems e1 e2 ?_)
  simp only [Int.toNat_natCast, h3]
  refine wpAny_bind (wpAny_rule (wpAny_bind (wpAny_setField h1 rfl (by simp) ?_)))
  show wpAny _ _ (newExc (.type "StopIteration") [] >>= _) _ _ _
  refine wpAny_bind ?_
  simp only [newExc, newTuple]
  refine wpAny_bind (wpAny_newObj_type ?_ (by size_fits))
  refine wpAny_bind (m := firstArgMember _ _) (wpAny_of_eq (a := Value.none) (by first | rfl | (simp only [firstArgMember]; rfl)) ?_)
  refine wpAny_newObj_type ?_ (by size_fits)
  simp only [raiseNew]
  refine wpAny_bind (wpAny_handled ?_)
  first | rw [show B.in1.handled = none from calm] | rw [calm]
  refine wpAny_bind (wpAny_pure (wpAny_throw ?_))
  refine go _ _ ⟨_, _, _, rfl, Heap.get?_push_size _ rfl, rfl, rfl, ?_⟩ (((Heap.SameBut.update ..).extBut.push _).push _)
  first
    | rfl
    | (rw [Array.getElem?_append_left (by decide)]; rfl)
    | kernel_rfl
end
section
variable {X : Cx} {e : Expr} {te : TE}
def tYfLst (te : TE) : TYf := fun σ G Q => te σ G fun x G1 => ∃ l ys, x = .ref l ∧ G1 l = some (.lst ys) ∧ Q ys G1
theorem close_lst : typeLookup (.type "list_iterator") "close" = pure none := by rw [typeLookup_type, builtinLookup_eq_fast]; kernel_rfl
theorem yf_lst (he : PE X e te) : YfE X e (tYfLst te) := by
  refine ⟨fun pn z σ G Q J h => ?_⟩
  refine thn (he.run pn z σ G _ J h) fun v z1 ⟨x, G1, J1, r1, l, ys, ex, hl, go⟩ => ?_
  subst ex
  obtain rfl : v = Value.ref l := r1
  obtain ⟨its, rv, pl, hz⟩ := J1.list (SqL.of hl)
  have il : z1.heap.IsList l its.toArray := pl.isList
  refine ⟨"list", il.typeIs, by decide, wpAny_pyIter_list il ?_⟩
  have younger : ∀ b o, z1.heap.get? b = some o → b ≠ z1.heap.objs.size := fun b o q => Nat.ne_of_lt (Heap.lt_size q)
  have stay : ∀ b o, z1.heap.get? b = some o → (z1.heap.push (GNX.itObj l 0)).get? b = some o := fun b o q => Heap.get?_push_of_some _ q
  refine ⟨z1.heap.objs.size, G1, ys, fun j g => g.get? z1.heap.objs.size = some (GNX.itObj l j) ∧ g.IsList l its.toArray, rfl, J1.kept (t' := z1.toks) stay, .inr J1.sz, Nat.ne_of_gt J1.lt, fun y c hy => ?_, J1.hok.fresh (Nat.le_refl _), fun p hp => ?_, ⟨Heap.get?_push_size _ rfl, il.push _⟩, ?_, go⟩
  · obtain ⟨v, o, ho, _⟩ := J1.cell y c hy
    exact younger c o ho
  · exact younger p.1 _ (J1.pin p hp).1
  · have nl : l ≠ z1.heap.objs.size := by
      obtain ⟨o, ho, _⟩ := il
      exact younger l o ho
    refine ⟨⟨"list_iterator", fun j g q => ⟨_, q.1, rfl⟩, close_lst, by decide⟩, fun j g g' q hk => ?_, fun B j x z2 Qq EE calm hx q go2 => ?_, fun B z2 Qq EE calm q go2 => ?_⟩
    · obtain ⟨q1, o, ho, r⟩ := q
      exact ⟨hk _ _ (.inl rfl) q1, o, hk _ o (.inr (by rw [hl]; exact fun y => by cases y)) ho, r⟩
    · obtain ⟨q1, q2⟩ := q
      obtain ⟨u, hu, ru⟩ := rv.get hx
      refine lst_more q1 q2 (v := u) (by simpa using hu) fun g q3 sb => ?_
      obtain ⟨o, ho, r⟩ := q2
      exact go2 u g z2.toks ru ⟨q3, o, (sb.2 l nl).trans ho, r⟩ fun b o hb eb => (sb.2 b hb).trans eb
    · obtain ⟨q1, q2⟩ := q
      have none_ : its.toArray[ys.length]? = none := by
        have e1 := rv.length
        have e2 : its[ys.length]? = none := List.getElem?_eq_none_iff.mpr (by omega)
        simpa using e2
      exact lst_over calm q1 q2 none_ fun e g sx hk => go2 e g z2.toks sx fun b o hb eb => hk b o hb eb
end
end Rz

namespace Rz
open PySem PySem.Spec PyProof.Rows L2
/-! ### a loop over an own class whose __iter__ gives a list's iterator -/
/-- the def gives a new iterator of the list at t -/
def IterLOk (P : Program) (w : World) (K : PySem.W.Frag) (mg : Str → Option Value) (base : Heap) (k : Nat) (f : Addr) (pre : Addr → Addr → Hp → Prop) : Prop :=
  ∀ (A : Around) (outer : List Env) (s : Shared) (H : Hp) (a t : Addr), Room k A → Env0 P w K mg base A outer s H → pre a t H →
    codeAny (model P w) A (.call (.ref f) ⟨[.ref a], []⟩) (fun q s' => match q with
      | .ok (.ret u) => CE outer P w H s (fun v H' => ∃ it, v = .ref it ∧ s.heap.objs.size ≤ it ∧ H it = none ∧ H' = upd H it (ItO t it 0)) u s'
      | .ok _ => False
      | .error e => L2.CX P w outer H s E0 e s') s
theorem iterL_of {P : Program} {w : World} {K : PySem.W.Frag} {mg : Str → Option Value} {base : Heap} {k : Nat} {x qual : Str} {st : Stmt} {f : Addr} {fd : FuncData} {N ps : List Str} {pre : Addr → Addr → Hp → Prop} {e : Expr} {p2 : Pos} (F : Fun K x qual st f fd) (S : FnScope N ps (defScope st))
    (hb : Binds K fd ps []) (hl : ps.length = 1) (hst : defBody st = [.Return (some e) p2])
    (hbody : ∀ (cdv : Value) (A : Around) (outer : List Env) (s : Shared) (H : Hp) (a t : Addr), Room k (A.deeper (envOfC qual (defScope st) s.heap.objs.size f cdv)) → pre a t H →
      ∃ te, PE (cxOf (L2.CX P w) P w K mg base N qual (defScope st) f cdv A outer s H E0) e te ∧ te (start N [.ref a]) H (fun v H' => ∃ it, v = .ref it ∧ s.heap.objs.size ≤ it ∧ H it = none ∧ H' = upd H it (ItO t it 0))) : IterLOk P w K mg base (k + 1) f pre := by
  intro A outer s H a t hr e0 hpre
  have KX : K.In s.heap := e0.mod.kin.keeps fun b o e => (e0.bs b o e).1
  have hbb := hb s [.ref a] KX (by rw [List.append_nil]; exact hl.symm)
  rw [List.append_nil] at hbb
  obtain ⟨oc, od, kV, doc, pm, an, cdv, ct, osl, rfl, lk, hcd⟩ := F.ex
  have lim : s.heap.NoLimit := e0.mod.nolimit.keeps fun b o e => (e0.bs b o e).1
  have hkind : ∀ y ∈ ps.zip [Value.ref a], (defScope st).names.lookup y.1 = some .local ∨ ((defScope st).names.lookup y.1 = some .cell ∧ ((cellsFrom (s.heap.objs.size + 1) (defScope st).names []).lookup y.1).isSome = true) := fun ⟨n, v⟩ hy => by
    rcases S.par n (List.of_mem_zip hy).1 with q | q
    · exact .inl q
    · exact .inr ⟨q, PySem.W.cellsFrom_some _ _ _ (.inl q)⟩
  refine codeAny_call_function hr.depth (KX _ _ lk) rfl S.co S.gen rfl (PySem.W.codeRec_of KX hcd) (hbb _ _ _ _ ?_)
  refine wpAny_newFunctionEnv_cells S.kind hkind fun env he s1 xx => ?_
  subst he
  refine ⟨lim.keeps xx.toInCall.keep, codeAny_func ?_⟩
  obtain ⟨te, hc, hq⟩ := hbody cdv A outer s H a t (hr.deeper _) hpre
  have I : Inv (cxOf (L2.CX P w) P w K mg base N qual (defScope st) f cdv A outer s H E0) [] (start N [.ref a]) H s1 := inv_start S hr.hd e0 (by rw [hl]; rfl) (.cons rfl .nil) xx
  show wpAny _ _ (execs (defBody st) _) _ _ _
  rw [hst]
  refine wpAny_execs_cons (wpAny_Return_some (wpAny_mono (hc.run [] s1 (start N [.ref a]) H _ I hq) (fun b s2 hs => ?_) (fun e s' hs => ?_)))
  · obtain ⟨v, H2, I2, rv, hv⟩ := hs
    exact ⟨v, H2, I2.os, I2.bare, I2.base, I2.hok, rv, hv⟩
  · exact hs
/-- a comprehension or a loop over such an instance -/
def iOwnL (K : PySem.W.Frag) (C : Addr) (pre : Addr → Addr → Hp → Prop) (te : TE) : TI := fun σ H R => te σ H fun x H1 => ∃ a t dx fs xs, x = .ref a ∧ H1 a = some (.ins C dx fs) ∧ pre a t H1 ∧ SqL K H1 t xs ∧ R (Itl K t) H1
section
variable {X : Cx} {tg e : Expr} {te : TE} {C f : Addr} {k : Nat} {pre : Addr → Addr → Hp → Prop}
theorem pi_ownL (M : Meth X.K C "__iter__" f) (F : IterLOk X.prog X.w X.K X.mg X.base k f pre) (hr : Room k X.A) (he : PE X e te) : PI X tg e (iOwnL X.K C pre te) := by
  refine ⟨fun pins s σ H R I h => ?_⟩
  refine thn (he.run pins s σ H _ I h) fun v s1 ⟨x, H1, I1, r1, q1⟩ => ?_
  obtain ⟨a, t, dx, fs, xs, ex, ea, hp, ht, q⟩ := q1
  subst ex
  obtain rfl : v = Value.ref a := r1
  obtain ⟨od, J⟩ := inst_at I1 ea
  obtain ⟨m0, hF⟩ := I1.fr
  refine PySem.W.owit_iter hF I1.ok.mod.kin J M.at_ M.fn (wpAny_call (codeAny_mono (F X.A X.stack s1 H1 a t hr I1.env0 hp) fun r s' hq => ?_))
  match r, hq with
  | .error er, hq =>
    obtain ⟨_, _, _, _, _, _, _, _, _, _, _, _, z⟩ := hq
    exact z.elim
  | .ok .next, hq => exact False.elim hq
  | .ok .brk, hq => exact False.elim hq
  | .ok .cont, hq => exact False.elim hq
  | .ok (.ret u), hq =>
    obtain ⟨v, H', I2, rv, it, rfl, young, hn, rfl⟩ := I1.after hq
    obtain rfl : u = Value.ref it := rv
    have hit : upd H1 it (ItO t it 0) it = some (ItO t it 0) := upd_same
    have st : s'.heap.IsListIter it t 0 := ⟨_, itO_get I2 hit, rfl, rfl⟩
    have hit2 := hit
    unfold ItO at hit2
    unfold PySem.W.OwitIt
    refine wpAny_specialOf (name := Str.ofString "__next__") st.typeIs slot_listiter_next.lookup ?_
    have I3 := ItX.inv_drop I2 hit2
    have fp := ItX.inv_fp I2 hit2 (Nat.le_trans I1.sz young)
    have eH : ItX.dropH (upd H1 it (ItO t it 0)) it = H1 := ItX.dropH_upd hn
    rw [eH] at I3 fp
    refine ⟨it, [it], _, _, H1, rfl, I3, turn_list t it, st, fun b hb => ?_, q⟩
    have e : b = it := by simpa using hb
    rw [e]
    exact fp
end
end Rz

namespace Rz
open PySem PySem.Spec PyProof.Rows L2
/-! ### a head by facts: the top is run once, what is told of it is one question -/
/-- what an object leads to: a def's code, defaults, closure; a class's names and bases; a table's values; a property's def -/
def refsN (a : Addr) (o : Obj) : List Addr := match o with
  | ⟨c, _, d, _⟩ => (match d with
    | .func fd => He.refV fd.code ++ (He.refV fd.defaults ++ (He.refV fd.kwdefaults ++ fd.closure.map (·.2)))
    | .cls cd => cd.ns :: (cd.mro.flatMap He.refV).filter fun b => !(b == a)
    | .dict es _ => es.toList.flatMap fun e => He.refV e.val
    | .fields vs => (match c with
      | .type t => (match decide (t = "property") || decide (t = "classmethod") with
        | true => vs.toList.flatMap He.refV
        | false => [])
      | _ => [])
    | _ => [])
def stepN (g : Addr → Option Obj) (as : List Addr) : List Addr := as.flatMap fun a => match g a with
  | some o => refsN a o
  | none => []
def layN (g : Addr → Option Obj) : Nat → List Addr → List Addr
  | 0, as => as
  | n + 1, as => as ++ layN g n (stepN g as)
/-- these names of the module, and what they lead to in n steps -/
def asR (g : Addr → Option Obj) (xs : List Str) (n : Nat) : List Addr := mainGlobals :: cStatics :: layN g n (xs.map fun x => He.ga (He.frG g [mainGlobals]) x)
/-- where a def stands: a global, a method, a property's def, a classmethod's def -/
inductive Pa where
  | glo (x : Str)
  | meth (c m : Str)
  | prop (c m : Str)
  | cmeth (c m : Str)
def cmP (K : PySem.W.Frag) (c m : Str) : Addr := match PySem.W.findCls K (.ref (He.ga K c)) (.type "type") m with
  | some (.get _ (.ref p) _ _) => p
  | _ => 0
def recG (K : PySem.W.Frag) (p : Addr) (t : String) : Addr := match PySem.W.recIn K p t with
  | some (.ref g :: _) => g
  | _ => 0
def Pa.at (K : PySem.W.Frag) : Pa → Addr
  | .glo x => He.ga K x
  | .meth c m => He.ma K (He.ga K c) m
  | .prop c m => recG K (He.ma K (He.ga K c) m) "property"
  | .cmeth c m => recG K (cmP K c m) "classmethod"
/-- a def: where, its name, qualified name, parameters, body, scope, closure names, defaults, keyword-only defaults -/
structure DefR where
  at_ : Pa
  name : Str
  qual : Str
  params : Arguments
  body : List Stmt
  scope : Scope
  free : List Str := []
  dfl : List He.Dv := []
  kwd : List (Str × He.Dv) := []
abbrev FnHd : Type := Option (Str × Str × Arguments × FuncBody × Scope × Addr × List Str × Addr)
def fnR (K : PySem.W.Frag) (p : Pa) : FnHd := match K.lookup (p.at K) with
  | some ⟨_, _, .func fd, _⟩ => some (fd.name, fd.qualname, fd.params, fd.body, fd.scope, fd.globals, fd.closure.map (·.1), fd.builtins)
  | _ => none
def DefR.val (d : DefR) : FnHd := some (d.name, d.qual, d.params, .stmts d.body, d.scope, mainGlobals, d.free, builtinsNs)
def DefR.dvs (K : PySem.W.Frag) (d : DefR) : List V := d.dfl.map (He.Dv.v K)
def DefR.kws (K : PySem.W.Frag) (d : DefR) : List (Str × V) := d.kwd.map fun q => (q.1, q.2.v K)
def DefR.ok (K : PySem.W.Frag) (d : DefR) : Bool := PySem.W.keepIn K (.ref (d.at_.at K)) && (match K.lookup (d.at_.at K) with
  | some ⟨_, _, .func fd, _⟩ => PySem.W.codeIn K fd.code d.qual && (He.dflB K fd.defaults (d.dvs K) && He.kwdB K fd.kwdefaults (d.kws K))
  | _ => false)
theorem fnR_at {K : PySem.W.Frag} {d : DefR} (e : fnR K d.at_ = d.val) : ∃ oc od osl cl dV kV doc pm an cdv ct, cl.map (·.1) = d.free ∧
    K.lookup (d.at_.at K) = some ⟨oc, od, .func ⟨d.name, d.qual, d.params, .stmts d.body, d.scope, mainGlobals, cl, dV, kV, doc, pm, an, cdv, ct, builtinsNs⟩, osl⟩ := by
  unfold fnR at e
  cases q : K.lookup (d.at_.at K) with
  | none =>
    rw [q] at e
    cases e
  | some o =>
    obtain ⟨oc, od, dt, osl⟩ := o
    rw [q] at e
    cases dt with
    | func fd =>
      obtain ⟨n1, n2, n3, n4, n5, n6, n7, n8, n9, n10, n11, n12, n13, n14, n15⟩ := fd
      have e2 : (some (n1, n2, n3, n4, n5, n6, n7.map (·.1), n15) : FnHd) = some (d.name, d.qual, d.params, .stmts d.body, d.scope, mainGlobals, d.free, builtinsNs) := e
      simp only [Option.some.injEq, Prod.mk.injEq] at e2
      obtain ⟨h1, h2, h3, h4, h5, h6, h7, h8⟩ := e2
      subst h1 h2 h3 h4 h5 h6 h8
      exact ⟨oc, od, osl, n7, n8, n9, n10, n11, n12, n13, n14, h7, rfl⟩
    | _ => cases e
theorem DefR.funD {K : PySem.W.Frag} {d : DefR} (e : fnR K d.at_ = d.val) (c : d.ok K = true) (nofree : d.free = []) : ∃ fd, FunD K d.name d.qual d.params d.body d.scope (d.dvs K) (d.kws K) (d.at_.at K) fd := by
  obtain ⟨oc, od, osl, cl, dV, kV, doc, pm, an, cdv, ct, e1, q⟩ := fnR_at e
  rw [nofree, List.map_eq_nil_iff] at e1
  subst e1
  obtain ⟨kp, c2⟩ := He.ba c
  rw [q] at c2
  obtain ⟨k1, k2⟩ := He.ba (show (PySem.W.codeIn K cdv d.qual && (He.dflB K dV (d.dvs K) && He.kwdB K kV (d.kws K))) = true from c2)
  obtain ⟨k3, k4⟩ := He.ba k2
  exact ⟨_, ⟨oc, od, dV, kV, doc, pm, an, cdv, ct, osl, rfl, q, k1, He.dflB_ok k3, He.kwdB_ok k4⟩, kp⟩
/-- one without defaults -/
theorem FunD.fun {K : PySem.W.Frag} {x qual : Str} {st : Stmt} {f : Addr} {fd : FuncData} (F : FunD K x qual (defArgs st) (defBody st) (defScope st) [] [] f fd) : Fun K x qual st f fd := by
  obtain ⟨⟨oc, od, dV, kV, doc, pm, an, cdv, ct, osl, e, lk, hcd, hd, _⟩, kp⟩ := F
  rcases hd with ⟨_, rfl⟩ | ⟨n, _⟩
  · exact ⟨⟨oc, od, kV, doc, pm, an, cdv, ct, osl, e, lk, hcd⟩, kp⟩
  · exact absurd rfl n
/-! exceptions with an __init__ of their own -/
def oexB (K : PySem.W.Frag) (C : Addr) : Bool := match K.lookup C with
  | some ⟨.type t, _, .cls cd, sl⟩ => decide (t = "type") && (match cd.mro, sl.toList with
    | .ref C' :: bm, [_, _, _, _, some (.builtin n), _] => decide (C' = C) && (decide (n = "ValueError.__new__") && (!cd.hasDel && (cd.hasDict && PySem.HandSPX.refsVE bm)))
    | _, _ => false)
  | _ => false
theorem oexB_ok {K : PySem.W.Frag} {C : Addr} (h : oexB K C = true) : ∃ nm q N bs bm sn sub ab col dd k0 k1 k2 k3 k5, K.lookup C = some (excClassObj nm q C N bs bm true sn sub ab col dd k0 k1 k2 k3 k5 "ValueError.__new__") ∧ PySem.HandSPX.refsVE bm = true := by
  unfold oexB at h
  cases q : K.lookup C with
  | none =>
    rw [q] at h
    cases h
  | some o =>
    obtain ⟨oc, od, dt, ⟨sl⟩⟩ := o
    rw [q] at h
    cases oc with
    | type t =>
      cases dt with
      | cls cd =>
        obtain ⟨h1, h2⟩ := He.ba h
        have e1 := of_decide_eq_true h1
        obtain ⟨nm, bs, mro, ns, qn, hd, sn, sub, ab, col, del⟩ := cd
        dsimp only at h2
        split at h2
        · rename_i _ _ C' bm k0 k1 k2 k3 n k5
          obtain ⟨g1, h2⟩ := He.ba h2
          obtain ⟨g2, h2⟩ := He.ba h2
          obtain ⟨g3, h2⟩ := He.ba h2
          obtain ⟨g4, g5⟩ := He.ba h2
          have a1 := of_decide_eq_true g1
          have a2 := of_decide_eq_true g2
          have a3 : del = false := by simpa using g3
          have a4 : hd = true := g4
          subst a1
          subst a2
          subst a3
          subst a4
          subst e1
          exact ⟨nm, qn, ns, bs, bm, sn, sub, ab, col, od, k0, k1, k2, k3, k5, rfl, g5⟩
        · cases h2
      | _ => cases h
    | _ => cases dt <;> cases h
/-- the def's code object was made from this file; its closure holds the class -/
def exiB (file : Str) (K : PySem.W.Frag) (f C : Addr) (qual : Str) : Bool := match K.lookup f with
  | some ⟨_, _, .func fd, _⟩ => (match fd.defaults with
    | .none => (match fd.code with
      | .ref cda => PySem.W.codeIn K (.ref cda) qual && (match K.lookup cda with
        | some ⟨_, _, .fields vs, _⟩ => (match (vs[2]? : Option Value) with
          | some (Value.str y _) => file == y
          | _ => false)
        | _ => false)
      | _ => false) && (match fd.closure with
      | [(x, cc)] => decide (x = "__class__") && (match K.lookup cc with
        | some ⟨_, _, .cell (some (.ref a)), _⟩ => decide (a = C)
        | _ => false)
      | _ => false)
    | _ => false)
  | _ => false
theorem exiB_ok {P : Program} {K : PySem.W.Frag} {d : DefR} {C : Addr} (e : fnR K d.at_ = d.val) (h : exiB P.main.file K (d.at_.at K) C d.qual = true) :
    ∃ (oc kV doc pm ct ccl cl : Value) (od an cdd cld : Option Addr) (osl ccs csl : Array (Option Value)) (vs5 : Array Value) (file : Str) (tf : Tok) (cc cda : Addr), K.lookup (d.at_.at K) = some ⟨oc, od, .func (PySem.W.ksFn d.name d.qual d.params d.body d.scope .none kV doc pm an (.ref cda) ct cc), osl⟩ ∧
      PySem.W.codeIn K (.ref cda) d.qual = true ∧ K.lookup cda = some ⟨ccl, cdd, .fields vs5, ccs⟩ ∧ vs5[2]? = some (.str file tf) ∧ ((P.main.file : Str) == file) = true ∧ K.lookup cc = some ⟨cl, cld, .cell (some (.ref C)), csl⟩ := by
  obtain ⟨oc, od, osl, cl, dV, kV, doc, pm, an, cdv, ct, e1, q⟩ := fnR_at e
  unfold exiB at h
  rw [q] at h
  dsimp only at h
  cases dV with
  | none =>
    dsimp only at h
    obtain ⟨h1, h2⟩ := He.ba h
    cases cdv with
    | ref cda =>
      dsimp only at h1
      obtain ⟨h3, h4⟩ := He.ba h1
      cases q2 : K.lookup cda with
      | none =>
        rw [q2] at h4
        cases h4
      | some o2 =>
        obtain ⟨c2, d2, t2, s2⟩ := o2
        rw [q2] at h4
        cases t2 with
        | fields vs =>
          dsimp only at h4
          cases q3 : vs[2]? with
          | none =>
            rw [q3] at h4
            cases h4
          | some u =>
            rw [q3] at h4
            cases u with
            | str y t =>
              dsimp only at h4
              match cl, h2 with
              | [(x, cc)], h2 =>
                dsimp only at h2
                obtain ⟨h5, h6⟩ := He.ba h2
                have ex := of_decide_eq_true h5
                subst ex
                cases q4 : K.lookup cc with
                | none =>
                  rw [q4] at h6
                  cases h6
                | some o3 =>
                  obtain ⟨c3, d3, t3, s3⟩ := o3
                  rw [q4] at h6
                  cases t3 with
                  | cell u2 =>
                    cases u2 with
                    | none => cases h6
                    | some u2 =>
                      cases u2 with
                      | ref a =>
                        have ea : a = C := of_decide_eq_true h6
                        subst ea
                        exact ⟨oc, kV, doc, pm, ct, c2, c3, od, an, d2, d3, osl, s2, s3, vs, y, t, cc, cda, q, h3, q2, q3, h4, q4⟩
                      | _ => cases h6
                  | _ => cases h6
              | [], h2 => cases h2
              | _ :: _ :: _, h2 => cases h2
            | _ => cases h4
        | _ => cases h4
    | _ => cases h1
  | _ => cases h
/-! a property, a classmethod -/
def prpB (K : PySem.W.Frag) (C : Addr) (m : Str) : Bool := He.eqO (PySem.W.findIn K (.ref C) m) (some (some (.ref (He.ma K C m)))) && (He.eqO (PySem.W.specialIn K (.ref (He.ma K C m)) "__get__") (some (some (.builtin "property.__get__"))) &&
  (decide (PySem.W.takesIn K (.ref (He.ma K C m)) = some true) && (match PySem.W.recIn K (He.ma K C m) "property" with
    | some (.ref _ :: _) => true
    | _ => false)))
theorem recG_ok {K : PySem.W.Frag} {p : Addr} {t : String} (h : (match PySem.W.recIn K p t with | some (.ref _ :: _) => true | _ => false) = true) : ∃ rest, PySem.W.recIn K p t = some (.ref (recG K p t) :: rest) := by
  unfold recG
  cases q : PySem.W.recIn K p t with
  | none =>
    rw [q] at h
    cases h
  | some l =>
    rw [q] at h
    cases l with
    | nil => cases h
    | cons u r =>
      cases u with
      | ref g => exact ⟨r, rfl⟩
      | _ => cases h
theorem prpB_ok {K : PySem.W.Frag} {c m : Str} (h : prpB K (He.ga K c) m = true) : PropOf K (He.ga K c) m (He.ma K (He.ga K c) m) ((Pa.prop c m).at K) := by
  obtain ⟨h1, h⟩ := He.ba h
  obtain ⟨h2, h⟩ := He.ba h
  obtain ⟨h3, h4⟩ := He.ba h
  exact ⟨He.eqO_ok h1, He.eqO_ok h2, of_decide_eq_true h3, recG_ok h4⟩
def cmtB (K : PySem.W.Frag) (c m : Str) : Bool := PySem.W.readsIn K (He.ga K c) (.type "type") && (He.eqO (PySem.W.specialIn K (.ref (He.ga K c)) "__getattribute__") (some (some (.builtin "type.__getattribute__"))) &&
  ((match PySem.W.findCls K (.ref (He.ga K c)) (.type "type") m with
    | some (.get (.builtin b) (.ref _) .none (.ref C)) => decide (b = "classmethod.__get__") && decide (C = He.ga K c)
    | _ => false) && ((match PySem.W.recIn K (cmP K c m) "classmethod" with
    | some (.ref _ :: _) => true
    | _ => false) && PySem.W.fnIn K (recG K (cmP K c m) "classmethod"))))
theorem cmtB_ok {K : PySem.W.Frag} {c m : Str} (h : cmtB K c m = true) : ClX.CRead K (He.ga K c) (.type "type") ∧ ClX.CMet K (He.ga K c) (.type "type") m (cmP K c m) ((Pa.cmeth c m).at K) := by
  obtain ⟨h1, h⟩ := He.ba h
  obtain ⟨h2, h⟩ := He.ba h
  obtain ⟨h3, h⟩ := He.ba h
  obtain ⟨h4, h5⟩ := He.ba h
  refine ⟨⟨h1, He.eqO_ok h2⟩, ?_, recG_ok h4, h5⟩
  unfold cmP
  cases q : PySem.W.findCls K (.ref (He.ga K c)) (.type "type") m with
  | none =>
    rw [q] at h3
    cases h3
  | some x =>
    rw [q] at h3
    split at h3
    · rename_i b p C e
      obtain ⟨g1, g2⟩ := He.ba h3
      have e1 := of_decide_eq_true g1
      have e2 := of_decide_eq_true g2
      injection e with e
      subst e e1 e2
      rfl
    · cases h3
/-- isinstance(.., C) -/
def insB (K : PySem.W.Frag) (C : Addr) : Bool := He.eqO (PySem.W.findIn K (.ref C) "__class__") (some (some (.builtin "object.__class__"))) && (He.eqO (PySem.W.specialIn K (.builtin "object.__class__") "__get__") (some (some (.builtin "getset_descriptor.__get__"))) &&
  (decide (PySem.W.takesIn K (.builtin "object.__class__") = some true) && (decide (PySem.W.mroIn K C (.type "object") = some true) && decide (PySem.W.kitOne K (.ref C) (.ref C) = some true))))
theorem insB_ok {K : PySem.W.Frag} {C : Addr} (h : insB K C = true) (c : Cls K C) : C8.InsC K C := by
  obtain ⟨h1, h⟩ := He.ba h
  obtain ⟨h2, h⟩ := He.ba h
  obtain ⟨h3, h⟩ := He.ba h
  obtain ⟨h4, h5⟩ := He.ba h
  exact ⟨c, He.eqO_ok h1, He.eqO_ok h2, of_decide_eq_true h3, of_decide_eq_true h4, of_decide_eq_true h5⟩
/-! the Hook -/
abbrev AlR : Type := Bool × List FnHd
abbrev Qn : Type := PySem.W.Frag → Bool
def obsR (qs : List Qn) (ds : List DefR) (K : PySem.W.Frag) : AlR := ((qs.all fun q => q K) && ds.all fun d => d.ok K, ds.map fun d => fnR K d.at_)
def valR (ds : List DefR) : AlR := (true, ds.map DefR.val)
def SaysR (qs : List Qn) (ds : List DefR) (K : PySem.W.Frag) : Prop := obsR qs ds K = valR ds
def obsRG (xs : List Str) (n : Nat) (qs : List Qn) (ds : List DefR) (g : Addr → Option Obj) : AlR := obsR qs ds (He.frG g (asR g xs n))
def hookR (xs : List Str) (n : Nat) (qs : List Qn) (ds : List DefR) : PySem.W.Hook where
  α := AlR
  obs := fun s => obsRG xs n qs ds s.heap.get?
  val := fun _ => valR ds
  says := fun _ h => ∃ K : PySem.W.Frag, K.In h ∧ SaysR qs ds K
  of := fun _ _ e => ⟨_, He.frG_in, e⟩
  keeps := fun _ _ _ ⟨K, hK, c⟩ k => ⟨K, PySem.W.Frag.In.keeps hK k, c⟩
theorem obsRG_eq {xs : List Str} {n : Nat} {qs : List Qn} {ds : List DefR} {g : Addr → Option Obj} {s : Shared} (h : ∀ a, g a = s.heap.get? a) : obsRG xs n qs ds g = (hookR xs n qs ds).obs s := by
  have e : g = s.heap.get? := funext h
  rw [e] <;> rfl
section
variable {qs : List Qn} {ds : List DefR} {K : PySem.W.Frag}
theorem SaysR.yes (c : SaysR qs ds K) {q : Qn} (h : q ∈ qs) : q K = true := by
  have c1 := (He.ba (show ((qs.all fun q => q K) && ds.all fun d => d.ok K) = true from congrArg (fun z : AlR => z.1) c)).1
  exact List.all_eq_true.mp c1 q h
theorem SaysR.okd (c : SaysR qs ds K) {d : DefR} (h : d ∈ ds) : d.ok K = true := by
  have c1 := (He.ba (show ((qs.all fun q => q K) && ds.all fun d => d.ok K) = true from congrArg (fun z : AlR => z.1) c)).2
  exact List.all_eq_true.mp c1 d h
theorem SaysR.val (c : SaysR qs ds K) {d : DefR} (h : d ∈ ds) : fnR K d.at_ = d.val := by
  have e : ds.map (fun d => fnR K d.at_) = ds.map DefR.val := congrArg (fun z : AlR => z.2) c
  obtain ⟨i, hi, rfl⟩ := List.mem_iff_getElem.mp h
  have e2 : (ds.map fun d => fnR K d.at_)[i]? = (ds.map DefR.val)[i]? := by rw [e]
  rw [List.getElem?_map, List.getElem?_map, List.getElem?_eq_getElem hi] at e2
  exact Option.some.inj e2
end
end Rz

namespace Rz
open PySem L2
/-! ### the text by places -/
def top (i : Nat) : Stmt := PySem.Challenge.pw_risensigns_k16_machine_reads.main.body.getD i (.Pass ⟨0, 0, 0, 0⟩)
abbrev prg : Program := PySem.Challenge.pw_risensigns_k16_machine_reads
abbrev s_check_text : Stmt := top 12
abbrev s_decoded : Stmt := top 10
abbrev s_check_height : Stmt := top 13
abbrev s_Row_init : Stmt := inClass (top 15) 0
abbrev s_Row_signs : Stmt := inClass (top 15) 1
abbrev s_Row_iter : Stmt := inClass (top 15) 4
abbrev s__closures_of : Stmt := top 21
abbrev s_Machine_closed : Stmt := inClass (top 18) 7
abbrev s_Machine_reads_of_edges : Stmt := inClass (top 18) 8
abbrev s_Machine_init : Stmt := inClass (top 18) 0
abbrev s_Machine_states : Stmt := inClass (top 18) 1
abbrev s_Machine_last : Stmt := inClass (top 18) 2
abbrev s_Machine_edges : Stmt := inClass (top 18) 3
abbrev s_Machine_free : Stmt := inClass (top 18) 4
abbrev s__after_pairs : Stmt := top 19
abbrev s_Machine_after_row : Stmt := inClass (top 18) 9
abbrev s_Machine_after_signs : Stmt := inClass (top 18) 10
abbrev s__listed : Stmt := top 20
abbrev s_Machine_ends : Stmt := inClass (top 18) 5
abbrev s_Machine_contains : Stmt := inClass (top 18) 6
abbrev s__law_pool : Stmt := top 23
abbrev s__law_pick : Stmt := top 24
abbrev s__law_alphabet : Stmt := top 25
abbrev s__law_is_int : Stmt := top 26
abbrev s__law_as_row : Stmt := top 30
abbrev s__law_odd_sign : Stmt := top 31
abbrev s__law_spread : Stmt := top 28
abbrev s__law_join : Stmt := top 33
abbrev s__law_graph_of : Stmt := top 27
abbrev s__law_read : Stmt := top 29
abbrev s__law_spelling : Stmt := top 36
abbrev s__law_meets : Stmt := top 37
abbrev s__law_unique : Stmt := top 34
abbrev s__law_machine_of : Stmt := top 32
abbrev s__law_walk_on : Stmt := top 35
abbrev s__law_fine : Stmt := top 38
abbrev s_law : Stmt := top 39
abbrev s_BadSign_init : Stmt := inClass (top 3) 0
abbrev s_BadHeight_init : Stmt := inClass (top 5) 0
abbrev N_check_text : List Str := ["text", "at", "sign"]
abbrev P_check_text : List Str := ["text"]
abbrev N_decoded : List Str := ["text"]
abbrev P_decoded : List Str := ["text"]
abbrev N_check_height : List Str := ["height", "greatest"]
abbrev P_check_height : List Str := ["height", "greatest"]
abbrev N_Row_init : List Str := ["self", "text", "heights", "signs", "height"]
abbrev P_Row_init : List Str := ["self", "text", "heights"]
abbrev N_Row_signs : List Str := ["self", "sign", "_"]
abbrev P_Row_signs : List Str := ["self"]
abbrev N_Row_iter : List Str := ["self"]
abbrev P_Row_iter : List Str := ["self"]
abbrev N__closures_of : List Str := ["free", "state", "_", "closures", "to", "states", "middle"]
abbrev P__closures_of : List Str := ["free"]
abbrev N_Machine_closed : List Str := ["self", "state"]
abbrev P_Machine_closed : List Str := ["self", "state"]
abbrev N_Machine_reads_of_edges : List Str := ["self", "reads", "state", "sign", "height", "to", "pairs"]
abbrev P_Machine_reads_of_edges : List Str := ["self"]
abbrev N_Machine_init : List Str := ["self", "states", "last", "edges", "free", "state", "to"]
abbrev P_Machine_init : List Str := ["self", "states", "last", "edges", "free"]
abbrev N_Machine_states : List Str := ["self"]
abbrev P_Machine_states : List Str := ["self"]
abbrev N_Machine_last : List Str := ["self"]
abbrev P_Machine_last : List Str := ["self"]
abbrev N_Machine_edges : List Str := ["self"]
abbrev P_Machine_edges : List Str := ["self"]
abbrev N_Machine_free : List Str := ["self"]
abbrev P_Machine_free : List Str := ["self"]
abbrev N__after_pairs : List Str := ["found", "pairs", "after", "state", "closed"]
abbrev P__after_pairs : List Str := ["found", "pairs"]
abbrev N_Machine_after_row : List Str := ["self", "start", "row", "found", "sign", "height"]
abbrev P_Machine_after_row : List Str := ["self", "start", "row"]
abbrev N_Machine_after_signs : List Str := ["self", "start", "signs", "found", "sign", "by_height", "pairs", "pair"]
abbrev P_Machine_after_signs : List Str := ["self", "start", "signs"]
abbrev N__listed : List Str := ["found", "states", "lowest"]
abbrev P__listed : List Str := ["found"]
abbrev N_Machine_ends : List Str := ["self", "start", "row"]
abbrev P_Machine_ends : List Str := ["self", "start", "row"]
abbrev N_Machine_contains : List Str := ["self", "part"]
abbrev P_Machine_contains : List Str := ["self", "part"]
abbrev N__law_pool : List Str := ["_law_script", "_law_draws", "_law_seed", "_law_cell", "_law_rest", "_law_k", "_law_value"]
abbrev P__law_pool : List Str := ["_law_script"]
abbrev N__law_pick : List Str := ["_law_draws", "_law_many"]
abbrev P__law_pick : List Str := ["_law_draws", "_law_many"]
abbrev N__law_alphabet : List Str := ["_law_draws", "_law_many", "_law_letters", "_law_signs", "_law_k", "_law_letter", "_law_left"]
abbrev P__law_alphabet : List Str := ["_law_draws", "_law_many"]
abbrev N__law_is_int : List Str := ["_law_value"]
abbrev P__law_is_int : List Str := ["_law_value"]
abbrev N__law_as_row : List Str := ["_law_pairs", "_law_pair"]
abbrev P__law_as_row : List Str := ["_law_pairs"]
abbrev N__law_odd_sign : List Str := ["_law_draws", "_law_odd"]
abbrev P__law_odd_sign : List Str := ["_law_draws"]
abbrev N__law_spread : List Str := ["_law_arrows", "_law_states", "_law_found", "_law_queue", "_law_state"]
abbrev P__law_spread : List Str := ["_law_arrows", "_law_states"]
abbrev N__law_join : List Str := ["_law_spreads", "_law_states", "_law_found", "_law_state", "_law_goal"]
abbrev P__law_join : List Str := ["_law_spreads", "_law_states"]
abbrev N__law_graph_of : List Str := ["_law_many", "_law_edges", "_law_free", "_law_outs", "_law_start", "_law_sign", "_law_height", "_law_goal", "_law_near", "_law_onward", "_law_spreads", "_law_state"]
abbrev P__law_graph_of : List Str := ["_law_many", "_law_edges", "_law_free"]
abbrev N__law_read : List Str := ["_law_graph", "_law_states", "_law_row", "_law_pair", "_law_goals", "_law_state", "_law_sign", "_law_height", "_law_goal"]
abbrev P__law_read : List Str := ["_law_graph", "_law_states", "_law_row"]
abbrev N__law_spelling : List Str := ["_law_graph", "_law_text", "_law_states", "_law_letter", "_law_goals", "_law_state", "_law_sign", "_law_level", "_law_goal"]
abbrev P__law_spelling : List Str := ["_law_graph", "_law_text"]
abbrev N__law_meets : List Str := ["_law_states", "_law_last", "_law_state"]
abbrev P__law_meets : List Str := ["_law_states", "_law_last"]
abbrev N__law_unique : List Str := ["_law_entries", "_law_found", "_law_entry"]
abbrev P__law_unique : List Str := ["_law_entries"]
abbrev N__law_machine_of : List Str := ["_law_draws", "_law_signs", "_law_many", "_law_edges", "_law_k", "_law_start", "_law_sign", "_law_level", "_law_free", "_law_state", "_law_last"]
abbrev P__law_machine_of : List Str := ["_law_draws", "_law_signs"]
abbrev N__law_walk_on : List Str := ["_law_draws", "_law_edges", "_law_start", "_law_signs", "_law_pairs", "_law_size", "_law_k", "_law_state", "_law_edge", "_law_near"]
abbrev P__law_walk_on : List Str := ["_law_draws", "_law_edges", "_law_start", "_law_signs"]
abbrev N__law_fine : List Str := ["_law_machine", "_law_many", "_law_last", "_law_edges", "_law_free", "_law_told", "_law_shown", "_law_pair", "_law_edge"]
abbrev P__law_fine : List Str := ["_law_machine", "_law_many", "_law_last", "_law_edges", "_law_free"]
abbrev N_law : List Str := ["_law_script", "_law_draws", "_law_signs", "_law_many", "_law_last", "_law_edges", "_law_free", "_law_edge", "_law_start", "_law_passed", "_law_machine", "_law_graph", "_law_pairs", "_law_row", "_law_ends", "_law_told", "_law_due", "_law_k"]
abbrev P_law : List Str := ["_law_script"]
/-! ### what stands behind the top -/
structure Txt (K : PySem.W.Frag) (mg : Str → Option Value) : Type where
  n_abs : mg "abs" = none
  n_bool : mg "bool" = none
  n_bytes : mg "bytes" = none
  n_enumerate : mg "enumerate" = none
  n_int : mg "int" = none
  n_isinstance : mg "isinstance" = none
  n_iter : mg "iter" = none
  n_len : mg "len" = none
  n_list : mg "list" = none
  n_property : mg "property" = none
  n_range : mg "range" = none
  n_set : mg "set" = none
  n_sorted : mg "sorted" = none
  n_str : mg "str" = none
  n_sum : mg "sum" = none
  n_tuple : mg "tuple" = none
  n_zip : mg "zip" = none
  k_SIGNS : ∃ t, mg "SIGNS" = some (.str "abcdefghijklmnopqrstuvwxyz" t)
  k_GREATEST_HEIGHT : ∃ t, mg "GREATEST_HEIGHT" = some (.int 9 t)
  c_BadSign : Addr
  m_BadSign : mg "BadSign" = some (.ref c_BadSign)
  o_BadSign : OexC K c_BadSign
  x_BadSign : ExF K c_BadSign "at"
  f_BadSign_init : Addr
  fd_BadSign_init : FuncData
  i_BadSign : PySem.W.findIn K (.ref c_BadSign) "__init__" = some (some (.ref f_BadSign_init))
  t_BadSign : PySem.W.typeIn K (.ref f_BadSign_init) = some (.type "function")
  F_BadSign_init : ExInit prg K mg c_BadSign f_BadSign_init fd_BadSign_init "at" s_BadSign_init
  b_BadSign_init : Binds K fd_BadSign_init ["self", "at"] []
  em_BadSign_BadSign : PySem.W.exmOne K (.ref c_BadSign) (.ref c_BadSign) = some true
  -- em_BadSign_BadHeight below
  -- em_BadSign_Uneven below
  c_BadHeight : Addr
  m_BadHeight : mg "BadHeight" = some (.ref c_BadHeight)
  o_BadHeight : OexC K c_BadHeight
  x_BadHeight : ExF K c_BadHeight "height"
  f_BadHeight_init : Addr
  fd_BadHeight_init : FuncData
  i_BadHeight : PySem.W.findIn K (.ref c_BadHeight) "__init__" = some (some (.ref f_BadHeight_init))
  t_BadHeight : PySem.W.typeIn K (.ref f_BadHeight_init) = some (.type "function")
  F_BadHeight_init : ExInit prg K mg c_BadHeight f_BadHeight_init fd_BadHeight_init "height" s_BadHeight_init
  b_BadHeight_init : Binds K fd_BadHeight_init ["self", "height"] []
  em_BadHeight_BadSign : PySem.W.exmOne K (.ref c_BadHeight) (.ref c_BadSign) = some false
  em_BadHeight_BadHeight : PySem.W.exmOne K (.ref c_BadHeight) (.ref c_BadHeight) = some true
  -- em_BadHeight_Uneven below
  c_Uneven : Addr
  m_Uneven : mg "Uneven" = some (.ref c_Uneven)
  o_Uneven : PySem.W.excIn K c_Uneven [.type "ValueError", .type "Exception", .type "BaseException", .type "object"] "ValueError.__new__" = true
  kp_Uneven : PySem.W.keepIn K (.ref c_Uneven) = true
  r_Uneven : PySem.W.subIn K (.ref c_Uneven) (.type "BaseException") = some true
  t_Uneven : PySem.W.typeIn K (.ref c_Uneven) = some (.type "type")
  em_Uneven_BadSign : PySem.W.exmOne K (.ref c_Uneven) (.ref c_BadSign) = some false
  em_Uneven_BadHeight : PySem.W.exmOne K (.ref c_Uneven) (.ref c_BadHeight) = some false
  em_Uneven_Uneven : PySem.W.exmOne K (.ref c_Uneven) (.ref c_Uneven) = some true
  em_BadSign_BadHeight : PySem.W.exmOne K (.ref c_BadSign) (.ref c_BadHeight) = some false
  em_BadSign_Uneven : PySem.W.exmOne K (.ref c_BadSign) (.ref c_Uneven) = some false
  em_BadHeight_Uneven : PySem.W.exmOne K (.ref c_BadHeight) (.ref c_Uneven) = some false
  c_Row : Addr
  m_Row : mg "Row" = some (.ref c_Row)
  cl_Row : Cls K c_Row
  mk_Row : PySem.W.makesIn K c_Row = true
  kp_Row : PySem.W.keepIn K (.ref c_Row) = true
  is_Row : C8.InsC K c_Row
  sf_Row : PySem.W.selfFirst K c_Row = true
  nsq_Row : PySem.W.noSeq K c_Row = true
  fx_Row_kstr : PySem.W.kitOne K (.type "str") (.ref c_Row) = some false
  na_Row__pairs : NoAttr K c_Row "_pairs"
  c_Machine : Addr
  m_Machine : mg "Machine" = some (.ref c_Machine)
  cl_Machine : Cls K c_Machine
  mk_Machine : PySem.W.makesIn K c_Machine = true
  kp_Machine : PySem.W.keepIn K (.ref c_Machine) = true
  is_Machine : C8.InsC K c_Machine
  sf_Machine : PySem.W.selfFirst K c_Machine = true
  na_Machine__states : NoAttr K c_Machine "_states"
  na_Machine__last : NoAttr K c_Machine "_last"
  na_Machine__edges : NoAttr K c_Machine "_edges"
  na_Machine__free : NoAttr K c_Machine "_free"
  na_Machine__closures : NoAttr K c_Machine "_closures"
  na_Machine__reads : NoAttr K c_Machine "_reads"
  na_Machine__final : NoAttr K c_Machine "_final"
  f_check_text : Addr
  fd_check_text : FuncData
  F_check_text : Fun K "check_text" "check_text" s_check_text f_check_text fd_check_text
  b_check_text : Binds K fd_check_text P_check_text []
  m_check_text : mg "check_text" = some (.ref f_check_text)
  f_decoded : Addr
  fd_decoded : FuncData
  F_decoded : Fun K "decoded" "decoded" s_decoded f_decoded fd_decoded
  b_decoded : Binds K fd_decoded P_decoded []
  m_decoded : mg "decoded" = some (.ref f_decoded)
  f_check_height : Addr
  fd_check_height : FuncData
  F_check_height : Fun K "check_height" "check_height" s_check_height f_check_height fd_check_height
  b_check_height : Binds K fd_check_height P_check_height []
  m_check_height : mg "check_height" = some (.ref f_check_height)
  f_Row_init : Addr
  fd_Row_init : FuncData
  D_Row_init : FunD K "__init__" "Row.__init__" (defArgs s_Row_init) (defBody s_Row_init) (defScope s_Row_init) [.str "", .non] [] f_Row_init fd_Row_init
  kp_Row_init : PySem.W.keepIn K (.ref f_Row_init) = true
  M_Row_init : Meth K c_Row "__init__" f_Row_init
  f_Row_signs : Addr
  fd_Row_signs : FuncData
  F_Row_signs : Fun K "signs" "Row.signs" s_Row_signs f_Row_signs fd_Row_signs
  b_Row_signs : Binds K fd_Row_signs P_Row_signs []
  p_Row_signs : Addr
  M_Row_signs : PropOf K c_Row "signs" p_Row_signs f_Row_signs
  f_Row_iter : Addr
  fd_Row_iter : FuncData
  F_Row_iter : Fun K "__iter__" "Row.__iter__" s_Row_iter f_Row_iter fd_Row_iter
  b_Row_iter : Binds K fd_Row_iter P_Row_iter []
  M_Row_iter : Meth K c_Row "__iter__" f_Row_iter
  f__closures_of : Addr
  fd__closures_of : FuncData
  F__closures_of : Fun K "_closures_of" "_closures_of" s__closures_of f__closures_of fd__closures_of
  b__closures_of : Binds K fd__closures_of P__closures_of []
  m__closures_of : mg "_closures_of" = some (.ref f__closures_of)
  f_Machine_closed : Addr
  fd_Machine_closed : FuncData
  F_Machine_closed : Fun K "_closed" "Machine._closed" s_Machine_closed f_Machine_closed fd_Machine_closed
  b_Machine_closed : Binds K fd_Machine_closed P_Machine_closed []
  M_Machine_closed : Meth K c_Machine "_closed" f_Machine_closed
  f_Machine_reads_of_edges : Addr
  fd_Machine_reads_of_edges : FuncData
  F_Machine_reads_of_edges : Fun K "_reads_of_edges" "Machine._reads_of_edges" s_Machine_reads_of_edges f_Machine_reads_of_edges fd_Machine_reads_of_edges
  b_Machine_reads_of_edges : Binds K fd_Machine_reads_of_edges P_Machine_reads_of_edges []
  M_Machine_reads_of_edges : Meth K c_Machine "_reads_of_edges" f_Machine_reads_of_edges
  f_Machine_init : Addr
  fd_Machine_init : FuncData
  F_Machine_init : Fun K "__init__" "Machine.__init__" s_Machine_init f_Machine_init fd_Machine_init
  b_Machine_init : Binds K fd_Machine_init P_Machine_init []
  M_Machine_init : Meth K c_Machine "__init__" f_Machine_init
  f_Machine_states : Addr
  fd_Machine_states : FuncData
  F_Machine_states : Fun K "states" "Machine.states" s_Machine_states f_Machine_states fd_Machine_states
  b_Machine_states : Binds K fd_Machine_states P_Machine_states []
  p_Machine_states : Addr
  M_Machine_states : PropOf K c_Machine "states" p_Machine_states f_Machine_states
  f_Machine_last : Addr
  fd_Machine_last : FuncData
  F_Machine_last : Fun K "last" "Machine.last" s_Machine_last f_Machine_last fd_Machine_last
  b_Machine_last : Binds K fd_Machine_last P_Machine_last []
  p_Machine_last : Addr
  M_Machine_last : PropOf K c_Machine "last" p_Machine_last f_Machine_last
  f_Machine_edges : Addr
  fd_Machine_edges : FuncData
  F_Machine_edges : Fun K "edges" "Machine.edges" s_Machine_edges f_Machine_edges fd_Machine_edges
  b_Machine_edges : Binds K fd_Machine_edges P_Machine_edges []
  M_Machine_edges : Meth K c_Machine "edges" f_Machine_edges
  f_Machine_free : Addr
  fd_Machine_free : FuncData
  F_Machine_free : Fun K "free" "Machine.free" s_Machine_free f_Machine_free fd_Machine_free
  b_Machine_free : Binds K fd_Machine_free P_Machine_free []
  M_Machine_free : Meth K c_Machine "free" f_Machine_free
  f__after_pairs : Addr
  fd__after_pairs : FuncData
  F__after_pairs : Fun K "_after_pairs" "_after_pairs" s__after_pairs f__after_pairs fd__after_pairs
  b__after_pairs : Binds K fd__after_pairs P__after_pairs []
  m__after_pairs : mg "_after_pairs" = some (.ref f__after_pairs)
  f_Machine_after_row : Addr
  fd_Machine_after_row : FuncData
  F_Machine_after_row : Fun K "_after_row" "Machine._after_row" s_Machine_after_row f_Machine_after_row fd_Machine_after_row
  b_Machine_after_row : Binds K fd_Machine_after_row P_Machine_after_row []
  M_Machine_after_row : Meth K c_Machine "_after_row" f_Machine_after_row
  f_Machine_after_signs : Addr
  fd_Machine_after_signs : FuncData
  F_Machine_after_signs : Fun K "_after_signs" "Machine._after_signs" s_Machine_after_signs f_Machine_after_signs fd_Machine_after_signs
  b_Machine_after_signs : Binds K fd_Machine_after_signs P_Machine_after_signs []
  M_Machine_after_signs : Meth K c_Machine "_after_signs" f_Machine_after_signs
  f__listed : Addr
  fd__listed : FuncData
  F__listed : Fun K "_listed" "_listed" s__listed f__listed fd__listed
  b__listed : Binds K fd__listed P__listed []
  m__listed : mg "_listed" = some (.ref f__listed)
  f_Machine_ends : Addr
  fd_Machine_ends : FuncData
  F_Machine_ends : Fun K "ends" "Machine.ends" s_Machine_ends f_Machine_ends fd_Machine_ends
  b_Machine_ends : Binds K fd_Machine_ends P_Machine_ends []
  M_Machine_ends : Meth K c_Machine "ends" f_Machine_ends
  f_Machine_contains : Addr
  fd_Machine_contains : FuncData
  F_Machine_contains : Fun K "__contains__" "Machine.__contains__" s_Machine_contains f_Machine_contains fd_Machine_contains
  b_Machine_contains : Binds K fd_Machine_contains P_Machine_contains []
  M_Machine_contains : Meth K c_Machine "__contains__" f_Machine_contains
  f__law_pool : Addr
  fd__law_pool : FuncData
  F__law_pool : Fun K "_law_pool" "_law_pool" s__law_pool f__law_pool fd__law_pool
  b__law_pool : Binds K fd__law_pool P__law_pool []
  m__law_pool : mg "_law_pool" = some (.ref f__law_pool)
  f__law_pick : Addr
  fd__law_pick : FuncData
  F__law_pick : Fun K "_law_pick" "_law_pick" s__law_pick f__law_pick fd__law_pick
  b__law_pick : Binds K fd__law_pick P__law_pick []
  m__law_pick : mg "_law_pick" = some (.ref f__law_pick)
  f__law_alphabet : Addr
  fd__law_alphabet : FuncData
  F__law_alphabet : Fun K "_law_alphabet" "_law_alphabet" s__law_alphabet f__law_alphabet fd__law_alphabet
  b__law_alphabet : Binds K fd__law_alphabet P__law_alphabet []
  m__law_alphabet : mg "_law_alphabet" = some (.ref f__law_alphabet)
  f__law_is_int : Addr
  fd__law_is_int : FuncData
  F__law_is_int : Fun K "_law_is_int" "_law_is_int" s__law_is_int f__law_is_int fd__law_is_int
  b__law_is_int : Binds K fd__law_is_int P__law_is_int []
  m__law_is_int : mg "_law_is_int" = some (.ref f__law_is_int)
  f__law_as_row : Addr
  fd__law_as_row : FuncData
  F__law_as_row : Fun K "_law_as_row" "_law_as_row" s__law_as_row f__law_as_row fd__law_as_row
  b__law_as_row : Binds K fd__law_as_row P__law_as_row []
  m__law_as_row : mg "_law_as_row" = some (.ref f__law_as_row)
  f__law_odd_sign : Addr
  fd__law_odd_sign : FuncData
  F__law_odd_sign : Fun K "_law_odd_sign" "_law_odd_sign" s__law_odd_sign f__law_odd_sign fd__law_odd_sign
  b__law_odd_sign : Binds K fd__law_odd_sign P__law_odd_sign []
  m__law_odd_sign : mg "_law_odd_sign" = some (.ref f__law_odd_sign)
  f__law_spread : Addr
  fd__law_spread : FuncData
  F__law_spread : Fun K "_law_spread" "_law_spread" s__law_spread f__law_spread fd__law_spread
  b__law_spread : Binds K fd__law_spread P__law_spread []
  m__law_spread : mg "_law_spread" = some (.ref f__law_spread)
  f__law_join : Addr
  fd__law_join : FuncData
  F__law_join : Fun K "_law_join" "_law_join" s__law_join f__law_join fd__law_join
  b__law_join : Binds K fd__law_join P__law_join []
  m__law_join : mg "_law_join" = some (.ref f__law_join)
  f__law_graph_of : Addr
  fd__law_graph_of : FuncData
  F__law_graph_of : Fun K "_law_graph_of" "_law_graph_of" s__law_graph_of f__law_graph_of fd__law_graph_of
  b__law_graph_of : Binds K fd__law_graph_of P__law_graph_of []
  m__law_graph_of : mg "_law_graph_of" = some (.ref f__law_graph_of)
  f__law_read : Addr
  fd__law_read : FuncData
  F__law_read : Fun K "_law_read" "_law_read" s__law_read f__law_read fd__law_read
  b__law_read : Binds K fd__law_read P__law_read []
  m__law_read : mg "_law_read" = some (.ref f__law_read)
  f__law_spelling : Addr
  fd__law_spelling : FuncData
  F__law_spelling : Fun K "_law_spelling" "_law_spelling" s__law_spelling f__law_spelling fd__law_spelling
  b__law_spelling : Binds K fd__law_spelling P__law_spelling []
  m__law_spelling : mg "_law_spelling" = some (.ref f__law_spelling)
  f__law_meets : Addr
  fd__law_meets : FuncData
  F__law_meets : Fun K "_law_meets" "_law_meets" s__law_meets f__law_meets fd__law_meets
  b__law_meets : Binds K fd__law_meets P__law_meets []
  m__law_meets : mg "_law_meets" = some (.ref f__law_meets)
  f__law_unique : Addr
  fd__law_unique : FuncData
  F__law_unique : Fun K "_law_unique" "_law_unique" s__law_unique f__law_unique fd__law_unique
  b__law_unique : Binds K fd__law_unique P__law_unique []
  m__law_unique : mg "_law_unique" = some (.ref f__law_unique)
  f__law_machine_of : Addr
  fd__law_machine_of : FuncData
  F__law_machine_of : Fun K "_law_machine_of" "_law_machine_of" s__law_machine_of f__law_machine_of fd__law_machine_of
  b__law_machine_of : Binds K fd__law_machine_of P__law_machine_of []
  m__law_machine_of : mg "_law_machine_of" = some (.ref f__law_machine_of)
  f__law_walk_on : Addr
  fd__law_walk_on : FuncData
  F__law_walk_on : Fun K "_law_walk_on" "_law_walk_on" s__law_walk_on f__law_walk_on fd__law_walk_on
  b__law_walk_on : Binds K fd__law_walk_on P__law_walk_on []
  m__law_walk_on : mg "_law_walk_on" = some (.ref f__law_walk_on)
  f__law_fine : Addr
  fd__law_fine : FuncData
  F__law_fine : Fun K "_law_fine" "_law_fine" s__law_fine f__law_fine fd__law_fine
  b__law_fine : Binds K fd__law_fine P__law_fine []
  m__law_fine : mg "_law_fine" = some (.ref f__law_fine)
  f_law : Addr
  fd_law : FuncData
  F_law : Fun K "law" "law" s_law f_law fd_law
  b_law : Binds K fd_law P_law []
  m_law : mg "law" = some (.ref f_law)
theorem bd_Row_init_1 {K : PySem.W.Frag} {mg : Str → Option Value} (T : Txt K mg) : ∃ ds, Vals (([.str "", .non] : List V).drop 0) ds ∧ Binds K T.fd_Row_init P_Row_init ds :=
  T.D_Row_init.binds1 (ps := P_Row_init) 1 0 (by simp) rfl fun _ _ _ _ _ _ _ us its hu hi => match us, its, hu, hi with | [_], [_, _], _, _ => ⟨_, rfl, rfl⟩
theorem bd_Row_init_2 {K : PySem.W.Frag} {mg : Str → Option Value} (T : Txt K mg) : ∃ ds, Vals (([.str "", .non] : List V).drop 1) ds ∧ Binds K T.fd_Row_init P_Row_init ds :=
  T.D_Row_init.binds1 (ps := P_Row_init) 2 1 (by simp) rfl fun _ _ _ _ _ _ _ us its hu hi => match us, its, hu, hi with | [_, _], [_, _], _, _ => ⟨_, rfl, rfl⟩
theorem bd_Row_init_3 {K : PySem.W.Frag} {mg : Str → Option Value} (T : Txt K mg) : ∃ ds, Vals (([.str "", .non] : List V).drop 2) ds ∧ Binds K T.fd_Row_init P_Row_init ds :=
  T.D_Row_init.binds1 (ps := P_Row_init) 3 2 (by simp) rfl fun _ _ _ _ _ _ _ us its hu hi => match us, its, hu, hi with | [_, _, _], [_, _], _, _ => ⟨_, rfl, rfl⟩
theorem ok_BadSign_init {w : World} {K : PySem.W.Frag} {mg : Str → Option Value} {base : Heap} (T : Txt K mg) : FnOk prg w K mg base (L2.CX prg w) 1 T.f_BadSign_init T.fd_BadSign_init ["self", "at"] (spExI T.c_BadSign "at") :=
  exinit_ok T.o_BadSign T.F_BadSign_init rfl rfl rfl rfl rfl rfl rfl rfl rfl rfl (by decide +kernel) (by decide +kernel) (by decide +kernel) (by decide) (by decide) (msg_ok2 rfl (by decide) (by decide) (by decide +kernel)) (fun _ _ _ _ => rfl) (fun _ _ _ _ => rfl)
theorem ok_BadHeight_init {w : World} {K : PySem.W.Frag} {mg : Str → Option Value} {base : Heap} (T : Txt K mg) : FnOk prg w K mg base (L2.CX prg w) 1 T.f_BadHeight_init T.fd_BadHeight_init ["self", "height"] (spExI T.c_BadHeight "height") :=
  exinit_ok T.o_BadHeight T.F_BadHeight_init rfl rfl rfl rfl rfl rfl rfl rfl rfl rfl (by decide +kernel) (by decide +kernel) (by decide +kernel) (by decide) (by decide) (msg_ok3 rfl (by decide) (by decide) (by decide +kernel) (by decide +kernel)) (fun _ _ _ _ => rfl) (fun _ _ _ _ => rfl)

end Rz
namespace Rz
open PySem PySem.Spec PyProof.Rows L2
/-- nothing for a text; else BadSign with the first place -/
def sp_check_text (cB : Addr) : Sp := fun vs H Q E => ∃ z : Str, vs = [.str z] ∧ z.length ≤ 1000000 ∧ (fo z = none → ∀ H', Same H H' → Q .non H') ∧
  (∀ i, fo z = some i → ∀ H' d, Same H H' → H d = none → H' d = some (.xd [("at", .int (i : Nat))]) → E (.ref cB) (some d) H')
section
variable {w : World} {K : PySem.W.Frag} {mg : Str → Option Value} {base : Heap}
theorem sc_check_text : FnScope N_check_text P_check_text (defScope s_check_text) := ⟨rfl, rfl, rfl, by decide +kernel, rfl, by decide +kernel, by decide +kernel⟩
theorem ok_check_text (T : Txt K mg) : FnOk prg w K mg base (L2.CX prg w) 3 T.f_check_text T.fd_check_text P_check_text (sp_check_text T.c_BadSign) := by
  refine T.F_check_text.okX sc_check_text (fun vs H Q E h => ?_) (fun cdv A outer s H vs Q E hr h => ?_)
  · obtain ⟨z, rfl, _⟩ := h
    rfl
  obtain ⟨z, rfl, hz, kg, kb⟩ := h
  have nd := sc_check_text.nd
  obtain ⟨tS, k_SIGNS⟩ := T.k_SIGNS
  have tk : Takes (cxOf (L2.CX prg w) prg w K mg base N_check_text "check_text" (defScope s_check_text) T.f_check_text cdv A outer s H E) (fun cls d _ H' => E cls d H') := takes_of rfl rfl rfl rfl
  refine ⟨_, (pss_one (ps_for (passes_of rfl) rfl (pi_enumS (by rfl) T.n_enumerate (pa_cons (pv 0) pa_nil)) (pg_tup rfl (pgs_cons (pg_name (i := 1) nd rfl (Or.inl rfl)) (pgs_cons (pg_name (i := 2) nd rfl (Or.inl rfl)) pgs_nil)))
      (pss_one (ps_if (pt_cmpR op_notIn_sign (pv 2) (pe_glob (v := .str abc) (by rfl) k_SIGNS ⟨_, rfl⟩) rfl) (pss_one (ps_raise rfl tk (pmk_oex T.o_BadSign T.i_BadSign T.t_BadSign (ok_BadSign_init T) (hr.mono (by decide)) T.b_BadSign_init .nil passN (by rfl) T.m_BadSign (pa_cons (pv 1) pa_nil)))) pss_nil)))), ?_⟩
  refine ⟨_, rfl, z, rfl, for_it walk_enumS (fun i σ H' => ∃ v1 v2 : Option V, σ = [some (.str z), v1, v2] ∧ Same H H' ∧ ∀ (j c : Nat), j < i → z.cps.toList[j]? = some c → oddC c = false)
    ⟨_, _, rfl, Same.refl H, fun j c hj => absurd hj (Nat.not_lt_zero j)⟩ (fun _ _ _ _ _ => True.intro) ?_ ?_⟩
  · rintro i x σ H1 H2 hi ⟨v1, v2, rfl, R, hb⟩ ⟨Tp, c, rfl, hT, rfl, hc⟩
    have R2 : Same H (upd H1 Tp (.tup [.int (i : Nat), .str ⟨#[c]⟩])) := Rz.Same.new R hT
    refine ⟨Tp, _, rfl, SqT.of upd_same, rfl, _, _, rfl, _, _, rfl, rfl, ?_⟩
    refine ⟨_, rfl, c, abc, rfl, rfl, _, rfl, ?_⟩
    refine ite2 (fun ho => ?_) (fun ho => ?_)
    · have hfo := fo_some hc ho hb
      have hl := fo_lt hfo
      exact ⟨_, rfl, by show 1 ≤ 1000; decide, raise_fld (log_nat (by omega)) fun H2 d S2 hd e => kb i hfo H2 d (R2.trans S2) (R2.free hd) e⟩
    · refine ⟨_, _, rfl, R2, fun j c2 hj h2 => ?_⟩
      by_cases e : j < i
      · exact hb j c2 e h2
      · have e3 : j = i := by omega
        subst e3
        rw [hc] at h2
        cases h2
        simpa [oddC] using ho
  · rintro σ H1 ⟨v1, v2, rfl, R, hb⟩
    exact kg (fo_none fun j c hj => hb j c (by
      have := (List.getElem?_eq_some_iff.mp hj).1
      simpa using this) hj) H1 R
end
end Rz

namespace Rz
open PySem PySem.Spec PyProof.Rows L2
def sp_decoded : Sp := fun vs H Q _ => ∃ z : Str, vs = [.str z] ∧ Q (.str z) H
section
variable {w : World} {K : PySem.W.Frag} {mg : Str → Option Value} {base : Heap}
theorem sc_decoded : FnScope N_decoded P_decoded (defScope s_decoded) := ⟨rfl, rfl, rfl, by decide +kernel, rfl, by decide +kernel, by decide +kernel⟩
theorem ok_decoded (T : Txt K mg) : FnOk prg w K mg base (L2.CX prg w) 1 T.f_decoded T.fd_decoded P_decoded sp_decoded := by
  refine Rz.Fun.okN T.F_decoded sc_decoded (fun vs H Q E h => ?_) (fun cdv A outer s H vs Q E hr h => ?_)
  · obtain ⟨z, rfl, _⟩ := h
    rfl
  obtain ⟨z, rfl, k⟩ := h
  refine ⟨_, (pss_cons (ps_if (pt_val (pe_callB call_isi (by rfl) T.n_isinstance (by decide +kernel) (pa_cons (pv 0) (pa_cons (pe_bltn (v := .ty "bytes") (by rfl) T.n_bytes (by decide +kernel) rfl) pa_nil)))) pss_never pss_nil)
    (pss_one (ps_ret (pv 0)))), ?_⟩
  refine ⟨_, rfl, _, _, .type "str", .type "bytes", false, rfl, .ty _, .base (.str z), kit_ty (by decide +kernel), false, rfl, ?_⟩
  exact iteF ⟨_, rfl, k⟩
end
end Rz

namespace Rz
open PySem PySem.Spec PyProof.Rows L2
/-- nothing for a height from 0 to g; else BadHeight with it -/
def sp_check_height (cH : Addr) : Sp := fun vs H Q E => ∃ h g : Int, vs = [.int h, .int g] ∧ h.natAbs < 2 ^ 64 ∧ (0 ≤ h ∧ h ≤ g → Q .non H) ∧
  (¬ (0 ≤ h ∧ h ≤ g) → ∀ H' d, Same H H' → H d = none → H' d = some (.xd [("height", .int h)]) → E (.ref cH) (some d) H')
section
variable {w : World} {K : PySem.W.Frag} {mg : Str → Option Value} {base : Heap}
theorem sc_check_height : FnScope N_check_height P_check_height (defScope s_check_height) := ⟨rfl, rfl, rfl, by decide +kernel, rfl, by decide +kernel, by decide +kernel⟩
theorem ok_check_height (T : Txt K mg) : FnOk prg w K mg base (L2.CX prg w) 3 T.f_check_height T.fd_check_height P_check_height (sp_check_height T.c_BadHeight) := by
  refine T.F_check_height.okX sc_check_height (fun vs H Q E h => ?_) (fun cdv A outer s H vs Q E hr h => ?_)
  · obtain ⟨h, g, rfl, _⟩ := h
    rfl
  obtain ⟨h, g, rfl, hs, kg, kb⟩ := h
  have tk : Takes (cxOf (L2.CX prg w) prg w K mg base N_check_height "check_height" (defScope s_check_height) T.f_check_height cdv A outer s H E) (fun cls d _ H' => E cls d H') := takes_of rfl rfl rfl rfl
  refine ⟨_, (pss_one (ps_if (pt_not (pt_chain op_le op_le pe_int (pv 0) (pv 1))) (pss_one (ps_raise rfl tk (pmk_oex T.o_BadHeight T.i_BadHeight T.t_BadHeight (ok_BadHeight_init T) (hr.mono (by decide)) T.b_BadHeight_init .nil passN (by rfl) T.m_BadHeight (pa_cons (pv 0) pa_nil)))) pss_nil)), ?_⟩
  have bad : ¬ (0 ≤ h ∧ h ≤ g) → _ := fun hb => raise_fld (C := T.c_BadHeight) (fld := "height") (n := h) (H1 := H) (Q := E) (log_small hs (by decide)) fun H2 d S2 hd e => kb hb H2 d S2 hd e
  refine ⟨_, rfl, _, _, rfl, rfl, decide (0 ≤ h), rfl, ?_⟩
  by_cases h0 : 0 ≤ h
  · rw [decide_eq_true h0]
    refine iteT ⟨_, rfl, _, _, rfl, rfl, decide (h ≤ g), rfl, ?_⟩
    by_cases h1 : h ≤ g
    · rw [decide_eq_true h1]
      exact iteF (kg ⟨h0, h1⟩)
    · rw [decide_eq_false h1]
      exact iteT ⟨_, rfl, by show 1 ≤ 1000; decide, bad fun z => h1 z.2⟩
  · rw [decide_eq_false h0]
    refine iteF ⟨false, rfl, ?_⟩
    exact iteT ⟨_, rfl, by show 1 ≤ 1000; decide, bad fun z => h0 z.1⟩
end
end Rz

namespace Rz
open PySem PySem.Spec PyProof.Rows L2
/-- the heights that were passed, or none -/
def HtsArg (H : Hp) (z : Str) (ns : List Int) (hv : V) : Prop := (hv = .non ∧ ns = List.replicate z.length 0) ∨ ∃ l, hv = .ref l ∧ H l = some (.lst (ns.map V.int)) ∧ ns.length ≤ 1000000 ∧ ∀ n ∈ ns, n.natAbs < 2 ^ 64
def sp_Row_init (cB cU cH cR : Addr) : Sp := fun vs H Q E => ∃ (p dx : Addr) (z : Str) (hv : V) (ns : List Int), vs = [.ref p, .str z, hv] ∧ z.length ≤ 1000000 ∧ H p = some (.ins cR dx []) ∧ HtsArg H z ns hv ∧
  (match rr z ns with
    | .sign i => ∀ H' d, But [p] H H' → H d = none → H' d = some (.xd [("at", .int (i : Nat))]) → E (.ref cB) (some d) H'
    | .uneven => ∀ H', But [p] H H' → E (.ref cU) none H'
    | .height n => ∀ H' d, But [p] H H' → H d = none → H' d = some (.xd [("height", .int n)]) → E (.ref cH) (some d) H'
    | .row => ∀ H' l, But [p] H H' → H l = none → RAt cR H' p l (z.cps.toList.zip ns) → Q .non H')
section
variable {w : World} {K : PySem.W.Frag} {mg : Str → Option Value} {base : Heap}
theorem sc_Row_init : FnScope N_Row_init P_Row_init (defScope s_Row_init) := ⟨rfl, rfl, rfl, by decide +kernel, rfl, by decide +kernel, by decide +kernel⟩
theorem ok_Row_init (T : Txt K mg) : FnOk prg w K mg base (L2.CX prg w) 4 T.f_Row_init T.fd_Row_init P_Row_init (sp_Row_init T.c_BadSign T.c_Uneven T.c_BadHeight T.c_Row) := by
  refine T.D_Row_init.ok sc_Row_init (fun vs H Q E h => ?_) (fun cdv A outer s H vs Q E hr h => ?_)
  · obtain ⟨p, dx, z, hv, ns, rfl, _⟩ := h
    rfl
  obtain ⟨p, dx, z, hv, ns, rfl, hz, hp, hA, k⟩ := h
  have nd := sc_Row_init.nd
  obtain ⟨tG, k_GREATEST_HEIGHT⟩ := T.k_GREATEST_HEIGHT
  have tk : Takes (cxOf (L2.CX prg w) prg w K mg base N_Row_init "Row.__init__" (defScope s_Row_init) T.f_Row_init cdv A outer s H E) (fun cls d _ H' => E cls d H') := takes_of rfl rfl rfl rfl
  refine ⟨_, (pss_cons (ps_set (i := 3) nd rfl (Or.inl rfl) (pe_fn (ok_decoded T) (hr.mono (by decide)) (by rfl) T.m_decoded T.F_decoded.kp T.b_decoded .nil (passAt tk) (pa_cons (pv 1) pa_nil)))
    (pss_cons (ps_expr (pe_fn (ok_check_text T) (hr.mono (by decide)) (by rfl) T.m_check_text T.F_check_text.kp T.b_check_text .nil (passAt tk) (pa_cons (pv 3) pa_nil)))
    (C8.pss_cut (ps_if (pt_cmp (pc_isN (pv 2)) rfl) (pss_one (ps_set (i := 2) nd rfl (Or.inl rfl) (pe_op op_rep (pe_lst (pa_cons pe_int pa_nil)) (pe_callB call_len_str (by rfl) T.n_len PySem.boot_len (pa_cons (pv 3) pa_nil))))) pss_nil)
    (pss_cons (ps_if (pt_cmpR op_ne (pe_callB call_len_seq (by rfl) T.n_len PySem.boot_len (pa_cons (pv 2) pa_nil)) (pe_callB call_len_str (by rfl) T.n_len PySem.boot_len (pa_cons (pv 3) pa_nil)) (nomark _)) (pss_one (ps_raise rfl tk (pmk_own PySem.F.excBase_ValueError T.o_Uneven T.m_Uneven T.kp_Uneven (raises_own T.r_Uneven T.t_Uneven) rfl))) pss_nil)
    (pss_cons (ps_for (passes_of rfl) rfl (pi_list (pv 2)) (pg_name (i := 4) nd rfl (Or.inl rfl))
      (pss_one (ps_expr (pe_fn (ok_check_height T) (hr.mono (by decide)) (by rfl) T.m_check_height T.F_check_height.kp T.b_check_height .nil (passAt tk) (pa_cons (pv 4) (pa_cons (pe_glob (v := .int 9) (by rfl) k_GREATEST_HEIGHT ⟨_, rfl⟩) pa_nil))))))
    (pss_one (ps_fld (pv 0) (pe_listZip (by rfl) (pa_cons (pv 3) (pa_cons (pv 2) pa_nil)) (by rfl) T.n_list (by decide +kernel) (by rfl) T.n_zip) rfl))))))), ?_⟩
  have hzl : z.length ≤ sizeLine := by rw [sizeLine_eq]; omega
  refine ⟨_, rfl, z, rfl, ?_⟩
  refine ⟨_, rfl, z, rfl, hz, fun f1 H1 S1 => ?_, fun i f1 H1 d S1 hd e => ?_⟩
  rotate_left
  · unfold rr at k
    rw [f1] at k
    exact k H1 d (But.of S1) hd e
  have k2 : (match (if ns.length ≠ z.length then RR.uneven else match ns.find? badH with
      | some n => RR.height n
      | none => RR.row) with
    | .sign i => ∀ H' d, But [p] H H' → H d = none → H' d = some (.xd [("at", .int (i : Nat))]) → E (.ref T.c_BadSign) (some d) H'
    | .uneven => ∀ H', But [p] H H' → E (.ref T.c_Uneven) none H'
    | .height n => ∀ H' d, But [p] H H' → H d = none → H' d = some (.xd [("height", .int n)]) → E (.ref T.c_BadHeight) (some d) H'
    | .row => ∀ H' l, But [p] H H' → H l = none → RAt T.c_Row H' p l (z.cps.toList.zip ns) → Q .non H') := by
    unfold rr at k
    rw [f1] at k
    exact k
  clear k
  refine ⟨fun σ H' => ∃ l : Addr, σ = [some (.ref p), some (.str z), some (.ref l), some (.str z), none] ∧ Same H H' ∧ H' l = some (.lst (ns.map V.int)) ∧ ns.length ≤ 1000000 ∧ ∀ n ∈ ns, n.natAbs < 2 ^ 64, ?_, ?_⟩
  · rcases hA with ⟨rfl, rfl⟩ | ⟨l, rfl, hl, hn, hb⟩
    · refine ⟨_, rfl, _, rfl, iteT ?_⟩
      refine ⟨by decide, fun q hq => ⟨_, rfl, z, rfl, hzl, q, _, _, rfl, rfl, upd_same, by omega, by omega, by simpa using hzl, fun l hl => ?_⟩⟩
      have S2 := Rz.Same.new (o := .lst [.int 0]) S1 hq
      refine ⟨l, rfl, Rz.Same.new S2 hl, ?_, by rw [List.length_replicate]; exact hz, fun n hn => ?_⟩
      · rw [upd_same, Int.toNat_natCast]
        congr 2
        generalize z.length = m
        induction m with
        | zero => rfl
        | succ m ih => rw [List.replicate_succ, List.flatten_cons, ih]; rfl
      · rw [(List.mem_replicate.mp hn).2]
        decide
    · refine ⟨_, rfl, _, rfl, iteF ?_⟩
      exact ⟨l, rfl, S1, S1 _ _ hl, hn, hb⟩
  rintro σ H2 ⟨l, rfl, S2, hl, hn, hb⟩
  refine ⟨_, rfl, l, _, rfl, .inl (SqL.of hl), _, rfl, z, rfl, hzl, rfl, _, rfl, ?_⟩
  rw [List.length_map]
  refine ite2 (fun hd => ?_) (fun hd => ?_)
  · have hne : ns.length ≠ z.length := fun e => by
      rw [e] at hd
      simp at hd
    rw [if_pos hne] at k2
    exact k2 H2 (But.of S2)
  have heq : ns.length = z.length := by
    have h2 : (ns.length : Int) = z.length := by
      have := hd
      simpa using this
    omega
  rw [if_neg (by simp [heq])] at k2
  refine ⟨_, rfl, l, rfl, ⟨_, SqL.of hl⟩, for_list (K := K) (a := l) (xs := ns.map V.int) (fun i σ H' => ∃ v4 : Option V, σ = [some (.ref p), some (.str z), some (.ref l), some (.str z), v4] ∧ H' = H2 ∧ ∀ j n, j < i → ns[j]? = some n → badH n = false)
    ⟨none, rfl, rfl, fun j n hj => absurd hj (Nat.not_lt_zero j)⟩ (fun i σ H' _ ⟨_, _, e, _⟩ => by rw [e]; exact SqL.of hl) ?_ ?_⟩
  · rintro i y σ H' hi ⟨v4, rfl, rfl, hg⟩
    obtain ⟨n, hn2, rfl⟩ := mapi_get hi
    refine ⟨_, rfl, n, 9, rfl, hb n (List.mem_of_getElem? hn2), fun ok => ?_, fun bad H3 d S3 hd3 e3 => ?_⟩
    · refine ⟨_, rfl, rfl, fun j m hj hm => ?_⟩
      by_cases e : j < i
      · exact hg j m e hm
      · have e2 : j = i := by omega
        subst e2
        rw [hn2] at hm
        cases hm
        unfold badH
        simp
        omega
    · have hf : ns.find? badH = some n := by
        rw [List.find?_eq_some_iff_getElem]
        refine ⟨by unfold badH; simp; omega, i, (List.getElem?_eq_some_iff.mp hn2).1, (List.getElem?_eq_some_iff.mp hn2).2, fun j hj => ?_⟩
        have := hg j _ hj (List.getElem?_eq_getElem (Nat.lt_trans hj (List.getElem?_eq_some_iff.mp hn2).1))
        simp [this]
      rw [hf] at k2
      exact k2 H3 d (But.of (S2.trans S3)) (S2.free hd3) e3
  · rintro σ H' ⟨v4, rfl, rfl, hg⟩
    have hf : ns.find? badH = none := by
      rw [List.find?_eq_none]
      intro n hn2
      obtain ⟨j, hj, e⟩ := List.getElem_of_mem hn2
      have := hg j n (by simpa using hj) (by rw [List.getElem?_eq_getElem hj, e])
      simp [this]
    rw [hf] at k2
    refine ⟨_, rfl, _, rfl, z, l, _, rfl, SqL.of hl, by rw [List.length_map]; exact heq.symm, hzl, fun H3 q ts S3 hq hts nq eq hP => ?_⟩
    have hp3 := (S2.trans S3) _ _ hp
    refine ⟨_, rfl, p, _, dx, _, rfl, hp3, T.cl_Row, T.na_Row__pairs, by show 0 < 1000; decide, ?_⟩
    have S23 := S2.trans S3
    refine k2 _ q ((But.of S23).upd (.inl (by simp))) (S2.free hq) ⟨dx, upd_same, ts, ?_, ?_⟩
    · rw [upd_ne (fun z => by rw [z, hp3] at eq; cases eq)]
      exact eq
    · exact (zkv_pairs hP).keep (Tups.upd (fun _ _ e => e) fun xs e => by rw [hp3] at e; cases e)
end
end Rz

namespace Rz
open PySem PySem.Spec PyProof.Rows L2
/-- what Row(z, ..) asks for where it can be made -/
theorem row_new {cB cU cH cR : Addr} {H : Hp} {Q : VK} {E : XK} {z : Str} {hv : V} {ns : List Int} {vs dvs : List V} (e : vs ++ dvs = [.str z, hv]) (hz : z.length ≤ 1000000) (hA : HtsArg H z ns hv) (hrr : rr z ns = .row)
    (k : ∀ (H' : Hp) (x l : Addr), Same H H' → H x = none → H l = none → RAt cR H' x l (z.cps.toList.zip ns) → Q (.ref x) H') : MkR cR (sp_Row_init cB cU cH cR) dvs E vs H Q := by
  rw [mkR_eq, e]
  intro x dx hx hdx ndx
  have hA2 : HtsArg (upd (upd H dx (.own x)) x (.ins cR dx [])) z ns hv := by
    rcases hA with h | ⟨l, e, hl, r⟩
    · exact .inl h
    · exact .inr ⟨l, e, by rw [upd_ne (ne_of_none hl hx), upd_ne (ne_of_none hl hdx)]; exact hl, r⟩
  refine ⟨x, dx, z, hv, ns, rfl, hz, upd_same, hA2, ?_⟩
  rw [hrr]
  intro H4 m B hm hR
  refine ⟨rfl, k H4 x m (fun b o e => ?_) hx ?_ hR⟩
  · exact B b o (by have := ne_of_none e hx; simpa using this) (by rw [upd_ne (ne_of_none e hx), upd_ne (ne_of_none e hdx)]; exact e)
  · cases q : H m with
    | none => rfl
    | some o =>
      rw [upd_ne (ne_of_none q hx), upd_ne (ne_of_none q hdx), q] at hm
      cases hm
theorem rr_empty : rr "" [] = .row := rfl
end Rz

namespace Rz
open PySem PySem.Spec PyProof.Rows L2
def sp_Row_signs (cR : Addr) : Sp := fun vs H Q _ => ∃ (p l : Addr) (ps : List Pr), vs = [.ref p] ∧ RAt cR H p l ps ∧ ps.length ≤ 1000000 ∧ ∀ H', Same H H' → Q (.str (tx ps)) H'
section
variable {w : World} {K : PySem.W.Frag} {mg : Str → Option Value} {base : Heap}
theorem sc_Row_signs : FnScope N_Row_signs P_Row_signs (defScope s_Row_signs) := ⟨rfl, rfl, rfl, by decide +kernel, rfl, by decide +kernel, by decide +kernel⟩
theorem ok_Row_signs (T : Txt K mg) : FnOk prg w K mg base (L2.CX prg w) 1 T.f_Row_signs T.fd_Row_signs P_Row_signs (sp_Row_signs T.c_Row) := by
  refine Rz.Fun.okN T.F_Row_signs sc_Row_signs (fun vs H Q E h => ?_) (fun cdv A outer s H vs Q E hr h => ?_)
  · obtain ⟨p, l, ps, rfl, _⟩ := h
    rfl
  obtain ⟨p, l, ps, rfl, ⟨dx, hp, hL⟩, hz, k⟩ := h
  have nd := sc_Row_signs.nd
  refine ⟨_, (pss_one (ps_ret (pe_join pe_str (pe_lc (own := [("sign", 1), ("_", 2)]) (g := gTup K 2 (gCons (gName 1) (gCons (gName 2) gNil))) (tt := tYes) rfl nd (pi_list (pe_fld (pv 0) rfl)) (blkOk_by (N := N_Row_signs) (sc := defScope s_Row_signs) (by decide +kernel)) (fun _ _ _ _ _ => (pg_tup rfl (pgs_cons (pg_name (i := 1) nd rfl (Or.inl rfl)) (pgs_cons (pg_name (i := 2) nd rfl (Or.inl rfl)) pgs_nil)))) (fun _ _ _ _ _ => pts_nil) (fun _ _ _ _ _ => (pv 1)))))), ?_⟩
  obtain ⟨ts, hl, hP⟩ := id hL
  refine ⟨⟨_, rfl⟩, _, rfl, p, _, dx, _, _, rfl, hp, T.cl_Row, T.na_Row__pairs, rfl, l, rfl, ⟨_, SqL.of hl⟩, fun D hD => lc_pairs (K := K) (l := l) (ps := ps) (fun q => .str ⟨#[q.1]⟩) hL (by rw [sizeLine_eq]; omega) hD ?_ ?_⟩
  · intro t q H2 Q2 _ S e c
    exact ⟨t, _, rfl, SqT.of e, rfl, _, _, rfl, _, _, rfl, rfl, rfl, _, rfl, c _ (Same.refl _)⟩
  · intro H2 S e
    have e2 : ps.map (fun q => V.str ⟨#[q.1]⟩) = (ps.map fun q => (⟨#[q.1]⟩ : Str)).map V.str := by rw [List.map_map]; rfl
    rw [e2] at e
    refine ⟨_, D, _, rfl, rfl, .inl (SqL.of e), ?_, ?_⟩
    · rw [sum_ones (fun y hy => by obtain ⟨q, _, rfl⟩ := List.mem_map.mp hy; rfl), List.length_map]
      show _ + _ * 0 ≤ _
      omega
    · rw [join_signs]
      exact k H2 S
end
end Rz

namespace Rz
open PySem PySem.Spec PyProof.Rows L2
def pr_Row_iter (cR : Addr) : Addr → Addr → Hp → Prop := fun p l H => ∃ dx xs, H p = some (.ins cR dx [("_pairs", .ref l)]) ∧ H l = some (.lst xs)
section
variable {w : World} {K : PySem.W.Frag} {mg : Str → Option Value} {base : Heap}
theorem sc_Row_iter : FnScope N_Row_iter P_Row_iter (defScope s_Row_iter) := ⟨rfl, rfl, rfl, by decide +kernel, rfl, by decide +kernel, by decide +kernel⟩
theorem ok_Row_iter (T : Txt K mg) : IterLOk prg w K mg base 1 T.f_Row_iter (pr_Row_iter T.c_Row) := by
  refine iterL_of T.F_Row_iter sc_Row_iter T.b_Row_iter rfl rfl (fun cdv A outer s H p l hr h => ?_)
  obtain ⟨dx, xs, hp, hl⟩ := h
  refine ⟨_, (pe_callB ItX.call_iterN (by rfl) T.n_iter (by decide +kernel) (pa_cons (pe_fld (pv 0) rfl) pa_nil)), ?_⟩
  exact ⟨_, rfl, p, _, dx, _, _, rfl, hp, T.cl_Row, T.na_Row__pairs, rfl, l, _, rfl, SqL.of hl, fun it hit young => ⟨it, rfl, young, hit, rfl⟩⟩
end
end Rz

namespace Rz
open PySem PySem.Spec PyProof.Rows L2
/-! ### links between states, and where they lead -/
abbrev Lk := Int × Int
def LkL (H : Hp) (ts : List Addr) (ps : List Lk) : Prop := Paired (fun (t : Addr) (p : Lk) => H t = some (.tup [.int p.1, .int p.2])) ts ps
def LkAt (H : Hp) (l : Addr) (ps : List Lk) : Prop := ∃ ts : List Addr, H l = some (.lst (ts.map V.ref)) ∧ LkL H ts ps
theorem LkL.get {H : Hp} : ∀ {ts : List Addr} {ps : List Lk} {i : Nat} {t : Addr}, LkL H ts ps → ts[i]? = some t → ∃ p, ps[i]? = some p ∧ H t = some (.tup [.int p.1, .int p.2])
  | _, _, i, t, .nil, h => by cases h
  | _, _, 0, t, .cons e r, h => by
    have z := Option.some.inj h
    subst z
    exact ⟨_, rfl, e⟩
  | _, _, i + 1, t, .cons e r, h => LkL.get (i := i) r (by simpa using h)
theorem LkL.len {H : Hp} {ts : List Addr} {ps : List Lk} (h : LkL H ts ps) : ts.length = ps.length := Paired.length h
def succs (ps : List Lk) (s : Int) : List Int := (ps.filter fun p => decide (p.1 = s)).map (·.2)
theorem succs_snoc (ps : List Lk) (p : Lk) (s : Int) : succs (ps ++ [p]) s = if p.1 = s then succs ps s ++ [p.2] else succs ps s := by
  unfold succs
  rw [List.filter_append, List.map_append]
  by_cases h : p.1 = s
  · rw [if_pos h, List.filter_cons, if_pos (decide_eq_true h)]
    rfl
  · rw [if_neg h, List.filter_cons, if_neg (by simpa using h)]
    simp
theorem succs_len (ps : List Lk) (s : Int) : (succs ps s).length ≤ ps.length := by
  unfold succs
  rw [List.length_map]
  exact List.length_filter_le _ _
/-- the dict that says where each state leads, its lists younger than H0 -/
def FoAt (H0 H : Hp) (d : Addr) (ps : List Lk) (kvs : List (Key × V)) : Prop := H d = some (.dK kvs) ∧
  (∀ s : Int, (valV kvs (.inl s) = none ∧ succs ps s = []) ∨ ∃ l, valV kvs (.inl s) = some (.ref l) ∧ l ≠ d ∧ H0 l = none ∧ H l = some (.lst ((succs ps s).map V.int))) ∧
  ∀ s u l, valV kvs (.inl s) = some (.ref l) → valV kvs (.inl u) = some (.ref l) → s = u
/-- one link more -/
theorem fo_old {H0 H : Hp} {d l : Addr} {ps : List Lk} {kvs : List (Key × V)} {p : Lk} (F : FoAt H0 H d ps kvs) (h : valV kvs (.inl p.1) = some (.ref l)) : FoAt H0 (upd H l (.lst (((succs ps p.1).map V.int) ++ [.int p.2]))) d (ps ++ [p]) kvs := by
  obtain ⟨f1, f2, f3⟩ := F
  have nld : l ≠ d := by
    rcases f2 p.1 with ⟨z, _⟩ | ⟨l2, z, n, _⟩
    · rw [h] at z
      cases z
    · rw [h] at z
      cases z
      exact n
  refine ⟨by rw [upd_ne (Ne.symm nld)]; exact f1, fun s => ?_, f3⟩
  rw [succs_snoc]
  by_cases e : p.1 = s
  · rw [if_pos e]
    subst e
    rcases f2 p.1 with ⟨z, _⟩ | ⟨l2, z, n, m, _⟩
    · rw [h] at z
      cases z
    · rw [h] at z
      cases z
      exact .inr ⟨l, h, nld, m, by rw [upd_same, List.map_append]; rfl⟩
  · rw [if_neg e]
    rcases f2 s with z | ⟨l2, z1, z2, z3, z4⟩
    · exact .inl z
    · have n : l2 ≠ l := fun q => e (f3 p.1 s l h (by rw [← q]; exact z1))
      exact .inr ⟨l2, z1, z2, z3, by rw [upd_ne n]; exact z4⟩
theorem fo_new {H0 H : Hp} {d q : Addr} {ps : List Lk} {kvs : List (Key × V)} {p : Lk} (F : FoAt H0 H d ps kvs) (h : valV kvs (.inl p.1) = none) (hq : H q = none) (hq0 : H0 q = none) :
    FoAt H0 (upd (upd H d (.dK (putK kvs (.inl p.1) (.ref q)))) q (.lst [.int p.2])) d (ps ++ [p]) (putK kvs (.inl p.1) (.ref q)) := by
  obtain ⟨f1, f2, f3⟩ := F
  have nqd : q ≠ d := fun z => by rw [z, f1] at hq; cases hq
  have e0 : succs ps p.1 = [] := by
    rcases f2 p.1 with ⟨_, z⟩ | ⟨l, z, _⟩
    · exact z
    · rw [h] at z
      cases z
  have old : ∀ {s : Int} {l : Addr}, valV kvs (.inl s) = some (.ref l) → l ≠ q := fun {s l} z y => by
    rcases f2 s with ⟨w, _⟩ | ⟨l2, w, _, _, w4⟩
    · rw [z] at w
      cases w
    · rw [z] at w
      cases w
      rw [y, hq] at w4
      cases w4
  refine ⟨by rw [upd_ne (Ne.symm nqd), upd_same], fun s => ?_, fun s u l h1 h2 => ?_⟩
  · rw [succs_snoc, valV_put]
    by_cases e : p.1 = s
    · subst e
      rw [if_pos rfl, if_pos rfl, e0]
      exact .inr ⟨q, rfl, nqd, hq0, upd_same⟩
    · rw [if_neg e, if_neg (fun z => e (by injection z with z; exact z.symm))]
      rcases f2 s with z | ⟨l2, z1, z2, z3, z4⟩
      · exact .inl z
      · exact .inr ⟨l2, z1, z2, z3, by rw [upd_ne (old z1), upd_ne z2]; exact z4⟩
  · rw [valV_put] at h1 h2
    by_cases e1 : (Sum.inl s : Key) = .inl p.1
    · by_cases e2 : (Sum.inl u : Key) = .inl p.1
      · injection e1 with e1
        injection e2 with e2
        rw [e1, e2]
      · rw [if_pos e1] at h1
        rw [if_neg e2] at h2
        cases h1
        exact absurd rfl (old h2)
    · rw [if_neg e1] at h1
      by_cases e2 : (Sum.inl u : Key) = .inl p.1
      · rw [if_pos e2] at h2
        cases h2
        exact absurd rfl (old h1)
      · rw [if_neg e2] at h2
        exact f3 s u l h1 h2
end Rz

namespace Rz
open PySem PySem.Spec PyProof.Rows L2
/-- what the starts lead to -/
inductive Reach (ps : List Lk) (ss : List Int) : Int → Prop
  | start {x : Int} : x ∈ ss → Reach ps ss x
  | step {x y : Int} : Reach ps ss x → y ∈ succs ps x → Reach ps ss y
def hasK (kvs : List (Key × V)) (x : Int) : Bool := (valV kvs (.inl x)).isSome
/-- the targets that are not reached yet -/
def undone (ps : List Lk) (kvs : List (Key × V)) : Nat := (ps.filter fun p => !hasK kvs p.2).length
theorem filter_le2 {α : Type} {f g : α → Bool} (h : ∀ p, g p = true → f p = true) : ∀ ps : List α, (ps.filter g).length ≤ (ps.filter f).length
  | [] => Nat.le_refl _
  | p :: ps => by
    have r := filter_le2 h ps
    rw [List.filter_cons, List.filter_cons]
    by_cases e : g p = true
    · rw [if_pos e, if_pos (h p e)]
      exact Nat.succ_le_succ r
    · rw [if_neg e]
      by_cases e2 : f p = true
      · rw [if_pos e2]
        exact Nat.le_succ_of_le r
      · rw [if_neg e2]
        exact r
theorem filter_lt2 {α : Type} {f g : α → Bool} (h : ∀ p, g p = true → f p = true) {x : α} (hf : f x = true) (hg : ¬ g x = true) : ∀ ps : List α, x ∈ ps → (ps.filter g).length + 1 ≤ (ps.filter f).length
  | [], z => by cases z
  | p :: ps, z => by
    rw [List.filter_cons, List.filter_cons]
    by_cases ex : x = p
    · subst ex
      rw [if_pos hf, if_neg hg]
      exact Nat.succ_le_succ (filter_le2 h ps)
    · have r := filter_lt2 h hf hg ps ((List.mem_cons.mp z).resolve_left ex)
      by_cases e : g p = true
      · rw [if_pos e, if_pos (h p e)]
        exact Nat.succ_le_succ r
      · rw [if_neg e]
        by_cases e2 : f p = true
        · rw [if_pos e2]
          exact Nat.le_succ_of_le r
        · rw [if_neg e2]
          exact r
theorem hasK_put {R : List (Key × V)} {y z : Int} {v : V} : hasK (putK R (.inl y) v) z = true ↔ z = y ∨ hasK R z = true := by
  unfold hasK
  rw [valV_put]
  by_cases e : (Sum.inl z : Key) = .inl y
  · rw [if_pos e]
    injection e with e
    exact ⟨fun _ => .inl e, fun _ => rfl⟩
  · rw [if_neg e]
    exact ⟨.inr, fun q => q.resolve_left fun k => e (by rw [k])⟩
theorem undone_le (ps : List Lk) (R : List (Key × V)) : undone ps R ≤ ps.length := List.length_filter_le _ _
theorem succs_mem {ps : List Lk} {x y : Int} (h : y ∈ succs ps x) : ∃ p ∈ ps, p.2 = y := by
  unfold succs at h
  obtain ⟨p, hp, e⟩ := List.mem_map.mp h
  exact ⟨p, (List.mem_filter.mp hp).1, e⟩
theorem undone_put {ps : List Lk} {R : List (Key × V)} {x y : Int} {v : V} (h : y ∈ succs ps x) (n : ¬ hasK R y = true) : undone ps (putK R (.inl y) v) + 1 ≤ undone ps R := by
  obtain ⟨p, hp, e⟩ := succs_mem h
  unfold undone
  refine filter_lt2 (x := p) (fun q z => ?_) (by rw [e]; simpa using n) ?_ ps hp
  · have z2 : ¬ hasK (putK R (.inl y) v) q.2 = true := by simpa using z
    have z3 : ¬ hasK R q.2 = true := fun k => z2 (hasK_put.mpr (.inr k))
    simpa using z3
  · have : hasK (putK R (.inl y) v) p.2 = true := hasK_put.mpr (.inl e)
    rw [this]
    simp
theorem reach_all {ps : List Lk} {ss : List Int} {P : Int → Prop} (h0 : ∀ x ∈ ss, P x) (h1 : ∀ x, P x → ∀ y ∈ succs ps x, P y) : ∀ {x}, Reach ps ss x → P x
  | _, .start h => h0 _ h
  | _, .step r h => h1 _ (reach_all h0 h1 r) _ h
end Rz

namespace Rz
open PySem PySem.Spec PyProof.Rows L2
/-! ### lists of tuples of ints and texts, by a key of each -/
section
variable {α : Type} {F : α → List Key}
def TpL (F : α → List Key) (H : Hp) (ts : List Addr) (xs : List α) : Prop := Paired (fun (t : Addr) (x : α) => H t = some (.tup ((F x).map kV))) ts xs
def TpAt (F : α → List Key) (H : Hp) (l : Addr) (xs : List α) : Prop := ∃ ts : List Addr, H l = some (.lst (ts.map V.ref)) ∧ TpL F H ts xs
theorem TpL.keep {H H' : Hp} (h : Tups H H') : ∀ {ts : List Addr} {xs : List α}, TpL F H ts xs → TpL F H' ts xs
  | _, _, .nil => .nil
  | _, _, .cons e r => .cons (h _ _ e) (TpL.keep h r)
theorem TpL.len {H : Hp} {ts : List Addr} {xs : List α} (h : TpL F H ts xs) : ts.length = xs.length := Paired.length h
theorem TpL.append {H : Hp} : ∀ {ts us : List Addr} {xs ys : List α}, TpL F H ts xs → TpL F H us ys → TpL F H (ts ++ us) (xs ++ ys)
  | _, _, _, _, .nil, s => s
  | _, _, _, _, .cons e t, s => .cons e (TpL.append t s)
theorem TpL.get {H : Hp} : ∀ {ts : List Addr} {xs : List α} {i : Nat} {t : Addr}, TpL F H ts xs → ts[i]? = some t → ∃ x, xs[i]? = some x ∧ H t = some (.tup ((F x).map kV))
  | _, _, i, t, .nil, h => by cases h
  | _, _, 0, t, .cons e r, h => by
    have z := Option.some.inj h
    subst z
    exact ⟨_, rfl, e⟩
  | _, _, i + 1, t, .cons e r, h => TpL.get (i := i) r (by simpa using h)
theorem TpL.nth {H : Hp} : ∀ {ts : List Addr} {xs : List α} {i : Nat} {x : α}, TpL F H ts xs → xs[i]? = some x → ∃ t, ts[i]? = some t ∧ H t = some (.tup ((F x).map kV))
  | _, _, i, x, .nil, h => by cases h
  | _, _, 0, x, .cons e r, h => by
    have z := Option.some.inj h
    subst z
    exact ⟨_, rfl, e⟩
  | _, _, i + 1, x, .cons e r, h => TpL.nth (i := i) r (by simpa using h)
theorem TpL.takeT {H : Hp} : ∀ {ts : List Addr} {xs : List α} (n : Nat), TpL F H ts xs → TpL F H (ts.take n) (xs.take n)
  | _, _, 0, _ => .nil
  | _, _, _ + 1, .nil => .nil
  | _, _, n + 1, .cons e r => .cons e (TpL.takeT n r)
theorem TpL.dropT {H : Hp} : ∀ {ts : List Addr} {xs : List α} (n : Nat), TpL F H ts xs → TpL F H (ts.drop n) (xs.drop n)
  | _, _, 0, h => h
  | _, _, _ + 1, .nil => .nil
  | _, _, n + 1, .cons _ r => TpL.dropT n r
theorem TpAt.same {H H' : Hp} {l : Addr} {xs : List α} (S : Same H H') (a : TpAt F H l xs) : TpAt F H' l xs := let ⟨ts, h1, h2⟩ := a; ⟨ts, S _ _ h1, h2.keep (.of S)⟩
theorem TpAt.but {D : List Addr} {H H' : Hp} {l : Addr} {xs : List α} (a : TpAt F H l xs) (B : But D H H') (n : l ∉ D) (t : Tups H H') : TpAt F H' l xs := let ⟨ts, h1, h2⟩ := a; ⟨ts, B.at h1 n, h2.keep t⟩
theorem TpAt.isL {H : Hp} {l : Addr} {xs : List α} (a : TpAt F H l xs) : ∃ ys, H l = some (.lst ys) := let ⟨_, h, _⟩ := a; ⟨_, h⟩
theorem TpAt.someO {H : Hp} {l : Addr} {xs : List α} (a : TpAt F H l xs) : ∃ o, H l = some o := let ⟨_, h, _⟩ := a; ⟨_, h⟩
/-- one more -/
theorem tp_push {G : Hp} {D u : Addr} {ts : List Addr} {xs : List α} {x : α} (e : G D = some (.lst (ts.map V.ref))) (P : TpL F G ts xs) (hu : G u = none) :
    TpAt F (upd (upd G u (.tup ((F x).map kV))) D (.lst (ts.map V.ref ++ [.ref u]))) D (xs ++ [x]) := by
  have nuD : u ≠ D := fun q => by rw [q, e] at hu; cases hu
  have S := Rz.Same.new (o := .tup ((F x).map kV)) (Same.refl G) hu
  have T : Tups G (upd (upd G u (.tup ((F x).map kV))) D (.lst (ts.map V.ref ++ [.ref u]))) := Tups.upd (Tups.of S) (not_tupL ⟨_, S _ _ e⟩)
  exact ⟨ts ++ [u], by rw [upd_same, List.map_append]; rfl, (P.keep T).append (.cons (by rw [upd_ne nuD, upd_same]) .nil)⟩
theorem tp_keys {H : Hp} : ∀ {ts : List Addr} {xs : List α}, TpL F H ts xs → ∃ ks : List (Addr × List Key), ts.map V.ref = ks.map (fun p => V.ref p.1) ∧ ks.map (·.2) = xs.map F ∧ (∀ p ∈ ks, H p.1 = some (.tup (p.2.map kV))) ∧ ks.length = xs.length
  | _, _, .nil => ⟨[], rfl, rfl, fun p hp => (by cases hp), rfl⟩
  | _, _, .cons (a := t) (b := x) e r => by
    obtain ⟨ks, h1, h2, h3, h4⟩ := tp_keys r
    refine ⟨(t, F x) :: ks, by rw [List.map_cons, h1]; rfl, by rw [List.map_cons, h2]; rfl, fun p hp => ?_, by rw [List.length_cons, List.length_cons, h4]⟩
    rcases List.mem_cons.mp hp with z | z
    · rw [z]
      exact e
    · exact h3 p z
theorem keys_tp {H : Hp} : ∀ {M : List (Addr × List Key)}, (∀ p ∈ M, H p.1 = some (.tup (p.2.map kV)) ∧ ∃ x : α, p.2 = F x) → ∃ qs : List α, M.map (·.2) = qs.map F ∧ TpL F H (M.map (·.1)) qs
  | [], _ => ⟨[], rfl, .nil⟩
  | p :: M, h => by
    obtain ⟨e, x, ex⟩ := h p List.mem_cons_self
    obtain ⟨qs, h1, h2⟩ := keys_tp (M := M) fun q hq => h q (List.mem_cons_of_mem _ hq)
    refine ⟨x :: qs, by rw [List.map_cons, List.map_cons, h1, ex], .cons ?_ h2⟩
    rw [ex] at e
    exact e
/-- ascending, each once -/
def SrtK (F : α → List Key) (xs qs : List α) : Prop := (qs.map F).Pairwise (fun q r => kLt r q = false) ∧ qs.Nodup ∧ ∀ x, x ∈ qs ↔ x ∈ xs
/-- ascending, as often as they stand -/
def SrtD (F : α → List Key) (xs qs : List α) : Prop := (qs.map F).Pairwise (fun q r => kLt r q = false) ∧ qs.Perm xs
theorem keymap (inj : ∀ a b, F a = F b → a = b) : ∀ {qs rs : List α}, qs.map F = rs.map F → qs = rs
  | [], [], _ => rfl
  | [], _ :: _, h => by cases h
  | _ :: _, [], h => by cases h
  | x :: a, y :: b, h => by
    rw [List.map_cons, List.map_cons] at h
    injection h with h1 h2
    rw [inj _ _ h1, keymap inj h2]
theorem srtK_one (inj : ∀ a b, F a = F b → a = b) {xs qs rs : List α} (a : SrtK F xs qs) (b : SrtK F xs rs) : qs = rs := by
  have nd : ∀ {zs : List α}, zs.Nodup → (zs.map F).Nodup := fun {zs} h => by
    rw [List.Nodup, List.pairwise_map]
    exact h.imp fun n e => n (inj _ _ e)
  have mm : ∀ {zs : List α} {y : α}, F y ∈ zs.map F ↔ y ∈ zs := fun {zs y} => ⟨fun h => by
    obtain ⟨x, hx, e⟩ := List.mem_map.mp h
    rw [← inj _ _ e]
    exact hx, fun h => List.mem_map.mpr ⟨y, h, rfl⟩⟩
  refine keymap inj (keys_one a.1 b.1 (nd a.2.1) (nd b.2.1) fun k => ⟨fun h => ?_, fun h => ?_⟩)
  · obtain ⟨y, hy, rfl⟩ := List.mem_map.mp h
    exact mm.mpr ((b.2.2 y).mpr ((a.2.2 y).mp hy))
  · obtain ⟨y, hy, rfl⟩ := List.mem_map.mp h
    exact mm.mpr ((a.2.2 y).mpr ((b.2.2 y).mp hy))
/-- the sorted rows of a set -/
theorem rows_srt (inj : ∀ a b, F a = F b → a = b) {H : Hp} {xs : List α} {L M : List (Addr × List Key)} (nd : (L.map (·.2)).Nodup) (pm : M.Perm L) (pw : M.Pairwise (fun q r => kLt r.2 q.2 = false)) (at_ : ∀ p ∈ L, H p.1 = some (.tup (p.2.map kV)))
    (from_ : ∀ p ∈ L, ∃ x ∈ xs, p.2 = F x) (all : ∀ x ∈ xs, F x ∈ L.map (·.2)) : ∃ qs, SrtK F xs qs ∧ TpL F H (M.map (·.1)) qs := by
  obtain ⟨qs, q1, q2⟩ := keys_tp (F := F) (H := H) (M := M) fun p hp => by
    have inL := pm.mem_iff.mp hp
    obtain ⟨x, _, e⟩ := from_ p inL
    exact ⟨at_ p inL, x, e⟩
  refine ⟨qs, ⟨?_, ?_, fun y => ?_⟩, q2⟩
  · rw [← q1, List.pairwise_map]
    exact pw
  · have nM : (M.map (·.2)).Nodup := (pm.map (·.2)).nodup_iff.mpr nd
    rw [q1] at nM
    exact List.Pairwise.of_map F (fun _ _ n e => n (congrArg _ e)) nM
  · have m1 : F y ∈ qs.map F ↔ y ∈ qs := ⟨fun h => by
      obtain ⟨x, hx, e⟩ := List.mem_map.mp h
      rw [← inj _ _ e]
      exact hx, fun h => List.mem_map.mpr ⟨y, h, rfl⟩⟩
    rw [← m1, ← q1, (pm.map (·.2)).mem_iff]
    refine ⟨fun h => ?_, fun h => all y h⟩
    obtain ⟨p, hp, e⟩ := List.mem_map.mp h
    obtain ⟨x, hx, e2⟩ := from_ p hp
    rw [← inj _ _ (e2.symm.trans e)]
    exact hx
/-- sorted(set(xs)) -/
theorem sortset_go {K : PySem.W.Frag} {w : World} {σ : L2.St} {G : Hp} {Q : VK} {i : Nat} {l : Addr} {xs : List α} (sh : Nat → Bool) (inj : ∀ a b, F a = F b → a = b) (fit : ∀ x, Fits sh 0 (F x) ∧ F x ≠ []) (hσ : σ[i]? = some (some (.ref l))) (A : TpAt F G l xs) (few : xs.length < 64)
    (k : ∀ (G' : Hp) (q : Addr) (qs : List α), Same G G' → G q = none → SrtK F xs qs → TpAt F G' q qs → Q (.ref q) G') : tCB (rSortTs K prg w) (tCons (tCB (rSetTs K prg w) (tCons (tVar i) tNil)) tNil) σ G Q := by
  obtain ⟨ts, e, P⟩ := A
  obtain ⟨ks, k1, k2, k3, k4⟩ := tp_keys P
  refine ⟨_, hσ, l, ks, rfl, SqL.of (by rw [← k1]; exact e), fun x hx => SqT.of (k3 x hx), by omega, fun a L ha sub all ndL zL => ?_⟩
  have S8 := Rz.Same.new (o := TsO prg w a L) (Same.refl G) ha
  have fr : ∀ p ∈ L, ∃ x ∈ xs, p.2 = F x := fun p hp => by
    have inm : p.2 ∈ xs.map F := by rw [← k2]; exact List.mem_map.mpr ⟨p, sub p hp, rfl⟩
    obtain ⟨y, hy, ey⟩ := List.mem_map.mp inm
    exact ⟨y, hy, ey.symm⟩
  refine ⟨a, L, sh, rfl, upd_same, fun x hx => SqT.of (S8 _ _ (k3 x (sub x hx))), fun x hx => ?_, fun M b pm pw hb => ?_⟩
  · obtain ⟨y, _, ey⟩ := fr x hx
    rw [ey]
    exact fit y
  have S9 := Rz.Same.new (o := .lst (M.map fun q => V.ref q.1)) (Same.refl (upd G a (TsO prg w a L))) hb
  obtain ⟨qs, q1, q2⟩ := rows_srt inj (H := G) (xs := xs) ndL pm pw (fun p hp => k3 p (sub p hp)) fr fun x hx => by
    have inm : F x ∈ ks.map (·.2) := by rw [k2]; exact List.mem_map.mpr ⟨x, hx, rfl⟩
    obtain ⟨p, hp, ep⟩ := List.mem_map.mp inm
    rw [← ep]
    exact all p hp
  refine k _ b qs (S8.trans S9) (S8.free hb) q1 ⟨M.map (·.1), ?_, q2.keep (Tups.of (S8.trans S9))⟩
  rw [List.map_map]
  exact upd_same
/-! as data -/
def dKey : Key → PyData
  | .inl i => .int i
  | .inr x => .str x
def dTp (F : α → List Key) (x : α) : PyData := .tuple ((F x).map dKey)
def dTps (F : α → List Key) (xs : List α) : PyData := .list (xs.map (dTp F))
def GoodK : Key → Prop
  | .inl _ => True
  | .inr x => PyData.strOk x = true
def GoodF (F : α → List Key) (xs : List α) : Prop := ∀ x ∈ xs, ∀ k ∈ F x, GoodK k
theorem dkeys_all {K : PySem.W.Frag} {H : Hp} : ∀ ks : List Key, DpAll K H (ks.map kV) (ks.map dKey)
  | [] => .nil
  | .inl i :: r => .cons (.int i) (dkeys_all r)
  | .inr x :: r => .cons (.str x) (dkeys_all r)
theorem dtp_at {K : PySem.W.Frag} {H : Hp} {t : Addr} {x : α} (e : H t = some (.tup ((F x).map kV))) : Dp K H (.ref t) (dTp F x) := .tup (SqT.of e) (dkeys_all _)
theorem dtps_all {K : PySem.W.Frag} {H : Hp} : ∀ {ts : List Addr} {xs : List α}, TpL F H ts xs → DpAll K H (ts.map V.ref) (xs.map (dTp F))
  | _, _, .nil => .nil
  | _, _, .cons e r => .cons (dtp_at e) (dtps_all r)
theorem dtps_at {K : PySem.W.Frag} {H : Hp} {l : Addr} {xs : List α} (h : TpAt F H l xs) : Dp K H (.ref l) (dTps F xs) := let ⟨_, h1, h2⟩ := h; .lst (SqL.of h1) (dtps_all h2)
theorem dkeys_lay : ∀ {ks : List Key}, (∀ k ∈ ks, GoodK k) → PyData.canLayAll0 (ks.map dKey) = true
  | [], _ => rfl
  | .inl i :: r, h => by
    have b := dkeys_lay (ks := r) fun k hk => h k (List.mem_cons_of_mem _ hk)
    simp only [List.map_cons, PyData.canLayAll0, b, Bool.and_true]
    rfl
  | .inr x :: r, h => by
    have a : PyData.strOk x = true := h (.inr x) List.mem_cons_self
    have b := dkeys_lay (ks := r) fun k hk => h k (List.mem_cons_of_mem _ hk)
    simp only [List.map_cons, PyData.canLayAll0, b, Bool.and_true]
    simp [dKey, PyData.canLay0, a]
theorem dkeys_depth : ∀ ks : List Key, PyData.depthAll (ks.map dKey) = 0
  | [] => by simp [PyData.depthAll]
  | .inl i :: r => by
    rw [List.map_cons, PyData.depthAll, dkeys_depth r]
    simp [dKey, PyData.depth]
  | .inr x :: r => by
    rw [List.map_cons, PyData.depthAll, dkeys_depth r]
    simp [dKey, PyData.depth]
theorem dtp_depth (x : α) : PyData.depth (dTp F x) = 1 := by
  show PyData.depthAll ((F x).map dKey) + 1 = 1
  rw [dkeys_depth]
theorem dtp_lay {x : α} (h : ∀ k ∈ F x, GoodK k) : PyData.canLay0 (dTp F x) = true := dkeys_lay h
theorem dtp_shaped {x : α} (h : ∀ k ∈ F x, GoodK k) : SeqAt.shaped (dTp F x) = true := by
  show (PyData.canLayAll0 ((F x).map dKey) && decide (PyData.depth (dTp F x) ≤ 64)) = true
  rw [dkeys_lay h, dtp_depth]
  rfl
theorem dtps_lay : ∀ {xs : List α}, GoodF F xs → PyData.canLayAll0 (xs.map (dTp F)) = true
  | [], _ => rfl
  | x :: xs, h => by
    have a := dtp_lay (h x List.mem_cons_self)
    have b := dtps_lay (xs := xs) fun q hq => h q (List.mem_cons_of_mem _ hq)
    simp only [List.map_cons, PyData.canLayAll0, a, b, Bool.and_self]
theorem dtps_depthA : ∀ xs : List α, PyData.depthAll (xs.map (dTp F)) ≤ 1
  | [] => by simp [PyData.depthAll]
  | x :: xs => by
    have b := dtps_depthA xs
    simp only [List.map_cons, PyData.depthAll]
    rw [dtp_depth]
    omega
theorem dtps_depth (xs : List α) : PyData.depth (dTps F xs) ≤ 2 := by
  have := dtps_depthA (F := F) xs
  show PyData.depthAll (xs.map (dTp F)) + 1 ≤ 2
  omega
theorem dtps_shaped {xs : List α} (h : GoodF F xs) : SeqAt.shaped (dTps F xs) = true := by
  show (PyData.canLayAll0 (xs.map (dTp F)) && decide (PyData.depth (dTps F xs) ≤ 64)) = true
  rw [dtps_lay h, decide_eq_true (Nat.le_trans (dtps_depth xs) (by decide))]
  rfl
theorem dkey_eqv : ∀ a b : Key, PyData.eqv (dKey a) (dKey b) = decide (a = b)
  | .inl i, .inl j => by
    show (i == j) = _
    by_cases e : i = j <;> simp [e]
  | .inl i, .inr y => by simp [dKey, PyData.eqv]
  | .inr x, .inl j => by simp [dKey, PyData.eqv]
  | .inr x, .inr y => by
    show (x == y) = _
    by_cases e : x = y <;> simp [e]
theorem dkeys_eqv : ∀ a b : List Key, PyData.eqvAll (a.map dKey) (b.map dKey) = decide (a = b)
  | [], [] => rfl
  | [], _ :: _ => by simp [PyData.eqvAll]
  | _ :: _, [] => by simp [PyData.eqvAll]
  | x :: a, y :: b => by
    rw [List.map_cons, List.map_cons, PyData.eqvAll, dkeys_eqv a b, dkey_eqv]
    simp
theorem dtp_eqv (inj : ∀ a b, F a = F b → a = b) [DecidableEq α] (x y : α) : PyData.eqv (dTp F x) (dTp F y) = decide (x = y) := by
  show PyData.eqvAll _ _ = _
  rw [dkeys_eqv]
  by_cases e : x = y
  · rw [e]
    simp
  · rw [decide_eq_false e, decide_eq_false (fun z => e (inj _ _ z))]
theorem dtps_eqvA (inj : ∀ a b, F a = F b → a = b) [DecidableEq α] : ∀ xs ys : List α, PyData.eqvAll (xs.map (dTp F)) (ys.map (dTp F)) = decide (xs = ys)
  | [], [] => rfl
  | [], _ :: _ => by simp [PyData.eqvAll]
  | _ :: _, [] => by simp [PyData.eqvAll]
  | x :: a, y :: b => by
    rw [List.map_cons, List.map_cons, PyData.eqvAll, dtps_eqvA inj a b, dtp_eqv inj]
    simp
theorem dtps_eqv (inj : ∀ a b, F a = F b → a = b) [DecidableEq α] (xs ys : List α) : PyData.eqv (dTps F xs) (dTps F ys) = decide (xs = ys) := by
  show PyData.eqvAll _ _ = _
  exact dtps_eqvA inj xs ys
end
/-- pairs of ints -/
def lkK (p : Int × Int) : List Key := [.inl p.1, .inl p.2]
theorem lkK_inj : ∀ a b : Int × Int, lkK a = lkK b → a = b := fun ⟨a1, a2⟩ ⟨b1, b2⟩ h => by
  simp only [lkK, List.cons.injEq, Sum.inl.injEq, and_true] at h
  rw [h.1, h.2]
theorem lkK_fits (p : Int × Int) : Fits (fun _ => false) 0 (lkK p) ∧ lkK p ≠ [] := ⟨⟨rfl, rfl, trivial⟩, by simp [lkK]⟩
theorem lkK_good (xs : List (Int × Int)) : GoodF lkK xs := fun x _ k hk => by
  rcases List.mem_cons.mp hk with e | e
  · rw [e]
    trivial
  · rw [List.mem_singleton.mp e]
    trivial
/-- edges: state, sign, height, state -/
abbrev Ed := Int × Nat × Int × Int
def edK (e : Ed) : List Key := [.inl e.1, .inr ⟨#[e.2.1]⟩, .inl e.2.2.1, .inl e.2.2.2]
theorem edK_inj : ∀ a b : Ed, edK a = edK b → a = b := fun ⟨a1, a2, a3, a4⟩ ⟨b1, b2, b3, b4⟩ h => by
  simp only [edK, List.cons.injEq, Sum.inl.injEq, Sum.inr.injEq, and_true] at h
  obtain ⟨h1, h2, h3, h4⟩ := h
  have z := congrArg (fun s : Str => s.cps.toList) h2
  have z2 : a2 = b2 := (List.cons.inj z).1
  rw [h1, z2, h3, h4]
theorem edK_fits (e : Ed) : Fits (fun i => i == 1) 0 (edK e) ∧ edK e ≠ [] := ⟨⟨rfl, rfl, rfl, rfl, trivial⟩, by simp [edK]⟩
theorem edK_good {xs : List Ed} (h : ∀ e ∈ xs, e.2.1 < 128) : GoodF edK xs := fun x hx k hk => by
  have q := h x hx
  simp only [edK, List.mem_cons, List.not_mem_nil, or_false] at hk
  rcases hk with e | e | e | e
  · rw [e]; trivial
  · rw [e]
    show PyData.strOk ⟨#[x.2.1]⟩ = true
    simp [PyData.strOk]
    omega
  · rw [e]; trivial
  · rw [e]; trivial
end Rz

namespace Rz
open PySem PySem.Spec PyProof.Rows L2
/-! ### ascending lists of ints, each once; there is one -/
def SrtI (ns xs : List Int) : Prop := xs.Pairwise (· < ·) ∧ ∀ k, k ∈ xs ↔ k ∈ ns
theorem pw_one {α : Type} {R : α → α → Prop} (as : ∀ a b, R a b → R b a → a = b) : ∀ {xs ys : List α}, xs.Pairwise R → ys.Pairwise R → xs.Nodup → ys.Nodup → (∀ a, a ∈ xs ↔ a ∈ ys) → xs = ys
  | [], [], _, _, _, _, _ => rfl
  | [], y :: b, _, _, _, _, h => absurd ((h y).mpr List.mem_cons_self) (by simp)
  | x :: a, [], _, _, _, _, h => absurd ((h x).mp List.mem_cons_self) (by simp)
  | x :: a, y :: b, ha, hb, na, nb, h => by
    obtain ⟨a1, a2⟩ := List.pairwise_cons.mp ha
    obtain ⟨b1, b2⟩ := List.pairwise_cons.mp hb
    obtain ⟨c1, c2⟩ := List.nodup_cons.mp na
    obtain ⟨d1, d2⟩ := List.nodup_cons.mp nb
    have e : x = y := by
      rcases List.mem_cons.mp ((h y).mpr List.mem_cons_self) with e | e
      · exact e.symm
      · rcases List.mem_cons.mp ((h x).mp List.mem_cons_self) with f | f
        · exact f
        · exact as _ _ (a1 y e) (b1 x f)
    subst e
    refine congrArg (x :: ·) (pw_one as a2 b2 c2 d2 fun z => ⟨fun hz => ?_, fun hz => ?_⟩)
    · rcases List.mem_cons.mp ((h z).mp (List.mem_cons_of_mem _ hz)) with f | f
      · exact absurd (f ▸ hz) c1
      · exact f
    · rcases List.mem_cons.mp ((h z).mpr (List.mem_cons_of_mem _ hz)) with f | f
      · exact absurd (f ▸ hz) d1
      · exact f
theorem lt_nodup {xs : List Int} (h : xs.Pairwise (· < ·)) : xs.Nodup := h.imp fun q => by omega
theorem srtI_one {ns xs ys : List Int} (a : SrtI ns xs) (b : SrtI ns ys) : xs = ys :=
  pw_one (fun x y p q => by omega) a.1 b.1 (lt_nodup a.1) (lt_nodup b.1) fun k => (a.2 k).trans (b.2 k).symm
theorem len_subG {α : Type} [DecidableEq α] : ∀ {xs ys : List α}, xs.Nodup → (∀ x ∈ xs, x ∈ ys) → xs.length ≤ ys.length
  | [], _, _, _ => Nat.zero_le _
  | x :: xs, ys, nd, h => by
    obtain ⟨n1, n2⟩ := List.nodup_cons.mp nd
    have hx := h x List.mem_cons_self
    have r := len_subG (xs := xs) (ys := ys.erase x) n2 fun y hy => (List.mem_erase_of_ne (fun e => n1 (by rw [← e]; exact hy))).mpr (h y (List.mem_cons_of_mem _ hy))
    rw [List.length_erase_of_mem hx] at r
    have := List.length_pos_of_mem hx
    rw [List.length_cons]
    omega
theorem srtI_len {ns xs : List Int} (s : SrtI ns xs) : xs.length ≤ ns.length := len_subG (lt_nodup s.1) fun x hx => (s.2 x).mp hx
theorem srtK_len {α : Type} [DecidableEq α] {F : α → List Key} {xs qs : List α} (s : SrtK F xs qs) : qs.length ≤ xs.length := len_subG s.2.1 fun x hx => (s.2.2 x).mp hx
end Rz

namespace Rz
open PySem PySem.Spec PyProof.Rows L2
/-! ### sets of states as numbers; what machines read -/
theorem bor_nat (a b : Nat) : Builtin.bitOr (a : Int) (b : Int) = ((a ||| b : Nat) : Int) := by
  have n : ∀ x : Nat, Builtin.bitNot (x : Int) = -(x : Int) - 1 := fun x => by
    unfold Builtin.bitNot
    omega
  have t : ∀ x : Nat, (Builtin.bitNot (-(x : Int) - 1)).toNat = x := fun x => by
    unfold Builtin.bitNot
    omega
  unfold Builtin.bitOr
  rw [n, n]
  unfold Builtin.bitAnd
  rw [decide_eq_false (show ¬ (0 ≤ -(a : Int) - 1) by omega), decide_eq_false (show ¬ (0 ≤ -(b : Int) - 1) by omega)]
  show Builtin.bitNot (Builtin.bitNot (((Builtin.bitNot (-(a : Int) - 1)).toNat ||| (Builtin.bitNot (-(b : Int) - 1)).toNat : Nat) : Int)) = _
  rw [t, t]
  unfold Builtin.bitNot
  omega
theorem band_nat (a b : Nat) : Builtin.bitAnd (a : Int) (b : Int) = ((a &&& b : Nat) : Int) := by
  unfold Builtin.bitAnd
  rw [decide_eq_true (show (0 : Int) ≤ a by omega), decide_eq_true (show (0 : Int) ≤ b by omega)]
  rfl
theorem bxor_nat (a b : Nat) : Builtin.bitXor (a : Int) (b : Int) = ((a ||| b : Nat) : Int) - ((a &&& b : Nat) : Int) := by
  unfold Builtin.bitXor
  rw [bor_nat, band_nat]
/-- the bit of a state -/
theorem bit_test (s t : Nat) : (2 ^ s).testBit t = decide (s = t) := Nat.testBit_two_pow ..
theorem and_bit {m s : Nat} : (m &&& 2 ^ s) ≠ 0 ↔ m.testBit s = true := by
  constructor
  · intro h
    apply Classical.byContradiction
    intro n
    refine h (Nat.eq_of_testBit_eq fun i => ?_)
    rw [Nat.testBit_and, bit_test, Nat.zero_testBit]
    by_cases e : s = i
    · subst e
      rw [Bool.eq_false_iff.mpr n, Bool.false_and]
    · rw [decide_eq_false e, Bool.and_false]
  · intro h z
    have q := congrArg (fun x : Nat => x.testBit s) z
    simp only [Nat.testBit_and, bit_test, h, Nat.zero_testBit] at q
    simp at q
/-- the closure: to where free moves lead -/
def IsClos (fr : List Lk) (cm : Int → Nat) : Prop := ∀ (s : Int), 0 ≤ s → ∀ t : Nat, (cm s).testBit t = true ↔ Reach fr [s] (t : Int)
/-- ways of one move or more whose inner states are in M -/
inductive Via (fr : List Lk) (M : List Int) : Int → Int → Prop
  | one {s t : Int} : t ∈ succs fr s ∨ s = t → Via fr M s t
  | two {s m t : Int} : m ∈ M → Via fr M s m → Via fr M m t → Via fr M s t
theorem Via.mono {fr : List Lk} {M N : List Int} (h : ∀ x ∈ M, x ∈ N) {s t : Int} (v : Via fr M s t) : Via fr N s t := by
  induction v with
  | one h => exact .one h
  | two m _ _ a b => exact .two (h _ m) a b
theorem via_snoc {fr : List Lk} {M : List Int} {m s t : Int} : Via fr (M ++ [m]) s t ↔ Via fr M s t ∨ (Via fr M s m ∧ Via fr M m t) := by
  constructor
  · intro v
    induction v with
    | one h => exact .inl (.one h)
    | @two a x b hx _ _ i1 i2 =>
      rcases List.mem_append.mp hx with q | q
      · rcases i1 with i1 | ⟨i1, i1'⟩
        · rcases i2 with i2 | ⟨i2, i2'⟩
          · exact .inl (.two q i1 i2)
          · exact .inr ⟨.two q i1 i2, i2'⟩
        · rcases i2 with i2 | ⟨_, i2'⟩
          · exact .inr ⟨i1, .two q i1' i2⟩
          · exact .inr ⟨i1, i2'⟩
      · rw [List.mem_singleton.mp q] at i1 i2
        have a1 : Via fr M a m := i1.elim id fun z => z.1
        have a2 : Via fr M m b := i2.elim id fun z => z.2
        exact .inr ⟨a1, a2⟩
  · rintro (v | ⟨v1, v2⟩)
    · exact v.mono fun x h => List.mem_append_left _ h
    · exact .two (List.mem_append_right _ (by simp)) (v1.mono fun x h => List.mem_append_left _ h) (v2.mono fun x h => List.mem_append_left _ h)
theorem reach_trans {fr : List Lk} {a b c : Int} (h : Reach fr [a] b) (g : Reach fr [b] c) : Reach fr [a] c := by
  induction g with
  | start q => rw [List.mem_singleton.mp q]; exact h
  | step _ q ih => exact .step ih q
theorem reach_one {fr : List Lk} {a b : Int} (h : b ∈ succs fr a) : Reach fr [a] b := .step (.start (by simp)) h
theorem via_reach {fr : List Lk} {M : List Int} {s t : Int} (v : Via fr M s t) : Reach fr [s] t := by
  induction v with
  | one h => exact h.elim reach_one fun e => .start (by simp [e])
  | two _ _ _ a b => exact reach_trans a b
theorem mem_succs {fr : List Lk} {x y : Int} : y ∈ succs fr x ↔ (x, y) ∈ fr := by
  unfold succs
  rw [List.mem_map]
  constructor
  · rintro ⟨p, hp, rfl⟩
    obtain ⟨h1, h2⟩ := List.mem_filter.mp hp
    rw [← of_decide_eq_true h2]
    exact h1
  · intro h
    exact ⟨(x, y), List.mem_filter.mpr ⟨h, by simp⟩, rfl⟩
theorem reach_via {fr : List Lk} {M : List Int} (hM : ∀ p ∈ fr, p.1 ∈ M) {s t : Int} (r : Reach fr [s] t) : Via fr M s t := by
  induction r with
  | start h => exact .one (.inr (List.mem_singleton.mp h).symm)
  | @step x y _ h ih =>
    exact .two (hM (x, y) (mem_succs.mp h)) ih (.one (.inl h))
theorem reach_congr {fr fr' : List Lk} (h : ∀ x y, x ≠ y → ((x, y) ∈ fr ↔ (x, y) ∈ fr')) {ss : List Int} {t : Int} : Reach fr ss t → Reach fr' ss t := fun r => by
  induction r with
  | start q => exact .start q
  | @step x y _ q ih =>
    by_cases e : x = y
    · rw [← e]
      exact ih
    · exact .step ih (mem_succs.mpr ((h x y e).mp (mem_succs.mp q)))
/-- the pairs of a sign and a height -/
def prsOf (es : List Ed) (cm : Int → Nat) (c : Nat) (h : Int) : List (Nat × Nat) := (es.filter fun e => decide (e.2.1 = c ∧ e.2.2.1 = h)).map fun e => (2 ^ e.1.toNat, cm e.2.2.2)
def prsT (es : List Ed) (cm : Int → Nat) (c : Nat) : List (Nat × Nat) := (es.filter fun e => decide (e.2.1 = c)).map fun e => (2 ^ e.1.toNat, cm e.2.2.2)
def afterP (m : Nat) (ps : List (Nat × Nat)) : Nat := ps.foldl (fun a p => if m &&& p.1 ≠ 0 then a ||| p.2 else a) 0
theorem after_fold (m t : Nat) : ∀ (ps : List (Nat × Nat)) (a : Nat), (ps.foldl (fun a p => if m &&& p.1 ≠ 0 then a ||| p.2 else a) a).testBit t = true ↔ a.testBit t = true ∨ ∃ p ∈ ps, m &&& p.1 ≠ 0 ∧ p.2.testBit t = true
  | [], a => by simp
  | p :: ps, a => by
    rw [List.foldl_cons, after_fold m t ps]
    by_cases h : m &&& p.1 ≠ 0
    · rw [if_pos h, Nat.testBit_or, Bool.or_eq_true]
      constructor
      · rintro ((q | q) | ⟨x, hx, q⟩)
        · exact .inl q
        · exact .inr ⟨p, List.mem_cons_self, h, q⟩
        · exact .inr ⟨x, List.mem_cons_of_mem _ hx, q⟩
      · rintro (q | ⟨x, hx, q⟩)
        · exact .inl (.inl q)
        · rcases List.mem_cons.mp hx with e | e
          · rw [e] at q
            exact .inl (.inr q.2)
          · exact .inr ⟨x, e, q⟩
    · rw [if_neg h]
      constructor
      · rintro (q | ⟨x, hx, q⟩)
        · exact .inl q
        · exact .inr ⟨x, List.mem_cons_of_mem _ hx, q⟩
      · rintro (q | ⟨x, hx, q⟩)
        · exact .inl q
        · rcases List.mem_cons.mp hx with e | e
          · rw [e] at q
            exact absurd q.1 h
          · exact .inr ⟨x, e, q⟩
theorem after_test {m t : Nat} {ps : List (Nat × Nat)} : (afterP m ps).testBit t = true ↔ ∃ p ∈ ps, m &&& p.1 ≠ 0 ∧ p.2.testBit t = true := by
  unfold afterP
  rw [after_fold, Nat.zero_testBit]
  simp
theorem after_mem {m : Nat} {ps qs : List (Nat × Nat)} (h : ∀ p, p ∈ ps ↔ p ∈ qs) : afterP m ps = afterP m qs := by
  refine Nat.eq_of_testBit_eq fun t => ?_
  rw [Bool.eq_iff_iff, after_test, after_test]
  exact ⟨fun ⟨p, hp, q⟩ => ⟨p, (h p).mp hp, q⟩, fun ⟨p, hp, q⟩ => ⟨p, (h p).mpr hp, q⟩⟩
/-- what is read from a set of states -/
def rowM (es : List Ed) (cm : Int → Nat) : Nat → List Pr → Nat
  | m, [] => m
  | m, p :: ps => rowM es cm (afterP m (prsOf es cm p.1 p.2)) ps
def textM (es : List Ed) (cm : Int → Nat) : Nat → List Nat → Nat
  | m, [] => m
  | m, c :: cs => textM es cm (afterP m (prsT es cm c)) cs
theorem rowM_snoc (es : List Ed) (cm : Int → Nat) (p : Pr) : ∀ (ps : List Pr) (m : Nat), rowM es cm m (ps ++ [p]) = afterP (rowM es cm m ps) (prsOf es cm p.1 p.2)
  | [], _ => rfl
  | _ :: ps, _ => rowM_snoc es cm p ps _
theorem textM_snoc (es : List Ed) (cm : Int → Nat) (c : Nat) : ∀ (cs : List Nat) (m : Nat), textM es cm m (cs ++ [c]) = afterP (textM es cm m cs) (prsT es cm c)
  | [], _ => rfl
  | _ :: cs, _ => textM_snoc es cm c cs _
/-- a set of states -/
abbrev Sts := Int → Prop
def stepS (es : List Ed) (fr : List Lk) (S : Sts) (c : Nat) (h : Int) : Sts := fun t => ∃ e ∈ es, S e.1 ∧ e.2.1 = c ∧ e.2.2.1 = h ∧ Reach fr [e.2.2.2] t
def stepT (es : List Ed) (fr : List Lk) (S : Sts) (c : Nat) : Sts := fun t => ∃ e ∈ es, S e.1 ∧ e.2.1 = c ∧ Reach fr [e.2.2.2] t
def rowS (es : List Ed) (fr : List Lk) : Sts → List Pr → Sts
  | S, [] => S
  | S, p :: ps => rowS es fr (stepS es fr S p.1 p.2) ps
def textS (es : List Ed) (fr : List Lk) : Sts → List Nat → Sts
  | S, [] => S
  | S, c :: cs => textS es fr (stepT es fr S c) cs
def Posn (es : List Ed) : Prop := ∀ e ∈ es, 0 ≤ e.1 ∧ 0 ≤ e.2.2.2
def IsSet (m : Nat) (S : Sts) : Prop := (∀ t : Nat, m.testBit t = true ↔ S (t : Int)) ∧ ∀ t : Int, S t → 0 ≤ t
theorem reach_pos {fr : List Lk} (h : ∀ p ∈ fr, 0 ≤ p.2) {s t : Int} (hs : 0 ≤ s) (r : Reach fr [s] t) : 0 ≤ t := by
  induction r with
  | start q => rw [List.mem_singleton.mp q]; exact hs
  | @step x y _ q _ => exact h (x, y) (mem_succs.mp q)
theorem step_set {es : List Ed} {fr : List Lk} {cm : Int → Nat} (C : IsClos fr cm) (P : Posn es) (hf : ∀ p ∈ fr, 0 ≤ p.2) {m : Nat} {S : Sts} (h : IsSet m S) (c : Nat) (g : Int) : IsSet (afterP m (prsOf es cm c g)) (stepS es fr S c g) := by
  refine ⟨fun t => ?_, fun t ⟨e, he, _, _, _, r⟩ => reach_pos hf (P e he).2 r⟩
  rw [after_test]
  unfold prsOf stepS
  constructor
  · rintro ⟨p, hp, h1, h2⟩
    obtain ⟨e, he, rfl⟩ := List.mem_map.mp hp
    obtain ⟨he1, he2⟩ := List.mem_filter.mp he
    obtain ⟨e1, e2⟩ := of_decide_eq_true he2
    obtain ⟨p1, p2⟩ := P e he1
    have b := (h.1 e.1.toNat).mp (and_bit.mp h1)
    rw [Int.toNat_of_nonneg p1] at b
    exact ⟨e, he1, b, e1, e2, (C _ p2 t).mp h2⟩
  · rintro ⟨e, he, b, e1, e2, r⟩
    obtain ⟨p1, p2⟩ := P e he
    refine ⟨_, List.mem_map.mpr ⟨e, List.mem_filter.mpr ⟨he, decide_eq_true ⟨e1, e2⟩⟩, rfl⟩, and_bit.mpr ((h.1 _).mpr ?_), (C _ p2 t).mpr r⟩
    rw [Int.toNat_of_nonneg p1]
    exact b
theorem stepT_set {es : List Ed} {fr : List Lk} {cm : Int → Nat} (C : IsClos fr cm) (P : Posn es) (hf : ∀ p ∈ fr, 0 ≤ p.2) {m : Nat} {S : Sts} (h : IsSet m S) (c : Nat) : IsSet (afterP m (prsT es cm c)) (stepT es fr S c) := by
  refine ⟨fun t => ?_, fun t ⟨e, he, _, _, r⟩ => reach_pos hf (P e he).2 r⟩
  rw [after_test]
  unfold prsT stepT
  constructor
  · rintro ⟨p, hp, h1, h2⟩
    obtain ⟨e, he, rfl⟩ := List.mem_map.mp hp
    obtain ⟨he1, he2⟩ := List.mem_filter.mp he
    obtain ⟨p1, p2⟩ := P e he1
    have b := (h.1 e.1.toNat).mp (and_bit.mp h1)
    rw [Int.toNat_of_nonneg p1] at b
    exact ⟨e, he1, b, of_decide_eq_true he2, (C _ p2 t).mp h2⟩
  · rintro ⟨e, he, b, e1, r⟩
    obtain ⟨p1, p2⟩ := P e he
    refine ⟨_, List.mem_map.mpr ⟨e, List.mem_filter.mpr ⟨he, decide_eq_true e1⟩, rfl⟩, and_bit.mpr ((h.1 _).mpr ?_), (C _ p2 t).mpr r⟩
    rw [Int.toNat_of_nonneg p1]
    exact b
theorem row_set {es : List Ed} {fr : List Lk} {cm : Int → Nat} (C : IsClos fr cm) (P : Posn es) (hf : ∀ p ∈ fr, 0 ≤ p.2) : ∀ {ps : List Pr} {m : Nat} {S : Sts}, IsSet m S → IsSet (rowM es cm m ps) (rowS es fr S ps)
  | [], _, _, h => h
  | p :: ps, _, _, h => row_set C P hf (ps := ps) (step_set C P hf h p.1 p.2)
theorem text_set {es : List Ed} {fr : List Lk} {cm : Int → Nat} (C : IsClos fr cm) (P : Posn es) (hf : ∀ p ∈ fr, 0 ≤ p.2) : ∀ {cs : List Nat} {m : Nat} {S : Sts}, IsSet m S → IsSet (textM es cm m cs) (textS es fr S cs)
  | [], _, _, h => h
  | c :: cs, _, _, h => text_set C P hf (cs := cs) (stepT_set C P hf h c)
theorem clos_set {fr : List Lk} {cm : Int → Nat} (C : IsClos fr cm) (hf : ∀ p ∈ fr, 0 ≤ p.2) {s : Int} (hs : 0 ≤ s) : IsSet (cm s) (fun t => Reach fr [s] t) := ⟨C s hs, fun _ r => reach_pos hf hs r⟩
end Rz

namespace Rz
open PySem PySem.Spec PyProof.Rows L2
/-! ### the closures of the free moves -/
theorem mem_putK {kvs : List (Key × V)} {k : Key} {v : V} {x : Key × V} (h : x ∈ putK kvs k v) : x.1 = k ∨ ∃ y ∈ kvs, y.1 = x.1 := by
  unfold putK at h
  split at h
  · obtain ⟨y, hy, rfl⟩ := List.mem_map.mp h
    by_cases e : y.1 = k
    · rw [if_pos e]
      exact .inl e
    · rw [if_neg e]
      exact .inr ⟨y, hy, rfl⟩
  · rcases List.mem_append.mp h with q | q
    · exact .inr ⟨x, q, rfl⟩
    · rw [List.mem_singleton.mp q]
      exact .inl rfl
theorem mem_valV {kvs : List (Key × V)} {k : Key} {v : V} (h : valV kvs k = some v) : (k, v) ∈ kvs := by
  unfold valV at h
  obtain ⟨x, hx, e⟩ := Option.map_eq_some_iff.mp h
  have h1 := List.mem_of_find?_eq_some hx
  have h2 : x.1 = k := by
    have q := List.find?_some hx
    simpa using q
  rw [← h2, ← e]
  exact h1
theorem valV_mem {kvs : List (Key × V)} {x : Key × V} (h : x ∈ kvs) : ∃ v, valV kvs x.1 = some v := by
  cases e : valV kvs x.1 with
  | some v => exact ⟨v, rfl⟩
  | none =>
    unfold valV at e
    rw [Option.map_eq_none_iff, List.find?_eq_none] at e
    exact absurd (decide_eq_true rfl) (e x h)
/-- numbers by states ks, in the dict at D -/
def ClAt (H : Hp) (D : Addr) (ks : List Int) (g : Int → Nat) (N : Nat) : Prop := ∃ kvs : List (Key × V), H D = some (.dK kvs) ∧ kvs.length ≤ N ∧ (∀ x ∈ kvs, ∃ s : Int, x.1 = .inl s) ∧ ∀ s : Int, valV kvs (.inl s) = if s ∈ ks then some (.int ((g s : Nat) : Int)) else none
theorem ClAt.same {H H' : Hp} {D : Addr} {ks : List Int} {g : Int → Nat} {N : Nat} (h : ClAt H D ks g N) (S : Same H H') : ClAt H' D ks g N := let ⟨kvs, e, r⟩ := h; ⟨kvs, S _ _ e, r⟩
theorem ClAt.dget {H : Hp} {D : Addr} {ks : List Int} {g : Int → Nat} {N : Nat} (h : ClAt H D ks g N) (s : Int) : DGet H D (.int s) (if s ∈ ks then some (.int ((g s : Nat) : Int)) else none) := by
  obtain ⟨kvs, e, _, _, hv⟩ := h
  rw [← hv]
  exact DGet.k (k := .inl s) e
theorem ClAt.get1 {H : Hp} {D : Addr} {ks : List Int} {g : Int → Nat} {N : Nat} (h : ClAt H D ks g N) {s : Int} (hs : s ∈ ks) : DGet H D (.int s) (some (.int ((g s : Nat) : Int))) := by
  have q := h.dget s
  rwa [if_pos hs] at q
theorem ClAt.isD {H : Hp} {D : Addr} {ks : List Int} {g : Int → Nat} {N : Nat} (h : ClAt H D ks g N) : IsD H D := let ⟨kvs, e, _⟩ := h; .inl ⟨kvs, .inl e⟩
theorem ClAt.put {H : Hp} {D : Addr} {ks : List Int} {g : Int → Nat} {N : Nat} (h : ClAt H D ks g N) (hN : N ≤ 100000) {s : Int} (hs : s ∈ ks) (v : Nat) : ∃ H' o, DPut H D (.int s) (.int ((v : Nat) : Int)) H' ∧ ClAt H' D ks (fun x => if x = s then v else g x) N ∧ H' = upd H D o := by
  obtain ⟨kvs, e, l, hk, hv⟩ := h
  have any : (kvs.any fun kv => decide (kv.1 = (Sum.inl s : Key))) = true := by
    rw [valV_any, hv, if_pos hs]
    rfl
  refine ⟨_, _, DPut.k (k := .inl s) e (by rw [sizeLine_eq]; omega), ⟨_, upd_same, ?_, fun x hx => ?_, fun x => ?_⟩, rfl⟩
  · unfold putK
    rw [if_pos any, List.length_map]
    exact l
  · rcases mem_putK hx with q | ⟨y, hy, q⟩
    · exact ⟨s, q⟩
    · rw [← q]
      exact hk y hy
  · rw [valV_put, hv]
    by_cases q : x = s
    · subst q
      rw [if_pos rfl, if_pos hs]
      show some (V.int ((v : Nat) : Int)) = some (V.int (((if x = x then v else g x : Nat)) : Int))
      rw [if_pos rfl]
    · rw [if_neg (fun z => q (by injection z))]
      show _ = if x ∈ ks then some (V.int (((if x = s then v else g x : Nat)) : Int)) else none
      rw [if_neg q]
theorem ClAt.congr {H : Hp} {D : Addr} {ks : List Int} {g g' : Int → Nat} {N : Nat} (h : ClAt H D ks g N) (q : ∀ s ∈ ks, g s = g' s) : ClAt H D ks g' N := by
  obtain ⟨kvs, e, l, hk, hv⟩ := h
  refine ⟨kvs, e, l, hk, fun s => ?_⟩
  rw [hv]
  by_cases m : s ∈ ks
  · rw [if_pos m, if_pos m, q s m]
  · rw [if_neg m, if_neg m]
/-- one turn for a state in the middle -/
def midF (gm m x : Nat) : Nat := if x.testBit m = true then x ||| gm else x
theorem mid_mid {gm m x : Nat} (hm : gm.testBit m = true) : midF gm m (midF gm m x) = midF gm m x := by
  unfold midF
  by_cases h : x.testBit m = true
  · rw [if_pos h, if_pos (by rw [Nat.testBit_or, h, Bool.true_or]), Nat.or_assoc, Nat.or_self]
  · rw [if_neg h, if_neg h]
theorem mid_self {gm m : Nat} : midF gm m gm = gm := by
  unfold midF
  split
  · exact Nat.or_self _
  · rfl
theorem shr_bit (x m : Nat) : (Builtin.bitAnd ((x : Int) / 2 ^ ((m : Nat) : Int).toNat) 1 != 0) = x.testBit m := by
  rw [bitAnd_m1, Int.toNat_natCast, Nat.testBit_eq_decide_div_mod_eq]
  have e : ((x : Int) / 2 ^ m) % 2 = ((x / 2 ^ m % 2 : Nat) : Int) := by
    rw [Int.natCast_emod, Int.natCast_ediv, Int.natCast_pow]
    rfl
  rw [e]
  generalize x / 2 ^ m = y
  by_cases h : y % 2 = 1
  · rw [h]
    rfl
  · have h0 : y % 2 = 0 := by omega
    rw [h0]
    rfl
theorem pow_cast (k : Nat) : (2 : Int) ^ k = ((2 ^ k : Nat) : Int) := by rw [Int.natCast_pow]; rfl
def sp_closures_of : Sp := fun vs H Q _ => ∃ (l : Addr) (fr : List Lk), vs = [.ref l] ∧ TpAt lkK H l fr ∧ (∀ p ∈ fr, (0 ≤ p.1 ∧ p.1 < 100000) ∧ 0 ≤ p.2 ∧ p.2 < 100000) ∧ fr.length ≤ 10000 ∧
  ∀ H' D cm, Same H H' → H D = none → IsClos fr cm → (∀ s : Int, 0 ≤ s → s ∉ fr.map (·.1) → cm s = 2 ^ s.toNat) → ClAt H' D (fr.map (·.1)) cm 10000 → Q (.ref D) H'
section
variable {w : World} {K : PySem.W.Frag} {mg : Str → Option Value} {base : Heap}
theorem sc_closures_of : FnScope N__closures_of P__closures_of (defScope s__closures_of) := ⟨rfl, rfl, rfl, by decide +kernel, rfl, by decide +kernel, by decide +kernel⟩
theorem ok_closures_of (T : Txt K mg) : FnOk prg w K mg base (L2.CX prg w) 2 T.f__closures_of T.fd__closures_of P__closures_of sp_closures_of := by
  refine Rz.Fun.okN T.F__closures_of sc_closures_of (fun vs H Q E h => ?_) (fun cdv A outer s H vs Q E hr h => ?_)
  · obtain ⟨l, fr, rfl, _⟩ := h
    rfl
  obtain ⟨l, fr, rfl, ⟨ts, el, hP⟩, hf, zf, k⟩ := h
  have nd := sc_closures_of.nd
  have hu : (A.deeper (envOfC "_closures_of" (defScope s__closures_of) s.heap.objs.size T.f__closures_of cdv)).units + 1 < cLine := by
    have := hr.un
    omega
  refine ⟨_, (pss_cons (ps_setDc (i := 3) (own := [("state", 1), ("_", 2)]) (g := gTup K 2 (gCons (gName 1) (gCons (gName 2) gNil))) (tt := tYes) rfl nd rfl rfl (dsw_true rfl rfl rfl (by decide +kernel)) (pi_list (pv 0)) (blkOk_by (N := N__closures_of) (sc := defScope s__closures_of) (by decide +kernel)) (fun _ _ _ _ _ => (pg_tup rfl (pgs_cons (pg_name (i := 1) nd rfl (Or.inl rfl)) (pgs_cons (pg_name (i := 2) nd rfl (Or.inl rfl)) pgs_nil)))) (fun _ _ _ _ _ => pts_nil) (fun _ _ _ _ _ => pv 1) (fun _ _ _ _ _ => pe_op op_oneShl pe_int (pv 1)))
    (pss_cons (ps_for PassesOwn.never rfl (pi_list (pv 0)) (pg_tup rfl (pgs_cons (pg_name (i := 1) nd rfl (Or.inl rfl)) (pgs_cons (pg_name (i := 4) nd rfl (Or.inl rfl)) pgs_nil)))
      (pss_one (ps_dput hu (pv 3) (pv 1) (pe_op op_or (pe_dget hu (pv 3) (pv 1) (fun _ _ => rfl)) (pe_op op_oneShl pe_int (pv 4))) rfl)))
    (pss_cons (ps_set (i := 5) nd rfl (Or.inl rfl) (pe_callTy (call_listD (by rfl)) (by rfl) T.n_list (by decide +kernel) (pa_cons (pv 3) pa_nil)))
    (pss_cons (ps_for PassesOwn.never rfl (pi_list (pv 5)) (pg_name (i := 6) nd rfl (Or.inl rfl))
      (pss_one (ps_for PassesOwn.never rfl (pi_list (pv 5)) (pg_name (i := 1) nd rfl (Or.inl rfl))
        (pss_one (ps_if (pt_truth (pe_op op_and (pe_op op_shr (pe_dget hu (pv 3) (pv 1) (fun _ _ => rfl)) (pv 6)) pe_int) (by intro _; rfl)) (pss_one (ps_dput hu (pv 3) (pv 1) (pe_op op_or (pe_dget hu (pv 3) (pv 1) (fun _ _ => rfl)) (pe_dget hu (pv 3) (pv 6) (fun _ _ => rfl))) rfl)) pss_nil)))))
    (pss_one (ps_ret (pv 3))))))), ?_⟩
  have lP := hP.len
  refine ⟨_, rfl, l, rfl, ⟨_, SqL.of el⟩, fun D hD => dc_list (K := K) (a := l) (xs := ts.map V.ref) (fun i H' => Same H H' ∧ ClAt H' D ((fr.take i).map (·.1)) (fun s => 2 ^ s.toNat) i)
    ⟨Rz.Same.new (Same.refl H) hD, [], upd_same, Nat.le_refl _, fun x hx => (by cases hx), fun s => by rw [List.take_zero, if_neg (by simp)]; rfl⟩ (fun i H' _ h => SqL.of (h.1 _ _ el)) ?_ ?_⟩
  · rintro i y H' hi ⟨S, kvs, e, zk, hk, hv⟩
    obtain ⟨t, ht, rfl⟩ := refs_get hi
    obtain ⟨⟨p, q⟩, hp, et⟩ := hP.get ht
    have et : H t = some (.tup [.int p, .int q]) := et
    have bp := hf _ (List.mem_of_getElem? hp)
    have ip : i < fr.length := (List.getElem?_eq_some_iff.mp hp).1
    obtain ⟨n, rfl⟩ := Int.eq_ofNat_of_zero_le bp.1.1
    have bn : (n : Int) < 100000 := bp.1.2
    refine ⟨t, _, rfl, SqT.of (S _ _ et), rfl, _, _, rfl, _, _, rfl, rfl, rfl, yesT ⟨_, rfl, _, rfl, n, rfl, rfl, by omega, kvs, .inl (n : Nat), rfl, e, by rw [sizeLine_eq]; omega, Rz.Same.upd S hD, _, upd_same, Nat.le_trans (length_putK _ _ _) (Nat.succ_le_succ zk), fun x hx => ?_, fun x => ?_⟩⟩
    · rcases mem_putK hx with q | ⟨y, hy, q⟩
      · exact ⟨_, q⟩
      · rw [← q]
        exact hk y hy
    · rw [valV_put, hv, List.take_add_one, hp, pow_cast, List.map_append]
      by_cases q : x = (n : Int)
      · subst q
        rw [if_pos rfl, if_pos (by simp)]
        rfl
      · rw [if_neg (fun z => q (by injection z))]
        by_cases m : x ∈ (fr.take i).map (·.1)
        · rw [if_pos m, if_pos (List.mem_append_left _ m)]
        · rw [if_neg m, if_neg (fun z => (List.mem_append.mp z).elim m fun z => q (by simpa using z))]
  rintro H1 ⟨S1, Z1⟩
  rw [List.length_map, lP, List.take_length] at Z1
  obtain ⟨kvs1, e1, zk1, hk1, hv1⟩ := Z1
  have zk1 : kvs1.length ≤ 10000 := by
    have : (ts.map V.ref).length = fr.length := by rw [List.length_map, lP]
    omega
  have Z1 : ClAt H1 D (fr.map (·.1)) (fun s => 2 ^ s.toNat) 10000 := ⟨kvs1, e1, zk1, hk1, hv1⟩
  clear e1 zk1 hk1 hv1
  generalize hks : fr.map (·.1) = ks at Z1 k
  have inK : ∀ {p : Lk}, p ∈ fr → p.1 ∈ ks := fun {p} h => by rw [← hks]; exact List.mem_map.mpr ⟨p, h, rfl⟩
  have posK : ∀ s ∈ ks, 0 ≤ s ∧ s < 100000 := fun s hs => by
    rw [← hks] at hs
    obtain ⟨p, hp, rfl⟩ := List.mem_map.mp hs
    exact (hf p hp).1
  refine ⟨_, rfl, l, rfl, ⟨_, SqL.of (S1 _ _ el)⟩, for_list (K := K) (a := l) (xs := ts.map V.ref) (fun i σ H' => ∃ (v1 v4 : Option V) (g : Int → Nat), σ = [some (.ref l), v1, none, some (.ref D), v4, none, none] ∧ Same H H' ∧ ClAt H' D ks g 10000 ∧ ∀ s ∈ ks, ∀ t : Nat, (g s).testBit t = true ↔ s = t ∨ (s, (t : Int)) ∈ fr.take i)
    ⟨none, none, _, rfl, S1, Z1, fun s hs t => ?_⟩ (fun i σ H' _ ⟨_, _, _, _, S, _⟩ => SqL.of (S _ _ el)) ?_ ?_⟩
  · obtain ⟨n, rfl⟩ := Int.eq_ofNat_of_zero_le (posK s hs).1
    show (2 ^ ((n : Nat) : Int).toNat).testBit t = true ↔ _
    rw [Int.toNat_natCast, bit_test, decide_eq_true_eq, List.take_zero]
    constructor
    · intro e
      exact .inl (by rw [e])
    · rintro (e | e)
      · omega
      · cases e
  · rintro i y σ H' hi ⟨v1, v4, g, rfl, S, Z, hg⟩
    obtain ⟨t, ht, rfl⟩ := refs_get hi
    obtain ⟨⟨p, q⟩, hp, et⟩ := hP.get ht
    have et : H t = some (.tup [.int p, .int q]) := et
    have pin := inK (List.mem_of_getElem? hp)
    have pin : p ∈ ks := pin
    have bp := hf _ (List.mem_of_getElem? hp)
    obtain ⟨n, rfl⟩ := Int.eq_ofNat_of_zero_le bp.2.1
    have bn : (n : Int) < 100000 := bp.2.2
    obtain ⟨H2, o2, hp2, Z2, e2⟩ := Z.put (by decide) pin (g p ||| 2 ^ n)
    subst e2
    refine ⟨t, _, rfl, SqT.of (S _ _ et), rfl, _, _, rfl, _, _, rfl, rfl, ?_⟩
    refine ⟨_, rfl, _, rfl, D, _, rfl, Z.get1 pin, _, rfl, n, rfl, rfl, by omega, ?_⟩
    rw [pow_cast]
    refine ⟨_, _, rfl, rfl, ?_⟩
    have hp2 : DPut H' D (.int p) (.int (Builtin.bitOr ((g p : Nat) : Int) ((2 ^ n : Nat) : Int))) (upd H' D o2) := by rw [bor_nat]; exact hp2
    refine ⟨_, rfl, _, rfl, D, _, rfl, hp2, _, _, _, rfl, Rz.Same.upd S hD, Z2, fun s hs u => ?_⟩
    rw [List.take_add_one, hp]
    by_cases e : s = p
    · subst e
      show ((if s = s then g s ||| 2 ^ n else g s).testBit u = true) ↔ _
      rw [if_pos rfl, Nat.testBit_or, Bool.or_eq_true, hg s hs u, bit_test, decide_eq_true_eq, List.mem_append]
      show (s = (u : Int) ∨ (s, (u : Int)) ∈ fr.take i) ∨ n = u ↔ s = (u : Int) ∨ (s, (u : Int)) ∈ fr.take i ∨ (s, (u : Int)) ∈ [(s, (n : Int))]
      have w : (s, (u : Int)) ∈ [(s, (n : Int))] ↔ n = u := by
        rw [List.mem_singleton, Prod.mk.injEq]
        omega
      rw [w]
      exact or_assoc
    · show ((if s = p then g p ||| 2 ^ n else g s).testBit u = true) ↔ _
      rw [if_neg e, hg s hs u, List.mem_append]
      have w : ¬ (s, (u : Int)) ∈ [(p, (n : Int))] := fun z => e (by
        rw [List.mem_singleton, Prod.mk.injEq] at z
        exact z.1)
      exact ⟨fun z => z.elim .inl fun z => .inr (.inl z), fun z => z.elim .inl fun z => z.elim .inr fun z => absurd z w⟩
  rintro σ H2 ⟨v1, v4, g, rfl, S2, Z2, hg⟩
  rw [List.length_map, lP, List.take_length] at hg
  obtain ⟨kvs, eD, zk, hk, hv⟩ := id Z2
  refine ⟨_, rfl, D, kvs, rfl, .inl eD, fun L hL => ?_⟩
  obtain ⟨sts, est, mst⟩ : ∃ sts : List Int, (kvs.map fun kv => kV kv.1) = sts.map V.int ∧ ∀ x, x ∈ sts ↔ x ∈ ks := by
    have go : ∀ zs : List (Key × V), (∀ x ∈ zs, ∃ s : Int, x.1 = .inl s) → ∃ sts : List Int, (zs.map fun kv => kV kv.1) = sts.map V.int ∧ ∀ s, s ∈ sts ↔ ∃ x ∈ zs, x.1 = .inl s := by
      intro zs
      induction zs with
      | nil => exact fun _ => ⟨[], rfl, fun s => ⟨fun z => (by cases z), fun ⟨x, hx, _⟩ => (by cases hx)⟩⟩
      | cons x zs ih =>
        intro h
        obtain ⟨s, hs⟩ := h x List.mem_cons_self
        obtain ⟨sts, a, b⟩ := ih fun y hy => h y (List.mem_cons_of_mem _ hy)
        refine ⟨s :: sts, by rw [List.map_cons, List.map_cons, a, hs]; rfl, fun u => ?_⟩
        rw [List.mem_cons, b]
        constructor
        · rintro (e | ⟨y, hy, e⟩)
          · exact ⟨x, List.mem_cons_self, by rw [hs, e]⟩
          · exact ⟨y, List.mem_cons_of_mem _ hy, e⟩
        · rintro ⟨y, hy, e⟩
          rcases List.mem_cons.mp hy with z | z
          · rw [z, hs] at e
            injection e with e
            exact .inl e.symm
          · exact .inr ⟨y, z, e⟩
    obtain ⟨sts, a, b⟩ := go kvs hk
    refine ⟨sts, a, fun s => (b s).trans ⟨fun ⟨x, hx, e⟩ => ?_, fun hs => ?_⟩⟩
    · obtain ⟨v, hv2⟩ := valV_mem hx
      rw [e, hv] at hv2
      by_cases m : s ∈ ks
      · exact m
      · rw [if_neg m] at hv2
        cases hv2
    · exact ⟨_, mem_valV (by rw [hv, if_pos hs]), rfl⟩
  rw [est]
  have S3 := Rz.Same.new (o := .lst (sts.map V.int)) (Same.refl H2) hL
  have eL : upd H2 L (.lst (sts.map V.int)) L = some (.lst (sts.map V.int)) := upd_same
  have Z3 := Z2.same S3
  have nLD : L ≠ D := fun z => by rw [z, eD] at hL; cases hL
  have S03 := S2.trans S3
  have hL0 : H L = none := S2.free hL
  generalize upd H2 L (.lst (sts.map V.int)) = H3 at S3 eL Z3 S03
  clear S3 Z2 eD hv hk est
  have base : ∀ s ∈ ks, ∀ t : Nat, (g s).testBit t = true ↔ Via fr [] s t := fun s hs t => by
    rw [hg s hs t]
    constructor
    · rintro (e | e)
      · exact .one (.inr e)
      · exact .one (.inl (mem_succs.mpr e))
    · intro v
      cases v with
      | one h => exact h.elim (fun q => .inr (mem_succs.mp q)) .inl
      | two h _ _ => cases h
  refine ⟨_, rfl, L, rfl, ⟨_, SqL.of eL⟩, for_list (K := K) (a := L) (xs := sts.map V.int) (fun i σ H' => ∃ (v1 v6 : Option V) (g : Int → Nat), σ = [some (.ref l), v1, none, some (.ref D), v4, some (.ref L), v6] ∧ (Same H H' ∧ H' L = some (.lst (sts.map V.int))) ∧ ClAt H' D ks g 10000 ∧ ∀ s ∈ ks, ∀ t : Nat, (g s).testBit t = true ↔ Via fr (sts.take i) s t)
    ⟨v1, none, g, rfl, ⟨S03, eL⟩, Z3, base⟩ (fun i σ H' _ ⟨_, _, _, _, S, _⟩ => SqL.of S.2) ?_ ?_⟩
  · rintro i y σ H4 hi ⟨v1, v6, g0, rfl, S4, Z4, h0⟩
    obtain ⟨m, hm, rfl⟩ := mapi_get hi
    have mk := (mst m).mp (List.mem_of_getElem? hm)
    obtain ⟨n, rfl⟩ := Int.eq_ofNat_of_zero_le (posK m mk).1
    have selfb : (g0 (n : Int)).testBit n = true := (h0 _ mk n).mpr (.one (.inr rfl))
    refine ⟨_, rfl, L, rfl, ⟨_, SqL.of S4.2⟩, for_list (K := K) (a := L) (xs := sts.map V.int) (fun j σ H' => ∃ (v1 : Option V), σ = [some (.ref l), v1, none, some (.ref D), v4, some (.ref L), some (.int (n : Nat))] ∧ (Same H H' ∧ H' L = some (.lst (sts.map V.int))) ∧ ClAt H' D ks (fun s => if s ∈ sts.take j then midF (g0 (n : Int)) n (g0 s) else g0 s) 10000)
      ⟨v1, rfl, S4, Z4.congr fun s _ => by rw [List.take_zero, if_neg (by simp)]⟩ (fun i σ H' _ ⟨_, _, S, _⟩ => SqL.of S.2) ?_ ?_⟩
    · rintro j y σ H5 hj ⟨v1, rfl, S5, Z5⟩
      obtain ⟨a, ha, rfl⟩ := mapi_get hj
      have ak := (mst a).mp (List.mem_of_getElem? ha)
      have gm : (if (n : Int) ∈ sts.take j then midF (g0 (n : Int)) n (g0 (n : Int)) else g0 (n : Int)) = g0 (n : Int) := by
        rw [mid_self]
        split <;> rfl
      have tk : sts.take (j + 1) = sts.take j ++ [a] := by rw [List.take_add_one, ha]; rfl
      generalize hx : (if a ∈ sts.take j then midF (g0 (n : Int)) n (g0 a) else g0 a) = x
      have fx : midF (g0 (n : Int)) n x = midF (g0 (n : Int)) n (g0 a) := by
        rw [← hx]
        split
        · exact mid_mid selfb
        · rfl
      have gx := Z5.get1 ak
      have gx : DGet H5 D (.int a) (some (.int ((x : Nat) : Int))) := by rw [← hx]; exact gx
      have gn := Z5.get1 mk
      have gn : DGet H5 D (.int (n : Nat)) (some (.int ((g0 (n : Int) : Nat) : Int))) := by rw [← gm]; exact gn
      refine ⟨_, rfl, _, rfl, D, _, rfl, gx, _, rfl, _, _, rfl, rfl, by omega, _, _, rfl, rfl, x.testBit n, (shr_bit x n).symm, ?_⟩
      by_cases hb : x.testBit n = true
      · rw [hb]
        have fx2 : midF (g0 (n : Int)) n (g0 a) = x ||| g0 (n : Int) := by
          rw [← fx]
          unfold midF
          rw [if_pos hb]
        obtain ⟨H6, o6, hp6, Z6, e6⟩ := Z5.put (by decide) ak (x ||| g0 (n : Int))
        subst e6
        have hp6 : DPut H5 D (.int a) (.int (Builtin.bitOr ((x : Nat) : Int) ((g0 (n : Int) : Nat) : Int))) (upd H5 D o6) := by rw [bor_nat]; exact hp6
        refine iteT ⟨_, rfl, _, rfl, D, _, rfl, gx, _, rfl, _, rfl, D, _, rfl, gn, _, _, rfl, rfl, ?_⟩
        refine ⟨_, rfl, _, rfl, D, _, rfl, hp6, _, rfl, ⟨Rz.Same.upd S5.1 hD, by rw [upd_ne nLD]; exact S5.2⟩, Z6.congr fun s hs => ?_⟩
        by_cases e : s = a
        · subst e
          show (if s = s then x ||| g0 (n : Int) else _) = _
          rw [if_pos rfl, if_pos (by rw [tk]; simp), fx2]
        · show (if s = a then x ||| g0 (n : Int) else if s ∈ sts.take j then midF (g0 (n : Int)) n (g0 s) else g0 s) = _
          rw [if_neg e, tk]
          by_cases m : s ∈ sts.take j
          · rw [if_pos m, if_pos (List.mem_append_left _ m)]
          · rw [if_neg m, if_neg (fun z => (List.mem_append.mp z).elim m fun z => e (by simpa using z))]
      · have hb2 : x.testBit n = false := by simpa using hb
        rw [hb2]
        have fx2 : midF (g0 (n : Int)) n (g0 a) = x := by
          rw [← fx]
          unfold midF
          rw [if_neg hb]
        refine iteF ⟨_, rfl, S5, Z5.congr fun s hs => ?_⟩
        rw [tk]
        by_cases m : s ∈ sts.take j
        · rw [if_pos m, if_pos (List.mem_append_left _ m)]
        · rw [if_neg m]
          by_cases e : s = a
          · subst e
            rw [if_pos (by simp), fx2, ← hx, if_neg m]
          · rw [if_neg (fun z => (List.mem_append.mp z).elim m fun z => e (by simpa using z))]
    · rintro σ H5 ⟨v1, rfl, S5, Z5⟩
      rw [List.length_map, List.take_length] at Z5
      refine ⟨_, _, fun s => midF (g0 (n : Int)) n (g0 s), rfl, S5, Z5.congr fun s hs => by rw [if_pos ((mst s).mpr hs)], fun s hs t => ?_⟩
      rw [List.take_add_one, hm]
      show (midF (g0 (n : Int)) n (g0 s)).testBit t = true ↔ Via fr (sts.take i ++ [(n : Int)]) s t
      rw [via_snoc]
      unfold midF
      by_cases hb : (g0 s).testBit n = true
      · rw [if_pos hb, Nat.testBit_or, Bool.or_eq_true, h0 s hs t, h0 _ mk t]
        have vs := (h0 s hs n).mp hb
        exact ⟨fun z => z.elim .inl fun z => .inr ⟨vs, z⟩, fun z => z.elim .inl fun z => .inr z.2⟩
      · rw [if_neg hb, h0 s hs t]
        exact ⟨.inl, fun z => z.elim id fun z => absurd ((h0 s hs n).mpr z.1) hb⟩
  · rintro σ H4 ⟨v1, v6, g1, rfl, S4, Z4, h1⟩
    rw [List.length_map, List.take_length] at h1
    refine ⟨_, rfl, k H4 D (fun s => if s ∈ ks then g1 s else 2 ^ s.toNat) S4.1 hD (fun s hs t => ?_) (fun s _ n => if_neg n) (Z4.congr fun s hs => (if_pos hs).symm)⟩
    show (if s ∈ ks then g1 s else 2 ^ s.toNat).testBit t = true ↔ _
    by_cases m : s ∈ ks
    · rw [if_pos m, h1 s m t]
      exact ⟨via_reach, reach_via fun p hp => (mst _).mpr (inK hp)⟩
    · rw [if_neg m, bit_test, decide_eq_true_eq]
      have nos : succs fr s = [] := by
        cases e : succs fr s with
        | nil => rfl
        | cons y r =>
          have : y ∈ succs fr s := by rw [e]; exact List.mem_cons_self
          exact absurd (inK (mem_succs.mp this)) m
      constructor
      · intro e
        refine .start (List.mem_singleton.mpr ?_)
        omega
      · intro r
        have q : ∀ {x : Int}, Reach fr [s] x → x = s := fun {x} r => by
          induction r with
          | start h => exact List.mem_singleton.mp h
          | step _ h ih =>
            rw [ih, nos] at h
            cases h
        have := q r
        omega
end
end Rz

namespace Rz
open PySem PySem.Spec PyProof.Rows L2
/-! ### to where free moves lead, of the machine at p -/
def MacC (cM : Addr) (H : Hp) (p : Addr) (fr : List Lk) (cm : Int → Nat) : Prop := ∃ (dx : Addr) (fs : List (Str × V)) (D : Addr), H p = some (.ins cM dx fs) ∧ fs.lookup (Str.ofString "_closures") = some (.ref D) ∧ fs.lookup (Str.ofString "_closed") = none ∧ ClAt H D (fr.map (·.1)) cm 10000
def OffC (fr : List Lk) (cm : Int → Nat) : Prop := ∀ s : Int, 0 ≤ s → s ∉ fr.map (·.1) → cm s = 2 ^ s.toNat
theorem MacC.same {cM : Addr} {H H' : Hp} {p : Addr} {fr : List Lk} {cm : Int → Nat} (h : MacC cM H p fr cm) (S : Same H H') : MacC cM H' p fr cm := let ⟨dx, fs, D, h1, h2, h3, h4⟩ := h; ⟨dx, fs, D, S _ _ h1, h2, h3, h4.same S⟩
def sp_M_closed (cM : Addr) : Sp := fun vs H Q _ => ∃ (p : Addr) (s : Int) (fr : List Lk) (cm : Int → Nat), vs = [.ref p, .int s] ∧ MacC cM H p fr cm ∧ OffC fr cm ∧ 0 ≤ s ∧ s < 100000 ∧ Q (.int ((cm s : Nat) : Int)) H
section
variable {w : World} {K : PySem.W.Frag} {mg : Str → Option Value} {base : Heap}
theorem sc_M_closed : FnScope N_Machine_closed P_Machine_closed (defScope s_Machine_closed) := ⟨rfl, rfl, rfl, by decide +kernel, rfl, by decide +kernel, by decide +kernel⟩
theorem ok_Machine_closed (T : Txt K mg) : FnOk prg w K mg base (L2.CX prg w) 1 T.f_Machine_closed T.fd_Machine_closed P_Machine_closed (sp_M_closed T.c_Machine) := by
  refine Rz.Fun.okN T.F_Machine_closed sc_M_closed (fun vs H Q E h => ?_) (fun cdv A outer s H vs Q E hr h => ?_)
  · obtain ⟨p, s, fr, cm, rfl, _⟩ := h
    rfl
  obtain ⟨p, x, fr, cm, rfl, ⟨dx, fs, D, hp, hf, _, hD⟩, off, x0, x1, k⟩ := h
  have hu : (A.deeper (envOfC "Machine._closed" (defScope s_Machine_closed) s.heap.objs.size T.f_Machine_closed cdv)).units + 1 < cLine := by
    have := hr.un
    omega
  obtain ⟨n, rfl⟩ := Int.eq_ofNat_of_zero_le x0
  refine ⟨_, (pss_one (ps_ret (pe_dget2 hu (pe_fld (pv 0) rfl) (pv 1) (pe_op op_oneShl pe_int (pv 1)) ⟨rfl, rfl, rfl, rfl⟩))), ?_⟩
  refine ⟨_, rfl, p, _, dx, fs, _, rfl, hp, T.cl_Machine, T.na_Machine__closures, hf, D, rfl, hD.isD, _, rfl, _, rfl, n, rfl, rfl, by omega, _, hD.dget _, ?_⟩
  by_cases m : (n : Int) ∈ fr.map (·.1)
  · rw [if_pos m]
    exact k
  · rw [if_neg m]
    show Q (.int (2 ^ n)) H
    have e := off _ x0 m
    rw [Int.toNat_natCast] at e
    rw [e, ← pow_cast] at k
    exact k
end
end Rz

namespace Rz
open PySem PySem.Spec PyProof.Rows L2
/-! ### what edges read: dicts of dicts of lists of pairs, younger than H0 -/
def prK (p : Nat × Nat) : List Key := [.inl ((p.1 : Nat) : Int), .inl ((p.2 : Nat) : Int)]
def sgK (c : Nat) : Key := .inr ⟨#[c]⟩
theorem sgK_inj {c d : Nat} (h : sgK c = sgK d) : c = d := by
  unfold sgK at h
  injection h with h
  have z := congrArg (fun s : Str => s.cps.toList) h
  exact (List.cons.inj z).1
theorem self_putK {kvs : List (Key × V)} (h : ∀ x ∈ kvs, valV kvs x.1 = some x.2) (k : Key) (v : V) : ∀ x ∈ putK kvs k v, valV (putK kvs k v) x.1 = some x.2 := by
  intro x hx
  rw [valV_put]
  by_cases a : (kvs.any fun kv => decide (kv.1 = k)) = true
  · unfold putK at hx
    rw [if_pos a] at hx
    obtain ⟨y, hy, rfl⟩ := List.mem_map.mp hx
    by_cases e : y.1 = k
    · rw [if_pos e, if_pos e]
    · rw [if_neg e, if_neg e]
      exact h y hy
  · unfold putK at hx
    rw [if_neg a] at hx
    rcases List.mem_append.mp hx with z | z
    · have n : x.1 ≠ k := fun e => a (List.any_eq_true.mpr ⟨x, z, decide_eq_true e⟩)
      rw [if_neg n]
      exact h x z
    · rw [List.mem_singleton.mp z, if_pos rfl]
structure RdsAt (H0 H : Hp) (D : Addr) (C : Nat → Prop) (G : Nat → Int → Prop) (P : Nat → Addr) (L : Nat → Int → Addr) (pr : Nat → Int → List (Nat × Nat)) (n : Nat) : Prop where
  dD : H0 D = none
  out : ∃ kvs : List (Key × V), H D = some (.dK kvs) ∧ kvs.length ≤ n ∧ ∀ c, (C c → valV kvs (sgK c) = some (.ref (P c))) ∧ (¬ C c → valV kvs (sgK c) = none)
  inn : ∀ c, C c → P c ≠ D ∧ H0 (P c) = none ∧ ∃ kin : List (Key × V), H (P c) = some (.dK kin) ∧ kin.length ≤ n ∧ (∀ x ∈ kin, (∃ h : Int, x.1 = .inl h) ∧ valV kin x.1 = some x.2) ∧ ∀ h, (G c h → valV kin (.inl h) = some (.ref (L c h))) ∧ (¬ G c h → valV kin (.inl h) = none)
  lst : ∀ c h, G c h → C c ∧ H0 (L c h) = none ∧ TpAt prK H (L c h) (pr c h)
  off : ∀ c h, ¬ G c h → pr c h = []
  injP : ∀ c d, C c → C d → P c = P d → c = d
  injL : ∀ c h d g, G c h → G d g → L c h = L d g → c = d ∧ h = g
section
variable {H0 H H' : Hp} {D : Addr} {C : Nat → Prop} {G : Nat → Int → Prop} {P : Nat → Addr} {L : Nat → Int → Addr} {pr : Nat → Int → List (Nat × Nat)} {n : Nat}
theorem RdsAt.keep (R : RdsAt H0 H D C G P L pr n) (B : ∀ b o, H0 b = none → H b = some o → H' b = some o) (T : Tups H H') : RdsAt H0 H' D C G P L pr n where
  dD := R.dD
  out := let ⟨kvs, e, r⟩ := R.out; ⟨kvs, B _ _ R.dD e, r⟩
  inn := fun c hc => let ⟨a, b, kin, e, r⟩ := R.inn c hc; ⟨a, b, kin, B _ _ b e, r⟩
  lst := fun c h g => let ⟨a, b, ts, e, r⟩ := R.lst c h g; ⟨a, b, ts, B _ _ b e, r.keep T⟩
  off := R.off
  injP := R.injP
  injL := R.injL
theorem RdsAt.same (R : RdsAt H0 H D C G P L pr n) (S : Same H H') : RdsAt H0 H' D C G P L pr n := R.keep (fun b o _ e => S b o e) (.of S)
theorem RdsAt.mono (R : RdsAt H0 H D C G P L pr n) {m : Nat} (h : n ≤ m) : RdsAt H0 H D C G P L pr m where
  dD := R.dD
  out := let ⟨kvs, e, l, r⟩ := R.out; ⟨kvs, e, Nat.le_trans l h, r⟩
  inn := fun c hc => let ⟨a, b, kin, e, l, r⟩ := R.inn c hc; ⟨a, b, kin, e, Nat.le_trans l h, r⟩
  lst := R.lst
  off := R.off
  injP := R.injP
  injL := R.injL
/-- a sign -/
theorem rds_sign {c : Nat} {q : Addr} {kvs : List (Key × V)} (R : RdsAt H0 H D C G P L pr n) (nc : ¬ C c) (hq : H q = none) (hq0 : H0 q = none) (eD : H D = some (.dK kvs)) :
    RdsAt H0 (upd (upd H q (.dK [])) D (.dK (putK kvs (sgK c) (.ref q)))) D (fun d => C d ∨ d = c) G (fun d => if d = c then q else P d) L pr (n + 1) := by
  have nqD : q ≠ D := fun z => by rw [z, eD] at hq; cases hq
  have oldP : ∀ d, C d → d ≠ c := fun d hd e => nc (e ▸ hd)
  obtain ⟨k2, e2, l2, r2⟩ := R.out
  rw [eD] at e2
  cases e2
  have nPq : ∀ d, C d → P d ≠ q := fun d hd e => by
    obtain ⟨_, _, kin, h, _⟩ := R.inn d hd
    rw [e, hq] at h
    cases h
  refine ⟨R.dD, ⟨_, upd_same, Nat.le_trans (length_putK _ _ _) (Nat.succ_le_succ l2), fun d => ?_⟩, fun d hd => ?_, fun d h g => ?_, R.off, fun d1 d2 h1 h2 e => ?_, R.injL⟩
  · rw [valV_put]
    by_cases e : d = c
    · subst e
      rw [if_pos rfl]
      refine ⟨fun _ => ?_, fun z => absurd (.inr rfl) z⟩
      show some (V.ref q) = some (V.ref (if d = d then q else P d))
      rw [if_pos rfl]
    · rw [if_neg (fun z => e (sgK_inj z))]
      show _ ∧ _
      refine ⟨fun z => ?_, fun z => (r2 d).2 fun y => z (.inl y)⟩
      show valV kvs (sgK d) = some (V.ref (if d = c then q else P d))
      rw [if_neg e]
      exact (r2 d).1 (z.resolve_right e)
  · by_cases e : d = c
    · subst e
      show (if d = d then q else P d) ≠ D ∧ H0 (if d = d then q else P d) = none ∧ _
      rw [if_pos rfl]
      refine ⟨nqD, hq0, [], by rw [upd_ne nqD, upd_same], Nat.zero_le _, fun x hx => (by cases hx), fun h => ⟨fun g => absurd (R.lst d h g).1 nc, fun _ => rfl⟩⟩
    · have hd := hd.resolve_right e
      show (if d = c then q else P d) ≠ D ∧ H0 (if d = c then q else P d) = none ∧ _
      simp only [if_neg e]
      obtain ⟨a, b, kin, h1, h2, h3⟩ := R.inn d hd
      exact ⟨a, b, kin, by rw [upd_ne a, upd_ne (nPq d hd)]; exact h1, Nat.le_succ_of_le h2, h3⟩
  · obtain ⟨a, b, ts, h1, h2⟩ := R.lst d h g
    have nD : L d h ≠ D := fun z => by rw [z, eD] at h1; cases h1
    have nq : L d h ≠ q := fun z => by rw [z, hq] at h1; cases h1
    refine ⟨.inl a, b, ts, by rw [upd_ne nD, upd_ne nq]; exact h1, h2.keep ?_⟩
    exact Tups.upd (Tups.of (Rz.Same.new (Same.refl H) hq)) (fun xs z => by rw [upd_ne (Ne.symm nqD), eD] at z; cases z)
  · by_cases e1 : d1 = c
    · by_cases e2 : d2 = c
      · rw [e1, e2]
      · simp only [if_pos e1, if_neg e2] at e
        exact absurd e.symm (nPq d2 (h2.resolve_right e2))
    · by_cases e2 : d2 = c
      · simp only [if_neg e1, if_pos e2] at e
        exact absurd e (nPq d1 (h1.resolve_right e1))
      · simp only [if_neg e1, if_neg e2] at e
        exact R.injP d1 d2 (h1.resolve_right e1) (h2.resolve_right e2) e
/-- a height -/
theorem rds_height {c : Nat} {h : Int} {q : Addr} {kin : List (Key × V)} (R : RdsAt H0 H D C G P L pr n) (hc : C c) (nh : ¬ G c h) (hq : H q = none) (hq0 : H0 q = none) (eP : H (P c) = some (.dK kin)) :
    RdsAt H0 (upd (upd H q (.lst [])) (P c) (.dK (putK kin (.inl h) (.ref q)))) D C (fun d g => G d g ∨ (d = c ∧ g = h)) P (fun d g => if d = c ∧ g = h then q else L d g) pr (n + 1) := by
  have nqP : q ≠ P c := fun z => by rw [z, eP] at hq; cases hq
  obtain ⟨aP, bP, k2, e2, l2, z2, r2⟩ := R.inn c hc
  rw [eP] at e2
  cases e2
  obtain ⟨kvs, eD, lD, rD⟩ := R.out
  have nqD : q ≠ D := fun z => by rw [z, eD] at hq; cases hq
  have nLq : ∀ d g, G d g → L d g ≠ q := fun d g hg e => by
    obtain ⟨_, _, ts, h1, _⟩ := R.lst d g hg
    rw [e, hq] at h1
    cases h1
  have T : Tups H (upd (upd H q (.lst [])) (P c) (.dK (putK kin (.inl h) (.ref q)))) := Tups.upd (Tups.of (Rz.Same.new (Same.refl H) hq)) (fun xs z => by rw [upd_ne (Ne.symm nqP), eP] at z; cases z)
  refine ⟨R.dD, ⟨kvs, by rw [upd_ne (Ne.symm aP), upd_ne (Ne.symm nqD)]; exact eD, Nat.le_succ_of_le lD, rD⟩, fun d hd => ?_, fun d g hg => ?_, fun d g ng => R.off d g fun z => ng (.inl z), R.injP, fun d1 g1 d2 g2 h1 h2 e => ?_⟩
  · by_cases e : d = c
    · subst e
      refine ⟨aP, bP, _, upd_same, Nat.le_trans (length_putK _ _ _) (Nat.succ_le_succ l2), fun x hx => ?_, fun g => ?_⟩
      · refine ⟨?_, self_putK (fun y hy => (z2 y hy).2) _ _ x hx⟩
        rcases mem_putK hx with y | ⟨y, hy, y2⟩
        · exact ⟨h, y⟩
        · rw [← y2]
          exact (z2 y hy).1
      · rw [valV_put]
        by_cases e : g = h
        · subst e
          rw [if_pos rfl]
          refine ⟨fun _ => ?_, fun z => absurd (.inr ⟨rfl, rfl⟩) z⟩
          show some (V.ref q) = some (V.ref (if d = d ∧ g = g then q else L d g))
          rw [if_pos ⟨rfl, rfl⟩]
        · rw [if_neg (fun z => e (by injection z))]
          refine ⟨fun z => ?_, fun z => (r2 g).2 fun y => z (.inl y)⟩
          show valV kin (.inl g) = some (V.ref (if d = d ∧ g = h then q else L d g))
          rw [if_neg (fun y => e y.2)]
          exact (r2 g).1 (z.resolve_right fun y => e y.2)
    · obtain ⟨a, b, k3, h1, h2, h3, h4⟩ := R.inn d hd
      have nP : P d ≠ P c := fun z => e (R.injP d c hd hc z)
      have nq : P d ≠ q := fun z => by rw [z, hq] at h1; cases h1
      refine ⟨a, b, k3, by rw [upd_ne nP, upd_ne nq]; exact h1, Nat.le_succ_of_le h2, h3, fun g => ⟨fun z => ?_, fun z => (h4 g).2 fun y => z (.inl y)⟩⟩
      show valV k3 (.inl g) = some (V.ref (if d = c ∧ g = h then q else L d g))
      rw [if_neg (fun y => e y.1)]
      exact (h4 g).1 (z.resolve_right fun y => e y.1)
  · by_cases e : d = c ∧ g = h
    · simp only [if_pos e]
      refine ⟨e.1 ▸ hc, hq0, [], by rw [upd_ne nqP, upd_same]; rfl, ?_⟩
      rw [e.1, e.2, R.off c h nh]
      exact .nil
    · simp only [if_neg e]
      have hg := hg.resolve_right e
      obtain ⟨a, b, ts, h1, h2⟩ := R.lst d g hg
      have nP : L d g ≠ P c := fun z => by rw [z, eP] at h1; cases h1
      exact ⟨a, b, ts, by rw [upd_ne nP, upd_ne (nLq d g hg)]; exact h1, h2.keep T⟩
  · by_cases e1 : d1 = c ∧ g1 = h
    · by_cases e2 : d2 = c ∧ g2 = h
      · exact ⟨e1.1.trans e2.1.symm, e1.2.trans e2.2.symm⟩
      · simp only [if_pos e1, if_neg e2] at e
        exact absurd e.symm (nLq d2 g2 (h2.resolve_right e2))
    · by_cases e2 : d2 = c ∧ g2 = h
      · simp only [if_neg e1, if_pos e2] at e
        exact absurd e (nLq d1 g1 (h1.resolve_right e1))
      · simp only [if_neg e1, if_neg e2] at e
        exact R.injL d1 g1 d2 g2 (h1.resolve_right e1) (h2.resolve_right e2) e
/-- a pair -/
theorem rds_add {c : Nat} {h : Int} {u : Addr} {ts : List Addr} {x : Nat × Nat} (R : RdsAt H0 H D C G P L pr n) (hg : G c h) (hu : H u = none) (eL : H (L c h) = some (.lst (ts.map V.ref))) (hT : TpL prK H ts (pr c h)) :
    RdsAt H0 (upd (upd H u (.tup ((prK x).map kV))) (L c h) (.lst (ts.map V.ref ++ [.ref u]))) D C G P L (fun d g => if d = c ∧ g = h then pr d g ++ [x] else pr d g) n := by
  have T : Tups H (upd (upd H u (.tup ((prK x).map kV))) (L c h) (.lst (ts.map V.ref ++ [.ref u]))) := Tups.upd (Tups.of (Rz.Same.new (Same.refl H) hu)) (fun xs z => by
    rw [Rz.Same.new (o := .tup ((prK x).map kV)) (Same.refl H) hu _ _ eL] at z
    cases z)
  obtain ⟨kvs, eD, lD, rD⟩ := R.out
  have nuD : D ≠ u := fun z => by rw [← z, eD] at hu; cases hu
  have nLD : D ≠ L c h := fun z => by rw [← z, eD] at eL; cases eL
  refine ⟨R.dD, ⟨kvs, by rw [upd_ne nLD, upd_ne nuD]; exact eD, lD, rD⟩, fun d hd => ?_, fun d g gg => ?_, fun d g ng => ?_, R.injP, R.injL⟩
  · obtain ⟨a, b, k3, h1, h2⟩ := R.inn d hd
    have n1 : P d ≠ u := fun z => by rw [← z, h1] at hu; cases hu
    have n2 : P d ≠ L c h := fun z => by rw [← z, h1] at eL; cases eL
    exact ⟨a, b, k3, by rw [upd_ne n2, upd_ne n1]; exact h1, h2⟩
  · obtain ⟨a, b, t2, h1, h2⟩ := R.lst d g gg
    by_cases e : d = c ∧ g = h
    · obtain ⟨rfl, rfl⟩ := e
      simp only [if_pos (And.intro (Eq.refl d) (Eq.refl g))]
      exact ⟨a, b, tp_push eL hT hu⟩
    · simp only [if_neg e]
      have n1 : L d g ≠ u := fun z => by rw [← z, h1] at hu; cases hu
      have n2 : L d g ≠ L c h := fun z => e (R.injL d g c h gg hg z)
      exact ⟨a, b, t2, by rw [upd_ne n2, upd_ne n1]; exact h1, h2.keep T⟩
  · by_cases e : d = c ∧ g = h
    · exact absurd (by rw [e.1, e.2]; exact hg) ng
    · simp only [if_neg e]
      exact R.off d g ng
end
theorem prsOf_snoc (es : List Ed) (cm : Int → Nat) (e : Ed) (c : Nat) (h : Int) : prsOf (es ++ [e]) cm c h = if c = e.2.1 ∧ h = e.2.2.1 then prsOf es cm c h ++ [(2 ^ e.1.toNat, cm e.2.2.2)] else prsOf es cm c h := by
  unfold prsOf
  rw [List.filter_append, List.map_append]
  by_cases q : c = e.2.1 ∧ h = e.2.2.1
  · rw [if_pos q, List.filter_cons, if_pos (decide_eq_true ⟨q.1.symm, q.2.symm⟩)]
    rfl
  · rw [if_neg q, List.filter_cons, if_neg (by rw [decide_eq_true_eq]; exact fun z => q ⟨z.1.symm, z.2.symm⟩)]
    simp
end Rz

namespace Rz
open PySem PySem.Spec PyProof.Rows L2
def MacE (cM : Addr) (H : Hp) (p : Addr) (es : List Ed) : Prop := ∃ (dx : Addr) (fs : List (Str × V)) (l : Addr), H p = some (.ins cM dx fs) ∧ fs.lookup (Str.ofString "_edges") = some (.ref l) ∧ TpAt edK H l es
def sp_M_reads (cM : Addr) : Sp := fun vs H Q _ => ∃ (p : Addr) (fr : List Lk) (cm : Int → Nat) (es : List Ed), vs = [.ref p] ∧ MacC cM H p fr cm ∧ OffC fr cm ∧ MacE cM H p es ∧ (∀ e ∈ es, (0 ≤ e.1 ∧ e.1 < 100000) ∧ 0 ≤ e.2.2.2 ∧ e.2.2.2 < 100000) ∧ es.length ≤ 10000 ∧
  ∀ H' D C G P L, Same H H' → RdsAt H H' D C G P L (prsOf es cm) 20000 → Q (.ref D) H'
section
variable {w : World} {K : PySem.W.Frag} {mg : Str → Option Value} {base : Heap}
theorem sc_M_reads : FnScope N_Machine_reads_of_edges P_Machine_reads_of_edges (defScope s_Machine_reads_of_edges) := ⟨rfl, rfl, rfl, by decide +kernel, rfl, by decide +kernel, by decide +kernel⟩
theorem ok_Machine_reads_of_edges (T : Txt K mg) : FnOk prg w K mg base (L2.CX prg w) 2 T.f_Machine_reads_of_edges T.fd_Machine_reads_of_edges P_Machine_reads_of_edges (sp_M_reads T.c_Machine) := by
  refine Rz.Fun.okN T.F_Machine_reads_of_edges sc_M_reads (fun vs H Q E h => ?_) (fun cdv A outer s H vs Q E hr h => ?_)
  · obtain ⟨p, fr, cm, es, rfl, _⟩ := h
    rfl
  obtain ⟨p, fr, cm, es, rfl, MC, off, ⟨dx, fs, l, hp, hf, ts, el, hT⟩, be, ze, k⟩ := h
  have nd := sc_M_reads.nd
  have hu : (A.deeper (envOfC "Machine._reads_of_edges" (defScope s_Machine_reads_of_edges) s.heap.objs.size T.f_Machine_reads_of_edges cdv)).units + 1 < cLine := by
    have := hr.un
    omega
  refine ⟨_, (pss_cons (ps_set (i := 1) nd rfl (Or.inl rfl) pe_dnewK)
    (pss_cons (ps_for PassesOwn.never rfl (pi_list (pe_fld (pv 0) rfl)) (pg_tup rfl (pgs_cons (pg_name (i := 2) nd rfl (Or.inl rfl)) (pgs_cons (pg_name (i := 3) nd rfl (Or.inl rfl)) (pgs_cons (pg_name (i := 4) nd rfl (Or.inl rfl)) (pgs_cons (pg_name (i := 5) nd rfl (Or.inl rfl)) pgs_nil)))))
      (C8.pss_cut (ps_set (i := 6) nd rfl (Or.inl rfl) (pe_dsetd (pe_dsetd (pv 1) (pv 3) pe_dnewK ⟨rfl, rfl, rfl, rfl⟩) (pv 4) (pe_lst pa_nil) ⟨rfl, rfl, rfl, rfl⟩))
      (pss_one (ps_expr (pe_bm PySem.F.plainAttrs_list PySem.F.slot_list_append PySem.F.type_list_append mt_append (pv 6) (pa_cons (pe_tup (pa_cons (pe_op op_oneShl pe_int (pv 2)) (pa_cons (pe_mt (pv 0) T.cl_Machine T.M_Machine_closed (ok_Machine_closed T) (hr.mono (by decide)) T.b_Machine_closed .nil (fun _ => atN _) (pa_cons (pv 5) pa_nil)) pa_nil))) pa_nil))))))
    (pss_one (ps_ret (pv 1))))), ?_⟩
  intro D hD
  have S0 := Rz.Same.new (o := .dK []) (Same.refl H) hD
  have R0 : RdsAt H (upd H D (.dK [])) D (fun _ => False) (fun _ _ => False) (fun _ => 0) (fun _ _ => 0) (prsOf (es.take 0) cm) 0 := by
    refine ⟨hD, ⟨[], upd_same, Nat.le_refl _, fun c => ⟨False.elim, fun _ => rfl⟩⟩, fun c z => z.elim, fun c h z => z.elim, fun c h _ => rfl, fun c d z => z.elim, fun c h d g z => z.elim⟩
  generalize upd H D (.dK []) = H0 at S0 R0
  refine ⟨_, rfl, p, _, dx, fs, _, rfl, S0 _ _ hp, T.cl_Machine, T.na_Machine__edges, hf, l, rfl, ⟨_, SqL.of (S0 _ _ el)⟩, for_list (K := K) (a := l) (xs := ts.map V.ref) (fun i σ H' => ∃ (v2 v3 v4 v5 v6 : Option V) (C : Nat → Prop) (G : Nat → Int → Prop) (Pp : Nat → Addr) (L : Nat → Int → Addr), σ = [some (.ref p), some (.ref D), v2, v3, v4, v5, v6] ∧ Same H H' ∧ RdsAt H H' D C G Pp L (prsOf (es.take i) cm) (2 * i))
    ⟨none, none, none, none, none, _, _, _, _, rfl, S0, R0⟩ (fun i σ H' _ ⟨_, _, _, _, _, _, _, _, _, _, S, _⟩ => SqL.of (S _ _ el)) ?_ ?_⟩
  · rintro i y σ H' hi ⟨v2, v3, v4, v5, v6, C, G, Pp, L, rfl, S, R⟩
    obtain ⟨t, ht, rfl⟩ := refs_get hi
    obtain ⟨⟨a, c, h, b⟩, hx, et⟩ := hT.get ht
    have et : H t = some (.tup [.int a, .str ⟨#[c]⟩, .int h, .int b]) := et
    have ip : i < es.length := (List.getElem?_eq_some_iff.mp hx).1
    have tk1 : es.take (i + 1) = es.take i ++ [(a, c, h, b)] := by rw [List.take_add_one, hx]; rfl
    obtain ⟨⟨a0, a1⟩, b0, b1⟩ := be _ (List.mem_of_getElem? hx)
    obtain ⟨n, rfl⟩ := Int.eq_ofNat_of_zero_le a0
    have pr1 : prsOf (es.take (i + 1)) cm = fun d g => if d = c ∧ g = h then prsOf (es.take i) cm d g ++ [(2 ^ n, cm b)] else prsOf (es.take i) cm d g := by
      funext d g
      rw [tk1, prsOf_snoc]
      rfl
    refine ⟨t, _, rfl, SqT.of (S _ _ et), rfl, _, _, rfl, _, _, rfl, _, _, rfl, _, _, rfl, rfl, ?_⟩
    refine ⟨fun σ H2 => ∃ (C : Nat → Prop) (G : Nat → Int → Prop) (Pp : Nat → Addr) (L : Nat → Int → Addr), σ = [some (.ref p), some (.ref D), some (.int (n : Nat)), some (.str ⟨#[c]⟩), some (.int h), some (.int b), some (.ref (L c h))] ∧ Same H H2 ∧ RdsAt H H2 D C G Pp L (prsOf (es.take i) cm) (2 * i + 2) ∧ G c h, ?_, ?_⟩
    · refine ⟨_, rfl, D, rfl, ?_⟩
      obtain ⟨kvs, eD, zD, rD⟩ := R.out
      refine ⟨.inl ⟨kvs, .inl eD⟩, _, rfl, fun q hq => ?_⟩
      have Sq := Rz.Same.new (o := .dK []) (Same.refl H') hq
      have hq0 : H q = none := S.free hq
      refine ⟨kvs, sgK c, Sq _ _ eD, rfl, by rw [sizeLine_eq]; omega, fun v hv => ?_, fun hv => ?_⟩
      · have Cc : C c := Classical.byContradiction fun nc => by rw [(rD c).2 nc] at hv; cases hv
        rw [(rD c).1 Cc] at hv
        cases hv
        have R1 := R.same Sq
        have S1 := S.trans Sq
        generalize upd H' q (.dK []) = H1 at R1 S1
        obtain ⟨nP, hP0, kin, eP, zP, iP, rP⟩ := R1.inn c Cc
        refine ⟨_, rfl, .inl ⟨kin, .inl eP⟩, _, rfl, by show 0 ≤ sizeLine; decide, fun r hr1 => ?_⟩
        have Sr := Rz.Same.new (o := .lst []) (Same.refl H1) hr1
        have hr0 : H r = none := S1.free hr1
        refine ⟨kin, .inl h, Sr _ _ eP, rfl, by rw [sizeLine_eq]; omega, fun v hv => ?_, fun hv => ?_⟩
        · have Gc : G c h := Classical.byContradiction fun nc => by rw [(rP h).2 nc] at hv; cases hv
          rw [(rP h).1 Gc] at hv
          cases hv
          exact ⟨_, _, _, _, rfl, S1.trans Sr, (R1.same Sr).mono (Nat.le_add_right _ 2), Gc⟩
        · have nG : ¬ G c h := fun g => by rw [(rP h).1 g] at hv; cases hv
          refine ⟨_, _, _, _, ?_, Rz.Same.upd (S1.trans Sr) hP0, (rds_height R1 Cc nG hr1 hr0 eP).mono (Nat.le_succ _), .inr ⟨rfl, rfl⟩⟩
          show _ = [_, _, _, _, _, _, some (V.ref (if c = c ∧ h = h then r else L c h))]
          rw [if_pos ⟨rfl, rfl⟩]
          rfl
      · have nC : ¬ C c := fun z => by rw [(rD c).1 z] at hv; cases hv
        obtain ⟨C', P', hC', hP', R1⟩ : ∃ C' P', C' c ∧ P' c = q ∧ RdsAt H (upd (upd H' q (.dK [])) D (.dK (putK kvs (sgK c) (.ref q)))) D C' G P' L (prsOf (es.take i) cm) (2 * i + 1) := ⟨fun d => C d ∨ d = c, fun d => if d = c then q else Pp d, .inr rfl, if_pos rfl, rds_sign R nC hq hq0 eD⟩
        have S1 := Rz.Same.upd (o := .dK (putK kvs (sgK c) (.ref q))) (S.trans Sq) hD
        have nqD : q ≠ D := fun z => by rw [z, eD] at hq; cases hq
        have eq1 : upd (upd H' q (.dK [])) D (.dK (putK kvs (sgK c) (.ref q))) q = some (.dK []) := by rw [upd_ne nqD, upd_same]
        generalize upd (upd H' q (.dK [])) D (.dK (putK kvs (sgK c) (.ref q))) = H1 at R1 S1 eq1
        refine ⟨q, rfl, .inl ⟨[], .inl eq1⟩, _, rfl, by show 0 ≤ sizeLine; decide, fun r hr1 => ?_⟩
        have Sr := Rz.Same.new (o := .lst []) (Same.refl H1) hr1
        have hr0 : H r = none := S1.free hr1
        refine ⟨[], .inl h, Sr _ _ eq1, rfl, by show 0 < sizeLine; decide, fun v hv => (by cases hv), fun hv => ?_⟩
        have nG : ¬ G c h := fun g => nC (R.lst c h g).1
        have nqH : H q = none := hq0
        have R2 := rds_height R1 hC' nG hr1 hr0 (by rw [hP']; exact eq1)
        rw [hP'] at R2
        refine ⟨C', _, P', _, ?_, Rz.Same.upd (S1.trans Sr) hq0, R2, .inr ⟨rfl, rfl⟩⟩
        show _ = [_, _, _, _, _, _, some (V.ref (if c = c ∧ h = h then r else L c h))]
        rw [if_pos ⟨rfl, rfl⟩]
        rfl
    · rintro σ H2 ⟨C, G, Pp, L, rfl, S, R, Gc⟩
      obtain ⟨Cc, hL0, us, eL, hU⟩ := R.lst c h Gc
      have zu : us.length ≤ 10000 := by
        have z1 := List.length_filter_le (fun e : Ed => decide (e.2.1 = c ∧ e.2.2.1 = h)) (es.take i)
        have z2 : us.length = (prsOf (es.take i) cm c h).length := hU.len
        unfold prsOf at z2
        rw [List.length_map] at z2
        rw [List.length_take] at z1
        omega
      obtain ⟨dx2, fs2, Dc, hp2, hc2, hm2, _⟩ := id MC
      refine ⟨_, rfl, .inl ⟨rfl, _, SqL.of eL⟩, _, rfl, n, rfl, rfl, by omega, _, rfl, p, dx2, fs2, rfl, S _ _ hp2, hm2, _, rfl, p, b, fr, cm, rfl, MC.same S, off, b0, b1, ?_⟩
      refine ⟨by show 2 ≤ sizeLine; decide, fun u hu2 => ?_⟩
      have Su := Rz.Same.new (o := .tup ((prK (2 ^ n, cm b)).map kV)) (Same.refl H2) hu2
      have et2 : (2 : Int) ^ n = ((2 ^ n : Nat) : Int) := pow_cast n
      have R2 := rds_add R Gc hu2 eL hU (x := (2 ^ n, cm b))
      have e3 : (HO.tup ((prK (2 ^ n, cm b)).map kV) : HO) = .tup [.int (2 ^ n), .int ((cm b : Nat) : Int)] := by
        rw [et2]
        rfl
      rw [e3] at R2 Su
      refine ⟨L c h, us.map V.ref, _, rfl, rfl, Su _ _ eL, by rw [List.length_map, sizeLine_eq]; omega, ?_⟩
      refine ⟨_, _, _, _, _, C, G, Pp, L, rfl, Rz.Same.upd (S.trans Su) hL0, ?_⟩
      rw [pr1]
      exact R2.mono (by omega)
  · rintro σ H1 ⟨v2, v3, v4, v5, v6, C, G, Pp, L, rfl, S, R⟩
    rw [List.length_map, hT.len, List.take_length] at R
    exact ⟨_, rfl, k _ _ _ _ _ _ S (R.mono (by omega))⟩
end
end Rz

namespace Rz
open PySem PySem.Spec PyProof.Rows L2
/-! ### a set comprehension of pairs, its list -/
theorem sct_list {P : Program} {w : World} {K : PySem.W.Frag} {a : Addr} {xs : List V} {g : TG} {tt : TT} {te : TE} {vs : List Nat} {σ : L2.St} {H1 : Hp} {D : Addr} {Qd : Hp → Prop} (Pv : Nat → Hp → Prop) (h0 : Pv 0 (upd H1 D (TsO P w D []))) (hl : ∀ i H, i ≤ xs.length → Pv i H → SqL K H a xs)
    (hs : ∀ i x H, xs[i]? = some x → Pv i H → g x (wipe σ vs) H fun σ2 H2 => wipe σ2 vs = wipe σ vs ∧ tt σ2 H2 fun b H3 =>
      if b = true then te σ2 H3 fun y G4 => ∃ (u : Addr) (L : List (Addr × List Key)) (k : List Key), y = .ref u ∧ G4 D = some (TsO P w D L) ∧ SqT K G4 u (k.map kV) ∧ (∀ p ∈ L, SqT K G4 p.1 (p.2.map kV)) ∧ L.length + 1 < 64 ∧
        ∀ M, (k ∈ L.map (·.2) → M = L) → (k ∉ L.map (·.2) → M.Perm ((u, k) :: L)) → (M.map (·.2)).Nodup → Pv (i + 1) (upd G4 D (TsO P w D M)) else Pv (i + 1) H3) (hd : ∀ H, Pv xs.length H → Qd H) :
    ∃ W : Nat → Nat → Hp → Prop, (∃ m, W 0 m (upd H1 D (TsO P w D []))) ∧ ∀ i m G, W i m G →
      ((Itl K a).stop i G ∧ Qd G) ∨ ((Itl K a).go i G ∧ ∃ N : Hp → Prop, (∀ G', N G' → ∃ m', m' < m ∧ W (i + 1) m' G') ∧ ∀ x G', (Itl K a).yld i G x G' → g x (wipe σ vs) G' fun σ2 G2 => wipe σ2 vs = wipe σ vs ∧ tt σ2 G2 fun b G3 =>
        if b = true then te σ2 G3 fun y G4 => ∃ (u : Addr) (L : List (Addr × List Key)) (k : List Key), y = .ref u ∧ G4 D = some (TsO P w D L) ∧ SqT K G4 u (k.map kV) ∧ (∀ p ∈ L, SqT K G4 p.1 (p.2.map kV)) ∧ L.length + 1 < 64 ∧
          ∀ M, (k ∈ L.map (·.2) → M = L) → (k ∉ L.map (·.2) → M.Perm ((u, k) :: L)) → (M.map (·.2)).Nodup → N (upd G4 D (TsO P w D M)) else N G3) := by
  refine ⟨fun i m H => m = xs.length - i ∧ i ≤ xs.length ∧ Pv i H, ⟨xs.length, rfl, Nat.zero_le _, h0⟩, ?_⟩
  rintro i m H ⟨rfl, hi, p⟩
  have sq := hl i H hi p
  rcases Nat.lt_or_ge i xs.length with lt | ge
  · refine .inr ⟨⟨xs, xs[i], sq, List.getElem?_eq_getElem lt⟩, Pv (i + 1), fun G pg => ⟨xs.length - (i + 1), by omega, rfl, lt, pg⟩, fun x G y => ?_⟩
    obtain ⟨e, y⟩ := y
    subst e
    exact hs i x _ (y xs sq) p
  · obtain rfl : i = xs.length := Nat.le_antisymm hi ge
    exact .inl ⟨⟨xs, sq, Nat.le_refl _⟩, hd _ p⟩
/-- sorted({(a, b) for a, b in e if a != b}) -/
theorem freeset_go {K : PySem.W.Frag} {w : World} {σ : L2.St} {G : Hp} {Q : VK} {i a b : Nat} {g : TG} {tt : TT} {vs : List Nat} {l : Addr} {xs : List Lk} (hσ : σ[i]? = some (some (.ref l))) (A : TpAt lkK G l xs) (few : xs.length < 63)
    (hg : ∀ (t : Addr) (p : Lk) (H : Hp) (R : L2.St → Hp → Prop), H t = some (.tup [.int p.1, .int p.2]) → (∀ σ2, wipe σ2 vs = wipe σ vs → σ2[a]? = some (some (.int p.1)) → σ2[b]? = some (some (.int p.2)) → R σ2 H) → g (.ref t) (wipe σ vs) H R)
    (ht : ∀ (σ2 : L2.St) (H : Hp) (x y : Int) (R : Bool → Hp → Prop), σ2[a]? = some (some (.int x)) → σ2[b]? = some (some (.int y)) → R (decide (x ≠ y)) H → tt σ2 H R)
    (k : ∀ (G' : Hp) (q : Addr) (qs : List Lk), Same G G' → G q = none → SrtK lkK (xs.filter fun p : Lk => decide (p.1 ≠ p.2)) qs → TpAt lkK G' q qs → Q (.ref q) G') : tCB (rSortTs K prg w) (tCons (tScT prg w K (iList K (tVar i)) g tt (tTup (tCons (tVar a) (tCons (tVar b) tNil))) vs) tNil) σ G Q := by
  obtain ⟨ts, e, P⟩ := A
  refine ⟨_, hσ, l, rfl, ⟨_, SqL.of e⟩, fun D hD => sct_list (K := K) (a := l) (xs := ts.map V.ref) (fun j H => ∃ L : List (Addr × List Key), H D = some (TsO prg w D L) ∧ (∀ b o, b ≠ D → G b = some o → H b = some o) ∧ (L.map (·.2)).Nodup ∧ L.length ≤ j ∧ (∀ p ∈ L, p.1 ≠ D ∧ H p.1 = some (.tup (p.2.map kV)) ∧ ∃ x ∈ (xs.take j).filter fun p : Lk => decide (p.1 ≠ p.2), p.2 = lkK x) ∧ ∀ x ∈ (xs.take j).filter fun p : Lk => decide (p.1 ≠ p.2), lkK x ∈ L.map (·.2))
    ⟨[], upd_same, fun b o n h => by rw [upd_ne n]; exact h, List.nodup_nil, Nat.le_refl _, fun p hp => (by cases hp), fun x hx => (by cases hx)⟩ (fun j H _ ⟨_, _, S, _⟩ => SqL.of (S _ _ (fun z => by rw [z, hD] at e; cases e) e)) ?_ ?_⟩
  · rintro j y H hj ⟨L, eD, S, nd, zL, inL, all⟩
    obtain ⟨t, ht1, rfl⟩ := refs_get hj
    obtain ⟨⟨p, q⟩, hp, et⟩ := P.get ht1
    have et : G t = some (.tup [.int p, .int q]) := et
    have ntD : t ≠ D := fun z => by rw [z, hD] at et; cases et
    have ij : j < xs.length := (List.getElem?_eq_some_iff.mp hp).1
    have tk1 : xs.take (j + 1) = xs.take j ++ [(p, q)] := by rw [List.take_add_one, hp]; rfl
    refine hg t (p, q) H _ (S _ _ ntD et) fun σ2 hw ha hb => ⟨hw, ht σ2 H p q _ ha hb ?_⟩
    by_cases h : p = q
    · have fe : (xs.take (j + 1)).filter (fun p : Lk => decide (p.1 ≠ p.2)) = (xs.take j).filter fun p : Lk => decide (p.1 ≠ p.2) := by
        rw [tk1, List.filter_append, List.filter_cons, if_neg (by simpa using h)]
        simp
      rw [if_neg (by simpa using h)]
      refine ⟨L, eD, S, nd, Nat.le_succ_of_le zL, ?_, ?_⟩
      · rw [fe]
        exact inL
      · rw [fe]
        exact all
    · have fe : (xs.take (j + 1)).filter (fun p : Lk => decide (p.1 ≠ p.2)) = ((xs.take j).filter fun p : Lk => decide (p.1 ≠ p.2)) ++ [(p, q)] := by
        rw [tk1, List.filter_append, List.filter_cons, if_pos (by simpa using h)]
        rfl
      rw [if_pos (by simpa using h)]
      refine ⟨_, ha, _, hb, by show 2 ≤ sizeLine; decide, fun u hu => ?_⟩
      have Su := Rz.Same.new (o := .tup ((lkK (p, q)).map kV)) (Same.refl H) hu
      have eu : upd H u (.tup ((lkK (p, q)).map kV)) u = some (.tup ((lkK (p, q)).map kV)) := upd_same
      have nuD : u ≠ D := fun z => by rw [z, eD] at hu; cases hu
      refine ⟨u, L, lkK (p, q), rfl, Su _ _ eD, SqT.of eu, fun x hx => SqT.of (Su _ _ (inL x hx).2.1), by omega, fun M m1 m2 ndM => ?_⟩
      have eu2 : (HO.tup [V.int p, V.int q] : HO) = .tup ((lkK (p, q)).map kV) := rfl
      show ∃ L2 : List (Addr × List Key), upd (upd H u (HO.tup [V.int p, V.int q])) D (TsO prg w D M) D = some (TsO prg w D L2) ∧ _
      rw [eu2, fe]
      generalize upd H u (.tup ((lkK (p, q)).map kV)) = H2 at Su eu
      refine ⟨M, upd_same, fun b o n h => by rw [upd_ne n]; exact Su _ _ (S _ _ n h), ndM, ?_, fun x hx => ?_, fun x hx => ?_⟩
      · by_cases m : lkK (p, q) ∈ L.map (·.2)
        · rw [m1 m]
          exact Nat.le_succ_of_le zL
        · rw [(m2 m).length_eq]
          exact Nat.succ_le_succ zL
      · have old : x ∈ L → x.1 ≠ D ∧ upd H2 D (TsO prg w D M) x.1 = some (.tup (x.2.map kV)) ∧ ∃ y ∈ ((xs.take j).filter fun p : Lk => decide (p.1 ≠ p.2)) ++ [(p, q)], x.2 = lkK y := fun z => by
          obtain ⟨n, a1, y, hy, ey⟩ := inL x z
          exact ⟨n, by rw [upd_ne n]; exact Su _ _ a1, y, List.mem_append_left _ hy, ey⟩
        by_cases m : lkK (p, q) ∈ L.map (·.2)
        · rw [m1 m] at hx
          exact old hx
        · rcases List.mem_cons.mp ((m2 m).mem_iff.mp hx) with z | z
          · rw [z]
            exact ⟨nuD, by rw [upd_ne nuD]; exact eu, (p, q), List.mem_append_right _ (by simp), rfl⟩
          · exact old z
      · by_cases m : lkK (p, q) ∈ L.map (·.2)
        · rw [m1 m]
          rcases List.mem_append.mp hx with z | z
          · exact all x z
          · rw [List.mem_singleton.mp z]
            exact m
        · rw [((m2 m).map (·.2)).mem_iff, List.map_cons]
          rcases List.mem_append.mp hx with z | z
          · exact List.mem_cons_of_mem _ (all x z)
          · rw [List.mem_singleton.mp z]
            exact List.mem_cons_self
  · rintro H ⟨L, eD, S, nd, zL, inL, all⟩
    have lP := P.len
    rw [List.length_map, lP, List.take_length] at inL all
    rw [List.length_map, lP] at zL
    have S1 : Same G H := fun b o h => S b o (fun z => by rw [z, hD] at h; cases h) h
    refine ⟨D, L, fun _ => false, rfl, eD, fun x hx => SqT.of (inL x hx).2.1, fun x hx => ?_, fun M b pm pw hb => ?_⟩
    · obtain ⟨_, _, y, _, ey⟩ := inL x hx
      rw [ey]
      exact lkK_fits y
    have S9 := Rz.Same.new (o := .lst (M.map fun q => V.ref q.1)) (Same.refl H) hb
    obtain ⟨qs, q1, q2⟩ := rows_srt lkK_inj (H := H) (xs := xs.filter fun p : Lk => decide (p.1 ≠ p.2)) nd pm pw (fun p hp => (inL p hp).2.1) (fun p hp => (inL p hp).2.2) all
    refine k _ b qs (S1.trans S9) (S1.free hb) q1 ⟨M.map (·.1), ?_, q2.keep (Tups.of S9)⟩
    rw [List.map_map]
    exact upd_same
end Rz

namespace Rz
open PySem PySem.Spec PyProof.Rows L2
/-! ### a new machine -/
theorem pow_sum : ∀ (xs : List Int), xs.Pairwise (· < ·) → (∀ x ∈ xs, 0 ≤ x) → ∃ m : Nat, (xs.map fun x => (2 : Int) ^ x.toNat).sum = ((m : Nat) : Int) ∧ ∀ t : Nat, m.testBit t = true ↔ (t : Int) ∈ xs
  | [], _, _ => ⟨0, rfl, fun t => by simp⟩
  | x :: r, pw, ge => by
    obtain ⟨pw1, pw2⟩ := List.pairwise_cons.mp pw
    obtain ⟨M, e, h⟩ := pow_sum r pw2 fun y hy => ge y (List.mem_cons_of_mem _ hy)
    obtain ⟨n, rfl⟩ := Int.eq_ofNat_of_zero_le (ge x List.mem_cons_self)
    have low : M % 2 ^ (n + 1) = 0 := by
      refine Nat.eq_of_testBit_eq fun t => ?_
      rw [Nat.testBit_mod_two_pow, Nat.zero_testBit]
      by_cases lt : t < n + 1
      · rw [decide_eq_true lt, Bool.true_and, Bool.eq_false_iff]
        intro z
        have := pw1 _ ((h t).mp z)
        omega
      · rw [decide_eq_false lt, Bool.false_and]
    have eM : M = 2 ^ (n + 1) * (M / 2 ^ (n + 1)) := by
      have := Nat.div_add_mod M (2 ^ (n + 1))
      omega
    have eO : M + 2 ^ n = M ||| 2 ^ n := by
      have q := Nat.two_pow_add_eq_or_of_lt (i := n + 1) (b := 2 ^ n) (Nat.pow_lt_pow_right (by decide) (Nat.lt_succ_self n)) (M / 2 ^ (n + 1))
      rw [← eM] at q
      exact q
    refine ⟨M + 2 ^ n, ?_, fun t => ?_⟩
    · rw [List.map_cons, List.sum_cons, e, Int.toNat_natCast, pow_cast]
      omega
    · rw [eO, Nat.testBit_or, Bool.or_eq_true, h, bit_test, decide_eq_true_eq, List.mem_cons]
      constructor
      · rintro (a | a)
        · exact .inr a
        · exact .inl (by rw [a])
      · rintro (a | a)
        · exact .inr (by omega)
        · exact .inl a
def macF (n : Int) (a b c D R : Addr) (m : Nat) : List (Str × V) := [(Str.ofString "_states", .int n), (Str.ofString "_last", .ref a), (Str.ofString "_edges", .ref b), (Str.ofString "_free", .ref c), (Str.ofString "_closures", .ref D), (Str.ofString "_reads", .ref R), (Str.ofString "_final", .int ((m : Nat) : Int))]
/-- the machine at p; what it made is younger than H0 -/
def MacAt (cM : Addr) (H0 H : Hp) (p : Addr) (n : Int) (ls : List Int) (es : List Ed) (fr : List Lk) (cm : Int → Nat) (m : Nat) : Prop := ∃ (dx a b c D R : Addr) (C : Nat → Prop) (G : Nat → Int → Prop) (P : Nat → Addr) (L : Nat → Int → Addr), H p = some (.ins cM dx (macF n a b c D R m)) ∧ (H0 a = none ∧ H a = some (.lst (ls.map V.int))) ∧ (H0 b = none ∧ TpAt edK H b es) ∧ (H0 c = none ∧ TpAt lkK H c fr) ∧ (H0 D = none ∧ ClAt H D (fr.map (·.1)) cm 10000) ∧ RdsAt H0 H R C G P L (prsOf es cm) 20000
theorem MacAt.keep {cM : Addr} {H0 H H' : Hp} {p : Addr} {n : Int} {ls : List Int} {es : List Ed} {fr : List Lk} {cm : Int → Nat} {m : Nat} (M : MacAt cM H0 H p n ls es fr cm m) (B : ∀ b o, (H0 b = none ∨ b = p) → H b = some o → H' b = some o) (T : Tups H H') : MacAt cM H0 H' p n ls es fr cm m :=
  let ⟨dx, a, b, c, D, R, C, G, P, L, h1, ⟨h2, h3⟩, ⟨h4, tb, h5, h6⟩, ⟨h7, tc, h8, h9⟩, ⟨h10, kvs, h11, h12⟩, h13⟩ := M
  ⟨dx, a, b, c, D, R, C, G, P, L, B _ _ (.inr rfl) h1, ⟨h2, B _ _ (.inl h2) h3⟩, ⟨h4, tb, B _ _ (.inl h4) h5, h6.keep T⟩, ⟨h7, tc, B _ _ (.inl h7) h8, h9.keep T⟩, ⟨h10, kvs, B _ _ (.inl h10) h11, h12⟩, h13.keep (fun b o z => B b o (.inl z)) T⟩
theorem MacAt.same {cM : Addr} {H0 H H' : Hp} {p : Addr} {n : Int} {ls : List Int} {es : List Ed} {fr : List Lk} {cm : Int → Nat} {m : Nat} (M : MacAt cM H0 H p n ls es fr cm m) (S : Same H H') : MacAt cM H0 H' p n ls es fr cm m := M.keep (fun b o _ e => S b o e) (.of S)
/-- what its parts say -/
structure GoodMac (ls : List Int) (es : List Ed) (fr : List Lk) (cm : Int → Nat) (m : Nat) : Prop where
  clos : IsClos fr cm
  off : OffC fr cm
  be : ∀ e ∈ es, (0 ≤ e.1 ∧ e.1 < 100000) ∧ 0 ≤ e.2.2.2 ∧ e.2.2.2 < 100000
  bf : ∀ p ∈ fr, (0 ≤ p.1 ∧ p.1 < 100000) ∧ 0 ≤ p.2 ∧ p.2 < 100000
  fin : ∀ t : Nat, m.testBit t = true ↔ (t : Int) ∈ ls
  bl : ∀ x ∈ ls, 0 ≤ x ∧ x < 100000
  zl : ls.length ≤ 100
  ze : es.length ≤ 100
  zf : fr.length ≤ 100
theorem RdsAt.base {H0 H1 H : Hp} {D : Addr} {C : Nat → Prop} {G : Nat → Int → Prop} {P : Nat → Addr} {L : Nat → Int → Addr} {pr : Nat → Int → List (Nat × Nat)} {n : Nat} (R : RdsAt H1 H D C G P L pr n) (h : ∀ b, H1 b = none → H0 b = none) : RdsAt H0 H D C G P L pr n where
  dD := h _ R.dD
  out := R.out
  inn := fun c hc => let ⟨a, b, r⟩ := R.inn c hc; ⟨a, h _ b, r⟩
  lst := fun c g hg => let ⟨a, b, r⟩ := R.lst c g hg; ⟨a, h _ b, r⟩
  off := R.off
  injP := R.injP
  injL := R.injL
def sp_M_init (cM : Addr) : Sp := fun vs H Q _ => ∃ (p dx l e f : Addr) (n : Int) (ls : List Int) (es : List Ed) (fr : List Lk), vs = [.ref p, .int n, .ref l, .ref e, .ref f] ∧ H p = some (.ins cM dx []) ∧ H l = some (.lst (ls.map V.int)) ∧ TpAt edK H e es ∧ TpAt lkK H f fr ∧ (ls.length < 63 ∧ es.length < 63 ∧ fr.length < 63) ∧
  (∀ x ∈ ls, 0 ≤ x ∧ x < 100000) ∧ (∀ e ∈ es, (0 ≤ e.1 ∧ e.1 < 100000) ∧ 0 ≤ e.2.2.2 ∧ e.2.2.2 < 100000) ∧ (∀ p ∈ fr, (0 ≤ p.1 ∧ p.1 < 100000) ∧ 0 ≤ p.2 ∧ p.2 < 100000) ∧
  ∀ H' ls' es' fr' cm m, SrtI ls ls' → SrtK edK es es' → SrtK lkK (fr.filter fun p => decide (p.1 ≠ p.2)) fr' → GoodMac ls' es' fr' cm m → But [p] H H' → MacAt cM H H' p n ls' es' fr' cm m → Q .non H'
section
variable {w : World} {K : PySem.W.Frag} {mg : Str → Option Value} {base : Heap}
theorem sc_M_init : FnScope N_Machine_init P_Machine_init (defScope s_Machine_init) := ⟨rfl, rfl, rfl, by decide +kernel, rfl, by decide +kernel, by decide +kernel⟩
theorem ok_Machine_init (T : Txt K mg) : FnOk prg w K mg base (L2.CX prg w) 3 T.f_Machine_init T.fd_Machine_init P_Machine_init (sp_M_init T.c_Machine) := by
  refine Rz.Fun.okN T.F_Machine_init sc_M_init (fun vs H Q E h => ?_) (fun cdv A outer s H vs Q E hr h => ?_)
  · obtain ⟨p, dx, l, e, f, n, ls, es, fr, rfl, _⟩ := h
    rfl
  obtain ⟨p, dx, l, e, f, n, ls, es, fr, rfl, hp, hl, he, hf, ⟨zl, ze, zf⟩, bl, be, bf, k⟩ := h
  have nd := sc_M_init.nd
  have hu : (A.deeper (envOfC "Machine.__init__" (defScope s_Machine_init) s.heap.objs.size T.f_Machine_init cdv)).units + 64 < cLine := by
    have := hr.un
    omega
  refine ⟨_, (pss_cons (ps_fld (pv 0) (pv 1) rfl)
    (pss_cons (ps_fld (pv 0) (pe_callB (cr_sortedSet (by rfl)) (by rfl) T.n_sorted (by decide +kernel) (pa_cons (pe_callTy (cr_setIl (by rfl)) (by rfl) T.n_set (by decide +kernel) (pa_cons (pv 2) pa_nil)) pa_nil)) rfl)
    (pss_cons (ps_fld (pv 0) (pe_callB (cr_sortTs (by rfl)) (by rfl) T.n_sorted (by decide +kernel) (pa_cons (pe_callTy (cr_setTs (by rfl) hu) (by rfl) T.n_set (by decide +kernel) (pa_cons (pv 3) pa_nil)) pa_nil)) rfl)
    (pss_cons (ps_fld (pv 0) (pe_callB (cr_sortTs (by rfl)) (by rfl) T.n_sorted (by decide +kernel) (pa_cons (pe_scT (own := [("state", 5), ("to", 6)]) (g := gTup K 2 (gCons (gName 5) (gCons (gName 6) gNil))) (tt := _) rfl hu nd (pi_list (pv 4)) (blkOk_by (N := N_Machine_init) (sc := defScope s_Machine_init) (by decide +kernel)) (fun _ _ _ _ _ => (pg_tup rfl (pgs_cons (pg_name (i := 5) nd rfl (Or.inl rfl)) (pgs_cons (pg_name (i := 6) nd rfl (Or.inl rfl)) pgs_nil)))) (fun _ _ _ _ _ => pts_one (pt_cmpR op_ne (pv 5) (pv 6) (nomark _))) (fun _ _ _ _ _ => pe_tup (pa_cons (pv 5) (pa_cons (pv 6) pa_nil)))) pa_nil)) rfl)
    (pss_cons (ps_fld (pv 0) (pe_fn (ok_closures_of T) (hr.mono (by decide)) (by rfl) T.m__closures_of T.F__closures_of.kp T.b__closures_of .nil (fun _ => atN _) (pa_cons (pe_fld (pv 0) rfl) pa_nil)) rfl)
    (pss_cons (ps_fld (pv 0) (pe_mt0 (pv 0) T.cl_Machine T.M_Machine_reads_of_edges (ok_Machine_reads_of_edges T) (hr.mono (by decide)) T.b_Machine_reads_of_edges .nil (fun _ => atN _)) rfl)
    (pss_one (ps_fld (pv 0) (pe_callB (cr_sum (by rfl)) (by rfl) T.n_sum (by decide +kernel) (pa_cons (pe_lc (own := [("state", 5)]) (g := (gName 5)) (tt := tYes) rfl nd (pi_list (pe_fld (pv 0) rfl)) (blkOk_by (N := N_Machine_init) (sc := defScope s_Machine_init) (by decide +kernel)) (fun _ _ _ _ _ => (pg_name (i := 5) nd rfl (Or.inl rfl))) (fun _ _ _ _ _ => pts_nil) (fun _ _ _ _ _ => pe_op op_oneShl pe_int (pv 5))) pa_nil)) rfl)))))))), ?_⟩
  have npl : l ∉ [p] := fun z => by rw [List.mem_singleton.mp z, hp] at hl; cases hl
  have npe : e ∉ [p] := fun z => by
    obtain ⟨ts, q, _⟩ := he
    rw [List.mem_singleton.mp z, hp] at q
    cases q
  have npf : f ∉ [p] := fun z => by
    obtain ⟨ts, q, _⟩ := hf
    rw [List.mem_singleton.mp z, hp] at q
    cases q
  refine ⟨_, rfl, _, rfl, p, _, dx, _, rfl, hp, T.cl_Machine, T.na_Machine__states, by show 0 < 1000; decide, ?_⟩
  have B1 : But [p] H (upd H p (.ins T.c_Machine dx [(Str.ofString "_states", .int n)])) := (But.refl _ _).upd (.inl (by simp))
  have p1 : upd H p (.ins T.c_Machine dx [(Str.ofString "_states", .int n)]) p = some (.ins T.c_Machine dx [(Str.ofString "_states", .int n)]) := upd_same
  show tSeq _ _ _ _ (upd H p (.ins T.c_Machine dx [(Str.ofString "_states", .int n)]))
  generalize upd H p (.ins T.c_Machine dx [(Str.ofString "_states", .int n)]) = H1 at B1 p1 ⊢
  -- last
  refine ⟨_, rfl, l, ls, rfl, SqL.of (B1.at hl npl), by unfold scanBound; omega, fun q c hq hc => ?_⟩
  have S2 := Rz.Same.new (o := SetO w q (fun j => decide (j ∈ ls)) c) (Same.refl H1) hq
  refine ⟨q, _, c, rfl, upd_same, by omega, fun xs r xp xm xl hr2 => ?_⟩
  have S3 := Rz.Same.new (o := .lst (xs.map V.int)) (Same.refl (upd H1 q (SetO w q (fun j => decide (j ∈ ls)) c))) hr2
  have r3 : upd (upd H1 q (SetO w q (fun j => decide (j ∈ ls)) c)) r (.lst (xs.map V.int)) r = some (.lst (xs.map V.int)) := upd_same
  have S13 := S2.trans S3
  have hr1 : H1 r = none := S2.free hr2
  have srt : SrtI ls xs := ⟨xp, fun k => by rw [xm]; simp⟩
  have p3 := S13 _ _ p1
  have npr : r ≠ p := fun z => by rw [z, p1] at hr1; cases hr1
  have hr0 : H r = none := B1.free (by simpa using npr) hr1
  refine ⟨_, rfl, p, _, dx, _, rfl, p3, T.cl_Machine, T.na_Machine__last, by show 1 < 1000; decide, ?_⟩
  show tSeq _ _ _ _ (upd (upd (upd H1 q (SetO w q (fun j => decide (j ∈ ls)) c)) r (.lst (xs.map V.int))) p (.ins T.c_Machine dx [(Str.ofString "_states", .int n), (Str.ofString "_last", .ref r)]))
  have B4 : But [p] H (upd (upd (upd H1 q (SetO w q (fun j => decide (j ∈ ls)) c)) r (.lst (xs.map V.int))) p (.ins T.c_Machine dx [(Str.ofString "_states", .int n), (Str.ofString "_last", .ref r)])) := (B1.trans (But.of S13)).upd (.inl (by simp))
  have p4 : upd (upd (upd H1 q (SetO w q (fun j => decide (j ∈ ls)) c)) r (.lst (xs.map V.int))) p (.ins T.c_Machine dx [(Str.ofString "_states", .int n), (Str.ofString "_last", .ref r)]) p = some (.ins T.c_Machine dx [(Str.ofString "_states", .int n), (Str.ofString "_last", .ref r)]) := upd_same
  have r4 : upd (upd (upd H1 q (SetO w q (fun j => decide (j ∈ ls)) c)) r (.lst (xs.map V.int))) p (.ins T.c_Machine dx [(Str.ofString "_states", .int n), (Str.ofString "_last", .ref r)]) r = some (.lst (xs.map V.int)) := by rw [upd_ne npr]; exact r3
  generalize upd (upd (upd H1 q (SetO w q (fun j => decide (j ∈ ls)) c)) r (.lst (xs.map V.int))) p (.ins T.c_Machine dx [(Str.ofString "_states", .int n), (Str.ofString "_last", .ref r)]) = H4 at B4 p4 r4 ⊢
  -- edges
  have nT : ∀ zs, H p ≠ some (.tup zs) := fun zs z => by rw [hp] at z; cases z
  refine sortset_go (fun i => i == 1) edK_inj edK_fits rfl (he.but B4 npe (tups1 B4 nT)) (by omega) fun H5 b es' S5 hb se ab => ?_
  have p5 := S5 _ _ p4
  have npb : b ≠ p := fun z => by rw [z, p4] at hb; cases hb
  have hb0 : H b = none := B4.free (by simpa using npb) hb
  refine ⟨_, rfl, p, _, dx, _, rfl, p5, T.cl_Machine, T.na_Machine__edges, by show 2 < 1000; decide, ?_⟩
  show tSeq _ _ _ _ (upd H5 p (.ins T.c_Machine dx [(Str.ofString "_states", .int n), (Str.ofString "_last", .ref r), (Str.ofString "_edges", .ref b)]))
  have B6 : But [p] H (upd H5 p (.ins T.c_Machine dx [(Str.ofString "_states", .int n), (Str.ofString "_last", .ref r), (Str.ofString "_edges", .ref b)])) := (B4.trans (But.of S5)).upd (.inl (by simp))
  have p6 : upd H5 p (.ins T.c_Machine dx [(Str.ofString "_states", .int n), (Str.ofString "_last", .ref r), (Str.ofString "_edges", .ref b)]) p = some (.ins T.c_Machine dx [(Str.ofString "_states", .int n), (Str.ofString "_last", .ref r), (Str.ofString "_edges", .ref b)]) := upd_same
  have X6 : But [p] H5 (upd H5 p (.ins T.c_Machine dx [(Str.ofString "_states", .int n), (Str.ofString "_last", .ref r), (Str.ofString "_edges", .ref b)])) := (But.refl _ _).upd (.inl (by simp))
  have r6 : upd H5 p (.ins T.c_Machine dx [(Str.ofString "_states", .int n), (Str.ofString "_last", .ref r), (Str.ofString "_edges", .ref b)]) r = some (.lst (xs.map V.int)) := by rw [upd_ne npr]; exact S5 _ _ r4
  have nT5 : ∀ zs, H5 p ≠ some (.tup zs) := fun zs z => by rw [p5] at z; cases z
  have b6 : TpAt edK (upd H5 p (.ins T.c_Machine dx [(Str.ofString "_states", .int n), (Str.ofString "_last", .ref r), (Str.ofString "_edges", .ref b)])) b es' := ab.but X6 (by simpa using npb) (tups1 X6 nT5)
  generalize upd H5 p (.ins T.c_Machine dx [(Str.ofString "_states", .int n), (Str.ofString "_last", .ref r), (Str.ofString "_edges", .ref b)]) = H6 at B6 p6 r6 b6 X6 ⊢
  -- free
  refine freeset_go (a := 5) (b := 6) rfl (hf.but B6 npf (tups1 B6 nT)) (by omega) ?_ ?_ fun H7 c4 fr' S7 hc sf ac => ?_
  · intro t q H R et go
    refine ⟨t, _, rfl, SqT.of et, rfl, _, _, rfl, _, _, rfl, rfl, ?_⟩
    refine go _ ?_ ?_ ?_
    all_goals rfl
  · intro σ2 H x y R hx hy go
    refine ⟨_, hx, _, hy, rfl, _, rfl, ?_⟩
    show R _ H
    have : (!decide (V.int x = V.int y)) = decide (x ≠ y) := by
      by_cases q : x = y
      · simp [q]
      · have : V.int x ≠ V.int y := fun z => q (by injection z)
        simp [q]
    rw [← this] at go
    exact go
  have p7 := S7 _ _ p6
  have npc : c4 ≠ p := fun z => by rw [z, p6] at hc; cases hc
  have hc0 : H c4 = none := B6.free (by simpa using npc) hc
  refine ⟨_, rfl, p, _, dx, _, rfl, p7, T.cl_Machine, T.na_Machine__free, by show 3 < 1000; decide, ?_⟩
  show tSeq _ _ _ _ (upd H7 p (.ins T.c_Machine dx [(Str.ofString "_states", .int n), (Str.ofString "_last", .ref r), (Str.ofString "_edges", .ref b), (Str.ofString "_free", .ref c4)]))
  have B8 : But [p] H (upd H7 p (.ins T.c_Machine dx [(Str.ofString "_states", .int n), (Str.ofString "_last", .ref r), (Str.ofString "_edges", .ref b), (Str.ofString "_free", .ref c4)])) := (B6.trans (But.of S7)).upd (.inl (by simp))
  have p8 : upd H7 p (.ins T.c_Machine dx [(Str.ofString "_states", .int n), (Str.ofString "_last", .ref r), (Str.ofString "_edges", .ref b), (Str.ofString "_free", .ref c4)]) p = some (.ins T.c_Machine dx [(Str.ofString "_states", .int n), (Str.ofString "_last", .ref r), (Str.ofString "_edges", .ref b), (Str.ofString "_free", .ref c4)]) := upd_same
  have X8 : But [p] H7 (upd H7 p (.ins T.c_Machine dx [(Str.ofString "_states", .int n), (Str.ofString "_last", .ref r), (Str.ofString "_edges", .ref b), (Str.ofString "_free", .ref c4)])) := (But.refl _ _).upd (.inl (by simp))
  have nT7 : ∀ zs, H7 p ≠ some (.tup zs) := fun zs z => by rw [p7] at z; cases z
  have r8 : upd H7 p (.ins T.c_Machine dx [(Str.ofString "_states", .int n), (Str.ofString "_last", .ref r), (Str.ofString "_edges", .ref b), (Str.ofString "_free", .ref c4)]) r = some (.lst (xs.map V.int)) := by rw [upd_ne npr]; exact S7 _ _ r6
  have b8 : TpAt edK (upd H7 p (.ins T.c_Machine dx [(Str.ofString "_states", .int n), (Str.ofString "_last", .ref r), (Str.ofString "_edges", .ref b), (Str.ofString "_free", .ref c4)])) b es' := (b6.same S7).but X8 (by simpa using npb) (tups1 X8 nT7)
  have c8 : TpAt lkK (upd H7 p (.ins T.c_Machine dx [(Str.ofString "_states", .int n), (Str.ofString "_last", .ref r), (Str.ofString "_edges", .ref b), (Str.ofString "_free", .ref c4)])) c4 fr' := ac.but X8 (by simpa using npc) (tups1 X8 nT7)
  generalize upd H7 p (.ins T.c_Machine dx [(Str.ofString "_states", .int n), (Str.ofString "_last", .ref r), (Str.ofString "_edges", .ref b), (Str.ofString "_free", .ref c4)]) = H8 at B8 p8 r8 b8 c8 X8 ⊢
  have zl' : xs.length ≤ 100 := Nat.le_trans (srtI_len srt) (by omega)
  have ze' : es'.length ≤ 100 := Nat.le_trans (srtK_len se) (by omega)
  have zf' : fr'.length ≤ 100 := Nat.le_trans (srtK_len sf) (Nat.le_trans (List.length_filter_le _ _) (by omega))
  have bl' : ∀ x ∈ xs, 0 ≤ x ∧ x < 100000 := fun x hx => bl x ((srt.2 x).mp hx)
  have be' : ∀ e ∈ es', (0 ≤ e.1 ∧ e.1 < 100000) ∧ 0 ≤ e.2.2.2 ∧ e.2.2.2 < 100000 := fun x hx => be x ((se.2.2 x).mp hx)
  have bf' : ∀ q ∈ fr', (0 ≤ q.1 ∧ q.1 < 100000) ∧ 0 ≤ q.2 ∧ q.2 < 100000 := fun x hx => bf x (List.mem_filter.mp ((sf.2.2 x).mp hx)).1
  -- closures
  refine ⟨_, rfl, p, _, dx, _, _, rfl, p8, T.cl_Machine, T.na_Machine__free, rfl, c4, fr', rfl, c8, bf', by omega, fun H9 D cm S9 hD cl off ac9 => ?_⟩
  have p9 := S9 _ _ p8
  have npD : D ≠ p := fun z => by rw [z, p8] at hD; cases hD
  have hD0 : H D = none := B8.free (by simpa using npD) hD
  refine ⟨_, rfl, p, _, dx, _, rfl, p9, T.cl_Machine, T.na_Machine__closures, by show 4 < 1000; decide, ?_⟩
  show tSeq _ _ _ _ (upd H9 p (.ins T.c_Machine dx [(Str.ofString "_states", .int n), (Str.ofString "_last", .ref r), (Str.ofString "_edges", .ref b), (Str.ofString "_free", .ref c4), (Str.ofString "_closures", .ref D)]))
  have X10 : But [p] H9 (upd H9 p (.ins T.c_Machine dx [(Str.ofString "_states", .int n), (Str.ofString "_last", .ref r), (Str.ofString "_edges", .ref b), (Str.ofString "_free", .ref c4), (Str.ofString "_closures", .ref D)])) := (But.refl _ _).upd (.inl (by simp))
  have B10 : But [p] H (upd H9 p (.ins T.c_Machine dx [(Str.ofString "_states", .int n), (Str.ofString "_last", .ref r), (Str.ofString "_edges", .ref b), (Str.ofString "_free", .ref c4), (Str.ofString "_closures", .ref D)])) := (B8.trans (But.of S9)).trans X10
  have p10 : upd H9 p (.ins T.c_Machine dx [(Str.ofString "_states", .int n), (Str.ofString "_last", .ref r), (Str.ofString "_edges", .ref b), (Str.ofString "_free", .ref c4), (Str.ofString "_closures", .ref D)]) p = some (.ins T.c_Machine dx [(Str.ofString "_states", .int n), (Str.ofString "_last", .ref r), (Str.ofString "_edges", .ref b), (Str.ofString "_free", .ref c4), (Str.ofString "_closures", .ref D)]) := upd_same
  have nT9 : ∀ zs, H9 p ≠ some (.tup zs) := fun zs z => by rw [p9] at z; cases z
  have r10 : upd H9 p (.ins T.c_Machine dx [(Str.ofString "_states", .int n), (Str.ofString "_last", .ref r), (Str.ofString "_edges", .ref b), (Str.ofString "_free", .ref c4), (Str.ofString "_closures", .ref D)]) r = some (.lst (xs.map V.int)) := by rw [upd_ne npr]; exact S9 _ _ r8
  have b10 : TpAt edK (upd H9 p (.ins T.c_Machine dx [(Str.ofString "_states", .int n), (Str.ofString "_last", .ref r), (Str.ofString "_edges", .ref b), (Str.ofString "_free", .ref c4), (Str.ofString "_closures", .ref D)])) b es' := (b8.same S9).but X10 (by simpa using npb) (tups1 X10 nT9)
  have c10 : TpAt lkK (upd H9 p (.ins T.c_Machine dx [(Str.ofString "_states", .int n), (Str.ofString "_last", .ref r), (Str.ofString "_edges", .ref b), (Str.ofString "_free", .ref c4), (Str.ofString "_closures", .ref D)])) c4 fr' := (c8.same S9).but X10 (by simpa using npc) (tups1 X10 nT9)
  have d10 : ClAt (upd H9 p (.ins T.c_Machine dx [(Str.ofString "_states", .int n), (Str.ofString "_last", .ref r), (Str.ofString "_edges", .ref b), (Str.ofString "_free", .ref c4), (Str.ofString "_closures", .ref D)])) D (fr'.map (·.1)) cm 10000 := let ⟨kvs, q1, q2⟩ := ac9; ⟨kvs, by rw [upd_ne npD]; exact q1, q2⟩
  generalize upd H9 p (.ins T.c_Machine dx [(Str.ofString "_states", .int n), (Str.ofString "_last", .ref r), (Str.ofString "_edges", .ref b), (Str.ofString "_free", .ref c4), (Str.ofString "_closures", .ref D)]) = H10 at B10 p10 r10 b10 c10 d10 X10 ⊢
  -- reads
  refine ⟨_, rfl, p, dx, _, rfl, p10, rfl, p, fr', cm, es', rfl, ⟨dx, _, D, p10, rfl, rfl, d10⟩, off, ⟨dx, _, b, p10, rfl, b10⟩, be', by omega, fun H11 R C G P L S11 RD => ?_⟩
  have p11 := S11 _ _ p10
  have npR : R ≠ p := fun z => by
    have y := RD.dD
    rw [z, p10] at y
    cases y
  refine ⟨_, rfl, p, _, dx, _, rfl, p11, T.cl_Machine, T.na_Machine__reads, by show 5 < 1000; decide, ?_⟩
  have X12 : But [p] H11 (upd H11 p (.ins T.c_Machine dx [(Str.ofString "_states", .int n), (Str.ofString "_last", .ref r), (Str.ofString "_edges", .ref b), (Str.ofString "_free", .ref c4), (Str.ofString "_closures", .ref D), (Str.ofString "_reads", .ref R)])) := (But.refl _ _).upd (.inl (by simp))
  have nT11 : ∀ zs, H11 p ≠ some (.tup zs) := fun zs z => by rw [p11] at z; cases z
  have B12 : But [p] H (upd H11 p (.ins T.c_Machine dx [(Str.ofString "_states", .int n), (Str.ofString "_last", .ref r), (Str.ofString "_edges", .ref b), (Str.ofString "_free", .ref c4), (Str.ofString "_closures", .ref D), (Str.ofString "_reads", .ref R)])) := (B10.trans (But.of S11)).trans X12
  have p12 : upd H11 p (.ins T.c_Machine dx [(Str.ofString "_states", .int n), (Str.ofString "_last", .ref r), (Str.ofString "_edges", .ref b), (Str.ofString "_free", .ref c4), (Str.ofString "_closures", .ref D), (Str.ofString "_reads", .ref R)]) p = some (.ins T.c_Machine dx [(Str.ofString "_states", .int n), (Str.ofString "_last", .ref r), (Str.ofString "_edges", .ref b), (Str.ofString "_free", .ref c4), (Str.ofString "_closures", .ref D), (Str.ofString "_reads", .ref R)]) := upd_same
  have r12 : upd H11 p (.ins T.c_Machine dx [(Str.ofString "_states", .int n), (Str.ofString "_last", .ref r), (Str.ofString "_edges", .ref b), (Str.ofString "_free", .ref c4), (Str.ofString "_closures", .ref D), (Str.ofString "_reads", .ref R)]) r = some (.lst (xs.map V.int)) := by rw [upd_ne npr]; exact S11 _ _ r10
  have b12 : TpAt edK (upd H11 p (.ins T.c_Machine dx [(Str.ofString "_states", .int n), (Str.ofString "_last", .ref r), (Str.ofString "_edges", .ref b), (Str.ofString "_free", .ref c4), (Str.ofString "_closures", .ref D), (Str.ofString "_reads", .ref R)])) b es' := (b10.same S11).but X12 (by simpa using npb) (tups1 X12 nT11)
  have c12 : TpAt lkK (upd H11 p (.ins T.c_Machine dx [(Str.ofString "_states", .int n), (Str.ofString "_last", .ref r), (Str.ofString "_edges", .ref b), (Str.ofString "_free", .ref c4), (Str.ofString "_closures", .ref D), (Str.ofString "_reads", .ref R)])) c4 fr' := (c10.same S11).but X12 (by simpa using npc) (tups1 X12 nT11)
  have d12 : ClAt (upd H11 p (.ins T.c_Machine dx [(Str.ofString "_states", .int n), (Str.ofString "_last", .ref r), (Str.ofString "_edges", .ref b), (Str.ofString "_free", .ref c4), (Str.ofString "_closures", .ref D), (Str.ofString "_reads", .ref R)])) D (fr'.map (·.1)) cm 10000 := let ⟨kvs, q1, q2⟩ := d10.same S11; ⟨kvs, by rw [upd_ne npD]; exact q1, q2⟩
  have e12 : RdsAt H (upd H11 p (.ins T.c_Machine dx [(Str.ofString "_states", .int n), (Str.ofString "_last", .ref r), (Str.ofString "_edges", .ref b), (Str.ofString "_free", .ref c4), (Str.ofString "_closures", .ref D), (Str.ofString "_reads", .ref R)])) R C G P L (prsOf es' cm) 20000 := by
    refine (RD.keep (fun x o hx e => ?_) (tups1 X12 nT11)).base fun x hx => ?_
    · exact X12.at e (fun z => by rw [List.mem_singleton.mp z, p10] at hx; cases hx)
    · exact B10.free (fun z => by rw [List.mem_singleton.mp z, p10] at hx; cases hx) hx
  have eI : putF (Str.ofString "_reads") (.ref R) [(Str.ofString "_states", .int n), (Str.ofString "_last", .ref r), (Str.ofString "_edges", .ref b), (Str.ofString "_free", .ref c4), (Str.ofString "_closures", .ref D)] = [(Str.ofString "_states", .int n), (Str.ofString "_last", .ref r), (Str.ofString "_edges", .ref b), (Str.ofString "_free", .ref c4), (Str.ofString "_closures", .ref D), (Str.ofString "_reads", .ref R)] := by rfl
  rw [eI]
  generalize upd H11 p (.ins T.c_Machine dx [(Str.ofString "_states", .int n), (Str.ofString "_last", .ref r), (Str.ofString "_edges", .ref b), (Str.ofString "_free", .ref c4), (Str.ofString "_closures", .ref D), (Str.ofString "_reads", .ref R)]) = H12 at B12 p12 r12 b12 c12 d12 e12 X12 ⊢
  obtain ⟨m, em, hm⟩ := pow_sum xs srt.1 fun x hx => (bl' x hx).1
  refine ⟨_, rfl, p, _, dx, _, _, rfl, p12, T.cl_Machine, T.na_Machine__last, rfl, r, rfl, ⟨_, SqL.of r12⟩, fun F hF => lc_it walk_list (fun i H' => Same H12 H' ∧ H' F = some (.lst (((xs.take i).map fun x => (2 : Int) ^ x.toNat).map V.int))) ⟨Rz.Same.new (Same.refl _) hF, upd_same⟩ (fun i H' _ h => SqL.of (h.1 _ _ r12)) ?_ ?_⟩
  · rintro i y G1 G2 hi ⟨S, e⟩ ⟨rfl, hy⟩
    obtain ⟨x, hx, rfl⟩ := mapi_get hy
    obtain ⟨x0, x1⟩ := bl' x (List.mem_of_getElem? hx)
    obtain ⟨j, rfl⟩ := Int.eq_ofNat_of_zero_le x0
    refine ⟨rfl, yesT ⟨_, rfl, j, rfl, rfl, by omega, _, e, by simp only [List.length_map, List.length_take]; rw [sizeLine_eq]; omega, Rz.Same.upd S hF, ?_⟩⟩
    rw [upd_same, List.take_add_one, hx, List.map_append, List.map_append]
    rfl
  · rintro H13 ⟨S13', e13⟩
    rw [List.length_map, List.take_length] at e13
    refine ⟨F, _, rfl, SqL.of e13, ?_⟩
    have p13 := S13' _ _ p12
    rw [em]
    refine ⟨_, rfl, p, _, dx, _, rfl, p13, T.cl_Machine, T.na_Machine__final, by show 6 < 1000; decide, ?_⟩
    have X14 : But [p] H13 (upd H13 p (.ins T.c_Machine dx (macF n r b c4 D R m))) := (But.refl _ _).upd (.inl (by simp))
    have nT13 : ∀ zs, H13 p ≠ some (.tup zs) := fun zs z => by rw [p13] at z; cases z
    refine k _ xs es' fr' cm m srt se sf ⟨cl, off, be', bf', hm, bl', zl', ze', zf'⟩ ((B12.trans (But.of S13')).trans X14) ?_
    have MA : MacAt T.c_Machine H H13 p n xs es' fr' cm m → True := fun _ => trivial
    refine ⟨dx, r, b, c4, D, R, C, G, P, L, upd_same, ⟨hr0, by rw [upd_ne npr]; exact S13' _ _ r12⟩, ⟨hb0, (b12.same S13').but X14 (by simpa using npb) (tups1 X14 nT13)⟩, ⟨hc0, (c12.same S13').but X14 (by simpa using npc) (tups1 X14 nT13)⟩, ⟨hD0, let ⟨kvs, q1, q2⟩ := d12.same S13'; ⟨kvs, by rw [upd_ne npD]; exact q1, q2⟩⟩, ?_⟩
    refine (e12.same S13').keep (fun x o hx e => ?_) (tups1 X14 nT13)
    exact X14.at e (fun z => by rw [List.mem_singleton.mp z, hp] at hx; cases hx)
end
end Rz

namespace Rz
open PySem PySem.Spec PyProof.Rows L2
def sp_M_states (cM : Addr) : Sp := fun vs H Q _ => ∃ (H0 : Hp) (p : Addr) (n : Int) (ls : List Int) (es : List Ed) (fr : List Lk) (cm : Int → Nat) (m : Nat), vs = [.ref p] ∧ MacAt cM H0 H p n ls es fr cm m ∧ Q (.int n) H
section
variable {w : World} {K : PySem.W.Frag} {mg : Str → Option Value} {base : Heap}
theorem sc_M_states : FnScope N_Machine_states P_Machine_states (defScope s_Machine_states) := ⟨rfl, rfl, rfl, by decide +kernel, rfl, by decide +kernel, by decide +kernel⟩
theorem ok_Machine_states (T : Txt K mg) : FnOk prg w K mg base (L2.CX prg w) 1 T.f_Machine_states T.fd_Machine_states P_Machine_states (sp_M_states T.c_Machine) := by
  refine Rz.Fun.okN T.F_Machine_states sc_M_states (fun vs H Q E h => ?_) (fun cdv A outer s H vs Q E hr h => ?_)
  · obtain ⟨_, p, n, ls, es, fr, cm, m, rfl, _⟩ := h
    rfl
  obtain ⟨_, p, n, ls, es, fr, cm, m, rfl, ⟨dx, a, b, c, D, R, C, G, P, L, hp, _⟩, k⟩ := h
  have nd := sc_M_states.nd
  refine ⟨_, (pss_one (ps_ret (pe_fld (pv 0) rfl))), ?_⟩
  exact ⟨_, rfl, p, _, dx, _, _, rfl, hp, T.cl_Machine, T.na_Machine__states, rfl, k⟩
end
end Rz

namespace Rz
open PySem PySem.Spec PyProof.Rows L2
def sp_M_last (cM : Addr) : Sp := fun vs H Q _ => ∃ (H0 : Hp) (p : Addr) (n : Int) (ls : List Int) (es : List Ed) (fr : List Lk) (cm : Int → Nat) (m : Nat), vs = [.ref p] ∧ MacAt cM H0 H p n ls es fr cm m ∧ ∀ H' l, Same H H' → H l = none → H' l = some (.lst (ls.map V.int)) → Q (.ref l) H'
section
variable {w : World} {K : PySem.W.Frag} {mg : Str → Option Value} {base : Heap}
theorem sc_M_last : FnScope N_Machine_last P_Machine_last (defScope s_Machine_last) := ⟨rfl, rfl, rfl, by decide +kernel, rfl, by decide +kernel, by decide +kernel⟩
theorem ok_Machine_last (T : Txt K mg) : FnOk prg w K mg base (L2.CX prg w) 1 T.f_Machine_last T.fd_Machine_last P_Machine_last (sp_M_last T.c_Machine) := by
  refine Rz.Fun.okN T.F_Machine_last sc_M_last (fun vs H Q E h => ?_) (fun cdv A outer s H vs Q E hr h => ?_)
  · obtain ⟨_, p, n, ls, es, fr, cm, m, rfl, _⟩ := h
    rfl
  obtain ⟨_, p, n, ls, es, fr, cm, m, rfl, ⟨dx, a, b, c, D, R, C, G, P, L, hp, ⟨_, ha⟩, _⟩, k⟩ := h
  have nd := sc_M_last.nd
  refine ⟨_, (pss_one (ps_ret (pe_callTy call_listS (by rfl) T.n_list (by decide +kernel) (pa_cons (pe_fld (pv 0) rfl) pa_nil)))), ?_⟩
  unfold rListS
  exact ⟨_, rfl, p, _, dx, _, _, rfl, hp, T.cl_Machine, T.na_Machine__last, rfl, a, _, rfl, SqL.of ha, fun q hq => k _ q (Rz.Same.new (Same.refl H) hq) hq upd_same⟩
end
end Rz

namespace Rz
open PySem PySem.Spec PyProof.Rows L2
def sp_M_edges (cM : Addr) : SpG := fun vs H Q _ => ∃ (H0 : Hp) (p : Addr) (n : Int) (ls : List Int) (es : List Ed) (fr : List Lk) (cm : Int → Nat) (m : Nat), vs = [.ref p] ∧ MacAt cM H0 H p n ls es fr cm m ∧ es.length ≤ 10000 ∧ ∀ ts, TpL edK H ts es → Q (ts.map V.ref) H
section
variable {w : World} {K : PySem.W.Frag} {mg : Str → Option Value} {base : Heap}
theorem sc_M_edges : GScope N_Machine_edges P_Machine_edges (defScope s_Machine_edges) := ⟨rfl, rfl, rfl, by decide +kernel, rfl, by decide +kernel, by decide +kernel⟩
theorem ok_Machine_edges (T : Txt K mg) : GFn prg w K mg base 1 T.f_Machine_edges T.fd_Machine_edges P_Machine_edges (sp_M_edges T.c_Machine) := by
  refine gfn_by T.F_Machine_edges sc_M_edges (fun vs H Q E h => ?_) (fun cdv A outer s H vs Q E pn hr h => ?_)
  · obtain ⟨_, p, n, ls, es, fr, cm, m, rfl, _⟩ := h
    rfl
  obtain ⟨_, p, n, ls, es, fr, cm, m, rfl, ⟨dx, a, b, c, D, R, C, G, P, L, hp, _, ⟨_, ts, hb, hT⟩, _⟩, ze, k⟩ := h
  have nd := sc_M_edges.nd
  refine ⟨_, (gss_one (gs_yieldFrom (yf_lst (pe_fld (pv 0) rfl)) hr.hd)), ?_⟩
  refine ⟨_, rfl, p, _, dx, _, _, rfl, hp, T.cl_Machine, T.na_Machine__edges, rfl, b, _, rfl, hb, ?_, ?_⟩
  · rw [List.length_map, hT.len, sizeLine_eq]
    show 0 + _ ≤ _
    omega
  · exact k ts hT
end
end Rz

namespace Rz
open PySem PySem.Spec PyProof.Rows L2
def sp_M_free (cM : Addr) : SpG := fun vs H Q _ => ∃ (H0 : Hp) (p : Addr) (n : Int) (ls : List Int) (es : List Ed) (fr : List Lk) (cm : Int → Nat) (m : Nat), vs = [.ref p] ∧ MacAt cM H0 H p n ls es fr cm m ∧ fr.length ≤ 10000 ∧ ∀ ts, TpL lkK H ts fr → Q (ts.map V.ref) H
section
variable {w : World} {K : PySem.W.Frag} {mg : Str → Option Value} {base : Heap}
theorem sc_M_free : GScope N_Machine_free P_Machine_free (defScope s_Machine_free) := ⟨rfl, rfl, rfl, by decide +kernel, rfl, by decide +kernel, by decide +kernel⟩
theorem ok_Machine_free (T : Txt K mg) : GFn prg w K mg base 1 T.f_Machine_free T.fd_Machine_free P_Machine_free (sp_M_free T.c_Machine) := by
  refine gfn_by T.F_Machine_free sc_M_free (fun vs H Q E h => ?_) (fun cdv A outer s H vs Q E pn hr h => ?_)
  · obtain ⟨_, p, n, ls, es, fr, cm, m, rfl, _⟩ := h
    rfl
  obtain ⟨_, p, n, ls, es, fr, cm, m, rfl, ⟨dx, a, b, c, D, R, C, G, P, L, hp, _, _, ⟨_, ts, hb, hT⟩, _⟩, ze, k⟩ := h
  have nd := sc_M_free.nd
  refine ⟨_, (gss_one (gs_yieldFrom (yf_lst (pe_fld (pv 0) rfl)) hr.hd)), ?_⟩
  refine ⟨_, rfl, p, _, dx, _, _, rfl, hp, T.cl_Machine, T.na_Machine__free, rfl, c, _, rfl, hb, ?_, ?_⟩
  · rw [List.length_map, hT.len, sizeLine_eq]
    show 0 + _ ≤ _
    omega
  · exact k ts hT
end
end Rz

namespace Rz
open PySem PySem.Spec PyProof.Rows L2
def sp_after_pairs : Sp := fun vs H Q _ => ∃ (x : Nat) (l : Addr) (ps : List (Nat × Nat)), vs = [.int ((x : Nat) : Int), .ref l] ∧ TpAt prK H l ps ∧ Q (.int ((afterP x ps : Nat) : Int)) H
section
variable {w : World} {K : PySem.W.Frag} {mg : Str → Option Value} {base : Heap}
theorem sc_after_pairs : FnScope N__after_pairs P__after_pairs (defScope s__after_pairs) := ⟨rfl, rfl, rfl, by decide +kernel, rfl, by decide +kernel, by decide +kernel⟩
theorem afterP_snoc (x : Nat) (ps : List (Nat × Nat)) (p : Nat × Nat) : afterP x (ps ++ [p]) = if x &&& p.1 ≠ 0 then afterP x ps ||| p.2 else afterP x ps := by
  unfold afterP
  rw [List.foldl_append]
  rfl
theorem ok_after_pairs (T : Txt K mg) : FnOk prg w K mg base (L2.CX prg w) 1 T.f__after_pairs T.fd__after_pairs P__after_pairs sp_after_pairs := by
  refine Rz.Fun.okN T.F__after_pairs sc_after_pairs (fun vs H Q E h => ?_) (fun cdv A outer s H vs Q E hr h => ?_)
  · obtain ⟨x, l, ps, rfl, _⟩ := h
    rfl
  obtain ⟨x, l, ps, rfl, ⟨ts, el, hP⟩, k⟩ := h
  have nd := sc_after_pairs.nd
  refine ⟨_, (pss_cons (ps_set (i := 2) nd rfl (Or.inl rfl) pe_int)
    (pss_cons (ps_for PassesOwn.never rfl (pi_list (pv 1)) (pg_tup rfl (pgs_cons (pg_name (i := 3) nd rfl (Or.inl rfl)) (pgs_cons (pg_name (i := 4) nd rfl (Or.inl rfl)) pgs_nil)))
      (pss_one (ps_if (pt_truth (pe_op op_and (pv 0) (pv 3)) (by intro _; rfl)) (pss_one (ps_set (i := 2) nd rfl (Or.inl rfl) (pe_op op_or (pv 2) (pv 4)))) pss_nil)))
    (pss_one (ps_ret (pv 2))))), ?_⟩
  refine ⟨_, rfl, l, rfl, ⟨_, SqL.of el⟩, for_list (K := K) (a := l) (xs := ts.map V.ref) (fun i σ H' => ∃ (v3 v4 : Option V), σ = [some (.int (x : Nat)), some (.ref l), some (.int ((afterP x (ps.take i) : Nat) : Int)), v3, v4] ∧ H' = H)
    ⟨none, none, rfl, rfl⟩ (fun i σ H' _ ⟨_, _, _, e⟩ => by rw [e]; exact SqL.of el) ?_ ?_⟩
  · rintro i y σ H' hi ⟨v3, v4, rfl, rfl⟩
    obtain ⟨t, ht, rfl⟩ := refs_get hi
    obtain ⟨⟨a, b⟩, hp, et⟩ := hP.get ht
    have et : H' t = some (.tup [.int (a : Nat), .int (b : Nat)]) := et
    have tk1 : ps.take (i + 1) = ps.take i ++ [(a, b)] := by rw [List.take_add_one, hp]; rfl
    refine ⟨t, _, rfl, SqT.of et, rfl, _, _, rfl, _, _, rfl, rfl, ?_⟩
    have tr : decide (x &&& a ≠ 0) = (Builtin.bitAnd ((x : Nat) : Int) ((a : Nat) : Int) != 0) := by
      rw [band_nat]
      by_cases z : x &&& a = 0
      · rw [z]
        rfl
      · have z2 : (((x &&& a : Nat) : Int) != 0) = true := by
          rw [bne_iff_ne]
          omega
        rw [decide_eq_true z, z2]
    refine ⟨_, rfl, _, rfl, _, _, rfl, rfl, _, tr, ?_⟩
    by_cases z : x &&& a = 0
    · rw [decide_eq_false (fun y => y z)]
      refine iteF ⟨some (.int (a : Nat)), some (.int (b : Nat)), ?_, rfl⟩
      rw [tk1, afterP_snoc, if_neg (fun y => y z)]
      rfl
    · rw [decide_eq_true z]
      refine iteT ⟨_, rfl, _, rfl, _, _, rfl, rfl, some (.int (a : Nat)), some (.int (b : Nat)), ?_, rfl⟩
      rw [tk1, afterP_snoc, if_pos z]
      show [_, _, some (V.int (Builtin.bitOr ((afterP x (ps.take i) : Nat) : Int) ((b : Nat) : Int))), _, _] = _
      rw [bor_nat]
  · rintro σ H1 ⟨v3, v4, rfl, rfl⟩
    rw [List.length_map, hP.len, List.take_length]
    exact ⟨_, rfl, k⟩
end
end Rz

namespace Rz
open PySem PySem.Spec PyProof.Rows L2
theorem MacAt.c {cM : Addr} {H0 H : Hp} {p : Addr} {n : Int} {ls : List Int} {es : List Ed} {fr : List Lk} {cm : Int → Nat} {m : Nat} (M : MacAt cM H0 H p n ls es fr cm m) : MacC cM H p fr cm :=
  let ⟨dx, _, _, _, D, _, _, _, _, _, hp, _, _, _, ⟨_, hD⟩, _⟩ := M
  ⟨dx, _, D, hp, rfl, rfl, hD⟩
/-- the pairs of a sign and a height, or none -/
theorem rds_get {H0 H : Hp} {D : Addr} {C : Nat → Prop} {G : Nat → Int → Prop} {P : Nat → Addr} {L : Nat → Int → Addr} {pr : Nat → Int → List (Nat × Nat)} {n : Nat} (R : RdsAt H0 H D C G P L pr n) (c : Nat) (h : Int) :
    ∃ kvs : List (Key × V), H D = some (.dK kvs) ∧ ((valV kvs (sgK c) = none ∧ pr c h = []) ∨ ∃ kin : List (Key × V), valV kvs (sgK c) = some (.ref (P c)) ∧ H (P c) = some (.dK kin) ∧ ((valV kin (.inl h) = none ∧ pr c h = []) ∨ (valV kin (.inl h) = some (.ref (L c h)) ∧ TpAt prK H (L c h) (pr c h)))) := by
  obtain ⟨kvs, e, _, r⟩ := R.out
  refine ⟨kvs, e, ?_⟩
  by_cases hc : C c
  · obtain ⟨_, _, kin, e2, _, _, r2⟩ := R.inn c hc
    refine .inr ⟨kin, (r c).1 hc, e2, ?_⟩
    by_cases hg : G c h
    · exact .inr ⟨(r2 h).1 hg, (R.lst c h hg).2.2⟩
    · exact .inl ⟨(r2 h).2 hg, R.off c h hg⟩
  · exact .inl ⟨(r c).2 hc, R.off c h fun g => hc (R.lst c h g).1⟩
def sp_M_after_row (cM cR : Addr) : Sp := fun vs H Q _ => ∃ (H0 : Hp) (p r l : Addr) (s n : Int) (ps : List Pr) (ls : List Int) (es : List Ed) (fr : List Lk) (cm : Int → Nat) (m : Nat), vs = [.ref p, .int s, .ref r] ∧ MacAt cM H0 H p n ls es fr cm m ∧ OffC fr cm ∧ 0 ≤ s ∧ s < 100000 ∧ RAt cR H r l ps ∧ ∀ H', Same H H' → Q (.int ((rowM es cm (cm s) ps : Nat) : Int)) H'
section
variable {w : World} {K : PySem.W.Frag} {mg : Str → Option Value} {base : Heap}
theorem sc_M_after_row : FnScope N_Machine_after_row P_Machine_after_row (defScope s_Machine_after_row) := ⟨rfl, rfl, rfl, by decide +kernel, rfl, by decide +kernel, by decide +kernel⟩
theorem ok_Machine_after_row (T : Txt K mg) : FnOk prg w K mg base (L2.CX prg w) 2 T.f_Machine_after_row T.fd_Machine_after_row P_Machine_after_row (sp_M_after_row T.c_Machine T.c_Row) := by
  refine Rz.Fun.okN T.F_Machine_after_row sc_M_after_row (fun vs H Q E h => ?_) (fun cdv A outer s H vs Q E hr h => ?_)
  · obtain ⟨_, p, r, l, x, n, ps, ls, es, fr, cm, m, rfl, _⟩ := h
    rfl
  obtain ⟨H0, p, r, l, x, n, ps, ls, es, fr, cm, m, rfl, MA, off, x0, x1, RA, k⟩ := h
  have nd := sc_M_after_row.nd
  have hu : (A.deeper (envOfC "Machine._after_row" (defScope s_Machine_after_row) s.heap.objs.size T.f_Machine_after_row cdv)).units + 1 < cLine := by
    have := hr.un
    omega
  refine ⟨_, (pss_cons (ps_set (i := 3) nd rfl (Or.inl rfl) (pe_mt (pv 0) T.cl_Machine T.M_Machine_closed (ok_Machine_closed T) (hr.mono (by decide)) T.b_Machine_closed .nil (fun _ => atN _) (pa_cons (pv 1) pa_nil)))
    (pss_cons (ps_for PassesOwn.never rfl (pi_ownL T.M_Row_iter (ok_Row_iter T) (hr.mono (by decide)) (pv 2)) (pg_tup rfl (pgs_cons (pg_name (i := 4) nd rfl (Or.inl rfl)) (pgs_cons (pg_name (i := 5) nd rfl (Or.inl rfl)) pgs_nil)))
      (pss_one (ps_set (i := 3) nd rfl (Or.inl rfl) (pe_fn (ok_after_pairs T) (hr.mono (by decide)) (by rfl) T.m__after_pairs T.F__after_pairs.kp T.b__after_pairs .nil (fun _ => atN _) (pa_cons (pv 3) (pa_cons (pe_dget2 hu (pe_dget2 hu (pe_fld (pv 0) rfl) (pv 4) pe_dnewK ⟨rfl, rfl, rfl, rfl⟩) (pv 5) (pe_lst pa_nil) ⟨rfl, rfl, rfl, rfl⟩) pa_nil))))))
    (pss_one (ps_ret (pv 3))))), ?_⟩
  obtain ⟨dx, hp, hL⟩ := id RA
  obtain ⟨ts, el, hP⟩ := id hL
  obtain ⟨dxm, fs, Dc, hpm, hc1, hc2, hc3⟩ := MA.c
  refine ⟨_, rfl, p, dxm, fs, rfl, hpm, hc2, _, rfl, p, x, fr, cm, rfl, MA.c, off, x0, x1, ?_⟩
  refine ⟨_, rfl, r, l, dx, _, _, rfl, hp, ⟨dx, _, hp, el⟩, SqL.of el, for_list (K := K) (a := l) (xs := ts.map V.ref) (fun i σ H' => ∃ (v4 v5 : Option V), σ = [some (.ref p), some (.int x), some (.ref r), some (.int ((rowM es cm (cm x) (ps.take i) : Nat) : Int)), v4, v5] ∧ Same H H')
    ⟨none, none, rfl, Same.refl H⟩ (fun i σ H' _ ⟨_, _, _, S⟩ => SqL.of (S _ _ el)) ?_ ?_⟩
  · rintro i y σ H' hi ⟨v4, v5, rfl, S⟩
    obtain ⟨t, ht, rfl⟩ := refs_get hi
    obtain ⟨⟨c, h⟩, hx, et⟩ := hP.get ht
    have et : H t = some (.tup [.str ⟨#[c]⟩, .int h]) := et
    have tk1 : ps.take (i + 1) = ps.take i ++ [(c, h)] := by rw [List.take_add_one, hx]; rfl
    have MA1 := MA.same S
    obtain ⟨dx1, a1, b1, c1, D1, R1, C1, G1, P1, L1, hp1, _, _, _, _, RD⟩ := id MA1
    obtain ⟨kvs, eR, hg⟩ := rds_get RD c h
    refine ⟨t, _, rfl, SqT.of (S _ _ et), rfl, _, _, rfl, _, _, rfl, rfl, ?_⟩
    refine ⟨_, rfl, _, rfl, p, _, dx1, _, _, rfl, hp1, T.cl_Machine, T.na_Machine__reads, rfl, R1, rfl, .inl ⟨kvs, .inl eR⟩, _, rfl, fun q hq => ?_⟩
    have S1 := Rz.Same.new (o := .dK []) (Same.refl H') hq
    refine ⟨_, DGet.k (k := sgK c) (S1 _ _ eR), ?_⟩
    have fin : ∀ (H2 : Hp) (u : Addr), Same H H2 → TpAt prK H2 u (prsOf es cm c h) → ∃ (v4 v5 : Option V), [some (V.ref p), some (V.int x), some (V.ref r), some (V.int ((afterP (rowM es cm (cm x) (ps.take i)) (prsOf es cm c h) : Nat) : Int)), some (V.str ⟨#[c]⟩), some (V.int h)] = [some (.ref p), some (.int x), some (.ref r), some (.int ((rowM es cm (cm x) (ps.take (i + 1)) : Nat) : Int)), v4, v5] ∧ Same H H2 := fun H2 u S2 _ => by
      refine ⟨some (.str ⟨#[c]⟩), some (.int h), ?_, S2⟩
      rw [tk1, rowM_snoc]
    rcases hg with ⟨e1, e2⟩ | ⟨kin, e1, eP, hg⟩
    · rw [e1]
      have eq1 : upd H' q (.dK []) q = some (.dK []) := upd_same
      refine ⟨q, rfl, .inl ⟨[], .inl eq1⟩, _, rfl, by show 0 ≤ sizeLine; decide, fun u hu2 => ?_⟩
      have S2 := Rz.Same.new (o := .lst []) (Same.refl (upd H' q (.dK []))) hu2
      refine ⟨none, DGet.k (k := .inl h) (S2 _ _ eq1), ?_⟩
      have at2 : TpAt prK (upd (upd H' q (.dK [])) u (.lst [])) u (prsOf es cm c h) := by
        rw [e2]
        exact ⟨[], upd_same, .nil⟩
      exact ⟨_, u, _, rfl, at2, fin _ u ((S.trans S1).trans S2) at2⟩
    · rw [e1]
      refine ⟨P1 c, rfl, .inl ⟨kin, .inl (S1 _ _ eP)⟩, _, rfl, by show 0 ≤ sizeLine; decide, fun u hu2 => ?_⟩
      have S2 := Rz.Same.new (o := .lst []) (Same.refl (upd H' q (.dK []))) hu2
      refine ⟨_, DGet.k (k := .inl h) (S2 _ _ (S1 _ _ eP)), ?_⟩
      rcases hg with ⟨e3, e2⟩ | ⟨e3, A3⟩
      · rw [e3]
        have at2 : TpAt prK (upd (upd H' q (.dK [])) u (.lst [])) u (prsOf es cm c h) := by
          rw [e2]
          exact ⟨[], upd_same, .nil⟩
        exact ⟨_, u, _, rfl, at2, fin _ u ((S.trans S1).trans S2) at2⟩
      · rw [e3]
        have at2 := (A3.same S1).same S2
        exact ⟨_, _, _, rfl, at2, fin _ _ ((S.trans S1).trans S2) at2⟩
  · rintro σ H1 ⟨v4, v5, rfl, S⟩
    rw [List.length_map, PAt.length hP, List.take_length]
    exact ⟨_, rfl, k _ S⟩
end
end Rz

namespace Rz
open PySem PySem.Spec PyProof.Rows L2
theorem walk_vals {d : Addr} {od : Obj} {kvs : List (Key × V)} : Walk (Itd d od kvs) kvs.length (fun H => H d = some (.frz od (.dK kvs))) (fun i H x H' => H' = H ∧ ∃ k, kvs[i]? = some (k, x)) :=
  ⟨fun _ _ lt g => ⟨g, lt⟩, fun _ g => ⟨g, Nat.le_refl _⟩, fun _ _ _ _ _ _ y => y⟩
/-- the lists of a sign, whatever the height -/
theorem rds_vals {H0 H : Hp} {D : Addr} {C : Nat → Prop} {G : Nat → Int → Prop} {P : Nat → Addr} {L : Nat → Int → Addr} {pr : Nat → Int → List (Nat × Nat)} {n : Nat} (R : RdsAt H0 H D C G P L pr n) (c : Nat) :
    ∃ kvs : List (Key × V), H D = some (.dK kvs) ∧ ((valV kvs (sgK c) = none ∧ ∀ h, pr c h = []) ∨ ∃ kin : List (Key × V), valV kvs (sgK c) = some (.ref (P c)) ∧ H (P c) = some (.dK kin) ∧ kin.length ≤ n ∧ (∀ x ∈ kin, ∃ (h : Int) (l : Addr), x.2 = .ref l ∧ l ≠ P c ∧ TpAt prK H l (pr c h)) ∧ ∀ h, pr c h ≠ [] → ∃ x ∈ kin, ∃ l, x.2 = .ref l ∧ TpAt prK H l (pr c h)) := by
  obtain ⟨kvs, e, _, r⟩ := R.out
  refine ⟨kvs, e, ?_⟩
  by_cases hc : C c
  · obtain ⟨_, _, kin, e2, z2, i2, r2⟩ := R.inn c hc
    have at_ : ∀ h, G c h → L c h ≠ P c ∧ TpAt prK H (L c h) (pr c h) := fun h hg => by
      have A := (R.lst c h hg).2.2
      refine ⟨fun z => ?_, A⟩
      obtain ⟨ts, q, _⟩ := A
      rw [z, e2] at q
      cases q
    refine .inr ⟨kin, (r c).1 hc, e2, z2, fun x hx => ?_, fun h nh => ?_⟩
    · obtain ⟨⟨h, eh⟩, ev⟩ := i2 x hx
      rw [eh] at ev
      by_cases hg : G c h
      · rw [(r2 h).1 hg] at ev
        exact ⟨h, L c h, (Option.some.inj ev).symm, (at_ h hg).1, (at_ h hg).2⟩
      · rw [(r2 h).2 hg] at ev
        cases ev
    · have hg : G c h := Classical.byContradiction fun z => nh (R.off c h z)
      exact ⟨_, mem_valV ((r2 h).1 hg), L c h, rfl, (at_ h hg).2⟩
  · exact .inl ⟨(r c).2 hc, fun h => R.off c h fun g => hc (R.lst c h g).1⟩
theorem mem_prsT {es : List Ed} {cm : Int → Nat} {c : Nat} {p : Nat × Nat} : p ∈ prsT es cm c ↔ ∃ h, p ∈ prsOf es cm c h := by
  unfold prsT prsOf
  constructor
  · intro z
    obtain ⟨e, he, rfl⟩ := List.mem_map.mp z
    obtain ⟨h1, h2⟩ := List.mem_filter.mp he
    exact ⟨e.2.2.1, List.mem_map.mpr ⟨e, List.mem_filter.mpr ⟨h1, decide_eq_true ⟨of_decide_eq_true h2, rfl⟩⟩, rfl⟩⟩
  · rintro ⟨h, z⟩
    obtain ⟨e, he, rfl⟩ := List.mem_map.mp z
    obtain ⟨h1, h2⟩ := List.mem_filter.mp he
    exact List.mem_map.mpr ⟨e, List.mem_filter.mpr ⟨h1, decide_eq_true (of_decide_eq_true h2).1⟩, rfl⟩
def flatTo {α : Type} (g : Nat → List α) : Nat → List α
  | 0 => []
  | i + 1 => flatTo g i ++ g i
theorem mem_flatTo {α : Type} {g : Nat → List α} {p : α} : ∀ {i : Nat}, p ∈ flatTo g i ↔ ∃ j, j < i ∧ p ∈ g j
  | 0 => ⟨fun z => (by cases z), fun ⟨j, lt, _⟩ => absurd lt (Nat.not_lt_zero j)⟩
  | i + 1 => by
    show p ∈ flatTo g i ++ g i ↔ _
    rw [List.mem_append, mem_flatTo (i := i)]
    constructor
    · rintro (⟨j, lt, h⟩ | h)
      · exact ⟨j, Nat.lt_succ_of_lt lt, h⟩
      · exact ⟨i, Nat.lt_succ_self i, h⟩
    · rintro ⟨j, lt, h⟩
      by_cases e : j = i
      · exact .inr (e ▸ h)
      · exact .inl ⟨j, by omega, h⟩
theorem len_flatTo {α : Type} {g : Nat → List α} (h : ∀ j, (g j).length ≤ 100) : ∀ i, (flatTo g i).length ≤ 100 * i
  | 0 => Nat.le_refl _
  | i + 1 => by
    have a := len_flatTo h i
    have b := h i
    show (flatTo g i ++ g i).length ≤ _
    rw [List.length_append]
    omega
theorem mapref_inj : ∀ {xs ys : List Addr}, xs.map V.ref = ys.map V.ref → xs = ys
  | [], [], _ => rfl
  | [], _ :: _, h => by cases h
  | _ :: _, [], h => by cases h
  | x :: xs, y :: ys, h => by
    rw [List.map_cons, List.map_cons] at h
    injection h with h1 h2
    injection h1 with h1
    rw [h1, mapref_inj h2]
theorem prK_inj : ∀ a b : Nat × Nat, prK a = prK b → a = b := fun ⟨a1, a2⟩ ⟨b1, b2⟩ e => by
  simp only [prK, List.cons.injEq, Sum.inl.injEq, and_true] at e
  have q1 : a1 = b1 := by omega
  have q2 : a2 = b2 := by omega
  rw [q1, q2]
theorem tp_inj {α : Type} {F : α → List Key} (inj : ∀ a b, F a = F b → a = b) {H : Hp} : ∀ {ts : List Addr} {xs ys : List α}, TpL F H ts xs → TpL F H ts ys → xs = ys
  | _, _, _, .nil, .nil => rfl
  | _, _, _, .cons a r, .cons b q => by
    rw [a] at b
    injection b with b
    injection b with b
    rw [inj _ _ (kVs_inj b), tp_inj inj r q]
theorem tpAt_inj {α : Type} {F : α → List Key} (inj : ∀ a b, F a = F b → a = b) {H : Hp} {l : Addr} {xs ys : List α} : TpAt F H l xs → TpAt F H l ys → xs = ys := fun ⟨ts, e1, h1⟩ ⟨us, e2, h2⟩ => by
  rw [e1] at e2
  injection e2 with e2
  injection e2 with e2
  rw [← mapref_inj e2] at h2
  exact tp_inj inj h1 h2
/-- [pair for pairs in d.values() for pair in pairs] -/
theorem vals_go {K : PySem.W.Frag} {H : Hp} {Q : VK} {a0 a1 a2 a3 a4 v6 v7 : Option V} {d : Addr} {kin : List (Key × V)} (hd : H d = some (.dK kin)) (few : kin.length ≤ 20000)
    (hx : ∀ x ∈ kin, ∃ (l : Addr) (qs : List (Nat × Nat)), x.2 = .ref l ∧ l ≠ d ∧ TpAt prK H l qs ∧ qs.length ≤ 100)
    (k : ∀ H' D ps, Same H H' → TpAt prK H' D ps → (∀ q, q ∈ ps → ∃ x ∈ kin, ∃ l qs, x.2 = .ref l ∧ TpAt prK H l qs ∧ q ∈ qs) → (∀ x ∈ kin, ∀ l qs, x.2 = .ref l → TpAt prK H l qs → ∀ q ∈ qs, q ∈ ps) → Q (.ref D) H') :
    tLockE (tLc2 (iVals (tVar 5)) (gName 6) tYes (iList K (tVar 6)) (gName 7) tYes (tVar 7) [6, 7] [7]) [a0, a1, a2, a3, a4, some (.ref d), v6, v7] H Q := by
  obtain ⟨g, hg⟩ : ∃ g : Nat → Addr × List (Nat × Nat), ∀ i : Nat, (∀ y, kin[i]? = some y → y.2 = .ref (g i).1 ∧ (g i).1 ≠ d ∧ TpAt prK H (g i).1 (g i).2) ∧ (g i).2.length ≤ 100 := by
    refine Classical.axiomOfChoice (r := fun (i : Nat) (u : Addr × List (Nat × Nat)) => (∀ y, kin[i]? = some y → y.2 = .ref u.1 ∧ u.1 ≠ d ∧ TpAt prK H u.1 u.2) ∧ u.2.length ≤ 100) fun i => ?_
    cases e : kin[i]? with
    | none => exact ⟨(0, []), fun y z => (by cases z), Nat.zero_le _⟩
    | some y =>
      obtain ⟨l, qs, h1, h2, h3, h4⟩ := hx y (List.mem_of_getElem? e)
      exact ⟨(l, qs), fun y2 z => by cases z; exact ⟨h1, h2, h3⟩, h4⟩
  have inj : ∀ {l : Addr} {qs rs : List (Nat × Nat)}, TpAt prK H l qs → TpAt prK H l rs → qs = rs := fun {l qs rs} ⟨ts, e1, h1⟩ ⟨us, e2, h2⟩ => by
    rw [e1] at e2
    injection e2 with e2
    injection e2 with e2
    rw [← mapref_inj e2] at h2
    exact tp_inj prK_inj h1 h2
  refine ⟨d, _, hd, trivial, fun od => ?_⟩
  have eF : upd H d (.frz od (.dK kin)) d = some (.frz od (.dK kin)) := upd_same
  have lF : ∀ {l : Addr} {qs : List (Nat × Nat)}, l ≠ d → TpAt prK H l qs → TpAt prK (upd H d (.frz od (.dK kin))) l qs := fun {l qs} n ⟨ts, e, r⟩ => ⟨ts, by rw [upd_ne n]; exact e, r.keep (Tups.upd (Tups.of (Same.refl H)) (fun xs z => by rw [hd] at z; cases z))⟩
  have back : ∀ {b : Addr}, b ≠ d → upd H d (.frz od (.dK kin)) b = H b := fun {b} n => upd_ne n
  generalize hF : upd H d (.frz od (.dK kin)) = F at eF lF back
  refine ⟨_, rfl, d, od, kin, rfl, eF, fun D hD => wk_it walk_vals (fun i G => Same F G ∧ TpAt prK G D (flatTo (fun j => (g j).2) i)) ⟨Rz.Same.new (Same.refl F) hD, [], upd_same, .nil⟩ (fun i G _ h => h.1 _ _ eF) ?_ ?_⟩
  · rintro i y G G2 hi ⟨S, A⟩ ⟨rfl, key, hy⟩
    obtain ⟨e2, nl, A2⟩ := (hg i).1 _ hy
    have e2 : y = .ref (g i).1 := e2
    subst e2
    obtain ⟨us, el, hU⟩ := lF nl A2
    have lU := hU.len
    refine ⟨rfl, yesT ?_⟩
    refine ⟨_, rfl, (g i).1, rfl, ⟨_, SqL.of (S _ _ el)⟩, wk_list (K := K) (a := (g i).1) (xs := us.map V.ref) (fun j G => Same F G ∧ TpAt prK G D (flatTo (fun j => (g j).2) i ++ (g i).2.take j)) ⟨S, by rw [List.take_zero, List.append_nil]; exact A⟩ (fun j G _ h => SqL.of (h.1 _ _ el)) ?_ ?_⟩
    · rintro j y G3 hj ⟨S3, ts, eD, hT⟩
      obtain ⟨t, ht, rfl⟩ := refs_get hj
      obtain ⟨q, hq, et⟩ := hU.get ht
      have tk1 : (g i).2.take (j + 1) = (g i).2.take j ++ [q] := by rw [List.take_add_one, hq]; rfl
      refine ⟨rfl, yesT ⟨_, rfl, _, eD, ?_, Rz.Same.upd S3 hD, ts ++ [t], ?_, ?_⟩⟩
      · have z1 := len_flatTo (g := fun j => (g j).2) (fun j => (hg j).2) i
        have z2 := (hg i).2
        have z3 := hT.len
        rw [List.length_append, List.length_take] at z3
        rw [List.length_map, sizeLine_eq]
        omega
      · rw [upd_same, List.map_append]
        rfl
      · rw [tk1, ← List.append_assoc]
        have T : Tups G3 (upd G3 D (.lst (ts.map V.ref ++ [.ref t]))) := Tups.upd (Tups.of (Same.refl G3)) (fun xs z => by rw [eD] at z; cases z)
        exact (hT.keep T).append (.cons (T _ _ (S3 _ _ et)) .nil)
    · rintro G3 ⟨S3, A3⟩
      rw [List.length_map, lU, List.take_length] at A3
      exact ⟨S3, A3⟩
  · rintro G ⟨S, A⟩
    have eG := S _ _ eF
    refine ⟨eG, ?_⟩
    have nDd : D ≠ d := fun z => by rw [z, eF] at hD; cases hD
    have S2 : Same H (upd G d (.dK kin)) := fun b o e => by
      by_cases n : b = d
      · rw [n, upd_same]
        rw [n, hd] at e
        exact e
      · rw [upd_ne n]
        exact S _ _ (by rw [back n]; exact e)
    refine k _ D (flatTo (fun j => (g j).2) kin.length) S2 ?_ (fun q hq => ?_) fun x hxk l qs ex A2 q hq => ?_
    · obtain ⟨ts, e, hT⟩ := A
      exact ⟨ts, by rw [upd_ne nDd]; exact e, hT.keep (Tups.upd (Tups.of (Same.refl G)) (fun xs z => by rw [eG] at z; cases z))⟩
    · obtain ⟨j, lt, hj⟩ := mem_flatTo.mp hq
      obtain ⟨h1, _, h3⟩ := (hg j).1 kin[j] (List.getElem?_eq_getElem lt)
      exact ⟨kin[j], List.getElem_mem lt, _, _, h1, h3, hj⟩
    · obtain ⟨j, lt, ej⟩ := List.getElem_of_mem hxk
      obtain ⟨h1, _, h3⟩ := (hg j).1 kin[j] (List.getElem?_eq_getElem lt)
      rw [ej, ex] at h1
      injection h1 with h1
      rw [← h1] at h3
      have : qs = (g j).2 := inj A2 h3
      exact mem_flatTo.mpr ⟨j, lt, by rw [← this]; exact hq⟩
def sp_M_after_signs (cM : Addr) : Sp := fun vs H Q _ => ∃ (H0 : Hp) (p : Addr) (s n : Int) (z : Str) (ls : List Int) (es : List Ed) (fr : List Lk) (cm : Int → Nat) (m : Nat), vs = [.ref p, .int s, .str z] ∧ MacAt cM H0 H p n ls es fr cm m ∧ OffC fr cm ∧ 0 ≤ s ∧ s < 100000 ∧ es.length ≤ 100 ∧ ∀ H', Same H H' → Q (.int ((textM es cm (cm s) z.cps.toList : Nat) : Int)) H'
section
variable {w : World} {K : PySem.W.Frag} {mg : Str → Option Value} {base : Heap}
theorem sc_M_after_signs : FnScope N_Machine_after_signs P_Machine_after_signs (defScope s_Machine_after_signs) := ⟨rfl, rfl, rfl, by decide +kernel, rfl, by decide +kernel, by decide +kernel⟩
theorem ok_Machine_after_signs (T : Txt K mg) : FnOk prg w K mg base (L2.CX prg w) 2 T.f_Machine_after_signs T.fd_Machine_after_signs P_Machine_after_signs (sp_M_after_signs T.c_Machine) := by
  refine Rz.Fun.okN T.F_Machine_after_signs sc_M_after_signs (fun vs H Q E h => ?_) (fun cdv A outer s H vs Q E hr h => ?_)
  · obtain ⟨_, p, x, n, z, ls, es, fr, cm, m, rfl, _⟩ := h
    rfl
  obtain ⟨H0, p, x, n, z, ls, es, fr, cm, m, rfl, MA, off, x0, x1, ze, k⟩ := h
  have nd := sc_M_after_signs.nd
  have hu : (A.deeper (envOfC "Machine._after_signs" (defScope s_Machine_after_signs) s.heap.objs.size T.f_Machine_after_signs cdv)).units + 1 < cLine := by
    have := hr.un
    omega
  refine ⟨_, (pss_cons (ps_set (i := 3) nd rfl (Or.inl rfl) (pe_mt (pv 0) T.cl_Machine T.M_Machine_closed (ok_Machine_closed T) (hr.mono (by decide)) T.b_Machine_closed .nil (fun _ => atN _) (pa_cons (pv 1) pa_nil)))
    (pss_cons (ps_for PassesOwn.never rfl (pi_str (pv 2)) (pg_name (i := 4) nd rfl (Or.inl rfl))
      (pss_cons (ps_set (i := 5) nd rfl (Or.inl rfl) (pe_dget2 hu (pe_fld (pv 0) rfl) (pv 4) pe_dnewK ⟨rfl, rfl, rfl, rfl⟩))
      (pss_one (ps_set (i := 3) nd rfl (Or.inl rfl) (pe_fn (ok_after_pairs T) (hr.mono (by decide)) (by rfl) T.m__after_pairs T.F__after_pairs.kp T.b__after_pairs .nil (fun _ => atN _) (pa_cons (pv 3) (pa_cons (pe_lock (pe_lc2 (own := [("pairs", 6), ("pair", 7)]) (g := (gName 6)) (tt := tYes) (vs1 := [7]) (wi1 := iList K (tVar 6)) (g1 := (gName 7)) (tt1 := tYes) rfl nd (pi_values (pv 5)) (blkOk_by (N := N_Machine_after_signs) (sc := defScope s_Machine_after_signs) (by decide +kernel)) (by decide) (fun _ _ _ _ _ => (pg_name (i := 6) nd rfl (Or.inl rfl))) (fun _ _ _ _ _ => pts_nil) (fun _ _ _ _ _ => pi_list (pv 6)) (fun _ _ _ _ _ => (pg_name (i := 7) nd rfl (Or.inl rfl))) (fun _ _ _ _ _ => pts_nil) (fun _ _ _ _ _ => (pv 7)))) pa_nil)))))))
    (pss_one (ps_ret (pv 3))))), ?_⟩
  obtain ⟨dxm, fs, Dc, hpm, hc1, hc2, hc3⟩ := MA.c
  refine ⟨_, rfl, p, dxm, fs, rfl, hpm, hc2, _, rfl, p, x, fr, cm, rfl, MA.c, off, x0, x1, ?_⟩
  refine ⟨_, rfl, z, rfl, for_it walk_str (fun i σ H' => ∃ (v4 v5 v6 v7 : Option V), σ = [some (.ref p), some (.int x), some (.str z), some (.int ((textM es cm (cm x) (z.cps.toList.take i) : Nat) : Int)), v4, v5, v6, v7] ∧ Same H H')
    ⟨none, none, none, none, rfl, Same.refl H⟩ (fun _ _ _ _ _ => trivial) ?_ ?_⟩
  · rintro i y σ H1 H' hi ⟨v4, v5, v6, v7, rfl, S⟩ ⟨rfl, c, hc, rfl⟩
    have hc2 : z.cps.toList[i]? = some c := by rw [Array.getElem?_toList]; exact hc
    have tk1 : z.cps.toList.take (i + 1) = z.cps.toList.take i ++ [c] := by rw [List.take_add_one, hc2]; rfl
    have MA1 := MA.same S
    obtain ⟨dx1, a1, b1, c1, D1, R1, C1, G1, P1, L1, hp1, _, _, _, _, RD⟩ := id MA1
    obtain ⟨kvs, eR, hg⟩ := rds_vals RD c
    refine ⟨_, rfl, p, _, dx1, _, _, rfl, hp1, T.cl_Machine, T.na_Machine__reads, rfl, R1, rfl, .inl ⟨kvs, .inl eR⟩, _, rfl, fun q hq => ?_⟩
    have S1 := Rz.Same.new (o := .dK []) (Same.refl H') hq
    have fin : ∀ (H2 : Hp) (u d : Addr) (ps : List (Nat × Nat)), Same H H2 → (∀ y, y ∈ ps ↔ y ∈ prsT es cm c) → ∃ (u4 u5 u6 u7 : Option V), [some (V.ref p), some (V.int x), some (V.str z), some (V.int ((afterP (textM es cm (cm x) (z.cps.toList.take i)) ps : Nat) : Int)), some (V.str ⟨#[c]⟩), some (V.ref d), v6, v7] = [some (.ref p), some (.int x), some (.str z), some (.int ((textM es cm (cm x) (z.cps.toList.take (i + 1)) : Nat) : Int)), u4, u5, u6, u7] ∧ Same H H2 := fun H2 u d ps S2 hm => by
      refine ⟨some (.str ⟨#[c]⟩), some (.ref d), v6, v7, ?_, S2⟩
      rw [tk1, textM_snoc, after_mem hm]
    refine ⟨_, DGet.k (k := sgK c) (S1 _ _ eR), ?_⟩
    rcases hg with ⟨e1, e2⟩ | ⟨kin, e1, eP, zk, hin, hall⟩
    · rw [e1]
      have eq1 : upd H' q (.dK []) q = some (.dK []) := upd_same
      refine ⟨_, rfl, vals_go (kin := []) eq1 (by decide) (fun x hx => (by cases hx)) fun H2 u ps S2 A2 from_ _ => ⟨_, u, ps, rfl, A2, ?_⟩⟩
      refine fin H2 u q ps ((S.trans S1).trans S2) fun y => ⟨fun hy => ?_, fun hy => ?_⟩
      · obtain ⟨x, hx, _⟩ := from_ y hy
        cases hx
      · obtain ⟨h, hh⟩ := mem_prsT.mp hy
        rw [e2 h] at hh
        cases hh
    · rw [e1]
      have few : ∀ h, (prsOf es cm c h).length ≤ 100 := fun h => by
        unfold prsOf
        rw [List.length_map]
        exact Nat.le_trans (List.length_filter_le _ _) ze
      refine ⟨_, rfl, vals_go (S1 _ _ eP) zk (fun x hx => ?_) fun H2 u ps S2 A2 from_ all => ⟨_, u, ps, rfl, A2, fin H2 u (P1 c) ps ((S.trans S1).trans S2) fun y => ⟨fun hy => ?_, fun hy => ?_⟩⟩⟩
      · obtain ⟨h, l, h1, h2, h3⟩ := hin x hx
        exact ⟨l, _, h1, h2, h3.same S1, few h⟩
      · obtain ⟨x, hx, l, qs, h1, h2, h3⟩ := from_ y hy
        obtain ⟨h, l2, h4, h5, h6⟩ := hin x hx
        rw [h1] at h4
        injection h4 with h4
        subst h4
        rw [tpAt_inj prK_inj h2 (h6.same S1)] at h3
        exact mem_prsT.mpr ⟨h, h3⟩
      · obtain ⟨h, hh⟩ := mem_prsT.mp hy
        obtain ⟨x, hx, l, h1, h2⟩ := hall h (fun e => by rw [e] at hh; cases hh)
        exact all x hx l _ h1 (h2.same S1) y hh
  · rintro σ H1 ⟨v4, v5, v6, v7, rfl, S⟩
    rw [← Array.length_toList, List.take_length]
    exact ⟨_, rfl, k _ S⟩
end
end Rz

namespace Rz
open PySem PySem.Spec PyProof.Rows L2
/-! ### the states of a number -/
theorem low_form : ∀ (f : Nat), f ≠ 0 → ∃ k a : Nat, f = 2 ^ k * (2 * a + 1) := by
  intro f
  induction f using Nat.strongRecOn with
  | ind f ih =>
    intro h
    by_cases e : f % 2 = 1
    · exact ⟨0, f / 2, by rw [Nat.pow_zero, Nat.one_mul]; omega⟩
    · obtain ⟨k, a, h1⟩ := ih (f / 2) (by omega) (by omega)
      refine ⟨k + 1, a, ?_⟩
      have : f = 2 * (f / 2) := by omega
      rw [this, h1, Nat.pow_succ, Nat.mul_comm (2 ^ k) 2, Nat.mul_assoc]
/-- the least bit, and what is left -/
theorem low_step (k a : Nat) : Builtin.bitAnd ((2 ^ k * (2 * a + 1) : Nat) : Int) (-((2 ^ k * (2 * a + 1) : Nat) : Int)) = ((2 ^ k : Nat) : Int) ∧ Builtin.Int.intBits ((2 ^ k : Nat) : Int) = k + 1 ∧
    Builtin.bitXor ((2 ^ k * (2 * a + 1) : Nat) : Int) ((2 ^ k : Nat) : Int) = ((2 ^ (k + 1) * a : Nat) : Int) ∧ (∀ t, (2 ^ k * (2 * a + 1)).testBit t = true ↔ t = k ∨ (2 ^ (k + 1) * a).testBit t = true) ∧ ∀ t, (2 ^ (k + 1) * a).testBit t = true → k < t := by
  have e1 : ((2 ^ k * (2 * a + 1) : Nat) : Int) = 2 ^ k * (2 * (a : Int) + 1) := by
    rw [Int.natCast_mul, Int.natCast_pow, Int.natCast_add, Int.natCast_mul]
    rfl
  have sh : ∀ t, (2 ^ (k + 1) * a).testBit t = true → k < t := fun t h => by
    rw [Nat.testBit_two_pow_mul] at h
    have := (Bool.and_eq_true _ _ ▸ h).1
    have := of_decide_eq_true this
    omega
  have eo : 2 ^ k * (2 * a + 1) = 2 ^ (k + 1) * a ||| 2 ^ k := by
    have q := Nat.two_pow_add_eq_or_of_lt (i := k + 1) (b := 2 ^ k) (Nat.pow_lt_pow_right (by decide) (Nat.lt_succ_self k)) a
    rw [← q, Nat.pow_succ, Nat.mul_add, Nat.mul_one, Nat.mul_assoc]
  have bits : ∀ t, (2 ^ k * (2 * a + 1)).testBit t = true ↔ t = k ∨ (2 ^ (k + 1) * a).testBit t = true := fun t => by
    rw [eo, Nat.testBit_or, Bool.or_eq_true, bit_test, decide_eq_true_eq]
    constructor
    · rintro (h | h)
      · exact .inr h
      · exact .inl h.symm
    · rintro (h | h)
      · exact .inr h.symm
      · exact .inl h
  refine ⟨?_, ?_, ?_, bits, sh⟩
  · rw [e1, PySem.W.kbt_low, pow_cast]
  · unfold Builtin.Int.intBits
    have : ((2 ^ k : Nat) : Int) ≠ 0 := by
      have := Nat.two_pow_pos k
      omega
    rw [if_neg (by simpa using this)]
    show (((2 ^ k : Nat) : Int).natAbs.log2 + 1) = _
    rw [Int.natAbs_natCast, Nat.log2_two_pow]
  · rw [bxor_nat]
    have o1 : 2 ^ k * (2 * a + 1) ||| 2 ^ k = 2 ^ k * (2 * a + 1) := by rw [eo, Nat.or_assoc, Nat.or_self]
    have o2 : 2 ^ k * (2 * a + 1) &&& 2 ^ k = 2 ^ k := by
      refine Nat.eq_of_testBit_eq fun t => ?_
      rw [Nat.testBit_and, bit_test]
      by_cases e : k = t
      · subst e
        rw [decide_eq_true rfl, Bool.and_true]
        exact (bits k).mpr (.inl rfl)
      · rw [decide_eq_false e, Bool.and_false]
    rw [o1, o2]
    have : 2 ^ k * (2 * a + 1) = 2 ^ (k + 1) * a + 2 ^ k := by rw [Nat.pow_succ, Nat.mul_add, Nat.mul_one, Nat.mul_assoc]
    omega
def sp_listed : Sp := fun vs H Q _ => ∃ x : Nat, vs = [.int ((x : Nat) : Int)] ∧ (∀ t, x.testBit t = true → t < 100000) ∧ ∀ (H' : Hp) (L : Addr) (sts : List Int), Same H H' → H L = none → H' L = some (.lst (sts.map V.int)) → sts.Pairwise (· < ·) → (∀ s : Int, s ∈ sts ↔ 0 ≤ s ∧ x.testBit s.toNat = true) → Q (.ref L) H'
section
variable {w : World} {K : PySem.W.Frag} {mg : Str → Option Value} {base : Heap}
theorem sc_listed : FnScope N__listed P__listed (defScope s__listed) := ⟨rfl, rfl, rfl, by decide +kernel, rfl, by decide +kernel, by decide +kernel⟩
def LisW (L : Addr) (H : Hp) (x m : Nat) (σ : L2.St) (H' : Hp) : Prop := ∃ (f : Nat) (v2 : Option V) (sts : List Int), σ = [some (.int ((f : Nat) : Int)), some (.ref L), v2] ∧ (∀ b o, H b = some o → H' b = some o) ∧ H' L = some (.lst (sts.map V.int)) ∧ sts.Pairwise (· < ·) ∧ (∀ s ∈ sts, 0 ≤ s ∧ ∀ t : Nat, f.testBit t = true → s < t) ∧ (∀ t : Nat, x.testBit t = true ↔ (t : Int) ∈ sts ∨ f.testBit t = true) ∧ (∀ t, f.testBit t = true → sts.length ≤ t) ∧ m = f
theorem ok_listed (T : Txt K mg) : FnOk prg w K mg base (L2.CX prg w) 1 T.f__listed T.fd__listed P__listed sp_listed := by
  refine Rz.Fun.okN T.F__listed sc_listed (fun vs H Q E h => ?_) (fun cdv A outer s H vs Q E hr h => ?_)
  · obtain ⟨x, rfl, _⟩ := h
    rfl
  obtain ⟨x, rfl, bx, k⟩ := h
  have nd := sc_listed.nd
  refine ⟨_, (pss_cons (ps_set (i := 1) nd rfl (Or.inl rfl) (pe_lst pa_nil))
    (pss_cons (ps_while PassesOwn.never (pt_truth (pv 0) (by intro _; rfl)) (pss_cons (ps_set (i := 2) nd rfl (Or.inl rfl) (pe_op op_and (pv 0) (pe_un un_neg (pv 0))))
      (pss_cons (ps_expr (pe_bm PySem.F.plainAttrs_list PySem.F.slot_list_append PySem.F.type_list_append mt_append (pv 1) (pa_cons (pe_op op_sub (pe_bits (pv 2)) pe_int) pa_nil)))
      (pss_one (ps_set (i := 0) nd rfl (Or.inl rfl) (pe_op op_xor (pv 0) (pv 2)))))))
    (pss_one (ps_ret (pv 1))))), ?_⟩
  refine ⟨by show 0 ≤ sizeLine; decide, fun L hL => ?_⟩
  have S0 := Rz.Same.new (o := .lst []) (Same.refl H) hL
  refine ⟨LisW L H x, ⟨x, x, none, [], rfl, fun b o h => S0 b o h, upd_same, .nil, fun s hs => (by cases hs), fun t => ⟨.inr, fun h => h.elim (fun z => (by cases z)) id⟩, fun t _ => Nat.zero_le _, rfl⟩, ?_⟩
  rintro m σ H' ⟨f, v2, sts, rfl, S, eL, pw, low, bits, few, rfl⟩
  have tr : decide (m ≠ 0) = (((m : Nat) : Int) != 0) := by
    by_cases z : m = 0
    · rw [z]
      rfl
    · have z2 : (((m : Nat) : Int) != 0) = true := by
        rw [bne_iff_ne]
        omega
      rw [decide_eq_true z, z2]
  refine ⟨_, rfl, _, tr, ?_⟩
  by_cases z : m = 0
  · rw [decide_eq_false (fun y => y z)]
    refine iteF ⟨_, rfl, ?_⟩
    subst z
    refine k H' L sts S hL eL pw fun s => ?_
    constructor
    · intro hs
      have s0 := (low s hs).1
      refine ⟨s0, (bits _).mpr (.inl ?_)⟩
      rw [Int.toNat_of_nonneg s0]
      exact hs
    · rintro ⟨s0, h⟩
      rcases (bits _).mp h with y | y
      · rw [Int.toNat_of_nonneg s0] at y
        exact y
      · rw [Nat.zero_testBit] at y
        cases y
  · rw [decide_eq_true z]
    obtain ⟨j, a, rfl⟩ := low_form m z
    obtain ⟨h1, h2, h3, h4, h5⟩ := low_step j a
    have top : (2 ^ j * (2 * a + 1)).testBit j = true := (h4 j).mpr (.inl rfl)
    have j1 := bx j ((bits j).mpr (.inr top))
    have j2 := few j top
    refine iteT ⟨fun σ' H' => ∃ m', m' < 2 ^ j * (2 * a + 1) ∧ LisW L H x m' σ' H', fun _ _ h => h, ?_⟩
    refine ⟨_, rfl, _, rfl, _, rfl, _, _, rfl, rfl, ?_⟩
    have e1 : V.int (Builtin.bitAnd ((2 ^ j * (2 * a + 1) : Nat) : Int) (-((2 ^ j * (2 * a + 1) : Nat) : Int))) = V.int ((2 ^ j : Nat) : Int) := by rw [h1]
    refine ⟨_, rfl, .inl ⟨rfl, _, SqL.of eL⟩, _, rfl, _, e1, ?_⟩
    rw [h2]
    refine ⟨_, _, rfl, rfl, ?_⟩
    have e2 : ((j + 1 : Nat) : Int) - 1 = ((j : Nat) : Int) := by omega
    refine ⟨L, _, _, rfl, rfl, eL, by rw [List.length_map, sizeLine_eq]; omega, ?_⟩
    refine ⟨_, rfl, _, rfl, _, _, rfl, e1, ?_⟩
    refine ⟨2 ^ (j + 1) * a, ?_, 2 ^ (j + 1) * a, some (.int ((2 ^ j : Nat) : Int)), sts ++ [((j : Nat) : Int)], ?_, fun b o h => ?_, ?_, ?_, fun s hs => ?_, fun t => ?_, fun t ht => ?_, rfl⟩
    · have := Nat.two_pow_pos j
      have q : 2 ^ j * (2 * a + 1) = 2 ^ (j + 1) * a + 2 ^ j := by rw [Nat.pow_succ, Nat.mul_add, Nat.mul_one, Nat.mul_assoc]
      omega
    · rw [← h3, ← h1]
      rfl
    · rw [upd_ne (fun y => by rw [y, hL] at h; cases h)]
      exact S b o h
    · rw [upd_same, List.map_append]
      show some (HO.lst (_ ++ [V.int (((j + 1 : Nat) : Int) - 1)])) = _
      rw [e2]
      rfl
    · rw [List.pairwise_append]
      refine ⟨pw, List.pairwise_singleton _ _, fun s hs t ht => ?_⟩
      rw [List.mem_singleton.mp ht]
      exact (low s hs).2 j top
    · rcases List.mem_append.mp hs with y | y
      · exact ⟨(low s y).1, fun t ht => (low s y).2 t ((h4 t).mpr (.inr ht))⟩
      · rw [List.mem_singleton.mp y]
        exact ⟨by omega, fun t ht => by have := h5 t ht; omega⟩
    · rw [bits t, h4 t, List.mem_append, List.mem_singleton]
      constructor
      · rintro (y | y | y)
        · exact .inl (.inl y)
        · exact .inl (.inr (by rw [y]))
        · exact .inr y
      · rintro ((y | y) | y)
        · exact .inl y
        · exact .inr (.inl (by omega))
        · exact .inr (.inr y)
    · have := h5 t ht
      rw [List.length_append]
      show sts.length + 1 ≤ t
      omega
end
end Rz

namespace Rz
open PySem PySem.Spec PyProof.Rows L2
/-! ### where ways end -/
theorem reach_lt {fr : List Lk} {B s t : Int} (h : ∀ p ∈ fr, p.2 < B) (hs : s < B) (r : Reach fr [s] t) : t < B := by
  induction r with
  | start q => rw [List.mem_singleton.mp q]; exact hs
  | @step x y _ q _ => exact h (x, y) (mem_succs.mp q)
theorem rowS_lt {es : List Ed} {fr : List Lk} {B : Int} (he : ∀ e ∈ es, e.2.2.2 < B) (hf : ∀ p ∈ fr, p.2 < B) : ∀ {ps : List Pr} {S : Sts}, (∀ t, S t → t < B) → ∀ t, rowS es fr S ps t → t < B
  | [], _, h, t, z => h t z
  | p :: ps, S, _, t, z => rowS_lt he hf (ps := ps) (S := stepS es fr S p.1 p.2) (fun u ⟨e, h1, _, _, _, r⟩ => reach_lt hf (he e h1) r) t z
theorem goodPosn {ls : List Int} {es : List Ed} {fr : List Lk} {cm : Int → Nat} {m : Nat} (g : GoodMac ls es fr cm m) : Posn es := fun e h => ⟨(g.be e h).1.1, (g.be e h).2.1⟩
theorem goodSet {ls : List Int} {es : List Ed} {fr : List Lk} {cm : Int → Nat} {m : Nat} (g : GoodMac ls es fr cm m) {x : Int} (x0 : 0 ≤ x) (ps : List Pr) : IsSet (rowM es cm (cm x) ps) (rowS es fr (fun t => Reach fr [x] t) ps) :=
  row_set g.clos (goodPosn g) (fun p h => (g.bf p h).2.1) (clos_set g.clos (fun p h => (g.bf p h).2.1) x0)
theorem goodSetT {ls : List Int} {es : List Ed} {fr : List Lk} {cm : Int → Nat} {m : Nat} (g : GoodMac ls es fr cm m) {x : Int} (x0 : 0 ≤ x) (cs : List Nat) : IsSet (textM es cm (cm x) cs) (textS es fr (fun t => Reach fr [x] t) cs) :=
  text_set g.clos (goodPosn g) (fun p h => (g.bf p h).2.1) (clos_set g.clos (fun p h => (g.bf p h).2.1) x0)
def sp_M_ends (cM cR : Addr) : Sp := fun vs H Q _ => ∃ (H0 : Hp) (p r l : Addr) (s n : Int) (ps : List Pr) (ls : List Int) (es : List Ed) (fr : List Lk) (cm : Int → Nat) (m : Nat), vs = [.ref p, .int s, .ref r] ∧ MacAt cM H0 H p n ls es fr cm m ∧ GoodMac ls es fr cm m ∧ 0 ≤ s ∧ s < 100000 ∧ RAt cR H r l ps ∧
  ∀ (H' : Hp) (L : Addr) (sts : List Int), Same H H' → H L = none → H' L = some (.lst (sts.map V.int)) → sts.Pairwise (· < ·) → (∀ t : Int, t ∈ sts ↔ rowS es fr (fun t => Reach fr [s] t) ps t) → Q (.ref L) H'
section
variable {w : World} {K : PySem.W.Frag} {mg : Str → Option Value} {base : Heap}
theorem sc_M_ends : FnScope N_Machine_ends P_Machine_ends (defScope s_Machine_ends) := ⟨rfl, rfl, rfl, by decide +kernel, rfl, by decide +kernel, by decide +kernel⟩
theorem ok_Machine_ends (T : Txt K mg) : FnOk prg w K mg base (L2.CX prg w) 3 T.f_Machine_ends T.fd_Machine_ends P_Machine_ends (sp_M_ends T.c_Machine T.c_Row) := by
  refine Rz.Fun.okN T.F_Machine_ends sc_M_ends (fun vs H Q E h => ?_) (fun cdv A outer s H vs Q E hr h => ?_)
  · obtain ⟨_, p, r, l, x, n, ps, ls, es, fr, cm, m, rfl, _⟩ := h
    rfl
  obtain ⟨H0, p, r, l, x, n, ps, ls, es, fr, cm, m, rfl, MA, g, x0, x1, RA, k⟩ := h
  refine ⟨_, (pss_one (ps_ret (pe_fn (ok_listed T) (hr.mono (by decide)) (by rfl) T.m__listed T.F__listed.kp T.b__listed .nil (fun _ => atN _) (pa_cons (pe_mt (pv 0) T.cl_Machine T.M_Machine_after_row (ok_Machine_after_row T) (hr.mono (by decide)) T.b_Machine_after_row .nil (fun _ => atN _) (pa_cons (pv 1) (pa_cons (pv 2) pa_nil))) pa_nil)))), ?_⟩
  obtain ⟨dx, a, b, c, D, R, C, G, P, L, hp, _⟩ := id MA
  have I := goodSet g x0 ps
  refine ⟨_, rfl, p, dx, _, rfl, hp, rfl, _, rfl, _, rfl, H0, p, r, l, x, n, ps, ls, es, fr, cm, m, rfl, MA, g.off, x0, x1, RA, fun H1 S1 => ?_⟩
  refine ⟨_, rfl, fun t ht => ?_, fun H2 L sts S2 hL eL pw hm => k H2 L sts (S1.trans S2) (S1.free hL) eL pw fun t => ?_⟩
  · have z := rowS_lt (B := 100000) (fun e h => (g.be e h).2.2) (fun q h => (g.bf q h).2.2) (ps := ps) (S := fun t => Reach fr [x] t) (fun u r => reach_lt (fun q h => (g.bf q h).2.2) x1 r) _ ((I.1 t).mp ht)
    omega
  · rw [hm]
    constructor
    · rintro ⟨t0, h⟩
      have z := (I.1 _).mp h
      rw [Int.toNat_of_nonneg t0] at z
      exact z
    · intro h
      have t0 := I.2 _ h
      refine ⟨t0, (I.1 _).mpr ?_⟩
      rw [Int.toNat_of_nonneg t0]
      exact h
end
end Rz

namespace Rz
open PySem PySem.Spec PyProof.Rows L2
theorem and_ne {x m : Nat} {S : Sts} {ls : List Int} (I : IsSet x S) (hm : ∀ t : Nat, m.testBit t = true ↔ (t : Int) ∈ ls) (hl : ∀ s ∈ ls, 0 ≤ s) : x &&& m ≠ 0 ↔ ∃ s ∈ ls, S s := by
  constructor
  · intro h
    obtain ⟨t, ht⟩ : ∃ t, (x &&& m).testBit t = true := by
      obtain ⟨j, a, e⟩ := low_form _ h
      exact ⟨j, by rw [e]; exact ((low_step j a).2.2.2.1 j).mpr (.inl rfl)⟩
    rw [Nat.testBit_and, Bool.and_eq_true] at ht
    exact ⟨t, (hm t).mp ht.2, (I.1 t).mp ht.1⟩
  · rintro ⟨s, hs, h⟩ z
    have s0 := hl s hs
    obtain ⟨n, rfl⟩ := Int.eq_ofNat_of_zero_le s0
    have q := congrArg (fun y : Nat => y.testBit n) z
    simp only [Nat.testBit_and, Nat.zero_testBit] at q
    rw [(I.1 n).mpr h, (hm n).mpr hs] at q
    cases q
def sp_M_contains (cM cR : Addr) : Sp := fun vs H Q _ => ∃ (H0 : Hp) (p r l : Addr) (n : Int) (ps : List Pr) (ls : List Int) (es : List Ed) (fr : List Lk) (cm : Int → Nat) (m : Nat), vs = [.ref p, .ref r] ∧ MacAt cM H0 H p n ls es fr cm m ∧ GoodMac ls es fr cm m ∧ RAt cR H r l ps ∧
  ∀ (H' : Hp) (b : Bool), Same H H' → (b = true ↔ ∃ t ∈ ls, rowS es fr (fun t => Reach fr [0] t) ps t) → Q (.bl b) H'
section
variable {w : World} {K : PySem.W.Frag} {mg : Str → Option Value} {base : Heap}
theorem sc_M_contains : FnScope N_Machine_contains P_Machine_contains (defScope s_Machine_contains) := ⟨rfl, rfl, rfl, by decide +kernel, rfl, by decide +kernel, by decide +kernel⟩
theorem ok_Machine_contains (T : Txt K mg) : FnOk prg w K mg base (L2.CX prg w) 3 T.f_Machine_contains T.fd_Machine_contains P_Machine_contains (sp_M_contains T.c_Machine T.c_Row) := by
  refine Rz.Fun.okN T.F_Machine_contains sc_M_contains (fun vs H Q E h => ?_) (fun cdv A outer s H vs Q E hr h => ?_)
  · obtain ⟨_, p, r, l, n, ps, ls, es, fr, cm, m, rfl, _⟩ := h
    rfl
  obtain ⟨H0, p, r, l, n, ps, ls, es, fr, cm, m, rfl, MA, g, RA, k⟩ := h
  refine ⟨_, (pss_cons (ps_if (pt_val (pe_callB (C8.call_isC T.is_Row) (by rfl) T.n_isinstance (by decide +kernel) (pa_cons (pv 1) (pa_cons (pe_glob (v := .ref T.c_Row) (by rfl) T.m_Row rfl) pa_nil)))) (pss_one (ps_ret (pe_cmpR op_ne (pe_op op_and (pe_mt (pv 0) T.cl_Machine T.M_Machine_after_row (ok_Machine_after_row T) (hr.mono (by decide)) T.b_Machine_after_row .nil (fun _ => atN _) (pa_cons pe_int (pa_cons (pv 1) pa_nil))) (pe_fld (pv 0) rfl)) pe_int (nomark _)))) pss_nil) pss_never), ?_⟩
  obtain ⟨dx, a, b, c, D, R, C, G, P, L, hp, _⟩ := id MA
  obtain ⟨dxr, hpr, _⟩ := id RA
  have I := goodSet g (x := 0) (by decide) ps
  have an := and_ne I g.fin (fun s h => (g.bl s h).1)
  refine ⟨_, rfl, r, dxr, _, rfl, hpr, true, rfl, iteT ?_⟩
  refine ⟨_, rfl, p, dx, _, rfl, hp, rfl, _, rfl, H0, p, r, l, 0, n, ps, ls, es, fr, cm, m, rfl, MA, g.off, by decide, by decide, RA, fun H1 S1 => ?_⟩
  refine ⟨_, rfl, p, _, dx, _, _, rfl, S1 _ _ hp, T.cl_Machine, T.na_Machine__final, rfl, _, _, rfl, rfl, rfl, ?_⟩
  refine k H1 _ S1 ?_
  show (!decide (V.int (Builtin.bitAnd ((rowM es cm (cm 0) ps : Nat) : Int) ((m : Nat) : Int)) = V.int 0)) = true ↔ _
  rw [band_nat, ← an]
  generalize rowM es cm (cm 0) ps &&& m = y
  by_cases z : y = 0
  · simp [z]
  · have : V.int ((y : Nat) : Int) ≠ V.int 0 := fun q => z (by injection q with q; omega)
    simp [this, z]
end
end Rz

namespace Rz
open PySem PySem.Spec PyProof.Rows L2
def sp_M_containsT (cM : Addr) : Sp := fun vs H Q _ => ∃ (H0 : Hp) (p : Addr) (z : Str) (n : Int) (ls : List Int) (es : List Ed) (fr : List Lk) (cm : Int → Nat) (m : Nat), vs = [.ref p, .str z] ∧ MacAt cM H0 H p n ls es fr cm m ∧ GoodMac ls es fr cm m ∧
  ∀ (H' : Hp) (b : Bool), Same H H' → (b = true ↔ ∃ t ∈ ls, textS es fr (fun t => Reach fr [0] t) z.cps.toList t) → Q (.bl b) H'
section
variable {w : World} {K : PySem.W.Frag} {mg : Str → Option Value} {base : Heap}
theorem ok_Machine_containsT (T : Txt K mg) : FnOk prg w K mg base (L2.CX prg w) 3 T.f_Machine_contains T.fd_Machine_contains P_Machine_contains (sp_M_containsT T.c_Machine) := by
  refine Rz.Fun.okN T.F_Machine_contains sc_M_contains (fun vs H Q E h => ?_) (fun cdv A outer s H vs Q E hr h => ?_)
  · obtain ⟨_, p, z, n, ls, es, fr, cm, m, rfl, _⟩ := h
    rfl
  obtain ⟨H0, p, z, n, ls, es, fr, cm, m, rfl, MA, g, k⟩ := h
  refine ⟨_, (pss_cons (ps_if (pt_val (pe_callB call_isi (by rfl) T.n_isinstance (by decide +kernel) (pa_cons (pv 1) (pa_cons (pe_glob (v := .ref T.c_Row) (by rfl) T.m_Row rfl) pa_nil)))) pss_never pss_nil)
    (pss_one (ps_ret (pe_cmpR op_ne (pe_op op_and (pe_mt (pv 0) T.cl_Machine T.M_Machine_after_signs (ok_Machine_after_signs T) (hr.mono (by decide)) T.b_Machine_after_signs .nil (fun _ => atN _) (pa_cons pe_int (pa_cons (pv 1) pa_nil))) (pe_fld (pv 0) rfl)) pe_int (nomark _))))), ?_⟩
  obtain ⟨dx, a, b, c, D, R, C, G, P, L, hp, _⟩ := id MA
  have I := goodSetT g (x := 0) (by decide) z.cps.toList
  have an := and_ne I g.fin (fun s h => (g.bl s h).1)
  refine ⟨_, rfl, _, _, .type "str", .ref T.c_Row, false, rfl, .own _, .base (.str _), T.fx_Row_kstr, false, rfl, iteF ?_⟩
  refine ⟨_, rfl, p, dx, _, rfl, hp, rfl, _, rfl, H0, p, 0, n, z, ls, es, fr, cm, m, rfl, MA, g.off, by decide, by decide, g.ze, fun H1 S1 => ?_⟩
  refine ⟨_, rfl, p, _, dx, _, _, rfl, S1 _ _ hp, T.cl_Machine, T.na_Machine__final, rfl, _, _, rfl, rfl, rfl, ?_⟩
  refine k H1 _ S1 ?_
  show (!decide (V.int (Builtin.bitAnd ((textM es cm (cm 0) z.cps.toList : Nat) : Int) ((m : Nat) : Int)) = V.int 0)) = true ↔ _
  rw [band_nat, ← an]
  generalize textM es cm (cm 0) z.cps.toList &&& m = y
  by_cases q : y = 0
  · simp [q]
  · have : V.int ((y : Nat) : Int) ≠ V.int 0 := fun u => q (by injection u with u; omega)
    simp [this, q]
end
end Rz

namespace Rz
open PySem PySem.Spec PyProof.Rows L2
def sp_law_pool (K : PySem.W.Frag) : Sp := fun vs H Q _ => ∃ (a : Addr) (ns : List Int), vs = [.ref a] ∧ SqL K H a (ns.map V.int) ∧ ns.length ≤ 63 ∧ ∀ H' d, Same H H' → H d = none → Dr H' d → Q (.ref d) H'
section
variable {w : World} {K : PySem.W.Frag} {mg : Str → Option Value} {base : Heap}
theorem sc_law_pool : FnScope N__law_pool P__law_pool (defScope s__law_pool) := ⟨rfl, rfl, rfl, by decide +kernel, rfl, by decide +kernel, by decide +kernel⟩
theorem ok_law_pool (T : Txt K mg) : FnOk prg w K mg base (L2.CX prg w) 1 T.f__law_pool T.fd__law_pool P__law_pool (sp_law_pool K) := by
  refine Rz.Fun.okN T.F__law_pool sc_law_pool (fun vs H Q E h => ?_) (fun cdv A outer s H vs Q E hr h => ?_)
  · obtain ⟨a, ns, rfl, _⟩ := h
    rfl
  obtain ⟨a, ns, rfl, hS, hlen, k⟩ := h
  have nd := sc_law_pool.nd
  refine ⟨_, pss_cons (ps_set (i := 1) nd rfl (Or.inl rfl) (pe_lst pa_nil)) (pss_cons (ps_set (i := 2) nd rfl (Or.inl rfl) pe_int)
    (pss_cons (ps_for PassesOwn.never rfl (pi_list (pv 0)) (pg_name (i := 3) nd rfl (Or.inl rfl))
      (pss_cons (ps_set (i := 4) nd rfl (Or.inl rfl) (pe_callB call_abs (by rfl) T.n_abs (by decide +kernel) (pa_cons (pv 3) pa_nil)))
      (pss_cons (ps_set (i := 2) nd rfl (Or.inl rfl) (pe_op op_mod (pe_callTy call_int1 (by rfl) T.n_int (by decide +kernel) (pa_cons (pe_op op_add (pe_op op_mul (pv 2) pe_int) (pv 4)) pa_nil)) pe_int))
      (pss_one (ps_if (pt_cmpR op_lt (pv 4) (pe_op op_pow pe_int pe_int) (nomark _))
        (pss_one (ps_expr (pe_bm PySem.F.plainAttrs_list PySem.F.slot_list_append PySem.F.type_list_append mt_append (pv 1) (pa_cons (pv 4) pa_nil))))
        (pss_one (ps_for PassesOwn.never rfl (pi_range1 rfl T.n_range (pa_cons pe_int pa_nil)) (pg_name (i := 5) nd rfl (Or.inl rfl))
          (pss_one (ps_if (pt_cmpR op_gt (pv 4) pe_int (nomark _))
            (pss_cons (ps_expr (pe_bm PySem.F.plainAttrs_list PySem.F.slot_list_append PySem.F.type_list_append mt_append (pv 1) (pa_cons (pe_op op_mod (pe_callTy call_int1 (by rfl) T.n_int (by decide +kernel) (pa_cons (pv 4) pa_nil)) pe_int) pa_nil)))
              (pss_one (ps_set (i := 4) nd rfl (Or.inl rfl) (pe_op op_fdiv (pv 4) pe_int))))
            pss_nil)))))))))
    (pss_cons (ps_for PassesOwn.never rfl (pi_range1 rfl T.n_range (pa_cons pe_int pa_nil)) (pg_name (i := 5) nd rfl (Or.inl rfl))
      (pss_cons (ps_set (i := 6) nd rfl (Or.inl rfl) (pe_op op_mod (pe_callTy call_int1 (by rfl) T.n_int (by decide +kernel) (pa_cons (pe_op op_mul (pe_op op_add (pv 2) pe_int) (pe_op op_add (pe_op op_fdiv (pe_op op_add (pe_op op_mul (pe_op op_mul pe_int (pv 5)) (pv 5)) (pe_op op_mul pe_int (pv 5))) pe_int) pe_int)) pa_nil)) pe_int))
        (pss_one (ps_expr (pe_bm PySem.F.plainAttrs_list PySem.F.slot_list_append PySem.F.type_list_append mt_append (pv 1) (pa_cons (pe_op op_mod (pe_callTy call_int1 (by rfl) T.n_int (by decide +kernel) (pa_cons (pe_op op_add (pe_op op_mul (pv 6) (pv 6)) (pv 5)) pa_nil)) pe_int) pa_nil))))))
    (pss_one (ps_ret (pv 1)))))), ?_⟩
  refine ⟨Nat.zero_le _, fun d hd => ?_⟩
  have S0 : Same H (upd H d (.lst [])) := Rz.Same.new (Same.refl H) hd
  refine ⟨_, rfl, a, rfl, ⟨_, S0.seq hS⟩, for_list (K := K) (a := a) (xs := ns.map V.int) (fun i σ H' => ∃ (ks : List Int) (sd : Int) (v3 v4 v5 v6 : Option V), σ = [some (.ref a), some (.ref d), some (.int sd), v3, v4, v5, v6] ∧ Same H H' ∧ H' d = some (.lst (ks.map V.int)) ∧ ks.length ≤ i * 60 ∧ 0 ≤ sd ∧ sd < 1009)
    ⟨[], 0, none, none, none, none, rfl, S0, upd_same, Nat.le_refl _, by omega, by omega⟩ (fun i σ H' _ ⟨_, _, _, _, _, _, _, R, _⟩ => R.seq hS) ?_ ?_⟩
  · rintro i y σ H' hi ⟨ks, sd, v3, v4, v5, v6, rfl, R, hK, hl, h0, h1⟩
    obtain ⟨u, hu, rfl⟩ := mapi_get hi
    have hi63 : i < ns.length := (List.getElem?_eq_some_iff.mp hu).1
    refine ⟨_, rfl, u, rfl, ?_⟩
    refine ⟨_, rfl, _, _, rfl, rfl, .inl ⟨by omega, by omega⟩, _, rfl, _, _, rfl, rfl, .inl ⟨_, rfl, _, _, rfl, rfl, (by show (0 : Int) < 1009; decide), ?_⟩⟩
    refine ⟨_, rfl, _, _, rfl, rfl, ⟨by decide, by decide, by decide⟩, _, _, rfl, rfl, _, rfl, ?_⟩
    generalize (if u < 0 then -u else u) = r
    have b0 : 0 ≤ (sd * 31 + r) % 1009 := by omega
    have b1 : (sd * 31 + r) % 1009 < 1009 := by omega
    refine ite2 (fun _ => ?_) (fun _ => ?_)
    · refine ⟨_, rfl, .inl ⟨rfl, _, SqL.of hK⟩, _, rfl, d, _, _, rfl, rfl, hK, (by rw [List.length_map, sizeLine_eq]; omega), ?_⟩
      exact ⟨ks ++ [r], (sd * 31 + r) % 1009, _, _, _, _, rfl, Rz.Same.upd R hd, by rw [upd_same, List.map_append]; rfl, by rw [List.length_append, List.length_singleton]; omega, b0, b1⟩
    · refine ⟨60, rfl, by decide, by decide, for_range (n := 60) (fun j σ H2 => ∃ (ks2 : List Int) (r2 : Int) (v5 : Option V), σ = [some (.ref a), some (.ref d), some (.int ((sd * 31 + r) % 1009)), some (.int u), some (.int r2), v5, v6] ∧ Same H H2 ∧ H2 d = some (.lst (ks2.map V.int)) ∧ ks2.length ≤ i * 60 + j)
        ⟨ks, r, _, rfl, R, hK, by omega⟩ ?_ ?_⟩
      · rintro j σ2 H2 hj ⟨ks2, r2, v7, rfl, R2, hK2, hl2⟩
        refine ⟨_, rfl, _, _, rfl, rfl, _, rfl, ?_⟩
        refine ite2 (fun _ => ?_) (fun _ => ?_)
        · refine ⟨_, rfl, .inl ⟨rfl, _, SqL.of hK2⟩, _, rfl, .inl ⟨_, rfl, _, _, rfl, rfl, (by show (0 : Int) < 1000; decide), d, _, _, rfl, rfl, hK2, (by rw [List.length_map, sizeLine_eq]; omega), ?_⟩⟩
          refine ⟨_, rfl, _, _, rfl, rfl, ⟨by decide, by decide⟩, ?_⟩
          exact ⟨ks2 ++ [r2 % 1000], _, _, rfl, Rz.Same.upd R2 hd, by rw [upd_same, List.map_append]; rfl, by rw [List.length_append, List.length_singleton]; omega⟩
        · exact ⟨ks2, r2, _, rfl, R2, hK2, by omega⟩
      · rintro σ2 H2 ⟨ks2, r2, v7, rfl, R2, hK2, hl2⟩
        exact ⟨ks2, (sd * 31 + r) % 1009, _, _, _, _, rfl, R2, hK2, by omega, b0, b1⟩
  · rintro σ H' ⟨ks, sd, v3, v4, v5, v6, rfl, R, hK, hl, h0, h1⟩
    rw [List.length_map] at hl
    refine ⟨90, rfl, by decide, by decide, for_range (n := 90) (fun j σ H2 => ∃ (ks2 : List Int) (v5 v6 : Option V), σ = [some (.ref a), some (.ref d), some (.int sd), v3, v4, v5, v6] ∧ Same H H2 ∧ H2 d = some (.lst (ks2.map V.int)) ∧ ks2.length ≤ 3780 + j)
      ⟨ks, _, _, rfl, R, hK, by omega⟩ ?_ ?_⟩
    · rintro j σ2 H2 hj ⟨ks2, v7, v8, rfl, R2, hK2, hl2⟩
      refine ⟨_, rfl, _, _, rfl, rfl, _, rfl, _, _, rfl, rfl, .inl ⟨by decide, by decide⟩, _, rfl, _, _, rfl, rfl, .inl ⟨by omega, by omega⟩, _, rfl, _, _, rfl, rfl, .inl ⟨by decide, by decide⟩, _, _, rfl, rfl,
        _, _, rfl, rfl, ⟨by decide, by decide⟩, _, _, rfl, rfl, _, _, rfl, rfl, .inl ⟨by omega, by omega⟩, .inl ⟨_, rfl, _, _, rfl, rfl, (by show (0 : Int) < 1009; decide), ?_⟩⟩
      have m0 : ∀ z : Int, -(2 ^ 64) < z % 1009 ∧ z % 1009 < 2 ^ 64 := fun z => by omega
      refine ⟨_, rfl, .inl ⟨rfl, _, SqL.of hK2⟩, _, rfl, _, rfl, _, _, rfl, rfl, .inl (m0 _), _, rfl, _, _, rfl, rfl, .inl ⟨_, rfl, _, _, rfl, rfl, (by show (0 : Int) < 1013; decide), d, _, _, rfl, rfl, hK2, (by rw [List.length_map, sizeLine_eq]; omega), ?_⟩⟩
      exact ⟨ks2 ++ [_], _, _, rfl, Rz.Same.upd R2 hd, by rw [upd_same, List.map_append]; rfl, by rw [List.length_append, List.length_singleton]; omega⟩
    · rintro σ2 H2 ⟨ks2, v7, v8, rfl, R2, hK2, hl2⟩
      exact ⟨_, rfl, k H2 d R2 hd ⟨ks2, hK2, by omega⟩⟩
end
end Rz

namespace Rz
open PySem PySem.Spec PyProof.Rows L2
def sp_law_pick : Sp := fun vs H Q _ => ∃ (d : Addr) (m : Int), vs = [.ref d, .int m] ∧ 0 < m ∧ Dr H d ∧ ∀ H' r, 0 ≤ r → r < m → Dr H' d → But [d] H H' → Q (.int r) H'
section
variable {w : World} {K : PySem.W.Frag} {mg : Str → Option Value} {base : Heap}
theorem sc_law_pick : FnScope N__law_pick P__law_pick (defScope s__law_pick) := ⟨rfl, rfl, rfl, by decide +kernel, rfl, by decide +kernel, by decide +kernel⟩
theorem ok_law_pick (T : Txt K mg) : FnOk prg w K mg base (L2.CX prg w) 1 T.f__law_pick T.fd__law_pick P__law_pick sp_law_pick := by
  refine Rz.Fun.okN T.F__law_pick sc_law_pick (fun vs H Q E h => ?_) (fun cdv A outer s H vs Q E hr h => ?_)
  · obtain ⟨d, m, rfl, _⟩ := h
    rfl
  obtain ⟨d, m, rfl, hm, ⟨ns, hd, hl⟩, k⟩ := h
  have nd := sc_law_pick.nd
  refine ⟨_, (pss_cons (ps_if (pt_cmpR (op_eqD hr.units) (pv 0) (pe_lst pa_nil) (nomark _)) (pss_one (ps_ret pe_int)) pss_nil)
    (pss_one (ps_ret (pe_op op_mod (pe_callTy call_int1 (by rfl) T.n_int (by decide +kernel) (pa_cons (pe_bm PySem.F.plainAttrs_list PySem.F.slot_list_pop PySem.F.type_list_pop mt_popAt (pv 0) (pa_cons pe_int pa_nil)) pa_nil)) (pv 1))))), ?_⟩
  refine ⟨_, rfl, Nat.zero_le _, fun p hp => ?_⟩
  have np : d ≠ p := ne_of_none hd hp
  have hd2 : upd H p (.lst []) d = some (.lst (ns.map V.int)) := by rw [upd_ne np]; exact hd
  refine ⟨dInts ns, dInts [], dp_ints (SqL.of hd2), dp_ints (SqL.of upd_same), ints_shaped _, ints_shaped _, _, rfl, ?_⟩
  rw [ints_eqv]
  refine ite2 (fun e => ?_) (fun e => ?_)
  · exact k _ 0 (Int.le_refl _) hm ⟨ns, hd2, hl⟩ ((But.refl [d] H).upd (.inr hp))
  · have e2 : ns ≠ [] := fun z => e (decide_eq_true z)
    obtain ⟨x, r, rfl⟩ := List.exists_cons_of_ne_nil e2
    refine ⟨_, rfl, .inl ⟨rfl, _, SqL.of hd2⟩, d, _, 0, 0, .int x, rfl, rfl, hd2, by decide, by decide, (by simp [seqIndex?]), rfl, .inl ⟨x, rfl, ?_⟩⟩
    refine ⟨_, rfl, x, m, rfl, rfl, hm, ?_⟩
    refine k _ _ (Int.emod_nonneg _ (by omega)) (Int.emod_lt_of_pos _ hm) ⟨r, by rw [upd_same]; rfl, by simp at hl; omega⟩ (((But.refl [d] H).upd (.inr hp)).upd (.inl (by simp)))
end
end Rz

namespace Rz
open PySem PySem.Spec PyProof.Rows L2
/-- some of the letters, each once -/
def sp_law_alphabet : Sp := fun vs H Q _ => ∃ (d : Addr) (n : Int), vs = [.ref d, .int n] ∧ 0 ≤ n ∧ n ≤ 20 ∧ Dr H d ∧ ∀ H' (z : Str), (z.length : Int) = n → Over abc z → z.cps.toList.Nodup → Dr H' d → But [d] H H' → Q (.str z) H'
section
variable {w : World} {K : PySem.W.Frag} {mg : Str → Option Value} {base : Heap}
theorem sc_law_alphabet : FnScope N__law_alphabet P__law_alphabet (defScope s__law_alphabet) := ⟨rfl, rfl, rfl, by decide +kernel, rfl, by decide +kernel, by decide +kernel⟩
theorem abc_nodup : abc.cps.toList.Nodup := by decide +kernel
theorem ok_law_alphabet (T : Txt K mg) : FnOk prg w K mg base (L2.CX prg w) 2 T.f__law_alphabet T.fd__law_alphabet P__law_alphabet sp_law_alphabet := by
  refine Rz.Fun.okN T.F__law_alphabet sc_law_alphabet (fun vs H Q E h => ?_) (fun cdv A outer s H vs Q E hr h => ?_)
  · obtain ⟨d, n, rfl, _⟩ := h
    rfl
  obtain ⟨d, n, rfl, n0, n1, hD, k⟩ := h
  have nd := sc_law_alphabet.nd
  refine ⟨_, (pss_cons (ps_set (i := 2) nd rfl (Or.inl rfl) pe_str)
    (pss_cons (ps_set (i := 3) nd rfl (Or.inr rfl) pe_str)
    (pss_cons (ps_for PassesOwn.never rfl (pi_range1 rfl T.n_range (pa_cons (pv 1) pa_nil)) (pg_name (i := 4) nd rfl (Or.inl rfl))
      (pss_cons (ps_setLc (i := 6) (own := [("_law_letter", 5)]) (g := (gName 5)) (tt := _) rfl nd rfl rfl (sw_true rfl rfl rfl (by decide +kernel)) (pi_str (pv 2)) (blkOk_by (N := N__law_alphabet) (sc := defScope s__law_alphabet) (by decide +kernel)) (fun _ _ _ _ _ => (pg_name (i := 5) nd rfl (Or.inl rfl))) (fun _ _ _ _ _ => (pts_one (pt_cmpR op_notIn_sign (pv 5) (pv 3) rfl))) (fun _ _ _ _ _ => (pv 5)))
      (pss_one (ps_set (i := 3) nd rfl (Or.inr rfl) (pe_op op_add_str (pv 3) (pe_ix ix_list (pv 6) (pe_fn (ok_law_pick T) (hr.mono (by decide)) (by rfl) T.m__law_pick T.F__law_pick.kp T.b__law_pick .nil (fun _ => atN _) (pa_cons (pv 0) (pa_cons (pe_callB call_len_seq (by rfl) T.n_len PySem.boot_len (pa_cons (pv 6) pa_nil)) pa_nil))) (fun _ _ => rfl)))))))
    (pss_one (ps_ret (pv 3)))))), ?_⟩
  refine ⟨_, rfl, n, rfl, by omega, by omega, for_range (n := n.toNat) (fun i σ H' => ∃ (v4 v5 v6 : Option V) (z : Str), σ = [some (.ref d), some (.int n), some (.str abc), some (.str z), v4, v5, v6] ∧ z.length = i ∧ Over abc z ∧ z.cps.toList.Nodup ∧ Dr H' d ∧ But [d] H H') ?_ ?_ ?_⟩
  · exact ⟨none, none, none, "", rfl, rfl, (fun c hc => by cases hc), List.Pairwise.nil, hD, But.refl _ _⟩
  · rintro i σ H1 hi ⟨v4, v5, v6, z, rfl, hz, ho, hn, D1, B1⟩
    refine ⟨_, rfl, abc, rfl, fun D hDn => lc_it walk_str (fun i H2 => ∃ ys : List Nat, H2 D = some (.lst (ys.map fun c => V.str ⟨#[c]⟩)) ∧ ys = (abc.cps.toList.take i).filter (fun c => !decide (c ∈ z.cps.toList)) ∧ Same H1 H2) ?_ (fun _ _ _ _ => True.intro) ?_ ?_⟩
    · exact ⟨[], upd_same, rfl, Rz.Same.new (Same.refl _) hDn⟩
    · rintro j x H2 H3 hj ⟨ys, e, ey, S⟩ ⟨rfl, c, hc, rfl⟩
      have hc' : abc.cps.toList[j]? = some c := by
        rw [← hc]
        exact Array.getElem?_toList ..
      have et : abc.cps.toList.take (j + 1) = abc.cps.toList.take j ++ [c] := by rw [List.take_add_one, hc']; rfl
      have lys : ys.length ≤ 26 := by
        rw [ey]
        refine Nat.le_trans (List.length_filter_le ..) ?_
        rw [List.length_take]
        exact Nat.le_trans (Nat.min_le_right ..) (by decide +kernel)
      refine ⟨rfl, _, rfl, _, rfl, c, z, rfl, rfl, _, rfl, ?_⟩
      refine ite2 (fun hb => ?_) (fun hb => ?_)
      · refine ⟨_, rfl, _, e, by rw [List.length_map, sizeLine_eq]; omega, ys ++ [c], by rw [upd_same, List.map_append]; rfl, ?_, Rz.Same.upd S hDn⟩
        rw [et, List.filter_append, ey]
        simp only [List.filter_cons, List.filter_nil]
        rw [if_pos hb]
      · refine ⟨ys, e, ?_, S⟩
        rw [et, List.filter_append, ey]
        simp only [List.filter_cons, List.filter_nil]
        rw [if_neg hb, List.append_nil]
    · rintro H2 ⟨ys, e, ey, S⟩
      have eall : abc.cps.toList.take abc.cps.size = abc.cps.toList := List.take_of_length_le (Nat.le_refl _)
      rw [eall] at ey
      have pos : 0 < ys.length := by
        refine Nat.pos_of_ne_zero fun h0 => ?_
        have h1 : ys = [] := List.length_eq_zero_iff.mp h0
        have h2 := nodup_le abc_nodup (z := z.cps.toList) fun x hx => Classical.byContradiction fun hn => by
          have h3 : x ∈ ys := by
            rw [ey]
            exact List.mem_filter.mpr ⟨hx, by simp [hn]⟩
          rw [h1] at h3
          cases h3
        have h4 : abc.cps.toList.length = 26 := by decide +kernel
        rw [h4, len_list] at h2
        omega
      have nDd : D ≠ d := Ne.symm (apartNew D1.some hDn)
      refine ⟨_, rfl, _, rfl, _, rfl, _, rfl, D, _, rfl, .inl (SqL.of e), d, _, rfl, by rw [List.length_map]; omega, D1.same S, fun H3 r r0 r1 D3 B3 => ?_⟩
      have e3 := B3.at e (nin1 nDd)
      obtain ⟨v, hv, hat⟩ := atI_in r0 r1
      obtain ⟨c, hc, rfl⟩ := List.mem_map.mp hv
      refine ⟨D, _, r, _, rfl, rfl, SqL.of e3, hat, z, ⟨#[c]⟩, rfl, rfl, by show z.length + 1 ≤ _; rw [sizeLine_eq]; omega, ?_⟩
      refine ⟨_, _, _, z ++ ⟨#[c]⟩, rfl, by rw [Str.length_append]; show z.length + 1 = _; omega, fun x hx => ?_, ?_, D3, fun b o hb he => B3 b o hb ((S _ _ (B1 b o hb he)))⟩
      · have hx2 : x ∈ z.cps.toList ++ [c] := by
          have e5 : (z ++ ⟨#[c]⟩ : Str).cps.toList = z.cps.toList ++ [c] := by
            show (z.cps ++ #[c]).toList = _
            rw [Array.toList_append]
          rw [← e5]
          exact hx
        rcases List.mem_append.mp hx2 with h | h
        · exact ho x h
        · have e6 : x = c := by simpa using h
          rw [e6]
          rw [ey] at hc
          exact (List.mem_filter.mp hc).1
      · have e5 : (z ++ ⟨#[c]⟩ : Str).cps.toList = z.cps.toList ++ [c] := by
          show (z.cps ++ #[c]).toList = _
          rw [Array.toList_append]
        rw [e5]
        rw [ey] at hc
        have nc : c ∉ z.cps.toList := by simpa using (List.mem_filter.mp hc).2
        exact List.nodup_append.mpr ⟨hn, by simp, fun a ha b hb e => nc (by rw [← List.mem_singleton.mp hb, ← e]; exact ha)⟩
  · rintro σ H1 ⟨v4, v5, v6, z, rfl, hz, ho, hn, D1, B1⟩
    exact ⟨_, rfl, k H1 z (by omega) ho hn D1 B1⟩
end
end Rz

namespace Rz
open PySem PySem.Spec PyProof.Rows L2
def sp_law_is_int : Sp := fun vs H Q _ => ∃ n : Int, vs = [.int n] ∧ Q (.bl true) H
section
variable {w : World} {K : PySem.W.Frag} {mg : Str → Option Value} {base : Heap}
theorem sc_law_is_int : FnScope N__law_is_int P__law_is_int (defScope s__law_is_int) := ⟨rfl, rfl, rfl, by decide +kernel, rfl, by decide +kernel, by decide +kernel⟩
theorem ok_law_is_int (T : Txt K mg) : FnOk prg w K mg base (L2.CX prg w) 1 T.f__law_is_int T.fd__law_is_int P__law_is_int sp_law_is_int := by
  refine Rz.Fun.okN T.F__law_is_int sc_law_is_int (fun vs H Q E h => ?_) (fun cdv A outer s H vs Q E hr h => ?_)
  · obtain ⟨n, rfl, _⟩ := h
    rfl
  obtain ⟨n, rfl, k⟩ := h
  refine ⟨_, (pss_one (ps_ret (pe_and (pe_callB call_isi (by rfl) T.n_isinstance (by decide +kernel) (pa_cons (pv 0) (pa_cons (pe_bltn (v := .ty "int") (by rfl) T.n_int (by decide +kernel) rfl) pa_nil))) (pe_one (pe_not (pe_callB call_isi (by rfl) T.n_isinstance (by decide +kernel) (pa_cons (pv 0) (pa_cons (pe_bltn (v := .ty "bool") (by rfl) T.n_bool (by decide +kernel) rfl) pa_nil)))))))), ?_⟩
  refine ⟨_, rfl, _, _, .type "int", .type "int", true, rfl, .ty _, .base (.int n), kit_ty (by decide +kernel), true, rfl, ?_⟩
  exact iteT ⟨_, rfl, _, _, .type "int", .type "bool", false, rfl, .ty _, .base (.int n), kit_ty (by decide +kernel), false, rfl, k⟩
end
end Rz

namespace Rz
open PySem PySem.Spec PyProof.Rows L2
def sp_law_as_row (cR : Addr) : Sp := fun vs H Q _ => ∃ (l : Addr) (ps : List Pr), vs = [.ref l] ∧ LAt H l ps ∧ GoodR ps ∧ ps.length ≤ 100000 ∧ ∀ H' p m, Same H H' → H p = none → H m = none → RAt cR H' p m ps → Q (.ref p) H'
section
variable {w : World} {K : PySem.W.Frag} {mg : Str → Option Value} {base : Heap}
theorem sc_law_as_row : FnScope N__law_as_row P__law_as_row (defScope s__law_as_row) := ⟨rfl, rfl, rfl, by decide +kernel, rfl, by decide +kernel, by decide +kernel⟩
theorem ok_law_as_row (T : Txt K mg) : FnOk prg w K mg base (L2.CX prg w) 6 T.f__law_as_row T.fd__law_as_row P__law_as_row (sp_law_as_row T.c_Row) := by
  refine Rz.Fun.okN T.F__law_as_row sc_law_as_row (fun vs H Q E h => ?_) (fun cdv A outer s H vs Q E hr h => ?_)
  · obtain ⟨l, ps, rfl, _⟩ := h
    rfl
  obtain ⟨l, ps, rfl, hL, hg, hz, k⟩ := h
  have nd := sc_law_as_row.nd
  obtain ⟨ds, vd, bd⟩ := bd_Row_init_3 T
  cases vd
  refine ⟨_, (pss_one (ps_ret (pe_mk ⟨T.mk_Row, T.M_Row_init.at_, T.M_Row_init.fn, T.kp_Row⟩ (ok_Row_init T) (hr.mono (by decide)) (by rfl) T.m_Row bd .nil (fun _ => atN _) (pa_cons (pe_join pe_str (pe_lc (own := [("_law_pair", 1)]) (g := (gName 1)) (tt := tYes) rfl nd (pi_list (pv 0)) (blkOk_by (N := N__law_as_row) (sc := defScope s__law_as_row) (by decide +kernel)) (fun _ _ _ _ _ => (pg_name (i := 1) nd rfl (Or.inl rfl))) (fun _ _ _ _ _ => pts_nil) (fun _ _ _ _ _ => (pe_ix (show IxR _ (rIxT K) from ix_tup) (pv 1) pe_int (fun _ _ => rfl))))) (pa_cons (pe_lc (own := [("_law_pair", 1)]) (g := (gName 1)) (tt := tYes) rfl nd (pi_list (pv 0)) (blkOk_by (N := N__law_as_row) (sc := defScope s__law_as_row) (by decide +kernel)) (fun _ _ _ _ _ => (pg_name (i := 1) nd rfl (Or.inl rfl))) (fun _ _ _ _ _ => pts_nil) (fun _ _ _ _ _ => (pe_ix (show IxR _ (rIxT K) from ix_tup) (pv 1) pe_int (fun _ _ => rfl)))) pa_nil))))), ?_⟩
  obtain ⟨ts, hl, hP⟩ := id hL
  have zs : ps.length ≤ sizeLine := by rw [sizeLine_eq]; omega
  refine ⟨⟨_, rfl⟩, _, rfl, l, rfl, ⟨_, SqL.of hl⟩, fun D hD => lc_pairs (K := K) (l := l) (ps := ps) (fun q => .str ⟨#[q.1]⟩) hL zs hD ?_ ?_⟩
  · intro t q H2 Q2 _ S e c
    exact ⟨rfl, _, rfl, t, _, _, _, rfl, rfl, SqT.of e, rfl, c _ (Same.refl _)⟩
  intro H2 S2 e2
  have e2' : ps.map (fun q => V.str ⟨#[q.1]⟩) = (ps.map fun q => (⟨#[q.1]⟩ : Str)).map V.str := by rw [List.map_map]; rfl
  rw [e2'] at e2
  refine ⟨_, D, _, rfl, rfl, .inl (SqL.of e2), ?_, ?_⟩
  · rw [sum_ones (fun y hy => by obtain ⟨q, _, rfl⟩ := List.mem_map.mp hy; rfl), List.length_map]
    show _ + _ * 0 ≤ _
    omega
  rw [join_signs]
  have hL2 := hL.same S2
  refine ⟨_, rfl, l, rfl, ⟨_, SqL.of (S2 _ _ hl)⟩, fun D2 hD2 => lc_pairs (K := K) (l := l) (ps := ps) (fun q => .int q.2) hL2 zs hD2 ?_ ?_⟩
  · intro t q H3 Q2 _ S e c
    exact ⟨rfl, _, rfl, t, _, _, _, rfl, rfl, SqT.of e, rfl, c _ (Same.refl _)⟩
  intro H3 S3 e3
  have e3' : H3 D2 = some (.lst ((hts ps).map V.int)) := by
    rw [e3]
    unfold hts
    rw [List.map_map]
    rfl
  intro x dx hx hdx ndx
  have S03 := S2.trans S3
  have nxD : D2 ≠ x := ne_of_none e3' hx
  have ndD : D2 ≠ dx := ne_of_none e3' hdx
  have small : ∀ n ∈ hts ps, n.natAbs < 2 ^ 64 := fun n hn => by
    obtain ⟨q, hq, rfl⟩ := List.mem_map.mp hn
    have := (hg q hq).2
    omega
  refine ⟨x, dx, tx ps, _, hts ps, rfl, by rw [tx_len]; omega, upd_same, .inr ⟨D2, rfl, by rw [upd_ne nxD, upd_ne ndD]; exact e3', by rw [hts_len]; omega, small⟩, ?_⟩
  rw [rr_good hg, tx_hts_zip]
  intro H4 m B hm hR
  refine ⟨rfl, k H4 x m ?_ (S03.free hx) ?_ hR⟩
  · intro b o e
    have e1 := S03 _ _ e
    exact B b o (by have := ne_of_none e1 hx; simpa using this) (by rw [upd_ne (ne_of_none e1 hx), upd_ne (ne_of_none e1 hdx)]; exact e1)
  · cases q : H m with
    | none => rfl
    | some o =>
      have e1 := S03 _ _ q
      rw [upd_ne (ne_of_none e1 hx), upd_ne (ne_of_none e1 hdx), e1] at hm
      cases hm
end
end Rz

namespace Rz
open PySem PySem.Spec PyProof.Rows L2
def sp_law_odd_sign : Sp := fun vs H Q _ => ∃ d : Addr, vs = [.ref d] ∧ Dr H d ∧ ∀ H' c, oddC c = true → c < 128 → Dr H' d → But [d] H H' → Q (.str ⟨#[c]⟩) H'
section
variable {w : World} {K : PySem.W.Frag} {mg : Str → Option Value} {base : Heap}
theorem sc_law_odd_sign : FnScope N__law_odd_sign P__law_odd_sign (defScope s__law_odd_sign) := ⟨rfl, rfl, rfl, by decide +kernel, rfl, by decide +kernel, by decide +kernel⟩
theorem ok_law_odd_sign (T : Txt K mg) : FnOk prg w K mg base (L2.CX prg w) 2 T.f__law_odd_sign T.fd__law_odd_sign P__law_odd_sign sp_law_odd_sign := by
  refine Rz.Fun.okN T.F__law_odd_sign sc_law_odd_sign (fun vs H Q E h => ?_) (fun cdv A outer s H vs Q E hr h => ?_)
  · obtain ⟨d, rfl, _⟩ := h
    rfl
  obtain ⟨d, rfl, hD, k⟩ := h
  have nd := sc_law_odd_sign.nd
  refine ⟨_, (pss_cons (ps_set (i := 1) nd rfl (Or.inl rfl) pe_str)
    (pss_one (ps_ret (pe_ix ix_str (pv 1) (pe_fn (ok_law_pick T) (hr.mono (by decide)) (by rfl) T.m__law_pick T.F__law_pick.kp T.b__law_pick .nil (fun _ => atN _) (pa_cons (pv 0) (pa_cons (pe_callB call_len_str (by rfl) T.n_len PySem.boot_len (pa_cons (pv 1) pa_nil)) pa_nil))) (fun _ _ => rfl))))), ?_⟩
  refine ⟨_, rfl, _, rfl, _, rfl, _, rfl, by decide +kernel, d, _, rfl, by decide +kernel, hD, fun H1 r h0 h1 D1 B1 => ?_⟩
  obtain ⟨c, hm, hat⟩ := atI_in h0 (by rw [len_list]; exact h1)
  have hc : oddC c = true ∧ c < 128 := by
    have all : ∀ x ∈ (" !\"#$&'()*+,-./0123456789:;<=>?@ABCDEFGHIJKLMNOPQRSTUVWXYZ[\\]^_`{|}~\n\t" : Str).cps.toList, oddC x = true ∧ x < 128 := by decide +kernel
    exact all c hm
  exact ⟨_, _, c, rfl, rfl, by decide +kernel, hat, k H1 c hc.1 hc.2 D1 B1⟩
end
end Rz

namespace Rz
open PySem PySem.Spec PyProof.Rows L2
theorem iteF2 {c : Bool} {A B : Prop} (e : c = false) (h : B) : if c = true then A else B := by
  rw [e]
  exact iteF h
theorem iteT2 {c : Bool} {A B : Prop} (e : c = true) (h : A) : if c = true then A else B := by
  rw [e]
  exact iteT h
/-- the dict says where each state leads -/
def ArAt (H : Hp) (a : Addr) (ps : List Lk) : Prop := ∃ kvs : List (Key × V), H a = some (.dK kvs) ∧ ∀ s : Int, (valV kvs (.inl s) = none ∧ succs ps s = []) ∨ ∃ l, valV kvs (.inl s) = some (.ref l) ∧ H l = some (.lst ((succs ps s).map V.int))
theorem has_keys {x : Int} : ∀ {R : List (Key × V)}, hasK R x = true ↔ (Sum.inl x : Key) ∈ R.map (·.1)
  | [] => by simp [hasK, valV]
  | p :: R => by
    unfold hasK
    by_cases e : p.1 = .inl x
    · rw [valV_pos e, List.map_cons, e]
      simp
    · rw [valV_neg e, List.map_cons, List.mem_cons]
      exact has_keys.trans ⟨.inr, fun h => h.resolve_left fun z => e z.symm⟩
/-- the links whose source is not found yet -/
def srcLeft (ps : List Lk) (R : List (Key × V)) : Nat := (ps.filter fun p => !hasK R p.1).length
theorem src_put {R : List (Key × V)} {x : Int} {v : V} (n : ¬ hasK R x = true) : ∀ ps : List Lk, srcLeft ps (putK R (.inl x) v) + (succs ps x).length = srcLeft ps R
  | [] => rfl
  | p :: ps => by
    have ih := src_put (v := v) n ps
    have key : hasK (putK R (.inl x) v) p.1 = true ↔ p.1 = x ∨ hasK R p.1 = true := hasK_put
    unfold srcLeft succs at ih ⊢
    rw [List.length_map] at ih ⊢
    rw [List.filter_cons, List.filter_cons, List.filter_cons]
    by_cases e : p.1 = x
    · have h1 : hasK (putK R (.inl x) v) p.1 = true := key.mpr (.inl e)
      have h2 : hasK R p.1 = false := by
        rw [e]
        simpa using n
      rw [h1, h2, if_neg (by decide), if_pos (decide_eq_true e), if_pos (by decide), List.length_cons, List.length_cons]
      omega
    · by_cases h : hasK R p.1 = true
      · have h1 : hasK (putK R (.inl x) v) p.1 = true := key.mpr (.inr h)
        rw [h1, h, if_neg (by decide), if_neg (fun z => e (of_decide_eq_true z)), if_neg (by decide)]
        exact ih
      · have h1 : hasK (putK R (.inl x) v) p.1 = false := by
          cases q : hasK (putK R (.inl x) v) p.1 with
          | false => rfl
          | true => exact absurd (key.mp q) (fun z => z.elim e h)
        have h2 : hasK R p.1 = false := by simpa using h
        rw [h1, h2, if_pos (by decide), if_neg (fun z => e (of_decide_eq_true z)), if_pos (by decide), List.length_cons, List.length_cons]
        omega
def SpW (a st D wl : Addr) (H3 : Hp) (ps : List Lk) (ss : List Int) (m : Nat) (σ : L2.St) (H' : Hp) : Prop := ∃ (v4 : Option V) (R : List (Key × V)) (w ns : List Int), σ = [some (.ref a), some (.ref st), some (.ref D), some (.ref wl), v4] ∧ (∀ b o, b ≠ D → b ≠ wl → H3 b = some o → H' b = some o) ∧ H' D = some (.dK R) ∧ H' wl = some (.lst (w.map V.int)) ∧ R.map (·.1) = ns.map Sum.inl ∧
  R.length + (w.length + srcLeft ps R) ≤ 20000 ∧ (∀ x ∈ w, Reach ps ss x) ∧ (∀ x, hasK R x = true → Reach ps ss x) ∧ (∀ x ∈ ss, hasK R x = true ∨ x ∈ w) ∧ (∀ x, hasK R x = true → ∀ y ∈ succs ps x, hasK R y = true ∨ y ∈ w) ∧ m = w.length + srcLeft ps R
def sp_law_spread : Sp := fun vs H Q _ => ∃ (a st : Addr) (ss : List Int) (ps : List Lk), vs = [.ref a, .ref st] ∧ ArAt H a ps ∧ H st = some (.lst (ss.map V.int)) ∧ ss.length ≤ 10000 ∧ ps.length ≤ 10000 ∧
  ∀ H' (r : Addr) (fs : List Int), Same H H' → H r = none → H' r = some (.lst (fs.map V.int)) → (∀ x, x ∈ fs ↔ Reach ps ss x) → Q (.ref r) H'
section
variable {w : World} {K : PySem.W.Frag} {mg : Str → Option Value} {base : Heap}
theorem sc_law_spread : FnScope N__law_spread P__law_spread (defScope s__law_spread) := ⟨rfl, rfl, rfl, by decide +kernel, rfl, by decide +kernel, by decide +kernel⟩
theorem ok_law_spread (T : Txt K mg) : FnOk prg w K mg base (L2.CX prg w) 1 T.f__law_spread T.fd__law_spread P__law_spread sp_law_spread := by
  refine Rz.Fun.okN T.F__law_spread sc_law_spread (fun vs H Q E h => ?_) (fun cdv A outer s H vs Q E hr h => ?_)
  · obtain ⟨a, st, ss, ps, rfl, _⟩ := h
    rfl
  obtain ⟨a, st, ss, ps, rfl, ⟨kvs, ha, hk⟩, hst, zs, zp, k⟩ := h
  have nd := sc_law_spread.nd
  have hu : (A.deeper (envOfC "_law_spread" (defScope s__law_spread) s.heap.objs.size T.f__law_spread cdv)).units + 1 < cLine := by
    have := hr.un
    omega
  refine ⟨_, (pss_cons (ps_set (i := 2) nd rfl (Or.inl rfl) pe_dnewK)
    (pss_cons (ps_set (i := 3) nd rfl (Or.inl rfl) (pe_callTy call_listS (by rfl) T.n_list (by decide +kernel) (pa_cons (pv 1) pa_nil)))
    (pss_cons (ps_while PassesOwn.never (pt_cmpR (op_neD hr.units) (pv 3) (pe_lst pa_nil) (nomark _)) (pss_cons (ps_set (i := 4) nd rfl (Or.inl rfl) (pe_bm0 PySem.F.plainAttrs_list PySem.F.slot_list_pop PySem.F.type_list_pop mt_pop (pv 3)))
      (pss_one (ps_if (pt_cmp (pc_dnotin hu (pv 4) (pv 2)) rfl) (pss_cons (ps_dput hu (pv 2) (pv 4) pe_bl rfl)
        (pss_one (ps_expr (pe_bm PySem.F.plainAttrs_list PySem.F.slot_list_extend PySem.F.type_list_extend mt_extend (pv 3) (pa_cons (pe_dget2 hu (pv 0) (pv 4) (pe_lst pa_nil) ⟨rfl, rfl, rfl, rfl⟩) pa_nil))))) pss_nil))))
    (pss_one (ps_ret (pe_callB cr_sortedI (by rfl) T.n_sorted (by decide +kernel) (pa_cons (pe_callTy (call_listD (by rfl)) (by rfl) T.n_list (by decide +kernel) (pa_cons (pv 2) pa_nil)) pa_nil))))))), ?_⟩
  refine fun D hD => ?_
  have S0 := Rz.Same.new (o := .dK []) (Same.refl H) hD
  have eD0 : upd H D (.dK []) D = some (.dK []) := upd_same
  generalize upd H D (.dK []) = H0 at S0 eD0 ⊢
  unfold rListS
  refine ⟨_, rfl, st, _, rfl, SqL.of (S0 _ _ hst), fun wl hwl => ?_⟩
  have S3 := Rz.Same.new (o := .lst (ss.map V.int)) (Same.refl H0) hwl
  have ew : upd H0 wl (.lst (ss.map V.int)) wl = some (.lst (ss.map V.int)) := upd_same
  have eD := S3 _ _ eD0
  have nDw : D ≠ wl := fun z => by rw [z, hwl] at eD0; cases eD0
  have SH := S0.trans S3
  have hD0 : H D = none := hD
  have hw0 : H wl = none := S0.free hwl
  generalize upd H0 wl (.lst (ss.map V.int)) = H3 at S3 ew eD SH ⊢
  have sz0 : srcLeft ps [] ≤ ps.length := List.length_filter_le _ _
  refine ⟨SpW a st D wl H3 ps ss, ⟨_, none, [], ss, [], rfl, fun b o _ _ h => h, eD, ew, rfl, by show 0 + _ ≤ _; omega, fun x h => .start h, fun x h => (by cases h), fun x h => .inr h, fun x h => (by cases h), rfl⟩, ?_⟩
  rintro m σ H' ⟨v4, R, w, ns, rfl, I, eR, ewl, en, zz, c1, c2, c3, c4, rfl⟩
  refine ⟨_, rfl, Nat.zero_le _, fun p hp => ?_⟩
  have Sp := Rz.Same.new (o := .lst []) (Same.refl H') hp
  have eR := Sp _ _ eR
  have ewl := Sp _ _ ewl
  have I : ∀ b o, b ≠ D → b ≠ wl → H3 b = some o → upd H' p (.lst []) b = some o := fun b o h1 h2 h => Sp _ _ (I b o h1 h2 h)
  have ep : upd H' p (.lst []) p = some (.lst (([] : List Int).map V.int)) := upd_same
  generalize upd H' p (.lst []) = H1 at Sp eR ewl I ep ⊢
  refine ⟨dInts w, dInts [], dp_ints (SqL.of ewl), dp_ints (SqL.of ep), ints_shaped _, ints_shaped _, _, rfl, ?_⟩
  rw [ints_eqv]
  have SH' : Same H H1 := fun b o h => I b o (fun z => by rw [z, hD0] at h; cases h) (fun z => by rw [z, hw0] at h; cases h) (SH b o h)
  by_cases hw : w = []
  · subst hw
    refine iteF2 (by rw [decide_eq_true rfl]; decide) ?_
    have ek : (R.map fun kv => L2.kV kv.1) = ns.map V.int := by
      have q := congrArg (List.map L2.kV) en
      rw [List.map_map, List.map_map] at q
      exact q
    refine ⟨_, rfl, D, R, rfl, .inl eR, fun q hq => ?_⟩
    have S4 := Rz.Same.new (o := .lst (R.map fun kv => L2.kV kv.1)) (Same.refl H1) hq
    rw [ek] at S4 ⊢
    refine ⟨q, ns, rfl, SqL.of upd_same, fun ms r pm _ hr2 => ?_⟩
    have S5 := Rz.Same.new (o := .lst (ms.map V.int)) (Same.refl (upd H1 q (.lst (ns.map V.int)))) hr2
    refine k _ r ms ((SH'.trans S4).trans S5) ((SH'.trans S4).free hr2) upd_same fun x => ?_
    have h1 : x ∈ ms ↔ hasK R x = true := by
      rw [pm.mem_iff, has_keys, en]
      simp
    rw [h1]
    exact ⟨c2 x, reach_all (P := fun x => hasK R x = true) (fun y hy => (c3 y hy).resolve_right (by simp)) (fun y hy z hz => (c4 y hy z hz).resolve_right (by simp))⟩
  · refine iteT2 (by rw [decide_eq_false hw]; decide) ?_
    obtain ⟨w0, x, rfl⟩ : ∃ w0 x, w = w0 ++ [x] := ⟨w.dropLast, w.getLast hw, (List.dropLast_concat_getLast hw).symm⟩
    refine ⟨fun σ' H2 => ∃ m', m' < (w0 ++ [x]).length + srcLeft ps R ∧ SpW a st D wl H3 ps ss m' σ' H2, fun _ _ h => h, ?_⟩
    have eg : ((w0 ++ [x]).map V.int)[((w0 ++ [x]).map V.int).length - 1]? = some (.int x) := by simp
    have edl : ((w0 ++ [x]).map V.int).dropLast = w0.map V.int := by simp
    refine ⟨_, rfl, .inl ⟨rfl, _, SqL.of ewl⟩, wl, _, _, rfl, rfl, ewl, eg, ?_⟩
    rw [edl]
    have rx := c1 x (by simp)
    rw [List.length_append, List.length_singleton] at zz
    have e1D : upd H1 wl (.lst (w0.map V.int)) D = some (.dK R) := by rw [upd_ne nDw]; exact eR
    have I1 : ∀ b o, b ≠ D → b ≠ wl → H3 b = some o → upd H1 wl (.lst (w0.map V.int)) b = some o := fun b o h1 h2 h => by rw [upd_ne h2]; exact I b o h1 h2 h
    have e1w : upd H1 wl (.lst (w0.map V.int)) wl = some (.lst (w0.map V.int)) := upd_same
    generalize upd H1 wl (.lst (w0.map V.int)) = H4 at I1 e1D e1w ⊢
    have old : ∀ {y : Int}, y ∈ w0 ++ [x] → hasK R x = true → hasK R y = true ∨ y ∈ w0 := fun {y} h hx => by
      rcases List.mem_append.mp h with q | q
      · exact .inr q
      · rw [List.mem_singleton.mp q]
        exact .inl hx
    refine ⟨_, rfl, _, rfl, D, valV R (.inl x), rfl, .inl ⟨R, .inl x, .inl e1D, rfl, rfl⟩, ?_⟩
    cases hv : valV R (.inl x) with
    | some v =>
      have hx : hasK R x = true := by unfold hasK; rw [hv]; rfl
      refine ⟨_, rfl, ?_⟩
      exact ⟨w0.length + srcLeft ps R, by rw [List.length_append, List.length_singleton]; omega, _, R, w0, ns, rfl, I1, e1D, e1w, en, by omega, fun y h => c1 y (List.mem_append_left _ h), c2, fun y h => (c3 y h).elim .inl fun q => old q hx, fun y h z hz => (c4 y h z hz).elim .inl fun q => old q hx, rfl⟩
    | none =>
      have hx : ¬ hasK R x = true := by unfold hasK; rw [hv]; simp
      refine ⟨_, rfl, ?_⟩
      show (if true = true then _ else _)
      rw [if_pos rfl]
      refine ⟨_, rfl, _, rfl, D, _, rfl, .inl ⟨R, .inl x, e1D, rfl, by rw [sizeLine_eq]; omega, rfl⟩, ?_⟩
      have e2w : upd H4 D (.dK (putK R (.inl x) (.bl true))) wl = some (.lst (w0.map V.int)) := by rw [upd_ne (Ne.symm nDw)]; exact e1w
      have e2D : upd H4 D (.dK (putK R (.inl x) (.bl true))) D = some (.dK (putK R (.inl x) (.bl true))) := upd_same
      have I2 : ∀ b o, b ≠ D → b ≠ wl → H3 b = some o → upd H4 D (.dK (putK R (.inl x) (.bl true))) b = some o := fun b o h1 h2 h => by rw [upd_ne h1]; exact I1 b o h1 h2 h
      generalize upd H4 D (.dK (putK R (.inl x) (.bl true))) = H5 at I2 e2D e2w ⊢
      have nad : a ≠ D := fun z => by rw [z, hD0] at ha; cases ha
      have naw : a ≠ wl := fun z => by rw [z, hw0] at ha; cases ha
      have ea := I2 a _ nad naw (SH _ _ ha)
      refine ⟨_, rfl, .inl ⟨rfl, _, SqL.of e2w⟩, _, rfl, a, rfl, .inl ⟨kvs, .inl ea⟩, _, rfl, by show 0 ≤ sizeLine; decide, fun q hq => ?_⟩
      have S6 := Rz.Same.new (o := .lst []) (Same.refl H5) hq
      have n1 : q ≠ D := fun z => by rw [z, e2D] at hq; cases hq
      have n2 : q ≠ wl := fun z => by rw [z, e2w] at hq; cases hq
      obtain ⟨l, el, hl, nlD, nlw⟩ : ∃ l, (valV kvs (.inl x)).getD (.ref q) = .ref l ∧ upd H5 q (.lst []) l = some (.lst ((succs ps x).map V.int)) ∧ l ≠ D ∧ l ≠ wl := by
        rcases hk x with ⟨z1, z2⟩ | ⟨l, z1, z2⟩
        · exact ⟨q, by rw [z1]; rfl, by rw [z2]; exact upd_same, n1, n2⟩
        · have m1 : l ≠ D := fun z => by rw [z, hD0] at z2; cases z2
          have m2 : l ≠ wl := fun z => by rw [z, hw0] at z2; cases z2
          exact ⟨l, by rw [z1]; rfl, S6 _ _ (I2 l _ m1 m2 (SH _ _ z2)), m1, m2⟩
      have sl := succs_len ps x
      have up := src_put (v := .bl true) hx ps
      have lp := length_putK R (.inl x) (.bl true)
      refine ⟨valV kvs (.inl x), .inl ⟨kvs, .inl x, .inl (S6 _ _ ea), rfl, rfl⟩, ?_⟩
      rw [el]
      refine ⟨wl, l, _, _, rfl, rfl, S6 _ _ e2w, hl, by rw [List.length_map, List.length_map, sizeLine_eq]; omega, ?_⟩
      have ln : (w0 ++ succs ps x).length = w0.length + (succs ps x).length := List.length_append
      refine ⟨(w0 ++ succs ps x).length + srcLeft ps (putK R (.inl x) (.bl true)), by rw [List.length_append, List.length_append, List.length_singleton]; omega, _, putK R (.inl x) (.bl true), w0 ++ succs ps x, ns ++ [x], rfl, fun b o h1 h2 h => by rw [upd_ne h2]; exact S6 _ _ (I2 b o h1 h2 h), by rw [upd_ne nDw]; exact S6 _ _ e2D, by rw [upd_same, List.map_append], ?_, by rw [List.length_append]; omega, fun y h => ?_, fun y h => ?_, fun y h => ?_, fun y h z hz => ?_, rfl⟩
      · rw [putK_new _ hv, List.map_append, List.map_append, en]
        rfl
      · rcases List.mem_append.mp h with q | q
        · exact c1 y (List.mem_append_left _ q)
        · exact .step rx q
      · rcases hasK_put.mp h with q | q
        · rw [q]
          exact rx
        · exact c2 y q
      · rcases c3 y h with q | q
        · exact .inl (hasK_put.mpr (.inr q))
        · rcases List.mem_append.mp q with q | q
          · exact .inr (List.mem_append_left _ q)
          · exact .inl (hasK_put.mpr (.inl (List.mem_singleton.mp q)))
      · rcases hasK_put.mp h with q | q
        · rw [q] at hz
          exact .inr (List.mem_append_right _ hz)
        · rcases c4 y q z hz with u | u
          · exact .inl (hasK_put.mpr (.inr u))
          · rcases List.mem_append.mp u with u | u
            · exact .inr (List.mem_append_left _ u)
            · exact .inl (hasK_put.mpr (.inl (List.mem_singleton.mp u)))
end
end Rz

namespace Rz
open PySem PySem.Spec PyProof.Rows L2
/-! ### the law's own graph -/
abbrev Ot := Nat × Int × Int
def otK (o : Ot) : List Key := [.inr ⟨#[o.1]⟩, .inl o.2.1, .inl o.2.2]
def outsOf (es : List Ed) (s : Int) : List Ot := (es.filter fun e => decide (e.1 = s)).map (·.2)
theorem outsOf_snoc (es : List Ed) (e : Ed) (s : Int) : outsOf (es ++ [e]) s = if e.1 = s then outsOf es s ++ [e.2] else outsOf es s := by
  unfold outsOf
  rw [List.filter_append, List.map_append]
  by_cases h : e.1 = s
  · rw [if_pos h, List.filter_cons, if_pos (decide_eq_true h)]
    rfl
  · rw [if_neg h, List.filter_cons, if_neg (by simpa using h)]
    simp
theorem outsOf_len (es : List Ed) (s : Int) : (outsOf es s).length ≤ es.length := by
  unfold outsOf
  rw [List.length_map]
  exact List.length_filter_le _ _
theorem mem_outs {es : List Ed} {s : Int} {o : Ot} : o ∈ outsOf es s ↔ (s, o) ∈ es := by
  unfold outsOf
  rw [List.mem_map]
  constructor
  · rintro ⟨e, he, rfl⟩
    obtain ⟨h1, h2⟩ := List.mem_filter.mp he
    rw [← of_decide_eq_true h2]
    exact h1
  · intro h
    exact ⟨(s, o), List.mem_filter.mpr ⟨h, by simp⟩, rfl⟩
/-- where each state leads, its lists younger than H0 -/
def TfAt (H0 H : Hp) (d : Addr) (es : List Ed) (kvs : List (Key × V)) : Prop := H d = some (.dK kvs) ∧
  (∀ s : Int, (valV kvs (.inl s) = none ∧ outsOf es s = []) ∨ ∃ l, valV kvs (.inl s) = some (.ref l) ∧ l ≠ d ∧ H0 l = none ∧ TpAt otK H l (outsOf es s)) ∧
  ∀ s u l, valV kvs (.inl s) = some (.ref l) → valV kvs (.inl u) = some (.ref l) → s = u
theorem TfAt.same {H0 H H' : Hp} {d : Addr} {es : List Ed} {kvs : List (Key × V)} (F : TfAt H0 H d es kvs) (S : Same H H') : TfAt H0 H' d es kvs :=
  ⟨S _ _ F.1, fun s => (F.2.1 s).imp id fun ⟨l, a, b, c, e⟩ => ⟨l, a, b, c, e.same S⟩, F.2.2⟩
theorem tf_old {H0 H : Hp} {d l u : Addr} {es : List Ed} {kvs : List (Key × V)} {e : Ed} {ts : List Addr} (F : TfAt H0 H d es kvs) (h : valV kvs (.inl e.1) = some (.ref l)) (hl : H l = some (.lst (ts.map V.ref))) (hT : TpL otK H ts (outsOf es e.1)) (hu : H u = none) :
    TfAt H0 (upd (upd H u (.tup ((otK e.2).map kV))) l (.lst (ts.map V.ref ++ [.ref u]))) d (es ++ [e]) kvs := by
  obtain ⟨f1, f2, f3⟩ := F
  have T : Tups H (upd (upd H u (.tup ((otK e.2).map kV))) l (.lst (ts.map V.ref ++ [.ref u]))) := Tups.upd (Tups.of (Rz.Same.new (Same.refl H) hu)) (fun xs z => by
    rw [Rz.Same.new (o := .tup ((otK e.2).map kV)) (Same.refl H) hu _ _ hl] at z
    cases z)
  have nld : l ≠ d := fun z => by rw [z, f1] at hl; cases hl
  have nud : u ≠ d := fun z => by rw [z, f1] at hu; cases hu
  refine ⟨by rw [upd_ne (Ne.symm nld), upd_ne (Ne.symm nud)]; exact f1, fun s => ?_, f3⟩
  rw [outsOf_snoc]
  rcases f2 s with ⟨z1, z2⟩ | ⟨l2, z1, z2, z3, us, z4, z5⟩
  · have ne : e.1 ≠ s := fun q => by rw [← q, h] at z1; cases z1
    rw [if_neg ne]
    exact .inl ⟨z1, z2⟩
  · refine .inr ⟨l2, z1, z2, z3, ?_⟩
    by_cases q : e.1 = s
    · subst q
      rw [h] at z1
      cases z1
      rw [if_pos rfl]
      exact tp_push hl hT hu
    · rw [if_neg q]
      have n1 : l2 ≠ l := fun y => q (f3 e.1 s l h (by rw [← y]; exact z1))
      have n2 : l2 ≠ u := fun y => by rw [y, hu] at z4; cases z4
      exact ⟨us, by rw [upd_ne n1, upd_ne n2]; exact z4, z5.keep T⟩
theorem tf_new {H0 H : Hp} {d q : Addr} {es : List Ed} {kvs : List (Key × V)} {s : Int} (F : TfAt H0 H d es kvs) (h : valV kvs (.inl s) = none) (hq : H q = none) (hq0 : H0 q = none) :
    TfAt H0 (upd (upd H q (.lst [])) d (.dK (putK kvs (.inl s) (.ref q)))) d es (putK kvs (.inl s) (.ref q)) := by
  obtain ⟨f1, f2, f3⟩ := F
  have nqd : q ≠ d := fun z => by rw [z, f1] at hq; cases hq
  have T : Tups H (upd (upd H q (.lst [])) d (.dK (putK kvs (.inl s) (.ref q)))) := Tups.upd (Tups.of (Rz.Same.new (Same.refl H) hq)) (fun xs z => by rw [upd_ne (Ne.symm nqd), f1] at z; cases z)
  have old : ∀ {s : Int} {l : Addr}, valV kvs (.inl s) = some (.ref l) → l ≠ q := fun {s l} z y => by
    rcases f2 s with ⟨w, _⟩ | ⟨l2, w, _, _, _, w4, _⟩
    · rw [z] at w
      cases w
    · rw [z] at w
      cases w
      rw [y, hq] at w4
      cases w4
  refine ⟨upd_same, fun u => ?_, fun s1 s2 l h1 h2 => ?_⟩
  · rw [valV_put]
    by_cases e : u = s
    · subst e
      rw [if_pos rfl]
      refine .inr ⟨q, rfl, nqd, hq0, [], by rw [upd_ne nqd, upd_same]; rfl, ?_⟩
      rcases f2 u with ⟨_, z⟩ | ⟨l, z, _⟩
      · rw [z]
        exact .nil
      · rw [h] at z
        cases z
    · rw [if_neg (fun z => e (by injection z))]
      rcases f2 u with z | ⟨l2, z1, z2, z3, us, z4, z5⟩
      · exact .inl z
      · exact .inr ⟨l2, z1, z2, z3, us, by rw [upd_ne z2, upd_ne (old z1)]; exact z4, z5.keep T⟩
  · rw [valV_put] at h1 h2
    by_cases e1 : (Sum.inl s1 : Key) = .inl s
    · by_cases e2 : (Sum.inl s2 : Key) = .inl s
      · injection e1 with e1
        injection e2 with e2
        rw [e1, e2]
      · rw [if_pos e1] at h1
        rw [if_neg e2] at h2
        cases h1
        exact absurd rfl (old h2)
    · rw [if_neg e1] at h1
      by_cases e2 : (Sum.inl s2 : Key) = .inl s
      · rw [if_pos e2] at h2
        cases h2
        exact absurd rfl (old h1)
      · rw [if_neg e2] at h2
        exact f3 s1 s2 l h1 h2
def OutAt (H : Hp) (a : Addr) (es : List Ed) : Prop := ∃ kvs : List (Key × V), H a = some (.dK kvs) ∧ ∀ s : Int, (valV kvs (.inl s) = none ∧ outsOf es s = []) ∨ ∃ l, valV kvs (.inl s) = some (.ref l) ∧ TpAt otK H l (outsOf es s)
def SprAt (H : Hp) (b : Addr) (many : Nat) (fr : List Lk) : Prop := ∃ kvs : List (Key × V), H b = some (.dK kvs) ∧ ∀ n : Nat, n < many → ∃ (l : Addr) (fs : List Int), valV kvs (.inl ((n : Nat) : Int)) = some (.ref l) ∧ H l = some (.lst (fs.map V.int)) ∧ ∀ x, x ∈ fs ↔ Reach fr [((n : Nat) : Int)] x
def GrAt (H : Hp) (g : Addr) (many : Nat) (es : List Ed) (fr : List Lk) : Prop := ∃ a b : Addr, H g = some (.tup [.ref a, .ref b]) ∧ OutAt H a es ∧ SprAt H b many fr
theorem OutAt.same {H H' : Hp} {a : Addr} {es : List Ed} (h : OutAt H a es) (S : Same H H') : OutAt H' a es := let ⟨kvs, e, r⟩ := h; ⟨kvs, S _ _ e, fun s => (r s).imp id fun ⟨l, x, y⟩ => ⟨l, x, y.same S⟩⟩
theorem SprAt.same {H H' : Hp} {b : Addr} {many : Nat} {fr : List Lk} (h : SprAt H b many fr) (S : Same H H') : SprAt H' b many fr := let ⟨kvs, e, r⟩ := h; ⟨kvs, S _ _ e, fun n hn => let ⟨l, fs, x, y, z⟩ := r n hn; ⟨l, fs, x, S _ _ y, z⟩⟩
theorem GrAt.same {H H' : Hp} {g : Addr} {many : Nat} {es : List Ed} {fr : List Lk} (h : GrAt H g many es fr) (S : Same H H') : GrAt H' g many es fr := let ⟨a, b, e, x, y⟩ := h; ⟨a, b, S _ _ e, x.same S, y.same S⟩
/-- so few different numbers below n -/
theorem few_belowN : ∀ (n : Nat) (xs : List Int), xs.Nodup → (∀ x ∈ xs, 0 ≤ x ∧ x < (n : Int)) → xs.length ≤ n
  | 0, [], _, _ => Nat.le_refl _
  | 0, x :: xs, _, h => by
    have := h x List.mem_cons_self
    omega
  | n + 1, xs, nd, h => by
    by_cases hm : ((n : Nat) : Int) ∈ xs
    · have q := few_belowN n (xs.erase (n : Int)) (nd.erase _) fun x hx => by
        have a := h x (List.mem_of_mem_erase hx)
        have b : x ≠ (n : Int) := fun e => by
          rw [e] at hx
          exact nd.not_mem_erase hx
        omega
      rw [List.length_erase_of_mem hm] at q
      omega
    · have q := few_belowN n xs nd fun x hx => by
        have a := h x hx
        have b : x ≠ (n : Int) := fun e => hm (by rw [← e]; exact hx)
        omega
      omega
/-- a dict that is a set of numbers -/
def NsAt (H : Hp) (D : Addr) (ns : List Int) : Prop := ∃ R : List (Key × V), H D = some (.dK R) ∧ R.map (·.1) = ns.map Sum.inl ∧ ns.Nodup
theorem ns_put {R : List (Key × V)} {ns : List Int} {x : Int} {v : V} (e : R.map (·.1) = ns.map Sum.inl) (nd : ns.Nodup) : ∃ ms : List Int, (putK R (.inl x) v).map (·.1) = ms.map Sum.inl ∧ ms.Nodup ∧ ∀ y, y ∈ ms ↔ y ∈ ns ∨ y = x := by
  by_cases h : hasK R x = true
  · have hx : x ∈ ns := by
      have q := has_keys.mp h
      rw [e] at q
      simpa using q
    refine ⟨ns, ?_, nd, fun y => ⟨.inl, fun z => z.elim id fun z => by rw [z]; exact hx⟩⟩
    have a : (R.any fun kv => decide (kv.1 = (Sum.inl x : Key))) = true := by
      rw [valV_any]
      exact h
    unfold putK
    rw [if_pos a, List.map_map, ← e]
    refine List.map_congr_left fun y _ => ?_
    show (if y.1 = Sum.inl x then (y.1, v) else y).1 = y.1
    split <;> rfl
  · have hx : x ∉ ns := fun z => h (has_keys.mpr (by rw [e]; exact List.mem_map.mpr ⟨x, z, rfl⟩))
    have hv : valV R (.inl x) = none := by
      unfold hasK at h
      cases q : valV R (.inl x) with
      | none => rfl
      | some y => rw [q] at h; exact absurd rfl h
    refine ⟨ns ++ [x], ?_, ?_, fun y => by rw [List.mem_append, List.mem_singleton]⟩
    · rw [putK_new _ hv, List.map_append, List.map_append, e]
      rfl
    · rw [List.nodup_append]
      refine ⟨nd, by simp, fun a ha b hb q => hx ?_⟩
      rw [← List.mem_singleton.mp hb, ← q]
      exact ha
theorem ns_keys {R : List (Key × V)} {ns : List Int} (en : R.map (·.1) = ns.map Sum.inl) : (R.map fun kv => L2.kV kv.1) = ns.map V.int := by
  have q := congrArg (List.map L2.kV) en
  rw [List.map_map, List.map_map] at q
  exact q
/-- list of a dict's keys -/
def rLsD : List V → Hp → VK → Prop := fun xs H Q => ∃ a kvs, xs = [V.ref a] ∧ Rd H a (.dK kvs) ∧ ∀ p : Addr, H p = none → Q (.ref p) (upd H p (.lst (kvs.map fun kv => L2.kV kv.1)))
theorem ns_list {H : Hp} {Q : VK} {D : Addr} {ns : List Int} (A : NsAt H D ns) (k : ∀ (H' : Hp) (r : Addr), Same H H' → H r = none → H' r = some (.lst (ns.map V.int)) → Q (.ref r) H') : rLsD [.ref D] H Q := by
  obtain ⟨R, eR, en, _⟩ := A
  have ek : (R.map fun kv => L2.kV kv.1) = ns.map V.int := by
    have q := congrArg (List.map L2.kV) en
    rw [List.map_map, List.map_map] at q
    exact q
  refine ⟨D, R, rfl, .inl eR, fun q hq => ?_⟩
  rw [ek]
  exact k _ q (Rz.Same.new (Same.refl H) hq) hq upd_same
/-- sorted(list(found)) -/
theorem sorted_ns {K : PySem.W.Frag} {H : Hp} {Q : VK} {D : Addr} {ns : List Int} {i : Nat} {σ : L2.St} (hσ : σ[i]? = some (some (.ref D))) (A : NsAt H D ns) (k : ∀ (H' : Hp) (r : Addr) (ms : List Int), Same H H' → H r = none → H' r = some (.lst (ms.map V.int)) → ms.Pairwise (· < ·) → (∀ x, x ∈ ms ↔ x ∈ ns) → Q (.ref r) H') :
    tCB (rSortedI K) (tCons (tCB rLsD (tCons (tVar i) tNil)) tNil) σ H Q := by
  refine ⟨_, hσ, ?_⟩
  show rLsD [.ref D] H (fun x H1 => rSortedI K [x] H1 Q)
  refine ns_list A fun H1 r S1 hr1 e1 => ⟨r, ns, rfl, SqL.of e1, fun ms q pm pw hq => ?_⟩
  have nd : ms.Nodup := pm.nodup_iff.mpr (let ⟨_, _, _, nd⟩ := A; nd)
  refine k _ q ms (S1.trans (Rz.Same.new (Same.refl H1) hq)) (S1.free hq) upd_same ?_ fun x => pm.mem_iff
  exact (pw.and nd).imp fun h => by omega
end Rz

namespace Rz
open PySem PySem.Spec PyProof.Rows L2
def sp_law_join : Sp := fun vs H Q _ => ∃ (b st : Addr) (ss : List Int) (many : Nat) (fr : List Lk), vs = [.ref b, .ref st] ∧ SprAt H b many fr ∧ H st = some (.lst (ss.map V.int)) ∧ (∀ s ∈ ss, 0 ≤ s ∧ s < (many : Int)) ∧ many ≤ 1000 ∧ (∀ p ∈ fr, 0 ≤ p.2 ∧ p.2 < (many : Int)) ∧
  ∀ (H' : Hp) (r : Addr) (fs : List Int), Same H H' → H r = none → H' r = some (.lst (fs.map V.int)) → fs.Pairwise (· < ·) → (∀ x, x ∈ fs ↔ ∃ s ∈ ss, Reach fr [s] x) → Q (.ref r) H'
section
variable {w : World} {K : PySem.W.Frag} {mg : Str → Option Value} {base : Heap}
theorem sc_law_join : FnScope N__law_join P__law_join (defScope s__law_join) := ⟨rfl, rfl, rfl, by decide +kernel, rfl, by decide +kernel, by decide +kernel⟩
theorem ok_law_join (T : Txt K mg) : FnOk prg w K mg base (L2.CX prg w) 1 T.f__law_join T.fd__law_join P__law_join sp_law_join := by
  refine Rz.Fun.okN T.F__law_join sc_law_join (fun vs H Q E h => ?_) (fun cdv A outer s H vs Q E hr h => ?_)
  · obtain ⟨b, st, ss, many, fr, rfl, _⟩ := h
    rfl
  obtain ⟨b, st, ss, many, fr, rfl, ⟨kvs, hb, hk⟩, hst, bs, zm, bf, k⟩ := h
  have nd := sc_law_join.nd
  have hu : (A.deeper (envOfC "_law_join" (defScope s__law_join) s.heap.objs.size T.f__law_join cdv)).units + 1 < cLine := by
    have := hr.un
    omega
  refine ⟨_, (pss_cons (ps_set (i := 2) nd rfl (Or.inl rfl) pe_dnewK)
    (pss_cons (ps_for PassesOwn.never rfl (pi_list (pv 1)) (pg_name (i := 3) nd rfl (Or.inl rfl))
      (pss_one (ps_for PassesOwn.never rfl (pi_list (pe_dget hu (pv 0) (pv 3) (fun _ _ => rfl))) (pg_name (i := 4) nd rfl (Or.inl rfl))
        (pss_one (ps_dput hu (pv 2) (pv 4) pe_bl rfl)))))
    (pss_one (ps_ret (pe_callB cr_sortedI (by rfl) T.n_sorted (by decide +kernel) (pa_cons (pe_callTy (call_listD (by rfl)) (by rfl) T.n_list (by decide +kernel) (pa_cons (pv 2) pa_nil)) pa_nil)))))), ?_⟩
  have inB : ∀ {s x : Int}, s ∈ ss → Reach fr [s] x → 0 ≤ x ∧ x < (many : Int) := fun {s x} hs r => ⟨reach_pos (fun p h => (bf p h).1) (bs s hs).1 r, reach_lt (fun p h => (bf p h).2) (bs s hs).2 r⟩
  intro D hD
  have S0 := Rz.Same.new (o := .dK []) (Same.refl H) hD
  have A0 : NsAt (upd H D (.dK [])) D [] := ⟨[], upd_same, rfl, List.nodup_nil⟩
  generalize upd H D (.dK []) = H0 at S0 A0
  refine ⟨_, rfl, st, rfl, ⟨_, SqL.of (S0 _ _ hst)⟩, for_list (K := K) (a := st) (xs := ss.map V.int) (fun i σ H' => ∃ (v3 v4 : Option V) (ns : List Int), σ = [some (.ref b), some (.ref st), some (.ref D), v3, v4] ∧ Same H H' ∧ NsAt H' D ns ∧ ∀ x, x ∈ ns ↔ ∃ s ∈ ss.take i, Reach fr [s] x)
    ⟨none, none, [], rfl, S0, A0, fun x => ⟨fun z => (by cases z), fun ⟨s, hs, _⟩ => (by simp at hs)⟩⟩ (fun i σ H' _ ⟨_, _, _, _, S, _⟩ => SqL.of (S _ _ hst)) ?_ ?_⟩
  · rintro i y σ H' hi ⟨v3, v4, ns, rfl, S, A, hn⟩
    obtain ⟨x, hx, rfl⟩ := mapi_get hi
    have xin := List.mem_of_getElem? hx
    obtain ⟨x0, x1⟩ := bs x xin
    obtain ⟨n, rfl⟩ := Int.eq_ofNat_of_zero_le x0
    obtain ⟨l, fs, hv, hl, hf⟩ := hk n (by omega)
    refine ⟨_, rfl, _, rfl, b, _, rfl, by rw [← hv]; exact DGet.k (k := .inl (n : Nat)) (S _ _ hb), l, rfl, ⟨_, SqL.of (S _ _ hl)⟩, for_list (K := K) (a := l) (xs := fs.map V.int) (fun j σ H' => ∃ (v4 : Option V) (ns : List Int), σ = [some (.ref b), some (.ref st), some (.ref D), some (.int (n : Nat)), v4] ∧ Same H H' ∧ NsAt H' D ns ∧ ∀ x, x ∈ ns ↔ (∃ s ∈ ss.take i, Reach fr [s] x) ∨ x ∈ fs.take j)
      ⟨v4, ns, rfl, S, A, fun x => (hn x).trans ⟨.inl, fun z => z.elim id fun z => (by simp at z)⟩⟩ (fun i σ H' _ ⟨_, _, _, S, _⟩ => SqL.of (S _ _ hl)) ?_ ?_⟩
    · rintro j y σ H2 hj ⟨v4, ms, rfl, S2, ⟨R, eR, en, ndm⟩, hm⟩
      obtain ⟨z, hz, rfl⟩ := mapi_get hj
      have tk1 : fs.take (j + 1) = fs.take j ++ [z] := by rw [List.take_add_one, hz]; rfl
      have zR : R.length ≤ 1000 := by
        have q := congrArg List.length en
        rw [List.length_map, List.length_map] at q
        rw [q]
        refine Nat.le_trans (few_belowN many ms ndm fun x hx => ?_) zm
        rcases (hm x).mp hx with ⟨s, hs, r⟩ | h
        · exact inB (List.mem_of_mem_take hs) r
        · exact inB xin ((hf x).mp (List.mem_of_mem_take h))
      obtain ⟨ms2, e2, nd2, h2⟩ := ns_put (x := z) (v := .bl true) en ndm
      refine ⟨_, rfl, _, rfl, D, _, rfl, .inl ⟨R, .inl z, eR, rfl, by rw [sizeLine_eq]; omega, rfl⟩, _, ms2, rfl, Rz.Same.upd S2 hD, ⟨_, upd_same, e2, nd2⟩, fun x => ?_⟩
      rw [h2, hm, tk1, List.mem_append, List.mem_singleton]
      exact or_assoc
    · rintro σ H2 ⟨v4, ms, rfl, S2, A2, hm⟩
      rw [List.length_map, List.take_length] at hm
      refine ⟨_, _, ms, rfl, S2, A2, fun x => ?_⟩
      rw [hm, List.take_add_one, hx, hf]
      constructor
      · rintro (⟨s, hs, r⟩ | r)
        · exact ⟨s, List.mem_append_left _ hs, r⟩
        · exact ⟨_, List.mem_append_right _ (by simp), r⟩
      · rintro ⟨s, hs, r⟩
        rcases List.mem_append.mp hs with h | h
        · exact .inl ⟨s, h, r⟩
        · have : s = ((n : Nat) : Int) := by simpa using h
          rw [this] at r
          exact .inr r
  · rintro σ H1 ⟨v3, v4, ns, rfl, S, A, hn⟩
    rw [List.length_map, List.take_length] at hn
    refine sorted_ns (i := 2) rfl A fun H2 r ms S2 hr2 e2 pw hm => k H2 r ms (S.trans S2) (S.free hr2) e2 pw fun x => (hm x).trans (hn x)
end
end Rz

namespace Rz
open PySem PySem.Spec PyProof.Rows L2
def sp_law_graph_of : Sp := fun vs H Q _ => ∃ (many : Nat) (le lf : Addr) (es : List Ed) (fr : List Lk), vs = [.int ((many : Nat) : Int), .ref le, .ref lf] ∧ TpAt edK H le es ∧ TpAt lkK H lf fr ∧ many ≤ 1000 ∧ es.length ≤ 1000 ∧ fr.length ≤ 1000 ∧
  ∀ (H' : Hp) (g : Addr), Same H H' → H g = none → GrAt H' g many es fr → (∀ H'', (∀ b o, H b = none → H' b = some o → H'' b = some o) → Tups H' H'' → GrAt H'' g many es fr) → Q (.ref g) H'
section
variable {w : World} {K : PySem.W.Frag} {mg : Str → Option Value} {base : Heap}
theorem sc_law_graph_of : FnScope N__law_graph_of P__law_graph_of (defScope s__law_graph_of) := ⟨rfl, rfl, rfl, by decide +kernel, rfl, by decide +kernel, by decide +kernel⟩
theorem ok_law_graph_of (T : Txt K mg) : FnOk prg w K mg base (L2.CX prg w) 2 T.f__law_graph_of T.fd__law_graph_of P__law_graph_of sp_law_graph_of := by
  refine Rz.Fun.okN T.F__law_graph_of sc_law_graph_of (fun vs H Q E h => ?_) (fun cdv A outer s H vs Q E hr h => ?_)
  · obtain ⟨many, le, lf, es, fr, rfl, _⟩ := h
    rfl
  obtain ⟨many, le, lf, es, fr, rfl, ⟨te, ee, hE⟩, ⟨tf, ef, hF⟩, zm, ze, zf, k⟩ := h
  have nd := sc_law_graph_of.nd
  have hu : (A.deeper (envOfC "_law_graph_of" (defScope s__law_graph_of) s.heap.objs.size T.f__law_graph_of cdv)).units + 1 < cLine := by
    have := hr.un
    omega
  refine ⟨_, (pss_cons (ps_set (i := 3) nd rfl (Or.inl rfl) pe_dnewK)
    (pss_cons (ps_for PassesOwn.never rfl (pi_list (pv 1)) (pg_tup rfl (pgs_cons (pg_name (i := 4) nd rfl (Or.inl rfl)) (pgs_cons (pg_name (i := 5) nd rfl (Or.inl rfl)) (pgs_cons (pg_name (i := 6) nd rfl (Or.inl rfl)) (pgs_cons (pg_name (i := 7) nd rfl (Or.inl rfl)) pgs_nil)))))
      (C8.pss_cut (ps_set (i := 8) nd rfl (Or.inl rfl) (pe_dsetd (pv 3) (pv 4) (pe_lst pa_nil) ⟨rfl, rfl, rfl, rfl⟩))
      (pss_one (ps_expr (pe_bm PySem.F.plainAttrs_list PySem.F.slot_list_append PySem.F.type_list_append mt_append (pv 8) (pa_cons (pe_tup (pa_cons (pv 5) (pa_cons (pv 6) (pa_cons (pv 7) pa_nil)))) pa_nil))))))
    (pss_cons (ps_set (i := 9) nd rfl (Or.inl rfl) pe_dnewK)
    (pss_cons (ps_for PassesOwn.never rfl (pi_list (pv 2)) (pg_tup rfl (pgs_cons (pg_name (i := 4) nd rfl (Or.inl rfl)) (pgs_cons (pg_name (i := 7) nd rfl (Or.inl rfl)) pgs_nil)))
      (pss_cons (ps_set (i := 8) nd rfl (Or.inl rfl) (pe_dsetd (pv 9) (pv 4) (pe_lst pa_nil) ⟨rfl, rfl, rfl, rfl⟩))
      (pss_one (ps_expr (pe_bm PySem.F.plainAttrs_list PySem.F.slot_list_append PySem.F.type_list_append mt_append (pv 8) (pa_cons (pv 7) pa_nil))))))
    (pss_cons (ps_set (i := 10) nd rfl (Or.inl rfl) pe_dnewK)
    (pss_cons (ps_for PassesOwn.never rfl (pi_range1 rfl T.n_range (pa_cons (pv 0) pa_nil)) (pg_name (i := 11) nd rfl (Or.inl rfl))
      (pss_one (ps_dput hu (pv 10) (pv 11) (pe_fn (ok_law_spread T) (hr.mono (by decide)) (by rfl) T.m__law_spread T.F__law_spread.kp T.b__law_spread .nil (fun _ => atN _) (pa_cons (pv 9) (pa_cons (pe_lst (pa_cons (pv 11) pa_nil)) pa_nil))) rfl)))
    (pss_one (ps_ret (pe_tup (pa_cons (pv 3) (pa_cons (pv 10) pa_nil))))))))))), ?_⟩
  intro d hd
  have S0 := Rz.Same.new (o := .dK []) (Same.refl H) hd
  have F0 : TfAt H (upd H d (.dK [])) d [] [] := ⟨upd_same, fun s => .inl ⟨rfl, rfl⟩, fun s u l z => by cases z⟩
  generalize upd H d (.dK []) = H0 at S0 F0
  refine ⟨_, rfl, le, rfl, ⟨_, SqL.of (S0 _ _ ee)⟩, for_list (K := K) (a := le) (xs := te.map V.ref) (fun i σ H' => ∃ (v4 v5 v6 v7 v8 : Option V) (kvs : List (Key × V)), σ = [some (.int (many : Nat)), some (.ref le), some (.ref lf), some (.ref d), v4, v5, v6, v7, v8, none, none, none] ∧ Same H H' ∧ TfAt H H' d (es.take i) kvs ∧ kvs.length ≤ i)
    ⟨none, none, none, none, none, [], rfl, S0, F0, Nat.le_refl _⟩ (fun i σ H' _ ⟨_, _, _, _, _, _, _, S, _⟩ => SqL.of (S _ _ ee)) ?_ ?_⟩
  · rintro i y σ H' hi ⟨v4, v5, v6, v7, v8, kvs, rfl, S, F, zk⟩
    obtain ⟨t, ht, rfl⟩ := refs_get hi
    obtain ⟨⟨a, c, h, b⟩, hx, et⟩ := hE.get ht
    have et : H t = some (.tup [.int a, .str ⟨#[c]⟩, .int h, .int b]) := et
    have ip : i < es.length := (List.getElem?_eq_some_iff.mp hx).1
    have tk1 : es.take (i + 1) = es.take i ++ [(a, c, h, b)] := by rw [List.take_add_one, hx]; rfl
    refine ⟨t, _, rfl, SqT.of (S _ _ et), rfl, _, _, rfl, _, _, rfl, _, _, rfl, _, _, rfl, rfl, ?_⟩
    refine ⟨fun σ H2 => ∃ (kvs : List (Key × V)) (l : Addr), σ = [some (.int (many : Nat)), some (.ref le), some (.ref lf), some (.ref d), some (.int a), some (.str ⟨#[c]⟩), some (.int h), some (.int b), some (.ref l), none, none, none] ∧ Same H H2 ∧ TfAt H H2 d (es.take i) kvs ∧ kvs.length ≤ i + 1 ∧ valV kvs (.inl a) = some (.ref l), ?_, ?_⟩
    · refine ⟨_, rfl, d, rfl, .inl ⟨kvs, .inl F.1⟩, _, rfl, by show 0 ≤ sizeLine; decide, fun q hq => ?_⟩
      have S1 := Rz.Same.new (o := .lst []) (Same.refl H') hq
      refine ⟨kvs, .inl a, S1 _ _ F.1, rfl, by rw [sizeLine_eq]; omega, fun v hv => ?_, fun hv => ?_⟩
      · rcases F.2.1 a with ⟨z, _⟩ | ⟨l, z1, _⟩
        · rw [hv] at z
          cases z
        · rw [hv] at z1
          cases z1
          exact ⟨kvs, l, rfl, S.trans S1, F.same S1, Nat.le_succ_of_le zk, hv⟩
      · exact ⟨_, q, rfl, Rz.Same.upd (S.trans S1) hd, tf_new F hv hq (S.free hq), Nat.le_trans (length_putK _ _ _) (Nat.succ_le_succ zk), by rw [valV_put, if_pos rfl]⟩
    · rintro σ H2 ⟨kvs, l, rfl, S2, F2, zk2, hv⟩
      rcases F2.2.1 a with ⟨z, _⟩ | ⟨l2, z1, nld, hl0, us, el, hU⟩
      · rw [hv] at z
        cases z
      rw [hv] at z1
      cases z1
      have zu : us.length ≤ 1000 := by
        have := outsOf_len (es.take i) a
        rw [hU.len]
        rw [List.length_take] at this
        omega
      refine ⟨_, rfl, .inl ⟨rfl, _, SqL.of el⟩, _, rfl, _, rfl, _, rfl, by show 3 ≤ sizeLine; decide, fun u hu2 => ?_⟩
      have Su := Rz.Same.new (o := .tup [.str ⟨#[c]⟩, .int h, .int b]) (Same.refl H2) hu2
      refine ⟨l, us.map V.ref, _, rfl, rfl, Su _ _ el, by rw [List.length_map, sizeLine_eq]; omega, ?_⟩
      refine ⟨_, _, _, _, _, kvs, rfl, Rz.Same.upd (S2.trans Su) hl0, ?_, by omega⟩
      rw [tk1]
      exact tf_old (e := (a, c, h, b)) F2 hv el hU hu2
  rintro σ H1 ⟨v4, v5, v6, v7, v8, kvs, rfl, S1, F1, zk1⟩
  rw [List.length_map, hE.len, List.take_length] at F1
  intro d2 hd2
  have S2 := Rz.Same.new (o := .dK []) (Same.refl H1) hd2
  have G0 : FoAt H1 (upd H1 d2 (.dK [])) d2 [] [] := ⟨upd_same, fun s => .inl ⟨rfl, rfl⟩, fun s u l z => by cases z⟩
  generalize upd H1 d2 (.dK []) = H2 at S2 G0
  refine ⟨_, rfl, lf, rfl, ⟨_, SqL.of (S2 _ _ (S1 _ _ ef))⟩, for_list (K := K) (a := lf) (xs := tf.map V.ref) (fun i σ H' => ∃ (v4 v7 v8 : Option V) (kvs : List (Key × V)), σ = [some (.int (many : Nat)), some (.ref le), some (.ref lf), some (.ref d), v4, v5, v6, v7, v8, some (.ref d2), none, none] ∧ Same H1 H' ∧ FoAt H1 H' d2 (fr.take i) kvs ∧ kvs.length ≤ i)
    ⟨v4, v7, v8, [], rfl, S2, G0, Nat.le_refl _⟩ (fun i σ H' _ ⟨_, _, _, _, _, S, _⟩ => SqL.of (S _ _ (S1 _ _ ef))) ?_ ?_⟩
  · rintro i y σ H' hi ⟨v4, v7, v8, kv2, rfl, S, F, zk⟩
    obtain ⟨t, ht, rfl⟩ := refs_get hi
    obtain ⟨⟨a, b⟩, hx, et⟩ := hF.get ht
    have et : H t = some (.tup [.int a, .int b]) := et
    have ip : i < fr.length := (List.getElem?_eq_some_iff.mp hx).1
    have tk1 : fr.take (i + 1) = fr.take i ++ [(a, b)] := by rw [List.take_add_one, hx]; rfl
    refine ⟨t, _, rfl, SqT.of (S _ _ (S1 _ _ et)), rfl, _, _, rfl, _, _, rfl, rfl, ?_⟩
    refine ⟨_, rfl, d2, rfl, .inl ⟨kv2, .inl F.1⟩, _, rfl, by show 0 ≤ sizeLine; decide, fun q hq => ?_⟩
    have S3 := Rz.Same.new (o := .lst []) (Same.refl H') hq
    have F3 : FoAt H1 (upd H' q (.lst [])) d2 (fr.take i) kv2 := ⟨S3 _ _ F.1, fun s => (F.2.1 s).imp id fun ⟨l, z1, z2, z3, z4⟩ => ⟨l, z1, z2, z3, S3 _ _ z4⟩, F.2.2⟩
    have eq1 : upd H' q (.lst []) q = some (.lst []) := upd_same
    refine ⟨kv2, .inl a, F3.1, rfl, by rw [sizeLine_eq]; omega, fun v hv => ?_, fun hv => ?_⟩
    · rcases F3.2.1 a with ⟨z, _⟩ | ⟨l, z1, nld, hl0, z4⟩
      · rw [hv] at z
        cases z
      · rw [hv] at z1
        cases z1
        have zl := succs_len (fr.take i) a
        rw [List.length_take] at zl
        refine ⟨_, rfl, .inl ⟨rfl, _, SqL.of z4⟩, _, rfl, l, _, _, rfl, rfl, z4, by rw [List.length_map, sizeLine_eq]; omega, ?_⟩
        refine ⟨_, _, _, kv2, rfl, Rz.Same.upd (S.trans S3) hl0, ?_, Nat.le_succ_of_le zk⟩
        rw [tk1]
        exact fo_old (p := (a, b)) F3 hv
    · have nqd : q ≠ d2 := fun z => by rw [z, F.1] at hq; cases hq
      have e2 : upd (upd H' q (.lst [])) d2 (.dK (putK kv2 (.inl a) (.ref q))) q = some (.lst []) := by rw [upd_ne nqd]; exact upd_same
      refine ⟨_, rfl, .inl ⟨rfl, _, SqL.of e2⟩, _, rfl, q, _, _, rfl, rfl, e2, by show 0 < sizeLine; decide, ?_⟩
      have sw : upd (upd (upd H' q (.lst [])) d2 (.dK (putK kv2 (.inl a) (.ref q)))) q (.lst ([] ++ [.int b])) = upd (upd H' d2 (.dK (putK kv2 (.inl a) (.ref q)))) q (.lst [.int b]) := by
        funext x
        by_cases e : x = q
        · rw [e, upd_same, upd_same]
          rfl
        · rw [upd_ne e, upd_ne e]
          by_cases e3 : x = d2
          · rw [e3, upd_same, upd_same]
          · rw [upd_ne e3, upd_ne e3, upd_ne e]
      have hq0 : H1 q = none := S.free hq
      refine ⟨_, _, _, _, rfl, Rz.Same.upd (Rz.Same.upd (S.trans S3) hd2) hq0, ?_, Nat.le_trans (length_putK kv2 (.inl a) (.ref q)) (Nat.succ_le_succ zk)⟩
      rw [tk1, sw]
      exact fo_new (p := (a, b)) F hv hq hq0
  rintro σ H3 ⟨v4, v7, v8, kv2, rfl, S3, F3, zk3⟩
  rw [List.length_map, hF.len, List.take_length] at F3
  have AR : ArAt H3 d2 fr := ⟨kv2, F3.1, fun s => (F3.2.1 s).imp id fun ⟨l, z1, _, _, z4⟩ => ⟨l, z1, z4⟩⟩
  have F1' := F1.same S3
  have S13 := S1.trans S3
  clear F3 G0 S2
  intro d3 hd3
  have S4 := Rz.Same.new (o := .dK []) (Same.refl H3) hd3
  have e4 : upd H3 d3 (.dK []) d3 = some (.dK []) := upd_same
  generalize upd H3 d3 (.dK []) = H4 at S4 e4
  refine ⟨_, rfl, (many : Int), rfl, by omega, by omega, for_range (n := (many : Int).toNat) (fun i σ H' => ∃ (v11 : Option V) (kv3 : List (Key × V)), σ = [some (.int (many : Nat)), some (.ref le), some (.ref lf), some (.ref d), v4, v5, v6, v7, v8, some (.ref d2), some (.ref d3), v11] ∧ Same H3 H' ∧ (H' d3 = some (.dK kv3) ∧ kv3.length ≤ i) ∧ ∀ n : Nat, n < i → ∃ (l : Addr) (fs : List Int), valV kv3 (.inl ((n : Nat) : Int)) = some (.ref l) ∧ H' l = some (.lst (fs.map V.int)) ∧ (l ≠ d3 ∧ H3 l = none) ∧ ∀ x, x ∈ fs ↔ Reach fr [((n : Nat) : Int)] x)
    ⟨none, [], rfl, S4, ⟨e4, Nat.le_refl _⟩, fun n h => absurd h (Nat.not_lt_zero n)⟩ ?_ ?_⟩
  · rintro i σ H' hi ⟨v11, kv3, rfl, S, ⟨e3, z3⟩, hs⟩
    have hi : i < many := by omega
    refine ⟨_, rfl, ?_⟩
    refine ⟨_, rfl, by show 1 ≤ sizeLine; decide, fun u hu2 => ?_⟩
    have ei : (0 : Int) + ((i : Nat) : Int) = ((i : Nat) : Int) := by omega
    have Su := Rz.Same.new (o := .lst [.int (0 + ((i : Nat) : Int))]) (Same.refl H') hu2
    have eu : upd H' u (.lst [.int (0 + ((i : Nat) : Int))]) u = some (.lst (([0 + ((i : Nat) : Int)] : List Int).map V.int)) := upd_same
    refine ⟨d2, u, [0 + ((i : Nat) : Int)], fr, rfl, ?_, eu, by show 1 ≤ 10000; decide, by omega, fun H5 r fs S5 hr5 er hf => ?_⟩
    · obtain ⟨kx, q1, q2⟩ := AR
      exact ⟨kx, Su _ _ (S _ _ q1), fun s => (q2 s).imp id fun ⟨l, a1, a2⟩ => ⟨l, a1, Su _ _ (S _ _ a2)⟩⟩
    rw [ei] at hf
    have S15 := Su.trans S5
    have e3' := S15 _ _ e3
    have nrd : r ≠ d3 := fun z => by rw [z, Su _ _ e3] at hr5; cases hr5
    refine ⟨_, rfl, _, rfl, d3, _, rfl, .inl ⟨kv3, .inl ((i : Nat) : Int), e3', by rw [ei]; rfl, by rw [sizeLine_eq]; omega, rfl⟩, ?_⟩
    refine ⟨_, _, rfl, Rz.Same.upd (S.trans S15) hd3, ⟨upd_same, Nat.le_trans (length_putK _ _ _) (Nat.succ_le_succ z3)⟩, fun n hn => ?_⟩
    rw [valV_put]
    by_cases e : n = i
    · subst e
      rw [if_pos rfl]
      exact ⟨r, fs, rfl, by rw [upd_ne nrd]; exact er, ⟨nrd, S.free (Su.free hr5)⟩, hf⟩
    · obtain ⟨l, gs, h1, h2, h3, h4⟩ := hs n (by omega)
      rw [if_neg (fun z => e (by injection z with z; omega))]
      exact ⟨l, gs, h1, by rw [upd_ne h3.1]; exact S15 _ _ h2, h3, h4⟩
  · rintro σ H5 ⟨v11, kv3, rfl, S, ⟨e3, z3⟩, hs⟩
    refine ⟨_, rfl, _, rfl, by show 2 ≤ sizeLine; decide, fun g hg => ?_⟩
    have Sg := Rz.Same.new (o := .tup [.ref d, .ref d3]) (Same.refl H5) hg
    have S05 := (S13.trans S)
    have eg : upd H5 g (.tup [.ref d, .ref d3]) g = some (.tup [.ref d, .ref d3]) := upd_same
    have hd30 : H d3 = none := S13.free hd3
    have F9 := (F1'.same S).same Sg
    have e3g := Sg _ _ e3
    have hs' : ∀ n : Nat, n < many → ∃ (l : Addr) (fs : List Int), valV kv3 (.inl ((n : Nat) : Int)) = some (.ref l) ∧ upd H5 g (.tup [.ref d, .ref d3]) l = some (.lst (fs.map V.int)) ∧ H l = none ∧ ∀ x, x ∈ fs ↔ Reach fr [((n : Nat) : Int)] x := fun n hn => by
      obtain ⟨l, gs, h1, h2, h3, h4⟩ := hs n (by omega)
      exact ⟨l, gs, h1, Sg _ _ h2, S13.free h3.2, h4⟩
    have hg0 := S05.free hg
    have S0g := S05.trans Sg
    generalize upd H5 g (.tup [.ref d, .ref d3]) = H9 at Sg eg F9 e3g hs' S0g ⊢
    have keep : ∀ H'', (∀ b o, H b = none → H9 b = some o → H'' b = some o) → Tups H9 H'' → GrAt H'' g many es fr := fun H'' hk tp => by
      refine ⟨d, d3, hk g _ hg0 eg, ⟨kvs, hk d _ hd F9.1, fun s => (F9.2.1 s).imp id fun ⟨l, a1, _, a3, ts, a4, a5⟩ => ⟨l, a1, ts, hk l _ a3 a4, a5.keep tp⟩⟩, ⟨kv3, hk d3 _ hd30 e3g, fun n hn => ?_⟩⟩
      obtain ⟨l, gs, h1, h2, h3, h4⟩ := hs' n hn
      exact ⟨l, gs, h1, hk l _ h3 h2, h4⟩
    exact k _ g S0g hg0 (keep H9 (fun _ _ _ e => e) (Tups.of (Same.refl H9))) keep
end
end Rz

namespace Rz
open PySem PySem.Spec PyProof.Rows L2
theorem out_get {H : Hp} {a q : Addr} {es : List Ed} (O : OutAt H a es) (hq : H q = none) (s : Int) : ∃ (kvs : List (Key × V)) (l : Addr), H a = some (.dK kvs) ∧ (valV kvs (.inl s)).getD (.ref q) = .ref l ∧ TpAt otK (upd H q (.lst [])) l (outsOf es s) := by
  obtain ⟨kvs, e, r⟩ := O
  rcases r s with ⟨z1, z2⟩ | ⟨l, z1, z2⟩
  · exact ⟨kvs, q, e, by rw [z1]; rfl, by rw [z2]; exact ⟨[], upd_same, .nil⟩⟩
  · exact ⟨kvs, l, e, by rw [z1]; rfl, z2.same (Rz.Same.new (Same.refl H) hq)⟩
def ppK (p : Pr) : List Key := [.inr ⟨#[p.1]⟩, .inl p.2]
theorem ppK_inj : ∀ a b : Pr, ppK a = ppK b → a = b := fun ⟨a1, a2⟩ ⟨b1, b2⟩ h => by
  simp only [ppK, List.cons.injEq, Sum.inl.injEq, Sum.inr.injEq, and_true] at h
  have z := congrArg (fun s : Str => s.cps.toList) h.1
  have z2 : a1 = b1 := (List.cons.inj z).1
  rw [z2, h.2]
theorem ppK_good {p : Pr} (h : p.1 < 128) : ∀ k ∈ ppK p, GoodK k := fun k hk => by
  simp only [ppK, List.mem_cons, List.not_mem_nil, or_false] at hk
  rcases hk with e | e
  · rw [e]
    show PyData.strOk ⟨#[p.1]⟩ = true
    simp [PyData.strOk]
    omega
  · rw [e]; trivial
theorem rowS_snoc (es : List Ed) (fr : List Lk) (p : Pr) : ∀ (ps : List Pr) (S : Sts), rowS es fr S (ps ++ [p]) = stepS es fr (rowS es fr S ps) p.1 p.2
  | [], _ => rfl
  | _ :: ps, _ => rowS_snoc es fr p ps _
theorem textS_snoc (es : List Ed) (fr : List Lk) (c : Nat) : ∀ (cs : List Nat) (S : Sts), textS es fr S (cs ++ [c]) = stepT es fr (textS es fr S cs) c
  | [], _ => rfl
  | _ :: cs, _ => textS_snoc es fr c cs _
/-- edges and free moves of many states -/
def InM (many : Nat) (es : List Ed) (fr : List Lk) : Prop := (∀ e ∈ es, (0 ≤ e.1 ∧ e.1 < (many : Int)) ∧ 0 ≤ e.2.2.2 ∧ e.2.2.2 < (many : Int)) ∧ (∀ p ∈ fr, (0 ≤ p.1 ∧ p.1 < (many : Int)) ∧ 0 ≤ p.2 ∧ p.2 < (many : Int)) ∧ ∀ e ∈ es, e.2.1 < 128
def sp_law_read : Sp := fun vs H Q _ => ∃ (g st r : Addr) (ss : List Int) (ps : List Pr) (many : Nat) (es : List Ed) (fr : List Lk), vs = [.ref g, .ref st, .ref r] ∧ GrAt H g many es fr ∧ InM many es fr ∧ many ≤ 1000 ∧ H st = some (.lst (ss.map V.int)) ∧ (∀ s ∈ ss, 0 ≤ s ∧ s < (many : Int)) ∧ LAt H r ps ∧ (∀ p ∈ ps, p.1 < 128) ∧
  ∀ (H' : Hp) (L : Addr) (fs : List Int), Same H H' → H L = none → H' L = some (.lst (fs.map V.int)) → fs.Pairwise (· < ·) → (∀ x, x ∈ fs ↔ rowS es fr (fun t => ∃ s ∈ ss, Reach fr [s] t) ps x) → Q (.ref L) H'
section
variable {w : World} {K : PySem.W.Frag} {mg : Str → Option Value} {base : Heap}
theorem sc_law_read : FnScope N__law_read P__law_read (defScope s__law_read) := ⟨rfl, rfl, rfl, by decide +kernel, rfl, by decide +kernel, by decide +kernel⟩
theorem ok_law_read (T : Txt K mg) : FnOk prg w K mg base (L2.CX prg w) 2 T.f__law_read T.fd__law_read P__law_read sp_law_read := by
  refine Rz.Fun.okN T.F__law_read sc_law_read (fun vs H Q E h => ?_) (fun cdv A outer s H vs Q E hr h => ?_)
  · obtain ⟨g, st, r, ss, ps, many, es, fr, rfl, _⟩ := h
    rfl
  obtain ⟨g, st, r, ss, ps, many, es, fr, rfl, GA, ⟨be, bf, bc⟩, zm, hst, bs, ⟨ts, el, hP⟩, bp, k⟩ := h
  have nd := sc_law_read.nd
  have hu : (A.deeper (envOfC "_law_read" (defScope s__law_read) s.heap.objs.size T.f__law_read cdv)).units + 1 < cLine := by
    have := hr.un
    omega
  refine ⟨_, (pss_cons (ps_set (i := 1) nd rfl (Or.inl rfl) (pe_fn (ok_law_join T) (hr.mono (by decide)) (by rfl) T.m__law_join T.F__law_join.kp T.b__law_join .nil (fun _ => atN _) (pa_cons (pe_ix (show IxR _ (rIxT K) from ix_tup) (pv 0) pe_int (fun _ _ => rfl)) (pa_cons (pv 1) pa_nil))))
    (pss_cons (ps_for PassesOwn.never rfl (pi_list (pv 2)) (pg_name (i := 3) nd rfl (Or.inl rfl))
      (pss_cons (ps_set (i := 4) nd rfl (Or.inl rfl) pe_dnewK)
      (pss_cons (ps_for PassesOwn.never rfl (pi_list (pv 1)) (pg_name (i := 5) nd rfl (Or.inl rfl))
        (pss_one (ps_for PassesOwn.never rfl (pi_list (pe_dget2 hu (pe_ix (show IxR _ (rIxT K) from ix_tup) (pv 0) pe_int (fun _ _ => rfl)) (pv 5) (pe_lst pa_nil) ⟨rfl, rfl, rfl, rfl⟩)) (pg_tup rfl (pgs_cons (pg_name (i := 6) nd rfl (Or.inl rfl)) (pgs_cons (pg_name (i := 7) nd rfl (Or.inl rfl)) (pgs_cons (pg_name (i := 8) nd rfl (Or.inl rfl)) pgs_nil))))
          (pss_one (ps_if (pt_cmpR (op_eqD hr.units) (pe_tup (pa_cons (pv 6) (pa_cons (pv 7) pa_nil))) (pv 3) (nomark _)) (pss_one (ps_dput hu (pv 4) (pv 8) pe_bl rfl)) pss_nil)))))
      (pss_one (ps_set (i := 1) nd rfl (Or.inl rfl) (pe_fn (ok_law_join T) (hr.mono (by decide)) (by rfl) T.m__law_join T.F__law_join.kp T.b__law_join .nil (fun _ => atN _) (pa_cons (pe_ix (show IxR _ (rIxT K) from ix_tup) (pv 0) pe_int (fun _ _ => rfl)) (pa_cons (pe_callTy (call_listD (by rfl)) (by rfl) T.n_list (by decide +kernel) (pa_cons (pv 4) pa_nil)) pa_nil))))))))
    (pss_one (ps_ret (pv 1))))), ?_⟩
  obtain ⟨oa, ob, eg, hO, hS⟩ := GA
  have bf2 : ∀ p ∈ fr, 0 ≤ p.2 ∧ p.2 < (many : Int) := fun p h => (bf p h).2
  have inB : ∀ {s x : Int}, 0 ≤ s ∧ s < (many : Int) → Reach fr [s] x → 0 ≤ x ∧ x < (many : Int) := fun {s x} hs r => ⟨reach_pos (fun p h => (bf2 p h).1) hs.1 r, reach_lt (fun p h => (bf2 p h).2) hs.2 r⟩
  refine ⟨_, rfl, g, _, _, _, rfl, rfl, SqT.of eg, rfl, _, rfl, ob, st, ss, many, fr, rfl, hS, hst, bs, zm, bf2, fun H1 L0 f0 S1 hL0 e0 pw0 hf0 => ?_⟩
  refine ⟨_, rfl, r, rfl, ⟨_, SqL.of (S1 _ _ el)⟩, for_list (K := K) (a := r) (xs := ts.map V.ref) (fun i σ H' => ∃ (v3 v4 v5 v6 v7 v8 : Option V) (L : Addr) (sts : List Int), σ = [some (.ref g), some (.ref L), some (.ref r), v3, v4, v5, v6, v7, v8] ∧ Same H H' ∧ H L = none ∧ H' L = some (.lst (sts.map V.int)) ∧ sts.Pairwise (· < ·) ∧ (∀ x ∈ sts, 0 ≤ x ∧ x < (many : Int)) ∧ ∀ x, x ∈ sts ↔ rowS es fr (fun t => ∃ s ∈ ss, Reach fr [s] t) (ps.take i) x)
    ⟨none, none, none, none, none, none, L0, f0, rfl, S1, hL0, e0, pw0, fun x hx => (let ⟨s, hs, r⟩ := (hf0 x).mp hx; inB (bs s hs) r), hf0⟩ (fun i σ H' _ ⟨_, _, _, _, _, _, _, _, _, S, _⟩ => SqL.of (S _ _ el)) ?_ ?_⟩
  · rintro i y σ H2 hi ⟨v3, v4, v5, v6, v7, v8, L, sts, rfl, S2, hL, eL, pw, bst, hm⟩
    obtain ⟨t, ht, rfl⟩ := refs_get hi
    obtain ⟨⟨c, h⟩, hx, et⟩ := hP.get ht
    have et : H t = some (.tup ((ppK (c, h)).map kV)) := et
    have cx := bp _ (List.mem_of_getElem? hx)
    have tk1 : ps.take (i + 1) = ps.take i ++ [(c, h)] := by rw [List.take_add_one, hx]; rfl
    intro D hD
    have S3 := Rz.Same.new (o := .dK []) (Same.refl H2) hD
    have A3 : NsAt (upd H2 D (.dK [])) D [] := ⟨[], upd_same, rfl, List.nodup_nil⟩
    generalize upd H2 D (.dK []) = H3 at S3 A3
    refine ⟨_, rfl, L, rfl, ⟨_, SqL.of (S3 _ _ eL)⟩, for_list (K := K) (a := L) (xs := sts.map V.int) (fun j σ H' => ∃ (v5 v6 v7 v8 : Option V) (ns : List Int), σ = [some (.ref g), some (.ref L), some (.ref r), some (.ref t), some (.ref D), v5, v6, v7, v8] ∧ Same H2 H' ∧ NsAt H' D ns ∧ (∀ x ∈ ns, 0 ≤ x ∧ x < (many : Int)) ∧ ∀ x, x ∈ ns ↔ ∃ s ∈ sts.take j, (s, c, h, x) ∈ es)
      ⟨v5, v6, v7, v8, [], rfl, S3, A3, fun x hx => (by cases hx), fun x => ⟨fun z => (by cases z), fun ⟨s, hs, _⟩ => (by simp at hs)⟩⟩ (fun j σ H' _ ⟨_, _, _, _, _, _, S, _⟩ => SqL.of (S _ _ eL)) ?_ ?_⟩
    · rintro j y σ H4 hj ⟨v5, v6, v7, v8, ns, rfl, S4, A4, bn, hn⟩
      obtain ⟨q, hq, rfl⟩ := mapi_get hj
      have S04 := S2.trans S4
      refine ⟨_, rfl, g, _, _, _, rfl, rfl, SqT.of (S04 _ _ eg), rfl, oa, rfl, ?_⟩
      have O4 := hO.same S04
      obtain ⟨kvs, eO, _⟩ := id O4
      refine ⟨.inl ⟨kvs, .inl eO⟩, _, rfl, by show 0 ≤ sizeLine; decide, fun u hu2 => ?_⟩
      have S5 := Rz.Same.new (o := .lst []) (Same.refl H4) hu2
      obtain ⟨kvs2, l, eO2, gl, us, el5, hU⟩ := out_get O4 hu2 q
      refine ⟨_, DGet.k (k := .inl q) (S5 _ _ eO2), ?_⟩
      rw [gl]
      obtain ⟨R0, eR0, en0, nd0⟩ := A4
      have eR5 := S5 _ _ eR0
      have S25 := S4.trans S5
      generalize upd H4 u (.lst []) = H5 at S5 el5 hU eR5 S25
      have nlD : l ≠ D := fun z => by rw [z, eR5] at el5; cases el5
      refine ⟨l, rfl, ⟨_, SqL.of el5⟩, for_list (K := K) (a := l) (xs := us.map V.ref) (fun m σ H' => ∃ (v6 v7 v8 : Option V) (ns : List Int), σ = [some (.ref g), some (.ref L), some (.ref r), some (.ref t), some (.ref D), some (.int q), v6, v7, v8] ∧ Same H2 H' ∧ (∀ b o, b ≠ D → H5 b = some o → H' b = some o) ∧ NsAt H' D ns ∧ (∀ x ∈ ns, 0 ≤ x ∧ x < (many : Int)) ∧ ∀ x, x ∈ ns ↔ (∃ s ∈ sts.take j, (s, c, h, x) ∈ es) ∨ (c, h, x) ∈ (outsOf es q).take m)
        ⟨v6, v7, v8, ns, rfl, S25, fun b o _ e => e, ⟨R0, eR5, en0, nd0⟩, bn, fun x => (hn x).trans ⟨.inl, fun z => z.elim id fun z => (by simp at z)⟩⟩ (fun m σ H' _ ⟨_, _, _, _, _, _, I, _⟩ => SqL.of (I _ _ nlD el5)) ?_ ?_⟩
      · rintro m y σ H6 hm6 ⟨v6, v7, v8, ms, rfl, S6, I6, ⟨R, eR, en, ndm⟩, bm, hms⟩
        obtain ⟨t6, ht6, rfl⟩ := refs_get hm6
        obtain ⟨⟨c6, h6, x6⟩, hx6, et6⟩ := hU.get ht6
        have et6 : H5 t6 = some (.tup [.str ⟨#[c6]⟩, .int h6, .int x6]) := et6
        have ntD : t6 ≠ D := fun z => by rw [z, eR5] at et6; cases et6
        have tk6 : (outsOf es q).take (m + 1) = (outsOf es q).take m ++ [(c6, h6, x6)] := by rw [List.take_add_one, hx6]; rfl
        have ine : (q, c6, h6, x6) ∈ es := mem_outs.mp (List.mem_of_getElem? hx6)
        refine ⟨t6, _, rfl, SqT.of (I6 _ _ ntD et6), rfl, _, _, rfl, _, _, rfl, _, _, rfl, rfl, ?_⟩
        refine ⟨_, rfl, _, rfl, by show 2 ≤ sizeLine; decide, fun y hy => ?_⟩
        have S7 := Rz.Same.new (o := .tup ((ppK (c6, h6)).map kV)) (Same.refl H6) hy
        have ey : upd H6 y (.tup ((ppK (c6, h6)).map kV)) y = some (.tup ((ppK (c6, h6)).map kV)) := upd_same
        refine ⟨_, rfl, dTp ppK (c6, h6), dTp ppK (c, h), dtp_at ey, dtp_at (S7 _ _ (S6 _ _ (S2 _ _ et))), dtp_shaped (ppK_good (bc _ ine)), dtp_shaped (ppK_good cx), _, rfl, ?_⟩
        rw [dtp_eqv ppK_inj]
        have ex : upd H6 y (.tup [.str ⟨#[c6]⟩, .int h6]) = upd H6 y (.tup ((ppK (c6, h6)).map kV)) := rfl
        have zR : R.length ≤ 1000 := by
          have q := congrArg List.length en
          rw [List.length_map, List.length_map] at q
          rw [q]
          exact Nat.le_trans (few_belowN many ms ndm bm) zm
        by_cases e : ((c6, h6) : Pr) = (c, h)
        · refine iteT2 (by rw [decide_eq_true e]) ?_
          injection e with e1 e2
          subst e1
          subst e2
          obtain ⟨ms2, en2, nd2, hm2⟩ := ns_put (x := x6) (v := .bl true) en ndm
          refine ⟨_, rfl, _, rfl, D, _, rfl, .inl ⟨R, .inl x6, S7 _ _ eR, rfl, by rw [sizeLine_eq]; omega, rfl⟩, _, _, _, ms2, rfl, Rz.Same.upd (S6.trans S7) hD, fun b o n z => by rw [upd_ne n]; exact S7 _ _ (I6 b o n z), ⟨_, upd_same, en2, nd2⟩, fun x hx => ?_, fun x => ?_⟩
          · rcases (hm2 x).mp hx with z | z
            · exact bm x z
            · rw [z]
              exact (be _ ine).2
          · rw [hm2, hms, tk6, List.mem_append, List.mem_singleton]
            constructor
            · rintro ((z | z) | z)
              · exact .inl z
              · exact .inr (.inl z)
              · exact .inr (.inr (by rw [z]))
            · rintro (z | z | z)
              · exact .inl (.inl z)
              · exact .inl (.inr z)
              · simp only [Prod.mk.injEq, true_and] at z
                exact .inr z
        · refine iteF2 (by rw [decide_eq_false e]) ?_
          refine ⟨_, _, _, ms, rfl, S6.trans S7, fun b o n z => S7 _ _ (I6 b o n z), ⟨R, S7 _ _ eR, en, ndm⟩, bm, fun x => ?_⟩
          rw [hms, tk6, List.mem_append, List.mem_singleton]
          constructor
          · exact fun z => z.elim .inl fun z => .inr (.inl z)
          · rintro (z | z | z)
            · exact .inl z
            · exact .inr z
            · simp only [Prod.mk.injEq] at z
              exact absurd (by rw [z.1, z.2.1]) e
      · rintro σ H6 ⟨v6, v7, v8, ms, rfl, S6, I6, A6, bm, hms⟩
        rw [List.length_map, hU.len, List.take_length] at hms
        refine ⟨_, _, _, _, ms, rfl, S6, A6, bm, fun x => ?_⟩
        rw [hms, mem_outs, List.take_add_one, hq]
        constructor
        · rintro (⟨s, hs, z⟩ | z)
          · exact ⟨s, List.mem_append_left _ hs, z⟩
          · exact ⟨q, List.mem_append_right _ (by simp), z⟩
        · rintro ⟨s, hs, z⟩
          rcases List.mem_append.mp hs with y | y
          · exact .inl ⟨s, y, z⟩
          · have : s = q := by simpa using y
            rw [this] at z
            exact .inr z
    · rintro σ H4 ⟨v5, v6, v7, v8, ns, rfl, S4, A4, bn, hn⟩
      rw [List.length_map, List.take_length] at hn
      have S04 := S2.trans S4
      refine ⟨_, rfl, g, _, _, _, rfl, rfl, SqT.of (S04 _ _ eg), rfl, _, rfl, ?_⟩
      obtain ⟨R4, eR4, en4, _⟩ := id A4
      refine ⟨D, R4, rfl, .inl eR4, fun q hq => ?_⟩
      rw [ns_keys en4]
      have S5 := Rz.Same.new (o := .lst (ns.map V.int)) (Same.refl H4) hq
      have eq5 : upd H4 q (.lst (ns.map V.int)) q = some (.lst (ns.map V.int)) := upd_same
      generalize upd H4 q (.lst (ns.map V.int)) = H5 at S5 eq5 ⊢
      have S05 := S04.trans S5
      refine ⟨ob, q, ns, many, fr, rfl, hS.same S05, eq5, bn, zm, bf2, fun H6 L6 f6 S6 hL6 e6 pw6 hf6 => ?_⟩
      refine ⟨_, _, _, _, _, _, L6, f6, rfl, S05.trans S6, S05.free hL6, e6, pw6, fun x hx => (let ⟨s, hs, r⟩ := (hf6 x).mp hx; inB (bn s hs) r), fun x => ?_⟩
      rw [tk1, rowS_snoc, hf6]
      unfold stepS
      constructor
      · rintro ⟨y, hy, z⟩
        obtain ⟨s, hs, he⟩ := (hn y).mp hy
        exact ⟨(s, c, h, y), he, (hm s).mp hs, rfl, rfl, z⟩
      · rintro ⟨⟨s, c', h', y⟩, he, hs, e1, e2, z⟩
        have e1 : c' = c := e1
        have e2 : h' = h := e2
        subst e1
        subst e2
        exact ⟨y, (hn y).mpr ⟨s, (hm s).mpr hs, he⟩, z⟩
  · rintro σ H2 ⟨v3, v4, v5, v6, v7, v8, L, sts, rfl, S2, hL, eL, pw, bst, hm⟩
    rw [List.length_map, PAt.length hP, List.take_length] at hm
    exact ⟨_, rfl, k _ L sts S2 hL eL pw hm⟩
end
end Rz

namespace Rz
open PySem PySem.Spec PyProof.Rows L2
def sp_law_spelling : Sp := fun vs H Q _ => ∃ (g : Addr) (z : Str) (many : Nat) (es : List Ed) (fr : List Lk), vs = [.ref g, .str z] ∧ GrAt H g many es fr ∧ InM many es fr ∧ 0 < many ∧ many ≤ 1000 ∧ es.length ≤ 1000 ∧
  ∀ (H' : Hp) (L : Addr) (fs : List Int), Same H H' → H L = none → H' L = some (.lst (fs.map V.int)) → fs.Pairwise (· < ·) → (∀ x, x ∈ fs ↔ textS es fr (fun t => Reach fr [0] t) z.cps.toList x) → Q (.ref L) H'
section
variable {w : World} {K : PySem.W.Frag} {mg : Str → Option Value} {base : Heap}
theorem sc_law_spelling : FnScope N__law_spelling P__law_spelling (defScope s__law_spelling) := ⟨rfl, rfl, rfl, by decide +kernel, rfl, by decide +kernel, by decide +kernel⟩
theorem ok_law_spelling (T : Txt K mg) : FnOk prg w K mg base (L2.CX prg w) 2 T.f__law_spelling T.fd__law_spelling P__law_spelling sp_law_spelling := by
  refine Rz.Fun.okN T.F__law_spelling sc_law_spelling (fun vs H Q E h => ?_) (fun cdv A outer s H vs Q E hr h => ?_)
  · obtain ⟨g, z, many, es, fr, rfl, _⟩ := h
    rfl
  obtain ⟨g, z, many, es, fr, rfl, GA, ⟨be, bf, bc⟩, z0, zm, ze, k⟩ := h
  have nd := sc_law_spelling.nd
  have hu : (A.deeper (envOfC "_law_spelling" (defScope s__law_spelling) s.heap.objs.size T.f__law_spelling cdv)).units + 1 < cLine := by
    have := hr.un
    omega
  refine ⟨_, (pss_cons (ps_set (i := 2) nd rfl (Or.inl rfl) (pe_fn (ok_law_join T) (hr.mono (by decide)) (by rfl) T.m__law_join T.F__law_join.kp T.b__law_join .nil (fun _ => atN _) (pa_cons (pe_ix (show IxR _ (rIxT K) from ix_tup) (pv 0) pe_int (fun _ _ => rfl)) (pa_cons (pe_lst (pa_cons pe_int pa_nil)) pa_nil))))
    (pss_cons (ps_for PassesOwn.never rfl (pi_str (pv 1)) (pg_name (i := 3) nd rfl (Or.inl rfl))
      (pss_cons (ps_set (i := 4) nd rfl (Or.inl rfl) (pe_lst pa_nil))
      (pss_cons (ps_for PassesOwn.never rfl (pi_list (pv 2)) (pg_name (i := 5) nd rfl (Or.inl rfl))
        (pss_one (ps_for PassesOwn.never rfl (pi_list (pe_dget2 hu (pe_ix (show IxR _ (rIxT K) from ix_tup) (pv 0) pe_int (fun _ _ => rfl)) (pv 5) (pe_lst pa_nil) ⟨rfl, rfl, rfl, rfl⟩)) (pg_tup rfl (pgs_cons (pg_name (i := 6) nd rfl (Or.inl rfl)) (pgs_cons (pg_name (i := 7) nd rfl (Or.inl rfl)) (pgs_cons (pg_name (i := 8) nd rfl (Or.inl rfl)) pgs_nil))))
          (pss_one (ps_if (pt_cmpR op_eq (pv 6) (pv 3) (nomark _)) (pss_one (ps_expr (pe_bm PySem.F.plainAttrs_list PySem.F.slot_list_append PySem.F.type_list_append mt_append (pv 4) (pa_cons (pv 8) pa_nil)))) pss_nil)))))
      (pss_one (ps_set (i := 2) nd rfl (Or.inl rfl) (pe_fn (ok_law_join T) (hr.mono (by decide)) (by rfl) T.m__law_join T.F__law_join.kp T.b__law_join .nil (fun _ => atN _) (pa_cons (pe_ix (show IxR _ (rIxT K) from ix_tup) (pv 0) pe_int (fun _ _ => rfl)) (pa_cons (pv 4) pa_nil))))))))
    (pss_one (ps_ret (pv 2))))), ?_⟩
  obtain ⟨oa, ob, eg, hO, hS⟩ := GA
  have bf2 : ∀ p ∈ fr, 0 ≤ p.2 ∧ p.2 < (many : Int) := fun p h => (bf p h).2
  have inB : ∀ {s x : Int}, 0 ≤ s ∧ s < (many : Int) → Reach fr [s] x → 0 ≤ x ∧ x < (many : Int) := fun {s x} hs r => ⟨reach_pos (fun p h => (bf2 p h).1) hs.1 r, reach_lt (fun p h => (bf2 p h).2) hs.2 r⟩
  refine ⟨_, rfl, g, _, _, _, rfl, rfl, SqT.of eg, rfl, by show 1 ≤ sizeLine; decide, fun st hst0 => ?_⟩
  have Sst := Rz.Same.new (o := .lst [.int 0]) (Same.refl H) hst0
  have hst : upd H st (.lst [.int 0]) st = some (.lst (([0] : List Int).map V.int)) := upd_same
  refine ⟨ob, st, [0], many, fr, rfl, hS.same Sst, hst, fun s hs => by rw [List.mem_singleton.mp hs]; omega, zm, bf2, fun H1 L0 f0 S1' hL0 e0 pw0 hf0 => ?_⟩
  have S1 := Sst.trans S1'
  have hL0 := Sst.free hL0
  have hf0 : ∀ x, x ∈ f0 ↔ Reach fr [0] x := fun x => (hf0 x).trans ⟨fun ⟨s, hs, r⟩ => by rw [List.mem_singleton.mp hs] at r; exact r, fun r => ⟨0, by simp, r⟩⟩
  refine ⟨_, rfl, z, rfl, for_it walk_str (fun i σ H' => ∃ (v3 v4 v5 v6 v7 v8 : Option V) (L : Addr) (sts : List Int), σ = [some (.ref g), some (.str z), some (.ref L), v3, v4, v5, v6, v7, v8] ∧ Same H H' ∧ H L = none ∧ H' L = some (.lst (sts.map V.int)) ∧ sts.Pairwise (· < ·) ∧ (∀ x ∈ sts, 0 ≤ x ∧ x < (many : Int)) ∧ ∀ x, x ∈ sts ↔ textS es fr (fun t => Reach fr [0] t) (z.cps.toList.take i) x)
    ⟨none, none, none, none, none, none, L0, f0, rfl, S1, hL0, e0, pw0, fun x hx => inB ⟨by decide, by omega⟩ ((hf0 x).mp hx), hf0⟩ (fun _ _ _ _ _ => trivial) ?_ ?_⟩
  · rintro i y σ H2' H2 hi ⟨v3, v4, v5, v6, v7, v8, L, sts, rfl, S2, hL, eL, pw, bst, hm⟩ ⟨rfl, c, hc, rfl⟩
    have hc2 : z.cps.toList[i]? = some c := by rw [Array.getElem?_toList]; exact hc
    have tk1 : z.cps.toList.take (i + 1) = z.cps.toList.take i ++ [c] := by rw [List.take_add_one, hc2]; rfl
    have zs : sts.length ≤ 1000 := Nat.le_trans (few_belowN many sts (lt_nodup pw) bst) zm
    refine ⟨by show 0 ≤ sizeLine; decide, fun D hD => ?_⟩
    have S3 := Rz.Same.new (o := .lst []) (Same.refl H2) hD
    have A3 : upd H2 D (.lst []) D = some (.lst (([] : List Int).map V.int)) := upd_same
    generalize upd H2 D (.lst []) = H3 at S3 A3
    refine ⟨_, rfl, L, rfl, ⟨_, SqL.of (S3 _ _ eL)⟩, for_list (K := K) (a := L) (xs := sts.map V.int) (fun j σ H' => ∃ (v5 v6 v7 v8 : Option V) (ns : List Int), σ = [some (.ref g), some (.str z), some (.ref L), some (.str ⟨#[c]⟩), some (.ref D), v5, v6, v7, v8] ∧ Same H2 H' ∧ H' D = some (.lst (ns.map V.int)) ∧ ns.length ≤ 1000 * j ∧ (∀ x ∈ ns, 0 ≤ x ∧ x < (many : Int)) ∧ ∀ x, x ∈ ns ↔ ∃ s ∈ sts.take j, ∃ h, (s, c, h, x) ∈ es)
      ⟨v5, v6, v7, v8, [], rfl, S3, A3, Nat.zero_le _, fun x hx => (by cases hx), fun x => ⟨fun z => (by cases z), fun ⟨s, hs, _⟩ => (by simp at hs)⟩⟩ (fun j σ H' _ ⟨_, _, _, _, _, _, S, _⟩ => SqL.of (S _ _ eL)) ?_ ?_⟩
    · rintro j y σ H4 hj ⟨v5, v6, v7, v8, ns, rfl, S4, A4, zn, bn, hn⟩
      obtain ⟨q, hq, rfl⟩ := mapi_get hj
      have jl : j < sts.length := (List.getElem?_eq_some_iff.mp hq).1
      have S04 := S2.trans S4
      refine ⟨_, rfl, g, _, _, _, rfl, rfl, SqT.of (S04 _ _ eg), rfl, oa, rfl, ?_⟩
      have O4 := hO.same S04
      obtain ⟨kvs, eO, _⟩ := id O4
      refine ⟨.inl ⟨kvs, .inl eO⟩, _, rfl, by show 0 ≤ sizeLine; decide, fun u hu2 => ?_⟩
      have S5 := Rz.Same.new (o := .lst []) (Same.refl H4) hu2
      obtain ⟨kvs2, l, eO2, gl, us, el5, hU⟩ := out_get O4 hu2 q
      have ndu : D ≠ u := fun z => by rw [z, hu2] at A4; cases A4
      have nlD : l ≠ D := fun y => by
        subst y
        obtain ⟨kv3, eO3, r3⟩ := hO
        rw [S04 _ _ eO3] at eO2
        cases eO2
        rcases r3 q with ⟨w1, _⟩ | ⟨l2, w1, us2, w2, _⟩
        · rw [w1] at gl
          have : u = l := by
            have q : V.ref u = V.ref l := gl
            injection q
          exact ndu this.symm
        · rw [w1] at gl
          have : l2 = l := by
            have q : V.ref l2 = V.ref l := gl
            injection q
          rw [this] at w2
          rw [S2 _ _ w2] at hD
          cases hD
      refine ⟨_, DGet.k (k := .inl q) (S5 _ _ eO2), ?_⟩
      rw [gl]
      have eD5 := S5 _ _ A4
      have S25 := S4.trans S5
      generalize upd H4 u (.lst []) = H5 at S5 el5 hU eD5 S25
      have lo := outsOf_len es q
      refine ⟨l, rfl, ⟨_, SqL.of el5⟩, for_list (K := K) (a := l) (xs := us.map V.ref) (fun m σ H' => ∃ (v6 v7 v8 : Option V) (ns : List Int), σ = [some (.ref g), some (.str z), some (.ref L), some (.str ⟨#[c]⟩), some (.ref D), some (.int q), v6, v7, v8] ∧ Same H2 H' ∧ (∀ b o, b ≠ D → H5 b = some o → H' b = some o) ∧ H' D = some (.lst (ns.map V.int)) ∧ ns.length ≤ 1000 * j + m ∧ (∀ x ∈ ns, 0 ≤ x ∧ x < (many : Int)) ∧ ∀ x, x ∈ ns ↔ (∃ s ∈ sts.take j, ∃ h, (s, c, h, x) ∈ es) ∨ ∃ h, (c, h, x) ∈ (outsOf es q).take m)
        ⟨v6, v7, v8, ns, rfl, S25, fun b o _ e => e, eD5, zn, bn, fun x => (hn x).trans ⟨.inl, fun z => z.elim id fun ⟨h, z⟩ => (by simp at z)⟩⟩ (fun m σ H' _ ⟨_, _, _, _, _, _, I, _⟩ => SqL.of (I _ _ nlD el5)) ?_ ?_⟩
      · rintro m y σ H6 hm6 ⟨v6, v7, v8, ms, rfl, S6, I6, eR, zms, bm, hms⟩
        obtain ⟨t6, ht6, rfl⟩ := refs_get hm6
        obtain ⟨⟨c6, h6, x6⟩, hx6, et6⟩ := hU.get ht6
        have et6 : H5 t6 = some (.tup [.str ⟨#[c6]⟩, .int h6, .int x6]) := et6
        have ntD : t6 ≠ D := fun z => by rw [z, eD5] at et6; cases et6
        have ml : m < (outsOf es q).length := (List.getElem?_eq_some_iff.mp hx6).1
        have tk6 : (outsOf es q).take (m + 1) = (outsOf es q).take m ++ [(c6, h6, x6)] := by rw [List.take_add_one, hx6]; rfl
        have ine : (q, c6, h6, x6) ∈ es := mem_outs.mp (List.mem_of_getElem? hx6)
        refine ⟨t6, _, rfl, SqT.of (I6 _ _ ntD et6), rfl, _, _, rfl, _, _, rfl, _, _, rfl, rfl, ?_⟩
        have tr : decide (V.str ⟨#[c6]⟩ = V.str ⟨#[c]⟩) = decide (c6 = c) := by
          by_cases e : c6 = c
          · rw [e]
            simp
          · have : V.str ⟨#[c6]⟩ ≠ V.str ⟨#[c]⟩ := fun z => e (by
              injection z with z
              have z1 := congrArg (fun s : Str => s.cps.toList) z
              exact (List.cons.inj z1).1)
            rw [decide_eq_false e, decide_eq_false this]
        refine ⟨_, rfl, _, rfl, rfl, _, rfl, ?_⟩
        show (if decide (V.str ⟨#[c6]⟩ = V.str ⟨#[c]⟩) = true then _ else _)
        rw [tr]
        by_cases e : c6 = c
        · refine iteT2 (by rw [decide_eq_true e]) ?_
          subst e
          refine ⟨_, rfl, .inl ⟨rfl, _, SqL.of eR⟩, _, rfl, D, _, _, rfl, rfl, eR, by rw [List.length_map, sizeLine_eq]; omega, ?_⟩
          refine ⟨_, _, _, ms ++ [x6], rfl, Rz.Same.upd S6 hD, fun b o n z => by rw [upd_ne n]; exact I6 b o n z, by rw [upd_same, List.map_append]; rfl, by rw [List.length_append]; show _ + 1 ≤ _; omega, fun x hx => ?_, fun x => ?_⟩
          · rcases List.mem_append.mp hx with z | z
            · exact bm x z
            · rw [List.mem_singleton.mp z]
              exact (be _ ine).2
          · rw [List.mem_append, hms, List.mem_singleton, tk6]
            constructor
            · rintro ((z | ⟨h, z⟩) | z)
              · exact .inl z
              · exact .inr ⟨h, List.mem_append_left _ z⟩
              · exact .inr ⟨h6, List.mem_append_right _ (by rw [z]; simp)⟩
            · rintro (z | ⟨h, z⟩)
              · exact .inl (.inl z)
              · rcases List.mem_append.mp z with z | z
                · exact .inl (.inr ⟨h, z⟩)
                · rw [List.mem_singleton] at z
                  simp only [Prod.mk.injEq, true_and] at z
                  exact .inr z.2
        · refine iteF2 (by rw [decide_eq_false e]) ?_
          refine ⟨_, _, _, ms, rfl, S6, I6, eR, by omega, bm, fun x => ?_⟩
          rw [hms, tk6]
          constructor
          · exact fun z => z.elim .inl fun ⟨h, z⟩ => .inr ⟨h, List.mem_append_left _ z⟩
          · rintro (z | ⟨h, z⟩)
            · exact .inl z
            · rcases List.mem_append.mp z with z | z
              · exact .inr ⟨h, z⟩
              · rw [List.mem_singleton] at z
                simp only [Prod.mk.injEq] at z
                exact absurd z.1.symm e
      · rintro σ H6 ⟨v6, v7, v8, ms, rfl, S6, I6, eR, zms, bm, hms⟩
        rw [List.length_map, hU.len] at hms zms
        rw [List.take_length] at hms
        refine ⟨_, _, _, _, ms, rfl, S6, eR, by omega, bm, fun x => ?_⟩
        rw [hms, List.take_add_one, hq]
        constructor
        · rintro (⟨s, hs, z⟩ | ⟨h, z⟩)
          · exact ⟨s, List.mem_append_left _ hs, z⟩
          · exact ⟨q, List.mem_append_right _ (by simp), h, mem_outs.mp z⟩
        · rintro ⟨s, hs, h, z⟩
          rcases List.mem_append.mp hs with y | y
          · exact .inl ⟨s, y, h, z⟩
          · have : s = q := by simpa using y
            rw [this] at z
            exact .inr ⟨h, mem_outs.mpr z⟩
    · rintro σ H4 ⟨v5, v6, v7, v8, ns, rfl, S4, A4, zn, bn, hn⟩
      rw [List.length_map, List.take_length] at hn
      have S04 := S2.trans S4
      refine ⟨_, rfl, g, _, _, _, rfl, rfl, SqT.of (S04 _ _ eg), rfl, _, rfl, ?_⟩
      refine ⟨ob, D, ns, many, fr, rfl, hS.same S04, A4, bn, zm, bf2, fun H6 L6 f6 S6 hL6 e6 pw6 hf6 => ?_⟩
      refine ⟨_, _, _, _, _, _, L6, f6, rfl, S04.trans S6, S04.free hL6, e6, pw6, fun x hx => (let ⟨s, hs, r⟩ := (hf6 x).mp hx; inB (bn s hs) r), fun x => ?_⟩
      rw [tk1, textS_snoc, hf6]
      unfold stepT
      constructor
      · rintro ⟨y, hy, z⟩
        obtain ⟨s, hs, h, he⟩ := (hn y).mp hy
        exact ⟨(s, c, h, y), he, (hm s).mp hs, rfl, z⟩
      · rintro ⟨⟨s, c', h', y⟩, he, hs, e1, z⟩
        have e1 : c' = c := e1
        subst e1
        exact ⟨y, (hn y).mpr ⟨s, (hm s).mpr hs, h', he⟩, z⟩
  · rintro σ H2 ⟨v3, v4, v5, v6, v7, v8, L, sts, rfl, S2, hL, eL, pw, bst, hm⟩
    rw [← Array.length_toList, List.take_length] at hm
    exact ⟨_, rfl, k _ L sts S2 hL eL pw hm⟩
end
end Rz

namespace Rz
open PySem PySem.Spec PyProof.Rows L2
theorem in_ints {x : Int} {xs : List Int} : inV (.int x) (xs.map V.int) = decide (x ∈ xs) := by
  unfold inV
  rw [List.any_map]
  induction xs with
  | nil => rfl
  | cons y xs ih =>
    rw [List.any_cons, ih]
    show ((y == x) || decide (x ∈ xs)) = decide (x ∈ y :: xs)
    by_cases e : y = x
    · subst e
      simp
    · have e2 : ¬ x = y := fun z => e z.symm
      simp [e, e2]
theorem flat_ints (xs : List Int) : (xs.map V.int).all flatV = true := by
  rw [List.all_map, List.all_eq_true]
  exact fun _ _ => rfl
def sp_law_meets : Sp := fun vs H Q _ => ∃ (a b : Addr) (xs ys : List Int), vs = [.ref a, .ref b] ∧ H a = some (.lst (xs.map V.int)) ∧ H b = some (.lst (ys.map V.int)) ∧ xs.length ≤ 10000 ∧ ∀ (H' : Hp) (c : Bool), Same H H' → (c = true ↔ ∃ x ∈ xs, x ∈ ys) → Q (.bl c) H'
section
variable {w : World} {K : PySem.W.Frag} {mg : Str → Option Value} {base : Heap}
theorem sc_law_meets : FnScope N__law_meets P__law_meets (defScope s__law_meets) := ⟨rfl, rfl, rfl, by decide +kernel, rfl, by decide +kernel, by decide +kernel⟩
theorem ok_law_meets (T : Txt K mg) : FnOk prg w K mg base (L2.CX prg w) 1 T.f__law_meets T.fd__law_meets P__law_meets sp_law_meets := by
  refine Rz.Fun.okN T.F__law_meets sc_law_meets (fun vs H Q E h => ?_) (fun cdv A outer s H vs Q E hr h => ?_)
  · obtain ⟨a, b, xs, ys, rfl, _⟩ := h
    rfl
  obtain ⟨a, b, xs, ys, rfl, ha, hb, zx, k⟩ := h
  have nd := sc_law_meets.nd
  refine ⟨_, (pss_one (ps_ret (pe_cmpR (op_neD hr.units) (pe_lc (own := [("_law_state", 2)]) (g := (gName 2)) (tt := _) rfl nd (pi_list (pv 0)) (blkOk_by (N := N__law_meets) (sc := defScope s__law_meets) (by decide +kernel)) (fun _ _ _ _ _ => (pg_name (i := 2) nd rfl (Or.inl rfl))) (fun _ _ _ _ _ => (pts_one (pt_cmpR (show OpR _ (compareOp .In) (rIn K false) from op_in_seq) (pv 2) (pv 1) rfl))) (fun _ _ _ _ _ => (pv 2))) (pe_lst pa_nil) (nomark _)))), ?_⟩
  refine ⟨_, rfl, a, rfl, ⟨_, SqL.of ha⟩, fun D hD => lc_it walk_list (fun i H' => Same H H' ∧ H' D = some (.lst (((xs.take i).filter fun x => decide (x ∈ ys)).map V.int))) ⟨Rz.Same.new (Same.refl _) hD, upd_same⟩ (fun i H' _ h => SqL.of (h.1 _ _ ha)) ?_ ?_⟩
  · rintro i y G1 G2 hi ⟨S, e⟩ ⟨rfl, hy⟩
    obtain ⟨x, hx, rfl⟩ := mapi_get hy
    have tk1 : xs.take (i + 1) = xs.take i ++ [x] := by rw [List.take_add_one, hx]; rfl
    have lf := List.length_filter_le (fun x => decide (x ∈ ys)) (xs.take i)
    rw [List.length_take] at lf
    refine ⟨rfl, _, rfl, _, rfl, b, _, rfl, .inl (SqL.of (S _ _ hb)), rfl, flat_ints _, ?_⟩
    rw [in_ints]
    refine ⟨_, rfl, ?_⟩
    by_cases h : x ∈ ys
    · refine iteT2 (by rw [decide_eq_true h]; rfl) ⟨_, rfl, _, e, by rw [List.length_map, sizeLine_eq]; omega, Rz.Same.upd S hD, ?_⟩
      rw [upd_same, tk1, List.filter_append, List.filter_cons, if_pos (decide_eq_true h), List.map_append]
      rfl
    · refine iteF2 (by rw [decide_eq_false h]; rfl) ⟨S, ?_⟩
      rw [tk1, List.filter_append, List.filter_cons, if_neg (by simpa using h), List.filter_nil, List.append_nil]
      exact e
  · rintro G ⟨S, e⟩
    rw [List.length_map, List.take_length] at e
    refine ⟨Nat.zero_le _, fun p hp => ?_⟩
    have Sp := Rz.Same.new (o := .lst []) (Same.refl G) hp
    have ep : upd G p (.lst []) p = some (.lst (([] : List Int).map V.int)) := upd_same
    refine ⟨dInts (xs.filter fun x => decide (x ∈ ys)), dInts [], dp_ints (SqL.of (Sp _ _ e)), dp_ints (SqL.of ep), ints_shaped _, ints_shaped _, ?_⟩
    rw [ints_eqv]
    refine k _ _ (S.trans Sp) ?_
    by_cases h : xs.filter (fun x => decide (x ∈ ys)) = []
    · rw [decide_eq_true h]
      refine ⟨fun z => (by cases z), fun ⟨x, h1, h2⟩ => ?_⟩
      have : x ∈ xs.filter fun x => decide (x ∈ ys) := List.mem_filter.mpr ⟨h1, decide_eq_true h2⟩
      rw [h] at this
      cases this
    · rw [decide_eq_false h]
      refine ⟨fun _ => ?_, fun _ => rfl⟩
      obtain ⟨x, hx⟩ := List.exists_mem_of_ne_nil _ h
      obtain ⟨h1, h2⟩ := List.mem_filter.mp hx
      exact ⟨x, h1, of_decide_eq_true h2⟩
end
end Rz

namespace Rz
open PySem PySem.Spec PyProof.Rows L2
/-! ### sorted, each once -/
def sp_law_unique {α : Type} (F : α → List Key) (sh : Nat → Bool) : Sp := fun vs H Q _ => ∃ (l : Addr) (xs : List α), vs = [.ref l] ∧ TpAt F H l xs ∧ xs.length ≤ 1000 ∧ GoodF F xs ∧ (∀ x : α, Fits sh 0 (F x) ∧ F x ≠ []) ∧ (∀ a b : α, F a = F b → a = b) ∧
  ∀ (H' : Hp) (r : Addr) (qs : List α), Same H H' → H r = none → TpAt F H' r qs → SrtK F xs qs → Q (.ref r) H'
section
variable {w : World} {K : PySem.W.Frag} {mg : Str → Option Value} {base : Heap}
theorem sc_law_unique : FnScope N__law_unique P__law_unique (defScope s__law_unique) := ⟨rfl, rfl, rfl, by decide +kernel, rfl, by decide +kernel, by decide +kernel⟩
theorem ok_law_unique {α : Type} [DecidableEq α] (F : α → List Key) (sh : Nat → Bool) (T : Txt K mg) : FnOk prg w K mg base (L2.CX prg w) 1 T.f__law_unique T.fd__law_unique P__law_unique (sp_law_unique F sh) := by
  refine Rz.Fun.okN T.F__law_unique sc_law_unique (fun vs H Q E h => ?_) (fun cdv A outer s H vs Q E hr h => ?_)
  · obtain ⟨l, xs, rfl, _⟩ := h
    rfl
  obtain ⟨l, xs, rfl, ⟨ts, el, hT⟩, zx, good, fit, inj, k⟩ := h
  have nd := sc_law_unique.nd
  have hu65 : (A.deeper (envOfC "_law_unique" (defScope s__law_unique) s.heap.objs.size T.f__law_unique cdv)).units + 65 < cLine := by
    have := hr.un
    omega
  refine ⟨_, (pss_cons (ps_set (i := 1) nd rfl (Or.inl rfl) (pe_lst pa_nil))
    (pss_cons (ps_for PassesOwn.never rfl (pi_list (pe_callB cr_sortTd (by rfl) T.n_sorted (by decide +kernel) (pa_cons (pv 0) pa_nil))) (pg_name (i := 2) nd rfl (Or.inl rfl))
      (pss_one (ps_if (pt_cmpR (op_notInD hu65) (pv 2) (pv 1) rfl) (pss_one (ps_expr (pe_bm PySem.F.plainAttrs_list PySem.F.slot_list_append PySem.F.type_list_append mt_append (pv 1) (pa_cons (pv 2) pa_nil)))) pss_nil)))
    (pss_one (ps_ret (pv 1))))), ?_⟩
  refine ⟨by show 0 ≤ sizeLine; decide, fun D hD => ?_⟩
  have S0 := Rz.Same.new (o := .lst []) (Same.refl H) hD
  have e0 : upd H D (.lst []) D = some (.lst (([] : List Addr).map V.ref)) := upd_same
  generalize upd H D (.lst []) = H0 at S0 e0
  obtain ⟨ks, k1, k2, k3, k4⟩ := tp_keys hT
  refine ⟨_, rfl, rSortTd_go l ks sh (SqL.of (by rw [← k1]; exact S0 _ _ el)) (fun p hp => SqT.of (S0 _ _ (k3 p hp))) (fun p hp => ?_) fun M q pm pw hq => ?_⟩
  · have inm : p.2 ∈ xs.map F := by rw [← k2]; exact List.mem_map.mpr ⟨p, hp, rfl⟩
    obtain ⟨y, _, ey⟩ := List.mem_map.mp inm
    rw [← ey]
    exact fit y
  obtain ⟨qs, q1, q2⟩ := keys_tp (F := F) (H := H) (M := M) fun p hp => by
    have inL := pm.mem_iff.mp hp
    have inm : p.2 ∈ xs.map F := by rw [← k2]; exact List.mem_map.mpr ⟨p, inL, rfl⟩
    obtain ⟨y, _, ey⟩ := List.mem_map.mp inm
    exact ⟨k3 p inL, y, ey.symm⟩
  have mF : ∀ (zs : List α) (y : α), F y ∈ zs.map F ↔ y ∈ zs := fun zs y => ⟨fun h => by
    obtain ⟨x, hx, e⟩ := List.mem_map.mp h
    rw [← inj _ _ e]
    exact hx, fun h => List.mem_map.mpr ⟨y, h, rfl⟩⟩
  have mq : ∀ y, y ∈ qs ↔ y ∈ xs := fun y => by
    rw [← mF qs y, ← q1, (pm.map (·.2)).mem_iff, k2, mF]
  have zq : qs.length ≤ 1000 := by
    have a := congrArg List.length q1
    rw [List.length_map, List.length_map, pm.length_eq, k4] at a
    omega
  have sq : (qs.map F).Pairwise (fun q r => kLt r q = false) := by
    rw [← q1, List.pairwise_map]
    exact pw
  have gq : GoodF F qs := fun x hx => good x ((mq x).mp hx)
  have Sq := Rz.Same.new (o := .lst (M.map fun q => V.ref q.1)) (Same.refl H0) hq
  have eq1 : upd H0 q (.lst (M.map fun q => V.ref q.1)) q = some (.lst ((M.map (·.1)).map V.ref)) := by
    rw [List.map_map]
    exact upd_same
  have T1 := q2.keep (Tups.of (S0.trans Sq))
  have e1 := Sq _ _ e0
  have S1 := S0.trans Sq
  have nqD : q ≠ D := fun z => by rw [z, e0] at hq; cases hq
  generalize upd H0 q (.lst (M.map fun q => V.ref q.1)) = H1 at Sq eq1 T1 e1 S1
  generalize M.map (·.1) = ms at eq1 T1
  refine ⟨q, rfl, ⟨_, SqL.of eq1⟩, for_list (K := K) (a := q) (xs := ms.map V.ref) (fun i σ H' => ∃ (v2 : Option V) (us : List Addr) (fs : List α), σ = [some (.ref l), some (.ref D), v2] ∧ (∀ b o, b ≠ D → H1 b = some o → H' b = some o) ∧ Same H H' ∧ H' D = some (.lst (us.map V.ref)) ∧ TpL F H' us fs ∧ fs.length ≤ i ∧ fs.Nodup ∧ (fs.map F).Pairwise (fun q r => kLt r q = false) ∧ ∀ x, x ∈ fs ↔ x ∈ qs.take i)
    ⟨none, [], [], rfl, fun b o _ e => e, S1, e1, .nil, Nat.le_refl _, List.nodup_nil, .nil, fun x => by simp⟩ (fun i σ H' _ ⟨_, _, _, _, I, _⟩ => SqL.of (I _ _ nqD eq1)) ?_ ?_⟩
  · rintro i y σ H2 hi ⟨v2, us, fs, rfl, I, S2, eD, hU, zf, ndf, sf, mf⟩
    obtain ⟨t, ht, rfl⟩ := refs_get hi
    obtain ⟨x, hx, et⟩ := T1.get ht
    have ip : i < qs.length := (List.getElem?_eq_some_iff.mp hx).1
    have tk1 : qs.take (i + 1) = qs.take i ++ [x] := by rw [List.take_add_one, hx]; rfl
    have ntD : t ≠ D := fun z => by rw [z, e1] at et; cases et
    have et2 := I _ _ ntD et
    have gx := gq x (List.mem_of_getElem? hx)
    have gf : GoodF F fs := fun y hy => gq y (List.mem_of_mem_take ((mf y).mp hy))
    refine ⟨_, rfl, _, rfl, dTp F x, fs.map (dTp F), dtp_at et2, .lst (SqL.of eD) (dtps_all hU), dtp_shaped gx, dtps_shaped gf, _, rfl, ?_⟩
    have an : (fs.map (dTp F)).any (fun z => z.eqv (dTp F x)) = decide (x ∈ fs) := by
      rw [List.any_map]
      have : ∀ zs : List α, zs.any ((fun z => z.eqv (dTp F x)) ∘ dTp F) = decide (x ∈ zs) := by
        intro zs
        induction zs with
        | nil => rfl
        | cons z zs ih =>
          rw [List.any_cons, ih]
          show (PyData.eqv (dTp F z) (dTp F x) || decide (x ∈ zs)) = decide (x ∈ z :: zs)
          rw [dtp_eqv inj]
          by_cases e : z = x
          · subst e
            simp
          · have e2 : ¬ x = z := fun q => e q.symm
            simp [e, e2]
      exact this fs
    rw [an]
    by_cases m : x ∈ fs
    · refine iteF2 (by rw [decide_eq_true m]; rfl) ?_
      refine ⟨_, us, fs, rfl, I, S2, eD, hU, Nat.le_succ_of_le zf, ndf, sf, fun y => ?_⟩
      rw [mf, tk1, List.mem_append, List.mem_singleton]
      exact ⟨.inl, fun z => z.elim id fun z => by rw [z]; exact (mf x).mp m⟩
    · refine iteT2 (by rw [decide_eq_false m]; rfl) ?_
      refine ⟨_, rfl, .inl ⟨rfl, _, SqL.of eD⟩, _, rfl, D, _, _, rfl, rfl, eD, by rw [List.length_map, hU.len, sizeLine_eq]; omega, ?_⟩
      have T2 : Tups H2 (upd H2 D (.lst (us.map V.ref ++ [.ref t]))) := Tups.upd (Tups.of (Same.refl H2)) (fun xs z => by rw [eD] at z; cases z)
      have sub : ((qs.take i ++ [x]).map F).Pairwise (fun q r => kLt r q = false) := by
        rw [← tk1, List.map_take]
        exact sq.sublist (List.take_sublist _ _)
      rw [List.map_append, List.pairwise_append] at sub
      refine ⟨_, us ++ [t], fs ++ [x], rfl, fun b o n e => by rw [upd_ne n]; exact I b o n e, Rz.Same.upd S2 hD, by rw [upd_same, List.map_append]; rfl, (hU.keep T2).append (.cons (T2 _ _ et2) .nil), by rw [List.length_append]; show _ + 1 ≤ _; omega, ?_, ?_, fun y => ?_⟩
      · rw [List.nodup_append]
        exact ⟨ndf, by simp, fun a ha b hb e => m (by rw [← List.mem_singleton.mp hb, ← e]; exact ha)⟩
      · rw [List.map_append, List.pairwise_append]
        refine ⟨sf, List.pairwise_singleton _ _, fun a ha b hb => sub.2.2 a ?_ b hb⟩
        obtain ⟨y, hy, rfl⟩ := List.mem_map.mp ha
        exact List.mem_map.mpr ⟨y, (mf y).mp hy, rfl⟩
      · rw [List.mem_append, mf, tk1, List.mem_append]
  · rintro σ H2 ⟨v2, us, fs, rfl, I, S2, eD, hU, zf, ndf, sf, mf⟩
    have lm := T1.len
    rw [List.length_map, lm, List.take_length] at mf
    exact ⟨_, rfl, k _ D fs S2 hD ⟨us, eD, hU⟩ ⟨sf, ndf, fun x => (mf x).trans (mq x)⟩⟩
end
end Rz

namespace Rz
open PySem PySem.Spec PyProof.Rows L2
/-! ### a drawn machine -/
theorem But.free1 {H H' : Hp} {d x : Addr} (B : But [d] H H') (D : Dr H' d) (h : H' x = none) : H x = none := B.free (fun z => by
  obtain ⟨ns, e, _⟩ := D
  rw [List.mem_singleton.mp z, e] at h
  cases h) h
def EdOk (many : Nat) (z : Str) (top : Int) (e : Ed) : Prop := (0 ≤ e.1 ∧ e.1 < (many : Int)) ∧ (0 ≤ e.2.2.2 ∧ e.2.2.2 < (many : Int)) ∧ e.2.1 ∈ z.cps.toList ∧ 0 ≤ e.2.2.1 ∧ e.2.2.1 ≤ top
def FrOk (many : Nat) (p : Lk) : Prop := (0 ≤ p.1 ∧ p.1 < (many : Int)) ∧ 0 ≤ p.2 ∧ p.2 < (many : Int)
/-- the parts of a machine at g -/
def MpAt (H : Hp) (g ll le lf : Addr) (many : Nat) (ls : List Int) (es : List Ed) (fr : List Lk) : Prop := H g = some (.tup [.int (many : Nat), .ref ll, .ref le, .ref lf]) ∧ H ll = some (.lst (ls.map V.int)) ∧ TpAt edK H le es ∧ TpAt lkK H lf fr
structure MpOk (z : Str) (top : Int) (many : Nat) (ls : List Int) (es : List Ed) (fr : List Lk) : Prop where
  m1 : 1 ≤ many
  m4 : many ≤ 4
  ls1 : ls.Pairwise (· < ·)
  ls2 : ∀ x ∈ ls, 0 ≤ x ∧ x < (many : Int)
  es1 : ∀ e ∈ es, EdOk many z top e
  fr1 : ∀ p ∈ fr, FrOk many p
  ze : es.length ≤ 9
  zf : fr.length ≤ 5
def sp_law_machine_of : Sp := fun vs H Q _ => ∃ (d : Addr) (z : Str), vs = [.ref d, .str z] ∧ Dr H d ∧ z.length = 2 ∧
  ∀ H' (g ll le lf : Addr) (many : Nat) (ls : List Int) (es : List Ed) (fr : List Lk), MpAt H' g ll le lf many ls es fr → MpOk z 2 many ls es fr → H g = none → H ll = none → H le = none → H lf = none → Dr H' d → But [d] H H' → Q (.ref g) H'
section
variable {w : World} {K : PySem.W.Frag} {mg : Str → Option Value} {base : Heap}
theorem sc_law_machine_of : FnScope N__law_machine_of P__law_machine_of (defScope s__law_machine_of) := ⟨rfl, rfl, rfl, by decide +kernel, rfl, by decide +kernel, by decide +kernel⟩
theorem ok_law_machine_of (T : Txt K mg) : FnOk prg w K mg base (L2.CX prg w) 2 T.f__law_machine_of T.fd__law_machine_of P__law_machine_of sp_law_machine_of := by
  refine Rz.Fun.okN T.F__law_machine_of sc_law_machine_of (fun vs H Q E h => ?_) (fun cdv A outer s H vs Q E hr h => ?_)
  · obtain ⟨d, z, rfl, _⟩ := h
    rfl
  obtain ⟨d, z, rfl, hD, hz, k⟩ := h
  have nd := sc_law_machine_of.nd
  have pk : ∀ {X : Cx}, True := fun {_} => trivial
  refine ⟨_, (pss_cons (ps_set (i := 2) nd rfl (Or.inl rfl) (pe_op op_add pe_int (pe_fn (ok_law_pick T) (hr.mono (by decide)) (by rfl) T.m__law_pick T.F__law_pick.kp T.b__law_pick .nil (fun _ => atN _) (pa_cons (pv 0) (pa_cons pe_int pa_nil)))))
    (pss_cons (ps_set (i := 3) nd rfl (Or.inl rfl) (pe_lst pa_nil))
    (pss_cons (ps_for PassesOwn.never rfl (pi_range1 rfl T.n_range (pa_cons (pe_fn (ok_law_pick T) (hr.mono (by decide)) (by rfl) T.m__law_pick T.F__law_pick.kp T.b__law_pick .nil (fun _ => atN _) (pa_cons (pv 0) (pa_cons pe_int pa_nil))) pa_nil)) (pg_name (i := 4) nd rfl (Or.inl rfl))
      (pss_cons (ps_set (i := 5) nd rfl (Or.inl rfl) (pe_fn (ok_law_pick T) (hr.mono (by decide)) (by rfl) T.m__law_pick T.F__law_pick.kp T.b__law_pick .nil (fun _ => atN _) (pa_cons (pv 0) (pa_cons (pv 2) pa_nil))))
      (pss_cons (ps_set (i := 6) nd rfl (Or.inl rfl) (pe_ix ix_str (pv 1) (pe_fn (ok_law_pick T) (hr.mono (by decide)) (by rfl) T.m__law_pick T.F__law_pick.kp T.b__law_pick .nil (fun _ => atN _) (pa_cons (pv 0) (pa_cons (pe_callB call_len_str (by rfl) T.n_len PySem.boot_len (pa_cons (pv 1) pa_nil)) pa_nil))) (fun _ _ => rfl)))
      (pss_cons (ps_set (i := 7) nd rfl (Or.inl rfl) (pe_fn (ok_law_pick T) (hr.mono (by decide)) (by rfl) T.m__law_pick T.F__law_pick.kp T.b__law_pick .nil (fun _ => atN _) (pa_cons (pv 0) (pa_cons pe_int pa_nil))))
      (pss_one (ps_expr (pe_bm PySem.F.plainAttrs_list PySem.F.slot_list_append PySem.F.type_list_append mt_append (pv 3) (pa_cons (pe_tup (pa_cons (pv 5) (pa_cons (pv 6) (pa_cons (pv 7) (pa_cons (pe_fn (ok_law_pick T) (hr.mono (by decide)) (by rfl) T.m__law_pick T.F__law_pick.kp T.b__law_pick .nil (fun _ => atN _) (pa_cons (pv 0) (pa_cons (pv 2) pa_nil))) pa_nil))))) pa_nil))))))))
    (pss_cons (ps_set (i := 8) nd rfl (Or.inl rfl) (pe_lst pa_nil))
    (pss_cons (ps_for PassesOwn.never rfl (pi_range1 rfl T.n_range (pa_cons (pe_fn (ok_law_pick T) (hr.mono (by decide)) (by rfl) T.m__law_pick T.F__law_pick.kp T.b__law_pick .nil (fun _ => atN _) (pa_cons (pv 0) (pa_cons pe_int pa_nil))) pa_nil)) (pg_name (i := 4) nd rfl (Or.inl rfl))
      (pss_cons (ps_set (i := 5) nd rfl (Or.inl rfl) (pe_fn (ok_law_pick T) (hr.mono (by decide)) (by rfl) T.m__law_pick T.F__law_pick.kp T.b__law_pick .nil (fun _ => atN _) (pa_cons (pv 0) (pa_cons (pv 2) pa_nil))))
      (pss_one (ps_expr (pe_bm PySem.F.plainAttrs_list PySem.F.slot_list_append PySem.F.type_list_append mt_append (pv 8) (pa_cons (pe_tup (pa_cons (pv 5) (pa_cons (pe_fn (ok_law_pick T) (hr.mono (by decide)) (by rfl) T.m__law_pick T.F__law_pick.kp T.b__law_pick .nil (fun _ => atN _) (pa_cons (pv 0) (pa_cons (pv 2) pa_nil))) pa_nil))) pa_nil))))))
    (pss_cons (ps_setLc (i := 10) (own := [("_law_state", 9)]) (g := (gName 9)) (tt := _) rfl nd rfl rfl (sw_true rfl rfl rfl (by decide +kernel)) (pi_range1 rfl T.n_range (pa_cons (pv 2) pa_nil)) (blkOk_by (N := N__law_machine_of) (sc := defScope s__law_machine_of) (by decide +kernel)) (fun _ _ _ _ _ => (pg_name (i := 9) nd rfl (Or.inl rfl))) (fun _ _ _ _ _ => (pts_one (pt_cmpR op_eq (pe_fn (ok_law_pick T) (hr.mono (by decide)) (by rfl) T.m__law_pick T.F__law_pick.kp T.b__law_pick .nil (fun _ => atN _) (pa_cons (pv 0) (pa_cons pe_int pa_nil))) pe_int (nomark _)))) (fun _ _ _ _ _ => (pv 9)))
    (pss_one (ps_ret (pe_tup (pa_cons (pv 2) (pa_cons (pv 10) (pa_cons (pv 3) (pa_cons (pv 8) pa_nil))))))))))))), ?_⟩
  have lz : z.cps.toList.length = z.length := rfl
  refine ⟨_, rfl, d, _, rfl, by decide, hD, fun H1 r r0 r5 D1 B1 => ⟨_, _, rfl, rfl, ?_⟩⟩
  obtain ⟨many, em⟩ : ∃ n : Nat, (1 : Int) + r = (n : Int) := ⟨(1 + r).toNat, by omega⟩
  show gName 2 (V.int (1 + r)) _ _ _
  rw [em]
  have m1 : 1 ≤ many := by omega
  have m4 : many ≤ 4 := by omega
  refine ⟨Nat.zero_le _, fun lm hlm => ?_⟩
  have hlm0 : H lm = none := B1.free1 D1 hlm
  have ndl : lm ≠ d := fun z => by
    obtain ⟨ns, e, _⟩ := hD
    rw [z, e] at hlm0
    cases hlm0
  have ndt : ∀ {G : Hp}, Dr G d → ∀ xs, G d ≠ some (.tup xs) := fun D xs z => by
    obtain ⟨ns, e, _⟩ := D
    rw [e] at z
    cases z
  have D2 := D1.same (Rz.Same.new (o := .lst []) (Same.refl H1) hlm)
  have B2 : But [d] H (upd H1 lm (.lst [])) := B1.upd (.inr hlm0)
  have M2 : TpAt edK (upd H1 lm (.lst [])) lm [] := ⟨[], upd_same, .nil⟩
  generalize upd H1 lm (.lst []) = H2 at D2 B2 M2 ⊢
  refine ⟨_, rfl, d, _, rfl, by decide, D2, fun H3 e e0 e9 D3 B3 => ⟨e, rfl, by omega, by omega, for_range (n := e.toNat) (fun i σ H' => ∃ (v4 v5 v6 v7 : Option V) (es : List Ed), σ = [some (.ref d), some (.str z), some (.int many), some (.ref lm), v4, v5, v6, v7, none, none, none] ∧ TpAt edK H' lm es ∧ es.length ≤ i ∧ (∀ x ∈ es, EdOk many z 2 x) ∧ Dr H' d ∧ But [d] H H')
    ⟨none, none, none, none, [], rfl, M2.but B3 (by simpa using ndl) (tups1 B3 (ndt D2)), Nat.le_refl _, (fun x hx => by cases hx), D3, B2.trans B3⟩ ?_ ?_⟩⟩
  · rintro i σ G1 hi ⟨v4, v5, v6, v7, es, rfl, MG, zM, gM, DG, BG⟩
    refine ⟨_, rfl, _, rfl, d, _, rfl, by omega, DG, fun G2 st s0 s1 D2 B2 => ?_⟩
    have M2 := MG.but B2 (by simpa using ndl) (tups1 B2 (ndt DG))
    refine ⟨_, rfl, _, rfl, _, rfl, z, rfl, by rw [hz]; decide, d, _, rfl, by rw [hz]; decide, D2, fun G3 ri q0 q1 D3 B3 => ?_⟩
    have M3 := M2.but B3 (by simpa using ndl) (tups1 B3 (ndt D2))
    have B03 := (BG.trans B2).trans B3
    obtain ⟨c, hc, hat⟩ := atI_in (xs := z.cps.toList) q0 (by omega)
    refine ⟨z, _, c, rfl, rfl, by rw [sizeLine_eq]; omega, hat, ?_⟩
    refine ⟨_, rfl, d, _, rfl, by decide, D3, fun G4 lv l0 l1 D4 B4 => ?_⟩
    have M4 := M3.but B4 (by simpa using ndl) (tups1 B4 (ndt D3))
    have B04 := B03.trans B4
    obtain ⟨ts, em4, P4⟩ := M4
    refine ⟨_, rfl, .inl ⟨rfl, _, SqL.of em4⟩, _, rfl, _, rfl, _, rfl, _, rfl, _, rfl, d, _, rfl, by omega, D4, fun G6 g g0 g1 D6 B6 => ?_⟩
    refine ⟨by show 4 ≤ sizeLine; decide, fun u hu => ?_⟩
    have em6 := B6.at em4 (by simpa using ndl)
    have P6 := P4.keep (tups1 B6 (ndt D4))
    have S7 := Rz.Same.new (o := .tup [.int st, .str ⟨#[c]⟩, .int lv, .int g]) (Same.refl G6) hu
    have lts := P6.len
    refine ⟨lm, _, _, rfl, rfl, S7 _ _ em6, by rw [List.length_map, sizeLine_eq]; omega, ?_⟩
    refine ⟨_, _, _, _, es ++ [((st, c, lv, g) : Ed)], rfl, tp_push (x := ((st, c, lv, g) : Ed)) em6 P6 hu, by rw [List.length_append]; exact Nat.succ_le_succ zM, fun x hx => ?_, (D6.same S7).upd (by simpa using Ne.symm ndl), ((B04.trans B6).trans (But.of S7)).upd (.inr hlm0)⟩
    rcases List.mem_append.mp hx with q | q
    · exact gM x q
    · rw [List.mem_singleton.mp q]
      exact ⟨⟨s0, s1⟩, ⟨g0, g1⟩, hc, l0, by show lv ≤ 2; omega⟩
  rintro σ G1 ⟨v4, v5, v6, v7, es, rfl, MG, zM, gM, DG, BG⟩
  have ze : es.length ≤ 9 := by omega
  refine ⟨Nat.zero_le _, fun lf hlf => ?_⟩
  have hlf0 : H lf = none := BG.free1 DG hlf
  have nlf : lf ≠ d := fun z => by
    obtain ⟨ns, e, _⟩ := hD
    rw [z, e] at hlf0
    cases hlf0
  have nmf : lm ≠ lf := fun z => by
    obtain ⟨ts, e, _⟩ := MG
    rw [← z, e] at hlf
    cases hlf
  have S5 := Rz.Same.new (o := .lst []) (Same.refl G1) hlf
  have D5 := DG.same S5
  have B5 : But [d] H (upd G1 lf (.lst [])) := BG.upd (.inr hlf0)
  have M5 := MG.same S5
  have F5 : TpAt lkK (upd G1 lf (.lst [])) lf [] := ⟨[], upd_same, .nil⟩
  generalize upd G1 lf (.lst []) = G5 at D5 B5 M5 F5 ⊢
  refine ⟨_, rfl, d, _, rfl, by decide, D5, fun G6 e2 f0 f6 D6 B6 => ⟨e2, rfl, by omega, by omega, for_range (n := e2.toNat) (fun i σ H' => ∃ (v4 v5 : Option V) (fr : List Lk), σ = [some (.ref d), some (.str z), some (.int many), some (.ref lm), v4, v5, v6, v7, some (.ref lf), none, none] ∧ TpAt edK H' lm es ∧ TpAt lkK H' lf fr ∧ fr.length ≤ i ∧ (∀ x ∈ fr, FrOk many x) ∧ Dr H' d ∧ But [d] H H')
    ⟨v4, v5, [], rfl, M5.but B6 (by simpa using ndl) (tups1 B6 (ndt D5)), F5.but B6 (by simpa using nlf) (tups1 B6 (ndt D5)), Nat.le_refl _, (fun x hx => by cases hx), D6, B5.trans B6⟩ ?_ ?_⟩⟩
  · rintro i σ G1 hi ⟨v4, v5, fr, rfl, MG, FG, zM, gM, DG, BG⟩
    refine ⟨_, rfl, _, rfl, d, _, rfl, by omega, DG, fun G2 st s0 s1 D2 B2 => ?_⟩
    have M2 := MG.but B2 (by simpa using ndl) (tups1 B2 (ndt DG))
    have F2 := FG.but B2 (by simpa using nlf) (tups1 B2 (ndt DG))
    obtain ⟨ts, em4, P4⟩ := F2
    refine ⟨_, rfl, .inl ⟨rfl, _, SqL.of em4⟩, _, rfl, _, rfl, _, rfl, d, _, rfl, by omega, D2, fun G6 g g0 g1 D6 B6 => ?_⟩
    refine ⟨by show 2 ≤ sizeLine; decide, fun u hu => ?_⟩
    have em6 := B6.at em4 (by simpa using nlf)
    have P6 := P4.keep (tups1 B6 (ndt D2))
    have M6 := M2.but B6 (by simpa using ndl) (tups1 B6 (ndt D2))
    have S7 := Rz.Same.new (o := .tup [.int st, .int g]) (Same.refl G6) hu
    have lts := P6.len
    refine ⟨lf, _, _, rfl, rfl, S7 _ _ em6, by rw [List.length_map, sizeLine_eq]; omega, ?_⟩
    refine ⟨_, _, fr ++ [((st, g) : Lk)], rfl, ?_, tp_push (x := ((st, g) : Lk)) em6 P6 hu, by rw [List.length_append]; exact Nat.succ_le_succ zM, fun x hx => ?_, (D6.same S7).upd (by simpa using Ne.symm nlf), (((BG.trans B2).trans B6).trans (But.of S7)).upd (.inr hlf0)⟩
    · obtain ⟨us, eM, PM⟩ := M6.same S7
      exact ⟨us, by rw [upd_ne nmf]; exact eM, PM.keep (Tups.upd (Tups.of (Same.refl _)) (fun xs z => by rw [S7 _ _ em6] at z; cases z))⟩
    · rcases List.mem_append.mp hx with q | q
      · exact gM x q
      · rw [List.mem_singleton.mp q]
        exact ⟨⟨s0, s1⟩, g0, g1⟩
  rintro σ G1 ⟨v4, v5, fr, rfl, MG, FG, zF, gF, DG, BG⟩
  have zf : fr.length ≤ 5 := by omega
  refine ⟨_, rfl, (many : Int), rfl, by omega, by omega, fun L hL => lc_range (lo := 0) (n := ((many : Nat) : Int).toNat) (fun i H' => ∃ l0 : List Int, H' L = some (.lst (l0.map V.int)) ∧ l0.Pairwise (· < ·) ∧ (∀ x ∈ l0, 0 ≤ x ∧ x < (i : Int)) ∧ l0.length ≤ i ∧ TpAt edK H' lm es ∧ TpAt lkK H' lf fr ∧ Dr H' d ∧ But [d] H H')
    ⟨[], upd_same, .nil, (fun x hx => by cases hx), Nat.zero_le _, MG.same (Rz.Same.new (Same.refl _) hL), FG.same (Rz.Same.new (Same.refl _) hL), DG.same (Rz.Same.new (Same.refl _) hL), BG.upd (.inr (BG.free1 DG hL))⟩ ?_ ?_⟩
  · rintro i G2 hi ⟨l0, e, pw, rl, zl0, M2, F2, D2, B2⟩
    have e0 : (0 : Int) + (i : Nat) = (i : Nat) := Int.zero_add _
    rw [e0]
    have nLd : L ∉ [d] := fun z => by
      obtain ⟨ns, e, _⟩ := DG
      rw [List.mem_singleton.mp z, e] at hL
      cases hL
    have nLm : lm ≠ L := fun z => by
      obtain ⟨ts, e, _⟩ := MG
      rw [← z, e] at hL
      cases hL
    have nLf : lf ≠ L := fun z => by
      obtain ⟨ts, e, _⟩ := FG
      rw [← z, e] at hL
      cases hL
    refine ⟨rfl, _, rfl, d, _, rfl, by decide, D2, fun G3 r r0 r1 D3 B3 => ⟨rfl, _, rfl, ?_⟩⟩
    have M3 := M2.but B3 (by simpa using ndl) (tups1 B3 (ndt D2))
    have F3 := F2.but B3 (by simpa using nlf) (tups1 B3 (ndt D2))
    have e3 := B3.at e nLd
    refine ite2 (fun _ => ?_) (fun _ => ?_)
    · have T3 : Tups G3 (upd G3 L (.lst (l0.map V.int ++ [.int ((i : Nat) : Int)]))) := Tups.upd (Tups.of (Same.refl G3)) (not_tupL ⟨_, e3⟩)
      refine ⟨_, rfl, _, e3, by rw [List.length_map, sizeLine_eq]; omega, l0 ++ [((i : Nat) : Int)], by rw [upd_same, List.map_append]; rfl, ?_, fun x hx => ?_, ?_, ?_, ?_, ?_, ?_⟩
      · rw [List.pairwise_append]
        exact ⟨pw, List.pairwise_singleton _ _, fun a ha b hb => by rw [List.mem_singleton.mp hb]; exact (rl a ha).2⟩
      · rcases List.mem_append.mp hx with q | q
        · have := rl x q
          omega
        · rw [List.mem_singleton.mp q]
          omega
      · rw [List.length_append]
        exact Nat.succ_le_succ zl0
      · obtain ⟨ts, em3, P3⟩ := M3
        exact ⟨ts, by rw [upd_ne nLm]; exact em3, P3.keep T3⟩
      · obtain ⟨ts, em3, P3⟩ := F3
        exact ⟨ts, by rw [upd_ne nLf]; exact em3, P3.keep T3⟩
      · exact D3.upd (by simpa using Ne.symm (by simpa using nLd))
      · exact (B2.trans B3).upd (.inr (BG.free1 DG hL))
    · exact ⟨l0, e3, pw, fun x hx => (by have := rl x hx; omega), by omega, M3, F3, D3, B2.trans B3⟩
  rintro G2 ⟨l0, eL, pw, rl, zl0, M2, F2, D2, B2⟩
  refine ⟨_, rfl, _, rfl, _, rfl, _, rfl, by show 4 ≤ sizeLine; decide, fun t ht => ?_⟩
  have S3 := Rz.Same.new (o := .tup [.int many, .ref L, .ref lm, .ref lf]) (Same.refl G2) ht
  exact k _ t L lm lf many l0 es fr ⟨upd_same, S3 _ _ eL, M2.same S3, F2.same S3⟩ ⟨m1, m4, pw, fun x hx => (by have := rl x hx; omega), gM, gF, ze, zf⟩ (B2.free1 D2 ht) (BG.free1 DG hL) hlm0 hlf0 (D2.same S3) (B2.trans (But.of S3))
end
end Rz

namespace Rz
open PySem PySem.Spec PyProof.Rows L2
/-! ### a drawn row along edges -/
def PrOk (z : Str) (p : Pr) : Prop := p.1 ∈ z.cps.toList ∧ 0 ≤ p.2 ∧ p.2 ≤ 9
def sp_law_walk_on : Sp := fun vs H Q _ => ∃ (d le : Addr) (st : Int) (z : Str) (many : Nat) (es : List Ed), vs = [.ref d, .ref le, .int st, .str z] ∧ Dr H d ∧ TpAt edK H le es ∧ (∀ e ∈ es, EdOk many z 9 e) ∧ (∀ c ∈ z.cps.toList, c < 128) ∧ es.length ≤ 100 ∧ z.length = 2 ∧ le ≠ d ∧
  ∀ H' (r : Addr) (ps : List Pr), LAt H' r ps → (∀ p ∈ ps, PrOk z p) → ps.length ≤ 6 → H r = none → Dr H' d → But [d] H H' → Q (.ref r) H'
section
variable {w : World} {K : PySem.W.Frag} {mg : Str → Option Value} {base : Heap}
theorem sc_law_walk_on : FnScope N__law_walk_on P__law_walk_on (defScope s__law_walk_on) := ⟨rfl, rfl, rfl, by decide +kernel, rfl, by decide +kernel, by decide +kernel⟩
theorem ok_law_walk_on (T : Txt K mg) : FnOk prg w K mg base (L2.CX prg w) 2 T.f__law_walk_on T.fd__law_walk_on P__law_walk_on sp_law_walk_on := by
  refine Rz.Fun.okN T.F__law_walk_on sc_law_walk_on (fun vs H Q E h => ?_) (fun cdv A outer s H vs Q E hr h => ?_)
  · obtain ⟨d, le, st, z, many, es, rfl, _⟩ := h
    rfl
  obtain ⟨d, le, st, z, many, es, rfl, hD, hE, gE, gz, ze, hz, nle, k⟩ := h
  have nd := sc_law_walk_on.nd
  refine ⟨_, (pss_cons (ps_set (i := 4) nd rfl (Or.inl rfl) (pe_lst pa_nil))
    (pss_cons (ps_set (i := 5) nd rfl (Or.inl rfl) (pe_fn (ok_law_pick T) (hr.mono (by decide)) (by rfl) T.m__law_pick T.F__law_pick.kp T.b__law_pick .nil (fun _ => atN _) (pa_cons (pv 0) (pa_cons pe_int pa_nil))))
    (pss_cons (ps_if (pt_cmpR op_eq (pe_fn (ok_law_pick T) (hr.mono (by decide)) (by rfl) T.m__law_pick T.F__law_pick.kp T.b__law_pick .nil (fun _ => atN _) (pa_cons (pv 0) (pa_cons pe_int pa_nil))) pe_int (nomark _)) (pss_one (ps_ret (pe_lc (own := [("_law_k", 6)]) (g := (gName 6)) (tt := tYes) rfl nd (pi_range1 rfl T.n_range (pa_cons (pv 5) pa_nil)) (blkOk_by (N := N__law_walk_on) (sc := defScope s__law_walk_on) (by decide +kernel)) (fun _ _ _ _ _ => (pg_name (i := 6) nd rfl (Or.inl rfl))) (fun _ _ _ _ _ => pts_nil) (fun _ _ _ _ _ => (pe_tup (pa_cons (pe_ix ix_str (pv 3) (pe_fn (ok_law_pick T) (hr.mono (by decide)) (by rfl) T.m__law_pick T.F__law_pick.kp T.b__law_pick .nil (fun _ => atN _) (pa_cons (pv 0) (pa_cons pe_int pa_nil))) (fun _ _ => rfl)) (pa_cons (pe_fn (ok_law_pick T) (hr.mono (by decide)) (by rfl) T.m__law_pick T.F__law_pick.kp T.b__law_pick .nil (fun _ => atN _) (pa_cons (pv 0) (pa_cons pe_int pa_nil))) pa_nil))))))) pss_nil)
    (pss_cons (ps_set (i := 7) nd rfl (Or.inr rfl) (pv 2))
    (pss_cons (ps_for PassesOwn.never rfl (pi_range1 rfl T.n_range (pa_cons (pv 5) pa_nil)) (pg_name (i := 6) nd rfl (Or.inl rfl))
      (pss_cons (ps_setLc (i := 9) (own := [("_law_edge", 8)]) (g := (gName 8)) (tt := _) rfl nd rfl rfl (sw_true rfl rfl rfl (by decide +kernel)) (pi_list (pv 1)) (blkOk_by (N := N__law_walk_on) (sc := defScope s__law_walk_on) (by decide +kernel)) (fun _ _ _ _ _ => (pg_name (i := 8) nd rfl (Or.inl rfl))) (fun _ _ _ _ _ => (pts_one (pt_cmpR op_eq (pe_ix (show IxR _ (rIxT K) from ix_tup) (pv 8) pe_int (fun _ _ => rfl)) (pv 7) (nomark _)))) (fun _ _ _ _ _ => (pv 8)))
      (C8.pss_cut (ps_if (PW.pt (pw_and (pt_cmpR (op_eqD hr.units) (pv 9) (pe_lst pa_nil) (nomark _)) (pw_and1 (pt_cmpR (op_neD hr.units) (pv 1) (pe_lst pa_nil) (nomark _))))) (pss_one (ps_set (i := 9) nd rfl (Or.inl rfl) (pv 1))) pss_nil)
      (pss_one (ps_if (pt_cmpR (op_neD hr.units) (pv 9) (pe_lst pa_nil) (nomark _)) (pss_cons (ps_set (i := 8) nd rfl (Or.inl rfl) (pe_ix (show IxR _ (rIxL K) from ix_list) (pv 9) (pe_fn (ok_law_pick T) (hr.mono (by decide)) (by rfl) T.m__law_pick T.F__law_pick.kp T.b__law_pick .nil (fun _ => atN _) (pa_cons (pv 0) (pa_cons (pe_callB call_lenS (by rfl) T.n_len PySem.boot_len (pa_cons (pv 9) pa_nil)) pa_nil))) (fun _ _ => rfl)))
        (pss_cons (ps_expr (pe_bm PySem.F.plainAttrs_list PySem.F.slot_list_append PySem.F.type_list_append mt_append (pv 4) (pa_cons (pe_tup (pa_cons (pe_ix (show IxR _ (rIxT K) from ix_tup) (pv 8) pe_int (fun _ _ => rfl)) (pa_cons (pe_ix (show IxR _ (rIxT K) from ix_tup) (pv 8) pe_int (fun _ _ => rfl)) pa_nil))) pa_nil)))
        (pss_one (ps_set (i := 7) nd rfl (Or.inr rfl) (pe_ix (show IxR _ (rIxT K) from ix_tup) (pv 8) pe_int (fun _ _ => rfl)))))) pss_nil)))))
    (pss_one (ps_ret (pv 4)))))))), ?_⟩
  have lz : z.cps.toList.length = z.length := rfl
  have ndt : ∀ {G : Hp}, Dr G d → ∀ xs, G d ≠ some (.tup xs) := fun D xs z => by
    obtain ⟨ns, e, _⟩ := D
    rw [e] at z
    cases z
  refine ⟨Nat.zero_le _, fun lp hlp => ?_⟩
  have S1 := Rz.Same.new (o := .lst []) (Same.refl H) hlp
  have D1 := hD.same S1
  have E1 := hE.same S1
  have B1 : But [d] H (upd H lp (.lst [])) := But.of S1
  have nlp : lp ≠ d := fun z => by
    obtain ⟨ns, e, _⟩ := hD
    rw [z, e] at hlp
    cases hlp
  have P1 : LAt (upd H lp (.lst [])) lp [] := ⟨[], upd_same, .nil⟩
  generalize upd H lp (.lst []) = H1 at D1 E1 B1 P1 ⊢
  refine ⟨_, rfl, d, _, rfl, by decide, D1, fun H2 sz z0 z7 D2 B2 => ?_⟩
  have E2 := E1.but B2 (by simpa using nle) (tups1 B2 (ndt D1))
  have P2 := P1.but B2 (by simpa using nlp) (tups1 B2 (ndt D1))
  have B02 := B1.trans B2
  refine ⟨_, rfl, d, _, rfl, by decide, D2, fun H3 c3 _ _ D3 B3 => ?_⟩
  have E3 := E2.but B3 (by simpa using nle) (tups1 B3 (ndt D2))
  have P3 := P2.but B3 (by simpa using nlp) (tups1 B3 (ndt D2))
  have B03 := B02.trans B3
  refine ⟨rfl, _, rfl, ite2 (fun _ => ?_) (fun _ => ?_)⟩
  · refine ⟨_, rfl, sz, rfl, by omega, by omega, fun L hL => lc_range (lo := 0) (n := sz.toNat) (fun i H' => ∃ ps : List Pr, LAt H' L ps ∧ (∀ p ∈ ps, PrOk z p) ∧ ps.length ≤ i ∧ Dr H' d ∧ But [d] H H')
      ⟨[], ⟨[], upd_same, .nil⟩, (fun x hx => by cases hx), Nat.zero_le _, D3.same (Rz.Same.new (Same.refl _) hL), B03.upd (.inr (B03.free1 D3 hL))⟩ ?_ ?_⟩
    · have D3' := D3
      rintro i G2 hi ⟨ps, PL, gp, zp, D2, B2⟩
      have nLd : L ≠ d := fun z => by
        obtain ⟨ns, e, _⟩ := D3
        rw [z, e] at hL
        cases hL
      refine ⟨rfl, yesT ⟨_, rfl, _, rfl, d, _, rfl, by decide, D2, fun G3 ri q0 q1 D3 B3 => ?_⟩⟩
      have PL3 := PL.but B3 (by simpa using nLd) (tups1 B3 (ndt D2))
      obtain ⟨c, hc, hat⟩ := atI_in (xs := z.cps.toList) q0 (by omega)
      refine ⟨z, _, c, rfl, rfl, by rw [sizeLine_eq]; omega, hat, _, rfl, d, _, rfl, by decide, D3, fun G4 hv h0 h1 D4 B4 => ?_⟩
      obtain ⟨us, eL4, P4⟩ := PL3.but B4 (by simpa using nLd) (tups1 B4 (ndt D3))
      refine ⟨by show 2 ≤ sizeLine; decide, fun u hu => ?_⟩
      have S5 := Rz.Same.new (o := .tup [.str ⟨#[c]⟩, .int hv]) (Same.refl G4) hu
      have lus := PAt.length P4
      have psh : TpAt ppK (upd (upd G4 u (.tup [.str ⟨#[c]⟩, .int hv])) L (.lst (us.map V.ref ++ [.ref u]))) L (ps ++ [(c, hv)]) := tp_push (F := ppK) (x := (c, hv)) eL4 P4 hu
      refine ⟨_, S5 _ _ eL4, by rw [List.length_map, sizeLine_eq]; omega, ps ++ [(c, hv)], psh, fun x hx => ?_, by rw [List.length_append]; exact Nat.succ_le_succ zp, (D4.same S5).upd (by simpa using Ne.symm nLd), (((B2.trans B3).trans B4).trans (But.of S5)).upd (.inr (B03.free1 D3' hL))⟩
      rcases List.mem_append.mp hx with q | q
      · exact gp x q
      · rw [List.mem_singleton.mp q]
        exact ⟨hc, h0, by show hv ≤ 9; omega⟩
    · rintro G2 ⟨ps, PL, gp, zp, D2, B2⟩
      exact k _ L ps PL gp (by omega) (B03.free1 D3 hL) D2 B2
  · refine ⟨_, rfl, ?_⟩
    refine ⟨_, rfl, sz, rfl, by omega, by omega, for_range (n := sz.toNat) (fun i σ H' => ∃ (v6 v8 v9 : Option V) (ps : List Pr) (stt : Int), σ = [some (.ref d), some (.ref le), some (.int st), some (.str z), some (.ref lp), some (.int sz), v6, some (.int stt), v8, v9] ∧ LAt H' lp ps ∧ (∀ p ∈ ps, PrOk z p) ∧ ps.length ≤ i ∧ TpAt edK H' le es ∧ Dr H' d ∧ But [d] H H')
      ⟨none, none, none, [], st, rfl, P3, (fun x hx => by cases hx), Nat.zero_le _, E3, D3, B03⟩ ?_ ?_⟩
    · rintro i σ G1 hi ⟨v6, v8, v9, ps, stt, rfl, PG, gp, zp, EG, DG, BG⟩
      obtain ⟨te, ee, hT⟩ := id EG
      have lte := hT.len
      have gg : ∀ {ns : List Ed}, (∀ x ∈ ns, x ∈ es) → GoodF edK ns := fun {ns} h => edK_good fun e he => gz _ (gE e (h e he)).2.2.1
      refine ⟨_, rfl, le, rfl, ⟨_, SqL.of ee⟩, fun D hDn => lc_it walk_list (fun j H' => Same G1 H' ∧ ∃ (us : List Addr) (ns : List Ed), H' D = some (.lst (us.map V.ref)) ∧ TpL edK H' us ns ∧ us.length ≤ j ∧ ∀ x ∈ ns, x ∈ es) ⟨Rz.Same.new (Same.refl _) hDn, [], [], upd_same, .nil, Nat.le_refl _, fun m hm => (by cases hm)⟩ (fun j H' _ h => SqL.of (h.1 _ _ ee)) ?_ ?_⟩
      · rintro j y Ga Gb hj ⟨S, us, ns, e, P, zu, sub⟩ ⟨rfl, hy⟩
        obtain ⟨t, ht, rfl⟩ := refs_get hy
        obtain ⟨⟨a, c, h, b⟩, hx, et⟩ := hT.get ht
        have et : G1 t = some (.tup [.int a, .str ⟨#[c]⟩, .int h, .int b]) := et
        have hj2 : j < te.length := (List.getElem?_eq_some_iff.mp ht).1
        refine ⟨rfl, _, rfl, t, _, 0, _, rfl, rfl, SqT.of (S _ _ et), atI_nat (j := 0) rfl, _, rfl, rfl, _, rfl, ?_⟩
        refine ite2 (fun _ => ?_) (fun _ => ⟨S, us, ns, e, P, Nat.le_succ_of_le zu, sub⟩)
        have T3 : Tups Gb (upd Gb D (.lst (us.map V.ref ++ [.ref t]))) := Tups.upd (Tups.of (Same.refl _)) (not_tupL ⟨_, e⟩)
        refine ⟨_, rfl, _, e, by rw [List.length_map, sizeLine_eq]; omega, Rz.Same.upd S hDn, us ++ [t], ns ++ [(a, c, h, b)], by rw [upd_same, List.map_append]; rfl, (P.keep T3).append (.cons (T3 _ _ (S _ _ et)) .nil), by rw [List.length_append]; exact Nat.succ_le_succ zu, fun m hm => ?_⟩
        rcases List.mem_append.mp hm with q | q
        · exact sub m q
        · rw [List.mem_singleton.mp q]
          exact List.mem_of_getElem? hx
      rintro G4 ⟨S4, us, ns, e4, P4, zu, sub⟩
      have nDd : D ≠ d := fun z => by
        obtain ⟨ns, e, _⟩ := DG
        rw [z, e] at hDn
        cases hDn
      have zus : us.length ≤ 100 := by
        rw [List.length_map, lte] at zu
        omega
      refine ⟨fun σ H' => ∃ (v6 v8 : Option V) (ln : Addr) (ns : List Ed), σ = [some (.ref d), some (.ref le), some (.int st), some (.str z), some (.ref lp), some (.int sz), v6, some (.int stt), v8, some (.ref ln)] ∧ TpAt edK H' ln ns ∧ (∀ x ∈ ns, x ∈ es) ∧ ns.length ≤ 100 ∧ ln ≠ d ∧ Same G1 H', ?_, ?_⟩
      · refine ⟨_, rfl, Nat.zero_le _, fun p hp => ?_⟩
        have S5 := Rz.Same.new (o := .lst []) (Same.refl G4) hp
        have N5 : TpAt edK (upd G4 p (.lst [])) D ns := ⟨us, S5 _ _ e4, P4.keep (Tups.of S5)⟩
        have e5 : TpAt edK (upd G4 p (.lst [])) p [] := ⟨[], upd_same, .nil⟩
        have zns : ns.length ≤ 100 := by rw [← P4.len]; exact zus
        have S15 := S4.trans S5
        refine ⟨dTps edK ns, dTps edK [], dtps_at N5, dtps_at e5, dtps_shaped (gg sub), dtps_shaped (gg (fun x hx => (by cases hx))), _, rfl, ?_⟩
        refine ite2 (fun _ => ?_) (fun _ => ?_)
        · refine ⟨_, rfl, Nat.zero_le _, fun p2 hp2 => ?_⟩
          have S6 := Rz.Same.new (o := .lst []) (Same.refl (upd G4 p (.lst []))) hp2
          refine ⟨dTps edK es, dTps edK [], dtps_at (EG.same (S15.trans S6)), dtps_at ⟨[], upd_same, .nil⟩, dtps_shaped (gg (fun x hx => hx)), dtps_shaped (gg (fun x hx => (by cases hx))), _, rfl, ?_⟩
          refine ite2 (fun _ => ?_) (fun _ => ?_)
          · exact ⟨_, rfl, _, _, le, es, rfl, EG.same (S15.trans S6), fun x hx => hx, ze, nle, S15.trans S6⟩
          · exact ⟨_, _, D, ns, rfl, N5.same S6, sub, zns, nDd, S15.trans S6⟩
        · exact ⟨_, _, D, ns, rfl, N5, sub, zns, nDd, S15⟩
      · rintro σ H5 ⟨v6, v8, ln, ns, rfl, N5, sub, zn, nln, S5⟩
        refine ⟨_, rfl, Nat.zero_le _, fun p hp => ?_⟩
        have S6 := Rz.Same.new (o := .lst []) (Same.refl H5) hp
        have e6 : TpAt edK (upd H5 p (.lst [])) p [] := ⟨[], upd_same, .nil⟩
        have N6 := N5.same S6
        have S16 := S5.trans S6
        generalize upd H5 p (.lst []) = H6 at S6 e6 N6 S16
        refine ⟨dTps edK ns, dTps edK [], dtps_at N6, dtps_at e6, dtps_shaped (gg sub), dtps_shaped (gg (fun x hx => (by cases hx))), _, rfl, ?_⟩
        rw [dtps_eqv edK_inj]
        by_cases hn : ns = []
        · refine iteF2 (by rw [decide_eq_true hn]; rfl) ?_
          exact ⟨_, _, _, ps, stt, rfl, PG.same S16, gp, Nat.le_succ_of_le zp, EG.same S16, DG.same S16, BG.trans (But.of S16)⟩
        · refine iteT2 (by rw [decide_eq_false hn]; rfl) ?_
          obtain ⟨us, en, hU⟩ := N6
          have lus := hU.len
          have pos : 0 < ns.length := List.length_pos_iff.mpr hn
          refine ⟨_, rfl, _, rfl, _, rfl, ?_⟩
          unfold rLenS
          refine ⟨ln, _, rfl, SqL.of en, d, _, rfl, by rw [List.length_map]; omega, DG.same S16, fun G7 r r0 r1 D7 B7 => ?_⟩
          have en7 := B7.at en (by simpa using nln)
          have T7 := tups1 B7 (ndt (DG.same S16))
          have hU7 := hU.keep T7
          have P7 := (PG.same S16).but B7 (by simpa using nlp) T7
          have E7 := (EG.same S16).but B7 (by simpa using nle) T7
          obtain ⟨v, hv, hat⟩ := atI_in r0 r1
          obtain ⟨t, ht, rfl⟩ := List.mem_map.mp hv
          obtain ⟨m, hm⟩ := List.getElem?_of_mem ht
          obtain ⟨⟨a, c, h, b⟩, hx, et⟩ := hU7.get hm
          have et : G7 t = some (.tup [.int a, .str ⟨#[c]⟩, .int h, .int b]) := et
          have ein := gE _ (sub _ (List.mem_of_getElem? hx))
          refine ⟨ln, _, r, _, rfl, rfl, SqL.of en7, hat, ?_⟩
          obtain ⟨qs, eP, hP⟩ := P7
          have lqs := PAt.length hP
          refine ⟨_, rfl, .inl ⟨rfl, _, SqL.of eP⟩, _, rfl, t, _, 1, _, rfl, rfl, SqT.of et, atI_nat (j := 1) rfl, _, rfl, t, _, 2, _, rfl, rfl, SqT.of et, atI_nat (j := 2) rfl, by show 2 ≤ sizeLine; decide, fun u hu => ?_⟩
          have S8 := Rz.Same.new (o := .tup [.str ⟨#[c]⟩, .int h]) (Same.refl G7) hu
          have psh : TpAt ppK (upd (upd G7 u (.tup [.str ⟨#[c]⟩, .int h])) lp (.lst (qs.map V.ref ++ [.ref u]))) lp (ps ++ [(c, h)]) := tp_push (F := ppK) (x := (c, h)) eP hP hu
          have T8 : Tups G7 (upd (upd G7 u (.tup [.str ⟨#[c]⟩, .int h])) lp (.lst (qs.map V.ref ++ [.ref u]))) := Tups.upd (Tups.of S8) (fun xs z => by rw [S8 _ _ eP] at z; cases z)
          refine ⟨lp, _, _, rfl, rfl, S8 _ _ eP, by rw [List.length_map, sizeLine_eq]; omega, ?_⟩
          refine ⟨_, rfl, t, _, 3, _, rfl, rfl, SqT.of (T8 _ _ et), atI_nat (j := 3) rfl, ?_⟩
          have hlpG : lp ≠ le := fun z => by
            obtain ⟨ts, e, _⟩ := hE
            rw [z, e] at hlp
            cases hlp
          refine ⟨_, _, _, ps ++ [(c, h)], b, rfl, psh, fun x hx => ?_, by rw [List.length_append]; exact Nat.succ_le_succ zp, ?_, (D7.same S8).upd (by simpa using Ne.symm nlp), (((BG.trans (But.of S16)).trans B7).trans (But.of S8)).upd (.inr hlp)⟩
          · rcases List.mem_append.mp hx with q | q
            · exact gp x q
            · rw [List.mem_singleton.mp q]
              exact ⟨ein.2.2.1, ein.2.2.2.1, ein.2.2.2.2⟩
          · obtain ⟨us, eE, hE7⟩ := E7.same S8
            exact ⟨us, by rw [upd_ne (Ne.symm hlpG)]; exact eE, hE7.keep (Tups.upd (Tups.of (Same.refl _)) (fun xs z => by rw [S8 _ _ eP] at z; cases z))⟩
    · rintro σ G1 ⟨v6, v8, v9, ps, stt, rfl, PG, gp, zp, EG, DG, BG⟩
      exact ⟨_, rfl, k _ lp ps PG gp (by omega) hlp DG BG⟩
end
end Rz

namespace Rz
open PySem PySem.Spec PyProof.Rows L2
def sp_law_fine (cM : Addr) : Sp := fun vs H Q _ => ∃ (H0 : Hp) (p ll le lf : Addr) (many : Int) (ls : List Int) (es es' : List Ed) (fr fr' : List Lk) (cm : Int → Nat) (m : Nat), vs = [.ref p, .int many, .ref ll, .ref le, .ref lf] ∧ MacAt cM H0 H p many ls es' fr' cm m ∧ H ll = some (.lst (ls.map V.int)) ∧ TpAt edK H le es ∧ TpAt lkK H lf fr ∧ (∀ e ∈ es, e.2.1 < 128) ∧ es.length ≤ 100 ∧ fr.length ≤ 100 ∧ es'.length ≤ 100 ∧ fr'.length ≤ 100 ∧ ls.length ≤ 100 ∧
  SrtK edK es es' ∧ SrtK lkK (fr.filter fun p : Lk => decide (p.1 ≠ p.2)) fr' ∧ ∀ H', Same H H' → Q (.bl true) H'
section
variable {w : World} {K : PySem.W.Frag} {mg : Str → Option Value} {base : Heap}
theorem sc_law_fine : FnScope N__law_fine P__law_fine (defScope s__law_fine) := ⟨rfl, rfl, rfl, by decide +kernel, rfl, by decide +kernel, by decide +kernel⟩
theorem ok_law_fine (T : Txt K mg) : FnOk prg w K mg base (L2.CX prg w) 8 T.f__law_fine T.fd__law_fine P__law_fine (sp_law_fine T.c_Machine) := by
  refine Rz.Fun.okN T.F__law_fine sc_law_fine (fun vs H Q E h => ?_) (fun cdv A outer s H vs Q E hr h => ?_)
  · obtain ⟨H0, p, ll, le, lf, many, ls, es, es', fr, fr', cm, m, rfl, _⟩ := h
    rfl
  obtain ⟨H0, p, ll, le, lf, many, ls, es, es', fr, fr', cm, m, rfl, MA, hl, hE, hF, gz, ze, zf, ze', zf', zl, sE, sF, k⟩ := h
  have nd := sc_law_fine.nd
  refine ⟨_, (pss_cons (ps_set (i := 5) nd rfl (Or.inl rfl) (pe_pr (pv 0) T.cl_Machine T.M_Machine_last (ok_Machine_last T) (hr.mono (by decide)) T.b_Machine_last passN))
    (pss_cons (ps_if (PW.pt (pw_or (pt_not (pt_val (pe_fn (ok_law_is_int T) (hr.mono (by decide)) (by rfl) T.m__law_is_int T.F__law_is_int.kp T.b__law_is_int .nil (fun _ => atN _) (pa_cons (pe_pr (pv 0) T.cl_Machine T.M_Machine_states (ok_Machine_states T) (hr.mono (by decide)) T.b_Machine_states passN) pa_nil)))) (pw_or (pt_cmpR op_ne (pe_pr (pv 0) T.cl_Machine T.M_Machine_states (ok_Machine_states T) (hr.mono (by decide)) T.b_Machine_states passN) (pv 1) (nomark _)) (pw_or (pt_not (pt_val (pe_callB call_isi (by rfl) T.n_isinstance (by decide +kernel) (pa_cons (pv 5) (pa_cons (pe_bltn (v := .ty "list") (by rfl) T.n_list (by decide +kernel) rfl) pa_nil))))) (pw_or1 (pt_cmpR (op_neD hr.units) (pv 5) (pv 2) (nomark _))))))) (pss_one (ps_ret pe_bl)) pss_nil)
    (pss_cons (ps_set (i := 6) nd rfl (Or.inl rfl) (pe_listG (nm := "list") (pgen_meth0 (pv 0) T.cl_Machine T.M_Machine_edges (ok_Machine_edges T) (hr.mono (by decide)) T.b_Machine_edges .nil) passN (fun _ _ _ h => h.elim) (hr.mono (by decide)) (by rfl) T.n_list (by decide +kernel)))
    (pss_cons (ps_if (PW.pt (pw_or (pt_cmpR (op_neD hr.units) (pv 6) (pe_fn (ok_law_unique edK (fun i => i == 1) T) (hr.mono (by decide)) (by rfl) T.m__law_unique T.F__law_unique.kp T.b__law_unique .nil (fun _ => atN _) (pa_cons (pv 3) pa_nil)) (nomark _)) (pw_or1 (pt_cmpR (op_neD hr.units) (pe_listG (nm := "list") (pgen_meth0 (pv 0) T.cl_Machine T.M_Machine_free (ok_Machine_free T) (hr.mono (by decide)) T.b_Machine_free .nil) passN (fun _ _ _ h => h.elim) (hr.mono (by decide)) (by rfl) T.n_list (by decide +kernel)) (pe_fn (ok_law_unique lkK (fun _ => false) T) (hr.mono (by decide)) (by rfl) T.m__law_unique T.F__law_unique.kp T.b__law_unique .nil (fun _ => atN _) (pa_cons (pe_lc (own := [("_law_pair", 7)]) (g := (gName 7)) (tt := _) rfl nd (pi_list (pv 4)) (blkOk_by (N := N__law_fine) (sc := defScope s__law_fine) (by decide +kernel)) (fun _ _ _ _ _ => (pg_name (i := 7) nd rfl (Or.inl rfl))) (fun _ _ _ _ _ => (pts_one (pt_cmpR op_ne (pe_ix (show IxR _ (rIxT K) from ix_tup) (pv 7) pe_int (fun _ _ => rfl)) (pe_ix (show IxR _ (rIxT K) from ix_tup) (pv 7) pe_int (fun _ _ => rfl)) (nomark _)))) (fun _ _ _ _ _ => (pv 7))) pa_nil)) (nomark _))))) (pss_one (ps_ret pe_bl)) pss_nil)
    (pss_cons (ps_for PassesOwn.never rfl (pi_list (pv 6)) (pg_name (i := 8) nd rfl (Or.inl rfl))
      (pss_one (ps_if (PW.pt (pw_or (pt_not (pt_val (pe_callB call_isi (by rfl) T.n_isinstance (by decide +kernel) (pa_cons (pv 8) (pa_cons (pe_bltn (v := .ty "tuple") (by rfl) T.n_tuple (by decide +kernel) rfl) pa_nil))))) (pw_or (pt_not (pt_val (pe_callB call_isi (by rfl) T.n_isinstance (by decide +kernel) (pa_cons (pe_ix (show IxR _ (rIxT K) from ix_tup) (pv 8) pe_int (fun _ _ => rfl)) (pa_cons (pe_bltn (v := .ty "str") (by rfl) T.n_str (by decide +kernel) rfl) pa_nil))))) (pw_or1 (pt_not (pt_val (pe_fn (ok_law_is_int T) (hr.mono (by decide)) (by rfl) T.m__law_is_int T.F__law_is_int.kp T.b__law_is_int .nil (fun _ => atN _) (pa_cons (pe_ix (show IxR _ (rIxT K) from ix_tup) (pv 8) pe_int (fun _ _ => rfl)) pa_nil)))))))) (pss_one (ps_ret pe_bl)) pss_nil)))
    (pss_cons (ps_for PassesOwn.never rfl (pi_list (pe_listG (nm := "list") (pgen_meth0 (pv 0) T.cl_Machine T.M_Machine_free (ok_Machine_free T) (hr.mono (by decide)) T.b_Machine_free .nil) passN (fun _ _ _ h => h.elim) (hr.mono (by decide)) (by rfl) T.n_list (by decide +kernel))) (pg_name (i := 7) nd rfl (Or.inl rfl))
      (pss_one (ps_if (pt_not (pt_val (pe_callB call_isi (by rfl) T.n_isinstance (by decide +kernel) (pa_cons (pv 7) (pa_cons (pe_bltn (v := .ty "tuple") (by rfl) T.n_tuple (by decide +kernel) rfl) pa_nil))))) (pss_one (ps_ret pe_bl)) pss_nil)))
    (pss_cons (ps_expr (pe_bm PySem.F.plainAttrs_list PySem.F.slot_list_append PySem.F.type_list_append mt_append (pv 5) (pa_cons pe_int pa_nil)))
    (pss_one (ps_ret (pe_cmpR (op_eqD hr.units) (pe_pr (pv 0) T.cl_Machine T.M_Machine_last (ok_Machine_last T) (hr.mono (by decide)) T.b_Machine_last passN) (pv 2) (nomark _))))))))))), ?_⟩
  obtain ⟨dx, aa, ab, ac, aD, aR, C, G, P, L, hp, _⟩ := id MA
  refine ⟨_, rfl, p, dx, _, rfl, hp, H0, p, many, ls, es', fr', cm, m, rfl, MA, fun H1 a1 S1 ha1 e1 => ?_⟩
  refine ⟨_, rfl, p, dx, _, rfl, S1 _ _ hp, H0, p, many, ls, es', fr', cm, m, rfl, MA.same S1, ?_⟩
  have ge' : GoodF edK es' := edK_good fun e he => gz e ((sE.2.2 e).mp he)
  refine ⟨many, rfl, true, rfl, iteF ?_⟩
  refine ⟨_, rfl, p, dx, _, rfl, S1 _ _ hp, H0, p, many, ls, es', fr', cm, m, rfl, MA.same S1, _, rfl, rfl, _, rfl, ?_⟩
  refine iteF2 (by simp) ?_
  refine ⟨_, rfl, _, _, .type "list", .type "list", true, rfl, .ty _, .base (.lst e1), kit_ty (by decide +kernel), true, rfl, iteF ?_⟩
  refine ⟨_, rfl, _, rfl, dInts ls, dInts ls, dp_ints (SqL.of e1), dp_ints (SqL.of (S1 _ _ hl)), ints_shaped _, ints_shaped _, _, rfl, ?_⟩
  rw [ints_eqv]
  refine iteF2 (by rw [decide_eq_true rfl]; rfl) ?_
  -- edges
  have MA1 := MA.same S1
  refine ⟨_, rfl, p, dx, _, rfl, S1 _ _ hp, rfl, H0, p, many, ls, es', fr', cm, m, rfl, MA1, by omega, fun te hte q hq => ?_⟩
  have S2 := Rz.Same.new (o := .lst (te.map V.ref)) (Same.refl H1) hq
  have e2 : TpAt edK (upd H1 q (.lst (te.map V.ref))) q es' := ⟨te, upd_same, hte.keep (Tups.of S2)⟩
  have S02 := S1.trans S2
  have n12 : a1 ≠ q := fun z => by rw [z, hq] at e1; cases e1
  have e1' := S2 _ _ e1
  generalize upd H1 q (.lst (te.map V.ref)) = H2 at S2 e2 S02 e1'
  refine ⟨_, rfl, _, rfl, le, es, rfl, hE.same S02, by omega, edK_good gz, edK_fits, edK_inj, fun H3 u qs S3 hu3 eu su => ?_⟩
  have eqs : qs = es' := srtK_one edK_inj su sE
  subst eqs
  refine ⟨dTps edK qs, dTps edK qs, dtps_at (e2.same S3), dtps_at eu, dtps_shaped ge', dtps_shaped ge', _, rfl, ?_⟩
  rw [dtps_eqv edK_inj]
  refine iteF2 (by rw [decide_eq_true rfl]; rfl) ?_
  have S03 := S02.trans S3
  -- free
  refine ⟨_, rfl, p, dx, _, rfl, S03 _ _ hp, rfl, H0, p, many, ls, qs, fr', cm, m, rfl, MA.same S03, by omega, fun tf htf v hv => ?_⟩
  have S4 := Rz.Same.new (o := .lst (tf.map V.ref)) (Same.refl H3) hv
  have e4 : TpAt lkK (upd H3 v (.lst (tf.map V.ref))) v fr' := ⟨tf, upd_same, htf.keep (Tups.of S4)⟩
  have S04 := S03.trans S4
  generalize upd H3 v (.lst (tf.map V.ref)) = H4 at S4 e4 S04
  obtain ⟨ts, el, hT⟩ := hF.same S04
  have lts := hT.len
  refine ⟨_, rfl, lf, rfl, ⟨_, SqL.of el⟩, fun D hD => lc_it walk_list (fun i H' => Same H4 H' ∧ ∃ us : List Addr, H' D = some (.lst (us.map V.ref)) ∧ TpL lkK H' us ((fr.take i).filter fun p : Lk => decide (p.1 ≠ p.2)) ∧ us.length ≤ i) ⟨Rz.Same.new (Same.refl _) hD, [], upd_same, .nil, Nat.le_refl _⟩ (fun i H' _ h => SqL.of (h.1 _ _ el)) ?_ ?_⟩
  · rintro i y Ga Gb hj ⟨S, us, e, P, zu⟩ ⟨rfl, hy⟩
    obtain ⟨t, ht, rfl⟩ := refs_get hy
    obtain ⟨⟨a, b⟩, hx, et⟩ := hT.get ht
    have et : H4 t = some (.tup [.int a, .int b]) := et
    have tk1 : fr.take (i + 1) = fr.take i ++ [(a, b)] := by rw [List.take_add_one, hx]; rfl
    have ij : i < ts.length := (List.getElem?_eq_some_iff.mp ht).1
    refine ⟨rfl, _, rfl, t, _, 0, _, rfl, rfl, SqT.of (S _ _ et), atI_nat (j := 0) rfl, _, rfl, t, _, 1, _, rfl, rfl, SqT.of (S _ _ et), atI_nat (j := 1) rfl, rfl, _, rfl, ?_⟩
    by_cases h : a = b
    · refine iteF2 (by rw [h]; simp) ⟨S, us, e, ?_, Nat.le_succ_of_le zu⟩
      rw [tk1, List.filter_append, List.filter_cons, if_neg (by simpa using h), List.filter_nil, List.append_nil]
      exact P
    · have hv : V.int a ≠ V.int b := fun z => h (by injection z)
      refine iteT2 (by simp [hv]) ?_
      have T3 : Tups Gb (upd Gb D (.lst (us.map V.ref ++ [.ref t]))) := Tups.upd (Tups.of (Same.refl _)) (not_tupL ⟨_, e⟩)
      refine ⟨_, rfl, _, e, by rw [List.length_map, sizeLine_eq]; omega, Rz.Same.upd S hD, us ++ [t], by rw [upd_same, List.map_append]; rfl, ?_, by rw [List.length_append]; exact Nat.succ_le_succ zu⟩
      rw [tk1, List.filter_append, List.filter_cons, if_pos (by simpa using h)]
      exact (P.keep T3).append (.cons (T3 _ _ (S _ _ et)) .nil)
  rintro H5 ⟨S5, us, eD, P5, zu⟩
  rw [List.length_map, lts, List.take_length] at P5
  have S05 := S04.trans S5
  refine ⟨D, fr.filter fun p : Lk => decide (p.1 ≠ p.2), rfl, ⟨us, eD, P5⟩, Nat.le_trans (List.length_filter_le _ _) (by omega), lkK_good _, lkK_fits, lkK_inj, fun H6 u2 rs S6 hu6 eu2 su2 => ?_⟩
  have eqs2 : rs = fr' := srtK_one lkK_inj su2 sF
  subst eqs2
  have S46 := S5.trans S6
  refine ⟨dTps lkK rs, dTps lkK rs, dtps_at (e4.same S46), dtps_at eu2, dtps_shaped (lkK_good _), dtps_shaped (lkK_good _), _, rfl, ?_⟩
  rw [dtps_eqv lkK_inj]
  refine iteF2 (by rw [decide_eq_true rfl]; rfl) ?_
  have S26 := (S3.trans S4).trans S46
  have S06 := S02.trans S26
  clear S5 S46 eD P5 el hT
  -- the edges' parts
  obtain ⟨te2, ee2, hT2⟩ := e2.same S26
  refine ⟨_, rfl, q, rfl, ⟨_, SqL.of ee2⟩, for_list (K := K) (a := q) (xs := te2.map V.ref) (fun i σ H' => ∃ v8 : Option V, σ = [some (.ref p), some (.int many), some (.ref ll), some (.ref le), some (.ref lf), some (.ref a1), some (.ref q), none, v8] ∧ H' = H6)
    ⟨none, rfl, rfl⟩ (fun i σ H' _ ⟨_, _, e⟩ => by rw [e]; exact SqL.of ee2) ?_ ?_⟩
  · rintro i y σ H' hi ⟨v8, rfl, rfl⟩
    obtain ⟨t, ht, rfl⟩ := refs_get hi
    obtain ⟨⟨a, c, h, b⟩, hx, et⟩ := hT2.get ht
    have et : H' t = some (.tup [.int a, .str ⟨#[c]⟩, .int h, .int b]) := et
    refine ⟨_, rfl, _, _, .type "tuple", .type "tuple", true, rfl, .ty _, .base (.tup et), kit_ty (by decide +kernel), true, rfl, iteF ?_⟩
    refine ⟨_, rfl, t, _, 1, _, rfl, rfl, SqT.of et, atI_nat (j := 1) rfl, _, _, .type "str", .type "str", true, rfl, .ty _, .base (.str _), kit_ty (by decide +kernel), true, rfl, iteF ?_⟩
    refine ⟨_, rfl, t, _, 2, _, rfl, rfl, SqT.of et, atI_nat (j := 2) rfl, _, rfl, true, rfl, iteF ?_⟩
    exact ⟨_, rfl, rfl⟩
  rintro σ H7 ⟨v8, rfl, rfl⟩
  refine ⟨_, rfl, p, dx, _, rfl, S06 _ _ hp, rfl, H0, p, many, ls, qs, rs, cm, m, rfl, MA.same S06, by omega, fun tf2 htf2 v2 hv2 => ?_⟩
  have S8 := Rz.Same.new (o := .lst (tf2.map V.ref)) (Same.refl H7) hv2
  have e8 : upd H7 v2 (.lst (tf2.map V.ref)) v2 = some (.lst (tf2.map V.ref)) := upd_same
  have hT8 := htf2.keep (Tups.of S8)
  have S08 := S06.trans S8
  have ea1 := S8 _ _ (S26 _ _ e1')
  generalize upd H7 v2 (.lst (tf2.map V.ref)) = H8 at S8 e8 hT8 S08 ea1
  refine ⟨v2, rfl, ⟨_, SqL.of e8⟩, for_list (K := K) (a := v2) (xs := tf2.map V.ref) (fun i σ H' => ∃ v7 : Option V, σ = [some (.ref p), some (.int many), some (.ref ll), some (.ref le), some (.ref lf), some (.ref a1), some (.ref q), v7, v8] ∧ H' = H8)
    ⟨none, rfl, rfl⟩ (fun i σ H' _ ⟨_, _, e⟩ => by rw [e]; exact SqL.of e8) ?_ ?_⟩
  · rintro i y σ H' hi ⟨v7, rfl, rfl⟩
    obtain ⟨t, ht, rfl⟩ := refs_get hi
    obtain ⟨⟨a, b⟩, hx, et⟩ := hT8.get ht
    have et : H' t = some (.tup [.int a, .int b]) := et
    refine ⟨_, rfl, _, _, .type "tuple", .type "tuple", true, rfl, .ty _, .base (.tup et), kit_ty (by decide +kernel), true, rfl, iteF ?_⟩
    exact ⟨_, rfl, rfl⟩
  rintro σ H9 ⟨v7, rfl, rfl⟩
  refine ⟨_, rfl, .inl ⟨rfl, _, SqL.of ea1⟩, a1, _, _, rfl, rfl, ea1, by rw [List.length_map, sizeLine_eq]; omega, ?_⟩
  have SX : Same H (upd H9 a1 (.lst (ls.map V.int ++ [.int 0]))) := Rz.Same.upd S08 ha1
  refine ⟨_, rfl, p, dx, _, rfl, SX _ _ hp, H0, p, many, ls, qs, rs, cm, m, rfl, MA.same SX, fun HA a2 SA ha2 eA => ?_⟩
  refine ⟨_, rfl, dInts ls, dInts ls, dp_ints (SqL.of eA), dp_ints (SqL.of (SA _ _ (SX _ _ hl))), ints_shaped _, ints_shaped _, ?_⟩
  rw [ints_eqv, decide_eq_true rfl]
  exact k HA (SX.trans SA)
end
end Rz

namespace Rz
open PySem PySem.Spec PyProof.Rows L2
def spLaw (K : PySem.W.Frag) : Sp := fun vs H Q _ => ∃ (a : Addr) (ns : List Int), vs = [.ref a] ∧ SqL K H a (ns.map V.int) ∧ ns.length ≤ 63 ∧ ∀ H', Q (.bl true) H'
theorem cut_ints (ls : List Int) (lo hi : Option Int) : ∃ cl : List Int, cutV (ls.map V.int) lo hi = cl.map V.int ∧ (∀ x ∈ cl, x ∈ ls) ∧ cl.length ≤ ls.length := by
  refine ⟨(ls.drop (HT.sIx ls.length 0 lo)).take (HT.sIx ls.length ls.length hi - HT.sIx ls.length 0 lo), ?_, fun x hx => List.mem_of_mem_drop (List.mem_of_mem_take hx), ?_⟩
  · unfold cutV
    rw [List.length_map, List.map_take, List.map_drop]
  · rw [List.length_take, List.length_drop]
    omega
theorem cut_tps {α : Type} {F : α → List Key} {H : Hp} {ts : List Addr} {xs : List α} (P : TpL F H ts xs) (lo hi : Option Int) : ∃ (ct : List Addr) (cx : List α), cutV (ts.map V.ref) lo hi = ct.map V.ref ∧ TpL F H ct cx ∧ (∀ x ∈ cx, x ∈ xs) ∧ cx.length ≤ xs.length := by
  refine ⟨(ts.drop (HT.sIx ts.length 0 lo)).take (HT.sIx ts.length ts.length hi - HT.sIx ts.length 0 lo), (xs.drop (HT.sIx ts.length 0 lo)).take (HT.sIx ts.length ts.length hi - HT.sIx ts.length 0 lo), ?_, (P.dropT _).takeT _, fun x hx => List.mem_of_mem_drop (List.mem_of_mem_take hx), ?_⟩
  · unfold cutV
    rw [List.length_map, List.map_take, List.map_drop]
  · rw [List.length_take, List.length_drop]
    omega
/-! what was passed, as data -/
def dPs (ls : List Int) (es : List Ed) (fr : List Lk) : PyData := .tuple [dInts ls, dTps edK es, dTps lkK fr]
theorem dps_at {K : PySem.W.Frag} {H : Hp} {t a b c : Addr} {ls : List Int} {es : List Ed} {fr : List Lk} (e : H t = some (.tup [.ref a, .ref b, .ref c])) (h1 : H a = some (.lst (ls.map V.int))) (h2 : TpAt edK H b es) (h3 : TpAt lkK H c fr) : Dp K H (.ref t) (dPs ls es fr) :=
  .tup (SqT.of e) (.cons (dp_ints (SqL.of h1)) (.cons (dtps_at h2) (.cons (dtps_at h3) .nil)))
theorem dints_lay (ls : List Int) : PyData.canLay0 (dInts ls) = true := by
  have h := ints_shaped ls
  have h2 : (PyData.canLayAll0 (ls.map PyData.int) && decide (PyData.depth (dInts ls) ≤ 64)) = true := h
  exact (Bool.and_eq_true _ _ ▸ h2).1
theorem dints_depth (ls : List Int) : PyData.depth (dInts ls) ≤ 1 := by
  have : PyData.depthAll (ls.map PyData.int) = 0 := by
    induction ls with
    | nil => simp [PyData.depthAll]
    | cons x xs ih =>
      rw [List.map_cons, PyData.depthAll, ih]
      simp [PyData.depth]
  show PyData.depthAll (ls.map PyData.int) + 1 ≤ 1
  omega
theorem dps_shaped {ls : List Int} {es : List Ed} {fr : List Lk} (g : GoodF edK es) : SeqAt.shaped (dPs ls es fr) = true := by
  have a1 := dints_lay ls
  have a2 : PyData.canLay0 (dTps edK es) = true := dtps_lay g
  have a3 : PyData.canLay0 (dTps lkK fr) = true := dtps_lay (lkK_good fr)
  have d1 := dints_depth ls
  have d2 := dtps_depth (F := edK) es
  have d3 := dtps_depth (F := lkK) fr
  have dd : PyData.depth (dPs ls es fr) ≤ 64 := by
    show PyData.depthAll [dInts ls, dTps edK es, dTps lkK fr] + 1 ≤ 64
    simp only [PyData.depthAll]
    omega
  show (PyData.canLayAll0 [dInts ls, dTps edK es, dTps lkK fr] && decide (PyData.depth (dPs ls es fr) ≤ 64)) = true
  rw [decide_eq_true dd]
  simp only [PyData.canLayAll0, a1, a2, a3, Bool.and_self]
theorem dps_eqv (ls : List Int) (es : List Ed) (fr : List Lk) : PyData.eqv (dPs ls es fr) (dPs ls es fr) = true := by
  show PyData.eqvAll _ _ = true
  simp only [PyData.eqvAll, ints_eqv, dtps_eqv edK_inj, dtps_eqv lkK_inj, decide_true, Bool.and_self]
/-! the machine's edges and the law's -/
theorem rowS_congr {es es' : List Ed} {fr fr' : List Lk} (he : ∀ e, e ∈ es ↔ e ∈ es') (hf : ∀ x y, x ≠ y → ((x, y) ∈ fr ↔ (x, y) ∈ fr')) : ∀ {ps : List Pr} {S S' : Sts}, (∀ t, S t ↔ S' t) → ∀ t, rowS es fr S ps t ↔ rowS es' fr' S' ps t
  | [], _, _, h, t => h t
  | p :: ps, S, S', h, t => by
    refine rowS_congr he hf (ps := ps) (S := stepS es fr S p.1 p.2) (S' := stepS es' fr' S' p.1 p.2) (fun u => ?_) t
    constructor
    · rintro ⟨e, h1, h2, h3, h4, r⟩
      exact ⟨e, (he e).mp h1, (h _).mp h2, h3, h4, reach_congr hf r⟩
    · rintro ⟨e, h1, h2, h3, h4, r⟩
      exact ⟨e, (he e).mpr h1, (h _).mpr h2, h3, h4, reach_congr (fun x y n => (hf x y n).symm) r⟩
theorem textS_congr {es es' : List Ed} {fr fr' : List Lk} (he : ∀ e, e ∈ es ↔ e ∈ es') (hf : ∀ x y, x ≠ y → ((x, y) ∈ fr ↔ (x, y) ∈ fr')) : ∀ {cs : List Nat} {S S' : Sts}, (∀ t, S t ↔ S' t) → ∀ t, textS es fr S cs t ↔ textS es' fr' S' cs t
  | [], _, _, h, t => h t
  | c :: cs, S, S', h, t => by
    refine textS_congr he hf (cs := cs) (S := stepT es fr S c) (S' := stepT es' fr' S' c) (fun u => ?_) t
    constructor
    · rintro ⟨e, h1, h2, h3, r⟩
      exact ⟨e, (he e).mp h1, (h _).mp h2, h3, reach_congr hf r⟩
    · rintro ⟨e, h1, h2, h3, r⟩
      exact ⟨e, (he e).mpr h1, (h _).mpr h2, h3, reach_congr (fun x y n => (hf x y n).symm) r⟩
theorem textS_off {es : List Ed} {fr : List Lk} : ∀ {cs : List Nat} {S : Sts}, (∀ t, ¬ S t) → ∀ t, ¬ textS es fr S cs t
  | [], _, h, t => h t
  | c :: cs, _, h, t => textS_off (cs := cs) (fun u ⟨e, _, h2, _⟩ => h _ h2) t
theorem textS_odd {es : List Ed} {fr : List Lk} {c : Nat} {cs : List Nat} {S : Sts} (h : ∀ e ∈ es, e.2.1 ≠ c) (t : Int) : ¬ textS es fr S (c :: cs) t := textS_off (cs := cs) (fun u ⟨e, h1, _, h3, _⟩ => h e h1 h3) t
theorem srtI_mem {a b qs : List Int} (h : ∀ m, m ∈ a ↔ m ∈ b) (s : SrtI a qs) : SrtI b qs := ⟨s.1, fun m => (s.2 m).trans (h m)⟩
theorem srtK_mem {α : Type} {F : α → List Key} {a b qs : List α} (h : ∀ m, m ∈ a ↔ m ∈ b) (s : SrtK F a qs) : SrtK F b qs := ⟨s.1, s.2.1, fun m => (s.2.2 m).trans (h m)⟩
theorem srt_same {xs ys : List Int} (h1 : xs.Pairwise (· < ·)) (h2 : ys.Pairwise (· < ·)) (h : ∀ x, x ∈ xs ↔ x ∈ ys) : xs = ys := srtI_one (ns := ys) ⟨h1, h⟩ ⟨h2, fun _ => Iff.rfl⟩
theorem bl_same {a b : Bool} (h : a = true ↔ b = true) : a = b := Bool.eq_iff_iff.mpr h
end Rz

namespace Rz
open PySem PySem.Spec PyProof.Rows L2
theorem abc_lt : ∀ c ∈ abc.cps.toList, c < 128 := by decide +kernel
/-- heights that go up -/
def upE (e : Ed) : Ed := (e.1, e.2.1, e.2.2.1 + 7, e.2.2.2)
theorem rowS_in {es : List Ed} {fr : List Lk} {B : Int} (he : ∀ e ∈ es, 0 ≤ e.2.2.2 ∧ e.2.2.2 < B) (hf : ∀ p ∈ fr, 0 ≤ p.2 ∧ p.2 < B) : ∀ {ps : List Pr} {S : Sts}, (∀ t, S t → 0 ≤ t ∧ t < B) → ∀ t, rowS es fr S ps t → 0 ≤ t ∧ t < B
  | [], _, h, t, z => h t z
  | p :: ps, S, _, t, z => rowS_in he hf (ps := ps) (S := stepS es fr S p.1 p.2) (fun u ⟨e, h1, _, _, _, r⟩ => ⟨reach_pos (fun q hq => (hf q hq).1) (he e h1).1 r, reach_lt (fun q hq => (hf q hq).2) (he e h1).2 r⟩) t z
theorem textS_in {es : List Ed} {fr : List Lk} {B : Int} (he : ∀ e ∈ es, 0 ≤ e.2.2.2 ∧ e.2.2.2 < B) (hf : ∀ p ∈ fr, 0 ≤ p.2 ∧ p.2 < B) : ∀ {cs : List Nat} {S : Sts}, (∀ t, S t → 0 ≤ t ∧ t < B) → ∀ t, textS es fr S cs t → 0 ≤ t ∧ t < B
  | [], _, h, t, z => h t z
  | c :: cs, S, _, t, z => textS_in he hf (cs := cs) (S := stepT es fr S c) (fun u ⟨e, h1, _, _, r⟩ => ⟨reach_pos (fun q hq => (hf q hq).1) (he e h1).1 r, reach_lt (fun q hq => (hf q hq).2) (he e h1).2 r⟩) t z
theorem bl_get {bs : List Bool} {i : Nat} (h : i < bs.length) : (bs.map V.bl)[i]? = some (.bl bs[i]) := by
  rw [List.getElem?_map, List.getElem?_eq_getElem h]
  rfl
theorem ex_swap {ls fs : List Int} {P : Int → Prop} (h : ∀ t, P t ↔ t ∈ fs) : (∃ t ∈ ls, P t) ↔ ∃ x ∈ fs, x ∈ ls := ⟨fun ⟨t, a, b⟩ => ⟨t, (h t).mp b, a⟩, fun ⟨t, a, b⟩ => ⟨t, b, (h t).mpr a⟩⟩
theorem mac_made {cM : Addr} {H : Hp} {Q : VK} {E : XK} {n : Int} {l e f : Addr} {ls : List Int} {es : List Ed} {fr : List Lk} (hl : H l = some (.lst (ls.map V.int))) (he : TpAt edK H e es) (hf : TpAt lkK H f fr) (zz : ls.length < 63 ∧ es.length < 63 ∧ fr.length < 63)
    (b1 : ∀ x ∈ ls, 0 ≤ x ∧ x < 100000) (b2 : ∀ e ∈ es, (0 ≤ e.1 ∧ e.1 < 100000) ∧ 0 ≤ e.2.2.2 ∧ e.2.2.2 < 100000) (b3 : ∀ p ∈ fr, (0 ≤ p.1 ∧ p.1 < 100000) ∧ 0 ≤ p.2 ∧ p.2 < 100000)
    (k : ∀ (H' H0 : Hp) (p : Addr) ls' es' fr' cm m, SrtI ls ls' → SrtK edK es es' → SrtK lkK (fr.filter fun p : Lk => decide (p.1 ≠ p.2)) fr' → GoodMac ls' es' fr' cm m → Same H H' → (∀ b, (H0 b = none ∨ b = p) → H b = none) → MacAt cM H0 H' p n ls' es' fr' cm m → Q (.ref p) H') :
    MkR cM (sp_M_init cM) [] E [.int n, .ref l, .ref e, .ref f] H Q := by
  rw [mkR_eq]
  intro x dx hx hdx ndx
  have S0 : Same H (upd (upd H dx (.own x)) x (.ins cM dx [])) := fun b o e => by
    rw [upd_ne (ne_of_none e hx), upd_ne (ne_of_none e hdx)]
    exact e
  refine ⟨x, dx, l, e, f, n, ls, es, fr, rfl, upd_same, S0 _ _ hl, he.same S0, hf.same S0, zz, b1, b2, b3, fun H' ls' es' fr' cm m s1 s2 s3 g B M => ⟨rfl, ?_⟩⟩
  refine k H' _ x ls' es' fr' cm m s1 s2 s3 g (fun b o e => ?_) (fun b hb => ?_) M
  · exact B b o (by have := ne_of_none e hx; simpa using this) (S0 b o e)
  · rcases hb with h | h
    · cases q : H b with
      | none => rfl
      | some o =>
        rw [S0 b o q] at h
        cases h
    · rw [h]
      exact hx
section
variable {w : World} {K : PySem.W.Frag} {mg : Str → Option Value} {base : Heap}
theorem sc_law : FnScope N_law P_law (defScope s_law) := ⟨rfl, rfl, rfl, by decide +kernel, rfl, by decide +kernel, by decide +kernel⟩
theorem ok_law (T : Txt K mg) : FnOk prg w K mg base (L2.CX prg w) 12 T.f_law T.fd_law P_law (spLaw K) := by
  refine Rz.Fun.okN T.F_law sc_law (fun vs H Q E h => ?_) (fun cdv A outer s H vs Q E hr h => ?_)
  · obtain ⟨a, ns, rfl, _⟩ := h
    rfl
  obtain ⟨a, ns, rfl, hS, hlen, k⟩ := h
  have nd := sc_law.nd
  have mk : Mk K T.c_Machine T.f_Machine_init := ⟨T.mk_Machine, T.M_Machine_init.at_, T.M_Machine_init.fn, T.kp_Machine⟩
  refine ⟨_, (pss_cons (ps_set (i := 1) nd rfl (Or.inl rfl) (pe_fn (ok_law_pool T) (hr.mono (by decide)) (by rfl) T.m__law_pool T.F__law_pool.kp T.b__law_pool .nil (fun _ => atN _) (pa_cons (pv 0) pa_nil)))
    (pss_cons (ps_set (i := 2) nd rfl (Or.inl rfl) (pe_fn (ok_law_alphabet T) (hr.mono (by decide)) (by rfl) T.m__law_alphabet T.F__law_alphabet.kp T.b__law_alphabet .nil (fun _ => atN _) (pa_cons (pv 1) (pa_cons pe_int pa_nil))))
    (pss_cons (ps_asg (pe_fn (ok_law_machine_of T) (hr.mono (by decide)) (by rfl) T.m__law_machine_of T.F__law_machine_of.kp T.b__law_machine_of .nil (fun _ => atN _) (pa_cons (pv 1) (pa_cons (pv 2) pa_nil))) (pg_tup rfl (pgs_cons (pg_name (i := 3) nd rfl (Or.inl rfl)) (pgs_cons (pg_name (i := 4) nd rfl (Or.inl rfl)) (pgs_cons (pg_name (i := 5) nd rfl (Or.inl rfl)) (pgs_cons (pg_name (i := 6) nd rfl (Or.inl rfl)) pgs_nil))))))
    (C8.pss_cut (ps_if (pt_cmpR op_eq (pe_fn (ok_law_pick T) (hr.mono (by decide)) (by rfl) T.m__law_pick T.F__law_pick.kp T.b__law_pick .nil (fun _ => atN _) (pa_cons (pv 1) (pa_cons pe_int pa_nil))) pe_int (nomark _)) (pss_one (ps_setLc (i := 5) (own := [("_law_edge", 7)]) (g := (gName 7)) (tt := tYes) rfl nd rfl rfl (sw_true rfl rfl rfl (by decide +kernel)) (pi_list (pv 5)) (blkOk_by (N := N_law) (sc := defScope s_law) (by decide +kernel)) (fun _ _ _ _ _ => (pg_name (i := 7) nd rfl (Or.inl rfl))) (fun _ _ _ _ _ => pts_nil) (fun _ _ _ _ _ => (pe_tup (pa_cons (pe_ix (show IxR _ (rIxT K) from ix_tup) (pv 7) pe_int (fun _ _ => rfl)) (pa_cons (pe_ix (show IxR _ (rIxT K) from ix_tup) (pv 7) pe_int (fun _ _ => rfl)) (pa_cons (pe_op op_add (pe_ix (show IxR _ (rIxT K) from ix_tup) (pv 7) pe_int (fun _ _ => rfl)) pe_int) (pa_cons (pe_ix (show IxR _ (rIxT K) from ix_tup) (pv 7) pe_int (fun _ _ => rfl)) pa_nil)))))))) pss_nil)
    (pss_cons (ps_set (i := 8) nd rfl (Or.inl rfl) (pe_fn (ok_law_pick T) (hr.mono (by decide)) (by rfl) T.m__law_pick T.F__law_pick.kp T.b__law_pick .nil (fun _ => atN _) (pa_cons (pv 1) (pa_cons (pv 3) pa_nil))))
    (pss_cons (ps_set (i := 5) nd rfl (Or.inl rfl) (pe_op op_cat (pv 5) (pe_slice (show SlR _ (rSlL K) from sl_list) (pv 5) (po_some pe_int) (po_some pe_int))))
    (pss_cons (ps_set (i := 9) nd rfl (Or.inl rfl) (pe_tup (pa_cons (pe_op op_cat (pv 4) (pe_slice (show SlR _ (rSlL K) from sl_list) (pv 4) po_none (po_some pe_int))) (pa_cons (pe_callTy call_listS (by rfl) T.n_list (by decide +kernel) (pa_cons (pv 5) pa_nil)) (pa_cons (pe_op op_cat (pv 6) (pe_slice (show SlR _ (rSlL K) from sl_list) (pv 6) po_none (po_some pe_int))) pa_nil)))))
    (pss_cons (ps_set (i := 10) nd rfl (Or.inl rfl) (pe_mkR mk (ok_Machine_init T) (hr.mono (by decide)) (by rfl) T.m_Machine T.b_Machine_init .nil (fun _ => atN _) (pa_cons (pv 3) (pa_cons (pe_ix (show IxR _ (rIxT K) from ix_tup) (pv 9) pe_int (fun _ _ => rfl)) (pa_cons (pe_ix (show IxR _ (rIxT K) from ix_tup) (pv 9) pe_int (fun _ _ => rfl)) (pa_cons (pe_ix (show IxR _ (rIxT K) from ix_tup) (pv 9) pe_int (fun _ _ => rfl)) pa_nil))))))
    (pss_cons (ps_if (pt_cmpR (op_neD hr.units) (pv 9) (pe_tup (pa_cons (pe_op op_cat (pv 4) (pe_slice (show SlR _ (rSlL K) from sl_list) (pv 4) po_none (po_some pe_int))) (pa_cons (pv 5) (pa_cons (pe_op op_cat (pv 6) (pe_slice (show SlR _ (rSlL K) from sl_list) (pv 6) po_none (po_some pe_int))) pa_nil)))) (nomark _)) (pss_one (ps_ret pe_bl)) pss_nil)
    (pss_cons (ps_expr (pe_bm PySem.F.plainAttrs_list PySem.F.slot_list_append PySem.F.type_list_append mt_append (pe_ix (show IxR _ (rIxT K) from ix_tup) (pv 9) pe_int (fun _ _ => rfl)) (pa_cons pe_int pa_nil)))
    (pss_cons (ps_expr (pe_bm PySem.F.plainAttrs_list PySem.F.slot_list_append PySem.F.type_list_append mt_append (pe_ix (show IxR _ (rIxT K) from ix_tup) (pv 9) pe_int (fun _ _ => rfl)) (pa_cons (pe_tup (pa_cons pe_int (pa_cons pe_str (pa_cons pe_int (pa_cons pe_int pa_nil))))) pa_nil)))
    (pss_cons (ps_expr (pe_bm PySem.F.plainAttrs_list PySem.F.slot_list_append PySem.F.type_list_append mt_append (pe_ix (show IxR _ (rIxT K) from ix_tup) (pv 9) pe_int (fun _ _ => rfl)) (pa_cons (pe_tup (pa_cons pe_int (pa_cons (pe_op op_sub (pv 3) pe_int) pa_nil))) pa_nil)))
    (pss_cons (ps_if (pt_not (pt_val (pe_fn (ok_law_fine T) (hr.mono (by decide)) (by rfl) T.m__law_fine T.F__law_fine.kp T.b__law_fine .nil (fun _ => atN _) (pa_cons (pv 10) (pa_cons (pv 3) (pa_cons (pv 4) (pa_cons (pv 5) (pa_cons (pv 6) pa_nil)))))))) (pss_one (ps_ret pe_bl)) pss_nil)
    (pss_cons (ps_set (i := 11) nd rfl (Or.inl rfl) (pe_fn (ok_law_graph_of T) (hr.mono (by decide)) (by rfl) T.m__law_graph_of T.F__law_graph_of.kp T.b__law_graph_of .nil (fun _ => atN _) (pa_cons (pv 3) (pa_cons (pv 5) (pa_cons (pv 6) pa_nil)))))
    (pss_cons (ps_set (i := 12) nd rfl (Or.inl rfl) (pe_fn (ok_law_walk_on T) (hr.mono (by decide)) (by rfl) T.m__law_walk_on T.F__law_walk_on.kp T.b__law_walk_on .nil (fun _ => atN _) (pa_cons (pv 1) (pa_cons (pv 5) (pa_cons (pv 8) (pa_cons (pv 2) pa_nil))))))
    (pss_cons (ps_set (i := 13) nd rfl (Or.inl rfl) (pe_fn (ok_law_as_row T) (hr.mono (by decide)) (by rfl) T.m__law_as_row T.F__law_as_row.kp T.b__law_as_row .nil (fun _ => atN _) (pa_cons (pv 12) pa_nil)))
    (pss_cons (ps_set (i := 14) nd rfl (Or.inl rfl) (pe_mt (pv 10) T.cl_Machine T.M_Machine_ends (ok_Machine_ends T) (hr.mono (by decide)) T.b_Machine_ends .nil (fun _ => atN _) (pa_cons (pv 8) (pa_cons (pv 13) pa_nil))))
    (pss_cons (ps_if (PW.pt (pw_or (pt_not (pt_val (pe_callB call_isi (by rfl) T.n_isinstance (by decide +kernel) (pa_cons (pv 14) (pa_cons (pe_bltn (v := .ty "list") (by rfl) T.n_list (by decide +kernel) rfl) pa_nil))))) (pw_or1 (pt_cmpR (op_neD hr.units) (pv 14) (pe_fn (ok_law_read T) (hr.mono (by decide)) (by rfl) T.m__law_read T.F__law_read.kp T.b__law_read .nil (fun _ => atN _) (pa_cons (pv 11) (pa_cons (pe_lst (pa_cons (pv 8) pa_nil)) (pa_cons (pv 12) pa_nil)))) (nomark _))))) (pss_one (ps_ret pe_bl)) pss_nil)
    (pss_cons (ps_set (i := 15) nd rfl (Or.inl rfl) (pe_lst (pa_cons (pe_cmpR (op_inO T.M_Machine_contains (ok_Machine_contains T) (hr.mono (by decide)) T.b_Machine_contains) (pv 13) (pv 10) rfl) (pa_cons (pe_cmpR (op_inO T.M_Machine_contains (ok_Machine_containsT T) (hr.mono (by decide)) T.b_Machine_contains) (pe_pr (pv 13) T.cl_Row T.M_Row_signs (ok_Row_signs T) (hr.mono (by decide)) T.b_Row_signs passN) (pv 10) rfl) (pa_cons (pe_cmpR (op_inO T.M_Machine_contains (ok_Machine_containsT T) (hr.mono (by decide)) T.b_Machine_contains) pe_str (pv 10) rfl) (pa_cons (pe_cmpR (op_inO T.M_Machine_contains (ok_Machine_containsT T) (hr.mono (by decide)) T.b_Machine_contains) (pe_op op_add_str (pe_fn (ok_law_odd_sign T) (hr.mono (by decide)) (by rfl) T.m__law_odd_sign T.F__law_odd_sign.kp T.b__law_odd_sign .nil (fun _ => atN _) (pa_cons (pv 1) pa_nil)) pe_str) (pv 10) rfl) pa_nil))))))
    (pss_cons (ps_set (i := 16) nd rfl (Or.inl rfl) (pe_lst (pa_cons (pe_fn (ok_law_meets T) (hr.mono (by decide)) (by rfl) T.m__law_meets T.F__law_meets.kp T.b__law_meets .nil (fun _ => atN _) (pa_cons (pe_fn (ok_law_read T) (hr.mono (by decide)) (by rfl) T.m__law_read T.F__law_read.kp T.b__law_read .nil (fun _ => atN _) (pa_cons (pv 11) (pa_cons (pe_lst (pa_cons pe_int pa_nil)) (pa_cons (pv 12) pa_nil)))) (pa_cons (pv 4) pa_nil))) (pa_cons (pe_fn (ok_law_meets T) (hr.mono (by decide)) (by rfl) T.m__law_meets T.F__law_meets.kp T.b__law_meets .nil (fun _ => atN _) (pa_cons (pe_fn (ok_law_spelling T) (hr.mono (by decide)) (by rfl) T.m__law_spelling T.F__law_spelling.kp T.b__law_spelling .nil (fun _ => atN _) (pa_cons (pv 11) (pa_cons (pe_pr (pv 13) T.cl_Row T.M_Row_signs (ok_Row_signs T) (hr.mono (by decide)) T.b_Row_signs passN) pa_nil))) (pa_cons (pv 4) pa_nil))) pa_nil))))
    (pss_cons (ps_set (i := 16) nd rfl (Or.inl rfl) (pe_op op_cat (pv 16) (pe_lst (pa_cons (pe_fn (ok_law_meets T) (hr.mono (by decide)) (by rfl) T.m__law_meets T.F__law_meets.kp T.b__law_meets .nil (fun _ => atN _) (pa_cons (pe_fn (ok_law_join T) (hr.mono (by decide)) (by rfl) T.m__law_join T.F__law_join.kp T.b__law_join .nil (fun _ => atN _) (pa_cons (pe_ix (show IxR _ (rIxT K) from ix_tup) (pv 11) pe_int (fun _ _ => rfl)) (pa_cons (pe_lst (pa_cons pe_int pa_nil)) pa_nil))) (pa_cons (pv 4) pa_nil))) (pa_cons pe_bl pa_nil)))))
    (pss_cons (ps_for PassesOwn.never rfl (pi_range1 rfl T.n_range (pa_cons pe_int pa_nil)) (pg_name (i := 17) nd rfl (Or.inl rfl))
      (pss_one (ps_if (PW.pt (pw_or (pt_not (pt_val (pe_callB call_isi (by rfl) T.n_isinstance (by decide +kernel) (pa_cons (pe_ix (show IxR _ (rIxL K) from ix_list) (pv 15) (pv 17) (fun _ _ => rfl)) (pa_cons (pe_bltn (v := .ty "bool") (by rfl) T.n_bool (by decide +kernel) rfl) pa_nil))))) (pw_or1 (pt_cmpR op_ne (pe_ix (show IxR _ (rIxL K) from ix_list) (pv 15) (pv 17) (fun _ _ => rfl)) (pe_ix (show IxR _ (rIxL K) from ix_list) (pv 16) (pv 17) (fun _ _ => rfl)) (nomark _))))) (pss_one (ps_ret pe_bl)) pss_nil)))
    (pss_one (ps_ret (pe_fn (ok_law_fine T) (hr.mono (by decide)) (by rfl) T.m__law_fine T.F__law_fine.kp T.b__law_fine .nil (fun _ => atN _) (pa_cons (pv 10) (pa_cons (pv 3) (pa_cons (pv 4) (pa_cons (pv 5) (pa_cons (pv 6) pa_nil)))))))))))))))))))))))))))))), ?_⟩
  have ndt : ∀ {G : Hp} {d : Addr}, Dr G d → ∀ xs, G d ≠ some (.tup xs) := fun D xs z => by
    obtain ⟨ns, e, _⟩ := D
    rw [e] at z
    cases z
  have apart : ∀ {G : Hp} {x d : Addr}, Dr G d → G x = none → x ≠ d := fun D hx q => by
    obtain ⟨ns, e, _⟩ := D
    rw [q, e] at hx
    cases hx
  refine ⟨_, rfl, a, ns, rfl, hS, hlen, fun H1 d S1 hd D1 => ?_⟩
  refine ⟨_, rfl, d, 2, rfl, by decide, by decide, D1, fun H2 z hz2 ho hnd D2 B2 => ?_⟩
  have hz : z.length = 2 := by omega
  refine ⟨_, rfl, _, rfl, d, z, rfl, D2, hz, fun H3 g ll le lf many ls es fr hM OK hg0 hll0 hle0 hlf0 D3 B3 => ?_⟩
  obtain ⟨eg, el3, hE3, hF3⟩ := hM
  have nll : ll ≠ d := apart D2 hll0
  have nle : le ≠ d := apart D2 hle0
  have nlf : lf ≠ d := apart D2 hlf0
  obtain ⟨m1, m4, lsp, lsb, esb, frb, zes, zfr⟩ := OK
  have zls : ls.length ≤ 4 := Nat.le_trans (few_belowN many ls (lt_nodup lsp) lsb) m4
  have zsg : ∀ c ∈ z.cps.toList, c < 128 := fun c hc => abc_lt c (ho c hc)
  refine ⟨g, _, rfl, SqT.of eg, rfl, _, _, rfl, _, _, rfl, _, _, rfl, _, _, rfl, rfl, ?_⟩
  refine ⟨fun σ H' => ∃ (le1 : Addr) (es1 : List Ed), σ = [some (.ref a), some (.ref d), some (.str z), some (.int (many : Nat)), some (.ref ll), some (.ref le1), some (.ref lf), none, none, none, none, none, none, none, none, none, none, none] ∧ But [d] H3 H' ∧ Dr H' d ∧ TpAt edK H' le1 es1 ∧ (∀ e ∈ es1, EdOk many z 9 e) ∧ es1.length ≤ 9 ∧ le1 ≠ d, ?_, ?_⟩
  · refine ⟨_, rfl, d, 4, rfl, by decide, D3, fun H4 r r0 r4 D4 B4 => ⟨rfl, _, rfl, ite2 (fun _ => ?_) (fun _ => ?_)⟩⟩
    · obtain ⟨te, ee, hT⟩ := hE3.but B4 (by simpa using nle) (tups1 B4 (ndt D3))
      have lte := hT.len
      refine ⟨_, rfl, le, rfl, ⟨_, SqL.of ee⟩, fun D hDn => lc_it walk_list (fun i H' => Same H4 H' ∧ ∃ us : List Addr, H' D = some (.lst (us.map V.ref)) ∧ TpL edK H' us ((es.take i).map upE) ∧ us.length ≤ i) ⟨Rz.Same.new (Same.refl _) hDn, [], upd_same, .nil, Nat.le_refl _⟩ (fun i H' _ h => SqL.of (h.1 _ _ ee)) ?_ ?_⟩
      · rintro i y Ga Gb hj ⟨S, us, e, P, zu⟩ ⟨rfl, hy⟩
        obtain ⟨t, ht, rfl⟩ := refs_get hy
        obtain ⟨⟨ea, ec, eh, eb⟩, hx, et⟩ := hT.get ht
        have et : H4 t = some (.tup [.int ea, .str ⟨#[ec]⟩, .int eh, .int eb]) := et
        have ij : i < te.length := (List.getElem?_eq_some_iff.mp ht).1
        have tk1 : es.take (i + 1) = es.take i ++ [(ea, ec, eh, eb)] := by rw [List.take_add_one, hx]; rfl
        refine ⟨rfl, yesT ⟨_, rfl, t, _, 0, _, rfl, rfl, SqT.of (S _ _ et), atI_nat (j := 0) rfl, _, rfl, t, _, 1, _, rfl, rfl, SqT.of (S _ _ et), atI_nat (j := 1) rfl, _, rfl, t, _, 2, _, rfl, rfl, SqT.of (S _ _ et), atI_nat (j := 2) rfl, _, _, rfl, rfl, _, rfl, t, _, 3, _, rfl, rfl, SqT.of (S _ _ et), atI_nat (j := 3) rfl, by show 4 ≤ sizeLine; decide, fun u hu => ?_⟩⟩
        have Su := Rz.Same.new (o := .tup [.int ea, .str ⟨#[ec]⟩, .int (eh + 7), .int eb]) (Same.refl Gb) hu
        have psh := tp_push (F := edK) (x := upE (ea, ec, eh, eb)) e P hu
        obtain ⟨us2, q1, q2⟩ := psh
        refine ⟨_, Su _ _ e, by rw [List.length_map, sizeLine_eq]; omega, Rz.Same.upd (S.trans Su) hDn, us ++ [u], by rw [upd_same, List.map_append]; rfl, ?_, by rw [List.length_append]; exact Nat.succ_le_succ zu⟩
        rw [tk1, List.map_append]
        have Su2 := Rz.Same.new (o := .tup ((edK (upE (ea, ec, eh, eb))).map kV)) (Same.refl Gb) hu
        have T : Tups Gb (upd (upd Gb u (.tup ((edK (upE (ea, ec, eh, eb))).map kV))) D (.lst (us.map V.ref ++ [.ref u]))) := Tups.upd (Tups.of Su2) (fun xs z => by
          rw [Su2 _ _ e] at z
          cases z)
        have nuD : u ≠ D := fun q => by rw [q, e] at hu; cases hu
        exact (P.keep T).append (.cons (by rw [upd_ne nuD, upd_same]) .nil)
      · rintro H5 ⟨S5, us, e5, P5, zu⟩
        rw [List.length_map, lte, List.take_length] at P5
        have hDd := apart D4 hDn
        refine ⟨_, _, rfl, B4.trans (But.of S5), D4.same S5, ⟨us, e5, P5⟩, fun e he => ?_, by rw [List.length_map]; exact zes, hDd⟩
        obtain ⟨x, hx, rfl⟩ := List.mem_map.mp he
        obtain ⟨h1, h2, h3, h4, h5⟩ := esb x hx
        exact ⟨h1, h2, h3, by show 0 ≤ x.2.2.1 + 7; omega, by show x.2.2.1 + 7 ≤ 9; omega⟩
    · exact ⟨le, es, rfl, B4, D4, hE3.but B4 (by simpa using nle) (tups1 B4 (ndt D3)), fun e he => (let ⟨h1, h2, h3, h4, h5⟩ := esb e he; ⟨h1, h2, h3, h4, by omega⟩), zes, nle⟩
  rintro σ H5 ⟨le1, es1, rfl, B5, D5, E5, esb1, zes1, nle1⟩
  refine ⟨_, rfl, _, rfl, d, _, rfl, by omega, D5, fun H6 st s0 s1 D6 B6 => ?_⟩
  obtain ⟨te, ee, hT⟩ := E5.but B6 (by simpa using nle1) (tups1 B6 (ndt D5))
  have l6 : H6 ll = some (.lst (ls.map V.int)) := B6.at (B5.at el3 (by simpa using nll)) (by simpa using nll)
  have F6 : TpAt lkK H6 lf fr := (hF3.but B5 (by simpa using nlf) (tups1 B5 (ndt D3))).but B6 (by simpa using nlf) (tups1 B6 (ndt D5))
  have lte := hT.len
  obtain ⟨ct, cx, ecut, hC, subC, lenC⟩ := cut_tps hT (some 1) (some 3)
  refine ⟨_, rfl, _, rfl, 1, rfl, 3, rfl, le1, _, rfl, SqL.of ee, fun p1 hp1 => ?_⟩
  rw [ecut]
  have S7 := Rz.Same.new (o := .lst (ct.map V.ref)) (Same.refl H6) hp1
  have ep1 : upd H6 p1 (.lst (ct.map V.ref)) p1 = some (.lst (ct.map V.ref)) := upd_same
  generalize upd H6 p1 (.lst (ct.map V.ref)) = H7 at S7 ep1 ⊢
  have lct := hC.len
  refine ⟨le1, p1, _, _, rfl, rfl, S7 _ _ ee, ep1, by rw [List.length_map, List.length_map, sizeLine_eq]; omega, fun le2 hle2 => ?_⟩
  have S8a := Rz.Same.new (o := .lst (te.map V.ref ++ ct.map V.ref)) (Same.refl H7) hle2
  have S8 := S7.trans S8a
  have E8 : TpAt edK (upd H7 le2 (.lst (te.map V.ref ++ ct.map V.ref))) le2 (es1 ++ cx) := ⟨te ++ ct, by rw [upd_same, List.map_append], (hT.append hC).keep (Tups.of S8)⟩
  generalize upd H7 le2 (.lst (te.map V.ref ++ ct.map V.ref)) = H8 at S8 E8 ⊢
  have esb2 : ∀ e ∈ es1 ++ cx, EdOk many z 9 e := fun e he => (List.mem_append.mp he).elim (esb1 e) fun h => esb1 e (subC e h)
  have zes2 : (es1 ++ cx).length ≤ 18 := by rw [List.length_append]; omega
  have h62 : H6 le2 = none := S7.free hle2
  have nle2 : le2 ≠ d := apart D6 h62
  have D8 := D6.same S8
  have l8 := S8 _ _ l6
  have F8 := F6.same S8
  clear hT hC lte lct ecut ep1 hp1 S7 S8a ee esb1 zes1 subC lenC
  generalize es1 ++ cx = es2 at E8 esb2 zes2
  -- what is passed
  obtain ⟨cl, ecl, subL, lenL⟩ := cut_ints ls none (some 1)
  obtain ⟨tf, ef, hF⟩ := id F8
  have ltf := hF.len
  obtain ⟨cf, cy, ecf, hCf, subF, lenF⟩ := cut_tps hF none (some 1)
  have lcf := hCf.len
  refine ⟨_, rfl, _, rfl, 1, rfl, ll, _, rfl, SqL.of l8, fun p2 hp2 => ?_⟩
  rw [ecl]
  have S9a := Rz.Same.new (o := .lst (cl.map V.int)) (Same.refl H8) hp2
  have ep2 : upd H8 p2 (.lst (cl.map V.int)) p2 = some (.lst (cl.map V.int)) := upd_same
  generalize upd H8 p2 (.lst (cl.map V.int)) = H9a at S9a ep2 ⊢
  refine ⟨ll, p2, _, _, rfl, rfl, S9a _ _ l8, ep2, by rw [List.length_map, List.length_map, sizeLine_eq]; omega, fun a0 ha0 => ?_⟩
  have S9b := Rz.Same.new (o := .lst (ls.map V.int ++ cl.map V.int)) (Same.refl H9a) ha0
  have S9 := S9a.trans S9b
  have e0 : upd H9a a0 (.lst (ls.map V.int ++ cl.map V.int)) a0 = some (.lst ((ls ++ cl).map V.int)) := by rw [upd_same, List.map_append]
  have h80 : H8 a0 = none := S9a.free ha0
  generalize upd H9a a0 (.lst (ls.map V.int ++ cl.map V.int)) = H9 at S9 e0 ⊢
  obtain ⟨t2, ee2, hT2⟩ := id (E8.same S9)
  refine ⟨_, rfl, ?_⟩
  unfold rListS
  refine ⟨le2, _, rfl, SqL.of ee2, fun a1 ha1 => ?_⟩
  have S10a := Rz.Same.new (o := .lst (t2.map V.ref)) (Same.refl H9) ha1
  have S10 := S9.trans S10a
  have e1 : TpAt edK (upd H9 a1 (.lst (t2.map V.ref))) a1 es2 := ⟨t2, upd_same, hT2.keep (Tups.of S10a)⟩
  have e0' := S10a _ _ e0
  have h81 : H8 a1 = none := S9.free ha1
  have n01 : a0 ≠ a1 := fun q => by rw [q, ha1] at e0; cases e0
  generalize upd H9 a1 (.lst (t2.map V.ref)) = H10 at S10 e1 e0' S10a ⊢
  refine ⟨_, rfl, _, rfl, 1, rfl, lf, _, rfl, SqL.of (S10 _ _ ef), fun p3 hp3 => ?_⟩
  rw [ecf]
  have S11a := Rz.Same.new (o := .lst (cf.map V.ref)) (Same.refl H10) hp3
  have ep3 : upd H10 p3 (.lst (cf.map V.ref)) p3 = some (.lst (cf.map V.ref)) := upd_same
  generalize upd H10 p3 (.lst (cf.map V.ref)) = H11a at S11a ep3 ⊢
  refine ⟨lf, p3, _, _, rfl, rfl, S11a _ _ (S10 _ _ ef), ep3, by rw [List.length_map, List.length_map, sizeLine_eq]; omega, fun a2 ha2 => ?_⟩
  have S11b := Rz.Same.new (o := .lst (tf.map V.ref ++ cf.map V.ref)) (Same.refl H11a) ha2
  have S11c := S11a.trans S11b
  have S11 := S10.trans S11c
  have e2 : TpAt lkK (upd H11a a2 (.lst (tf.map V.ref ++ cf.map V.ref))) a2 (fr ++ cy) := ⟨tf ++ cf, by rw [upd_same, List.map_append], (hF.append hCf).keep (Tups.of S11)⟩
  have e0'' := S11c _ _ e0'
  have e1' := e1.same S11c
  have h102 : H10 a2 = none := S11a.free ha2
  have h82 : H8 a2 = none := S10.free h102
  have n02 : a0 ≠ a2 := fun q => by rw [q, h102] at e0'; cases e0'
  have n12 : a1 ≠ a2 := fun q => by
    obtain ⟨ts, q2, _⟩ := e1
    rw [q, h102] at q2
    cases q2
  generalize upd H11a a2 (.lst (tf.map V.ref ++ cf.map V.ref)) = H11 at S11 e2 e0'' e1' S11c ⊢
  refine ⟨by show 3 ≤ sizeLine; decide, fun T0 hT0 => ?_⟩
  have S12a := Rz.Same.new (o := .tup [.ref a0, .ref a1, .ref a2]) (Same.refl H11) hT0
  have eT : upd H11 T0 (.tup [.ref a0, .ref a1, .ref a2]) T0 = some (.tup [.ref a0, .ref a1, .ref a2]) := upd_same
  have S12 := S11.trans S12a
  have x0 := S12a _ _ e0''
  have x1 := e1'.same S12a
  have x2 := e2.same S12a
  have h8T : H8 T0 = none := S11.free hT0
  generalize upd H11 T0 (.tup [.ref a0, .ref a1, .ref a2]) = H12 at S12 eT x0 x1 x2 ⊢
  clear S9a S9b S9 S10a S10 S11a S11b S11c S11 S12a e0 e0' e0'' e1 e1' e2 ep2 ep3 ee2 hT2
  -- the machine
  refine ⟨_, rfl, _, rfl, T0, _, 0, _, rfl, rfl, SqT.of eT, atI_nat (j := 0) rfl, _, rfl, T0, _, 1, _, rfl, rfl, SqT.of eT, atI_nat (j := 1) rfl, _, rfl, T0, _, 2, _, rfl, rfl, SqT.of eT, atI_nat (j := 2) rfl, ?_⟩
  have lsb' : ∀ x ∈ ls ++ cl, 0 ≤ x ∧ x < 100000 := fun x hx => by
    have : x ∈ ls := (List.mem_append.mp hx).elim id (subL x)
    have := lsb x this
    omega
  have esb' : ∀ e ∈ es2, (0 ≤ e.1 ∧ e.1 < 100000) ∧ 0 ≤ e.2.2.2 ∧ e.2.2.2 < 100000 := fun e he => by
    obtain ⟨⟨h1, h2⟩, ⟨h3, h4⟩, _⟩ := esb2 e he
    omega
  have frb' : ∀ q ∈ fr ++ cy, (0 ≤ q.1 ∧ q.1 < 100000) ∧ 0 ≤ q.2 ∧ q.2 < 100000 := fun q hq => by
    have : q ∈ fr := (List.mem_append.mp hq).elim id (subF q)
    obtain ⟨⟨h1, h2⟩, h3, h4⟩ := frb q this
    omega
  refine mac_made x0 x1 x2 ⟨by rw [List.length_append]; omega, by omega, by rw [List.length_append]; omega⟩ lsb' esb' frb' fun H13 H0 p ls' es' fr' cm m s1' s2' s3' gm S13 young MA => ?_
  obtain rfl : ls' = ls := srt_same s1'.1 lsp fun x => (s1'.2 x).trans ⟨fun h => (List.mem_append.mp h).elim id (subL x), fun h => List.mem_append_left _ h⟩
  have s3 : SrtK lkK (fr.filter fun p : Lk => decide (p.1 ≠ p.2)) fr' := srtK_mem (fun q => by
    rw [List.mem_filter, List.mem_filter, List.mem_append]
    exact ⟨fun h => ⟨h.1.elim id (subF q), h.2⟩, fun h => ⟨.inl h.1, h.2⟩⟩) s3'
  have g2 : GoodF edK es2 := edK_good fun e he => zsg _ (esb2 e he).2.2.1
  have S8D := S12.trans S13
  refine ⟨_, rfl, _, rfl, _, rfl, 1, rfl, ll, _, rfl, SqL.of (S8D _ _ l8), fun q1 hq1 => ?_⟩
  rw [ecl]
  have Sa := Rz.Same.new (o := .lst (cl.map V.int)) (Same.refl H13) hq1
  have eq1 : upd H13 q1 (.lst (cl.map V.int)) q1 = some (.lst (cl.map V.int)) := upd_same
  generalize upd H13 q1 (.lst (cl.map V.int)) = Ha at Sa eq1 ⊢
  refine ⟨ll, q1, _, _, rfl, rfl, Sa _ _ (S8D _ _ l8), eq1, by rw [List.length_map, List.length_map, sizeLine_eq]; omega, fun b0 hb0 => ?_⟩
  have Sb0 := Rz.Same.new (o := .lst (ls'.map V.int ++ cl.map V.int)) (Same.refl Ha) hb0
  have eb0 : upd Ha b0 (.lst (ls'.map V.int ++ cl.map V.int)) b0 = some (.lst ((ls' ++ cl).map V.int)) := by rw [upd_same, List.map_append]
  have Sb := Sa.trans Sb0
  generalize upd Ha b0 (.lst (ls'.map V.int ++ cl.map V.int)) = Hb at Sb eb0 ⊢
  have S8b := S8D.trans Sb
  refine ⟨_, rfl, _, rfl, _, rfl, 1, rfl, lf, _, rfl, SqL.of (S8b _ _ ef), fun q2 hq2 => ?_⟩
  rw [ecf]
  have Sc0 := Rz.Same.new (o := .lst (cf.map V.ref)) (Same.refl Hb) hq2
  have eq2 : upd Hb q2 (.lst (cf.map V.ref)) q2 = some (.lst (cf.map V.ref)) := upd_same
  generalize upd Hb q2 (.lst (cf.map V.ref)) = Hc0 at Sc0 eq2 ⊢
  refine ⟨lf, q2, _, _, rfl, rfl, Sc0 _ _ (S8b _ _ ef), eq2, by rw [List.length_map, List.length_map, sizeLine_eq]; omega, fun b2 hb2 => ?_⟩
  have Sc1 := Rz.Same.new (o := .lst (tf.map V.ref ++ cf.map V.ref)) (Same.refl Hc0) hb2
  have Sc := Sc0.trans Sc1
  have eb2 : TpAt lkK (upd Hc0 b2 (.lst (tf.map V.ref ++ cf.map V.ref))) b2 (fr ++ cy) := ⟨tf ++ cf, by rw [upd_same, List.map_append], (hF.append hCf).keep (Tups.of (S8b.trans Sc))⟩
  have eb0' := Sc _ _ eb0
  generalize upd Hc0 b2 (.lst (tf.map V.ref ++ cf.map V.ref)) = Hc1 at Sc eb2 eb0' ⊢
  refine ⟨by show 3 ≤ sizeLine; decide, fun T1 hT1 => ?_⟩
  have Sd := Rz.Same.new (o := .tup [.ref b0, .ref le2, .ref b2]) (Same.refl Hc1) hT1
  have eT1 : upd Hc1 T1 (.tup [.ref b0, .ref le2, .ref b2]) T1 = some (.tup [.ref b0, .ref le2, .ref b2]) := upd_same
  have S13d := (Sb.trans Sc).trans Sd
  have S12d := S13.trans S13d
  have S8d := S12.trans S12d
  have eb0'' := Sd _ _ eb0'
  have eb2' := eb2.same Sd
  generalize upd Hc1 T1 (.tup [.ref b0, .ref le2, .ref b2]) = Hd at Sd eT1 S13d S12d S8d eb0'' eb2' ⊢
  refine ⟨dPs (ls' ++ cl) es2 (fr ++ cy), dPs (ls' ++ cl) es2 (fr ++ cy), dps_at (S12d _ _ eT) (S12d _ _ x0) (x1.same S12d) (x2.same S12d), dps_at eT1 eb0'' (E8.same S8d) eb2', dps_shaped g2, dps_shaped g2, _, rfl, ?_⟩
  rw [dps_eqv]
  refine iteF ?_
  have MAd := MA.same S13d
  have y0 := S12d _ _ x0
  have y1 := x1.same S12d
  have y2 := x2.same S12d
  have yT := S12d _ _ eT
  have Dd := D8.same S8d
  have Ed8 := E8.same S8d
  have Fd8 := F8.same S8d
  have ld8 := S8d _ _ l8
  have n0d := apart D8 h80
  have n1d := apart D8 h81
  have n2d := apart D8 h82
  have ne8 : ∀ {b x : Addr} {o : HO}, H8 b = some o → H8 x = none → b ≠ x := fun h1 h2 q => by rw [q, h2] at h1; cases h1
  have yo0 : ∀ {b : Addr}, (H0 b = none ∨ b = p) → b ≠ a0 := fun hb q => by
    have := young _ hb
    rw [q, x0] at this
    cases this
  have yo1 : ∀ {b : Addr}, (H0 b = none ∨ b = p) → b ≠ a1 := fun hb q => by
    obtain ⟨_, q2, _⟩ := x1
    have := young _ hb
    rw [q, q2] at this
    cases this
  have yo2 : ∀ {b : Addr}, (H0 b = none ∨ b = p) → b ≠ a2 := fun hb q => by
    obtain ⟨_, q2, _⟩ := x2
    have := young _ hb
    rw [q, q2] at this
    cases this
  -- the lists that were passed grow
  refine ⟨_, rfl, T0, _, 0, _, rfl, rfl, SqT.of yT, atI_nat (j := 0) rfl, .inl ⟨rfl, _, SqL.of y0⟩, a0, _, _, rfl, rfl, y0, by rw [List.length_map, List.length_append, sizeLine_eq]; omega, ?_⟩
  have B0 : But [a0, a1, a2] Hd (upd Hd a0 (.lst ((ls' ++ cl).map V.int ++ [.int 0]))) := (But.refl _ _).upd (.inl (by simp))
  have t0 : Tups Hd (upd Hd a0 (.lst ((ls' ++ cl).map V.int ++ [.int 0]))) := Tups.upd (Tups.of (Same.refl Hd)) (fun xs q => by rw [y0] at q; cases q)
  have De := Dd.upd (o := .lst ((ls' ++ cl).map V.int ++ [.int 0])) (Ne.symm n0d)
  obtain ⟨u1s, ey1, hy1⟩ := y1
  obtain ⟨u2s, ey2, hy2⟩ := y2
  have ey1e : upd Hd a0 (.lst ((ls' ++ cl).map V.int ++ [.int 0])) a1 = some (.lst (u1s.map V.ref)) := by rw [upd_ne (Ne.symm n01)]; exact ey1
  have ey2e : upd Hd a0 (.lst ((ls' ++ cl).map V.int ++ [.int 0])) a2 = some (.lst (u2s.map V.ref)) := by rw [upd_ne (Ne.symm n02)]; exact ey2
  have yTe := t0 _ _ yT
  have lu1 := hy1.len
  have lu2 := hy2.len
  have lfc : (fr ++ cy).length ≤ 10 := by rw [List.length_append]; omega
  generalize upd Hd a0 (.lst ((ls' ++ cl).map V.int ++ [.int 0])) = He at B0 t0 De ey1e ey2e yTe ⊢
  refine ⟨_, rfl, T0, _, 1, _, rfl, rfl, SqT.of yTe, atI_nat (j := 1) rfl, .inl ⟨rfl, _, SqL.of ey1e⟩, by show 4 ≤ sizeLine; decide, fun v1 hv1 => ?_⟩
  have Sv1 := Rz.Same.new (o := .tup [.int 0, .str "a", .int 0, .int 0]) (Same.refl He) hv1
  have ey1f := Sv1 _ _ ey1e
  refine ⟨a1, _, _, rfl, rfl, ey1f, by rw [List.length_map, sizeLine_eq]; omega, ?_⟩
  have B1 : But [a0, a1, a2] Hd (upd (upd He v1 (.tup [.int 0, .str "a", .int 0, .int 0])) a1 (.lst (u1s.map V.ref ++ [.ref v1]))) := (B0.trans (But.of Sv1)).upd (.inl (by simp))
  have t1 : Tups Hd (upd (upd He v1 (.tup [.int 0, .str "a", .int 0, .int 0])) a1 (.lst (u1s.map V.ref ++ [.ref v1]))) := Tups.upd (t0.trans (Tups.of Sv1)) (fun xs q => by rw [ey1f] at q; cases q)
  have Df := (De.same Sv1).upd (o := .lst (u1s.map V.ref ++ [.ref v1])) (Ne.symm n1d)
  have ey2f : upd (upd He v1 (.tup [.int 0, .str "a", .int 0, .int 0])) a1 (.lst (u1s.map V.ref ++ [.ref v1])) a2 = some (.lst (u2s.map V.ref)) := by rw [upd_ne (Ne.symm n12)]; exact Sv1 _ _ ey2e
  have yTf := t1 _ _ yT
  generalize upd (upd He v1 (.tup [.int 0, .str "a", .int 0, .int 0])) a1 (.lst (u1s.map V.ref ++ [.ref v1])) = Hf at B1 t1 Df ey2f yTf ⊢
  refine ⟨_, rfl, T0, _, 2, _, rfl, rfl, SqT.of yTf, atI_nat (j := 2) rfl, .inl ⟨rfl, _, SqL.of ey2f⟩, _, rfl, _, _, rfl, rfl, by show 2 ≤ sizeLine; decide, fun v2 hv2 => ?_⟩
  have Sv2 := Rz.Same.new (o := .tup [.int 0, .int ((many : Int) - 1)]) (Same.refl Hf) hv2
  have ey2g := Sv2 _ _ ey2f
  refine ⟨a2, _, _, rfl, rfl, ey2g, by rw [List.length_map, sizeLine_eq]; omega, ?_⟩
  have B2' : But [a0, a1, a2] Hd (upd (upd Hf v2 (.tup [.int 0, .int ((many : Int) - 1)])) a2 (.lst (u2s.map V.ref ++ [.ref v2]))) := (B1.trans (But.of Sv2)).upd (.inl (by simp))
  have t2 : Tups Hd (upd (upd Hf v2 (.tup [.int 0, .int ((many : Int) - 1)])) a2 (.lst (u2s.map V.ref ++ [.ref v2]))) := Tups.upd (t1.trans (Tups.of Sv2)) (fun xs q => by rw [ey2g] at q; cases q)
  have Dg := (Df.same Sv2).upd (o := .lst (u2s.map V.ref ++ [.ref v2])) (Ne.symm n2d)
  generalize upd (upd Hf v2 (.tup [.int 0, .int ((many : Int) - 1)])) a2 (.lst (u2s.map V.ref ++ [.ref v2])) = Hg at B2' t2 Dg ⊢
  have no3 : ∀ {b : Addr} {o : HO}, H8 b = some o → b ∉ [a0, a1, a2] := fun h q => by
    simp only [List.mem_cons, List.not_mem_nil, or_false] at q
    rcases q with q | q | q
    · exact ne8 h h80 q
    · exact ne8 h h81 q
    · exact ne8 h h82 q
  have MAg : MacAt T.c_Machine H0 Hg p many ls' es' fr' cm m := MAd.keep (fun b o hb e => B2'.at e (fun q => by
    simp only [List.mem_cons, List.not_mem_nil, or_false] at q
    rcases q with q | q | q
    · exact yo0 hb q
    · exact yo1 hb q
    · exact yo2 hb q)) t2
  have lg : Hg ll = some (.lst (ls'.map V.int)) := B2'.at ld8 (no3 l8)
  have Eg : TpAt edK Hg le2 es2 := Ed8.but B2' (let ⟨_, q, _⟩ := E8; no3 q) t2
  have Fg : TpAt lkK Hg lf fr := Fd8.but B2' (no3 ef) t2
  have gz2 : ∀ e ∈ es2, e.2.1 < 128 := fun e he => zsg _ (esb2 e he).2.2.1
  have inM : InM many es2 fr := ⟨fun e he => ⟨(esb2 e he).1, (esb2 e he).2.1⟩, fun q hq => frb q hq, gz2⟩
  -- fine
  refine ⟨_, rfl, _, rfl, _, rfl, _, rfl, _, rfl, H0, p, ll, le2, lf, many, ls', es2, es', fr, fr', cm, m, rfl, MAg, lg, Eg, Fg, gz2, by omega, by omega, gm.ze, gm.zf, by omega, s2', s3, fun Hh Sh => ⟨true, rfl, iteF ?_⟩⟩
  have ndp : ∀ {b : Addr}, (H0 b = none ∨ b = p) → b ∉ [d] := fun hb q => by
    obtain ⟨ns, e, _⟩ := D8.same S12
    have := young _ hb
    rw [List.mem_singleton.mp q, e] at this
    cases this
  have nsd : ∀ {b : Addr} {G : Hp}, Dr G d → G b = none → b ∉ [d] := fun D hb q => apart D hb (List.mem_singleton.mp q)
  refine ⟨_, rfl, _, rfl, _, rfl, many, le2, lf, es2, fr, rfl, Eg.same Sh, Fg.same Sh, by omega, by omega, by omega, fun Hi gr Si hgr _ keepG => ?_⟩
  have Sgi := Sh.trans Si
  have Dh := Dg.same Sh
  have Di := Dg.same Sgi
  refine ⟨_, rfl, _, rfl, _, rfl, _, rfl, d, le2, st, z, many, es2, rfl, Di, Eg.same Sgi, esb2, zsg, by omega, hz, nle2, fun Hj lp ps LP gp zp hlp Dj Bj => ?_⟩
  have Tj := tups1 Bj (ndt Di)
  have MAj : MacAt T.c_Machine H0 Hj p many ls' es' fr' cm m := (MAg.same Sgi).keep (fun b o hb e => Bj.at e (ndp hb)) Tj
  have lj := Bj.at (Sgi _ _ lg) (by simpa using nll)
  have Ej := (Eg.same Sgi).but Bj (by simpa using nle2) Tj
  have Fj := (Fg.same Sgi).but Bj (by simpa using nlf) Tj
  have even : ∀ c ∈ z.cps.toList, oddC c = false := fun c hc => by
    unfold oddC
    rw [decide_eq_true (ho c hc)]
    rfl
  have gR : GoodR ps := fun q hq => ⟨even _ (gp q hq).1, (gp q hq).2⟩
  have p128 : ∀ q ∈ ps, q.1 < 128 := fun q hq => zsg _ (gp q hq).1
  have nlp : lp ∉ [d] := nsd Di hlp
  refine ⟨_, rfl, lp, ps, rfl, LP, gR, by omega, fun Hk r mr Sk hrk hmk RA => ?_⟩
  have nrd : r ∉ [d] := nsd Dj hrk
  have nmd : mr ∉ [d] := nsd Dj hmk
  have MAk := MAj.same Sk
  obtain ⟨dxp, qa, qb, qc, qD, qR, qC, qG, qP, qL, hpk, _⟩ := id MAk
  refine ⟨_, rfl, p, dxp, _, rfl, hpk, rfl, _, rfl, _, rfl, H0, p, r, mr, st, many, ps, ls', es', fr', cm, m, rfl, MAk, gm, s0, by omega, RA, fun Hl E1 sts Sl hE1 eE pwE hmE => ?_⟩
  refine ⟨_, rfl, _, _, .type "list", .type "list", true, rfl, .ty _, .base (.lst eE), kit_ty (by decide +kernel), true, rfl, iteF ?_⟩
  have Skl := Sk.trans Sl
  have grAt : ∀ {Hx : Hp}, But [d] Hi Hx → GrAt Hx gr many es2 fr := fun {Hx} Bx => keepG Hx (fun b o hb e => Bx.at e (nsd Dh hb)) (tups1 Bx (ndt Di))
  have he : ∀ e, e ∈ es' ↔ e ∈ es2 := s2'.2.2
  have hf : ∀ x y, x ≠ y → ((x, y) ∈ fr' ↔ (x, y) ∈ fr) := fun x y n => by
    rw [s3.2.2, List.mem_filter]
    exact ⟨fun h => h.1, fun h => ⟨h, decide_eq_true n⟩⟩
  have rs : ∀ x t, Reach fr' [x] t ↔ ∃ s ∈ [x], Reach fr [s] t := fun x t => ⟨fun r => ⟨x, by simp, reach_congr hf r⟩, fun ⟨s, hs, r⟩ => by
    rw [List.mem_singleton.mp hs] at r
    exact reach_congr (fun a b n => (hf a b n).symm) r⟩
  have be2 : ∀ e ∈ es2, 0 ≤ e.2.2.2 ∧ e.2.2.2 < (many : Int) := fun e he => (inM.1 e he).2
  have bf2 : ∀ q ∈ fr, 0 ≤ q.2 ∧ q.2 < (many : Int) := fun q hq => (inM.2.1 q hq).2
  have inR : ∀ {x : Int}, 0 ≤ x ∧ x < (many : Int) → ∀ t, (∃ s ∈ [x], Reach fr [s] t) → 0 ≤ t ∧ t < (many : Int) := fun hx t ⟨s, hs, r⟩ => by
    rw [List.mem_singleton.mp hs] at r
    exact ⟨reach_pos (fun q hq => (bf2 q hq).1) hx.1 r, reach_lt (fun q hq => (bf2 q hq).2) hx.2 r⟩
  refine ⟨_, rfl, _, rfl, _, rfl, by show 1 ≤ sizeLine; decide, fun s1 hs1 => ?_⟩
  have Sm := Rz.Same.new (o := .lst [.int st]) (Same.refl Hl) hs1
  have es1' : upd Hl s1 (.lst [.int st]) s1 = some (.lst (([st] : List Int).map V.int)) := upd_same
  generalize upd Hl s1 (.lst [.int st]) = Hm at Sm es1' ⊢
  have Skm := Skl.trans Sm
  refine ⟨_, rfl, gr, s1, lp, [st], ps, many, es2, fr, rfl, grAt (Bj.trans (But.of Skm)), inM, by omega, es1', fun s hs => by rw [List.mem_singleton.mp hs]; omega, LP.same Skm, p128, fun Hn L2 fs Sn hL2 eL2 pw2 hm2 => ?_⟩
  have eqf : sts = fs := srt_same pwE pw2 fun x => (hmE x).trans ((rowS_congr he hf (rs st) x).trans (hm2 x).symm)
  subst eqf
  refine ⟨dInts sts, dInts sts, dp_ints (SqL.of ((Sm.trans Sn) _ _ eE)), dp_ints (SqL.of eL2), ints_shaped _, ints_shaped _, _, rfl, ?_⟩
  rw [ints_eqv]
  refine iteF2 (by rw [decide_eq_true rfl]; rfl) ?_
  have Skn := Skm.trans Sn
  -- told
  have MAn := MAk.same (Sl.trans (Sm.trans Sn))
  have RAn := RA.same (Sl.trans (Sm.trans Sn))
  have Djn := Dj.same Skn
  obtain ⟨dxr, hrn, _⟩ := id RAn
  have hpn := (Sl.trans (Sm.trans Sn)) _ _ hpk
  refine ⟨_, rfl, _, rfl, p, dxp, _, rfl, hpn, H0, p, r, mr, many, ps, ls', es', fr', cm, m, rfl, MAn, gm, RAn, fun Ho b1 So hb1 => ⟨b1, rfl, ?_⟩⟩
  refine ⟨_, rfl, r, dxr, _, rfl, So _ _ hrn, r, mr, ps, rfl, RAn.same So, by omega, fun Hpp Sp => ?_⟩
  have Sop := So.trans Sp
  refine ⟨_, rfl, p, dxp, _, rfl, Sop _ _ hpn, H0, p, tx ps, many, ls', es', fr', cm, m, rfl, MAn.same Sop, gm, fun Hq b2 Sq hb2 => ⟨b2, rfl, ?_⟩⟩
  have Soq := Sop.trans Sq
  refine ⟨_, rfl, p, dxp, _, rfl, Soq _ _ hpn, H0, p, "", many, ls', es', fr', cm, m, rfl, MAn.same Soq, gm, fun Hr b3 Sr hb3 => ⟨b3, rfl, ?_⟩⟩
  have Sor := Soq.trans Sr
  refine ⟨_, rfl, d, rfl, Djn.same Sor, fun Hs co oc co8 Ds Bs => ⟨_, _, rfl, rfl, by show 1 + 1 ≤ sizeLine; decide, ?_⟩⟩
  have Ts := tups1 Bs (ndt (Djn.same Sor))
  have MAs : MacAt T.c_Machine H0 Hs p many ls' es' fr' cm m := (MAn.same Sor).keep (fun b o hb e => Bs.at e (ndp hb)) Ts
  obtain ⟨dxs, sa, sb, sc, sD, sR, sC, sG, sP, sL, hps, _⟩ := id MAs
  refine ⟨_, rfl, p, dxs, _, rfl, hps, H0, p, _, many, ls', es', fr', cm, m, rfl, MAs, gm, fun Ht b4 St hb4 => ⟨b4, rfl, ?_⟩⟩
  refine ⟨by show 4 ≤ sizeLine; decide, fun TL hTL => ?_⟩
  have Su := Rz.Same.new (o := .lst [.bl b1, .bl b2, .bl b3, .bl b4]) (Same.refl Ht) hTL
  have eTL : upd Ht TL (.lst [.bl b1, .bl b2, .bl b3, .bl b4]) TL = some (.lst (([b1, b2, b3, b4] : List Bool).map V.bl)) := upd_same
  generalize upd Ht TL (.lst [.bl b1, .bl b2, .bl b3, .bl b4]) = Hu at Su eTL ⊢
  have Ssu := St.trans Su
  have Bjs : But [d] Hj Hs := (But.of (Skn.trans Sor)).trans Bs
  have Bju := Bjs.trans (But.of Ssu)
  have Tju := tups1 Bju (ndt Dj)
  have Biu := Bj.trans Bju
  have Du := Ds.same Ssu
  have lu := Bju.at lj (by simpa using nll)
  have LPu := LP.but Bju nlp Tju
  have RAu : RAt T.c_Row Hu r mr ps := (RAn.same Sor).but (Bs.trans (But.of Ssu)) nrd nmd (tups1 (Bs.trans (But.of Ssu)) (ndt (Djn.same Sor)))
  have Eu := Ej.but Bju (by simpa using nle2) Tju
  have Fu := Fj.but Bju (by simpa using nlf) Tju
  have MAu := MAs.same Ssu
  have few : ∀ {xs : List Int}, xs.Pairwise (· < ·) → (∀ x ∈ xs, 0 ≤ x ∧ x < (many : Int)) → xs.length ≤ 10000 := fun pw h => Nat.le_trans (few_belowN many _ (lt_nodup pw) h) (by omega)
  have z0 : ∀ s ∈ ([0] : List Int), 0 ≤ s ∧ s < (many : Int) := fun s hs => by rw [List.mem_singleton.mp hs]; omega
  -- due
  refine ⟨_, rfl, by show 1 ≤ sizeLine; decide, fun w1 hw1 => ?_⟩
  have Sv0 := Rz.Same.new (o := .lst [.int 0]) (Same.refl Hu) hw1
  have ew1 : upd Hu w1 (.lst [.int 0]) w1 = some (.lst (([0] : List Int).map V.int)) := upd_same
  generalize upd Hu w1 (.lst [.int 0]) = Hv0 at Sv0 ew1 ⊢
  refine ⟨_, rfl, gr, w1, lp, [0], ps, many, es2, fr, rfl, grAt (Biu.trans (But.of Sv0)), inM, by omega, ew1, z0, LPu.same Sv0, p128, fun Hv L3 f3 Sv hL3 eL3 pw3 hm3 => ?_⟩
  have Suv := Sv0.trans Sv
  refine ⟨_, rfl, L3, ll, f3, ls', rfl, eL3, Suv _ _ lu, few pw3 (fun x hx => rowS_in be2 bf2 (inR (z0 0 (by simp))) x ((hm3 x).mp hx)), fun Hw c1 Sw hc1 => ?_⟩
  have Suw := Suv.trans Sw
  have RAw := RAu.same Suw
  obtain ⟨dxr2, hrw, _⟩ := id RAw
  refine ⟨_, rfl, _, rfl, r, dxr2, _, rfl, hrw, r, mr, ps, rfl, RAw, by omega, fun Hx Sx => ?_⟩
  have Sux := Suw.trans Sx
  refine ⟨gr, tx ps, many, es2, fr, rfl, grAt (Biu.trans (But.of Sux)), inM, by omega, by omega, by omega, fun Hy L4 f4 Sy hL4 eL4 pw4 hm4 => ?_⟩
  have Suy := Sux.trans Sy
  have in0 : ∀ t, Reach fr [0] t → 0 ≤ t ∧ t < (many : Int) := fun t r => inR (z0 0 (by simp)) t ⟨0, by simp, r⟩
  refine ⟨_, rfl, L4, ll, f4, ls', rfl, eL4, Suy _ _ lu, few pw4 (fun x hx => textS_in be2 bf2 in0 x ((hm4 x).mp hx)), fun Hz c2 Sz hc2 => ?_⟩
  have Suz := Suy.trans Sz
  refine ⟨by show 2 ≤ sizeLine; decide, fun DL hDL => ?_⟩
  have Sdl := Rz.Same.new (o := .lst [.bl c1, .bl c2]) (Same.refl Hz) hDL
  have eDL : upd Hz DL (.lst [.bl c1, .bl c2]) DL = some (.lst [.bl c1, .bl c2]) := upd_same
  generalize upd Hz DL (.lst [.bl c1, .bl c2]) = Hdl at Sdl eDL ⊢
  have Sud := Suz.trans Sdl
  obtain ⟨ga, gb, egr, hgO, hgS⟩ := grAt (Biu.trans (But.of Sud))
  refine ⟨_, rfl, _, rfl, gr, _, 1, _, rfl, rfl, SqT.of egr, atI_nat (j := 1) rfl, by show 1 ≤ sizeLine; decide, fun w2 hw2 => ?_⟩
  have Sw2 := Rz.Same.new (o := .lst [.int 0]) (Same.refl Hdl) hw2
  have ew2 : upd Hdl w2 (.lst [.int 0]) w2 = some (.lst (([0] : List Int).map V.int)) := upd_same
  generalize upd Hdl w2 (.lst [.int 0]) = Hw2 at Sw2 ew2 ⊢
  refine ⟨gb, w2, [0], many, fr, rfl, hgS.same Sw2, ew2, z0, by omega, bf2, fun Haa L5 f5 Saa hL5 eL5 pw5 hm5 => ?_⟩
  have Sda := Sw2.trans Saa
  refine ⟨_, rfl, L5, ll, f5, ls', rfl, eL5, (Sud.trans Sda) _ _ lu, few pw5 (fun x hx => inR (z0 0 (by simp)) x ((hm5 x).mp hx)), fun Hbb c3 Sbb hc3 => ?_⟩
  have Sdb := Sda.trans Sbb
  refine ⟨by show 2 ≤ sizeLine; decide, fun LL hLL => ?_⟩
  have Sll := Rz.Same.new (o := .lst [.bl c3, .bl false]) (Same.refl Hbb) hLL
  have eLL : upd Hbb LL (.lst [.bl c3, .bl false]) LL = some (.lst [.bl c3, .bl false]) := upd_same
  generalize upd Hbb LL (.lst [.bl c3, .bl false]) = Hll at Sll eLL ⊢
  refine ⟨DL, LL, _, _, rfl, rfl, (Sdb.trans Sll) _ _ eDL, eLL, by show 4 ≤ sizeLine; decide, fun DD hDD => ?_⟩
  have Sdd := Rz.Same.new (o := .lst ([.bl c1, .bl c2] ++ [.bl c3, .bl false])) (Same.refl Hll) hDD
  have eDD : upd Hll DD (.lst ([.bl c1, .bl c2] ++ [.bl c3, .bl false])) DD = some (.lst (([c1, c2, c3, false] : List Bool).map V.bl)) := upd_same
  have Sfin := ((Sud.trans Sdb).trans Sll).trans Sdd
  generalize upd Hll DD (.lst ([.bl c1, .bl c2] ++ [.bl c3, .bl false])) = Hf2 at Sdd eDD Sfin ⊢
  have rr0 : ∀ t, Reach fr' [0] t ↔ Reach fr [0] t := fun t => (rs 0 t).trans ⟨fun ⟨s, hs, r⟩ => by rw [List.mem_singleton.mp hs] at r; exact r, fun r => ⟨0, by simp, r⟩⟩
  have q1 : b1 = c1 := bl_same (hb1.trans ((ex_swap fun t => (rowS_congr he hf (rs 0) t).trans (hm3 t).symm).trans hc1.symm))
  have q2 : b2 = c2 := bl_same (hb2.trans ((ex_swap fun t => (textS_congr he hf rr0 t).trans (hm4 t).symm).trans hc2.symm))
  have q3 : b3 = c3 := bl_same (hb3.trans ((ex_swap (P := fun t => textS es' fr' (fun t => Reach fr' [0] t) ("" : Str).cps.toList t) fun t => (rs 0 t).trans (hm5 t).symm).trans hc3.symm))
  have q4 : b4 = false := by
    cases hb : b4 with
    | false => rfl
    | true =>
      obtain ⟨t, _, ht⟩ := hb4.mp hb
      have ez : ((⟨#[co]⟩ : Str) ++ ("A" : Str)).cps.toList = co :: ("A" : Str).cps.toList := by
        show (#[co] ++ ("A" : Str).cps).toList = _
        rw [Array.toList_append]
        rfl
      rw [ez] at ht
      exact absurd ht (textS_odd (fun e h q => by
        have h2 := even _ (esb2 e ((he e).mp h)).2.2.1
        rw [q, oc] at h2
        cases h2) t)
  subst q1 q2 q3 q4
  refine ⟨4, rfl, by decide, by decide, for_range (n := (4 : Int).toNat) (fun i σ H' => ∃ v17 : Option V, σ = [some (.ref a), some (.ref d), some (.str z), some (.int (many : Nat)), some (.ref ll), some (.ref le2), some (.ref lf), none, some (.int st), some (.ref T0), some (.ref p), some (.ref gr), some (.ref lp), some (.ref r), some (.ref E1), some (.ref TL), some (.ref DD), v17] ∧ H' = Hf2) ⟨none, rfl, rfl⟩ ?_ ?_⟩
  · rintro i σ H' hi ⟨v17, rfl, rfl⟩
    have e00 : (0 : Int) + (i : Nat) = (i : Nat) := Int.zero_add _
    rw [e00]
    have i4 : i < ([b1, b2, b3, false] : List Bool).length := hi
    have gt := bl_get i4
    refine ⟨_, rfl, _, rfl, TL, _, (i : Nat), _, rfl, rfl, SqL.of (Sfin _ _ eTL), atI_nat (j := i) gt, _, _, .type "bool", .type "bool", true, rfl, .ty _, .base (.bl _), kit_ty (by decide +kernel), true, rfl, iteF ?_⟩
    refine ⟨_, rfl, _, rfl, TL, _, (i : Nat), _, rfl, rfl, SqL.of (Sfin _ _ eTL), atI_nat (j := i) gt, _, rfl, _, rfl, DD, _, (i : Nat), _, rfl, rfl, SqL.of eDD, atI_nat (j := i) gt, rfl, _, rfl, ?_⟩
    exact iteF2 (by simp) ⟨_, rfl, rfl⟩
  rintro σ H' ⟨v17, rfl, rfl⟩
  refine ⟨_, rfl, _, rfl, _, rfl, _, rfl, _, rfl, H0, p, ll, le2, lf, many, ls', es2, es', fr, fr', cm, m, rfl, MAu.same Sfin, Sfin _ _ lu, Eu.same Sfin, Fu.same Sfin, gz2, by omega, by omega, gm.ze, gm.zf, by omega, s2', s3, fun Hend _ => k _⟩
end
end Rz

namespace Rz
open PySem L2
def q0 : Qn := fun K => He.Fa.ok K (.free "abs")
def q1 : Qn := fun K => He.Fa.ok K (.free "bool")
def q2 : Qn := fun K => He.Fa.ok K (.free "bytes")
def q3 : Qn := fun K => He.Fa.ok K (.free "enumerate")
def q4 : Qn := fun K => He.Fa.ok K (.free "int")
def q5 : Qn := fun K => He.Fa.ok K (.free "isinstance")
def q6 : Qn := fun K => He.Fa.ok K (.free "iter")
def q7 : Qn := fun K => He.Fa.ok K (.free "len")
def q8 : Qn := fun K => He.Fa.ok K (.free "list")
def q9 : Qn := fun K => He.Fa.ok K (.free "property")
def q10 : Qn := fun K => He.Fa.ok K (.free "range")
def q11 : Qn := fun K => He.Fa.ok K (.free "set")
def q12 : Qn := fun K => He.Fa.ok K (.free "sorted")
def q13 : Qn := fun K => He.Fa.ok K (.free "str")
def q14 : Qn := fun K => He.Fa.ok K (.free "sum")
def q15 : Qn := fun K => He.Fa.ok K (.free "tuple")
def q16 : Qn := fun K => He.Fa.ok K (.free "zip")
def q17 : Qn := fun K => He.Fa.ok K (.str "SIGNS" "abcdefghijklmnopqrstuvwxyz")
def q18 : Qn := fun K => He.Fa.ok K (.int "GREATEST_HEIGHT" 9)
def q19 : Qn := fun K => He.Fa.ok K (.glo "BadSign")
def q20 : Qn := fun K => He.eqO (PySem.W.findIn K (.ref (He.ga K "BadSign")) "at") (some none)
def q21 : Qn := fun K => decide (PySem.W.subIn K (.ref (He.ga K "BadSign")) (.type "BaseException") = some true)
def q22 : Qn := fun K => oexB K (He.ga K "BadSign")
def q23 : Qn := fun K => He.eqO (PySem.W.findIn K (.ref (He.ga K "BadSign")) "__setattr__") (some (some (.builtin "object.__setattr__")))
def q24 : Qn := fun K => decide (PySem.W.typeIn K (.ref (He.ga K "BadSign")) = some (.type "type"))
def q25 : Qn := fun K => PySem.W.keepIn K (.ref (He.ga K "BadSign"))
def q26 : Qn := fun K => xfB K (He.ga K "BadSign")
def q27 : Qn := fun K => exiB prg.main.file K ((Pa.meth "BadSign" "__init__").at K) (He.ga K "BadSign") "BadSign.__init__"
def q28 : Qn := fun K => He.eqO (PySem.W.findIn K (.ref (He.ga K "BadSign")) "__init__") (some (some (.ref ((Pa.meth "BadSign" "__init__").at K))))
def q29 : Qn := fun K => decide (PySem.W.typeIn K (.ref ((Pa.meth "BadSign" "__init__").at K)) = some (.type "function"))
def q30 : Qn := fun K => He.eqO (PySem.W.nsIn K cStatics "thirdparty.any") (some none)
def q31 : Qn := fun K => He.Fa.ok K (.free "super")
def q32 : Qn := fun K => He.eqO (PySem.W.ks_superIn K (He.ga K "BadSign") (He.ga K "BadSign") "__init__") (some (some (.builtin "ValueError.__init__")))
def q33 : Qn := fun K => decide (PySem.W.subIn K (.ref (He.ga K "BadSign")) (.type "ValueError") = some true)
def q34 : Qn := fun K => decide (PySem.W.mroIn K (He.ga K "BadSign") (.ref (He.ga K "BadSign")) = some true)
def q35 : Qn := fun K => He.Fa.ok K (.glo "BadHeight")
def q36 : Qn := fun K => He.eqO (PySem.W.findIn K (.ref (He.ga K "BadHeight")) "height") (some none)
def q37 : Qn := fun K => decide (PySem.W.subIn K (.ref (He.ga K "BadHeight")) (.type "BaseException") = some true)
def q38 : Qn := fun K => oexB K (He.ga K "BadHeight")
def q39 : Qn := fun K => He.eqO (PySem.W.findIn K (.ref (He.ga K "BadHeight")) "__setattr__") (some (some (.builtin "object.__setattr__")))
def q40 : Qn := fun K => decide (PySem.W.typeIn K (.ref (He.ga K "BadHeight")) = some (.type "type"))
def q41 : Qn := fun K => PySem.W.keepIn K (.ref (He.ga K "BadHeight"))
def q42 : Qn := fun K => xfB K (He.ga K "BadHeight")
def q43 : Qn := fun K => exiB prg.main.file K ((Pa.meth "BadHeight" "__init__").at K) (He.ga K "BadHeight") "BadHeight.__init__"
def q44 : Qn := fun K => He.eqO (PySem.W.findIn K (.ref (He.ga K "BadHeight")) "__init__") (some (some (.ref ((Pa.meth "BadHeight" "__init__").at K))))
def q45 : Qn := fun K => decide (PySem.W.typeIn K (.ref ((Pa.meth "BadHeight" "__init__").at K)) = some (.type "function"))
def q46 : Qn := fun K => He.eqO (PySem.W.ks_superIn K (He.ga K "BadHeight") (He.ga K "BadHeight") "__init__") (some (some (.builtin "ValueError.__init__")))
def q47 : Qn := fun K => decide (PySem.W.subIn K (.ref (He.ga K "BadHeight")) (.type "ValueError") = some true)
def q48 : Qn := fun K => decide (PySem.W.mroIn K (He.ga K "BadHeight") (.ref (He.ga K "BadHeight")) = some true)
def q49 : Qn := fun K => He.Fa.ok K (.glo "Uneven")
def q50 : Qn := fun K => He.Fa.ok K (.exc "Uneven")
def q51 : Qn := fun K => He.Fa.ok K (.exm "BadSign" "BadSign" true)
def q52 : Qn := fun K => He.Fa.ok K (.exm "BadSign" "BadHeight" false)
def q53 : Qn := fun K => He.Fa.ok K (.exm "BadSign" "Uneven" false)
def q54 : Qn := fun K => He.Fa.ok K (.exm "BadHeight" "BadSign" false)
def q55 : Qn := fun K => He.Fa.ok K (.exm "BadHeight" "BadHeight" true)
def q56 : Qn := fun K => He.Fa.ok K (.exm "BadHeight" "Uneven" false)
def q57 : Qn := fun K => He.Fa.ok K (.exm "Uneven" "BadSign" false)
def q58 : Qn := fun K => He.Fa.ok K (.exm "Uneven" "BadHeight" false)
def q59 : Qn := fun K => He.Fa.ok K (.exm "Uneven" "Uneven" true)
def q60 : Qn := fun K => He.Fa.ok K (.glo "Row")
def q61 : Qn := fun K => He.Fa.ok K (.cls "Row")
def q62 : Qn := fun K => PySem.W.makesIn K (He.ga K "Row")
def q63 : Qn := fun K => PySem.W.keepIn K (.ref (He.ga K "Row"))
def q64 : Qn := fun K => insB K (He.ga K "Row")
def q65 : Qn := fun K => PySem.W.selfFirst K (He.ga K "Row")
def q66 : Qn := fun K => PySem.W.noSeq K (He.ga K "Row")
def q67 : Qn := fun K => decide (PySem.W.kitOne K (.type "str") (.ref (He.ga K "Row")) = some false)
def q68 : Qn := fun K => He.Fa.ok K (.noat "Row" "_pairs")
def q69 : Qn := fun K => He.Fa.ok K (.glo "Machine")
def q70 : Qn := fun K => He.Fa.ok K (.cls "Machine")
def q71 : Qn := fun K => PySem.W.makesIn K (He.ga K "Machine")
def q72 : Qn := fun K => PySem.W.keepIn K (.ref (He.ga K "Machine"))
def q73 : Qn := fun K => insB K (He.ga K "Machine")
def q74 : Qn := fun K => PySem.W.selfFirst K (He.ga K "Machine")
def q75 : Qn := fun K => He.Fa.ok K (.noat "Machine" "_states")
def q76 : Qn := fun K => He.Fa.ok K (.noat "Machine" "_last")
def q77 : Qn := fun K => He.Fa.ok K (.noat "Machine" "_edges")
def q78 : Qn := fun K => He.Fa.ok K (.noat "Machine" "_free")
def q79 : Qn := fun K => He.Fa.ok K (.noat "Machine" "_closures")
def q80 : Qn := fun K => He.Fa.ok K (.noat "Machine" "_reads")
def q81 : Qn := fun K => He.Fa.ok K (.noat "Machine" "_final")
def q82 : Qn := fun K => He.Fa.ok K (.glo "check_text")
def q83 : Qn := fun K => He.Fa.ok K (.glo "decoded")
def q84 : Qn := fun K => He.Fa.ok K (.glo "check_height")
def q85 : Qn := fun K => He.Fa.ok K (.meth "Row" "__init__")
def q86 : Qn := fun K => prpB K (He.ga K "Row") "signs"
def q87 : Qn := fun K => He.Fa.ok K (.meth "Row" "__iter__")
def q88 : Qn := fun K => He.Fa.ok K (.glo "_closures_of")
def q89 : Qn := fun K => He.Fa.ok K (.meth "Machine" "_closed")
def q90 : Qn := fun K => He.Fa.ok K (.meth "Machine" "_reads_of_edges")
def q91 : Qn := fun K => He.Fa.ok K (.meth "Machine" "__init__")
def q92 : Qn := fun K => prpB K (He.ga K "Machine") "states"
def q93 : Qn := fun K => prpB K (He.ga K "Machine") "last"
def q94 : Qn := fun K => He.Fa.ok K (.meth "Machine" "edges")
def q95 : Qn := fun K => He.Fa.ok K (.meth "Machine" "free")
def q96 : Qn := fun K => He.Fa.ok K (.glo "_after_pairs")
def q97 : Qn := fun K => He.Fa.ok K (.meth "Machine" "_after_row")
def q98 : Qn := fun K => He.Fa.ok K (.meth "Machine" "_after_signs")
def q99 : Qn := fun K => He.Fa.ok K (.glo "_listed")
def q100 : Qn := fun K => He.Fa.ok K (.meth "Machine" "ends")
def q101 : Qn := fun K => He.Fa.ok K (.meth "Machine" "__contains__")
def q102 : Qn := fun K => He.Fa.ok K (.glo "_law_pool")
def q103 : Qn := fun K => He.Fa.ok K (.glo "_law_pick")
def q104 : Qn := fun K => He.Fa.ok K (.glo "_law_alphabet")
def q105 : Qn := fun K => He.Fa.ok K (.glo "_law_is_int")
def q106 : Qn := fun K => He.Fa.ok K (.glo "_law_as_row")
def q107 : Qn := fun K => He.Fa.ok K (.glo "_law_odd_sign")
def q108 : Qn := fun K => He.Fa.ok K (.glo "_law_spread")
def q109 : Qn := fun K => He.Fa.ok K (.glo "_law_join")
def q110 : Qn := fun K => He.Fa.ok K (.glo "_law_graph_of")
def q111 : Qn := fun K => He.Fa.ok K (.glo "_law_read")
def q112 : Qn := fun K => He.Fa.ok K (.glo "_law_spelling")
def q113 : Qn := fun K => He.Fa.ok K (.glo "_law_meets")
def q114 : Qn := fun K => He.Fa.ok K (.glo "_law_unique")
def q115 : Qn := fun K => He.Fa.ok K (.glo "_law_machine_of")
def q116 : Qn := fun K => He.Fa.ok K (.glo "_law_walk_on")
def q117 : Qn := fun K => He.Fa.ok K (.glo "_law_fine")
def q118 : Qn := fun K => He.Fa.ok K (.glo "law")
def d_BadSign_init : DefR := ⟨Pa.meth "BadSign" "__init__", "__init__", "BadSign.__init__", defArgs s_BadSign_init, defBody s_BadSign_init, defScope s_BadSign_init, ["__class__"], [], []⟩
def d_BadHeight_init : DefR := ⟨Pa.meth "BadHeight" "__init__", "__init__", "BadHeight.__init__", defArgs s_BadHeight_init, defBody s_BadHeight_init, defScope s_BadHeight_init, ["__class__"], [], []⟩
def d_check_text : DefR := ⟨Pa.glo "check_text", "check_text", "check_text", defArgs s_check_text, defBody s_check_text, defScope s_check_text, [], [], []⟩
def d_decoded : DefR := ⟨Pa.glo "decoded", "decoded", "decoded", defArgs s_decoded, defBody s_decoded, defScope s_decoded, [], [], []⟩
def d_check_height : DefR := ⟨Pa.glo "check_height", "check_height", "check_height", defArgs s_check_height, defBody s_check_height, defScope s_check_height, [], [], []⟩
def d_Row_init : DefR := ⟨Pa.meth "Row" "__init__", "__init__", "Row.__init__", defArgs s_Row_init, defBody s_Row_init, defScope s_Row_init, [], [.str "", .non], []⟩
def d_Row_signs : DefR := ⟨Pa.prop "Row" "signs", "signs", "Row.signs", defArgs s_Row_signs, defBody s_Row_signs, defScope s_Row_signs, [], [], []⟩
def d_Row_iter : DefR := ⟨Pa.meth "Row" "__iter__", "__iter__", "Row.__iter__", defArgs s_Row_iter, defBody s_Row_iter, defScope s_Row_iter, [], [], []⟩
def d__closures_of : DefR := ⟨Pa.glo "_closures_of", "_closures_of", "_closures_of", defArgs s__closures_of, defBody s__closures_of, defScope s__closures_of, [], [], []⟩
def d_Machine_closed : DefR := ⟨Pa.meth "Machine" "_closed", "_closed", "Machine._closed", defArgs s_Machine_closed, defBody s_Machine_closed, defScope s_Machine_closed, [], [], []⟩
def d_Machine_reads_of_edges : DefR := ⟨Pa.meth "Machine" "_reads_of_edges", "_reads_of_edges", "Machine._reads_of_edges", defArgs s_Machine_reads_of_edges, defBody s_Machine_reads_of_edges, defScope s_Machine_reads_of_edges, [], [], []⟩
def d_Machine_init : DefR := ⟨Pa.meth "Machine" "__init__", "__init__", "Machine.__init__", defArgs s_Machine_init, defBody s_Machine_init, defScope s_Machine_init, [], [], []⟩
def d_Machine_states : DefR := ⟨Pa.prop "Machine" "states", "states", "Machine.states", defArgs s_Machine_states, defBody s_Machine_states, defScope s_Machine_states, [], [], []⟩
def d_Machine_last : DefR := ⟨Pa.prop "Machine" "last", "last", "Machine.last", defArgs s_Machine_last, defBody s_Machine_last, defScope s_Machine_last, [], [], []⟩
def d_Machine_edges : DefR := ⟨Pa.meth "Machine" "edges", "edges", "Machine.edges", defArgs s_Machine_edges, defBody s_Machine_edges, defScope s_Machine_edges, [], [], []⟩
def d_Machine_free : DefR := ⟨Pa.meth "Machine" "free", "free", "Machine.free", defArgs s_Machine_free, defBody s_Machine_free, defScope s_Machine_free, [], [], []⟩
def d__after_pairs : DefR := ⟨Pa.glo "_after_pairs", "_after_pairs", "_after_pairs", defArgs s__after_pairs, defBody s__after_pairs, defScope s__after_pairs, [], [], []⟩
def d_Machine_after_row : DefR := ⟨Pa.meth "Machine" "_after_row", "_after_row", "Machine._after_row", defArgs s_Machine_after_row, defBody s_Machine_after_row, defScope s_Machine_after_row, [], [], []⟩
def d_Machine_after_signs : DefR := ⟨Pa.meth "Machine" "_after_signs", "_after_signs", "Machine._after_signs", defArgs s_Machine_after_signs, defBody s_Machine_after_signs, defScope s_Machine_after_signs, [], [], []⟩
def d__listed : DefR := ⟨Pa.glo "_listed", "_listed", "_listed", defArgs s__listed, defBody s__listed, defScope s__listed, [], [], []⟩
def d_Machine_ends : DefR := ⟨Pa.meth "Machine" "ends", "ends", "Machine.ends", defArgs s_Machine_ends, defBody s_Machine_ends, defScope s_Machine_ends, [], [], []⟩
def d_Machine_contains : DefR := ⟨Pa.meth "Machine" "__contains__", "__contains__", "Machine.__contains__", defArgs s_Machine_contains, defBody s_Machine_contains, defScope s_Machine_contains, [], [], []⟩
def d__law_pool : DefR := ⟨Pa.glo "_law_pool", "_law_pool", "_law_pool", defArgs s__law_pool, defBody s__law_pool, defScope s__law_pool, [], [], []⟩
def d__law_pick : DefR := ⟨Pa.glo "_law_pick", "_law_pick", "_law_pick", defArgs s__law_pick, defBody s__law_pick, defScope s__law_pick, [], [], []⟩
def d__law_alphabet : DefR := ⟨Pa.glo "_law_alphabet", "_law_alphabet", "_law_alphabet", defArgs s__law_alphabet, defBody s__law_alphabet, defScope s__law_alphabet, [], [], []⟩
def d__law_is_int : DefR := ⟨Pa.glo "_law_is_int", "_law_is_int", "_law_is_int", defArgs s__law_is_int, defBody s__law_is_int, defScope s__law_is_int, [], [], []⟩
def d__law_as_row : DefR := ⟨Pa.glo "_law_as_row", "_law_as_row", "_law_as_row", defArgs s__law_as_row, defBody s__law_as_row, defScope s__law_as_row, [], [], []⟩
def d__law_odd_sign : DefR := ⟨Pa.glo "_law_odd_sign", "_law_odd_sign", "_law_odd_sign", defArgs s__law_odd_sign, defBody s__law_odd_sign, defScope s__law_odd_sign, [], [], []⟩
def d__law_spread : DefR := ⟨Pa.glo "_law_spread", "_law_spread", "_law_spread", defArgs s__law_spread, defBody s__law_spread, defScope s__law_spread, [], [], []⟩
def d__law_join : DefR := ⟨Pa.glo "_law_join", "_law_join", "_law_join", defArgs s__law_join, defBody s__law_join, defScope s__law_join, [], [], []⟩
def d__law_graph_of : DefR := ⟨Pa.glo "_law_graph_of", "_law_graph_of", "_law_graph_of", defArgs s__law_graph_of, defBody s__law_graph_of, defScope s__law_graph_of, [], [], []⟩
def d__law_read : DefR := ⟨Pa.glo "_law_read", "_law_read", "_law_read", defArgs s__law_read, defBody s__law_read, defScope s__law_read, [], [], []⟩
def d__law_spelling : DefR := ⟨Pa.glo "_law_spelling", "_law_spelling", "_law_spelling", defArgs s__law_spelling, defBody s__law_spelling, defScope s__law_spelling, [], [], []⟩
def d__law_meets : DefR := ⟨Pa.glo "_law_meets", "_law_meets", "_law_meets", defArgs s__law_meets, defBody s__law_meets, defScope s__law_meets, [], [], []⟩
def d__law_unique : DefR := ⟨Pa.glo "_law_unique", "_law_unique", "_law_unique", defArgs s__law_unique, defBody s__law_unique, defScope s__law_unique, [], [], []⟩
def d__law_machine_of : DefR := ⟨Pa.glo "_law_machine_of", "_law_machine_of", "_law_machine_of", defArgs s__law_machine_of, defBody s__law_machine_of, defScope s__law_machine_of, [], [], []⟩
def d__law_walk_on : DefR := ⟨Pa.glo "_law_walk_on", "_law_walk_on", "_law_walk_on", defArgs s__law_walk_on, defBody s__law_walk_on, defScope s__law_walk_on, [], [], []⟩
def d__law_fine : DefR := ⟨Pa.glo "_law_fine", "_law_fine", "_law_fine", defArgs s__law_fine, defBody s__law_fine, defScope s__law_fine, [], [], []⟩
def d_law : DefR := ⟨Pa.glo "law", "law", "law", defArgs s_law, defBody s_law, defScope s_law, [], [], []⟩
def hq0 : List Qn := [q0, q1, q2, q3, q4, q5, q6, q7, q8, q9, q10, q11, q12, q13, q14, q15, q16, q17, q18, q19, q20, q21, q22, q23, q24, q25, q26, q27, q28, q29]
def hq1 : List Qn := [q30, q31, q32, q33, q34, q35, q36, q37, q38, q39, q40, q41, q42, q43, q44, q45, q46, q47, q48, q49, q50, q51, q52, q53, q54, q55, q56, q57, q58, q59]
def hq2 : List Qn := [q60, q61, q62, q63, q64, q65, q66, q67, q68, q69, q70, q71, q72, q73, q74, q75, q76, q77, q78, q79, q80, q81, q82, q83, q84, q85, q86, q87, q88, q89]
def hq3 : List Qn := [q90, q91, q92, q93, q94, q95, q96, q97, q98, q99, q100, q101, q102, q103, q104, q105, q106, q107, q108, q109, q110, q111, q112, q113, q114, q115, q116, q117, q118]
def hQs : List Qn := hq0 ++ (hq1 ++ (hq2 ++ (hq3)))
theorem in_q0 : q0 ∈ hQs := List.mem_append_left _ (List.mem_of_getElem? (l := hq0) (i := 0) rfl)
theorem in_q1 : q1 ∈ hQs := List.mem_append_left _ (List.mem_of_getElem? (l := hq0) (i := 1) rfl)
theorem in_q2 : q2 ∈ hQs := List.mem_append_left _ (List.mem_of_getElem? (l := hq0) (i := 2) rfl)
theorem in_q3 : q3 ∈ hQs := List.mem_append_left _ (List.mem_of_getElem? (l := hq0) (i := 3) rfl)
theorem in_q4 : q4 ∈ hQs := List.mem_append_left _ (List.mem_of_getElem? (l := hq0) (i := 4) rfl)
theorem in_q5 : q5 ∈ hQs := List.mem_append_left _ (List.mem_of_getElem? (l := hq0) (i := 5) rfl)
theorem in_q6 : q6 ∈ hQs := List.mem_append_left _ (List.mem_of_getElem? (l := hq0) (i := 6) rfl)
theorem in_q7 : q7 ∈ hQs := List.mem_append_left _ (List.mem_of_getElem? (l := hq0) (i := 7) rfl)
theorem in_q8 : q8 ∈ hQs := List.mem_append_left _ (List.mem_of_getElem? (l := hq0) (i := 8) rfl)
theorem in_q9 : q9 ∈ hQs := List.mem_append_left _ (List.mem_of_getElem? (l := hq0) (i := 9) rfl)
theorem in_q10 : q10 ∈ hQs := List.mem_append_left _ (List.mem_of_getElem? (l := hq0) (i := 10) rfl)
theorem in_q11 : q11 ∈ hQs := List.mem_append_left _ (List.mem_of_getElem? (l := hq0) (i := 11) rfl)
theorem in_q12 : q12 ∈ hQs := List.mem_append_left _ (List.mem_of_getElem? (l := hq0) (i := 12) rfl)
theorem in_q13 : q13 ∈ hQs := List.mem_append_left _ (List.mem_of_getElem? (l := hq0) (i := 13) rfl)
theorem in_q14 : q14 ∈ hQs := List.mem_append_left _ (List.mem_of_getElem? (l := hq0) (i := 14) rfl)
theorem in_q15 : q15 ∈ hQs := List.mem_append_left _ (List.mem_of_getElem? (l := hq0) (i := 15) rfl)
theorem in_q16 : q16 ∈ hQs := List.mem_append_left _ (List.mem_of_getElem? (l := hq0) (i := 16) rfl)
theorem in_q17 : q17 ∈ hQs := List.mem_append_left _ (List.mem_of_getElem? (l := hq0) (i := 17) rfl)
theorem in_q18 : q18 ∈ hQs := List.mem_append_left _ (List.mem_of_getElem? (l := hq0) (i := 18) rfl)
theorem in_q19 : q19 ∈ hQs := List.mem_append_left _ (List.mem_of_getElem? (l := hq0) (i := 19) rfl)
theorem in_q20 : q20 ∈ hQs := List.mem_append_left _ (List.mem_of_getElem? (l := hq0) (i := 20) rfl)
theorem in_q21 : q21 ∈ hQs := List.mem_append_left _ (List.mem_of_getElem? (l := hq0) (i := 21) rfl)
theorem in_q22 : q22 ∈ hQs := List.mem_append_left _ (List.mem_of_getElem? (l := hq0) (i := 22) rfl)
theorem in_q23 : q23 ∈ hQs := List.mem_append_left _ (List.mem_of_getElem? (l := hq0) (i := 23) rfl)
theorem in_q24 : q24 ∈ hQs := List.mem_append_left _ (List.mem_of_getElem? (l := hq0) (i := 24) rfl)
theorem in_q25 : q25 ∈ hQs := List.mem_append_left _ (List.mem_of_getElem? (l := hq0) (i := 25) rfl)
theorem in_q26 : q26 ∈ hQs := List.mem_append_left _ (List.mem_of_getElem? (l := hq0) (i := 26) rfl)
theorem in_q27 : q27 ∈ hQs := List.mem_append_left _ (List.mem_of_getElem? (l := hq0) (i := 27) rfl)
theorem in_q28 : q28 ∈ hQs := List.mem_append_left _ (List.mem_of_getElem? (l := hq0) (i := 28) rfl)
theorem in_q29 : q29 ∈ hQs := List.mem_append_left _ (List.mem_of_getElem? (l := hq0) (i := 29) rfl)
theorem in_q30 : q30 ∈ hQs := List.mem_append_right _ (List.mem_append_left _ (List.mem_of_getElem? (l := hq1) (i := 0) rfl))
theorem in_q31 : q31 ∈ hQs := List.mem_append_right _ (List.mem_append_left _ (List.mem_of_getElem? (l := hq1) (i := 1) rfl))
theorem in_q32 : q32 ∈ hQs := List.mem_append_right _ (List.mem_append_left _ (List.mem_of_getElem? (l := hq1) (i := 2) rfl))
theorem in_q33 : q33 ∈ hQs := List.mem_append_right _ (List.mem_append_left _ (List.mem_of_getElem? (l := hq1) (i := 3) rfl))
theorem in_q34 : q34 ∈ hQs := List.mem_append_right _ (List.mem_append_left _ (List.mem_of_getElem? (l := hq1) (i := 4) rfl))
theorem in_q35 : q35 ∈ hQs := List.mem_append_right _ (List.mem_append_left _ (List.mem_of_getElem? (l := hq1) (i := 5) rfl))
theorem in_q36 : q36 ∈ hQs := List.mem_append_right _ (List.mem_append_left _ (List.mem_of_getElem? (l := hq1) (i := 6) rfl))
theorem in_q37 : q37 ∈ hQs := List.mem_append_right _ (List.mem_append_left _ (List.mem_of_getElem? (l := hq1) (i := 7) rfl))
theorem in_q38 : q38 ∈ hQs := List.mem_append_right _ (List.mem_append_left _ (List.mem_of_getElem? (l := hq1) (i := 8) rfl))
theorem in_q39 : q39 ∈ hQs := List.mem_append_right _ (List.mem_append_left _ (List.mem_of_getElem? (l := hq1) (i := 9) rfl))
theorem in_q40 : q40 ∈ hQs := List.mem_append_right _ (List.mem_append_left _ (List.mem_of_getElem? (l := hq1) (i := 10) rfl))
theorem in_q41 : q41 ∈ hQs := List.mem_append_right _ (List.mem_append_left _ (List.mem_of_getElem? (l := hq1) (i := 11) rfl))
theorem in_q42 : q42 ∈ hQs := List.mem_append_right _ (List.mem_append_left _ (List.mem_of_getElem? (l := hq1) (i := 12) rfl))
theorem in_q43 : q43 ∈ hQs := List.mem_append_right _ (List.mem_append_left _ (List.mem_of_getElem? (l := hq1) (i := 13) rfl))
theorem in_q44 : q44 ∈ hQs := List.mem_append_right _ (List.mem_append_left _ (List.mem_of_getElem? (l := hq1) (i := 14) rfl))
theorem in_q45 : q45 ∈ hQs := List.mem_append_right _ (List.mem_append_left _ (List.mem_of_getElem? (l := hq1) (i := 15) rfl))
theorem in_q46 : q46 ∈ hQs := List.mem_append_right _ (List.mem_append_left _ (List.mem_of_getElem? (l := hq1) (i := 16) rfl))
theorem in_q47 : q47 ∈ hQs := List.mem_append_right _ (List.mem_append_left _ (List.mem_of_getElem? (l := hq1) (i := 17) rfl))
theorem in_q48 : q48 ∈ hQs := List.mem_append_right _ (List.mem_append_left _ (List.mem_of_getElem? (l := hq1) (i := 18) rfl))
theorem in_q49 : q49 ∈ hQs := List.mem_append_right _ (List.mem_append_left _ (List.mem_of_getElem? (l := hq1) (i := 19) rfl))
theorem in_q50 : q50 ∈ hQs := List.mem_append_right _ (List.mem_append_left _ (List.mem_of_getElem? (l := hq1) (i := 20) rfl))
theorem in_q51 : q51 ∈ hQs := List.mem_append_right _ (List.mem_append_left _ (List.mem_of_getElem? (l := hq1) (i := 21) rfl))
theorem in_q52 : q52 ∈ hQs := List.mem_append_right _ (List.mem_append_left _ (List.mem_of_getElem? (l := hq1) (i := 22) rfl))
theorem in_q53 : q53 ∈ hQs := List.mem_append_right _ (List.mem_append_left _ (List.mem_of_getElem? (l := hq1) (i := 23) rfl))
theorem in_q54 : q54 ∈ hQs := List.mem_append_right _ (List.mem_append_left _ (List.mem_of_getElem? (l := hq1) (i := 24) rfl))
theorem in_q55 : q55 ∈ hQs := List.mem_append_right _ (List.mem_append_left _ (List.mem_of_getElem? (l := hq1) (i := 25) rfl))
theorem in_q56 : q56 ∈ hQs := List.mem_append_right _ (List.mem_append_left _ (List.mem_of_getElem? (l := hq1) (i := 26) rfl))
theorem in_q57 : q57 ∈ hQs := List.mem_append_right _ (List.mem_append_left _ (List.mem_of_getElem? (l := hq1) (i := 27) rfl))
theorem in_q58 : q58 ∈ hQs := List.mem_append_right _ (List.mem_append_left _ (List.mem_of_getElem? (l := hq1) (i := 28) rfl))
theorem in_q59 : q59 ∈ hQs := List.mem_append_right _ (List.mem_append_left _ (List.mem_of_getElem? (l := hq1) (i := 29) rfl))
theorem in_q60 : q60 ∈ hQs := List.mem_append_right _ (List.mem_append_right _ (List.mem_append_left _ (List.mem_of_getElem? (l := hq2) (i := 0) rfl)))
theorem in_q61 : q61 ∈ hQs := List.mem_append_right _ (List.mem_append_right _ (List.mem_append_left _ (List.mem_of_getElem? (l := hq2) (i := 1) rfl)))
theorem in_q62 : q62 ∈ hQs := List.mem_append_right _ (List.mem_append_right _ (List.mem_append_left _ (List.mem_of_getElem? (l := hq2) (i := 2) rfl)))
theorem in_q63 : q63 ∈ hQs := List.mem_append_right _ (List.mem_append_right _ (List.mem_append_left _ (List.mem_of_getElem? (l := hq2) (i := 3) rfl)))
theorem in_q64 : q64 ∈ hQs := List.mem_append_right _ (List.mem_append_right _ (List.mem_append_left _ (List.mem_of_getElem? (l := hq2) (i := 4) rfl)))
theorem in_q65 : q65 ∈ hQs := List.mem_append_right _ (List.mem_append_right _ (List.mem_append_left _ (List.mem_of_getElem? (l := hq2) (i := 5) rfl)))
theorem in_q66 : q66 ∈ hQs := List.mem_append_right _ (List.mem_append_right _ (List.mem_append_left _ (List.mem_of_getElem? (l := hq2) (i := 6) rfl)))
theorem in_q67 : q67 ∈ hQs := List.mem_append_right _ (List.mem_append_right _ (List.mem_append_left _ (List.mem_of_getElem? (l := hq2) (i := 7) rfl)))
theorem in_q68 : q68 ∈ hQs := List.mem_append_right _ (List.mem_append_right _ (List.mem_append_left _ (List.mem_of_getElem? (l := hq2) (i := 8) rfl)))
theorem in_q69 : q69 ∈ hQs := List.mem_append_right _ (List.mem_append_right _ (List.mem_append_left _ (List.mem_of_getElem? (l := hq2) (i := 9) rfl)))
theorem in_q70 : q70 ∈ hQs := List.mem_append_right _ (List.mem_append_right _ (List.mem_append_left _ (List.mem_of_getElem? (l := hq2) (i := 10) rfl)))
theorem in_q71 : q71 ∈ hQs := List.mem_append_right _ (List.mem_append_right _ (List.mem_append_left _ (List.mem_of_getElem? (l := hq2) (i := 11) rfl)))
theorem in_q72 : q72 ∈ hQs := List.mem_append_right _ (List.mem_append_right _ (List.mem_append_left _ (List.mem_of_getElem? (l := hq2) (i := 12) rfl)))
theorem in_q73 : q73 ∈ hQs := List.mem_append_right _ (List.mem_append_right _ (List.mem_append_left _ (List.mem_of_getElem? (l := hq2) (i := 13) rfl)))
theorem in_q74 : q74 ∈ hQs := List.mem_append_right _ (List.mem_append_right _ (List.mem_append_left _ (List.mem_of_getElem? (l := hq2) (i := 14) rfl)))
theorem in_q75 : q75 ∈ hQs := List.mem_append_right _ (List.mem_append_right _ (List.mem_append_left _ (List.mem_of_getElem? (l := hq2) (i := 15) rfl)))
theorem in_q76 : q76 ∈ hQs := List.mem_append_right _ (List.mem_append_right _ (List.mem_append_left _ (List.mem_of_getElem? (l := hq2) (i := 16) rfl)))
theorem in_q77 : q77 ∈ hQs := List.mem_append_right _ (List.mem_append_right _ (List.mem_append_left _ (List.mem_of_getElem? (l := hq2) (i := 17) rfl)))
theorem in_q78 : q78 ∈ hQs := List.mem_append_right _ (List.mem_append_right _ (List.mem_append_left _ (List.mem_of_getElem? (l := hq2) (i := 18) rfl)))
theorem in_q79 : q79 ∈ hQs := List.mem_append_right _ (List.mem_append_right _ (List.mem_append_left _ (List.mem_of_getElem? (l := hq2) (i := 19) rfl)))
theorem in_q80 : q80 ∈ hQs := List.mem_append_right _ (List.mem_append_right _ (List.mem_append_left _ (List.mem_of_getElem? (l := hq2) (i := 20) rfl)))
theorem in_q81 : q81 ∈ hQs := List.mem_append_right _ (List.mem_append_right _ (List.mem_append_left _ (List.mem_of_getElem? (l := hq2) (i := 21) rfl)))
theorem in_q82 : q82 ∈ hQs := List.mem_append_right _ (List.mem_append_right _ (List.mem_append_left _ (List.mem_of_getElem? (l := hq2) (i := 22) rfl)))
theorem in_q83 : q83 ∈ hQs := List.mem_append_right _ (List.mem_append_right _ (List.mem_append_left _ (List.mem_of_getElem? (l := hq2) (i := 23) rfl)))
theorem in_q84 : q84 ∈ hQs := List.mem_append_right _ (List.mem_append_right _ (List.mem_append_left _ (List.mem_of_getElem? (l := hq2) (i := 24) rfl)))
theorem in_q85 : q85 ∈ hQs := List.mem_append_right _ (List.mem_append_right _ (List.mem_append_left _ (List.mem_of_getElem? (l := hq2) (i := 25) rfl)))
theorem in_q86 : q86 ∈ hQs := List.mem_append_right _ (List.mem_append_right _ (List.mem_append_left _ (List.mem_of_getElem? (l := hq2) (i := 26) rfl)))
theorem in_q87 : q87 ∈ hQs := List.mem_append_right _ (List.mem_append_right _ (List.mem_append_left _ (List.mem_of_getElem? (l := hq2) (i := 27) rfl)))
theorem in_q88 : q88 ∈ hQs := List.mem_append_right _ (List.mem_append_right _ (List.mem_append_left _ (List.mem_of_getElem? (l := hq2) (i := 28) rfl)))
theorem in_q89 : q89 ∈ hQs := List.mem_append_right _ (List.mem_append_right _ (List.mem_append_left _ (List.mem_of_getElem? (l := hq2) (i := 29) rfl)))
theorem in_q90 : q90 ∈ hQs := List.mem_append_right _ (List.mem_append_right _ (List.mem_append_right _ (List.mem_of_getElem? (l := hq3) (i := 0) rfl)))
theorem in_q91 : q91 ∈ hQs := List.mem_append_right _ (List.mem_append_right _ (List.mem_append_right _ (List.mem_of_getElem? (l := hq3) (i := 1) rfl)))
theorem in_q92 : q92 ∈ hQs := List.mem_append_right _ (List.mem_append_right _ (List.mem_append_right _ (List.mem_of_getElem? (l := hq3) (i := 2) rfl)))
theorem in_q93 : q93 ∈ hQs := List.mem_append_right _ (List.mem_append_right _ (List.mem_append_right _ (List.mem_of_getElem? (l := hq3) (i := 3) rfl)))
theorem in_q94 : q94 ∈ hQs := List.mem_append_right _ (List.mem_append_right _ (List.mem_append_right _ (List.mem_of_getElem? (l := hq3) (i := 4) rfl)))
theorem in_q95 : q95 ∈ hQs := List.mem_append_right _ (List.mem_append_right _ (List.mem_append_right _ (List.mem_of_getElem? (l := hq3) (i := 5) rfl)))
theorem in_q96 : q96 ∈ hQs := List.mem_append_right _ (List.mem_append_right _ (List.mem_append_right _ (List.mem_of_getElem? (l := hq3) (i := 6) rfl)))
theorem in_q97 : q97 ∈ hQs := List.mem_append_right _ (List.mem_append_right _ (List.mem_append_right _ (List.mem_of_getElem? (l := hq3) (i := 7) rfl)))
theorem in_q98 : q98 ∈ hQs := List.mem_append_right _ (List.mem_append_right _ (List.mem_append_right _ (List.mem_of_getElem? (l := hq3) (i := 8) rfl)))
theorem in_q99 : q99 ∈ hQs := List.mem_append_right _ (List.mem_append_right _ (List.mem_append_right _ (List.mem_of_getElem? (l := hq3) (i := 9) rfl)))
theorem in_q100 : q100 ∈ hQs := List.mem_append_right _ (List.mem_append_right _ (List.mem_append_right _ (List.mem_of_getElem? (l := hq3) (i := 10) rfl)))
theorem in_q101 : q101 ∈ hQs := List.mem_append_right _ (List.mem_append_right _ (List.mem_append_right _ (List.mem_of_getElem? (l := hq3) (i := 11) rfl)))
theorem in_q102 : q102 ∈ hQs := List.mem_append_right _ (List.mem_append_right _ (List.mem_append_right _ (List.mem_of_getElem? (l := hq3) (i := 12) rfl)))
theorem in_q103 : q103 ∈ hQs := List.mem_append_right _ (List.mem_append_right _ (List.mem_append_right _ (List.mem_of_getElem? (l := hq3) (i := 13) rfl)))
theorem in_q104 : q104 ∈ hQs := List.mem_append_right _ (List.mem_append_right _ (List.mem_append_right _ (List.mem_of_getElem? (l := hq3) (i := 14) rfl)))
theorem in_q105 : q105 ∈ hQs := List.mem_append_right _ (List.mem_append_right _ (List.mem_append_right _ (List.mem_of_getElem? (l := hq3) (i := 15) rfl)))
theorem in_q106 : q106 ∈ hQs := List.mem_append_right _ (List.mem_append_right _ (List.mem_append_right _ (List.mem_of_getElem? (l := hq3) (i := 16) rfl)))
theorem in_q107 : q107 ∈ hQs := List.mem_append_right _ (List.mem_append_right _ (List.mem_append_right _ (List.mem_of_getElem? (l := hq3) (i := 17) rfl)))
theorem in_q108 : q108 ∈ hQs := List.mem_append_right _ (List.mem_append_right _ (List.mem_append_right _ (List.mem_of_getElem? (l := hq3) (i := 18) rfl)))
theorem in_q109 : q109 ∈ hQs := List.mem_append_right _ (List.mem_append_right _ (List.mem_append_right _ (List.mem_of_getElem? (l := hq3) (i := 19) rfl)))
theorem in_q110 : q110 ∈ hQs := List.mem_append_right _ (List.mem_append_right _ (List.mem_append_right _ (List.mem_of_getElem? (l := hq3) (i := 20) rfl)))
theorem in_q111 : q111 ∈ hQs := List.mem_append_right _ (List.mem_append_right _ (List.mem_append_right _ (List.mem_of_getElem? (l := hq3) (i := 21) rfl)))
theorem in_q112 : q112 ∈ hQs := List.mem_append_right _ (List.mem_append_right _ (List.mem_append_right _ (List.mem_of_getElem? (l := hq3) (i := 22) rfl)))
theorem in_q113 : q113 ∈ hQs := List.mem_append_right _ (List.mem_append_right _ (List.mem_append_right _ (List.mem_of_getElem? (l := hq3) (i := 23) rfl)))
theorem in_q114 : q114 ∈ hQs := List.mem_append_right _ (List.mem_append_right _ (List.mem_append_right _ (List.mem_of_getElem? (l := hq3) (i := 24) rfl)))
theorem in_q115 : q115 ∈ hQs := List.mem_append_right _ (List.mem_append_right _ (List.mem_append_right _ (List.mem_of_getElem? (l := hq3) (i := 25) rfl)))
theorem in_q116 : q116 ∈ hQs := List.mem_append_right _ (List.mem_append_right _ (List.mem_append_right _ (List.mem_of_getElem? (l := hq3) (i := 26) rfl)))
theorem in_q117 : q117 ∈ hQs := List.mem_append_right _ (List.mem_append_right _ (List.mem_append_right _ (List.mem_of_getElem? (l := hq3) (i := 27) rfl)))
theorem in_q118 : q118 ∈ hQs := List.mem_append_right _ (List.mem_append_right _ (List.mem_append_right _ (List.mem_of_getElem? (l := hq3) (i := 28) rfl)))
def hd0 : List DefR := [d_BadSign_init, d_BadHeight_init, d_check_text, d_decoded, d_check_height, d_Row_init, d_Row_signs, d_Row_iter, d__closures_of, d_Machine_closed, d_Machine_reads_of_edges, d_Machine_init, d_Machine_states, d_Machine_last, d_Machine_edges, d_Machine_free, d__after_pairs, d_Machine_after_row, d_Machine_after_signs, d__listed, d_Machine_ends, d_Machine_contains, d__law_pool, d__law_pick, d__law_alphabet, d__law_is_int, d__law_as_row, d__law_odd_sign, d__law_spread, d__law_join]
def hd1 : List DefR := [d__law_graph_of, d__law_read, d__law_spelling, d__law_meets, d__law_unique, d__law_machine_of, d__law_walk_on, d__law_fine, d_law]
def hDs : List DefR := hd0 ++ (hd1)
theorem in_d_BadSign_init : d_BadSign_init ∈ hDs := List.mem_append_left _ (List.mem_of_getElem? (l := hd0) (i := 0) rfl)
theorem in_d_BadHeight_init : d_BadHeight_init ∈ hDs := List.mem_append_left _ (List.mem_of_getElem? (l := hd0) (i := 1) rfl)
theorem in_d_check_text : d_check_text ∈ hDs := List.mem_append_left _ (List.mem_of_getElem? (l := hd0) (i := 2) rfl)
theorem in_d_decoded : d_decoded ∈ hDs := List.mem_append_left _ (List.mem_of_getElem? (l := hd0) (i := 3) rfl)
theorem in_d_check_height : d_check_height ∈ hDs := List.mem_append_left _ (List.mem_of_getElem? (l := hd0) (i := 4) rfl)
theorem in_d_Row_init : d_Row_init ∈ hDs := List.mem_append_left _ (List.mem_of_getElem? (l := hd0) (i := 5) rfl)
theorem in_d_Row_signs : d_Row_signs ∈ hDs := List.mem_append_left _ (List.mem_of_getElem? (l := hd0) (i := 6) rfl)
theorem in_d_Row_iter : d_Row_iter ∈ hDs := List.mem_append_left _ (List.mem_of_getElem? (l := hd0) (i := 7) rfl)
theorem in_d__closures_of : d__closures_of ∈ hDs := List.mem_append_left _ (List.mem_of_getElem? (l := hd0) (i := 8) rfl)
theorem in_d_Machine_closed : d_Machine_closed ∈ hDs := List.mem_append_left _ (List.mem_of_getElem? (l := hd0) (i := 9) rfl)
theorem in_d_Machine_reads_of_edges : d_Machine_reads_of_edges ∈ hDs := List.mem_append_left _ (List.mem_of_getElem? (l := hd0) (i := 10) rfl)
theorem in_d_Machine_init : d_Machine_init ∈ hDs := List.mem_append_left _ (List.mem_of_getElem? (l := hd0) (i := 11) rfl)
theorem in_d_Machine_states : d_Machine_states ∈ hDs := List.mem_append_left _ (List.mem_of_getElem? (l := hd0) (i := 12) rfl)
theorem in_d_Machine_last : d_Machine_last ∈ hDs := List.mem_append_left _ (List.mem_of_getElem? (l := hd0) (i := 13) rfl)
theorem in_d_Machine_edges : d_Machine_edges ∈ hDs := List.mem_append_left _ (List.mem_of_getElem? (l := hd0) (i := 14) rfl)
theorem in_d_Machine_free : d_Machine_free ∈ hDs := List.mem_append_left _ (List.mem_of_getElem? (l := hd0) (i := 15) rfl)
theorem in_d__after_pairs : d__after_pairs ∈ hDs := List.mem_append_left _ (List.mem_of_getElem? (l := hd0) (i := 16) rfl)
theorem in_d_Machine_after_row : d_Machine_after_row ∈ hDs := List.mem_append_left _ (List.mem_of_getElem? (l := hd0) (i := 17) rfl)
theorem in_d_Machine_after_signs : d_Machine_after_signs ∈ hDs := List.mem_append_left _ (List.mem_of_getElem? (l := hd0) (i := 18) rfl)
theorem in_d__listed : d__listed ∈ hDs := List.mem_append_left _ (List.mem_of_getElem? (l := hd0) (i := 19) rfl)
theorem in_d_Machine_ends : d_Machine_ends ∈ hDs := List.mem_append_left _ (List.mem_of_getElem? (l := hd0) (i := 20) rfl)
theorem in_d_Machine_contains : d_Machine_contains ∈ hDs := List.mem_append_left _ (List.mem_of_getElem? (l := hd0) (i := 21) rfl)
theorem in_d__law_pool : d__law_pool ∈ hDs := List.mem_append_left _ (List.mem_of_getElem? (l := hd0) (i := 22) rfl)
theorem in_d__law_pick : d__law_pick ∈ hDs := List.mem_append_left _ (List.mem_of_getElem? (l := hd0) (i := 23) rfl)
theorem in_d__law_alphabet : d__law_alphabet ∈ hDs := List.mem_append_left _ (List.mem_of_getElem? (l := hd0) (i := 24) rfl)
theorem in_d__law_is_int : d__law_is_int ∈ hDs := List.mem_append_left _ (List.mem_of_getElem? (l := hd0) (i := 25) rfl)
theorem in_d__law_as_row : d__law_as_row ∈ hDs := List.mem_append_left _ (List.mem_of_getElem? (l := hd0) (i := 26) rfl)
theorem in_d__law_odd_sign : d__law_odd_sign ∈ hDs := List.mem_append_left _ (List.mem_of_getElem? (l := hd0) (i := 27) rfl)
theorem in_d__law_spread : d__law_spread ∈ hDs := List.mem_append_left _ (List.mem_of_getElem? (l := hd0) (i := 28) rfl)
theorem in_d__law_join : d__law_join ∈ hDs := List.mem_append_left _ (List.mem_of_getElem? (l := hd0) (i := 29) rfl)
theorem in_d__law_graph_of : d__law_graph_of ∈ hDs := List.mem_append_right _ (List.mem_of_getElem? (l := hd1) (i := 0) rfl)
theorem in_d__law_read : d__law_read ∈ hDs := List.mem_append_right _ (List.mem_of_getElem? (l := hd1) (i := 1) rfl)
theorem in_d__law_spelling : d__law_spelling ∈ hDs := List.mem_append_right _ (List.mem_of_getElem? (l := hd1) (i := 2) rfl)
theorem in_d__law_meets : d__law_meets ∈ hDs := List.mem_append_right _ (List.mem_of_getElem? (l := hd1) (i := 3) rfl)
theorem in_d__law_unique : d__law_unique ∈ hDs := List.mem_append_right _ (List.mem_of_getElem? (l := hd1) (i := 4) rfl)
theorem in_d__law_machine_of : d__law_machine_of ∈ hDs := List.mem_append_right _ (List.mem_of_getElem? (l := hd1) (i := 5) rfl)
theorem in_d__law_walk_on : d__law_walk_on ∈ hDs := List.mem_append_right _ (List.mem_of_getElem? (l := hd1) (i := 6) rfl)
theorem in_d__law_fine : d__law_fine ∈ hDs := List.mem_append_right _ (List.mem_of_getElem? (l := hd1) (i := 7) rfl)
theorem in_d_law : d_law ∈ hDs := List.mem_append_right _ (List.mem_of_getElem? (l := hd1) (i := 8) rfl)
def hn0 : List Str := ["_wall", "RiseError", "BadSign", "NoPlace", "BadHeight", "Uneven", "decoded", "is_sign", "check_text", "check_height", "Row", "_row_of", "Machine", "_after_pairs", "_listed", "_closures_of", "_law_pool", "_law_pick", "_law_alphabet", "_law_is_int", "_law_graph_of", "_law_spread", "_law_read", "_law_as_row", "_law_odd_sign", "_law_machine_of", "_law_join", "_law_unique", "_law_walk_on", "_law_spelling"]
def hn1 : List Str := ["_law_meets", "_law_fine", "SIGNS", "GREATEST_HEIGHT"]
def hNs : List Str := hn0 ++ (hn1)
def hx0 : List Str := ["BadSign", "BadHeight", "Uneven", "Row", "Machine", "check_text", "decoded", "check_height", "_closures_of", "_after_pairs", "_listed", "_law_pool", "_law_pick", "_law_alphabet", "_law_is_int", "_law_as_row", "_law_odd_sign", "_law_spread", "_law_join", "_law_graph_of", "_law_read", "_law_spelling", "_law_meets", "_law_unique", "_law_machine_of", "_law_walk_on", "_law_fine", "law"]
def hXs : List Str := hx0
theorem all_mk {w : World} {K : PySem.W.Frag} {h : Heap} {mg : Str → Option Value} {fa : Addr} (X : K.In h) (G : h.Ns mainGlobals mg) (hfa : mg "law" = some (.ref fa)) (c : SaysR hQs hDs K)
    : ∃ fd : FuncData, (∀ (s : Shared) (u : Value), BindsTo s fd ⟨[u], []⟩ [("_law_script", u)]) ∧ ∀ base : Heap, K.In base → base.Ns mainGlobals mg → FnOk prg w K mg base (L2.CX prg w) 12 fa fd ["_law_script"] (spLaw K) := by
  have e := hfa.symm.trans (He.glo_ok X G (c.yes (q := q118) (in_q118)))
  have e2 : (Pa.glo "law").at K = fa := by cases e; rfl
  obtain ⟨oc_BadSign_init, kV_BadSign_init, doc_BadSign_init, pm_BadSign_init, ct_BadSign_init, ccl_BadSign_init, cl_BadSign_init, od_BadSign_init, an_BadSign_init, cdd_BadSign_init, cld_BadSign_init, osl_BadSign_init, ccs_BadSign_init, csl_BadSign_init, vs_BadSign_init, file_BadSign_init, tf_BadSign_init, cc_BadSign_init, cda_BadSign_init, y1_BadSign_init, y2_BadSign_init, y3_BadSign_init, y4_BadSign_init, y5_BadSign_init, y6_BadSign_init⟩ := exiB_ok (P := prg) (d := d_BadSign_init) (C := He.ga K "BadSign") (c.val in_d_BadSign_init) (c.yes (q := q27) (in_q27))
  obtain ⟨oc_BadHeight_init, kV_BadHeight_init, doc_BadHeight_init, pm_BadHeight_init, ct_BadHeight_init, ccl_BadHeight_init, cl_BadHeight_init, od_BadHeight_init, an_BadHeight_init, cdd_BadHeight_init, cld_BadHeight_init, osl_BadHeight_init, ccs_BadHeight_init, csl_BadHeight_init, vs_BadHeight_init, file_BadHeight_init, tf_BadHeight_init, cc_BadHeight_init, cda_BadHeight_init, y1_BadHeight_init, y2_BadHeight_init, y3_BadHeight_init, y4_BadHeight_init, y5_BadHeight_init, y6_BadHeight_init⟩ := exiB_ok (P := prg) (d := d_BadHeight_init) (C := He.ga K "BadHeight") (c.val in_d_BadHeight_init) (c.yes (q := q43) (in_q43))
  obtain ⟨fd_check_text, FD_check_text⟩ := DefR.funD (d := d_check_text) (c.val in_d_check_text) (c.okd in_d_check_text) rfl
  obtain ⟨fd_decoded, FD_decoded⟩ := DefR.funD (d := d_decoded) (c.val in_d_decoded) (c.okd in_d_decoded) rfl
  obtain ⟨fd_check_height, FD_check_height⟩ := DefR.funD (d := d_check_height) (c.val in_d_check_height) (c.okd in_d_check_height) rfl
  obtain ⟨fd_Row_init, FD_Row_init⟩ := DefR.funD (d := d_Row_init) (c.val in_d_Row_init) (c.okd in_d_Row_init) rfl
  obtain ⟨fd_Row_signs, FD_Row_signs⟩ := DefR.funD (d := d_Row_signs) (c.val in_d_Row_signs) (c.okd in_d_Row_signs) rfl
  obtain ⟨fd_Row_iter, FD_Row_iter⟩ := DefR.funD (d := d_Row_iter) (c.val in_d_Row_iter) (c.okd in_d_Row_iter) rfl
  obtain ⟨fd__closures_of, FD__closures_of⟩ := DefR.funD (d := d__closures_of) (c.val in_d__closures_of) (c.okd in_d__closures_of) rfl
  obtain ⟨fd_Machine_closed, FD_Machine_closed⟩ := DefR.funD (d := d_Machine_closed) (c.val in_d_Machine_closed) (c.okd in_d_Machine_closed) rfl
  obtain ⟨fd_Machine_reads_of_edges, FD_Machine_reads_of_edges⟩ := DefR.funD (d := d_Machine_reads_of_edges) (c.val in_d_Machine_reads_of_edges) (c.okd in_d_Machine_reads_of_edges) rfl
  obtain ⟨fd_Machine_init, FD_Machine_init⟩ := DefR.funD (d := d_Machine_init) (c.val in_d_Machine_init) (c.okd in_d_Machine_init) rfl
  obtain ⟨fd_Machine_states, FD_Machine_states⟩ := DefR.funD (d := d_Machine_states) (c.val in_d_Machine_states) (c.okd in_d_Machine_states) rfl
  obtain ⟨fd_Machine_last, FD_Machine_last⟩ := DefR.funD (d := d_Machine_last) (c.val in_d_Machine_last) (c.okd in_d_Machine_last) rfl
  obtain ⟨fd_Machine_edges, FD_Machine_edges⟩ := DefR.funD (d := d_Machine_edges) (c.val in_d_Machine_edges) (c.okd in_d_Machine_edges) rfl
  obtain ⟨fd_Machine_free, FD_Machine_free⟩ := DefR.funD (d := d_Machine_free) (c.val in_d_Machine_free) (c.okd in_d_Machine_free) rfl
  obtain ⟨fd__after_pairs, FD__after_pairs⟩ := DefR.funD (d := d__after_pairs) (c.val in_d__after_pairs) (c.okd in_d__after_pairs) rfl
  obtain ⟨fd_Machine_after_row, FD_Machine_after_row⟩ := DefR.funD (d := d_Machine_after_row) (c.val in_d_Machine_after_row) (c.okd in_d_Machine_after_row) rfl
  obtain ⟨fd_Machine_after_signs, FD_Machine_after_signs⟩ := DefR.funD (d := d_Machine_after_signs) (c.val in_d_Machine_after_signs) (c.okd in_d_Machine_after_signs) rfl
  obtain ⟨fd__listed, FD__listed⟩ := DefR.funD (d := d__listed) (c.val in_d__listed) (c.okd in_d__listed) rfl
  obtain ⟨fd_Machine_ends, FD_Machine_ends⟩ := DefR.funD (d := d_Machine_ends) (c.val in_d_Machine_ends) (c.okd in_d_Machine_ends) rfl
  obtain ⟨fd_Machine_contains, FD_Machine_contains⟩ := DefR.funD (d := d_Machine_contains) (c.val in_d_Machine_contains) (c.okd in_d_Machine_contains) rfl
  obtain ⟨fd__law_pool, FD__law_pool⟩ := DefR.funD (d := d__law_pool) (c.val in_d__law_pool) (c.okd in_d__law_pool) rfl
  obtain ⟨fd__law_pick, FD__law_pick⟩ := DefR.funD (d := d__law_pick) (c.val in_d__law_pick) (c.okd in_d__law_pick) rfl
  obtain ⟨fd__law_alphabet, FD__law_alphabet⟩ := DefR.funD (d := d__law_alphabet) (c.val in_d__law_alphabet) (c.okd in_d__law_alphabet) rfl
  obtain ⟨fd__law_is_int, FD__law_is_int⟩ := DefR.funD (d := d__law_is_int) (c.val in_d__law_is_int) (c.okd in_d__law_is_int) rfl
  obtain ⟨fd__law_as_row, FD__law_as_row⟩ := DefR.funD (d := d__law_as_row) (c.val in_d__law_as_row) (c.okd in_d__law_as_row) rfl
  obtain ⟨fd__law_odd_sign, FD__law_odd_sign⟩ := DefR.funD (d := d__law_odd_sign) (c.val in_d__law_odd_sign) (c.okd in_d__law_odd_sign) rfl
  obtain ⟨fd__law_spread, FD__law_spread⟩ := DefR.funD (d := d__law_spread) (c.val in_d__law_spread) (c.okd in_d__law_spread) rfl
  obtain ⟨fd__law_join, FD__law_join⟩ := DefR.funD (d := d__law_join) (c.val in_d__law_join) (c.okd in_d__law_join) rfl
  obtain ⟨fd__law_graph_of, FD__law_graph_of⟩ := DefR.funD (d := d__law_graph_of) (c.val in_d__law_graph_of) (c.okd in_d__law_graph_of) rfl
  obtain ⟨fd__law_read, FD__law_read⟩ := DefR.funD (d := d__law_read) (c.val in_d__law_read) (c.okd in_d__law_read) rfl
  obtain ⟨fd__law_spelling, FD__law_spelling⟩ := DefR.funD (d := d__law_spelling) (c.val in_d__law_spelling) (c.okd in_d__law_spelling) rfl
  obtain ⟨fd__law_meets, FD__law_meets⟩ := DefR.funD (d := d__law_meets) (c.val in_d__law_meets) (c.okd in_d__law_meets) rfl
  obtain ⟨fd__law_unique, FD__law_unique⟩ := DefR.funD (d := d__law_unique) (c.val in_d__law_unique) (c.okd in_d__law_unique) rfl
  obtain ⟨fd__law_machine_of, FD__law_machine_of⟩ := DefR.funD (d := d__law_machine_of) (c.val in_d__law_machine_of) (c.okd in_d__law_machine_of) rfl
  obtain ⟨fd__law_walk_on, FD__law_walk_on⟩ := DefR.funD (d := d__law_walk_on) (c.val in_d__law_walk_on) (c.okd in_d__law_walk_on) rfl
  obtain ⟨fd__law_fine, FD__law_fine⟩ := DefR.funD (d := d__law_fine) (c.val in_d__law_fine) (c.okd in_d__law_fine) rfl
  obtain ⟨fd_law, FD_law⟩ := DefR.funD (d := d_law) (c.val in_d_law) (c.okd in_d_law) rfl
  let T : Txt K mg := {
    n_abs := He.free_ok X G (c.yes (q := q0) (in_q0))
    n_bool := He.free_ok X G (c.yes (q := q1) (in_q1))
    n_bytes := He.free_ok X G (c.yes (q := q2) (in_q2))
    n_enumerate := He.free_ok X G (c.yes (q := q3) (in_q3))
    n_int := He.free_ok X G (c.yes (q := q4) (in_q4))
    n_isinstance := He.free_ok X G (c.yes (q := q5) (in_q5))
    n_iter := He.free_ok X G (c.yes (q := q6) (in_q6))
    n_len := He.free_ok X G (c.yes (q := q7) (in_q7))
    n_list := He.free_ok X G (c.yes (q := q8) (in_q8))
    n_property := He.free_ok X G (c.yes (q := q9) (in_q9))
    n_range := He.free_ok X G (c.yes (q := q10) (in_q10))
    n_set := He.free_ok X G (c.yes (q := q11) (in_q11))
    n_sorted := He.free_ok X G (c.yes (q := q12) (in_q12))
    n_str := He.free_ok X G (c.yes (q := q13) (in_q13))
    n_sum := He.free_ok X G (c.yes (q := q14) (in_q14))
    n_tuple := He.free_ok X G (c.yes (q := q15) (in_q15))
    n_zip := He.free_ok X G (c.yes (q := q16) (in_q16))
    k_SIGNS := He.str_ok X G (c.yes (q := q17) (in_q17))
    k_GREATEST_HEIGHT := He.int_ok X G (c.yes (q := q18) (in_q18))
    c_BadSign := He.ga K "BadSign"
    m_BadSign := He.glo_ok X G (c.yes (q := q19) (in_q19))
    o_BadSign := ⟨oexB_ok (c.yes (q := q22) (in_q22)), He.eqO_ok (c.yes (q := q23) (in_q23)), of_decide_eq_true (c.yes (q := q21) (in_q21)), of_decide_eq_true (c.yes (q := q24) (in_q24)), (c.yes (q := q25) (in_q25))⟩
    x_BadSign := ⟨xfB_ok (c.yes (q := q26) (in_q26)), He.eqO_ok (c.yes (q := q20) (in_q20))⟩
    f_BadSign_init := (Pa.meth "BadSign" "__init__").at K
    fd_BadSign_init := _
    i_BadSign := He.eqO_ok (c.yes (q := q28) (in_q28))
    t_BadSign := of_decide_eq_true (c.yes (q := q29) (in_q29))
    F_BadSign_init := ⟨⟨_, oc_BadSign_init, kV_BadSign_init, doc_BadSign_init, pm_BadSign_init, ct_BadSign_init, ccl_BadSign_init, cl_BadSign_init, od_BadSign_init, an_BadSign_init, cdd_BadSign_init, cld_BadSign_init, osl_BadSign_init, ccs_BadSign_init, csl_BadSign_init, vs_BadSign_init, file_BadSign_init, tf_BadSign_init, cc_BadSign_init, cda_BadSign_init, rfl, y1_BadSign_init, y2_BadSign_init, y3_BadSign_init, y4_BadSign_init, y5_BadSign_init, y6_BadSign_init⟩, He.eqO_ok (c.yes (q := q30) (in_q30)), He.free_ok X G (c.yes (q := q31) (in_q31)), He.eqO_ok (c.yes (q := q32) (in_q32)), of_decide_eq_true (c.yes (q := q33) (in_q33)), of_decide_eq_true (c.yes (q := q34) (in_q34)), He.eqO_ok (c.yes (q := q20) (in_q20)), by rfl⟩
    b_BadSign_init := .all fun us hl => match us, hl with | [_, _], _ => rfl
    c_BadHeight := He.ga K "BadHeight"
    m_BadHeight := He.glo_ok X G (c.yes (q := q35) (in_q35))
    o_BadHeight := ⟨oexB_ok (c.yes (q := q38) (in_q38)), He.eqO_ok (c.yes (q := q39) (in_q39)), of_decide_eq_true (c.yes (q := q37) (in_q37)), of_decide_eq_true (c.yes (q := q40) (in_q40)), (c.yes (q := q41) (in_q41))⟩
    x_BadHeight := ⟨xfB_ok (c.yes (q := q42) (in_q42)), He.eqO_ok (c.yes (q := q36) (in_q36))⟩
    f_BadHeight_init := (Pa.meth "BadHeight" "__init__").at K
    fd_BadHeight_init := _
    i_BadHeight := He.eqO_ok (c.yes (q := q44) (in_q44))
    t_BadHeight := of_decide_eq_true (c.yes (q := q45) (in_q45))
    F_BadHeight_init := ⟨⟨_, oc_BadHeight_init, kV_BadHeight_init, doc_BadHeight_init, pm_BadHeight_init, ct_BadHeight_init, ccl_BadHeight_init, cl_BadHeight_init, od_BadHeight_init, an_BadHeight_init, cdd_BadHeight_init, cld_BadHeight_init, osl_BadHeight_init, ccs_BadHeight_init, csl_BadHeight_init, vs_BadHeight_init, file_BadHeight_init, tf_BadHeight_init, cc_BadHeight_init, cda_BadHeight_init, rfl, y1_BadHeight_init, y2_BadHeight_init, y3_BadHeight_init, y4_BadHeight_init, y5_BadHeight_init, y6_BadHeight_init⟩, He.eqO_ok (c.yes (q := q30) (in_q30)), He.free_ok X G (c.yes (q := q31) (in_q31)), He.eqO_ok (c.yes (q := q46) (in_q46)), of_decide_eq_true (c.yes (q := q47) (in_q47)), of_decide_eq_true (c.yes (q := q48) (in_q48)), He.eqO_ok (c.yes (q := q36) (in_q36)), by rfl⟩
    b_BadHeight_init := .all fun us hl => match us, hl with | [_, _], _ => rfl
    c_Uneven := He.ga K "Uneven"
    m_Uneven := He.glo_ok X G (c.yes (q := q49) (in_q49))
    o_Uneven := (He.exc_ok (c.yes (q := q50) (in_q50))).1
    kp_Uneven := (He.exc_ok (c.yes (q := q50) (in_q50))).2.1
    r_Uneven := (He.exc_ok (c.yes (q := q50) (in_q50))).2.2.1
    t_Uneven := (He.exc_ok (c.yes (q := q50) (in_q50))).2.2.2
    em_BadSign_BadSign := He.exm_ok (c.yes (q := q51) (in_q51))
    em_BadSign_BadHeight := He.exm_ok (c.yes (q := q52) (in_q52))
    em_BadSign_Uneven := He.exm_ok (c.yes (q := q53) (in_q53))
    em_BadHeight_BadSign := He.exm_ok (c.yes (q := q54) (in_q54))
    em_BadHeight_BadHeight := He.exm_ok (c.yes (q := q55) (in_q55))
    em_BadHeight_Uneven := He.exm_ok (c.yes (q := q56) (in_q56))
    em_Uneven_BadSign := He.exm_ok (c.yes (q := q57) (in_q57))
    em_Uneven_BadHeight := He.exm_ok (c.yes (q := q58) (in_q58))
    em_Uneven_Uneven := He.exm_ok (c.yes (q := q59) (in_q59))
    c_Row := He.ga K "Row"
    m_Row := He.glo_ok X G (c.yes (q := q60) (in_q60))
    cl_Row := He.cls_ok (c.yes (q := q61) (in_q61))
    mk_Row := (c.yes (q := q62) (in_q62))
    kp_Row := (c.yes (q := q63) (in_q63))
    is_Row := insB_ok (c.yes (q := q64) (in_q64)) (He.cls_ok (c.yes (q := q61) (in_q61)))
    sf_Row := (c.yes (q := q65) (in_q65))
    nsq_Row := (c.yes (q := q66) (in_q66))
    fx_Row_kstr := of_decide_eq_true (c.yes (q := q67) (in_q67))
    na_Row__pairs := He.noat_ok (c.yes (q := q68) (in_q68))
    c_Machine := He.ga K "Machine"
    m_Machine := He.glo_ok X G (c.yes (q := q69) (in_q69))
    cl_Machine := He.cls_ok (c.yes (q := q70) (in_q70))
    mk_Machine := (c.yes (q := q71) (in_q71))
    kp_Machine := (c.yes (q := q72) (in_q72))
    is_Machine := insB_ok (c.yes (q := q73) (in_q73)) (He.cls_ok (c.yes (q := q70) (in_q70)))
    sf_Machine := (c.yes (q := q74) (in_q74))
    na_Machine__states := He.noat_ok (c.yes (q := q75) (in_q75))
    na_Machine__last := He.noat_ok (c.yes (q := q76) (in_q76))
    na_Machine__edges := He.noat_ok (c.yes (q := q77) (in_q77))
    na_Machine__free := He.noat_ok (c.yes (q := q78) (in_q78))
    na_Machine__closures := He.noat_ok (c.yes (q := q79) (in_q79))
    na_Machine__reads := He.noat_ok (c.yes (q := q80) (in_q80))
    na_Machine__final := He.noat_ok (c.yes (q := q81) (in_q81))
    f_check_text := (Pa.glo "check_text").at K
    fd_check_text := fd_check_text
    F_check_text := FunD.fun (st := s_check_text) FD_check_text
    b_check_text := (FunD.fun (st := s_check_text) FD_check_text).binds (ps := P_check_text) fun _ _ _ _ _ _ us hl => match us, hl with | [_], _ => rfl
    m_check_text := He.glo_ok X G (c.yes (q := q82) (in_q82))
    f_decoded := (Pa.glo "decoded").at K
    fd_decoded := fd_decoded
    F_decoded := FunD.fun (st := s_decoded) FD_decoded
    b_decoded := (FunD.fun (st := s_decoded) FD_decoded).binds (ps := P_decoded) fun _ _ _ _ _ _ us hl => match us, hl with | [_], _ => rfl
    m_decoded := He.glo_ok X G (c.yes (q := q83) (in_q83))
    f_check_height := (Pa.glo "check_height").at K
    fd_check_height := fd_check_height
    F_check_height := FunD.fun (st := s_check_height) FD_check_height
    b_check_height := (FunD.fun (st := s_check_height) FD_check_height).binds (ps := P_check_height) fun _ _ _ _ _ _ us hl => match us, hl with | [_, _], _ => rfl
    m_check_height := He.glo_ok X G (c.yes (q := q84) (in_q84))
    f_Row_init := (Pa.meth "Row" "__init__").at K
    fd_Row_init := fd_Row_init
    D_Row_init := FD_Row_init
    kp_Row_init := FD_Row_init.kp
    M_Row_init := He.meth_ok (c.yes (q := q85) (in_q85))
    f_Row_signs := (Pa.prop "Row" "signs").at K
    fd_Row_signs := fd_Row_signs
    F_Row_signs := FunD.fun (st := s_Row_signs) FD_Row_signs
    b_Row_signs := (FunD.fun (st := s_Row_signs) FD_Row_signs).binds (ps := P_Row_signs) fun _ _ _ _ _ _ us hl => match us, hl with | [_], _ => rfl
    p_Row_signs := He.ma K (He.ga K "Row") "signs"
    M_Row_signs := prpB_ok (c.yes (q := q86) (in_q86))
    f_Row_iter := (Pa.meth "Row" "__iter__").at K
    fd_Row_iter := fd_Row_iter
    F_Row_iter := FunD.fun (st := s_Row_iter) FD_Row_iter
    b_Row_iter := (FunD.fun (st := s_Row_iter) FD_Row_iter).binds (ps := P_Row_iter) fun _ _ _ _ _ _ us hl => match us, hl with | [_], _ => rfl
    M_Row_iter := He.meth_ok (c.yes (q := q87) (in_q87))
    f__closures_of := (Pa.glo "_closures_of").at K
    fd__closures_of := fd__closures_of
    F__closures_of := FunD.fun (st := s__closures_of) FD__closures_of
    b__closures_of := (FunD.fun (st := s__closures_of) FD__closures_of).binds (ps := P__closures_of) fun _ _ _ _ _ _ us hl => match us, hl with | [_], _ => rfl
    m__closures_of := He.glo_ok X G (c.yes (q := q88) (in_q88))
    f_Machine_closed := (Pa.meth "Machine" "_closed").at K
    fd_Machine_closed := fd_Machine_closed
    F_Machine_closed := FunD.fun (st := s_Machine_closed) FD_Machine_closed
    b_Machine_closed := (FunD.fun (st := s_Machine_closed) FD_Machine_closed).binds (ps := P_Machine_closed) fun _ _ _ _ _ _ us hl => match us, hl with | [_, _], _ => rfl
    M_Machine_closed := He.meth_ok (c.yes (q := q89) (in_q89))
    f_Machine_reads_of_edges := (Pa.meth "Machine" "_reads_of_edges").at K
    fd_Machine_reads_of_edges := fd_Machine_reads_of_edges
    F_Machine_reads_of_edges := FunD.fun (st := s_Machine_reads_of_edges) FD_Machine_reads_of_edges
    b_Machine_reads_of_edges := (FunD.fun (st := s_Machine_reads_of_edges) FD_Machine_reads_of_edges).binds (ps := P_Machine_reads_of_edges) fun _ _ _ _ _ _ us hl => match us, hl with | [_], _ => rfl
    M_Machine_reads_of_edges := He.meth_ok (c.yes (q := q90) (in_q90))
    f_Machine_init := (Pa.meth "Machine" "__init__").at K
    fd_Machine_init := fd_Machine_init
    F_Machine_init := FunD.fun (st := s_Machine_init) FD_Machine_init
    b_Machine_init := (FunD.fun (st := s_Machine_init) FD_Machine_init).binds (ps := P_Machine_init) fun _ _ _ _ _ _ us hl => match us, hl with | [_, _, _, _, _], _ => rfl
    M_Machine_init := He.meth_ok (c.yes (q := q91) (in_q91))
    f_Machine_states := (Pa.prop "Machine" "states").at K
    fd_Machine_states := fd_Machine_states
    F_Machine_states := FunD.fun (st := s_Machine_states) FD_Machine_states
    b_Machine_states := (FunD.fun (st := s_Machine_states) FD_Machine_states).binds (ps := P_Machine_states) fun _ _ _ _ _ _ us hl => match us, hl with | [_], _ => rfl
    p_Machine_states := He.ma K (He.ga K "Machine") "states"
    M_Machine_states := prpB_ok (c.yes (q := q92) (in_q92))
    f_Machine_last := (Pa.prop "Machine" "last").at K
    fd_Machine_last := fd_Machine_last
    F_Machine_last := FunD.fun (st := s_Machine_last) FD_Machine_last
    b_Machine_last := (FunD.fun (st := s_Machine_last) FD_Machine_last).binds (ps := P_Machine_last) fun _ _ _ _ _ _ us hl => match us, hl with | [_], _ => rfl
    p_Machine_last := He.ma K (He.ga K "Machine") "last"
    M_Machine_last := prpB_ok (c.yes (q := q93) (in_q93))
    f_Machine_edges := (Pa.meth "Machine" "edges").at K
    fd_Machine_edges := fd_Machine_edges
    F_Machine_edges := FunD.fun (st := s_Machine_edges) FD_Machine_edges
    b_Machine_edges := (FunD.fun (st := s_Machine_edges) FD_Machine_edges).binds (ps := P_Machine_edges) fun _ _ _ _ _ _ us hl => match us, hl with | [_], _ => rfl
    M_Machine_edges := He.meth_ok (c.yes (q := q94) (in_q94))
    f_Machine_free := (Pa.meth "Machine" "free").at K
    fd_Machine_free := fd_Machine_free
    F_Machine_free := FunD.fun (st := s_Machine_free) FD_Machine_free
    b_Machine_free := (FunD.fun (st := s_Machine_free) FD_Machine_free).binds (ps := P_Machine_free) fun _ _ _ _ _ _ us hl => match us, hl with | [_], _ => rfl
    M_Machine_free := He.meth_ok (c.yes (q := q95) (in_q95))
    f__after_pairs := (Pa.glo "_after_pairs").at K
    fd__after_pairs := fd__after_pairs
    F__after_pairs := FunD.fun (st := s__after_pairs) FD__after_pairs
    b__after_pairs := (FunD.fun (st := s__after_pairs) FD__after_pairs).binds (ps := P__after_pairs) fun _ _ _ _ _ _ us hl => match us, hl with | [_, _], _ => rfl
    m__after_pairs := He.glo_ok X G (c.yes (q := q96) (in_q96))
    f_Machine_after_row := (Pa.meth "Machine" "_after_row").at K
    fd_Machine_after_row := fd_Machine_after_row
    F_Machine_after_row := FunD.fun (st := s_Machine_after_row) FD_Machine_after_row
    b_Machine_after_row := (FunD.fun (st := s_Machine_after_row) FD_Machine_after_row).binds (ps := P_Machine_after_row) fun _ _ _ _ _ _ us hl => match us, hl with | [_, _, _], _ => rfl
    M_Machine_after_row := He.meth_ok (c.yes (q := q97) (in_q97))
    f_Machine_after_signs := (Pa.meth "Machine" "_after_signs").at K
    fd_Machine_after_signs := fd_Machine_after_signs
    F_Machine_after_signs := FunD.fun (st := s_Machine_after_signs) FD_Machine_after_signs
    b_Machine_after_signs := (FunD.fun (st := s_Machine_after_signs) FD_Machine_after_signs).binds (ps := P_Machine_after_signs) fun _ _ _ _ _ _ us hl => match us, hl with | [_, _, _], _ => rfl
    M_Machine_after_signs := He.meth_ok (c.yes (q := q98) (in_q98))
    f__listed := (Pa.glo "_listed").at K
    fd__listed := fd__listed
    F__listed := FunD.fun (st := s__listed) FD__listed
    b__listed := (FunD.fun (st := s__listed) FD__listed).binds (ps := P__listed) fun _ _ _ _ _ _ us hl => match us, hl with | [_], _ => rfl
    m__listed := He.glo_ok X G (c.yes (q := q99) (in_q99))
    f_Machine_ends := (Pa.meth "Machine" "ends").at K
    fd_Machine_ends := fd_Machine_ends
    F_Machine_ends := FunD.fun (st := s_Machine_ends) FD_Machine_ends
    b_Machine_ends := (FunD.fun (st := s_Machine_ends) FD_Machine_ends).binds (ps := P_Machine_ends) fun _ _ _ _ _ _ us hl => match us, hl with | [_, _, _], _ => rfl
    M_Machine_ends := He.meth_ok (c.yes (q := q100) (in_q100))
    f_Machine_contains := (Pa.meth "Machine" "__contains__").at K
    fd_Machine_contains := fd_Machine_contains
    F_Machine_contains := FunD.fun (st := s_Machine_contains) FD_Machine_contains
    b_Machine_contains := (FunD.fun (st := s_Machine_contains) FD_Machine_contains).binds (ps := P_Machine_contains) fun _ _ _ _ _ _ us hl => match us, hl with | [_, _], _ => rfl
    M_Machine_contains := He.meth_ok (c.yes (q := q101) (in_q101))
    f__law_pool := (Pa.glo "_law_pool").at K
    fd__law_pool := fd__law_pool
    F__law_pool := FunD.fun (st := s__law_pool) FD__law_pool
    b__law_pool := (FunD.fun (st := s__law_pool) FD__law_pool).binds (ps := P__law_pool) fun _ _ _ _ _ _ us hl => match us, hl with | [_], _ => rfl
    m__law_pool := He.glo_ok X G (c.yes (q := q102) (in_q102))
    f__law_pick := (Pa.glo "_law_pick").at K
    fd__law_pick := fd__law_pick
    F__law_pick := FunD.fun (st := s__law_pick) FD__law_pick
    b__law_pick := (FunD.fun (st := s__law_pick) FD__law_pick).binds (ps := P__law_pick) fun _ _ _ _ _ _ us hl => match us, hl with | [_, _], _ => rfl
    m__law_pick := He.glo_ok X G (c.yes (q := q103) (in_q103))
    f__law_alphabet := (Pa.glo "_law_alphabet").at K
    fd__law_alphabet := fd__law_alphabet
    F__law_alphabet := FunD.fun (st := s__law_alphabet) FD__law_alphabet
    b__law_alphabet := (FunD.fun (st := s__law_alphabet) FD__law_alphabet).binds (ps := P__law_alphabet) fun _ _ _ _ _ _ us hl => match us, hl with | [_, _], _ => rfl
    m__law_alphabet := He.glo_ok X G (c.yes (q := q104) (in_q104))
    f__law_is_int := (Pa.glo "_law_is_int").at K
    fd__law_is_int := fd__law_is_int
    F__law_is_int := FunD.fun (st := s__law_is_int) FD__law_is_int
    b__law_is_int := (FunD.fun (st := s__law_is_int) FD__law_is_int).binds (ps := P__law_is_int) fun _ _ _ _ _ _ us hl => match us, hl with | [_], _ => rfl
    m__law_is_int := He.glo_ok X G (c.yes (q := q105) (in_q105))
    f__law_as_row := (Pa.glo "_law_as_row").at K
    fd__law_as_row := fd__law_as_row
    F__law_as_row := FunD.fun (st := s__law_as_row) FD__law_as_row
    b__law_as_row := (FunD.fun (st := s__law_as_row) FD__law_as_row).binds (ps := P__law_as_row) fun _ _ _ _ _ _ us hl => match us, hl with | [_], _ => rfl
    m__law_as_row := He.glo_ok X G (c.yes (q := q106) (in_q106))
    f__law_odd_sign := (Pa.glo "_law_odd_sign").at K
    fd__law_odd_sign := fd__law_odd_sign
    F__law_odd_sign := FunD.fun (st := s__law_odd_sign) FD__law_odd_sign
    b__law_odd_sign := (FunD.fun (st := s__law_odd_sign) FD__law_odd_sign).binds (ps := P__law_odd_sign) fun _ _ _ _ _ _ us hl => match us, hl with | [_], _ => rfl
    m__law_odd_sign := He.glo_ok X G (c.yes (q := q107) (in_q107))
    f__law_spread := (Pa.glo "_law_spread").at K
    fd__law_spread := fd__law_spread
    F__law_spread := FunD.fun (st := s__law_spread) FD__law_spread
    b__law_spread := (FunD.fun (st := s__law_spread) FD__law_spread).binds (ps := P__law_spread) fun _ _ _ _ _ _ us hl => match us, hl with | [_, _], _ => rfl
    m__law_spread := He.glo_ok X G (c.yes (q := q108) (in_q108))
    f__law_join := (Pa.glo "_law_join").at K
    fd__law_join := fd__law_join
    F__law_join := FunD.fun (st := s__law_join) FD__law_join
    b__law_join := (FunD.fun (st := s__law_join) FD__law_join).binds (ps := P__law_join) fun _ _ _ _ _ _ us hl => match us, hl with | [_, _], _ => rfl
    m__law_join := He.glo_ok X G (c.yes (q := q109) (in_q109))
    f__law_graph_of := (Pa.glo "_law_graph_of").at K
    fd__law_graph_of := fd__law_graph_of
    F__law_graph_of := FunD.fun (st := s__law_graph_of) FD__law_graph_of
    b__law_graph_of := (FunD.fun (st := s__law_graph_of) FD__law_graph_of).binds (ps := P__law_graph_of) fun _ _ _ _ _ _ us hl => match us, hl with | [_, _, _], _ => rfl
    m__law_graph_of := He.glo_ok X G (c.yes (q := q110) (in_q110))
    f__law_read := (Pa.glo "_law_read").at K
    fd__law_read := fd__law_read
    F__law_read := FunD.fun (st := s__law_read) FD__law_read
    b__law_read := (FunD.fun (st := s__law_read) FD__law_read).binds (ps := P__law_read) fun _ _ _ _ _ _ us hl => match us, hl with | [_, _, _], _ => rfl
    m__law_read := He.glo_ok X G (c.yes (q := q111) (in_q111))
    f__law_spelling := (Pa.glo "_law_spelling").at K
    fd__law_spelling := fd__law_spelling
    F__law_spelling := FunD.fun (st := s__law_spelling) FD__law_spelling
    b__law_spelling := (FunD.fun (st := s__law_spelling) FD__law_spelling).binds (ps := P__law_spelling) fun _ _ _ _ _ _ us hl => match us, hl with | [_, _], _ => rfl
    m__law_spelling := He.glo_ok X G (c.yes (q := q112) (in_q112))
    f__law_meets := (Pa.glo "_law_meets").at K
    fd__law_meets := fd__law_meets
    F__law_meets := FunD.fun (st := s__law_meets) FD__law_meets
    b__law_meets := (FunD.fun (st := s__law_meets) FD__law_meets).binds (ps := P__law_meets) fun _ _ _ _ _ _ us hl => match us, hl with | [_, _], _ => rfl
    m__law_meets := He.glo_ok X G (c.yes (q := q113) (in_q113))
    f__law_unique := (Pa.glo "_law_unique").at K
    fd__law_unique := fd__law_unique
    F__law_unique := FunD.fun (st := s__law_unique) FD__law_unique
    b__law_unique := (FunD.fun (st := s__law_unique) FD__law_unique).binds (ps := P__law_unique) fun _ _ _ _ _ _ us hl => match us, hl with | [_], _ => rfl
    m__law_unique := He.glo_ok X G (c.yes (q := q114) (in_q114))
    f__law_machine_of := (Pa.glo "_law_machine_of").at K
    fd__law_machine_of := fd__law_machine_of
    F__law_machine_of := FunD.fun (st := s__law_machine_of) FD__law_machine_of
    b__law_machine_of := (FunD.fun (st := s__law_machine_of) FD__law_machine_of).binds (ps := P__law_machine_of) fun _ _ _ _ _ _ us hl => match us, hl with | [_, _], _ => rfl
    m__law_machine_of := He.glo_ok X G (c.yes (q := q115) (in_q115))
    f__law_walk_on := (Pa.glo "_law_walk_on").at K
    fd__law_walk_on := fd__law_walk_on
    F__law_walk_on := FunD.fun (st := s__law_walk_on) FD__law_walk_on
    b__law_walk_on := (FunD.fun (st := s__law_walk_on) FD__law_walk_on).binds (ps := P__law_walk_on) fun _ _ _ _ _ _ us hl => match us, hl with | [_, _, _, _], _ => rfl
    m__law_walk_on := He.glo_ok X G (c.yes (q := q116) (in_q116))
    f__law_fine := (Pa.glo "_law_fine").at K
    fd__law_fine := fd__law_fine
    F__law_fine := FunD.fun (st := s__law_fine) FD__law_fine
    b__law_fine := (FunD.fun (st := s__law_fine) FD__law_fine).binds (ps := P__law_fine) fun _ _ _ _ _ _ us hl => match us, hl with | [_, _, _, _, _], _ => rfl
    m__law_fine := He.glo_ok X G (c.yes (q := q117) (in_q117))
    f_law := (Pa.glo "law").at K
    fd_law := fd_law
    F_law := FunD.fun (st := s_law) FD_law
    b_law := (FunD.fun (st := s_law) FD_law).binds (ps := P_law) fun _ _ _ _ _ _ us hl => match us, hl with | [_], _ => rfl
    m_law := He.glo_ok X G (c.yes (q := q118) (in_q118))
  }
  have bl := FunD.bindsA (ps := ["_law_script"]) FD_law fun _ _ _ _ _ _ us hl => match us, hl with | [_], _ => rfl
  rw [← e2]
  exact ⟨T.fd_law, fun s v => bl s [v] rfl, fun base _ _ => ok_law T⟩
abbrev hRow : PySem.W.OpenRow := (PySem.W.OpenLaw.row PySem.Challenge.rw_risensigns_k16_machine_reads)
abbrev hHk : PySem.W.Hook := hookR hXs 4 hQs hDs
def hOb (s : PySem.W.SharedT) : AlR := obsRG hXs 4 hQs hDs (HandSHeadRun.getT s)
theorem hOb_eq (s : PySem.W.SharedT) : hOb s = hHk.obs s.abs := obsRG_eq (HandSHeadRun.getT_eq s)
set_option maxHeartbeats 0 in
theorem hRun (w : World) : HandSHeadRun.RunEq hRow (PySem.W.view hRow.prog [39]) hHk hOb 100000 hNs w := by
  intro os
  kernel_rfl
end Rz
open PySem PySem.W PySem.Calls PyProof.Rows in
set_option maxRecDepth 100000 in
set_option maxHeartbeats 0 in
theorem PySem.Challenge.cw_risensigns_k16_machine_reads_holds : PySem.Challenge.rw_risensigns_k16_machine_reads.Holds := by
  w_on; o_law
  refine HandSHeadRun.head_any (r := Rz.hRow) (q := view Rz.hRow.prog [39]) (H := Rz.hHk) (ob := Rz.hOb) (M := 100000) (loose := Rz.hNs) (d := HandSHeadRun.topDef Rz.hRow.prog 39) (kwd := []) Rz.hOb_eq (by kernel_rfl) (fun s => by kernel_rfl) Rz.hRun
    (by kernel_rfl) (by kernel_rfl) (by kernel_rfl) (by rfl) (by first | assumption | decide +kernel) (by decide +kernel) ⟨rfl, rfl, rfl, rfl, rfl, by decide +kernel⟩ ?hw ?hc
  case hw => w_witness2
  case hc =>
    refine LamX.walk_ofTsE (l := PySem.Challenge.rw_risensigns_k16_machine_reads) (n := 63) (k := 12) (x := "_law_script") (CX := fun w => L2.CX Rz.prg w) rfl (by decide) (by kernel_rfl) ⟨rfl, by decide, by decide⟩ ?F (fun w H s e s' z => Rz.no_cx w H s e s' z)
    intro w mg fa h Y G hmg0
    obtain ⟨K, KX, c⟩ := Y
    have hmg : mg ("law" : PySem.Str) = some (.ref fa) := by
      have e : (HandSHeadRun.topDef Rz.hRow.prog 39).name = ("law" : PySem.Str) := by kernel_rfl
      rw [← e]
      exact hmg0
    obtain ⟨fd, hb, hF⟩ := Rz.all_mk (w := w) KX G hmg c
    exact ⟨K, KX, fd, [], Rz.spLaw K, fun p hp => (by cases hp), fun p hp => (by cases hp), fun p hp => (by cases hp), hb, fun H a ns hl _ _ hS => ⟨a, ns, rfl, hS, hl, fun _ => rfl⟩, fun base hK hN _ => hF base hK hN⟩
#print axioms PySem.Challenge.cw_risensigns_k16_machine_reads_holds
