import PyProof.Rows.All
import Wide.All
import OpenK.AllK
import Wide.FinOn
import HandS.ForMost
import HandS.Wide
import HandS.WideBits
import HandS.Defaults
import HandS.IsInst
import HandS.Style
import HandS.Flow
import HandS.Walk
import HandS.Codes
import HandS.ForExc
import HandS.ExcOwn
import HandS.ExcIs
import HandS.ExcField
import HandS.ExcValue
import HandS.CallSlots
import HandS.ExcInit
import HandS.ExcSuper
import KE.KExcSuper
import KE.KExcIs
import PySem.Challenge.RW_eitherslack_k01_lowest
set_option Elab.async false
set_option linter.all false
set_option maxRecDepth 100000
namespace PySem
namespace SupX
open PySem.W PySem.Calls PyProof.Rows PySem.HandSPX
/-! ### an own exception over SlackError, over ValueError, whose __init__ says super().__init__('..') and stores one field -/
/-- what the written part says of the class x at C, its __init__ at fI -/
structure ExTxt (K : Frag) (mg : Str → Option Value) (C : Addr) : Prop where
  cls : ∃ nm q N bs bm sn sub ab col dd k0 k1 k2 k3 k5, K.lookup C = some (excClassObj nm q C N bs bm true sn sub ab col dd k0 k1 k2 k3 k5 "ValueError.__new__") ∧ refsVE bm = true
  sa : findIn K (.ref C) "__setattr__" = some (some (.builtin "object.__setattr__"))
  ga : findIn K (.ref C) "__getattribute__" = some (some (.builtin "BaseException.__getattribute__"))
  gg : findIn K (.ref C) "__getattr__" = some none
  kC : keepIn K (.ref C) = true
  exC : subIn K (.ref C) (.type "BaseException") = some true
  veC : subIn K (.ref C) (.type "ValueError") = some true
  tyC : typeIn K (.ref C) = some (.type "type")
  hdC : hasDictIn K C = true
theorem one_size (v : Value) : [v].length ≤ sizeLine := by
  rw [sizeLine_eq]
  exact (by decide : 1 ≤ 16777216)
structure InitEnd (f : Str) (h h' : Heap) (x C dx t1 : Addr) (v : Value) : Prop where
  keep : ∀ b o, b ≠ x → h.get? b = some o → h'.get? b = some o
  obj : h'.get? x = some { cls := .ref C, dict := some dx, data := .fields #[.ref t1, .none, .none, .none, .bool false, .none] }
  dbig : h.objs.size ≤ dx
  dne : dx ≠ x
  ns : h'.Ns1 dx (fun y => if y = f then some v else none)
structure OwnMade (f : Str) (h h' : Heap) (e C d : Addr) (v : Value) : Prop where
  keep : ∀ b o, h.get? b = some o → h'.get? b = some o
  new : h.objs.size ≤ e
  obj : ∃ t1 : Addr, h'.get? e = some { cls := .ref C, dict := some d, data := .fields #[.ref t1, .none, .none, .none, .bool false, .none] }
  dbig : h.objs.size ≤ d
  dne : d ≠ e
  ns : h'.Ns1 d (fun y => if y = f then some v else none)
section
variable {prog : Program} {w : World} {A : Around} {E : Value → Shared → Prop} {R : Result → Shared → Prop} {s : Shared} {K : Frag} {mg : Str → Option Value} {C fI : Addr} {f : Str}
theorem callWith_mw {M : Model} {pos : Pos} {env : Env} {e : Expr} {rest : List Expr} {u x : Addr} {i : String} {Q : Value → Shared → Prop}
    (h : wpAny M A (spliced (backTo pos (starEach (e :: rest) env))) (fun vs s₁ => KxsAt i u x s₁.heap ∧ wpAny M A (call (.ref u) vs) Q E s₁) E s)
    (he : starEach (e :: rest) env = (false, eval e env) :: starEach rest env := by rfl) (hplain : (backTo pos (starEach rest env)).any (·.1) = false := by rfl) :
    wpAny M A (callWith pos (.ref u) [] (backTo pos (starEach (e :: rest) env)) []) Q E s := by
  rw [he] at h ⊢
  refine kxs_callWith (i := i) (x := x) (by show (false || (backTo pos (starEach rest env)).any (·.1)) = false; rw [hplain]; rfl) ?_
  exact evalArgs_plain h
/-- the built-in __init__ bound to a fresh exception, called -/
theorem call_mw {u e t0 : Addr} {rest : List Value} {Q : Value → Shared → Prop} (T : ExTxt K mg C) (X : K.In s.heap) (he : s.heap.get? e = some (excO C t0)) (hu : s.heap.get? u = some (kxs_mw "ValueError.__init__" e)) (hrest : rest.length ≤ sizeLine)
    (hq : ∀ h' t1, (∀ b o, b ≠ e → s.heap.get? b = some o → h'.get? b = some o) → h'.get? e = some (excO C t1) → Q .none { s with heap := h' }) :
    wpAny (model prog w) A (call (.ref u) rest) Q E s := by
  obtain ⟨nm, q, N, bs, bm, sn, sub, ab, col, dd, k0, k1, k2, k3, k5, hC, hbm⟩ := T.cls
  obtain ⟨hh, g, d, tk, os⟩ := s
  refine wpAny_call (codeAny_of_tree ?_)
  show wpAny _ A.in1 (callAny (.ref u) ⟨rest, []⟩) _ _ _
  simp only [callAny]
  refine wpAny_bind (wpAny_load hu ?_)
  simp only [kxs_mw, show (Value.type "method-wrapper" == Value.type "method" || Value.type "method-wrapper" == Value.type "builtin_function_or_method" || Value.type "method-wrapper" == Value.type "method-wrapper") = true by decide, if_true]
  refine KFB.if_so (by decide) ?_
  refine wpAny_bind (check_bound_init F.excBase_ValueError.toExcCallFacts (X _ _ hC) he rfl ?_)
  refine wpAny_bind (wpAny_pure (wpAny_pure ?_))
  refine ⟨plainId_quiet F.excBase_ValueError.init.plain _, codeAny_builtin F.excBase_ValueError.initEntry ?_⟩
  exact exc_init_tree (cls := .ref C) (t0 := t0) (dv := none) (c2 := .none) (c3 := .none) (b4 := .bool false) he hrest fun h' k e' _ => hq h' _ k e'
end
end SupX
end PySem
namespace Toy
open PySem
def top (i : Nat) : Stmt := PySem.Challenge.pw_eitherslack_k01_lowest.main.body.getD i (.Pass ⟨0, 0, 0, 0⟩)
end Toy
namespace PySem
namespace SupX
open PySem.W PySem.Calls PyProof.Rows PySem.HandSPX L2
abbrev si_NoNumber : Stmt := inClass (Toy.top 8) 0
structure In_NoNumber (K : Frag) (mg : Str → Option Value) (C fI : Addr) : Prop where
  gC : mg "NoNumber" = some (.ref C)
  noN : findIn K (.ref C) "top" = some none
  iC : findIn K (.ref C) "__init__" = some (some (.ref fI))
  tC : typeIn K (.ref fI) = some (.type "function")
  sup : mg "super" = none
  opq : nsIn K cStatics "thirdparty.any" = some none
  along : ks_superIn K C C "__init__" = some (some (.builtin "ValueError.__init__"))
  mro : mroIn K C (.ref C) = some true
  fn : ∃ (oc : Value) (od : Option Addr) (kV doc pm : Value) (an : Option Addr) (cda cc : Addr) (ct : Value) (osl : Array (Option Value)) (ccl : Value) (cdd : Option Addr) (vs : Array Value) (ccs : Array (Option Value)) (file : Str) (tf : Tok) (cl : Value) (cld : Option Addr) (csl : Array (Option Value)),
    K.lookup fI = some ⟨oc, od, .func (ksFn "__init__" "NoNumber.__init__" (defArgs si_NoNumber) (defBody si_NoNumber) (defScope si_NoNumber) .none kV doc pm an (.ref cda) ct cc), osl⟩ ∧ codeIn K (.ref cda) "NoNumber.__init__" = true ∧
    K.lookup cda = some ⟨ccl, cdd, .fields vs, ccs⟩ ∧ vs[2]? = some (.str file tf) ∧ ((PySem.Challenge.pw_eitherslack_k01_lowest.main.file : Str) == file) = true ∧ K.lookup cc = some ⟨cl, cld, .cell (some (.ref C)), csl⟩
section
variable {w : World} {A : Around} {E : Value → Shared → Prop} {R : Result → Shared → Prop} {s : Shared} {K : Frag} {mg : Str → Option Value} {C fI : Addr}
theorem init_NoNumber (T : ExTxt K mg C) (J : In_NoNumber K mg C fI) {x t0 : Addr} {v : Value} (X : K.In s.heap) (hlim : s.heap.NoLimit) (hgl : s.heap.Ns mainGlobals mg) (hbl : ∃ mb, s.heap.Ns builtinsNs mb ∧ ∀ x : Str, x ≠ "__name__" → mb x = bootBuiltins x) (hx : s.heap.get? x = some (excO C t0)) (hnx : K.lookup x = none) (hroom : A.depth < recursionLimit)
    (hq : ∀ h' tk dx t1, InitEnd "top" s.heap h' x C dx t1 v → R (.ok (.ret .none)) { s with heap := h', toks := tk }) :
    codeAny (model PySem.Challenge.pw_eitherslack_k01_lowest w) A (.call (.ref fI) ⟨[.ref x, v], []⟩) R s := by
  obtain ⟨oc, od, kV, doc, pm, an, cda, cc, ct, osl, ccl, cdd, vs, ccs, file, tf, cl, cld, csl, hfn, hcd, hcode, hvs, hfile, hcell⟩ := J.fn
  obtain ⟨nm, q, N, bs, bm, sn, sub, ab, col, dd, k0, k1, k2, k3, k5, hC, hbm⟩ := T.cls
  obtain ⟨mb, hb1, hb2⟩ := hbl
  have hcl : clsIn K C = some { name := nm, bases := bs, mro := .ref C :: bm, ns := N, qualname := q, hasDict := true, slotNames := sn, subclasses := sub, abstract := ab, collection := col, hasDel := false } := by unfold clsIn; rw [hC] <;> rfl
  have hxC : x ≠ C := fun z => by
    rw [z, hC] at hnx
    cases hnx
  refine ks_codeAny_call_defAt (binds := [(("self" : Str), .ref x), (("top" : Str), v)]) hroom (X _ _ hfn) rfl hlim (codeRec_of X hcd) rfl (BindsTo.of_eq (by first | rfl | with_unfolding_all rfl)) (show ∀ y ∈ (defScope si_NoNumber).names, y.2 ≠ NameKind.cell by decide +kernel) (fun y hy => ?_) (fun h₁ hns kp₁ => ?_) rfl rfl rfl
  · rcases List.mem_cons.mp hy with rfl | hy
    · rfl
    · rw [List.mem_singleton.mp hy]
      rfl
  obtain ⟨hp, g, dr, tk0, os⟩ := s
  have X₁ : K.In h₁ := X.keeps kp₁
  have hx₁ := kp₁ _ _ hx
  have hLx : hp.objs.size ≠ x := Nat.ne_of_gt (Heap.lt_size hx)
  refine ks_wpAt_execs_cons (ks_wpAt_Expr_any (ks_wpAt_MethodCall ?_))
  refine ks_wpAt_super_base (env := ksEnv "NoNumber.__init__" (defScope si_NoNumber) hp.objs.size fI (.ref cda) cc) rfl rfl (by decide) rfl (X₁ _ _ hfn) rfl rfl rfl (X₁ _ _ hcode) rfl hvs hfile (by decide +kernel) ?_
  refine ks_loadName_global rfl rfl (loadGlobal_builtin (env := ksEnv "NoNumber.__init__" (defScope si_NoNumber) hp.objs.size fI (.ref cda) cc) (hgl.keeps kp₁) J.sup (hb1.keeps kp₁) ((hb2 _ (by decide +kernel)).trans (by decide +kernel)) ⟨rfl, ?_⟩)
  refine wpAny_loadName_free rfl rfl rfl ⟨_, X₁ _ _ hcell, rfl⟩ ?_
  refine wpAny_loadName_local rfl rfl hns rfl ?_
  refine ks_wpAny_isType_cls (X₁ _ _ hC) rfl ⟨rfl, ?_⟩
  refine ks_wpAny_call_super (X₁ _ _ hC) rfl hx₁ rfl (fun c e => nomatch e) (looks_mroIn X₁ J.mro) (fun h₂ e₂ kp₂ => ?_)
  have X₂ : K.In h₂ := X₁.keeps kp₂
  have hx₂ := kp₂ _ _ hx₁
  have ial : alongIn K "__init__" (((Value.ref C :: bm).dropWhile (· != .ref C)).drop 1) = some (some (.builtin "ValueError.__init__")) := by
    have z := J.along
    unfold ks_superIn at z
    rw [hcl] at z
    exact z
  have I₂ : InstAt h₂ x (excO C t0) C none := ⟨hx₂, rfl, rfl, trivial⟩
  refine kxs_getMethod kxs_ValueError e₂ (looks_opaque X₂ J.opq) (l₀ := .ref C :: bm) ?_ rfl X₂ ial (I₂.type.andThen (looks_subIn X₂ T.veC)) hxC (by decide) ?_
  · exact fun A Q E s k q => wpAny_bind ((looks_clsIn X₂ hcl) A _ E s k (wpAny_pure q))
  have up : ∀ b o, h₂.get? b = some o → (h₂.push (kxs_mw "ValueError.__init__" x)).get? b = some o := fun b o e => Heap.get?_push_of_some _ e
  refine callWith_mw (i := "ValueError.__init__") (x := x) ?_
  show wpAny _ _ (spliced ((false, eval (.Constant (.str _) 0 ⟨0, 0, 0, 0⟩) (ksEnv "NoNumber.__init__" (defScope si_NoNumber) hp.objs.size fI (.ref cda) cc)) :: [])) _ _ _
  refine spliced_cons (Constant_str (spliced_nil ⟨Heap.get?_push_at rfl rfl, ?_⟩))
  have X₃ : K.In (h₂.push (kxs_mw "ValueError.__init__" x)) := X₂.keeps up
  refine call_mw (s := ⟨h₂.push (kxs_mw "ValueError.__init__" x), g, dr, _, os⟩) T X₃ (up _ _ hx₂) (Heap.get?_push_at rfl rfl) (one_size _) fun h₄ t1 kp₄ hx₄ => ?_
  -- self.f = f
  have old : ∀ b o, b ≠ x → h₁.get? b = some o → h₄.get? b = some o := fun b o hb e => kp₄ b o hb (up _ _ (kp₂ _ _ e))
  have X₄ : K.In h₄ := fun a o e => kp₄ a o (fun z => by rw [z, hnx] at e; cases e) (X₃ a o e)
  obtain ⟨oL, es, ep, hL, rL⟩ := hns
  have hns₄ : h₄.Ns hp.objs.size (fun y => ([(("self" : Str), Value.ref x), (("top" : Str), v)] : List (Str × Value)).reverse.lookup y) := ⟨oL, es, ep, old _ _ hLx hL, rL⟩
  refine ks_wpAt_execs_cons (wpAt_of_wpAny (plainObj_wpAny_Assign_Attribute ?_))
  refine ESX.ldL (v := v) hns₄ (by first | rfl | with_unfolding_all rfl | kernel_rfl) (ESX.ldL (v := .ref x) hns₄ (by first | rfl | with_unfolding_all rfl | kernel_rfl) ?_)
  refine set_plain X₄ (ox := excO C t1) (od := none) ⟨hx₄, rfl, rfl, trivial⟩ T.sa ?_
  refine exc_osa X₄ hx₄ hcl (show refsVE (.ref C :: bm) = true from hbm) rfl J.noN (fun h₅ tk₅ dx kp₅ dn dne hx₅ hn₅ => ?_)
  have dbig : hp.objs.size ≤ h₄.objs.size := Nat.le_of_lt hns₄.lt
  exact wpAt_of_wpAny (wpAny_execs_nil (hq h₅ tk₅ dx t1 ⟨fun b o hb e => kp₅ b o hb (old b o hb (kp₁ b o e)), hx₅, Nat.le_trans dbig dn, dne, hn₅⟩))
theorem made_NoNumber (T : ExTxt K mg C) (J : In_NoNumber K mg C fI) {v : Value} (X : K.In s.heap) (hlim : s.heap.NoLimit) (hgl : s.heap.Ns mainGlobals mg) (hbl : ∃ mb, s.heap.Ns builtinsNs mb ∧ ∀ x : Str, x ≠ "__name__" → mb x = bootBuiltins x) (hroom : A.depth + 1 < recursionLimit)
    (hq : ∀ h' tk e d, OwnMade "top" s.heap h' e C d v → R (.ok (.ret (.ref e))) { s with heap := h', toks := tk }) :
    codeAny (model PySem.Challenge.pw_eitherslack_k01_lowest w) A (.call (.ref C) ⟨[v], []⟩) R s := by
  obtain ⟨nm, q, N, bs, bm, sn, sub, ab, col, dd, k0, k1, k2, k3, k5, hC, hbm⟩ := T.cls
  obtain ⟨hp, g, dr, tk, os⟩ := s
  have k : ∀ b o, hp.get? b = some o → ((hp.push (kdv_tup [v])).push (excO C hp.objs.size)).get? b = some o := fun b o e => Heap.get?_push_of_some _ (Heap.get?_push_of_some _ e)
  have hget : ((hp.push (kdv_tup [v])).push (excO C hp.objs.size)).get? (hp.objs.size + 1) = some (excO C hp.objs.size) := by heap_get
  have hnx : K.lookup (hp.objs.size + 1) = none := by
    cases e : K.lookup (hp.objs.size + 1) with
    | none => rfl
    | some o =>
      have z : hp.get? (hp.objs.size + 1) = some o := X _ _ e
      exact absurd (Nat.lt_of_succ_lt (Heap.lt_size z)) (Nat.lt_irrefl _)
  refine call_own F.excBase_ValueError (fun X => refsVE_contains X bm hbm) (X _ _ hC) (looks_findIn X J.iC) (fun self => bind_fn X self J.tC) (one_size v) ?_
  obtain ⟨mb, hb1, hb2⟩ := hbl
  refine init_NoNumber (s := ⟨(hp.push (kdv_tup [v])).push (excO C hp.objs.size), g, dr, tk, os⟩) T J (X.keeps k) (hlim.keeps k) (hgl.keeps k) ⟨mb, hb1.keeps k, hb2⟩ hget hnx hroom fun h' tk' dx t1 ⟨k', hx, dn, dne, hns⟩ => ?_
  have old : ∀ b o, hp.get? b = some o → h'.get? b = some o := fun b o e => k' b o (Nat.ne_of_lt (Nat.lt_succ_of_lt (Heap.lt_size e))) (k b o e)
  have z : hp.objs.size + 1 + 1 ≤ dx := by
    first
      | (simpa only [Heap.size_push] using dn)
      | exact dn
      | (have q := dn; rw [Heap.size_push, Heap.size_push] at q; exact q)
  exact ⟨rfl, hq h' tk' (hp.objs.size + 1) dx ⟨old, Nat.le_succ _, ⟨t1, hx⟩, Nat.le_trans (Nat.le_trans (Nat.le_succ _) (Nat.le_succ _)) z, dne, hns⟩⟩
end
end SupX
end PySem
namespace L2
open PySem PySem.Spec PyProof.Rows
section
variable {X : Cx} {C fI : Addr}
theorem relO_NoNumber {v : V} {v' : Value} (r : RelV v v') (f : Str) : RelO (List.lookup f [(("top" : Str), v)]) (if f = "top" then some v' else none) := by
  by_cases hw : f = "top"
  · subst hw
    rw [if_pos rfl]
    have q : List.lookup ("top" : Str) [(("top" : Str), v)] = some v := by simp [List.lookup]
    rw [q]
    exact r
  · rw [if_neg hw]
    have qw : (f == ("top" : Str)) = false := by simpa using hw
    have q2 : List.lookup f [(("top" : Str), v)] = none := by simp [List.lookup, qw]
    rw [q2]
    trivial
def tMk_NoNumber (C : Addr) (ta : TA) : St → Hp → XK → Prop := fun σ H Q => ta σ H fun vs H1 => ∃ v, vs = [v] ∧ ∀ d, H1 d = none → Q (.ref C) (some d) (upd H1 d (.xd [(("top" : Str), v)]))
theorem pmk_NoNumber {a : Expr} {ta : TA} {p pos : Pos} {k : Nat} (hprog : X.prog = PySem.Challenge.pw_eitherslack_k01_lowest) (T : PySem.SupX.ExTxt X.K X.mg C) (J : PySem.SupX.In_NoNumber X.K X.mg C fI) (hr : Room k X.A) (ha : PA X [a] ta) (hg : Gl X "NoNumber" := by rfl)
    (he : starEach (a :: []) X.env = (false, eval a X.env) :: starEach [] X.env := by rfl) (hpl : (backTo pos (starEach [] X.env)).any (·.1) = false := by rfl) :
    PMk X (.Call (.Name "NoNumber" p) [a] [] pos) (tMk_NoNumber C ta) := by
  intro pins s σ H Q I h
  refine wpAny_Call_Name_kw (ld_glob I hg J.gC ?_)
  refine PySem.W.callWith_K (h₀ := X.base) I.ok.mod.kin T.kC (thn (ha.run pos pins s σ H _ I h) fun us s1 hh => ?_) he hpl
  obtain ⟨vs, H1, I1, r1, v, ev, q1⟩ := hh
  subst ev
  refine ⟨I1.kIn, ?_⟩
  cases r1 with
  | cons rv rn =>
    rename_i v' us'
    cases rn
    show wpAny _ _ (call (.ref C) [v']) _ _ _
    have hlim := I1.nolimit
    have hgl := I1.mod.glob.keeps I1.bk
    obtain ⟨mb, hb1, hb2⟩ := I1.mod.blt
    have hbl := hb1.keeps I1.bk
    obtain ⟨hp, g, dr, tk, os⟩ := s1
    rw [hprog]
    refine wpAny_call (PySem.SupX.made_NoNumber T J I1.kIn hlim hgl ⟨mb, hbl, hb2⟩ (by have := hr.dp; omega) fun h' tk' e d M => ?_)
    show MkP X pins σ Q (.ref e) ⟨h', g, dr, tk', os⟩
    obtain ⟨t1, hoe⟩ := M.obj
    have hns := M.ns
    obtain ⟨G', g1, g2⟩ := restrict h' fun b => decide (b ≠ e)
    have gk : ∀ b, b ≠ e → G'.get? b = h'.get? b := fun b hb => g1 b (decide_eq_true hb)
    have ge : G'.get? e = none := g2 e (by simp)
    have old : ∀ b o, hp.get? b = some o → G'.get? b = some o := fun b o q => (gk b (Nat.ne_of_lt (Nat.lt_of_lt_of_le (Heap.lt_size q) M.new))).trans (M.keep b o q)
    have ob : ObjOk X.prog X.w (upd H1 d (.xd [(("top" : Str), v)])) G' d (.xd [(("top" : Str), v)]) :=
      ⟨_, hns.at (fun o q => (gk d M.dne).trans q), fun f => relO_NoNumber rv f⟩
    have J2 : Inv X pins σ (upd H1 d (.xd [(("top" : Str), v)])) ⟨G', g, dr, tk', os⟩ := I1.laid (t' := tk') old M.dbig ob
    refine ⟨e, _, _, ⟨G', g, dr, tk', os⟩, _, .ref C, some d, rfl, J2, fun b o q => ?_, ge, hoe, ⟨rfl, rfl⟩, rfl, rfl, ?_, rfl, I1.bare, raises_own T.exC T.tyC, q1 d (I1.hok.fresh M.dbig)⟩
    · by_cases hb : b = e
      · have q' : G'.get? b = some o := q
        rw [hb, ge] at q'; cases q'
      · exact (gk b hb).symm.trans q
    · rw [upd_ne (Ne.symm M.dne)]
      exact I1.hok.fresh M.new
end
end L2

namespace L2
open PySem PySem.Spec PyProof.Rows
/-! ### an exception as a value: tracked at its own address; its fields, if any, in a tracked dict -/
def exv (a : Addr) (cls : Value) (d : Option Addr) : HO := .ext fun h => ∃ (oe : Obj) (vs : Array Value), h.get? a = some oe ∧ Zc cls d oe ∧ oe.data = .fields vs
theorem exv_ok {P : Program} {w : World} {H : Hp} {h : Heap} {a : Addr} {cls : Value} {d : Option Addr} {oe : Obj} {vs : Array Value} (e : h.get? a = some oe) (z : Zc cls d oe) (hd : oe.data = .fields vs) : ObjOk P w H h a (exv a cls d) :=
  ⟨⟨oe, vs, e, z, hd⟩, ⟨oe, e⟩, fun h1 h2 p k => by
    obtain ⟨o, us, e1, e2, e3⟩ := p
    exact ⟨o, us, k o e1, e2, e3⟩⟩
theorem exv_at {P : Program} {w : World} {H : Hp} {h : Heap} {a : Addr} {cls : Value} {d : Option Addr} (ok : HOk P w H h) (e : H a = some (exv a cls d)) : ∃ (oe : Obj) (vs : Array Value), h.get? a = some oe ∧ Zc cls d oe ∧ oe.data = .fields vs := (ok a _ e).1
/-- an object of ours, laid since the entry, is from now on tracked -/
theorem Inv.track {X : Cx} {pins : List (Addr × Obj)} {σ : St} {H : Hp} {s : Shared} {a : Addr} {o : HO} (I : Inv X pins σ H s) (h0 : X.s_0.heap.get? a = none) (na : H a = none) (nL : a ≠ X.env.locals) (nC : ∀ y c, X.env.cells.lookup y = some c → c ≠ a) (nP : ∀ p ∈ X.pn ++ pins, p.1 ≠ a)
    (new : ObjOk X.prog X.w (upd H a o) s.heap a o) : Inv X pins σ (upd H a o) s := by
  have other : ∀ b, b ≠ a → upd H a o b = H b := fun b n => upd_ne n
  have had : ∀ b u, H b = some u → upd H a o b = some u := fun b u q => by
    rw [other b (ne_of_none q na)]
    exact q
  have old : ∀ b u, X.s_0.heap.get? b = some u → b ≠ a := fun b u q z => by
    rw [z, h0] at q
    cases q
  refine { I with base := ⟨I.base.keep, I.base.slot, fun b u q n hx => ?_, I.base.there, fun b xs q => had _ _ (I.base.tups b xs q), fun b u xs q => had _ _ (I.base.frzs b u xs q), fun b ps q => ?_⟩, free := ?_, freeC := fun y c q => ?_, pin := fun p hp => ?_, hok := fun b u q => ?_ }
  · rw [other b (old b u q)]
    exact I.base.free b u q n hx
  · obtain ⟨m, z⟩ := I.base.tbls b ps q
    exact ⟨m, had _ _ z⟩
  · rw [other _ nL.symm]
    exact I.free
  · rw [other _ (nC y c q)]
    exact I.freeC y c q
  · obtain ⟨e1, e2, e3⟩ := I.pin p hp
    exact ⟨e1, by rw [other _ (nP p hp)]; exact e2, e3⟩
  · by_cases hb : b = a
    · subst hb
      rw [upd_same] at q
      cases q
      exact new
    · rw [other b hb] at q
      exact (I.hok b u q).stay (fun c v _ z => z) (fun c z => had _ _ z) fun c xs z => had _ _ z
/-- try: body / except x as n: y = n: what the clause wishes of an exception of the body; behind it y (slot j) holds the exception -/
def wKeep (K : PySem.W.Frag) (c : Value) (i j : Nat) (D : Ends) : WX := fun cls d σ H => PySem.W.exmOne K cls c = some true ∧ ∀ a, H a = none → D.nx (((σ.set i (some (.ref a))).set j (some (.ref a))).set i none) (upd H a (exv a cls d))
section
variable {X : Cx} {x n y : Str} {c : Value} {i j : Nat} {body : List Stmt} {np pos pos' pn' pa py : Pos} {tb : WX → TS}
theorem ps_try_keep (hs : X.stack = X.env :: X.outer) (hf : X.env.frame = some X.env.locals) (hex : X.ex = []) (hN : X.N.Nodup) (hi : X.N[i]? = some n) (hj : X.N[j]? = some y) (hln : X.env.kindOf n = some .local) (hly : X.env.kindOf y = some .local) (hc : Names X x c)
    (hdn : (n == ("__debug__" : Str)) = false) (hdc : (n == ("__classdict__" : Str)) = false)
    (hb : ∀ (W : WX) (pn : List (Addr × Obj)) (xe : Value → Shared → Prop), Takes (X.tr pn xe) W → PassesOwn (model X.prog X.w) X.A X.env xe → PSs (X.tr pn xe) body (tb W))
    (hsw : ∀ a pn, PS (X.suite a pn) (.Assign [.Name y py] (.Name n pn') pa) (tAsg (tVar i) (gName j))) :
    PS X (.Try body [.ExceptHandler (some (.Name x np)) (some n) [.Assign [.Name y py] (.Name n pn') pa] pos'] [] [] pos) (fun D σ H => tb (wKeep X.K c i j D) D σ H) := by
  refine ⟨fun pins s σ H D I h => ?_⟩
  have hfr : X.A.frames = some (X.env :: X.outer) := I.ok.frames.trans (congrArg some hs)
  refine wpAny_Try_except ?_
  refine wpAny_mono ((hb (wKeep X.K c i j D) (X.pn ++ pins) _ (fun u s' xx => ?kc) PassesOwn.looking).run [] s σ H D (I.toTry _) h) (fun f s1 hsp => ?kt) fun _ _ z => z
  case kt =>
    cases f with
    | ret u =>
      obtain ⟨v, σ', H', J', r, q⟩ := hsp
      exact ⟨v, σ', H', J'.ofTry I.ok, r, q⟩
    | next =>
      obtain ⟨σ', H', J', q⟩ := hsp
      exact wpAny_execs_nil ⟨σ', H', J'.ofTry I.ok, q⟩
    | _ =>
      obtain ⟨σ', H', J', q⟩ := hsp
      exact ⟨σ', H', J'.ofTry I.ok, q⟩
  case kc =>
    obtain ⟨a, B, sI, pins', σ', H', cls, d, rfl, J', nb, up, sky, na, os, ag, hm, hgo⟩ := xx
    have J : Inv X pins σ' H' sI := J'.ofTry I.ok
    rw [hs] at sky
    have Ba : B.get? a = none := by
      rcases sky with z | z | z
      · exact z.2.1
      · exact z.2.1
      · exact z.2.1
    show wpAny (model X.prog X.w) X.A (noteFrame (.ref a) X.env) _ _ _
    refine Sky.land Zc.steady hfr hf sky fun h3 fl3 up3 => ?_
    have J3 : Inv X pins σ' H' { s' with heap := h3 } := J.landed nb fl3.1 (up.trans up3) os ag
    obtain ⟨oe3, vs3, he3, hz3, hd3⟩ := fl3.there
    have nfr : a ∉ frs (X.env :: X.outer) := fun hm' => by
      obtain ⟨_, o', e', hnf⟩ := fl3.2.2.1.mem hm'
      rw [he3] at e'
      cases e'
      exact hnf _ hd3
    have nL : a ≠ X.env.locals := fun z => nfr (List.mem_filterMap.mpr ⟨X.env, List.mem_cons_self, by rw [hf, z]⟩)
    have nF : a ∉ X.fs := fun hm' => by
      obtain ⟨e, he, q⟩ := List.mem_filterMap.mp hm'
      exact nfr (List.mem_filterMap.mpr ⟨e, List.mem_cons_of_mem _ he, q⟩)
    -- the exception was not there at the entry
    have sIa : sI.heap.get? a = none := by
      cases z : sI.heap.get? a with
      | none => rfl
      | some o =>
        have q := nb a o z (by rw [hs]; exact nfr)
        rw [Ba] at q
        cases q
    have s0a : X.s_0.heap.get? a = none := by
      cases z : X.s_0.heap.get? a with
      | none => rfl
      | some o =>
        obtain ⟨o', q⟩ := J.base.there a o z (by rw [hex]; exact List.not_mem_nil)
        rw [sIa] at q
        cases q
    have nC : ∀ y c, X.env.cells.lookup y = some c → c ≠ a := fun y c q z => by
      obtain ⟨v, oc, e1, _⟩ := J.cell y c q
      rw [z, sIa] at e1
      cases e1
    have nP : ∀ p ∈ X.pn ++ pins, p.1 ≠ a := fun p hp z => by
      have q := (J.pin p hp).1
      rw [z, sIa] at q
      cases q
    have S3 := J3.suite he3 hd3 na nL nF
    refine wpAny_handleBy_cons (codeAny_handlers_test ?_) (by intro q; cases q)
    have LT : PySem.W.Looks (model X.prog X.w) h3 (typeOf (.ref a)) cls := fun A Q E s k q => wpAny_typeOf_ref (k _ _ he3) (by rw [hz3.1]; exact q)
    have LM := PySem.W.exm_one (M := model X.prog X.w) J3.kIn LT hm
    have test : ∀ {Q : Value → Shared → Prop} {E : Value → Shared → Prop}, Q c { s' with heap := h3 } → wpAny (model X.prog X.w) (X.A.mark (some (.ref a))) (eval (.Name x np) X.env) Q E { s' with heap := h3 } := fun {Q E} q => by
      obtain ⟨hg, hdbg, z | ⟨z, hv, hnn⟩⟩ := hc
      · exact ld_glob (X := X.suite a ((a, oe3) :: (X.pn ++ pins))) S3 hg z q hdbg
      · exact ld_blt (X := X.suite a ((a, oe3) :: (X.pn ++ pins))) S3 hg z hv q hnn hdbg
    refine test (LM.here (codeAny_handlers_suite_as ?_))
    refine HandSPX.lands_againZ fl3 fun h4 fl4 up4 => ?_
    have J4 : Inv X pins σ' H' { s' with heap := h4 } := J.landed nb fl4.1 ((up.trans up3).trans up4) os ag
    obtain ⟨oe4, vs4, he4, hz4, hd4⟩ := fl4.there
    have S4 := J4.suite he4 hd4 na nL nF
    refine store_ok (X := X.suite a ((a, oe4) :: (X.pn ++ pins))) (v := .ref a) S4 hN hi (.inl hln) rfl (fun s5 S5 => ?_) (.inr hln)
    have li : i < σ'.length := by
      rw [J.len]
      exact (List.getElem?_eq_some_iff.mp hi).1
    have get : (σ'.set i (some (V.ref a)))[i]? = some (some (V.ref a)) := List.getElem?_set_self li
    refine wpAny_mono ((pss_one (hsw a ((a, oe4) :: (X.pn ++ pins)))).run [] s5 _ H' { nx := fun σ6 H6 => σ6 = (σ'.set i (some (.ref a))).set j (some (.ref a)) ∧ H6 = H', rt := fun _ _ => False, bk := fun _ _ => False, ct := fun _ _ => False } S5 ⟨_, get, rfl, rfl⟩) (fun f s6 hsp => ?_) fun _ _ z => False.elim z
    cases f with
    | next =>
      obtain ⟨σ6, H6, S6, rfl, rfl⟩ := hsp
      have P6 : Inv X ((a, oe4) :: pins) ((σ'.set i (some (.ref a))).set j (some (.ref a))) H6 s6 :=
        ⟨I.ok, S6.os, S6.bare, S6.base, S6.loc, S6.cell, S6.free, S6.freeC, fun p hp => S6.pin p (by
          rw [List.append_nil]
          rcases List.mem_append.mp hp with z | z
          · exact List.mem_cons_of_mem _ (List.mem_append_left _ z)
          · rcases List.mem_cons.mp z with rfl | z
            · exact List.mem_cons_self
            · exact List.mem_cons_of_mem _ (List.mem_append_right _ z)), S6.hok, S6.len⟩
      refine gone_ok P6 hN hi hln fun s7 J7 => ?_
      have he7 := (J7.pin (a, oe4) (List.mem_append_right _ List.mem_cons_self)).1
      have J8 : Inv X pins (((σ'.set i (some (.ref a))).set j (some (.ref a))).set i none) H6 s7 := J7.pins_of fun p hp => J7.pin p (List.mem_append_right _ (List.mem_cons_of_mem _ hp))
      exact ⟨_, _, J8.track (o := exv a cls d) s0a na nL nC nP (exv_ok he7 hz4 hd4), hgo a na⟩
    | ret u =>
      obtain ⟨_, _, _, _, _, z⟩ := hsp
      exact z.elim
    | brk =>
      obtain ⟨_, _, _, z⟩ := hsp
      exact z.elim
    | cont =>
      obtain ⟨_, _, _, z⟩ := hsp
      exact z.elim
end
/-! ### isinstance and fields of such a value -/
def rIsX (K : PySem.W.Frag) : List V → Hp → VK → Prop := fun xs H Q => ∃ (a D : Addr) (d : Option Addr) (dx : Option HO) (c : V) (cv : Value) (b : Bool), xs = [.ref a, c] ∧ H a = some (exv a (.ref D) d) ∧ (∀ e, d = some e → ∃ fs, H e = some (.xd fs)) ∧ ExcC K D ∧ ClsV c cv ∧ PySem.W.kitOne K (.ref D) cv = some b ∧ Q (.bl b) H
theorem inst_exv {X : Cx} {pins : List (Addr × Obj)} {σ : St} {H : Hp} {s : Shared} {a D : Addr} {d : Option Addr} (I : Inv X pins σ H s) (h : H a = some (exv a (.ref D) d)) (hd : ∀ e, d = some e → ∃ fs, H e = some (.xd fs)) : ∃ oe od, PySem.W.InstAt s.heap a oe D od := by
  obtain ⟨oe, vs, e, z, hv⟩ := exv_at I.hok h
  have nc : PySem.W.notCls oe = true := by
    unfold PySem.W.notCls
    rw [hv] <;> rfl
  cases d with
  | none => exact ⟨oe, none, e, z.1, nc, by rw [z.2]; trivial⟩
  | some dd =>
    obtain ⟨fs, hf⟩ := hd dd rfl
    have hx : ObjOk X.prog X.w H s.heap dd (.xd fs) := I.hok dd _ hf
    obtain ⟨mA, ⟨od, _, _, ho, _⟩, _⟩ := hx
    exact ⟨oe, some od, e, z.1, nc, by rw [z.2]; exact ho⟩
theorem call_isX {X : Cx} : CallR X (.builtin "isinstance") (rIsX X.K) := by
  intro pins s σ H xs us Q I r h
  obtain ⟨a, D, d, _, c, cv, b, rfl, ha, hd, C, hcv, e, q⟩ := h
  obtain ⟨u1, u2, rfl, r1, r2⟩ := vals2 r
  have e2 := hcv.eq r2
  subst e2
  cases (show u1 = Value.ref a from r1)
  obtain ⟨oe, od, J⟩ := inst_exv I ha hd
  have hcl : (PySem.W.clsIn X.K D).isSome = true := by
    obtain ⟨cd, hc, _⟩ := PySem.W.any_some C.hd
    rw [hc]
    rfl
  exact PySem.W.kia_one (PySem.W.kitx_exc (od := od) (ox := oe) hcl C.hg C.hk C.hs C.ha C.hn C.ht C.hm) I.kIn J e (fun z => nomatch z) fun tk => ⟨.bl b, H, I.tok tk, rfl, q⟩
/-- x.f, x such a value -/
def tXv (K : PySem.W.Frag) (f : Str) (te : TE) : TE := fun σ H Q => te σ H fun x H1 => ∃ (a D dd : Addr) (fs : List (Str × V)) (v : V), x = .ref a ∧ H1 a = some (exv a (.ref D) (some dd)) ∧ H1 dd = some (.xd fs) ∧ XfC K D ∧ PySem.W.findIn K (.ref D) f = some none ∧ fs.lookup f = some v ∧ Q v H1
theorem pe_xv {X : Cx} {e : Expr} {te : TE} {pos : Pos} {n : Str} (he : PE X e te) (hb : attributeBase e n X.env (eval e X.env) = eval e X.env := by rfl) : PE X (.Attribute e n pos) (tXv X.K n te) := by
  refine ⟨fun pins s σ H Q I h => attr_of hb (thn (he.run pins s σ H _ I h) fun u s1 hh => ?_)⟩
  obtain ⟨x, H1, I1, rx, a, D, dd, fs, v, rfl, ea, ed, T, hno, l, q⟩ := hh
  cases (show u = Value.ref a from rx)
  obtain ⟨oe, vs, ha, hz, hv⟩ := exv_at I1.hok ea
  obtain ⟨mA, hns, hr⟩ := (show ObjOk X.prog X.w H1 s1.heap dd (.xd fs) from I1.hok dd _ ed)
  obtain ⟨od, ho, hl⟩ := lookIn_ns hns
  obtain ⟨u, hu, ru⟩ := RelO.some_of (v := v) (o := mA n) (by rw [← l]; exact hr n)
  have J : PySem.W.InstAt s1.heap a oe D (some od) := ⟨ha, hz.1, by unfold PySem.W.notCls; rw [hv] <;> rfl, by rw [hz.2]; exact ho⟩
  exact HandSPX.exc_get I1.kIn J T.ga T.gg T.exC (PySem.W.findObj_own T.hdC hno rfl (by rw [hl, hu])) (handed_of ru) ⟨v, H1, I1.tok _, ru, q⟩
end L2
namespace Fr
theorem gcd_step (a b : Int) : Int.gcd b (a.fmod b) = Int.gcd a b := by
  rw [Int.fmod_def, Int.gcd_sub_mul_left_right, Int.gcd_comm]
theorem fmod_lt (a : Int) {b : Int} (h : b ≠ 0) : (a.fmod b).natAbs < b.natAbs := by
  rcases Int.lt_or_gt_of_ne h with hb | hb
  · have e : a.fmod b = -((-a).fmod (-b)) := by rw [Int.neg_fmod_neg]; simp
    have h1 := Int.fmod_lt_of_pos (-a) (b := -b) (by omega)
    have h2 := Int.fmod_nonneg_of_pos (-a) (b := -b) (by omega)
    omega
  · have h1 := Int.fmod_lt_of_pos a hb
    have h2 := Int.fmod_nonneg_of_pos a hb
    omega
/-- a fraction in lowest terms -/
structure Ok (f : Int × Int) : Prop where
  pos : 0 < f.2
  cop : Int.gcd f.1 f.2 = 1
def g (a b : Int) : Int := (Int.gcd a b : Int)
theorem g_pos {t b : Int} (h : 0 < b) : 0 < g t b := by
  unfold g
  have := Int.gcd_pos_of_ne_zero_right t (b := b) (by omega)
  omega
def low (t b : Int) : Int × Int := (t / g t b, b / g t b)
theorem g_l (t b : Int) : t / g t b * g t b = t := Int.ediv_mul_cancel (Int.gcd_dvd_left t b)
theorem g_r (t b : Int) : b / g t b * g t b = b := Int.ediv_mul_cancel (Int.gcd_dvd_right t b)
theorem low_ok {t b : Int} (h : 0 < b) : Ok (low t b) := by
  have hg := g_pos (t := t) h
  refine ⟨?_, ?_⟩
  · show 0 < b / g t b
    have := g_r t b
    rcases Int.lt_or_le 0 (b / g t b) with z | z
    · exact z
    · have : b / g t b * g t b ≤ 0 := Int.mul_nonpos_of_nonpos_of_nonneg z (by omega)
      omega
  · show Int.gcd (t / g t b) (b / g t b) = 1
    unfold g at hg ⊢
    exact Int.gcd_ediv_gcd_ediv_gcd (by omega)
theorem low_val (t b : Int) : (low t b).1 * b = t * (low t b).2 := by
  show t / g t b * b = t * (b / g t b)
  have h1 := g_l t b
  have h2 := g_r t b
  generalize t / g t b = x at *
  generalize b / g t b = y at *
  generalize g t b = z at *
  subst h1 h2
  grind
/-- one of two in lowest terms divides the other -/
theorem same {f h : Int × Int} (F : Ok f) (G : Ok h) (e : f.1 * h.2 = h.1 * f.2) : f = h := by
  have key : ∀ {f h : Int × Int}, Ok f → f.1 * h.2 = h.1 * f.2 → f.2 ∣ h.2 := fun {f h} F e => by
    have d : f.2.natAbs ∣ f.1.natAbs * h.2.natAbs := by
      rw [← Int.natAbs_mul, e, Int.natAbs_mul]
      exact Nat.dvd_mul_left _ _
    have c : Nat.Coprime f.2.natAbs f.1.natAbs := Nat.Coprime.symm F.cop
    exact Int.natAbs_dvd_natAbs.mp (c.dvd_of_dvd_mul_left d)
  have d1 := key F e
  have d2 := key G e.symm
  have p1 := F.pos
  have p2 := G.pos
  have e2 : f.2 = h.2 := Int.dvd_antisymm (by omega) (by omega) d1 d2
  have e1 : f.1 = h.1 := by
    rw [e2] at e
    exact Int.eq_of_mul_eq_mul_right (by omega) e
  exact Prod.ext e1 e2
theorem eq_low {f : Int × Int} {t b : Int} (F : Ok f) (hb : 0 < b) (e : f.1 * b = t * f.2) : f = low t b := by
  refine same F (low_ok hb) ?_
  have v := low_val t b
  have G := low_ok (t := t) hb
  generalize low t b = l at *
  -- f.1 * l.2 = l.1 * f.2; times b
  refine Int.eq_of_mul_eq_mul_right (a := b) (by omega) ?_
  have : f.1 * l.2 * b = f.1 * b * l.2 := by grind
  rw [this, e]
  have : l.1 * f.2 * b = l.1 * b * f.2 := by grind
  rw [this, v]
  grind
theorem low_self {f : Int × Int} (F : Ok f) : low f.1 f.2 = f := (eq_low F F.pos rfl).symm
def plus (f h : Int × Int) : Int × Int := low (f.1 * h.2 + h.1 * f.2) (f.2 * h.2)
def mul (f h : Int × Int) : Int × Int := low (f.1 * h.1) (f.2 * h.2)
def prod2 (f h : Int × Int) : Int × Int := ((low f.1 h.2).1 * (low h.1 f.2).1, (low f.1 h.2).2 * (low h.1 f.2).2)
theorem cop_of {a b x y : Int} (h : Int.gcd a b = 1) (hx : x ∣ a) (hy : y ∣ b) : Int.gcd x y = 1 :=
  Nat.Coprime.coprime_dvd_left (Int.natAbs_dvd_natAbs.mpr hx) (Nat.Coprime.coprime_dvd_right (Int.natAbs_dvd_natAbs.mpr hy) h)
theorem cop_mul_l {a b c : Int} (h1 : Int.gcd a c = 1) (h2 : Int.gcd b c = 1) : Int.gcd (a * b) c = 1 := by
  show Nat.gcd _ _ = 1
  rw [Int.natAbs_mul]
  exact Nat.Coprime.mul_left h1 h2
theorem cop_mul_r {a b c : Int} (h1 : Int.gcd c a = 1) (h2 : Int.gcd c b = 1) : Int.gcd c (a * b) = 1 := by
  show Nat.gcd _ _ = 1
  rw [Int.natAbs_mul]
  exact Nat.Coprime.mul_right h1 h2
theorem low_dl (t b : Int) : (low t b).1 ∣ t := ⟨g t b, (g_l t b).symm⟩
theorem low_dr (t b : Int) : (low t b).2 ∣ b := ⟨g t b, (g_r t b).symm⟩
theorem prod2_eq {f h : Int × Int} (F : Ok f) (G : Ok h) : prod2 f h = mul f h := by
  have A := low_ok (t := f.1) G.pos
  have B := low_ok (t := h.1) F.pos
  have va := low_val f.1 h.2
  have vb := low_val h.1 f.2
  refine eq_low ⟨Int.mul_pos A.pos B.pos, ?_⟩ (Int.mul_pos F.pos G.pos) ?_
  · show Int.gcd ((low f.1 h.2).1 * (low h.1 f.2).1) ((low f.1 h.2).2 * (low h.1 f.2).2) = 1
    refine cop_mul_l (cop_mul_r A.cop ?_) (cop_mul_r ?_ B.cop)
    · exact cop_of F.cop (low_dl _ _) (low_dr _ _)
    · exact cop_of G.cop (low_dl _ _) (low_dr _ _)
  · show (low f.1 h.2).1 * (low h.1 f.2).1 * (f.2 * h.2) = f.1 * h.1 * ((low f.1 h.2).2 * (low h.1 f.2).2)
    generalize low f.1 h.2 = x at *
    generalize low h.1 f.2 = y at *
    have e1 : x.1 * y.1 * (f.2 * h.2) = (x.1 * h.2) * (y.1 * f.2) := by grind
    rw [e1, va, vb]
    grind
/-- the program's sum of two -/
def stop (f h : Int × Int) : Int := f.1 * (h.2 / g f.2 h.2) + h.1 * (f.2 / g f.2 h.2)
def sum2 (f h : Int × Int) : Int × Int := (stop f h / g (stop f h) (g f.2 h.2), f.2 / g f.2 h.2 * (h.2 / g (stop f h) (g f.2 h.2)))
theorem sum2_eq {f h : Int × Int} (F : Ok f) (G : Ok h) : sum2 f h = plus f h := by
  have pf := F.pos
  have ph := G.pos
  have dp : 0 < g f.2 h.2 := g_pos ph
  have hu := g_l f.2 h.2
  have hv := g_r f.2 h.2
  have huv : Int.gcd (f.2 / g f.2 h.2) (h.2 / g f.2 h.2) = 1 := (low_ok (t := f.2) ph).cop
  have ep : 0 < g (stop f h) (g f.2 h.2) := g_pos dp
  have hT := g_l (stop f h) (g f.2 h.2)
  have hD := g_r (stop f h) (g f.2 h.2)
  have hTD : Int.gcd (stop f h / g (stop f h) (g f.2 h.2)) (g f.2 h.2 / g (stop f h) (g f.2 h.2)) = 1 := (low_ok (t := stop f h) dp).cop
  have htop : stop f h = f.1 * (h.2 / g f.2 h.2) + h.1 * (f.2 / g f.2 h.2) := rfl
  have cu : Int.gcd f.1 (f.2 / g f.2 h.2) = 1 := cop_of F.cop (Int.dvd_refl _) ⟨_, hu.symm⟩
  have cv : Int.gcd h.1 (h.2 / g f.2 h.2) = 1 := cop_of G.cop (Int.dvd_refl _) ⟨_, hv.symm⟩
  have hw : h.2 / g (stop f h) (g f.2 h.2) = g f.2 h.2 / g (stop f h) (g f.2 h.2) * (h.2 / g f.2 h.2) := by
    refine Int.ediv_eq_of_eq_mul_right (by omega) ?_
    have z : g (stop f h) (g f.2 h.2) * (g f.2 h.2 / g (stop f h) (g f.2 h.2) * (h.2 / g f.2 h.2)) = (g f.2 h.2 / g (stop f h) (g f.2 h.2) * g (stop f h) (g f.2 h.2)) * (h.2 / g f.2 h.2) := by grind
    rw [z, hD, Int.mul_comm, hv]
  unfold sum2
  rw [hw]
  generalize stop f h = top at *
  generalize g top (g f.2 h.2) = e at *
  generalize top / e = T at *
  generalize g f.2 h.2 / e = D at *
  generalize f.2 / g f.2 h.2 = u at *
  generalize h.2 / g f.2 h.2 = v at *
  generalize g f.2 h.2 = d at *
  have up : 0 < u := by
    rcases Int.lt_or_le 0 u with z | z
    · exact z
    · have : u * d ≤ 0 := Int.mul_nonpos_of_nonpos_of_nonneg z (by omega)
      omega
  have vp : 0 < v := by
    rcases Int.lt_or_le 0 v with z | z
    · exact z
    · have : v * d ≤ 0 := Int.mul_nonpos_of_nonpos_of_nonneg z (by omega)
      omega
  have Dp : 0 < D := by
    rcases Int.lt_or_le 0 D with z | z
    · exact z
    · have : D * e ≤ 0 := Int.mul_nonpos_of_nonpos_of_nonneg z (by omega)
      omega
  have dT : T ∣ top := ⟨e, hT.symm⟩
  have ctu : Int.gcd top u = 1 := by
    rw [htop, Int.gcd_comm, Int.mul_comm h.1 u, Int.gcd_add_mul_left_right]
    refine cop_mul_r ?_ huv
    rw [Int.gcd_comm]; exact cu
  have ctv : Int.gcd top v = 1 := by
    rw [htop, Int.gcd_comm, Int.add_comm, Int.mul_comm f.1 v, Int.gcd_add_mul_left_right]
    refine cop_mul_r ?_ ?_
    · rw [Int.gcd_comm]; exact cv
    · rw [Int.gcd_comm]; exact huv
  refine eq_low ⟨Int.mul_pos up (Int.mul_pos Dp vp), ?_⟩ (Int.mul_pos pf ph) ?_
  · show Int.gcd T (u * (D * v)) = 1
    exact cop_mul_r (cop_of ctu dT (Int.dvd_refl _)) (cop_mul_r hTD (cop_of ctv dT (Int.dvd_refl _)))
  · show T * (f.2 * h.2) = (f.1 * h.2 + h.1 * f.2) * (u * (D * v))
    have e1 : (f.1 * h.2 + h.1 * f.2) = d * top := by
      rw [htop, ← hu, ← hv]
      grind
    rw [e1, ← hu, ← hv, ← hT, ← hD]
    grind
end Fr
namespace Cc
open PySem L2
/-! ### a def that is called: its promise, its name, how it binds -/
structure Cal (P : Program) (w : World) (K : PySem.W.Frag) (mg : Str → Option Value) (base : Heap) (lv : Nat) (x : Str) (ps : List Str) (sp : Sp) : Prop where
  ex : ∃ (f : Addr) (fd : FuncData), FnOk P w K mg base CX0 lv f fd ps sp ∧ mg x = some (.ref f) ∧ PySem.W.keepIn K (.ref f) = true ∧ Binds K fd ps []
/-- the same, by keywords alone -/
structure CalK (P : Program) (w : World) (K : PySem.W.Frag) (mg : Str → Option Value) (base : Heap) (lv : Nat) (x : Str) (ps : List Str) (sp : Sp) (n : Nat) (ks : List Str) (gV : List V → List V → List V) : Prop where
  ex : ∃ (f : Addr) (fd : FuncData) (g : List Value → List Value → List Value), FnOk P w K mg base CX0 lv f fd ps sp ∧ mg x = some (.ref f) ∧ PySem.W.keepIn K (.ref f) = true ∧ KBn K fd ps n ks g gV
section
variable {X : Cx} {k lv : Nat} {ps ks : List Str} {sp : Sp} {x : Str} {p pos : Pos} {e : Expr} {es : List Expr} {kws : List Keyword} {t tk : TA} {n : Nat} {gV : List V → List V → List V}
theorem pe_cal (C : Cal X.prog X.w X.K X.mg X.base lv x ps sp) (hr : Room k X.A) (hg : Gl X x) (ha : PA X (e :: es) t) (hle : lv ≤ k := by decide)
    (hdb : (x == ("__debug__" : Str)) = false := by decide) (he : starEach (e :: es) X.env = (false, eval e X.env) :: starEach es X.env := by rfl) (hpl : (backTo pos (starEach es X.env)).any (·.1) = false := by rfl) :
    PE X (.Call (.Name x p) (e :: es) [] pos) (tCall sp [] E0 t) := by
  obtain ⟨f, fd, F, hm, hk, hb⟩ := C.ex
  exact pe_call F (hr.mono hle) hg hm hk hb .nil pass0 ha hdb he hpl
theorem pe_cal0 (C : Cal X.prog X.w X.K X.mg X.base lv x ps sp) (hr : Room k X.A) (hg : Gl X x) (hle : lv ≤ k := by decide)
    (hdb : (x == ("__debug__" : Str)) = false := by decide) :
    PE X (.Call (.Name x p) [] [] pos) (tCall sp [] E0 tNil) := by
  obtain ⟨f, fd, F, hm, hk, hb⟩ := C.ex
  exact pe_call0 F (hr.mono hle) hg hm hk hb .nil pass0 hdb
theorem pe_calK0 (C : CalK X.prog X.w X.K X.mg X.base lv x ps sp 0 ks gV) (hr : Room k X.A) (hg : Gl X x) (hkw : PK X kws tk) (hle : lv ≤ k := by decide)
    (hall : (backToKw pos (keywordEach kws X.env)).all (·.1.isSome) = true := by rfl) (hks : (backToKw pos (keywordEach kws X.env)).filterMap (·.1) = ks := by rfl)
    (hdb : (x == ("__debug__" : Str)) = false := by decide)
    (hpl : ((backTo pos (starEach [] X.env)).any (·.1) || (backToKw pos (keywordEach kws X.env)).any (·.1.isNone)) = false := by rfl) :
    PE X (.Call (.Name x p) [] kws pos) (tCallN 0 ks.length sp gV E0 tNil tk) := by
  obtain ⟨f, fd, g, F, hm, hk, hb⟩ := C.ex
  refine ⟨fun pins s σ H Q I h => ?_⟩
  refine wpAny_Call_Name_kw (ld_glob I hg hm ?_ hdb)
  refine PySem.W.callWith_KW0 (h₀ := X.base) I.ok.mod.kin hk hall ?_ hpl
  have h : tk σ H fun zs H2 => ([] : List V).length = 0 ∧ zs.length = ks.length ∧ sp (gV [] zs) H2 Q E0 := h
  refine thn (hkw.run pos pins s σ H _ I h) fun ws s2 ⟨zs, H2, I2, rz, l1, l2, q2⟩ => ⟨I2.kIn, ?_⟩
  rw [hks]
  exact run_fnN F (hr.mono hle) hb pass0 I2 .nil rz l1 l2 q2
theorem pe_calK (C : CalK X.prog X.w X.K X.mg X.base lv x ps sp n ks gV) (hr : Room k X.A) (hg : Gl X x) (ha : PA X (e :: es) t) (hkw : PK X kws tk) (hle : lv ≤ k := by decide)
    (hall : (backToKw pos (keywordEach kws X.env)).all (·.1.isSome) = true := by rfl) (hks : (backToKw pos (keywordEach kws X.env)).filterMap (·.1) = ks := by rfl)
    (hdb : (x == ("__debug__" : Str)) = false := by decide) (he : starEach (e :: es) X.env = (false, eval e X.env) :: starEach es X.env := by rfl)
    (hpl : ((backTo pos (starEach (e :: es) X.env)).any (·.1) || (backToKw pos (keywordEach kws X.env)).any (·.1.isNone)) = false := by rfl) :
    PE X (.Call (.Name x p) (e :: es) kws pos) (tCallN n ks.length sp gV E0 t tk) := by
  obtain ⟨f, fd, g, F, hm, hk, hb⟩ := C.ex
  exact pe_callN F (hr.mono hle) hg hm hk hb pass0 ha hkw hall hks hdb he hpl
end
/-! ### heaps -/
/-- all but what stands at p is as it was -/
def Kp (p : Addr) (H H' : Hp) : Prop := ∀ b o, b ≠ p → H b = some o → H' b = some o
theorem Kp.of {p : Addr} {H H' : Hp} (s : Same H H') : Kp p H H' := fun b o _ e => s b o e
theorem Kp.trans {p : Addr} {H H1 H2 : Hp} (a : Kp p H H1) (b : Kp p H1 H2) : Kp p H H2 := fun c o n h => b c o n (a c o n h)
theorem same_upd {H : Hp} {p : Addr} {o : HO} (h : H p = none) : Same H (upd H p o) := fun b x e => by
  rw [upd_ne (ne_of_none e h)]
  exact e
theorem same_mut {H H' : Hp} {p : Addr} {o : HO} (s : Same H H') (h : H p = none) : Same H (upd H' p o) := fun b x e => by
  rw [upd_ne (ne_of_none e h)]
  exact s b x e
theorem kp_upd {H : Hp} {p : Addr} {o : HO} : Kp p H (upd H p o) := fun b x n e => by
  rw [upd_ne n]
  exact e
theorem Kp.new {p q : Addr} {H H' : Hp} {o : HO} (k : Kp p H H') (h : H' q = none) : Kp p H (upd H' q o) := fun b x n e => by
  rw [upd_ne (ne_of_none (k b x n e) h)]
  exact k b x n e
theorem Kp.free {p q : Addr} {H H' : Hp} (k : Kp p H H') (h : H' q = none) (n : q ≠ p) : H q = none := by
  cases z : H q with
  | none => rfl
  | some o =>
    rw [k q o n z] at h
    cases h
theorem Kp.seq {K : PySem.W.Frag} {p a : Addr} {H H' : Hp} {xs : List V} (k : Kp p H H') (n : a ≠ p) (h : SqL K H a xs) : SqL K H' a xs := by
  rcases h with (h | ⟨o, h⟩) | h
  · exact .inl (.inl (k _ _ n h))
  · exact .inl (.inr ⟨o, k _ _ n h⟩)
  · exact .inr h
end Cc
namespace Cc
open PySem L2
/-! ### defs with defaults -/
structure CalD (P : Program) (w : World) (K : PySem.W.Frag) (mg : Str → Option Value) (base : Heap) (lv : Nat) (x : Str) (ps : List Str) (sp : Sp) (dvs : List V) : Prop where
  ex : ∃ (f : Addr) (fd : FuncData) (ds : List Value), FnOk P w K mg base CX0 lv f fd ps sp ∧ mg x = some (.ref f) ∧ PySem.W.keepIn K (.ref f) = true ∧ Binds K fd ps ds ∧ Vals dvs ds
section
variable {X : Cx} {k lv : Nat} {ps : List Str} {sp : Sp} {x : Str} {p pos : Pos} {e : Expr} {es : List Expr} {t : TA} {dvs : List V}
theorem pe_calD (C : CalD X.prog X.w X.K X.mg X.base lv x ps sp dvs) (hr : Room k X.A) (hg : Gl X x) (ha : PA X (e :: es) t) (hle : lv ≤ k := by decide)
    (hdb : (x == ("__debug__" : Str)) = false := by decide) (he : starEach (e :: es) X.env = (false, eval e X.env) :: starEach es X.env := by rfl) (hpl : (backTo pos (starEach es X.env)).any (·.1) = false := by rfl) :
    PE X (.Call (.Name x p) (e :: es) [] pos) (tCall sp dvs E0 t) := by
  obtain ⟨f, fd, ds, F, hm, hk, hb, hd⟩ := C.ex
  exact pe_call F (hr.mono hle) hg hm hk hb hd pass0 ha hdb he hpl
end
/-- f(k = v, ..): keywords alone, the defaults fill up -/
theorem kbindsD {K : PySem.W.Frag} {x qual : Str} {params : Arguments} {body : List Stmt} {scope : Scope} {dvs : List V} {f : Addr} {fd : FuncData} {ps : List Str} (F : FunD K x qual params body scope dvs [] f fd) (ks : List Str) (g : {α : Type} → List α → List α → List α) (hd : dvs ≠ [])
    (hrel : ∀ {ds zs : List V} {its ws : List Value}, Vals ds its → Vals zs ws → Vals (g ds zs) (g its ws))
    (h : ∀ (T : Addr) (kV doc pm : Value) (an : Option Addr) (cdv ct : Value) (its ws : List Value), its.length = dvs.length → ws.length = ks.length →
      ∃ k, bindArgs (PySem.W.fnOf x qual params body scope (.ref T) kV doc pm an cdv ct) ⟨[], ks.zip ws⟩ = seqItems? (.ref T) >>= k ∧ k (some its.toArray) = pure (ps.zip (g its ws))) :
    ∃ its : List Value, KBn K fd ps 0 ks (fun _ ws => g its ws) (fun _ zs => g dvs zs) := by
  obtain ⟨oc, od, dV, kV, doc, pm, an, cdv, ct, osl, rfl, lk, hcd, hD, hK⟩ := F.ex
  rcases hD with ⟨e, _⟩ | ⟨_, T, o, its, m, rfl, lT, oT, rT⟩
  · exact absurd e hd
  · refine ⟨its, ⟨fun s us ws X l1 l2 => ?_, fun _ r2 => hrel rT r2⟩⟩
    obtain rfl : us = [] := List.length_eq_zero_iff.mp l1
    obtain ⟨k, e1, e2⟩ := h T kV doc pm an cdv ct its ws rT.length.symm l2
    refine BindsTo.of_looks fun M => ?_
    rw [e1]
    exact looks_items X lT oT (.of_pure e2)
theorem vals_rev {zs : List V} {ws : List Value} (r : Vals zs ws) : Vals zs.reverse ws.reverse := by
  induction r with
  | nil => exact .nil
  | cons h t ih =>
    rw [List.reverse_cons, List.reverse_cons]
    exact ih.append (.cons h .nil)
end Cc
namespace Cc
open PySem L2
/-! ### a def that may refuse, called: where it does not refuse (CalX), or within a try (pe_calXS) -/
theorem passX {P : Program} {w : World} {X : Cx} : Passes (L2.CX P w) X E0 := fun _ _ _ _ _ _ _ ⟨_, _, _, _, _, _, _, _, _, _, _, _, e⟩ => e.elim
structure CalX (P : Program) (w : World) (K : PySem.W.Frag) (mg : Str → Option Value) (base : Heap) (lv : Nat) (x : Str) (ps : List Str) (sp : Sp) (dvs : List V) : Prop where
  ex : ∃ (f : Addr) (fd : FuncData) (ds : List Value), FnOk P w K mg base (L2.CX P w) lv f fd ps sp ∧ mg x = some (.ref f) ∧ PySem.W.keepIn K (.ref f) = true ∧ Binds K fd ps ds ∧ Vals dvs ds
structure CalXK (P : Program) (w : World) (K : PySem.W.Frag) (mg : Str → Option Value) (base : Heap) (lv : Nat) (x : Str) (ps : List Str) (sp : Sp) (n : Nat) (ks : List Str) (gV : List V → List V → List V) : Prop where
  ex : ∃ (f : Addr) (fd : FuncData) (g : List Value → List Value → List Value), FnOk P w K mg base (L2.CX P w) lv f fd ps sp ∧ mg x = some (.ref f) ∧ PySem.W.keepIn K (.ref f) = true ∧ KBn K fd ps n ks g gV
section
variable {X : Cx} {k lv : Nat} {ps ks : List Str} {sp : Sp} {x : Str} {p pos : Pos} {e : Expr} {es : List Expr} {kws : List Keyword} {t tk : TA} {n : Nat} {gV : List V → List V → List V} {dvs : List V} {W : WX}
theorem pe_calX (C : CalX X.prog X.w X.K X.mg X.base lv x ps sp dvs) (hr : Room k X.A) (hg : Gl X x) (ha : PA X (e :: es) t) (hle : lv ≤ k := by decide)
    (hdb : (x == ("__debug__" : Str)) = false := by decide) (he : starEach (e :: es) X.env = (false, eval e X.env) :: starEach es X.env := by rfl) (hpl : (backTo pos (starEach es X.env)).any (·.1) = false := by rfl) :
    PE X (.Call (.Name x p) (e :: es) [] pos) (tCall sp dvs E0 t) := by
  obtain ⟨f, fd, ds, F, hm, hk, hb, hd⟩ := C.ex
  exact pe_call F (hr.mono hle) hg hm hk hb hd passX ha hdb he hpl
/-- within a try's body -/
theorem pe_calXS (C : CalX X.prog X.w X.K X.mg X.base lv x ps sp dvs) (tk : Takes X W) (hr : Room k X.A) (hg : Gl X x) (ha : PA X (e :: es) t) (hle : lv ≤ k := by decide)
    (hdb : (x == ("__debug__" : Str)) = false := by decide) (he : starEach (e :: es) X.env = (false, eval e X.env) :: starEach es X.env := by rfl) (hpl : (backTo pos (starEach es X.env)).any (·.1) = false := by rfl) :
    PE X (.Call (.Name x p) (e :: es) [] pos) (tCallSD sp dvs (WE W) t) := by
  obtain ⟨f, fd, ds, F, hm, hk, hb, hd⟩ := C.ex
  exact pe_callSD F (hr.mono hle) hg hm hk hb hd (fun σ => passAt tk σ) ha hdb he hpl
theorem pe_calXK0 (C : CalXK X.prog X.w X.K X.mg X.base lv x ps sp 0 ks gV) (hr : Room k X.A) (hg : Gl X x) (hkw : PK X kws tk) (hle : lv ≤ k := by decide)
    (hall : (backToKw pos (keywordEach kws X.env)).all (·.1.isSome) = true := by rfl) (hks : (backToKw pos (keywordEach kws X.env)).filterMap (·.1) = ks := by rfl)
    (hdb : (x == ("__debug__" : Str)) = false := by decide)
    (hpl : ((backTo pos (starEach [] X.env)).any (·.1) || (backToKw pos (keywordEach kws X.env)).any (·.1.isNone)) = false := by rfl) :
    PE X (.Call (.Name x p) [] kws pos) (tCallN 0 ks.length sp gV E0 tNil tk) := by
  obtain ⟨f, fd, g, F, hm, hk, hb⟩ := C.ex
  refine ⟨fun pins s σ H Q I h => ?_⟩
  refine wpAny_Call_Name_kw (ld_glob I hg hm ?_ hdb)
  refine PySem.W.callWith_KW0 (h₀ := X.base) I.ok.mod.kin hk hall ?_ hpl
  have h : tk σ H fun zs H2 => ([] : List V).length = 0 ∧ zs.length = ks.length ∧ sp (gV [] zs) H2 Q E0 := h
  refine thn (hkw.run pos pins s σ H _ I h) fun ws s2 ⟨zs, H2, I2, rz, l1, l2, q2⟩ => ⟨I2.kIn, ?_⟩
  rw [hks]
  exact run_fnN F (hr.mono hle) hb passX I2 .nil rz l1 l2 q2
theorem pe_calXK (C : CalXK X.prog X.w X.K X.mg X.base lv x ps sp n ks gV) (hr : Room k X.A) (hg : Gl X x) (ha : PA X (e :: es) t) (hkw : PK X kws tk) (hle : lv ≤ k := by decide)
    (hall : (backToKw pos (keywordEach kws X.env)).all (·.1.isSome) = true := by rfl) (hks : (backToKw pos (keywordEach kws X.env)).filterMap (·.1) = ks := by rfl)
    (hdb : (x == ("__debug__" : Str)) = false := by decide) (he : starEach (e :: es) X.env = (false, eval e X.env) :: starEach es X.env := by rfl)
    (hpl : ((backTo pos (starEach (e :: es) X.env)).any (·.1) || (backToKw pos (keywordEach kws X.env)).any (·.1.isNone)) = false := by rfl) :
    PE X (.Call (.Name x p) (e :: es) kws pos) (tCallN n ks.length sp gV E0 t tk) := by
  obtain ⟨f, fd, g, F, hm, hk, hb⟩ := C.ex
  exact pe_callN F (hr.mono hle) hg hm hk hb passX ha hkw hall hks hdb he hpl
theorem op_fdivZ : OpR X (binaryOp .FloorDiv) (rI (fun _ j => j ≠ 0 ∧ j.natAbs.log2 < 9000) fun i j => .int (i.fdiv j)) := opI fun i j _ _ _ _ _ hc q => PyProof.Rows.floordiv_int hc.1 q (.inl (PyProof.noPylong_of_log2 hc.2))
end
/-- positional values and keywords, the defaults fill up -/
theorem kbindsN {K : PySem.W.Frag} {x qual : Str} {params : Arguments} {body : List Stmt} {scope : Scope} {dvs : List V} {f : Addr} {fd : FuncData} {ps : List Str} (F : FunD K x qual params body scope dvs [] f fd) (n : Nat) (ks : List Str) (g : {α : Type} → List α → List α → List α → List α) (hd : dvs ≠ [])
    (hrel : ∀ {vs ds zs : List V} {us its ws : List Value}, Vals vs us → Vals ds its → Vals zs ws → Vals (g vs ds zs) (g us its ws))
    (h : ∀ (T : Addr) (kV doc pm : Value) (an : Option Addr) (cdv ct : Value) (us its ws : List Value), us.length = n → its.length = dvs.length → ws.length = ks.length →
      ∃ k, bindArgs (PySem.W.fnOf x qual params body scope (.ref T) kV doc pm an cdv ct) ⟨us, ks.zip ws⟩ = seqItems? (.ref T) >>= k ∧ k (some its.toArray) = pure (ps.zip (g us its ws))) :
    ∃ its : List Value, KBn K fd ps n ks (fun us ws => g us its ws) (fun vs zs => g vs dvs zs) := by
  obtain ⟨oc, od, dV, kV, doc, pm, an, cdv, ct, osl, rfl, lk, hcd, hD, hK⟩ := F.ex
  rcases hD with ⟨e, _⟩ | ⟨_, T, o, its, m, rfl, lT, oT, rT⟩
  · exact absurd e hd
  · refine ⟨its, ⟨fun s us ws X l1 l2 => ?_, fun r1 r2 => hrel r1 rT r2⟩⟩
    obtain ⟨k, e1, e2⟩ := h T kV doc pm an cdv ct us its ws l1 rT.length.symm l2
    refine BindsTo.of_looks fun M => ?_
    rw [e1]
    exact looks_items X lT oT (.of_pure e2)
end Cc
namespace Toy
open PySem L2 Cc
abbrev RW0 : Program := PySem.Challenge.pw_eitherslack_k01_lowest
structure Adr where
  (SlackError NoNumber NoTable NoRow NoChoice Flat NoSaying Lifted NoCover Dipped NotOne NoText NoLine NoName : Addr)
structure Txt (K : PySem.W.Frag) (mg : Str → Option Value) (c : Adr) : Prop where
  abs : mg "abs" = none
  len : mg "len" = none
  range : mg "range" = none
  isinstance : mg "isinstance" = none
  zip : mg "zip" = none
  int_ : mg "int" = none
  bool_ : mg "bool" = none
  tuple_ : mg "tuple" = none
  ValueError_ : mg "ValueError" = none
  k_PLAIN_BITS : ∃ tk, mg "PLAIN_BITS" = some (.int (6000) tk)
  g_SlackError : mg "SlackError" = some (.ref c.SlackError)
  g_NoNumber : mg "NoNumber" = some (.ref c.NoNumber)
  g_NoTable : mg "NoTable" = some (.ref c.NoTable)
  g_NoRow : mg "NoRow" = some (.ref c.NoRow)
  g_NoChoice : mg "NoChoice" = some (.ref c.NoChoice)
  g_Flat : mg "Flat" = some (.ref c.Flat)
  g_NoSaying : mg "NoSaying" = some (.ref c.NoSaying)
  g_Lifted : mg "Lifted" = some (.ref c.Lifted)
  g_NoCover : mg "NoCover" = some (.ref c.NoCover)
  g_Dipped : mg "Dipped" = some (.ref c.Dipped)
  g_NotOne : mg "NotOne" = some (.ref c.NotOne)
  g_NoText : mg "NoText" = some (.ref c.NoText)
  g_NoLine : mg "NoLine" = some (.ref c.NoLine)
  g_NoName : mg "NoName" = some (.ref c.NoName)
/-- of which classes an exception of the class D is: those of the list, in the order of Adr behind SlackError -/
structure KindOf (K : PySem.W.Frag) (c : Adr) (D : Addr) (b : Nat → Bool) : Prop where
  ec : ExcC K D
  ve : PySem.W.kitOne K (.ref D) (.type "ValueError") = some true
  sl : PySem.W.kitOne K (.ref D) (.ref c.SlackError) = some true
  q1 : PySem.W.kitOne K (.ref D) (.ref c.NoNumber) = some (b 1)
  q2 : PySem.W.kitOne K (.ref D) (.ref c.NoTable) = some (b 2)
  q3 : PySem.W.kitOne K (.ref D) (.ref c.NoRow) = some (b 3)
  q4 : PySem.W.kitOne K (.ref D) (.ref c.NoChoice) = some (b 4)
  q5 : PySem.W.kitOne K (.ref D) (.ref c.Flat) = some (b 5)
  q6 : PySem.W.kitOne K (.ref D) (.ref c.NoSaying) = some (b 6)
  q7 : PySem.W.kitOne K (.ref D) (.ref c.Lifted) = some (b 7)
  q8 : PySem.W.kitOne K (.ref D) (.ref c.NoCover) = some (b 8)
  q9 : PySem.W.kitOne K (.ref D) (.ref c.Dipped) = some (b 9)
  q10 : PySem.W.kitOne K (.ref D) (.ref c.NotOne) = some (b 10)
  q11 : PySem.W.kitOne K (.ref D) (.ref c.NoText) = some (b 11)
  q12 : PySem.W.kitOne K (.ref D) (.ref c.NoLine) = some (b 12)
  q13 : PySem.W.kitOne K (.ref D) (.ref c.NoName) = some (b 13)
abbrev Fra (H : Hp) (a : Addr) (f : Int × Int) : Prop := H a = some (.tup [.int f.1, .int f.2])
def Pile (H : Hp) (p : Addr) : Prop := ∃ x y z : Int, H p = some (.lst [.int x, .int y, .int z])
end Toy
namespace Toy
open PySem L2 Cc
section
variable {P : Program} {w : World} {K : PySem.W.Frag} {mg : Str → Option Value} {base : Heap}
/-! ### common_divisor -/
def spCd : Sp := fun vs H Q _ => ∃ a b : Int, vs = [.int a, .int b] ∧ Q (.int (Fr.g a b)) H
/-- the program's: of numbers of at most 6000 bits -/
def spCdB : Sp := fun vs H Q _ => ∃ a b : Int, vs = [.int a, .int b] ∧ b.natAbs < 2 ^ 6000 ∧ Q (.int (Fr.g a b)) H
theorem abs_gcd (a b : Int) : Int.gcd (if a < 0 then -a else a) (if b < 0 then -b else b) = Int.gcd a b := by
  split <;> split <;> simp only [Int.neg_gcd, Int.gcd_neg]
abbrev s_common_divisor : Stmt := top 5
theorem sc_common_divisor : FnScope ["one", "other"] ["one", "other"] (defScope s_common_divisor) := ⟨rfl, rfl, rfl, by decide +kernel, rfl, by decide +kernel, by decide +kernel⟩
theorem ok_cd {f : Addr} {fd : FuncData} {k : Nat} (F : Fun K "common_divisor" "common_divisor" s_common_divisor f fd) {c : Adr} (T : Txt K mg c) : FnOk P w K mg base CX0 (k + 1) f fd ["one", "other"] spCdB := by
  obtain ⟨tkb, plb⟩ := T.k_PLAIN_BITS
  refine F.ok sc_common_divisor (fun vs H Q E h => ?_) (fun cdv A outer s H vs Q E hr h => ?_)
  · obtain ⟨a, b, rfl, _⟩ := h
    rfl
  · obtain ⟨a, b, rfl, hb, q⟩ := h
    refine ⟨_, (pss_cons (ps_par (i := 0) (j := 1) (by rfl) sc_common_divisor.nd rfl rfl (by decide) rfl rfl (pa_cons (pe_callB call_abs (by rfl) T.abs (by decide +kernel) (pa_cons (pv 0) pa_nil)) (pa_cons (pe_callB call_abs (by rfl) T.abs (by decide +kernel) (pa_cons (pv 1) pa_nil)) pa_nil)) (by rfl))
      (pss_cons (ps_while PassesOwn.never (pt_cmpR op_gt (pe_bits (pv 1)) (pe_glob (v := .int 6000) (by rfl) plb ⟨_, rfl⟩) (nomark _))
        (pss_one ps_never))
      (pss_cons (ps_while PassesOwn.never (pt_cmpR op_ne (pv 1) pe_int (nomark _))
        (pss_one (ps_par (i := 0) (j := 1) (by rfl) sc_common_divisor.nd rfl rfl (by decide) rfl rfl (pa_cons (pv 1) (pa_cons (pe_op op_modN (pv 0) (pv 1)) pa_nil)) (by rfl))))
      (pss_one (ps_ret (pv 0)))))), ?_⟩
    refine ⟨_, rfl, a, rfl, _, rfl, b, rfl, _, _, rfl, ?_⟩
    have a0 : 0 ≤ (if a < 0 then -a else a) := by split <;> omega
    have b0 : 0 ≤ (if b < 0 then -b else b) := by split <;> omega
    have b1 : (if b < 0 then -b else b).natAbs < 2 ^ 6000 := by
      rw [show (if b < 0 then -b else b).natAbs = b.natAbs by split <;> omega]
      exact hb
    have e0 := abs_gcd a b
    generalize (if a < 0 then -a else a) = a' at a0 e0 ⊢
    generalize (if b < 0 then -b else b) = b' at b0 b1 e0 ⊢
    refine while_by (fun σ H' => H' = H ∧ σ = [some (.int a'), some (.int b')]) (fun _ _ => 0) ⟨rfl, rfl⟩ ?_ ?_
    · rintro σ H' ⟨rfl, rfl⟩
      refine ⟨_, rfl, b', rfl, _, _, rfl, rfl, _, rfl, ite2 (fun z => ?_) (fun z => ?_)⟩
      · have z1 : (6000 : Int) < (Builtin.Int.intBits b' : Int) := of_decide_eq_true z
        have z2 := PyProof.Rows.intBits_le b1
        omega
      refine while_by (fun σ H2 => H2 = H' ∧ ∃ x y : Int, σ = [some (.int x), some (.int y)] ∧ Int.gcd x y = Int.gcd a b ∧ 0 ≤ x ∧ 0 ≤ y) (fun σ _ => match σ with | [_, some (.int y)] => y.natAbs | _ => 0) ⟨rfl, a', b', rfl, e0, a0, b0⟩ ?_ ?_
      · rintro σ H2 ⟨rfl, x, y, rfl, e, x0, yn⟩
        refine ⟨_, rfl, rfl, _, rfl, ite2 (fun z => ?_) (fun z => ?_)⟩
        · have y0 : y ≠ 0 := fun h0 => by
            subst h0
            exact absurd z (by decide)
          refine ⟨_, rfl, _, rfl, _, rfl, _, _, rfl, rfl, y0, _, _, rfl, ⟨rfl, y, x.fmod y, rfl, ?_, yn, Int.fmod_nonneg_of_pos x (by omega)⟩, ?_⟩
          · rw [Fr.gcd_step, e]
          · exact Fr.fmod_lt x y0
        · have y0 : y = 0 := by
            have z1 : (!decide (V.int y = V.int 0)) = false := by simpa using z
            have z2 : decide (V.int y = V.int 0) = true := by simpa using z1
            exact V.int.inj (of_decide_eq_true z2)
          subst y0
          refine ⟨_, rfl, ?_⟩
          have e2 : x = Fr.g a b := by
            unfold Fr.g
            rw [← e, Int.gcd_zero_right]
            omega
          rw [e2]
          exact q
      · intro σ H' Q' Q'' hm ⟨v, hv, h1, k1, hk, h2⟩
        exact ⟨v, hv, h1, k1, hk, hm _ _ h2⟩
    · intro σ H' Q' Q'' hm ⟨v, hv, i, hi, j, k, e1, e2, bb, e3, h2⟩
      exact ⟨v, hv, i, hi, j, k, e1, e2, bb, e3, hm _ _ h2⟩
end
section
variable {P : Program} {w : World} {K : PySem.W.Frag} {mg : Str → Option Value} {base : Heap}
abbrev Big (x : Int) : Prop := x.natAbs < 2 ^ 4000
theorem g_le {t b : Int} (h : 0 < b) : (Fr.g t b).natAbs ≤ b.natAbs := by
  have h1 := Fr.g_pos (t := t) h
  have h2 : Fr.g t b ∣ b := Int.gcd_dvd_right t b
  exact Nat.le_of_dvd (by omega) (Int.natAbs_dvd_natAbs.mpr h2)
theorem g_le' {t b : Int} {n : Nat} (h : 0 < b) (hb : b.natAbs < 2 ^ n) : (Fr.g t b).natAbs < 2 ^ n := Nat.lt_of_le_of_lt (g_le h) hb
theorem dv_le {x y : Int} {n : Nat} (hx : x.natAbs < 2 ^ n) : (x / y).natAbs < 2 ^ n := Nat.lt_of_le_of_lt (Int.natAbs_ediv_le_natAbs x y) hx
theorem cdiv {i j : Int} {b : Nat} (h : 0 < j) (hb : j.natAbs < 2 ^ b) (h0 : 0 < b := by decide) (h9 : b ≤ 9000 := by decide) : CDivW i j := wide_div h hb h0 h9
theorem at0 {α : Type} {x y : α} : atI [x, y] 0 = some x := rfl
theorem at1 {α : Type} {x y : α} : atI [x, y] 1 = some y := rfl
theorem cmul {i j : Int} {a b : Nat} (ha : i.natAbs < 2 ^ a) (hb : j.natAbs < 2 ^ b) (h0 : 0 < a := by decide) (h1 : 0 < b := by decide) (h : a + b ≤ 1000000 := by decide) : CMulW i j := wide_mul ha hb h0 h1 h
theorem big8 {x : Int} (h : Big x) : x.natAbs < 2 ^ 6000 := Nat.lt_of_lt_of_le h (Nat.pow_le_pow_right (by decide) (by decide))
theorem low_bl {t b : Int} {n : Nat} (h : t.natAbs < 2 ^ n) : (Fr.low t b).1.natAbs < 2 ^ n := dv_le h
theorem low_br {t b : Int} {n : Nat} (h : b.natAbs < 2 ^ n) : (Fr.low t b).2.natAbs < 2 ^ n := dv_le h
/-! ### the law's draws -/
theorem fm {x m : Int} (h : 0 < m) : 0 ≤ x.fmod m ∧ x.fmod m < m := ⟨Int.fmod_nonneg_of_pos x h, Int.fmod_lt_of_pos x h⟩
theorem sm {x : Int} {n : Nat} (h0 : 0 ≤ x) (h : x < ((2 ^ n : Nat) : Int)) : x.natAbs < 2 ^ n := by omega
theorem fm64 {x m : Int} (h : 0 < m) (h2 : m < 18446744073709551616) : (x.fmod m).natAbs < 2 ^ 64 := by
  have := fm (x := x) h
  show (x.fmod m).natAbs < 18446744073709551616
  omega
def spMix : Sp := fun vs H Q _ => ∃ a b : Int, vs = [.int a, .int b] ∧ ∀ d : Int, Q (.int d) H
abbrev s__law_mixed : Stmt := top 24
theorem sc__law_mixed : FnScope ["_law_cell", "_law_k", "_law_number"] ["_law_cell", "_law_k"] (defScope s__law_mixed) := ⟨rfl, rfl, rfl, by decide +kernel, rfl, by decide +kernel, by decide +kernel⟩
theorem ok_mix {f : Addr} {fd : FuncData} {k : Nat} (F : Fun K "_law_mixed" "_law_mixed" s__law_mixed f fd) : FnOk P w K mg base CX0 (k + 1) f fd ["_law_cell", "_law_k"] spMix := by
  refine F.ok sc__law_mixed (fun vs H Q E h => ?_) (fun cdv A outer s H vs Q E hr h => ?_)
  · obtain ⟨a, b, rfl, _⟩ := h
    rfl
  · obtain ⟨a, b, rfl, q⟩ := h
    refine ⟨_, (pss_cons (ps_set (i := 2) sc__law_mixed.nd rfl (Or.inl rfl) (pe_op op_modN (pe_op op_add (pe_op op_add (pe_op op_mulW (pe_op op_modN (pv 0) pe_int) pe_int) (pe_op op_mul (pv 1) pe_int)) pe_int) pe_int))
      (pss_cons (ps_set (i := 2) sc__law_mixed.nd rfl (Or.inl rfl) (pe_op op_modN (pe_op op_mulW (pv 2) (pv 2)) pe_int))
      (pss_one (ps_ret (pe_op op_fdivW (pe_op op_modN (pe_op op_mulW (pv 2) (pv 2)) pe_int) pe_int))))), ?_⟩
    have n1 : (2147483647 : Int) ≠ 0 := by decide
    have n2 : (2147483629 : Int) ≠ 0 := by decide
    have n3 : (2147483587 : Int) ≠ 0 := by decide
    refine ⟨_, rfl, _, _, rfl, rfl, n1, _, _, rfl, rfl, cmul (a := 64) (b := 64) (fm64 (by decide) (by decide)) (by decide), ?_⟩
    refine ⟨_, rfl, _, _, rfl, rfl, .inr ⟨by decide, by decide⟩, _, _, rfl, rfl, _, _, rfl, rfl, _, _, rfl, rfl, n1, ?_⟩
    refine ⟨_, rfl, _, rfl, _, _, rfl, rfl, cmul (a := 64) (b := 64) (fm64 (by decide) (by decide)) (fm64 (by decide) (by decide)), _, _, rfl, rfl, n2, ?_⟩
    exact ⟨_, rfl, _, rfl, _, _, rfl, rfl, cmul (a := 64) (b := 64) (fm64 (by decide) (by decide)) (fm64 (by decide) (by decide)), _, _, rfl, rfl, n3, _, _, rfl, rfl, cdiv (b := 64) (by decide) (by decide), q _⟩
def spPile (K : PySem.W.Frag) : Sp := fun vs H Q _ => ∃ (a : Addr) (ns : List Int) (k : Int), vs = [.ref a, .int k] ∧ SqL K H a (ns.map V.int) ∧ 0 ≤ k ∧
  ∀ p H', Same H H' → H p = none → Pile H' p → Q (.ref p) H'
abbrev s__law_pile : Stmt := top 25
theorem sc__law_pile : FnScope ["_law_script", "_law_k", "_law_cell"] ["_law_script", "_law_k"] (defScope s__law_pile) := ⟨rfl, rfl, rfl, by decide +kernel, rfl, by decide +kernel, by decide +kernel⟩
theorem ok_pile {f : Addr} {fd : FuncData} {k : Nat} (F : Fun K "_law_pile" "_law_pile" s__law_pile f fd) {c : Adr} (T : Txt K mg c) : FnOk P w K mg base CX0 (k + 1) f fd ["_law_script", "_law_k"] (spPile K) := by
  refine F.ok sc__law_pile (fun vs H Q E h => ?_) (fun cdv A outer s H vs Q E hr h => ?_)
  · obtain ⟨a, ns, k, rfl, _⟩ := h
    rfl
  · obtain ⟨a, ns, k, rfl, hS, k0, q⟩ := h
    refine ⟨_, (pss_cons (ps_set (i := 2) sc__law_pile.nd rfl (Or.inl rfl) pe_int)
      (pss_cons (ps_if (pt_cmpR op_lt (pv 1) (pe_callB call_len_seq (by rfl) T.len (by decide +kernel) (pa_cons (pv 0) pa_nil)) (nomark _))
        (pss_one (ps_set (i := 2) sc__law_pile.nd rfl (Or.inl rfl) (pe_ix ix_list (pv 0) (pv 1) (fun _ _ => rfl))))
        pss_nil)
      (pss_one (ps_ret (pe_lst (pa_cons (pe_ix ix_list (pe_lst (pa_cons pe_int (pa_cons (pe_op op_modN (pv 2) (pe_op op_mulW (pe_op op_mulW (pe_op op_pow pe_int pe_int) (pe_op op_pow pe_int pe_int)) (pe_op op_pow pe_int pe_int))) pa_nil))) (pe_callTy call_int1 (by rfl) T.int_ (by decide +kernel) (pa_cons (pe_cmpR op_ge (pe_callB call_abs (by rfl) T.abs (by decide +kernel) (pa_cons (pv 2) pa_nil)) (pe_op op_pow pe_int pe_int) (nomark _)) pa_nil)) (fun _ _ => rfl)) (pa_cons (pe_op op_modN (pv 2) pe_int) (pa_cons (pe_op op_mul pe_int (pv 1)) pa_nil)))))))), ?_⟩
    -- behind the if: some cell
    have rest : ∀ cell : Int, tRet (tLst (tCons (tOp (rIxL K) (tLst (tCons (tC (.int 0)) (tCons (tOp (rI (fun _ j => j ≠ 0) fun i j => .int (i.fmod j)) (tVar 2) (tOp (rI CMulW fun i j => .int (i * j)) (tOp (rI CMulW fun i j => .int (i * j)) (tOp (rI CPow fun i j => .int (i ^ j.toNat)) (tC (.int 10)) (tC (.int 50))) (tOp (rI CPow fun i j => .int (i ^ j.toNat)) (tC (.int 10)) (tC (.int 50)))) (tOp (rI CPow fun i j => .int (i ^ j.toNat)) (tC (.int 10)) (tC (.int 50))))) tNil)))
        (tCB (fun xs H Q => (∃ i, xs = [.int i] ∧ Q (.int i) H) ∨ ∃ k, xs = [.bl k] ∧ Q (.int (if k then 1 else 0)) H) (tCons (tOp (rI0 fun i j => .bl (decide (j ≤ i))) (tCB (fun xs H Q => ∃ i, xs = [.int i] ∧ Q (.int (if i < 0 then -i else i)) H) (tCons (tVar 2) tNil)) (tOp (rI CPow fun i j => .int (i ^ j.toNat)) (tC (.int 10)) (tC (.int 18)))) tNil)))
        (tCons (tOp (rI (fun _ j => j ≠ 0) fun i j => .int (i.fmod j)) (tVar 2) (tC (.int 2147483647))) (tCons (tOp (rI CMul fun i j => .int (i * j)) (tC (.int 97)) (tVar 1)) tNil)))) { nx := fun _ H' => Q .non H', rt := Q } [some (.ref a), some (.int k), some (.int cell)] H := fun cell => by
      have p50 : CPow 10 50 := ⟨by decide, by decide, by decide⟩
      refine ⟨_, rfl, _, _, rfl, rfl, p50, _, _, rfl, rfl, p50, _, _, rfl, rfl, cmul (a := 256) (b := 256) (by decide +kernel) (by decide +kernel), _, _, rfl, rfl, p50, _, _, rfl, rfl, cmul (a := 512) (b := 256) (by decide +kernel) (by decide +kernel), _, _, rfl, rfl, (show ((10 : Int) ^ (50 : Int).toNat * 10 ^ (50 : Int).toNat * 10 ^ (50 : Int).toNat) ≠ 0 by decide +kernel), by show 2 ≤ sizeLine; decide, fun l nl => ?_⟩
      refine ⟨_, rfl, _, rfl, _, _, rfl, rfl, ⟨by decide, by decide, by decide⟩, _, _, rfl, rfl, .inr ⟨_, rfl, ?_⟩⟩
      have key : ∀ b : Bool, ∃ u : Int, atI [V.int 0, V.int (cell.fmod (10 ^ (50 : Int).toNat * 10 ^ (50 : Int).toNat * 10 ^ (50 : Int).toNat))] (if b then 1 else 0) = some (.int u) := fun b => by
        cases b
        · exact ⟨_, rfl⟩
        · exact ⟨_, rfl⟩
      obtain ⟨u, hu⟩ := key (decide ((10 : Int) ^ (18 : Int).toNat ≤ (if cell < 0 then -cell else cell)))
      refine ⟨l, _, _, .int u, rfl, rfl, .inl (.inl upd_same), hu, ?_⟩
      refine ⟨_, rfl, _, _, rfl, rfl, (show (2147483647 : Int) ≠ 0 by decide), _, rfl, _, _, rfl, rfl, .inl ⟨by decide, by decide⟩, by show 3 ≤ sizeLine; decide, fun p np => ?_⟩
      have s1 := same_upd (o := .lst [V.int 0, V.int (cell.fmod (10 ^ (50 : Int).toNat * 10 ^ (50 : Int).toNat * 10 ^ (50 : Int).toNat))]) nl
      refine q p _ (s1.trans (same_upd np)) (s1.free np) ⟨_, _, _, upd_same⟩
    refine ⟨_, rfl, _, rfl, a, _, rfl, .inl hS, _, _, rfl, rfl, _, rfl, ite2 (fun z => ?_) (fun z => ?_)⟩
    · have z1 : k < ((ns.map V.int).length : Int) := of_decide_eq_true z
      have z2 : k.toNat < ns.length := by
        rw [List.length_map] at z1
        omega
      have e : atI (ns.map V.int) k = some (.int ns[k.toNat]) := by
        refine at_of (j := k.toNat) (by omega) ?_
        rw [List.getElem?_map, List.getElem?_eq_getElem z2]
        rfl
      exact ⟨_, rfl, _, rfl, a, _, _, _, rfl, rfl, hS, e, rest _⟩
    · exact rest 0
end
section
variable {P : Program} {w : World} {K : PySem.W.Frag} {mg : Str → Option Value} {base : Heap}
theorem three {α : Type} {x y z : α} : atI [x, y, z] 0 = some x ∧ atI [x, y, z] 1 = some y ∧ atI [x, y, z] 2 = some z := ⟨rfl, rfl, rfl⟩
def spTake : Sp := fun vs H Q _ => ∃ (p : Addr) (m : Int), vs = [.ref p, .int m] ∧ 0 < m ∧ m.natAbs < 2 ^ 64 ∧ Pile H p ∧ ∀ (d : Int) (H' : Hp), 0 ≤ d → d < m → Kp p H H' → Pile H' p → Q (.int d) H'
abbrev s__law_take : Stmt := top 26
theorem sc__law_take : FnScope ["_law_pile_here", "_law_many", "_law_digit"] ["_law_pile_here", "_law_many"] (defScope s__law_take) := ⟨rfl, rfl, rfl, by decide +kernel, rfl, by decide +kernel, by decide +kernel⟩
theorem ok_take {f : Addr} {fd : FuncData} {k : Nat} (F : Fun K "_law_take" "_law_take" s__law_take f fd) (c__law_mixed : Cal P w K mg base 1 "_law_mixed" ["_law_cell", "_law_k"] spMix) : FnOk P w K mg base CX0 (k + 1 + 1) f fd ["_law_pile_here", "_law_many"] spTake := by
  refine F.ok sc__law_take (fun vs H Q E h => ?_) (fun cdv A outer s H vs Q E hr h => ?_)
  · obtain ⟨p, m, rfl, _⟩ := h
    rfl
  · obtain ⟨p, m, rfl, m0, m64, ⟨x, y, z, hp⟩, q⟩ := h
    have hr : Room 1 _ := hr.mono (Nat.le_add_left 1 k)
    refine ⟨_, (pss_cons (ps_if (pt_cmpR op_in_seq (pe_ix ix_list (pv 0) pe_int (fun _ _ => rfl)) (pe_lst (pa_cons pe_int (pa_cons (pe_un un_neg pe_int) pa_nil))) (by rfl))
        (pss_cons (ps_asg (pe_op op_add (pe_ix ix_list (pv 0) pe_int (fun _ _ => rfl)) pe_int) (pg_sub (pv 0) pe_int set_list))
          (pss_one (ps_ret (pe_op op_modN (pe_cal c__law_mixed hr (by rfl) (pa_cons (pe_ix ix_list (pv 0) pe_int (fun _ _ => rfl)) (pa_cons (pe_ix ix_list (pv 0) pe_int (fun _ _ => rfl)) pa_nil))) (pv 1)))))
        pss_nil)
      (pss_cons (ps_set (i := 2) sc__law_take.nd rfl (Or.inl rfl) (pe_op op_modN (pe_ix ix_list (pv 0) pe_int (fun _ _ => rfl)) (pv 1)))
      (pss_cons (ps_asg (pe_op op_fdivW (pe_ix ix_list (pv 0) pe_int (fun _ _ => rfl)) (pv 1)) (pg_sub (pv 0) pe_int set_list))
      (pss_one (ps_ret (pv 2)))))), ?_⟩
    refine ⟨_, rfl, p, _, _, _, rfl, rfl, .inl (.inl hp), three.1, _, rfl, by show 2 ≤ sizeLine; decide, fun l nl => ?_⟩
    have npl : p ≠ l := ne_of_none hp nl
    have s1 := same_upd (o := .lst [V.int 0, V.int (-1)]) nl
    have m0' : m ≠ 0 := by omega
    refine ⟨l, _, rfl, .inl (.inl (.inl upd_same)), rfl, rfl, _, rfl, ite2 (fun _ => ?_) (fun _ => ?_)⟩
    · refine ⟨_, rfl, p, _, _, _, rfl, rfl, .inl (.inl (s1 _ _ hp)), three.2.2, _, _, rfl, rfl, _, rfl, p, _, _, 2, rfl, rfl, s1 _ _ hp, rfl, ?_⟩
      refine ⟨_, rfl, p, _, _, _, rfl, rfl, .inl (.inl upd_same), three.2.1, _, rfl, p, _, _, _, rfl, rfl, .inl (.inl upd_same), three.2.2, _, _, rfl, fun d => ?_⟩
      refine ⟨_, rfl, _, _, rfl, rfl, m0', ?_⟩
      exact q _ _ (fm m0).1 (fm m0).2 (fun b o n e => by rw [upd_ne n]; exact s1 _ _ e) ⟨_, _, _, upd_same⟩
    · refine ⟨_, rfl, p, _, _, _, rfl, rfl, .inl (.inl (s1 _ _ hp)), three.1, _, rfl, _, _, rfl, rfl, m0', ?_⟩
      refine ⟨_, rfl, p, _, _, _, rfl, rfl, .inl (.inl (s1 _ _ hp)), three.1, _, rfl, _, _, rfl, rfl, cdiv m0 m64, _, rfl, p, _, _, 0, rfl, rfl, s1 _ _ hp, rfl, ?_⟩
      exact ⟨_, rfl, q _ _ (fm m0).1 (fm m0).2 (fun b o n e => by rw [upd_ne n]; exact s1 _ _ e) ⟨_, _, _, upd_same⟩⟩
theorem pile_ne {H H' : Hp} {p q : Addr} (h : Pile H p) (n : H q = none) : q ≠ p := by
  obtain ⟨x, y, z, e⟩ := h
  exact (ne_of_none e n).symm
theorem Pile.new {H : Hp} {p q : Addr} {o : HO} (h : Pile H p) (n : H q = none) : Pile (upd H q o) p := by
  obtain ⟨x, y, z, e⟩ := h
  exact ⟨x, y, z, by rw [upd_ne (ne_of_none e n)]; exact e⟩
end
section
variable {w : World} {K : PySem.W.Frag} {mg : Str → Option Value} {base : Heap} {c : Adr}
/-! ### lowest, of any bottom but 0 -/
def lowZ (t b : Int) : Int × Int := if b < 0 then Fr.low (-t) (-b) else Fr.low t b
theorem g_neg (t b : Int) : Fr.g (-t) (-b) = Fr.g t b := by
  unfold Fr.g
  rw [Int.neg_gcd, Int.gcd_neg]
theorem g_pos' {t b : Int} (h : b ≠ 0) : 0 < Fr.g t b := by
  rcases Int.lt_or_gt_of_ne h with z | z
  · rw [← g_neg]
    exact Fr.g_pos (by omega)
  · exact Fr.g_pos z
theorem g_le0 {t b : Int} {n : Nat} (h : b ≠ 0) (hb : b.natAbs < 2 ^ n) : (Fr.g t b).natAbs < 2 ^ n := by
  rcases Int.lt_or_gt_of_ne h with z | z
  · rw [← g_neg]
    exact g_le' (by omega) (by rw [Int.natAbs_neg]; exact hb)
  · exact g_le' z hb
theorem fd_pos {x g : Int} (h : 0 < g) : x.fdiv g = x / g := Int.fdiv_eq_ediv_of_nonneg x (by omega)
theorem fd_neg {x g : Int} (h : 0 < g) : x.fdiv (-g) = (-x) / g := by
  have e : x.fdiv (-g) = (-x).fdiv g := by
    have z := Int.neg_fdiv_neg (-x) g
    rw [Int.neg_neg] at z
    exact z
  rw [e, fd_pos h]
theorem lowZ_ok {t b : Int} (h : b ≠ 0) : Fr.Ok (lowZ t b) := by
  unfold lowZ
  split
  · exact Fr.low_ok (by omega)
  · exact Fr.low_ok (by omega)
theorem lowZ_val {t b : Int} : (lowZ t b).1 * b = t * (lowZ t b).2 := by
  unfold lowZ
  split
  · have z := Fr.low_val (-t) (-b)
    rw [Int.mul_neg, Int.neg_mul] at z
    omega
  · exact Fr.low_val t b
theorem lowZ_one (t : Int) : lowZ t 1 = (t, 1) := by
  unfold lowZ
  rw [if_neg (by decide)]
  exact Fr.low_self (f := (t, 1)) ⟨by show (0 : Int) < 1; decide, by show Int.gcd t 1 = 1; rw [Int.gcd_one_right]⟩
theorem low_flip {t b : Int} (h : 0 < b) : Fr.low (-t) b = (-(Fr.low t b).1, (Fr.low t b).2) := by
  refine (Fr.eq_low (f := (-(Fr.low t b).1, (Fr.low t b).2)) ⟨(Fr.low_ok h).pos, ?_⟩ h ?_).symm
  · show Int.gcd (-(Fr.low t b).1) (Fr.low t b).2 = 1
    rw [Int.neg_gcd]
    exact (Fr.low_ok h).cop
  · show -(Fr.low t b).1 * b = -t * (Fr.low t b).2
    rw [Int.neg_mul, Int.neg_mul, Fr.low_val t b]
theorem lowZ_flip {t b : Int} (h : b ≠ 0) : lowZ t (-b) = (-(lowZ t b).1, (lowZ t b).2) := by
  unfold lowZ
  rcases Int.lt_or_gt_of_ne h with z | z
  · rw [if_neg (by omega), if_pos z]
    have e := low_flip (t := -t) (b := -b) (by omega)
    rw [Int.neg_neg] at e
    exact e
  · rw [if_pos (by omega), if_neg (by omega), Int.neg_neg]
    exact low_flip z
def spLow (c : Adr) : Sp := fun vs H Q E => ∃ t b : Int, vs = [.int t, .int b] ∧ b.natAbs < 2 ^ 6000 ∧ (b = 0 → ∀ d, H d = none → E (.ref c.NoNumber) (some d) (upd H d (.xd [(("top" : Str), .int t)]))) ∧
  (b ≠ 0 → ∀ p, H p = none → Q (.ref p) (upd H p (.tup [.int (lowZ t b).1, .int (lowZ t b).2])))
abbrev s_lowest : Stmt := top 22
theorem sc_lowest : FnScope ["top", "bottom", "divisor"] ["top", "bottom"] (defScope s_lowest) := ⟨rfl, rfl, rfl, by decide +kernel, rfl, by decide +kernel, by decide +kernel⟩
theorem ok_low {f fI : Addr} {fd : FuncData} {k : Nat} {dvs : List V} (F : FunD K "lowest" "lowest" (defArgs s_lowest) (defBody s_lowest) (defScope s_lowest) dvs [] f fd) (xN : PySem.SupX.ExTxt K mg c.NoNumber) (iN : PySem.SupX.In_NoNumber K mg c.NoNumber fI) (c_common_divisor : Cal RW0 w K mg base 1 "common_divisor" ["one", "other"] spCdB) : FnOk RW0 w K mg base (L2.CX RW0 w) (k + 1 + 1) f fd ["top", "bottom"] (spLow c) := by
  refine F.ok sc_lowest (fun vs H Q E h => ?_) (fun cdv A outer s H vs Q E hr h => ?_)
  · obtain ⟨a, b, rfl, _⟩ := h
    rfl
  · obtain ⟨t, b, rfl, hB, hE, q⟩ := h
    have hr : Room 1 _ := hr.mono (Nat.le_add_left 1 k)
    refine ⟨_, (pss_cons (ps_if (pt_cmpR op_eq (pv 1) pe_int (nomark _))
        (pss_one (ps_raise rfl (takes_of rfl rfl rfl rfl) (pmk_NoNumber rfl xN iN hr (pa_cons (pv 0) pa_nil))))
        pss_nil)
      (pss_cons (ps_set (i := 2) sc_lowest.nd rfl (Or.inl rfl) (pe_cal c_common_divisor hr (by rfl) (pa_cons (pv 0) (pa_cons (pv 1) pa_nil))))
      (pss_cons (ps_if (pt_cmpR op_lt (pv 1) pe_int (nomark _))
        (pss_one (ps_set (i := 2) sc_lowest.nd rfl (Or.inl rfl) (pe_un un_neg (pv 2))))
        pss_nil)
      (pss_one (ps_ret (pe_tup (pa_cons (pe_op op_fdivZ (pv 0) (pv 2)) (pa_cons (pe_op op_fdivZ (pv 1) (pv 2)) pa_nil)))))))), ?_⟩
    refine ⟨_, rfl, rfl, _, rfl, ite2 (fun z => ?_) (fun z => ?_)⟩
    · have b0 : b = 0 := V.int.inj (of_decide_eq_true z)
      exact ⟨_, rfl, _, rfl, fun d hd => hE b0 d hd⟩
    · have b0 : b ≠ 0 := fun e => z (decide_eq_true (by rw [e]))
      refine ⟨_, rfl, _, rfl, t, b, rfl, hB, ?_⟩
      have d := g_pos' (t := t) b0
      have dl := PySem.Flt.log2_lt_of (show 0 < 6000 by decide) (g_le0 (t := t) b0 hB)
      have q' := q b0
      unfold lowZ at q'
      refine ⟨_, rfl, _, _, rfl, rfl, _, rfl, ite2 (fun z => ?_) (fun z => ?_)⟩
      · have bn : b < 0 := of_decide_eq_true z
        rw [if_pos bn] at q'
        have dn : -Fr.g t b ≠ 0 ∧ (-Fr.g t b).natAbs.log2 < 9000 := ⟨by omega, by rw [Int.natAbs_neg]; omega⟩
        refine ⟨_, rfl, _, rfl, ?_⟩
        refine ⟨_, rfl, _, rfl, _, _, rfl, rfl, dn, ?_⟩
        refine ⟨_, rfl, _, rfl, _, _, rfl, rfl, dn, ?_⟩
        refine ⟨by show 2 ≤ sizeLine; decide, fun p hp => ?_⟩
        have z2 := q' p hp
        unfold Fr.low at z2
        rw [g_neg] at z2
        show Q (.ref p) (upd H p (.tup [.int (t.fdiv (-Fr.g t b)), .int (b.fdiv (-Fr.g t b))]))
        rw [fd_neg d, fd_neg d]
        exact z2
      · have bp : ¬ b < 0 := fun e => z (decide_eq_true e)
        rw [if_neg bp] at q'
        have dn : Fr.g t b ≠ 0 ∧ (Fr.g t b).natAbs.log2 < 9000 := ⟨by omega, by omega⟩
        refine ⟨_, rfl, _, rfl, _, _, rfl, rfl, dn, ?_⟩
        refine ⟨_, rfl, _, rfl, _, _, rfl, rfl, dn, ?_⟩
        refine ⟨by show 2 ≤ sizeLine; decide, fun p hp => ?_⟩
        show Q (.ref p) (upd H p (.tup [.int (t.fdiv (Fr.g t b)), .int (b.fdiv (Fr.g t b))]))
        rw [fd_pos d, fd_pos d]
        exact q' p hp
end
section
variable {P : Program} {w : World} {K : PySem.W.Frag} {mg : Str → Option Value} {base : Heap} {c : Adr}
theorem sz2 : 2 ≤ sizeLine := by decide
/-! ### _law_kind of a NoNumber -/
def bNum : Nat → Bool := fun i => i == 1
def spKind (K : PySem.W.Frag) (c : Adr) : Sp := fun vs H Q _ => ∃ (a d : Addr) (t : Int), vs = [.ref a] ∧ H a = some (exv a (.ref c.NoNumber) (some d)) ∧ H d = some (.xd [(("top" : Str), .int t)]) ∧
  ∀ p H', Same H H' → H p = none → H' p = some (.lst [.str "number", .int t]) → Q (.ref p) H'
abbrev s__law_kind : Stmt := top 27
theorem sc__law_kind : FnScope ["_law_error", "_law_found", "_law_plain", "_law_words", "_law_word", "_law_truth"] ["_law_error"] (defScope s__law_kind) := ⟨rfl, rfl, rfl, by decide +kernel, rfl, by decide +kernel, by decide +kernel⟩
theorem ok_kind {f : Addr} {fd : FuncData} {k : Nat} (F : Fun K "_law_kind" "_law_kind" s__law_kind f fd) (T : Txt K mg c) (N : KindOf K c c.NoNumber bNum) (xf : XfC K c.NoNumber) (nf : PySem.W.findIn K (.ref c.NoNumber) "top" = some none) : FnOk P w K mg base CX0 (k + 1) f fd ["_law_error"] (spKind K c) := by
  refine F.ok sc__law_kind (fun vs H Q E h => ?_) (fun cdv A outer s H vs Q E hr h => ?_)
  · obtain ⟨a, d, t, rfl, _⟩ := h
    rfl
  · obtain ⟨a, d, t, rfl, ha, hd, q⟩ := h
    refine ⟨_, (pss_cons (ps_set (i := 1) sc__law_kind.nd rfl (Or.inl rfl) (pe_lst pa_nil))
      (pss_cons (ps_if (pt_val (pe_callB (id := "isinstance") (r := rIsX K) call_isX (by rfl) T.isinstance (by decide +kernel) (pa_cons (pv 0) (pa_cons (pe_glob (v := .ref c.NoNumber) (by rfl) T.g_NoNumber rfl) pa_nil))))
        (pss_one (ps_set (i := 1) sc__law_kind.nd rfl (Or.inl rfl) (pe_op op_cat (pv 1) (pe_lst (pa_cons pe_str (pa_cons (pe_xv (pv 0)) pa_nil))))))
        pss_nil)
      (pss_cons (ps_if (pt_val (pe_callB (id := "isinstance") (r := rIsX K) call_isX (by rfl) T.isinstance (by decide +kernel) (pa_cons (pv 0) (pa_cons (pe_glob (v := .ref c.NoTable) (by rfl) T.g_NoTable rfl) pa_nil))))
        (pss_one (ps_set (i := 1) sc__law_kind.nd rfl (Or.inl rfl) (pe_op op_cat (pv 1) (pe_lst (pa_cons pe_str (pa_cons (pe_xv (pv 0)) pa_nil))))))
        pss_nil)
      (pss_cons (ps_if (pt_val (pe_callB (id := "isinstance") (r := rIsX K) call_isX (by rfl) T.isinstance (by decide +kernel) (pa_cons (pv 0) (pa_cons (pe_glob (v := .ref c.Flat) (by rfl) T.g_Flat rfl) pa_nil))))
        (pss_one (ps_set (i := 1) sc__law_kind.nd rfl (Or.inl rfl) (pe_op op_cat (pv 1) (pe_lst (pa_cons pe_str (pa_cons (pe_xv (pv 0)) pa_nil))))))
        pss_nil)
      (pss_cons (ps_if (pt_val (pe_callB (id := "isinstance") (r := rIsX K) call_isX (by rfl) T.isinstance (by decide +kernel) (pa_cons (pv 0) (pa_cons (pe_glob (v := .ref c.Lifted) (by rfl) T.g_Lifted rfl) pa_nil))))
        (pss_one (ps_set (i := 1) sc__law_kind.nd rfl (Or.inl rfl) (pe_op op_cat (pv 1) (pe_lst (pa_cons pe_str (pa_cons (pe_xv (pv 0)) (pa_cons (pe_xv (pv 0)) pa_nil)))))))
        pss_nil)
      (pss_cons (ps_if (pt_val (pe_callB (id := "isinstance") (r := rIsX K) call_isX (by rfl) T.isinstance (by decide +kernel) (pa_cons (pv 0) (pa_cons (pe_glob (v := .ref c.Dipped) (by rfl) T.g_Dipped rfl) pa_nil))))
        (pss_one (ps_set (i := 1) sc__law_kind.nd rfl (Or.inl rfl) (pe_op op_cat (pv 1) (pe_lst (pa_cons pe_str (pa_cons (pe_xv (pv 0)) pa_nil))))))
        pss_nil)
      (pss_cons (ps_if (pt_val (pe_callB (id := "isinstance") (r := rIsX K) call_isX (by rfl) T.isinstance (by decide +kernel) (pa_cons (pv 0) (pa_cons (pe_glob (v := .ref c.NotOne) (by rfl) T.g_NotOne rfl) pa_nil))))
        (pss_one (ps_set (i := 1) sc__law_kind.nd rfl (Or.inl rfl) (pe_op op_cat (pv 1) (pe_lst (pa_cons pe_str (pa_cons (pe_xv (pv 0)) pa_nil))))))
        pss_nil)
      (pss_cons (ps_if (pt_val (pe_callB (id := "isinstance") (r := rIsX K) call_isX (by rfl) T.isinstance (by decide +kernel) (pa_cons (pv 0) (pa_cons (pe_glob (v := .ref c.NoName) (by rfl) T.g_NoName rfl) pa_nil))))
        (pss_one (ps_set (i := 1) sc__law_kind.nd rfl (Or.inl rfl) (pe_op op_cat (pv 1) (pe_lst (pa_cons pe_str (pa_cons (pe_xv (pv 0)) pa_nil))))))
        pss_nil)
      (pss_cons (ps_set (i := 2) sc__law_kind.nd rfl (Or.inl rfl) (pe_lst (pa_cons (pe_callB (id := "isinstance") (r := rIsX K) call_isX (by rfl) T.isinstance (by decide +kernel) (pa_cons (pv 0) (pa_cons (pe_glob (v := .ref c.NoRow) (by rfl) T.g_NoRow rfl) pa_nil))) (pa_cons (pe_callB (id := "isinstance") (r := rIsX K) call_isX (by rfl) T.isinstance (by decide +kernel) (pa_cons (pv 0) (pa_cons (pe_glob (v := .ref c.NoChoice) (by rfl) T.g_NoChoice rfl) pa_nil))) (pa_cons (pe_callB (id := "isinstance") (r := rIsX K) call_isX (by rfl) T.isinstance (by decide +kernel) (pa_cons (pv 0) (pa_cons (pe_glob (v := .ref c.NoSaying) (by rfl) T.g_NoSaying rfl) pa_nil))) pa_nil)))))
      (pss_cons (ps_set (i := 2) sc__law_kind.nd rfl (Or.inl rfl) (pe_op op_cat (pv 2) (pe_lst (pa_cons (pe_callB (id := "isinstance") (r := rIsX K) call_isX (by rfl) T.isinstance (by decide +kernel) (pa_cons (pv 0) (pa_cons (pe_glob (v := .ref c.NoCover) (by rfl) T.g_NoCover rfl) pa_nil))) (pa_cons (pe_callB (id := "isinstance") (r := rIsX K) call_isX (by rfl) T.isinstance (by decide +kernel) (pa_cons (pv 0) (pa_cons (pe_glob (v := .ref c.NoText) (by rfl) T.g_NoText rfl) pa_nil))) (pa_cons (pe_callB (id := "isinstance") (r := rIsX K) call_isX (by rfl) T.isinstance (by decide +kernel) (pa_cons (pv 0) (pa_cons (pe_glob (v := .ref c.NoLine) (by rfl) T.g_NoLine rfl) pa_nil))) pa_nil))))))
      (pss_cons (ps_set (i := 3) sc__law_kind.nd rfl (Or.inl rfl) (pe_lst (pa_cons pe_str (pa_cons pe_str (pa_cons pe_str (pa_cons pe_str (pa_cons pe_str (pa_cons pe_str pa_nil))))))))
      (pss_cons (ps_set (i := 1) sc__law_kind.nd rfl (Or.inl rfl) (pe_op op_cat (pv 1) (pe_lc (own := [("_law_word", 4), ("_law_truth", 5)]) (g := gTup K 2 (gCons (gName 4) (gCons (gName 5) gNil))) (by rfl) sc__law_kind.nd (pi_zip (by rfl) T.zip (pa_cons (pv 3) (pa_cons (pv 2) pa_nil))) (blkOk_by (own := [("_law_word", 4), ("_law_truth", 5)]) (N := ["_law_error", "_law_found", "_law_plain", "_law_words", "_law_word", "_law_truth"]) (sc := defScope s__law_kind) (by decide +kernel)) (fun _ _ _ _ _ => (pg_tup rfl (pgs_cons (pg_name (i := 4) sc__law_kind.nd rfl (Or.inl rfl)) (pgs_cons (pg_name (i := 5) sc__law_kind.nd rfl (Or.inl rfl)) pgs_nil)))) (fun _ _ _ _ _ => (pts_one (pt_val (pv 5)))) (fun _ _ _ _ _ => (pv 4)))))
      (pss_cons (ps_if (PW.pt (pw_and (pt_cmpR op_notN (pv 0) pe_non (nomark _)) (pw_and1 (PW.pt (pw_or (pt_not (pt_val (pe_callB (id := "isinstance") (r := rIsX K) call_isX (by rfl) T.isinstance (by decide +kernel) (pa_cons (pv 0) (pa_cons (pe_glob (v := .ref c.SlackError) (by rfl) T.g_SlackError rfl) pa_nil))))) (pw_or1 (pt_not (pt_val (pe_callB (id := "isinstance") (r := rIsX K) call_isX (by rfl) T.isinstance (by decide +kernel) (pa_cons (pv 0) (pa_cons (pe_bltn (v := .ty "ValueError") (by rfl) T.ValueError_ (by decide +kernel) rfl) pa_nil)))))))))))
        (pss_one (ps_expr (pe_bm PySem.F.plainAttrs_list PySem.F.slot_list_append PySem.F.type_list_append mt_append (pv 1) (pa_cons pe_str pa_nil))))
        pss_nil)
      (pss_one (ps_ret (pv 1)))))))))))))))), ?_⟩
    have hx : ∀ {G : Hp}, Same H G → G a = some (exv a (.ref c.NoNumber) (some d)) ∧ ∀ e, some d = some e → ∃ fs, G e = some (.xd fs) := fun s => ⟨s _ _ ha, fun e z => by
      cases z
      exact ⟨_, s _ _ hd⟩⟩
    -- found = []
    refine ⟨by show 0 ≤ sizeLine; decide, fun f0 n0 => ?_⟩
    have s0 := same_upd (o := .lst []) n0
    -- NoNumber
    refine ⟨_, rfl, a, c.NoNumber, some d, none, _, _, true, rfl, (hx s0).1, (hx s0).2, N.ec, .own _, N.q1, _, rfl, iteT ?_⟩
    refine ⟨_, rfl, _, rfl, a, c.NoNumber, d, _, _, rfl, s0 _ _ ha, s0 _ _ hd, xf, nf, rfl, sz2, fun l1 m1 => ?_⟩
    have s1 := s0.trans (same_upd (o := .lst [.str "number", .int t]) m1)
    have nf0 : f0 ≠ l1 := ne_of_none upd_same m1
    refine ⟨f0, l1, [], _, rfl, rfl, Eq.trans (upd_ne nf0) upd_same, upd_same, sz2, fun f1 n1 => ?_⟩
    have s2 := s1.trans (same_upd (o := .lst [.str "number", .int t]) n1)
    have hf1 := upd_same (H := upd (upd H f0 (.lst [])) l1 (.lst [.str "number", .int t])) (a := f1) (o := .lst [.str "number", .int t])
    have nf1 : H f1 = none := s1.free n1
    -- from here on
    have step : ∀ {H' : Hp}, Same H H' → H' f1 = some (.lst [.str "number", .int t]) → True := fun _ _ => trivial
    show tSeq _ _ _ _ (upd (upd (upd H f0 (.lst [])) l1 (.lst [.str "number", .int t])) f1 (.lst [.str "number", .int t]))
    generalize upd (upd (upd H f0 (.lst [])) l1 (.lst [.str "number", .int t])) f1 (.lst [.str "number", .int t]) = G at s2 hf1 ⊢
    refine ⟨_, rfl, a, c.NoNumber, some d, none, _, _, false, rfl, (hx s2).1, (hx s2).2, N.ec, .own _, N.q2, _, rfl, iteF ?_⟩
    refine ⟨_, rfl, a, c.NoNumber, some d, none, _, _, false, rfl, (hx s2).1, (hx s2).2, N.ec, .own _, N.q5, _, rfl, iteF ?_⟩
    refine ⟨_, rfl, a, c.NoNumber, some d, none, _, _, false, rfl, (hx s2).1, (hx s2).2, N.ec, .own _, N.q7, _, rfl, iteF ?_⟩
    refine ⟨_, rfl, a, c.NoNumber, some d, none, _, _, false, rfl, (hx s2).1, (hx s2).2, N.ec, .own _, N.q9, _, rfl, iteF ?_⟩
    refine ⟨_, rfl, a, c.NoNumber, some d, none, _, _, false, rfl, (hx s2).1, (hx s2).2, N.ec, .own _, N.q10, _, rfl, iteF ?_⟩
    refine ⟨_, rfl, a, c.NoNumber, some d, none, _, _, false, rfl, (hx s2).1, (hx s2).2, N.ec, .own _, N.q13, _, rfl, iteF ?_⟩
    -- plain
    refine ⟨_, rfl, a, c.NoNumber, some d, none, _, _, false, rfl, (hx s2).1, (hx s2).2, N.ec, .own _, N.q3, ?_⟩
    refine ⟨_, rfl, a, c.NoNumber, some d, none, _, _, false, rfl, (hx s2).1, (hx s2).2, N.ec, .own _, N.q4, ?_⟩
    refine ⟨_, rfl, a, c.NoNumber, some d, none, _, _, false, rfl, (hx s2).1, (hx s2).2, N.ec, .own _, N.q6, ?_⟩
    refine ⟨by show 3 ≤ sizeLine; decide, fun p1 m2 => ?_⟩
    have s3 := s2.trans (same_upd (o := .lst [.bl false, .bl false, .bl false]) m2)
    refine ⟨_, rfl, ?_⟩
    refine ⟨_, rfl, a, c.NoNumber, some d, none, _, _, false, rfl, (hx s3).1, (hx s3).2, N.ec, .own _, N.q8, ?_⟩
    refine ⟨_, rfl, a, c.NoNumber, some d, none, _, _, false, rfl, (hx s3).1, (hx s3).2, N.ec, .own _, N.q11, ?_⟩
    refine ⟨_, rfl, a, c.NoNumber, some d, none, _, _, false, rfl, (hx s3).1, (hx s3).2, N.ec, .own _, N.q12, ?_⟩
    refine ⟨by show 3 ≤ sizeLine; decide, fun p2 m3 => ?_⟩
    have np12 : p1 ≠ p2 := ne_of_none upd_same m3
    have s4 := s3.trans (same_upd (o := .lst [.bl false, .bl false, .bl false]) m3)
    refine ⟨p1, p2, _, _, rfl, rfl, Eq.trans (upd_ne np12) upd_same, upd_same, by show 6 ≤ sizeLine; decide, fun p3 m4 => ?_⟩
    have s5 := s4.trans (same_upd (o := .lst ([.bl false, .bl false, .bl false] ++ [.bl false, .bl false, .bl false])) m4)
    have k5 : Same G (upd (upd (upd G p1 (.lst [.bl false, .bl false, .bl false])) p2 (.lst [.bl false, .bl false, .bl false])) p3 (.lst ([.bl false, .bl false, .bl false] ++ [.bl false, .bl false, .bl false]))) := ((same_upd m2).trans (same_upd m3)).trans (same_upd m4)
    have hp3 := upd_same (H := upd (upd G p1 (.lst [.bl false, .bl false, .bl false])) p2 (.lst [.bl false, .bl false, .bl false])) (a := p3) (o := .lst ([.bl false, .bl false, .bl false] ++ [.bl false, .bl false, .bl false]))
    show tSeq _ _ _ _ (upd (upd (upd G p1 (.lst [.bl false, .bl false, .bl false])) p2 (.lst [.bl false, .bl false, .bl false])) p3 (.lst ([.bl false, .bl false, .bl false] ++ [.bl false, .bl false, .bl false])))
    generalize upd (upd (upd G p1 (.lst [.bl false, .bl false, .bl false])) p2 (.lst [.bl false, .bl false, .bl false])) p3 (.lst ([.bl false, .bl false, .bl false] ++ [.bl false, .bl false, .bl false])) = G2 at s5 k5 hp3 ⊢
    -- words
    refine ⟨by show 6 ≤ sizeLine; decide, fun wd m5 => ?_⟩
    have s6 := same_upd (o := .lst [V.str "no row", .str "choice", .str "saying", .str "cover", .str "text", .str "line"]) m5
    have hw := upd_same (H := G2) (a := wd) (o := .lst [V.str "no row", .str "choice", .str "saying", .str "cover", .str "text", .str "line"])
    generalize hG3 : upd G2 wd (.lst [V.str "no row", .str "choice", .str "saying", .str "cover", .str "text", .str "line"]) = G3 at s6 hw ⊢
    have hp3' := s6 _ _ hp3
    -- found + [word for word, truth in zip(words, plain) if truth]
    refine ⟨_, rfl, _, rfl, _, rfl, wd, p3, _, _, rfl, .inl (.inl hw), .inl (.inl hp3'), fun D nD => ?_⟩
    refine lc_it (walk_zip (K := K) (a := wd) (b := p3) (n := 6) rfl) (fun j H' => Same G3 H' ∧ H' D = some (.lst [])) ⟨same_upd nD, upd_same⟩ (fun j H' _ ⟨s', _⟩ => ⟨.inl (.inl (s' _ _ hw)), .inl (.inl (s' _ _ hp3'))⟩) ?_ ?_
    · rintro j x G4 G4' hj ⟨s7, hD⟩ ⟨Tp, x1, y1, rfl, nT, rfl, e1, e2⟩
      have hy : y1 = .bl false := by
        rcases (show j = 0 ∨ j = 1 ∨ j = 2 ∨ j = 3 ∨ j = 4 ∨ j = 5 by omega) with rfl | rfl | rfl | rfl | rfl | rfl <;> exact (Option.some.inj e2).symm
      subst hy
      refine ⟨Tp, _, rfl, .inl (.inl upd_same), rfl, _, _, rfl, _, _, rfl, rfl, rfl, ?_⟩
      refine ⟨_, rfl, _, rfl, iteF ⟨s7.trans (same_upd nT), ?_⟩⟩
      rw [upd_ne (ne_of_none hD nT)]
      exact hD
    · rintro G4 ⟨s7, hD⟩
      have t4 : Same H G4 := (s5.trans s6).trans s7
      have hf4 : G4 f1 = some (.lst [.str "number", .int t]) := s7 _ _ (s6 _ _ (k5 _ _ hf1))
      refine ⟨f1, D, _, _, rfl, rfl, hf4, hD, sz2, fun f2 n2 => ?_⟩
      have t5 := t4.trans (same_upd (o := .lst ([V.str "number", .int t] ++ [])) n2)
      refine ⟨_, rfl, rfl, _, rfl, iteT ?_⟩
      refine ⟨_, rfl, a, c.NoNumber, some d, none, _, _, true, rfl, (hx t5).1, (hx t5).2, N.ec, .own _, N.sl, _, rfl, iteF ?_⟩
      refine ⟨_, rfl, a, c.NoNumber, some d, none, _, _, true, rfl, (hx t5).1, (hx t5).2, N.ec, .ty _, N.ve, _, rfl, iteF ?_⟩
      exact ⟨_, rfl, q f2 _ t5 (t4.free n2) upd_same⟩
/-! ### _law_caught -/
def spCaught : Sp := fun vs H Q _ => ∃ t : Int, vs = [.int t] ∧ ∀ p H', Same H H' → H p = none → H' p = some (.lst [.str "number", .int t]) → Q (.ref p) H'
abbrev s__law_caught : Stmt := top 31
theorem sc__law_caught : FnScope ["_law_my_top", "_law_kept", "e"] ["_law_my_top"] (defScope s__law_caught) := ⟨rfl, rfl, rfl, by decide +kernel, rfl, by decide +kernel, by decide +kernel⟩
theorem ok_caught {f : Addr} {fd : FuncData} {k : Nat} (F : Fun K "_law_caught" "_law_caught" s__law_caught f fd) (T : Txt K mg c) (te : PySem.W.exmOne K (.ref c.NoNumber) (.ref c.SlackError) = some true) (c__law_kind : Cal P w K mg base 1 "_law_kind" ["_law_error"] (spKind K c)) (c_lowest : CalX P w K mg base 2 "lowest" ["top", "bottom"] (spLow c) []) : FnOk P w K mg base CX0 (k + 2 + 1) f fd ["_law_my_top"] spCaught := by
  refine F.ok sc__law_caught (fun vs H Q E h => ?_) (fun cdv A outer s H vs Q E hr h => ?_)
  · obtain ⟨t, rfl, _⟩ := h
    rfl
  · obtain ⟨t, rfl, q⟩ := h
    have hr : Room 2 _ := hr.mono (Nat.le_add_left 2 k)
    refine ⟨_, (pss_cons (ps_set (i := 1) sc__law_caught.nd rfl (Or.inl rfl) pe_non)
      (pss_cons (ps_try_keep (i := 2) (j := 1) rfl rfl rfl sc__law_caught.nd rfl rfl rfl rfl ⟨rfl, by decide, .inl T.g_SlackError⟩ (by decide) (by decide) (fun W pn xe tk _ => (pss_one (ps_expr (pe_calXS c_lowest tk hr (by rfl) (pa_cons (pv 0) (pa_cons pe_int pa_nil))))))
        (fun a pn => ps_set (i := 1) sc__law_caught.nd rfl (Or.inl rfl) (pv 2)))
      (pss_one (ps_ret (pe_cal c__law_kind hr (by rfl) (pa_cons (pv 1) pa_nil)))))), ?_⟩
    refine ⟨_, rfl, t, 0, rfl, by show (0 : Nat) < 2 ^ 6000; exact Nat.pow_pos (by decide), fun _ d nd => ?_, fun z => absurd rfl z⟩
    refine ⟨te, fun a na => ?_⟩
    have nda : d ≠ a := ne_of_none upd_same na
    have sa := (same_upd (o := .xd [(("top" : Str), .int t)]) nd).trans (same_upd (o := exv a (.ref c.NoNumber) (some d)) na)
    refine ⟨_, rfl, a, d, t, rfl, upd_same, Eq.trans (upd_ne nda) upd_same, fun p H' s' np hp => ?_⟩
    exact q p H' (sa.trans s') (sa.free np) hp
end
section
variable {P : Program} {w : World} {K : PySem.W.Frag} {mg : Str → Option Value} {base : Heap} {c : Adr}
/-! ### _law_whole -/
abbrev Mid (x : Int) : Prop := x.natAbs < 2 ^ 64
theorem e64 : (2 : Nat) ^ 64 = 18446744073709551616 := by decide
def spWhole : Sp := fun vs H Q _ => ∃ p : Addr, vs = [.ref p] ∧ Pile H p ∧ ∀ (x : Int) (H' : Hp), Kp p H H' → Pile H' p → Mid x → Q (.int x) H'
abbrev s__law_whole : Stmt := top 28
theorem sc__law_whole : FnScope ["_law_pile_here", "_law_number"] ["_law_pile_here"] (defScope s__law_whole) := ⟨rfl, rfl, rfl, by decide +kernel, rfl, by decide +kernel, by decide +kernel⟩
theorem ok_whole {f : Addr} {fd : FuncData} {k : Nat} (F : Fun K "_law_whole" "_law_whole" s__law_whole f fd) (c__law_take : Cal P w K mg base 2 "_law_take" ["_law_pile_here", "_law_many"] spTake) : FnOk P w K mg base CX0 (k + 2 + 1) f fd ["_law_pile_here"] spWhole := by
  refine F.ok sc__law_whole (fun vs H Q E h => ?_) (fun cdv A outer s H vs Q E hr h => ?_)
  · obtain ⟨p, rfl, _⟩ := h
    rfl
  · obtain ⟨p, rfl, hP, q⟩ := h
    have hr : Room 2 _ := hr.mono (Nat.le_add_left 2 k)
    refine ⟨_, (pss_cons (ps_if (pt_cmpR op_eq (pe_cal c__law_take hr (by rfl) (pa_cons (pv 0) (pa_cons pe_int pa_nil))) pe_int (nomark _))
        (pss_cons (ps_set (i := 1) sc__law_whole.nd rfl (Or.inl rfl) (pe_op op_add (pe_op op_mulW (pe_cal c__law_take hr (by rfl) (pa_cons (pv 0) (pa_cons (pe_op op_pow pe_int pe_int) pa_nil))) (pe_op op_pow pe_int pe_int)) (pe_cal c__law_take hr (by rfl) (pa_cons (pv 0) (pa_cons (pe_op op_pow pe_int pe_int) pa_nil)))))
          (pss_one (ps_ret (pe_ix ix_list (pe_lst (pa_cons (pv 1) (pa_cons (pe_un un_neg (pv 1)) pa_nil))) (pe_cal c__law_take hr (by rfl) (pa_cons (pv 0) (pa_cons pe_int pa_nil))) (fun _ _ => rfl)))))
        pss_nil)
      (pss_one (ps_ret (pe_op op_sub (pe_cal c__law_take hr (by rfl) (pa_cons (pv 0) (pa_cons pe_int pa_nil))) pe_int)))), ?_⟩
    have p6 : CPow 10 6 := ⟨by decide, by decide, by decide⟩
    have e6 : (10 : Int) ^ (6 : Int).toNat = 1000000 := by decide
    refine ⟨_, rfl, p, _, rfl, by decide, by decide, hP, fun d H1 d0 d1 k1 P1 => ?_⟩
    refine ⟨rfl, _, rfl, ite2 (fun _ => ?_) (fun _ => ?_)⟩
    · refine ⟨_, rfl, _, _, rfl, rfl, p6, p, _, rfl, by decide, by decide, P1, fun d2 H2 d20 d21 k2 P2 => ?_⟩
      rw [e6] at d21
      refine ⟨_, _, rfl, rfl, p6, _, _, rfl, rfl, cmul (a := 64) (b := 64) (by rw [e64]; omega) (by decide), ?_⟩
      refine ⟨_, rfl, _, _, rfl, rfl, p6, p, _, rfl, by decide, by decide, P2, fun d3 H3 d30 d31 k3 P3 => ?_⟩
      rw [e6] at d31
      refine ⟨_, _, rfl, rfl, ?_⟩
      refine ⟨_, rfl, _, rfl, _, rfl, by show 2 ≤ sizeLine; decide, fun l nl => ?_⟩
      refine ⟨_, rfl, p, _, rfl, by decide, by decide, P3.new nl, fun d4 H4 d40 d41 k4 P4 => ?_⟩
      have lp : l ≠ p := pile_ne (H' := H) P3 nl
      have hl := k4 l _ lp upd_same
      have key : ∃ u : Int, atI [V.int (d2 * 10 ^ (6 : Int).toNat + d3), V.int (-(d2 * 10 ^ (6 : Int).toNat + d3))] d4 = some (.int u) ∧ Mid u := by
        unfold Mid
        rw [e6, e64]
        rcases (show d4 = 0 ∨ d4 = 1 by omega) with rfl | rfl
        · exact ⟨_, rfl, by omega⟩
        · exact ⟨_, rfl, by omega⟩
      obtain ⟨u, hu, u4⟩ := key
      refine ⟨l, _, _, _, rfl, rfl, .inl (.inl hl), hu, ?_⟩
      exact q u H4 ((((k1.trans k2).trans k3).new nl).trans k4) P4 u4
    · refine ⟨_, rfl, p, _, rfl, by decide, by decide, P1, fun d2 H2 d20 d21 k2 P2 => ?_⟩
      exact ⟨_, _, rfl, rfl, q _ H2 (k1.trans k2) P2 (by unfold Mid; rw [e64]; omega)⟩
/-! ### _law_common -/
abbrev s__law_common : Stmt := top 29
theorem sc__law_common : FnScope ["_law_one", "_law_other"] ["_law_one", "_law_other"] (defScope s__law_common) := ⟨rfl, rfl, rfl, by decide +kernel, rfl, by decide +kernel, by decide +kernel⟩
theorem ok_com {f : Addr} {fd : FuncData} {k : Nat} (F : Fun K "_law_common" "_law_common" s__law_common f fd) (T : Txt K mg c) : FnOk P w K mg base CX0 (k + 1) f fd ["_law_one", "_law_other"] spCd := by
  refine F.ok sc__law_common (fun vs H Q E h => ?_) (fun cdv A outer s H vs Q E hr h => ?_)
  · obtain ⟨a, b, rfl, _⟩ := h
    rfl
  · obtain ⟨a, b, rfl, q⟩ := h
    refine ⟨_, (pss_cons (ps_while PassesOwn.never (pt_cmpR op_ne (pv 1) pe_int (nomark _))
        (pss_one (ps_par (i := 0) (j := 1) (by rfl) sc__law_common.nd rfl rfl (by decide) rfl rfl (pa_cons (pv 1) (pa_cons (pe_op op_modN (pv 0) (pv 1)) pa_nil)) (by rfl))))
      (pss_one (ps_ret (pe_callB call_abs (by rfl) T.abs (by decide +kernel) (pa_cons (pv 0) pa_nil))))), ?_⟩
    refine while_by (fun σ H' => H' = H ∧ ∃ x y : Int, σ = [some (.int x), some (.int y)] ∧ Int.gcd x y = Int.gcd a b) (fun σ _ => match σ with | [_, some (.int y)] => y.natAbs | _ => 0) ⟨rfl, a, b, rfl, rfl⟩ ?_ ?_
    · rintro σ H' ⟨rfl, x, y, rfl, e⟩
      refine ⟨_, rfl, rfl, _, rfl, ite2 (fun z => ?_) (fun z => ?_)⟩
      · have y0 : y ≠ 0 := fun h0 => by
          subst h0
          exact absurd z (by decide)
        refine ⟨_, rfl, _, rfl, _, rfl, _, _, rfl, rfl, y0, _, _, rfl, ⟨rfl, y, x.fmod y, rfl, ?_⟩, ?_⟩
        · rw [Fr.gcd_step, e]
        · exact Fr.fmod_lt x y0
      · have y0 : y = 0 := by
          have z1 : (!decide (V.int y = V.int 0)) = false := by simpa using z
          have z2 : decide (V.int y = V.int 0) = true := by simpa using z1
          exact V.int.inj (of_decide_eq_true z2)
        subst y0
        refine ⟨_, rfl, x, rfl, ?_⟩
        have e2 : (if x < 0 then -x else x) = Fr.g a b := by
          unfold Fr.g
          rw [← e, Int.gcd_zero_right]
          split <;> omega
        rw [e2]
        exact q
    · intro σ H' Q' Q'' hm ⟨v, hv, h1, k1, hk, h2⟩
      exact ⟨v, hv, h1, k1, hk, hm _ _ h2⟩
/-! ### _law_right -/
theorem eqv_nil : PyData.eqv (.list []) (.list []) = true := by simp [PyData.eqv, PyData.eqvAll]
def spRt : Sp := fun vs H Q _ => ∃ (a : Addr) (t b : Int) (f : Int × Int), vs = [.ref a, .int t, .int b] ∧ Fra H a f ∧ Fr.Ok f ∧ f.1 * b = t * f.2 ∧ Big f.1 ∧ Big f.2 ∧ Big t ∧ Big b ∧ ∀ H', Same H H' → Q (.bl true) H'
abbrev s__law_right : Stmt := top 30
theorem sc__law_right : FnScope ["_law_found", "_law_my_top", "_law_my_bottom", "_law_one"] ["_law_found", "_law_my_top", "_law_my_bottom"] (defScope s__law_right) := ⟨rfl, rfl, rfl, by decide +kernel, rfl, by decide +kernel, by decide +kernel⟩
theorem ok_rt {f : Addr} {fd : FuncData} {k : Nat} (F : Fun K "_law_right" "_law_right" s__law_right f fd) (T : Txt K mg c) (c__law_common : Cal P w K mg base 1 "_law_common" ["_law_one", "_law_other"] spCd) : FnOk P w K mg base CX0 (k + 1 + 1) f fd ["_law_found", "_law_my_top", "_law_my_bottom"] spRt := by
  refine F.ok sc__law_right (fun vs H Q E h => ?_) (fun cdv A outer s H vs Q E hr h => ?_)
  · obtain ⟨a, t, b, f, rfl, _⟩ := h
    rfl
  · obtain ⟨a, t, b, f, rfl, ha, F0, ev, b1, b2, b3, b4, q⟩ := h
    have hr : Room 1 _ := hr.mono (Nat.le_add_left 1 k)
    refine ⟨_, (pss_cons (ps_if (PW.pt (pw_or (pt_not (pt_val (pe_callB (id := "isinstance") (r := rIsi K) call_isi (by rfl) T.isinstance (by decide +kernel) (pa_cons (pv 0) (pa_cons (pe_bltn (v := .ty "tuple") (by rfl) T.tuple_ (by decide +kernel) rfl) pa_nil))))) (pw_or (pt_cmpR op_ne (pe_callB call_len_seq (by rfl) T.len (by decide +kernel) (pa_cons (pv 0) pa_nil)) pe_int (nomark _)) (pw_or1 (pt_cmpR (op_neD hr.units) (pe_lc (own := [("_law_one", 3)]) (by rfl) sc__law_right.nd (pi_tup (pv 0)) (blkOk_by (own := [("_law_one", 3)]) (N := ["_law_found", "_law_my_top", "_law_my_bottom", "_law_one"]) (sc := defScope s__law_right) (by decide +kernel)) (fun _ _ _ _ _ => (pg_name (i := 3) sc__law_right.nd rfl (Or.inl rfl))) (fun _ _ _ _ _ => (pts_one (pt_val (pe_callB (id := "isinstance") (r := rIsi K) call_isi (by rfl) T.isinstance (by decide +kernel) (pa_cons (pv 3) (pa_cons (pe_bltn (v := .ty "bool") (by rfl) T.bool_ (by decide +kernel) rfl) pa_nil)))))) (fun _ _ _ _ _ => (pv 3))) (pe_lst pa_nil) (nomark _))))))
        (pss_one (ps_ret pe_bl))
        pss_nil)
      (pss_cons (ps_if (PW.pt (pw_or (pt_cmpR (op_neD hr.units) (pe_lc (own := [("_law_one", 3)]) (by rfl) sc__law_right.nd (pi_tup (pv 0)) (blkOk_by (own := [("_law_one", 3)]) (N := ["_law_found", "_law_my_top", "_law_my_bottom", "_law_one"]) (sc := defScope s__law_right) (by decide +kernel)) (fun _ _ _ _ _ => (pg_name (i := 3) sc__law_right.nd rfl (Or.inl rfl))) (fun _ _ _ _ _ => (pts_one (pt_not (pt_val (pe_callB (id := "isinstance") (r := rIsi K) call_isi (by rfl) T.isinstance (by decide +kernel) (pa_cons (pv 3) (pa_cons (pe_bltn (v := .ty "int") (by rfl) T.int_ (by decide +kernel) rfl) pa_nil))))))) (fun _ _ _ _ _ => (pv 3))) (pe_lst pa_nil) (nomark _)) (pw_or1 (pt_cmpR op_lt (pe_ix ix_tup (pv 0) pe_int (fun _ _ => rfl)) pe_int (nomark _)))))
        (pss_one (ps_ret pe_bl))
        pss_nil)
      (pss_one (ps_ret (pe_and (pe_cmpR op_eq (pe_op op_mulW (pe_ix ix_tup (pv 0) pe_int (fun _ _ => rfl)) (pv 2)) (pe_op op_mulW (pv 1) (pe_ix ix_tup (pv 0) pe_int (fun _ _ => rfl))) (nomark _)) (pe_one (pe_cmpR op_eq (pe_cal c__law_common hr (by rfl) (pa_cons (pe_ix ix_tup (pv 0) pe_int (fun _ _ => rfl)) (pa_cons (pe_ix ix_tup (pv 0) pe_int (fun _ _ => rfl)) pa_nil))) pe_int (nomark _)))))))), ?_⟩
    refine ⟨_, rfl, _, _, _, _, true, rfl, .ty _, .base (.tup ha), kit_ty (by decide +kernel), _, rfl, iteF ?_⟩
    refine ⟨_, rfl, a, _, rfl, .inr (.inl (.inl ha)), rfl, _, rfl, iteF ?_⟩
    have two : ∀ (j : Nat) (x : V), [V.int f.1, V.int f.2][j]? = some x → ∃ i : Int, x = .int i := fun j x e => by
      match j, e with
      | 0, e => exact ⟨_, (Option.some.inj e).symm⟩
      | 1, e => exact ⟨_, (Option.some.inj e).symm⟩
      | j + 2, e => simp at e
    -- no truths
    refine ⟨_, rfl, a, rfl, ⟨_, .inl (.inl ha)⟩, fun D nD => ?_⟩
    refine lc_it (walk_tup (K := K) (a := a) (xs := [V.int f.1, V.int f.2])) (fun j H' => Same H H' ∧ H' D = some (.lst [])) ⟨same_upd nD, upd_same⟩ (fun j H' _ ⟨s', _⟩ => .inl (.inl (s' _ _ ha))) ?_ ?_
    · rintro j x H1 H1' hj ⟨s1, hD⟩ ⟨rfl, hx⟩
      obtain ⟨i, rfl⟩ := two j x hx
      exact ⟨rfl, _, rfl, _, _, _, _, false, rfl, .ty _, .base (.int _), kit_ty (by decide +kernel), _, rfl, iteF ⟨s1, hD⟩⟩
    · rintro H1 ⟨s1, hD⟩
      refine ⟨by show 0 ≤ sizeLine; decide, fun e0 ne0 => ?_⟩
      have s2 := same_upd (o := .lst []) ne0
      refine ⟨_, _, .lst (.inl (.inl (s2 _ _ hD))) .nil, .lst (.inl (.inl upd_same)) .nil, rfl, rfl, _, rfl, ?_⟩
      rw [eqv_nil]
      refine iteF ?_
      have t2 := s1.trans s2
      generalize upd H1 e0 (.lst []) = H2 at t2 ⊢
      have ha2 := t2 _ _ ha
      -- whole numbers
      refine ⟨_, rfl, a, rfl, ⟨_, .inl (.inl ha2)⟩, fun D2 nD2 => ?_⟩
      refine lc_it (walk_tup (K := K) (a := a) (xs := [V.int f.1, V.int f.2])) (fun j H' => Same H2 H' ∧ H' D2 = some (.lst [])) ⟨same_upd nD2, upd_same⟩ (fun j H' _ ⟨s', _⟩ => .inl (.inl (s' _ _ ha2))) ?_ ?_
      · rintro j x H3 H3' hj ⟨s3, hD3⟩ ⟨rfl, hx⟩
        obtain ⟨i, rfl⟩ := two j x hx
        exact ⟨rfl, _, rfl, _, _, _, _, true, rfl, .ty _, .base (.int _), kit_ty (by decide +kernel), _, rfl, iteF ⟨s3, hD3⟩⟩
      · rintro H3 ⟨s3, hD3⟩
        refine ⟨by show 0 ≤ sizeLine; decide, fun e1 ne1 => ?_⟩
        have s4 := same_upd (o := .lst []) ne1
        refine ⟨_, _, .lst (.inl (.inl (s4 _ _ hD3))) .nil, .lst (.inl (.inl upd_same)) .nil, rfl, rfl, _, rfl, ?_⟩
        rw [eqv_nil]
        refine iteF ?_
        have t4 := (t2.trans s3).trans s4
        have ha4 := t4 _ _ ha
        have fp := F0.pos
        refine ⟨_, rfl, a, _, _, _, rfl, rfl, .inl (.inl ha4), at1, _, _, rfl, rfl, _, rfl, ite2 (fun z => ?_) (fun _ => ?_)⟩
        · have := of_decide_eq_true z
          omega
        · refine ⟨_, rfl, a, _, _, _, rfl, rfl, .inl (.inl ha4), at0, _, rfl, _, _, rfl, rfl, cmul b1 b4, ?_⟩
          refine ⟨_, rfl, _, rfl, a, _, _, _, rfl, rfl, .inl (.inl ha4), at1, _, _, rfl, rfl, cmul b3 b2, rfl, true, ?_, iteT ?_⟩
          · show V.bl (decide (V.int (f.1 * b) = V.int (t * f.2))) = V.bl true
            rw [ev, decide_eq_true rfl]
          · refine ⟨_, rfl, a, _, _, _, rfl, rfl, .inl (.inl ha4), at0, _, rfl, a, _, _, _, rfl, rfl, .inl (.inl ha4), at1, f.1, f.2, rfl, rfl, ?_⟩
            have g1 : Fr.g f.1 f.2 = 1 := by
              unfold Fr.g
              rw [F0.cop]
              rfl
            show Q (V.bl (decide (V.int (Fr.g f.1 f.2) = V.int 1))) _
            rw [g1]
            exact q _ t4
/-! ### _law_great -/
def spGreat : Sp := fun vs H Q _ => vs = [] ∧ ∀ H', Same H H' → Q (.bl true) H'
def far : Int := 10 ^ 900
theorem far_b : far.natAbs < 2 ^ 3999 := by decide +kernel
theorem gr1 : lowZ (6 * far) (4 * far) = (3, 2) := by decide +kernel
theorem gr2 : lowZ far (-far - 1) = (-far, far + 1) := by decide +kernel
theorem gr3 : (4 * far).natAbs < 2 ^ 6000 ∧ (-far - 1).natAbs < 2 ^ 6000 ∧ 4 * far ≠ 0 ∧ -far - 1 ≠ 0 := ⟨by decide +kernel, by decide +kernel, by decide +kernel, by decide +kernel⟩
theorem dp_fra {H : Hp} {a : Addr} {f : Int × Int} (h : Fra H a f) : Dp K H (.ref a) (.tuple [.int f.1, .int f.2]) := .tup (.inl (.inl h)) (.cons (.int _) (.cons (.int _) .nil))
theorem eqv_fra (x y : Int) : PyData.eqv (.tuple [.int x, .int y]) (.tuple [.int x, .int y]) = true := by simp [PyData.eqv, PyData.eqvAll]
abbrev s__law_great : Stmt := top 32
theorem sc__law_great : FnScope ["_law_far", "_law_turn"] [] (defScope s__law_great) := ⟨rfl, rfl, rfl, by decide +kernel, rfl, by decide +kernel, by decide +kernel⟩
theorem ok_great {f : Addr} {fd : FuncData} {k : Nat} (F : Fun K "_law_great" "_law_great" s__law_great f fd) (T : Txt K mg c) (c_lowest : CalX P w K mg base 2 "lowest" ["top", "bottom"] (spLow c) []) (c_lowest_1 : CalX P w K mg base 2 "lowest" ["top", "bottom"] (spLow c) [.int 1]) : FnOk P w K mg base CX0 (k + 2 + 1) f fd [] spGreat := by
  refine F.ok sc__law_great (fun vs H Q E h => ?_) (fun cdv A outer s H vs Q E hr h => ?_)
  · obtain ⟨rfl, _⟩ := h
    rfl
  · obtain ⟨rfl, q⟩ := h
    have hr : Room 2 _ := hr.mono (Nat.le_add_left 2 k)
    refine ⟨_, (pss_cons (ps_set (i := 0) sc__law_great.nd rfl (Or.inl rfl) pe_int)
      (pss_cons (ps_for PassesOwn.never rfl (pi_range1 (by rfl) T.range (pa_cons pe_int pa_nil)) (pg_name (i := 1) sc__law_great.nd rfl (Or.inl rfl))
        (pss_one (ps_set (i := 0) sc__law_great.nd rfl (Or.inl rfl) (pe_op op_mulW (pv 0) (pe_op op_pow pe_int pe_int)))))
      (pss_one (ps_ret (pe_cmpR (op_eqD hr.units) (pe_lst (pa_cons (pe_calX c_lowest hr (by rfl) (pa_cons (pe_op op_mulW pe_int (pv 0)) (pa_cons (pe_op op_mulW pe_int (pv 0)) pa_nil))) (pa_cons (pe_calX c_lowest hr (by rfl) (pa_cons (pv 0) (pa_cons (pe_op op_sub (pe_un un_neg (pv 0)) pe_int) pa_nil))) (pa_cons (pe_calX c_lowest_1 hr (by rfl) (pa_cons (pe_un un_neg (pv 0)) pa_nil)) pa_nil)))) (pe_lst (pa_cons (pe_tup (pa_cons pe_int (pa_cons pe_int pa_nil))) (pa_cons (pe_tup (pa_cons (pe_un un_neg (pv 0)) (pa_cons (pe_op op_add (pv 0) pe_int) pa_nil))) (pa_cons (pe_tup (pa_cons (pe_un un_neg (pv 0)) (pa_cons pe_int pa_nil))) pa_nil)))) (nomark _)))))), ?_⟩
    refine ⟨15, rfl, by decide, by decide, for_range (lo := 0) (n := 15) (fun i σ H' => H' = H ∧ ∃ v, σ = [some (.int ((10 : Int) ^ (60 * i))), v]) ⟨rfl, none, rfl⟩ ?_ ?_⟩
    · rintro i σ H' hi ⟨rfl, v, rfl⟩
      have b1 : ((10 : Int) ^ (60 * i)).natAbs < 2 ^ 4000 := by
        rw [Int.natAbs_pow]
        exact Nat.lt_of_le_of_lt (Nat.pow_le_pow_right (n := (10 : Int).natAbs) (i := 60 * i) (j := 900) (by decide) (by omega)) (by decide +kernel)
      refine ⟨_, rfl, _, _, rfl, rfl, ⟨by decide, by decide, by decide⟩, _, _, rfl, rfl, cmul (a := 4000) (b := 4000) b1 (by decide +kernel), rfl, some (.int (0 + i)), ?_⟩
      have e : (10 : Int) ^ (60 * i) * 10 ^ (60 : Int).toNat = 10 ^ (60 * (i + 1)) := by
        rw [show (60 : Int).toNat = 60 from rfl, ← Int.pow_add]
        rfl
      rw [← e]
      rfl
    · rintro σ H' ⟨rfl, v, rfl⟩
      have e : (10 : Int) ^ (60 * 15) = far := by unfold far; rfl
      rw [e]
      have fb : far.natAbs < 2 ^ 4000 := Nat.lt_of_lt_of_le far_b (Nat.pow_le_pow_right (by decide) (by decide))
      refine ⟨_, rfl, _, _, rfl, rfl, cmul (a := 64) (b := 4000) (by decide) fb, _, rfl, _, _, rfl, rfl, cmul (a := 64) (b := 4000) (by decide) fb, 6 * far, 4 * far, rfl, gr3.1, fun z => absurd z gr3.2.2.1, fun _ p1 n1 => ?_⟩
      rw [gr1]
      have s1 := same_upd (o := .tup [.int 3, .int 2]) n1
      refine ⟨_, rfl, _, rfl, _, rfl, _, _, rfl, rfl, far, -far - 1, rfl, gr3.2.1, fun z => absurd z gr3.2.2.2, fun _ p2 n2 => ?_⟩
      rw [gr2]
      have s2 := same_upd (o := .tup [.int (-far), .int (far + 1)]) n2
      refine ⟨_, rfl, _, rfl, -far, 1, rfl, Nat.lt_of_lt_of_le (show (1 : Int).natAbs < 2 ^ 64 by decide) (Nat.pow_le_pow_right (by decide) (by decide)), fun z => absurd z (by decide), fun _ p3 n3 => ?_⟩
      rw [lowZ_one]
      have s3 := same_upd (o := .tup [.int (-far), .int 1]) n3
      refine ⟨by show 3 ≤ sizeLine; decide, fun l1 m1 => ?_⟩
      have s4 := same_upd (o := .lst [V.ref p1, V.ref p2, V.ref p3]) m1
      refine ⟨sz2, fun r1 k1 => ⟨_, rfl, _, rfl, _, rfl, _, _, rfl, rfl, sz2, fun r2 k2 => ⟨_, rfl, _, rfl, sz2, fun r3 k3 => ⟨by show 3 ≤ sizeLine; decide, fun l2 m2 => ?_⟩⟩⟩⟩
      have u1 := same_upd (o := .tup [.int 3, .int 2]) k1
      have u2 := same_upd (o := .tup [.int (-far), .int (far + 1)]) k2
      have u3 := same_upd (o := .tup [.int (-far), .int 1]) k3
      have u4 := same_upd (o := .lst [V.ref r1, V.ref r2, V.ref r3]) m2
      have u := ((u1.trans u2).trans u3).trans u4
      refine ⟨.list [.tuple [.int 3, .int 2], .tuple [.int (-far), .int (far + 1)], .tuple [.int (-far), .int 1]], .list [.tuple [.int 3, .int 2], .tuple [.int (-far), .int (far + 1)], .tuple [.int (-far), .int 1]],
        .lst (.inl (.inl (u _ _ upd_same))) (.cons (dp_fra (f := (3, 2)) (u _ _ (s4 _ _ (s3 _ _ (s2 _ _ upd_same))))) (.cons (dp_fra (f := (-far, far + 1)) (u _ _ (s4 _ _ (s3 _ _ upd_same)))) (.cons (dp_fra (f := (-far, 1)) (u _ _ (s4 _ _ upd_same))) .nil))),
        .lst (.inl (.inl upd_same)) (.cons (dp_fra (f := (3, 2)) (u4 _ _ (u3 _ _ (u2 _ _ upd_same)))) (.cons (dp_fra (f := (-far, far + 1)) (u4 _ _ (u3 _ _ upd_same))) (.cons (dp_fra (f := (-far, 1)) (u4 _ _ upd_same)) .nil))), rfl, rfl, ?_⟩
      have ee : PyData.eqv (.list [.tuple [.int 3, .int 2], .tuple [.int (-far), .int (far + 1)], .tuple [.int (-far), .int 1]]) (.list [.tuple [.int 3, .int 2], .tuple [.int (-far), .int (far + 1)], .tuple [.int (-far), .int 1]]) = true := by simp [PyData.eqv, PyData.eqvAll]
      rw [ee]
      exact q _ ((((s1.trans s2).trans s3).trans s4).trans u)
end
section
variable {P : Program} {w : World} {K : PySem.W.Frag} {mg : Str → Option Value} {base : Heap} {c : Adr}
theorem Kp.sm {p : Addr} {H H1 H' : Hp} (s : Same H H1) (n : H p = none) (k : Kp p H1 H') : Same H H' := fun b o e => k b o (ne_of_none e n) (s b o e)
def spLaw (K : PySem.W.Frag) : Sp := fun vs H Q _ => ∃ (a : Addr) (ns : List Int), vs = [.ref a] ∧ SqL K H a (ns.map V.int) ∧ ns.length ≤ 63 ∧ ∀ H', Q (.bl true) H'
theorem rg60 : RgC 0 60 2 30 := ⟨by decide, by decide, by decide +kernel, by decide +kernel⟩
theorem m128 {x : Int} (h : Mid x) : x.natAbs < 2 ^ 128 := Nat.lt_of_lt_of_le h (by decide)
theorem b128 {x : Int} (h : x.natAbs < 2 ^ 128) : Big x := Nat.lt_of_lt_of_le h (Nat.pow_le_pow_right (by decide) (by decide))
theorem n128 {x : Int} (h : x.natAbs < 2 ^ 128) : x.natAbs < 2 ^ 6000 := Nat.lt_of_lt_of_le h (Nat.pow_le_pow_right (by decide) (by decide))
theorem one8 : (1 : Int).natAbs < 2 ^ 6000 := Nat.lt_of_lt_of_le (show (1 : Int).natAbs < 2 ^ 64 by decide) (Nat.pow_le_pow_right (by decide) (by decide))
theorem lowZ_b {t b : Int} {n : Nat} (ht : t.natAbs < 2 ^ n) (hb : b.natAbs < 2 ^ n) : (lowZ t b).1.natAbs < 2 ^ n ∧ (lowZ t b).2.natAbs < 2 ^ n := by
  unfold lowZ
  split
  · exact ⟨low_bl (by rw [Int.natAbs_neg]; exact ht), low_br (by rw [Int.natAbs_neg]; exact hb)⟩
  · exact ⟨low_bl ht, low_br hb⟩
theorem eqv_num (x : Str) (t : Int) : PyData.eqv (.list [.str x, .int t]) (.list [.str x, .int t]) = true := by simp [PyData.eqv, PyData.eqvAll]
theorem so_num : PyData.strOk ("number" : Str) = true := by decide +kernel
theorem sh_num (t : Int) : SeqAt.shaped (.list [.str "number", .int t]) = true := by
  unfold SeqAt.shaped
  simp only [PyData.canLay0, PyData.canLayAll0, PyData.depth, PyData.depthAll, so_num]
  rfl
abbrev s_law : Stmt := top 33
theorem sc_law : FnScope ["_law_script", "_law_at", "_law_pile_here", "_law_my_top", "_law_my_bottom", "_law_by", "_law_found"] ["_law_script"] (defScope s_law) := ⟨rfl, rfl, rfl, by decide +kernel, rfl, by decide +kernel, by decide +kernel⟩
theorem ok_law {f : Addr} {fd : FuncData} (F : Fun K "law" "law" s_law f fd) (T : Txt K mg c)
    (c_lowest : CalX P w K mg base 2 "lowest" ["top", "bottom"] (spLow c) []) (c_lowest_1 : CalX P w K mg base 2 "lowest" ["top", "bottom"] (spLow c) [.int 1])
    (c_lowest_kw : CalXK P w K mg base 2 "lowest" ["top", "bottom"] (spLow c) 0 ["bottom", "top"] (fun _ zs => zs.reverse)) (c_lowest_p_kw : CalXK P w K mg base 2 "lowest" ["top", "bottom"] (spLow c) 1 ["bottom"] (fun vs zs => vs ++ zs))
    (c__law_pile : Cal P w K mg base 1 "_law_pile" ["_law_script", "_law_k"] (spPile K)) (c__law_take : Cal P w K mg base 2 "_law_take" ["_law_pile_here", "_law_many"] spTake) (c__law_whole : Cal P w K mg base 3 "_law_whole" ["_law_pile_here"] spWhole)
    (c__law_caught : Cal P w K mg base 3 "_law_caught" ["_law_my_top"] spCaught) (c__law_right : Cal P w K mg base 2 "_law_right" ["_law_found", "_law_my_top", "_law_my_bottom"] spRt) (c__law_great : Cal P w K mg base 3 "_law_great" [] spGreat) :
    FnOk P w K mg base CX0 4 f fd ["_law_script"] (spLaw K) := by
  refine F.ok sc_law (fun vs H Q E h => ?_) (fun cdv A outer s H vs Q E hr h => ?_)
  · obtain ⟨a, ns, rfl, _⟩ := h
    rfl
  · obtain ⟨a, ns, rfl, hS, hlen, q⟩ := h
    refine ⟨_, (pss_cons (ps_if (pt_not (pt_val (pe_cal0 c__law_great hr (by rfl))))
        (pss_one (ps_ret pe_bl))
        pss_nil)
      (pss_cons (ps_for PassesOwn.never rfl (pi_range3 (by rfl) T.range (pa_cons pe_int (pa_cons pe_int (pa_cons pe_int pa_nil)))) (pg_name (i := 1) sc_law.nd rfl (Or.inl rfl))
        (pss_cons (ps_set (i := 2) sc_law.nd rfl (Or.inl rfl) (pe_cal c__law_pile hr (by rfl) (pa_cons (pv 0) (pa_cons (pv 1) pa_nil))))
          (pss_cons (ps_set (i := 3) sc_law.nd rfl (Or.inl rfl) (pe_cal c__law_whole hr (by rfl) (pa_cons (pv 2) pa_nil)))
          (pss_cons (ps_set (i := 2) sc_law.nd rfl (Or.inl rfl) (pe_cal c__law_pile hr (by rfl) (pa_cons (pv 0) (pa_cons (pe_op op_add (pv 1) pe_int) pa_nil))))
          (pss_cons (ps_set (i := 4) sc_law.nd rfl (Or.inl rfl) (pe_cal c__law_whole hr (by rfl) (pa_cons (pv 2) pa_nil)))
          (C8.pss_cut (ps_if (PW.pt (pw_and (pt_cmpR op_eq (pe_cal c__law_take hr (by rfl) (pa_cons (pv 2) (pa_cons pe_int pa_nil))) pe_int (nomark _)) (pw_and (pt_cmpR op_lt (pe_callB call_abs (by rfl) T.abs (by decide +kernel) (pa_cons (pv 3) pa_nil)) (pe_op op_pow pe_int pe_int) (nomark _)) (pw_and1 (pt_cmpR op_lt (pe_callB call_abs (by rfl) T.abs (by decide +kernel) (pa_cons (pv 4) pa_nil)) (pe_op op_pow pe_int pe_int) (nomark _))))))
            (pss_cons (ps_set (i := 5) sc_law.nd rfl (Or.inl rfl) (pe_op op_add pe_int (pe_cal c__law_take hr (by rfl) (pa_cons (pv 2) (pa_cons pe_int pa_nil)))))
              (pss_one (ps_par (i := 3) (j := 4) (by rfl) sc_law.nd rfl rfl (by decide) rfl rfl (pa_cons (pe_op op_mulW (pv 3) (pv 5)) (pa_cons (pe_op op_mulW (pv 4) (pv 5)) pa_nil)) (by rfl))))
            pss_nil)
          (pss_cons (ps_if (pt_cmpR (op_neD hr.units) (pe_cal c__law_caught hr (by rfl) (pa_cons (pv 3) pa_nil)) (pe_lst (pa_cons pe_str (pa_cons (pv 3) pa_nil))) (nomark _))
            (pss_one (ps_ret pe_bl))
            pss_nil)
          (pss_cons (ps_if (PW.pt (pw_or (pt_cmpR (op_neD hr.units) (pe_calX c_lowest_1 hr (by rfl) (pa_cons (pv 3) pa_nil)) (pe_tup (pa_cons (pv 3) (pa_cons pe_int pa_nil))) (nomark _)) (pw_or1 (pt_cmpR (op_neD hr.units) (pe_calX c_lowest hr (by rfl) (pa_cons (pv 3) (pa_cons pe_int pa_nil))) (pe_tup (pa_cons (pv 3) (pa_cons pe_int pa_nil))) (nomark _)))))
            (pss_one (ps_ret pe_bl))
            pss_nil)
          (pss_one (ps_if (pt_cmpR op_ne (pv 4) pe_int (nomark _))
            (pss_cons (ps_if (pt_not (pt_val (pe_cal c__law_right hr (by rfl) (pa_cons (pe_calX c_lowest hr (by rfl) (pa_cons (pv 3) (pa_cons (pv 4) pa_nil))) (pa_cons (pv 3) (pa_cons (pv 4) pa_nil))))))
                (pss_one (ps_ret pe_bl))
                pss_nil)
              (pss_cons (ps_set (i := 6) sc_law.nd rfl (Or.inl rfl) (pe_calX c_lowest hr (by rfl) (pa_cons (pv 3) (pa_cons (pv 4) pa_nil))))
              (pss_cons (ps_if (pt_cmpR (op_neD hr.units) (pe_calXK0 c_lowest_kw hr (by rfl) (pk_cons (pv 4) (pk_cons (pv 3) pk_nil))) (pv 6) (nomark _))
                (pss_one (ps_ret pe_bl))
                pss_nil)
              (pss_one (ps_if (pt_cmpR (op_neD hr.units) (pe_calXK c_lowest_p_kw hr (by rfl) (pa_cons (pv 3) pa_nil) (pk_cons (pe_un un_neg (pv 4)) pk_nil)) (pe_tup (pa_cons (pe_un un_neg (pe_ix ix_tup (pv 6) pe_int (fun _ _ => rfl))) (pa_cons (pe_ix ix_tup (pv 6) pe_int (fun _ _ => rfl)) pa_nil))) (nomark _))
                (pss_one (ps_ret pe_bl))
                pss_nil)))))
            pss_nil))))))))))
      (pss_one (ps_ret pe_bl)))), ?_⟩
    refine ⟨rfl, fun Hg sg => ⟨_, rfl, iteF ?_⟩⟩
    refine ⟨0, 60, 2, 30, rfl, rg60, for_it walk_rangeC (fun i σ H' => Same H H' ∧ ∃ v1 v2 v3 v4 v5 v6, σ = [some (.ref a), v1, v2, v3, v4, v5, v6]) ⟨sg, none, none, none, none, none, none, rfl⟩ (fun _ _ _ _ _ => trivial) ?_ ?_⟩
    · rintro i x σ H0 H0' hi ⟨s0, v1, v2, v3, v4, v5, v6, rfl⟩ ⟨rfl, rfl⟩
      refine ⟨_, rfl, _, rfl, a, ns, _, rfl, s0.seq hS, by omega, fun p H1 s1 np0 P1 => ?_⟩
      have np : H p = none := s0.free np0
      refine ⟨_, rfl, p, rfl, P1, fun t H2 k2 P2 mt => ?_⟩
      have sb : Same H H2 := Kp.sm (s0.trans s1) np k2
      refine ⟨_, rfl, _, rfl, _, _, rfl, rfl, a, ns, _, rfl, sb.seq hS, by omega, fun p' H3 s3 np3 P3 => ?_⟩
      have np' : H p' = none := sb.free np3
      refine ⟨_, rfl, p', rfl, P3, fun b H4 k4 P4 mb => ?_⟩
      have sd : Same H H4 := Kp.sm (sb.trans s3) np' k4
      -- perhaps both times a number
      refine ⟨fun σ' H' => Same H H' ∧ ∃ (t b : Int) (v5 : Option V), σ' = [some (.ref a), some (.int (0 + (i : Nat) * 2)), some (.ref p'), some (.int t), some (.int b), v5, v6] ∧ t.natAbs < 2 ^ 128 ∧ b.natAbs < 2 ^ 128, ?_, ?_⟩
      · refine ⟨_, rfl, p', _, rfl, by decide, by decide, P4, fun d H5 d0 d1 k5 P5 => ?_⟩
        have se : Same H H5 := Kp.sm sd np' k5
        have p9 : CPow 10 9 := ⟨by decide, by decide, by decide⟩
        have stay : Same H H5 ∧ ∃ (t' b' : Int) (v5' : Option V), [some (V.ref a), some (.int (0 + (i : Nat) * 2)), some (.ref p'), some (.int t), some (.int b), v5, v6] = [some (V.ref a), some (.int (0 + (i : Nat) * 2)), some (.ref p'), some (.int t'), some (.int b'), v5', v6] ∧ t'.natAbs < 2 ^ 128 ∧ b'.natAbs < 2 ^ 128 := ⟨se, t, b, v5, rfl, m128 mt, m128 mb⟩
        refine ⟨rfl, _, rfl, ite2 (fun _ => ?_) (fun _ => iteF stay)⟩
        refine ⟨_, rfl, _, rfl, _, _, rfl, rfl, p9, _, _, rfl, rfl, _, rfl, ite2 (fun _ => ?_) (fun _ => iteF stay)⟩
        refine ⟨_, rfl, _, rfl, _, _, rfl, rfl, p9, _, _, rfl, rfl, _, rfl, ite2 (fun _ => ?_) (fun _ => stay)⟩
        refine ⟨_, rfl, p', _, rfl, by decide, by decide, P5, fun d2 H6 d20 d21 k6 P6 => ?_⟩
        have m2 : Mid (1 + d2) := by
          unfold Mid
          rw [e64]
          omega
        refine ⟨_, _, rfl, rfl, ?_⟩
        refine ⟨_, rfl, _, rfl, _, _, rfl, rfl, cmul (a := 64) (b := 64) mt m2, _, rfl, _, rfl, _, _, rfl, rfl, cmul (a := 64) (b := 64) mb m2, _, _, rfl, ?_⟩
        exact ⟨Kp.sm se np' k6, t * (1 + d2), b * (1 + d2), _, rfl, wide_lt (a := 64) (b := 64) mt m2, wide_lt (a := 64) (b := 64) mb m2⟩
      clear mt mb k2 k4 P1 P2 P3 P4 sd sb s1 s3 np0 np3 v5
      rintro σ' H5 ⟨s5, t, b, v5, rfl, ht, hb⟩
      -- caught
      refine ⟨_, rfl, t, rfl, fun p6 H6 s6 n6 h6 => ?_⟩
      refine ⟨_, rfl, sz2, fun l1 m1 => ?_⟩
      have s7 := same_upd (o := .lst [V.str "number", .int t]) m1
      refine ⟨.list [.str "number", .int t], .list [.str "number", .int t], .lst (.inl (.inl (s7 _ _ h6))) (.cons (.str _) (.cons (.int _) .nil)), .lst (.inl (.inl upd_same)) (.cons (.str _) (.cons (.int _) .nil)), sh_num t, sh_num t, _, rfl, ?_⟩
      rw [eqv_num]
      refine iteF ?_
      have t7 := (s5.trans s6).trans s7
      generalize upd H6 l1 (.lst [V.str "number", .int t]) = H7 at t7 ⊢
      -- lowest(top)
      refine ⟨_, rfl, t, 1, rfl, one8, fun z => absurd z (by decide), fun _ p8 n8 => ?_⟩
      rw [lowZ_one]
      have s8 := same_upd (o := .tup [.int t, .int 1]) n8
      refine ⟨_, rfl, sz2, fun r8 m8 => ?_⟩
      have s9 := same_upd (o := .tup [.int t, .int 1]) m8
      refine ⟨_, _, dp_fra (f := (t, 1)) (s9 _ _ upd_same), dp_fra (f := (t, 1)) upd_same, rfl, rfl, _, rfl, ?_⟩
      rw [eqv_fra]
      refine iteF ?_
      have t9 := (t7.trans s8).trans s9
      generalize upd (upd H7 p8 (.tup [.int t, .int 1])) r8 (.tup [.int t, .int 1]) = H9 at t9 ⊢
      refine ⟨_, rfl, t, 1, rfl, one8, fun z => absurd z (by decide), fun _ p10 n10 => ?_⟩
      rw [lowZ_one]
      have s10 := same_upd (o := .tup [.int t, .int 1]) n10
      refine ⟨_, rfl, sz2, fun r10 m10 => ?_⟩
      have s11 := same_upd (o := .tup [.int t, .int 1]) m10
      refine ⟨_, _, dp_fra (f := (t, 1)) (s11 _ _ upd_same), dp_fra (f := (t, 1)) upd_same, rfl, rfl, _, rfl, ?_⟩
      rw [eqv_fra]
      refine iteF ?_
      have t11 := (t9.trans s10).trans s11
      generalize upd (upd H9 p10 (.tup [.int t, .int 1])) r10 (.tup [.int t, .int 1]) = H11 at t11 ⊢
      -- bottom != 0
      refine ⟨_, rfl, rfl, _, rfl, ite2 (fun z => ?_) (fun z => ?_)⟩
      · have b0 : b ≠ 0 := fun e => by
          subst e
          exact absurd z (by decide)
        have bz : b = 0 → False := fun e => b0 e
        have lb := lowZ_b ht hb
        refine ⟨_, rfl, _, rfl, t, b, rfl, n128 hb, fun e => (bz e).elim, fun _ p12 n12 => ?_⟩
        have s12 := same_upd (o := .tup [.int (lowZ t b).1, .int (lowZ t b).2]) n12
        refine ⟨_, rfl, _, rfl, p12, t, b, lowZ t b, rfl, upd_same, lowZ_ok b0, lowZ_val, b128 lb.1, b128 lb.2, b128 ht, b128 hb, fun H13 s13 => ?_⟩
        refine ⟨_, rfl, iteF ?_⟩
        have t13 := (t11.trans s12).trans s13
        clear s12 s13 n12
        refine ⟨_, rfl, _, rfl, t, b, rfl, n128 hb, fun e => (bz e).elim, fun _ p14 n14 => ?_⟩
        have s14 := same_upd (o := .tup [.int (lowZ t b).1, .int (lowZ t b).2]) n14
        have h14 : Fra (upd H13 p14 (.tup [.int (lowZ t b).1, .int (lowZ t b).2])) p14 (lowZ t b) := upd_same
        have t14 := t13.trans s14
        generalize upd H13 p14 (.tup [.int (lowZ t b).1, .int (lowZ t b).2]) = H14 at h14 t14 ⊢
        -- by keywords
        refine ⟨_, rfl, _, rfl, rfl, rfl, t, b, rfl, n128 hb, fun e => (bz e).elim, fun _ p15 n15 => ?_⟩
        have s15 := same_upd (o := .tup [.int (lowZ t b).1, .int (lowZ t b).2]) n15
        refine ⟨_, rfl, _, _, dp_fra (f := lowZ t b) upd_same, dp_fra (s15 _ _ h14), rfl, rfl, _, rfl, ?_⟩
        rw [eqv_fra]
        refine iteF ?_
        -- the bottom turned
        refine ⟨_, rfl, _, rfl, _, rfl, rfl, rfl, t, -b, rfl, n128 (by rw [Int.natAbs_neg]; exact hb), fun e => absurd e (by omega), fun _ p16 n16 => ?_⟩
        rw [lowZ_flip b0]
        have s16 := same_upd (o := .tup [.int (-(lowZ t b).1), .int (lowZ t b).2]) n16
        have h16 := s16 _ _ (s15 _ _ h14)
        refine ⟨_, rfl, p14, _, _, _, rfl, rfl, .inl (.inl h16), at0, _, rfl, _, rfl, p14, _, _, _, rfl, rfl, .inl (.inl h16), at1, sz2, fun r17 m17 => ?_⟩
        have s17 := same_upd (o := .tup [.int (-(lowZ t b).1), .int (lowZ t b).2]) m17
        refine ⟨_, _, dp_fra (f := (-(lowZ t b).1, (lowZ t b).2)) (s17 _ _ upd_same), dp_fra (f := (-(lowZ t b).1, (lowZ t b).2)) upd_same, rfl, rfl, _, rfl, ?_⟩
        rw [eqv_fra]
        exact iteF ⟨((t14.trans s15).trans s16).trans s17, _, _, _, _, _, _, rfl⟩
      · exact ⟨t11, _, _, _, _, _, _, rfl⟩
    · rintro σ H1 ⟨s1, v1, v2, v3, v4, v5, v6, rfl⟩
      exact q _
end
theorem all_mk {w : World} {K : PySem.W.Frag} {h : Heap} {mg : Str → Option Value} {fa f1 f2 f3 f4 f5 f6 f7 f8 f9 f10 f11 f12 t2 : Addr} (X : K.In h) (G : h.Ns mainGlobals mg) (hfa : mg "law" = some (.ref fa))
    {od1 an1 od2 an2 od3 an3 od4 an4 od5 an5 od6 an6 od7 an7 od8 an8 od9 an9 od10 an10 od11 an11 od12 an12 odt2 : Option Addr} {sl1 sl2 sl3 sl4 sl5 sl6 sl7 sl8 sl9 sl10 sl11 sl12 slt2 : Array (Option Value)} {oc1 kV1 dc1 pm1 cd1 ct1 oc2 kV2 dc2 pm2 cd2 ct2 oc3 kV3 dc3 pm3 cd3 ct3 oc4 kV4 dc4 pm4 cd4 ct4 oc5 kV5 dc5 pm5 cd5 ct5 oc6 kV6 dc6 pm6 cd6 ct6 oc7 kV7 dc7 pm7 cd7 ct7 oc8 kV8 dc8 pm8 cd8 ct8 oc9 kV9 dc9 pm9 cd9 ct9 oc10 kV10 dc10 pm10 cd10 ct10 oc11 kV11 dc11 pm11 cd11 ct11 oc12 kV12 dc12 pm12 cd12 ct12 oct2 : Value}
    {tk2 : Tok} {nt2 : Nat}
    {C_SlackError C_NoNumber C_NoTable C_NoRow C_NoChoice C_Flat C_NoSaying C_Lifted C_NoCover C_Dipped C_NotOne C_NoText C_NoLine C_NoName fI N0 cdaI ccI : Addr} {nm q0 fileI : Str} {bs0 sub0 : List Value} {sn0 : List Str} {ab0 : Bool} {col0 : Option Bool} {dd0 odI anI cddI cldI : Option Addr} {m0 m1 m2 m3 m5 : Option Value} {ocI kVI dcI pmI ctI cclI clI : Value} {slI ccsI cslI : Array (Option Value)} {vsI : Array Value} {tfI : Tok} {tk_PLAIN_BITS : Tok}
    (g_SlackError : PySem.W.nsIn K mainGlobals "SlackError" = some (some (.ref C_SlackError)))
    (g_NoNumber : PySem.W.nsIn K mainGlobals "NoNumber" = some (some (.ref C_NoNumber)))
    (g_NoTable : PySem.W.nsIn K mainGlobals "NoTable" = some (some (.ref C_NoTable)))
    (g_NoRow : PySem.W.nsIn K mainGlobals "NoRow" = some (some (.ref C_NoRow)))
    (g_NoChoice : PySem.W.nsIn K mainGlobals "NoChoice" = some (some (.ref C_NoChoice)))
    (g_Flat : PySem.W.nsIn K mainGlobals "Flat" = some (some (.ref C_Flat)))
    (g_NoSaying : PySem.W.nsIn K mainGlobals "NoSaying" = some (some (.ref C_NoSaying)))
    (g_Lifted : PySem.W.nsIn K mainGlobals "Lifted" = some (some (.ref C_Lifted)))
    (g_NoCover : PySem.W.nsIn K mainGlobals "NoCover" = some (some (.ref C_NoCover)))
    (g_Dipped : PySem.W.nsIn K mainGlobals "Dipped" = some (some (.ref C_Dipped)))
    (g_NotOne : PySem.W.nsIn K mainGlobals "NotOne" = some (some (.ref C_NotOne)))
    (g_NoText : PySem.W.nsIn K mainGlobals "NoText" = some (some (.ref C_NoText)))
    (g_NoLine : PySem.W.nsIn K mainGlobals "NoLine" = some (some (.ref C_NoLine)))
    (g_NoName : PySem.W.nsIn K mainGlobals "NoName" = some (some (.ref C_NoName)))
    (xL : K.lookup C_NoNumber = some (excClassObj nm q0 C_NoNumber N0 bs0 [.ref C_SlackError, .type "ValueError", .type "Exception", .type "BaseException", .type "object"] true sn0 sub0 ab0 col0 dd0 m0 m1 m2 m3 m5 "ValueError.__new__"))
    (sa : PySem.W.findIn K (.ref C_NoNumber) "__setattr__" = some (some (.builtin "object.__setattr__")))
    (ga : PySem.W.findIn K (.ref C_NoNumber) "__getattribute__" = some (some (.builtin "BaseException.__getattribute__")))
    (gg : PySem.W.findIn K (.ref C_NoNumber) "__getattr__" = some none)
    (noN : PySem.W.findIn K (.ref C_NoNumber) "top" = some none)
    (kC : PySem.W.keepIn K (.ref C_NoNumber) = true)
    (exC : PySem.W.subIn K (.ref C_NoNumber) (.type "BaseException") = some true)
    (veC : PySem.W.subIn K (.ref C_NoNumber) (.type "ValueError") = some true)
    (tyC : PySem.W.typeIn K (.ref C_NoNumber) = some (.type "type"))
    (hdC : PySem.W.hasDictIn K C_NoNumber = true)
    (iC : PySem.W.findIn K (.ref C_NoNumber) "__init__" = some (some (.ref fI)))
    (tI : PySem.W.typeIn K (.ref fI) = some (.type "function"))
    (opq : PySem.W.nsIn K cStatics "thirdparty.any" = some none)
    (along : PySem.W.ks_superIn K C_NoNumber C_NoNumber "__init__" = some (some (.builtin "ValueError.__init__")))
    (mro : PySem.W.mroIn K C_NoNumber (.ref C_NoNumber) = some true)
    (lI : K.lookup fI = some ⟨ocI, odI, .func (PySem.W.ksFn "__init__" "NoNumber.__init__" (defArgs PySem.SupX.si_NoNumber) (defBody PySem.SupX.si_NoNumber) (defScope PySem.SupX.si_NoNumber) .none kVI dcI pmI anI (.ref cdaI) ctI ccI), slI⟩)
    (cI : PySem.W.codeIn K (.ref cdaI) "NoNumber.__init__" = true)
    (lcd : K.lookup cdaI = some ⟨cclI, cddI, .fields vsI, ccsI⟩)
    (hvs : vsI[2]? = some (.str fileI tfI))
    (hfile : ((RW0.main.file : Str) == fileI) = true)
    (lcc : K.lookup ccI = some ⟨clI, cldI, .cell (some (.ref C_NoNumber)), cslI⟩)
    (haC : PySem.W.findIn K (.ref C_NoNumber) "__class__" = some (some (.builtin "object.__class__")))
    (hnC : PySem.W.specialIn K (.builtin "object.__class__") "__get__" = some (some (.builtin "getset_descriptor.__get__")))
    (htC : PySem.W.takesIn K (.builtin "object.__class__") = some true)
    (hmC : PySem.W.mroIn K C_NoNumber (.type "object") = some true)
    (kve : PySem.W.kitOne K (.ref C_NoNumber) (.type "ValueError") = some true)
    (kq0 : PySem.W.kitOne K (.ref C_NoNumber) (.ref C_SlackError) = some true)
    (kq1 : PySem.W.kitOne K (.ref C_NoNumber) (.ref C_NoNumber) = some true)
    (kq2 : PySem.W.kitOne K (.ref C_NoNumber) (.ref C_NoTable) = some false)
    (kq3 : PySem.W.kitOne K (.ref C_NoNumber) (.ref C_NoRow) = some false)
    (kq4 : PySem.W.kitOne K (.ref C_NoNumber) (.ref C_NoChoice) = some false)
    (kq5 : PySem.W.kitOne K (.ref C_NoNumber) (.ref C_Flat) = some false)
    (kq6 : PySem.W.kitOne K (.ref C_NoNumber) (.ref C_NoSaying) = some false)
    (kq7 : PySem.W.kitOne K (.ref C_NoNumber) (.ref C_Lifted) = some false)
    (kq8 : PySem.W.kitOne K (.ref C_NoNumber) (.ref C_NoCover) = some false)
    (kq9 : PySem.W.kitOne K (.ref C_NoNumber) (.ref C_Dipped) = some false)
    (kq10 : PySem.W.kitOne K (.ref C_NoNumber) (.ref C_NotOne) = some false)
    (kq11 : PySem.W.kitOne K (.ref C_NoNumber) (.ref C_NoText) = some false)
    (kq12 : PySem.W.kitOne K (.ref C_NoNumber) (.ref C_NoLine) = some false)
    (kq13 : PySem.W.kitOne K (.ref C_NoNumber) (.ref C_NoName) = some false)
    (sExc : PySem.W.subIn K (.ref C_SlackError) (.type "BaseException") = some true)
    (sHd : PySem.W.hasDictIn K C_SlackError = true)
    (sTy : PySem.W.typeIn K (.ref C_SlackError) = some (.type "type"))
    (sSub : PySem.W.subIn K (.ref C_NoNumber) (.ref C_SlackError) = some true)
    (z_super : PySem.W.nsIn K mainGlobals "super" = some none)
    (k_PLAIN_BITS : PySem.W.nsIn K mainGlobals "PLAIN_BITS" = some (some (.int (6000) tk_PLAIN_BITS)))
    (a1 : PySem.W.nsIn K mainGlobals "common_divisor" = some (some (.ref f1))) (l1 : K.lookup f1 = some ⟨oc1, od1, .func (PySem.W.fnOf "common_divisor" "common_divisor" (defArgs s_common_divisor) (defBody s_common_divisor) (defScope s_common_divisor) .none kV1 dc1 pm1 an1 cd1 ct1), sl1⟩) (c1 : PySem.W.codeIn K cd1 "common_divisor" = true) (k1 : PySem.W.keepIn K (.ref f1) = true)
    (a2 : PySem.W.nsIn K mainGlobals "lowest" = some (some (.ref f2))) (l2 : K.lookup f2 = some ⟨oc2, od2, .func (PySem.W.fnOf "lowest" "lowest" (defArgs s_lowest) (defBody s_lowest) (defScope s_lowest) (.ref t2) kV2 dc2 pm2 an2 cd2 ct2), sl2⟩) (c2 : PySem.W.codeIn K cd2 "lowest" = true) (k2 : PySem.W.keepIn K (.ref f2) = true)
    (lt2 : K.lookup t2 = some ⟨oct2, odt2, .seq #[.int 1 tk2] nt2, slt2⟩)
    (a3 : PySem.W.nsIn K mainGlobals "_law_mixed" = some (some (.ref f3))) (l3 : K.lookup f3 = some ⟨oc3, od3, .func (PySem.W.fnOf "_law_mixed" "_law_mixed" (defArgs s__law_mixed) (defBody s__law_mixed) (defScope s__law_mixed) .none kV3 dc3 pm3 an3 cd3 ct3), sl3⟩) (c3 : PySem.W.codeIn K cd3 "_law_mixed" = true) (k3 : PySem.W.keepIn K (.ref f3) = true)
    (a4 : PySem.W.nsIn K mainGlobals "_law_pile" = some (some (.ref f4))) (l4 : K.lookup f4 = some ⟨oc4, od4, .func (PySem.W.fnOf "_law_pile" "_law_pile" (defArgs s__law_pile) (defBody s__law_pile) (defScope s__law_pile) .none kV4 dc4 pm4 an4 cd4 ct4), sl4⟩) (c4 : PySem.W.codeIn K cd4 "_law_pile" = true) (k4 : PySem.W.keepIn K (.ref f4) = true)
    (a5 : PySem.W.nsIn K mainGlobals "_law_take" = some (some (.ref f5))) (l5 : K.lookup f5 = some ⟨oc5, od5, .func (PySem.W.fnOf "_law_take" "_law_take" (defArgs s__law_take) (defBody s__law_take) (defScope s__law_take) .none kV5 dc5 pm5 an5 cd5 ct5), sl5⟩) (c5 : PySem.W.codeIn K cd5 "_law_take" = true) (k5 : PySem.W.keepIn K (.ref f5) = true)
    (a6 : PySem.W.nsIn K mainGlobals "_law_kind" = some (some (.ref f6))) (l6 : K.lookup f6 = some ⟨oc6, od6, .func (PySem.W.fnOf "_law_kind" "_law_kind" (defArgs s__law_kind) (defBody s__law_kind) (defScope s__law_kind) .none kV6 dc6 pm6 an6 cd6 ct6), sl6⟩) (c6 : PySem.W.codeIn K cd6 "_law_kind" = true) (k6 : PySem.W.keepIn K (.ref f6) = true)
    (a7 : PySem.W.nsIn K mainGlobals "_law_whole" = some (some (.ref f7))) (l7 : K.lookup f7 = some ⟨oc7, od7, .func (PySem.W.fnOf "_law_whole" "_law_whole" (defArgs s__law_whole) (defBody s__law_whole) (defScope s__law_whole) .none kV7 dc7 pm7 an7 cd7 ct7), sl7⟩) (c7 : PySem.W.codeIn K cd7 "_law_whole" = true) (k7 : PySem.W.keepIn K (.ref f7) = true)
    (a8 : PySem.W.nsIn K mainGlobals "_law_common" = some (some (.ref f8))) (l8 : K.lookup f8 = some ⟨oc8, od8, .func (PySem.W.fnOf "_law_common" "_law_common" (defArgs s__law_common) (defBody s__law_common) (defScope s__law_common) .none kV8 dc8 pm8 an8 cd8 ct8), sl8⟩) (c8 : PySem.W.codeIn K cd8 "_law_common" = true) (k8 : PySem.W.keepIn K (.ref f8) = true)
    (a9 : PySem.W.nsIn K mainGlobals "_law_right" = some (some (.ref f9))) (l9 : K.lookup f9 = some ⟨oc9, od9, .func (PySem.W.fnOf "_law_right" "_law_right" (defArgs s__law_right) (defBody s__law_right) (defScope s__law_right) .none kV9 dc9 pm9 an9 cd9 ct9), sl9⟩) (c9 : PySem.W.codeIn K cd9 "_law_right" = true) (k9 : PySem.W.keepIn K (.ref f9) = true)
    (a10 : PySem.W.nsIn K mainGlobals "_law_caught" = some (some (.ref f10))) (l10 : K.lookup f10 = some ⟨oc10, od10, .func (PySem.W.fnOf "_law_caught" "_law_caught" (defArgs s__law_caught) (defBody s__law_caught) (defScope s__law_caught) .none kV10 dc10 pm10 an10 cd10 ct10), sl10⟩) (c10 : PySem.W.codeIn K cd10 "_law_caught" = true) (k10 : PySem.W.keepIn K (.ref f10) = true)
    (a11 : PySem.W.nsIn K mainGlobals "_law_great" = some (some (.ref f11))) (l11 : K.lookup f11 = some ⟨oc11, od11, .func (PySem.W.fnOf "_law_great" "_law_great" (defArgs s__law_great) (defBody s__law_great) (defScope s__law_great) .none kV11 dc11 pm11 an11 cd11 ct11), sl11⟩) (c11 : PySem.W.codeIn K cd11 "_law_great" = true) (k11 : PySem.W.keepIn K (.ref f11) = true)
    (a12 : PySem.W.nsIn K mainGlobals "law" = some (some (.ref f12))) (l12 : K.lookup f12 = some ⟨oc12, od12, .func (PySem.W.fnOf "law" "law" (defArgs s_law) (defBody s_law) (defScope s_law) .none kV12 dc12 pm12 an12 cd12 ct12), sl12⟩) (c12 : PySem.W.codeIn K cd12 "law" = true) (k12 : PySem.W.keepIn K (.ref f12) = true)
    (z_abs : PySem.W.nsIn K mainGlobals "abs" = some none)
    (z_len : PySem.W.nsIn K mainGlobals "len" = some none)
    (z_range : PySem.W.nsIn K mainGlobals "range" = some none)
    (z_isinstance : PySem.W.nsIn K mainGlobals "isinstance" = some none)
    (z_zip : PySem.W.nsIn K mainGlobals "zip" = some none)
    (z_int : PySem.W.nsIn K mainGlobals "int" = some none)
    (z_bool : PySem.W.nsIn K mainGlobals "bool" = some none)
    (z_tuple : PySem.W.nsIn K mainGlobals "tuple" = some none)
    (z_ValueError : PySem.W.nsIn K mainGlobals "ValueError" = some none)
    : ∃ fd : FuncData, (∀ (s : Shared) (v : Value), BindsTo s fd ⟨[v], []⟩ [("_law_script", v)]) ∧ ∀ base : Heap, K.In base → base.Ns mainGlobals mg → FnOk RW0 w K mg base CX0 4 fa fd ["_law_script"] (spLaw K) := by
  have e := hfa.symm.trans (PySem.W.mg_of X G a12)
  cases e
  have F1 := fun_mk (st := s_common_divisor) l1 c1 k1
  have g1 := PySem.W.mg_of X G a1
  have g2 := PySem.W.mg_of X G a2
  have F3 := fun_mk (st := s__law_mixed) l3 c3 k3
  have g3 := PySem.W.mg_of X G a3
  have F4 := fun_mk (st := s__law_pile) l4 c4 k4
  have g4 := PySem.W.mg_of X G a4
  have F5 := fun_mk (st := s__law_take) l5 c5 k5
  have g5 := PySem.W.mg_of X G a5
  have F6 := fun_mk (st := s__law_kind) l6 c6 k6
  have g6 := PySem.W.mg_of X G a6
  have F7 := fun_mk (st := s__law_whole) l7 c7 k7
  have g7 := PySem.W.mg_of X G a7
  have F8 := fun_mk (st := s__law_common) l8 c8 k8
  have g8 := PySem.W.mg_of X G a8
  have F9 := fun_mk (st := s__law_right) l9 c9 k9
  have g9 := PySem.W.mg_of X G a9
  have F10 := fun_mk (st := s__law_caught) l10 c10 k10
  have g10 := PySem.W.mg_of X G a10
  have F11 := fun_mk (st := s__law_great) l11 c11 k11
  have g11 := PySem.W.mg_of X G a11
  have F12 := fun_mk (st := s_law) l12 c12 k12
  have g12 := PySem.W.mg_of X G a12
  let c : Adr := ⟨C_SlackError, C_NoNumber, C_NoTable, C_NoRow, C_NoChoice, C_Flat, C_NoSaying, C_Lifted, C_NoCover, C_Dipped, C_NotOne, C_NoText, C_NoLine, C_NoName⟩
  have T : Txt K mg c := ⟨PySem.W.mg_none_of X G z_abs, PySem.W.mg_none_of X G z_len, PySem.W.mg_none_of X G z_range, PySem.W.mg_none_of X G z_isinstance, PySem.W.mg_none_of X G z_zip, PySem.W.mg_none_of X G z_int, PySem.W.mg_none_of X G z_bool, PySem.W.mg_none_of X G z_tuple, PySem.W.mg_none_of X G z_ValueError, ⟨_, PySem.W.mg_of X G k_PLAIN_BITS⟩, PySem.W.mg_of X G g_SlackError, PySem.W.mg_of X G g_NoNumber, PySem.W.mg_of X G g_NoTable, PySem.W.mg_of X G g_NoRow, PySem.W.mg_of X G g_NoChoice, PySem.W.mg_of X G g_Flat, PySem.W.mg_of X G g_NoSaying, PySem.W.mg_of X G g_Lifted, PySem.W.mg_of X G g_NoCover, PySem.W.mg_of X G g_Dipped, PySem.W.mg_of X G g_NotOne, PySem.W.mg_of X G g_NoText, PySem.W.mg_of X G g_NoLine, PySem.W.mg_of X G g_NoName⟩
  have xN : PySem.SupX.ExTxt K mg c.NoNumber := ⟨⟨nm, q0, N0, bs0, _, sn0, sub0, ab0, col0, dd0, m0, m1, m2, m3, m5, xL, by rfl⟩, sa, ga, gg, kC, exC, veC, tyC, hdC⟩
  have iN : PySem.SupX.In_NoNumber K mg c.NoNumber fI := ⟨PySem.W.mg_of X G g_NoNumber, noN, iC, tI, PySem.W.mg_none_of X G z_super, opq, along, mro, ⟨ocI, odI, kVI, dcI, pmI, anI, cdaI, ccI, ctI, slI, cclI, cddI, vsI, ccsI, fileI, tfI, clI, cldI, cslI, lI, cI, lcd, hvs, hfile, lcc⟩⟩
  have ec : ExcC K c.NoNumber := ⟨ga, gg, exC, hdC, haC, hnC, htC, hmC⟩
  have kN : KindOf K c c.NoNumber bNum := ⟨ec, kve, kq0, kq1, kq2, kq3, kq4, kq5, kq6, kq7, kq8, kq9, kq10, kq11, kq12, kq13⟩
  have xf : XfC K c.NoNumber := ⟨ga, gg, exC, hdC⟩
  have te : PySem.W.exmOne K (.ref c.NoNumber) (.ref c.SlackError) = some true := PySem.W.exm_ref sExc sHd sTy sSub
  have b1 := F1.binds (ps := ["one", "other"]) fun _ _ _ _ _ _ us hl => match us, hl with | [_, _], _ => rfl
  have b3 := F3.binds (ps := ["_law_cell", "_law_k"]) fun _ _ _ _ _ _ us hl => match us, hl with | [_, _], _ => rfl
  have b4 := F4.binds (ps := ["_law_script", "_law_k"]) fun _ _ _ _ _ _ us hl => match us, hl with | [_, _], _ => rfl
  have b5 := F5.binds (ps := ["_law_pile_here", "_law_many"]) fun _ _ _ _ _ _ us hl => match us, hl with | [_, _], _ => rfl
  have b6 := F6.binds (ps := ["_law_error"]) fun _ _ _ _ _ _ us hl => match us, hl with | [_], _ => rfl
  have b7 := F7.binds (ps := ["_law_pile_here"]) fun _ _ _ _ _ _ us hl => match us, hl with | [_], _ => rfl
  have b8 := F8.binds (ps := ["_law_one", "_law_other"]) fun _ _ _ _ _ _ us hl => match us, hl with | [_, _], _ => rfl
  have b9 := F9.binds (ps := ["_law_found", "_law_my_top", "_law_my_bottom"]) fun _ _ _ _ _ _ us hl => match us, hl with | [_, _, _], _ => rfl
  have b10 := F10.binds (ps := ["_law_my_top"]) fun _ _ _ _ _ _ us hl => match us, hl with | [_], _ => rfl
  have b11 := F11.binds (ps := []) fun _ _ _ _ _ _ us hl => match us, hl with | [], _ => rfl
  have F2 : FunD K "lowest" "lowest" (defArgs s_lowest) (defBody s_lowest) (defScope s_lowest) [.int 1] [] f2 _ := ⟨⟨oc2, od2, .ref t2, kV2, dc2, pm2, an2, cd2, ct2, sl2, rfl, l2, c2, .inr ⟨(by intro z; cases z), t2, _, [.int 1 tk2], nt2, rfl, lt2, rfl, .cons ⟨tk2, rfl⟩ .nil⟩, .inl rfl⟩, k2⟩
  obtain ⟨ds2, v2, b2⟩ := F2.binds1 (ps := ["top", "bottom"]) 2 1 (by intro z; cases z) rfl (fun T kV doc pm an cdv ct us its h1 h2 => match us, its, h1, h2 with | [_, _], [_], _, _ => ⟨_, rfl, rfl⟩)
  obtain ⟨ds1, v1, b2d⟩ := F2.binds1 (ps := ["top", "bottom"]) 1 0 (by intro z; cases z) rfl (fun T kV doc pm an cdv ct us its h1 h2 => match us, its, h1, h2 with | [_], [_], _, _ => ⟨_, rfl, rfl⟩)
  obtain ⟨it1, q1⟩ := kbindsD (ps := ["top", "bottom"]) F2 ["bottom", "top"] (fun _ zs => zs.reverse) (by intro z; cases z) (fun r1 r2 => vals_rev r2) (fun T kV doc pm an cdv ct its ws h1 h2 => match its, ws, h1, h2 with | [_], [_, _], _, _ => ⟨_, rfl, rfl⟩)
  obtain ⟨it2, q2⟩ := kbindsN (ps := ["top", "bottom"]) F2 1 ["bottom"] (fun us _ ws => us ++ ws) (by intro z; cases z) (fun r1 _ r3 => r1.append r3) (fun T kV doc pm an cdv ct us its ws h0 h1 h2 => match us, its, ws, h0, h1, h2 with | [_], [_], [_], _, _, _ => ⟨_, rfl, rfl⟩)
  refine ⟨PySem.W.fnOf "law" "law" (defArgs s_law) (defBody s_law) (defScope s_law) .none kV12 dc12 pm12 an12 cd12 ct12, fun s v => .of_eq rfl, fun base _ _ => ?_⟩
  have C1 : Cal RW0 w K mg base 1 "common_divisor" ["one", "other"] spCdB := ⟨f1, _, ok_cd (k := 0) F1 T, g1, k1, b1⟩
  have O2 : FnOk RW0 w K mg base (L2.CX RW0 w) 2 f2 _ ["top", "bottom"] (spLow c) := ok_low (k := 0) F2 xN iN C1
  have C2 : CalX RW0 w K mg base 2 "lowest" ["top", "bottom"] (spLow c) [] := ⟨f2, _, _, O2, g2, k2, b2, v2⟩
  have C2d : CalX RW0 w K mg base 2 "lowest" ["top", "bottom"] (spLow c) [.int 1] := ⟨f2, _, _, O2, g2, k2, b2d, v1⟩
  have C2k : CalXK RW0 w K mg base 2 "lowest" ["top", "bottom"] (spLow c) 0 ["bottom", "top"] (fun _ zs => zs.reverse) := ⟨f2, _, _, O2, g2, k2, q1⟩
  have C2p : CalXK RW0 w K mg base 2 "lowest" ["top", "bottom"] (spLow c) 1 ["bottom"] (fun vs zs => vs ++ zs) := ⟨f2, _, _, O2, g2, k2, q2⟩
  have C3 : Cal RW0 w K mg base 1 "_law_mixed" ["_law_cell", "_law_k"] spMix := ⟨f3, _, ok_mix (k := 0) F3, g3, k3, b3⟩
  have C4 : Cal RW0 w K mg base 1 "_law_pile" ["_law_script", "_law_k"] (spPile K) := ⟨f4, _, ok_pile (k := 0) F4 T, g4, k4, b4⟩
  have C5 : Cal RW0 w K mg base 2 "_law_take" ["_law_pile_here", "_law_many"] spTake := ⟨f5, _, ok_take (k := 0) F5 C3, g5, k5, b5⟩
  have C6 : Cal RW0 w K mg base 1 "_law_kind" ["_law_error"] (spKind K c) := ⟨f6, _, ok_kind (k := 0) F6 T kN xf noN, g6, k6, b6⟩
  have C7 : Cal RW0 w K mg base 3 "_law_whole" ["_law_pile_here"] spWhole := ⟨f7, _, ok_whole (k := 0) F7 C5, g7, k7, b7⟩
  have C8 : Cal RW0 w K mg base 1 "_law_common" ["_law_one", "_law_other"] spCd := ⟨f8, _, ok_com (k := 0) F8 T, g8, k8, b8⟩
  have C9 : Cal RW0 w K mg base 2 "_law_right" ["_law_found", "_law_my_top", "_law_my_bottom"] spRt := ⟨f9, _, ok_rt (k := 0) F9 T C8, g9, k9, b9⟩
  have C10 : Cal RW0 w K mg base 3 "_law_caught" ["_law_my_top"] spCaught := ⟨f10, _, ok_caught (k := 0) F10 T te C6 C2, g10, k10, b10⟩
  have C11 : Cal RW0 w K mg base 3 "_law_great" [] spGreat := ⟨f11, _, ok_great (k := 0) F11 T C2 C2d, g11, k11, b11⟩
  exact ok_law F12 T C2 C2d C2k C2p C4 C5 C7 C10 C9 C11
end Toy
open PySem PySem.W PyProof.Rows
set_option maxRecDepth 100000 in
set_option maxHeartbeats 0 in
theorem PySem.Challenge.cw_eitherslack_k01_lowest_holds : PySem.Challenge.rw_eitherslack_k01_lowest.Holds := by
  w_on; o_law; k_head; (case hw => w_witness2)
  k_fill
  refine L2.walk_of (l := PySem.Challenge.rw_eitherslack_k01_lowest) (n := 63) (k := 4) (x := "_law_script") (CX := fun _ => L2.CX0) (sp := fun w => Toy.spLaw _) rfl (by decide) rfl ⟨rfl, by decide, by decide⟩ (fun w h Y => PySem.W.kIn_of Y) ?F (fun _ _ a ns hl _ hS => ⟨a, ns, rfl, hS, hl, fun _ => rfl⟩) (fun _ _ _ _ _ h => h)
  case F =>
    intro w mg fa h KX G hmg
    refine' Toy.all_mk KX G hmg ?g_SlackError ?g_NoNumber ?g_NoTable ?g_NoRow ?g_NoChoice ?g_Flat ?g_NoSaying ?g_Lifted ?g_NoCover ?g_Dipped ?g_NotOne ?g_NoText ?g_NoLine ?g_NoName ?xL ?sa ?ga ?gg ?noN ?kC ?exC ?veC ?tyC ?hdC ?iC ?tI ?opq ?along ?mro ?lI ?cI ?lcd ?hvs ?hfile ?lcc ?haC ?hnC ?htC ?hmC ?kve ?kq0 ?kq1 ?kq2 ?kq3 ?kq4 ?kq5 ?kq6 ?kq7 ?kq8 ?kq9 ?kq10 ?kq11 ?kq12 ?kq13 ?sExc ?sHd ?sTy ?sSub ?z_super ?k_PLAIN_BITS ?a1 ?l1 ?c1 ?k1 ?a2 ?l2 ?c2 ?k2 ?lt2 ?a3 ?l3 ?c3 ?k3 ?a4 ?l4 ?c4 ?k4 ?a5 ?l5 ?c5 ?k5 ?a6 ?l6 ?c6 ?k6 ?a7 ?l7 ?c7 ?k7 ?a8 ?l8 ?c8 ?k8 ?a9 ?l9 ?c9 ?k9 ?a10 ?l10 ?c10 ?k10 ?a11 ?l11 ?c11 ?k11 ?a12 ?l12 ?c12 ?k12 ?z_abs ?z_len ?z_range ?z_isinstance ?z_zip ?z_int ?z_bool ?z_tuple ?z_ValueError
    (case g_SlackError => k_is)
    (case g_NoNumber => k_is)
    (case g_NoTable => k_is)
    (case g_NoRow => k_is)
    (case g_NoChoice => k_is)
    (case g_Flat => k_is)
    (case g_NoSaying => k_is)
    (case g_Lifted => k_is)
    (case g_NoCover => k_is)
    (case g_Dipped => k_is)
    (case g_NotOne => k_is)
    (case g_NoText => k_is)
    (case g_NoLine => k_is)
    (case g_NoName => k_is)
    (case xL => k_is)
    (case sa => k_is)
    (case ga => k_is)
    (case gg => k_is)
    (case noN => k_is)
    (case kC => k_is)
    (case exC => k_is)
    (case veC => k_is)
    (case tyC => k_is)
    (case hdC => k_is)
    (case iC => k_is)
    (case tI => k_is)
    (case opq => k_is)
    (case along => ks_is)
    (case mro => k_is)
    (case lI => k_is)
    (case cI => k_is)
    (case lcd => k_is)
    (case hvs => rfl)
    (case hfile => first | rfl | decide +kernel)
    (case lcc => k_is)
    (case haC => k_is)
    (case hnC => k_is)
    (case htC => k_is)
    (case hmC => k_is)
    (case kve => kit_is)
    (case kq0 => kit_is)
    (case kq1 => kit_is)
    (case kq2 => kit_is)
    (case kq3 => kit_is)
    (case kq4 => kit_is)
    (case kq5 => kit_is)
    (case kq6 => kit_is)
    (case kq7 => kit_is)
    (case kq8 => kit_is)
    (case kq9 => kit_is)
    (case kq10 => kit_is)
    (case kq11 => kit_is)
    (case kq12 => kit_is)
    (case kq13 => kit_is)
    (case sExc => k_is)
    (case sHd => k_is)
    (case sTy => k_is)
    (case sSub => k_is)
    (case z_super => k_is)
    (case k_PLAIN_BITS => k_is)
    (case a1 => k_is)
    (case l1 => k_is)
    (case c1 => k_is)
    (case k1 => k_is)
    (case a2 => k_is)
    (case l2 => k_is)
    (case c2 => k_is)
    (case k2 => k_is)
    (case lt2 => k_is)
    (case a3 => k_is)
    (case l3 => k_is)
    (case c3 => k_is)
    (case k3 => k_is)
    (case a4 => k_is)
    (case l4 => k_is)
    (case c4 => k_is)
    (case k4 => k_is)
    (case a5 => k_is)
    (case l5 => k_is)
    (case c5 => k_is)
    (case k5 => k_is)
    (case a6 => k_is)
    (case l6 => k_is)
    (case c6 => k_is)
    (case k6 => k_is)
    (case a7 => k_is)
    (case l7 => k_is)
    (case c7 => k_is)
    (case k7 => k_is)
    (case a8 => k_is)
    (case l8 => k_is)
    (case c8 => k_is)
    (case k8 => k_is)
    (case a9 => k_is)
    (case l9 => k_is)
    (case c9 => k_is)
    (case k9 => k_is)
    (case a10 => k_is)
    (case l10 => k_is)
    (case c10 => k_is)
    (case k10 => k_is)
    (case a11 => k_is)
    (case l11 => k_is)
    (case c11 => k_is)
    (case k11 => k_is)
    (case a12 => k_is)
    (case l12 => k_is)
    (case c12 => k_is)
    (case k12 => k_is)
    (case z_abs => k_is)
    (case z_len => k_is)
    (case z_range => k_is)
    (case z_isinstance => k_is)
    (case z_zip => k_is)
    (case z_int => k_is)
    (case z_bool => k_is)
    (case z_tuple => k_is)
    (case z_ValueError => k_is)
