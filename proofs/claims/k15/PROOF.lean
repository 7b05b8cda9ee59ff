import PyProof.Rows.All
import Wide.All
import OpenK.AllK
import Wide.FinOn
import HandS.ForMost
import HandS.Wide
import HandS.Defaults
import HandS.IsInst
import HandS.Style
import HandS.Flow
import HandS.Walk
import HandS.Codes
import HandS.ForExc
import HandS.ExcOwn
import HandS.ExcIs
import HandS.ExcField
import HandS.ExcValue
import HandS.CallSlots
import HandS.ExcInit
import HandS.ExcSuper
import KE.KExcSuper
import KE.KExcIs
import PySem.Challenge.RW_eitherslack_k15_refusals_made
set_option Elab.async false
set_option linter.all false
set_option maxRecDepth 100000
namespace PySem
namespace SupX
open PySem.W PySem.Calls PyProof.Rows PySem.HandSPX
/-! ### an own exception over SlackError, over ValueError, whose __init__ says super().__init__('..') and stores one field -/
/-- what the written part says of the class x at C, its __init__ at fI -/
structure ExTxt (K : Frag) (mg : Str → Option Value) (C : Addr) : Prop where
  cls : ∃ nm q N bs bm sn sub ab col dd k0 k1 k2 k3 k5, K.lookup C = some (excClassObj nm q C N bs bm true sn sub ab col dd k0 k1 k2 k3 k5 "ValueError.__new__") ∧ refsVE bm = true
  sa : findIn K (.ref C) "__setattr__" = some (some (.builtin "object.__setattr__"))
  ga : findIn K (.ref C) "__getattribute__" = some (some (.builtin "BaseException.__getattribute__"))
  gg : findIn K (.ref C) "__getattr__" = some none
  kC : keepIn K (.ref C) = true
  exC : subIn K (.ref C) (.type "BaseException") = some true
  veC : subIn K (.ref C) (.type "ValueError") = some true
  tyC : typeIn K (.ref C) = some (.type "type")
  hdC : hasDictIn K C = true
theorem one_size (v : Value) : [v].length ≤ sizeLine := by
  rw [sizeLine_eq]
  exact (by decide : 1 ≤ 16777216)
structure InitEnd (f : Str) (h h' : Heap) (x C dx t1 : Addr) (v : Value) : Prop where
  keep : ∀ b o, b ≠ x → h.get? b = some o → h'.get? b = some o
  obj : h'.get? x = some { cls := .ref C, dict := some dx, data := .fields #[.ref t1, .none, .none, .none, .bool false, .none] }
  dbig : h.objs.size ≤ dx
  dne : dx ≠ x
  ns : h'.Ns1 dx (fun y => if y = f then some v else none)
structure OwnMade (f : Str) (h h' : Heap) (e C d : Addr) (v : Value) : Prop where
  keep : ∀ b o, h.get? b = some o → h'.get? b = some o
  new : h.objs.size ≤ e
  obj : ∃ t1 : Addr, h'.get? e = some { cls := .ref C, dict := some d, data := .fields #[.ref t1, .none, .none, .none, .bool false, .none] }
  dbig : h.objs.size ≤ d
  dne : d ≠ e
  ns : h'.Ns1 d (fun y => if y = f then some v else none)
section
variable {prog : Program} {w : World} {A : Around} {E : Value → Shared → Prop} {R : Result → Shared → Prop} {s : Shared} {K : Frag} {mg : Str → Option Value} {C fI : Addr} {f : Str}
theorem callWith_mw {M : Model} {pos : Pos} {env : Env} {e : Expr} {rest : List Expr} {u x : Addr} {i : String} {Q : Value → Shared → Prop}
    (h : wpAny M A (spliced (backTo pos (starEach (e :: rest) env))) (fun vs s₁ => KxsAt i u x s₁.heap ∧ wpAny M A (call (.ref u) vs) Q E s₁) E s)
    (he : starEach (e :: rest) env = (false, eval e env) :: starEach rest env := by rfl) (hplain : (backTo pos (starEach rest env)).any (·.1) = false := by rfl) :
    wpAny M A (callWith pos (.ref u) [] (backTo pos (starEach (e :: rest) env)) []) Q E s := by
  rw [he] at h ⊢
  refine kxs_callWith (i := i) (x := x) (by show (false || (backTo pos (starEach rest env)).any (·.1)) = false; rw [hplain]; rfl) ?_
  exact evalArgs_plain h
/-- the built-in __init__ bound to a fresh exception, called -/
theorem call_mw {u e t0 : Addr} {rest : List Value} {Q : Value → Shared → Prop} (T : ExTxt K mg C) (X : K.In s.heap) (he : s.heap.get? e = some (excO C t0)) (hu : s.heap.get? u = some (kxs_mw "ValueError.__init__" e)) (hrest : rest.length ≤ sizeLine)
    (hq : ∀ h' t1, (∀ b o, b ≠ e → s.heap.get? b = some o → h'.get? b = some o) → h'.get? e = some (excO C t1) → Q .none { s with heap := h' }) :
    wpAny (model prog w) A (call (.ref u) rest) Q E s := by
  obtain ⟨nm, q, N, bs, bm, sn, sub, ab, col, dd, k0, k1, k2, k3, k5, hC, hbm⟩ := T.cls
  obtain ⟨hh, g, d, tk, os⟩ := s
  refine wpAny_call (codeAny_of_tree ?_)
  show wpAny _ A.in1 (callAny (.ref u) ⟨rest, []⟩) _ _ _
  simp only [callAny]
  refine wpAny_bind (wpAny_load hu ?_)
  simp only [kxs_mw, show (Value.type "method-wrapper" == Value.type "method" || Value.type "method-wrapper" == Value.type "builtin_function_or_method" || Value.type "method-wrapper" == Value.type "method-wrapper") = true by decide, if_true]
  refine KFB.if_so (by decide) ?_
  refine wpAny_bind (check_bound_init F.excBase_ValueError.toExcCallFacts (X _ _ hC) he rfl ?_)
  refine wpAny_bind (wpAny_pure (wpAny_pure ?_))
  refine ⟨plainId_quiet F.excBase_ValueError.init.plain _, codeAny_builtin F.excBase_ValueError.initEntry ?_⟩
  exact exc_init_tree (cls := .ref C) (t0 := t0) (dv := none) (c2 := .none) (c3 := .none) (b4 := .bool false) he hrest fun h' k e' _ => hq h' _ k e'
end
end SupX
end PySem
namespace L2
open PySem PySem.Spec PyProof.Rows
/-! ### an exception as a value: tracked at its own address; its fields, if any, in a tracked dict -/
def exv (a : Addr) (cls : Value) (d : Option Addr) : HO := .ext fun h => ∃ (oe : Obj) (vs : Array Value), h.get? a = some oe ∧ Zc cls d oe ∧ oe.data = .fields vs
theorem exv_ok {P : Program} {w : World} {H : Hp} {h : Heap} {a : Addr} {cls : Value} {d : Option Addr} {oe : Obj} {vs : Array Value} (e : h.get? a = some oe) (z : Zc cls d oe) (hd : oe.data = .fields vs) : ObjOk P w H h a (exv a cls d) :=
  ⟨⟨oe, vs, e, z, hd⟩, ⟨oe, e⟩, fun h1 h2 p k => by
    obtain ⟨o, us, e1, e2, e3⟩ := p
    exact ⟨o, us, k o e1, e2, e3⟩⟩
theorem exv_at {P : Program} {w : World} {H : Hp} {h : Heap} {a : Addr} {cls : Value} {d : Option Addr} (ok : HOk P w H h) (e : H a = some (exv a cls d)) : ∃ (oe : Obj) (vs : Array Value), h.get? a = some oe ∧ Zc cls d oe ∧ oe.data = .fields vs := (ok a _ e).1
/-- an object of ours, laid since the entry, is from now on tracked -/
theorem Inv.track {X : Cx} {pins : List (Addr × Obj)} {σ : St} {H : Hp} {s : Shared} {a : Addr} {o : HO} (I : Inv X pins σ H s) (h0 : X.s_0.heap.get? a = none) (na : H a = none) (nL : a ≠ X.env.locals) (nC : ∀ y c, X.env.cells.lookup y = some c → c ≠ a) (nP : ∀ p ∈ X.pn ++ pins, p.1 ≠ a)
    (new : ObjOk X.prog X.w (upd H a o) s.heap a o) : Inv X pins σ (upd H a o) s := by
  have other : ∀ b, b ≠ a → upd H a o b = H b := fun b n => upd_ne n
  have had : ∀ b u, H b = some u → upd H a o b = some u := fun b u q => by
    rw [other b (ne_of_none q na)]
    exact q
  have old : ∀ b u, X.s_0.heap.get? b = some u → b ≠ a := fun b u q z => by
    rw [z, h0] at q
    cases q
  refine { I with base := ⟨I.base.keep, I.base.slot, fun b u q n hx => ?_, I.base.there, fun b xs q => had _ _ (I.base.tups b xs q), fun b u xs q => had _ _ (I.base.frzs b u xs q), fun b ps q => ?_⟩, free := ?_, freeC := fun y c q => ?_, pin := fun p hp => ?_, hok := fun b u q => ?_ }
  · rw [other b (old b u q)]
    exact I.base.free b u q n hx
  · obtain ⟨m, z⟩ := I.base.tbls b ps q
    exact ⟨m, had _ _ z⟩
  · rw [other _ nL.symm]
    exact I.free
  · rw [other _ (nC y c q)]
    exact I.freeC y c q
  · obtain ⟨e1, e2, e3⟩ := I.pin p hp
    exact ⟨e1, by rw [other _ (nP p hp)]; exact e2, e3⟩
  · by_cases hb : b = a
    · subst hb
      rw [upd_same] at q
      cases q
      exact new
    · rw [other b hb] at q
      exact (I.hok b u q).stay (fun c v _ z => z) (fun c z => had _ _ z) fun c xs z => had _ _ z
/-- try: body / except x as n: y = n: what the clause wishes of an exception of the body; behind it y (slot j) holds the exception -/
def wKeep (K : PySem.W.Frag) (c : Value) (i j : Nat) (D : Ends) : WX := fun cls d σ H => PySem.W.exmOne K cls c = some true ∧ ∀ a, H a = none → D.nx (((σ.set i (some (.ref a))).set j (some (.ref a))).set i none) (upd H a (exv a cls d))
section
variable {X : Cx} {x n y : Str} {c : Value} {i j : Nat} {body : List Stmt} {np pos pos' pn' pa py : Pos} {tb : WX → TS}
theorem ps_try_keep (hs : X.stack = X.env :: X.outer) (hf : X.env.frame = some X.env.locals) (hex : X.ex = []) (hN : X.N.Nodup) (hi : X.N[i]? = some n) (hj : X.N[j]? = some y) (hln : X.env.kindOf n = some .local) (hly : X.env.kindOf y = some .local) (hc : Names X x c)
    (hdn : (n == ("__debug__" : Str)) = false) (hdc : (n == ("__classdict__" : Str)) = false)
    (hb : ∀ (W : WX) (pn : List (Addr × Obj)) (xe : Value → Shared → Prop), Takes (X.tr pn xe) W → PassesOwn (model X.prog X.w) X.A X.env xe → PSs (X.tr pn xe) body (tb W))
    (hsw : ∀ a pn, PS (X.suite a pn) (.Assign [.Name y py] (.Name n pn') pa) (tAsg (tVar i) (gName j))) :
    PS X (.Try body [.ExceptHandler (some (.Name x np)) (some n) [.Assign [.Name y py] (.Name n pn') pa] pos'] [] [] pos) (fun D σ H => tb (wKeep X.K c i j D) D σ H) := by
  refine ⟨fun pins s σ H D I h => ?_⟩
  have hfr : X.A.frames = some (X.env :: X.outer) := I.ok.frames.trans (congrArg some hs)
  refine wpAny_Try_except ?_
  refine wpAny_mono ((hb (wKeep X.K c i j D) (X.pn ++ pins) _ (fun u s' xx => ?kc) PassesOwn.looking).run [] s σ H D (I.toTry _) h) (fun f s1 hsp => ?kt) fun _ _ z => z
  case kt =>
    cases f with
    | ret u =>
      obtain ⟨v, σ', H', J', r, q⟩ := hsp
      exact ⟨v, σ', H', J'.ofTry I.ok, r, q⟩
    | next =>
      obtain ⟨σ', H', J', q⟩ := hsp
      exact wpAny_execs_nil ⟨σ', H', J'.ofTry I.ok, q⟩
    | _ =>
      obtain ⟨σ', H', J', q⟩ := hsp
      exact ⟨σ', H', J'.ofTry I.ok, q⟩
  case kc =>
    obtain ⟨a, B, sI, pins', σ', H', cls, d, rfl, J', nb, up, sky, na, os, ag, hm, hgo⟩ := xx
    have J : Inv X pins σ' H' sI := J'.ofTry I.ok
    rw [hs] at sky
    have Ba : B.get? a = none := by
      rcases sky with z | z | z
      · exact z.2.1
      · exact z.2.1
      · exact z.2.1
    show wpAny (model X.prog X.w) X.A (noteFrame (.ref a) X.env) _ _ _
    refine Sky.land Zc.steady hfr hf sky fun h3 fl3 up3 => ?_
    have J3 : Inv X pins σ' H' { s' with heap := h3 } := J.landed nb fl3.1 (up.trans up3) os ag
    obtain ⟨oe3, vs3, he3, hz3, hd3⟩ := fl3.there
    have nfr : a ∉ frs (X.env :: X.outer) := fun hm' => by
      obtain ⟨_, o', e', hnf⟩ := fl3.2.2.1.mem hm'
      rw [he3] at e'
      cases e'
      exact hnf _ hd3
    have nL : a ≠ X.env.locals := fun z => nfr (List.mem_filterMap.mpr ⟨X.env, List.mem_cons_self, by rw [hf, z]⟩)
    have nF : a ∉ X.fs := fun hm' => by
      obtain ⟨e, he, q⟩ := List.mem_filterMap.mp hm'
      exact nfr (List.mem_filterMap.mpr ⟨e, List.mem_cons_of_mem _ he, q⟩)
    -- the exception was not there at the entry
    have sIa : sI.heap.get? a = none := by
      cases z : sI.heap.get? a with
      | none => rfl
      | some o =>
        have q := nb a o z (by rw [hs]; exact nfr)
        rw [Ba] at q
        cases q
    have s0a : X.s_0.heap.get? a = none := by
      cases z : X.s_0.heap.get? a with
      | none => rfl
      | some o =>
        obtain ⟨o', q⟩ := J.base.there a o z (by rw [hex]; exact List.not_mem_nil)
        rw [sIa] at q
        cases q
    have nC : ∀ y c, X.env.cells.lookup y = some c → c ≠ a := fun y c q z => by
      obtain ⟨v, oc, e1, _⟩ := J.cell y c q
      rw [z, sIa] at e1
      cases e1
    have nP : ∀ p ∈ X.pn ++ pins, p.1 ≠ a := fun p hp z => by
      have q := (J.pin p hp).1
      rw [z, sIa] at q
      cases q
    have S3 := J3.suite he3 hd3 na nL nF
    refine wpAny_handleBy_cons (codeAny_handlers_test ?_) (by intro q; cases q)
    have LT : PySem.W.Looks (model X.prog X.w) h3 (typeOf (.ref a)) cls := fun A Q E s k q => wpAny_typeOf_ref (k _ _ he3) (by rw [hz3.1]; exact q)
    have LM := PySem.W.exm_one (M := model X.prog X.w) J3.kIn LT hm
    have test : ∀ {Q : Value → Shared → Prop} {E : Value → Shared → Prop}, Q c { s' with heap := h3 } → wpAny (model X.prog X.w) (X.A.mark (some (.ref a))) (eval (.Name x np) X.env) Q E { s' with heap := h3 } := fun {Q E} q => by
      obtain ⟨hg, hdbg, z | ⟨z, hv, hnn⟩⟩ := hc
      · exact ld_glob (X := X.suite a ((a, oe3) :: (X.pn ++ pins))) S3 hg z q hdbg
      · exact ld_blt (X := X.suite a ((a, oe3) :: (X.pn ++ pins))) S3 hg z hv q hnn hdbg
    refine test (LM.here (codeAny_handlers_suite_as ?_))
    refine HandSPX.lands_againZ fl3 fun h4 fl4 up4 => ?_
    have J4 : Inv X pins σ' H' { s' with heap := h4 } := J.landed nb fl4.1 ((up.trans up3).trans up4) os ag
    obtain ⟨oe4, vs4, he4, hz4, hd4⟩ := fl4.there
    have S4 := J4.suite he4 hd4 na nL nF
    refine store_ok (X := X.suite a ((a, oe4) :: (X.pn ++ pins))) (v := .ref a) S4 hN hi (.inl hln) rfl (fun s5 S5 => ?_) (.inr hln)
    have li : i < σ'.length := by
      rw [J.len]
      exact (List.getElem?_eq_some_iff.mp hi).1
    have get : (σ'.set i (some (V.ref a)))[i]? = some (some (V.ref a)) := List.getElem?_set_self li
    refine wpAny_mono ((pss_one (hsw a ((a, oe4) :: (X.pn ++ pins)))).run [] s5 _ H' { nx := fun σ6 H6 => σ6 = (σ'.set i (some (.ref a))).set j (some (.ref a)) ∧ H6 = H', rt := fun _ _ => False, bk := fun _ _ => False, ct := fun _ _ => False } S5 ⟨_, get, rfl, rfl⟩) (fun f s6 hsp => ?_) fun _ _ z => False.elim z
    cases f with
    | next =>
      obtain ⟨σ6, H6, S6, rfl, rfl⟩ := hsp
      have P6 : Inv X ((a, oe4) :: pins) ((σ'.set i (some (.ref a))).set j (some (.ref a))) H6 s6 :=
        ⟨I.ok, S6.os, S6.bare, S6.base, S6.loc, S6.cell, S6.free, S6.freeC, fun p hp => S6.pin p (by
          rw [List.append_nil]
          rcases List.mem_append.mp hp with z | z
          · exact List.mem_cons_of_mem _ (List.mem_append_left _ z)
          · rcases List.mem_cons.mp z with rfl | z
            · exact List.mem_cons_self
            · exact List.mem_cons_of_mem _ (List.mem_append_right _ z)), S6.hok, S6.len⟩
      refine gone_ok P6 hN hi hln fun s7 J7 => ?_
      have he7 := (J7.pin (a, oe4) (List.mem_append_right _ List.mem_cons_self)).1
      have J8 : Inv X pins (((σ'.set i (some (.ref a))).set j (some (.ref a))).set i none) H6 s7 := J7.pins_of fun p hp => J7.pin p (List.mem_append_right _ (List.mem_cons_of_mem _ hp))
      exact ⟨_, _, J8.track (o := exv a cls d) s0a na nL nC nP (exv_ok he7 hz4 hd4), hgo a na⟩
    | ret u =>
      obtain ⟨_, _, _, _, _, z⟩ := hsp
      exact z.elim
    | brk =>
      obtain ⟨_, _, _, z⟩ := hsp
      exact z.elim
    | cont =>
      obtain ⟨_, _, _, z⟩ := hsp
      exact z.elim
end
/-! ### isinstance and fields of such a value -/
def rIsX (K : PySem.W.Frag) : List V → Hp → VK → Prop := fun xs H Q => ∃ (a D : Addr) (d : Option Addr) (dx : Option HO) (c : V) (cv : Value) (b : Bool), xs = [.ref a, c] ∧ H a = some (exv a (.ref D) d) ∧ (∀ e, d = some e → ∃ fs, H e = some (.xd fs)) ∧ ExcC K D ∧ ClsV c cv ∧ PySem.W.kitOne K (.ref D) cv = some b ∧ Q (.bl b) H
theorem inst_exv {X : Cx} {pins : List (Addr × Obj)} {σ : St} {H : Hp} {s : Shared} {a D : Addr} {d : Option Addr} (I : Inv X pins σ H s) (h : H a = some (exv a (.ref D) d)) (hd : ∀ e, d = some e → ∃ fs, H e = some (.xd fs)) : ∃ oe od, PySem.W.InstAt s.heap a oe D od := by
  obtain ⟨oe, vs, e, z, hv⟩ := exv_at I.hok h
  have nc : PySem.W.notCls oe = true := by
    unfold PySem.W.notCls
    rw [hv] <;> rfl
  cases d with
  | none => exact ⟨oe, none, e, z.1, nc, by rw [z.2]; trivial⟩
  | some dd =>
    obtain ⟨fs, hf⟩ := hd dd rfl
    have hx : ObjOk X.prog X.w H s.heap dd (.xd fs) := I.hok dd _ hf
    obtain ⟨mA, ⟨od, _, _, ho, _⟩, _⟩ := hx
    exact ⟨oe, some od, e, z.1, nc, by rw [z.2]; exact ho⟩
theorem call_isX {X : Cx} : CallR X (.builtin "isinstance") (rIsX X.K) := by
  intro pins s σ H xs us Q I r h
  obtain ⟨a, D, d, _, c, cv, b, rfl, ha, hd, C, hcv, e, q⟩ := h
  obtain ⟨u1, u2, rfl, r1, r2⟩ := vals2 r
  have e2 := hcv.eq r2
  subst e2
  cases (show u1 = Value.ref a from r1)
  obtain ⟨oe, od, J⟩ := inst_exv I ha hd
  have hcl : (PySem.W.clsIn X.K D).isSome = true := by
    obtain ⟨cd, hc, _⟩ := PySem.W.any_some C.hd
    rw [hc]
    rfl
  exact PySem.W.kia_one (PySem.W.kitx_exc (od := od) (ox := oe) hcl C.hg C.hk C.hs C.ha C.hn C.ht C.hm) I.kIn J e (fun z => nomatch z) fun tk => ⟨.bl b, H, I.tok tk, rfl, q⟩
/-- x.f, x such a value -/
def tXv (K : PySem.W.Frag) (f : Str) (te : TE) : TE := fun σ H Q => te σ H fun x H1 => ∃ (a D dd : Addr) (fs : List (Str × V)) (v : V), x = .ref a ∧ H1 a = some (exv a (.ref D) (some dd)) ∧ H1 dd = some (.xd fs) ∧ XfC K D ∧ PySem.W.findIn K (.ref D) f = some none ∧ fs.lookup f = some v ∧ Q v H1
theorem pe_xv {X : Cx} {e : Expr} {te : TE} {pos : Pos} {n : Str} (he : PE X e te) (hb : attributeBase e n X.env (eval e X.env) = eval e X.env := by rfl) : PE X (.Attribute e n pos) (tXv X.K n te) := by
  refine ⟨fun pins s σ H Q I h => attr_of hb (thn (he.run pins s σ H _ I h) fun u s1 hh => ?_)⟩
  obtain ⟨x, H1, I1, rx, a, D, dd, fs, v, rfl, ea, ed, T, hno, l, q⟩ := hh
  cases (show u = Value.ref a from rx)
  obtain ⟨oe, vs, ha, hz, hv⟩ := exv_at I1.hok ea
  obtain ⟨mA, hns, hr⟩ := (show ObjOk X.prog X.w H1 s1.heap dd (.xd fs) from I1.hok dd _ ed)
  obtain ⟨od, ho, hl⟩ := lookIn_ns hns
  obtain ⟨u, hu, ru⟩ := RelO.some_of (v := v) (o := mA n) (by rw [← l]; exact hr n)
  have J : PySem.W.InstAt s1.heap a oe D (some od) := ⟨ha, hz.1, by unfold PySem.W.notCls; rw [hv] <;> rfl, by rw [hz.2]; exact ho⟩
  exact HandSPX.exc_get I1.kIn J T.ga T.gg T.exC (PySem.W.findObj_own T.hdC hno rfl (by rw [hl, hu])) (handed_of ru) ⟨v, H1, I1.tok _, ru, q⟩
end L2
namespace PySem
namespace SupK
open PySem.W PySem.Calls PyProof.Rows PySem.HandSPX
/-! ### an own exception class called with keywords -/
section
variable {prog : Program} {w : World} {A : Around} {E : Value → Shared → Prop} {R : Result → Shared → Prop} {h : Heap} {g : Array GenState} {d : Drawn} {t : Nat} {os : OsState} {kws : List (Str × Value)}
variable {nm q : Str} {C N : Addr} {bs bm bmB : List Value} {hdct : Bool} {sn : List Str} {sub : List Value} {ab : Bool} {col : Option Bool} {dd : Option Addr} {k0 k1 k2 k3 k5 : Option Value} {B newId initId : String}
theorem chk_kw (F : ExcBaseFacts B newId initId bmB) (hT : ∀ X : String, bm.contains (.type X) = bmB.contains (.type X)) {us : List Value} {Q : Unit → Shared → Prop} {M : Model}
    (lC : h.get? C = some (excClassObj nm q C N bs bm hdct sn sub ab col dd k0 k1 k2 k3 k5 newId)) (done : Q () ⟨h, g, d, t, os⟩) : wpAny M A (checkBuiltinCall newId ⟨.ref C :: us, kws⟩) Q E ⟨h, g, d, t, os⟩ := by
  have isB : (Value.ref C :: bm).contains (.type B) = true := by
    rw [List.contains_cons, hT, F.hasB, Bool.or_true]
  have ns := F.noStar
  simp only [checkBuiltinCall, F.newKind, F.newSplit, F.newRow]
  repeat (first
    | refine wpAny_loadPart_at lC ?_
    | (refine wpAny_isSubtype_exc lC ?_; rw [isB])
    | refine wpAny_staticBase_exc lC ?_
    | refine wpAny_madeBy_exc lC ?_
    | simp only [bne_self_eq_false, Bool.false_eq_true, if_false]
    | wp_step)
  exact done
theorem new_kw (F : ExcBaseFacts B newId initId bmB) (hT : ∀ X : String, bm.contains (.type X) = bmB.contains (.type X)) {us : List Value}
    (lC : h.get? C = some (excClassObj nm q C N bs bm hdct sn sub ab col dd k0 k1 k2 k3 k5 newId)) (few : us.length ≤ sizeLine)
    (done : R (.ok (.ret (.ref (h.objs.size + 1)))) ⟨(h.push (kdv_tup us)).push (excO C h.objs.size), g, d, t, os⟩) :
    codeAny (model prog w) A (.builtin newId ⟨.ref C :: us, kws⟩) R ⟨h, g, d, t, os⟩ := by
  have ends := F.ends
  have isB : (Value.ref C :: bm).contains (.type B) = true := by
    rw [List.contains_cons, hT, F.hasB, Bool.or_true]
  have noA : (Value.ref C :: bm).contains (.type "AttributeError") = false := by
    rw [List.contains_cons, hT, F.noAttr]
    rfl
  have noN : (Value.ref C :: bm).contains (.type "NameError") = false := by
    rw [List.contains_cons, hT, F.noName]
    rfl
  refine codeAny_builtinAt F.entry ?_
  unfold Builtin.«BaseException.__new__»
  refine wpAt_bind ?_
  show wpAt _ _ _ (stack >>= _) _ _ _
  refine wpAt_bind (wpAt_stack fun p below => wpAt_of_wpAny ?_)
  wp_walk
  refine wpAt_of_wpAny ?_
  rw [F.owner]
  repeat (first
    | with_reducible refine wpAny_madeHere_exc F.canon lC ?_
    | with_reducible refine wpAny_loadPart_at lC ?_
    | (with_reducible refine wpAny_isSubtype_exc lC ?_; first | rw [isB] | rw [noA] | rw [noN])
    | wp_step)
  show R _ _
  rw [Heap.size_push]
  exact done
theorem call_kw (F : ExcBaseFacts B newId initId bmB) (hT : ∀ X : String, bm.contains (.type X) = bmB.contains (.type X)) {us : List Value} {fI : Addr}
    (lC : h.get? C = some (excClassObj nm q C N bs bm hdct sn sub ab col dd k0 k1 k2 k3 k5 newId))
    (hi : W.Looks (model prog w) h (typeLookup (.ref C) "__init__") (some (.ref fI))) (hb : ∀ self, W.Looks (model prog w) h (bindSpecial (.ref fI) self) (.ref fI, [self])) (few : us.length ≤ sizeLine)
    (done : codeAny (model prog w) (A.under (.builtin "type.__call__" ⟨.ref C :: us, kws⟩)) (.call (.ref fI) ⟨.ref (h.objs.size + 1) :: us, kws⟩) (W.InitBack (h.objs.size + 1) R)
      ⟨(h.push (kdv_tup us)).push (excO C h.objs.size), g, d, t, os⟩) :
    codeAny (model prog w) A (.call (.ref C) ⟨us, kws⟩) R ⟨h, g, d, t, os⟩ := by
  have f1 := tc_lookup
  have f2 := tc_bind (.ref C)
  have ty : (⟨h, g, d, t, os⟩ : Shared).TypeIs (.ref C) "type" := ⟨_, lC, rfl⟩
  refine codeAny_of_tree ?_
  show wpAny _ _ (callAny (.ref C) _) _ _ _
  repeat (any_goals (first
    | assumption
    | with_reducible refine wpAny_loadPart_at lC ?_
    | wp_step))
  refine ⟨rfl, ?_⟩
  have mid : ∀ {A : Around} {E : Value → Shared → Prop} {Q : Fin → Shared → Prop}, codeAny (model prog w) A (.call (.ref fI) ⟨.ref (h.objs.size + 1) :: us, kws⟩)
      (fun r s' => match r with | .ok (.ret v) => v = .none ∧ Q (.done (.ret (.ref (h.objs.size + 1)))) s' | .ok _ => False | .error e => E e s') ⟨(h.push (kdv_tup us)).push (excO C h.objs.size), g, d, t, os⟩ →
      wpAny (model prog w) A (Builtin.«type.__call__» ⟨.ref C :: us, kws⟩) Q E ⟨h, g, d, t, os⟩ := by
    intro A E Q go
    repeat (first
      | with_reducible refine wpAny_loadPart_at lC ?_
      | with_reducible refine wpAny_madeBy_exc lC ?_
      | wp_step)
    refine codeAny_call_builtin_code (Code.quiet_builtin _ F.quiet) (chk_kw F hT lC ?_)
    refine new_kw F hT lC few ?_
    show wpAny _ _ _ _ _ _
    have kp : ∀ b o, h.get? b = some o → ((h.push (kdv_tup us)).push (excO C h.objs.size)).get? b = some o := fun b o e => Heap.get?_push_of_some _ (Heap.get?_push_of_some _ e)
    have lC1 := kp _ _ lC
    have at1 : ((h.push (kdv_tup us)).push (excO C h.objs.size)).get? (h.objs.size + 1) = some (excO C h.objs.size) := by heap_get
    have own : (Value.ref C :: bm).contains (.ref C) = true := by simp
    have i1 := hi.keeps kp
    have b1 := (hb (.ref (h.objs.size + 1))).keeps kp
    unfold isInstance
    repeat (first
      | with_reducible refine wpAny_loadPart_at at1 ?_
      | (with_reducible refine wpAny_isSubtype_exc lC1 ?_; rw [own])
      | wp_step)
    show wpAny _ _ (typeLookup (.ref C) _) _ _ _
    refine i1.at ?_
    refine wpAny_holding (wpAny_bind (b1.at ?_))
    refine wpAny_bind (wpAny_call (codeAny_mono go fun r s' z => ?_))
    rcases r with e | (v | _ | _ | _) <;> first | exact z | exact z.elim | skip
    obtain ⟨rfl, z⟩ := z
    first
      | exact wpAny_pure (wpAny_pure z)
      | (wp_walk; exact z)
  have ent := entry_typeCall
  refine codeAny_call_builtin_at (Code.quiet_builtin _ (by decide +kernel)) ent ?_
  refine wpAny_check_type_call_sub lC (mid ?_)
  refine codeAny_mono done fun r s' z => ?_
  rcases r with e | (v | _ | _ | _) <;> exact z
end
end SupK
end PySem
namespace PySem
namespace SupK
open PySem.W PySem.Calls PyProof.Rows PySem.HandSPX
/-- what a call of an own exception class leaves: the exception at e, its dict at d with the fields fs -/
structure MadeF (h h' : Heap) (e C d : Addr) (fs : List (Str × Value)) : Prop where
  keep : ∀ b o, h.get? b = some o → h'.get? b = some o
  new : h.objs.size ≤ e
  obj : ∃ t1 : Addr, h'.get? e = some { cls := .ref C, dict := some d, data := .fields #[.ref t1, .none, .none, .none, .bool false, .none] }
  dbig : h.objs.size ≤ d
  dne : d ≠ e
  ns : ∃ mA, h'.Ns1 d mA ∧ ∀ y, mA y = fs.lookup y
def Makes (P : Program) (K : Frag) (mg : Str → Option Value) (C : Addr) (us : List Value) (kws fs : List (Str × Value)) : Prop :=
  ∀ (w : World) (A : Around) (R : Result → Shared → Prop) (s : Shared), K.In s.heap → s.heap.NoLimit → s.heap.Ns mainGlobals mg → (∃ mb, s.heap.Ns builtinsNs mb ∧ ∀ x : Str, x ≠ "__name__" → mb x = bootBuiltins x) → A.depth + 1 < recursionLimit →
    (∀ h' tk e d, MadeF s.heap h' e C d fs → R (.ok (.ret (.ref e))) { s with heap := h', toks := tk }) → codeAny (model P w) A (.call (.ref C) ⟨us, kws⟩) R s
end SupK
end PySem
namespace L2
open PySem PySem.Spec PyProof.Rows PySem.SupK
section
variable {X : Cx} {k n : Nat} {C : Addr} {x : Str} {p pos : Pos} {e : Expr} {es : List Expr} {kws : List Keyword} {t tk : TA} {ks : List Str}
/-- the new exception, as a value -/
abbrev mkH (H : Hp) (C e d : Addr) (fV : List (Str × V)) : Hp := upd (upd H d (.xd fV)) e (exv e (.ref C) (some d))
theorem made_run {pins : List (Addr × Obj)} {σ : St} {H : Hp} {s : Shared} {us : List Value} {kv fs : List (Str × Value)} {fV : List (Str × V)} {Q : VK} (M : Makes X.prog X.K X.mg C us kv fs) (I : Inv X pins σ H s) (hr : Room k X.A) (rel : ∀ f, RelO (fV.lookup f) (fs.lookup f))
    (q : ∀ e d, H e = none → H d = none → d ≠ e → Q (.ref e) (mkH H C e d fV)) : wpAny (model X.prog X.w) X.A (call (.ref C) us kv) (EP X pins σ Q) X.xe s := by
  have hlim := I.nolimit
  have hgl := I.mod.glob.keeps I.bk
  obtain ⟨mb, hb1, hb2⟩ := I.mod.blt
  have hbl := hb1.keeps I.bk
  obtain ⟨hp, g, dr, tk, os⟩ := s
  refine wpAny_call (M _ _ _ _ I.kIn hlim hgl ⟨mb, hbl, hb2⟩ (by have := hr.dp; omega) fun h' tk' e d M => ?_)
  show EP X pins σ Q (.ref e) ⟨h', g, dr, tk', os⟩
  obtain ⟨t1, hoe⟩ := M.obj
  obtain ⟨mA, hns, hm⟩ := M.ns
  obtain ⟨G, g1, g2⟩ := restrict h' fun b => decide (b ≠ e)
  have gk : ∀ b, b ≠ e → G.get? b = h'.get? b := fun b hb => g1 b (decide_eq_true hb)
  have ge : G.get? e = none := g2 e (by simp)
  have old : ∀ b o, hp.get? b = some o → G.get? b = some o := fun b o z => (gk b (Nat.ne_of_lt (Nat.lt_of_lt_of_le (Heap.lt_size z) M.new))).trans (M.keep b o z)
  have ob : ObjOk X.prog X.w (upd H d (.xd fV)) G d (.xd fV) := ⟨mA, hns.at (fun o z => (gk d M.dne).trans z), fun f => by rw [hm f]; exact rel f⟩
  have J1 : Inv X pins σ (upd H d (.xd fV)) ⟨G, g, dr, tk', os⟩ := I.laid (t' := tk') old M.dbig ob
  have ne : upd H d (.xd fV) e = none := by
    rw [upd_ne (Ne.symm M.dne)]
    exact I.hok.fresh M.new
  have back : ∀ b u, G.get? b = some u → h'.get? b = some u := fun b u z => by
    by_cases hb : b = e
    · rw [hb, ge] at z
      cases z
    · exact (gk b hb).symm.trans z
  have J2 : Inv X pins σ (mkH H C e d fV) ⟨h', g, dr, tk', os⟩ := J1.laidN (t' := tk') (o := exv e (.ref C) (some d)) back ge ne (exv_ok hoe ⟨rfl, rfl⟩ rfl)
  exact ⟨.ref e, _, J2, rfl, q e d (I.hok.fresh M.new) (I.hok.fresh M.dbig) M.dne⟩
/-- C(e, ..): by places -/
def tMkV (C : Addr) (n : Nat) (fV : List V → List (Str × V)) (t : TA) : TE := fun σ H Q => t σ H fun vs H1 => vs.length = n ∧ ∀ e d, H1 e = none → H1 d = none → d ≠ e → Q (.ref e) (mkH H1 C e d (fV vs))
theorem pe_mkV {fV : List V → List (Str × V)} {fU : List Value → List (Str × Value)} (M : ∀ us : List Value, us.length = n → Makes X.prog X.K X.mg C us [] (fU us)) (rel : ∀ {vs us}, Vals vs us → vs.length = n → ∀ f, RelO ((fV vs).lookup f) ((fU us).lookup f)) (hr : Room k X.A) (hm : X.mg x = some (.ref C)) (kC : PySem.W.keepIn X.K (.ref C) = true)
    (hg : Gl X x) (ha : PA X (e :: es) t) (hdb : (x == ("__debug__" : Str)) = false := by decide)
    (he : starEach (e :: es) X.env = (false, eval e X.env) :: starEach es X.env := by rfl) (hpl : (backTo pos (starEach es X.env)).any (·.1) = false := by rfl) :
    PE X (.Call (.Name x p) (e :: es) [] pos) (tMkV C n fV t) := by
  refine ⟨fun pins s σ H Q I h => ?_⟩
  refine wpAny_Call_Name_kw (ld_glob I hg hm ?_ hdb)
  refine PySem.W.callWith_K (h₀ := X.base) I.ok.mod.kin kC (thn (ha.run pos pins s σ H _ I h) fun us s1 ⟨vs, H1, I1, r1, l, q⟩ => ?_) he hpl
  exact ⟨I1.kIn, made_run (M us (r1.length.symm.trans l)) I1 hr (rel r1 l) q⟩
/-- C(k = e, ..): by names -/
theorem pe_mkK {fV : List V → List (Str × V)} {fU : List Value → List (Str × Value)} (M : ∀ ws : List Value, ws.length = n → Makes X.prog X.K X.mg C [] (ks.zip ws) (fU ws)) (rel : ∀ {vs us}, Vals vs us → vs.length = n → ∀ f, RelO ((fV vs).lookup f) ((fU us).lookup f)) (hr : Room k X.A) (hm : X.mg x = some (.ref C)) (kC : PySem.W.keepIn X.K (.ref C) = true)
    (hg : Gl X x) (hkw : PK X kws tk)
    (hall : (backToKw pos (keywordEach kws X.env)).all (·.1.isSome) = true := by rfl) (hks : (backToKw pos (keywordEach kws X.env)).filterMap (·.1) = ks := by rfl)
    (hdb : (x == ("__debug__" : Str)) = false := by decide)
    (hpl : ((backTo pos (starEach [] X.env)).any (·.1) || (backToKw pos (keywordEach kws X.env)).any (·.1.isNone)) = false := by rfl) :
    PE X (.Call (.Name x p) [] kws pos) (tMkV C n fV tk) := by
  refine ⟨fun pins s σ H Q I h => ?_⟩
  refine wpAny_Call_Name_kw (ld_glob I hg hm ?_ hdb)
  refine PySem.W.callWith_KW0 (h₀ := X.base) I.ok.mod.kin kC hall ?_ hpl
  refine thn (hkw.run pos pins s σ H _ I h) fun ws s2 ⟨zs, H2, I2, rz, l, q⟩ => ⟨I2.kIn, ?_⟩
  rw [hks]
  exact made_run (M ws (rz.length.symm.trans l)) I2 hr (rel rz l) q
end
end L2
namespace Toy
open PySem
def top (i : Nat) : Stmt := PySem.Challenge.pw_eitherslack_k15_refusals_made.main.body.getD i (.Pass ⟨0, 0, 0, 0⟩)
abbrev RW0 : Program := PySem.Challenge.pw_eitherslack_k15_refusals_made
end Toy
namespace PySem
namespace SupK
theorem look1 (f : Str) (v : Value) (y : Str) : (if y = f then some v else none) = List.lookup y [(f, v)] := by
  by_cases z : y = f
  · subst z
    simp [List.lookup]
  · have e : (y == f) = false := by simpa using z
    simp [List.lookup, e, z]
theorem look2r {f f' : Str} (v v' : Value) (y : Str) : (if y = f then some v else if y = f' then some v' else none) = List.lookup y [(f, v), (f', v')] := by
  by_cases z : y = f
  · subst z
    simp [List.lookup]
  · have e : (y == f) = false := by simpa using z
    rw [if_neg z, look1 f' v' y]
    simp [List.lookup, e]
theorem look2 {f f' : Str} (n : f' ≠ f) (v v' : Value) (y : Str) : (if y = f then some v else if y = f' then some v' else none) = List.lookup y [(f', v'), (f, v)] := by
  rw [← look2r]
  by_cases z : y = f
  · subst z
    rw [if_pos rfl, if_neg (Ne.symm n), if_pos rfl]
  · rw [if_neg z, if_neg z]
end SupK
end PySem
namespace L2
open PySem
/-- the fields by name, of values and of what they stand for -/
theorem rel_zip : ∀ {ks : List Str} {vs : List V} {us : List Value}, Vals vs us → ∀ f, RelO ((ks.zip vs).lookup f) ((ks.zip us).lookup f)
  | [], _, _, _, _ => trivial
  | _ :: _, _, _, .nil, _ => trivial
  | k :: ks, _, _, .cons h t, f => by
    rw [List.zip_cons_cons, List.zip_cons_cons]
    by_cases z : f = k
    · subst z
      simp only [List.lookup, beq_self_eq_true]
      exact h
    · have e : (f == k) = false := by simpa using z
      simp only [List.lookup, e]
      exact rel_zip t f
end L2

namespace PySem
namespace SupK
open PySem.W PySem.Calls PyProof.Rows PySem.HandSPX L2 SupX
abbrev si_NoNumber : Stmt := inClass (Toy.top 2) 0
structure In_NoNumber (K : Frag) (mg : Str → Option Value) (C fI : Addr) : Prop where
  no_top : findIn K (.ref C) "top" = some none
  iC : findIn K (.ref C) "__init__" = some (some (.ref fI))
  tC : typeIn K (.ref fI) = some (.type "function")
  sup : mg "super" = none
  opq : nsIn K cStatics "thirdparty.any" = some none
  along : ks_superIn K C C "__init__" = some (some (.builtin "ValueError.__init__"))
  mro : mroIn K C (.ref C) = some true
  fn : ∃ (oc : Value) (od : Option Addr) (kV doc pm : Value) (an : Option Addr) (cda cc : Addr) (ct : Value) (osl : Array (Option Value)) (ccl : Value) (cdd : Option Addr) (vs : Array Value) (ccs : Array (Option Value)) (file : Str) (tf : Tok) (cl : Value) (cld : Option Addr) (csl : Array (Option Value)),
    K.lookup fI = some ⟨oc, od, .func (ksFn "__init__" "NoNumber.__init__" (defArgs si_NoNumber) (defBody si_NoNumber) (defScope si_NoNumber) .none kV doc pm an (.ref cda) ct cc), osl⟩ ∧ codeIn K (.ref cda) "NoNumber.__init__" = true ∧
    K.lookup cda = some ⟨ccl, cdd, .fields vs, ccs⟩ ∧ vs[2]? = some (.str file tf) ∧ ((Toy.RW0.main.file : Str) == file) = true ∧ K.lookup cc = some ⟨cl, cld, .cell (some (.ref C)), csl⟩
section
variable {w : World} {A : Around} {E : Value → Shared → Prop} {R : Result → Shared → Prop} {s : Shared} {K : Frag} {mg : Str → Option Value} {C fI : Addr}
theorem init_NoNumber (T : ExTxt K mg C) (J : In_NoNumber K mg C fI) {x t0 : Addr} {v0 : Value} {ar : Args} (har : ar = ⟨[.ref x, v0], []⟩ ∨ ar = ⟨[.ref x], [("top", v0)]⟩) (X : K.In s.heap) (hlim : s.heap.NoLimit) (hgl : s.heap.Ns mainGlobals mg) (hbl : ∃ mb, s.heap.Ns builtinsNs mb ∧ ∀ x : Str, x ≠ "__name__" → mb x = bootBuiltins x) (hx : s.heap.get? x = some (excO C t0)) (hnx : K.lookup x = none) (hroom : A.depth < recursionLimit)
    (hq : ∀ h' tk dx t1, (∀ b o, b ≠ x → s.heap.get? b = some o → h'.get? b = some o) → h'.get? x = some { cls := .ref C, dict := some dx, data := .fields #[.ref t1, .none, .none, .none, .bool false, .none] } → s.heap.objs.size ≤ dx → dx ≠ x → h'.Ns1 dx (fun y : Str => if y = "top" then some v0 else none) → R (.ok (.ret .none)) { s with heap := h', toks := tk }) :
    codeAny (model Toy.RW0 w) A (.call (.ref fI) ar) R s := by
  obtain ⟨oc, od, kV, doc, pm, an, cda, cc, ct, osl, ccl, cdd, vs, ccs, file, tf, cl, cld, csl, hfn, hcd, hcode, hvs, hfile, hcell⟩ := J.fn
  obtain ⟨nm, q, N, bs, bm, sn, sub, ab, col, dd, k0, k1, k2, k3, k5, hC, hbm⟩ := T.cls
  obtain ⟨mb, hb1, hb2⟩ := hbl
  have hcl : clsIn K C = some { name := nm, bases := bs, mro := .ref C :: bm, ns := N, qualname := q, hasDict := true, slotNames := sn, subclasses := sub, abstract := ab, collection := col, hasDel := false } := by unfold clsIn; rw [hC] <;> rfl
  have hxC : x ≠ C := fun z => by
    rw [z, hC] at hnx
    cases hnx
  refine ks_codeAny_call_defAt (binds := [(("self" : Str), .ref x), (("top" : Str), v0)]) hroom (X _ _ hfn) rfl hlim (codeRec_of X hcd) rfl (by rcases har with rfl | rfl <;> exact BindsTo.of_eq (by first | rfl | with_unfolding_all rfl)) (show ∀ y ∈ (defScope si_NoNumber).names, y.2 ≠ NameKind.cell by decide +kernel) (fun y hy => ?_) (fun h₁ hns kp₁ => ?_) rfl rfl rfl
  · simp only [List.mem_cons, List.not_mem_nil, or_false] at hy
    rcases hy with rfl | rfl <;> rfl
  obtain ⟨hp, g, dr, tk0, os⟩ := s
  have X₁ : K.In h₁ := X.keeps kp₁
  have hx₁ := kp₁ _ _ hx
  have hLx : hp.objs.size ≠ x := Nat.ne_of_gt (Heap.lt_size hx)
  refine ks_wpAt_execs_cons (ks_wpAt_Expr_any (ks_wpAt_MethodCall ?_))
  refine ks_wpAt_super_base (env := ksEnv "NoNumber.__init__" (defScope si_NoNumber) hp.objs.size fI (.ref cda) cc) rfl rfl (by decide) rfl (X₁ _ _ hfn) rfl rfl rfl (X₁ _ _ hcode) rfl hvs hfile (by decide +kernel) ?_
  refine ks_loadName_global rfl rfl (loadGlobal_builtin (env := ksEnv "NoNumber.__init__" (defScope si_NoNumber) hp.objs.size fI (.ref cda) cc) (hgl.keeps kp₁) J.sup (hb1.keeps kp₁) ((hb2 _ (by decide +kernel)).trans (by decide +kernel)) ⟨rfl, ?_⟩)
  refine wpAny_loadName_free rfl rfl rfl ⟨_, X₁ _ _ hcell, rfl⟩ ?_
  refine wpAny_loadName_local rfl rfl hns rfl ?_
  refine ks_wpAny_isType_cls (X₁ _ _ hC) rfl ⟨rfl, ?_⟩
  refine ks_wpAny_call_super (X₁ _ _ hC) rfl hx₁ rfl (fun c e => nomatch e) (looks_mroIn X₁ J.mro) (fun h₂ e₂ kp₂ => ?_)
  have X₂ : K.In h₂ := X₁.keeps kp₂
  have hx₂ := kp₂ _ _ hx₁
  have ial : alongIn K "__init__" (((Value.ref C :: bm).dropWhile (· != .ref C)).drop 1) = some (some (.builtin "ValueError.__init__")) := by
    have z := J.along
    unfold ks_superIn at z
    rw [hcl] at z
    exact z
  have I₂ : InstAt h₂ x (excO C t0) C none := ⟨hx₂, rfl, rfl, trivial⟩
  refine kxs_getMethod kxs_ValueError e₂ (looks_opaque X₂ J.opq) (l₀ := .ref C :: bm) ?_ rfl X₂ ial (I₂.type.andThen (looks_subIn X₂ T.veC)) hxC (by decide) ?_
  · exact fun A Q E s k q => wpAny_bind ((looks_clsIn X₂ hcl) A _ E s k (wpAny_pure q))
  have up : ∀ b o, h₂.get? b = some o → (h₂.push (kxs_mw "ValueError.__init__" x)).get? b = some o := fun b o e => Heap.get?_push_of_some _ e
  refine callWith_mw (i := "ValueError.__init__") (x := x) ?_
  show wpAny _ _ (spliced ((false, eval (.Constant (.str _) 0 ⟨0, 0, 0, 0⟩) (ksEnv "NoNumber.__init__" (defScope si_NoNumber) hp.objs.size fI (.ref cda) cc)) :: [])) _ _ _
  refine spliced_cons (Constant_str (spliced_nil ⟨Heap.get?_push_at rfl rfl, ?_⟩))
  have X₃ : K.In (h₂.push (kxs_mw "ValueError.__init__" x)) := X₂.keeps up
  refine call_mw (s := ⟨h₂.push (kxs_mw "ValueError.__init__" x), g, dr, _, os⟩) T X₃ (up _ _ hx₂) (Heap.get?_push_at rfl rfl) (one_size _) fun h₄ t1 kp₄ hx₄ => ?_
  have old : ∀ b o, b ≠ x → h₁.get? b = some o → h₄.get? b = some o := fun b o hb e => kp₄ b o hb (up _ _ (kp₂ _ _ e))
  have X₄ : K.In h₄ := fun a o e => kp₄ a o (fun z => by rw [z, hnx] at e; cases e) (X₃ a o e)
  obtain ⟨oL, es, ep, hL, rL⟩ := hns
  have hns₄ : h₄.Ns hp.objs.size (fun y => ([(("self" : Str), Value.ref x), (("top" : Str), v0)] : List (Str × Value)).reverse.lookup y) := ⟨oL, es, ep, old _ _ hLx hL, rL⟩
  refine ks_wpAt_execs_cons (wpAt_of_wpAny (plainObj_wpAny_Assign_Attribute ?_))
  refine ESX.ldL (v := v0) hns₄ (by first | rfl | with_unfolding_all rfl | kernel_rfl) (ESX.ldL (v := .ref x) hns₄ (by first | rfl | with_unfolding_all rfl | kernel_rfl) ?_)
  refine set_plain X₄ (ox := excO C t1) (od := none) ⟨hx₄, rfl, rfl, trivial⟩ T.sa ?_
  refine exc_osa X₄ hx₄ hcl (show refsVE (.ref C :: bm) = true from hbm) rfl J.no_top (fun h₅ tk₅ dx kp₅ dn dne hx₅ hn₅ => ?_)
  have dbig : hp.objs.size ≤ h₄.objs.size := Nat.le_of_lt hns₄.lt
  exact wpAt_of_wpAny (wpAny_execs_nil (hq h₅ tk₅ dx t1 (fun b o hb e => kp₅ b o hb (old b o hb (kp₁ b o e))) hx₅ (Nat.le_trans dbig dn) dne hn₅))
theorem made_NoNumber (T : ExTxt K mg C) (J : In_NoNumber K mg C fI) {v0 : Value} {us : List Value} {kws fs : List (Str × Value)} (har : (us = [v0] ∧ kws = []) ∨ (us = [] ∧ kws = [(("top" : Str), v0)]))
    (hfs : ∀ y : Str, (fun y : Str => if y = "top" then some v0 else none) y = fs.lookup y) : Makes Toy.RW0 K mg C us kws fs := by
  intro w A R s X hlim hgl hbl hroom hq
  obtain ⟨nm, q, N, bs, bm, sn, sub, ab, col, dd, k0, k1, k2, k3, k5, hC, hbm⟩ := T.cls
  obtain ⟨hp, g, dr, tk, os⟩ := s
  have few : us.length ≤ sizeLine := by
    rcases har with ⟨rfl, _⟩ | ⟨rfl, _⟩
    · rw [sizeLine_eq]
      exact (by decide : 1 ≤ 16777216)
    · exact Nat.zero_le _
  have k : ∀ b o, hp.get? b = some o → ((hp.push (kdv_tup us)).push (excO C hp.objs.size)).get? b = some o := fun b o e => Heap.get?_push_of_some _ (Heap.get?_push_of_some _ e)
  have hget : ((hp.push (kdv_tup us)).push (excO C hp.objs.size)).get? (hp.objs.size + 1) = some (excO C hp.objs.size) := by heap_get
  have hnx : K.lookup (hp.objs.size + 1) = none := by
    cases e : K.lookup (hp.objs.size + 1) with
    | none => rfl
    | some o =>
      have z : hp.get? (hp.objs.size + 1) = some o := X _ _ e
      exact absurd (Nat.lt_of_succ_lt (Heap.lt_size z)) (Nat.lt_irrefl _)
  refine call_kw F.excBase_ValueError (fun X => refsVE_contains X bm hbm) (X _ _ hC) (looks_findIn X J.iC) (fun self => bind_fn X self J.tC) few ?_
  obtain ⟨mb, hb1, hb2⟩ := hbl
  refine init_NoNumber (s := ⟨(hp.push (kdv_tup us)).push (excO C hp.objs.size), g, dr, tk, os⟩) (x := hp.objs.size + 1) (v0 := v0) T J ?_ (X.keeps k) (hlim.keeps k) (hgl.keeps k) ⟨mb, hb1.keeps k, hb2⟩ hget hnx hroom fun h' tk' dx t1 k' hx dn dne hns => ?_
  · rcases har with ⟨rfl, rfl⟩ | ⟨rfl, rfl⟩
    · exact .inl rfl
    · exact .inr rfl
  have old : ∀ b o, hp.get? b = some o → h'.get? b = some o := fun b o e => k' b o (Nat.ne_of_lt (Nat.lt_succ_of_lt (Heap.lt_size e))) (k b o e)
  have z : hp.objs.size + 1 + 1 ≤ dx := by
    first
      | (simpa only [Heap.size_push] using dn)
      | exact dn
      | (have q := dn; rw [Heap.size_push, Heap.size_push] at q; exact q)
  exact ⟨rfl, hq h' tk' (hp.objs.size + 1) dx ⟨old, Nat.le_succ _, ⟨t1, hx⟩, Nat.le_trans (Nat.le_trans (Nat.le_succ _) (Nat.le_succ _)) z, dne, ⟨_, hns, hfs⟩⟩⟩
theorem plc_NoNumber (T : ExTxt K mg C) (J : In_NoNumber K mg C fI) (us : List Value) (hl : us.length = 1) : Makes Toy.RW0 K mg C us [] ((["top"] : List Str).zip us) := by
  match us, hl with
  | [v0], _ => exact made_NoNumber T J (.inl ⟨rfl, rfl⟩) fun y => look1 _ _ y
theorem kws_NoNumber (T : ExTxt K mg C) (J : In_NoNumber K mg C fI) (us : List Value) (hl : us.length = 1) : Makes Toy.RW0 K mg C [] ((["top"] : List Str).zip us) ((["top"] : List Str).zip us) := by
  match us, hl with
  | [v0], _ => exact made_NoNumber T J (.inr ⟨rfl, rfl⟩) fun y => look1 _ _ y
end
end SupK
end PySem

namespace PySem
namespace SupK
open PySem.W PySem.Calls PyProof.Rows PySem.HandSPX L2 SupX
abbrev si_NoTable : Stmt := inClass (Toy.top 3) 0
structure In_NoTable (K : Frag) (mg : Str → Option Value) (C fI : Addr) : Prop where
  no_place : findIn K (.ref C) "place" = some none
  iC : findIn K (.ref C) "__init__" = some (some (.ref fI))
  tC : typeIn K (.ref fI) = some (.type "function")
  sup : mg "super" = none
  opq : nsIn K cStatics "thirdparty.any" = some none
  along : ks_superIn K C C "__init__" = some (some (.builtin "ValueError.__init__"))
  mro : mroIn K C (.ref C) = some true
  fn : ∃ (oc : Value) (od : Option Addr) (kV doc pm : Value) (an : Option Addr) (cda cc : Addr) (ct : Value) (osl : Array (Option Value)) (ccl : Value) (cdd : Option Addr) (vs : Array Value) (ccs : Array (Option Value)) (file : Str) (tf : Tok) (cl : Value) (cld : Option Addr) (csl : Array (Option Value)),
    K.lookup fI = some ⟨oc, od, .func (ksFn "__init__" "NoTable.__init__" (defArgs si_NoTable) (defBody si_NoTable) (defScope si_NoTable) .none kV doc pm an (.ref cda) ct cc), osl⟩ ∧ codeIn K (.ref cda) "NoTable.__init__" = true ∧
    K.lookup cda = some ⟨ccl, cdd, .fields vs, ccs⟩ ∧ vs[2]? = some (.str file tf) ∧ ((Toy.RW0.main.file : Str) == file) = true ∧ K.lookup cc = some ⟨cl, cld, .cell (some (.ref C)), csl⟩
section
variable {w : World} {A : Around} {E : Value → Shared → Prop} {R : Result → Shared → Prop} {s : Shared} {K : Frag} {mg : Str → Option Value} {C fI : Addr}
theorem init_NoTable (T : ExTxt K mg C) (J : In_NoTable K mg C fI) {x t0 : Addr} {v0 : Value} {ar : Args} (har : ar = ⟨[.ref x, v0], []⟩ ∨ ar = ⟨[.ref x], [("place", v0)]⟩) (X : K.In s.heap) (hlim : s.heap.NoLimit) (hgl : s.heap.Ns mainGlobals mg) (hbl : ∃ mb, s.heap.Ns builtinsNs mb ∧ ∀ x : Str, x ≠ "__name__" → mb x = bootBuiltins x) (hx : s.heap.get? x = some (excO C t0)) (hnx : K.lookup x = none) (hroom : A.depth < recursionLimit)
    (hq : ∀ h' tk dx t1, (∀ b o, b ≠ x → s.heap.get? b = some o → h'.get? b = some o) → h'.get? x = some { cls := .ref C, dict := some dx, data := .fields #[.ref t1, .none, .none, .none, .bool false, .none] } → s.heap.objs.size ≤ dx → dx ≠ x → h'.Ns1 dx (fun y : Str => if y = "place" then some v0 else none) → R (.ok (.ret .none)) { s with heap := h', toks := tk }) :
    codeAny (model Toy.RW0 w) A (.call (.ref fI) ar) R s := by
  obtain ⟨oc, od, kV, doc, pm, an, cda, cc, ct, osl, ccl, cdd, vs, ccs, file, tf, cl, cld, csl, hfn, hcd, hcode, hvs, hfile, hcell⟩ := J.fn
  obtain ⟨nm, q, N, bs, bm, sn, sub, ab, col, dd, k0, k1, k2, k3, k5, hC, hbm⟩ := T.cls
  obtain ⟨mb, hb1, hb2⟩ := hbl
  have hcl : clsIn K C = some { name := nm, bases := bs, mro := .ref C :: bm, ns := N, qualname := q, hasDict := true, slotNames := sn, subclasses := sub, abstract := ab, collection := col, hasDel := false } := by unfold clsIn; rw [hC] <;> rfl
  have hxC : x ≠ C := fun z => by
    rw [z, hC] at hnx
    cases hnx
  refine ks_codeAny_call_defAt (binds := [(("self" : Str), .ref x), (("place" : Str), v0)]) hroom (X _ _ hfn) rfl hlim (codeRec_of X hcd) rfl (by rcases har with rfl | rfl <;> exact BindsTo.of_eq (by first | rfl | with_unfolding_all rfl)) (show ∀ y ∈ (defScope si_NoTable).names, y.2 ≠ NameKind.cell by decide +kernel) (fun y hy => ?_) (fun h₁ hns kp₁ => ?_) rfl rfl rfl
  · simp only [List.mem_cons, List.not_mem_nil, or_false] at hy
    rcases hy with rfl | rfl <;> rfl
  obtain ⟨hp, g, dr, tk0, os⟩ := s
  have X₁ : K.In h₁ := X.keeps kp₁
  have hx₁ := kp₁ _ _ hx
  have hLx : hp.objs.size ≠ x := Nat.ne_of_gt (Heap.lt_size hx)
  refine ks_wpAt_execs_cons (ks_wpAt_Expr_any (ks_wpAt_MethodCall ?_))
  refine ks_wpAt_super_base (env := ksEnv "NoTable.__init__" (defScope si_NoTable) hp.objs.size fI (.ref cda) cc) rfl rfl (by decide) rfl (X₁ _ _ hfn) rfl rfl rfl (X₁ _ _ hcode) rfl hvs hfile (by decide +kernel) ?_
  refine ks_loadName_global rfl rfl (loadGlobal_builtin (env := ksEnv "NoTable.__init__" (defScope si_NoTable) hp.objs.size fI (.ref cda) cc) (hgl.keeps kp₁) J.sup (hb1.keeps kp₁) ((hb2 _ (by decide +kernel)).trans (by decide +kernel)) ⟨rfl, ?_⟩)
  refine wpAny_loadName_free rfl rfl rfl ⟨_, X₁ _ _ hcell, rfl⟩ ?_
  refine wpAny_loadName_local rfl rfl hns rfl ?_
  refine ks_wpAny_isType_cls (X₁ _ _ hC) rfl ⟨rfl, ?_⟩
  refine ks_wpAny_call_super (X₁ _ _ hC) rfl hx₁ rfl (fun c e => nomatch e) (looks_mroIn X₁ J.mro) (fun h₂ e₂ kp₂ => ?_)
  have X₂ : K.In h₂ := X₁.keeps kp₂
  have hx₂ := kp₂ _ _ hx₁
  have ial : alongIn K "__init__" (((Value.ref C :: bm).dropWhile (· != .ref C)).drop 1) = some (some (.builtin "ValueError.__init__")) := by
    have z := J.along
    unfold ks_superIn at z
    rw [hcl] at z
    exact z
  have I₂ : InstAt h₂ x (excO C t0) C none := ⟨hx₂, rfl, rfl, trivial⟩
  refine kxs_getMethod kxs_ValueError e₂ (looks_opaque X₂ J.opq) (l₀ := .ref C :: bm) ?_ rfl X₂ ial (I₂.type.andThen (looks_subIn X₂ T.veC)) hxC (by decide) ?_
  · exact fun A Q E s k q => wpAny_bind ((looks_clsIn X₂ hcl) A _ E s k (wpAny_pure q))
  have up : ∀ b o, h₂.get? b = some o → (h₂.push (kxs_mw "ValueError.__init__" x)).get? b = some o := fun b o e => Heap.get?_push_of_some _ e
  refine callWith_mw (i := "ValueError.__init__") (x := x) ?_
  show wpAny _ _ (spliced ((false, eval (.Constant (.str _) 0 ⟨0, 0, 0, 0⟩) (ksEnv "NoTable.__init__" (defScope si_NoTable) hp.objs.size fI (.ref cda) cc)) :: [])) _ _ _
  refine spliced_cons (Constant_str (spliced_nil ⟨Heap.get?_push_at rfl rfl, ?_⟩))
  have X₃ : K.In (h₂.push (kxs_mw "ValueError.__init__" x)) := X₂.keeps up
  refine call_mw (s := ⟨h₂.push (kxs_mw "ValueError.__init__" x), g, dr, _, os⟩) T X₃ (up _ _ hx₂) (Heap.get?_push_at rfl rfl) (one_size _) fun h₄ t1 kp₄ hx₄ => ?_
  have old : ∀ b o, b ≠ x → h₁.get? b = some o → h₄.get? b = some o := fun b o hb e => kp₄ b o hb (up _ _ (kp₂ _ _ e))
  have X₄ : K.In h₄ := fun a o e => kp₄ a o (fun z => by rw [z, hnx] at e; cases e) (X₃ a o e)
  obtain ⟨oL, es, ep, hL, rL⟩ := hns
  have hns₄ : h₄.Ns hp.objs.size (fun y => ([(("self" : Str), Value.ref x), (("place" : Str), v0)] : List (Str × Value)).reverse.lookup y) := ⟨oL, es, ep, old _ _ hLx hL, rL⟩
  refine ks_wpAt_execs_cons (wpAt_of_wpAny (plainObj_wpAny_Assign_Attribute ?_))
  refine ESX.ldL (v := v0) hns₄ (by first | rfl | with_unfolding_all rfl | kernel_rfl) (ESX.ldL (v := .ref x) hns₄ (by first | rfl | with_unfolding_all rfl | kernel_rfl) ?_)
  refine set_plain X₄ (ox := excO C t1) (od := none) ⟨hx₄, rfl, rfl, trivial⟩ T.sa ?_
  refine exc_osa X₄ hx₄ hcl (show refsVE (.ref C :: bm) = true from hbm) rfl J.no_place (fun h₅ tk₅ dx kp₅ dn dne hx₅ hn₅ => ?_)
  have dbig : hp.objs.size ≤ h₄.objs.size := Nat.le_of_lt hns₄.lt
  exact wpAt_of_wpAny (wpAny_execs_nil (hq h₅ tk₅ dx t1 (fun b o hb e => kp₅ b o hb (old b o hb (kp₁ b o e))) hx₅ (Nat.le_trans dbig dn) dne hn₅))
theorem made_NoTable (T : ExTxt K mg C) (J : In_NoTable K mg C fI) {v0 : Value} {us : List Value} {kws fs : List (Str × Value)} (har : (us = [v0] ∧ kws = []) ∨ (us = [] ∧ kws = [(("place" : Str), v0)]))
    (hfs : ∀ y : Str, (fun y : Str => if y = "place" then some v0 else none) y = fs.lookup y) : Makes Toy.RW0 K mg C us kws fs := by
  intro w A R s X hlim hgl hbl hroom hq
  obtain ⟨nm, q, N, bs, bm, sn, sub, ab, col, dd, k0, k1, k2, k3, k5, hC, hbm⟩ := T.cls
  obtain ⟨hp, g, dr, tk, os⟩ := s
  have few : us.length ≤ sizeLine := by
    rcases har with ⟨rfl, _⟩ | ⟨rfl, _⟩
    · rw [sizeLine_eq]
      exact (by decide : 1 ≤ 16777216)
    · exact Nat.zero_le _
  have k : ∀ b o, hp.get? b = some o → ((hp.push (kdv_tup us)).push (excO C hp.objs.size)).get? b = some o := fun b o e => Heap.get?_push_of_some _ (Heap.get?_push_of_some _ e)
  have hget : ((hp.push (kdv_tup us)).push (excO C hp.objs.size)).get? (hp.objs.size + 1) = some (excO C hp.objs.size) := by heap_get
  have hnx : K.lookup (hp.objs.size + 1) = none := by
    cases e : K.lookup (hp.objs.size + 1) with
    | none => rfl
    | some o =>
      have z : hp.get? (hp.objs.size + 1) = some o := X _ _ e
      exact absurd (Nat.lt_of_succ_lt (Heap.lt_size z)) (Nat.lt_irrefl _)
  refine call_kw F.excBase_ValueError (fun X => refsVE_contains X bm hbm) (X _ _ hC) (looks_findIn X J.iC) (fun self => bind_fn X self J.tC) few ?_
  obtain ⟨mb, hb1, hb2⟩ := hbl
  refine init_NoTable (s := ⟨(hp.push (kdv_tup us)).push (excO C hp.objs.size), g, dr, tk, os⟩) (x := hp.objs.size + 1) (v0 := v0) T J ?_ (X.keeps k) (hlim.keeps k) (hgl.keeps k) ⟨mb, hb1.keeps k, hb2⟩ hget hnx hroom fun h' tk' dx t1 k' hx dn dne hns => ?_
  · rcases har with ⟨rfl, rfl⟩ | ⟨rfl, rfl⟩
    · exact .inl rfl
    · exact .inr rfl
  have old : ∀ b o, hp.get? b = some o → h'.get? b = some o := fun b o e => k' b o (Nat.ne_of_lt (Nat.lt_succ_of_lt (Heap.lt_size e))) (k b o e)
  have z : hp.objs.size + 1 + 1 ≤ dx := by
    first
      | (simpa only [Heap.size_push] using dn)
      | exact dn
      | (have q := dn; rw [Heap.size_push, Heap.size_push] at q; exact q)
  exact ⟨rfl, hq h' tk' (hp.objs.size + 1) dx ⟨old, Nat.le_succ _, ⟨t1, hx⟩, Nat.le_trans (Nat.le_trans (Nat.le_succ _) (Nat.le_succ _)) z, dne, ⟨_, hns, hfs⟩⟩⟩
theorem plc_NoTable (T : ExTxt K mg C) (J : In_NoTable K mg C fI) (us : List Value) (hl : us.length = 1) : Makes Toy.RW0 K mg C us [] ((["place"] : List Str).zip us) := by
  match us, hl with
  | [v0], _ => exact made_NoTable T J (.inl ⟨rfl, rfl⟩) fun y => look1 _ _ y
theorem kws_NoTable (T : ExTxt K mg C) (J : In_NoTable K mg C fI) (us : List Value) (hl : us.length = 1) : Makes Toy.RW0 K mg C [] ((["place"] : List Str).zip us) ((["place"] : List Str).zip us) := by
  match us, hl with
  | [v0], _ => exact made_NoTable T J (.inr ⟨rfl, rfl⟩) fun y => look1 _ _ y
end
end SupK
end PySem

namespace PySem
namespace SupK
open PySem.W PySem.Calls PyProof.Rows PySem.HandSPX L2 SupX
abbrev si_Flat : Stmt := inClass (Toy.top 6) 0
structure In_Flat (K : Frag) (mg : Str → Option Value) (C fI : Addr) : Prop where
  no_choice : findIn K (.ref C) "choice" = some none
  iC : findIn K (.ref C) "__init__" = some (some (.ref fI))
  tC : typeIn K (.ref fI) = some (.type "function")
  sup : mg "super" = none
  opq : nsIn K cStatics "thirdparty.any" = some none
  along : ks_superIn K C C "__init__" = some (some (.builtin "ValueError.__init__"))
  mro : mroIn K C (.ref C) = some true
  fn : ∃ (oc : Value) (od : Option Addr) (kV doc pm : Value) (an : Option Addr) (cda cc : Addr) (ct : Value) (osl : Array (Option Value)) (ccl : Value) (cdd : Option Addr) (vs : Array Value) (ccs : Array (Option Value)) (file : Str) (tf : Tok) (cl : Value) (cld : Option Addr) (csl : Array (Option Value)),
    K.lookup fI = some ⟨oc, od, .func (ksFn "__init__" "Flat.__init__" (defArgs si_Flat) (defBody si_Flat) (defScope si_Flat) .none kV doc pm an (.ref cda) ct cc), osl⟩ ∧ codeIn K (.ref cda) "Flat.__init__" = true ∧
    K.lookup cda = some ⟨ccl, cdd, .fields vs, ccs⟩ ∧ vs[2]? = some (.str file tf) ∧ ((Toy.RW0.main.file : Str) == file) = true ∧ K.lookup cc = some ⟨cl, cld, .cell (some (.ref C)), csl⟩
section
variable {w : World} {A : Around} {E : Value → Shared → Prop} {R : Result → Shared → Prop} {s : Shared} {K : Frag} {mg : Str → Option Value} {C fI : Addr}
theorem init_Flat (T : ExTxt K mg C) (J : In_Flat K mg C fI) {x t0 : Addr} {v0 : Value} {ar : Args} (har : ar = ⟨[.ref x, v0], []⟩ ∨ ar = ⟨[.ref x], [("choice", v0)]⟩) (X : K.In s.heap) (hlim : s.heap.NoLimit) (hgl : s.heap.Ns mainGlobals mg) (hbl : ∃ mb, s.heap.Ns builtinsNs mb ∧ ∀ x : Str, x ≠ "__name__" → mb x = bootBuiltins x) (hx : s.heap.get? x = some (excO C t0)) (hnx : K.lookup x = none) (hroom : A.depth < recursionLimit)
    (hq : ∀ h' tk dx t1, (∀ b o, b ≠ x → s.heap.get? b = some o → h'.get? b = some o) → h'.get? x = some { cls := .ref C, dict := some dx, data := .fields #[.ref t1, .none, .none, .none, .bool false, .none] } → s.heap.objs.size ≤ dx → dx ≠ x → h'.Ns1 dx (fun y : Str => if y = "choice" then some v0 else none) → R (.ok (.ret .none)) { s with heap := h', toks := tk }) :
    codeAny (model Toy.RW0 w) A (.call (.ref fI) ar) R s := by
  obtain ⟨oc, od, kV, doc, pm, an, cda, cc, ct, osl, ccl, cdd, vs, ccs, file, tf, cl, cld, csl, hfn, hcd, hcode, hvs, hfile, hcell⟩ := J.fn
  obtain ⟨nm, q, N, bs, bm, sn, sub, ab, col, dd, k0, k1, k2, k3, k5, hC, hbm⟩ := T.cls
  obtain ⟨mb, hb1, hb2⟩ := hbl
  have hcl : clsIn K C = some { name := nm, bases := bs, mro := .ref C :: bm, ns := N, qualname := q, hasDict := true, slotNames := sn, subclasses := sub, abstract := ab, collection := col, hasDel := false } := by unfold clsIn; rw [hC] <;> rfl
  have hxC : x ≠ C := fun z => by
    rw [z, hC] at hnx
    cases hnx
  refine ks_codeAny_call_defAt (binds := [(("self" : Str), .ref x), (("choice" : Str), v0)]) hroom (X _ _ hfn) rfl hlim (codeRec_of X hcd) rfl (by rcases har with rfl | rfl <;> exact BindsTo.of_eq (by first | rfl | with_unfolding_all rfl)) (show ∀ y ∈ (defScope si_Flat).names, y.2 ≠ NameKind.cell by decide +kernel) (fun y hy => ?_) (fun h₁ hns kp₁ => ?_) rfl rfl rfl
  · simp only [List.mem_cons, List.not_mem_nil, or_false] at hy
    rcases hy with rfl | rfl <;> rfl
  obtain ⟨hp, g, dr, tk0, os⟩ := s
  have X₁ : K.In h₁ := X.keeps kp₁
  have hx₁ := kp₁ _ _ hx
  have hLx : hp.objs.size ≠ x := Nat.ne_of_gt (Heap.lt_size hx)
  refine ks_wpAt_execs_cons (ks_wpAt_Expr_any (ks_wpAt_MethodCall ?_))
  refine ks_wpAt_super_base (env := ksEnv "Flat.__init__" (defScope si_Flat) hp.objs.size fI (.ref cda) cc) rfl rfl (by decide) rfl (X₁ _ _ hfn) rfl rfl rfl (X₁ _ _ hcode) rfl hvs hfile (by decide +kernel) ?_
  refine ks_loadName_global rfl rfl (loadGlobal_builtin (env := ksEnv "Flat.__init__" (defScope si_Flat) hp.objs.size fI (.ref cda) cc) (hgl.keeps kp₁) J.sup (hb1.keeps kp₁) ((hb2 _ (by decide +kernel)).trans (by decide +kernel)) ⟨rfl, ?_⟩)
  refine wpAny_loadName_free rfl rfl rfl ⟨_, X₁ _ _ hcell, rfl⟩ ?_
  refine wpAny_loadName_local rfl rfl hns rfl ?_
  refine ks_wpAny_isType_cls (X₁ _ _ hC) rfl ⟨rfl, ?_⟩
  refine ks_wpAny_call_super (X₁ _ _ hC) rfl hx₁ rfl (fun c e => nomatch e) (looks_mroIn X₁ J.mro) (fun h₂ e₂ kp₂ => ?_)
  have X₂ : K.In h₂ := X₁.keeps kp₂
  have hx₂ := kp₂ _ _ hx₁
  have ial : alongIn K "__init__" (((Value.ref C :: bm).dropWhile (· != .ref C)).drop 1) = some (some (.builtin "ValueError.__init__")) := by
    have z := J.along
    unfold ks_superIn at z
    rw [hcl] at z
    exact z
  have I₂ : InstAt h₂ x (excO C t0) C none := ⟨hx₂, rfl, rfl, trivial⟩
  refine kxs_getMethod kxs_ValueError e₂ (looks_opaque X₂ J.opq) (l₀ := .ref C :: bm) ?_ rfl X₂ ial (I₂.type.andThen (looks_subIn X₂ T.veC)) hxC (by decide) ?_
  · exact fun A Q E s k q => wpAny_bind ((looks_clsIn X₂ hcl) A _ E s k (wpAny_pure q))
  have up : ∀ b o, h₂.get? b = some o → (h₂.push (kxs_mw "ValueError.__init__" x)).get? b = some o := fun b o e => Heap.get?_push_of_some _ e
  refine callWith_mw (i := "ValueError.__init__") (x := x) ?_
  show wpAny _ _ (spliced ((false, eval (.Constant (.str _) 0 ⟨0, 0, 0, 0⟩) (ksEnv "Flat.__init__" (defScope si_Flat) hp.objs.size fI (.ref cda) cc)) :: [])) _ _ _
  refine spliced_cons (Constant_str (spliced_nil ⟨Heap.get?_push_at rfl rfl, ?_⟩))
  have X₃ : K.In (h₂.push (kxs_mw "ValueError.__init__" x)) := X₂.keeps up
  refine call_mw (s := ⟨h₂.push (kxs_mw "ValueError.__init__" x), g, dr, _, os⟩) T X₃ (up _ _ hx₂) (Heap.get?_push_at rfl rfl) (one_size _) fun h₄ t1 kp₄ hx₄ => ?_
  have old : ∀ b o, b ≠ x → h₁.get? b = some o → h₄.get? b = some o := fun b o hb e => kp₄ b o hb (up _ _ (kp₂ _ _ e))
  have X₄ : K.In h₄ := fun a o e => kp₄ a o (fun z => by rw [z, hnx] at e; cases e) (X₃ a o e)
  obtain ⟨oL, es, ep, hL, rL⟩ := hns
  have hns₄ : h₄.Ns hp.objs.size (fun y => ([(("self" : Str), Value.ref x), (("choice" : Str), v0)] : List (Str × Value)).reverse.lookup y) := ⟨oL, es, ep, old _ _ hLx hL, rL⟩
  refine ks_wpAt_execs_cons (wpAt_of_wpAny (plainObj_wpAny_Assign_Attribute ?_))
  refine ESX.ldL (v := v0) hns₄ (by first | rfl | with_unfolding_all rfl | kernel_rfl) (ESX.ldL (v := .ref x) hns₄ (by first | rfl | with_unfolding_all rfl | kernel_rfl) ?_)
  refine set_plain X₄ (ox := excO C t1) (od := none) ⟨hx₄, rfl, rfl, trivial⟩ T.sa ?_
  refine exc_osa X₄ hx₄ hcl (show refsVE (.ref C :: bm) = true from hbm) rfl J.no_choice (fun h₅ tk₅ dx kp₅ dn dne hx₅ hn₅ => ?_)
  have dbig : hp.objs.size ≤ h₄.objs.size := Nat.le_of_lt hns₄.lt
  exact wpAt_of_wpAny (wpAny_execs_nil (hq h₅ tk₅ dx t1 (fun b o hb e => kp₅ b o hb (old b o hb (kp₁ b o e))) hx₅ (Nat.le_trans dbig dn) dne hn₅))
theorem made_Flat (T : ExTxt K mg C) (J : In_Flat K mg C fI) {v0 : Value} {us : List Value} {kws fs : List (Str × Value)} (har : (us = [v0] ∧ kws = []) ∨ (us = [] ∧ kws = [(("choice" : Str), v0)]))
    (hfs : ∀ y : Str, (fun y : Str => if y = "choice" then some v0 else none) y = fs.lookup y) : Makes Toy.RW0 K mg C us kws fs := by
  intro w A R s X hlim hgl hbl hroom hq
  obtain ⟨nm, q, N, bs, bm, sn, sub, ab, col, dd, k0, k1, k2, k3, k5, hC, hbm⟩ := T.cls
  obtain ⟨hp, g, dr, tk, os⟩ := s
  have few : us.length ≤ sizeLine := by
    rcases har with ⟨rfl, _⟩ | ⟨rfl, _⟩
    · rw [sizeLine_eq]
      exact (by decide : 1 ≤ 16777216)
    · exact Nat.zero_le _
  have k : ∀ b o, hp.get? b = some o → ((hp.push (kdv_tup us)).push (excO C hp.objs.size)).get? b = some o := fun b o e => Heap.get?_push_of_some _ (Heap.get?_push_of_some _ e)
  have hget : ((hp.push (kdv_tup us)).push (excO C hp.objs.size)).get? (hp.objs.size + 1) = some (excO C hp.objs.size) := by heap_get
  have hnx : K.lookup (hp.objs.size + 1) = none := by
    cases e : K.lookup (hp.objs.size + 1) with
    | none => rfl
    | some o =>
      have z : hp.get? (hp.objs.size + 1) = some o := X _ _ e
      exact absurd (Nat.lt_of_succ_lt (Heap.lt_size z)) (Nat.lt_irrefl _)
  refine call_kw F.excBase_ValueError (fun X => refsVE_contains X bm hbm) (X _ _ hC) (looks_findIn X J.iC) (fun self => bind_fn X self J.tC) few ?_
  obtain ⟨mb, hb1, hb2⟩ := hbl
  refine init_Flat (s := ⟨(hp.push (kdv_tup us)).push (excO C hp.objs.size), g, dr, tk, os⟩) (x := hp.objs.size + 1) (v0 := v0) T J ?_ (X.keeps k) (hlim.keeps k) (hgl.keeps k) ⟨mb, hb1.keeps k, hb2⟩ hget hnx hroom fun h' tk' dx t1 k' hx dn dne hns => ?_
  · rcases har with ⟨rfl, rfl⟩ | ⟨rfl, rfl⟩
    · exact .inl rfl
    · exact .inr rfl
  have old : ∀ b o, hp.get? b = some o → h'.get? b = some o := fun b o e => k' b o (Nat.ne_of_lt (Nat.lt_succ_of_lt (Heap.lt_size e))) (k b o e)
  have z : hp.objs.size + 1 + 1 ≤ dx := by
    first
      | (simpa only [Heap.size_push] using dn)
      | exact dn
      | (have q := dn; rw [Heap.size_push, Heap.size_push] at q; exact q)
  exact ⟨rfl, hq h' tk' (hp.objs.size + 1) dx ⟨old, Nat.le_succ _, ⟨t1, hx⟩, Nat.le_trans (Nat.le_trans (Nat.le_succ _) (Nat.le_succ _)) z, dne, ⟨_, hns, hfs⟩⟩⟩
theorem plc_Flat (T : ExTxt K mg C) (J : In_Flat K mg C fI) (us : List Value) (hl : us.length = 1) : Makes Toy.RW0 K mg C us [] ((["choice"] : List Str).zip us) := by
  match us, hl with
  | [v0], _ => exact made_Flat T J (.inl ⟨rfl, rfl⟩) fun y => look1 _ _ y
theorem kws_Flat (T : ExTxt K mg C) (J : In_Flat K mg C fI) (us : List Value) (hl : us.length = 1) : Makes Toy.RW0 K mg C [] ((["choice"] : List Str).zip us) ((["choice"] : List Str).zip us) := by
  match us, hl with
  | [v0], _ => exact made_Flat T J (.inr ⟨rfl, rfl⟩) fun y => look1 _ _ y
end
end SupK
end PySem

namespace PySem
namespace SupK
open PySem.W PySem.Calls PyProof.Rows PySem.HandSPX L2 SupX
abbrev si_NotOne : Stmt := inClass (Toy.top 11) 0
structure In_NotOne (K : Frag) (mg : Str → Option Value) (C fI : Addr) : Prop where
  no_choice : findIn K (.ref C) "choice" = some none
  iC : findIn K (.ref C) "__init__" = some (some (.ref fI))
  tC : typeIn K (.ref fI) = some (.type "function")
  sup : mg "super" = none
  opq : nsIn K cStatics "thirdparty.any" = some none
  along : ks_superIn K C C "__init__" = some (some (.builtin "ValueError.__init__"))
  mro : mroIn K C (.ref C) = some true
  fn : ∃ (oc : Value) (od : Option Addr) (kV doc pm : Value) (an : Option Addr) (cda cc : Addr) (ct : Value) (osl : Array (Option Value)) (ccl : Value) (cdd : Option Addr) (vs : Array Value) (ccs : Array (Option Value)) (file : Str) (tf : Tok) (cl : Value) (cld : Option Addr) (csl : Array (Option Value)),
    K.lookup fI = some ⟨oc, od, .func (ksFn "__init__" "NotOne.__init__" (defArgs si_NotOne) (defBody si_NotOne) (defScope si_NotOne) .none kV doc pm an (.ref cda) ct cc), osl⟩ ∧ codeIn K (.ref cda) "NotOne.__init__" = true ∧
    K.lookup cda = some ⟨ccl, cdd, .fields vs, ccs⟩ ∧ vs[2]? = some (.str file tf) ∧ ((Toy.RW0.main.file : Str) == file) = true ∧ K.lookup cc = some ⟨cl, cld, .cell (some (.ref C)), csl⟩
section
variable {w : World} {A : Around} {E : Value → Shared → Prop} {R : Result → Shared → Prop} {s : Shared} {K : Frag} {mg : Str → Option Value} {C fI : Addr}
theorem init_NotOne (T : ExTxt K mg C) (J : In_NotOne K mg C fI) {x t0 : Addr} {v0 : Value} {ar : Args} (har : ar = ⟨[.ref x, v0], []⟩ ∨ ar = ⟨[.ref x], [("choice", v0)]⟩) (X : K.In s.heap) (hlim : s.heap.NoLimit) (hgl : s.heap.Ns mainGlobals mg) (hbl : ∃ mb, s.heap.Ns builtinsNs mb ∧ ∀ x : Str, x ≠ "__name__" → mb x = bootBuiltins x) (hx : s.heap.get? x = some (excO C t0)) (hnx : K.lookup x = none) (hroom : A.depth < recursionLimit)
    (hq : ∀ h' tk dx t1, (∀ b o, b ≠ x → s.heap.get? b = some o → h'.get? b = some o) → h'.get? x = some { cls := .ref C, dict := some dx, data := .fields #[.ref t1, .none, .none, .none, .bool false, .none] } → s.heap.objs.size ≤ dx → dx ≠ x → h'.Ns1 dx (fun y : Str => if y = "choice" then some v0 else none) → R (.ok (.ret .none)) { s with heap := h', toks := tk }) :
    codeAny (model Toy.RW0 w) A (.call (.ref fI) ar) R s := by
  obtain ⟨oc, od, kV, doc, pm, an, cda, cc, ct, osl, ccl, cdd, vs, ccs, file, tf, cl, cld, csl, hfn, hcd, hcode, hvs, hfile, hcell⟩ := J.fn
  obtain ⟨nm, q, N, bs, bm, sn, sub, ab, col, dd, k0, k1, k2, k3, k5, hC, hbm⟩ := T.cls
  obtain ⟨mb, hb1, hb2⟩ := hbl
  have hcl : clsIn K C = some { name := nm, bases := bs, mro := .ref C :: bm, ns := N, qualname := q, hasDict := true, slotNames := sn, subclasses := sub, abstract := ab, collection := col, hasDel := false } := by unfold clsIn; rw [hC] <;> rfl
  have hxC : x ≠ C := fun z => by
    rw [z, hC] at hnx
    cases hnx
  refine ks_codeAny_call_defAt (binds := [(("self" : Str), .ref x), (("choice" : Str), v0)]) hroom (X _ _ hfn) rfl hlim (codeRec_of X hcd) rfl (by rcases har with rfl | rfl <;> exact BindsTo.of_eq (by first | rfl | with_unfolding_all rfl)) (show ∀ y ∈ (defScope si_NotOne).names, y.2 ≠ NameKind.cell by decide +kernel) (fun y hy => ?_) (fun h₁ hns kp₁ => ?_) rfl rfl rfl
  · simp only [List.mem_cons, List.not_mem_nil, or_false] at hy
    rcases hy with rfl | rfl <;> rfl
  obtain ⟨hp, g, dr, tk0, os⟩ := s
  have X₁ : K.In h₁ := X.keeps kp₁
  have hx₁ := kp₁ _ _ hx
  have hLx : hp.objs.size ≠ x := Nat.ne_of_gt (Heap.lt_size hx)
  refine ks_wpAt_execs_cons (ks_wpAt_Expr_any (ks_wpAt_MethodCall ?_))
  refine ks_wpAt_super_base (env := ksEnv "NotOne.__init__" (defScope si_NotOne) hp.objs.size fI (.ref cda) cc) rfl rfl (by decide) rfl (X₁ _ _ hfn) rfl rfl rfl (X₁ _ _ hcode) rfl hvs hfile (by decide +kernel) ?_
  refine ks_loadName_global rfl rfl (loadGlobal_builtin (env := ksEnv "NotOne.__init__" (defScope si_NotOne) hp.objs.size fI (.ref cda) cc) (hgl.keeps kp₁) J.sup (hb1.keeps kp₁) ((hb2 _ (by decide +kernel)).trans (by decide +kernel)) ⟨rfl, ?_⟩)
  refine wpAny_loadName_free rfl rfl rfl ⟨_, X₁ _ _ hcell, rfl⟩ ?_
  refine wpAny_loadName_local rfl rfl hns rfl ?_
  refine ks_wpAny_isType_cls (X₁ _ _ hC) rfl ⟨rfl, ?_⟩
  refine ks_wpAny_call_super (X₁ _ _ hC) rfl hx₁ rfl (fun c e => nomatch e) (looks_mroIn X₁ J.mro) (fun h₂ e₂ kp₂ => ?_)
  have X₂ : K.In h₂ := X₁.keeps kp₂
  have hx₂ := kp₂ _ _ hx₁
  have ial : alongIn K "__init__" (((Value.ref C :: bm).dropWhile (· != .ref C)).drop 1) = some (some (.builtin "ValueError.__init__")) := by
    have z := J.along
    unfold ks_superIn at z
    rw [hcl] at z
    exact z
  have I₂ : InstAt h₂ x (excO C t0) C none := ⟨hx₂, rfl, rfl, trivial⟩
  refine kxs_getMethod kxs_ValueError e₂ (looks_opaque X₂ J.opq) (l₀ := .ref C :: bm) ?_ rfl X₂ ial (I₂.type.andThen (looks_subIn X₂ T.veC)) hxC (by decide) ?_
  · exact fun A Q E s k q => wpAny_bind ((looks_clsIn X₂ hcl) A _ E s k (wpAny_pure q))
  have up : ∀ b o, h₂.get? b = some o → (h₂.push (kxs_mw "ValueError.__init__" x)).get? b = some o := fun b o e => Heap.get?_push_of_some _ e
  refine callWith_mw (i := "ValueError.__init__") (x := x) ?_
  show wpAny _ _ (spliced ((false, eval (.Constant (.str _) 0 ⟨0, 0, 0, 0⟩) (ksEnv "NotOne.__init__" (defScope si_NotOne) hp.objs.size fI (.ref cda) cc)) :: [])) _ _ _
  refine spliced_cons (Constant_str (spliced_nil ⟨Heap.get?_push_at rfl rfl, ?_⟩))
  have X₃ : K.In (h₂.push (kxs_mw "ValueError.__init__" x)) := X₂.keeps up
  refine call_mw (s := ⟨h₂.push (kxs_mw "ValueError.__init__" x), g, dr, _, os⟩) T X₃ (up _ _ hx₂) (Heap.get?_push_at rfl rfl) (one_size _) fun h₄ t1 kp₄ hx₄ => ?_
  have old : ∀ b o, b ≠ x → h₁.get? b = some o → h₄.get? b = some o := fun b o hb e => kp₄ b o hb (up _ _ (kp₂ _ _ e))
  have X₄ : K.In h₄ := fun a o e => kp₄ a o (fun z => by rw [z, hnx] at e; cases e) (X₃ a o e)
  obtain ⟨oL, es, ep, hL, rL⟩ := hns
  have hns₄ : h₄.Ns hp.objs.size (fun y => ([(("self" : Str), Value.ref x), (("choice" : Str), v0)] : List (Str × Value)).reverse.lookup y) := ⟨oL, es, ep, old _ _ hLx hL, rL⟩
  refine ks_wpAt_execs_cons (wpAt_of_wpAny (plainObj_wpAny_Assign_Attribute ?_))
  refine ESX.ldL (v := v0) hns₄ (by first | rfl | with_unfolding_all rfl | kernel_rfl) (ESX.ldL (v := .ref x) hns₄ (by first | rfl | with_unfolding_all rfl | kernel_rfl) ?_)
  refine set_plain X₄ (ox := excO C t1) (od := none) ⟨hx₄, rfl, rfl, trivial⟩ T.sa ?_
  refine exc_osa X₄ hx₄ hcl (show refsVE (.ref C :: bm) = true from hbm) rfl J.no_choice (fun h₅ tk₅ dx kp₅ dn dne hx₅ hn₅ => ?_)
  have dbig : hp.objs.size ≤ h₄.objs.size := Nat.le_of_lt hns₄.lt
  exact wpAt_of_wpAny (wpAny_execs_nil (hq h₅ tk₅ dx t1 (fun b o hb e => kp₅ b o hb (old b o hb (kp₁ b o e))) hx₅ (Nat.le_trans dbig dn) dne hn₅))
theorem made_NotOne (T : ExTxt K mg C) (J : In_NotOne K mg C fI) {v0 : Value} {us : List Value} {kws fs : List (Str × Value)} (har : (us = [v0] ∧ kws = []) ∨ (us = [] ∧ kws = [(("choice" : Str), v0)]))
    (hfs : ∀ y : Str, (fun y : Str => if y = "choice" then some v0 else none) y = fs.lookup y) : Makes Toy.RW0 K mg C us kws fs := by
  intro w A R s X hlim hgl hbl hroom hq
  obtain ⟨nm, q, N, bs, bm, sn, sub, ab, col, dd, k0, k1, k2, k3, k5, hC, hbm⟩ := T.cls
  obtain ⟨hp, g, dr, tk, os⟩ := s
  have few : us.length ≤ sizeLine := by
    rcases har with ⟨rfl, _⟩ | ⟨rfl, _⟩
    · rw [sizeLine_eq]
      exact (by decide : 1 ≤ 16777216)
    · exact Nat.zero_le _
  have k : ∀ b o, hp.get? b = some o → ((hp.push (kdv_tup us)).push (excO C hp.objs.size)).get? b = some o := fun b o e => Heap.get?_push_of_some _ (Heap.get?_push_of_some _ e)
  have hget : ((hp.push (kdv_tup us)).push (excO C hp.objs.size)).get? (hp.objs.size + 1) = some (excO C hp.objs.size) := by heap_get
  have hnx : K.lookup (hp.objs.size + 1) = none := by
    cases e : K.lookup (hp.objs.size + 1) with
    | none => rfl
    | some o =>
      have z : hp.get? (hp.objs.size + 1) = some o := X _ _ e
      exact absurd (Nat.lt_of_succ_lt (Heap.lt_size z)) (Nat.lt_irrefl _)
  refine call_kw F.excBase_ValueError (fun X => refsVE_contains X bm hbm) (X _ _ hC) (looks_findIn X J.iC) (fun self => bind_fn X self J.tC) few ?_
  obtain ⟨mb, hb1, hb2⟩ := hbl
  refine init_NotOne (s := ⟨(hp.push (kdv_tup us)).push (excO C hp.objs.size), g, dr, tk, os⟩) (x := hp.objs.size + 1) (v0 := v0) T J ?_ (X.keeps k) (hlim.keeps k) (hgl.keeps k) ⟨mb, hb1.keeps k, hb2⟩ hget hnx hroom fun h' tk' dx t1 k' hx dn dne hns => ?_
  · rcases har with ⟨rfl, rfl⟩ | ⟨rfl, rfl⟩
    · exact .inl rfl
    · exact .inr rfl
  have old : ∀ b o, hp.get? b = some o → h'.get? b = some o := fun b o e => k' b o (Nat.ne_of_lt (Nat.lt_succ_of_lt (Heap.lt_size e))) (k b o e)
  have z : hp.objs.size + 1 + 1 ≤ dx := by
    first
      | (simpa only [Heap.size_push] using dn)
      | exact dn
      | (have q := dn; rw [Heap.size_push, Heap.size_push] at q; exact q)
  exact ⟨rfl, hq h' tk' (hp.objs.size + 1) dx ⟨old, Nat.le_succ _, ⟨t1, hx⟩, Nat.le_trans (Nat.le_trans (Nat.le_succ _) (Nat.le_succ _)) z, dne, ⟨_, hns, hfs⟩⟩⟩
theorem plc_NotOne (T : ExTxt K mg C) (J : In_NotOne K mg C fI) (us : List Value) (hl : us.length = 1) : Makes Toy.RW0 K mg C us [] ((["choice"] : List Str).zip us) := by
  match us, hl with
  | [v0], _ => exact made_NotOne T J (.inl ⟨rfl, rfl⟩) fun y => look1 _ _ y
theorem kws_NotOne (T : ExTxt K mg C) (J : In_NotOne K mg C fI) (us : List Value) (hl : us.length = 1) : Makes Toy.RW0 K mg C [] ((["choice"] : List Str).zip us) ((["choice"] : List Str).zip us) := by
  match us, hl with
  | [v0], _ => exact made_NotOne T J (.inr ⟨rfl, rfl⟩) fun y => look1 _ _ y
end
end SupK
end PySem

namespace PySem
namespace SupK
open PySem.W PySem.Calls PyProof.Rows PySem.HandSPX L2 SupX
abbrev si_NoName : Stmt := inClass (Toy.top 14) 0
structure In_NoName (K : Frag) (mg : Str → Option Value) (C fI : Addr) : Prop where
  no_name : findIn K (.ref C) "name" = some none
  iC : findIn K (.ref C) "__init__" = some (some (.ref fI))
  tC : typeIn K (.ref fI) = some (.type "function")
  sup : mg "super" = none
  opq : nsIn K cStatics "thirdparty.any" = some none
  along : ks_superIn K C C "__init__" = some (some (.builtin "ValueError.__init__"))
  mro : mroIn K C (.ref C) = some true
  fn : ∃ (oc : Value) (od : Option Addr) (kV doc pm : Value) (an : Option Addr) (cda cc : Addr) (ct : Value) (osl : Array (Option Value)) (ccl : Value) (cdd : Option Addr) (vs : Array Value) (ccs : Array (Option Value)) (file : Str) (tf : Tok) (cl : Value) (cld : Option Addr) (csl : Array (Option Value)),
    K.lookup fI = some ⟨oc, od, .func (ksFn "__init__" "NoName.__init__" (defArgs si_NoName) (defBody si_NoName) (defScope si_NoName) .none kV doc pm an (.ref cda) ct cc), osl⟩ ∧ codeIn K (.ref cda) "NoName.__init__" = true ∧
    K.lookup cda = some ⟨ccl, cdd, .fields vs, ccs⟩ ∧ vs[2]? = some (.str file tf) ∧ ((Toy.RW0.main.file : Str) == file) = true ∧ K.lookup cc = some ⟨cl, cld, .cell (some (.ref C)), csl⟩
section
variable {w : World} {A : Around} {E : Value → Shared → Prop} {R : Result → Shared → Prop} {s : Shared} {K : Frag} {mg : Str → Option Value} {C fI : Addr}
theorem init_NoName (T : ExTxt K mg C) (J : In_NoName K mg C fI) {x t0 : Addr} {v0 : Value} {ar : Args} (har : ar = ⟨[.ref x, v0], []⟩ ∨ ar = ⟨[.ref x], [("name", v0)]⟩) (X : K.In s.heap) (hlim : s.heap.NoLimit) (hgl : s.heap.Ns mainGlobals mg) (hbl : ∃ mb, s.heap.Ns builtinsNs mb ∧ ∀ x : Str, x ≠ "__name__" → mb x = bootBuiltins x) (hx : s.heap.get? x = some (excO C t0)) (hnx : K.lookup x = none) (hroom : A.depth < recursionLimit)
    (hq : ∀ h' tk dx t1, (∀ b o, b ≠ x → s.heap.get? b = some o → h'.get? b = some o) → h'.get? x = some { cls := .ref C, dict := some dx, data := .fields #[.ref t1, .none, .none, .none, .bool false, .none] } → s.heap.objs.size ≤ dx → dx ≠ x → h'.Ns1 dx (fun y : Str => if y = "name" then some v0 else none) → R (.ok (.ret .none)) { s with heap := h', toks := tk }) :
    codeAny (model Toy.RW0 w) A (.call (.ref fI) ar) R s := by
  obtain ⟨oc, od, kV, doc, pm, an, cda, cc, ct, osl, ccl, cdd, vs, ccs, file, tf, cl, cld, csl, hfn, hcd, hcode, hvs, hfile, hcell⟩ := J.fn
  obtain ⟨nm, q, N, bs, bm, sn, sub, ab, col, dd, k0, k1, k2, k3, k5, hC, hbm⟩ := T.cls
  obtain ⟨mb, hb1, hb2⟩ := hbl
  have hcl : clsIn K C = some { name := nm, bases := bs, mro := .ref C :: bm, ns := N, qualname := q, hasDict := true, slotNames := sn, subclasses := sub, abstract := ab, collection := col, hasDel := false } := by unfold clsIn; rw [hC] <;> rfl
  have hxC : x ≠ C := fun z => by
    rw [z, hC] at hnx
    cases hnx
  refine ks_codeAny_call_defAt (binds := [(("self" : Str), .ref x), (("name" : Str), v0)]) hroom (X _ _ hfn) rfl hlim (codeRec_of X hcd) rfl (by rcases har with rfl | rfl <;> exact BindsTo.of_eq (by first | rfl | with_unfolding_all rfl)) (show ∀ y ∈ (defScope si_NoName).names, y.2 ≠ NameKind.cell by decide +kernel) (fun y hy => ?_) (fun h₁ hns kp₁ => ?_) rfl rfl rfl
  · simp only [List.mem_cons, List.not_mem_nil, or_false] at hy
    rcases hy with rfl | rfl <;> rfl
  obtain ⟨hp, g, dr, tk0, os⟩ := s
  have X₁ : K.In h₁ := X.keeps kp₁
  have hx₁ := kp₁ _ _ hx
  have hLx : hp.objs.size ≠ x := Nat.ne_of_gt (Heap.lt_size hx)
  refine ks_wpAt_execs_cons (ks_wpAt_Expr_any (ks_wpAt_MethodCall ?_))
  refine ks_wpAt_super_base (env := ksEnv "NoName.__init__" (defScope si_NoName) hp.objs.size fI (.ref cda) cc) rfl rfl (by decide) rfl (X₁ _ _ hfn) rfl rfl rfl (X₁ _ _ hcode) rfl hvs hfile (by decide +kernel) ?_
  refine ks_loadName_global rfl rfl (loadGlobal_builtin (env := ksEnv "NoName.__init__" (defScope si_NoName) hp.objs.size fI (.ref cda) cc) (hgl.keeps kp₁) J.sup (hb1.keeps kp₁) ((hb2 _ (by decide +kernel)).trans (by decide +kernel)) ⟨rfl, ?_⟩)
  refine wpAny_loadName_free rfl rfl rfl ⟨_, X₁ _ _ hcell, rfl⟩ ?_
  refine wpAny_loadName_local rfl rfl hns rfl ?_
  refine ks_wpAny_isType_cls (X₁ _ _ hC) rfl ⟨rfl, ?_⟩
  refine ks_wpAny_call_super (X₁ _ _ hC) rfl hx₁ rfl (fun c e => nomatch e) (looks_mroIn X₁ J.mro) (fun h₂ e₂ kp₂ => ?_)
  have X₂ : K.In h₂ := X₁.keeps kp₂
  have hx₂ := kp₂ _ _ hx₁
  have ial : alongIn K "__init__" (((Value.ref C :: bm).dropWhile (· != .ref C)).drop 1) = some (some (.builtin "ValueError.__init__")) := by
    have z := J.along
    unfold ks_superIn at z
    rw [hcl] at z
    exact z
  have I₂ : InstAt h₂ x (excO C t0) C none := ⟨hx₂, rfl, rfl, trivial⟩
  refine kxs_getMethod kxs_ValueError e₂ (looks_opaque X₂ J.opq) (l₀ := .ref C :: bm) ?_ rfl X₂ ial (I₂.type.andThen (looks_subIn X₂ T.veC)) hxC (by decide) ?_
  · exact fun A Q E s k q => wpAny_bind ((looks_clsIn X₂ hcl) A _ E s k (wpAny_pure q))
  have up : ∀ b o, h₂.get? b = some o → (h₂.push (kxs_mw "ValueError.__init__" x)).get? b = some o := fun b o e => Heap.get?_push_of_some _ e
  refine callWith_mw (i := "ValueError.__init__") (x := x) ?_
  show wpAny _ _ (spliced ((false, eval (.Constant (.str _) 0 ⟨0, 0, 0, 0⟩) (ksEnv "NoName.__init__" (defScope si_NoName) hp.objs.size fI (.ref cda) cc)) :: [])) _ _ _
  refine spliced_cons (Constant_str (spliced_nil ⟨Heap.get?_push_at rfl rfl, ?_⟩))
  have X₃ : K.In (h₂.push (kxs_mw "ValueError.__init__" x)) := X₂.keeps up
  refine call_mw (s := ⟨h₂.push (kxs_mw "ValueError.__init__" x), g, dr, _, os⟩) T X₃ (up _ _ hx₂) (Heap.get?_push_at rfl rfl) (one_size _) fun h₄ t1 kp₄ hx₄ => ?_
  have old : ∀ b o, b ≠ x → h₁.get? b = some o → h₄.get? b = some o := fun b o hb e => kp₄ b o hb (up _ _ (kp₂ _ _ e))
  have X₄ : K.In h₄ := fun a o e => kp₄ a o (fun z => by rw [z, hnx] at e; cases e) (X₃ a o e)
  obtain ⟨oL, es, ep, hL, rL⟩ := hns
  have hns₄ : h₄.Ns hp.objs.size (fun y => ([(("self" : Str), Value.ref x), (("name" : Str), v0)] : List (Str × Value)).reverse.lookup y) := ⟨oL, es, ep, old _ _ hLx hL, rL⟩
  refine ks_wpAt_execs_cons (wpAt_of_wpAny (plainObj_wpAny_Assign_Attribute ?_))
  refine ESX.ldL (v := v0) hns₄ (by first | rfl | with_unfolding_all rfl | kernel_rfl) (ESX.ldL (v := .ref x) hns₄ (by first | rfl | with_unfolding_all rfl | kernel_rfl) ?_)
  refine set_plain X₄ (ox := excO C t1) (od := none) ⟨hx₄, rfl, rfl, trivial⟩ T.sa ?_
  refine exc_osa X₄ hx₄ hcl (show refsVE (.ref C :: bm) = true from hbm) rfl J.no_name (fun h₅ tk₅ dx kp₅ dn dne hx₅ hn₅ => ?_)
  have dbig : hp.objs.size ≤ h₄.objs.size := Nat.le_of_lt hns₄.lt
  exact wpAt_of_wpAny (wpAny_execs_nil (hq h₅ tk₅ dx t1 (fun b o hb e => kp₅ b o hb (old b o hb (kp₁ b o e))) hx₅ (Nat.le_trans dbig dn) dne hn₅))
theorem made_NoName (T : ExTxt K mg C) (J : In_NoName K mg C fI) {v0 : Value} {us : List Value} {kws fs : List (Str × Value)} (har : (us = [v0] ∧ kws = []) ∨ (us = [] ∧ kws = [(("name" : Str), v0)]))
    (hfs : ∀ y : Str, (fun y : Str => if y = "name" then some v0 else none) y = fs.lookup y) : Makes Toy.RW0 K mg C us kws fs := by
  intro w A R s X hlim hgl hbl hroom hq
  obtain ⟨nm, q, N, bs, bm, sn, sub, ab, col, dd, k0, k1, k2, k3, k5, hC, hbm⟩ := T.cls
  obtain ⟨hp, g, dr, tk, os⟩ := s
  have few : us.length ≤ sizeLine := by
    rcases har with ⟨rfl, _⟩ | ⟨rfl, _⟩
    · rw [sizeLine_eq]
      exact (by decide : 1 ≤ 16777216)
    · exact Nat.zero_le _
  have k : ∀ b o, hp.get? b = some o → ((hp.push (kdv_tup us)).push (excO C hp.objs.size)).get? b = some o := fun b o e => Heap.get?_push_of_some _ (Heap.get?_push_of_some _ e)
  have hget : ((hp.push (kdv_tup us)).push (excO C hp.objs.size)).get? (hp.objs.size + 1) = some (excO C hp.objs.size) := by heap_get
  have hnx : K.lookup (hp.objs.size + 1) = none := by
    cases e : K.lookup (hp.objs.size + 1) with
    | none => rfl
    | some o =>
      have z : hp.get? (hp.objs.size + 1) = some o := X _ _ e
      exact absurd (Nat.lt_of_succ_lt (Heap.lt_size z)) (Nat.lt_irrefl _)
  refine call_kw F.excBase_ValueError (fun X => refsVE_contains X bm hbm) (X _ _ hC) (looks_findIn X J.iC) (fun self => bind_fn X self J.tC) few ?_
  obtain ⟨mb, hb1, hb2⟩ := hbl
  refine init_NoName (s := ⟨(hp.push (kdv_tup us)).push (excO C hp.objs.size), g, dr, tk, os⟩) (x := hp.objs.size + 1) (v0 := v0) T J ?_ (X.keeps k) (hlim.keeps k) (hgl.keeps k) ⟨mb, hb1.keeps k, hb2⟩ hget hnx hroom fun h' tk' dx t1 k' hx dn dne hns => ?_
  · rcases har with ⟨rfl, rfl⟩ | ⟨rfl, rfl⟩
    · exact .inl rfl
    · exact .inr rfl
  have old : ∀ b o, hp.get? b = some o → h'.get? b = some o := fun b o e => k' b o (Nat.ne_of_lt (Nat.lt_succ_of_lt (Heap.lt_size e))) (k b o e)
  have z : hp.objs.size + 1 + 1 ≤ dx := by
    first
      | (simpa only [Heap.size_push] using dn)
      | exact dn
      | (have q := dn; rw [Heap.size_push, Heap.size_push] at q; exact q)
  exact ⟨rfl, hq h' tk' (hp.objs.size + 1) dx ⟨old, Nat.le_succ _, ⟨t1, hx⟩, Nat.le_trans (Nat.le_trans (Nat.le_succ _) (Nat.le_succ _)) z, dne, ⟨_, hns, hfs⟩⟩⟩
theorem plc_NoName (T : ExTxt K mg C) (J : In_NoName K mg C fI) (us : List Value) (hl : us.length = 1) : Makes Toy.RW0 K mg C us [] ((["name"] : List Str).zip us) := by
  match us, hl with
  | [v0], _ => exact made_NoName T J (.inl ⟨rfl, rfl⟩) fun y => look1 _ _ y
theorem kws_NoName (T : ExTxt K mg C) (J : In_NoName K mg C fI) (us : List Value) (hl : us.length = 1) : Makes Toy.RW0 K mg C [] ((["name"] : List Str).zip us) ((["name"] : List Str).zip us) := by
  match us, hl with
  | [v0], _ => exact made_NoName T J (.inr ⟨rfl, rfl⟩) fun y => look1 _ _ y
end
end SupK
end PySem

namespace PySem
namespace SupK
open PySem.W PySem.Calls PyProof.Rows PySem.HandSPX L2 SupX
abbrev si_Lifted : Stmt := inClass (Toy.top 8) 0
structure In_Lifted (K : Frag) (mg : Str → Option Value) (C fI : Addr) : Prop where
  no_row : findIn K (.ref C) "row" = some none
  no_column : findIn K (.ref C) "column" = some none
  iC : findIn K (.ref C) "__init__" = some (some (.ref fI))
  tC : typeIn K (.ref fI) = some (.type "function")
  sup : mg "super" = none
  opq : nsIn K cStatics "thirdparty.any" = some none
  along : ks_superIn K C C "__init__" = some (some (.builtin "ValueError.__init__"))
  mro : mroIn K C (.ref C) = some true
  fn : ∃ (oc : Value) (od : Option Addr) (kV doc pm : Value) (an : Option Addr) (cda cc : Addr) (ct : Value) (osl : Array (Option Value)) (ccl : Value) (cdd : Option Addr) (vs : Array Value) (ccs : Array (Option Value)) (file : Str) (tf : Tok) (cl : Value) (cld : Option Addr) (csl : Array (Option Value)),
    K.lookup fI = some ⟨oc, od, .func (ksFn "__init__" "Lifted.__init__" (defArgs si_Lifted) (defBody si_Lifted) (defScope si_Lifted) .none kV doc pm an (.ref cda) ct cc), osl⟩ ∧ codeIn K (.ref cda) "Lifted.__init__" = true ∧
    K.lookup cda = some ⟨ccl, cdd, .fields vs, ccs⟩ ∧ vs[2]? = some (.str file tf) ∧ ((Toy.RW0.main.file : Str) == file) = true ∧ K.lookup cc = some ⟨cl, cld, .cell (some (.ref C)), csl⟩
section
variable {w : World} {A : Around} {E : Value → Shared → Prop} {R : Result → Shared → Prop} {s : Shared} {K : Frag} {mg : Str → Option Value} {C fI : Addr}
theorem init_Lifted (T : ExTxt K mg C) (J : In_Lifted K mg C fI) {x t0 : Addr} {v0 v1 : Value} {ar : Args} (har : ar = ⟨[.ref x, v0, v1], []⟩ ∨ ar = ⟨[.ref x], [("column", v1), ("row", v0)]⟩) (X : K.In s.heap) (hlim : s.heap.NoLimit) (hgl : s.heap.Ns mainGlobals mg) (hbl : ∃ mb, s.heap.Ns builtinsNs mb ∧ ∀ x : Str, x ≠ "__name__" → mb x = bootBuiltins x) (hx : s.heap.get? x = some (excO C t0)) (hnx : K.lookup x = none) (hroom : A.depth < recursionLimit)
    (hq : ∀ h' tk dx t1, (∀ b o, b ≠ x → s.heap.get? b = some o → h'.get? b = some o) → h'.get? x = some { cls := .ref C, dict := some dx, data := .fields #[.ref t1, .none, .none, .none, .bool false, .none] } → s.heap.objs.size ≤ dx → dx ≠ x → h'.Ns1 dx (fun y : Str => if y = "column" then some v1 else if y = "row" then some v0 else none) → R (.ok (.ret .none)) { s with heap := h', toks := tk }) :
    codeAny (model Toy.RW0 w) A (.call (.ref fI) ar) R s := by
  obtain ⟨oc, od, kV, doc, pm, an, cda, cc, ct, osl, ccl, cdd, vs, ccs, file, tf, cl, cld, csl, hfn, hcd, hcode, hvs, hfile, hcell⟩ := J.fn
  obtain ⟨nm, q, N, bs, bm, sn, sub, ab, col, dd, k0, k1, k2, k3, k5, hC, hbm⟩ := T.cls
  obtain ⟨mb, hb1, hb2⟩ := hbl
  have hcl : clsIn K C = some { name := nm, bases := bs, mro := .ref C :: bm, ns := N, qualname := q, hasDict := true, slotNames := sn, subclasses := sub, abstract := ab, collection := col, hasDel := false } := by unfold clsIn; rw [hC] <;> rfl
  have hxC : x ≠ C := fun z => by
    rw [z, hC] at hnx
    cases hnx
  refine ks_codeAny_call_defAt (binds := [(("self" : Str), .ref x), (("row" : Str), v0), (("column" : Str), v1)]) hroom (X _ _ hfn) rfl hlim (codeRec_of X hcd) rfl (by rcases har with rfl | rfl <;> exact BindsTo.of_eq (by first | rfl | with_unfolding_all rfl)) (show ∀ y ∈ (defScope si_Lifted).names, y.2 ≠ NameKind.cell by decide +kernel) (fun y hy => ?_) (fun h₁ hns kp₁ => ?_) rfl rfl rfl
  · simp only [List.mem_cons, List.not_mem_nil, or_false] at hy
    rcases hy with rfl | rfl | rfl <;> rfl
  obtain ⟨hp, g, dr, tk0, os⟩ := s
  have X₁ : K.In h₁ := X.keeps kp₁
  have hx₁ := kp₁ _ _ hx
  have hLx : hp.objs.size ≠ x := Nat.ne_of_gt (Heap.lt_size hx)
  refine ks_wpAt_execs_cons (ks_wpAt_Expr_any (ks_wpAt_MethodCall ?_))
  refine ks_wpAt_super_base (env := ksEnv "Lifted.__init__" (defScope si_Lifted) hp.objs.size fI (.ref cda) cc) rfl rfl (by decide) rfl (X₁ _ _ hfn) rfl rfl rfl (X₁ _ _ hcode) rfl hvs hfile (by decide +kernel) ?_
  refine ks_loadName_global rfl rfl (loadGlobal_builtin (env := ksEnv "Lifted.__init__" (defScope si_Lifted) hp.objs.size fI (.ref cda) cc) (hgl.keeps kp₁) J.sup (hb1.keeps kp₁) ((hb2 _ (by decide +kernel)).trans (by decide +kernel)) ⟨rfl, ?_⟩)
  refine wpAny_loadName_free rfl rfl rfl ⟨_, X₁ _ _ hcell, rfl⟩ ?_
  refine wpAny_loadName_local rfl rfl hns rfl ?_
  refine ks_wpAny_isType_cls (X₁ _ _ hC) rfl ⟨rfl, ?_⟩
  refine ks_wpAny_call_super (X₁ _ _ hC) rfl hx₁ rfl (fun c e => nomatch e) (looks_mroIn X₁ J.mro) (fun h₂ e₂ kp₂ => ?_)
  have X₂ : K.In h₂ := X₁.keeps kp₂
  have hx₂ := kp₂ _ _ hx₁
  have ial : alongIn K "__init__" (((Value.ref C :: bm).dropWhile (· != .ref C)).drop 1) = some (some (.builtin "ValueError.__init__")) := by
    have z := J.along
    unfold ks_superIn at z
    rw [hcl] at z
    exact z
  have I₂ : InstAt h₂ x (excO C t0) C none := ⟨hx₂, rfl, rfl, trivial⟩
  refine kxs_getMethod kxs_ValueError e₂ (looks_opaque X₂ J.opq) (l₀ := .ref C :: bm) ?_ rfl X₂ ial (I₂.type.andThen (looks_subIn X₂ T.veC)) hxC (by decide) ?_
  · exact fun A Q E s k q => wpAny_bind ((looks_clsIn X₂ hcl) A _ E s k (wpAny_pure q))
  have up : ∀ b o, h₂.get? b = some o → (h₂.push (kxs_mw "ValueError.__init__" x)).get? b = some o := fun b o e => Heap.get?_push_of_some _ e
  refine callWith_mw (i := "ValueError.__init__") (x := x) ?_
  show wpAny _ _ (spliced ((false, eval (.Constant (.str _) 0 ⟨0, 0, 0, 0⟩) (ksEnv "Lifted.__init__" (defScope si_Lifted) hp.objs.size fI (.ref cda) cc)) :: [])) _ _ _
  refine spliced_cons (Constant_str (spliced_nil ⟨Heap.get?_push_at rfl rfl, ?_⟩))
  have X₃ : K.In (h₂.push (kxs_mw "ValueError.__init__" x)) := X₂.keeps up
  refine call_mw (s := ⟨h₂.push (kxs_mw "ValueError.__init__" x), g, dr, _, os⟩) T X₃ (up _ _ hx₂) (Heap.get?_push_at rfl rfl) (one_size _) fun h₄ t1 kp₄ hx₄ => ?_
  have old : ∀ b o, b ≠ x → h₁.get? b = some o → h₄.get? b = some o := fun b o hb e => kp₄ b o hb (up _ _ (kp₂ _ _ e))
  have X₄ : K.In h₄ := fun a o e => kp₄ a o (fun z => by rw [z, hnx] at e; cases e) (X₃ a o e)
  obtain ⟨oL, es, ep, hL, rL⟩ := hns
  have hns₄ : h₄.Ns hp.objs.size (fun y => ([(("self" : Str), Value.ref x), (("row" : Str), v0), (("column" : Str), v1)] : List (Str × Value)).reverse.lookup y) := ⟨oL, es, ep, old _ _ hLx hL, rL⟩
  refine ks_wpAt_execs_cons (wpAt_of_wpAny (plainObj_wpAny_Assign_Attribute ?_))
  refine ESX.ldL (v := v0) hns₄ (by first | rfl | with_unfolding_all rfl | kernel_rfl) (ESX.ldL (v := .ref x) hns₄ (by first | rfl | with_unfolding_all rfl | kernel_rfl) ?_)
  refine set_plain X₄ (ox := excO C t1) (od := none) ⟨hx₄, rfl, rfl, trivial⟩ T.sa ?_
  refine exc_osa X₄ hx₄ hcl (show refsVE (.ref C :: bm) = true from hbm) rfl J.no_row (fun h₅ tk₅ dx kp₅ dn dne hx₅ hn₅ => ?_)
  have dbig : hp.objs.size ≤ h₄.objs.size := Nat.le_of_lt hns₄.lt
  have X₅ : K.In h₅ := fun a o e => kp₅ a o (fun z => by rw [z, hnx] at e; cases e) (X₄ a o e)
  have hns₅ : h₅.Ns hp.objs.size (fun y => ([(("self" : Str), Value.ref x), (("row" : Str), v0), (("column" : Str), v1)] : List (Str × Value)).reverse.lookup y) := ⟨oL, es, ep, kp₅ _ _ hLx (old _ _ hLx hL), rL⟩
  have hw : Within (fun y => if y = "row" then some v0 else none) ["row"] := Within.cons _ _ Within.nil
  obtain ⟨oD, esD, epD, hoD, hdD, _⟩ := hn₅.count hw
  refine ks_wpAt_execs_cons (wpAt_of_wpAny (plainObj_wpAny_Assign_Attribute ?_))
  refine ESX.ldL (v := v1) hns₅ (by first | rfl | with_unfolding_all rfl | kernel_rfl) (ESX.ldL (v := .ref x) hns₅ (by first | rfl | with_unfolding_all rfl | kernel_rfl) ?_)
  refine set_plain X₅ (ox := { cls := .ref C, dict := some dx, data := .fields #[.ref t1, .none, .none, .none, .bool false, .none] }) (od := some oD) ⟨hx₅, rfl, rfl, hoD⟩ T.sa ?_
  refine PySem.OEX.osa_old X₅ hx₅ hn₅ hw (show 1 ≤ 1000 by decide) hcl (show refsVE (.ref C :: bm) = true from hbm) rfl J.no_column (fun h₆ tk₆ kp₆ hn₆ => ?_)
  have far : ∀ b o, hp.get? b = some o → b ≠ dx := fun b o e => Nat.ne_of_lt (Nat.lt_of_lt_of_le (Heap.lt_size e) (Nat.le_trans dbig dn))
  exact wpAt_of_wpAny (wpAny_execs_nil (hq h₆ tk₆ dx t1 (fun b o hb e => kp₆ b o (far b o e) (kp₅ b o hb (old b o hb (kp₁ b o e)))) (kp₆ _ _ (Ne.symm dne) hx₅) (Nat.le_trans dbig dn) dne hn₆))
theorem made_Lifted (T : ExTxt K mg C) (J : In_Lifted K mg C fI) {v0 v1 : Value} {us : List Value} {kws fs : List (Str × Value)} (har : (us = [v0, v1] ∧ kws = []) ∨ (us = [] ∧ kws = [(("column" : Str), v1), (("row" : Str), v0)]))
    (hfs : ∀ y : Str, (fun y : Str => if y = "column" then some v1 else if y = "row" then some v0 else none) y = fs.lookup y) : Makes Toy.RW0 K mg C us kws fs := by
  intro w A R s X hlim hgl hbl hroom hq
  obtain ⟨nm, q, N, bs, bm, sn, sub, ab, col, dd, k0, k1, k2, k3, k5, hC, hbm⟩ := T.cls
  obtain ⟨hp, g, dr, tk, os⟩ := s
  have few : us.length ≤ sizeLine := by
    rcases har with ⟨rfl, _⟩ | ⟨rfl, _⟩
    · rw [sizeLine_eq]
      exact (by decide : 2 ≤ 16777216)
    · exact Nat.zero_le _
  have k : ∀ b o, hp.get? b = some o → ((hp.push (kdv_tup us)).push (excO C hp.objs.size)).get? b = some o := fun b o e => Heap.get?_push_of_some _ (Heap.get?_push_of_some _ e)
  have hget : ((hp.push (kdv_tup us)).push (excO C hp.objs.size)).get? (hp.objs.size + 1) = some (excO C hp.objs.size) := by heap_get
  have hnx : K.lookup (hp.objs.size + 1) = none := by
    cases e : K.lookup (hp.objs.size + 1) with
    | none => rfl
    | some o =>
      have z : hp.get? (hp.objs.size + 1) = some o := X _ _ e
      exact absurd (Nat.lt_of_succ_lt (Heap.lt_size z)) (Nat.lt_irrefl _)
  refine call_kw F.excBase_ValueError (fun X => refsVE_contains X bm hbm) (X _ _ hC) (looks_findIn X J.iC) (fun self => bind_fn X self J.tC) few ?_
  obtain ⟨mb, hb1, hb2⟩ := hbl
  refine init_Lifted (s := ⟨(hp.push (kdv_tup us)).push (excO C hp.objs.size), g, dr, tk, os⟩) (x := hp.objs.size + 1) (v0 := v0) (v1 := v1) T J ?_ (X.keeps k) (hlim.keeps k) (hgl.keeps k) ⟨mb, hb1.keeps k, hb2⟩ hget hnx hroom fun h' tk' dx t1 k' hx dn dne hns => ?_
  · rcases har with ⟨rfl, rfl⟩ | ⟨rfl, rfl⟩
    · exact .inl rfl
    · exact .inr rfl
  have old : ∀ b o, hp.get? b = some o → h'.get? b = some o := fun b o e => k' b o (Nat.ne_of_lt (Nat.lt_succ_of_lt (Heap.lt_size e))) (k b o e)
  have z : hp.objs.size + 1 + 1 ≤ dx := by
    first
      | (simpa only [Heap.size_push] using dn)
      | exact dn
      | (have q := dn; rw [Heap.size_push, Heap.size_push] at q; exact q)
  exact ⟨rfl, hq h' tk' (hp.objs.size + 1) dx ⟨old, Nat.le_succ _, ⟨t1, hx⟩, Nat.le_trans (Nat.le_trans (Nat.le_succ _) (Nat.le_succ _)) z, dne, ⟨_, hns, hfs⟩⟩⟩
theorem plc_Lifted (T : ExTxt K mg C) (J : In_Lifted K mg C fI) (us : List Value) (hl : us.length = 2) : Makes Toy.RW0 K mg C us [] ((["row", "column"] : List Str).zip us) := by
  match us, hl with
  | [v0, v1], _ => exact made_Lifted T J (.inl ⟨rfl, rfl⟩) fun y => look2 (show ("row" : Str) ≠ "column" by decide +kernel) _ _ y
theorem kws_Lifted (T : ExTxt K mg C) (J : In_Lifted K mg C fI) (us : List Value) (hl : us.length = 2) : Makes Toy.RW0 K mg C [] ((["column", "row"] : List Str).zip us) ((["column", "row"] : List Str).zip us) := by
  match us, hl with
  | [v1, v0], _ => exact made_Lifted T J (.inr ⟨rfl, rfl⟩) fun y => look2r _ _ y
end
end SupK
end PySem

namespace PySem
namespace SupK
open PySem.W PySem.Calls PyProof.Rows PySem.HandSPX L2 SupX
abbrev si_Dipped : Stmt := inClass (Toy.top 10) 0
structure In_Dipped (K : Frag) (mg : Str → Option Value) (C fI : Addr) : Prop where
  no_row : findIn K (.ref C) "row" = some none
  iC : findIn K (.ref C) "__init__" = some (some (.ref fI))
  tC : typeIn K (.ref fI) = some (.type "function")
  sup : mg "super" = none
  lst : mg "list" = none
  opq : nsIn K cStatics "thirdparty.any" = some none
  along : ks_superIn K C C "__init__" = some (some (.builtin "ValueError.__init__"))
  mro : mroIn K C (.ref C) = some true
  fn : ∃ (oc : Value) (od : Option Addr) (kV doc pm : Value) (an : Option Addr) (cda cc : Addr) (ct : Value) (osl : Array (Option Value)) (ccl : Value) (cdd : Option Addr) (vs : Array Value) (ccs : Array (Option Value)) (file : Str) (tf : Tok) (cl : Value) (cld : Option Addr) (csl : Array (Option Value)),
    K.lookup fI = some ⟨oc, od, .func (ksFn "__init__" "Dipped.__init__" (defArgs si_Dipped) (defBody si_Dipped) (defScope si_Dipped) .none kV doc pm an (.ref cda) ct cc), osl⟩ ∧ codeIn K (.ref cda) "Dipped.__init__" = true ∧
    K.lookup cda = some ⟨ccl, cdd, .fields vs, ccs⟩ ∧ vs[2]? = some (.str file tf) ∧ ((Toy.RW0.main.file : Str) == file) = true ∧ K.lookup cc = some ⟨cl, cld, .cell (some (.ref C)), csl⟩
section
variable {w : World} {A : Around} {E : Value → Shared → Prop} {R : Result → Shared → Prop} {s : Shared} {K : Frag} {mg : Str → Option Value} {C fI : Addr}
theorem init_Dipped (T : ExTxt K mg C) (J : In_Dipped K mg C fI) {x t0 : Addr} {v0 : Value} {ar : Args} (har : ar = ⟨[.ref x, v0], []⟩ ∨ ar = ⟨[.ref x], [("row", v0)]⟩) (X : K.In s.heap) (hlim : s.heap.NoLimit) (hgl : s.heap.Ns mainGlobals mg) (hbl : ∃ mb, s.heap.Ns builtinsNs mb ∧ ∀ x : Str, x ≠ "__name__" → mb x = bootBuiltins x) {rp : Addr} {o : Obj} {items : Array Value} {n0 : Nat} (hv0 : v0 = .ref rp) (hrow : s.heap.get? rp = some o) (hoc : o.cls = .type "list") (hod : o.data = .seq items n0) (hsz : items.size ≤ sizeLine) (hxg : mainGlobals ≠ x) (hxb : builtinsNs ≠ x) (hxr : rp ≠ x) (hx : s.heap.get? x = some (excO C t0)) (hnx : K.lookup x = none) (hroom : A.depth < recursionLimit)
    (hq : ∀ h' tk dx t1 l c', (∀ b o, b ≠ x → s.heap.get? b = some o → h'.get? b = some o) → h'.get? x = some { cls := .ref C, dict := some dx, data := .fields #[.ref t1, .none, .none, .none, .bool false, .none] } → s.heap.objs.size ≤ dx → dx ≠ x → s.heap.objs.size ≤ l → l ≠ x → l ≠ dx → h'.get? l = some { cls := .type "list", dict := none, data := .seq items c', slots := #[] } → h'.Ns1 dx (fun y : Str => if y = "row" then some (.ref l) else none) → R (.ok (.ret .none)) { s with heap := h', toks := tk }) :
    codeAny (model Toy.RW0 w) A (.call (.ref fI) ar) R s := by
  obtain ⟨oc, od, kV, doc, pm, an, cda, cc, ct, osl, ccl, cdd, vs, ccs, file, tf, cl, cld, csl, hfn, hcd, hcode, hvs, hfile, hcell⟩ := J.fn
  obtain ⟨nm, q, N, bs, bm, sn, sub, ab, col, dd, k0, k1, k2, k3, k5, hC, hbm⟩ := T.cls
  obtain ⟨mb, hb1, hb2⟩ := hbl
  have hcl : clsIn K C = some { name := nm, bases := bs, mro := .ref C :: bm, ns := N, qualname := q, hasDict := true, slotNames := sn, subclasses := sub, abstract := ab, collection := col, hasDel := false } := by unfold clsIn; rw [hC] <;> rfl
  have hxC : x ≠ C := fun z => by
    rw [z, hC] at hnx
    cases hnx
  refine ks_codeAny_call_defAt (binds := [(("self" : Str), .ref x), (("row" : Str), v0)]) hroom (X _ _ hfn) rfl hlim (codeRec_of X hcd) rfl (by rcases har with rfl | rfl <;> exact BindsTo.of_eq (by first | rfl | with_unfolding_all rfl)) (show ∀ y ∈ (defScope si_Dipped).names, y.2 ≠ NameKind.cell by decide +kernel) (fun y hy => ?_) (fun h₁ hns kp₁ => ?_) rfl rfl rfl
  · simp only [List.mem_cons, List.not_mem_nil, or_false] at hy
    rcases hy with rfl | rfl <;> rfl
  obtain ⟨hp, g, dr, tk0, os⟩ := s
  have X₁ : K.In h₁ := X.keeps kp₁
  have hx₁ := kp₁ _ _ hx
  have hLx : hp.objs.size ≠ x := Nat.ne_of_gt (Heap.lt_size hx)
  refine ks_wpAt_execs_cons (ks_wpAt_Expr_any (ks_wpAt_MethodCall ?_))
  refine ks_wpAt_super_base (env := ksEnv "Dipped.__init__" (defScope si_Dipped) hp.objs.size fI (.ref cda) cc) rfl rfl (by decide) rfl (X₁ _ _ hfn) rfl rfl rfl (X₁ _ _ hcode) rfl hvs hfile (by decide +kernel) ?_
  refine ks_loadName_global rfl rfl (loadGlobal_builtin (env := ksEnv "Dipped.__init__" (defScope si_Dipped) hp.objs.size fI (.ref cda) cc) (hgl.keeps kp₁) J.sup (hb1.keeps kp₁) ((hb2 _ (by decide +kernel)).trans (by decide +kernel)) ⟨rfl, ?_⟩)
  refine wpAny_loadName_free rfl rfl rfl ⟨_, X₁ _ _ hcell, rfl⟩ ?_
  refine wpAny_loadName_local rfl rfl hns rfl ?_
  refine ks_wpAny_isType_cls (X₁ _ _ hC) rfl ⟨rfl, ?_⟩
  refine ks_wpAny_call_super (X₁ _ _ hC) rfl hx₁ rfl (fun c e => nomatch e) (looks_mroIn X₁ J.mro) (fun h₂ e₂ kp₂ => ?_)
  have X₂ : K.In h₂ := X₁.keeps kp₂
  have hx₂ := kp₂ _ _ hx₁
  have ial : alongIn K "__init__" (((Value.ref C :: bm).dropWhile (· != .ref C)).drop 1) = some (some (.builtin "ValueError.__init__")) := by
    have z := J.along
    unfold ks_superIn at z
    rw [hcl] at z
    exact z
  have I₂ : InstAt h₂ x (excO C t0) C none := ⟨hx₂, rfl, rfl, trivial⟩
  refine kxs_getMethod kxs_ValueError e₂ (looks_opaque X₂ J.opq) (l₀ := .ref C :: bm) ?_ rfl X₂ ial (I₂.type.andThen (looks_subIn X₂ T.veC)) hxC (by decide) ?_
  · exact fun A Q E s k q => wpAny_bind ((looks_clsIn X₂ hcl) A _ E s k (wpAny_pure q))
  have up : ∀ b o, h₂.get? b = some o → (h₂.push (kxs_mw "ValueError.__init__" x)).get? b = some o := fun b o e => Heap.get?_push_of_some _ e
  refine callWith_mw (i := "ValueError.__init__") (x := x) ?_
  show wpAny _ _ (spliced ((false, eval (.Constant (.str _) 0 ⟨0, 0, 0, 0⟩) (ksEnv "Dipped.__init__" (defScope si_Dipped) hp.objs.size fI (.ref cda) cc)) :: [])) _ _ _
  refine spliced_cons (Constant_str (spliced_nil ⟨Heap.get?_push_at rfl rfl, ?_⟩))
  have X₃ : K.In (h₂.push (kxs_mw "ValueError.__init__" x)) := X₂.keeps up
  refine call_mw (s := ⟨h₂.push (kxs_mw "ValueError.__init__" x), g, dr, _, os⟩) T X₃ (up _ _ hx₂) (Heap.get?_push_at rfl rfl) (one_size _) fun h₄ t1 kp₄ hx₄ => ?_
  have old : ∀ b o, b ≠ x → h₁.get? b = some o → h₄.get? b = some o := fun b o hb e => kp₄ b o hb (up _ _ (kp₂ _ _ e))
  have X₄ : K.In h₄ := fun a o e => kp₄ a o (fun z => by rw [z, hnx] at e; cases e) (X₃ a o e)
  obtain ⟨oL, es, ep, hL, rL⟩ := hns
  have hns₄ : h₄.Ns hp.objs.size (fun y => ([(("self" : Str), Value.ref x), (("row" : Str), v0)] : List (Str × Value)).reverse.lookup y) := ⟨oL, es, ep, old _ _ hLx hL, rL⟩
  refine ks_wpAt_execs_cons (wpAt_of_wpAny (plainObj_wpAny_Assign_Attribute ?_))
  have hG : h₄.Ns mainGlobals mg := by
    obtain ⟨a1, a2, a3, a4, a5⟩ := hgl
    exact ⟨a1, a2, a3, old _ _ hxg (kp₁ _ _ a4), a5⟩
  have hB : h₄.Ns builtinsNs mb := by
    obtain ⟨a1, a2, a3, a4, a5⟩ := hb1
    exact ⟨a1, a2, a3, old _ _ hxb (kp₁ _ _ a4), a5⟩
  have hrow₄ : h₄.get? rp = some o := old _ _ hxr (kp₁ _ _ hrow)
  refine wpAny_Call_Name_kw (wpAny_Name (ks_loadName_global rfl rfl (loadGlobal_builtin (env := ksEnv "Dipped.__init__" (defScope si_Dipped) hp.objs.size fI (.ref cda) cc) (v := .type "list") hG J.lst hB ((hb2 _ (by decide +kernel)).trans (by decide +kernel)) ?_)))
  refine PyProof.Rows.callWith_type1 ?_
  show wpAny _ _ (spliced ((false, eval (.Name "row" _) (ksEnv "Dipped.__init__" (defScope si_Dipped) hp.objs.size fI (.ref cda) cc)) :: [])) _ _ _
  refine spliced_cons (ESX.ldL (v := .ref rp) hns₄ (by rw [← hv0]; first | rfl | with_unfolding_all rfl | kernel_rfl) (spliced_nil ?_))
  refine call_list_seq rp (.inl rfl) hrow₄ hoc hod (fun h₅ c' kp₅ hl₅ => ?_) hsz
  have hns₅ : h₅.Ns hp.objs.size (fun y => ([(("self" : Str), Value.ref x), (("row" : Str), v0)] : List (Str × Value)).reverse.lookup y) := ⟨oL, es, ep, kp₅ _ _ (old _ _ hLx hL), rL⟩
  have X₅ : K.In h₅ := X₄.keeps kp₅
  have hx₅ := kp₅ _ _ hx₄
  refine ESX.ldL (v := .ref x) hns₅ (by first | rfl | with_unfolding_all rfl | kernel_rfl) ?_
  refine set_plain X₅ (ox := excO C t1) (od := none) ⟨hx₅, rfl, rfl, trivial⟩ T.sa ?_
  refine exc_osa X₅ hx₅ hcl (show refsVE (.ref C :: bm) = true from hbm) rfl J.no_row (fun h₆ tk₆ dx kp₆ dn dne hx₆ hn₆ => ?_)
  have dbig : hp.objs.size ≤ h₄.objs.size := Nat.le_of_lt hns₄.lt
  have l5 : h₄.objs.size < h₅.objs.size := Heap.lt_size hl₅
  have lx : h₄.objs.size ≠ x := Nat.ne_of_gt (Heap.lt_size hx₄)
  exact wpAt_of_wpAny (wpAny_execs_nil (hq h₆ tk₆ dx t1 h₄.objs.size c' (fun b o hb e => kp₆ b o hb (kp₅ b o (old b o hb (kp₁ b o e)))) hx₆ (Nat.le_trans (Nat.le_trans dbig (Nat.le_of_lt l5)) dn) dne dbig lx (Nat.ne_of_lt (Nat.lt_of_lt_of_le l5 dn)) (kp₆ _ _ lx hl₅) hn₆))
/-- what a call of Dipped leaves -/
structure MadeL (h h' : Heap) (e C d l : Addr) (items : Array Value) : Prop where
  made : MadeF h h' e C d [(("row" : Str), .ref l)]
  lbig : h.objs.size ≤ l
  lne : l ≠ e
  lnd : l ≠ d
  lst : ∃ c', h'.get? l = some { cls := .type "list", dict := none, data := .seq items c', slots := #[] }
theorem made_Dipped (T : ExTxt K mg C) (J : In_Dipped K mg C fI) {rp : Addr} {o : Obj} {items : Array Value} {n0 : Nat} {us : List Value} {kws : List (Str × Value)} (har : (us = [.ref rp] ∧ kws = []) ∨ (us = [] ∧ kws = [(("row" : Str), .ref rp)]))
    (X : K.In s.heap) (hlim : s.heap.NoLimit) (hgl : s.heap.Ns mainGlobals mg) (hbl : ∃ mb, s.heap.Ns builtinsNs mb ∧ ∀ x : Str, x ≠ "__name__" → mb x = bootBuiltins x) (hroom : A.depth + 1 < recursionLimit)
    (hrow : s.heap.get? rp = some o) (hoc : o.cls = .type "list") (hod : o.data = .seq items n0) (hsz : items.size ≤ sizeLine)
    (hq : ∀ h' tk e d l, MadeL s.heap h' e C d l items → R (.ok (.ret (.ref e))) { s with heap := h', toks := tk }) : codeAny (model Toy.RW0 w) A (.call (.ref C) ⟨us, kws⟩) R s := by
  obtain ⟨nm, q, N, bs, bm, sn, sub, ab, col, dd, k0, k1, k2, k3, k5, hC, hbm⟩ := T.cls
  obtain ⟨hp, g, dr, tk, os⟩ := s
  have few : us.length ≤ sizeLine := by
    rcases har with ⟨rfl, _⟩ | ⟨rfl, _⟩
    · rw [sizeLine_eq]
      exact (by decide : 1 ≤ 16777216)
    · exact Nat.zero_le _
  have k : ∀ b o, hp.get? b = some o → ((hp.push (kdv_tup us)).push (excO C hp.objs.size)).get? b = some o := fun b o e => Heap.get?_push_of_some _ (Heap.get?_push_of_some _ e)
  have hget : ((hp.push (kdv_tup us)).push (excO C hp.objs.size)).get? (hp.objs.size + 1) = some (excO C hp.objs.size) := by heap_get
  have hnx : K.lookup (hp.objs.size + 1) = none := by
    cases e : K.lookup (hp.objs.size + 1) with
    | none => rfl
    | some o =>
      have z : hp.get? (hp.objs.size + 1) = some o := X _ _ e
      exact absurd (Nat.lt_of_succ_lt (Heap.lt_size z)) (Nat.lt_irrefl _)
  refine call_kw F.excBase_ValueError (fun X => refsVE_contains X bm hbm) (X _ _ hC) (looks_findIn X J.iC) (fun self => bind_fn X self J.tC) few ?_
  obtain ⟨mb, hb1, hb2⟩ := hbl
  have far : ∀ b, b < hp.objs.size → b ≠ hp.objs.size + 1 := fun b z => Nat.ne_of_lt (Nat.lt_succ_of_lt z)
  refine init_Dipped (s := ⟨(hp.push (kdv_tup us)).push (excO C hp.objs.size), g, dr, tk, os⟩) (x := hp.objs.size + 1) (v0 := .ref rp) T J ?_ (X.keeps k) (hlim.keeps k) (hgl.keeps k) ⟨mb, hb1.keeps k, hb2⟩ rfl (k _ _ hrow) hoc hod hsz (far _ hgl.lt) (far _ hb1.lt) (far _ (Heap.lt_size hrow)) hget hnx hroom fun h' tk' dx t1 l c' k' hx dn dne ln lx ld hl hns => ?_
  · rcases har with ⟨rfl, rfl⟩ | ⟨rfl, rfl⟩
    · exact .inl rfl
    · exact .inr rfl
  have old : ∀ b o, hp.get? b = some o → h'.get? b = some o := fun b o e => k' b o (Nat.ne_of_lt (Nat.lt_succ_of_lt (Heap.lt_size e))) (k b o e)
  have sz : ∀ y, ((hp.push (kdv_tup us)).push (excO C hp.objs.size)).objs.size ≤ y → hp.objs.size ≤ y := fun y q => by
    have q' : hp.objs.size + 1 + 1 ≤ y := by
      first
        | (simpa only [Heap.size_push] using q)
        | exact q
    omega
  exact ⟨rfl, hq h' tk' (hp.objs.size + 1) dx l ⟨⟨old, Nat.le_succ _, ⟨t1, hx⟩, sz _ dn, dne, ⟨_, hns, fun y => look1 _ _ y⟩⟩, sz _ ln, lx, ld, ⟨c', hl⟩⟩⟩
end
end SupK
end PySem
namespace L2
open PySem PySem.Spec PyProof.Rows PySem.SupK
section
variable {X : Cx} {k : Nat} {C fI : Addr} {x : Str} {p pos : Pos} {e : Expr} {es : List Expr} {kws : List Keyword} {t tk : TA} {ks : List Str}
abbrev mkD (H : Hp) (C e d l : Addr) (xs : List V) : Hp := mkH (upd H l (.lst xs)) C e d [(("row" : Str), .ref l)]
theorem dip_run {pins : List (Addr × Obj)} {σ : St} {H : Hp} {s : Shared} {us : List Value} {kv : List (Str × Value)} {rp : Addr} {xs : List V} {Q : VK} (hprog : X.prog = Toy.RW0) (T : SupX.ExTxt X.K X.mg C) (J : In_Dipped X.K X.mg C fI) (har : (us = [.ref rp] ∧ kv = []) ∨ (us = [] ∧ kv = [(("row" : Str), .ref rp)])) (I : Inv X pins σ H s) (hr : Room k X.A) (hS : SqL X.K H rp xs)
    (q : ∀ e d l, H e = none → H d = none → H l = none → d ≠ e → l ≠ e → l ≠ d → Q (.ref e) (mkD H C e d l xs)) : wpAny (model X.prog X.w) X.A (call (.ref C) us kv) (EP X pins σ Q) X.xe s := by
  have hlim := I.nolimit
  have hgl := I.mod.glob.keeps I.bk
  obtain ⟨mb, hb1, hb2⟩ := I.mod.blt
  have hbl := hb1.keeps I.bk
  obtain ⟨its, rx, pl, hz⟩ := I.list hS
  have hlen := rx.length
  obtain ⟨o, ho, hc, n0, hd⟩ := pl.isList
  obtain ⟨hp, g, dr, tk, os⟩ := s
  rw [hprog]
  refine wpAny_call (made_Dipped T J har I.kIn hlim hgl ⟨mb, hbl, hb2⟩ (by have := hr.dp; omega) ho hc hd (by simp only [List.size_toArray] <;> omega) fun h' tk' e d l M => ?_)
  show EP X pins σ Q (.ref e) ⟨h', g, dr, tk', os⟩
  obtain ⟨t1, hoe⟩ := M.made.obj
  obtain ⟨mA, hns, hm⟩ := M.made.ns
  obtain ⟨c', hl⟩ := M.lst
  obtain ⟨G, g1, g2⟩ := restrict h' fun b => decide (b ≠ e)
  have gk : ∀ b, b ≠ e → G.get? b = h'.get? b := fun b hb => g1 b (decide_eq_true hb)
  have ge : G.get? e = none := g2 e (by simp)
  obtain ⟨G2, p1, p2⟩ := restrict G fun b => decide (b ≠ d)
  have pk : ∀ b, b ≠ d → G2.get? b = G.get? b := fun b hb => p1 b (decide_eq_true hb)
  have pd : G2.get? d = none := p2 d (by simp)
  have old : ∀ b o, hp.get? b = some o → G2.get? b = some o := fun b o z =>
    (pk b (Nat.ne_of_lt (Nat.lt_of_lt_of_le (Heap.lt_size z) M.made.dbig))).trans ((gk b (Nat.ne_of_lt (Nat.lt_of_lt_of_le (Heap.lt_size z) M.made.new))).trans (M.made.keep b o z))
  have J0 : Inv X pins σ (upd H l (.lst xs)) ⟨G2, g, dr, tk', os⟩ := I.laid (t' := tk') old M.lbig (show ObjOk X.prog X.w _ G2 _ (.lst xs) from ⟨hz, its, c', rx, (pk l M.lnd).trans ((gk l M.lne).trans hl)⟩)
  have nd0 : upd H l (.lst xs) d = none := by
    rw [upd_ne (Ne.symm M.lnd)]
    exact I.hok.fresh M.made.dbig
  have ne0 : upd H l (.lst xs) e = none := by
    rw [upd_ne (Ne.symm M.lne)]
    exact I.hok.fresh M.made.new
  have rr : RelV (V.ref l) (Value.ref l) := rfl
  have ob : ObjOk X.prog X.w (upd (upd H l (.lst xs)) d (.xd [(("row" : Str), .ref l)])) G d (.xd [(("row" : Str), .ref l)]) :=
    ⟨mA, hns.at (fun o z => (gk d M.made.dne).trans z), fun f => by rw [hm f]; exact rel_zip (ks := ["row"]) (.cons rr .nil) f⟩
  have b2 : ∀ b u, G2.get? b = some u → G.get? b = some u := fun b u z => by
    by_cases hb : b = d
    · rw [hb, pd] at z
      cases z
    · exact (pk b hb).symm.trans z
  have J1 : Inv X pins σ (upd (upd H l (.lst xs)) d (.xd [(("row" : Str), .ref l)])) ⟨G, g, dr, tk', os⟩ := J0.laidN (t' := tk') b2 pd nd0 ob
  have ne : upd (upd H l (.lst xs)) d (.xd [(("row" : Str), .ref l)]) e = none := by
    rw [upd_ne (Ne.symm M.made.dne)]
    exact ne0
  have back : ∀ b u, G.get? b = some u → h'.get? b = some u := fun b u z => by
    by_cases hb : b = e
    · rw [hb, ge] at z
      cases z
    · exact (gk b hb).symm.trans z
  have J2 : Inv X pins σ (mkD H C e d l xs) ⟨h', g, dr, tk', os⟩ := J1.laidN (t' := tk') (o := exv e (.ref C) (some d)) back ge ne (exv_ok hoe ⟨rfl, rfl⟩ rfl)
  exact ⟨.ref e, _, J2, rfl, q e d l (I.hok.fresh M.made.new) (I.hok.fresh M.made.dbig) (I.hok.fresh M.lbig) M.made.dne M.lne M.lnd⟩
/-- Dipped(row), by place or by name -/
def tMkD (K : PySem.W.Frag) (C : Addr) (t : TA) : TE := fun σ H Q => t σ H fun vs H1 => ∃ rp xs, vs = [.ref rp] ∧ SqL K H1 rp xs ∧ ∀ e d l, H1 e = none → H1 d = none → H1 l = none → d ≠ e → l ≠ e → l ≠ d → Q (.ref e) (mkD H1 C e d l xs)
theorem pe_mkD (hprog : X.prog = Toy.RW0) (T : SupX.ExTxt X.K X.mg C) (J : In_Dipped X.K X.mg C fI) (hr : Room k X.A) (hm : X.mg x = some (.ref C)) (hg : Gl X x) (ha : PA X (e :: es) t) (hdb : (x == ("__debug__" : Str)) = false := by decide)
    (he : starEach (e :: es) X.env = (false, eval e X.env) :: starEach es X.env := by rfl) (hpl : (backTo pos (starEach es X.env)).any (·.1) = false := by rfl) :
    PE X (.Call (.Name x p) (e :: es) [] pos) (tMkD X.K C t) := by
  refine ⟨fun pins s σ H Q I h => ?_⟩
  refine wpAny_Call_Name_kw (ld_glob I hg hm ?_ hdb)
  refine PySem.W.callWith_K (h₀ := X.base) I.ok.mod.kin T.kC (thn (ha.run pos pins s σ H _ I h) fun us s1 ⟨vs, H1, I1, r1, rp, xs, ev, hS, q⟩ => ?_) he hpl
  subst ev
  obtain ⟨u, rfl, ru⟩ := vals1 r1
  cases (show u = Value.ref rp from ru)
  exact ⟨I1.kIn, dip_run hprog T J (.inl ⟨rfl, rfl⟩) I1 hr hS q⟩
theorem pe_mkDK (hprog : X.prog = Toy.RW0) (T : SupX.ExTxt X.K X.mg C) (J : In_Dipped X.K X.mg C fI) (hr : Room k X.A) (hm : X.mg x = some (.ref C)) (hg : Gl X x) (hkw : PK X kws tk)
    (hall : (backToKw pos (keywordEach kws X.env)).all (·.1.isSome) = true := by rfl) (hks : (backToKw pos (keywordEach kws X.env)).filterMap (·.1) = ([("row" : Str)] : List Str) := by rfl)
    (hdb : (x == ("__debug__" : Str)) = false := by decide)
    (hpl : ((backTo pos (starEach [] X.env)).any (·.1) || (backToKw pos (keywordEach kws X.env)).any (·.1.isNone)) = false := by rfl) :
    PE X (.Call (.Name x p) [] kws pos) (tMkD X.K C tk) := by
  refine ⟨fun pins s σ H Q I h => ?_⟩
  refine wpAny_Call_Name_kw (ld_glob I hg hm ?_ hdb)
  refine PySem.W.callWith_KW0 (h₀ := X.base) I.ok.mod.kin T.kC hall ?_ hpl
  refine thn (hkw.run pos pins s σ H _ I h) fun ws s2 ⟨zs, H2, I2, rz, rp, xs, ev, hS, q⟩ => ⟨I2.kIn, ?_⟩
  subst ev
  obtain ⟨u, rfl, ru⟩ := vals1 rz
  cases (show u = Value.ref rp from ru)
  rw [hks]
  exact dip_run hprog T J (.inr ⟨rfl, rfl⟩) I2 hr hS q
end
end L2

namespace L2
open PySem PySem.Spec PyProof.Rows
section
variable {X : Cx} {C : Addr} {bmB : List Value} {B newId initId : String} {x : Str} {e : Expr} {es : List Expr} {t : TA} {p pos : Pos}
/-- an own exception class without own __init__: its call gives a new exception -/
theorem plain_run {pins : List (Addr × Obj)} {σ : St} {H : Hp} {s : Shared} {us : List Value} {Q : VK} (F : ExcBaseFacts B newId initId bmB) (q : PySem.W.excIn X.K C bmB newId = true) (I : Inv X pins σ H s) (few : us.length ≤ sizeLine)
    (g : ∀ a, H a = none → Q (.ref a) (upd H a (exv a (.ref C) none))) : wpAny (model X.prog X.w) X.A (call (.ref C) us) (EP X pins σ Q) X.xe s := by
  obtain ⟨bm, N, nm, qn, bs, hdct, sn, sub, ab, col, dd, k0, k1, k2, k3, k5, mN, hC, hN, hni, T⟩ := exc_obj I.kIn q
  obtain ⟨hp, gs, dr, tk, os⟩ := s
  refine wpAny_call_exc_subT F T hC hN hni (fun h' a hm => ?_) few
  have hn : H a = none := I.hok.gone hm.new
  obtain ⟨t, ht, _, _⟩ := hm.there
  exact ⟨.ref a, upd H a (exv a (.ref C) none), I.laidN (t' := tk) hm.keeps hm.new hn (exv_ok ht ⟨rfl, rfl⟩ rfl), rfl, g a hn⟩
def tMkP (C : Addr) (t : TA) : TE := fun σ H Q => t σ H fun vs H1 => vs.length ≤ 100 ∧ ∀ a, H1 a = none → Q (.ref a) (upd H1 a (exv a (.ref C) none))
theorem pe_mkP (F : ExcBaseFacts B newId initId bmB) (q : PySem.W.excIn X.K C bmB newId = true) (gC : X.mg x = some (.ref C)) (kC : PySem.W.keepIn X.K (.ref C) = true) (hg : Gl X x) (ha : PA X (e :: es) t)
    (hdb : (x == ("__debug__" : Str)) = false := by decide) (he : starEach (e :: es) X.env = (false, eval e X.env) :: starEach es X.env := by rfl) (hpl : (backTo pos (starEach es X.env)).any (·.1) = false := by rfl) :
    PE X (.Call (.Name x p) (e :: es) [] pos) (tMkP C t) := by
  refine ⟨fun pins s σ H Q I h => ?_⟩
  refine wpAny_Call_Name_kw (ld_glob I hg gC ?_ hdb)
  refine PySem.W.callWith_K (h₀ := X.base) I.ok.mod.kin kC (thn (ha.run pos pins s σ H _ I h) fun us s1 ⟨vs, H1, I1, r1, l, g⟩ => ?_) he hpl
  exact ⟨I1.kIn, plain_run F q I1 (by show us.length ≤ sizeLine; rw [← r1.length, sizeLine_eq]; omega) g⟩
theorem pe_mkP0 (F : ExcBaseFacts B newId initId bmB) (q : PySem.W.excIn X.K C bmB newId = true) (gC : X.mg x = some (.ref C)) (kC : PySem.W.keepIn X.K (.ref C) = true) (hg : Gl X x) (hdb : (x == ("__debug__" : Str)) = false := by decide) :
    PE X (.Call (.Name x p) [] [] pos) (tMkP C tNil) := by
  refine ⟨fun pins s σ H Q I h => ?_⟩
  refine wpAny_Call_Name_kw (ld_glob I hg gC ?_ hdb)
  obtain ⟨_, g⟩ := h
  exact PySem.W.callWith_K0 I.kIn kC (plain_run (us := []) F q I (Nat.zero_le _) g)
end
end L2
namespace Cc
open PySem L2
/-! ### a def that is called: its promise, its name, how it binds -/
structure Cal (P : Program) (w : World) (K : PySem.W.Frag) (mg : Str → Option Value) (base : Heap) (lv : Nat) (x : Str) (ps : List Str) (sp : Sp) : Prop where
  ex : ∃ (f : Addr) (fd : FuncData), FnOk P w K mg base CX0 lv f fd ps sp ∧ mg x = some (.ref f) ∧ PySem.W.keepIn K (.ref f) = true ∧ Binds K fd ps []
/-- the same, by keywords alone -/
structure CalK (P : Program) (w : World) (K : PySem.W.Frag) (mg : Str → Option Value) (base : Heap) (lv : Nat) (x : Str) (ps : List Str) (sp : Sp) (n : Nat) (ks : List Str) (gV : List V → List V → List V) : Prop where
  ex : ∃ (f : Addr) (fd : FuncData) (g : List Value → List Value → List Value), FnOk P w K mg base CX0 lv f fd ps sp ∧ mg x = some (.ref f) ∧ PySem.W.keepIn K (.ref f) = true ∧ KBn K fd ps n ks g gV
section
variable {X : Cx} {k lv : Nat} {ps ks : List Str} {sp : Sp} {x : Str} {p pos : Pos} {e : Expr} {es : List Expr} {kws : List Keyword} {t tk : TA} {n : Nat} {gV : List V → List V → List V}
theorem pe_cal (C : Cal X.prog X.w X.K X.mg X.base lv x ps sp) (hr : Room k X.A) (hg : Gl X x) (ha : PA X (e :: es) t) (hle : lv ≤ k := by decide)
    (hdb : (x == ("__debug__" : Str)) = false := by decide) (he : starEach (e :: es) X.env = (false, eval e X.env) :: starEach es X.env := by rfl) (hpl : (backTo pos (starEach es X.env)).any (·.1) = false := by rfl) :
    PE X (.Call (.Name x p) (e :: es) [] pos) (tCall sp [] E0 t) := by
  obtain ⟨f, fd, F, hm, hk, hb⟩ := C.ex
  exact pe_call F (hr.mono hle) hg hm hk hb .nil pass0 ha hdb he hpl
theorem pe_cal0 (C : Cal X.prog X.w X.K X.mg X.base lv x ps sp) (hr : Room k X.A) (hg : Gl X x) (hle : lv ≤ k := by decide)
    (hdb : (x == ("__debug__" : Str)) = false := by decide) :
    PE X (.Call (.Name x p) [] [] pos) (tCall sp [] E0 tNil) := by
  obtain ⟨f, fd, F, hm, hk, hb⟩ := C.ex
  exact pe_call0 F (hr.mono hle) hg hm hk hb .nil pass0 hdb
theorem pe_calK0 (C : CalK X.prog X.w X.K X.mg X.base lv x ps sp 0 ks gV) (hr : Room k X.A) (hg : Gl X x) (hkw : PK X kws tk) (hle : lv ≤ k := by decide)
    (hall : (backToKw pos (keywordEach kws X.env)).all (·.1.isSome) = true := by rfl) (hks : (backToKw pos (keywordEach kws X.env)).filterMap (·.1) = ks := by rfl)
    (hdb : (x == ("__debug__" : Str)) = false := by decide)
    (hpl : ((backTo pos (starEach [] X.env)).any (·.1) || (backToKw pos (keywordEach kws X.env)).any (·.1.isNone)) = false := by rfl) :
    PE X (.Call (.Name x p) [] kws pos) (tCallN 0 ks.length sp gV E0 tNil tk) := by
  obtain ⟨f, fd, g, F, hm, hk, hb⟩ := C.ex
  refine ⟨fun pins s σ H Q I h => ?_⟩
  refine wpAny_Call_Name_kw (ld_glob I hg hm ?_ hdb)
  refine PySem.W.callWith_KW0 (h₀ := X.base) I.ok.mod.kin hk hall ?_ hpl
  have h : tk σ H fun zs H2 => ([] : List V).length = 0 ∧ zs.length = ks.length ∧ sp (gV [] zs) H2 Q E0 := h
  refine thn (hkw.run pos pins s σ H _ I h) fun ws s2 ⟨zs, H2, I2, rz, l1, l2, q2⟩ => ⟨I2.kIn, ?_⟩
  rw [hks]
  exact run_fnN F (hr.mono hle) hb pass0 I2 .nil rz l1 l2 q2
theorem pe_calK (C : CalK X.prog X.w X.K X.mg X.base lv x ps sp n ks gV) (hr : Room k X.A) (hg : Gl X x) (ha : PA X (e :: es) t) (hkw : PK X kws tk) (hle : lv ≤ k := by decide)
    (hall : (backToKw pos (keywordEach kws X.env)).all (·.1.isSome) = true := by rfl) (hks : (backToKw pos (keywordEach kws X.env)).filterMap (·.1) = ks := by rfl)
    (hdb : (x == ("__debug__" : Str)) = false := by decide) (he : starEach (e :: es) X.env = (false, eval e X.env) :: starEach es X.env := by rfl)
    (hpl : ((backTo pos (starEach (e :: es) X.env)).any (·.1) || (backToKw pos (keywordEach kws X.env)).any (·.1.isNone)) = false := by rfl) :
    PE X (.Call (.Name x p) (e :: es) kws pos) (tCallN n ks.length sp gV E0 t tk) := by
  obtain ⟨f, fd, g, F, hm, hk, hb⟩ := C.ex
  exact pe_callN F (hr.mono hle) hg hm hk hb pass0 ha hkw hall hks hdb he hpl
end
/-! ### heaps -/
/-- all but what stands at p is as it was -/
def Kp (p : Addr) (H H' : Hp) : Prop := ∀ b o, b ≠ p → H b = some o → H' b = some o
theorem Kp.of {p : Addr} {H H' : Hp} (s : Same H H') : Kp p H H' := fun b o _ e => s b o e
theorem Kp.trans {p : Addr} {H H1 H2 : Hp} (a : Kp p H H1) (b : Kp p H1 H2) : Kp p H H2 := fun c o n h => b c o n (a c o n h)
theorem same_upd {H : Hp} {p : Addr} {o : HO} (h : H p = none) : Same H (upd H p o) := fun b x e => by
  rw [upd_ne (ne_of_none e h)]
  exact e
theorem same_mut {H H' : Hp} {p : Addr} {o : HO} (s : Same H H') (h : H p = none) : Same H (upd H' p o) := fun b x e => by
  rw [upd_ne (ne_of_none e h)]
  exact s b x e
theorem kp_upd {H : Hp} {p : Addr} {o : HO} : Kp p H (upd H p o) := fun b x n e => by
  rw [upd_ne n]
  exact e
theorem Kp.new {p q : Addr} {H H' : Hp} {o : HO} (k : Kp p H H') (h : H' q = none) : Kp p H (upd H' q o) := fun b x n e => by
  rw [upd_ne (ne_of_none (k b x n e) h)]
  exact k b x n e
theorem Kp.free {p q : Addr} {H H' : Hp} (k : Kp p H H') (h : H' q = none) (n : q ≠ p) : H q = none := by
  cases z : H q with
  | none => rfl
  | some o =>
    rw [k q o n z] at h
    cases h
theorem Kp.seq {K : PySem.W.Frag} {p a : Addr} {H H' : Hp} {xs : List V} (k : Kp p H H') (n : a ≠ p) (h : SqL K H a xs) : SqL K H' a xs := by
  rcases h with (h | ⟨o, h⟩) | h
  · exact .inl (.inl (k _ _ n h))
  · exact .inl (.inr ⟨o, k _ _ n h⟩)
  · exact .inr h
end Cc
namespace Toy
open PySem L2 Cc
structure Adr where
  (SlackError NoNumber NoTable NoRow NoChoice Flat NoSaying Lifted NoCover Dipped NotOne NoText NoLine NoName : Addr)
structure Txt (K : PySem.W.Frag) (mg : Str → Option Value) (c : Adr) : Prop where
  abs : mg "abs" = none
  len : mg "len" = none
  range : mg "range" = none
  isinstance : mg "isinstance" = none
  zip : mg "zip" = none
  int_ : mg "int" = none
  str_ : mg "str" = none
  ValueError_ : mg "ValueError" = none
  g_SlackError : mg "SlackError" = some (.ref c.SlackError)
  g_NoNumber : mg "NoNumber" = some (.ref c.NoNumber)
  g_NoTable : mg "NoTable" = some (.ref c.NoTable)
  g_NoRow : mg "NoRow" = some (.ref c.NoRow)
  g_NoChoice : mg "NoChoice" = some (.ref c.NoChoice)
  g_Flat : mg "Flat" = some (.ref c.Flat)
  g_NoSaying : mg "NoSaying" = some (.ref c.NoSaying)
  g_Lifted : mg "Lifted" = some (.ref c.Lifted)
  g_NoCover : mg "NoCover" = some (.ref c.NoCover)
  g_Dipped : mg "Dipped" = some (.ref c.Dipped)
  g_NotOne : mg "NotOne" = some (.ref c.NotOne)
  g_NoText : mg "NoText" = some (.ref c.NoText)
  g_NoLine : mg "NoLine" = some (.ref c.NoLine)
  g_NoName : mg "NoName" = some (.ref c.NoName)
/-- of which classes an exception of the class D is: those of the list, in the order of Adr behind SlackError -/
structure KindOf (K : PySem.W.Frag) (c : Adr) (D : Addr) (b : Nat → Bool) : Prop where
  ec : ExcC K D
  ve : PySem.W.kitOne K (.ref D) (.type "ValueError") = some true
  sl : PySem.W.kitOne K (.ref D) (.ref c.SlackError) = some true
  q1 : PySem.W.kitOne K (.ref D) (.ref c.NoNumber) = some (b 1)
  q2 : PySem.W.kitOne K (.ref D) (.ref c.NoTable) = some (b 2)
  q3 : PySem.W.kitOne K (.ref D) (.ref c.NoRow) = some (b 3)
  q4 : PySem.W.kitOne K (.ref D) (.ref c.NoChoice) = some (b 4)
  q5 : PySem.W.kitOne K (.ref D) (.ref c.Flat) = some (b 5)
  q6 : PySem.W.kitOne K (.ref D) (.ref c.NoSaying) = some (b 6)
  q7 : PySem.W.kitOne K (.ref D) (.ref c.Lifted) = some (b 7)
  q8 : PySem.W.kitOne K (.ref D) (.ref c.NoCover) = some (b 8)
  q9 : PySem.W.kitOne K (.ref D) (.ref c.Dipped) = some (b 9)
  q10 : PySem.W.kitOne K (.ref D) (.ref c.NotOne) = some (b 10)
  q11 : PySem.W.kitOne K (.ref D) (.ref c.NoText) = some (b 11)
  q12 : PySem.W.kitOne K (.ref D) (.ref c.NoLine) = some (b 12)
  q13 : PySem.W.kitOne K (.ref D) (.ref c.NoName) = some (b 13)
abbrev Fra (H : Hp) (a : Addr) (f : Int × Int) : Prop := H a = some (.tup [.int f.1, .int f.2])
def Pile (H : Hp) (p : Addr) : Prop := ∃ x y z : Int, H p = some (.lst [.int x, .int y, .int z])
abbrev Strs (H : Hp) (a : Addr) (xs : List Str) : Prop := H a = some (.lst (xs.map V.str))
end Toy
namespace Toy
open PySem L2 Cc
section
variable {P : Program} {w : World} {K : PySem.W.Frag} {mg : Str → Option Value} {base : Heap} {c : Adr}
theorem sz2 : 2 ≤ sizeLine := by decide
theorem len2 {vs : List V} (h : vs.length = 2) : ∃ a b, vs = [a, b] := match vs, h with
  | [a, b], _ => ⟨a, b, rfl⟩
theorem sz3 : 3 ≤ sizeLine := by decide
/-- the fields of the i-th class, and its word -/
def Fl : Nat → List Str
  | 1 => ["top"]
  | 2 => ["place"]
  | 5 => ["choice"]
  | 7 => ["row", "column"]
  | 9 => ["row"]
  | 10 => ["choice"]
  | 13 => ["name"]
  | _ => []
def Wd : Nat → List V
  | 1 => [.str "number"]
  | 2 => [.str "table"]
  | 5 => [.str "flat"]
  | 7 => [.str "lifted"]
  | 9 => [.str "dipped"]
  | 10 => [.str "not one"]
  | 13 => [.str "name"]
  | 3 => [.str "no row"]
  | 4 => [.str "choice"]
  | 6 => [.str "saying"]
  | 8 => [.str "cover"]
  | 11 => [.str "text"]
  | 12 => [.str "line"]
  | _ => []
def P6 : List (Nat × Str) := [(3, "no row"), (4, "choice"), (6, "saying"), (8, "cover"), (11, "text"), (12, "line")]
def pw (i j : Nat) : List V := ((P6.take j).filter fun p => p.1 == i).map fun p => V.str p.2
theorem pw_step {i j k : Nat} {t : Str} (h : P6[j]? = some (k, t)) : pw i (j + 1) = pw i j ++ (if (k == i) = true then [V.str t] else []) := by
  unfold pw
  rw [List.take_add_one, h, List.filter_append, List.map_append]
  congr 1
  show List.map _ (List.filter _ [(k, t)]) = _
  cases h2 : (k == i) <;> simp [h2]
theorem pw_len (i j : Nat) : (pw i j).length ≤ 6 := by
  unfold pw
  rw [List.length_map]
  refine Nat.le_trans (List.length_filter_le _ _) ?_
  rw [List.length_take]
  exact Nat.min_le_right _ _
def acc (L : List Nat) (i : Nat) (vs : List V) : List V := if i ∈ L then Wd i ++ vs else []
theorem acc_no {L : List Nat} {i k : Nat} {vs : List V} (h : ¬ (k == i) = true) : acc (L ++ [k]) i vs = acc L i vs := by
  have n : i ≠ k := fun z => h (by rw [z]; exact beq_self_eq_true k)
  unfold acc
  by_cases z : i ∈ L
  · rw [if_pos z, if_pos (List.mem_append_left _ z)]
  · rw [if_neg z, if_neg fun q => by
      rcases List.mem_append.mp q with q | q
      · exact z q
      · exact n (List.mem_singleton.mp q)]
def L7 : List Nat := [1, 2, 5, 7, 9, 10, 13]
theorem acc_all {i : Nat} {vs : List V} (hi : i ≤ 13) (hl : vs.length = (Fl i).length) : acc L7 i vs ++ pw i 6 = Wd i ++ vs := by
  rcases (show i = 0 ∨ i = 1 ∨ i = 2 ∨ i = 3 ∨ i = 4 ∨ i = 5 ∨ i = 6 ∨ i = 7 ∨ i = 8 ∨ i = 9 ∨ i = 10 ∨ i = 11 ∨ i = 12 ∨ i = 13 by omega) with rfl | rfl | rfl | rfl | rfl | rfl | rfl | rfl | rfl | rfl | rfl | rfl | rfl | rfl <;>
    first
      | (have e : vs = [] := List.eq_nil_of_length_eq_zero hl
         subst e
         rfl)
      | exact List.append_nil _
/-- an exception of the i-th class with the fields vs stands at a -/
structure Exc (K : PySem.W.Frag) (c : Adr) (H : Hp) (a : Addr) (i : Nat) (vs : List V) : Prop where
  ex : ∃ (D : Addr) (d : Option Addr), H a = some (exv a (.ref D) d) ∧ KindOf K c D (fun j => j == i) ∧ XfC K D ∧ (∀ e, d = some e → ∃ fs, H e = some (.xd fs)) ∧ vs.length = (Fl i).length ∧
    (∀ f v, (f, v) ∈ (Fl i).zip vs → PySem.W.findIn K (.ref D) f = some none ∧ ∃ dd fs, d = some dd ∧ H dd = some (.xd fs) ∧ fs.lookup f = some v) ∧ i ≤ 13
theorem Exc.same {H H' : Hp} {a : Addr} {i : Nat} {vs : List V} (h : Exc K c H a i vs) (s : Same H H') : Exc K c H' a i vs := by
  obtain ⟨D, d, h1, h2, h3, h4, h5, h6, h7⟩ := h.ex
  refine ⟨D, d, s _ _ h1, h2, h3, fun e z => ?_, h5, fun f v z => ?_, h7⟩
  · obtain ⟨fs, q⟩ := h4 e z
    exact ⟨fs, s _ _ q⟩
  · obtain ⟨no, dd, fs, e, q, l⟩ := h6 f v z
    exact ⟨no, dd, fs, e, s _ _ q, l⟩
def spKind (K : PySem.W.Frag) (c : Adr) : Sp := fun vs H Q _ => ∃ (a : Addr) (i : Nat) (ws : List V), vs = [.ref a] ∧ Exc K c H a i ws ∧ ∀ p H', Same H H' → H p = none → H' p = some (.lst (Wd i ++ ws)) → Q (.ref p) H'
abbrev s__law_kind : Stmt := top 19
theorem sc__law_kind : FnScope ["_law_error", "_law_found", "_law_plain_here", "_law_words", "_law_word", "_law_truth"] ["_law_error"] (defScope s__law_kind) := ⟨rfl, rfl, rfl, by decide +kernel, rfl, by decide +kernel, by decide +kernel⟩
theorem ok_kind {f : Addr} {fd : FuncData} {k : Nat} (F : Fun K "_law_kind" "_law_kind" s__law_kind f fd) (T : Txt K mg c) : FnOk P w K mg base CX0 (k + 1) f fd ["_law_error"] (spKind K c) := by
  refine F.ok sc__law_kind (fun vs H Q E h => ?_) (fun cdv A outer s H vs Q E hr h => ?_)
  · obtain ⟨a, i, ws, rfl, _⟩ := h
    rfl
  · obtain ⟨a, i, ws, rfl, X, q⟩ := h
    obtain ⟨D, d, ha, N, xf, hd, wl, hf, hi⟩ := X.ex
    refine ⟨_, (pss_cons (ps_set (i := 1) sc__law_kind.nd rfl (Or.inl rfl) (pe_lst pa_nil))
      (C8.pss_cut (ps_if (pt_val (pe_callB (id := "isinstance") (r := rIsX K) call_isX (by rfl) T.isinstance (by decide +kernel) (pa_cons (pv 0) (pa_cons (pe_glob (v := .ref c.NoNumber) (by rfl) T.g_NoNumber rfl) pa_nil))))
        (pss_one (ps_set (i := 1) sc__law_kind.nd rfl (Or.inl rfl) (pe_op op_cat (pv 1) (pe_lst (pa_cons pe_str (pa_cons (pe_xv (pv 0)) pa_nil))))))
        pss_nil)
      (C8.pss_cut (ps_if (pt_val (pe_callB (id := "isinstance") (r := rIsX K) call_isX (by rfl) T.isinstance (by decide +kernel) (pa_cons (pv 0) (pa_cons (pe_glob (v := .ref c.NoTable) (by rfl) T.g_NoTable rfl) pa_nil))))
        (pss_one (ps_set (i := 1) sc__law_kind.nd rfl (Or.inl rfl) (pe_op op_cat (pv 1) (pe_lst (pa_cons pe_str (pa_cons (pe_xv (pv 0)) pa_nil))))))
        pss_nil)
      (C8.pss_cut (ps_if (pt_val (pe_callB (id := "isinstance") (r := rIsX K) call_isX (by rfl) T.isinstance (by decide +kernel) (pa_cons (pv 0) (pa_cons (pe_glob (v := .ref c.Flat) (by rfl) T.g_Flat rfl) pa_nil))))
        (pss_one (ps_set (i := 1) sc__law_kind.nd rfl (Or.inl rfl) (pe_op op_cat (pv 1) (pe_lst (pa_cons pe_str (pa_cons (pe_xv (pv 0)) pa_nil))))))
        pss_nil)
      (C8.pss_cut (ps_if (pt_val (pe_callB (id := "isinstance") (r := rIsX K) call_isX (by rfl) T.isinstance (by decide +kernel) (pa_cons (pv 0) (pa_cons (pe_glob (v := .ref c.Lifted) (by rfl) T.g_Lifted rfl) pa_nil))))
        (pss_one (ps_set (i := 1) sc__law_kind.nd rfl (Or.inl rfl) (pe_op op_cat (pv 1) (pe_lst (pa_cons pe_str (pa_cons (pe_xv (pv 0)) (pa_cons (pe_xv (pv 0)) pa_nil)))))))
        pss_nil)
      (C8.pss_cut (ps_if (pt_val (pe_callB (id := "isinstance") (r := rIsX K) call_isX (by rfl) T.isinstance (by decide +kernel) (pa_cons (pv 0) (pa_cons (pe_glob (v := .ref c.Dipped) (by rfl) T.g_Dipped rfl) pa_nil))))
        (pss_one (ps_set (i := 1) sc__law_kind.nd rfl (Or.inl rfl) (pe_op op_cat (pv 1) (pe_lst (pa_cons pe_str (pa_cons (pe_xv (pv 0)) pa_nil))))))
        pss_nil)
      (C8.pss_cut (ps_if (pt_val (pe_callB (id := "isinstance") (r := rIsX K) call_isX (by rfl) T.isinstance (by decide +kernel) (pa_cons (pv 0) (pa_cons (pe_glob (v := .ref c.NotOne) (by rfl) T.g_NotOne rfl) pa_nil))))
        (pss_one (ps_set (i := 1) sc__law_kind.nd rfl (Or.inl rfl) (pe_op op_cat (pv 1) (pe_lst (pa_cons pe_str (pa_cons (pe_xv (pv 0)) pa_nil))))))
        pss_nil)
      (C8.pss_cut (ps_if (pt_val (pe_callB (id := "isinstance") (r := rIsX K) call_isX (by rfl) T.isinstance (by decide +kernel) (pa_cons (pv 0) (pa_cons (pe_glob (v := .ref c.NoName) (by rfl) T.g_NoName rfl) pa_nil))))
        (pss_one (ps_set (i := 1) sc__law_kind.nd rfl (Or.inl rfl) (pe_op op_cat (pv 1) (pe_lst (pa_cons pe_str (pa_cons (pe_xv (pv 0)) pa_nil))))))
        pss_nil)
      (pss_cons (ps_set (i := 2) sc__law_kind.nd rfl (Or.inl rfl) (pe_lst (pa_cons (pe_callB (id := "isinstance") (r := rIsX K) call_isX (by rfl) T.isinstance (by decide +kernel) (pa_cons (pv 0) (pa_cons (pe_glob (v := .ref c.NoRow) (by rfl) T.g_NoRow rfl) pa_nil))) (pa_cons (pe_callB (id := "isinstance") (r := rIsX K) call_isX (by rfl) T.isinstance (by decide +kernel) (pa_cons (pv 0) (pa_cons (pe_glob (v := .ref c.NoChoice) (by rfl) T.g_NoChoice rfl) pa_nil))) (pa_cons (pe_callB (id := "isinstance") (r := rIsX K) call_isX (by rfl) T.isinstance (by decide +kernel) (pa_cons (pv 0) (pa_cons (pe_glob (v := .ref c.NoSaying) (by rfl) T.g_NoSaying rfl) pa_nil))) pa_nil)))))
      (pss_cons (ps_set (i := 2) sc__law_kind.nd rfl (Or.inl rfl) (pe_op op_cat (pv 2) (pe_lst (pa_cons (pe_callB (id := "isinstance") (r := rIsX K) call_isX (by rfl) T.isinstance (by decide +kernel) (pa_cons (pv 0) (pa_cons (pe_glob (v := .ref c.NoCover) (by rfl) T.g_NoCover rfl) pa_nil))) (pa_cons (pe_callB (id := "isinstance") (r := rIsX K) call_isX (by rfl) T.isinstance (by decide +kernel) (pa_cons (pv 0) (pa_cons (pe_glob (v := .ref c.NoText) (by rfl) T.g_NoText rfl) pa_nil))) (pa_cons (pe_callB (id := "isinstance") (r := rIsX K) call_isX (by rfl) T.isinstance (by decide +kernel) (pa_cons (pv 0) (pa_cons (pe_glob (v := .ref c.NoLine) (by rfl) T.g_NoLine rfl) pa_nil))) pa_nil))))))
      (pss_cons (ps_set (i := 3) sc__law_kind.nd rfl (Or.inl rfl) (pe_lst (pa_cons pe_str (pa_cons pe_str (pa_cons pe_str (pa_cons pe_str (pa_cons pe_str (pa_cons pe_str pa_nil))))))))
      (pss_cons (ps_set (i := 1) sc__law_kind.nd rfl (Or.inl rfl) (pe_op op_cat (pv 1) (pe_lc (own := [("_law_word", 4), ("_law_truth", 5)]) (g := gTup K 2 (gCons (gName 4) (gCons (gName 5) gNil))) (by rfl) sc__law_kind.nd (pi_zip (by rfl) T.zip (pa_cons (pv 3) (pa_cons (pv 2) pa_nil))) (blkOk_by (own := [("_law_word", 4), ("_law_truth", 5)]) (N := ["_law_error", "_law_found", "_law_plain_here", "_law_words", "_law_word", "_law_truth"]) (sc := defScope s__law_kind) (by decide +kernel)) (fun _ _ _ _ _ => (pg_tup rfl (pgs_cons (pg_name (i := 4) sc__law_kind.nd rfl (Or.inl rfl)) (pgs_cons (pg_name (i := 5) sc__law_kind.nd rfl (Or.inl rfl)) pgs_nil)))) (fun _ _ _ _ _ => (pts_one (pt_val (pv 5)))) (fun _ _ _ _ _ => (pv 4)))))
      (pss_cons (ps_if (PW.pt (pw_and (pt_cmpR op_notN (pv 0) pe_non (nomark _)) (pw_and1 (PW.pt (pw_or (pt_not (pt_val (pe_callB (id := "isinstance") (r := rIsX K) call_isX (by rfl) T.isinstance (by decide +kernel) (pa_cons (pv 0) (pa_cons (pe_glob (v := .ref c.SlackError) (by rfl) T.g_SlackError rfl) pa_nil))))) (pw_or1 (pt_not (pt_val (pe_callB (id := "isinstance") (r := rIsX K) call_isX (by rfl) T.isinstance (by decide +kernel) (pa_cons (pv 0) (pa_cons (pe_bltn (v := .ty "ValueError") (by rfl) T.ValueError_ (by decide +kernel) rfl) pa_nil)))))))))))
        (pss_one (ps_expr (pe_bm PySem.F.plainAttrs_list PySem.F.slot_list_append PySem.F.type_list_append mt_append (pv 1) (pa_cons pe_str pa_nil))))
        pss_nil)
      (pss_one (ps_ret (pv 1)))))))))))))))), ?_⟩
    have hx : ∀ {G : Hp}, Same H G → G a = some (exv a (.ref D) d) ∧ ∀ e, d = some e → ∃ fs, G e = some (.xd fs) := fun s => ⟨s _ _ ha, fun e z => by
      obtain ⟨fs, q⟩ := hd e z
      exact ⟨fs, s _ _ q⟩⟩
    refine ⟨by show 0 ≤ sizeLine; decide, fun f0 n0 => ?_⟩
    have s0 := same_upd (o := .lst []) n0
    have hf0 : upd H f0 (.lst []) f0 = some (.lst (acc [] i ws)) := upd_same
    generalize upd H f0 (.lst []) = G at s0 hf0 ⊢
    -- NoNumber
    refine ⟨fun σ' H' => Same H H' ∧ ∃ f1, σ' = [some (.ref a), some (.ref f1), none, none, none, none] ∧ H f1 = none ∧ H' f1 = some (.lst (acc [1] i ws)), ?_, ?_⟩
    · refine ⟨_, rfl, a, D, d, none, _, _, (1 == i), rfl, (hx s0).1, (hx s0).2, N.ec, .own _, N.q1, _, rfl, ite2 (fun z => ?_) (fun z => ?_)⟩
      · have ei : 1 = i := beq_iff_eq.mp z
        subst ei
        obtain ⟨v0, rfl⟩ := List.length_eq_one_iff.mp wl
        obtain ⟨no0, dd0, fs0, e0, q0, lk0⟩ := hf "top" v0 (by simp [Fl])
        subst e0
        refine ⟨_, rfl, _, rfl, a, D, dd0, fs0, v0, rfl, (hx s0).1, s0 _ _ q0, xf, no0, lk0, sz2, fun l1 m1 => ?_⟩
        have s1 := s0.trans (same_upd (o := .lst [V.str "number", v0]) m1)
        have nf0 : f0 ≠ l1 := ne_of_none hf0 m1
        have hf0' : G f0 = some (.lst []) := hf0
        refine ⟨f0, l1, [], _, rfl, rfl, Eq.trans (upd_ne nf0) hf0', upd_same, sz2, fun f1 n1 => ?_⟩
        exact ⟨s1.trans (same_upd n1), f1, rfl, s1.free n1, upd_same⟩
      · refine ⟨s0, f0, rfl, n0, ?_⟩
        rw [show ([1] : List Nat) = [] ++ [1] from rfl, acc_no z]
        exact hf0
    clear hf0 s0 n0
    rintro σ' G ⟨s0, f0, rfl, n0, hf0⟩
    -- NoTable
    refine ⟨fun σ' H' => Same H H' ∧ ∃ f1, σ' = [some (.ref a), some (.ref f1), none, none, none, none] ∧ H f1 = none ∧ H' f1 = some (.lst (acc [1, 2] i ws)), ?_, ?_⟩
    · refine ⟨_, rfl, a, D, d, none, _, _, (2 == i), rfl, (hx s0).1, (hx s0).2, N.ec, .own _, N.q2, _, rfl, ite2 (fun z => ?_) (fun z => ?_)⟩
      · have ei : 2 = i := beq_iff_eq.mp z
        subst ei
        obtain ⟨v0, rfl⟩ := List.length_eq_one_iff.mp wl
        obtain ⟨no0, dd0, fs0, e0, q0, lk0⟩ := hf "place" v0 (by simp [Fl])
        subst e0
        refine ⟨_, rfl, _, rfl, a, D, dd0, fs0, v0, rfl, (hx s0).1, s0 _ _ q0, xf, no0, lk0, sz2, fun l1 m1 => ?_⟩
        have s1 := s0.trans (same_upd (o := .lst [V.str "table", v0]) m1)
        have nf0 : f0 ≠ l1 := ne_of_none hf0 m1
        have hf0' : G f0 = some (.lst []) := hf0
        refine ⟨f0, l1, [], _, rfl, rfl, Eq.trans (upd_ne nf0) hf0', upd_same, sz2, fun f1 n1 => ?_⟩
        exact ⟨s1.trans (same_upd n1), f1, rfl, s1.free n1, upd_same⟩
      · refine ⟨s0, f0, rfl, n0, ?_⟩
        rw [show ([1, 2] : List Nat) = [1] ++ [2] from rfl, acc_no z]
        exact hf0
    clear hf0 s0 n0
    rintro σ' G ⟨s0, f0, rfl, n0, hf0⟩
    -- Flat
    refine ⟨fun σ' H' => Same H H' ∧ ∃ f1, σ' = [some (.ref a), some (.ref f1), none, none, none, none] ∧ H f1 = none ∧ H' f1 = some (.lst (acc [1, 2, 5] i ws)), ?_, ?_⟩
    · refine ⟨_, rfl, a, D, d, none, _, _, (5 == i), rfl, (hx s0).1, (hx s0).2, N.ec, .own _, N.q5, _, rfl, ite2 (fun z => ?_) (fun z => ?_)⟩
      · have ei : 5 = i := beq_iff_eq.mp z
        subst ei
        obtain ⟨v0, rfl⟩ := List.length_eq_one_iff.mp wl
        obtain ⟨no0, dd0, fs0, e0, q0, lk0⟩ := hf "choice" v0 (by simp [Fl])
        subst e0
        refine ⟨_, rfl, _, rfl, a, D, dd0, fs0, v0, rfl, (hx s0).1, s0 _ _ q0, xf, no0, lk0, sz2, fun l1 m1 => ?_⟩
        have s1 := s0.trans (same_upd (o := .lst [V.str "flat", v0]) m1)
        have nf0 : f0 ≠ l1 := ne_of_none hf0 m1
        have hf0' : G f0 = some (.lst []) := hf0
        refine ⟨f0, l1, [], _, rfl, rfl, Eq.trans (upd_ne nf0) hf0', upd_same, sz2, fun f1 n1 => ?_⟩
        exact ⟨s1.trans (same_upd n1), f1, rfl, s1.free n1, upd_same⟩
      · refine ⟨s0, f0, rfl, n0, ?_⟩
        rw [show ([1, 2, 5] : List Nat) = [1, 2] ++ [5] from rfl, acc_no z]
        exact hf0
    clear hf0 s0 n0
    rintro σ' G ⟨s0, f0, rfl, n0, hf0⟩
    -- Lifted
    refine ⟨fun σ' H' => Same H H' ∧ ∃ f1, σ' = [some (.ref a), some (.ref f1), none, none, none, none] ∧ H f1 = none ∧ H' f1 = some (.lst (acc [1, 2, 5, 7] i ws)), ?_, ?_⟩
    · refine ⟨_, rfl, a, D, d, none, _, _, (7 == i), rfl, (hx s0).1, (hx s0).2, N.ec, .own _, N.q7, _, rfl, ite2 (fun z => ?_) (fun z => ?_)⟩
      · have ei : 7 = i := beq_iff_eq.mp z
        subst ei
        obtain ⟨v0, v1, rfl⟩ := len2 wl
        obtain ⟨no0, dd0, fs0, e0, q0, lk0⟩ := hf "row" v0 (by simp [Fl])
        subst e0
        obtain ⟨no1, dd1, fs1, e1, q1, lk1⟩ := hf "column" v1 (by simp [Fl])
        cases e1
        refine ⟨_, rfl, _, rfl, a, D, dd0, fs0, v0, rfl, (hx s0).1, s0 _ _ q0, xf, no0, lk0, _, rfl, a, D, dd0, fs1, v1, rfl, (hx s0).1, s0 _ _ q1, xf, no1, lk1, sz3, fun l1 m1 => ?_⟩
        have s1 := s0.trans (same_upd (o := .lst [V.str "lifted", v0, v1]) m1)
        have nf0 : f0 ≠ l1 := ne_of_none hf0 m1
        have hf0' : G f0 = some (.lst []) := hf0
        refine ⟨f0, l1, [], _, rfl, rfl, Eq.trans (upd_ne nf0) hf0', upd_same, sz3, fun f1 n1 => ?_⟩
        exact ⟨s1.trans (same_upd n1), f1, rfl, s1.free n1, upd_same⟩
      · refine ⟨s0, f0, rfl, n0, ?_⟩
        rw [show ([1, 2, 5, 7] : List Nat) = [1, 2, 5] ++ [7] from rfl, acc_no z]
        exact hf0
    clear hf0 s0 n0
    rintro σ' G ⟨s0, f0, rfl, n0, hf0⟩
    -- Dipped
    refine ⟨fun σ' H' => Same H H' ∧ ∃ f1, σ' = [some (.ref a), some (.ref f1), none, none, none, none] ∧ H f1 = none ∧ H' f1 = some (.lst (acc [1, 2, 5, 7, 9] i ws)), ?_, ?_⟩
    · refine ⟨_, rfl, a, D, d, none, _, _, (9 == i), rfl, (hx s0).1, (hx s0).2, N.ec, .own _, N.q9, _, rfl, ite2 (fun z => ?_) (fun z => ?_)⟩
      · have ei : 9 = i := beq_iff_eq.mp z
        subst ei
        obtain ⟨v0, rfl⟩ := List.length_eq_one_iff.mp wl
        obtain ⟨no0, dd0, fs0, e0, q0, lk0⟩ := hf "row" v0 (by simp [Fl])
        subst e0
        refine ⟨_, rfl, _, rfl, a, D, dd0, fs0, v0, rfl, (hx s0).1, s0 _ _ q0, xf, no0, lk0, sz2, fun l1 m1 => ?_⟩
        have s1 := s0.trans (same_upd (o := .lst [V.str "dipped", v0]) m1)
        have nf0 : f0 ≠ l1 := ne_of_none hf0 m1
        have hf0' : G f0 = some (.lst []) := hf0
        refine ⟨f0, l1, [], _, rfl, rfl, Eq.trans (upd_ne nf0) hf0', upd_same, sz2, fun f1 n1 => ?_⟩
        exact ⟨s1.trans (same_upd n1), f1, rfl, s1.free n1, upd_same⟩
      · refine ⟨s0, f0, rfl, n0, ?_⟩
        rw [show ([1, 2, 5, 7, 9] : List Nat) = [1, 2, 5, 7] ++ [9] from rfl, acc_no z]
        exact hf0
    clear hf0 s0 n0
    rintro σ' G ⟨s0, f0, rfl, n0, hf0⟩
    -- NotOne
    refine ⟨fun σ' H' => Same H H' ∧ ∃ f1, σ' = [some (.ref a), some (.ref f1), none, none, none, none] ∧ H f1 = none ∧ H' f1 = some (.lst (acc [1, 2, 5, 7, 9, 10] i ws)), ?_, ?_⟩
    · refine ⟨_, rfl, a, D, d, none, _, _, (10 == i), rfl, (hx s0).1, (hx s0).2, N.ec, .own _, N.q10, _, rfl, ite2 (fun z => ?_) (fun z => ?_)⟩
      · have ei : 10 = i := beq_iff_eq.mp z
        subst ei
        obtain ⟨v0, rfl⟩ := List.length_eq_one_iff.mp wl
        obtain ⟨no0, dd0, fs0, e0, q0, lk0⟩ := hf "choice" v0 (by simp [Fl])
        subst e0
        refine ⟨_, rfl, _, rfl, a, D, dd0, fs0, v0, rfl, (hx s0).1, s0 _ _ q0, xf, no0, lk0, sz2, fun l1 m1 => ?_⟩
        have s1 := s0.trans (same_upd (o := .lst [V.str "not one", v0]) m1)
        have nf0 : f0 ≠ l1 := ne_of_none hf0 m1
        have hf0' : G f0 = some (.lst []) := hf0
        refine ⟨f0, l1, [], _, rfl, rfl, Eq.trans (upd_ne nf0) hf0', upd_same, sz2, fun f1 n1 => ?_⟩
        exact ⟨s1.trans (same_upd n1), f1, rfl, s1.free n1, upd_same⟩
      · refine ⟨s0, f0, rfl, n0, ?_⟩
        rw [show ([1, 2, 5, 7, 9, 10] : List Nat) = [1, 2, 5, 7, 9] ++ [10] from rfl, acc_no z]
        exact hf0
    clear hf0 s0 n0
    rintro σ' G ⟨s0, f0, rfl, n0, hf0⟩
    -- NoName
    refine ⟨fun σ' H' => Same H H' ∧ ∃ f1, σ' = [some (.ref a), some (.ref f1), none, none, none, none] ∧ H f1 = none ∧ H' f1 = some (.lst (acc [1, 2, 5, 7, 9, 10, 13] i ws)), ?_, ?_⟩
    · refine ⟨_, rfl, a, D, d, none, _, _, (13 == i), rfl, (hx s0).1, (hx s0).2, N.ec, .own _, N.q13, _, rfl, ite2 (fun z => ?_) (fun z => ?_)⟩
      · have ei : 13 = i := beq_iff_eq.mp z
        subst ei
        obtain ⟨v0, rfl⟩ := List.length_eq_one_iff.mp wl
        obtain ⟨no0, dd0, fs0, e0, q0, lk0⟩ := hf "name" v0 (by simp [Fl])
        subst e0
        refine ⟨_, rfl, _, rfl, a, D, dd0, fs0, v0, rfl, (hx s0).1, s0 _ _ q0, xf, no0, lk0, sz2, fun l1 m1 => ?_⟩
        have s1 := s0.trans (same_upd (o := .lst [V.str "name", v0]) m1)
        have nf0 : f0 ≠ l1 := ne_of_none hf0 m1
        have hf0' : G f0 = some (.lst []) := hf0
        refine ⟨f0, l1, [], _, rfl, rfl, Eq.trans (upd_ne nf0) hf0', upd_same, sz2, fun f1 n1 => ?_⟩
        exact ⟨s1.trans (same_upd n1), f1, rfl, s1.free n1, upd_same⟩
      · refine ⟨s0, f0, rfl, n0, ?_⟩
        rw [show ([1, 2, 5, 7, 9, 10, 13] : List Nat) = [1, 2, 5, 7, 9, 10] ++ [13] from rfl, acc_no z]
        exact hf0
    clear hf0 s0 n0
    rintro σ' G ⟨s0, f0, rfl, n0, hf0⟩
    -- plain
    refine ⟨_, rfl, a, D, d, none, _, _, (3 == i), rfl, (hx s0).1, (hx s0).2, N.ec, .own _, N.q3, ?_⟩
    refine ⟨_, rfl, a, D, d, none, _, _, (4 == i), rfl, (hx s0).1, (hx s0).2, N.ec, .own _, N.q4, ?_⟩
    refine ⟨_, rfl, a, D, d, none, _, _, (6 == i), rfl, (hx s0).1, (hx s0).2, N.ec, .own _, N.q6, ?_⟩
    refine ⟨sz3, fun p1 m2 => ?_⟩
    have s3 := s0.trans (same_upd (o := .lst [.bl (3 == i), .bl (4 == i), .bl (6 == i)]) m2)
    refine ⟨_, rfl, ?_⟩
    refine ⟨_, rfl, a, D, d, none, _, _, (8 == i), rfl, (hx s3).1, (hx s3).2, N.ec, .own _, N.q8, ?_⟩
    refine ⟨_, rfl, a, D, d, none, _, _, (11 == i), rfl, (hx s3).1, (hx s3).2, N.ec, .own _, N.q11, ?_⟩
    refine ⟨_, rfl, a, D, d, none, _, _, (12 == i), rfl, (hx s3).1, (hx s3).2, N.ec, .own _, N.q12, ?_⟩
    refine ⟨sz3, fun p2 m3 => ?_⟩
    have np12 : p1 ≠ p2 := ne_of_none upd_same m3
    refine ⟨p1, p2, _, _, rfl, rfl, Eq.trans (upd_ne np12) upd_same, upd_same, by show 6 ≤ sizeLine; decide, fun p3 m4 => ?_⟩
    have k5 : Same G (upd (upd (upd G p1 (.lst [.bl (3 == i), .bl (4 == i), .bl (6 == i)])) p2 (.lst [.bl (8 == i), .bl (11 == i), .bl (12 == i)])) p3 (.lst ([.bl (3 == i), .bl (4 == i), .bl (6 == i)] ++ [.bl (8 == i), .bl (11 == i), .bl (12 == i)]))) := ((same_upd m2).trans (same_upd m3)).trans (same_upd m4)
    have hp3 : (upd (upd (upd G p1 (.lst [.bl (3 == i), .bl (4 == i), .bl (6 == i)])) p2 (.lst [.bl (8 == i), .bl (11 == i), .bl (12 == i)])) p3 (.lst ([.bl (3 == i), .bl (4 == i), .bl (6 == i)] ++ [.bl (8 == i), .bl (11 == i), .bl (12 == i)]))) p3 = some (.lst (P6.map fun p => V.bl (p.1 == i))) := upd_same
    show tSeq _ _ _ _ (upd (upd (upd G p1 (.lst [.bl (3 == i), .bl (4 == i), .bl (6 == i)])) p2 (.lst [.bl (8 == i), .bl (11 == i), .bl (12 == i)])) p3 (.lst ([.bl (3 == i), .bl (4 == i), .bl (6 == i)] ++ [.bl (8 == i), .bl (11 == i), .bl (12 == i)])))
    generalize upd (upd (upd G p1 (.lst [.bl (3 == i), .bl (4 == i), .bl (6 == i)])) p2 (.lst [.bl (8 == i), .bl (11 == i), .bl (12 == i)])) p3 (.lst ([.bl (3 == i), .bl (4 == i), .bl (6 == i)] ++ [.bl (8 == i), .bl (11 == i), .bl (12 == i)])) = G2 at k5 hp3 ⊢
    -- words
    refine ⟨by show 6 ≤ sizeLine; decide, fun wd m5 => ?_⟩
    have s6 := same_upd (o := .lst [V.str "no row", .str "choice", .str "saying", .str "cover", .str "text", .str "line"]) m5
    have hw : upd G2 wd (.lst [V.str "no row", .str "choice", .str "saying", .str "cover", .str "text", .str "line"]) wd = some (.lst (P6.map fun p => V.str p.2)) := upd_same
    generalize hG3 : upd G2 wd (.lst [V.str "no row", .str "choice", .str "saying", .str "cover", .str "text", .str "line"]) = G3 at s6 hw ⊢
    have hp3' := s6 _ _ hp3
    refine ⟨_, rfl, _, rfl, _, rfl, wd, p3, _, _, rfl, .inl (.inl hw), .inl (.inl hp3'), fun D2 nD => ?_⟩
    refine lc_it (walk_zip (K := K) (a := wd) (b := p3) (n := 6) rfl) (fun j H' => Same G3 H' ∧ H' D2 = some (.lst (pw i j))) ⟨same_upd nD, upd_same⟩ (fun j H' _ ⟨s', _⟩ => ⟨.inl (.inl (s' _ _ hw)), .inl (.inl (s' _ _ hp3'))⟩) ?_ ?_
    · rintro j x G4 G4' hj ⟨s7, hD⟩ ⟨Tp, x1, y1, rfl, nT, rfl, e1, e2⟩
      have nDT : D2 ≠ Tp := ne_of_none hD nT
      have s8 := s7.trans (same_upd (o := .tup [x1, y1]) nT)
      have e1' : (P6.map fun p => V.str p.2)[j]? = some x1 := e1
      have e2' : (P6.map fun p => V.bl (p.1 == i))[j]? = some y1 := e2
      rw [List.getElem?_map] at e1' e2'
      obtain ⟨⟨k1, t1⟩, hk, rfl⟩ := Option.map_eq_some_iff.mp e1'
      rw [hk] at e2'
      have hy : y1 = .bl (k1 == i) := (Option.some.inj e2').symm
      subst hy
      refine ⟨Tp, _, rfl, .inl (.inl upd_same), rfl, _, _, rfl, _, _, rfl, rfl, rfl, ?_⟩
      have st := pw_step (i := i) hk
      refine ⟨_, rfl, _, rfl, ite2 (fun z => ⟨_, rfl, _, Eq.trans (upd_ne nDT) hD, Nat.lt_of_le_of_lt (pw_len i j) (by decide), same_mut s8 nD, ?_⟩) (fun z => ⟨s8, ?_⟩)⟩
      · show upd _ D2 _ D2 = _
        rw [upd_same, st, if_pos z]
      · rw [upd_ne nDT, hD, st, if_neg z, List.append_nil]
    · rintro G4 ⟨s7, hD⟩
      have t4 : Same H G4 := ((s0.trans k5).trans s6).trans s7
      have hf4 : G4 f0 = some (.lst (acc L7 i ws)) := s7 _ _ (s6 _ _ (k5 _ _ hf0))
      have hD' : G4 D2 = some (.lst (pw i 6)) := hD
      have all := acc_all hi wl
      have small : (acc L7 i ws).length + (pw i 6).length ≤ sizeLine := by
        rw [← List.length_append, all, List.length_append]
        have w1 : (Wd i).length ≤ 1 := by
          rcases (show i = 0 ∨ i = 1 ∨ i = 2 ∨ i = 3 ∨ i = 4 ∨ i = 5 ∨ i = 6 ∨ i = 7 ∨ i = 8 ∨ i = 9 ∨ i = 10 ∨ i = 11 ∨ i = 12 ∨ i = 13 by omega) with rfl | rfl | rfl | rfl | rfl | rfl | rfl | rfl | rfl | rfl | rfl | rfl | rfl | rfl <;> decide
        have w2 : (Fl i).length ≤ 2 := by
          rcases (show i = 0 ∨ i = 1 ∨ i = 2 ∨ i = 3 ∨ i = 4 ∨ i = 5 ∨ i = 6 ∨ i = 7 ∨ i = 8 ∨ i = 9 ∨ i = 10 ∨ i = 11 ∨ i = 12 ∨ i = 13 by omega) with rfl | rfl | rfl | rfl | rfl | rfl | rfl | rfl | rfl | rfl | rfl | rfl | rfl | rfl <;> decide
        exact Nat.le_trans (show _ ≤ 3 by rw [wl]; omega) sz3
      refine ⟨f0, D2, _, _, rfl, rfl, hf4, hD', small, fun f2 n2 => ?_⟩
      rw [all]
      have t5 := t4.trans (same_upd (o := .lst (Wd i ++ ws)) n2)
      refine ⟨_, rfl, rfl, _, rfl, iteT ?_⟩
      refine ⟨_, rfl, a, D, d, none, _, _, true, rfl, (hx t5).1, (hx t5).2, N.ec, .own _, N.sl, _, rfl, iteF ?_⟩
      refine ⟨_, rfl, a, D, d, none, _, _, true, rfl, (hx t5).1, (hx t5).2, N.ec, .ty _, N.ve, _, rfl, iteF ?_⟩
      exact ⟨_, rfl, q f2 _ t5 (t4.free n2) upd_same⟩
end
section
variable {P : Program} {w : World} {K : PySem.W.Frag} {mg : Str → Option Value} {base : Heap} {c : Adr}
/-! ### heaps but for one object -/
theorem del_kp {p : Addr} {H H' : Hp} (k : Kp p H H') : Same (del H p) (del H' p) := fun b o e => by
  by_cases z : b = p
  · subst z
    rw [del_same] at e
    cases e
  · rw [del_ne z] at e
    rw [del_ne z]
    exact k b o z e
theorem del_le {p : Addr} {H : Hp} : Same (del H p) H := fun b o e => by
  by_cases z : b = p
  · subst z
    rw [del_same] at e
    cases e
  · rw [del_ne z] at e
    exact e
theorem del_of {p : Addr} {H H' : Hp} (s : Same H H') (n : H p = none) : Same H (del H' p) := fun b o e => by
  rw [del_ne (ne_of_none e n)]
  exact s b o e
theorem del_new {p x : Addr} {H : Hp} {o : HO} (n : x ≠ p) : del (upd H x o) p x = some o := by
  rw [del_ne n, upd_same]
theorem sqt_same {H H' : Hp} {a : Addr} {xs : List V} (s : Same H H') (h : SqT K H a xs) : SqT K H' a xs := by
  rcases h with (h | ⟨o, h⟩) | h
  · exact .inl (.inl (s _ _ h))
  · exact .inl (.inr ⟨o, s _ _ h⟩)
  · exact .inr h
mutual
theorem dp_same {H H' : Hp} (s : Same H H') : ∀ {d : PyData} {v : V}, Dp K H v d → Dp K H' v d
  | _, _, .non => .non
  | _, _, .bl b => .bl b
  | _, _, .int i => .int i
  | _, _, .str x => .str x
  | _, _, .lst h t => .lst (s.seq h) (dps_same s t)
  | _, _, .tup h t => .tup (sqt_same s h) (dps_same s t)
theorem dps_same {H H' : Hp} (s : Same H H') : ∀ {ds : List PyData} {vs : List V}, DpAll K H vs ds → DpAll K H' vs ds
  | _, _, .nil => .nil
  | _, _, .cons h t => .cons (dp_same s h) (dps_same s t)
end
theorem dps_app {H : Hp} : ∀ {vs us : List V} {ds es : List PyData}, DpAll K H vs ds → DpAll K H us es → DpAll K H (vs ++ us) (ds ++ es)
  | _, _, _, _, .nil, h => h
  | _, _, _, _, .cons h t, q => .cons h (dps_app t q)
/-! ### exceptions and what is told of them -/
def dWd : Nat → List PyData
  | 1 => [.str "number"]
  | 2 => [.str "table"]
  | 5 => [.str "flat"]
  | 7 => [.str "lifted"]
  | 9 => [.str "dipped"]
  | 10 => [.str "not one"]
  | 13 => [.str "name"]
  | 3 => [.str "no row"]
  | 4 => [.str "choice"]
  | 6 => [.str "saying"]
  | 8 => [.str "cover"]
  | 11 => [.str "text"]
  | 12 => [.str "line"]
  | _ => []
theorem dp_wd {H : Hp} {i : Nat} (hi : i ≤ 13) : DpAll K H (Wd i) (dWd i) := by
  rcases (show i = 0 ∨ i = 1 ∨ i = 2 ∨ i = 3 ∨ i = 4 ∨ i = 5 ∨ i = 6 ∨ i = 7 ∨ i = 8 ∨ i = 9 ∨ i = 10 ∨ i = 11 ∨ i = 12 ∨ i = 13 by omega) with rfl | rfl | rfl | rfl | rfl | rfl | rfl | rfl | rfl | rfl | rfl | rfl | rfl | rfl <;>
    first
      | exact .nil
      | exact .cons (.str _) .nil
inductive Mad (K : PySem.W.Frag) (c : Adr) (H : Hp) : List V → List PyData → Prop
  | nil : Mad K c H [] []
  | cons {a : Addr} {i : Nat} {vs es : List V} {dv ds : List PyData} : Exc K c H a i vs → DpAll K H vs dv → Mad K c H es ds → Mad K c H (.ref a :: es) (.list (dWd i ++ dv) :: ds)
theorem Mad.same {H H' : Hp} (s : Same H H') : ∀ {es : List V} {ds : List PyData}, Mad K c H es ds → Mad K c H' es ds
  | _, _, .nil => .nil
  | _, _, .cons h t r => .cons (h.same s) (dps_same s t) (r.same s)
theorem Mad.app {H : Hp} : ∀ {vs us : List V} {ds es : List PyData}, Mad K c H vs ds → Mad K c H us es → Mad K c H (vs ++ us) (ds ++ es)
  | _, _, _, _, .nil, h => h
  | _, _, _, _, .cons h t r, q => .cons h t (r.app q)
theorem Mad.len {H : Hp} : ∀ {vs : List V} {ds : List PyData}, Mad K c H vs ds → vs.length = ds.length
  | _, _, .nil => rfl
  | _, _, .cons _ _ r => by rw [List.length_cons, List.length_cons, r.len]
theorem Mad.at {H : Hp} : ∀ {vs : List V} {ds : List PyData}, Mad K c H vs ds → ∀ {j : Nat} {x : V}, vs[j]? = some x → ∃ (a : Addr) (i : Nat) (us : List V) (dv : List PyData), x = .ref a ∧ Exc K c H a i us ∧ DpAll K H us dv ∧ ds[j]? = some (.list (dWd i ++ dv))
  | _, _, .nil, j, x, e => by simp at e
  | _, _, .cons h t r, 0, x, e => by
    cases (Option.some.inj e)
    exact ⟨_, _, _, _, rfl, h, t, rfl⟩
  | _, _, .cons h t r, j + 1, x, e => r.at (j := j) e
/-- [kind(x) for x in es] : the told data -/
theorem kinds_it {D : Addr} {ds : List PyData} {j i : Nat} {us rs : List V} {dv : List PyData} {r : Addr} {G G' : Hp} (e : ds[j]? = some (.list (dWd i ++ dv))) (hi : i ≤ 13)
    (hG : DpAll K (del G D) rs (ds.take j)) (s : Same G G') (du : DpAll K (del G D) us dv) (nr : G r = none) (hr : G' r = some (.lst (Wd i ++ us))) (nD : r ≠ D) : DpAll K (del (upd G' D (.lst (rs ++ [.ref r]))) D) (rs ++ [.ref r]) (ds.take (j + 1)) := by
  have s1 : Same (del G D) (del (upd G' D (.lst (rs ++ [.ref r]))) D) := del_kp (fun b o n e => by
    rw [upd_ne n]
    exact s b o e)
  rw [List.take_add_one, e]
  refine dps_app (dps_same s1 hG) (.cons (.lst (xs := Wd i ++ us) (.inl (.inl ?_)) (dps_app (dp_wd hi) (dps_same s1 du))) .nil)
  rw [del_ne nD, upd_ne nD]
  exact hr
theorem Exc.le {H : Hp} {a : Addr} {i : Nat} {vs : List V} (h : Exc K c H a i vs) : i ≤ 13 := by
  obtain ⟨_, _, _, _, _, _, _, _, z⟩ := h.ex
  exact z
end
section
variable {P : Program} {w : World} {K : PySem.W.Frag} {mg : Str → Option Value} {base : Heap} {c : Adr}
/-- a class without fields -/
structure PlC (K : PySem.W.Frag) (c : Adr) (D : Addr) (i : Nat) : Prop where
  x : PySem.W.excIn K D [.type "ValueError", .type "Exception", .type "BaseException", .type "object"] "ValueError.__new__" = true
  k : PySem.W.keepIn K (.ref D) = true
  kd : KindOf K c D (fun j => j == i)
  xf : XfC K D
theorem PlC.exc {D a : Addr} {i : Nat} {H : Hp} (p : PlC K c D i) (h : H a = some (exv a (.ref D) none)) (hf : Fl i = [] := by rfl) (hi : i ≤ 13 := by decide) : Exc K c H a i [] :=
  ⟨D, none, h, p.kd, p.xf, (fun e z => nomatch z), by rw [hf]; rfl, fun f v z => by rw [hf] at z; exact absurd z List.not_mem_nil, hi⟩
theorem tyes {σ : L2.St} {H : Hp} {Q : Bool → Hp → Prop} (h : Q true H) : tYes σ H Q := h
def dP : List PyData := [3, 4, 6, 8, 11, 12, 3, 4, 6, 8, 11, 12].map fun i => .list (dWd i)
def W6 : List Str := ["no row", "choice", "saying", "cover", "text", "line"]
theorem dP_words : dP = (W6 ++ W6).map fun t => PyData.list [.str t] := rfl
theorem sh_dP : SeqAt.shaped (.list dP) = true := by decide +kernel
theorem lay_dP : PyData.canLay0 (.list dP) = true := by decide +kernel
def spPlain : Sp := fun vs H Q _ => vs = [] ∧ ∀ H', Same H H' → Q (.bl true) H'
abbrev s__law_plain : Stmt := top 20
theorem sc__law_plain : FnScope ["_law_some", "_law_more", "_law_words", "_law_one", "_law_word"] [] (defScope s__law_plain) := ⟨rfl, rfl, rfl, by decide +kernel, rfl, by decide +kernel, by decide +kernel⟩
theorem ok_plain {f : Addr} {fd : FuncData} {k : Nat} (F : Fun K "_law_plain" "_law_plain" s__law_plain f fd) (T : Txt K mg c) (p3 : PlC K c c.NoRow 3) (p4 : PlC K c c.NoChoice 4) (p6 : PlC K c c.NoSaying 6) (p8 : PlC K c c.NoCover 8) (p11 : PlC K c c.NoText 11) (p12 : PlC K c c.NoLine 12)
    (c__law_kind : Cal P w K mg base 1 "_law_kind" ["_law_error"] (spKind K c)) : FnOk P w K mg base CX0 (k + 1 + 1) f fd [] spPlain := by
  refine F.ok sc__law_plain (fun vs H Q E h => ?_) (fun cdv A outer s H vs Q E hr h => ?_)
  · obtain ⟨rfl, _⟩ := h
    rfl
  · obtain ⟨rfl, q⟩ := h
    have hr : Room 1 _ := hr.mono (Nat.le_add_left 1 k)
    refine ⟨_, (pss_cons (ps_set (i := 0) sc__law_plain.nd rfl (Or.inl rfl) (pe_lst (pa_cons (pe_mkP0 PySem.F.excBase_ValueError p3.x T.g_NoRow p3.k (by rfl)) (pa_cons (pe_mkP0 PySem.F.excBase_ValueError p4.x T.g_NoChoice p4.k (by rfl)) (pa_cons (pe_mkP0 PySem.F.excBase_ValueError p6.x T.g_NoSaying p6.k (by rfl)) (pa_cons (pe_mkP0 PySem.F.excBase_ValueError p8.x T.g_NoCover p8.k (by rfl)) (pa_cons (pe_mkP0 PySem.F.excBase_ValueError p11.x T.g_NoText p11.k (by rfl)) (pa_cons (pe_mkP0 PySem.F.excBase_ValueError p12.x T.g_NoLine p12.k (by rfl)) pa_nil))))))))
      (pss_cons (ps_set (i := 1) sc__law_plain.nd rfl (Or.inl rfl) (pe_lst (pa_cons (pe_mkP PySem.F.excBase_ValueError p3.x T.g_NoRow p3.k (by rfl) (pa_cons pe_str pa_nil)) (pa_cons (pe_mkP PySem.F.excBase_ValueError p4.x T.g_NoChoice p4.k (by rfl) (pa_cons pe_str pa_nil)) (pa_cons (pe_mkP PySem.F.excBase_ValueError p6.x T.g_NoSaying p6.k (by rfl) (pa_cons pe_str pa_nil)) (pa_cons (pe_mkP PySem.F.excBase_ValueError p8.x T.g_NoCover p8.k (by rfl) (pa_cons pe_str pa_nil)) (pa_cons (pe_mkP PySem.F.excBase_ValueError p11.x T.g_NoText p11.k (by rfl) (pa_cons pe_str pa_nil)) (pa_cons (pe_mkP PySem.F.excBase_ValueError p12.x T.g_NoLine p12.k (by rfl) (pa_cons pe_str pa_nil)) pa_nil))))))))
      (pss_cons (ps_set (i := 2) sc__law_plain.nd rfl (Or.inl rfl) (pe_lst (pa_cons pe_str (pa_cons pe_str (pa_cons pe_str (pa_cons pe_str (pa_cons pe_str (pa_cons pe_str pa_nil))))))))
      (pss_one (ps_ret (pe_cmpR (op_eqD hr.units) (pe_lc (own := [("_law_one", 3)]) (by rfl) sc__law_plain.nd (pi_list (pe_op op_cat (pv 0) (pv 1))) (blkOk_by (own := [("_law_one", 3)]) (N := ["_law_some", "_law_more", "_law_words", "_law_one", "_law_word"]) (sc := defScope s__law_plain) (by decide +kernel)) (fun _ _ _ _ _ => (pg_name (i := 3) sc__law_plain.nd rfl (Or.inl rfl))) (fun _ _ _ _ _ => pts_nil) (fun _ _ _ _ _ => (pe_cal c__law_kind hr (by rfl) (pa_cons (pv 3) pa_nil)))) (pe_lc (own := [("_law_word", 4)]) (by rfl) sc__law_plain.nd (pi_list (pe_op op_cat (pv 2) (pv 2))) (blkOk_by (own := [("_law_word", 4)]) (N := ["_law_some", "_law_more", "_law_words", "_law_one", "_law_word"]) (sc := defScope s__law_plain) (by decide +kernel)) (fun _ _ _ _ _ => (pg_name (i := 4) sc__law_plain.nd rfl (Or.inl rfl))) (fun _ _ _ _ _ => pts_nil) (fun _ _ _ _ _ => (pe_lst (pa_cons (pv 4) pa_nil)))) (nomark _))))))), ?_⟩
    have s0 := Same.refl H
    refine ⟨by decide, fun e00 n00 => ?_⟩
    have u := same_upd (o := exv e00 (.ref c.NoRow) none) n00
    have x00 : Exc K c (upd H e00 (exv e00 (.ref c.NoRow) none)) e00 3 [] := p3.exc upd_same
    have s0 := s0.trans u
    generalize upd H e00 (exv e00 (.ref c.NoRow) none) = G00 at x00 s0 ⊢
    clear u n00
    refine ⟨by decide, fun e01 n01 => ?_⟩
    have u := same_upd (o := exv e01 (.ref c.NoChoice) none) n01
    have x01 : Exc K c (upd G00 e01 (exv e01 (.ref c.NoChoice) none)) e01 4 [] := p4.exc upd_same
    have s0 := s0.trans u
    have x00 := x00.same u
    generalize upd G00 e01 (exv e01 (.ref c.NoChoice) none) = G01 at x01 s0 x00 ⊢
    clear u n01
    refine ⟨by decide, fun e02 n02 => ?_⟩
    have u := same_upd (o := exv e02 (.ref c.NoSaying) none) n02
    have x02 : Exc K c (upd G01 e02 (exv e02 (.ref c.NoSaying) none)) e02 6 [] := p6.exc upd_same
    have s0 := s0.trans u
    have x00 := x00.same u
    have x01 := x01.same u
    generalize upd G01 e02 (exv e02 (.ref c.NoSaying) none) = G02 at x02 s0 x00 x01 ⊢
    clear u n02
    refine ⟨by decide, fun e03 n03 => ?_⟩
    have u := same_upd (o := exv e03 (.ref c.NoCover) none) n03
    have x03 : Exc K c (upd G02 e03 (exv e03 (.ref c.NoCover) none)) e03 8 [] := p8.exc upd_same
    have s0 := s0.trans u
    have x00 := x00.same u
    have x01 := x01.same u
    have x02 := x02.same u
    generalize upd G02 e03 (exv e03 (.ref c.NoCover) none) = G03 at x03 s0 x00 x01 x02 ⊢
    clear u n03
    refine ⟨by decide, fun e04 n04 => ?_⟩
    have u := same_upd (o := exv e04 (.ref c.NoText) none) n04
    have x04 : Exc K c (upd G03 e04 (exv e04 (.ref c.NoText) none)) e04 11 [] := p11.exc upd_same
    have s0 := s0.trans u
    have x00 := x00.same u
    have x01 := x01.same u
    have x02 := x02.same u
    have x03 := x03.same u
    generalize upd G03 e04 (exv e04 (.ref c.NoText) none) = G04 at x04 s0 x00 x01 x02 x03 ⊢
    clear u n04
    refine ⟨by decide, fun e05 n05 => ?_⟩
    have u := same_upd (o := exv e05 (.ref c.NoLine) none) n05
    have x05 : Exc K c (upd G04 e05 (exv e05 (.ref c.NoLine) none)) e05 12 [] := p12.exc upd_same
    have s0 := s0.trans u
    have x00 := x00.same u
    have x01 := x01.same u
    have x02 := x02.same u
    have x03 := x03.same u
    have x04 := x04.same u
    generalize upd G04 e05 (exv e05 (.ref c.NoLine) none) = G05 at x05 s0 x00 x01 x02 x03 x04 ⊢
    clear u n05
    refine ⟨by show 6 ≤ sizeLine; decide, fun l0 nl0 => ?_⟩
    have u := same_upd (o := .lst [V.ref e00, .ref e01, .ref e02, .ref e03, .ref e04, .ref e05]) nl0
    have hl0 : upd G05 l0 (.lst [V.ref e00, .ref e01, .ref e02, .ref e03, .ref e04, .ref e05]) l0 = some (.lst [V.ref e00, .ref e01, .ref e02, .ref e03, .ref e04, .ref e05]) := upd_same
    have s0 := s0.trans u
    have x00 := x00.same u
    have x01 := x01.same u
    have x02 := x02.same u
    have x03 := x03.same u
    have x04 := x04.same u
    have x05 := x05.same u
    generalize upd G05 l0 (.lst [V.ref e00, .ref e01, .ref e02, .ref e03, .ref e04, .ref e05]) = L0 at hl0 s0 x00 x01 x02 x03 x04 x05 ⊢
    clear u nl0
    refine ⟨by decide, fun e10 n10 => ?_⟩
    have u := same_upd (o := exv e10 (.ref c.NoRow) none) n10
    have x10 : Exc K c (upd L0 e10 (exv e10 (.ref c.NoRow) none)) e10 3 [] := p3.exc upd_same
    have s0 := s0.trans u
    have x00 := x00.same u
    have x01 := x01.same u
    have x02 := x02.same u
    have x03 := x03.same u
    have x04 := x04.same u
    have x05 := x05.same u
    have hl0 := u _ _ hl0
    generalize upd L0 e10 (exv e10 (.ref c.NoRow) none) = G10 at x10 s0 x00 x01 x02 x03 x04 x05 hl0 ⊢
    clear u n10
    refine ⟨by decide, fun e11 n11 => ?_⟩
    have u := same_upd (o := exv e11 (.ref c.NoChoice) none) n11
    have x11 : Exc K c (upd G10 e11 (exv e11 (.ref c.NoChoice) none)) e11 4 [] := p4.exc upd_same
    have s0 := s0.trans u
    have x00 := x00.same u
    have x01 := x01.same u
    have x02 := x02.same u
    have x03 := x03.same u
    have x04 := x04.same u
    have x05 := x05.same u
    have hl0 := u _ _ hl0
    have x10 := x10.same u
    generalize upd G10 e11 (exv e11 (.ref c.NoChoice) none) = G11 at x11 s0 x00 x01 x02 x03 x04 x05 hl0 x10 ⊢
    clear u n11
    refine ⟨by decide, fun e12 n12 => ?_⟩
    have u := same_upd (o := exv e12 (.ref c.NoSaying) none) n12
    have x12 : Exc K c (upd G11 e12 (exv e12 (.ref c.NoSaying) none)) e12 6 [] := p6.exc upd_same
    have s0 := s0.trans u
    have x00 := x00.same u
    have x01 := x01.same u
    have x02 := x02.same u
    have x03 := x03.same u
    have x04 := x04.same u
    have x05 := x05.same u
    have hl0 := u _ _ hl0
    have x10 := x10.same u
    have x11 := x11.same u
    generalize upd G11 e12 (exv e12 (.ref c.NoSaying) none) = G12 at x12 s0 x00 x01 x02 x03 x04 x05 hl0 x10 x11 ⊢
    clear u n12
    refine ⟨by decide, fun e13 n13 => ?_⟩
    have u := same_upd (o := exv e13 (.ref c.NoCover) none) n13
    have x13 : Exc K c (upd G12 e13 (exv e13 (.ref c.NoCover) none)) e13 8 [] := p8.exc upd_same
    have s0 := s0.trans u
    have x00 := x00.same u
    have x01 := x01.same u
    have x02 := x02.same u
    have x03 := x03.same u
    have x04 := x04.same u
    have x05 := x05.same u
    have hl0 := u _ _ hl0
    have x10 := x10.same u
    have x11 := x11.same u
    have x12 := x12.same u
    generalize upd G12 e13 (exv e13 (.ref c.NoCover) none) = G13 at x13 s0 x00 x01 x02 x03 x04 x05 hl0 x10 x11 x12 ⊢
    clear u n13
    refine ⟨by decide, fun e14 n14 => ?_⟩
    have u := same_upd (o := exv e14 (.ref c.NoText) none) n14
    have x14 : Exc K c (upd G13 e14 (exv e14 (.ref c.NoText) none)) e14 11 [] := p11.exc upd_same
    have s0 := s0.trans u
    have x00 := x00.same u
    have x01 := x01.same u
    have x02 := x02.same u
    have x03 := x03.same u
    have x04 := x04.same u
    have x05 := x05.same u
    have hl0 := u _ _ hl0
    have x10 := x10.same u
    have x11 := x11.same u
    have x12 := x12.same u
    have x13 := x13.same u
    generalize upd G13 e14 (exv e14 (.ref c.NoText) none) = G14 at x14 s0 x00 x01 x02 x03 x04 x05 hl0 x10 x11 x12 x13 ⊢
    clear u n14
    refine ⟨by decide, fun e15 n15 => ?_⟩
    have u := same_upd (o := exv e15 (.ref c.NoLine) none) n15
    have x15 : Exc K c (upd G14 e15 (exv e15 (.ref c.NoLine) none)) e15 12 [] := p12.exc upd_same
    have s0 := s0.trans u
    have x00 := x00.same u
    have x01 := x01.same u
    have x02 := x02.same u
    have x03 := x03.same u
    have x04 := x04.same u
    have x05 := x05.same u
    have hl0 := u _ _ hl0
    have x10 := x10.same u
    have x11 := x11.same u
    have x12 := x12.same u
    have x13 := x13.same u
    have x14 := x14.same u
    generalize upd G14 e15 (exv e15 (.ref c.NoLine) none) = G15 at x15 s0 x00 x01 x02 x03 x04 x05 hl0 x10 x11 x12 x13 x14 ⊢
    clear u n15
    refine ⟨by show 6 ≤ sizeLine; decide, fun l1 nl1 => ?_⟩
    have u := same_upd (o := .lst [V.ref e10, .ref e11, .ref e12, .ref e13, .ref e14, .ref e15]) nl1
    have hl1 : upd G15 l1 (.lst [V.ref e10, .ref e11, .ref e12, .ref e13, .ref e14, .ref e15]) l1 = some (.lst [V.ref e10, .ref e11, .ref e12, .ref e13, .ref e14, .ref e15]) := upd_same
    have s0 := s0.trans u
    have x00 := x00.same u
    have x01 := x01.same u
    have x02 := x02.same u
    have x03 := x03.same u
    have x04 := x04.same u
    have x05 := x05.same u
    have hl0 := u _ _ hl0
    have x10 := x10.same u
    have x11 := x11.same u
    have x12 := x12.same u
    have x13 := x13.same u
    have x14 := x14.same u
    have x15 := x15.same u
    generalize upd G15 l1 (.lst [V.ref e10, .ref e11, .ref e12, .ref e13, .ref e14, .ref e15]) = L1 at hl1 s0 x00 x01 x02 x03 x04 x05 hl0 x10 x11 x12 x13 x14 x15 ⊢
    clear u nl1
    -- words
    refine ⟨by show 6 ≤ sizeLine; decide, fun wd nw => ?_⟩
    have hw : upd L1 wd (.lst [V.str "no row", .str "choice", .str "saying", .str "cover", .str "text", .str "line"]) wd = some (.lst (W6.map V.str)) := upd_same
    have u := same_upd (o := .lst [V.str "no row", .str "choice", .str "saying", .str "cover", .str "text", .str "line"]) nw
    have mad : Mad K c L1 ([V.ref e00, .ref e01, .ref e02, .ref e03, .ref e04, .ref e05] ++ [V.ref e10, .ref e11, .ref e12, .ref e13, .ref e14, .ref e15]) dP := .cons x00 .nil (.cons x01 .nil (.cons x02 .nil (.cons x03 .nil (.cons x04 .nil (.cons x05 .nil (.cons x10 .nil (.cons x11 .nil (.cons x12 .nil (.cons x13 .nil (.cons x14 .nil (.cons x15 .nil .nil)))))))))))
    have s0 := s0.trans u
    have mad := mad.same u
    have hl0 := u _ _ hl0
    have hl1 := u _ _ hl1
    generalize upd L1 wd (.lst [V.str "no row", .str "choice", .str "saying", .str "cover", .str "text", .str "line"]) = M at hw s0 mad hl0 hl1 ⊢
    clear u nw x00 x01 x02 x03 x04 x05 x10 x11 x12 x13 x14 x15
    -- kinds
    refine ⟨_, rfl, _, rfl, l0, l1, _, _, rfl, rfl, hl0, hl1, by show 12 ≤ sizeLine; decide, fun b nb => ?_⟩
    have hb : upd M b (.lst ([V.ref e00, .ref e01, .ref e02, .ref e03, .ref e04, .ref e05] ++ [V.ref e10, .ref e11, .ref e12, .ref e13, .ref e14, .ref e15])) b = some (.lst ([V.ref e00, .ref e01, .ref e02, .ref e03, .ref e04, .ref e05] ++ [V.ref e10, .ref e11, .ref e12, .ref e13, .ref e14, .ref e15])) := upd_same
    have u := same_upd (o := .lst ([V.ref e00, .ref e01, .ref e02, .ref e03, .ref e04, .ref e05] ++ [V.ref e10, .ref e11, .ref e12, .ref e13, .ref e14, .ref e15])) nb
    have s0 := s0.trans u
    have mad := mad.same u
    have hw := u _ _ hw
    have len := mad.len
    show _
    generalize upd M b (.lst ([V.ref e00, .ref e01, .ref e02, .ref e03, .ref e04, .ref e05] ++ [V.ref e10, .ref e11, .ref e12, .ref e13, .ref e14, .ref e15])) = M2 at hb s0 mad hw ⊢
    generalize ([V.ref e00, .ref e01, .ref e02, .ref e03, .ref e04, .ref e05] ++ [V.ref e10, .ref e11, .ref e12, .ref e13, .ref e14, .ref e15]) = es at hb mad len ⊢
    refine ⟨b, rfl, ⟨_, .inl (.inl hb)⟩, fun D nD => ?_⟩
    refine lc_it (walk_list (K := K) (a := b) (xs := es)) (fun j G => Same M2 G ∧ ∃ rs : List V, G D = some (.lst rs) ∧ rs.length = j ∧ DpAll K (del G D) rs (dP.take j)) ⟨same_upd nD, [], upd_same, rfl, .nil⟩ (fun j G _ ⟨s', _⟩ => .inl (.inl (s' _ _ hb))) ?_ ?_
    · rintro j x G G' hj ⟨sg, rs, hD, lr, dd⟩ ⟨rfl, hx⟩
      obtain ⟨a, i, us, dv, rfl, X, du, ed⟩ := mad.at hx
      refine ⟨rfl, tyes (iteT ?_)⟩
      refine ⟨_, rfl, a, i, us, rfl, X.same sg, fun r G2 s2 nr hr2 => ?_⟩
      have nrD : r ≠ D := fun z => by
        rw [z, hD] at nr
        cases nr
      have l12 : dP.length = 12 := rfl
      refine ⟨rs, s2 _ _ hD, by rw [lr]; exact Nat.lt_of_lt_of_le (show j < 12 by omega) (by decide), same_mut (sg.trans s2) nD, _, upd_same, by rw [List.length_append, lr]; rfl, ?_⟩
      exact kinds_it ed X.le dd s2 (dps_same (del_of sg nD) du) nr hr2 nrD
    · rintro G ⟨sg, rs, hD, lr, dd⟩
      rw [len, List.take_length] at dd
      have hw := sg _ _ hw
      have s0 := s0.trans sg
      have dk : Dp K G (.ref D) (.list dP) := .lst (.inl (.inl hD)) (dps_same del_le dd)
      clear dd hD
      refine ⟨_, rfl, _, rfl, wd, wd, _, _, rfl, rfl, hw, hw, by show 12 ≤ sizeLine; decide, fun b2 nb2 => ?_⟩
      have hb2 : upd G b2 (.lst (W6.map V.str ++ W6.map V.str)) b2 = some (.lst ((W6 ++ W6).map V.str)) := upd_same
      have u := same_upd (o := .lst (W6.map V.str ++ W6.map V.str)) nb2
      have s0 := s0.trans u
      have dk := dp_same u dk
      generalize upd G b2 (.lst (W6.map V.str ++ W6.map V.str)) = G2 at hb2 s0 dk ⊢
      refine ⟨b2, rfl, ⟨_, .inl (.inl hb2)⟩, fun D2 nD2 => ?_⟩
      refine lc_it (walk_list (K := K) (a := b2) (xs := (W6 ++ W6).map V.str)) (fun j G => Same G2 G ∧ ∃ rs : List V, G D2 = some (.lst rs) ∧ rs.length = j ∧ DpAll K (del G D2) rs (dP.take j)) ⟨same_upd nD2, [], upd_same, rfl, .nil⟩ (fun j G _ ⟨s', _⟩ => .inl (.inl (s' _ _ hb2))) ?_ ?_
      · rintro j x G3 G3' hj ⟨sg, rs, hD, lr, dd⟩ ⟨rfl, hx⟩
        rw [List.getElem?_map] at hx
        obtain ⟨t, ht, rfl⟩ := Option.map_eq_some_iff.mp hx
        refine ⟨rfl, tyes (iteT ?_)⟩
        refine ⟨_, rfl, by show 1 ≤ sizeLine; decide, fun r nr => ?_⟩
        have nrD : r ≠ D2 := fun z => by
          rw [z, hD] at nr
          cases nr
        have s2 := same_upd (o := .lst [V.str t]) nr
        have jl : j < 12 := hj
        refine ⟨rs, s2 _ _ hD, by rw [lr]; exact Nat.lt_of_lt_of_le jl (by decide), same_mut (sg.trans s2) nD2, _, upd_same, by rw [List.length_append, lr]; rfl, ?_⟩
        have ed : dP[j]? = some (.list [.str t]) := by
          rw [dP_words, List.getElem?_map, ht]
          rfl
        have s1 : Same (del G3' D2) (del (upd (upd G3' r (.lst [V.str t])) D2 (.lst (rs ++ [.ref r]))) D2) := del_kp (fun b o n e => by
          rw [upd_ne n]
          exact s2 b o e)
        rw [List.take_add_one, ed]
        refine dps_app (dps_same s1 dd) (.cons (.lst (xs := [V.str t]) (.inl (.inl ?_)) (.cons (.str _) .nil)) .nil)
        rw [del_ne nrD, upd_ne nrD, upd_same]
      · rintro G3 ⟨sg, rs, hD, lr, dd⟩
        have dd : DpAll K (del G3 D2) rs dP := dd
        refine ⟨_, _, dp_same sg dk, .lst (.inl (.inl hD)) (dps_same del_le dd), sh_dP, sh_dP, ?_⟩
        rw [PySem.SeqAt.eqv_refl _ lay_dP]
        exact q _ (s0.trans sg)
end
section
variable {P : Program} {w : World} {K : PySem.W.Frag} {mg : Str → Option Value} {base : Heap}
theorem cdiv {i j : Int} {b : Nat} (h : 0 < j) (hb : j.natAbs < 2 ^ b) (h0 : 0 < b := by decide) (h9 : b ≤ 9000 := by decide) : CDivW i j := wide_div h hb h0 h9
theorem cmul {i j : Int} {a b : Nat} (ha : i.natAbs < 2 ^ a) (hb : j.natAbs < 2 ^ b) (h0 : 0 < a := by decide) (h1 : 0 < b := by decide) (h : a + b ≤ 1000000 := by decide) : CMulW i j := wide_mul ha hb h0 h1 h
/-! ### the law's draws -/
theorem fm {x m : Int} (h : 0 < m) : 0 ≤ x.fmod m ∧ x.fmod m < m := ⟨Int.fmod_nonneg_of_pos x h, Int.fmod_lt_of_pos x h⟩
theorem sm {x : Int} {n : Nat} (h0 : 0 ≤ x) (h : x < ((2 ^ n : Nat) : Int)) : x.natAbs < 2 ^ n := by omega
theorem fm64 {x m : Int} (h : 0 < m) (h2 : m < 18446744073709551616) : (x.fmod m).natAbs < 2 ^ 64 := by
  have := fm (x := x) h
  show (x.fmod m).natAbs < 18446744073709551616
  omega
def spMix : Sp := fun vs H Q _ => ∃ a b : Int, vs = [.int a, .int b] ∧ ∀ d : Int, Q (.int d) H
abbrev s__law_mixed : Stmt := top 16
theorem sc__law_mixed : FnScope ["_law_cell", "_law_k", "_law_number"] ["_law_cell", "_law_k"] (defScope s__law_mixed) := ⟨rfl, rfl, rfl, by decide +kernel, rfl, by decide +kernel, by decide +kernel⟩
theorem ok_mix {f : Addr} {fd : FuncData} {k : Nat} (F : Fun K "_law_mixed" "_law_mixed" s__law_mixed f fd) : FnOk P w K mg base CX0 (k + 1) f fd ["_law_cell", "_law_k"] spMix := by
  refine F.ok sc__law_mixed (fun vs H Q E h => ?_) (fun cdv A outer s H vs Q E hr h => ?_)
  · obtain ⟨a, b, rfl, _⟩ := h
    rfl
  · obtain ⟨a, b, rfl, q⟩ := h
    refine ⟨_, (pss_cons (ps_set (i := 2) sc__law_mixed.nd rfl (Or.inl rfl) (pe_op op_modN (pe_op op_add (pe_op op_add (pe_op op_mulW (pe_op op_modN (pv 0) pe_int) pe_int) (pe_op op_mul (pv 1) pe_int)) pe_int) pe_int))
      (pss_cons (ps_set (i := 2) sc__law_mixed.nd rfl (Or.inl rfl) (pe_op op_modN (pe_op op_mulW (pv 2) (pv 2)) pe_int))
      (pss_one (ps_ret (pe_op op_fdivW (pe_op op_modN (pe_op op_mulW (pv 2) (pv 2)) pe_int) pe_int))))), ?_⟩
    have n1 : (2147483647 : Int) ≠ 0 := by decide
    have n2 : (2147483629 : Int) ≠ 0 := by decide
    have n3 : (2147483587 : Int) ≠ 0 := by decide
    refine ⟨_, rfl, _, _, rfl, rfl, n1, _, _, rfl, rfl, cmul (a := 64) (b := 64) (fm64 (by decide) (by decide)) (by decide), ?_⟩
    refine ⟨_, rfl, _, _, rfl, rfl, .inr ⟨by decide, by decide⟩, _, _, rfl, rfl, _, _, rfl, rfl, _, _, rfl, rfl, n1, ?_⟩
    refine ⟨_, rfl, _, rfl, _, _, rfl, rfl, cmul (a := 64) (b := 64) (fm64 (by decide) (by decide)) (fm64 (by decide) (by decide)), _, _, rfl, rfl, n2, ?_⟩
    exact ⟨_, rfl, _, rfl, _, _, rfl, rfl, cmul (a := 64) (b := 64) (fm64 (by decide) (by decide)) (fm64 (by decide) (by decide)), _, _, rfl, rfl, n3, _, _, rfl, rfl, cdiv (b := 64) (by decide) (by decide), q _⟩
def spPile (K : PySem.W.Frag) : Sp := fun vs H Q _ => ∃ (a : Addr) (ns : List Int) (k : Int), vs = [.ref a, .int k] ∧ SqL K H a (ns.map V.int) ∧ 0 ≤ k ∧
  ∀ p H', Same H H' → H p = none → Pile H' p → Q (.ref p) H'
abbrev s__law_pile : Stmt := top 17
theorem sc__law_pile : FnScope ["_law_script", "_law_k", "_law_cell"] ["_law_script", "_law_k"] (defScope s__law_pile) := ⟨rfl, rfl, rfl, by decide +kernel, rfl, by decide +kernel, by decide +kernel⟩
theorem ok_pile {f : Addr} {fd : FuncData} {k : Nat} (F : Fun K "_law_pile" "_law_pile" s__law_pile f fd) {c : Adr} (T : Txt K mg c) : FnOk P w K mg base CX0 (k + 1) f fd ["_law_script", "_law_k"] (spPile K) := by
  refine F.ok sc__law_pile (fun vs H Q E h => ?_) (fun cdv A outer s H vs Q E hr h => ?_)
  · obtain ⟨a, ns, k, rfl, _⟩ := h
    rfl
  · obtain ⟨a, ns, k, rfl, hS, k0, q⟩ := h
    refine ⟨_, (pss_cons (ps_set (i := 2) sc__law_pile.nd rfl (Or.inl rfl) pe_int)
      (pss_cons (ps_if (pt_cmpR op_lt (pv 1) (pe_callB call_len_seq (by rfl) T.len (by decide +kernel) (pa_cons (pv 0) pa_nil)) (nomark _))
        (pss_one (ps_set (i := 2) sc__law_pile.nd rfl (Or.inl rfl) (pe_ix ix_list (pv 0) (pv 1) (fun _ _ => rfl))))
        pss_nil)
      (pss_one (ps_ret (pe_lst (pa_cons (pe_ix ix_list (pe_lst (pa_cons pe_int (pa_cons (pe_op op_modN (pv 2) (pe_op op_mulW (pe_op op_mulW (pe_op op_pow pe_int pe_int) (pe_op op_pow pe_int pe_int)) (pe_op op_pow pe_int pe_int))) pa_nil))) (pe_callTy call_int1 (by rfl) T.int_ (by decide +kernel) (pa_cons (pe_cmpR op_ge (pe_callB call_abs (by rfl) T.abs (by decide +kernel) (pa_cons (pv 2) pa_nil)) (pe_op op_pow pe_int pe_int) (nomark _)) pa_nil)) (fun _ _ => rfl)) (pa_cons (pe_op op_modN (pv 2) pe_int) (pa_cons (pe_op op_mul pe_int (pv 1)) pa_nil)))))))), ?_⟩
    -- behind the if: some cell
    have rest : ∀ cell : Int, tRet (tLst (tCons (tOp (rIxL K) (tLst (tCons (tC (.int 0)) (tCons (tOp (rI (fun _ j => j ≠ 0) fun i j => .int (i.fmod j)) (tVar 2) (tOp (rI CMulW fun i j => .int (i * j)) (tOp (rI CMulW fun i j => .int (i * j)) (tOp (rI CPow fun i j => .int (i ^ j.toNat)) (tC (.int 10)) (tC (.int 50))) (tOp (rI CPow fun i j => .int (i ^ j.toNat)) (tC (.int 10)) (tC (.int 50)))) (tOp (rI CPow fun i j => .int (i ^ j.toNat)) (tC (.int 10)) (tC (.int 50))))) tNil)))
        (tCB (fun xs H Q => (∃ i, xs = [.int i] ∧ Q (.int i) H) ∨ ∃ k, xs = [.bl k] ∧ Q (.int (if k then 1 else 0)) H) (tCons (tOp (rI0 fun i j => .bl (decide (j ≤ i))) (tCB (fun xs H Q => ∃ i, xs = [.int i] ∧ Q (.int (if i < 0 then -i else i)) H) (tCons (tVar 2) tNil)) (tOp (rI CPow fun i j => .int (i ^ j.toNat)) (tC (.int 10)) (tC (.int 18)))) tNil)))
        (tCons (tOp (rI (fun _ j => j ≠ 0) fun i j => .int (i.fmod j)) (tVar 2) (tC (.int 2147483647))) (tCons (tOp (rI CMul fun i j => .int (i * j)) (tC (.int 97)) (tVar 1)) tNil)))) { nx := fun _ H' => Q .non H', rt := Q } [some (.ref a), some (.int k), some (.int cell)] H := fun cell => by
      have p50 : CPow 10 50 := ⟨by decide, by decide, by decide⟩
      refine ⟨_, rfl, _, _, rfl, rfl, p50, _, _, rfl, rfl, p50, _, _, rfl, rfl, cmul (a := 256) (b := 256) (by decide +kernel) (by decide +kernel), _, _, rfl, rfl, p50, _, _, rfl, rfl, cmul (a := 512) (b := 256) (by decide +kernel) (by decide +kernel), _, _, rfl, rfl, (show ((10 : Int) ^ (50 : Int).toNat * 10 ^ (50 : Int).toNat * 10 ^ (50 : Int).toNat) ≠ 0 by decide +kernel), by show 2 ≤ sizeLine; decide, fun l nl => ?_⟩
      refine ⟨_, rfl, _, rfl, _, _, rfl, rfl, ⟨by decide, by decide, by decide⟩, _, _, rfl, rfl, .inr ⟨_, rfl, ?_⟩⟩
      have key : ∀ b : Bool, ∃ u : Int, atI [V.int 0, V.int (cell.fmod (10 ^ (50 : Int).toNat * 10 ^ (50 : Int).toNat * 10 ^ (50 : Int).toNat))] (if b then 1 else 0) = some (.int u) := fun b => by
        cases b
        · exact ⟨_, rfl⟩
        · exact ⟨_, rfl⟩
      obtain ⟨u, hu⟩ := key (decide ((10 : Int) ^ (18 : Int).toNat ≤ (if cell < 0 then -cell else cell)))
      refine ⟨l, _, _, .int u, rfl, rfl, .inl (.inl upd_same), hu, ?_⟩
      refine ⟨_, rfl, _, _, rfl, rfl, (show (2147483647 : Int) ≠ 0 by decide), _, rfl, _, _, rfl, rfl, .inl ⟨by decide, by decide⟩, by show 3 ≤ sizeLine; decide, fun p np => ?_⟩
      have s1 := same_upd (o := .lst [V.int 0, V.int (cell.fmod (10 ^ (50 : Int).toNat * 10 ^ (50 : Int).toNat * 10 ^ (50 : Int).toNat))]) nl
      refine q p _ (s1.trans (same_upd np)) (s1.free np) ⟨_, _, _, upd_same⟩
    refine ⟨_, rfl, _, rfl, a, _, rfl, .inl hS, _, _, rfl, rfl, _, rfl, ite2 (fun z => ?_) (fun z => ?_)⟩
    · have z1 : k < ((ns.map V.int).length : Int) := of_decide_eq_true z
      have z2 : k.toNat < ns.length := by
        rw [List.length_map] at z1
        omega
      have e : atI (ns.map V.int) k = some (.int ns[k.toNat]) := by
        refine at_of (j := k.toNat) (by omega) ?_
        rw [List.getElem?_map, List.getElem?_eq_getElem z2]
        rfl
      exact ⟨_, rfl, _, rfl, a, _, _, _, rfl, rfl, hS, e, rest _⟩
    · exact rest 0
end
section
variable {P : Program} {w : World} {K : PySem.W.Frag} {mg : Str → Option Value} {base : Heap}
theorem three {α : Type} {x y z : α} : atI [x, y, z] 0 = some x ∧ atI [x, y, z] 1 = some y ∧ atI [x, y, z] 2 = some z := ⟨rfl, rfl, rfl⟩
def spTake : Sp := fun vs H Q _ => ∃ (p : Addr) (m : Int), vs = [.ref p, .int m] ∧ 0 < m ∧ m.natAbs < 2 ^ 64 ∧ Pile H p ∧ ∀ (d : Int) (H' : Hp), 0 ≤ d → d < m → Kp p H H' → Pile H' p → Q (.int d) H'
abbrev s__law_take : Stmt := top 18
theorem sc__law_take : FnScope ["_law_pile_here", "_law_many", "_law_digit"] ["_law_pile_here", "_law_many"] (defScope s__law_take) := ⟨rfl, rfl, rfl, by decide +kernel, rfl, by decide +kernel, by decide +kernel⟩
theorem ok_take {f : Addr} {fd : FuncData} {k : Nat} (F : Fun K "_law_take" "_law_take" s__law_take f fd) (c__law_mixed : Cal P w K mg base 1 "_law_mixed" ["_law_cell", "_law_k"] spMix) : FnOk P w K mg base CX0 (k + 1 + 1) f fd ["_law_pile_here", "_law_many"] spTake := by
  refine F.ok sc__law_take (fun vs H Q E h => ?_) (fun cdv A outer s H vs Q E hr h => ?_)
  · obtain ⟨p, m, rfl, _⟩ := h
    rfl
  · obtain ⟨p, m, rfl, m0, m64, ⟨x, y, z, hp⟩, q⟩ := h
    have hr : Room 1 _ := hr.mono (Nat.le_add_left 1 k)
    refine ⟨_, (pss_cons (ps_if (pt_cmpR op_in_seq (pe_ix ix_list (pv 0) pe_int (fun _ _ => rfl)) (pe_lst (pa_cons pe_int (pa_cons (pe_un un_neg pe_int) pa_nil))) (by rfl))
        (pss_cons (ps_asg (pe_op op_add (pe_ix ix_list (pv 0) pe_int (fun _ _ => rfl)) pe_int) (pg_sub (pv 0) pe_int set_list))
          (pss_one (ps_ret (pe_op op_modN (pe_cal c__law_mixed hr (by rfl) (pa_cons (pe_ix ix_list (pv 0) pe_int (fun _ _ => rfl)) (pa_cons (pe_ix ix_list (pv 0) pe_int (fun _ _ => rfl)) pa_nil))) (pv 1)))))
        pss_nil)
      (pss_cons (ps_set (i := 2) sc__law_take.nd rfl (Or.inl rfl) (pe_op op_modN (pe_ix ix_list (pv 0) pe_int (fun _ _ => rfl)) (pv 1)))
      (pss_cons (ps_asg (pe_op op_fdivW (pe_ix ix_list (pv 0) pe_int (fun _ _ => rfl)) (pv 1)) (pg_sub (pv 0) pe_int set_list))
      (pss_one (ps_ret (pv 2)))))), ?_⟩
    refine ⟨_, rfl, p, _, _, _, rfl, rfl, .inl (.inl hp), three.1, _, rfl, by show 2 ≤ sizeLine; decide, fun l nl => ?_⟩
    have npl : p ≠ l := ne_of_none hp nl
    have s1 := same_upd (o := .lst [V.int 0, V.int (-1)]) nl
    have m0' : m ≠ 0 := by omega
    refine ⟨l, _, rfl, .inl (.inl (.inl upd_same)), rfl, rfl, _, rfl, ite2 (fun _ => ?_) (fun _ => ?_)⟩
    · refine ⟨_, rfl, p, _, _, _, rfl, rfl, .inl (.inl (s1 _ _ hp)), three.2.2, _, _, rfl, rfl, _, rfl, p, _, _, 2, rfl, rfl, s1 _ _ hp, rfl, ?_⟩
      refine ⟨_, rfl, p, _, _, _, rfl, rfl, .inl (.inl upd_same), three.2.1, _, rfl, p, _, _, _, rfl, rfl, .inl (.inl upd_same), three.2.2, _, _, rfl, fun d => ?_⟩
      refine ⟨_, rfl, _, _, rfl, rfl, m0', ?_⟩
      exact q _ _ (fm m0).1 (fm m0).2 (fun b o n e => by rw [upd_ne n]; exact s1 _ _ e) ⟨_, _, _, upd_same⟩
    · refine ⟨_, rfl, p, _, _, _, rfl, rfl, .inl (.inl (s1 _ _ hp)), three.1, _, rfl, _, _, rfl, rfl, m0', ?_⟩
      refine ⟨_, rfl, p, _, _, _, rfl, rfl, .inl (.inl (s1 _ _ hp)), three.1, _, rfl, _, _, rfl, rfl, cdiv m0 m64, _, rfl, p, _, _, 0, rfl, rfl, s1 _ _ hp, rfl, ?_⟩
      exact ⟨_, rfl, q _ _ (fm m0).1 (fm m0).2 (fun b o n e => by rw [upd_ne n]; exact s1 _ _ e) ⟨_, _, _, upd_same⟩⟩
theorem pile_ne {H H' : Hp} {p q : Addr} (h : Pile H p) (n : H q = none) : q ≠ p := by
  obtain ⟨x, y, z, e⟩ := h
  exact (ne_of_none e n).symm
theorem Pile.new {H : Hp} {p q : Addr} {o : HO} (h : Pile H p) (n : H q = none) : Pile (upd H q o) p := by
  obtain ⟨x, y, z, e⟩ := h
  exact ⟨x, y, z, by rw [upd_ne (ne_of_none e n)]; exact e⟩
end
section
variable {w : World} {K : PySem.W.Frag} {mg : Str → Option Value} {base : Heap} {c : Adr}
theorem op_mulS {X : Cx} : OpR X (binaryOp .Mult) (fun x y H Q => ∃ (a : Str) (k : Int), x = .str a ∧ y = .int k ∧ MulOk a k ∧ Q (.str (PySem.Txt.mul a k)) H) := by
  intro pins s σ H x y v u Q I rx ry h
  obtain ⟨a, k, rfl, rfl, hok, q⟩ := h
  obtain ⟨t, rfl⟩ := rx
  obtain ⟨t2, rfl⟩ := ry
  exact PySem.SB.mul hok fun t' k' => ⟨.str _, H, I.tok _, ⟨_, rfl⟩, q⟩
theorem sl {n : Nat} (h : n ≤ 1000) : n ≤ sizeLine := Nat.le_trans h (by decide)
theorem Al {X : Hp} {p x : Addr} {o : HO} (P : Pile X p) (n : X x = none) : x ≠ p ∧ Same (del X p) (del (upd X x o) p) ∧ del (upd X x o) p x = some o ∧ Pile (upd X x o) p := by
  obtain ⟨a1, a2, a3, e⟩ := P
  have ne : x ≠ p := (ne_of_none e n).symm
  refine ⟨ne, del_kp (Kp.of (same_upd n)), del_new ne, a1, a2, a3, ?_⟩
  rw [upd_ne (Ne.symm ne)]
  exact e
/-- a class with fields -/
structure FlC (K : PySem.W.Frag) (c : Adr) (D : Addr) (i : Nat) : Prop where
  k : PySem.W.keepIn K (.ref D) = true
  kd : KindOf K c D (fun j => j == i)
  xf : XfC K D
  no : ∀ f ∈ Fl i, PySem.W.findIn K (.ref D) f = some none
theorem FlC.exc {D d e : Addr} {i : Nat} {H : Hp} {fV : List (Str × V)} {vs : List V} (p : FlC K c D i) (he : H e = some (exv e (.ref D) (some d))) (hd : H d = some (.xd fV)) (hl : vs.length = (Fl i).length) (hk : ∀ f v, (f, v) ∈ (Fl i).zip vs → fV.lookup f = some v) (hi : i ≤ 13 := by decide) : Exc K c H e i vs :=
  ⟨D, some d, he, p.kd, p.xf, (fun z q => by cases q; exact ⟨_, hd⟩), hl, fun f v z => ⟨p.no f (List.of_mem_zip z).1, d, fV, rfl, hd, hk f v z⟩, hi⟩
theorem FlC.al {D d e p : Addr} {i : Nat} {X : Hp} {fV : List (Str × V)} {vs : List V} (q : FlC K c D i) (P : Pile X p) (ne : X e = none) (nd : X d = none) (de : d ≠ e) (hl : vs.length = (Fl i).length) (hk : ∀ f v, (f, v) ∈ (Fl i).zip vs → fV.lookup f = some v) (hi : i ≤ 13 := by decide) :
    Same (del X p) (del (mkH X D e d fV) p) ∧ Exc K c (del (mkH X D e d fV) p) e i vs ∧ Pile (mkH X D e d fV) p := by
  obtain ⟨p1, s1, h1, P1⟩ := Al (o := .xd fV) P nd
  have ne1 : upd X d (.xd fV) e = none := by
    rw [upd_ne (Ne.symm de)]
    exact ne
  obtain ⟨p2, s2, h2, P2⟩ := Al (o := exv e (.ref D) (some d)) P1 ne1
  exact ⟨s1.trans s2, q.exc h2 (s2 _ _ h1) hl hk hi, P2⟩
theorem FlC.alD {D d e l p : Addr} {X : Hp} {xs : List V} (q : FlC K c D 9) (P : Pile X p) (ne : X e = none) (nd : X d = none) (nl : X l = none) (de : d ≠ e) (le : l ≠ e) (ld : l ≠ d) :
    Same (del X p) (del (mkD X D e d l xs) p) ∧ Exc K c (del (mkD X D e d l xs) p) e 9 [.ref l] ∧ del (mkD X D e d l xs) p l = some (.lst xs) ∧ Pile (mkD X D e d l xs) p := by
  obtain ⟨p1, s1, h1, P1⟩ := Al (o := .lst xs) P nl
  have ne1 : upd X l (.lst xs) e = none := by
    rw [upd_ne (Ne.symm le)]
    exact ne
  have nd1 : upd X l (.lst xs) d = none := by
    rw [upd_ne (Ne.symm ld)]
    exact nd
  obtain ⟨s2, e2, P2⟩ := q.al (fV := [(("row" : Str), .ref l)]) (vs := [.ref l]) P1 ne1 nd1 de rfl (fun f v z => by
    simp [Fl] at z
    obtain ⟨rfl, rfl⟩ := z
    simp [List.lookup])
  exact ⟨s1.trans s2, e2, s2 _ _ h1, P2⟩
theorem hk1 {f0 : Str} {v0 : V} {i : Nat} (h : Fl i = [f0]) : ∀ f v, (f, v) ∈ (Fl i).zip [v0] → ((([f0] : List Str).zip [v0])).lookup f = some v := fun f v z => by
  rw [h] at z
  simp at z
  obtain ⟨rfl, rfl⟩ := z
  simp [List.lookup]
theorem hk2 {v0 v1 : V} : ∀ f v, (f, v) ∈ (Fl 7).zip [v0, v1] → ((["row", "column"] : List Str).zip [v0, v1]).lookup f = some v := fun f v z => by
  have z : (f, v) ∈ [(("row" : Str), v0), ("column", v1)] := z
  have ne : (("column" : Str) == "row") = false := by decide +kernel
  simp only [List.mem_cons, List.not_mem_nil, or_false, Prod.mk.injEq] at z
  rcases z with ⟨rfl, rfl⟩ | ⟨rfl, rfl⟩
  · show List.lookup _ [(("row" : Str), v), ("column", v1)] = _
    simp [List.lookup]
  · show List.lookup _ [(("row" : Str), v0), ("column", v)] = _
    simp [List.lookup, ne]
theorem hk2r {v0 v1 : V} : ∀ f v, (f, v) ∈ (Fl 7).zip [v0, v1] → ((["column", "row"] : List Str).zip [v1, v0]).lookup f = some v := fun f v z => by
  have z : (f, v) ∈ [(("row" : Str), v0), ("column", v1)] := z
  have ne : (("row" : Str) == "column") = false := by decide +kernel
  simp only [List.mem_cons, List.not_mem_nil, or_false, Prod.mk.injEq] at z
  rcases z with ⟨rfl, rfl⟩ | ⟨rfl, rfl⟩
  · show List.lookup _ [(("column" : Str), v1), ("row", v)] = _
    simp [List.lookup, ne]
  · show List.lookup _ [(("column" : Str), v), ("row", v0)] = _
    simp [List.lookup]
/-! ### what can be compared -/
def Ac (t : Str) : Prop := ∀ x ∈ t.cps.toList, x < 128
theorem ok_ac {t : Str} (h : Ac t) : PyData.strOk t = true := by
  unfold PyData.strOk
  rw [Array.all_eq_true_iff_forall_mem]
  intro x hx
  have z : x < 128 := h x (Array.mem_toList_iff.mpr hx)
  exact decide_eq_true (by omega)
theorem fold_ac {g : Str} (hg : Ac g) : ∀ (ys : List Str) (acc : Array Nat), (∀ x ∈ acc.toList, x < 128) → (∀ y ∈ ys, Ac y) → ∀ x ∈ (ys.foldl (fun acc p => acc ++ g.cps ++ p.cps) acc).toList, x < 128
  | [], _, h, _ => h
  | y :: ys, acc, h, hy => by
    rw [List.foldl_cons]
    refine fold_ac hg ys _ (fun x hx => ?_) fun z hz => hy z (List.mem_cons_of_mem _ hz)
    rw [Array.toList_append, Array.toList_append] at hx
    rcases List.mem_append.mp hx with hx | hx
    · rcases List.mem_append.mp hx with hx | hx
      · exact h x hx
      · exact hg x hx
    · exact hy y List.mem_cons_self x hx
theorem join_ac {ys : List Str} (h : ∀ y ∈ ys, Ac y) : Ac (PySem.Txt.join "" ys) := by
  have g : Ac ("" : Str) := fun x hx => nomatch hx
  cases ys with
  | nil => exact fun x hx => nomatch hx
  | cons y r => exact fold_ac g r y.cps (h y List.mem_cons_self) fun z hz => h z (List.mem_cons_of_mem _ hz)
structure Ly (ds : List PyData) : Prop where
  lay : PyData.canLayAll0 ds = true
  deep : PyData.depthAll ds ≤ 9
theorem Ly.app : ∀ {ds es : List PyData}, Ly ds → Ly es → Ly (ds ++ es)
  | [], _, _, h => h
  | d :: ds, es, h, h2 => by
    have l := h.lay
    have e := h.deep
    simp only [PyData.canLayAll0, Bool.and_eq_true] at l
    simp only [PyData.depthAll] at e
    have ih := Ly.app (ds := ds) ⟨l.2, by omega⟩ h2
    refine ⟨?_, ?_⟩
    · rw [List.cons_append]
      simp only [PyData.canLayAll0, Bool.and_eq_true]
      exact ⟨l.1, ih.lay⟩
    · rw [List.cons_append]
      simp only [PyData.depthAll]
      have := ih.deep
      omega
theorem Ly.sh {ds : List PyData} (h : Ly ds) : SeqAt.shaped (.list ds) = true := by
  unfold SeqAt.shaped
  simp only [PyData.canLay0, PyData.depth, h.lay, Bool.true_and]
  exact decide_eq_true (by have := h.deep; omega)
theorem Ly.eqv {ds : List PyData} (h : Ly ds) : PyData.eqv (.list ds) (.list ds) = true := PySem.SeqAt.eqv_refl _ (by simp only [PyData.canLay0]; exact h.lay)
def dR (n o : Int) : PyData := .list [.tuple [.int n, .int 1], .tuple [.int o, .int 1]]
def dT (n o : Int) (t m : Str) : List PyData := [.list [.str "number", .int n], .list [.str "table", .int o], .list [.str "flat", .str t], .list [.str "lifted", .int o, .int n], .list [.str "dipped", dR n o]] ++ ([.list [.str "not one", .str t], .list [.str "name", .str m], .list [.str "lifted", .int o, .int n]] ++ [.list [.str "number", .int n], .list [.str "table", .int (-1)], .list [.str "flat", .str t], .list [.str "dipped", dR n o], .list [.str "not one", .str t]])
theorem so_w : ∀ x ∈ (["number", "table", "flat", "lifted", "dipped", "not one", "name", "b"] : List Str), PyData.strOk x = true := by decide +kernel
theorem ly_T {n o : Int} {t m : Str} (ht : Ac t) (hm : Ac m) : Ly (dT n o t m) := by
  have a1 := so_w "number" (by simp)
  have a2 := so_w "table" (by simp)
  have a3 := so_w "flat" (by simp)
  have a4 := so_w "lifted" (by simp)
  have a5 := so_w "dipped" (by simp)
  have a6 := so_w "not one" (by simp)
  have a7 := so_w "name" (by simp)
  have b1 := ok_ac ht
  have b2 := ok_ac hm
  refine ⟨?_, ?_⟩
  · simp only [dT, dR, List.cons_append, List.nil_append, PyData.canLayAll0, PyData.canLay0, a1, a2, a3, a4, a5, a6, a7, b1, b2, Bool.and_true]
  · simp only [dT, dR, List.cons_append, List.nil_append, PyData.depthAll, PyData.depth]
    decide
end
section
variable {w : World} {K : PySem.W.Frag} {mg : Str → Option Value} {base : Heap} {c : Adr}
def spLaw (K : PySem.W.Frag) : Sp := fun vs H Q _ => ∃ (a : Addr) (ns : List Int), vs = [.ref a] ∧ SqL K H a (ns.map V.int) ∧ ns.length ≤ 63 ∧ ∀ H', Q (.bl true) H'
theorem ac_dig {d : Int} (d0 : 0 ≤ d) (d1 : d < 2) : Ac (toString d : String) ∧ ((toString d : String) : Str).length ≤ 1 := by
  have z : d = 0 ∨ d = 1 := by omega
  have a0 : ∀ x ∈ ((toString (0 : Int) : String) : Str).cps.toList, x < 128 := by decide +kernel
  have a1 : ∀ x ∈ ((toString (1 : Int) : String) : Str).cps.toList, x < 128 := by decide +kernel
  rcases z with rfl | rfl
  · exact ⟨a0, by decide +kernel⟩
  · exact ⟨a1, by decide +kernel⟩
theorem mul_a {o : Int} (o0 : 0 ≤ o) (o1 : o < 5) : MulOk "a" (1 + o) ∧ Ac (PySem.Txt.mul "a" (1 + o)) := by
  have z : o = 0 ∨ o = 1 ∨ o = 2 ∨ o = 3 ∨ o = 4 := by omega
  have h : ∀ i : _root_.Fin 5, (∀ x ∈ (PySem.Txt.mul "a" (1 + (i.1 : Int))).cps.toList, x < 128) := by decide +kernel
  have l : (("a" : Str).length : Int) = 1 := by decide +kernel
  refine ⟨⟨?_, fun _ _ => ?_, fun _ _ => ?_⟩, ?_⟩
  · rcases z with rfl | rfl | rfl | rfl | rfl <;> decide
  · rw [l]
    rcases z with rfl | rfl | rfl | rfl | rfl <;> decide
  · rcases z with rfl | rfl | rfl | rfl | rfl <;> decide +kernel
  · have q := h ⟨o.toNat, by omega⟩
    have e : ((o.toNat : Nat) : Int) = o := by omega
    rw [e] at q
    exact q
abbrev s_law : Stmt := top 21
theorem sc_law : FnScope ["_law_script", "_law_pile_here", "_law_made", "_law_due", "_law_turn", "_law_number", "_law_other", "_law_text", "_law_my_row", "_law_k", "_law_one"] ["_law_script"] (defScope s_law) := ⟨rfl, rfl, rfl, by decide +kernel, rfl, by decide +kernel, by decide +kernel⟩
theorem ok_law {f g1 g2 g5 g7 g9 g10 g13 : Addr} {fd : FuncData} (F : Fun K "law" "law" s_law f fd) (T : Txt K mg c)
    (t1 : PySem.SupX.ExTxt K mg c.NoNumber) (j1 : PySem.SupK.In_NoNumber K mg c.NoNumber g1) (f1 : FlC K c c.NoNumber 1) (t2 : PySem.SupX.ExTxt K mg c.NoTable) (j2 : PySem.SupK.In_NoTable K mg c.NoTable g2) (f2 : FlC K c c.NoTable 2)
    (t5 : PySem.SupX.ExTxt K mg c.Flat) (j5 : PySem.SupK.In_Flat K mg c.Flat g5) (f5 : FlC K c c.Flat 5) (t7 : PySem.SupX.ExTxt K mg c.Lifted) (j7 : PySem.SupK.In_Lifted K mg c.Lifted g7) (f7 : FlC K c c.Lifted 7)
    (t9 : PySem.SupX.ExTxt K mg c.Dipped) (j9 : PySem.SupK.In_Dipped K mg c.Dipped g9) (f9 : FlC K c c.Dipped 9) (t10 : PySem.SupX.ExTxt K mg c.NotOne) (j10 : PySem.SupK.In_NotOne K mg c.NotOne g10) (f10 : FlC K c c.NotOne 10)
    (t13 : PySem.SupX.ExTxt K mg c.NoName) (j13 : PySem.SupK.In_NoName K mg c.NoName g13) (f13 : FlC K c c.NoName 13) (p0 : PlC K c c.SlackError 0)
    (c__law_pile : Cal RW0 w K mg base 1 "_law_pile" ["_law_script", "_law_k"] (spPile K)) (c__law_take : Cal RW0 w K mg base 2 "_law_take" ["_law_pile_here", "_law_many"] spTake) (c__law_kind : Cal RW0 w K mg base 1 "_law_kind" ["_law_error"] (spKind K c)) (c__law_plain : Cal RW0 w K mg base 2 "_law_plain" [] spPlain) :
    FnOk RW0 w K mg base CX0 4 f fd ["_law_script"] (spLaw K) := by
  refine F.ok sc_law (fun vs H Q E h => ?_) (fun cdv A outer s H vs Q E hr h => ?_)
  · obtain ⟨a, ns, rfl, _⟩ := h
    rfl
  · obtain ⟨a, ns, rfl, hS, hlen, q⟩ := h
    refine ⟨_, (pss_cons (ps_set (i := 1) sc_law.nd rfl (Or.inr rfl) (pe_cal c__law_pile hr (by rfl) (pa_cons (pv 0) (pa_cons pe_int pa_nil))))
      (pss_cons (ps_set (i := 2) sc_law.nd rfl (Or.inl rfl) (pe_lst pa_nil))
      (pss_cons (ps_set (i := 3) sc_law.nd rfl (Or.inl rfl) (pe_lst pa_nil))
      (pss_cons (ps_for PassesOwn.never rfl (pi_range1 (by rfl) T.range (pa_cons pe_int pa_nil)) (pg_name (i := 4) sc_law.nd rfl (Or.inl rfl))
        (pss_cons (ps_set (i := 5) sc_law.nd rfl (Or.inl rfl) (pe_op op_sub (pe_cal c__law_take hr (by rfl) (pa_cons (pv 1) (pa_cons (pe_op op_pow pe_int pe_int) pa_nil))) pe_int))
          (pss_cons (ps_set (i := 6) sc_law.nd rfl (Or.inl rfl) (pe_cal c__law_take hr (by rfl) (pa_cons (pv 1) (pa_cons pe_int pa_nil))))
          (pss_cons (ps_set (i := 7) sc_law.nd rfl (Or.inl rfl) (pe_join pe_str (pe_lc (own := [("_law_k", 9)]) (by rfl) sc_law.nd (pi_range1 (by rfl) T.range (pa_cons (pe_op op_add pe_int (pe_cal c__law_take hr (by rfl) (pa_cons (pv 1) (pa_cons pe_int pa_nil)))) pa_nil)) (blkOk_by (own := [("_law_k", 9)]) (N := ["_law_script", "_law_pile_here", "_law_made", "_law_due", "_law_turn", "_law_number", "_law_other", "_law_text", "_law_my_row", "_law_k", "_law_one"]) (sc := defScope s_law) (by decide +kernel)) (fun _ _ _ _ _ => (pg_name (i := 9) sc_law.nd rfl (Or.inl rfl))) (fun _ _ _ _ _ => pts_nil) (fun _ _ _ _ _ => (pe_callTy call_str_int (by rfl) T.str_ (by decide +kernel) (pa_cons (pe_cal c__law_take hr (by rfl) (pa_cons (pv 1) (pa_cons pe_int pa_nil))) pa_nil))))))
          (pss_cons (ps_set (i := 8) sc_law.nd rfl (Or.inl rfl) (pe_lst (pa_cons (pe_tup (pa_cons (pv 5) (pa_cons pe_int pa_nil))) (pa_cons (pe_tup (pa_cons (pv 6) (pa_cons pe_int pa_nil))) pa_nil))))
          (pss_cons (ps_set (i := 2) sc_law.nd rfl (Or.inl rfl) (pe_op op_cat (pv 2) (pe_lst (pa_cons (pe_mkV (n := 1) (fV := fun vs => (["top"] : List Str).zip vs) (fU := fun us => (["top"] : List Str).zip us) (PySem.SupK.plc_NoNumber t1 j1) (fun r _ f => rel_zip r f) hr T.g_NoNumber f1.k (by rfl) (pa_cons (pv 5) pa_nil)) (pa_cons (pe_mkV (n := 1) (fV := fun vs => (["place"] : List Str).zip vs) (fU := fun us => (["place"] : List Str).zip us) (PySem.SupK.plc_NoTable t2 j2) (fun r _ f => rel_zip r f) hr T.g_NoTable f2.k (by rfl) (pa_cons (pv 6) pa_nil)) (pa_cons (pe_mkV (n := 1) (fV := fun vs => (["choice"] : List Str).zip vs) (fU := fun us => (["choice"] : List Str).zip us) (PySem.SupK.plc_Flat t5 j5) (fun r _ f => rel_zip r f) hr T.g_Flat f5.k (by rfl) (pa_cons (pv 7) pa_nil)) (pa_cons (pe_mkV (n := 2) (fV := fun vs => (["row", "column"] : List Str).zip vs) (fU := fun us => (["row", "column"] : List Str).zip us) (PySem.SupK.plc_Lifted t7 j7) (fun r _ f => rel_zip r f) hr T.g_Lifted f7.k (by rfl) (pa_cons (pv 6) (pa_cons (pv 5) pa_nil))) (pa_cons (pe_mkD rfl t9 j9 hr T.g_Dipped (by rfl) (pa_cons (pv 8) pa_nil)) pa_nil))))))))
          (pss_cons (ps_set (i := 2) sc_law.nd rfl (Or.inl rfl) (pe_op op_cat (pv 2) (pe_lst (pa_cons (pe_mkV (n := 1) (fV := fun vs => (["choice"] : List Str).zip vs) (fU := fun us => (["choice"] : List Str).zip us) (PySem.SupK.plc_NotOne t10 j10) (fun r _ f => rel_zip r f) hr T.g_NotOne f10.k (by rfl) (pa_cons (pv 7) pa_nil)) (pa_cons (pe_mkV (n := 1) (fV := fun vs => (["name"] : List Str).zip vs) (fU := fun us => (["name"] : List Str).zip us) (PySem.SupK.plc_NoName t13 j13) (fun r _ f => rel_zip r f) hr T.g_NoName f13.k (by rfl) (pa_cons (pe_op op_mulS pe_str (pe_op op_add pe_int (pv 6))) pa_nil)) (pa_cons (pe_mkK (n := 2) (ks := ["column", "row"]) (fV := fun vs => (["column", "row"] : List Str).zip vs) (fU := fun us => (["column", "row"] : List Str).zip us) (PySem.SupK.kws_Lifted t7 j7) (fun r _ f => rel_zip r f) hr T.g_Lifted f7.k (by rfl) (pk_cons (pv 5) (pk_cons (pv 6) pk_nil))) pa_nil))))))
          (pss_cons (ps_set (i := 3) sc_law.nd rfl (Or.inl rfl) (pe_op op_cat (pv 3) (pe_lst (pa_cons (pe_lst (pa_cons pe_str (pa_cons (pv 5) pa_nil))) (pa_cons (pe_lst (pa_cons pe_str (pa_cons (pv 6) pa_nil))) (pa_cons (pe_lst (pa_cons pe_str (pa_cons (pv 7) pa_nil))) (pa_cons (pe_lst (pa_cons pe_str (pa_cons (pv 6) (pa_cons (pv 5) pa_nil)))) pa_nil)))))))
          (pss_cons (ps_expr (pe_bm PySem.F.plainAttrs_list PySem.F.slot_list_append PySem.F.type_list_append mt_append (pv 3) (pa_cons (pe_lst (pa_cons pe_str (pa_cons (pv 8) pa_nil))) pa_nil)))
          (pss_cons (ps_set (i := 3) sc_law.nd rfl (Or.inl rfl) (pe_op op_cat (pv 3) (pe_lst (pa_cons (pe_lst (pa_cons pe_str (pa_cons (pv 7) pa_nil))) (pa_cons (pe_lst (pa_cons pe_str (pa_cons (pe_op op_mulS pe_str (pe_op op_add pe_int (pv 6))) pa_nil))) (pa_cons (pe_lst (pa_cons pe_str (pa_cons (pv 6) (pa_cons (pv 5) pa_nil)))) pa_nil))))))
          (pss_cons (ps_set (i := 2) sc_law.nd rfl (Or.inl rfl) (pe_op op_cat (pv 2) (pe_lst (pa_cons (pe_mkK (n := 1) (ks := ["top"]) (fV := fun vs => (["top"] : List Str).zip vs) (fU := fun us => (["top"] : List Str).zip us) (PySem.SupK.kws_NoNumber t1 j1) (fun r _ f => rel_zip r f) hr T.g_NoNumber f1.k (by rfl) (pk_cons (pv 5) pk_nil)) (pa_cons (pe_mkK (n := 1) (ks := ["place"]) (fV := fun vs => (["place"] : List Str).zip vs) (fU := fun us => (["place"] : List Str).zip us) (PySem.SupK.kws_NoTable t2 j2) (fun r _ f => rel_zip r f) hr T.g_NoTable f2.k (by rfl) (pk_cons (pe_un un_neg pe_int) pk_nil)) (pa_cons (pe_mkK (n := 1) (ks := ["choice"]) (fV := fun vs => (["choice"] : List Str).zip vs) (fU := fun us => (["choice"] : List Str).zip us) (PySem.SupK.kws_Flat t5 j5) (fun r _ f => rel_zip r f) hr T.g_Flat f5.k (by rfl) (pk_cons (pv 7) pk_nil)) (pa_cons (pe_mkDK rfl t9 j9 hr T.g_Dipped (by rfl) (pk_cons (pv 8) pk_nil)) pa_nil)))))))
          (pss_cons (ps_expr (pe_bm PySem.F.plainAttrs_list PySem.F.slot_list_append PySem.F.type_list_append mt_append (pv 2) (pa_cons (pe_mkK (n := 1) (ks := ["choice"]) (fV := fun vs => (["choice"] : List Str).zip vs) (fU := fun us => (["choice"] : List Str).zip us) (PySem.SupK.kws_NotOne t10 j10) (fun r _ f => rel_zip r f) hr T.g_NotOne f10.k (by rfl) (pk_cons (pv 7) pk_nil)) pa_nil)))
          (pss_one (ps_set (i := 3) sc_law.nd rfl (Or.inl rfl) (pe_op op_cat (pv 3) (pe_lst (pa_cons (pe_lst (pa_cons pe_str (pa_cons (pv 5) pa_nil))) (pa_cons (pe_lst (pa_cons pe_str (pa_cons (pe_un un_neg pe_int) pa_nil))) (pa_cons (pe_lst (pa_cons pe_str (pa_cons (pv 7) pa_nil))) (pa_cons (pe_lst (pa_cons pe_str (pa_cons (pv 8) pa_nil))) (pa_cons (pe_lst (pa_cons pe_str (pa_cons (pv 7) pa_nil))) pa_nil)))))))))))))))))))))
      (pss_cons (ps_if (PW.pt (pw_or (pt_cmpR (op_neD hr.units) (pe_lc (own := [("_law_one", 10)]) (by rfl) sc_law.nd (pi_list (pv 2)) (blkOk_by (own := [("_law_one", 10)]) (N := ["_law_script", "_law_pile_here", "_law_made", "_law_due", "_law_turn", "_law_number", "_law_other", "_law_text", "_law_my_row", "_law_k", "_law_one"]) (sc := defScope s_law) (by decide +kernel)) (fun _ _ _ _ _ => (pg_name (i := 10) sc_law.nd rfl (Or.inl rfl))) (fun _ _ _ _ _ => pts_nil) (fun _ _ _ _ _ => (pe_cal c__law_kind hr (by rfl) (pa_cons (pv 10) pa_nil)))) (pv 3) (nomark _)) (pw_or1 (pt_not (pt_val (pe_cal0 c__law_plain hr (by rfl)))))))
        (pss_one (ps_ret pe_bl))
        pss_nil)
      (pss_cons (ps_if (PW.pt (pw_or (pt_cmpR (op_neD hr.units) (pe_cal c__law_kind hr (by rfl) (pa_cons (pe_mkP PySem.F.excBase_ValueError p0.x T.g_SlackError p0.k (by rfl) (pa_cons pe_str pa_nil)) pa_nil)) (pe_lst pa_nil) (nomark _)) (pw_or1 (pt_cmpR (op_neD hr.units) (pe_cal c__law_kind hr (by rfl) (pa_cons (pe_mkK (n := 1) (ks := ["name"]) (fV := fun vs => (["name"] : List Str).zip vs) (fU := fun us => (["name"] : List Str).zip us) (PySem.SupK.kws_NoName t13 j13) (fun r _ f => rel_zip r f) hr T.g_NoName f13.k (by rfl) (pk_cons pe_str pk_nil)) pa_nil)) (pe_lst (pa_cons pe_str (pa_cons pe_str pa_nil))) (nomark _)))))
        (pss_one (ps_ret pe_bl))
        pss_nil)
      (pss_one (ps_ret (pe_callB (id := "isinstance") (r := rIsX K) call_isX (by rfl) T.isinstance (by decide +kernel) (pa_cons (pe_mkP0 PySem.F.excBase_ValueError p0.x T.g_SlackError p0.k (by rfl)) (pa_cons (pe_bltn (v := .ty "ValueError") (by rfl) T.ValueError_ (by decide +kernel) rfl) pa_nil))))))))))), ?_⟩
    refine ⟨_, rfl, a, ns, _, rfl, hS, by decide, fun p H0 s0 np P0 => ?_⟩
    refine ⟨by show 0 ≤ sizeLine; decide, fun m0 nm0 => ?_⟩
    obtain ⟨pm0, u0, hm0, P0⟩ := Al (o := .lst []) P0 nm0
    generalize upd H0 m0 (.lst []) = Ha at hm0 P0 ⊢
    clear u0
    refine ⟨by show 0 ≤ sizeLine; decide, fun u0 nu0 => ?_⟩
    obtain ⟨pu0, uu, hu0, P0⟩ := Al (o := .lst []) P0 nu0
    have hm0 := uu _ _ hm0
    generalize upd Ha u0 (.lst []) = Hb at hm0 hu0 P0 ⊢
    clear uu nu0 nm0
    refine ⟨6, rfl, by decide, by decide, for_range (lo := 0) (n := 6) (fun i σ H' => Pile H' p ∧ ∃ (m u : Addr) (es us : List V) (ds : List PyData) (v4 v5 v6 v7 v8 v9 v10 : Option V), σ = [some (.ref a), some (.ref p), some (.ref m), some (.ref u), v4, v5, v6, v7, v8, v9, v10] ∧ del H' p m = some (.lst es) ∧ del H' p u = some (.lst us) ∧ es.length = 13 * i ∧ us.length = 13 * i ∧ Mad K c (del H' p) es ds ∧ DpAll K (del H' p) us ds ∧ Ly ds)
      ⟨P0, m0, u0, [], [], [], none, none, none, none, none, none, none, rfl, hm0, hu0, rfl, rfl, .nil, .nil, ⟨rfl, Nat.zero_le _⟩⟩ ?_ ?_⟩
    · skip
      rintro i σ X0 hi ⟨P0, m, u, es, us, ds, v4, v5, v6, v7, v8, v9, v10, rfl, hm, hu, le, lu, mad, dus, ly⟩
      refine ⟨_, rfl, _, _, rfl, rfl, ⟨by decide, by decide, by decide⟩, p, _, rfl, by decide, by decide, P0, fun n0 X1 a0 a1 k1 P1 => ⟨_, _, rfl, rfl, ?_⟩⟩
      refine ⟨_, rfl, p, _, rfl, by decide, by decide, P1, fun o X2 o0 o1 k2 P2 => ?_⟩
      refine ⟨⟨_, rfl⟩, _, rfl, p, _, rfl, by decide, by decide, P2, fun z X3 z0 z1 k3 P3 => ⟨_, _, rfl, rfl, ?_⟩⟩
      have k13 := (k1.trans k2).trans k3
      refine ⟨1 + z, rfl, by omega, by omega, fun D nD => ?_⟩
      have pD : D ≠ p := by
        obtain ⟨b1, b2, b3, e⟩ := P3
        exact (ne_of_none e nD).symm
      refine lc_it (walk_range (lo := 0) (n := (1 + z).toNat)) (fun j G => Kp p X3 G ∧ Pile G p ∧ ∃ ys : List Str, G D = some (.lst (ys.map V.str)) ∧ ys.length = j ∧ (∀ y ∈ ys, Ac y ∧ y.length ≤ 1)) ?_ (fun _ _ _ _ => trivial) ?_ ?_
      · exact ⟨Kp.of (same_upd nD), P3.new nD, [], upd_same, rfl, fun y hy => absurd hy List.not_mem_nil⟩
      · rintro j x G G' hj ⟨kg, Pg, ys, hD, ly1, ya⟩ ⟨rfl, rfl⟩
        refine ⟨rfl, tyes (iteT ?_)⟩
        refine ⟨_, rfl, p, _, rfl, by decide, by decide, Pg, fun d G2 d0 d1 kg2 Pg2 => ?_⟩
        have dz : d = 0 ∨ d = 1 := by omega
        have ad := ac_dig d0 d1
        have hD2 := kg2 _ _ pD hD
        refine ⟨d, rfl, by rcases dz with rfl | rfl <;> decide, _, hD2, ?_, ?_, ?_, ys ++ [((toString d : String) : Str)], ?_, ?_, ?_⟩
        · rw [List.length_map, ly1]
          exact Nat.lt_of_lt_of_le (show j < 10 by omega) (by decide)
        · exact fun b x n e => by
            have nb : b ≠ D := ne_of_none e nD
            rw [upd_ne nb]
            exact kg2 _ _ n (kg _ _ n e)
        · obtain ⟨b1, b2, b3, e⟩ := Pg2
          refine ⟨b1, b2, b3, ?_⟩
          rw [upd_ne (Ne.symm pD)]
          exact e
        · rw [upd_same, List.map_append]
          rfl
        · rw [List.length_append, ly1]
          rfl
        · intro y hy
          rcases List.mem_append.mp hy with hy | hy
          · exact ya y hy
          · rw [List.mem_singleton.mp hy]
            exact ad
      · rintro X4 ⟨k4, P4, ys, hD, ly1, ya⟩
        have sz : (ys.map (·.length)).sum + ys.length * ("" : Str).length ≤ 16777216 := by
          have e0 : ("" : Str).length = 0 := by decide +kernel
          rw [e0, Nat.mul_zero, Nat.add_zero]
          have : ∀ ys : List Str, (∀ y ∈ ys, Ac y ∧ y.length ≤ 1) → (ys.map (·.length)).sum ≤ ys.length := fun ys => by
            induction ys with
            | nil => exact fun _ => Nat.le_refl _
            | cons y r ih =>
              intro h
              rw [List.map_cons, List.sum_cons, List.length_cons]
              have q1 := (h y List.mem_cons_self).2
              have q2 := ih fun x hx => h x (List.mem_cons_of_mem _ hx)
              omega
          have q := this ys ya
          omega
        refine ⟨"", D, ys, rfl, rfl, .inl (.inl (.inl hD)), sz, ?_⟩
        have ta : Ac (PySem.Txt.join "" ys) := join_ac fun y hy => (ya y hy).1
        generalize PySem.Txt.join "" ys = t at ta ⊢
        have km := k13.trans k4
        have S := del_kp km
        have hm := S _ _ hm
        have hu := S _ _ hu
        have mad := mad.same S
        have dus := dps_same S dus
        clear S km hD sz k4 k13 k1 k2 k3 P0 P1 P2 P3
        obtain ⟨mok, ma⟩ := mul_a o0 o1
        have hm' : PySem.Txt.mul "a" (1 + o) = PySem.Txt.mul "a" (1 + o) := rfl
        generalize hmn : PySem.Txt.mul "a" (1 + o) = mn at ma
        refine ⟨_, rfl, sl (by show 2 ≤ 1000; decide), fun T1 nT1 => ?_⟩
        obtain ⟨pT1, S, hT1, P4⟩ := Al (o := .tup [V.int (n0 - 10), .int 1]) P4 nT1
        have hm := S _ _ hm
        have hu := S _ _ hu
        have mad := mad.same S
        have dus := dps_same S dus
        generalize upd X4 T1 (.tup [V.int (n0 - 10), .int 1]) = Y1 at hT1 P4 hm hu mad dus ⊢
        clear S
        refine ⟨_, rfl, sl (by show 2 ≤ 1000; decide), fun T2 nT2 => ?_⟩
        obtain ⟨pT2, S, hT2, P4⟩ := Al (o := .tup [V.int o, .int 1]) P4 nT2
        have hm := S _ _ hm
        have hu := S _ _ hu
        have mad := mad.same S
        have dus := dps_same S dus
        have hT1 := S _ _ hT1
        generalize upd Y1 T2 (.tup [V.int o, .int 1]) = Y2 at hT2 P4 hm hu mad dus hT1 ⊢
        clear S
        refine ⟨sl (by show 2 ≤ 1000; decide), fun R nR => ?_⟩
        obtain ⟨pR, S, hR, P4⟩ := Al (o := .lst [V.ref T1, .ref T2]) P4 nR
        have hm := S _ _ hm
        have hu := S _ _ hu
        have mad := mad.same S
        have dus := dps_same S dus
        have hT1 := S _ _ hT1
        have hT2 := S _ _ hT2
        generalize upd Y2 R (.lst [V.ref T1, .ref T2]) = Y3 at hR P4 hm hu mad dus hT1 hT2 ⊢
        clear S
        have dr : Dp K (del Y3 p) (.ref R) (dR (n0 - 10) o) := .lst (.inl (.inl hR)) (.cons (.tup (.inl (.inl hT1)) (.cons (.int _) (.cons (.int _) .nil))) (.cons (.tup (.inl (.inl hT2)) (.cons (.int _) (.cons (.int _) .nil))) .nil))
        refine ⟨_, rfl, ?_⟩
        refine ⟨_, rfl, rfl, fun e1 de1 ne nd de => ?_⟩
        obtain ⟨S, xe1, P4⟩ := f1.al (fV := ([("top" : Str)] : List Str).zip [V.int (n0 - 10)]) (vs := [V.int (n0 - 10)]) P4 ne nd de rfl (hk1 rfl)
        have hm := S _ _ hm
        have hu := S _ _ hu
        have mad := mad.same S
        have dus := dps_same S dus
        have hT1 := S _ _ hT1
        have hT2 := S _ _ hT2
        have hR := S _ _ hR
        have dr := dp_same S dr
        show _
        generalize mkH Y3 c.NoNumber e1 de1 (([("top" : Str)] : List Str).zip [V.int (n0 - 10)]) = Y4 at xe1 P4 hm hu mad dus hT1 hT2 hR dr ⊢
        clear S ne nd de
        refine ⟨_, rfl, rfl, fun e2 de2 ne nd de => ?_⟩
        obtain ⟨S, xe2, P4⟩ := f2.al (fV := ([("place" : Str)] : List Str).zip [V.int o]) (vs := [V.int o]) P4 ne nd de rfl (hk1 rfl)
        have hm := S _ _ hm
        have hu := S _ _ hu
        have mad := mad.same S
        have dus := dps_same S dus
        have hT1 := S _ _ hT1
        have hT2 := S _ _ hT2
        have hR := S _ _ hR
        have dr := dp_same S dr
        have xe1 := xe1.same S
        show _
        generalize mkH Y4 c.NoTable e2 de2 (([("place" : Str)] : List Str).zip [V.int o]) = Y5 at xe2 P4 hm hu mad dus hT1 hT2 hR dr xe1 ⊢
        clear S ne nd de
        refine ⟨_, rfl, rfl, fun e3 de3 ne nd de => ?_⟩
        obtain ⟨S, xe3, P4⟩ := f5.al (fV := ([("choice" : Str)] : List Str).zip [V.str t]) (vs := [V.str t]) P4 ne nd de rfl (hk1 rfl)
        have hm := S _ _ hm
        have hu := S _ _ hu
        have mad := mad.same S
        have dus := dps_same S dus
        have hT1 := S _ _ hT1
        have hT2 := S _ _ hT2
        have hR := S _ _ hR
        have dr := dp_same S dr
        have xe1 := xe1.same S
        have xe2 := xe2.same S
        show _
        generalize mkH Y5 c.Flat e3 de3 (([("choice" : Str)] : List Str).zip [V.str t]) = Y6 at xe3 P4 hm hu mad dus hT1 hT2 hR dr xe1 xe2 ⊢
        clear S ne nd de
        refine ⟨_, rfl, _, rfl, rfl, fun e4 de4 ne nd de => ?_⟩
        obtain ⟨S, xe4, P4⟩ := f7.al (fV := (["row", "column"] : List Str).zip [V.int o, .int (n0 - 10)]) (vs := [V.int o, .int (n0 - 10)]) P4 ne nd de rfl hk2
        have hm := S _ _ hm
        have hu := S _ _ hu
        have mad := mad.same S
        have dus := dps_same S dus
        have hT1 := S _ _ hT1
        have hT2 := S _ _ hT2
        have hR := S _ _ hR
        have dr := dp_same S dr
        have xe1 := xe1.same S
        have xe2 := xe2.same S
        have xe3 := xe3.same S
        show _
        generalize mkH Y6 c.Lifted e4 de4 ((["row", "column"] : List Str).zip [V.int o, .int (n0 - 10)]) = Y7 at xe4 P4 hm hu mad dus hT1 hT2 hR dr xe1 xe2 xe3 ⊢
        clear S ne nd de
        refine ⟨_, rfl, R, _, rfl, .inl (.inl (del_le _ _ hR)), fun e5 de5 le5 ne nd nl de le1 ld => ?_⟩
        obtain ⟨S, xe5, hle5, P4⟩ := f9.alD (xs := [V.ref T1, .ref T2]) P4 ne nd nl de le1 ld
        have hm := S _ _ hm
        have hu := S _ _ hu
        have mad := mad.same S
        have dus := dps_same S dus
        have hT1 := S _ _ hT1
        have hT2 := S _ _ hT2
        have hR := S _ _ hR
        have dr := dp_same S dr
        have xe1 := xe1.same S
        have xe2 := xe2.same S
        have xe3 := xe3.same S
        have xe4 := xe4.same S
        generalize mkD Y7 c.Dipped e5 de5 le5 [V.ref T1, .ref T2] = Y8 at xe5 hle5 P4 hm hu mad dus hT1 hT2 hR dr xe1 xe2 xe3 xe4 ⊢
        clear S ne nd nl de le1 ld
        refine ⟨sl (by show 5 ≤ 1000; decide), fun L1 nL1 => ?_⟩
        obtain ⟨pL1, S, hL1, P4⟩ := Al (o := .lst [V.ref e1, .ref e2, .ref e3, .ref e4, .ref e5]) P4 nL1
        have hm := S _ _ hm
        have hu := S _ _ hu
        have mad := mad.same S
        have dus := dps_same S dus
        have hT1 := S _ _ hT1
        have hT2 := S _ _ hT2
        have hR := S _ _ hR
        have dr := dp_same S dr
        have xe1 := xe1.same S
        have xe2 := xe2.same S
        have xe3 := xe3.same S
        have xe4 := xe4.same S
        have xe5 := xe5.same S
        have hle5 := S _ _ hle5
        generalize upd Y8 L1 (.lst [V.ref e1, .ref e2, .ref e3, .ref e4, .ref e5]) = Y9 at hL1 P4 hm hu mad dus hT1 hT2 hR dr xe1 xe2 xe3 xe4 xe5 hle5 ⊢
        clear S
        have mk1 : Mad K c (del Y9 p) [V.ref e1, .ref e2, .ref e3, .ref e4, .ref e5] [.list [.str "number", .int (n0 - 10)], .list [.str "table", .int o], .list [.str "flat", .str t], .list [.str "lifted", .int o, .int (n0 - 10)], .list [.str "dipped", dR (n0 - 10) o]] := .cons xe1 (.cons (.int _) .nil) (.cons xe2 (.cons (.int _) .nil) (.cons xe3 (.cons (.str _) .nil) (.cons xe4 (.cons (.int _) (.cons (.int _) .nil)) (.cons xe5 (.cons (.lst (.inl (.inl hle5)) (.cons (.tup (.inl (.inl hT1)) (.cons (.int _) (.cons (.int _) .nil))) (.cons (.tup (.inl (.inl hT2)) (.cons (.int _) (.cons (.int _) .nil))) .nil))) .nil) .nil))))
        clear xe1 xe2 xe3 xe4 xe5 hle5
        refine ⟨m, L1, _, _, rfl, rfl, del_le _ _ hm, del_le _ _ hL1, sl (by show es.length + 5 ≤ 1000; omega), fun m1 nm1 => ?_⟩
        obtain ⟨pm1, S, hm1, P4⟩ := Al (o := .lst (es ++ [V.ref e1, .ref e2, .ref e3, .ref e4, .ref e5])) P4 nm1
        have hm := S _ _ hm
        have hu := S _ _ hu
        have mad := mad.same S
        have dus := dps_same S dus
        have hT1 := S _ _ hT1
        have hT2 := S _ _ hT2
        have hR := S _ _ hR
        have dr := dp_same S dr
        have hL1 := S _ _ hL1
        have mk1 := mk1.same S
        generalize upd Y9 m1 (.lst (es ++ [V.ref e1, .ref e2, .ref e3, .ref e4, .ref e5])) = Y10 at hm1 P4 hm hu mad dus hT1 hT2 hR dr hL1 mk1 ⊢
        clear S
        refine ⟨_, rfl, ?_⟩
        refine ⟨_, rfl, rfl, fun e6 de6 ne nd de => ?_⟩
        obtain ⟨S, xe6, P4⟩ := f10.al (fV := ([("choice" : Str)] : List Str).zip [V.str t]) (vs := [V.str t]) P4 ne nd de rfl (hk1 rfl)
        have hm := S _ _ hm
        have hu := S _ _ hu
        have mad := mad.same S
        have dus := dps_same S dus
        have hT1 := S _ _ hT1
        have hT2 := S _ _ hT2
        have hR := S _ _ hR
        have dr := dp_same S dr
        have hL1 := S _ _ hL1
        have mk1 := mk1.same S
        have hm1 := S _ _ hm1
        show _
        generalize mkH Y10 c.NotOne e6 de6 (([("choice" : Str)] : List Str).zip [V.str t]) = Y11 at xe6 P4 hm hu mad dus hT1 hT2 hR dr hL1 mk1 hm1 ⊢
        clear S ne nd de
        refine ⟨_, rfl, _, _, rfl, rfl, "a", _, rfl, rfl, mok, rfl, fun e7 de7 ne nd de => ?_⟩
        obtain ⟨S, xe7, P4⟩ := f13.al (fV := ([("name" : Str)] : List Str).zip [V.str (PySem.Txt.mul "a" (1 + o))]) (vs := [V.str (PySem.Txt.mul "a" (1 + o))]) P4 ne nd de rfl (hk1 rfl)
        have hm := S _ _ hm
        have hu := S _ _ hu
        have mad := mad.same S
        have dus := dps_same S dus
        have hT1 := S _ _ hT1
        have hT2 := S _ _ hT2
        have hR := S _ _ hR
        have dr := dp_same S dr
        have hL1 := S _ _ hL1
        have mk1 := mk1.same S
        have hm1 := S _ _ hm1
        have xe6 := xe6.same S
        show _
        generalize mkH Y11 c.NoName e7 de7 (([("name" : Str)] : List Str).zip [V.str (PySem.Txt.mul "a" (1 + o))]) = Y12 at xe7 P4 hm hu mad dus hT1 hT2 hR dr hL1 mk1 hm1 xe6 ⊢
        clear S ne nd de
        refine ⟨_, rfl, _, rfl, rfl, fun e8 de8 ne nd de => ?_⟩
        obtain ⟨S, xe8, P4⟩ := f7.al (fV := (["column", "row"] : List Str).zip [V.int (n0 - 10), .int o]) (vs := [V.int o, .int (n0 - 10)]) P4 ne nd de rfl hk2r
        have hm := S _ _ hm
        have hu := S _ _ hu
        have mad := mad.same S
        have dus := dps_same S dus
        have hT1 := S _ _ hT1
        have hT2 := S _ _ hT2
        have hR := S _ _ hR
        have dr := dp_same S dr
        have hL1 := S _ _ hL1
        have mk1 := mk1.same S
        have hm1 := S _ _ hm1
        have xe6 := xe6.same S
        have xe7 := xe7.same S
        show _
        generalize mkH Y12 c.Lifted e8 de8 ((["column", "row"] : List Str).zip [V.int (n0 - 10), .int o]) = Y13 at xe8 P4 hm hu mad dus hT1 hT2 hR dr hL1 mk1 hm1 xe6 xe7 ⊢
        clear S ne nd de
        refine ⟨sl (by show 3 ≤ 1000; decide), fun L2 nL2 => ?_⟩
        obtain ⟨pL2, S, hL2, P4⟩ := Al (o := .lst [V.ref e6, .ref e7, .ref e8]) P4 nL2
        have hm := S _ _ hm
        have hu := S _ _ hu
        have mad := mad.same S
        have dus := dps_same S dus
        have hT1 := S _ _ hT1
        have hT2 := S _ _ hT2
        have hR := S _ _ hR
        have dr := dp_same S dr
        have hL1 := S _ _ hL1
        have mk1 := mk1.same S
        have hm1 := S _ _ hm1
        have xe6 := xe6.same S
        have xe7 := xe7.same S
        have xe8 := xe8.same S
        generalize upd Y13 L2 (.lst [V.ref e6, .ref e7, .ref e8]) = Y14 at hL2 P4 hm hu mad dus hT1 hT2 hR dr hL1 mk1 hm1 xe6 xe7 xe8 ⊢
        clear S
        have mk2 : Mad K c (del Y14 p) [V.ref e6, .ref e7, .ref e8] [.list [.str "not one", .str t], .list [.str "name", .str (PySem.Txt.mul "a" (1 + o))], .list [.str "lifted", .int o, .int (n0 - 10)]] := .cons xe6 (.cons (.str _) .nil) (.cons xe7 (.cons (.str _) .nil) (.cons xe8 (.cons (.int _) (.cons (.int _) .nil)) .nil))
        clear xe6 xe7 xe8 hL1 hm
        refine ⟨m1, L2, _, _, rfl, rfl, del_le _ _ hm1, del_le _ _ hL2, sl (by show (es ++ [V.ref e1, .ref e2, .ref e3, .ref e4, .ref e5]).length + 3 ≤ 1000; rw [List.length_append]; show es.length + 5 + 3 ≤ 1000; omega), fun m2 nm2 => ?_⟩
        obtain ⟨pm2, S, hm2, P4⟩ := Al (o := .lst (es ++ [V.ref e1, .ref e2, .ref e3, .ref e4, .ref e5] ++ [V.ref e6, .ref e7, .ref e8])) P4 nm2
        have hu := S _ _ hu
        have mad := mad.same S
        have dus := dps_same S dus
        have hT1 := S _ _ hT1
        have hT2 := S _ _ hT2
        have hR := S _ _ hR
        have dr := dp_same S dr
        have mk1 := mk1.same S
        have hm1 := S _ _ hm1
        have hL2 := S _ _ hL2
        have mk2 := mk2.same S
        generalize upd Y14 m2 (.lst (es ++ [V.ref e1, .ref e2, .ref e3, .ref e4, .ref e5] ++ [V.ref e6, .ref e7, .ref e8])) = Y15 at hm2 P4 hu mad dus hT1 hT2 hR dr mk1 hm1 hL2 mk2 ⊢
        clear S
        clear hL2 hm1
        refine ⟨_, rfl, ?_⟩
        refine ⟨_, rfl, sl (by show 2 ≤ 1000; decide), fun q1 nq1 => ?_⟩
        obtain ⟨pq1, S, hq1, P4⟩ := Al (o := .lst [V.str "number", .int (n0 - 10)]) P4 nq1
        have hu := S _ _ hu
        have mad := mad.same S
        have dus := dps_same S dus
        have hT1 := S _ _ hT1
        have hT2 := S _ _ hT2
        have hR := S _ _ hR
        have dr := dp_same S dr
        have mk1 := mk1.same S
        have mk2 := mk2.same S
        have hm2 := S _ _ hm2
        generalize upd Y15 q1 (.lst [V.str "number", .int (n0 - 10)]) = Y16 at hq1 P4 hu mad dus hT1 hT2 hR dr mk1 mk2 hm2 ⊢
        clear S
        have dq1 : Dp K (del Y16 p) (.ref q1) (.list [.str "number", .int (n0 - 10)]) := .lst (.inl (.inl hq1)) (.cons (.str _) (.cons (.int _) .nil))
        clear hq1
        refine ⟨_, rfl, sl (by show 2 ≤ 1000; decide), fun q2 nq2 => ?_⟩
        obtain ⟨pq2, S, hq2, P4⟩ := Al (o := .lst [V.str "table", .int o]) P4 nq2
        have hu := S _ _ hu
        have mad := mad.same S
        have dus := dps_same S dus
        have hT1 := S _ _ hT1
        have hT2 := S _ _ hT2
        have hR := S _ _ hR
        have dr := dp_same S dr
        have mk1 := mk1.same S
        have mk2 := mk2.same S
        have hm2 := S _ _ hm2
        have dq1 := dp_same S dq1
        generalize upd Y16 q2 (.lst [V.str "table", .int o]) = Y17 at hq2 P4 hu mad dus hT1 hT2 hR dr mk1 mk2 hm2 dq1 ⊢
        clear S
        have dq2 : Dp K (del Y17 p) (.ref q2) (.list [.str "table", .int o]) := .lst (.inl (.inl hq2)) (.cons (.str _) (.cons (.int _) .nil))
        clear hq2
        refine ⟨_, rfl, sl (by show 2 ≤ 1000; decide), fun q3 nq3 => ?_⟩
        obtain ⟨pq3, S, hq3, P4⟩ := Al (o := .lst [V.str "flat", .str t]) P4 nq3
        have hu := S _ _ hu
        have mad := mad.same S
        have dus := dps_same S dus
        have hT1 := S _ _ hT1
        have hT2 := S _ _ hT2
        have hR := S _ _ hR
        have dr := dp_same S dr
        have mk1 := mk1.same S
        have mk2 := mk2.same S
        have hm2 := S _ _ hm2
        have dq1 := dp_same S dq1
        have dq2 := dp_same S dq2
        generalize upd Y17 q3 (.lst [V.str "flat", .str t]) = Y18 at hq3 P4 hu mad dus hT1 hT2 hR dr mk1 mk2 hm2 dq1 dq2 ⊢
        clear S
        have dq3 : Dp K (del Y18 p) (.ref q3) (.list [.str "flat", .str t]) := .lst (.inl (.inl hq3)) (.cons (.str _) (.cons (.str _) .nil))
        clear hq3
        refine ⟨_, rfl, _, rfl, sl (by show 3 ≤ 1000; decide), fun q4 nq4 => ?_⟩
        obtain ⟨pq4, S, hq4, P4⟩ := Al (o := .lst [V.str "lifted", .int o, .int (n0 - 10)]) P4 nq4
        have hu := S _ _ hu
        have mad := mad.same S
        have dus := dps_same S dus
        have hT1 := S _ _ hT1
        have hT2 := S _ _ hT2
        have hR := S _ _ hR
        have dr := dp_same S dr
        have mk1 := mk1.same S
        have mk2 := mk2.same S
        have hm2 := S _ _ hm2
        have dq1 := dp_same S dq1
        have dq2 := dp_same S dq2
        have dq3 := dp_same S dq3
        generalize upd Y18 q4 (.lst [V.str "lifted", .int o, .int (n0 - 10)]) = Y19 at hq4 P4 hu mad dus hT1 hT2 hR dr mk1 mk2 hm2 dq1 dq2 dq3 ⊢
        clear S
        have dq4 : Dp K (del Y19 p) (.ref q4) (.list [.str "lifted", .int o, .int (n0 - 10)]) := .lst (.inl (.inl hq4)) (.cons (.str _) (.cons (.int _) (.cons (.int _) .nil)))
        clear hq4
        refine ⟨sl (by show 4 ≤ 1000; decide), fun L3 nL3 => ?_⟩
        obtain ⟨pL3, S, hL3, P4⟩ := Al (o := .lst [V.ref q1, .ref q2, .ref q3, .ref q4]) P4 nL3
        have hu := S _ _ hu
        have mad := mad.same S
        have dus := dps_same S dus
        have hT1 := S _ _ hT1
        have hT2 := S _ _ hT2
        have hR := S _ _ hR
        have dr := dp_same S dr
        have mk1 := mk1.same S
        have mk2 := mk2.same S
        have hm2 := S _ _ hm2
        have dq1 := dp_same S dq1
        have dq2 := dp_same S dq2
        have dq3 := dp_same S dq3
        have dq4 := dp_same S dq4
        generalize upd Y19 L3 (.lst [V.ref q1, .ref q2, .ref q3, .ref q4]) = Y20 at hL3 P4 hu mad dus hT1 hT2 hR dr mk1 mk2 hm2 dq1 dq2 dq3 dq4 ⊢
        clear S
        refine ⟨u, L3, _, _, rfl, rfl, del_le _ _ hu, del_le _ _ hL3, sl (by show us.length + 4 ≤ 1000; omega), fun u1 nu1 => ?_⟩
        have base1 := Same.refl (del Y20 p)
        have hX1 := Al (o := .lst (us ++ [V.ref q1, .ref q2, .ref q3, .ref q4])) P4 nu1
        have P5 := hX1.2.2.2
        have hu1 := hX1.2.2.1
        have S1 : Same Y20 (upd Y20 u1 (.lst (us ++ [V.ref q1, .ref q2, .ref q3, .ref q4]))) := same_upd nu1
        have hu1' : upd Y20 u1 (.lst (us ++ [V.ref q1, .ref q2, .ref q3, .ref q4])) u1 = some (.lst (us ++ [V.ref q1, .ref q2, .ref q3, .ref q4])) := upd_same
        have pu1 := hX1.1
        clear hX1
        generalize upd Y20 u1 (.lst (us ++ [V.ref q1, .ref q2, .ref q3, .ref q4])) = Z1 at P5 hu1 S1 hu1' ⊢
        refine ⟨_, rfl, .inl ⟨rfl, _, .inl (.inl hu1')⟩, ?_⟩
        refine ⟨_, rfl, sl (by show 2 ≤ 1000; decide), fun q5 nq5 => ?_⟩
        have hq5 : upd Z1 q5 (.lst [V.str "dipped", .ref R]) q5 = some (.lst [V.str "dipped", .ref R]) := upd_same
        have n51 : q5 ≠ u1 := (ne_of_none hu1' nq5).symm
        have p5 : q5 ≠ p := (Al (o := .lst []) P5 nq5).1
        have S2 := S1.trans (same_upd (o := .lst [V.str "dipped", .ref R]) nq5)
        have P6 := (Al (o := .lst [V.str "dipped", .ref R]) P5 nq5).2.2.2
        have hu2 : upd Z1 q5 (.lst [V.str "dipped", .ref R]) u1 = some (.lst (us ++ [V.ref q1, .ref q2, .ref q3, .ref q4])) := by
          rw [upd_ne (Ne.symm n51)]
          exact hu1'
        generalize upd Z1 q5 (.lst [V.str "dipped", .ref R]) = Z2 at hq5 S2 P6 hu2 ⊢
        refine ⟨u1, _, _, rfl, rfl, hu2, Nat.lt_of_lt_of_le (show (us ++ [V.ref q1, .ref q2, .ref q3, .ref q4]).length < 1000 by rw [List.length_append]; show us.length + 4 < 1000; omega) (by decide), ?_⟩
        have S : Same (del Y20 p) (del (upd Z2 u1 (.lst (us ++ [V.ref q1, .ref q2, .ref q3, .ref q4] ++ [V.ref q5]))) p) := del_kp (Kp.of (same_mut S2 nu1))
        have P4 : Pile (upd Z2 u1 (.lst (us ++ [V.ref q1, .ref q2, .ref q3, .ref q4] ++ [V.ref q5]))) p := by
          obtain ⟨b1, b2, b3, e⟩ := P6
          refine ⟨b1, b2, b3, ?_⟩
          rw [upd_ne (Ne.symm pu1)]
          exact e
        have hu := S _ _ hu
        have mad := mad.same S
        have dus := dps_same S dus
        have hT1 := S _ _ hT1
        have hT2 := S _ _ hT2
        have hR := S _ _ hR
        have dr := dp_same S dr
        have mk1 := mk1.same S
        have mk2 := mk2.same S
        have hm2 := S _ _ hm2
        have dq1 := dp_same S dq1
        have dq2 := dp_same S dq2
        have dq3 := dp_same S dq3
        have dq4 := dp_same S dq4
        have hL3 := S _ _ hL3
        have hq5 : del (upd Z2 u1 (.lst (us ++ [V.ref q1, .ref q2, .ref q3, .ref q4] ++ [V.ref q5]))) p q5 = some (.lst [V.str "dipped", .ref R]) := by
          rw [del_ne p5, upd_ne n51]
          exact hq5
        have hu1 : del (upd Z2 u1 (.lst (us ++ [V.ref q1, .ref q2, .ref q3, .ref q4] ++ [V.ref q5]))) p u1 = some (.lst (us ++ [V.ref q1, .ref q2, .ref q3, .ref q4] ++ [V.ref q5])) := del_new pu1
        generalize upd Z2 u1 (.lst (us ++ [V.ref q1, .ref q2, .ref q3, .ref q4] ++ [V.ref q5])) = Z3 at P4 hq5 hu1 hu mad dus hT1 hT2 hR dr mk1 mk2 hm2 dq1 dq2 dq3 dq4 hL3 ⊢
        clear S S1 S2 P5 P6 hu2 hu1' base1
        have dq5 : Dp K (del Z3 p) (.ref q5) (.list [.str "dipped", dR (n0 - 10) o]) := .lst (.inl (.inl hq5)) (.cons (.str _) (.cons dr .nil))
        have dk1 : DpAll K (del Z3 p) (us ++ [V.ref q1, .ref q2, .ref q3, .ref q4] ++ [V.ref q5]) (ds ++ [.list [.str "number", .int (n0 - 10)], .list [.str "table", .int o], .list [.str "flat", .str t], .list [.str "lifted", .int o, .int (n0 - 10)]] ++ [.list [.str "dipped", dR (n0 - 10) o]]) := dps_app (dps_app dus (.cons dq1 (.cons dq2 (.cons dq3 (.cons dq4 .nil))))) (.cons dq5 .nil)
        clear dq1 dq2 dq3 dq4 dq5 hq5 hu hL3 dus
        refine ⟨_, rfl, ?_⟩
        refine ⟨_, rfl, sl (by show 2 ≤ 1000; decide), fun q6 nq6 => ?_⟩
        obtain ⟨pq6, S, hq6, P4⟩ := Al (o := .lst [V.str "not one", .str t]) P4 nq6
        have mad := mad.same S
        have hT1 := S _ _ hT1
        have hT2 := S _ _ hT2
        have hR := S _ _ hR
        have dr := dp_same S dr
        have mk1 := mk1.same S
        have mk2 := mk2.same S
        have hm2 := S _ _ hm2
        have hu1 := S _ _ hu1
        have dk1 := dps_same S dk1
        generalize upd Z3 q6 (.lst [V.str "not one", .str t]) = Y21 at hq6 P4 mad hT1 hT2 hR dr mk1 mk2 hm2 hu1 dk1 ⊢
        clear S
        have dq6 : Dp K (del Y21 p) (.ref q6) (.list [.str "not one", .str t]) := .lst (.inl (.inl hq6)) (.cons (.str _) (.cons (.str _) .nil))
        clear hq6
        refine ⟨_, rfl, _, _, rfl, rfl, "a", _, rfl, rfl, mok, sl (by show 2 ≤ 1000; decide), fun q7 nq7 => ?_⟩
        obtain ⟨pq7, S, hq7, P4⟩ := Al (o := .lst [V.str "name", .str (PySem.Txt.mul "a" (1 + o))]) P4 nq7
        have mad := mad.same S
        have hT1 := S _ _ hT1
        have hT2 := S _ _ hT2
        have hR := S _ _ hR
        have dr := dp_same S dr
        have mk1 := mk1.same S
        have mk2 := mk2.same S
        have hm2 := S _ _ hm2
        have hu1 := S _ _ hu1
        have dk1 := dps_same S dk1
        have dq6 := dp_same S dq6
        generalize upd Y21 q7 (.lst [V.str "name", .str (PySem.Txt.mul "a" (1 + o))]) = Y22 at hq7 P4 mad hT1 hT2 hR dr mk1 mk2 hm2 hu1 dk1 dq6 ⊢
        clear S
        have dq7 : Dp K (del Y22 p) (.ref q7) (.list [.str "name", .str (PySem.Txt.mul "a" (1 + o))]) := .lst (.inl (.inl hq7)) (.cons (.str _) (.cons (.str _) .nil))
        clear hq7
        refine ⟨_, rfl, _, rfl, sl (by show 3 ≤ 1000; decide), fun q8 nq8 => ?_⟩
        obtain ⟨pq8, S, hq8, P4⟩ := Al (o := .lst [V.str "lifted", .int o, .int (n0 - 10)]) P4 nq8
        have mad := mad.same S
        have hT1 := S _ _ hT1
        have hT2 := S _ _ hT2
        have hR := S _ _ hR
        have dr := dp_same S dr
        have mk1 := mk1.same S
        have mk2 := mk2.same S
        have hm2 := S _ _ hm2
        have hu1 := S _ _ hu1
        have dk1 := dps_same S dk1
        have dq6 := dp_same S dq6
        have dq7 := dp_same S dq7
        generalize upd Y22 q8 (.lst [V.str "lifted", .int o, .int (n0 - 10)]) = Y23 at hq8 P4 mad hT1 hT2 hR dr mk1 mk2 hm2 hu1 dk1 dq6 dq7 ⊢
        clear S
        have dq8 : Dp K (del Y23 p) (.ref q8) (.list [.str "lifted", .int o, .int (n0 - 10)]) := .lst (.inl (.inl hq8)) (.cons (.str _) (.cons (.int _) (.cons (.int _) .nil)))
        clear hq8
        refine ⟨sl (by show 3 ≤ 1000; decide), fun L4 nL4 => ?_⟩
        obtain ⟨pL4, S, hL4, P4⟩ := Al (o := .lst [V.ref q6, .ref q7, .ref q8]) P4 nL4
        have mad := mad.same S
        have hT1 := S _ _ hT1
        have hT2 := S _ _ hT2
        have hR := S _ _ hR
        have dr := dp_same S dr
        have mk1 := mk1.same S
        have mk2 := mk2.same S
        have hm2 := S _ _ hm2
        have hu1 := S _ _ hu1
        have dk1 := dps_same S dk1
        have dq6 := dp_same S dq6
        have dq7 := dp_same S dq7
        have dq8 := dp_same S dq8
        generalize upd Y23 L4 (.lst [V.ref q6, .ref q7, .ref q8]) = Y24 at hL4 P4 mad hT1 hT2 hR dr mk1 mk2 hm2 hu1 dk1 dq6 dq7 dq8 ⊢
        clear S
        refine ⟨u1, L4, _, _, rfl, rfl, del_le _ _ hu1, del_le _ _ hL4, sl (by show (us ++ [V.ref q1, .ref q2, .ref q3, .ref q4] ++ [V.ref q5]).length + 3 ≤ 1000; rw [List.length_append, List.length_append]; show us.length + 4 + 1 + 3 ≤ 1000; omega), fun u2 nu2 => ?_⟩
        obtain ⟨pu2, S, hu2, P4⟩ := Al (o := .lst (us ++ [V.ref q1, .ref q2, .ref q3, .ref q4] ++ [V.ref q5] ++ [V.ref q6, .ref q7, .ref q8])) P4 nu2
        have mad := mad.same S
        have hT1 := S _ _ hT1
        have hT2 := S _ _ hT2
        have hR := S _ _ hR
        have dr := dp_same S dr
        have mk1 := mk1.same S
        have mk2 := mk2.same S
        have hm2 := S _ _ hm2
        have hu1 := S _ _ hu1
        have dk1 := dps_same S dk1
        have dq6 := dp_same S dq6
        have dq7 := dp_same S dq7
        have dq8 := dp_same S dq8
        have hL4 := S _ _ hL4
        generalize upd Y24 u2 (.lst (us ++ [V.ref q1, .ref q2, .ref q3, .ref q4] ++ [V.ref q5] ++ [V.ref q6, .ref q7, .ref q8])) = Y25 at hu2 P4 mad hT1 hT2 hR dr mk1 mk2 hm2 hu1 dk1 dq6 dq7 dq8 hL4 ⊢
        clear S
        have dk2 := dps_app dk1 (.cons dq6 (.cons dq7 (.cons dq8 .nil)))
        clear dq6 dq7 dq8 hL4 hu1 dk1
        refine ⟨_, rfl, ?_⟩
        refine ⟨_, rfl, rfl, fun e9 de9 ne nd de => ?_⟩
        obtain ⟨S, xe9, P4⟩ := f1.al (fV := ([("top" : Str)] : List Str).zip [V.int (n0 - 10)]) (vs := [V.int (n0 - 10)]) P4 ne nd de rfl (hk1 rfl)
        have mad := mad.same S
        have hT1 := S _ _ hT1
        have hT2 := S _ _ hT2
        have hR := S _ _ hR
        have dr := dp_same S dr
        have mk1 := mk1.same S
        have mk2 := mk2.same S
        have hm2 := S _ _ hm2
        have hu2 := S _ _ hu2
        have dk2 := dps_same S dk2
        show _
        generalize mkH Y25 c.NoNumber e9 de9 (([("top" : Str)] : List Str).zip [V.int (n0 - 10)]) = Y26 at xe9 P4 mad hT1 hT2 hR dr mk1 mk2 hm2 hu2 dk2 ⊢
        clear S ne nd de
        refine ⟨_, rfl, rfl, fun g0 dg0 ne nd de => ?_⟩
        obtain ⟨S, xg0, P4⟩ := f2.al (fV := ([("place" : Str)] : List Str).zip [V.int (-1)]) (vs := [V.int (-1)]) P4 ne nd de rfl (hk1 rfl)
        have mad := mad.same S
        have hT1 := S _ _ hT1
        have hT2 := S _ _ hT2
        have hR := S _ _ hR
        have dr := dp_same S dr
        have mk1 := mk1.same S
        have mk2 := mk2.same S
        have hm2 := S _ _ hm2
        have hu2 := S _ _ hu2
        have dk2 := dps_same S dk2
        have xe9 := xe9.same S
        show _
        generalize mkH Y26 c.NoTable g0 dg0 (([("place" : Str)] : List Str).zip [V.int (-1)]) = Y27 at xg0 P4 mad hT1 hT2 hR dr mk1 mk2 hm2 hu2 dk2 xe9 ⊢
        clear S ne nd de
        refine ⟨_, rfl, rfl, fun ga dga ne nd de => ?_⟩
        obtain ⟨S, xga, P4⟩ := f5.al (fV := ([("choice" : Str)] : List Str).zip [V.str t]) (vs := [V.str t]) P4 ne nd de rfl (hk1 rfl)
        have mad := mad.same S
        have hT1 := S _ _ hT1
        have hT2 := S _ _ hT2
        have hR := S _ _ hR
        have dr := dp_same S dr
        have mk1 := mk1.same S
        have mk2 := mk2.same S
        have hm2 := S _ _ hm2
        have hu2 := S _ _ hu2
        have dk2 := dps_same S dk2
        have xe9 := xe9.same S
        have xg0 := xg0.same S
        show _
        generalize mkH Y27 c.Flat ga dga (([("choice" : Str)] : List Str).zip [V.str t]) = Y28 at xga P4 mad hT1 hT2 hR dr mk1 mk2 hm2 hu2 dk2 xe9 xg0 ⊢
        clear S ne nd de
        refine ⟨_, rfl, R, _, rfl, .inl (.inl (del_le _ _ hR)), fun gb dgb lgb ne nd nl de le1 ld => ?_⟩
        obtain ⟨S, xgb, hlgb, P4⟩ := f9.alD (xs := [V.ref T1, .ref T2]) P4 ne nd nl de le1 ld
        have mad := mad.same S
        have hT1 := S _ _ hT1
        have hT2 := S _ _ hT2
        have hR := S _ _ hR
        have dr := dp_same S dr
        have mk1 := mk1.same S
        have mk2 := mk2.same S
        have hm2 := S _ _ hm2
        have hu2 := S _ _ hu2
        have dk2 := dps_same S dk2
        have xe9 := xe9.same S
        have xg0 := xg0.same S
        have xga := xga.same S
        generalize mkD Y28 c.Dipped gb dgb lgb [V.ref T1, .ref T2] = Y29 at xgb hlgb P4 mad hT1 hT2 hR dr mk1 mk2 hm2 hu2 dk2 xe9 xg0 xga ⊢
        clear S ne nd nl de le1 ld
        refine ⟨sl (by show 4 ≤ 1000; decide), fun L5 nL5 => ?_⟩
        obtain ⟨pL5, S, hL5, P4⟩ := Al (o := .lst [V.ref e9, .ref g0, .ref ga, .ref gb]) P4 nL5
        have mad := mad.same S
        have hT1 := S _ _ hT1
        have hT2 := S _ _ hT2
        have hR := S _ _ hR
        have dr := dp_same S dr
        have mk1 := mk1.same S
        have mk2 := mk2.same S
        have hm2 := S _ _ hm2
        have hu2 := S _ _ hu2
        have dk2 := dps_same S dk2
        have xe9 := xe9.same S
        have xg0 := xg0.same S
        have xga := xga.same S
        have xgb := xgb.same S
        have hlgb := S _ _ hlgb
        generalize upd Y29 L5 (.lst [V.ref e9, .ref g0, .ref ga, .ref gb]) = Y30 at hL5 P4 mad hT1 hT2 hR dr mk1 mk2 hm2 hu2 dk2 xe9 xg0 xga xgb hlgb ⊢
        clear S
        have mk3 : Mad K c (del Y30 p) [V.ref e9, .ref g0, .ref ga, .ref gb] [.list [.str "number", .int (n0 - 10)], .list [.str "table", .int (-1)], .list [.str "flat", .str t], .list [.str "dipped", dR (n0 - 10) o]] := .cons xe9 (.cons (.int _) .nil) (.cons xg0 (.cons (.int _) .nil) (.cons xga (.cons (.str _) .nil) (.cons xgb (.cons (.lst (.inl (.inl hlgb)) (.cons (.tup (.inl (.inl hT1)) (.cons (.int _) (.cons (.int _) .nil))) (.cons (.tup (.inl (.inl hT2)) (.cons (.int _) (.cons (.int _) .nil))) .nil))) .nil) .nil)))
        clear xe9 xg0 xga xgb hlgb
        refine ⟨m2, L5, _, _, rfl, rfl, del_le _ _ hm2, del_le _ _ hL5, sl (by show (es ++ [V.ref e1, .ref e2, .ref e3, .ref e4, .ref e5] ++ [V.ref e6, .ref e7, .ref e8]).length + 4 ≤ 1000; rw [List.length_append, List.length_append]; show es.length + 5 + 3 + 4 ≤ 1000; omega), fun m3 nm3 => ?_⟩
        have hX1 := Al (o := .lst (es ++ [V.ref e1, .ref e2, .ref e3, .ref e4, .ref e5] ++ [V.ref e6, .ref e7, .ref e8] ++ [V.ref e9, .ref g0, .ref ga, .ref gb])) P4 nm3
        have P5 := hX1.2.2.2
        have pm3 := hX1.1
        clear hX1
        have S1 : Same Y30 (upd Y30 m3 (.lst (es ++ [V.ref e1, .ref e2, .ref e3, .ref e4, .ref e5] ++ [V.ref e6, .ref e7, .ref e8] ++ [V.ref e9, .ref g0, .ref ga, .ref gb]))) := same_upd nm3
        have hm3' : upd Y30 m3 (.lst (es ++ [V.ref e1, .ref e2, .ref e3, .ref e4, .ref e5] ++ [V.ref e6, .ref e7, .ref e8] ++ [V.ref e9, .ref g0, .ref ga, .ref gb])) m3 = some (.lst (es ++ [V.ref e1, .ref e2, .ref e3, .ref e4, .ref e5] ++ [V.ref e6, .ref e7, .ref e8] ++ [V.ref e9, .ref g0, .ref ga, .ref gb])) := upd_same
        generalize upd Y30 m3 (.lst (es ++ [V.ref e1, .ref e2, .ref e3, .ref e4, .ref e5] ++ [V.ref e6, .ref e7, .ref e8] ++ [V.ref e9, .ref g0, .ref ga, .ref gb])) = Z4 at P5 S1 hm3' ⊢
        refine ⟨_, rfl, .inl ⟨rfl, _, .inl (.inl hm3')⟩, ?_⟩
        refine ⟨_, rfl, rfl, fun gc dgc ne nd de => ?_⟩
        have nem : gc ≠ m3 := (ne_of_none hm3' ne).symm
        have ndm : dgc ≠ m3 := (ne_of_none hm3' nd).symm
        have nep : gc ≠ p := (Al (o := .lst []) P5 ne).1
        have ndp : dgc ≠ p := (Al (o := .lst []) P5 nd).1
        have P6 := (f10.al (fV := (([("choice" : Str)] : List Str).zip [V.str t])) (vs := [V.str t]) P5 ne nd de rfl (hk1 rfl)).2.2
        have ne1 : upd Z4 dgc (.xd (([("choice" : Str)] : List Str).zip [V.str t])) gc = none := by
          rw [upd_ne (Ne.symm de)]
          exact ne
        have S2 : Same Y30 (mkH Z4 c.NotOne gc dgc (([("choice" : Str)] : List Str).zip [V.str t])) := (S1.trans (same_upd nd)).trans (same_upd ne1)
        have hgc : mkH Z4 c.NotOne gc dgc (([("choice" : Str)] : List Str).zip [V.str t]) gc = some (exv gc (.ref c.NotOne) (some dgc)) := upd_same
        have hdgc : mkH Z4 c.NotOne gc dgc (([("choice" : Str)] : List Str).zip [V.str t]) dgc = some (.xd (([("choice" : Str)] : List Str).zip [V.str t])) := by
          show upd _ _ _ _ = _
          rw [upd_ne de]
          exact upd_same
        have hm4 : mkH Z4 c.NotOne gc dgc (([("choice" : Str)] : List Str).zip [V.str t]) m3 = some (.lst (es ++ [V.ref e1, .ref e2, .ref e3, .ref e4, .ref e5] ++ [V.ref e6, .ref e7, .ref e8] ++ [V.ref e9, .ref g0, .ref ga, .ref gb])) := by
          show upd _ _ _ _ = _
          rw [upd_ne (Ne.symm nem), upd_ne (Ne.symm ndm)]
          exact hm3'
        show _
        generalize mkH Z4 c.NotOne gc dgc (([("choice" : Str)] : List Str).zip [V.str t]) = Z5 at P6 S2 hgc hdgc hm4 ⊢
        refine ⟨m3, _, _, rfl, rfl, hm4, Nat.lt_of_lt_of_le (show (es ++ [V.ref e1, .ref e2, .ref e3, .ref e4, .ref e5] ++ [V.ref e6, .ref e7, .ref e8] ++ [V.ref e9, .ref g0, .ref ga, .ref gb]).length < 1000 by rw [List.length_append, List.length_append, List.length_append]; show es.length + 5 + 3 + 4 < 1000; omega) (by decide), ?_⟩
        have S : Same (del Y30 p) (del (upd Z5 m3 (.lst (es ++ [V.ref e1, .ref e2, .ref e3, .ref e4, .ref e5] ++ [V.ref e6, .ref e7, .ref e8] ++ [V.ref e9, .ref g0, .ref ga, .ref gb] ++ [V.ref gc]))) p) := del_kp (Kp.of (same_mut S2 nm3))
        have P4 : Pile (upd Z5 m3 (.lst (es ++ [V.ref e1, .ref e2, .ref e3, .ref e4, .ref e5] ++ [V.ref e6, .ref e7, .ref e8] ++ [V.ref e9, .ref g0, .ref ga, .ref gb] ++ [V.ref gc]))) p := by
          obtain ⟨b1, b2, b3, e⟩ := P6
          refine ⟨b1, b2, b3, ?_⟩
          rw [upd_ne (Ne.symm pm3)]
          exact e
        have mad := mad.same S
        have hT1 := S _ _ hT1
        have hT2 := S _ _ hT2
        have hR := S _ _ hR
        have dr := dp_same S dr
        have mk1 := mk1.same S
        have mk2 := mk2.same S
        have hm2 := S _ _ hm2
        have hu2 := S _ _ hu2
        have dk2 := dps_same S dk2
        have hL5 := S _ _ hL5
        have mk3 := mk3.same S
        have xgc : Exc K c (del (upd Z5 m3 (.lst (es ++ [V.ref e1, .ref e2, .ref e3, .ref e4, .ref e5] ++ [V.ref e6, .ref e7, .ref e8] ++ [V.ref e9, .ref g0, .ref ga, .ref gb] ++ [V.ref gc]))) p) gc 10 [V.str t] := f10.exc (fV := (([("choice" : Str)] : List Str).zip [V.str t])) (d := dgc) (by rw [del_ne nep, upd_ne nem]; exact hgc) (by rw [del_ne ndp, upd_ne ndm]; exact hdgc) rfl (hk1 rfl)
        have hm3 : del (upd Z5 m3 (.lst (es ++ [V.ref e1, .ref e2, .ref e3, .ref e4, .ref e5] ++ [V.ref e6, .ref e7, .ref e8] ++ [V.ref e9, .ref g0, .ref ga, .ref gb] ++ [V.ref gc]))) p m3 = some (.lst (es ++ [V.ref e1, .ref e2, .ref e3, .ref e4, .ref e5] ++ [V.ref e6, .ref e7, .ref e8] ++ [V.ref e9, .ref g0, .ref ga, .ref gb] ++ [V.ref gc])) := del_new pm3
        generalize upd Z5 m3 (.lst (es ++ [V.ref e1, .ref e2, .ref e3, .ref e4, .ref e5] ++ [V.ref e6, .ref e7, .ref e8] ++ [V.ref e9, .ref g0, .ref ga, .ref gb] ++ [V.ref gc])) = Z6 at P4 xgc hm3 mad hT1 hT2 hR dr mk1 mk2 hm2 hu2 dk2 hL5 mk3 ⊢
        clear S S1 S2 P5 P6 hm4 hm3' hgc hdgc ne1 ne nd
        have mk4 := ((((mad.app mk1).app mk2).app mk3).app (show Mad K c (del Z6 p) [V.ref gc] [.list [.str "not one", .str t]] from .cons xgc (.cons (.str _) .nil) .nil))
        clear xgc mk1 mk2 mk3 mad hL5 hm2
        refine ⟨_, rfl, ?_⟩
        refine ⟨_, rfl, sl (by show 2 ≤ 1000; decide), fun r1 nr1 => ?_⟩
        obtain ⟨pr1, S, hr1, P4⟩ := Al (o := .lst [V.str "number", .int (n0 - 10)]) P4 nr1
        have hT1 := S _ _ hT1
        have hT2 := S _ _ hT2
        have hR := S _ _ hR
        have dr := dp_same S dr
        have hu2 := S _ _ hu2
        have dk2 := dps_same S dk2
        have hm3 := S _ _ hm3
        have mk4 := mk4.same S
        generalize upd Z6 r1 (.lst [V.str "number", .int (n0 - 10)]) = Y31 at hr1 P4 hT1 hT2 hR dr hu2 dk2 hm3 mk4 ⊢
        clear S
        have dr1 : Dp K (del Y31 p) (.ref r1) (.list [.str "number", .int (n0 - 10)]) := .lst (.inl (.inl hr1)) (.cons (.str _) (.cons (.int _) .nil))
        clear hr1
        refine ⟨_, rfl, sl (by show 2 ≤ 1000; decide), fun r2 nr2 => ?_⟩
        obtain ⟨pr2, S, hr2, P4⟩ := Al (o := .lst [V.str "table", .int (-1)]) P4 nr2
        have hT1 := S _ _ hT1
        have hT2 := S _ _ hT2
        have hR := S _ _ hR
        have dr := dp_same S dr
        have hu2 := S _ _ hu2
        have dk2 := dps_same S dk2
        have hm3 := S _ _ hm3
        have mk4 := mk4.same S
        have dr1 := dp_same S dr1
        generalize upd Y31 r2 (.lst [V.str "table", .int (-1)]) = Y32 at hr2 P4 hT1 hT2 hR dr hu2 dk2 hm3 mk4 dr1 ⊢
        clear S
        have dr2 : Dp K (del Y32 p) (.ref r2) (.list [.str "table", .int (-1)]) := .lst (.inl (.inl hr2)) (.cons (.str _) (.cons (.int _) .nil))
        clear hr2
        refine ⟨_, rfl, sl (by show 2 ≤ 1000; decide), fun r3 nr3 => ?_⟩
        obtain ⟨pr3, S, hr3, P4⟩ := Al (o := .lst [V.str "flat", .str t]) P4 nr3
        have hT1 := S _ _ hT1
        have hT2 := S _ _ hT2
        have hR := S _ _ hR
        have dr := dp_same S dr
        have hu2 := S _ _ hu2
        have dk2 := dps_same S dk2
        have hm3 := S _ _ hm3
        have mk4 := mk4.same S
        have dr1 := dp_same S dr1
        have dr2 := dp_same S dr2
        generalize upd Y32 r3 (.lst [V.str "flat", .str t]) = Y33 at hr3 P4 hT1 hT2 hR dr hu2 dk2 hm3 mk4 dr1 dr2 ⊢
        clear S
        have dr3 : Dp K (del Y33 p) (.ref r3) (.list [.str "flat", .str t]) := .lst (.inl (.inl hr3)) (.cons (.str _) (.cons (.str _) .nil))
        clear hr3
        refine ⟨_, rfl, sl (by show 2 ≤ 1000; decide), fun r4 nr4 => ?_⟩
        obtain ⟨pr4, S, hr4, P4⟩ := Al (o := .lst [V.str "dipped", .ref R]) P4 nr4
        have hT1 := S _ _ hT1
        have hT2 := S _ _ hT2
        have hR := S _ _ hR
        have dr := dp_same S dr
        have hu2 := S _ _ hu2
        have dk2 := dps_same S dk2
        have hm3 := S _ _ hm3
        have mk4 := mk4.same S
        have dr1 := dp_same S dr1
        have dr2 := dp_same S dr2
        have dr3 := dp_same S dr3
        generalize upd Y33 r4 (.lst [V.str "dipped", .ref R]) = Y34 at hr4 P4 hT1 hT2 hR dr hu2 dk2 hm3 mk4 dr1 dr2 dr3 ⊢
        clear S
        have dr4 : Dp K (del Y34 p) (.ref r4) (.list [.str "dipped", dR (n0 - 10) o]) := .lst (.inl (.inl hr4)) (.cons (.str _) (.cons dr .nil))
        clear hr4
        refine ⟨_, rfl, sl (by show 2 ≤ 1000; decide), fun r5 nr5 => ?_⟩
        obtain ⟨pr5, S, hr5, P4⟩ := Al (o := .lst [V.str "not one", .str t]) P4 nr5
        have hT1 := S _ _ hT1
        have hT2 := S _ _ hT2
        have hR := S _ _ hR
        have dr := dp_same S dr
        have hu2 := S _ _ hu2
        have dk2 := dps_same S dk2
        have hm3 := S _ _ hm3
        have mk4 := mk4.same S
        have dr1 := dp_same S dr1
        have dr2 := dp_same S dr2
        have dr3 := dp_same S dr3
        have dr4 := dp_same S dr4
        generalize upd Y34 r5 (.lst [V.str "not one", .str t]) = Y35 at hr5 P4 hT1 hT2 hR dr hu2 dk2 hm3 mk4 dr1 dr2 dr3 dr4 ⊢
        clear S
        have dr5 : Dp K (del Y35 p) (.ref r5) (.list [.str "not one", .str t]) := .lst (.inl (.inl hr5)) (.cons (.str _) (.cons (.str _) .nil))
        clear hr5
        refine ⟨sl (by show 5 ≤ 1000; decide), fun L6 nL6 => ?_⟩
        obtain ⟨pL6, S, hL6, P4⟩ := Al (o := .lst [V.ref r1, .ref r2, .ref r3, .ref r4, .ref r5]) P4 nL6
        have hT1 := S _ _ hT1
        have hT2 := S _ _ hT2
        have hR := S _ _ hR
        have dr := dp_same S dr
        have hu2 := S _ _ hu2
        have dk2 := dps_same S dk2
        have hm3 := S _ _ hm3
        have mk4 := mk4.same S
        have dr1 := dp_same S dr1
        have dr2 := dp_same S dr2
        have dr3 := dp_same S dr3
        have dr4 := dp_same S dr4
        have dr5 := dp_same S dr5
        generalize upd Y35 L6 (.lst [V.ref r1, .ref r2, .ref r3, .ref r4, .ref r5]) = Y36 at hL6 P4 hT1 hT2 hR dr hu2 dk2 hm3 mk4 dr1 dr2 dr3 dr4 dr5 ⊢
        clear S
        refine ⟨u2, L6, _, _, rfl, rfl, del_le _ _ hu2, del_le _ _ hL6, sl (by show (us ++ [V.ref q1, .ref q2, .ref q3, .ref q4] ++ [V.ref q5] ++ [V.ref q6, .ref q7, .ref q8]).length + 5 ≤ 1000; rw [List.length_append, List.length_append, List.length_append]; show us.length + 4 + 1 + 3 + 5 ≤ 1000; omega), fun u3 nu3 => ?_⟩
        obtain ⟨pu3, S, hu3, P4⟩ := Al (o := .lst (us ++ [V.ref q1, .ref q2, .ref q3, .ref q4] ++ [V.ref q5] ++ [V.ref q6, .ref q7, .ref q8] ++ [V.ref r1, .ref r2, .ref r3, .ref r4, .ref r5])) P4 nu3
        have hT1 := S _ _ hT1
        have hT2 := S _ _ hT2
        have hR := S _ _ hR
        have dr := dp_same S dr
        have hu2 := S _ _ hu2
        have dk2 := dps_same S dk2
        have hm3 := S _ _ hm3
        have mk4 := mk4.same S
        have dr1 := dp_same S dr1
        have dr2 := dp_same S dr2
        have dr3 := dp_same S dr3
        have dr4 := dp_same S dr4
        have dr5 := dp_same S dr5
        have hL6 := S _ _ hL6
        generalize upd Y36 u3 (.lst (us ++ [V.ref q1, .ref q2, .ref q3, .ref q4] ++ [V.ref q5] ++ [V.ref q6, .ref q7, .ref q8] ++ [V.ref r1, .ref r2, .ref r3, .ref r4, .ref r5])) = Y37 at hu3 P4 hT1 hT2 hR dr hu2 dk2 hm3 mk4 dr1 dr2 dr3 dr4 dr5 hL6 ⊢
        clear S
        have dk3 := dps_app dk2 (.cons dr1 (.cons dr2 (.cons dr3 (.cons dr4 (.cons dr5 .nil)))))
        have eds : ∀ (x : List PyData), x = ds ++ dT (n0 - 10) o t (PySem.Txt.mul "a" (1 + o)) → True := fun _ _ => trivial
        refine ⟨P4, m3, u3, _, _, ds ++ dT (n0 - 10) o t (PySem.Txt.mul "a" (1 + o)), _, _, _, _, _, _, _, rfl, hm3, hu3, ?_, ?_, ?_, ?_, ly.app (ly_T ta (hmn ▸ ma))⟩
        · rw [List.length_append, List.length_append, List.length_append, List.length_append, le]
          rfl
        · rw [List.length_append, List.length_append, List.length_append, List.length_append, lu]
          rfl
        · simpa only [dT, List.append_assoc, List.cons_append, List.nil_append] using mk4
        · simpa only [dT, List.append_assoc, List.cons_append, List.nil_append] using dk3
    · rintro σ X0 ⟨P0, m, u, es, us, ds, v4, v5, v6, v7, v8, v9, v10, rfl, hm, hu, le, lu, mad, dus, ly⟩
      have hm := del_le _ _ hm
      have hu := del_le _ _ hu
      have mad := mad.same del_le
      have dus := dps_same del_le dus
      have len := mad.len
      refine ⟨_, rfl, m, rfl, ⟨_, .inl (.inl hm)⟩, fun D nD => ?_⟩
      refine lc_it (walk_list (K := K) (a := m) (xs := es)) (fun j G => Same X0 G ∧ ∃ rs : List V, G D = some (.lst rs) ∧ rs.length = j ∧ DpAll K (del G D) rs (ds.take j)) ⟨same_upd nD, [], upd_same, rfl, .nil⟩ (fun j G _ ⟨s', _⟩ => .inl (.inl (s' _ _ hm))) ?_ ?_
      · rintro j x G G' hj ⟨sg, rs, hD, lr, dd⟩ ⟨rfl, hx⟩
        obtain ⟨a1, i, us1, dv, rfl, X, du, ed⟩ := mad.at hx
        refine ⟨rfl, tyes (iteT ?_)⟩
        refine ⟨_, rfl, a1, i, us1, rfl, X.same sg, fun r G2 s2 nr hr2 => ?_⟩
        have nrD : r ≠ D := fun z => by
          rw [z, hD] at nr
          cases nr
        refine ⟨rs, s2 _ _ hD, by rw [lr]; exact Nat.lt_of_lt_of_le (show j < 1000 by omega) (by decide), same_mut (sg.trans s2) nD, _, upd_same, by rw [List.length_append, lr]; rfl, ?_⟩
        exact kinds_it ed X.le dd s2 (dps_same (del_of sg nD) du) nr hr2 nrD
      · rintro G ⟨sg, rs, hD, lr, dd⟩
        rw [len, List.take_length] at dd
        have dk : Dp K G (.ref D) (.list ds) := .lst (.inl (.inl hD)) (dps_same del_le dd)
        have du : Dp K G (.ref u) (.list ds) := .lst (.inl (.inl (sg _ _ hu))) (dps_same sg dus)
        refine ⟨_, rfl, _, _, dk, du, ly.sh, ly.sh, _, rfl, ?_⟩
        rw [ly.eqv]
        refine iteF ?_
        refine ⟨rfl, fun G1 s1 => ?_⟩
        refine ⟨_, rfl, iteF ?_⟩
        -- SlackError('a')
        refine ⟨by decide, fun e1 n1 => ?_⟩
        have x1 : Exc K c (upd G1 e1 (exv e1 (.ref c.SlackError) none)) e1 0 [] := p0.exc upd_same
        refine ⟨e1, 0, [], rfl, x1, fun r1 G2 s2 nr1 hr1 => ?_⟩
        refine ⟨by show 0 ≤ sizeLine; decide, fun e2 n2 => ?_⟩
        have s3 := same_upd (o := .lst []) n2
        have eq0 : PyData.eqv (.list []) (.list []) = true := by simp [PyData.eqv, PyData.eqvAll]
        refine ⟨.list [], .list [], .lst (.inl (.inl (s3 _ _ hr1))) .nil, .lst (.inl (.inl upd_same)) .nil, rfl, rfl, _, rfl, ?_⟩
        rw [eq0]
        refine iteF ?_
        refine ⟨rfl, fun e3 d3 ne nd de => ?_⟩
        have P9 : True := trivial
        have x3 : Exc K c (mkH (upd G2 e2 (.lst [])) c.NoName e3 d3 (([("name" : Str)] : List Str).zip [V.str "b"])) e3 13 [V.str "b"] := f13.exc (d := d3) upd_same (by show upd _ _ _ _ = _; rw [upd_ne de]; exact upd_same) rfl (hk1 rfl)
        refine ⟨e3, 13, [V.str "b"], rfl, x3, fun r2 G3 s4 nr2 hr2 => ?_⟩
        refine ⟨sz2, fun e4 n4 => ?_⟩
        have s5 := same_upd (o := .lst [V.str "name", .str "b"]) n4
        have lyb : Ly [.str "name", .str "b"] := ⟨by simp only [PyData.canLayAll0, PyData.canLay0, so_w "name" (by simp), so_w "b" (by simp), Bool.and_true], by simp only [PyData.depthAll, PyData.depth]; decide⟩
        refine ⟨.list [.str "name", .str "b"], .list [.str "name", .str "b"], .lst (.inl (.inl (s5 _ _ hr2))) (.cons (.str _) (.cons (.str _) .nil)), .lst (.inl (.inl upd_same)) (.cons (.str _) (.cons (.str _) .nil)), lyb.sh, lyb.sh, _, rfl, ?_⟩
        rw [lyb.eqv]
        refine iteF ?_
        refine ⟨by decide, fun e5 n5 => ?_⟩
        exact ⟨e5, c.SlackError, none, none, _, _, true, rfl, upd_same, (fun e z => nomatch z), p0.kd.ec, .ty _, p0.kd.ve, q _⟩
end
theorem all_mk {w : World} {K : PySem.W.Frag} {h : Heap} {mg : Str → Option Value} {fa f1 f2 f3 f4 f5 f6 : Addr} (X : K.In h) (G : h.Ns mainGlobals mg) (hfa : mg "law" = some (.ref fa))
    {od1 an1 od2 an2 od3 an3 od4 an4 od5 an5 od6 an6 : Option Addr} {sl1 sl2 sl3 sl4 sl5 sl6 : Array (Option Value)} {oc1 kV1 dc1 pm1 cd1 ct1 oc2 kV2 dc2 pm2 cd2 ct2 oc3 kV3 dc3 pm3 cd3 ct3 oc4 kV4 dc4 pm4 cd4 ct4 oc5 kV5 dc5 pm5 cd5 ct5 oc6 kV6 dc6 pm6 cd6 ct6 : Value}
    {C_SlackError C_NoNumber C_NoTable C_NoRow C_NoChoice C_Flat C_NoSaying C_Lifted C_NoCover C_Dipped C_NotOne C_NoText C_NoLine C_NoName : Addr} {fI_NoNumber N0_NoNumber cdaI_NoNumber ccI_NoNumber : Addr} {nm_NoNumber q0_NoNumber fileI_NoNumber : Str} {bs0_NoNumber sub0_NoNumber : List Value} {sn0_NoNumber : List Str} {ab0_NoNumber : Bool} {col0_NoNumber : Option Bool} {dd0_NoNumber odI_NoNumber anI_NoNumber cddI_NoNumber cldI_NoNumber : Option Addr} {m0_NoNumber m1_NoNumber m2_NoNumber m3_NoNumber m5_NoNumber : Option Value} {ocI_NoNumber kVI_NoNumber dcI_NoNumber pmI_NoNumber ctI_NoNumber cclI_NoNumber clI_NoNumber : Value} {slI_NoNumber ccsI_NoNumber cslI_NoNumber : Array (Option Value)} {vsI_NoNumber : Array Value} {tfI_NoNumber : Tok} {fI_NoTable N0_NoTable cdaI_NoTable ccI_NoTable : Addr} {nm_NoTable q0_NoTable fileI_NoTable : Str} {bs0_NoTable sub0_NoTable : List Value} {sn0_NoTable : List Str} {ab0_NoTable : Bool} {col0_NoTable : Option Bool} {dd0_NoTable odI_NoTable anI_NoTable cddI_NoTable cldI_NoTable : Option Addr} {m0_NoTable m1_NoTable m2_NoTable m3_NoTable m5_NoTable : Option Value} {ocI_NoTable kVI_NoTable dcI_NoTable pmI_NoTable ctI_NoTable cclI_NoTable clI_NoTable : Value} {slI_NoTable ccsI_NoTable cslI_NoTable : Array (Option Value)} {vsI_NoTable : Array Value} {tfI_NoTable : Tok} {fI_Flat N0_Flat cdaI_Flat ccI_Flat : Addr} {nm_Flat q0_Flat fileI_Flat : Str} {bs0_Flat sub0_Flat : List Value} {sn0_Flat : List Str} {ab0_Flat : Bool} {col0_Flat : Option Bool} {dd0_Flat odI_Flat anI_Flat cddI_Flat cldI_Flat : Option Addr} {m0_Flat m1_Flat m2_Flat m3_Flat m5_Flat : Option Value} {ocI_Flat kVI_Flat dcI_Flat pmI_Flat ctI_Flat cclI_Flat clI_Flat : Value} {slI_Flat ccsI_Flat cslI_Flat : Array (Option Value)} {vsI_Flat : Array Value} {tfI_Flat : Tok} {fI_Lifted N0_Lifted cdaI_Lifted ccI_Lifted : Addr} {nm_Lifted q0_Lifted fileI_Lifted : Str} {bs0_Lifted sub0_Lifted : List Value} {sn0_Lifted : List Str} {ab0_Lifted : Bool} {col0_Lifted : Option Bool} {dd0_Lifted odI_Lifted anI_Lifted cddI_Lifted cldI_Lifted : Option Addr} {m0_Lifted m1_Lifted m2_Lifted m3_Lifted m5_Lifted : Option Value} {ocI_Lifted kVI_Lifted dcI_Lifted pmI_Lifted ctI_Lifted cclI_Lifted clI_Lifted : Value} {slI_Lifted ccsI_Lifted cslI_Lifted : Array (Option Value)} {vsI_Lifted : Array Value} {tfI_Lifted : Tok} {fI_Dipped N0_Dipped cdaI_Dipped ccI_Dipped : Addr} {nm_Dipped q0_Dipped fileI_Dipped : Str} {bs0_Dipped sub0_Dipped : List Value} {sn0_Dipped : List Str} {ab0_Dipped : Bool} {col0_Dipped : Option Bool} {dd0_Dipped odI_Dipped anI_Dipped cddI_Dipped cldI_Dipped : Option Addr} {m0_Dipped m1_Dipped m2_Dipped m3_Dipped m5_Dipped : Option Value} {ocI_Dipped kVI_Dipped dcI_Dipped pmI_Dipped ctI_Dipped cclI_Dipped clI_Dipped : Value} {slI_Dipped ccsI_Dipped cslI_Dipped : Array (Option Value)} {vsI_Dipped : Array Value} {tfI_Dipped : Tok} {fI_NotOne N0_NotOne cdaI_NotOne ccI_NotOne : Addr} {nm_NotOne q0_NotOne fileI_NotOne : Str} {bs0_NotOne sub0_NotOne : List Value} {sn0_NotOne : List Str} {ab0_NotOne : Bool} {col0_NotOne : Option Bool} {dd0_NotOne odI_NotOne anI_NotOne cddI_NotOne cldI_NotOne : Option Addr} {m0_NotOne m1_NotOne m2_NotOne m3_NotOne m5_NotOne : Option Value} {ocI_NotOne kVI_NotOne dcI_NotOne pmI_NotOne ctI_NotOne cclI_NotOne clI_NotOne : Value} {slI_NotOne ccsI_NotOne cslI_NotOne : Array (Option Value)} {vsI_NotOne : Array Value} {tfI_NotOne : Tok} {fI_NoName N0_NoName cdaI_NoName ccI_NoName : Addr} {nm_NoName q0_NoName fileI_NoName : Str} {bs0_NoName sub0_NoName : List Value} {sn0_NoName : List Str} {ab0_NoName : Bool} {col0_NoName : Option Bool} {dd0_NoName odI_NoName anI_NoName cddI_NoName cldI_NoName : Option Addr} {m0_NoName m1_NoName m2_NoName m3_NoName m5_NoName : Option Value} {ocI_NoName kVI_NoName dcI_NoName pmI_NoName ctI_NoName cclI_NoName clI_NoName : Value} {slI_NoName ccsI_NoName cslI_NoName : Array (Option Value)} {vsI_NoName : Array Value} {tfI_NoName : Tok}
    (g_SlackError : PySem.W.nsIn K mainGlobals "SlackError" = some (some (.ref C_SlackError)))
    (g_NoNumber : PySem.W.nsIn K mainGlobals "NoNumber" = some (some (.ref C_NoNumber)))
    (g_NoTable : PySem.W.nsIn K mainGlobals "NoTable" = some (some (.ref C_NoTable)))
    (g_NoRow : PySem.W.nsIn K mainGlobals "NoRow" = some (some (.ref C_NoRow)))
    (g_NoChoice : PySem.W.nsIn K mainGlobals "NoChoice" = some (some (.ref C_NoChoice)))
    (g_Flat : PySem.W.nsIn K mainGlobals "Flat" = some (some (.ref C_Flat)))
    (g_NoSaying : PySem.W.nsIn K mainGlobals "NoSaying" = some (some (.ref C_NoSaying)))
    (g_Lifted : PySem.W.nsIn K mainGlobals "Lifted" = some (some (.ref C_Lifted)))
    (g_NoCover : PySem.W.nsIn K mainGlobals "NoCover" = some (some (.ref C_NoCover)))
    (g_Dipped : PySem.W.nsIn K mainGlobals "Dipped" = some (some (.ref C_Dipped)))
    (g_NotOne : PySem.W.nsIn K mainGlobals "NotOne" = some (some (.ref C_NotOne)))
    (g_NoText : PySem.W.nsIn K mainGlobals "NoText" = some (some (.ref C_NoText)))
    (g_NoLine : PySem.W.nsIn K mainGlobals "NoLine" = some (some (.ref C_NoLine)))
    (g_NoName : PySem.W.nsIn K mainGlobals "NoName" = some (some (.ref C_NoName)))
    (opq : PySem.W.nsIn K cStatics "thirdparty.any" = some none)
    (hnC : PySem.W.specialIn K (.builtin "object.__class__") "__get__" = some (some (.builtin "getset_descriptor.__get__")))
    (htC : PySem.W.takesIn K (.builtin "object.__class__") = some true)
    (z_super : PySem.W.nsIn K mainGlobals "super" = some none)
    (xC_SlackError : PySem.W.excIn K C_SlackError [.type "ValueError", .type "Exception", .type "BaseException", .type "object"] "ValueError.__new__" = true)
    (ga_SlackError : PySem.W.findIn K (.ref C_SlackError) "__getattribute__" = some (some (.builtin "BaseException.__getattribute__")))
    (gg_SlackError : PySem.W.findIn K (.ref C_SlackError) "__getattr__" = some none)
    (kC_SlackError : PySem.W.keepIn K (.ref C_SlackError) = true)
    (exC_SlackError : PySem.W.subIn K (.ref C_SlackError) (.type "BaseException") = some true)
    (tyC_SlackError : PySem.W.typeIn K (.ref C_SlackError) = some (.type "type"))
    (hdC_SlackError : PySem.W.hasDictIn K C_SlackError = true)
    (haC_SlackError : PySem.W.findIn K (.ref C_SlackError) "__class__" = some (some (.builtin "object.__class__")))
    (hmC_SlackError : PySem.W.mroIn K C_SlackError (.type "object") = some true)
    (kve_SlackError : PySem.W.kitOne K (.ref C_SlackError) (.type "ValueError") = some true)
    (kq0_SlackError : PySem.W.kitOne K (.ref C_SlackError) (.ref C_SlackError) = some true)
    (kq1_SlackError : PySem.W.kitOne K (.ref C_SlackError) (.ref C_NoNumber) = some false)
    (kq2_SlackError : PySem.W.kitOne K (.ref C_SlackError) (.ref C_NoTable) = some false)
    (kq3_SlackError : PySem.W.kitOne K (.ref C_SlackError) (.ref C_NoRow) = some false)
    (kq4_SlackError : PySem.W.kitOne K (.ref C_SlackError) (.ref C_NoChoice) = some false)
    (kq5_SlackError : PySem.W.kitOne K (.ref C_SlackError) (.ref C_Flat) = some false)
    (kq6_SlackError : PySem.W.kitOne K (.ref C_SlackError) (.ref C_NoSaying) = some false)
    (kq7_SlackError : PySem.W.kitOne K (.ref C_SlackError) (.ref C_Lifted) = some false)
    (kq8_SlackError : PySem.W.kitOne K (.ref C_SlackError) (.ref C_NoCover) = some false)
    (kq9_SlackError : PySem.W.kitOne K (.ref C_SlackError) (.ref C_Dipped) = some false)
    (kq10_SlackError : PySem.W.kitOne K (.ref C_SlackError) (.ref C_NotOne) = some false)
    (kq11_SlackError : PySem.W.kitOne K (.ref C_SlackError) (.ref C_NoText) = some false)
    (kq12_SlackError : PySem.W.kitOne K (.ref C_SlackError) (.ref C_NoLine) = some false)
    (kq13_SlackError : PySem.W.kitOne K (.ref C_SlackError) (.ref C_NoName) = some false)
    (xL_NoNumber : K.lookup C_NoNumber = some (excClassObj nm_NoNumber q0_NoNumber C_NoNumber N0_NoNumber bs0_NoNumber [.ref C_SlackError, .type "ValueError", .type "Exception", .type "BaseException", .type "object"] true sn0_NoNumber sub0_NoNumber ab0_NoNumber col0_NoNumber dd0_NoNumber m0_NoNumber m1_NoNumber m2_NoNumber m3_NoNumber m5_NoNumber "ValueError.__new__"))
    (sa_NoNumber : PySem.W.findIn K (.ref C_NoNumber) "__setattr__" = some (some (.builtin "object.__setattr__")))
    (ga_NoNumber : PySem.W.findIn K (.ref C_NoNumber) "__getattribute__" = some (some (.builtin "BaseException.__getattribute__")))
    (gg_NoNumber : PySem.W.findIn K (.ref C_NoNumber) "__getattr__" = some none)
    (no_top_NoNumber : PySem.W.findIn K (.ref C_NoNumber) "top" = some none)
    (kC_NoNumber : PySem.W.keepIn K (.ref C_NoNumber) = true)
    (exC_NoNumber : PySem.W.subIn K (.ref C_NoNumber) (.type "BaseException") = some true)
    (veC_NoNumber : PySem.W.subIn K (.ref C_NoNumber) (.type "ValueError") = some true)
    (tyC_NoNumber : PySem.W.typeIn K (.ref C_NoNumber) = some (.type "type"))
    (hdC_NoNumber : PySem.W.hasDictIn K C_NoNumber = true)
    (iC_NoNumber : PySem.W.findIn K (.ref C_NoNumber) "__init__" = some (some (.ref fI_NoNumber)))
    (tI_NoNumber : PySem.W.typeIn K (.ref fI_NoNumber) = some (.type "function"))
    (along_NoNumber : PySem.W.ks_superIn K C_NoNumber C_NoNumber "__init__" = some (some (.builtin "ValueError.__init__")))
    (mro_NoNumber : PySem.W.mroIn K C_NoNumber (.ref C_NoNumber) = some true)
    (lI_NoNumber : K.lookup fI_NoNumber = some ⟨ocI_NoNumber, odI_NoNumber, .func (PySem.W.ksFn "__init__" "NoNumber.__init__" (defArgs PySem.SupK.si_NoNumber) (defBody PySem.SupK.si_NoNumber) (defScope PySem.SupK.si_NoNumber) .none kVI_NoNumber dcI_NoNumber pmI_NoNumber anI_NoNumber (.ref cdaI_NoNumber) ctI_NoNumber ccI_NoNumber), slI_NoNumber⟩)
    (cI_NoNumber : PySem.W.codeIn K (.ref cdaI_NoNumber) "NoNumber.__init__" = true)
    (lcd_NoNumber : K.lookup cdaI_NoNumber = some ⟨cclI_NoNumber, cddI_NoNumber, .fields vsI_NoNumber, ccsI_NoNumber⟩)
    (hvs_NoNumber : vsI_NoNumber[2]? = some (.str fileI_NoNumber tfI_NoNumber))
    (hfile_NoNumber : ((RW0.main.file : Str) == fileI_NoNumber) = true)
    (lcc_NoNumber : K.lookup ccI_NoNumber = some ⟨clI_NoNumber, cldI_NoNumber, .cell (some (.ref C_NoNumber)), cslI_NoNumber⟩)
    (haC_NoNumber : PySem.W.findIn K (.ref C_NoNumber) "__class__" = some (some (.builtin "object.__class__")))
    (hmC_NoNumber : PySem.W.mroIn K C_NoNumber (.type "object") = some true)
    (kve_NoNumber : PySem.W.kitOne K (.ref C_NoNumber) (.type "ValueError") = some true)
    (kq0_NoNumber : PySem.W.kitOne K (.ref C_NoNumber) (.ref C_SlackError) = some true)
    (kq1_NoNumber : PySem.W.kitOne K (.ref C_NoNumber) (.ref C_NoNumber) = some true)
    (kq2_NoNumber : PySem.W.kitOne K (.ref C_NoNumber) (.ref C_NoTable) = some false)
    (kq3_NoNumber : PySem.W.kitOne K (.ref C_NoNumber) (.ref C_NoRow) = some false)
    (kq4_NoNumber : PySem.W.kitOne K (.ref C_NoNumber) (.ref C_NoChoice) = some false)
    (kq5_NoNumber : PySem.W.kitOne K (.ref C_NoNumber) (.ref C_Flat) = some false)
    (kq6_NoNumber : PySem.W.kitOne K (.ref C_NoNumber) (.ref C_NoSaying) = some false)
    (kq7_NoNumber : PySem.W.kitOne K (.ref C_NoNumber) (.ref C_Lifted) = some false)
    (kq8_NoNumber : PySem.W.kitOne K (.ref C_NoNumber) (.ref C_NoCover) = some false)
    (kq9_NoNumber : PySem.W.kitOne K (.ref C_NoNumber) (.ref C_Dipped) = some false)
    (kq10_NoNumber : PySem.W.kitOne K (.ref C_NoNumber) (.ref C_NotOne) = some false)
    (kq11_NoNumber : PySem.W.kitOne K (.ref C_NoNumber) (.ref C_NoText) = some false)
    (kq12_NoNumber : PySem.W.kitOne K (.ref C_NoNumber) (.ref C_NoLine) = some false)
    (kq13_NoNumber : PySem.W.kitOne K (.ref C_NoNumber) (.ref C_NoName) = some false)
    (xL_NoTable : K.lookup C_NoTable = some (excClassObj nm_NoTable q0_NoTable C_NoTable N0_NoTable bs0_NoTable [.ref C_SlackError, .type "ValueError", .type "Exception", .type "BaseException", .type "object"] true sn0_NoTable sub0_NoTable ab0_NoTable col0_NoTable dd0_NoTable m0_NoTable m1_NoTable m2_NoTable m3_NoTable m5_NoTable "ValueError.__new__"))
    (sa_NoTable : PySem.W.findIn K (.ref C_NoTable) "__setattr__" = some (some (.builtin "object.__setattr__")))
    (ga_NoTable : PySem.W.findIn K (.ref C_NoTable) "__getattribute__" = some (some (.builtin "BaseException.__getattribute__")))
    (gg_NoTable : PySem.W.findIn K (.ref C_NoTable) "__getattr__" = some none)
    (no_place_NoTable : PySem.W.findIn K (.ref C_NoTable) "place" = some none)
    (kC_NoTable : PySem.W.keepIn K (.ref C_NoTable) = true)
    (exC_NoTable : PySem.W.subIn K (.ref C_NoTable) (.type "BaseException") = some true)
    (veC_NoTable : PySem.W.subIn K (.ref C_NoTable) (.type "ValueError") = some true)
    (tyC_NoTable : PySem.W.typeIn K (.ref C_NoTable) = some (.type "type"))
    (hdC_NoTable : PySem.W.hasDictIn K C_NoTable = true)
    (iC_NoTable : PySem.W.findIn K (.ref C_NoTable) "__init__" = some (some (.ref fI_NoTable)))
    (tI_NoTable : PySem.W.typeIn K (.ref fI_NoTable) = some (.type "function"))
    (along_NoTable : PySem.W.ks_superIn K C_NoTable C_NoTable "__init__" = some (some (.builtin "ValueError.__init__")))
    (mro_NoTable : PySem.W.mroIn K C_NoTable (.ref C_NoTable) = some true)
    (lI_NoTable : K.lookup fI_NoTable = some ⟨ocI_NoTable, odI_NoTable, .func (PySem.W.ksFn "__init__" "NoTable.__init__" (defArgs PySem.SupK.si_NoTable) (defBody PySem.SupK.si_NoTable) (defScope PySem.SupK.si_NoTable) .none kVI_NoTable dcI_NoTable pmI_NoTable anI_NoTable (.ref cdaI_NoTable) ctI_NoTable ccI_NoTable), slI_NoTable⟩)
    (cI_NoTable : PySem.W.codeIn K (.ref cdaI_NoTable) "NoTable.__init__" = true)
    (lcd_NoTable : K.lookup cdaI_NoTable = some ⟨cclI_NoTable, cddI_NoTable, .fields vsI_NoTable, ccsI_NoTable⟩)
    (hvs_NoTable : vsI_NoTable[2]? = some (.str fileI_NoTable tfI_NoTable))
    (hfile_NoTable : ((RW0.main.file : Str) == fileI_NoTable) = true)
    (lcc_NoTable : K.lookup ccI_NoTable = some ⟨clI_NoTable, cldI_NoTable, .cell (some (.ref C_NoTable)), cslI_NoTable⟩)
    (haC_NoTable : PySem.W.findIn K (.ref C_NoTable) "__class__" = some (some (.builtin "object.__class__")))
    (hmC_NoTable : PySem.W.mroIn K C_NoTable (.type "object") = some true)
    (kve_NoTable : PySem.W.kitOne K (.ref C_NoTable) (.type "ValueError") = some true)
    (kq0_NoTable : PySem.W.kitOne K (.ref C_NoTable) (.ref C_SlackError) = some true)
    (kq1_NoTable : PySem.W.kitOne K (.ref C_NoTable) (.ref C_NoNumber) = some false)
    (kq2_NoTable : PySem.W.kitOne K (.ref C_NoTable) (.ref C_NoTable) = some true)
    (kq3_NoTable : PySem.W.kitOne K (.ref C_NoTable) (.ref C_NoRow) = some false)
    (kq4_NoTable : PySem.W.kitOne K (.ref C_NoTable) (.ref C_NoChoice) = some false)
    (kq5_NoTable : PySem.W.kitOne K (.ref C_NoTable) (.ref C_Flat) = some false)
    (kq6_NoTable : PySem.W.kitOne K (.ref C_NoTable) (.ref C_NoSaying) = some false)
    (kq7_NoTable : PySem.W.kitOne K (.ref C_NoTable) (.ref C_Lifted) = some false)
    (kq8_NoTable : PySem.W.kitOne K (.ref C_NoTable) (.ref C_NoCover) = some false)
    (kq9_NoTable : PySem.W.kitOne K (.ref C_NoTable) (.ref C_Dipped) = some false)
    (kq10_NoTable : PySem.W.kitOne K (.ref C_NoTable) (.ref C_NotOne) = some false)
    (kq11_NoTable : PySem.W.kitOne K (.ref C_NoTable) (.ref C_NoText) = some false)
    (kq12_NoTable : PySem.W.kitOne K (.ref C_NoTable) (.ref C_NoLine) = some false)
    (kq13_NoTable : PySem.W.kitOne K (.ref C_NoTable) (.ref C_NoName) = some false)
    (xC_NoRow : PySem.W.excIn K C_NoRow [.type "ValueError", .type "Exception", .type "BaseException", .type "object"] "ValueError.__new__" = true)
    (ga_NoRow : PySem.W.findIn K (.ref C_NoRow) "__getattribute__" = some (some (.builtin "BaseException.__getattribute__")))
    (gg_NoRow : PySem.W.findIn K (.ref C_NoRow) "__getattr__" = some none)
    (kC_NoRow : PySem.W.keepIn K (.ref C_NoRow) = true)
    (exC_NoRow : PySem.W.subIn K (.ref C_NoRow) (.type "BaseException") = some true)
    (tyC_NoRow : PySem.W.typeIn K (.ref C_NoRow) = some (.type "type"))
    (hdC_NoRow : PySem.W.hasDictIn K C_NoRow = true)
    (haC_NoRow : PySem.W.findIn K (.ref C_NoRow) "__class__" = some (some (.builtin "object.__class__")))
    (hmC_NoRow : PySem.W.mroIn K C_NoRow (.type "object") = some true)
    (kve_NoRow : PySem.W.kitOne K (.ref C_NoRow) (.type "ValueError") = some true)
    (kq0_NoRow : PySem.W.kitOne K (.ref C_NoRow) (.ref C_SlackError) = some true)
    (kq1_NoRow : PySem.W.kitOne K (.ref C_NoRow) (.ref C_NoNumber) = some false)
    (kq2_NoRow : PySem.W.kitOne K (.ref C_NoRow) (.ref C_NoTable) = some false)
    (kq3_NoRow : PySem.W.kitOne K (.ref C_NoRow) (.ref C_NoRow) = some true)
    (kq4_NoRow : PySem.W.kitOne K (.ref C_NoRow) (.ref C_NoChoice) = some false)
    (kq5_NoRow : PySem.W.kitOne K (.ref C_NoRow) (.ref C_Flat) = some false)
    (kq6_NoRow : PySem.W.kitOne K (.ref C_NoRow) (.ref C_NoSaying) = some false)
    (kq7_NoRow : PySem.W.kitOne K (.ref C_NoRow) (.ref C_Lifted) = some false)
    (kq8_NoRow : PySem.W.kitOne K (.ref C_NoRow) (.ref C_NoCover) = some false)
    (kq9_NoRow : PySem.W.kitOne K (.ref C_NoRow) (.ref C_Dipped) = some false)
    (kq10_NoRow : PySem.W.kitOne K (.ref C_NoRow) (.ref C_NotOne) = some false)
    (kq11_NoRow : PySem.W.kitOne K (.ref C_NoRow) (.ref C_NoText) = some false)
    (kq12_NoRow : PySem.W.kitOne K (.ref C_NoRow) (.ref C_NoLine) = some false)
    (kq13_NoRow : PySem.W.kitOne K (.ref C_NoRow) (.ref C_NoName) = some false)
    (xC_NoChoice : PySem.W.excIn K C_NoChoice [.type "ValueError", .type "Exception", .type "BaseException", .type "object"] "ValueError.__new__" = true)
    (ga_NoChoice : PySem.W.findIn K (.ref C_NoChoice) "__getattribute__" = some (some (.builtin "BaseException.__getattribute__")))
    (gg_NoChoice : PySem.W.findIn K (.ref C_NoChoice) "__getattr__" = some none)
    (kC_NoChoice : PySem.W.keepIn K (.ref C_NoChoice) = true)
    (exC_NoChoice : PySem.W.subIn K (.ref C_NoChoice) (.type "BaseException") = some true)
    (tyC_NoChoice : PySem.W.typeIn K (.ref C_NoChoice) = some (.type "type"))
    (hdC_NoChoice : PySem.W.hasDictIn K C_NoChoice = true)
    (haC_NoChoice : PySem.W.findIn K (.ref C_NoChoice) "__class__" = some (some (.builtin "object.__class__")))
    (hmC_NoChoice : PySem.W.mroIn K C_NoChoice (.type "object") = some true)
    (kve_NoChoice : PySem.W.kitOne K (.ref C_NoChoice) (.type "ValueError") = some true)
    (kq0_NoChoice : PySem.W.kitOne K (.ref C_NoChoice) (.ref C_SlackError) = some true)
    (kq1_NoChoice : PySem.W.kitOne K (.ref C_NoChoice) (.ref C_NoNumber) = some false)
    (kq2_NoChoice : PySem.W.kitOne K (.ref C_NoChoice) (.ref C_NoTable) = some false)
    (kq3_NoChoice : PySem.W.kitOne K (.ref C_NoChoice) (.ref C_NoRow) = some false)
    (kq4_NoChoice : PySem.W.kitOne K (.ref C_NoChoice) (.ref C_NoChoice) = some true)
    (kq5_NoChoice : PySem.W.kitOne K (.ref C_NoChoice) (.ref C_Flat) = some false)
    (kq6_NoChoice : PySem.W.kitOne K (.ref C_NoChoice) (.ref C_NoSaying) = some false)
    (kq7_NoChoice : PySem.W.kitOne K (.ref C_NoChoice) (.ref C_Lifted) = some false)
    (kq8_NoChoice : PySem.W.kitOne K (.ref C_NoChoice) (.ref C_NoCover) = some false)
    (kq9_NoChoice : PySem.W.kitOne K (.ref C_NoChoice) (.ref C_Dipped) = some false)
    (kq10_NoChoice : PySem.W.kitOne K (.ref C_NoChoice) (.ref C_NotOne) = some false)
    (kq11_NoChoice : PySem.W.kitOne K (.ref C_NoChoice) (.ref C_NoText) = some false)
    (kq12_NoChoice : PySem.W.kitOne K (.ref C_NoChoice) (.ref C_NoLine) = some false)
    (kq13_NoChoice : PySem.W.kitOne K (.ref C_NoChoice) (.ref C_NoName) = some false)
    (xL_Flat : K.lookup C_Flat = some (excClassObj nm_Flat q0_Flat C_Flat N0_Flat bs0_Flat [.ref C_SlackError, .type "ValueError", .type "Exception", .type "BaseException", .type "object"] true sn0_Flat sub0_Flat ab0_Flat col0_Flat dd0_Flat m0_Flat m1_Flat m2_Flat m3_Flat m5_Flat "ValueError.__new__"))
    (sa_Flat : PySem.W.findIn K (.ref C_Flat) "__setattr__" = some (some (.builtin "object.__setattr__")))
    (ga_Flat : PySem.W.findIn K (.ref C_Flat) "__getattribute__" = some (some (.builtin "BaseException.__getattribute__")))
    (gg_Flat : PySem.W.findIn K (.ref C_Flat) "__getattr__" = some none)
    (no_choice_Flat : PySem.W.findIn K (.ref C_Flat) "choice" = some none)
    (kC_Flat : PySem.W.keepIn K (.ref C_Flat) = true)
    (exC_Flat : PySem.W.subIn K (.ref C_Flat) (.type "BaseException") = some true)
    (veC_Flat : PySem.W.subIn K (.ref C_Flat) (.type "ValueError") = some true)
    (tyC_Flat : PySem.W.typeIn K (.ref C_Flat) = some (.type "type"))
    (hdC_Flat : PySem.W.hasDictIn K C_Flat = true)
    (iC_Flat : PySem.W.findIn K (.ref C_Flat) "__init__" = some (some (.ref fI_Flat)))
    (tI_Flat : PySem.W.typeIn K (.ref fI_Flat) = some (.type "function"))
    (along_Flat : PySem.W.ks_superIn K C_Flat C_Flat "__init__" = some (some (.builtin "ValueError.__init__")))
    (mro_Flat : PySem.W.mroIn K C_Flat (.ref C_Flat) = some true)
    (lI_Flat : K.lookup fI_Flat = some ⟨ocI_Flat, odI_Flat, .func (PySem.W.ksFn "__init__" "Flat.__init__" (defArgs PySem.SupK.si_Flat) (defBody PySem.SupK.si_Flat) (defScope PySem.SupK.si_Flat) .none kVI_Flat dcI_Flat pmI_Flat anI_Flat (.ref cdaI_Flat) ctI_Flat ccI_Flat), slI_Flat⟩)
    (cI_Flat : PySem.W.codeIn K (.ref cdaI_Flat) "Flat.__init__" = true)
    (lcd_Flat : K.lookup cdaI_Flat = some ⟨cclI_Flat, cddI_Flat, .fields vsI_Flat, ccsI_Flat⟩)
    (hvs_Flat : vsI_Flat[2]? = some (.str fileI_Flat tfI_Flat))
    (hfile_Flat : ((RW0.main.file : Str) == fileI_Flat) = true)
    (lcc_Flat : K.lookup ccI_Flat = some ⟨clI_Flat, cldI_Flat, .cell (some (.ref C_Flat)), cslI_Flat⟩)
    (haC_Flat : PySem.W.findIn K (.ref C_Flat) "__class__" = some (some (.builtin "object.__class__")))
    (hmC_Flat : PySem.W.mroIn K C_Flat (.type "object") = some true)
    (kve_Flat : PySem.W.kitOne K (.ref C_Flat) (.type "ValueError") = some true)
    (kq0_Flat : PySem.W.kitOne K (.ref C_Flat) (.ref C_SlackError) = some true)
    (kq1_Flat : PySem.W.kitOne K (.ref C_Flat) (.ref C_NoNumber) = some false)
    (kq2_Flat : PySem.W.kitOne K (.ref C_Flat) (.ref C_NoTable) = some false)
    (kq3_Flat : PySem.W.kitOne K (.ref C_Flat) (.ref C_NoRow) = some false)
    (kq4_Flat : PySem.W.kitOne K (.ref C_Flat) (.ref C_NoChoice) = some false)
    (kq5_Flat : PySem.W.kitOne K (.ref C_Flat) (.ref C_Flat) = some true)
    (kq6_Flat : PySem.W.kitOne K (.ref C_Flat) (.ref C_NoSaying) = some false)
    (kq7_Flat : PySem.W.kitOne K (.ref C_Flat) (.ref C_Lifted) = some false)
    (kq8_Flat : PySem.W.kitOne K (.ref C_Flat) (.ref C_NoCover) = some false)
    (kq9_Flat : PySem.W.kitOne K (.ref C_Flat) (.ref C_Dipped) = some false)
    (kq10_Flat : PySem.W.kitOne K (.ref C_Flat) (.ref C_NotOne) = some false)
    (kq11_Flat : PySem.W.kitOne K (.ref C_Flat) (.ref C_NoText) = some false)
    (kq12_Flat : PySem.W.kitOne K (.ref C_Flat) (.ref C_NoLine) = some false)
    (kq13_Flat : PySem.W.kitOne K (.ref C_Flat) (.ref C_NoName) = some false)
    (xC_NoSaying : PySem.W.excIn K C_NoSaying [.type "ValueError", .type "Exception", .type "BaseException", .type "object"] "ValueError.__new__" = true)
    (ga_NoSaying : PySem.W.findIn K (.ref C_NoSaying) "__getattribute__" = some (some (.builtin "BaseException.__getattribute__")))
    (gg_NoSaying : PySem.W.findIn K (.ref C_NoSaying) "__getattr__" = some none)
    (kC_NoSaying : PySem.W.keepIn K (.ref C_NoSaying) = true)
    (exC_NoSaying : PySem.W.subIn K (.ref C_NoSaying) (.type "BaseException") = some true)
    (tyC_NoSaying : PySem.W.typeIn K (.ref C_NoSaying) = some (.type "type"))
    (hdC_NoSaying : PySem.W.hasDictIn K C_NoSaying = true)
    (haC_NoSaying : PySem.W.findIn K (.ref C_NoSaying) "__class__" = some (some (.builtin "object.__class__")))
    (hmC_NoSaying : PySem.W.mroIn K C_NoSaying (.type "object") = some true)
    (kve_NoSaying : PySem.W.kitOne K (.ref C_NoSaying) (.type "ValueError") = some true)
    (kq0_NoSaying : PySem.W.kitOne K (.ref C_NoSaying) (.ref C_SlackError) = some true)
    (kq1_NoSaying : PySem.W.kitOne K (.ref C_NoSaying) (.ref C_NoNumber) = some false)
    (kq2_NoSaying : PySem.W.kitOne K (.ref C_NoSaying) (.ref C_NoTable) = some false)
    (kq3_NoSaying : PySem.W.kitOne K (.ref C_NoSaying) (.ref C_NoRow) = some false)
    (kq4_NoSaying : PySem.W.kitOne K (.ref C_NoSaying) (.ref C_NoChoice) = some false)
    (kq5_NoSaying : PySem.W.kitOne K (.ref C_NoSaying) (.ref C_Flat) = some false)
    (kq6_NoSaying : PySem.W.kitOne K (.ref C_NoSaying) (.ref C_NoSaying) = some true)
    (kq7_NoSaying : PySem.W.kitOne K (.ref C_NoSaying) (.ref C_Lifted) = some false)
    (kq8_NoSaying : PySem.W.kitOne K (.ref C_NoSaying) (.ref C_NoCover) = some false)
    (kq9_NoSaying : PySem.W.kitOne K (.ref C_NoSaying) (.ref C_Dipped) = some false)
    (kq10_NoSaying : PySem.W.kitOne K (.ref C_NoSaying) (.ref C_NotOne) = some false)
    (kq11_NoSaying : PySem.W.kitOne K (.ref C_NoSaying) (.ref C_NoText) = some false)
    (kq12_NoSaying : PySem.W.kitOne K (.ref C_NoSaying) (.ref C_NoLine) = some false)
    (kq13_NoSaying : PySem.W.kitOne K (.ref C_NoSaying) (.ref C_NoName) = some false)
    (xL_Lifted : K.lookup C_Lifted = some (excClassObj nm_Lifted q0_Lifted C_Lifted N0_Lifted bs0_Lifted [.ref C_SlackError, .type "ValueError", .type "Exception", .type "BaseException", .type "object"] true sn0_Lifted sub0_Lifted ab0_Lifted col0_Lifted dd0_Lifted m0_Lifted m1_Lifted m2_Lifted m3_Lifted m5_Lifted "ValueError.__new__"))
    (sa_Lifted : PySem.W.findIn K (.ref C_Lifted) "__setattr__" = some (some (.builtin "object.__setattr__")))
    (ga_Lifted : PySem.W.findIn K (.ref C_Lifted) "__getattribute__" = some (some (.builtin "BaseException.__getattribute__")))
    (gg_Lifted : PySem.W.findIn K (.ref C_Lifted) "__getattr__" = some none)
    (no_row_Lifted : PySem.W.findIn K (.ref C_Lifted) "row" = some none)
    (no_column_Lifted : PySem.W.findIn K (.ref C_Lifted) "column" = some none)
    (kC_Lifted : PySem.W.keepIn K (.ref C_Lifted) = true)
    (exC_Lifted : PySem.W.subIn K (.ref C_Lifted) (.type "BaseException") = some true)
    (veC_Lifted : PySem.W.subIn K (.ref C_Lifted) (.type "ValueError") = some true)
    (tyC_Lifted : PySem.W.typeIn K (.ref C_Lifted) = some (.type "type"))
    (hdC_Lifted : PySem.W.hasDictIn K C_Lifted = true)
    (iC_Lifted : PySem.W.findIn K (.ref C_Lifted) "__init__" = some (some (.ref fI_Lifted)))
    (tI_Lifted : PySem.W.typeIn K (.ref fI_Lifted) = some (.type "function"))
    (along_Lifted : PySem.W.ks_superIn K C_Lifted C_Lifted "__init__" = some (some (.builtin "ValueError.__init__")))
    (mro_Lifted : PySem.W.mroIn K C_Lifted (.ref C_Lifted) = some true)
    (lI_Lifted : K.lookup fI_Lifted = some ⟨ocI_Lifted, odI_Lifted, .func (PySem.W.ksFn "__init__" "Lifted.__init__" (defArgs PySem.SupK.si_Lifted) (defBody PySem.SupK.si_Lifted) (defScope PySem.SupK.si_Lifted) .none kVI_Lifted dcI_Lifted pmI_Lifted anI_Lifted (.ref cdaI_Lifted) ctI_Lifted ccI_Lifted), slI_Lifted⟩)
    (cI_Lifted : PySem.W.codeIn K (.ref cdaI_Lifted) "Lifted.__init__" = true)
    (lcd_Lifted : K.lookup cdaI_Lifted = some ⟨cclI_Lifted, cddI_Lifted, .fields vsI_Lifted, ccsI_Lifted⟩)
    (hvs_Lifted : vsI_Lifted[2]? = some (.str fileI_Lifted tfI_Lifted))
    (hfile_Lifted : ((RW0.main.file : Str) == fileI_Lifted) = true)
    (lcc_Lifted : K.lookup ccI_Lifted = some ⟨clI_Lifted, cldI_Lifted, .cell (some (.ref C_Lifted)), cslI_Lifted⟩)
    (haC_Lifted : PySem.W.findIn K (.ref C_Lifted) "__class__" = some (some (.builtin "object.__class__")))
    (hmC_Lifted : PySem.W.mroIn K C_Lifted (.type "object") = some true)
    (kve_Lifted : PySem.W.kitOne K (.ref C_Lifted) (.type "ValueError") = some true)
    (kq0_Lifted : PySem.W.kitOne K (.ref C_Lifted) (.ref C_SlackError) = some true)
    (kq1_Lifted : PySem.W.kitOne K (.ref C_Lifted) (.ref C_NoNumber) = some false)
    (kq2_Lifted : PySem.W.kitOne K (.ref C_Lifted) (.ref C_NoTable) = some false)
    (kq3_Lifted : PySem.W.kitOne K (.ref C_Lifted) (.ref C_NoRow) = some false)
    (kq4_Lifted : PySem.W.kitOne K (.ref C_Lifted) (.ref C_NoChoice) = some false)
    (kq5_Lifted : PySem.W.kitOne K (.ref C_Lifted) (.ref C_Flat) = some false)
    (kq6_Lifted : PySem.W.kitOne K (.ref C_Lifted) (.ref C_NoSaying) = some false)
    (kq7_Lifted : PySem.W.kitOne K (.ref C_Lifted) (.ref C_Lifted) = some true)
    (kq8_Lifted : PySem.W.kitOne K (.ref C_Lifted) (.ref C_NoCover) = some false)
    (kq9_Lifted : PySem.W.kitOne K (.ref C_Lifted) (.ref C_Dipped) = some false)
    (kq10_Lifted : PySem.W.kitOne K (.ref C_Lifted) (.ref C_NotOne) = some false)
    (kq11_Lifted : PySem.W.kitOne K (.ref C_Lifted) (.ref C_NoText) = some false)
    (kq12_Lifted : PySem.W.kitOne K (.ref C_Lifted) (.ref C_NoLine) = some false)
    (kq13_Lifted : PySem.W.kitOne K (.ref C_Lifted) (.ref C_NoName) = some false)
    (xC_NoCover : PySem.W.excIn K C_NoCover [.type "ValueError", .type "Exception", .type "BaseException", .type "object"] "ValueError.__new__" = true)
    (ga_NoCover : PySem.W.findIn K (.ref C_NoCover) "__getattribute__" = some (some (.builtin "BaseException.__getattribute__")))
    (gg_NoCover : PySem.W.findIn K (.ref C_NoCover) "__getattr__" = some none)
    (kC_NoCover : PySem.W.keepIn K (.ref C_NoCover) = true)
    (exC_NoCover : PySem.W.subIn K (.ref C_NoCover) (.type "BaseException") = some true)
    (tyC_NoCover : PySem.W.typeIn K (.ref C_NoCover) = some (.type "type"))
    (hdC_NoCover : PySem.W.hasDictIn K C_NoCover = true)
    (haC_NoCover : PySem.W.findIn K (.ref C_NoCover) "__class__" = some (some (.builtin "object.__class__")))
    (hmC_NoCover : PySem.W.mroIn K C_NoCover (.type "object") = some true)
    (kve_NoCover : PySem.W.kitOne K (.ref C_NoCover) (.type "ValueError") = some true)
    (kq0_NoCover : PySem.W.kitOne K (.ref C_NoCover) (.ref C_SlackError) = some true)
    (kq1_NoCover : PySem.W.kitOne K (.ref C_NoCover) (.ref C_NoNumber) = some false)
    (kq2_NoCover : PySem.W.kitOne K (.ref C_NoCover) (.ref C_NoTable) = some false)
    (kq3_NoCover : PySem.W.kitOne K (.ref C_NoCover) (.ref C_NoRow) = some false)
    (kq4_NoCover : PySem.W.kitOne K (.ref C_NoCover) (.ref C_NoChoice) = some false)
    (kq5_NoCover : PySem.W.kitOne K (.ref C_NoCover) (.ref C_Flat) = some false)
    (kq6_NoCover : PySem.W.kitOne K (.ref C_NoCover) (.ref C_NoSaying) = some false)
    (kq7_NoCover : PySem.W.kitOne K (.ref C_NoCover) (.ref C_Lifted) = some false)
    (kq8_NoCover : PySem.W.kitOne K (.ref C_NoCover) (.ref C_NoCover) = some true)
    (kq9_NoCover : PySem.W.kitOne K (.ref C_NoCover) (.ref C_Dipped) = some false)
    (kq10_NoCover : PySem.W.kitOne K (.ref C_NoCover) (.ref C_NotOne) = some false)
    (kq11_NoCover : PySem.W.kitOne K (.ref C_NoCover) (.ref C_NoText) = some false)
    (kq12_NoCover : PySem.W.kitOne K (.ref C_NoCover) (.ref C_NoLine) = some false)
    (kq13_NoCover : PySem.W.kitOne K (.ref C_NoCover) (.ref C_NoName) = some false)
    (xL_Dipped : K.lookup C_Dipped = some (excClassObj nm_Dipped q0_Dipped C_Dipped N0_Dipped bs0_Dipped [.ref C_SlackError, .type "ValueError", .type "Exception", .type "BaseException", .type "object"] true sn0_Dipped sub0_Dipped ab0_Dipped col0_Dipped dd0_Dipped m0_Dipped m1_Dipped m2_Dipped m3_Dipped m5_Dipped "ValueError.__new__"))
    (sa_Dipped : PySem.W.findIn K (.ref C_Dipped) "__setattr__" = some (some (.builtin "object.__setattr__")))
    (ga_Dipped : PySem.W.findIn K (.ref C_Dipped) "__getattribute__" = some (some (.builtin "BaseException.__getattribute__")))
    (gg_Dipped : PySem.W.findIn K (.ref C_Dipped) "__getattr__" = some none)
    (no_row_Dipped : PySem.W.findIn K (.ref C_Dipped) "row" = some none)
    (kC_Dipped : PySem.W.keepIn K (.ref C_Dipped) = true)
    (exC_Dipped : PySem.W.subIn K (.ref C_Dipped) (.type "BaseException") = some true)
    (veC_Dipped : PySem.W.subIn K (.ref C_Dipped) (.type "ValueError") = some true)
    (tyC_Dipped : PySem.W.typeIn K (.ref C_Dipped) = some (.type "type"))
    (hdC_Dipped : PySem.W.hasDictIn K C_Dipped = true)
    (iC_Dipped : PySem.W.findIn K (.ref C_Dipped) "__init__" = some (some (.ref fI_Dipped)))
    (tI_Dipped : PySem.W.typeIn K (.ref fI_Dipped) = some (.type "function"))
    (along_Dipped : PySem.W.ks_superIn K C_Dipped C_Dipped "__init__" = some (some (.builtin "ValueError.__init__")))
    (mro_Dipped : PySem.W.mroIn K C_Dipped (.ref C_Dipped) = some true)
    (lI_Dipped : K.lookup fI_Dipped = some ⟨ocI_Dipped, odI_Dipped, .func (PySem.W.ksFn "__init__" "Dipped.__init__" (defArgs PySem.SupK.si_Dipped) (defBody PySem.SupK.si_Dipped) (defScope PySem.SupK.si_Dipped) .none kVI_Dipped dcI_Dipped pmI_Dipped anI_Dipped (.ref cdaI_Dipped) ctI_Dipped ccI_Dipped), slI_Dipped⟩)
    (cI_Dipped : PySem.W.codeIn K (.ref cdaI_Dipped) "Dipped.__init__" = true)
    (lcd_Dipped : K.lookup cdaI_Dipped = some ⟨cclI_Dipped, cddI_Dipped, .fields vsI_Dipped, ccsI_Dipped⟩)
    (hvs_Dipped : vsI_Dipped[2]? = some (.str fileI_Dipped tfI_Dipped))
    (hfile_Dipped : ((RW0.main.file : Str) == fileI_Dipped) = true)
    (lcc_Dipped : K.lookup ccI_Dipped = some ⟨clI_Dipped, cldI_Dipped, .cell (some (.ref C_Dipped)), cslI_Dipped⟩)
    (haC_Dipped : PySem.W.findIn K (.ref C_Dipped) "__class__" = some (some (.builtin "object.__class__")))
    (hmC_Dipped : PySem.W.mroIn K C_Dipped (.type "object") = some true)
    (kve_Dipped : PySem.W.kitOne K (.ref C_Dipped) (.type "ValueError") = some true)
    (kq0_Dipped : PySem.W.kitOne K (.ref C_Dipped) (.ref C_SlackError) = some true)
    (kq1_Dipped : PySem.W.kitOne K (.ref C_Dipped) (.ref C_NoNumber) = some false)
    (kq2_Dipped : PySem.W.kitOne K (.ref C_Dipped) (.ref C_NoTable) = some false)
    (kq3_Dipped : PySem.W.kitOne K (.ref C_Dipped) (.ref C_NoRow) = some false)
    (kq4_Dipped : PySem.W.kitOne K (.ref C_Dipped) (.ref C_NoChoice) = some false)
    (kq5_Dipped : PySem.W.kitOne K (.ref C_Dipped) (.ref C_Flat) = some false)
    (kq6_Dipped : PySem.W.kitOne K (.ref C_Dipped) (.ref C_NoSaying) = some false)
    (kq7_Dipped : PySem.W.kitOne K (.ref C_Dipped) (.ref C_Lifted) = some false)
    (kq8_Dipped : PySem.W.kitOne K (.ref C_Dipped) (.ref C_NoCover) = some false)
    (kq9_Dipped : PySem.W.kitOne K (.ref C_Dipped) (.ref C_Dipped) = some true)
    (kq10_Dipped : PySem.W.kitOne K (.ref C_Dipped) (.ref C_NotOne) = some false)
    (kq11_Dipped : PySem.W.kitOne K (.ref C_Dipped) (.ref C_NoText) = some false)
    (kq12_Dipped : PySem.W.kitOne K (.ref C_Dipped) (.ref C_NoLine) = some false)
    (kq13_Dipped : PySem.W.kitOne K (.ref C_Dipped) (.ref C_NoName) = some false)
    (xL_NotOne : K.lookup C_NotOne = some (excClassObj nm_NotOne q0_NotOne C_NotOne N0_NotOne bs0_NotOne [.ref C_SlackError, .type "ValueError", .type "Exception", .type "BaseException", .type "object"] true sn0_NotOne sub0_NotOne ab0_NotOne col0_NotOne dd0_NotOne m0_NotOne m1_NotOne m2_NotOne m3_NotOne m5_NotOne "ValueError.__new__"))
    (sa_NotOne : PySem.W.findIn K (.ref C_NotOne) "__setattr__" = some (some (.builtin "object.__setattr__")))
    (ga_NotOne : PySem.W.findIn K (.ref C_NotOne) "__getattribute__" = some (some (.builtin "BaseException.__getattribute__")))
    (gg_NotOne : PySem.W.findIn K (.ref C_NotOne) "__getattr__" = some none)
    (no_choice_NotOne : PySem.W.findIn K (.ref C_NotOne) "choice" = some none)
    (kC_NotOne : PySem.W.keepIn K (.ref C_NotOne) = true)
    (exC_NotOne : PySem.W.subIn K (.ref C_NotOne) (.type "BaseException") = some true)
    (veC_NotOne : PySem.W.subIn K (.ref C_NotOne) (.type "ValueError") = some true)
    (tyC_NotOne : PySem.W.typeIn K (.ref C_NotOne) = some (.type "type"))
    (hdC_NotOne : PySem.W.hasDictIn K C_NotOne = true)
    (iC_NotOne : PySem.W.findIn K (.ref C_NotOne) "__init__" = some (some (.ref fI_NotOne)))
    (tI_NotOne : PySem.W.typeIn K (.ref fI_NotOne) = some (.type "function"))
    (along_NotOne : PySem.W.ks_superIn K C_NotOne C_NotOne "__init__" = some (some (.builtin "ValueError.__init__")))
    (mro_NotOne : PySem.W.mroIn K C_NotOne (.ref C_NotOne) = some true)
    (lI_NotOne : K.lookup fI_NotOne = some ⟨ocI_NotOne, odI_NotOne, .func (PySem.W.ksFn "__init__" "NotOne.__init__" (defArgs PySem.SupK.si_NotOne) (defBody PySem.SupK.si_NotOne) (defScope PySem.SupK.si_NotOne) .none kVI_NotOne dcI_NotOne pmI_NotOne anI_NotOne (.ref cdaI_NotOne) ctI_NotOne ccI_NotOne), slI_NotOne⟩)
    (cI_NotOne : PySem.W.codeIn K (.ref cdaI_NotOne) "NotOne.__init__" = true)
    (lcd_NotOne : K.lookup cdaI_NotOne = some ⟨cclI_NotOne, cddI_NotOne, .fields vsI_NotOne, ccsI_NotOne⟩)
    (hvs_NotOne : vsI_NotOne[2]? = some (.str fileI_NotOne tfI_NotOne))
    (hfile_NotOne : ((RW0.main.file : Str) == fileI_NotOne) = true)
    (lcc_NotOne : K.lookup ccI_NotOne = some ⟨clI_NotOne, cldI_NotOne, .cell (some (.ref C_NotOne)), cslI_NotOne⟩)
    (haC_NotOne : PySem.W.findIn K (.ref C_NotOne) "__class__" = some (some (.builtin "object.__class__")))
    (hmC_NotOne : PySem.W.mroIn K C_NotOne (.type "object") = some true)
    (kve_NotOne : PySem.W.kitOne K (.ref C_NotOne) (.type "ValueError") = some true)
    (kq0_NotOne : PySem.W.kitOne K (.ref C_NotOne) (.ref C_SlackError) = some true)
    (kq1_NotOne : PySem.W.kitOne K (.ref C_NotOne) (.ref C_NoNumber) = some false)
    (kq2_NotOne : PySem.W.kitOne K (.ref C_NotOne) (.ref C_NoTable) = some false)
    (kq3_NotOne : PySem.W.kitOne K (.ref C_NotOne) (.ref C_NoRow) = some false)
    (kq4_NotOne : PySem.W.kitOne K (.ref C_NotOne) (.ref C_NoChoice) = some false)
    (kq5_NotOne : PySem.W.kitOne K (.ref C_NotOne) (.ref C_Flat) = some false)
    (kq6_NotOne : PySem.W.kitOne K (.ref C_NotOne) (.ref C_NoSaying) = some false)
    (kq7_NotOne : PySem.W.kitOne K (.ref C_NotOne) (.ref C_Lifted) = some false)
    (kq8_NotOne : PySem.W.kitOne K (.ref C_NotOne) (.ref C_NoCover) = some false)
    (kq9_NotOne : PySem.W.kitOne K (.ref C_NotOne) (.ref C_Dipped) = some false)
    (kq10_NotOne : PySem.W.kitOne K (.ref C_NotOne) (.ref C_NotOne) = some true)
    (kq11_NotOne : PySem.W.kitOne K (.ref C_NotOne) (.ref C_NoText) = some false)
    (kq12_NotOne : PySem.W.kitOne K (.ref C_NotOne) (.ref C_NoLine) = some false)
    (kq13_NotOne : PySem.W.kitOne K (.ref C_NotOne) (.ref C_NoName) = some false)
    (xC_NoText : PySem.W.excIn K C_NoText [.type "ValueError", .type "Exception", .type "BaseException", .type "object"] "ValueError.__new__" = true)
    (ga_NoText : PySem.W.findIn K (.ref C_NoText) "__getattribute__" = some (some (.builtin "BaseException.__getattribute__")))
    (gg_NoText : PySem.W.findIn K (.ref C_NoText) "__getattr__" = some none)
    (kC_NoText : PySem.W.keepIn K (.ref C_NoText) = true)
    (exC_NoText : PySem.W.subIn K (.ref C_NoText) (.type "BaseException") = some true)
    (tyC_NoText : PySem.W.typeIn K (.ref C_NoText) = some (.type "type"))
    (hdC_NoText : PySem.W.hasDictIn K C_NoText = true)
    (haC_NoText : PySem.W.findIn K (.ref C_NoText) "__class__" = some (some (.builtin "object.__class__")))
    (hmC_NoText : PySem.W.mroIn K C_NoText (.type "object") = some true)
    (kve_NoText : PySem.W.kitOne K (.ref C_NoText) (.type "ValueError") = some true)
    (kq0_NoText : PySem.W.kitOne K (.ref C_NoText) (.ref C_SlackError) = some true)
    (kq1_NoText : PySem.W.kitOne K (.ref C_NoText) (.ref C_NoNumber) = some false)
    (kq2_NoText : PySem.W.kitOne K (.ref C_NoText) (.ref C_NoTable) = some false)
    (kq3_NoText : PySem.W.kitOne K (.ref C_NoText) (.ref C_NoRow) = some false)
    (kq4_NoText : PySem.W.kitOne K (.ref C_NoText) (.ref C_NoChoice) = some false)
    (kq5_NoText : PySem.W.kitOne K (.ref C_NoText) (.ref C_Flat) = some false)
    (kq6_NoText : PySem.W.kitOne K (.ref C_NoText) (.ref C_NoSaying) = some false)
    (kq7_NoText : PySem.W.kitOne K (.ref C_NoText) (.ref C_Lifted) = some false)
    (kq8_NoText : PySem.W.kitOne K (.ref C_NoText) (.ref C_NoCover) = some false)
    (kq9_NoText : PySem.W.kitOne K (.ref C_NoText) (.ref C_Dipped) = some false)
    (kq10_NoText : PySem.W.kitOne K (.ref C_NoText) (.ref C_NotOne) = some false)
    (kq11_NoText : PySem.W.kitOne K (.ref C_NoText) (.ref C_NoText) = some true)
    (kq12_NoText : PySem.W.kitOne K (.ref C_NoText) (.ref C_NoLine) = some false)
    (kq13_NoText : PySem.W.kitOne K (.ref C_NoText) (.ref C_NoName) = some false)
    (xC_NoLine : PySem.W.excIn K C_NoLine [.type "ValueError", .type "Exception", .type "BaseException", .type "object"] "ValueError.__new__" = true)
    (ga_NoLine : PySem.W.findIn K (.ref C_NoLine) "__getattribute__" = some (some (.builtin "BaseException.__getattribute__")))
    (gg_NoLine : PySem.W.findIn K (.ref C_NoLine) "__getattr__" = some none)
    (kC_NoLine : PySem.W.keepIn K (.ref C_NoLine) = true)
    (exC_NoLine : PySem.W.subIn K (.ref C_NoLine) (.type "BaseException") = some true)
    (tyC_NoLine : PySem.W.typeIn K (.ref C_NoLine) = some (.type "type"))
    (hdC_NoLine : PySem.W.hasDictIn K C_NoLine = true)
    (haC_NoLine : PySem.W.findIn K (.ref C_NoLine) "__class__" = some (some (.builtin "object.__class__")))
    (hmC_NoLine : PySem.W.mroIn K C_NoLine (.type "object") = some true)
    (kve_NoLine : PySem.W.kitOne K (.ref C_NoLine) (.type "ValueError") = some true)
    (kq0_NoLine : PySem.W.kitOne K (.ref C_NoLine) (.ref C_SlackError) = some true)
    (kq1_NoLine : PySem.W.kitOne K (.ref C_NoLine) (.ref C_NoNumber) = some false)
    (kq2_NoLine : PySem.W.kitOne K (.ref C_NoLine) (.ref C_NoTable) = some false)
    (kq3_NoLine : PySem.W.kitOne K (.ref C_NoLine) (.ref C_NoRow) = some false)
    (kq4_NoLine : PySem.W.kitOne K (.ref C_NoLine) (.ref C_NoChoice) = some false)
    (kq5_NoLine : PySem.W.kitOne K (.ref C_NoLine) (.ref C_Flat) = some false)
    (kq6_NoLine : PySem.W.kitOne K (.ref C_NoLine) (.ref C_NoSaying) = some false)
    (kq7_NoLine : PySem.W.kitOne K (.ref C_NoLine) (.ref C_Lifted) = some false)
    (kq8_NoLine : PySem.W.kitOne K (.ref C_NoLine) (.ref C_NoCover) = some false)
    (kq9_NoLine : PySem.W.kitOne K (.ref C_NoLine) (.ref C_Dipped) = some false)
    (kq10_NoLine : PySem.W.kitOne K (.ref C_NoLine) (.ref C_NotOne) = some false)
    (kq11_NoLine : PySem.W.kitOne K (.ref C_NoLine) (.ref C_NoText) = some false)
    (kq12_NoLine : PySem.W.kitOne K (.ref C_NoLine) (.ref C_NoLine) = some true)
    (kq13_NoLine : PySem.W.kitOne K (.ref C_NoLine) (.ref C_NoName) = some false)
    (xL_NoName : K.lookup C_NoName = some (excClassObj nm_NoName q0_NoName C_NoName N0_NoName bs0_NoName [.ref C_SlackError, .type "ValueError", .type "Exception", .type "BaseException", .type "object"] true sn0_NoName sub0_NoName ab0_NoName col0_NoName dd0_NoName m0_NoName m1_NoName m2_NoName m3_NoName m5_NoName "ValueError.__new__"))
    (sa_NoName : PySem.W.findIn K (.ref C_NoName) "__setattr__" = some (some (.builtin "object.__setattr__")))
    (ga_NoName : PySem.W.findIn K (.ref C_NoName) "__getattribute__" = some (some (.builtin "BaseException.__getattribute__")))
    (gg_NoName : PySem.W.findIn K (.ref C_NoName) "__getattr__" = some none)
    (no_name_NoName : PySem.W.findIn K (.ref C_NoName) "name" = some none)
    (kC_NoName : PySem.W.keepIn K (.ref C_NoName) = true)
    (exC_NoName : PySem.W.subIn K (.ref C_NoName) (.type "BaseException") = some true)
    (veC_NoName : PySem.W.subIn K (.ref C_NoName) (.type "ValueError") = some true)
    (tyC_NoName : PySem.W.typeIn K (.ref C_NoName) = some (.type "type"))
    (hdC_NoName : PySem.W.hasDictIn K C_NoName = true)
    (iC_NoName : PySem.W.findIn K (.ref C_NoName) "__init__" = some (some (.ref fI_NoName)))
    (tI_NoName : PySem.W.typeIn K (.ref fI_NoName) = some (.type "function"))
    (along_NoName : PySem.W.ks_superIn K C_NoName C_NoName "__init__" = some (some (.builtin "ValueError.__init__")))
    (mro_NoName : PySem.W.mroIn K C_NoName (.ref C_NoName) = some true)
    (lI_NoName : K.lookup fI_NoName = some ⟨ocI_NoName, odI_NoName, .func (PySem.W.ksFn "__init__" "NoName.__init__" (defArgs PySem.SupK.si_NoName) (defBody PySem.SupK.si_NoName) (defScope PySem.SupK.si_NoName) .none kVI_NoName dcI_NoName pmI_NoName anI_NoName (.ref cdaI_NoName) ctI_NoName ccI_NoName), slI_NoName⟩)
    (cI_NoName : PySem.W.codeIn K (.ref cdaI_NoName) "NoName.__init__" = true)
    (lcd_NoName : K.lookup cdaI_NoName = some ⟨cclI_NoName, cddI_NoName, .fields vsI_NoName, ccsI_NoName⟩)
    (hvs_NoName : vsI_NoName[2]? = some (.str fileI_NoName tfI_NoName))
    (hfile_NoName : ((RW0.main.file : Str) == fileI_NoName) = true)
    (lcc_NoName : K.lookup ccI_NoName = some ⟨clI_NoName, cldI_NoName, .cell (some (.ref C_NoName)), cslI_NoName⟩)
    (haC_NoName : PySem.W.findIn K (.ref C_NoName) "__class__" = some (some (.builtin "object.__class__")))
    (hmC_NoName : PySem.W.mroIn K C_NoName (.type "object") = some true)
    (kve_NoName : PySem.W.kitOne K (.ref C_NoName) (.type "ValueError") = some true)
    (kq0_NoName : PySem.W.kitOne K (.ref C_NoName) (.ref C_SlackError) = some true)
    (kq1_NoName : PySem.W.kitOne K (.ref C_NoName) (.ref C_NoNumber) = some false)
    (kq2_NoName : PySem.W.kitOne K (.ref C_NoName) (.ref C_NoTable) = some false)
    (kq3_NoName : PySem.W.kitOne K (.ref C_NoName) (.ref C_NoRow) = some false)
    (kq4_NoName : PySem.W.kitOne K (.ref C_NoName) (.ref C_NoChoice) = some false)
    (kq5_NoName : PySem.W.kitOne K (.ref C_NoName) (.ref C_Flat) = some false)
    (kq6_NoName : PySem.W.kitOne K (.ref C_NoName) (.ref C_NoSaying) = some false)
    (kq7_NoName : PySem.W.kitOne K (.ref C_NoName) (.ref C_Lifted) = some false)
    (kq8_NoName : PySem.W.kitOne K (.ref C_NoName) (.ref C_NoCover) = some false)
    (kq9_NoName : PySem.W.kitOne K (.ref C_NoName) (.ref C_Dipped) = some false)
    (kq10_NoName : PySem.W.kitOne K (.ref C_NoName) (.ref C_NotOne) = some false)
    (kq11_NoName : PySem.W.kitOne K (.ref C_NoName) (.ref C_NoText) = some false)
    (kq12_NoName : PySem.W.kitOne K (.ref C_NoName) (.ref C_NoLine) = some false)
    (kq13_NoName : PySem.W.kitOne K (.ref C_NoName) (.ref C_NoName) = some true)
    (a1 : PySem.W.nsIn K mainGlobals "_law_mixed" = some (some (.ref f1))) (l1 : K.lookup f1 = some ⟨oc1, od1, .func (PySem.W.fnOf "_law_mixed" "_law_mixed" (defArgs s__law_mixed) (defBody s__law_mixed) (defScope s__law_mixed) .none kV1 dc1 pm1 an1 cd1 ct1), sl1⟩) (c1 : PySem.W.codeIn K cd1 "_law_mixed" = true) (k1 : PySem.W.keepIn K (.ref f1) = true)
    (a2 : PySem.W.nsIn K mainGlobals "_law_pile" = some (some (.ref f2))) (l2 : K.lookup f2 = some ⟨oc2, od2, .func (PySem.W.fnOf "_law_pile" "_law_pile" (defArgs s__law_pile) (defBody s__law_pile) (defScope s__law_pile) .none kV2 dc2 pm2 an2 cd2 ct2), sl2⟩) (c2 : PySem.W.codeIn K cd2 "_law_pile" = true) (k2 : PySem.W.keepIn K (.ref f2) = true)
    (a3 : PySem.W.nsIn K mainGlobals "_law_take" = some (some (.ref f3))) (l3 : K.lookup f3 = some ⟨oc3, od3, .func (PySem.W.fnOf "_law_take" "_law_take" (defArgs s__law_take) (defBody s__law_take) (defScope s__law_take) .none kV3 dc3 pm3 an3 cd3 ct3), sl3⟩) (c3 : PySem.W.codeIn K cd3 "_law_take" = true) (k3 : PySem.W.keepIn K (.ref f3) = true)
    (a4 : PySem.W.nsIn K mainGlobals "_law_kind" = some (some (.ref f4))) (l4 : K.lookup f4 = some ⟨oc4, od4, .func (PySem.W.fnOf "_law_kind" "_law_kind" (defArgs s__law_kind) (defBody s__law_kind) (defScope s__law_kind) .none kV4 dc4 pm4 an4 cd4 ct4), sl4⟩) (c4 : PySem.W.codeIn K cd4 "_law_kind" = true) (k4 : PySem.W.keepIn K (.ref f4) = true)
    (a5 : PySem.W.nsIn K mainGlobals "_law_plain" = some (some (.ref f5))) (l5 : K.lookup f5 = some ⟨oc5, od5, .func (PySem.W.fnOf "_law_plain" "_law_plain" (defArgs s__law_plain) (defBody s__law_plain) (defScope s__law_plain) .none kV5 dc5 pm5 an5 cd5 ct5), sl5⟩) (c5 : PySem.W.codeIn K cd5 "_law_plain" = true) (k5 : PySem.W.keepIn K (.ref f5) = true)
    (a6 : PySem.W.nsIn K mainGlobals "law" = some (some (.ref f6))) (l6 : K.lookup f6 = some ⟨oc6, od6, .func (PySem.W.fnOf "law" "law" (defArgs s_law) (defBody s_law) (defScope s_law) .none kV6 dc6 pm6 an6 cd6 ct6), sl6⟩) (c6 : PySem.W.codeIn K cd6 "law" = true) (k6 : PySem.W.keepIn K (.ref f6) = true)
    (z_abs : PySem.W.nsIn K mainGlobals "abs" = some none)
    (z_len : PySem.W.nsIn K mainGlobals "len" = some none)
    (z_range : PySem.W.nsIn K mainGlobals "range" = some none)
    (z_isinstance : PySem.W.nsIn K mainGlobals "isinstance" = some none)
    (z_zip : PySem.W.nsIn K mainGlobals "zip" = some none)
    (z_int : PySem.W.nsIn K mainGlobals "int" = some none)
    (z_str : PySem.W.nsIn K mainGlobals "str" = some none)
    (z_ValueError : PySem.W.nsIn K mainGlobals "ValueError" = some none)
    (z_list : PySem.W.nsIn K mainGlobals "list" = some none)
    : ∃ fd : FuncData, (∀ (s : Shared) (v : Value), BindsTo s fd ⟨[v], []⟩ [("_law_script", v)]) ∧ ∀ base : Heap, K.In base → base.Ns mainGlobals mg → FnOk RW0 w K mg base CX0 4 fa fd ["_law_script"] (spLaw K) := by
  have e := hfa.symm.trans (PySem.W.mg_of X G a6)
  cases e
  have F1 := fun_mk (st := s__law_mixed) l1 c1 k1
  have g1 := PySem.W.mg_of X G a1
  have F2 := fun_mk (st := s__law_pile) l2 c2 k2
  have g2 := PySem.W.mg_of X G a2
  have F3 := fun_mk (st := s__law_take) l3 c3 k3
  have g3 := PySem.W.mg_of X G a3
  have F4 := fun_mk (st := s__law_kind) l4 c4 k4
  have g4 := PySem.W.mg_of X G a4
  have F5 := fun_mk (st := s__law_plain) l5 c5 k5
  have g5 := PySem.W.mg_of X G a5
  have F6 := fun_mk (st := s_law) l6 c6 k6
  have g6 := PySem.W.mg_of X G a6
  let c : Adr := ⟨C_SlackError, C_NoNumber, C_NoTable, C_NoRow, C_NoChoice, C_Flat, C_NoSaying, C_Lifted, C_NoCover, C_Dipped, C_NotOne, C_NoText, C_NoLine, C_NoName⟩
  have T : Txt K mg c := ⟨PySem.W.mg_none_of X G z_abs, PySem.W.mg_none_of X G z_len, PySem.W.mg_none_of X G z_range, PySem.W.mg_none_of X G z_isinstance, PySem.W.mg_none_of X G z_zip, PySem.W.mg_none_of X G z_int, PySem.W.mg_none_of X G z_str, PySem.W.mg_none_of X G z_ValueError, PySem.W.mg_of X G g_SlackError, PySem.W.mg_of X G g_NoNumber, PySem.W.mg_of X G g_NoTable, PySem.W.mg_of X G g_NoRow, PySem.W.mg_of X G g_NoChoice, PySem.W.mg_of X G g_Flat, PySem.W.mg_of X G g_NoSaying, PySem.W.mg_of X G g_Lifted, PySem.W.mg_of X G g_NoCover, PySem.W.mg_of X G g_Dipped, PySem.W.mg_of X G g_NotOne, PySem.W.mg_of X G g_NoText, PySem.W.mg_of X G g_NoLine, PySem.W.mg_of X G g_NoName⟩
  have xf0 : XfC K c.SlackError := ⟨ga_SlackError, gg_SlackError, exC_SlackError, hdC_SlackError⟩
  have ec0 : ExcC K c.SlackError := ⟨ga_SlackError, gg_SlackError, exC_SlackError, hdC_SlackError, haC_SlackError, hnC, htC, hmC_SlackError⟩
  have kd0 : KindOf K c c.SlackError (fun j => j == 0) := ⟨ec0, kve_SlackError, kq0_SlackError, kq1_SlackError, kq2_SlackError, kq3_SlackError, kq4_SlackError, kq5_SlackError, kq6_SlackError, kq7_SlackError, kq8_SlackError, kq9_SlackError, kq10_SlackError, kq11_SlackError, kq12_SlackError, kq13_SlackError⟩
  have p0 : PlC K c c.SlackError 0 := ⟨xC_SlackError, kC_SlackError, kd0, xf0⟩
  have xf1 : XfC K c.NoNumber := ⟨ga_NoNumber, gg_NoNumber, exC_NoNumber, hdC_NoNumber⟩
  have ec1 : ExcC K c.NoNumber := ⟨ga_NoNumber, gg_NoNumber, exC_NoNumber, hdC_NoNumber, haC_NoNumber, hnC, htC, hmC_NoNumber⟩
  have kd1 : KindOf K c c.NoNumber (fun j => j == 1) := ⟨ec1, kve_NoNumber, kq0_NoNumber, kq1_NoNumber, kq2_NoNumber, kq3_NoNumber, kq4_NoNumber, kq5_NoNumber, kq6_NoNumber, kq7_NoNumber, kq8_NoNumber, kq9_NoNumber, kq10_NoNumber, kq11_NoNumber, kq12_NoNumber, kq13_NoNumber⟩
  have t1 : PySem.SupX.ExTxt K mg c.NoNumber := ⟨⟨nm_NoNumber, q0_NoNumber, N0_NoNumber, bs0_NoNumber, _, sn0_NoNumber, sub0_NoNumber, ab0_NoNumber, col0_NoNumber, dd0_NoNumber, m0_NoNumber, m1_NoNumber, m2_NoNumber, m3_NoNumber, m5_NoNumber, xL_NoNumber, by rfl⟩, sa_NoNumber, ga_NoNumber, gg_NoNumber, kC_NoNumber, exC_NoNumber, veC_NoNumber, tyC_NoNumber, hdC_NoNumber⟩
  have j1 : PySem.SupK.In_NoNumber K mg c.NoNumber fI_NoNumber := ⟨no_top_NoNumber, iC_NoNumber, tI_NoNumber, PySem.W.mg_none_of X G z_super, opq, along_NoNumber, mro_NoNumber, ⟨ocI_NoNumber, odI_NoNumber, kVI_NoNumber, dcI_NoNumber, pmI_NoNumber, anI_NoNumber, cdaI_NoNumber, ccI_NoNumber, ctI_NoNumber, slI_NoNumber, cclI_NoNumber, cddI_NoNumber, vsI_NoNumber, ccsI_NoNumber, fileI_NoNumber, tfI_NoNumber, clI_NoNumber, cldI_NoNumber, cslI_NoNumber, lI_NoNumber, cI_NoNumber, lcd_NoNumber, hvs_NoNumber, hfile_NoNumber, lcc_NoNumber⟩⟩
  have fl1 : FlC K c c.NoNumber 1 := ⟨kC_NoNumber, kd1, xf1, fun f hf => by rw [List.mem_singleton.mp (show f ∈ [("top" : Str)] from hf)]; exact no_top_NoNumber⟩
  have xf2 : XfC K c.NoTable := ⟨ga_NoTable, gg_NoTable, exC_NoTable, hdC_NoTable⟩
  have ec2 : ExcC K c.NoTable := ⟨ga_NoTable, gg_NoTable, exC_NoTable, hdC_NoTable, haC_NoTable, hnC, htC, hmC_NoTable⟩
  have kd2 : KindOf K c c.NoTable (fun j => j == 2) := ⟨ec2, kve_NoTable, kq0_NoTable, kq1_NoTable, kq2_NoTable, kq3_NoTable, kq4_NoTable, kq5_NoTable, kq6_NoTable, kq7_NoTable, kq8_NoTable, kq9_NoTable, kq10_NoTable, kq11_NoTable, kq12_NoTable, kq13_NoTable⟩
  have t2 : PySem.SupX.ExTxt K mg c.NoTable := ⟨⟨nm_NoTable, q0_NoTable, N0_NoTable, bs0_NoTable, _, sn0_NoTable, sub0_NoTable, ab0_NoTable, col0_NoTable, dd0_NoTable, m0_NoTable, m1_NoTable, m2_NoTable, m3_NoTable, m5_NoTable, xL_NoTable, by rfl⟩, sa_NoTable, ga_NoTable, gg_NoTable, kC_NoTable, exC_NoTable, veC_NoTable, tyC_NoTable, hdC_NoTable⟩
  have j2 : PySem.SupK.In_NoTable K mg c.NoTable fI_NoTable := ⟨no_place_NoTable, iC_NoTable, tI_NoTable, PySem.W.mg_none_of X G z_super, opq, along_NoTable, mro_NoTable, ⟨ocI_NoTable, odI_NoTable, kVI_NoTable, dcI_NoTable, pmI_NoTable, anI_NoTable, cdaI_NoTable, ccI_NoTable, ctI_NoTable, slI_NoTable, cclI_NoTable, cddI_NoTable, vsI_NoTable, ccsI_NoTable, fileI_NoTable, tfI_NoTable, clI_NoTable, cldI_NoTable, cslI_NoTable, lI_NoTable, cI_NoTable, lcd_NoTable, hvs_NoTable, hfile_NoTable, lcc_NoTable⟩⟩
  have fl2 : FlC K c c.NoTable 2 := ⟨kC_NoTable, kd2, xf2, fun f hf => by rw [List.mem_singleton.mp (show f ∈ [("place" : Str)] from hf)]; exact no_place_NoTable⟩
  have xf3 : XfC K c.NoRow := ⟨ga_NoRow, gg_NoRow, exC_NoRow, hdC_NoRow⟩
  have ec3 : ExcC K c.NoRow := ⟨ga_NoRow, gg_NoRow, exC_NoRow, hdC_NoRow, haC_NoRow, hnC, htC, hmC_NoRow⟩
  have kd3 : KindOf K c c.NoRow (fun j => j == 3) := ⟨ec3, kve_NoRow, kq0_NoRow, kq1_NoRow, kq2_NoRow, kq3_NoRow, kq4_NoRow, kq5_NoRow, kq6_NoRow, kq7_NoRow, kq8_NoRow, kq9_NoRow, kq10_NoRow, kq11_NoRow, kq12_NoRow, kq13_NoRow⟩
  have p3 : PlC K c c.NoRow 3 := ⟨xC_NoRow, kC_NoRow, kd3, xf3⟩
  have xf4 : XfC K c.NoChoice := ⟨ga_NoChoice, gg_NoChoice, exC_NoChoice, hdC_NoChoice⟩
  have ec4 : ExcC K c.NoChoice := ⟨ga_NoChoice, gg_NoChoice, exC_NoChoice, hdC_NoChoice, haC_NoChoice, hnC, htC, hmC_NoChoice⟩
  have kd4 : KindOf K c c.NoChoice (fun j => j == 4) := ⟨ec4, kve_NoChoice, kq0_NoChoice, kq1_NoChoice, kq2_NoChoice, kq3_NoChoice, kq4_NoChoice, kq5_NoChoice, kq6_NoChoice, kq7_NoChoice, kq8_NoChoice, kq9_NoChoice, kq10_NoChoice, kq11_NoChoice, kq12_NoChoice, kq13_NoChoice⟩
  have p4 : PlC K c c.NoChoice 4 := ⟨xC_NoChoice, kC_NoChoice, kd4, xf4⟩
  have xf5 : XfC K c.Flat := ⟨ga_Flat, gg_Flat, exC_Flat, hdC_Flat⟩
  have ec5 : ExcC K c.Flat := ⟨ga_Flat, gg_Flat, exC_Flat, hdC_Flat, haC_Flat, hnC, htC, hmC_Flat⟩
  have kd5 : KindOf K c c.Flat (fun j => j == 5) := ⟨ec5, kve_Flat, kq0_Flat, kq1_Flat, kq2_Flat, kq3_Flat, kq4_Flat, kq5_Flat, kq6_Flat, kq7_Flat, kq8_Flat, kq9_Flat, kq10_Flat, kq11_Flat, kq12_Flat, kq13_Flat⟩
  have t5 : PySem.SupX.ExTxt K mg c.Flat := ⟨⟨nm_Flat, q0_Flat, N0_Flat, bs0_Flat, _, sn0_Flat, sub0_Flat, ab0_Flat, col0_Flat, dd0_Flat, m0_Flat, m1_Flat, m2_Flat, m3_Flat, m5_Flat, xL_Flat, by rfl⟩, sa_Flat, ga_Flat, gg_Flat, kC_Flat, exC_Flat, veC_Flat, tyC_Flat, hdC_Flat⟩
  have j5 : PySem.SupK.In_Flat K mg c.Flat fI_Flat := ⟨no_choice_Flat, iC_Flat, tI_Flat, PySem.W.mg_none_of X G z_super, opq, along_Flat, mro_Flat, ⟨ocI_Flat, odI_Flat, kVI_Flat, dcI_Flat, pmI_Flat, anI_Flat, cdaI_Flat, ccI_Flat, ctI_Flat, slI_Flat, cclI_Flat, cddI_Flat, vsI_Flat, ccsI_Flat, fileI_Flat, tfI_Flat, clI_Flat, cldI_Flat, cslI_Flat, lI_Flat, cI_Flat, lcd_Flat, hvs_Flat, hfile_Flat, lcc_Flat⟩⟩
  have fl5 : FlC K c c.Flat 5 := ⟨kC_Flat, kd5, xf5, fun f hf => by rw [List.mem_singleton.mp (show f ∈ [("choice" : Str)] from hf)]; exact no_choice_Flat⟩
  have xf6 : XfC K c.NoSaying := ⟨ga_NoSaying, gg_NoSaying, exC_NoSaying, hdC_NoSaying⟩
  have ec6 : ExcC K c.NoSaying := ⟨ga_NoSaying, gg_NoSaying, exC_NoSaying, hdC_NoSaying, haC_NoSaying, hnC, htC, hmC_NoSaying⟩
  have kd6 : KindOf K c c.NoSaying (fun j => j == 6) := ⟨ec6, kve_NoSaying, kq0_NoSaying, kq1_NoSaying, kq2_NoSaying, kq3_NoSaying, kq4_NoSaying, kq5_NoSaying, kq6_NoSaying, kq7_NoSaying, kq8_NoSaying, kq9_NoSaying, kq10_NoSaying, kq11_NoSaying, kq12_NoSaying, kq13_NoSaying⟩
  have p6 : PlC K c c.NoSaying 6 := ⟨xC_NoSaying, kC_NoSaying, kd6, xf6⟩
  have xf7 : XfC K c.Lifted := ⟨ga_Lifted, gg_Lifted, exC_Lifted, hdC_Lifted⟩
  have ec7 : ExcC K c.Lifted := ⟨ga_Lifted, gg_Lifted, exC_Lifted, hdC_Lifted, haC_Lifted, hnC, htC, hmC_Lifted⟩
  have kd7 : KindOf K c c.Lifted (fun j => j == 7) := ⟨ec7, kve_Lifted, kq0_Lifted, kq1_Lifted, kq2_Lifted, kq3_Lifted, kq4_Lifted, kq5_Lifted, kq6_Lifted, kq7_Lifted, kq8_Lifted, kq9_Lifted, kq10_Lifted, kq11_Lifted, kq12_Lifted, kq13_Lifted⟩
  have t7 : PySem.SupX.ExTxt K mg c.Lifted := ⟨⟨nm_Lifted, q0_Lifted, N0_Lifted, bs0_Lifted, _, sn0_Lifted, sub0_Lifted, ab0_Lifted, col0_Lifted, dd0_Lifted, m0_Lifted, m1_Lifted, m2_Lifted, m3_Lifted, m5_Lifted, xL_Lifted, by rfl⟩, sa_Lifted, ga_Lifted, gg_Lifted, kC_Lifted, exC_Lifted, veC_Lifted, tyC_Lifted, hdC_Lifted⟩
  have j7 : PySem.SupK.In_Lifted K mg c.Lifted fI_Lifted := ⟨no_row_Lifted, no_column_Lifted, iC_Lifted, tI_Lifted, PySem.W.mg_none_of X G z_super, opq, along_Lifted, mro_Lifted, ⟨ocI_Lifted, odI_Lifted, kVI_Lifted, dcI_Lifted, pmI_Lifted, anI_Lifted, cdaI_Lifted, ccI_Lifted, ctI_Lifted, slI_Lifted, cclI_Lifted, cddI_Lifted, vsI_Lifted, ccsI_Lifted, fileI_Lifted, tfI_Lifted, clI_Lifted, cldI_Lifted, cslI_Lifted, lI_Lifted, cI_Lifted, lcd_Lifted, hvs_Lifted, hfile_Lifted, lcc_Lifted⟩⟩
  have fl7 : FlC K c c.Lifted 7 := ⟨kC_Lifted, kd7, xf7, fun f hf => by
    have hf : f ∈ [("row" : Str), "column"] := hf
    simp only [List.mem_cons, List.not_mem_nil, or_false] at hf
    rcases hf with rfl | rfl
    · exact no_row_Lifted
    · exact no_column_Lifted⟩
  have xf8 : XfC K c.NoCover := ⟨ga_NoCover, gg_NoCover, exC_NoCover, hdC_NoCover⟩
  have ec8 : ExcC K c.NoCover := ⟨ga_NoCover, gg_NoCover, exC_NoCover, hdC_NoCover, haC_NoCover, hnC, htC, hmC_NoCover⟩
  have kd8 : KindOf K c c.NoCover (fun j => j == 8) := ⟨ec8, kve_NoCover, kq0_NoCover, kq1_NoCover, kq2_NoCover, kq3_NoCover, kq4_NoCover, kq5_NoCover, kq6_NoCover, kq7_NoCover, kq8_NoCover, kq9_NoCover, kq10_NoCover, kq11_NoCover, kq12_NoCover, kq13_NoCover⟩
  have p8 : PlC K c c.NoCover 8 := ⟨xC_NoCover, kC_NoCover, kd8, xf8⟩
  have xf9 : XfC K c.Dipped := ⟨ga_Dipped, gg_Dipped, exC_Dipped, hdC_Dipped⟩
  have ec9 : ExcC K c.Dipped := ⟨ga_Dipped, gg_Dipped, exC_Dipped, hdC_Dipped, haC_Dipped, hnC, htC, hmC_Dipped⟩
  have kd9 : KindOf K c c.Dipped (fun j => j == 9) := ⟨ec9, kve_Dipped, kq0_Dipped, kq1_Dipped, kq2_Dipped, kq3_Dipped, kq4_Dipped, kq5_Dipped, kq6_Dipped, kq7_Dipped, kq8_Dipped, kq9_Dipped, kq10_Dipped, kq11_Dipped, kq12_Dipped, kq13_Dipped⟩
  have t9 : PySem.SupX.ExTxt K mg c.Dipped := ⟨⟨nm_Dipped, q0_Dipped, N0_Dipped, bs0_Dipped, _, sn0_Dipped, sub0_Dipped, ab0_Dipped, col0_Dipped, dd0_Dipped, m0_Dipped, m1_Dipped, m2_Dipped, m3_Dipped, m5_Dipped, xL_Dipped, by rfl⟩, sa_Dipped, ga_Dipped, gg_Dipped, kC_Dipped, exC_Dipped, veC_Dipped, tyC_Dipped, hdC_Dipped⟩
  have j9 : PySem.SupK.In_Dipped K mg c.Dipped fI_Dipped := ⟨no_row_Dipped, iC_Dipped, tI_Dipped, PySem.W.mg_none_of X G z_super, PySem.W.mg_none_of X G z_list, opq, along_Dipped, mro_Dipped, ⟨ocI_Dipped, odI_Dipped, kVI_Dipped, dcI_Dipped, pmI_Dipped, anI_Dipped, cdaI_Dipped, ccI_Dipped, ctI_Dipped, slI_Dipped, cclI_Dipped, cddI_Dipped, vsI_Dipped, ccsI_Dipped, fileI_Dipped, tfI_Dipped, clI_Dipped, cldI_Dipped, cslI_Dipped, lI_Dipped, cI_Dipped, lcd_Dipped, hvs_Dipped, hfile_Dipped, lcc_Dipped⟩⟩
  have fl9 : FlC K c c.Dipped 9 := ⟨kC_Dipped, kd9, xf9, fun f hf => by rw [List.mem_singleton.mp (show f ∈ [("row" : Str)] from hf)]; exact no_row_Dipped⟩
  have xf10 : XfC K c.NotOne := ⟨ga_NotOne, gg_NotOne, exC_NotOne, hdC_NotOne⟩
  have ec10 : ExcC K c.NotOne := ⟨ga_NotOne, gg_NotOne, exC_NotOne, hdC_NotOne, haC_NotOne, hnC, htC, hmC_NotOne⟩
  have kd10 : KindOf K c c.NotOne (fun j => j == 10) := ⟨ec10, kve_NotOne, kq0_NotOne, kq1_NotOne, kq2_NotOne, kq3_NotOne, kq4_NotOne, kq5_NotOne, kq6_NotOne, kq7_NotOne, kq8_NotOne, kq9_NotOne, kq10_NotOne, kq11_NotOne, kq12_NotOne, kq13_NotOne⟩
  have t10 : PySem.SupX.ExTxt K mg c.NotOne := ⟨⟨nm_NotOne, q0_NotOne, N0_NotOne, bs0_NotOne, _, sn0_NotOne, sub0_NotOne, ab0_NotOne, col0_NotOne, dd0_NotOne, m0_NotOne, m1_NotOne, m2_NotOne, m3_NotOne, m5_NotOne, xL_NotOne, by rfl⟩, sa_NotOne, ga_NotOne, gg_NotOne, kC_NotOne, exC_NotOne, veC_NotOne, tyC_NotOne, hdC_NotOne⟩
  have j10 : PySem.SupK.In_NotOne K mg c.NotOne fI_NotOne := ⟨no_choice_NotOne, iC_NotOne, tI_NotOne, PySem.W.mg_none_of X G z_super, opq, along_NotOne, mro_NotOne, ⟨ocI_NotOne, odI_NotOne, kVI_NotOne, dcI_NotOne, pmI_NotOne, anI_NotOne, cdaI_NotOne, ccI_NotOne, ctI_NotOne, slI_NotOne, cclI_NotOne, cddI_NotOne, vsI_NotOne, ccsI_NotOne, fileI_NotOne, tfI_NotOne, clI_NotOne, cldI_NotOne, cslI_NotOne, lI_NotOne, cI_NotOne, lcd_NotOne, hvs_NotOne, hfile_NotOne, lcc_NotOne⟩⟩
  have fl10 : FlC K c c.NotOne 10 := ⟨kC_NotOne, kd10, xf10, fun f hf => by rw [List.mem_singleton.mp (show f ∈ [("choice" : Str)] from hf)]; exact no_choice_NotOne⟩
  have xf11 : XfC K c.NoText := ⟨ga_NoText, gg_NoText, exC_NoText, hdC_NoText⟩
  have ec11 : ExcC K c.NoText := ⟨ga_NoText, gg_NoText, exC_NoText, hdC_NoText, haC_NoText, hnC, htC, hmC_NoText⟩
  have kd11 : KindOf K c c.NoText (fun j => j == 11) := ⟨ec11, kve_NoText, kq0_NoText, kq1_NoText, kq2_NoText, kq3_NoText, kq4_NoText, kq5_NoText, kq6_NoText, kq7_NoText, kq8_NoText, kq9_NoText, kq10_NoText, kq11_NoText, kq12_NoText, kq13_NoText⟩
  have p11 : PlC K c c.NoText 11 := ⟨xC_NoText, kC_NoText, kd11, xf11⟩
  have xf12 : XfC K c.NoLine := ⟨ga_NoLine, gg_NoLine, exC_NoLine, hdC_NoLine⟩
  have ec12 : ExcC K c.NoLine := ⟨ga_NoLine, gg_NoLine, exC_NoLine, hdC_NoLine, haC_NoLine, hnC, htC, hmC_NoLine⟩
  have kd12 : KindOf K c c.NoLine (fun j => j == 12) := ⟨ec12, kve_NoLine, kq0_NoLine, kq1_NoLine, kq2_NoLine, kq3_NoLine, kq4_NoLine, kq5_NoLine, kq6_NoLine, kq7_NoLine, kq8_NoLine, kq9_NoLine, kq10_NoLine, kq11_NoLine, kq12_NoLine, kq13_NoLine⟩
  have p12 : PlC K c c.NoLine 12 := ⟨xC_NoLine, kC_NoLine, kd12, xf12⟩
  have xf13 : XfC K c.NoName := ⟨ga_NoName, gg_NoName, exC_NoName, hdC_NoName⟩
  have ec13 : ExcC K c.NoName := ⟨ga_NoName, gg_NoName, exC_NoName, hdC_NoName, haC_NoName, hnC, htC, hmC_NoName⟩
  have kd13 : KindOf K c c.NoName (fun j => j == 13) := ⟨ec13, kve_NoName, kq0_NoName, kq1_NoName, kq2_NoName, kq3_NoName, kq4_NoName, kq5_NoName, kq6_NoName, kq7_NoName, kq8_NoName, kq9_NoName, kq10_NoName, kq11_NoName, kq12_NoName, kq13_NoName⟩
  have t13 : PySem.SupX.ExTxt K mg c.NoName := ⟨⟨nm_NoName, q0_NoName, N0_NoName, bs0_NoName, _, sn0_NoName, sub0_NoName, ab0_NoName, col0_NoName, dd0_NoName, m0_NoName, m1_NoName, m2_NoName, m3_NoName, m5_NoName, xL_NoName, by rfl⟩, sa_NoName, ga_NoName, gg_NoName, kC_NoName, exC_NoName, veC_NoName, tyC_NoName, hdC_NoName⟩
  have j13 : PySem.SupK.In_NoName K mg c.NoName fI_NoName := ⟨no_name_NoName, iC_NoName, tI_NoName, PySem.W.mg_none_of X G z_super, opq, along_NoName, mro_NoName, ⟨ocI_NoName, odI_NoName, kVI_NoName, dcI_NoName, pmI_NoName, anI_NoName, cdaI_NoName, ccI_NoName, ctI_NoName, slI_NoName, cclI_NoName, cddI_NoName, vsI_NoName, ccsI_NoName, fileI_NoName, tfI_NoName, clI_NoName, cldI_NoName, cslI_NoName, lI_NoName, cI_NoName, lcd_NoName, hvs_NoName, hfile_NoName, lcc_NoName⟩⟩
  have fl13 : FlC K c c.NoName 13 := ⟨kC_NoName, kd13, xf13, fun f hf => by rw [List.mem_singleton.mp (show f ∈ [("name" : Str)] from hf)]; exact no_name_NoName⟩
  have b1 := F1.binds (ps := ["_law_cell", "_law_k"]) fun _ _ _ _ _ _ us hl => match us, hl with | [_, _], _ => rfl
  have b2 := F2.binds (ps := ["_law_script", "_law_k"]) fun _ _ _ _ _ _ us hl => match us, hl with | [_, _], _ => rfl
  have b3 := F3.binds (ps := ["_law_pile_here", "_law_many"]) fun _ _ _ _ _ _ us hl => match us, hl with | [_, _], _ => rfl
  have b4 := F4.binds (ps := ["_law_error"]) fun _ _ _ _ _ _ us hl => match us, hl with | [_], _ => rfl
  have b5 := F5.binds (ps := []) fun _ _ _ _ _ _ us hl => match us, hl with | [], _ => rfl
  refine ⟨PySem.W.fnOf "law" "law" (defArgs s_law) (defBody s_law) (defScope s_law) .none kV6 dc6 pm6 an6 cd6 ct6, fun s v => .of_eq rfl, fun base _ _ => ?_⟩
  have C1 : Cal RW0 w K mg base 1 "_law_mixed" ["_law_cell", "_law_k"] spMix := ⟨f1, _, ok_mix (k := 0) F1, g1, k1, b1⟩
  have C2 : Cal RW0 w K mg base 1 "_law_pile" ["_law_script", "_law_k"] (spPile K) := ⟨f2, _, ok_pile (k := 0) F2 T, g2, k2, b2⟩
  have C3 : Cal RW0 w K mg base 2 "_law_take" ["_law_pile_here", "_law_many"] spTake := ⟨f3, _, ok_take (k := 0) F3 C1, g3, k3, b3⟩
  have C4 : Cal RW0 w K mg base 1 "_law_kind" ["_law_error"] (spKind K c) := ⟨f4, _, ok_kind (k := 0) F4 T, g4, k4, b4⟩
  have C5 : Cal RW0 w K mg base 2 "_law_plain" [] spPlain := ⟨f5, _, ok_plain (k := 0) F5 T p3 p4 p6 p8 p11 p12 C4, g5, k5, b5⟩
  exact ok_law F6 T t1 j1 fl1 t2 j2 fl2 t5 j5 fl5 t7 j7 fl7 t9 j9 fl9 t10 j10 fl10 t13 j13 fl13 p0 C2 C3 C4 C5
end Toy
open PySem PySem.W PyProof.Rows
set_option maxRecDepth 100000 in
set_option maxHeartbeats 0 in
theorem PySem.Challenge.cw_eitherslack_k15_refusals_made_holds : PySem.Challenge.rw_eitherslack_k15_refusals_made.Holds := by
  w_on; o_law; k_head; (case hw => w_witness2)
  k_fill
  refine L2.walk_of (l := PySem.Challenge.rw_eitherslack_k15_refusals_made) (n := 63) (k := 4) (x := "_law_script") (CX := fun _ => L2.CX0) (sp := fun w => Toy.spLaw _) rfl (by decide) rfl ⟨rfl, by decide, by decide⟩ (fun w h Y => PySem.W.kIn_of Y) ?F (fun _ _ a ns hl _ hS => ⟨a, ns, rfl, hS, hl, fun _ => rfl⟩) (fun _ _ _ _ _ h => h)
  case F =>
    intro w mg fa h KX G hmg
    refine' Toy.all_mk KX G hmg ?g_SlackError ?g_NoNumber ?g_NoTable ?g_NoRow ?g_NoChoice ?g_Flat ?g_NoSaying ?g_Lifted ?g_NoCover ?g_Dipped ?g_NotOne ?g_NoText ?g_NoLine ?g_NoName ?opq ?hnC ?htC ?z_super ?xC_SlackError ?ga_SlackError ?gg_SlackError ?kC_SlackError ?exC_SlackError ?tyC_SlackError ?hdC_SlackError ?haC_SlackError ?hmC_SlackError ?kve_SlackError ?kq0_SlackError ?kq1_SlackError ?kq2_SlackError ?kq3_SlackError ?kq4_SlackError ?kq5_SlackError ?kq6_SlackError ?kq7_SlackError ?kq8_SlackError ?kq9_SlackError ?kq10_SlackError ?kq11_SlackError ?kq12_SlackError ?kq13_SlackError ?xL_NoNumber ?sa_NoNumber ?ga_NoNumber ?gg_NoNumber ?no_top_NoNumber ?kC_NoNumber ?exC_NoNumber ?veC_NoNumber ?tyC_NoNumber ?hdC_NoNumber ?iC_NoNumber ?tI_NoNumber ?along_NoNumber ?mro_NoNumber ?lI_NoNumber ?cI_NoNumber ?lcd_NoNumber ?hvs_NoNumber ?hfile_NoNumber ?lcc_NoNumber ?haC_NoNumber ?hmC_NoNumber ?kve_NoNumber ?kq0_NoNumber ?kq1_NoNumber ?kq2_NoNumber ?kq3_NoNumber ?kq4_NoNumber ?kq5_NoNumber ?kq6_NoNumber ?kq7_NoNumber ?kq8_NoNumber ?kq9_NoNumber ?kq10_NoNumber ?kq11_NoNumber ?kq12_NoNumber ?kq13_NoNumber ?xL_NoTable ?sa_NoTable ?ga_NoTable ?gg_NoTable ?no_place_NoTable ?kC_NoTable ?exC_NoTable ?veC_NoTable ?tyC_NoTable ?hdC_NoTable ?iC_NoTable ?tI_NoTable ?along_NoTable ?mro_NoTable ?lI_NoTable ?cI_NoTable ?lcd_NoTable ?hvs_NoTable ?hfile_NoTable ?lcc_NoTable ?haC_NoTable ?hmC_NoTable ?kve_NoTable ?kq0_NoTable ?kq1_NoTable ?kq2_NoTable ?kq3_NoTable ?kq4_NoTable ?kq5_NoTable ?kq6_NoTable ?kq7_NoTable ?kq8_NoTable ?kq9_NoTable ?kq10_NoTable ?kq11_NoTable ?kq12_NoTable ?kq13_NoTable ?xC_NoRow ?ga_NoRow ?gg_NoRow ?kC_NoRow ?exC_NoRow ?tyC_NoRow ?hdC_NoRow ?haC_NoRow ?hmC_NoRow ?kve_NoRow ?kq0_NoRow ?kq1_NoRow ?kq2_NoRow ?kq3_NoRow ?kq4_NoRow ?kq5_NoRow ?kq6_NoRow ?kq7_NoRow ?kq8_NoRow ?kq9_NoRow ?kq10_NoRow ?kq11_NoRow ?kq12_NoRow ?kq13_NoRow ?xC_NoChoice ?ga_NoChoice ?gg_NoChoice ?kC_NoChoice ?exC_NoChoice ?tyC_NoChoice ?hdC_NoChoice ?haC_NoChoice ?hmC_NoChoice ?kve_NoChoice ?kq0_NoChoice ?kq1_NoChoice ?kq2_NoChoice ?kq3_NoChoice ?kq4_NoChoice ?kq5_NoChoice ?kq6_NoChoice ?kq7_NoChoice ?kq8_NoChoice ?kq9_NoChoice ?kq10_NoChoice ?kq11_NoChoice ?kq12_NoChoice ?kq13_NoChoice ?xL_Flat ?sa_Flat ?ga_Flat ?gg_Flat ?no_choice_Flat ?kC_Flat ?exC_Flat ?veC_Flat ?tyC_Flat ?hdC_Flat ?iC_Flat ?tI_Flat ?along_Flat ?mro_Flat ?lI_Flat ?cI_Flat ?lcd_Flat ?hvs_Flat ?hfile_Flat ?lcc_Flat ?haC_Flat ?hmC_Flat ?kve_Flat ?kq0_Flat ?kq1_Flat ?kq2_Flat ?kq3_Flat ?kq4_Flat ?kq5_Flat ?kq6_Flat ?kq7_Flat ?kq8_Flat ?kq9_Flat ?kq10_Flat ?kq11_Flat ?kq12_Flat ?kq13_Flat ?xC_NoSaying ?ga_NoSaying ?gg_NoSaying ?kC_NoSaying ?exC_NoSaying ?tyC_NoSaying ?hdC_NoSaying ?haC_NoSaying ?hmC_NoSaying ?kve_NoSaying ?kq0_NoSaying ?kq1_NoSaying ?kq2_NoSaying ?kq3_NoSaying ?kq4_NoSaying ?kq5_NoSaying ?kq6_NoSaying ?kq7_NoSaying ?kq8_NoSaying ?kq9_NoSaying ?kq10_NoSaying ?kq11_NoSaying ?kq12_NoSaying ?kq13_NoSaying ?xL_Lifted ?sa_Lifted ?ga_Lifted ?gg_Lifted ?no_row_Lifted ?no_column_Lifted ?kC_Lifted ?exC_Lifted ?veC_Lifted ?tyC_Lifted ?hdC_Lifted ?iC_Lifted ?tI_Lifted ?along_Lifted ?mro_Lifted ?lI_Lifted ?cI_Lifted ?lcd_Lifted ?hvs_Lifted ?hfile_Lifted ?lcc_Lifted ?haC_Lifted ?hmC_Lifted ?kve_Lifted ?kq0_Lifted ?kq1_Lifted ?kq2_Lifted ?kq3_Lifted ?kq4_Lifted ?kq5_Lifted ?kq6_Lifted ?kq7_Lifted ?kq8_Lifted ?kq9_Lifted ?kq10_Lifted ?kq11_Lifted ?kq12_Lifted ?kq13_Lifted ?xC_NoCover ?ga_NoCover ?gg_NoCover ?kC_NoCover ?exC_NoCover ?tyC_NoCover ?hdC_NoCover ?haC_NoCover ?hmC_NoCover ?kve_NoCover ?kq0_NoCover ?kq1_NoCover ?kq2_NoCover ?kq3_NoCover ?kq4_NoCover ?kq5_NoCover ?kq6_NoCover ?kq7_NoCover ?kq8_NoCover ?kq9_NoCover ?kq10_NoCover ?kq11_NoCover ?kq12_NoCover ?kq13_NoCover ?xL_Dipped ?sa_Dipped ?ga_Dipped ?gg_Dipped ?no_row_Dipped ?kC_Dipped ?exC_Dipped ?veC_Dipped ?tyC_Dipped ?hdC_Dipped ?iC_Dipped ?tI_Dipped ?along_Dipped ?mro_Dipped ?lI_Dipped ?cI_Dipped ?lcd_Dipped ?hvs_Dipped ?hfile_Dipped ?lcc_Dipped ?haC_Dipped ?hmC_Dipped ?kve_Dipped ?kq0_Dipped ?kq1_Dipped ?kq2_Dipped ?kq3_Dipped ?kq4_Dipped ?kq5_Dipped ?kq6_Dipped ?kq7_Dipped ?kq8_Dipped ?kq9_Dipped ?kq10_Dipped ?kq11_Dipped ?kq12_Dipped ?kq13_Dipped ?xL_NotOne ?sa_NotOne ?ga_NotOne ?gg_NotOne ?no_choice_NotOne ?kC_NotOne ?exC_NotOne ?veC_NotOne ?tyC_NotOne ?hdC_NotOne ?iC_NotOne ?tI_NotOne ?along_NotOne ?mro_NotOne ?lI_NotOne ?cI_NotOne ?lcd_NotOne ?hvs_NotOne ?hfile_NotOne ?lcc_NotOne ?haC_NotOne ?hmC_NotOne ?kve_NotOne ?kq0_NotOne ?kq1_NotOne ?kq2_NotOne ?kq3_NotOne ?kq4_NotOne ?kq5_NotOne ?kq6_NotOne ?kq7_NotOne ?kq8_NotOne ?kq9_NotOne ?kq10_NotOne ?kq11_NotOne ?kq12_NotOne ?kq13_NotOne ?xC_NoText ?ga_NoText ?gg_NoText ?kC_NoText ?exC_NoText ?tyC_NoText ?hdC_NoText ?haC_NoText ?hmC_NoText ?kve_NoText ?kq0_NoText ?kq1_NoText ?kq2_NoText ?kq3_NoText ?kq4_NoText ?kq5_NoText ?kq6_NoText ?kq7_NoText ?kq8_NoText ?kq9_NoText ?kq10_NoText ?kq11_NoText ?kq12_NoText ?kq13_NoText ?xC_NoLine ?ga_NoLine ?gg_NoLine ?kC_NoLine ?exC_NoLine ?tyC_NoLine ?hdC_NoLine ?haC_NoLine ?hmC_NoLine ?kve_NoLine ?kq0_NoLine ?kq1_NoLine ?kq2_NoLine ?kq3_NoLine ?kq4_NoLine ?kq5_NoLine ?kq6_NoLine ?kq7_NoLine ?kq8_NoLine ?kq9_NoLine ?kq10_NoLine ?kq11_NoLine ?kq12_NoLine ?kq13_NoLine ?xL_NoName ?sa_NoName ?ga_NoName ?gg_NoName ?no_name_NoName ?kC_NoName ?exC_NoName ?veC_NoName ?tyC_NoName ?hdC_NoName ?iC_NoName ?tI_NoName ?along_NoName ?mro_NoName ?lI_NoName ?cI_NoName ?lcd_NoName ?hvs_NoName ?hfile_NoName ?lcc_NoName ?haC_NoName ?hmC_NoName ?kve_NoName ?kq0_NoName ?kq1_NoName ?kq2_NoName ?kq3_NoName ?kq4_NoName ?kq5_NoName ?kq6_NoName ?kq7_NoName ?kq8_NoName ?kq9_NoName ?kq10_NoName ?kq11_NoName ?kq12_NoName ?kq13_NoName ?a1 ?l1 ?c1 ?k1 ?a2 ?l2 ?c2 ?k2 ?a3 ?l3 ?c3 ?k3 ?a4 ?l4 ?c4 ?k4 ?a5 ?l5 ?c5 ?k5 ?a6 ?l6 ?c6 ?k6 ?z_abs ?z_len ?z_range ?z_isinstance ?z_zip ?z_int ?z_str ?z_ValueError ?z_list
    (case g_SlackError => k_is)
    (case g_NoNumber => k_is)
    (case g_NoTable => k_is)
    (case g_NoRow => k_is)
    (case g_NoChoice => k_is)
    (case g_Flat => k_is)
    (case g_NoSaying => k_is)
    (case g_Lifted => k_is)
    (case g_NoCover => k_is)
    (case g_Dipped => k_is)
    (case g_NotOne => k_is)
    (case g_NoText => k_is)
    (case g_NoLine => k_is)
    (case g_NoName => k_is)
    (case opq => k_is)
    (case hnC => k_is)
    (case htC => k_is)
    (case z_super => k_is)
    (case xC_SlackError => k_exc)
    (case ga_SlackError => k_is)
    (case gg_SlackError => k_is)
    (case kC_SlackError => k_is)
    (case exC_SlackError => k_is)
    (case tyC_SlackError => k_is)
    (case hdC_SlackError => k_is)
    (case haC_SlackError => k_is)
    (case hmC_SlackError => k_is)
    (case kve_SlackError => kit_is)
    (case kq0_SlackError => kit_is)
    (case kq1_SlackError => kit_is)
    (case kq2_SlackError => kit_is)
    (case kq3_SlackError => kit_is)
    (case kq4_SlackError => kit_is)
    (case kq5_SlackError => kit_is)
    (case kq6_SlackError => kit_is)
    (case kq7_SlackError => kit_is)
    (case kq8_SlackError => kit_is)
    (case kq9_SlackError => kit_is)
    (case kq10_SlackError => kit_is)
    (case kq11_SlackError => kit_is)
    (case kq12_SlackError => kit_is)
    (case kq13_SlackError => kit_is)
    (case xL_NoNumber => k_is)
    (case sa_NoNumber => k_is)
    (case ga_NoNumber => k_is)
    (case gg_NoNumber => k_is)
    (case no_top_NoNumber => k_is)
    (case kC_NoNumber => k_is)
    (case exC_NoNumber => k_is)
    (case veC_NoNumber => k_is)
    (case tyC_NoNumber => k_is)
    (case hdC_NoNumber => k_is)
    (case iC_NoNumber => k_is)
    (case tI_NoNumber => k_is)
    (case along_NoNumber => ks_is)
    (case mro_NoNumber => k_is)
    (case lI_NoNumber => k_is)
    (case cI_NoNumber => k_is)
    (case lcd_NoNumber => k_is)
    (case hvs_NoNumber => rfl)
    (case hfile_NoNumber => first | rfl | decide +kernel)
    (case lcc_NoNumber => k_is)
    (case haC_NoNumber => k_is)
    (case hmC_NoNumber => k_is)
    (case kve_NoNumber => kit_is)
    (case kq0_NoNumber => kit_is)
    (case kq1_NoNumber => kit_is)
    (case kq2_NoNumber => kit_is)
    (case kq3_NoNumber => kit_is)
    (case kq4_NoNumber => kit_is)
    (case kq5_NoNumber => kit_is)
    (case kq6_NoNumber => kit_is)
    (case kq7_NoNumber => kit_is)
    (case kq8_NoNumber => kit_is)
    (case kq9_NoNumber => kit_is)
    (case kq10_NoNumber => kit_is)
    (case kq11_NoNumber => kit_is)
    (case kq12_NoNumber => kit_is)
    (case kq13_NoNumber => kit_is)
    (case xL_NoTable => k_is)
    (case sa_NoTable => k_is)
    (case ga_NoTable => k_is)
    (case gg_NoTable => k_is)
    (case no_place_NoTable => k_is)
    (case kC_NoTable => k_is)
    (case exC_NoTable => k_is)
    (case veC_NoTable => k_is)
    (case tyC_NoTable => k_is)
    (case hdC_NoTable => k_is)
    (case iC_NoTable => k_is)
    (case tI_NoTable => k_is)
    (case along_NoTable => ks_is)
    (case mro_NoTable => k_is)
    (case lI_NoTable => k_is)
    (case cI_NoTable => k_is)
    (case lcd_NoTable => k_is)
    (case hvs_NoTable => rfl)
    (case hfile_NoTable => first | rfl | decide +kernel)
    (case lcc_NoTable => k_is)
    (case haC_NoTable => k_is)
    (case hmC_NoTable => k_is)
    (case kve_NoTable => kit_is)
    (case kq0_NoTable => kit_is)
    (case kq1_NoTable => kit_is)
    (case kq2_NoTable => kit_is)
    (case kq3_NoTable => kit_is)
    (case kq4_NoTable => kit_is)
    (case kq5_NoTable => kit_is)
    (case kq6_NoTable => kit_is)
    (case kq7_NoTable => kit_is)
    (case kq8_NoTable => kit_is)
    (case kq9_NoTable => kit_is)
    (case kq10_NoTable => kit_is)
    (case kq11_NoTable => kit_is)
    (case kq12_NoTable => kit_is)
    (case kq13_NoTable => kit_is)
    (case xC_NoRow => k_exc)
    (case ga_NoRow => k_is)
    (case gg_NoRow => k_is)
    (case kC_NoRow => k_is)
    (case exC_NoRow => k_is)
    (case tyC_NoRow => k_is)
    (case hdC_NoRow => k_is)
    (case haC_NoRow => k_is)
    (case hmC_NoRow => k_is)
    (case kve_NoRow => kit_is)
    (case kq0_NoRow => kit_is)
    (case kq1_NoRow => kit_is)
    (case kq2_NoRow => kit_is)
    (case kq3_NoRow => kit_is)
    (case kq4_NoRow => kit_is)
    (case kq5_NoRow => kit_is)
    (case kq6_NoRow => kit_is)
    (case kq7_NoRow => kit_is)
    (case kq8_NoRow => kit_is)
    (case kq9_NoRow => kit_is)
    (case kq10_NoRow => kit_is)
    (case kq11_NoRow => kit_is)
    (case kq12_NoRow => kit_is)
    (case kq13_NoRow => kit_is)
    (case xC_NoChoice => k_exc)
    (case ga_NoChoice => k_is)
    (case gg_NoChoice => k_is)
    (case kC_NoChoice => k_is)
    (case exC_NoChoice => k_is)
    (case tyC_NoChoice => k_is)
    (case hdC_NoChoice => k_is)
    (case haC_NoChoice => k_is)
    (case hmC_NoChoice => k_is)
    (case kve_NoChoice => kit_is)
    (case kq0_NoChoice => kit_is)
    (case kq1_NoChoice => kit_is)
    (case kq2_NoChoice => kit_is)
    (case kq3_NoChoice => kit_is)
    (case kq4_NoChoice => kit_is)
    (case kq5_NoChoice => kit_is)
    (case kq6_NoChoice => kit_is)
    (case kq7_NoChoice => kit_is)
    (case kq8_NoChoice => kit_is)
    (case kq9_NoChoice => kit_is)
    (case kq10_NoChoice => kit_is)
    (case kq11_NoChoice => kit_is)
    (case kq12_NoChoice => kit_is)
    (case kq13_NoChoice => kit_is)
    (case xL_Flat => k_is)
    (case sa_Flat => k_is)
    (case ga_Flat => k_is)
    (case gg_Flat => k_is)
    (case no_choice_Flat => k_is)
    (case kC_Flat => k_is)
    (case exC_Flat => k_is)
    (case veC_Flat => k_is)
    (case tyC_Flat => k_is)
    (case hdC_Flat => k_is)
    (case iC_Flat => k_is)
    (case tI_Flat => k_is)
    (case along_Flat => ks_is)
    (case mro_Flat => k_is)
    (case lI_Flat => k_is)
    (case cI_Flat => k_is)
    (case lcd_Flat => k_is)
    (case hvs_Flat => rfl)
    (case hfile_Flat => first | rfl | decide +kernel)
    (case lcc_Flat => k_is)
    (case haC_Flat => k_is)
    (case hmC_Flat => k_is)
    (case kve_Flat => kit_is)
    (case kq0_Flat => kit_is)
    (case kq1_Flat => kit_is)
    (case kq2_Flat => kit_is)
    (case kq3_Flat => kit_is)
    (case kq4_Flat => kit_is)
    (case kq5_Flat => kit_is)
    (case kq6_Flat => kit_is)
    (case kq7_Flat => kit_is)
    (case kq8_Flat => kit_is)
    (case kq9_Flat => kit_is)
    (case kq10_Flat => kit_is)
    (case kq11_Flat => kit_is)
    (case kq12_Flat => kit_is)
    (case kq13_Flat => kit_is)
    (case xC_NoSaying => k_exc)
    (case ga_NoSaying => k_is)
    (case gg_NoSaying => k_is)
    (case kC_NoSaying => k_is)
    (case exC_NoSaying => k_is)
    (case tyC_NoSaying => k_is)
    (case hdC_NoSaying => k_is)
    (case haC_NoSaying => k_is)
    (case hmC_NoSaying => k_is)
    (case kve_NoSaying => kit_is)
    (case kq0_NoSaying => kit_is)
    (case kq1_NoSaying => kit_is)
    (case kq2_NoSaying => kit_is)
    (case kq3_NoSaying => kit_is)
    (case kq4_NoSaying => kit_is)
    (case kq5_NoSaying => kit_is)
    (case kq6_NoSaying => kit_is)
    (case kq7_NoSaying => kit_is)
    (case kq8_NoSaying => kit_is)
    (case kq9_NoSaying => kit_is)
    (case kq10_NoSaying => kit_is)
    (case kq11_NoSaying => kit_is)
    (case kq12_NoSaying => kit_is)
    (case kq13_NoSaying => kit_is)
    (case xL_Lifted => k_is)
    (case sa_Lifted => k_is)
    (case ga_Lifted => k_is)
    (case gg_Lifted => k_is)
    (case no_row_Lifted => k_is)
    (case no_column_Lifted => k_is)
    (case kC_Lifted => k_is)
    (case exC_Lifted => k_is)
    (case veC_Lifted => k_is)
    (case tyC_Lifted => k_is)
    (case hdC_Lifted => k_is)
    (case iC_Lifted => k_is)
    (case tI_Lifted => k_is)
    (case along_Lifted => ks_is)
    (case mro_Lifted => k_is)
    (case lI_Lifted => k_is)
    (case cI_Lifted => k_is)
    (case lcd_Lifted => k_is)
    (case hvs_Lifted => rfl)
    (case hfile_Lifted => first | rfl | decide +kernel)
    (case lcc_Lifted => k_is)
    (case haC_Lifted => k_is)
    (case hmC_Lifted => k_is)
    (case kve_Lifted => kit_is)
    (case kq0_Lifted => kit_is)
    (case kq1_Lifted => kit_is)
    (case kq2_Lifted => kit_is)
    (case kq3_Lifted => kit_is)
    (case kq4_Lifted => kit_is)
    (case kq5_Lifted => kit_is)
    (case kq6_Lifted => kit_is)
    (case kq7_Lifted => kit_is)
    (case kq8_Lifted => kit_is)
    (case kq9_Lifted => kit_is)
    (case kq10_Lifted => kit_is)
    (case kq11_Lifted => kit_is)
    (case kq12_Lifted => kit_is)
    (case kq13_Lifted => kit_is)
    (case xC_NoCover => k_exc)
    (case ga_NoCover => k_is)
    (case gg_NoCover => k_is)
    (case kC_NoCover => k_is)
    (case exC_NoCover => k_is)
    (case tyC_NoCover => k_is)
    (case hdC_NoCover => k_is)
    (case haC_NoCover => k_is)
    (case hmC_NoCover => k_is)
    (case kve_NoCover => kit_is)
    (case kq0_NoCover => kit_is)
    (case kq1_NoCover => kit_is)
    (case kq2_NoCover => kit_is)
    (case kq3_NoCover => kit_is)
    (case kq4_NoCover => kit_is)
    (case kq5_NoCover => kit_is)
    (case kq6_NoCover => kit_is)
    (case kq7_NoCover => kit_is)
    (case kq8_NoCover => kit_is)
    (case kq9_NoCover => kit_is)
    (case kq10_NoCover => kit_is)
    (case kq11_NoCover => kit_is)
    (case kq12_NoCover => kit_is)
    (case kq13_NoCover => kit_is)
    (case xL_Dipped => k_is)
    (case sa_Dipped => k_is)
    (case ga_Dipped => k_is)
    (case gg_Dipped => k_is)
    (case no_row_Dipped => k_is)
    (case kC_Dipped => k_is)
    (case exC_Dipped => k_is)
    (case veC_Dipped => k_is)
    (case tyC_Dipped => k_is)
    (case hdC_Dipped => k_is)
    (case iC_Dipped => k_is)
    (case tI_Dipped => k_is)
    (case along_Dipped => ks_is)
    (case mro_Dipped => k_is)
    (case lI_Dipped => k_is)
    (case cI_Dipped => k_is)
    (case lcd_Dipped => k_is)
    (case hvs_Dipped => rfl)
    (case hfile_Dipped => first | rfl | decide +kernel)
    (case lcc_Dipped => k_is)
    (case haC_Dipped => k_is)
    (case hmC_Dipped => k_is)
    (case kve_Dipped => kit_is)
    (case kq0_Dipped => kit_is)
    (case kq1_Dipped => kit_is)
    (case kq2_Dipped => kit_is)
    (case kq3_Dipped => kit_is)
    (case kq4_Dipped => kit_is)
    (case kq5_Dipped => kit_is)
    (case kq6_Dipped => kit_is)
    (case kq7_Dipped => kit_is)
    (case kq8_Dipped => kit_is)
    (case kq9_Dipped => kit_is)
    (case kq10_Dipped => kit_is)
    (case kq11_Dipped => kit_is)
    (case kq12_Dipped => kit_is)
    (case kq13_Dipped => kit_is)
    (case xL_NotOne => k_is)
    (case sa_NotOne => k_is)
    (case ga_NotOne => k_is)
    (case gg_NotOne => k_is)
    (case no_choice_NotOne => k_is)
    (case kC_NotOne => k_is)
    (case exC_NotOne => k_is)
    (case veC_NotOne => k_is)
    (case tyC_NotOne => k_is)
    (case hdC_NotOne => k_is)
    (case iC_NotOne => k_is)
    (case tI_NotOne => k_is)
    (case along_NotOne => ks_is)
    (case mro_NotOne => k_is)
    (case lI_NotOne => k_is)
    (case cI_NotOne => k_is)
    (case lcd_NotOne => k_is)
    (case hvs_NotOne => rfl)
    (case hfile_NotOne => first | rfl | decide +kernel)
    (case lcc_NotOne => k_is)
    (case haC_NotOne => k_is)
    (case hmC_NotOne => k_is)
    (case kve_NotOne => kit_is)
    (case kq0_NotOne => kit_is)
    (case kq1_NotOne => kit_is)
    (case kq2_NotOne => kit_is)
    (case kq3_NotOne => kit_is)
    (case kq4_NotOne => kit_is)
    (case kq5_NotOne => kit_is)
    (case kq6_NotOne => kit_is)
    (case kq7_NotOne => kit_is)
    (case kq8_NotOne => kit_is)
    (case kq9_NotOne => kit_is)
    (case kq10_NotOne => kit_is)
    (case kq11_NotOne => kit_is)
    (case kq12_NotOne => kit_is)
    (case kq13_NotOne => kit_is)
    (case xC_NoText => k_exc)
    (case ga_NoText => k_is)
    (case gg_NoText => k_is)
    (case kC_NoText => k_is)
    (case exC_NoText => k_is)
    (case tyC_NoText => k_is)
    (case hdC_NoText => k_is)
    (case haC_NoText => k_is)
    (case hmC_NoText => k_is)
    (case kve_NoText => kit_is)
    (case kq0_NoText => kit_is)
    (case kq1_NoText => kit_is)
    (case kq2_NoText => kit_is)
    (case kq3_NoText => kit_is)
    (case kq4_NoText => kit_is)
    (case kq5_NoText => kit_is)
    (case kq6_NoText => kit_is)
    (case kq7_NoText => kit_is)
    (case kq8_NoText => kit_is)
    (case kq9_NoText => kit_is)
    (case kq10_NoText => kit_is)
    (case kq11_NoText => kit_is)
    (case kq12_NoText => kit_is)
    (case kq13_NoText => kit_is)
    (case xC_NoLine => k_exc)
    (case ga_NoLine => k_is)
    (case gg_NoLine => k_is)
    (case kC_NoLine => k_is)
    (case exC_NoLine => k_is)
    (case tyC_NoLine => k_is)
    (case hdC_NoLine => k_is)
    (case haC_NoLine => k_is)
    (case hmC_NoLine => k_is)
    (case kve_NoLine => kit_is)
    (case kq0_NoLine => kit_is)
    (case kq1_NoLine => kit_is)
    (case kq2_NoLine => kit_is)
    (case kq3_NoLine => kit_is)
    (case kq4_NoLine => kit_is)
    (case kq5_NoLine => kit_is)
    (case kq6_NoLine => kit_is)
    (case kq7_NoLine => kit_is)
    (case kq8_NoLine => kit_is)
    (case kq9_NoLine => kit_is)
    (case kq10_NoLine => kit_is)
    (case kq11_NoLine => kit_is)
    (case kq12_NoLine => kit_is)
    (case kq13_NoLine => kit_is)
    (case xL_NoName => k_is)
    (case sa_NoName => k_is)
    (case ga_NoName => k_is)
    (case gg_NoName => k_is)
    (case no_name_NoName => k_is)
    (case kC_NoName => k_is)
    (case exC_NoName => k_is)
    (case veC_NoName => k_is)
    (case tyC_NoName => k_is)
    (case hdC_NoName => k_is)
    (case iC_NoName => k_is)
    (case tI_NoName => k_is)
    (case along_NoName => ks_is)
    (case mro_NoName => k_is)
    (case lI_NoName => k_is)
    (case cI_NoName => k_is)
    (case lcd_NoName => k_is)
    (case hvs_NoName => rfl)
    (case hfile_NoName => first | rfl | decide +kernel)
    (case lcc_NoName => k_is)
    (case haC_NoName => k_is)
    (case hmC_NoName => k_is)
    (case kve_NoName => kit_is)
    (case kq0_NoName => kit_is)
    (case kq1_NoName => kit_is)
    (case kq2_NoName => kit_is)
    (case kq3_NoName => kit_is)
    (case kq4_NoName => kit_is)
    (case kq5_NoName => kit_is)
    (case kq6_NoName => kit_is)
    (case kq7_NoName => kit_is)
    (case kq8_NoName => kit_is)
    (case kq9_NoName => kit_is)
    (case kq10_NoName => kit_is)
    (case kq11_NoName => kit_is)
    (case kq12_NoName => kit_is)
    (case kq13_NoName => kit_is)
    (case a1 => k_is)
    (case l1 => k_is)
    (case c1 => k_is)
    (case k1 => k_is)
    (case a2 => k_is)
    (case l2 => k_is)
    (case c2 => k_is)
    (case k2 => k_is)
    (case a3 => k_is)
    (case l3 => k_is)
    (case c3 => k_is)
    (case k3 => k_is)
    (case a4 => k_is)
    (case l4 => k_is)
    (case c4 => k_is)
    (case k4 => k_is)
    (case a5 => k_is)
    (case l5 => k_is)
    (case c5 => k_is)
    (case k5 => k_is)
    (case a6 => k_is)
    (case l6 => k_is)
    (case c6 => k_is)
    (case k6 => k_is)
    (case z_abs => k_is)
    (case z_len => k_is)
    (case z_range => k_is)
    (case z_isinstance => k_is)
    (case z_zip => k_is)
    (case z_int => k_is)
    (case z_str => k_is)
    (case z_ValueError => k_is)
    (case z_list => k_is)
