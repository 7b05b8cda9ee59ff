import PyProof.Rows.All
import Wide.All
import OpenK.AllK
import Wide.FinOn
import HandS.ForMost
import HandS.Wide
import HandS.Defaults
import HandS.IsInst
import HandS.Style
import HandS.Flow
import HandS.Walk
import HandS.Codes
import HandS.ForExc
import HandS.ExcOwn
import HandS.ExcIs
import HandS.ExcField
import HandS.ExcValue
import HandS.CallSlots
import HandS.ExcInit
import HandS.ExcSuper
import KE.KExcSuper
import KE.KExcIs
import PySem.Challenge.RW_eitherslack_k04_choices_numbered
set_option Elab.async false
set_option linter.all false
set_option maxRecDepth 100000
namespace PySem
namespace SupX
open PySem.W PySem.Calls PyProof.Rows PySem.HandSPX
/-! ### an own exception over SlackError, over ValueError, whose __init__ says super().__init__('..') and stores one field -/
/-- what the written part says of the class x at C, its __init__ at fI -/
structure ExTxt (K : Frag) (mg : Str → Option Value) (C : Addr) : Prop where
  cls : ∃ nm q N bs bm sn sub ab col dd k0 k1 k2 k3 k5, K.lookup C = some (excClassObj nm q C N bs bm true sn sub ab col dd k0 k1 k2 k3 k5 "ValueError.__new__") ∧ refsVE bm = true
  sa : findIn K (.ref C) "__setattr__" = some (some (.builtin "object.__setattr__"))
  ga : findIn K (.ref C) "__getattribute__" = some (some (.builtin "BaseException.__getattribute__"))
  gg : findIn K (.ref C) "__getattr__" = some none
  kC : keepIn K (.ref C) = true
  exC : subIn K (.ref C) (.type "BaseException") = some true
  veC : subIn K (.ref C) (.type "ValueError") = some true
  tyC : typeIn K (.ref C) = some (.type "type")
  hdC : hasDictIn K C = true
theorem one_size (v : Value) : [v].length ≤ sizeLine := by
  rw [sizeLine_eq]
  exact (by decide : 1 ≤ 16777216)
structure InitEnd (f : Str) (h h' : Heap) (x C dx t1 : Addr) (v : Value) : Prop where
  keep : ∀ b o, b ≠ x → h.get? b = some o → h'.get? b = some o
  obj : h'.get? x = some { cls := .ref C, dict := some dx, data := .fields #[.ref t1, .none, .none, .none, .bool false, .none] }
  dbig : h.objs.size ≤ dx
  dne : dx ≠ x
  ns : h'.Ns1 dx (fun y => if y = f then some v else none)
structure OwnMade (f : Str) (h h' : Heap) (e C d : Addr) (v : Value) : Prop where
  keep : ∀ b o, h.get? b = some o → h'.get? b = some o
  new : h.objs.size ≤ e
  obj : ∃ t1 : Addr, h'.get? e = some { cls := .ref C, dict := some d, data := .fields #[.ref t1, .none, .none, .none, .bool false, .none] }
  dbig : h.objs.size ≤ d
  dne : d ≠ e
  ns : h'.Ns1 d (fun y => if y = f then some v else none)
section
variable {prog : Program} {w : World} {A : Around} {E : Value → Shared → Prop} {R : Result → Shared → Prop} {s : Shared} {K : Frag} {mg : Str → Option Value} {C fI : Addr} {f : Str}
theorem callWith_mw {M : Model} {pos : Pos} {env : Env} {e : Expr} {rest : List Expr} {u x : Addr} {i : String} {Q : Value → Shared → Prop}
    (h : wpAny M A (spliced (backTo pos (starEach (e :: rest) env))) (fun vs s₁ => KxsAt i u x s₁.heap ∧ wpAny M A (call (.ref u) vs) Q E s₁) E s)
    (he : starEach (e :: rest) env = (false, eval e env) :: starEach rest env := by rfl) (hplain : (backTo pos (starEach rest env)).any (·.1) = false := by rfl) :
    wpAny M A (callWith pos (.ref u) [] (backTo pos (starEach (e :: rest) env)) []) Q E s := by
  rw [he] at h ⊢
  refine kxs_callWith (i := i) (x := x) (by show (false || (backTo pos (starEach rest env)).any (·.1)) = false; rw [hplain]; rfl) ?_
  exact evalArgs_plain h
/-- the built-in __init__ bound to a fresh exception, called -/
theorem call_mw {u e t0 : Addr} {rest : List Value} {Q : Value → Shared → Prop} (T : ExTxt K mg C) (X : K.In s.heap) (he : s.heap.get? e = some (excO C t0)) (hu : s.heap.get? u = some (kxs_mw "ValueError.__init__" e)) (hrest : rest.length ≤ sizeLine)
    (hq : ∀ h' t1, (∀ b o, b ≠ e → s.heap.get? b = some o → h'.get? b = some o) → h'.get? e = some (excO C t1) → Q .none { s with heap := h' }) :
    wpAny (model prog w) A (call (.ref u) rest) Q E s := by
  obtain ⟨nm, q, N, bs, bm, sn, sub, ab, col, dd, k0, k1, k2, k3, k5, hC, hbm⟩ := T.cls
  obtain ⟨hh, g, d, tk, os⟩ := s
  refine wpAny_call (codeAny_of_tree ?_)
  show wpAny _ A.in1 (callAny (.ref u) ⟨rest, []⟩) _ _ _
  simp only [callAny]
  refine wpAny_bind (wpAny_load hu ?_)
  simp only [kxs_mw, show (Value.type "method-wrapper" == Value.type "method" || Value.type "method-wrapper" == Value.type "builtin_function_or_method" || Value.type "method-wrapper" == Value.type "method-wrapper") = true by decide, if_true]
  refine KFB.if_so (by decide) ?_
  refine wpAny_bind (check_bound_init F.excBase_ValueError.toExcCallFacts (X _ _ hC) he rfl ?_)
  refine wpAny_bind (wpAny_pure (wpAny_pure ?_))
  refine ⟨plainId_quiet F.excBase_ValueError.init.plain _, codeAny_builtin F.excBase_ValueError.initEntry ?_⟩
  exact exc_init_tree (cls := .ref C) (t0 := t0) (dv := none) (c2 := .none) (c3 := .none) (b4 := .bool false) he hrest fun h' k e' _ => hq h' _ k e'
end
end SupX
end PySem
namespace L2
open PySem PySem.Spec PyProof.Rows
/-! ### an exception as a value: tracked at its own address; its fields, if any, in a tracked dict -/
def exv (a : Addr) (cls : Value) (d : Option Addr) : HO := .ext fun h => ∃ (oe : Obj) (vs : Array Value), h.get? a = some oe ∧ Zc cls d oe ∧ oe.data = .fields vs
theorem exv_ok {P : Program} {w : World} {H : Hp} {h : Heap} {a : Addr} {cls : Value} {d : Option Addr} {oe : Obj} {vs : Array Value} (e : h.get? a = some oe) (z : Zc cls d oe) (hd : oe.data = .fields vs) : ObjOk P w H h a (exv a cls d) :=
  ⟨⟨oe, vs, e, z, hd⟩, ⟨oe, e⟩, fun h1 h2 p k => by
    obtain ⟨o, us, e1, e2, e3⟩ := p
    exact ⟨o, us, k o e1, e2, e3⟩⟩
theorem exv_at {P : Program} {w : World} {H : Hp} {h : Heap} {a : Addr} {cls : Value} {d : Option Addr} (ok : HOk P w H h) (e : H a = some (exv a cls d)) : ∃ (oe : Obj) (vs : Array Value), h.get? a = some oe ∧ Zc cls d oe ∧ oe.data = .fields vs := (ok a _ e).1
/-- an object of ours, laid since the entry, is from now on tracked -/
theorem Inv.track {X : Cx} {pins : List (Addr × Obj)} {σ : St} {H : Hp} {s : Shared} {a : Addr} {o : HO} (I : Inv X pins σ H s) (h0 : X.s_0.heap.get? a = none) (na : H a = none) (nL : a ≠ X.env.locals) (nC : ∀ y c, X.env.cells.lookup y = some c → c ≠ a) (nP : ∀ p ∈ X.pn ++ pins, p.1 ≠ a)
    (new : ObjOk X.prog X.w (upd H a o) s.heap a o) : Inv X pins σ (upd H a o) s := by
  have other : ∀ b, b ≠ a → upd H a o b = H b := fun b n => upd_ne n
  have had : ∀ b u, H b = some u → upd H a o b = some u := fun b u q => by
    rw [other b (ne_of_none q na)]
    exact q
  have old : ∀ b u, X.s_0.heap.get? b = some u → b ≠ a := fun b u q z => by
    rw [z, h0] at q
    cases q
  refine { I with base := ⟨I.base.keep, I.base.slot, fun b u q n hx => ?_, I.base.there, fun b xs q => had _ _ (I.base.tups b xs q), fun b u xs q => had _ _ (I.base.frzs b u xs q), fun b ps q => ?_⟩, free := ?_, freeC := fun y c q => ?_, pin := fun p hp => ?_, hok := fun b u q => ?_ }
  · rw [other b (old b u q)]
    exact I.base.free b u q n hx
  · obtain ⟨m, z⟩ := I.base.tbls b ps q
    exact ⟨m, had _ _ z⟩
  · rw [other _ nL.symm]
    exact I.free
  · rw [other _ (nC y c q)]
    exact I.freeC y c q
  · obtain ⟨e1, e2, e3⟩ := I.pin p hp
    exact ⟨e1, by rw [other _ (nP p hp)]; exact e2, e3⟩
  · by_cases hb : b = a
    · subst hb
      rw [upd_same] at q
      cases q
      exact new
    · rw [other b hb] at q
      exact (I.hok b u q).stay (fun c v _ z => z) (fun c z => had _ _ z) fun c xs z => had _ _ z
/-- try: body / except x as n: y = n: what the clause wishes of an exception of the body; behind it y (slot j) holds the exception -/
def wKeep (K : PySem.W.Frag) (c : Value) (i j : Nat) (D : Ends) : WX := fun cls d σ H => PySem.W.exmOne K cls c = some true ∧ ∀ a, H a = none → D.nx (((σ.set i (some (.ref a))).set j (some (.ref a))).set i none) (upd H a (exv a cls d))
section
variable {X : Cx} {x n y : Str} {c : Value} {i j : Nat} {body : List Stmt} {np pos pos' pn' pa py : Pos} {tb : WX → TS}
theorem ps_try_keep (hs : X.stack = X.env :: X.outer) (hf : X.env.frame = some X.env.locals) (hex : X.ex = []) (hN : X.N.Nodup) (hi : X.N[i]? = some n) (hj : X.N[j]? = some y) (hln : X.env.kindOf n = some .local) (hly : X.env.kindOf y = some .local) (hc : Names X x c)
    (hdn : (n == ("__debug__" : Str)) = false) (hdc : (n == ("__classdict__" : Str)) = false)
    (hb : ∀ (W : WX) (pn : List (Addr × Obj)) (xe : Value → Shared → Prop), Takes (X.tr pn xe) W → PassesOwn (model X.prog X.w) X.A X.env xe → PSs (X.tr pn xe) body (tb W))
    (hsw : ∀ a pn, PS (X.suite a pn) (.Assign [.Name y py] (.Name n pn') pa) (tAsg (tVar i) (gName j))) :
    PS X (.Try body [.ExceptHandler (some (.Name x np)) (some n) [.Assign [.Name y py] (.Name n pn') pa] pos'] [] [] pos) (fun D σ H => tb (wKeep X.K c i j D) D σ H) := by
  refine ⟨fun pins s σ H D I h => ?_⟩
  have hfr : X.A.frames = some (X.env :: X.outer) := I.ok.frames.trans (congrArg some hs)
  refine wpAny_Try_except ?_
  refine wpAny_mono ((hb (wKeep X.K c i j D) (X.pn ++ pins) _ (fun u s' xx => ?kc) PassesOwn.looking).run [] s σ H D (I.toTry _) h) (fun f s1 hsp => ?kt) fun _ _ z => z
  case kt =>
    cases f with
    | ret u =>
      obtain ⟨v, σ', H', J', r, q⟩ := hsp
      exact ⟨v, σ', H', J'.ofTry I.ok, r, q⟩
    | next =>
      obtain ⟨σ', H', J', q⟩ := hsp
      exact wpAny_execs_nil ⟨σ', H', J'.ofTry I.ok, q⟩
    | _ =>
      obtain ⟨σ', H', J', q⟩ := hsp
      exact ⟨σ', H', J'.ofTry I.ok, q⟩
  case kc =>
    obtain ⟨a, B, sI, pins', σ', H', cls, d, rfl, J', nb, up, sky, na, os, ag, hm, hgo⟩ := xx
    have J : Inv X pins σ' H' sI := J'.ofTry I.ok
    rw [hs] at sky
    have Ba : B.get? a = none := by
      rcases sky with z | z | z
      · exact z.2.1
      · exact z.2.1
      · exact z.2.1
    show wpAny (model X.prog X.w) X.A (noteFrame (.ref a) X.env) _ _ _
    refine Sky.land Zc.steady hfr hf sky fun h3 fl3 up3 => ?_
    have J3 : Inv X pins σ' H' { s' with heap := h3 } := J.landed nb fl3.1 (up.trans up3) os ag
    obtain ⟨oe3, vs3, he3, hz3, hd3⟩ := fl3.there
    have nfr : a ∉ frs (X.env :: X.outer) := fun hm' => by
      obtain ⟨_, o', e', hnf⟩ := fl3.2.2.1.mem hm'
      rw [he3] at e'
      cases e'
      exact hnf _ hd3
    have nL : a ≠ X.env.locals := fun z => nfr (List.mem_filterMap.mpr ⟨X.env, List.mem_cons_self, by rw [hf, z]⟩)
    have nF : a ∉ X.fs := fun hm' => by
      obtain ⟨e, he, q⟩ := List.mem_filterMap.mp hm'
      exact nfr (List.mem_filterMap.mpr ⟨e, List.mem_cons_of_mem _ he, q⟩)
    -- the exception was not there at the entry
    have sIa : sI.heap.get? a = none := by
      cases z : sI.heap.get? a with
      | none => rfl
      | some o =>
        have q := nb a o z (by rw [hs]; exact nfr)
        rw [Ba] at q
        cases q
    have s0a : X.s_0.heap.get? a = none := by
      cases z : X.s_0.heap.get? a with
      | none => rfl
      | some o =>
        obtain ⟨o', q⟩ := J.base.there a o z (by rw [hex]; exact List.not_mem_nil)
        rw [sIa] at q
        cases q
    have nC : ∀ y c, X.env.cells.lookup y = some c → c ≠ a := fun y c q z => by
      obtain ⟨v, oc, e1, _⟩ := J.cell y c q
      rw [z, sIa] at e1
      cases e1
    have nP : ∀ p ∈ X.pn ++ pins, p.1 ≠ a := fun p hp z => by
      have q := (J.pin p hp).1
      rw [z, sIa] at q
      cases q
    have S3 := J3.suite he3 hd3 na nL nF
    refine wpAny_handleBy_cons (codeAny_handlers_test ?_) (by intro q; cases q)
    have LT : PySem.W.Looks (model X.prog X.w) h3 (typeOf (.ref a)) cls := fun A Q E s k q => wpAny_typeOf_ref (k _ _ he3) (by rw [hz3.1]; exact q)
    have LM := PySem.W.exm_one (M := model X.prog X.w) J3.kIn LT hm
    have test : ∀ {Q : Value → Shared → Prop} {E : Value → Shared → Prop}, Q c { s' with heap := h3 } → wpAny (model X.prog X.w) (X.A.mark (some (.ref a))) (eval (.Name x np) X.env) Q E { s' with heap := h3 } := fun {Q E} q => by
      obtain ⟨hg, hdbg, z | ⟨z, hv, hnn⟩⟩ := hc
      · exact ld_glob (X := X.suite a ((a, oe3) :: (X.pn ++ pins))) S3 hg z q hdbg
      · exact ld_blt (X := X.suite a ((a, oe3) :: (X.pn ++ pins))) S3 hg z hv q hnn hdbg
    refine test (LM.here (codeAny_handlers_suite_as ?_))
    refine HandSPX.lands_againZ fl3 fun h4 fl4 up4 => ?_
    have J4 : Inv X pins σ' H' { s' with heap := h4 } := J.landed nb fl4.1 ((up.trans up3).trans up4) os ag
    obtain ⟨oe4, vs4, he4, hz4, hd4⟩ := fl4.there
    have S4 := J4.suite he4 hd4 na nL nF
    refine store_ok (X := X.suite a ((a, oe4) :: (X.pn ++ pins))) (v := .ref a) S4 hN hi (.inl hln) rfl (fun s5 S5 => ?_) (.inr hln)
    have li : i < σ'.length := by
      rw [J.len]
      exact (List.getElem?_eq_some_iff.mp hi).1
    have get : (σ'.set i (some (V.ref a)))[i]? = some (some (V.ref a)) := List.getElem?_set_self li
    refine wpAny_mono ((pss_one (hsw a ((a, oe4) :: (X.pn ++ pins)))).run [] s5 _ H' { nx := fun σ6 H6 => σ6 = (σ'.set i (some (.ref a))).set j (some (.ref a)) ∧ H6 = H', rt := fun _ _ => False, bk := fun _ _ => False, ct := fun _ _ => False } S5 ⟨_, get, rfl, rfl⟩) (fun f s6 hsp => ?_) fun _ _ z => False.elim z
    cases f with
    | next =>
      obtain ⟨σ6, H6, S6, rfl, rfl⟩ := hsp
      have P6 : Inv X ((a, oe4) :: pins) ((σ'.set i (some (.ref a))).set j (some (.ref a))) H6 s6 :=
        ⟨I.ok, S6.os, S6.bare, S6.base, S6.loc, S6.cell, S6.free, S6.freeC, fun p hp => S6.pin p (by
          rw [List.append_nil]
          rcases List.mem_append.mp hp with z | z
          · exact List.mem_cons_of_mem _ (List.mem_append_left _ z)
          · rcases List.mem_cons.mp z with rfl | z
            · exact List.mem_cons_self
            · exact List.mem_cons_of_mem _ (List.mem_append_right _ z)), S6.hok, S6.len⟩
      refine gone_ok P6 hN hi hln fun s7 J7 => ?_
      have he7 := (J7.pin (a, oe4) (List.mem_append_right _ List.mem_cons_self)).1
      have J8 : Inv X pins (((σ'.set i (some (.ref a))).set j (some (.ref a))).set i none) H6 s7 := J7.pins_of fun p hp => J7.pin p (List.mem_append_right _ (List.mem_cons_of_mem _ hp))
      exact ⟨_, _, J8.track (o := exv a cls d) s0a na nL nC nP (exv_ok he7 hz4 hd4), hgo a na⟩
    | ret u =>
      obtain ⟨_, _, _, _, _, z⟩ := hsp
      exact z.elim
    | brk =>
      obtain ⟨_, _, _, z⟩ := hsp
      exact z.elim
    | cont =>
      obtain ⟨_, _, _, z⟩ := hsp
      exact z.elim
end
/-! ### isinstance and fields of such a value -/
def rIsX (K : PySem.W.Frag) : List V → Hp → VK → Prop := fun xs H Q => ∃ (a D : Addr) (d : Option Addr) (dx : Option HO) (c : V) (cv : Value) (b : Bool), xs = [.ref a, c] ∧ H a = some (exv a (.ref D) d) ∧ (∀ e, d = some e → ∃ fs, H e = some (.xd fs)) ∧ ExcC K D ∧ ClsV c cv ∧ PySem.W.kitOne K (.ref D) cv = some b ∧ Q (.bl b) H
theorem inst_exv {X : Cx} {pins : List (Addr × Obj)} {σ : St} {H : Hp} {s : Shared} {a D : Addr} {d : Option Addr} (I : Inv X pins σ H s) (h : H a = some (exv a (.ref D) d)) (hd : ∀ e, d = some e → ∃ fs, H e = some (.xd fs)) : ∃ oe od, PySem.W.InstAt s.heap a oe D od := by
  obtain ⟨oe, vs, e, z, hv⟩ := exv_at I.hok h
  have nc : PySem.W.notCls oe = true := by
    unfold PySem.W.notCls
    rw [hv] <;> rfl
  cases d with
  | none => exact ⟨oe, none, e, z.1, nc, by rw [z.2]; trivial⟩
  | some dd =>
    obtain ⟨fs, hf⟩ := hd dd rfl
    have hx : ObjOk X.prog X.w H s.heap dd (.xd fs) := I.hok dd _ hf
    obtain ⟨mA, ⟨od, _, _, ho, _⟩, _⟩ := hx
    exact ⟨oe, some od, e, z.1, nc, by rw [z.2]; exact ho⟩
theorem call_isX {X : Cx} : CallR X (.builtin "isinstance") (rIsX X.K) := by
  intro pins s σ H xs us Q I r h
  obtain ⟨a, D, d, _, c, cv, b, rfl, ha, hd, C, hcv, e, q⟩ := h
  obtain ⟨u1, u2, rfl, r1, r2⟩ := vals2 r
  have e2 := hcv.eq r2
  subst e2
  cases (show u1 = Value.ref a from r1)
  obtain ⟨oe, od, J⟩ := inst_exv I ha hd
  have hcl : (PySem.W.clsIn X.K D).isSome = true := by
    obtain ⟨cd, hc, _⟩ := PySem.W.any_some C.hd
    rw [hc]
    rfl
  exact PySem.W.kia_one (PySem.W.kitx_exc (od := od) (ox := oe) hcl C.hg C.hk C.hs C.ha C.hn C.ht C.hm) I.kIn J e (fun z => nomatch z) fun tk => ⟨.bl b, H, I.tok tk, rfl, q⟩
/-- x.f, x such a value -/
def tXv (K : PySem.W.Frag) (f : Str) (te : TE) : TE := fun σ H Q => te σ H fun x H1 => ∃ (a D dd : Addr) (fs : List (Str × V)) (v : V), x = .ref a ∧ H1 a = some (exv a (.ref D) (some dd)) ∧ H1 dd = some (.xd fs) ∧ XfC K D ∧ PySem.W.findIn K (.ref D) f = some none ∧ fs.lookup f = some v ∧ Q v H1
theorem pe_xv {X : Cx} {e : Expr} {te : TE} {pos : Pos} {n : Str} (he : PE X e te) (hb : attributeBase e n X.env (eval e X.env) = eval e X.env := by rfl) : PE X (.Attribute e n pos) (tXv X.K n te) := by
  refine ⟨fun pins s σ H Q I h => attr_of hb (thn (he.run pins s σ H _ I h) fun u s1 hh => ?_)⟩
  obtain ⟨x, H1, I1, rx, a, D, dd, fs, v, rfl, ea, ed, T, hno, l, q⟩ := hh
  cases (show u = Value.ref a from rx)
  obtain ⟨oe, vs, ha, hz, hv⟩ := exv_at I1.hok ea
  obtain ⟨mA, hns, hr⟩ := (show ObjOk X.prog X.w H1 s1.heap dd (.xd fs) from I1.hok dd _ ed)
  obtain ⟨od, ho, hl⟩ := lookIn_ns hns
  obtain ⟨u, hu, ru⟩ := RelO.some_of (v := v) (o := mA n) (by rw [← l]; exact hr n)
  have J : PySem.W.InstAt s1.heap a oe D (some od) := ⟨ha, hz.1, by unfold PySem.W.notCls; rw [hv] <;> rfl, by rw [hz.2]; exact ho⟩
  exact HandSPX.exc_get I1.kIn J T.ga T.gg T.exC (PySem.W.findObj_own T.hdC hno rfl (by rw [hl, hu])) (handed_of ru) ⟨v, H1, I1.tok _, ru, q⟩
end L2
namespace Cc
open PySem L2
/-! ### a def that is called: its promise, its name, how it binds -/
structure Cal (P : Program) (w : World) (K : PySem.W.Frag) (mg : Str → Option Value) (base : Heap) (lv : Nat) (x : Str) (ps : List Str) (sp : Sp) : Prop where
  ex : ∃ (f : Addr) (fd : FuncData), FnOk P w K mg base CX0 lv f fd ps sp ∧ mg x = some (.ref f) ∧ PySem.W.keepIn K (.ref f) = true ∧ Binds K fd ps []
/-- the same, by keywords alone -/
structure CalK (P : Program) (w : World) (K : PySem.W.Frag) (mg : Str → Option Value) (base : Heap) (lv : Nat) (x : Str) (ps : List Str) (sp : Sp) (n : Nat) (ks : List Str) (gV : List V → List V → List V) : Prop where
  ex : ∃ (f : Addr) (fd : FuncData) (g : List Value → List Value → List Value), FnOk P w K mg base CX0 lv f fd ps sp ∧ mg x = some (.ref f) ∧ PySem.W.keepIn K (.ref f) = true ∧ KBn K fd ps n ks g gV
section
variable {X : Cx} {k lv : Nat} {ps ks : List Str} {sp : Sp} {x : Str} {p pos : Pos} {e : Expr} {es : List Expr} {kws : List Keyword} {t tk : TA} {n : Nat} {gV : List V → List V → List V}
theorem pe_cal (C : Cal X.prog X.w X.K X.mg X.base lv x ps sp) (hr : Room k X.A) (hg : Gl X x) (ha : PA X (e :: es) t) (hle : lv ≤ k := by decide)
    (hdb : (x == ("__debug__" : Str)) = false := by decide) (he : starEach (e :: es) X.env = (false, eval e X.env) :: starEach es X.env := by rfl) (hpl : (backTo pos (starEach es X.env)).any (·.1) = false := by rfl) :
    PE X (.Call (.Name x p) (e :: es) [] pos) (tCall sp [] E0 t) := by
  obtain ⟨f, fd, F, hm, hk, hb⟩ := C.ex
  exact pe_call F (hr.mono hle) hg hm hk hb .nil pass0 ha hdb he hpl
theorem pe_cal0 (C : Cal X.prog X.w X.K X.mg X.base lv x ps sp) (hr : Room k X.A) (hg : Gl X x) (hle : lv ≤ k := by decide)
    (hdb : (x == ("__debug__" : Str)) = false := by decide) :
    PE X (.Call (.Name x p) [] [] pos) (tCall sp [] E0 tNil) := by
  obtain ⟨f, fd, F, hm, hk, hb⟩ := C.ex
  exact pe_call0 F (hr.mono hle) hg hm hk hb .nil pass0 hdb
theorem pe_calK0 (C : CalK X.prog X.w X.K X.mg X.base lv x ps sp 0 ks gV) (hr : Room k X.A) (hg : Gl X x) (hkw : PK X kws tk) (hle : lv ≤ k := by decide)
    (hall : (backToKw pos (keywordEach kws X.env)).all (·.1.isSome) = true := by rfl) (hks : (backToKw pos (keywordEach kws X.env)).filterMap (·.1) = ks := by rfl)
    (hdb : (x == ("__debug__" : Str)) = false := by decide)
    (hpl : ((backTo pos (starEach [] X.env)).any (·.1) || (backToKw pos (keywordEach kws X.env)).any (·.1.isNone)) = false := by rfl) :
    PE X (.Call (.Name x p) [] kws pos) (tCallN 0 ks.length sp gV E0 tNil tk) := by
  obtain ⟨f, fd, g, F, hm, hk, hb⟩ := C.ex
  refine ⟨fun pins s σ H Q I h => ?_⟩
  refine wpAny_Call_Name_kw (ld_glob I hg hm ?_ hdb)
  refine PySem.W.callWith_KW0 (h₀ := X.base) I.ok.mod.kin hk hall ?_ hpl
  have h : tk σ H fun zs H2 => ([] : List V).length = 0 ∧ zs.length = ks.length ∧ sp (gV [] zs) H2 Q E0 := h
  refine thn (hkw.run pos pins s σ H _ I h) fun ws s2 ⟨zs, H2, I2, rz, l1, l2, q2⟩ => ⟨I2.kIn, ?_⟩
  rw [hks]
  exact run_fnN F (hr.mono hle) hb pass0 I2 .nil rz l1 l2 q2
theorem pe_calK (C : CalK X.prog X.w X.K X.mg X.base lv x ps sp n ks gV) (hr : Room k X.A) (hg : Gl X x) (ha : PA X (e :: es) t) (hkw : PK X kws tk) (hle : lv ≤ k := by decide)
    (hall : (backToKw pos (keywordEach kws X.env)).all (·.1.isSome) = true := by rfl) (hks : (backToKw pos (keywordEach kws X.env)).filterMap (·.1) = ks := by rfl)
    (hdb : (x == ("__debug__" : Str)) = false := by decide) (he : starEach (e :: es) X.env = (false, eval e X.env) :: starEach es X.env := by rfl)
    (hpl : ((backTo pos (starEach (e :: es) X.env)).any (·.1) || (backToKw pos (keywordEach kws X.env)).any (·.1.isNone)) = false := by rfl) :
    PE X (.Call (.Name x p) (e :: es) kws pos) (tCallN n ks.length sp gV E0 t tk) := by
  obtain ⟨f, fd, g, F, hm, hk, hb⟩ := C.ex
  exact pe_callN F (hr.mono hle) hg hm hk hb pass0 ha hkw hall hks hdb he hpl
end
/-! ### heaps -/
/-- all but what stands at p is as it was -/
def Kp (p : Addr) (H H' : Hp) : Prop := ∀ b o, b ≠ p → H b = some o → H' b = some o
theorem Kp.of {p : Addr} {H H' : Hp} (s : Same H H') : Kp p H H' := fun b o _ e => s b o e
theorem Kp.trans {p : Addr} {H H1 H2 : Hp} (a : Kp p H H1) (b : Kp p H1 H2) : Kp p H H2 := fun c o n h => b c o n (a c o n h)
theorem same_upd {H : Hp} {p : Addr} {o : HO} (h : H p = none) : Same H (upd H p o) := fun b x e => by
  rw [upd_ne (ne_of_none e h)]
  exact e
theorem same_mut {H H' : Hp} {p : Addr} {o : HO} (s : Same H H') (h : H p = none) : Same H (upd H' p o) := fun b x e => by
  rw [upd_ne (ne_of_none e h)]
  exact s b x e
theorem kp_upd {H : Hp} {p : Addr} {o : HO} : Kp p H (upd H p o) := fun b x n e => by
  rw [upd_ne n]
  exact e
theorem Kp.new {p q : Addr} {H H' : Hp} {o : HO} (k : Kp p H H') (h : H' q = none) : Kp p H (upd H' q o) := fun b x n e => by
  rw [upd_ne (ne_of_none (k b x n e) h)]
  exact k b x n e
theorem Kp.free {p q : Addr} {H H' : Hp} (k : Kp p H H') (h : H' q = none) (n : q ≠ p) : H q = none := by
  cases z : H q with
  | none => rfl
  | some o =>
    rw [k q o n z] at h
    cases h
theorem Kp.seq {K : PySem.W.Frag} {p a : Addr} {H H' : Hp} {xs : List V} (k : Kp p H H') (n : a ≠ p) (h : SqL K H a xs) : SqL K H' a xs := by
  rcases h with (h | ⟨o, h⟩) | h
  · exact .inl (.inl (k _ _ n h))
  · exact .inl (.inr ⟨o, k _ _ n h⟩)
  · exact .inr h
end Cc
namespace Cc
open PySem L2
/-! ### defs with defaults -/
structure CalD (P : Program) (w : World) (K : PySem.W.Frag) (mg : Str → Option Value) (base : Heap) (lv : Nat) (x : Str) (ps : List Str) (sp : Sp) (dvs : List V) : Prop where
  ex : ∃ (f : Addr) (fd : FuncData) (ds : List Value), FnOk P w K mg base CX0 lv f fd ps sp ∧ mg x = some (.ref f) ∧ PySem.W.keepIn K (.ref f) = true ∧ Binds K fd ps ds ∧ Vals dvs ds
section
variable {X : Cx} {k lv : Nat} {ps : List Str} {sp : Sp} {x : Str} {p pos : Pos} {e : Expr} {es : List Expr} {t : TA} {dvs : List V}
theorem pe_calD (C : CalD X.prog X.w X.K X.mg X.base lv x ps sp dvs) (hr : Room k X.A) (hg : Gl X x) (ha : PA X (e :: es) t) (hle : lv ≤ k := by decide)
    (hdb : (x == ("__debug__" : Str)) = false := by decide) (he : starEach (e :: es) X.env = (false, eval e X.env) :: starEach es X.env := by rfl) (hpl : (backTo pos (starEach es X.env)).any (·.1) = false := by rfl) :
    PE X (.Call (.Name x p) (e :: es) [] pos) (tCall sp dvs E0 t) := by
  obtain ⟨f, fd, ds, F, hm, hk, hb, hd⟩ := C.ex
  exact pe_call F (hr.mono hle) hg hm hk hb hd pass0 ha hdb he hpl
end
/-- f(k = v, ..): keywords alone, the defaults fill up -/
theorem kbindsD {K : PySem.W.Frag} {x qual : Str} {params : Arguments} {body : List Stmt} {scope : Scope} {dvs : List V} {f : Addr} {fd : FuncData} {ps : List Str} (F : FunD K x qual params body scope dvs [] f fd) (ks : List Str) (g : {α : Type} → List α → List α → List α) (hd : dvs ≠ [])
    (hrel : ∀ {ds zs : List V} {its ws : List Value}, Vals ds its → Vals zs ws → Vals (g ds zs) (g its ws))
    (h : ∀ (T : Addr) (kV doc pm : Value) (an : Option Addr) (cdv ct : Value) (its ws : List Value), its.length = dvs.length → ws.length = ks.length →
      ∃ k, bindArgs (PySem.W.fnOf x qual params body scope (.ref T) kV doc pm an cdv ct) ⟨[], ks.zip ws⟩ = seqItems? (.ref T) >>= k ∧ k (some its.toArray) = pure (ps.zip (g its ws))) :
    ∃ its : List Value, KBn K fd ps 0 ks (fun _ ws => g its ws) (fun _ zs => g dvs zs) := by
  obtain ⟨oc, od, dV, kV, doc, pm, an, cdv, ct, osl, rfl, lk, hcd, hD, hK⟩ := F.ex
  rcases hD with ⟨e, _⟩ | ⟨_, T, o, its, m, rfl, lT, oT, rT⟩
  · exact absurd e hd
  · refine ⟨its, ⟨fun s us ws X l1 l2 => ?_, fun _ r2 => hrel rT r2⟩⟩
    obtain rfl : us = [] := List.length_eq_zero_iff.mp l1
    obtain ⟨k, e1, e2⟩ := h T kV doc pm an cdv ct its ws rT.length.symm l2
    refine BindsTo.of_looks fun M => ?_
    rw [e1]
    exact looks_items X lT oT (.of_pure e2)
theorem vals_rev {zs : List V} {ws : List Value} (r : Vals zs ws) : Vals zs.reverse ws.reverse := by
  induction r with
  | nil => exact .nil
  | cons h t ih =>
    rw [List.reverse_cons, List.reverse_cons]
    exact ih.append (.cons h .nil)
end Cc
namespace Cc
open PySem L2
/-! ### comprehensions of two clauses, by two walks -/
section
variable {J : It} {n : Nat} {G : Hp → Prop} {Y : Nat → Hp → V → Hp → Prop}
theorem lc2_in {n1 : Nat} {J1 : It} {G1 : Hp → Prop} {Y1 : Nat → Hp → V → Hp → Prop} (w : Walk J1 n1 G1 Y1) {g1 : TG} {tt1 : TT} {te : TE} {vs1 : List Nat} {σ2 : St} {H4 : Hp} {D : Addr} {Nx : Hp → Prop} (Pv : Nat → Hp → Prop) (h0 : Pv 0 H4) (hG : ∀ i H, i ≤ n1 → Pv i H → G1 H)
    (hs : ∀ i x H H', i < n1 → Pv i H → Y1 i H x H' → g1 x (wipe σ2 vs1) H' fun σ3 H5 => wipe σ3 vs1 = wipe σ2 vs1 ∧ tt1 σ3 H5 fun b H6 =>
      if b = true then te σ3 H6 fun y H7 => ∃ acc, H7 D = some (.lst acc) ∧ acc.length < sizeLine ∧ Pv (i + 1) (upd H7 D (.lst (acc ++ [y]))) else Pv (i + 1) H6) (hd : ∀ H, Pv n1 H → Nx H) :
    ∃ W1 : Nat → Nat → Hp → Prop, (∃ m, W1 0 m H4) ∧ ∀ j k H, W1 j k H →
      (J1.stop j H ∧ Nx H) ∨ (J1.go j H ∧ ∃ Nx1 : Hp → Prop, (∀ H', Nx1 H' → ∃ k', k' < k ∧ W1 (j + 1) k' H') ∧ ∀ x H', J1.yld j H x H' → g1 x (wipe σ2 vs1) H' fun σ3 H5 => wipe σ3 vs1 = wipe σ2 vs1 ∧ tt1 σ3 H5 fun b H6 =>
        if b = true then te σ3 H6 fun y H7 => ∃ acc, H7 D = some (.lst acc) ∧ acc.length < sizeLine ∧ Nx1 (upd H7 D (.lst (acc ++ [y]))) else Nx1 H6) := by
  refine ⟨fun i m H => m = n1 - i ∧ i ≤ n1 ∧ Pv i H, ⟨n1, by simp, Nat.zero_le _, h0⟩, ?_⟩
  rintro i m H ⟨rfl, hi, p⟩
  have q := hG i H hi p
  by_cases hlt : i < n1
  · exact .inr ⟨w.goes i H hlt q, Pv (i + 1), fun H' p' => ⟨n1 - (i + 1), by omega, rfl, hlt, p'⟩, fun x H' y => hs i x H H' hlt p (w.yields i H x H' hlt q y)⟩
  · have e : i = n1 := by omega
    subst e
    exact .inl ⟨w.stops H q, hd H p⟩
theorem lc2_it (w : Walk J n G Y) {wi1 : TI} {g g1 : TG} {tt tt1 : TT} {te : TE} {vs vs1 : List Nat} {σ : St} {H1 : Hp} {D : Addr} {Qd : Hp → Prop} (Pv : Nat → Hp → Prop) (h0 : Pv 0 (upd H1 D (.lst []))) (hG : ∀ i H, i ≤ n → Pv i H → G H)
    (hs : ∀ i x H H', i < n → Pv i H → Y i H x H' → g x (wipe σ vs) H' fun σ2 H2 => wipe σ2 vs = wipe σ vs ∧ tt σ2 H2 fun b H3 =>
    if b = true then wi1 σ2 H3 fun J1 H4 => ∃ W1 : Nat → Nat → Hp → Prop, (∃ m, W1 0 m H4) ∧ ∀ j k H, W1 j k H →
      (J1.stop j H ∧ Pv (i + 1) H) ∨ (J1.go j H ∧ ∃ Nx1 : Hp → Prop, (∀ H', Nx1 H' → ∃ k', k' < k ∧ W1 (j + 1) k' H') ∧ ∀ x H', J1.yld j H x H' → g1 x (wipe σ2 vs1) H' fun σ3 H5 => wipe σ3 vs1 = wipe σ2 vs1 ∧ tt1 σ3 H5 fun b H6 =>
        if b = true then te σ3 H6 fun y H7 => ∃ acc, H7 D = some (.lst acc) ∧ acc.length < sizeLine ∧ Nx1 (upd H7 D (.lst (acc ++ [y]))) else Nx1 H6)
    else Pv (i + 1) H3) (hd : ∀ H, Pv n H → Qd H) :
    ∃ W : Nat → Nat → Hp → Prop, (∃ m, W 0 m (upd H1 D (.lst []))) ∧ ∀ i m H, W i m H →
  (J.stop i H ∧ Qd H) ∨ (J.go i H ∧ ∃ Nx : Hp → Prop, (∀ H', Nx H' → ∃ m', m' < m ∧ W (i + 1) m' H') ∧ ∀ x H', J.yld i H x H' → g x (wipe σ vs) H' fun σ2 H2 => wipe σ2 vs = wipe σ vs ∧ tt σ2 H2 fun b H3 =>
    if b = true then wi1 σ2 H3 fun J1 H4 => ∃ W1 : Nat → Nat → Hp → Prop, (∃ m, W1 0 m H4) ∧ ∀ j k H, W1 j k H →
      (J1.stop j H ∧ Nx H) ∨ (J1.go j H ∧ ∃ Nx1 : Hp → Prop, (∀ H', Nx1 H' → ∃ k', k' < k ∧ W1 (j + 1) k' H') ∧ ∀ x H', J1.yld j H x H' → g1 x (wipe σ2 vs1) H' fun σ3 H5 => wipe σ3 vs1 = wipe σ2 vs1 ∧ tt1 σ3 H5 fun b H6 =>
        if b = true then te σ3 H6 fun y H7 => ∃ acc, H7 D = some (.lst acc) ∧ acc.length < sizeLine ∧ Nx1 (upd H7 D (.lst (acc ++ [y]))) else Nx1 H6)
    else Nx H3) := by
  refine ⟨fun i m H => m = n - i ∧ i ≤ n ∧ Pv i H, ⟨n, by simp, Nat.zero_le _, h0⟩, ?_⟩
  rintro i m H ⟨rfl, hi, p⟩
  have q := hG i H hi p
  by_cases hlt : i < n
  · exact .inr ⟨w.goes i H hlt q, Pv (i + 1), fun H' p' => ⟨n - (i + 1), by omega, rfl, hlt, p'⟩, fun x H' y => hs i x H H' hlt p (w.yields i H x H' hlt q y)⟩
  · have e : i = n := by omega
    subst e
    exact .inl ⟨w.stops H q, hd H p⟩
end
end Cc
namespace Cc
open PySem L2
/-! ### a def that may refuse, called: where it does not refuse (CalX), or within a try (pe_calXS) -/
theorem passX {P : Program} {w : World} {X : Cx} : Passes (L2.CX P w) X E0 := fun _ _ _ _ _ _ _ ⟨_, _, _, _, _, _, _, _, _, _, _, _, e⟩ => e.elim
structure CalX (P : Program) (w : World) (K : PySem.W.Frag) (mg : Str → Option Value) (base : Heap) (lv : Nat) (x : Str) (ps : List Str) (sp : Sp) (dvs : List V) : Prop where
  ex : ∃ (f : Addr) (fd : FuncData) (ds : List Value), FnOk P w K mg base (L2.CX P w) lv f fd ps sp ∧ mg x = some (.ref f) ∧ PySem.W.keepIn K (.ref f) = true ∧ Binds K fd ps ds ∧ Vals dvs ds
structure CalXK (P : Program) (w : World) (K : PySem.W.Frag) (mg : Str → Option Value) (base : Heap) (lv : Nat) (x : Str) (ps : List Str) (sp : Sp) (n : Nat) (ks : List Str) (gV : List V → List V → List V) : Prop where
  ex : ∃ (f : Addr) (fd : FuncData) (g : List Value → List Value → List Value), FnOk P w K mg base (L2.CX P w) lv f fd ps sp ∧ mg x = some (.ref f) ∧ PySem.W.keepIn K (.ref f) = true ∧ KBn K fd ps n ks g gV
section
variable {X : Cx} {k lv : Nat} {ps ks : List Str} {sp : Sp} {x : Str} {p pos : Pos} {e : Expr} {es : List Expr} {kws : List Keyword} {t tk : TA} {n : Nat} {gV : List V → List V → List V} {dvs : List V} {W : WX}
theorem pe_calX (C : CalX X.prog X.w X.K X.mg X.base lv x ps sp dvs) (hr : Room k X.A) (hg : Gl X x) (ha : PA X (e :: es) t) (hle : lv ≤ k := by decide)
    (hdb : (x == ("__debug__" : Str)) = false := by decide) (he : starEach (e :: es) X.env = (false, eval e X.env) :: starEach es X.env := by rfl) (hpl : (backTo pos (starEach es X.env)).any (·.1) = false := by rfl) :
    PE X (.Call (.Name x p) (e :: es) [] pos) (tCall sp dvs E0 t) := by
  obtain ⟨f, fd, ds, F, hm, hk, hb, hd⟩ := C.ex
  exact pe_call F (hr.mono hle) hg hm hk hb hd passX ha hdb he hpl
/-- within a try's body -/
theorem pe_calXS (C : CalX X.prog X.w X.K X.mg X.base lv x ps sp dvs) (tk : Takes X W) (hr : Room k X.A) (hg : Gl X x) (ha : PA X (e :: es) t) (hle : lv ≤ k := by decide)
    (hdb : (x == ("__debug__" : Str)) = false := by decide) (he : starEach (e :: es) X.env = (false, eval e X.env) :: starEach es X.env := by rfl) (hpl : (backTo pos (starEach es X.env)).any (·.1) = false := by rfl) :
    PE X (.Call (.Name x p) (e :: es) [] pos) (tCallSD sp dvs (WE W) t) := by
  obtain ⟨f, fd, ds, F, hm, hk, hb, hd⟩ := C.ex
  exact pe_callSD F (hr.mono hle) hg hm hk hb hd (fun σ => passAt tk σ) ha hdb he hpl
theorem pe_calXK0 (C : CalXK X.prog X.w X.K X.mg X.base lv x ps sp 0 ks gV) (hr : Room k X.A) (hg : Gl X x) (hkw : PK X kws tk) (hle : lv ≤ k := by decide)
    (hall : (backToKw pos (keywordEach kws X.env)).all (·.1.isSome) = true := by rfl) (hks : (backToKw pos (keywordEach kws X.env)).filterMap (·.1) = ks := by rfl)
    (hdb : (x == ("__debug__" : Str)) = false := by decide)
    (hpl : ((backTo pos (starEach [] X.env)).any (·.1) || (backToKw pos (keywordEach kws X.env)).any (·.1.isNone)) = false := by rfl) :
    PE X (.Call (.Name x p) [] kws pos) (tCallN 0 ks.length sp gV E0 tNil tk) := by
  obtain ⟨f, fd, g, F, hm, hk, hb⟩ := C.ex
  refine ⟨fun pins s σ H Q I h => ?_⟩
  refine wpAny_Call_Name_kw (ld_glob I hg hm ?_ hdb)
  refine PySem.W.callWith_KW0 (h₀ := X.base) I.ok.mod.kin hk hall ?_ hpl
  have h : tk σ H fun zs H2 => ([] : List V).length = 0 ∧ zs.length = ks.length ∧ sp (gV [] zs) H2 Q E0 := h
  refine thn (hkw.run pos pins s σ H _ I h) fun ws s2 ⟨zs, H2, I2, rz, l1, l2, q2⟩ => ⟨I2.kIn, ?_⟩
  rw [hks]
  exact run_fnN F (hr.mono hle) hb passX I2 .nil rz l1 l2 q2
theorem pe_calXK (C : CalXK X.prog X.w X.K X.mg X.base lv x ps sp n ks gV) (hr : Room k X.A) (hg : Gl X x) (ha : PA X (e :: es) t) (hkw : PK X kws tk) (hle : lv ≤ k := by decide)
    (hall : (backToKw pos (keywordEach kws X.env)).all (·.1.isSome) = true := by rfl) (hks : (backToKw pos (keywordEach kws X.env)).filterMap (·.1) = ks := by rfl)
    (hdb : (x == ("__debug__" : Str)) = false := by decide) (he : starEach (e :: es) X.env = (false, eval e X.env) :: starEach es X.env := by rfl)
    (hpl : ((backTo pos (starEach (e :: es) X.env)).any (·.1) || (backToKw pos (keywordEach kws X.env)).any (·.1.isNone)) = false := by rfl) :
    PE X (.Call (.Name x p) (e :: es) kws pos) (tCallN n ks.length sp gV E0 t tk) := by
  obtain ⟨f, fd, g, F, hm, hk, hb⟩ := C.ex
  exact pe_callN F (hr.mono hle) hg hm hk hb passX ha hkw hall hks hdb he hpl
theorem op_fdivZ : OpR X (binaryOp .FloorDiv) (rI (fun _ j => j ≠ 0 ∧ j.natAbs.log2 < 9000) fun i j => .int (i.fdiv j)) := opI fun i j _ _ _ _ _ hc q => PyProof.Rows.floordiv_int hc.1 q (.inl (PyProof.noPylong_of_log2 hc.2))
end
/-- positional values and keywords, the defaults fill up -/
theorem kbindsN {K : PySem.W.Frag} {x qual : Str} {params : Arguments} {body : List Stmt} {scope : Scope} {dvs : List V} {f : Addr} {fd : FuncData} {ps : List Str} (F : FunD K x qual params body scope dvs [] f fd) (n : Nat) (ks : List Str) (g : {α : Type} → List α → List α → List α → List α) (hd : dvs ≠ [])
    (hrel : ∀ {vs ds zs : List V} {us its ws : List Value}, Vals vs us → Vals ds its → Vals zs ws → Vals (g vs ds zs) (g us its ws))
    (h : ∀ (T : Addr) (kV doc pm : Value) (an : Option Addr) (cdv ct : Value) (us its ws : List Value), us.length = n → its.length = dvs.length → ws.length = ks.length →
      ∃ k, bindArgs (PySem.W.fnOf x qual params body scope (.ref T) kV doc pm an cdv ct) ⟨us, ks.zip ws⟩ = seqItems? (.ref T) >>= k ∧ k (some its.toArray) = pure (ps.zip (g us its ws))) :
    ∃ its : List Value, KBn K fd ps n ks (fun us ws => g us its ws) (fun vs zs => g vs dvs zs) := by
  obtain ⟨oc, od, dV, kV, doc, pm, an, cdv, ct, osl, rfl, lk, hcd, hD, hK⟩ := F.ex
  rcases hD with ⟨e, _⟩ | ⟨_, T, o, its, m, rfl, lT, oT, rT⟩
  · exact absurd e hd
  · refine ⟨its, ⟨fun s us ws X l1 l2 => ?_, fun r1 r2 => hrel r1 rT r2⟩⟩
    obtain ⟨k, e1, e2⟩ := h T kV doc pm an cdv ct us its ws l1 rT.length.symm l2
    refine BindsTo.of_looks fun M => ?_
    rw [e1]
    exact looks_items X lT oT (.of_pure e2)
end Cc
namespace Ch
open PySem
/-! ### the mathematics of choices -/
def s0 : Str := ⟨#[48]⟩
def s1 : Str := ⟨#[49]⟩
def stepM (xs : List Str) : List Str := xs.flatMap fun t => [t ++ s0, t ++ s1]
def genM : Nat → List Str
  | 0 => [⟨#[]⟩]
  | n + 1 => stepM (genM n)
def chM (n : Nat) (l : Int) : List Str := (genM n).filter fun t => decide (l ≤ Txt.count t s1)
/-- the law's own way: m signs of a number, from the right, and what is left -/
def bits (n : Int) : Nat → Str × Int
  | 0 => (⟨#[]⟩, n)
  | k + 1 => ((if (bits n k).2.fmod 2 = 0 then s0 else s1) ++ (bits n k).1, (bits n k).2 / 2)
def onesM (t : Str) : Int := ((t.cps.toList.filter fun c => decide (c = 49)).length : Nat)
def keepM (m : Nat) (l : Int) (n : Nat) : Bool := decide ((bits n m).2 = 0) && decide (l ≤ onesM (bits n m).1)
def allM (m : Nat) (l : Int) : List Str := ((List.range 32).filter (keepM m l)).map fun n => (bits (n : Nat) m).1
theorem same0 : ∀ m : _root_.Fin 6, ∀ l : _root_.Fin 8, chM m.1 (l.1 : Nat) = allM m.1 (l.1 : Nat) := by decide +kernel
theorem gen_len : ∀ m : _root_.Fin 6, (genM m.1).all (fun t => decide (t.length ≤ 5)) = true ∧ (genM m.1).length ≤ 32 := by decide +kernel
theorem shaped0 : ∀ m : _root_.Fin 6, ∀ l : _root_.Fin 8, SeqAt.shaped (.list ((chM m.1 (l.1 : Nat)).map PyData.str)) = true := by decide +kernel
theorem sorted0 : ∀ m : _root_.Fin 6, ∀ l : _root_.Fin 8, PyProof.Rows.sortedS (chM m.1 (l.1 : Nat)) = true := by decide +kernel
theorem bits_len : ∀ (n : Int) (k : Nat), (bits n k).1.length = k
  | _, 0 => rfl
  | n, k + 1 => by
    have ih := bits_len n k
    have e : ∀ a b : Str, (a ++ b).length = a.length + b.length := fun a b => by
      show (a.cps ++ b.cps).size = _
      rw [Array.size_append]
      rfl
    show ((if (bits n k).2.fmod 2 = 0 then s0 else s1) ++ (bits n k).1).length = k + 1
    rw [e, ih]
    split <;> (show 1 + k = k + 1; omega)
theorem lts (m : Nat) (l : Int) : (chM m l).length ≤ (genM m).length := List.length_filter_le _ _
/-! ### sorted once, sorted for ever -/
theorem le_of {p x : Str} (h : PySem.Spec.ltCps x.cps.toList p.cps.toList = false) : p.cps.toList ≤ x.cps.toList := by
  rw [PyProof.Rows.ltCps_eq] at h
  exact of_decide_eq_false h
theorem rising_pw : ∀ (l : List Str) (p : Str), PyProof.Rows.risingS p l = true → (p :: l).Pairwise (fun a b => a.cps.toList ≤ b.cps.toList)
  | [], p, _ => by simp
  | x :: r, p, h => by
    have h' : (!PySem.Spec.ltCps x.cps.toList p.cps.toList && PyProof.Rows.risingS x r) = true := h
    rw [Bool.and_eq_true, Bool.not_eq_true'] at h'
    have ih := rising_pw r x h'.2
    have hx := le_of h'.1
    refine List.pairwise_cons.mpr ⟨fun y hy => ?_, ih⟩
    rcases List.mem_cons.mp hy with rfl | hy
    · exact hx
    · exact List.le_trans hx ((List.pairwise_cons.mp ih).1 y hy)
theorem sorted_pw : ∀ (l : List Str), PyProof.Rows.sortedS l = true → l.Pairwise (fun a b => a.cps.toList ≤ b.cps.toList)
  | [], _ => List.Pairwise.nil
  | x :: r, h => rising_pw r x h
theorem sorted_same {a b : List Str} (hp : a.Perm b) (ha : PyProof.Rows.sortedS a = true) (hb : PyProof.Rows.sortedS b = true) : a = b := by
  refine List.Perm.eq_of_pairwise (fun x y _ _ h1 h2 => ?_) (sorted_pw a ha) (sorted_pw b hb) hp
  have e := List.le_antisymm h1 h2
  obtain ⟨⟨u⟩⟩ := x
  obtain ⟨⟨v⟩⟩ := y
  have e' : u = v := e
  rw [e']
end Ch
namespace Toy
open PySem L2 Cc Ch
def top (i : Nat) : Stmt := PySem.Challenge.pw_eitherslack_k04_choices_numbered.main.body.getD i (.Pass ⟨0, 0, 0, 0⟩)
abbrev RW0 : Program := PySem.Challenge.pw_eitherslack_k04_choices_numbered
structure Adr where
  (SlackError NoNumber NoTable NoRow NoChoice Flat NoSaying Lifted NoCover Dipped NotOne NoText NoLine NoName : Addr)
structure Txt (K : PySem.W.Frag) (mg : Str → Option Value) (c : Adr) : Prop where
  abs : mg "abs" = none
  len : mg "len" = none
  range : mg "range" = none
  isinstance : mg "isinstance" = none
  zip : mg "zip" = none
  int_ : mg "int" = none
  bool_ : mg "bool" = none
  enumerate : mg "enumerate" = none
  most : ∃ tk, mg "MOST_PLACES" = some (.int 5 tk)
  ValueError_ : mg "ValueError" = none
  g_SlackError : mg "SlackError" = some (.ref c.SlackError)
  g_NoNumber : mg "NoNumber" = some (.ref c.NoNumber)
  g_NoTable : mg "NoTable" = some (.ref c.NoTable)
  g_NoRow : mg "NoRow" = some (.ref c.NoRow)
  g_NoChoice : mg "NoChoice" = some (.ref c.NoChoice)
  g_Flat : mg "Flat" = some (.ref c.Flat)
  g_NoSaying : mg "NoSaying" = some (.ref c.NoSaying)
  g_Lifted : mg "Lifted" = some (.ref c.Lifted)
  g_NoCover : mg "NoCover" = some (.ref c.NoCover)
  g_Dipped : mg "Dipped" = some (.ref c.Dipped)
  g_NotOne : mg "NotOne" = some (.ref c.NotOne)
  g_NoText : mg "NoText" = some (.ref c.NoText)
  g_NoLine : mg "NoLine" = some (.ref c.NoLine)
  g_NoName : mg "NoName" = some (.ref c.NoName)
/-- of which classes an exception of the class D is: those of the list, in the order of Adr behind SlackError -/
structure KindOf (K : PySem.W.Frag) (c : Adr) (D : Addr) (b : Nat → Bool) : Prop where
  ec : ExcC K D
  ve : PySem.W.kitOne K (.ref D) (.type "ValueError") = some true
  sl : PySem.W.kitOne K (.ref D) (.ref c.SlackError) = some true
  q1 : PySem.W.kitOne K (.ref D) (.ref c.NoNumber) = some (b 1)
  q2 : PySem.W.kitOne K (.ref D) (.ref c.NoTable) = some (b 2)
  q3 : PySem.W.kitOne K (.ref D) (.ref c.NoRow) = some (b 3)
  q4 : PySem.W.kitOne K (.ref D) (.ref c.NoChoice) = some (b 4)
  q5 : PySem.W.kitOne K (.ref D) (.ref c.Flat) = some (b 5)
  q6 : PySem.W.kitOne K (.ref D) (.ref c.NoSaying) = some (b 6)
  q7 : PySem.W.kitOne K (.ref D) (.ref c.Lifted) = some (b 7)
  q8 : PySem.W.kitOne K (.ref D) (.ref c.NoCover) = some (b 8)
  q9 : PySem.W.kitOne K (.ref D) (.ref c.Dipped) = some (b 9)
  q10 : PySem.W.kitOne K (.ref D) (.ref c.NotOne) = some (b 10)
  q11 : PySem.W.kitOne K (.ref D) (.ref c.NoText) = some (b 11)
  q12 : PySem.W.kitOne K (.ref D) (.ref c.NoLine) = some (b 12)
  q13 : PySem.W.kitOne K (.ref D) (.ref c.NoName) = some (b 13)
abbrev Fra (H : Hp) (a : Addr) (f : Int × Int) : Prop := H a = some (.tup [.int f.1, .int f.2])
def Pile (H : Hp) (p : Addr) : Prop := ∃ x y z : Int, H p = some (.lst [.int x, .int y, .int z])
abbrev Strs (H : Hp) (a : Addr) (xs : List Str) : Prop := H a = some (.lst (xs.map V.str))
end Toy
namespace Toy
open PySem L2 Cc Ch
section
variable {P : Program} {w : World} {K : PySem.W.Frag} {mg : Str → Option Value} {base : Heap}
theorem map_snoc (xs : List Str) (y : Str) : xs.map V.str ++ [V.str y] = (xs ++ [y]).map V.str := by
  rw [List.map_append]
  rfl
theorem one_eq : ("1" : Str) = s1 := by decide +kernel
theorem tyes {σ : L2.St} {H : Hp} {Q : Bool → Hp → Prop} (h : Q true H) : tYes σ H Q := h
theorem two_signs {i c : Nat} (h : i < 2) (e : ("01" : Str).cps[i]? = some c) : (i = 0 ∧ c = 48) ∨ (i = 1 ∧ c = 49) := by
  rcases (show i = 0 ∨ i = 1 by omega) with rfl | rfl
  · exact .inl ⟨rfl, (Option.some.inj e).symm⟩
  · exact .inr ⟨rfl, (Option.some.inj e).symm⟩
def spCh : Sp := fun vs H Q _ => ∃ m l : Int, vs = [.int m, .int l] ∧ 0 ≤ m ∧ m ≤ 5 ∧ ∀ p H', Same H H' → H p = none → Strs H' p (chM m.toNat l) → Q (.ref p) H'
abbrev s_choices : Stmt := top 17
theorem sc_choices : FnScope ["many", "least", "texts", "place", "text", "sign"] ["many", "least"] (defScope s_choices) := ⟨rfl, rfl, rfl, by decide +kernel, rfl, by decide +kernel, by decide +kernel⟩
theorem ok_ch {f : Addr} {fd : FuncData} {k : Nat} {dvs : List V} (F : FunD K "choices" "choices" (defArgs s_choices) (defBody s_choices) (defScope s_choices) dvs [] f fd) {c : Adr} (T : Txt K mg c) : FnOk P w K mg base CX0 (k + 1) f fd ["many", "least"] spCh := by
  refine F.ok sc_choices (fun vs H Q E h => ?_) (fun cdv A outer s H vs Q E hr h => ?_)
  · obtain ⟨m, l, rfl, _⟩ := h
    rfl
  · obtain ⟨m, l, rfl, m0, m5, q⟩ := h
    suffices hh : ∃ t, PSs (cxOf CX0 P w K mg base ["many", "least", "texts", "place", "text", "sign"] "choices" (defScope s_choices) f cdv A outer s H E).nox (defBody s_choices) t ∧ t { nx := fun _ H' => Q .non H', rt := Q } (start ["many", "least", "texts", "place", "text", "sign"] [.int m, .int l]) H by
      obtain ⟨t, h1, h2⟩ := hh
      exact ⟨t, h1.nox, h2⟩
    refine ⟨_, (pss_cons (ps_set (i := 2) sc_choices.nd rfl (Or.inl rfl) (pe_lst (pa_cons pe_str pa_nil)))
      (pss_cons (ps_for PassesOwn.never rfl (pi_range1 (by rfl) T.range (pa_cons (pv 0) pa_nil)) (pg_name (i := 3) sc_choices.nd rfl (Or.inl rfl))
        (pss_one (ps_setLc2 (i := 2) (own := [("text", 4), ("sign", 5)]) (vs1 := [5]) (by rfl) sc_choices.nd rfl rfl (sw_true rfl rfl rfl (by decide +kernel)) (pi_list (pv 2)) (blkOk_by (own := [("text", 4), ("sign", 5)]) (N := ["many", "least", "texts", "place", "text", "sign"]) (sc := defScope s_choices) (by decide +kernel)) (by decide) (fun _ _ _ _ _ => (pg_name (i := 4) sc_choices.nd rfl (Or.inl rfl))) (fun _ _ _ _ _ => pts_nil) (fun _ _ _ _ _ => (pi_str pe_str)) (fun _ _ _ _ _ => (pg_name (i := 5) sc_choices.nd rfl (Or.inl rfl))) (fun _ _ _ _ _ => pts_nil) (fun _ _ _ _ _ => (pe_op op_add_str (pv 4) (pv 5))))))
      (pss_one (ps_ret (pe_lc (own := [("text", 4)]) (by rfl) sc_choices.nd (pi_list (pv 2)) (blkOk_by (own := [("text", 4)]) (N := ["many", "least", "texts", "place", "text", "sign"]) (sc := defScope s_choices) (by decide +kernel)) (fun _ _ _ _ _ => (pg_name (i := 4) sc_choices.nd rfl (Or.inl rfl))) (fun _ _ _ _ _ => (pts_one (pt_cmpR op_ge (pe_m1 PySem.F.slot_str_count PySem.F.type_str_count mt_count (pv 4) pe_str) (pv 1) (nomark _)))) (fun _ _ _ _ _ => (pv 4))))))), ?_⟩
    refine ⟨by show 1 ≤ sizeLine; decide, fun a na => ?_⟩
    have sa := same_upd (o := .lst [V.str ⟨#[]⟩]) na
    refine ⟨_, rfl, m, rfl, by omega, by omega, for_range (lo := 0) (n := m.toNat) (fun i σ H' => Same H H' ∧ ∃ (b : Addr) (v3 : Option V), σ = [some (.int m), some (.int l), some (.ref b), v3, none, none] ∧ H b = none ∧ Strs H' b (genM i)) ⟨sa, a, none, rfl, na, upd_same⟩ ?_ ?_⟩
    · rintro i σ H1 hi ⟨sm, b, v3, rfl, nb, hb⟩
      have gl := gen_len ⟨i, by omega⟩
      have gl5 : ∀ t ∈ genM i, t.length ≤ 5 := fun t ht => of_decide_eq_true (List.all_eq_true.mp gl.1 t ht)
      refine ⟨_, rfl, b, rfl, ⟨_, .inl (.inl hb)⟩, fun D nD => ?_⟩
      have Db : b ≠ D := ne_of_none hb nD
      refine lc2_it (walk_list (K := K) (a := b) (xs := (genM i).map V.str)) (fun j H' => Same H1 H' ∧ Strs H' D (stepM ((genM i).take j))) ?_ ?_ ?_ ?_
      · exact ⟨same_upd nD, upd_same⟩
      · rintro j H' _ ⟨s', _⟩
        exact .inl (.inl (s' _ _ hb))
      · rintro j x H2 H2' hj ⟨s2, hD⟩ ⟨rfl, hx⟩
        rw [List.getElem?_map] at hx
        obtain ⟨t, ht, rfl⟩ := Option.map_eq_some_iff.mp hx
        have t5 := gl5 t (List.mem_of_getElem? ht)
        rw [List.length_map] at hj
        refine ⟨rfl, tyes (iteT ?_)⟩
        refine ⟨_, rfl, ?_⟩
        have e1 : stepM ((genM i).take (j + 1)) = stepM ((genM i).take j) ++ [t ++ s0, t ++ s1] := by
          unfold stepM
          rw [List.take_add_one, ht, List.flatMap_append]
          simp
        have szj : (stepM ((genM i).take j)).length ≤ 64 := by
          have e : ∀ xs : List Str, (stepM xs).length = 2 * xs.length := fun xs => by
            induction xs with
            | nil => rfl
            | cons y r ih =>
              show ([y ++ s0, y ++ s1] ++ stepM r).length = _
              rw [List.length_append, ih]
              show 2 + 2 * r.length = 2 * (r.length + 1)
              omega
          have g2 : (genM i).length ≤ 32 := gl.2
          rw [e, List.length_take]
          omega
        show ∃ W1 : Nat → Nat → Hp → Prop, _
        refine lc2_in (walk_str (z := "01")) (fun c H' => Same H1 H' ∧ Strs H' D (stepM ((genM i).take j) ++ [t ++ s0, t ++ s1].take c)) ?_ (fun _ _ _ _ => trivial) ?_ ?_
        · exact ⟨s2, by rw [List.take_zero, List.append_nil]; exact hD⟩
        · rintro c y H3 H3' hc ⟨s3, hD3⟩ ⟨rfl, d, hd, rfl⟩
          refine ⟨rfl, tyes (iteT ?_)⟩
          have key : (⟨#[d]⟩ : Str).length = 1 := rfl
          refine ⟨_, rfl, _, rfl, _, _, rfl, rfl, ?_, _, hD3, ?_, ?_, ?_⟩
          · rw [key]
            exact Nat.le_trans (show t.length + 1 ≤ 6 by omega) (by decide)
          · rw [List.length_map, List.length_append]
            refine small1000 ?_
            have : ([t ++ s0, t ++ s1].take c).length ≤ 2 := by rw [List.length_take]; exact Nat.min_le_right _ _
            omega
          · exact same_mut s3 nD
          · rcases two_signs hc hd with ⟨rfl, rfl⟩ | ⟨rfl, rfl⟩
            · show upd H3' D _ D = _
              rw [upd_same, map_snoc, List.append_assoc]
              rfl
            · show upd H3' D _ D = _
              rw [upd_same, map_snoc, List.append_assoc]
              rfl
        · rintro H3 ⟨s3, hD3⟩
          refine ⟨s3, ?_⟩
          show Strs H3 D (stepM ((genM i).take (j + 1)))
          rw [e1]
          exact hD3
      · rintro H2 ⟨s2, hD⟩
        refine ⟨sm.trans s2, D, _, rfl, sm.free nD, ?_⟩
        rw [List.length_map, List.take_length] at hD
        exact hD
    · rintro σ H1 ⟨sm, b, v3, rfl, nb, hb⟩
      have gl := gen_len ⟨m.toNat, by omega⟩
      refine ⟨_, rfl, b, rfl, ⟨_, .inl (.inl hb)⟩, fun D nD => ?_⟩
      refine lc_it (walk_list (K := K) (a := b) (xs := (genM m.toNat).map V.str)) (fun j H' => Same H1 H' ∧ Strs H' D (((genM m.toNat).take j).filter fun t => decide (l ≤ Txt.count t s1))) ?_ ?_ ?_ ?_
      · exact ⟨same_upd nD, upd_same⟩
      · rintro j H' _ ⟨s', _⟩
        exact .inl (.inl (s' _ _ hb))
      · rintro j x H2 H2' hj ⟨s2, hD⟩ ⟨rfl, hx⟩
        rw [List.getElem?_map] at hx
        obtain ⟨t, ht, rfl⟩ := Option.map_eq_some_iff.mp hx
        rw [List.length_map] at hj
        refine ⟨rfl, ?_⟩
        refine ⟨_, rfl, ⟨_, rfl⟩, _, _, rfl, rfl, ?_⟩
        refine ⟨_, rfl, _, _, rfl, rfl, _, rfl, ?_⟩
        have e1 : ((genM m.toNat).take (j + 1)).filter (fun t => decide (l ≤ Txt.count t s1)) = ((genM m.toNat).take j).filter (fun t => decide (l ≤ Txt.count t s1)) ++ (if decide (l ≤ Txt.count t s1) = true then [t] else []) := by
          rw [List.take_add_one, ht, List.filter_append]
          congr 1
          by_cases z : l ≤ Txt.count t s1 <;> simp [z]
        refine ite2 (fun z => ?_) (fun z => ?_) <;> rw [one_eq] at z
        · refine ⟨_, rfl, _, hD, ?_, same_mut s2 nD, ?_⟩
          · rw [List.length_map]
            refine small1000 (Nat.le_trans (List.length_filter_le _ _) ?_)
            have g2 : (genM m.toNat).length ≤ 32 := gl.2
            rw [List.length_take]
            omega
          · show upd H2' D _ D = _
            rw [upd_same, e1, if_pos z, List.map_append]
            rfl
        · refine ⟨s2, ?_⟩
          show Strs H2' D _
          rw [e1, if_neg z, List.append_nil]
          exact hD
      · rintro H2 ⟨s2, hD⟩
        rw [List.length_map, List.take_length] at hD
        exact q D H2 (sm.trans s2) (sm.free nD) hD
end
section
variable {P : Program} {w : World} {K : PySem.W.Frag} {mg : Str → Option Value} {base : Heap}
theorem cdiv {i j : Int} {b : Nat} (h : 0 < j) (hb : j.natAbs < 2 ^ b) (h0 : 0 < b := by decide) (h9 : b ≤ 9000 := by decide) : CDivW i j := wide_div h hb h0 h9
theorem cmul {i j : Int} {a b : Nat} (ha : i.natAbs < 2 ^ a) (hb : j.natAbs < 2 ^ b) (h0 : 0 < a := by decide) (h1 : 0 < b := by decide) (h : a + b ≤ 1000000 := by decide) : CMulW i j := wide_mul ha hb h0 h1 h
/-! ### the law's draws -/
theorem fm {x m : Int} (h : 0 < m) : 0 ≤ x.fmod m ∧ x.fmod m < m := ⟨Int.fmod_nonneg_of_pos x h, Int.fmod_lt_of_pos x h⟩
theorem sm {x : Int} {n : Nat} (h0 : 0 ≤ x) (h : x < ((2 ^ n : Nat) : Int)) : x.natAbs < 2 ^ n := by omega
theorem fm64 {x m : Int} (h : 0 < m) (h2 : m < 18446744073709551616) : (x.fmod m).natAbs < 2 ^ 64 := by
  have := fm (x := x) h
  show (x.fmod m).natAbs < 18446744073709551616
  omega
def spMix : Sp := fun vs H Q _ => ∃ a b : Int, vs = [.int a, .int b] ∧ ∀ d : Int, Q (.int d) H
abbrev s__law_mixed : Stmt := top 21
theorem sc__law_mixed : FnScope ["_law_cell", "_law_k", "_law_my_number"] ["_law_cell", "_law_k"] (defScope s__law_mixed) := ⟨rfl, rfl, rfl, by decide +kernel, rfl, by decide +kernel, by decide +kernel⟩
theorem ok_mix {f : Addr} {fd : FuncData} {k : Nat} (F : Fun K "_law_mixed" "_law_mixed" s__law_mixed f fd) : FnOk P w K mg base CX0 (k + 1) f fd ["_law_cell", "_law_k"] spMix := by
  refine F.ok sc__law_mixed (fun vs H Q E h => ?_) (fun cdv A outer s H vs Q E hr h => ?_)
  · obtain ⟨a, b, rfl, _⟩ := h
    rfl
  · obtain ⟨a, b, rfl, q⟩ := h
    refine ⟨_, (pss_cons (ps_set (i := 2) sc__law_mixed.nd rfl (Or.inl rfl) (pe_op op_modN (pe_op op_add (pe_op op_add (pe_op op_mulW (pe_op op_modN (pv 0) pe_int) pe_int) (pe_op op_mul (pv 1) pe_int)) pe_int) pe_int))
      (pss_cons (ps_set (i := 2) sc__law_mixed.nd rfl (Or.inl rfl) (pe_op op_modN (pe_op op_mulW (pv 2) (pv 2)) pe_int))
      (pss_one (ps_ret (pe_op op_fdivW (pe_op op_modN (pe_op op_mulW (pv 2) (pv 2)) pe_int) pe_int))))), ?_⟩
    have n1 : (2147483647 : Int) ≠ 0 := by decide
    have n2 : (2147483629 : Int) ≠ 0 := by decide
    have n3 : (2147483587 : Int) ≠ 0 := by decide
    refine ⟨_, rfl, _, _, rfl, rfl, n1, _, _, rfl, rfl, cmul (a := 64) (b := 64) (fm64 (by decide) (by decide)) (by decide), ?_⟩
    refine ⟨_, rfl, _, _, rfl, rfl, .inr ⟨by decide, by decide⟩, _, _, rfl, rfl, _, _, rfl, rfl, _, _, rfl, rfl, n1, ?_⟩
    refine ⟨_, rfl, _, rfl, _, _, rfl, rfl, cmul (a := 64) (b := 64) (fm64 (by decide) (by decide)) (fm64 (by decide) (by decide)), _, _, rfl, rfl, n2, ?_⟩
    exact ⟨_, rfl, _, rfl, _, _, rfl, rfl, cmul (a := 64) (b := 64) (fm64 (by decide) (by decide)) (fm64 (by decide) (by decide)), _, _, rfl, rfl, n3, _, _, rfl, rfl, cdiv (b := 64) (by decide) (by decide), q _⟩
def spPile (K : PySem.W.Frag) : Sp := fun vs H Q _ => ∃ (a : Addr) (ns : List Int) (k : Int), vs = [.ref a, .int k] ∧ SqL K H a (ns.map V.int) ∧ 0 ≤ k ∧
  ∀ p H', Same H H' → H p = none → Pile H' p → Q (.ref p) H'
abbrev s__law_pile : Stmt := top 22
theorem sc__law_pile : FnScope ["_law_script", "_law_k", "_law_cell"] ["_law_script", "_law_k"] (defScope s__law_pile) := ⟨rfl, rfl, rfl, by decide +kernel, rfl, by decide +kernel, by decide +kernel⟩
theorem ok_pile {f : Addr} {fd : FuncData} {k : Nat} (F : Fun K "_law_pile" "_law_pile" s__law_pile f fd) {c : Adr} (T : Txt K mg c) : FnOk P w K mg base CX0 (k + 1) f fd ["_law_script", "_law_k"] (spPile K) := by
  refine F.ok sc__law_pile (fun vs H Q E h => ?_) (fun cdv A outer s H vs Q E hr h => ?_)
  · obtain ⟨a, ns, k, rfl, _⟩ := h
    rfl
  · obtain ⟨a, ns, k, rfl, hS, k0, q⟩ := h
    refine ⟨_, (pss_cons (ps_set (i := 2) sc__law_pile.nd rfl (Or.inl rfl) pe_int)
      (pss_cons (ps_if (pt_cmpR op_lt (pv 1) (pe_callB call_len_seq (by rfl) T.len (by decide +kernel) (pa_cons (pv 0) pa_nil)) (nomark _))
        (pss_one (ps_set (i := 2) sc__law_pile.nd rfl (Or.inl rfl) (pe_ix ix_list (pv 0) (pv 1) (fun _ _ => rfl))))
        pss_nil)
      (pss_one (ps_ret (pe_lst (pa_cons (pe_ix ix_list (pe_lst (pa_cons pe_int (pa_cons (pe_op op_modN (pv 2) (pe_op op_mulW (pe_op op_mulW (pe_op op_pow pe_int pe_int) (pe_op op_pow pe_int pe_int)) (pe_op op_pow pe_int pe_int))) pa_nil))) (pe_callTy call_int1 (by rfl) T.int_ (by decide +kernel) (pa_cons (pe_cmpR op_ge (pe_callB call_abs (by rfl) T.abs (by decide +kernel) (pa_cons (pv 2) pa_nil)) (pe_op op_pow pe_int pe_int) (nomark _)) pa_nil)) (fun _ _ => rfl)) (pa_cons (pe_op op_modN (pv 2) pe_int) (pa_cons (pe_op op_mul pe_int (pv 1)) pa_nil)))))))), ?_⟩
    -- behind the if: some cell
    have rest : ∀ cell : Int, tRet (tLst (tCons (tOp (rIxL K) (tLst (tCons (tC (.int 0)) (tCons (tOp (rI (fun _ j => j ≠ 0) fun i j => .int (i.fmod j)) (tVar 2) (tOp (rI CMulW fun i j => .int (i * j)) (tOp (rI CMulW fun i j => .int (i * j)) (tOp (rI CPow fun i j => .int (i ^ j.toNat)) (tC (.int 10)) (tC (.int 50))) (tOp (rI CPow fun i j => .int (i ^ j.toNat)) (tC (.int 10)) (tC (.int 50)))) (tOp (rI CPow fun i j => .int (i ^ j.toNat)) (tC (.int 10)) (tC (.int 50))))) tNil)))
        (tCB (fun xs H Q => (∃ i, xs = [.int i] ∧ Q (.int i) H) ∨ ∃ k, xs = [.bl k] ∧ Q (.int (if k then 1 else 0)) H) (tCons (tOp (rI0 fun i j => .bl (decide (j ≤ i))) (tCB (fun xs H Q => ∃ i, xs = [.int i] ∧ Q (.int (if i < 0 then -i else i)) H) (tCons (tVar 2) tNil)) (tOp (rI CPow fun i j => .int (i ^ j.toNat)) (tC (.int 10)) (tC (.int 18)))) tNil)))
        (tCons (tOp (rI (fun _ j => j ≠ 0) fun i j => .int (i.fmod j)) (tVar 2) (tC (.int 2147483647))) (tCons (tOp (rI CMul fun i j => .int (i * j)) (tC (.int 97)) (tVar 1)) tNil)))) { nx := fun _ H' => Q .non H', rt := Q } [some (.ref a), some (.int k), some (.int cell)] H := fun cell => by
      have p50 : CPow 10 50 := ⟨by decide, by decide, by decide⟩
      refine ⟨_, rfl, _, _, rfl, rfl, p50, _, _, rfl, rfl, p50, _, _, rfl, rfl, cmul (a := 256) (b := 256) (by decide +kernel) (by decide +kernel), _, _, rfl, rfl, p50, _, _, rfl, rfl, cmul (a := 512) (b := 256) (by decide +kernel) (by decide +kernel), _, _, rfl, rfl, (show ((10 : Int) ^ (50 : Int).toNat * 10 ^ (50 : Int).toNat * 10 ^ (50 : Int).toNat) ≠ 0 by decide +kernel), by show 2 ≤ sizeLine; decide, fun l nl => ?_⟩
      refine ⟨_, rfl, _, rfl, _, _, rfl, rfl, ⟨by decide, by decide, by decide⟩, _, _, rfl, rfl, .inr ⟨_, rfl, ?_⟩⟩
      have key : ∀ b : Bool, ∃ u : Int, atI [V.int 0, V.int (cell.fmod (10 ^ (50 : Int).toNat * 10 ^ (50 : Int).toNat * 10 ^ (50 : Int).toNat))] (if b then 1 else 0) = some (.int u) := fun b => by
        cases b
        · exact ⟨_, rfl⟩
        · exact ⟨_, rfl⟩
      obtain ⟨u, hu⟩ := key (decide ((10 : Int) ^ (18 : Int).toNat ≤ (if cell < 0 then -cell else cell)))
      refine ⟨l, _, _, .int u, rfl, rfl, .inl (.inl upd_same), hu, ?_⟩
      refine ⟨_, rfl, _, _, rfl, rfl, (show (2147483647 : Int) ≠ 0 by decide), _, rfl, _, _, rfl, rfl, .inl ⟨by decide, by decide⟩, by show 3 ≤ sizeLine; decide, fun p np => ?_⟩
      have s1 := same_upd (o := .lst [V.int 0, V.int (cell.fmod (10 ^ (50 : Int).toNat * 10 ^ (50 : Int).toNat * 10 ^ (50 : Int).toNat))]) nl
      refine q p _ (s1.trans (same_upd np)) (s1.free np) ⟨_, _, _, upd_same⟩
    refine ⟨_, rfl, _, rfl, a, _, rfl, .inl hS, _, _, rfl, rfl, _, rfl, ite2 (fun z => ?_) (fun z => ?_)⟩
    · have z1 : k < ((ns.map V.int).length : Int) := of_decide_eq_true z
      have z2 : k.toNat < ns.length := by
        rw [List.length_map] at z1
        omega
      have e : atI (ns.map V.int) k = some (.int ns[k.toNat]) := by
        refine at_of (j := k.toNat) (by omega) ?_
        rw [List.getElem?_map, List.getElem?_eq_getElem z2]
        rfl
      exact ⟨_, rfl, _, rfl, a, _, _, _, rfl, rfl, hS, e, rest _⟩
    · exact rest 0
end
section
variable {P : Program} {w : World} {K : PySem.W.Frag} {mg : Str → Option Value} {base : Heap}
theorem three {α : Type} {x y z : α} : atI [x, y, z] 0 = some x ∧ atI [x, y, z] 1 = some y ∧ atI [x, y, z] 2 = some z := ⟨rfl, rfl, rfl⟩
def spTake : Sp := fun vs H Q _ => ∃ (p : Addr) (m : Int), vs = [.ref p, .int m] ∧ 0 < m ∧ m.natAbs < 2 ^ 64 ∧ Pile H p ∧ ∀ (d : Int) (H' : Hp), 0 ≤ d → d < m → Kp p H H' → Pile H' p → Q (.int d) H'
abbrev s__law_take : Stmt := top 23
theorem sc__law_take : FnScope ["_law_pile_here", "_law_my_many", "_law_digit"] ["_law_pile_here", "_law_my_many"] (defScope s__law_take) := ⟨rfl, rfl, rfl, by decide +kernel, rfl, by decide +kernel, by decide +kernel⟩
theorem ok_take {f : Addr} {fd : FuncData} {k : Nat} (F : Fun K "_law_take" "_law_take" s__law_take f fd) (c__law_mixed : Cal P w K mg base 1 "_law_mixed" ["_law_cell", "_law_k"] spMix) : FnOk P w K mg base CX0 (k + 1 + 1) f fd ["_law_pile_here", "_law_my_many"] spTake := by
  refine F.ok sc__law_take (fun vs H Q E h => ?_) (fun cdv A outer s H vs Q E hr h => ?_)
  · obtain ⟨p, m, rfl, _⟩ := h
    rfl
  · obtain ⟨p, m, rfl, m0, m64, ⟨x, y, z, hp⟩, q⟩ := h
    have hr : Room 1 _ := hr.mono (Nat.le_add_left 1 k)
    refine ⟨_, (pss_cons (ps_if (pt_cmpR op_in_seq (pe_ix ix_list (pv 0) pe_int (fun _ _ => rfl)) (pe_lst (pa_cons pe_int (pa_cons (pe_un un_neg pe_int) pa_nil))) (by rfl))
        (pss_cons (ps_asg (pe_op op_add (pe_ix ix_list (pv 0) pe_int (fun _ _ => rfl)) pe_int) (pg_sub (pv 0) pe_int set_list))
          (pss_one (ps_ret (pe_op op_modN (pe_cal c__law_mixed hr (by rfl) (pa_cons (pe_ix ix_list (pv 0) pe_int (fun _ _ => rfl)) (pa_cons (pe_ix ix_list (pv 0) pe_int (fun _ _ => rfl)) pa_nil))) (pv 1)))))
        pss_nil)
      (pss_cons (ps_set (i := 2) sc__law_take.nd rfl (Or.inl rfl) (pe_op op_modN (pe_ix ix_list (pv 0) pe_int (fun _ _ => rfl)) (pv 1)))
      (pss_cons (ps_asg (pe_op op_fdivW (pe_ix ix_list (pv 0) pe_int (fun _ _ => rfl)) (pv 1)) (pg_sub (pv 0) pe_int set_list))
      (pss_one (ps_ret (pv 2)))))), ?_⟩
    refine ⟨_, rfl, p, _, _, _, rfl, rfl, .inl (.inl hp), three.1, _, rfl, by show 2 ≤ sizeLine; decide, fun l nl => ?_⟩
    have npl : p ≠ l := ne_of_none hp nl
    have s1 := same_upd (o := .lst [V.int 0, V.int (-1)]) nl
    have m0' : m ≠ 0 := by omega
    refine ⟨l, _, rfl, .inl (.inl (.inl upd_same)), rfl, rfl, _, rfl, ite2 (fun _ => ?_) (fun _ => ?_)⟩
    · refine ⟨_, rfl, p, _, _, _, rfl, rfl, .inl (.inl (s1 _ _ hp)), three.2.2, _, _, rfl, rfl, _, rfl, p, _, _, 2, rfl, rfl, s1 _ _ hp, rfl, ?_⟩
      refine ⟨_, rfl, p, _, _, _, rfl, rfl, .inl (.inl upd_same), three.2.1, _, rfl, p, _, _, _, rfl, rfl, .inl (.inl upd_same), three.2.2, _, _, rfl, fun d => ?_⟩
      refine ⟨_, rfl, _, _, rfl, rfl, m0', ?_⟩
      exact q _ _ (fm m0).1 (fm m0).2 (fun b o n e => by rw [upd_ne n]; exact s1 _ _ e) ⟨_, _, _, upd_same⟩
    · refine ⟨_, rfl, p, _, _, _, rfl, rfl, .inl (.inl (s1 _ _ hp)), three.1, _, rfl, _, _, rfl, rfl, m0', ?_⟩
      refine ⟨_, rfl, p, _, _, _, rfl, rfl, .inl (.inl (s1 _ _ hp)), three.1, _, rfl, _, _, rfl, rfl, cdiv m0 m64, _, rfl, p, _, _, 0, rfl, rfl, s1 _ _ hp, rfl, ?_⟩
      exact ⟨_, rfl, q _ _ (fm m0).1 (fm m0).2 (fun b o n e => by rw [upd_ne n]; exact s1 _ _ e) ⟨_, _, _, upd_same⟩⟩
theorem pile_ne {H H' : Hp} {p q : Addr} (h : Pile H p) (n : H q = none) : q ≠ p := by
  obtain ⟨x, y, z, e⟩ := h
  exact (ne_of_none e n).symm
theorem Pile.new {H : Hp} {p q : Addr} {o : HO} (h : Pile H p) (n : H q = none) : Pile (upd H q o) p := by
  obtain ⟨x, y, z, e⟩ := h
  exact ⟨x, y, z, by rw [upd_ne (ne_of_none e n)]; exact e⟩
end
section
variable {P : Program} {w : World} {K : PySem.W.Frag} {mg : Str → Option Value} {base : Heap} {c : Adr}
/-! ### which texts are choices -/
theorem ch0 : ∀ n : _root_.Fin 6, chM n.1 0 = genM n.1 := by decide +kernel
theorem gen_nd : ∀ n : _root_.Fin 6, (genM n.1).Nodup := by decide +kernel
theorem gen_two : ∀ n : _root_.Fin 6, (genM n.1).length = 2 ^ n.1 := by decide +kernel
def Sgn (t : Str) : Prop := ∀ x ∈ t.cps.toList, x = 48 ∨ x = 49
theorem app_list (a b : Str) : (a ++ b).cps.toList = a.cps.toList ++ b.cps.toList := by
  show (a.cps ++ b.cps).toList = _
  rw [Array.toList_append]
theorem len_list (t : Str) : t.length = t.cps.toList.length := by
  show t.cps.size = _
  rw [Array.length_toList]
theorem str_ext {a b : Str} (h : a.cps.toList = b.cps.toList) : a = b := by
  obtain ⟨⟨u⟩⟩ := a
  obtain ⟨⟨v⟩⟩ := b
  have e : u = v := h
  rw [e]
theorem mem_gen : ∀ (n : Nat) (t : Str), t ∈ genM n ↔ t.length = n ∧ Sgn t
  | 0, t => by
    constructor
    · intro h
      have e := List.mem_singleton.mp h
      subst e
      exact ⟨rfl, fun x hx => nomatch hx⟩
    · rintro ⟨h, _⟩
      refine List.mem_singleton.mpr (str_ext ?_)
      rw [len_list] at h
      exact List.eq_nil_of_length_eq_zero h
  | n + 1, t => by
    have ih := mem_gen n
    show t ∈ (genM n).flatMap (fun t => [t ++ s0, t ++ s1]) ↔ _
    rw [List.mem_flatMap]
    constructor
    · rintro ⟨u, hu, ht⟩
      obtain ⟨h1, h2⟩ := (ih u).mp hu
      rw [len_list] at h1
      simp only [List.mem_cons, List.not_mem_nil, or_false] at ht
      rcases ht with rfl | rfl
      · refine ⟨by rw [len_list, app_list, List.length_append, h1]; rfl, fun x hx => ?_⟩
        rw [app_list] at hx
        rcases List.mem_append.mp hx with z | z
        · exact h2 x z
        · exact .inl (List.mem_singleton.mp z)
      · refine ⟨by rw [len_list, app_list, List.length_append, h1]; rfl, fun x hx => ?_⟩
        rw [app_list] at hx
        rcases List.mem_append.mp hx with z | z
        · exact h2 x z
        · exact .inr (List.mem_singleton.mp z)
    · rintro ⟨h1, h2⟩
      rw [len_list] at h1
      have ne : t.cps.toList ≠ [] := fun e => by
        rw [e] at h1
        cases h1
      have e := List.dropLast_concat_getLast ne
      refine ⟨⟨t.cps.toList.dropLast.toArray⟩, (ih _).mpr ⟨?_, fun x hx => h2 x (List.dropLast_subset _ hx)⟩, ?_⟩
      · rw [len_list]
        show t.cps.toList.dropLast.length = n
        rw [List.length_dropLast, h1]
        rfl
      · have hl := h2 _ (List.getLast_mem ne)
        simp only [List.mem_cons, List.not_mem_nil, or_false]
        rcases hl with z | z
        · refine .inl (str_ext ?_)
          rw [app_list, ← e, z]
          simp [s0]
        · refine .inr (str_ext ?_)
          rw [app_list, ← e, z]
          simp [s1]
theorem flat_strs : ∀ xs : List Str, (xs.map V.str).all flatV = true
  | [] => rfl
  | _ :: xs => by
    show (true && (xs.map V.str).all flatV) = true
    rw [flat_strs xs]
    rfl
theorem inV_strs (t : Str) (xs : List Str) : inV (.str t) (xs.map V.str) = decide (t ∈ xs) := by
  unfold inV
  rw [Bool.eq_iff_iff]
  simp only [List.any_eq_true, decide_eq_true_eq, List.mem_map]
  constructor
  · rintro ⟨v, ⟨u, hu, rfl⟩, e⟩
    have e' : (u == t) = true := e
    rw [← eq_of_beq e']
    exact hu
  · intro h
    exact ⟨.str t, ⟨t, h, rfl⟩, by show (t == t) = true; exact beq_self_eq_true t⟩
/-- the place of t among xs -/
theorem first_at {xs : List Str} {j : Nat} {t : Str} (nd : xs.Nodup) (h : xs[j]? = some t) : ∀ (m : Nat) (z : V), m < j → (xs.map V.str)[m]? = some z → eqV z (.str t) = false := by
  intro m z hm e
  rw [List.getElem?_map] at e
  obtain ⟨u, hu, rfl⟩ := Option.map_eq_some_iff.mp e
  show (u == t) = false
  refine beq_eq_false_iff_ne.mpr fun z => ?_
  subst z
  have := nd_ix nd hu h
  omega
/-! ### choice_number, choice_at -/
def spNum (c : Adr) : Sp := fun vs H Q E => ∃ t : Str, vs = [.str t] ∧ t.length ≤ 1000 ∧ (∀ j H', 1 ≤ t.length → t.length ≤ 5 → (genM t.length)[j]? = some t → Same H H' → Q (.int (j : Nat)) H') ∧ (¬ (1 ≤ t.length ∧ t.length ≤ 5 ∧ Sgn t) → ∀ H', Same H H' → E (.ref c.NoChoice) none H')
abbrev s_choice_number : Stmt := top 18
theorem sc_choice_number : FnScope ["choice", "texts"] ["choice"] (defScope s_choice_number) := ⟨rfl, rfl, rfl, by decide +kernel, rfl, by decide +kernel, by decide +kernel⟩
theorem ok_num {f : Addr} {fd : FuncData} {k : Nat} (F : Fun K "choice_number" "choice_number" s_choice_number f fd) (T : Txt K mg c) (xC : PySem.W.excIn K c.NoChoice [.type "ValueError", .type "Exception", .type "BaseException", .type "object"] "ValueError.__new__" = true) (kC : PySem.W.keepIn K (.ref c.NoChoice) = true) (exC : PySem.W.subIn K (.ref c.NoChoice) (.type "BaseException") = some true) (tyC : PySem.W.typeIn K (.ref c.NoChoice) = some (.type "type"))
    (c_choices_1 : CalD P w K mg base 1 "choices" ["many", "least"] spCh [.int 0]) : FnOk P w K mg base (L2.CX P w) (k + 1 + 1) f fd ["choice"] (spNum c) := by
  refine F.okX sc_choice_number (fun vs H Q E h => ?_) (fun cdv A outer s H vs Q E hr h => ?_)
  · obtain ⟨t, rfl, _⟩ := h
    rfl
  · obtain ⟨t, rfl, hl, q, qE⟩ := h
    have hr : Room 1 _ := hr.mono (Nat.le_add_left 1 k)
    obtain ⟨tkM, hmost⟩ := T.most
    have hl' : t.length ≤ sizeLine := Nat.le_trans hl (by decide)
    refine ⟨_, (pss_cons (ps_if (pt_not (pt_chain op_le op_le pe_int (pe_callB call_len_str (by rfl) T.len (by decide +kernel) (pa_cons (pv 0) pa_nil)) (pe_glob (v := .int 5) (by rfl) hmost ⟨_, rfl⟩)))
        (pss_one (ps_raise rfl (takes_of rfl rfl rfl rfl) (L2.pmk_own PySem.F.excBase_ValueError xC T.g_NoChoice kC (raises_own exC tyC) rfl)))
        pss_nil)
      (pss_cons (ps_set (i := 1) sc_choice_number.nd rfl (Or.inl rfl) (pe_calD c_choices_1 hr (by rfl) (pa_cons (pe_callB call_len_str (by rfl) T.len (by decide +kernel) (pa_cons (pv 0) pa_nil)) pa_nil)))
      (pss_cons (ps_if (pt_cmpR op_notIn_seq (pv 0) (pv 1) (by rfl))
        (pss_one (ps_raise rfl (takes_of rfl rfl rfl rfl) (L2.pmk_own PySem.F.excBase_ValueError xC T.g_NoChoice kC (raises_own exC tyC) rfl)))
        pss_nil)
      (pss_one (ps_ret (pe_bm PySem.F.plainAttrs_list PySem.F.slot_list_index PySem.F.type_list_index mt_index (pv 1) (pa_cons (pv 0) pa_nil))))))), ?_⟩
    have refuse : ∀ H', Same H H' → ¬ (1 ≤ t.length ∧ t.length ≤ 5 ∧ Sgn t) → E (.ref c.NoChoice) none H' := fun H' s z => qE z H' s
    refine ⟨_, rfl, t, rfl, hl', _, _, rfl, rfl, _, rfl, ite2 (fun z1 => ?_) (fun z1 => ?_)⟩
    · have l1 : (1 : Int) ≤ (t.length : Nat) := of_decide_eq_true z1
      refine ⟨_, _, rfl, rfl, _, rfl, ?_⟩
      by_cases l5 : ((t.length : Nat) : Int) ≤ 5
      · rw [decide_eq_true l5]
        refine iteF ?_
        have e5 : t.length ≤ 5 := by omega
        refine ⟨_, rfl, t, rfl, hl', _, 0, rfl, by omega, by omega, fun p H1 s1 np hp => ?_⟩
        have ec : chM ((t.length : Nat) : Int).toNat 0 = genM t.length := ch0 ⟨t.length, by omega⟩
        rw [ec] at hp
        refine ⟨_, rfl, _, rfl, p, _, rfl, .inl (.inl (.inl hp)), rfl, flat_strs _, _, rfl, ?_⟩
        rw [inV_strs]
        by_cases hm : t ∈ genM t.length
        · rw [decide_eq_true hm]
          refine iteF ?_
          obtain ⟨j, hj⟩ := List.getElem?_of_mem hm
          refine ⟨_, rfl, .inl ⟨rfl, _, .inl (.inl hp)⟩, _, rfl, p, _, _, j, .str t, rfl, rfl, .inl (.inl hp), rfl, flat_strs _, ?_, ?_, first_at (gen_nd ⟨t.length, by omega⟩) hj, q j H1 (by omega) e5 hj s1⟩
          · rw [List.getElem?_map, hj]
            rfl
          · show (t == t) = true
            exact beq_self_eq_true t
        · rw [decide_eq_false hm]
          refine iteT (refuse H1 s1 fun z => hm ((mem_gen _ t).mpr ⟨rfl, z.2.2⟩))
      · rw [decide_eq_false l5]
        exact iteT (refuse H (Same.refl H) fun z => l5 (by omega))
    · refine ⟨_, rfl, iteT (refuse H (Same.refl H) fun z => z1 (decide_eq_true (by omega)))⟩
def spAt (c : Adr) : Sp := fun vs H Q E => ∃ i m : Int, vs = [.int i, .int m] ∧ 1 ≤ m ∧ m ≤ 5 ∧ (∀ t H', 0 ≤ i → (genM m.toNat)[i.toNat]? = some t → Same H H' → Q (.str t) H') ∧ (¬ (0 ≤ i ∧ i < ((genM m.toNat).length : Nat)) → ∀ H', Same H H' → E (.ref c.NoChoice) none H')
abbrev s_choice_at : Stmt := top 19
theorem sc_choice_at : FnScope ["number", "many", "texts"] ["number", "many"] (defScope s_choice_at) := ⟨rfl, rfl, rfl, by decide +kernel, rfl, by decide +kernel, by decide +kernel⟩
theorem ok_at {f : Addr} {fd : FuncData} {k : Nat} (F : Fun K "choice_at" "choice_at" s_choice_at f fd) (T : Txt K mg c) (xC : PySem.W.excIn K c.NoChoice [.type "ValueError", .type "Exception", .type "BaseException", .type "object"] "ValueError.__new__" = true) (kC : PySem.W.keepIn K (.ref c.NoChoice) = true) (exC : PySem.W.subIn K (.ref c.NoChoice) (.type "BaseException") = some true) (tyC : PySem.W.typeIn K (.ref c.NoChoice) = some (.type "type"))
    (c_choices_1 : CalD P w K mg base 1 "choices" ["many", "least"] spCh [.int 0]) : FnOk P w K mg base (L2.CX P w) (k + 1 + 1) f fd ["number", "many"] (spAt c) := by
  refine F.okX sc_choice_at (fun vs H Q E h => ?_) (fun cdv A outer s H vs Q E hr h => ?_)
  · obtain ⟨i, m, rfl, _⟩ := h
    rfl
  · obtain ⟨i, m, rfl, m1, m5, q, qE⟩ := h
    have hr : Room 1 _ := hr.mono (Nat.le_add_left 1 k)
    refine ⟨_, (pss_cons (ps_set (i := 2) sc_choice_at.nd rfl (Or.inl rfl) (pe_calD c_choices_1 hr (by rfl) (pa_cons (pv 1) pa_nil)))
      (pss_cons (ps_if (pt_not (pt_chain op_le op_lt pe_int (pv 0) (pe_callB call_len_seq (by rfl) T.len (by decide +kernel) (pa_cons (pv 2) pa_nil))))
        (pss_one (ps_raise rfl (takes_of rfl rfl rfl rfl) (L2.pmk_own PySem.F.excBase_ValueError xC T.g_NoChoice kC (raises_own exC tyC) rfl)))
        pss_nil)
      (pss_one (ps_ret (pe_ix ix_list (pv 2) (pv 0) (fun _ _ => rfl)))))), ?_⟩
    refine ⟨_, rfl, m, 0, rfl, by omega, m5, fun p H1 s1 np hp => ?_⟩
    have ec : chM m.toNat 0 = genM m.toNat := ch0 ⟨m.toNat, by omega⟩
    rw [ec] at hp
    have hlen : ((genM m.toNat).map V.str).length = (genM m.toNat).length := List.length_map ..
    refine ⟨_, rfl, _, _, rfl, rfl, _, rfl, ite2 (fun z1 => ?_) (fun z1 => ?_)⟩
    · have i0 : 0 ≤ i := of_decide_eq_true z1
      refine ⟨_, rfl, p, _, rfl, .inl (.inl (.inl hp)), _, _, rfl, rfl, _, rfl, ?_⟩
      by_cases il : i < (((genM m.toNat).map V.str).length : Nat)
      · rw [decide_eq_true il]
        refine iteF ?_
        rw [hlen] at il
        have hi : i.toNat < (genM m.toNat).length := by omega
        have ht := List.getElem?_eq_getElem hi
        refine ⟨_, rfl, _, rfl, p, _, _, .str (genM m.toNat)[i.toNat], rfl, rfl, .inl (.inl hp), at_of (j := i.toNat) (by omega) (by rw [List.getElem?_map, ht]; rfl), q _ H1 i0 ht s1⟩
      · rw [decide_eq_false il]
        rw [hlen] at il
        exact iteT (qE (fun z => il z.2) H1 s1)
    · exact ⟨_, rfl, iteT (qE (fun z => z1 (decide_eq_true z.1)) H1 s1)⟩
/-! ### _law_choices -/
def spLc : Sp := fun vs H Q _ => ∃ m : Int, vs = [.int m] ∧ 0 ≤ m ∧ m ≤ 5 ∧ ∀ p H', Same H H' → H p = none → Strs H' p (genM m.toNat) → Q (.ref p) H'
abbrev s__law_choices : Stmt := top 25
theorem sc__law_choices : FnScope ["_law_my_many", "_law_found", "_law_turn", "_law_more", "_law_text_here"] ["_law_my_many"] (defScope s__law_choices) := ⟨rfl, rfl, rfl, by decide +kernel, rfl, by decide +kernel, by decide +kernel⟩
theorem ok_lc {f : Addr} {fd : FuncData} {k : Nat} (F : Fun K "_law_choices" "_law_choices" s__law_choices f fd) (T : Txt K mg c) : FnOk P w K mg base CX0 (k + 1) f fd ["_law_my_many"] spLc := by
  refine F.ok sc__law_choices (fun vs H Q E h => ?_) (fun cdv A outer s H vs Q E hr h => ?_)
  · obtain ⟨m, rfl, _⟩ := h
    rfl
  · obtain ⟨m, rfl, m0, m5, q⟩ := h
    refine ⟨_, (pss_cons (ps_set (i := 1) sc__law_choices.nd rfl (Or.inl rfl) (pe_lst (pa_cons pe_str pa_nil)))
      (pss_cons (ps_for PassesOwn.never rfl (pi_range1 (by rfl) T.range (pa_cons (pv 0) pa_nil)) (pg_name (i := 2) sc__law_choices.nd rfl (Or.inl rfl))
        (pss_cons (ps_set (i := 3) sc__law_choices.nd rfl (Or.inl rfl) (pe_lst pa_nil))
          (pss_cons (ps_for PassesOwn.never rfl (pi_list (pv 1)) (pg_name (i := 4) sc__law_choices.nd rfl (Or.inl rfl))
            (pss_one (ps_set (i := 3) sc__law_choices.nd rfl (Or.inl rfl) (pe_op op_cat (pv 3) (pe_lst (pa_cons (pe_op op_add_str (pv 4) pe_str) (pa_cons (pe_op op_add_str (pv 4) pe_str) pa_nil)))))))
          (pss_one (ps_set (i := 1) sc__law_choices.nd rfl (Or.inl rfl) (pv 3))))))
      (pss_one (ps_ret (pv 1))))), ?_⟩
    refine ⟨by show 1 ≤ sizeLine; decide, fun a na => ?_⟩
    refine ⟨_, rfl, m, rfl, by omega, by omega, for_range (lo := 0) (n := m.toNat) (fun i σ H' => Same H H' ∧ ∃ (b : Addr) (v2 v3 v4 : Option V), σ = [some (.int m), some (.ref b), v2, v3, v4] ∧ H b = none ∧ Strs H' b (genM i)) ⟨same_upd na, a, none, none, none, rfl, na, upd_same⟩ ?_ ?_⟩
    · rintro i σ H1 hi ⟨sm, b, v2, v3, v4, rfl, nb, hb⟩
      have gl := gen_len ⟨i, by omega⟩
      have gl2 : (genM i).length ≤ 32 := gl.2
      have gl5 : ∀ t ∈ genM i, t.length ≤ 5 := fun t ht => of_decide_eq_true (List.all_eq_true.mp gl.1 t ht)
      refine ⟨by show 0 ≤ sizeLine; decide, fun r nr => ?_⟩
      have s2 := same_upd (o := .lst []) nr
      refine ⟨_, rfl, b, rfl, ⟨_, .inl (.inl (s2 _ _ hb))⟩, for_list (K := K) (a := b) (xs := (genM i).map V.str) (fun j σ H' => Same H1 H' ∧ ∃ (r : Addr) (v4 : Option V), σ = [some (.int m), some (.ref b), some (.int (0 + ↑i)), some (.ref r), v4] ∧ H1 r = none ∧ Strs H' r (stepM ((genM i).take j)))
        ⟨s2, r, v4, rfl, nr, upd_same⟩ (fun j σ H' _ ⟨s', _⟩ => .inl (.inl (s' _ _ hb))) ?_ ?_⟩
      · rintro j x σ H2 hj ⟨s3, r, v4, rfl, nr, hr2⟩
        rw [List.getElem?_map] at hj
        obtain ⟨t, ht, rfl⟩ := Option.map_eq_some_iff.mp hj
        have t5 := gl5 t (List.mem_of_getElem? ht)
        have z1 : ("0" : Str).length = 1 := by decide +kernel
        have z2 : ("1" : Str).length = 1 := by decide +kernel
        have e0 : ("0" : Str) = s0 := by decide +kernel
        have e1 : ("1" : Str) = s1 := by decide +kernel
        have sz6 : t.length + 1 ≤ sizeLine := Nat.le_trans (show t.length + 1 ≤ 6 by omega) (by decide)
        have el : ∀ xs : List Str, (stepM xs).length = 2 * xs.length := fun xs => by
          induction xs with
          | nil => rfl
          | cons y r ih =>
            show ([y ++ s0, y ++ s1] ++ stepM r).length = _
            rw [List.length_append, ih]
            show 2 + 2 * r.length = 2 * (r.length + 1)
            omega
        refine ⟨_, rfl, _, rfl, _, _, rfl, rfl, by rw [z1]; exact sz6, _, rfl, _, _, rfl, rfl, by rw [z2]; exact sz6, by show 2 ≤ sizeLine; decide, fun l nl => ?_⟩
        have s4 := same_upd (o := .lst [V.str (t ++ "0"), .str (t ++ "1")]) nl
        refine ⟨r, l, _, _, rfl, rfl, s4 _ _ hr2, upd_same, ?_, fun r2 nr2 => ?_⟩
        · rw [List.length_map, el, List.length_take]
          exact Nat.le_trans (show _ ≤ 100 by show 2 * min j (genM i).length + 2 ≤ 100; omega) (by decide)
        · refine ⟨s3.trans (s4.trans (same_upd nr2)), r2, _, rfl, (s3.trans s4).free nr2, ?_⟩
          show upd _ r2 _ r2 = _
          have es : stepM ((genM i).take (j + 1)) = stepM ((genM i).take j) ++ [t ++ s0, t ++ s1] := by
            unfold stepM
            rw [List.take_add_one, ht, List.flatMap_append]
            simp
          rw [upd_same, es, List.map_append, e0, e1]
          rfl
      · rintro σ H2 ⟨s3, r, v4, rfl, nr, hr2⟩
        rw [List.length_map, List.take_length] at hr2
        exact ⟨_, rfl, sm.trans s3, r, _, _, _, rfl, sm.free nr, hr2⟩
    · rintro σ H1 ⟨sm, b, v2, v3, v4, rfl, nb, hb⟩
      exact ⟨_, rfl, q b H1 sm nb hb⟩
end
section
variable {P : Program} {w : World} {K : PySem.W.Frag} {mg : Str → Option Value} {base : Heap} {c : Adr}
theorem sz2 : 2 ≤ sizeLine := by decide
/-! ### _law_kind of a NoChoice -/
def bCh : Nat → Bool := fun i => i == 4
def spKind (K : PySem.W.Frag) (c : Adr) : Sp := fun vs H Q _ => ∃ a : Addr, vs = [.ref a] ∧ H a = some (exv a (.ref c.NoChoice) none) ∧ ∀ p H', Same H H' → H p = none → H' p = some (.lst [.str "choice"]) → Q (.ref p) H'
abbrev s__law_kind : Stmt := top 24
theorem sc__law_kind : FnScope ["_law_error", "_law_found", "_law_plain", "_law_words", "_law_word", "_law_truth"] ["_law_error"] (defScope s__law_kind) := ⟨rfl, rfl, rfl, by decide +kernel, rfl, by decide +kernel, by decide +kernel⟩
theorem ok_kind {f : Addr} {fd : FuncData} {k : Nat} (F : Fun K "_law_kind" "_law_kind" s__law_kind f fd) (T : Txt K mg c) (N : KindOf K c c.NoChoice bCh) : FnOk P w K mg base CX0 (k + 1) f fd ["_law_error"] (spKind K c) := by
  refine F.ok sc__law_kind (fun vs H Q E h => ?_) (fun cdv A outer s H vs Q E hr h => ?_)
  · obtain ⟨a, rfl, _⟩ := h
    rfl
  · obtain ⟨a, rfl, ha, q⟩ := h
    refine ⟨_, (pss_cons (ps_set (i := 1) sc__law_kind.nd rfl (Or.inl rfl) (pe_lst pa_nil))
      (pss_cons (ps_if (pt_val (pe_callB (id := "isinstance") (r := rIsX K) call_isX (by rfl) T.isinstance (by decide +kernel) (pa_cons (pv 0) (pa_cons (pe_glob (v := .ref c.NoNumber) (by rfl) T.g_NoNumber rfl) pa_nil))))
        (pss_one (ps_set (i := 1) sc__law_kind.nd rfl (Or.inl rfl) (pe_op op_cat (pv 1) (pe_lst (pa_cons pe_str (pa_cons (pe_xv (pv 0)) pa_nil))))))
        pss_nil)
      (pss_cons (ps_if (pt_val (pe_callB (id := "isinstance") (r := rIsX K) call_isX (by rfl) T.isinstance (by decide +kernel) (pa_cons (pv 0) (pa_cons (pe_glob (v := .ref c.NoTable) (by rfl) T.g_NoTable rfl) pa_nil))))
        (pss_one (ps_set (i := 1) sc__law_kind.nd rfl (Or.inl rfl) (pe_op op_cat (pv 1) (pe_lst (pa_cons pe_str (pa_cons (pe_xv (pv 0)) pa_nil))))))
        pss_nil)
      (pss_cons (ps_if (pt_val (pe_callB (id := "isinstance") (r := rIsX K) call_isX (by rfl) T.isinstance (by decide +kernel) (pa_cons (pv 0) (pa_cons (pe_glob (v := .ref c.Flat) (by rfl) T.g_Flat rfl) pa_nil))))
        (pss_one (ps_set (i := 1) sc__law_kind.nd rfl (Or.inl rfl) (pe_op op_cat (pv 1) (pe_lst (pa_cons pe_str (pa_cons (pe_xv (pv 0)) pa_nil))))))
        pss_nil)
      (pss_cons (ps_if (pt_val (pe_callB (id := "isinstance") (r := rIsX K) call_isX (by rfl) T.isinstance (by decide +kernel) (pa_cons (pv 0) (pa_cons (pe_glob (v := .ref c.Lifted) (by rfl) T.g_Lifted rfl) pa_nil))))
        (pss_one (ps_set (i := 1) sc__law_kind.nd rfl (Or.inl rfl) (pe_op op_cat (pv 1) (pe_lst (pa_cons pe_str (pa_cons (pe_xv (pv 0)) (pa_cons (pe_xv (pv 0)) pa_nil)))))))
        pss_nil)
      (pss_cons (ps_if (pt_val (pe_callB (id := "isinstance") (r := rIsX K) call_isX (by rfl) T.isinstance (by decide +kernel) (pa_cons (pv 0) (pa_cons (pe_glob (v := .ref c.Dipped) (by rfl) T.g_Dipped rfl) pa_nil))))
        (pss_one (ps_set (i := 1) sc__law_kind.nd rfl (Or.inl rfl) (pe_op op_cat (pv 1) (pe_lst (pa_cons pe_str (pa_cons (pe_xv (pv 0)) pa_nil))))))
        pss_nil)
      (pss_cons (ps_if (pt_val (pe_callB (id := "isinstance") (r := rIsX K) call_isX (by rfl) T.isinstance (by decide +kernel) (pa_cons (pv 0) (pa_cons (pe_glob (v := .ref c.NotOne) (by rfl) T.g_NotOne rfl) pa_nil))))
        (pss_one (ps_set (i := 1) sc__law_kind.nd rfl (Or.inl rfl) (pe_op op_cat (pv 1) (pe_lst (pa_cons pe_str (pa_cons (pe_xv (pv 0)) pa_nil))))))
        pss_nil)
      (pss_cons (ps_if (pt_val (pe_callB (id := "isinstance") (r := rIsX K) call_isX (by rfl) T.isinstance (by decide +kernel) (pa_cons (pv 0) (pa_cons (pe_glob (v := .ref c.NoName) (by rfl) T.g_NoName rfl) pa_nil))))
        (pss_one (ps_set (i := 1) sc__law_kind.nd rfl (Or.inl rfl) (pe_op op_cat (pv 1) (pe_lst (pa_cons pe_str (pa_cons (pe_xv (pv 0)) pa_nil))))))
        pss_nil)
      (pss_cons (ps_set (i := 2) sc__law_kind.nd rfl (Or.inl rfl) (pe_lst (pa_cons (pe_callB (id := "isinstance") (r := rIsX K) call_isX (by rfl) T.isinstance (by decide +kernel) (pa_cons (pv 0) (pa_cons (pe_glob (v := .ref c.NoRow) (by rfl) T.g_NoRow rfl) pa_nil))) (pa_cons (pe_callB (id := "isinstance") (r := rIsX K) call_isX (by rfl) T.isinstance (by decide +kernel) (pa_cons (pv 0) (pa_cons (pe_glob (v := .ref c.NoChoice) (by rfl) T.g_NoChoice rfl) pa_nil))) (pa_cons (pe_callB (id := "isinstance") (r := rIsX K) call_isX (by rfl) T.isinstance (by decide +kernel) (pa_cons (pv 0) (pa_cons (pe_glob (v := .ref c.NoSaying) (by rfl) T.g_NoSaying rfl) pa_nil))) pa_nil)))))
      (pss_cons (ps_set (i := 2) sc__law_kind.nd rfl (Or.inl rfl) (pe_op op_cat (pv 2) (pe_lst (pa_cons (pe_callB (id := "isinstance") (r := rIsX K) call_isX (by rfl) T.isinstance (by decide +kernel) (pa_cons (pv 0) (pa_cons (pe_glob (v := .ref c.NoCover) (by rfl) T.g_NoCover rfl) pa_nil))) (pa_cons (pe_callB (id := "isinstance") (r := rIsX K) call_isX (by rfl) T.isinstance (by decide +kernel) (pa_cons (pv 0) (pa_cons (pe_glob (v := .ref c.NoText) (by rfl) T.g_NoText rfl) pa_nil))) (pa_cons (pe_callB (id := "isinstance") (r := rIsX K) call_isX (by rfl) T.isinstance (by decide +kernel) (pa_cons (pv 0) (pa_cons (pe_glob (v := .ref c.NoLine) (by rfl) T.g_NoLine rfl) pa_nil))) pa_nil))))))
      (pss_cons (ps_set (i := 3) sc__law_kind.nd rfl (Or.inl rfl) (pe_lst (pa_cons pe_str (pa_cons pe_str (pa_cons pe_str (pa_cons pe_str (pa_cons pe_str (pa_cons pe_str pa_nil))))))))
      (pss_cons (ps_set (i := 1) sc__law_kind.nd rfl (Or.inl rfl) (pe_op op_cat (pv 1) (pe_lc (own := [("_law_word", 4), ("_law_truth", 5)]) (g := gTup K 2 (gCons (gName 4) (gCons (gName 5) gNil))) (by rfl) sc__law_kind.nd (pi_zip (by rfl) T.zip (pa_cons (pv 3) (pa_cons (pv 2) pa_nil))) (blkOk_by (own := [("_law_word", 4), ("_law_truth", 5)]) (N := ["_law_error", "_law_found", "_law_plain", "_law_words", "_law_word", "_law_truth"]) (sc := defScope s__law_kind) (by decide +kernel)) (fun _ _ _ _ _ => (pg_tup rfl (pgs_cons (pg_name (i := 4) sc__law_kind.nd rfl (Or.inl rfl)) (pgs_cons (pg_name (i := 5) sc__law_kind.nd rfl (Or.inl rfl)) pgs_nil)))) (fun _ _ _ _ _ => (pts_one (pt_val (pv 5)))) (fun _ _ _ _ _ => (pv 4)))))
      (pss_cons (ps_if (PW.pt (pw_and (pt_cmpR op_notN (pv 0) pe_non (nomark _)) (pw_and1 (PW.pt (pw_or (pt_not (pt_val (pe_callB (id := "isinstance") (r := rIsX K) call_isX (by rfl) T.isinstance (by decide +kernel) (pa_cons (pv 0) (pa_cons (pe_glob (v := .ref c.SlackError) (by rfl) T.g_SlackError rfl) pa_nil))))) (pw_or1 (pt_not (pt_val (pe_callB (id := "isinstance") (r := rIsX K) call_isX (by rfl) T.isinstance (by decide +kernel) (pa_cons (pv 0) (pa_cons (pe_bltn (v := .ty "ValueError") (by rfl) T.ValueError_ (by decide +kernel) rfl) pa_nil)))))))))))
        (pss_one (ps_expr (pe_bm PySem.F.plainAttrs_list PySem.F.slot_list_append PySem.F.type_list_append mt_append (pv 1) (pa_cons pe_str pa_nil))))
        pss_nil)
      (pss_one (ps_ret (pv 1)))))))))))))))), ?_⟩
    have hd : ∀ {G : Hp} (e : Addr), none = some e → ∃ fs, G e = some (.xd fs) := fun e z => nomatch z
    refine ⟨by show 0 ≤ sizeLine; decide, fun f1 n1 => ?_⟩
    have s2 := same_upd (o := .lst []) n1
    have hf1 := upd_same (H := H) (a := f1) (o := .lst [])
    generalize upd H f1 (.lst []) = G at s2 hf1 ⊢
    have hx := s2 _ _ ha
    refine ⟨_, rfl, a, c.NoChoice, none, none, _, _, false, rfl, hx, hd, N.ec, .own _, N.q1, _, rfl, iteF ?_⟩
    refine ⟨_, rfl, a, c.NoChoice, none, none, _, _, false, rfl, hx, hd, N.ec, .own _, N.q2, _, rfl, iteF ?_⟩
    refine ⟨_, rfl, a, c.NoChoice, none, none, _, _, false, rfl, hx, hd, N.ec, .own _, N.q5, _, rfl, iteF ?_⟩
    refine ⟨_, rfl, a, c.NoChoice, none, none, _, _, false, rfl, hx, hd, N.ec, .own _, N.q7, _, rfl, iteF ?_⟩
    refine ⟨_, rfl, a, c.NoChoice, none, none, _, _, false, rfl, hx, hd, N.ec, .own _, N.q9, _, rfl, iteF ?_⟩
    refine ⟨_, rfl, a, c.NoChoice, none, none, _, _, false, rfl, hx, hd, N.ec, .own _, N.q10, _, rfl, iteF ?_⟩
    refine ⟨_, rfl, a, c.NoChoice, none, none, _, _, false, rfl, hx, hd, N.ec, .own _, N.q13, _, rfl, iteF ?_⟩
    -- plain
    refine ⟨_, rfl, a, c.NoChoice, none, none, _, _, false, rfl, hx, hd, N.ec, .own _, N.q3, ?_⟩
    refine ⟨_, rfl, a, c.NoChoice, none, none, _, _, true, rfl, hx, hd, N.ec, .own _, N.q4, ?_⟩
    refine ⟨_, rfl, a, c.NoChoice, none, none, _, _, false, rfl, hx, hd, N.ec, .own _, N.q6, ?_⟩
    refine ⟨by show 3 ≤ sizeLine; decide, fun p1 m2 => ?_⟩
    have s3 := s2.trans (same_upd (o := .lst [.bl false, .bl true, .bl false]) m2)
    have hx3 := s3 _ _ ha
    refine ⟨_, rfl, ?_⟩
    refine ⟨_, rfl, a, c.NoChoice, none, none, _, _, false, rfl, hx3, hd, N.ec, .own _, N.q8, ?_⟩
    refine ⟨_, rfl, a, c.NoChoice, none, none, _, _, false, rfl, hx3, hd, N.ec, .own _, N.q11, ?_⟩
    refine ⟨_, rfl, a, c.NoChoice, none, none, _, _, false, rfl, hx3, hd, N.ec, .own _, N.q12, ?_⟩
    refine ⟨by show 3 ≤ sizeLine; decide, fun p2 m3 => ?_⟩
    have np12 : p1 ≠ p2 := ne_of_none upd_same m3
    refine ⟨p1, p2, _, _, rfl, rfl, Eq.trans (upd_ne np12) upd_same, upd_same, by show 6 ≤ sizeLine; decide, fun p3 m4 => ?_⟩
    have k5 : Same G (upd (upd (upd G p1 (.lst [.bl false, .bl true, .bl false])) p2 (.lst [.bl false, .bl false, .bl false])) p3 (.lst ([.bl false, .bl true, .bl false] ++ [.bl false, .bl false, .bl false]))) := ((same_upd m2).trans (same_upd m3)).trans (same_upd m4)
    have hp3 := upd_same (H := upd (upd G p1 (.lst [.bl false, .bl true, .bl false])) p2 (.lst [.bl false, .bl false, .bl false])) (a := p3) (o := .lst ([.bl false, .bl true, .bl false] ++ [.bl false, .bl false, .bl false]))
    show tSeq _ _ _ _ (upd (upd (upd G p1 (.lst [.bl false, .bl true, .bl false])) p2 (.lst [.bl false, .bl false, .bl false])) p3 (.lst ([.bl false, .bl true, .bl false] ++ [.bl false, .bl false, .bl false])))
    generalize upd (upd (upd G p1 (.lst [.bl false, .bl true, .bl false])) p2 (.lst [.bl false, .bl false, .bl false])) p3 (.lst ([.bl false, .bl true, .bl false] ++ [.bl false, .bl false, .bl false])) = G2 at k5 hp3 ⊢
    -- words
    refine ⟨by show 6 ≤ sizeLine; decide, fun wd m5 => ?_⟩
    have s6 := same_upd (o := .lst [V.str "no row", .str "choice", .str "saying", .str "cover", .str "text", .str "line"]) m5
    have hw := upd_same (H := G2) (a := wd) (o := .lst [V.str "no row", .str "choice", .str "saying", .str "cover", .str "text", .str "line"])
    generalize hG3 : upd G2 wd (.lst [V.str "no row", .str "choice", .str "saying", .str "cover", .str "text", .str "line"]) = G3 at s6 hw ⊢
    have hp3' := s6 _ _ hp3
    refine ⟨_, rfl, _, rfl, _, rfl, wd, p3, _, _, rfl, .inl (.inl hw), .inl (.inl hp3'), fun D nD => ?_⟩
    refine lc_it (walk_zip (K := K) (a := wd) (b := p3) (n := 6) rfl) (fun j H' => Same G3 H' ∧ H' D = some (.lst (if j ≤ 1 then [] else [.str "choice"]))) ⟨same_upd nD, upd_same⟩ (fun j H' _ ⟨s', _⟩ => ⟨.inl (.inl (s' _ _ hw)), .inl (.inl (s' _ _ hp3'))⟩) ?_ ?_
    · rintro j x G4 G4' hj ⟨s7, hD⟩ ⟨Tp, x1, y1, rfl, nT, rfl, e1, e2⟩
      have nDT : D ≠ Tp := ne_of_none hD nT
      have s8 := s7.trans (same_upd (o := .tup [x1, y1]) nT)
      by_cases j1 : j = 1
      · subst j1
        have hx1 : x1 = .str "choice" := (Option.some.inj e1).symm
        have hy : y1 = .bl true := (Option.some.inj e2).symm
        subst hx1 hy
        refine ⟨Tp, _, rfl, .inl (.inl upd_same), rfl, _, _, rfl, _, _, rfl, rfl, rfl, ?_⟩
        refine ⟨_, rfl, _, rfl, iteT ⟨_, rfl, _, Eq.trans (upd_ne nDT) hD, by show 0 < sizeLine; decide, ?_, upd_same⟩⟩
        exact same_mut s8 nD
      · have hy : y1 = .bl false := by
          rcases (show j = 0 ∨ j = 2 ∨ j = 3 ∨ j = 4 ∨ j = 5 by omega) with rfl | rfl | rfl | rfl | rfl <;> exact (Option.some.inj e2).symm
        subst hy
        refine ⟨Tp, _, rfl, .inl (.inl upd_same), rfl, _, _, rfl, _, _, rfl, rfl, rfl, ?_⟩
        refine ⟨_, rfl, _, rfl, iteF ⟨s8, ?_⟩⟩
        rw [upd_ne nDT, hD]
        by_cases j0 : j = 0
        · subst j0
          rfl
        · rw [if_neg (by omega), if_neg (by omega)]
    · rintro G4 ⟨s7, hD⟩
      have t4 : Same H G4 := ((s2.trans k5).trans s6).trans s7
      have hf4 : G4 f1 = some (.lst []) := s7 _ _ (s6 _ _ (k5 _ _ hf1))
      refine ⟨f1, D, _, _, rfl, rfl, hf4, hD, by show 1 ≤ sizeLine; decide, fun f2 n2 => ?_⟩
      have t5 := t4.trans (same_upd (o := .lst ([] ++ [V.str "choice"])) n2)
      have hx5 := t5 _ _ ha
      refine ⟨_, rfl, rfl, _, rfl, iteT ?_⟩
      refine ⟨_, rfl, a, c.NoChoice, none, none, _, _, true, rfl, hx5, hd, N.ec, .own _, N.sl, _, rfl, iteF ?_⟩
      refine ⟨_, rfl, a, c.NoChoice, none, none, _, _, true, rfl, hx5, hd, N.ec, .ty _, N.ve, _, rfl, iteF ?_⟩
      exact ⟨_, rfl, q f2 _ t5 (t4.free n2) upd_same⟩
/-! ### _law_caught -/
/-- what the law asks: the place, or the refusal's word -/
def spCaught (c : Adr) : Sp := fun vs H Q _ => ∃ (x : V) (i m : Int), vs = [x, .int i, .int m] ∧
  ((∃ t : Str, x = .str t ∧ t.length ≤ 1000 ∧ (∀ j H', 1 ≤ t.length → t.length ≤ 5 → (genM t.length)[j]? = some t → Same H H' → Q (.int (j : Nat)) H') ∧ (¬ (1 ≤ t.length ∧ t.length ≤ 5 ∧ Sgn t) → ∀ p H', Same H H' → H p = none → H' p = some (.lst [.str "choice"]) → Q (.ref p) H')) ∨
   (x = .non ∧ 1 ≤ m ∧ m ≤ 5 ∧ (∀ t H', 0 ≤ i → (genM m.toNat)[i.toNat]? = some t → Same H H' → Q (.str t) H') ∧ (¬ (0 ≤ i ∧ i < ((genM m.toNat).length : Nat)) → ∀ p H', Same H H' → H p = none → H' p = some (.lst [.str "choice"]) → Q (.ref p) H')))
abbrev s__law_caught : Stmt := top 26
theorem sc__law_caught : FnScope ["_law_text_here", "_law_my_number", "_law_my_many", "_law_kept", "_law_found", "e"] ["_law_text_here", "_law_my_number", "_law_my_many"] (defScope s__law_caught) := ⟨rfl, rfl, rfl, by decide +kernel, rfl, by decide +kernel, by decide +kernel⟩
theorem ok_caught {f : Addr} {fd : FuncData} {k : Nat} (F : Fun K "_law_caught" "_law_caught" s__law_caught f fd) (T : Txt K mg c) (te : PySem.W.exmOne K (.ref c.NoChoice) (.ref c.SlackError) = some true) (c__law_kind : Cal P w K mg base 1 "_law_kind" ["_law_error"] (spKind K c)) (c_choice_at : CalX P w K mg base 2 "choice_at" ["number", "many"] (spAt c) []) (c_choice_number : CalX P w K mg base 2 "choice_number" ["choice"] (spNum c) []) : FnOk P w K mg base CX0 (k + 2 + 1) f fd ["_law_text_here", "_law_my_number", "_law_my_many"] (spCaught c) := by
  refine F.ok sc__law_caught (fun vs H Q E h => ?_) (fun cdv A outer s H vs Q E hr h => ?_)
  · obtain ⟨x, i, m, rfl, _⟩ := h
    rfl
  · obtain ⟨x, i, m, rfl, h⟩ := h
    have hr : Room 2 _ := hr.mono (Nat.le_add_left 2 k)
    refine ⟨_, (pss_cons (ps_set (i := 3) sc__law_caught.nd rfl (Or.inl rfl) pe_non)
      (pss_cons (ps_set (i := 4) sc__law_caught.nd rfl (Or.inl rfl) pe_non)
      (pss_cons (ps_try_keep (i := 5) (j := 3) rfl rfl rfl sc__law_caught.nd rfl rfl rfl rfl ⟨rfl, by decide, .inl T.g_SlackError⟩ (by decide) (by decide) (fun W pn xe tk _ => (pss_one (ps_if (pt_cmpR op_isN (pv 0) pe_non (nomark _))
            (pss_one (ps_set (i := 4) sc__law_caught.nd rfl (Or.inl rfl) (pe_calXS c_choice_at tk hr (by rfl) (pa_cons (pv 1) (pa_cons (pv 2) pa_nil)))))
            (pss_one (ps_set (i := 4) sc__law_caught.nd rfl (Or.inl rfl) (pe_calXS c_choice_number tk hr (by rfl) (pa_cons (pv 0) pa_nil)))))))
        (fun a pn => ps_set (i := 3) sc__law_caught.nd rfl (Or.inl rfl) (pv 5)))
      (pss_cons (ps_if (pt_cmpR op_isN (pv 3) pe_non (nomark _))
        (pss_one (ps_ret (pv 4)))
        pss_nil)
      (pss_one (ps_ret (pe_cal c__law_kind hr (by rfl) (pa_cons (pv 3) pa_nil)))))))), ?_⟩
    rcases h with ⟨t, rfl, hl, q, qE⟩ | ⟨rfl, m1, m5, q, qE⟩
    · refine ⟨_, rfl, rfl, _, rfl, iteF ?_⟩
      refine ⟨_, rfl, t, rfl, hl, fun j H' l1 l5 hj s1 => ?_, fun z H1 s1 => ?_⟩
      · exact ⟨_, rfl, rfl, _, rfl, iteT ⟨_, rfl, q j H' l1 l5 hj s1⟩⟩
      · refine ⟨te, fun a na => ?_⟩
        have sa := s1.trans (same_upd (o := exv a (.ref c.NoChoice) none) na)
        refine ⟨_, rfl, rfl, _, rfl, iteF ?_⟩
        exact ⟨_, rfl, a, rfl, upd_same, fun p H' s' np hp => qE z p H' (sa.trans s') (sa.free np) hp⟩
    · refine ⟨_, rfl, rfl, _, rfl, iteT ?_⟩
      refine ⟨_, rfl, _, rfl, i, m, rfl, m1, m5, fun t H' i0 ht s1 => ?_, fun z H1 s1 => ?_⟩
      · exact ⟨_, rfl, rfl, _, rfl, iteT ⟨_, rfl, q t H' i0 ht s1⟩⟩
      · refine ⟨te, fun a na => ?_⟩
        have sa := s1.trans (same_upd (o := exv a (.ref c.NoChoice) none) na)
        refine ⟨_, rfl, rfl, _, rfl, iteF ?_⟩
        exact ⟨_, rfl, a, rfl, upd_same, fun p H' s' np hp => qE z p H' (sa.trans s') (sa.free np) hp⟩
/-! ### _law_text: some text of at most nine signs -/
def Asc (t : Str) : Prop := ∀ x ∈ t.cps.toList, x < 128
theorem Asc.app {a b : Str} (h : Asc a) (h2 : Asc b) : Asc (a ++ b) := fun x hx => by
  rw [app_list] at hx
  rcases List.mem_append.mp hx with z | z
  · exact h x z
  · exact h2 x z
theorem Asc.cut {a : Str} (h : Asc a) (lo hi : Option Int) : Asc (cutS a lo hi) := fun x hx => h x (List.mem_of_mem_drop (List.mem_of_mem_take hx))
def spText : Sp := fun vs H Q _ => ∃ p : Addr, vs = [.ref p] ∧ Pile H p ∧ ∀ (t : Str) (H' : Hp), Kp p H H' → Pile H' p → t.length ≤ 100 → Asc t → Q (.str t) H'
theorem len_app (a b : Str) : (a ++ b).length = a.length + b.length := by
  show (a.cps ++ b.cps).size = _
  rw [Array.size_append]
  rfl
theorem at_nt {xs : List Nat} {z : Int} {j : Nat} {v : Nat} (e : z = (j : Int)) (h : xs[j]? = some v) : atI xs z = some v := by
  rw [e]
  exact atI_nat h
theorem at_s {z : Str} {n : Nat} (hz : z.cps.toList.length = n) {d : Int} (d0 : 0 ≤ d) (d1 : d < (n : Int))  (ha : (z.cps.toList.all fun x => decide (x < 128)) = true) : ∃ x, atI z.cps.toList d = some x ∧ Asc ⟨#[x]⟩ := by
  have h : d.toNat < z.cps.toList.length := by omega
  refine ⟨z.cps.toList[d.toNat], at_nt (j := d.toNat) (by omega) (List.getElem?_eq_getElem h), fun y hy => ?_⟩
  rw [List.mem_singleton.mp (show y ∈ [z.cps.toList[d.toNat]] from hy)]
  exact of_decide_eq_true (List.all_eq_true.mp ha _ (List.getElem_mem h))
theorem cut_len (z : Str) (lo hi : Option Int) : (cutS z lo hi).length ≤ z.length := by
  show (List.toArray _).size ≤ _
  rw [List.size_toArray, List.length_take, List.length_drop]
  rw [len_list]
  omega
abbrev s__law_text : Stmt := top 27
theorem sc__law_text : FnScope ["_law_pile_here", "_law_text_here", "_law_k", "_law_at"] ["_law_pile_here"] (defScope s__law_text) := ⟨rfl, rfl, rfl, by decide +kernel, rfl, by decide +kernel, by decide +kernel⟩
theorem ok_text {f : Addr} {fd : FuncData} {k : Nat} (F : Fun K "_law_text" "_law_text" s__law_text f fd) (T : Txt K mg c) (c__law_take : Cal P w K mg base 2 "_law_take" ["_law_pile_here", "_law_my_many"] spTake) : FnOk P w K mg base CX0 (k + 2 + 1) f fd ["_law_pile_here"] spText := by
  refine F.ok sc__law_text (fun vs H Q E h => ?_) (fun cdv A outer s H vs Q E hr h => ?_)
  · obtain ⟨p, rfl, _⟩ := h
    rfl
  · obtain ⟨p, rfl, hP, q⟩ := h
    have hr : Room 2 _ := hr.mono (Nat.le_add_left 2 k)
    refine ⟨_, (pss_cons (ps_set (i := 1) sc__law_text.nd rfl (Or.inl rfl) pe_str)
      (pss_cons (ps_for PassesOwn.never rfl (pi_range1 (by rfl) T.range (pa_cons (pe_cal c__law_take hr (by rfl) (pa_cons (pv 0) (pa_cons pe_int pa_nil))) pa_nil)) (pg_name (i := 2) sc__law_text.nd rfl (Or.inl rfl))
        (pss_one (ps_set (i := 1) sc__law_text.nd rfl (Or.inl rfl) (pe_op op_add_str (pv 1) (pe_ix ix_str pe_str (pe_cal c__law_take hr (by rfl) (pa_cons (pv 0) (pa_cons pe_int pa_nil))) (fun _ _ => rfl))))))
      (pss_cons (ps_if (pt_cmpR op_eq (pe_cal c__law_take hr (by rfl) (pa_cons (pv 0) (pa_cons pe_int pa_nil))) pe_int (nomark _))
        (pss_cons (ps_set (i := 3) sc__law_text.nd rfl (Or.inl rfl) (pe_cal c__law_take hr (by rfl) (pa_cons (pv 0) (pa_cons (pe_op op_add (pe_callB call_len_str (by rfl) T.len (by decide +kernel) (pa_cons (pv 1) pa_nil)) pe_int) pa_nil))))
          (pss_one (ps_set (i := 1) sc__law_text.nd rfl (Or.inl rfl) (pe_op op_add_str (pe_op op_add_str (pe_slice sl_str (pv 1) po_none (po_some (pv 3))) (pe_ix ix_str pe_str (pe_cal c__law_take hr (by rfl) (pa_cons (pv 0) (pa_cons pe_int pa_nil))) (fun _ _ => rfl))) (pe_slice sl_str (pv 1) (po_some (pv 3)) po_none)))))
        pss_nil)
      (pss_one (ps_ret (pv 1)))))), ?_⟩
    have sl : ∀ {n : Nat}, n ≤ 1000 → n ≤ sizeLine := fun h => Nat.le_trans h (by decide)
    refine ⟨_, rfl, p, _, rfl, by decide, by decide, hP, fun d H1 d0 d1 k1 P1 => ?_⟩
    refine ⟨d, rfl, by omega, by omega, for_range (lo := 0) (n := d.toNat) (fun i σ H' => Kp p H H' ∧ Pile H' p ∧ ∃ (t : Str) (v2 v3 : Option V), σ = [some (.ref p), some (.str t), v2, v3] ∧ t.length ≤ i ∧ Asc t) ⟨k1, P1, ⟨#[]⟩, none, none, rfl, Nat.le_refl _, (fun x hx => nomatch hx)⟩ ?_ ?_⟩
    · rintro i σ H2 hi ⟨k2, P2, t, v2, v3, rfl, hl, ta⟩
      refine ⟨_, rfl, _, rfl, p, _, rfl, by decide, by decide, P2, fun d2 H3 d20 d21 k3 P3 => ?_⟩
      obtain ⟨x, hx, ax⟩ := at_s (z := "01") (n := 2) rfl d20 d21 (by decide +kernel)
      refine ⟨_, _, x, rfl, rfl, sl (by decide), hx, _, _, rfl, rfl, sl (show t.length + 1 ≤ 1000 by omega), ?_⟩
      exact ⟨k2.trans k3, P3, _, _, _, rfl, by rw [len_app]; show t.length + 1 ≤ i + 1; omega, ta.app ax⟩
    · rintro σ H2 ⟨k2, P2, t, v2, v3, rfl, hl, ta⟩
      refine ⟨_, rfl, p, _, rfl, by decide, by decide, P2, fun d3 H3 d30 d31 k3 P3 => ?_⟩
      have k23 := k2.trans k3
      refine ⟨rfl, _, rfl, ite2 (fun _ => ?_) (fun _ => ?_)⟩
      · refine ⟨_, rfl, _, rfl, t, rfl, sl (by omega), _, _, rfl, rfl, p, _, rfl, by omega, by show ((t.length : Nat) + 1 : Int).natAbs < 18446744073709551616; omega, P3, fun d4 H4 d40 d41 k4 P4 => ?_⟩
        refine ⟨_, rfl, _, rfl, _, rfl, t, rfl, sl (by omega), ?_⟩
        refine ⟨_, rfl, p, _, rfl, by decide, by decide, P4, fun d5 H5 d50 d51 k5 P5 => ?_⟩
        obtain ⟨x, hx, ax⟩ := at_s (z := "2 -/x+_.:aO") (n := 11) (by decide +kernel) d50 d51 (by decide +kernel)
        have c1 := cut_len t none (some d4)
        have c2 := cut_len t (some d4) none
        refine ⟨_, _, x, rfl, rfl, sl (by decide +kernel), hx, _, _, rfl, rfl, sl (show (cutS t none (some d4)).length + 1 ≤ 1000 by omega), ?_⟩
        refine ⟨_, rfl, _, rfl, _, rfl, t, rfl, sl (by omega), _, _, rfl, rfl, ?_, ?_⟩
        · rw [len_app]
          exact sl (show (cutS t none (some d4)).length + 1 + (cutS t (some d4) none).length ≤ 1000 by omega)
        · refine ⟨_, rfl, q _ H5 ((k23.trans k4).trans k5) P5 ?_ (((ta.cut _ _).app ax).app (ta.cut _ _))⟩
          rw [len_app, len_app]
          show (cutS t none (some d4)).length + 1 + (cutS t (some d4) none).length ≤ 100
          omega
      · exact ⟨_, rfl, q t H3 k23 P3 (by omega) ta⟩
end
section
variable {P : Program} {w : World} {K : PySem.W.Frag} {mg : Str → Option Value} {base : Heap} {c : Adr}
theorem Kp.sm {p : Addr} {H H1 H' : Hp} (s : Same H H1) (n : H p = none) (k : Kp p H1 H') : Same H H' := fun b o e => k b o (ne_of_none e n) (s b o e)
theorem Pile.same {H H' : Hp} {p : Addr} (s : Same H H') (h : Pile H p) : Pile H' p := by
  obtain ⟨x, y, z, e⟩ := h
  exact ⟨x, y, z, s _ _ e⟩
def spLaw (K : PySem.W.Frag) : Sp := fun vs H Q _ => ∃ (a : Addr) (ns : List Int), vs = [.ref a] ∧ SqL K H a (ns.map V.int) ∧ ns.length ≤ 63 ∧ ∀ H', Q (.bl true) H'
def isCh (t : Str) : Prop := 1 ≤ t.length ∧ t.length ≤ 5 ∧ Sgn t
/-- what is due for a text, for a number -/
def DueT (t : Str) (H : Hp) (v : V) : Prop := (isCh t ∧ ∃ j : Nat, (genM t.length)[j]? = some t ∧ v = .int (j : Nat)) ∨ (¬ isCh t ∧ ∃ l, v = .ref l ∧ H l = some (.lst [.str "choice"]))
def DueN (n m : Int) (H : Hp) (v : V) : Prop := (0 ≤ n ∧ ∃ t, (genM m.toNat)[n.toNat]? = some t ∧ v = .str t) ∨ (¬ (0 ≤ n ∧ n < ((genM m.toNat).length : Nat)) ∧ ∃ l, v = .ref l ∧ H l = some (.lst [.str "choice"]))
theorem so_ch : PyData.strOk ("choice" : Str) = true := by decide +kernel
theorem sh_ch : SeqAt.shaped (.list [.str "choice"]) = true := by
  unfold SeqAt.shaped
  simp only [PyData.canLay0, PyData.canLayAll0, PyData.depth, PyData.depthAll, so_ch]
  rfl
theorem eqv_ch : PyData.eqv (.list [.str "choice"]) (.list [.str "choice"]) = true := by simp [PyData.eqv, PyData.eqvAll]
theorem eqv_i (i : Int) : PyData.eqv (.int i) (.int i) = true := by simp [PyData.eqv]
theorem eqv_s (t : Str) : PyData.eqv (.str t) (.str t) = true := by simp [PyData.eqv]
theorem sh_i (i : Int) : SeqAt.shaped (.int i) = true := rfl
theorem strOk_asc {t : Str} (h : Asc t) : PyData.strOk t = true := by
  unfold PyData.strOk
  rw [Array.all_eq_true_iff_forall_mem]
  intro x hx
  have z : x < 128 := h x (Array.mem_toList_iff.mpr hx)
  exact decide_eq_true (by omega)
theorem sh_s {t : Str} (h : Asc t) : SeqAt.shaped (.str t) = true := by
  unfold SeqAt.shaped
  simp only [PyData.canLay0, PyData.depth, strOk_asc h]
  rfl
theorem gen_asc {n : Nat} {t : Str} (h : t ∈ genM n) : Asc t := fun x hx => by
  rcases ((mem_gen n t).mp h).2 x hx with z | z <;> omega
/-- the signs of t that are neither 0 nor 1 -/
def badM (t : Str) : List Nat := t.cps.toList.filter fun x => !decide (x ∈ ("01" : Str).cps.toList)
theorem bad_nil {t : Str} : badM t = [] ↔ Sgn t := by
  unfold badM Sgn
  rw [List.filter_eq_nil_iff]
  have e : ("01" : Str).cps.toList = [48, 49] := rfl
  rw [e]
  refine forall_congr' fun x => forall_congr' fun _ => ?_
  simp
  omega
theorem flt1 (p : Nat → Bool) (y : Nat) : List.filter p [y] = if p y = true then [y] else [] := by cases h : p y <;> simp [h]
def dB (xs : List Nat) : List PyData := xs.map fun x => PyData.str ⟨#[x]⟩
theorem dp_bad {H : Hp} : ∀ xs : List Nat, DpAll K H (xs.map fun x => V.str ⟨#[x]⟩) (dB xs)
  | [] => .nil
  | _ :: xs => .cons (.str _) (dp_bad xs)
theorem lay_bad : ∀ xs : List Nat, (∀ x ∈ xs, x < 128) → PyData.canLayAll0 (dB xs) = true ∧ PyData.depthAll (dB xs) = 0
  | [], _ => ⟨by simp [dB, PyData.canLayAll0], by simp [dB, PyData.depthAll]⟩
  | x :: xs, h => by
    have ih := lay_bad xs fun y hy => h y (List.mem_cons_of_mem _ hy)
    have so : PyData.strOk ⟨#[x]⟩ = true := strOk_asc fun y hy => by
      rw [List.mem_singleton.mp (show y ∈ [x] from hy)]
      exact h x List.mem_cons_self
    refine ⟨?_, ?_⟩
    · show PyData.canLayAll0 (_ :: dB xs) = true
      simp only [PyData.canLayAll0, PyData.canLay0, so, ih.1, Bool.and_true]
    · show PyData.depthAll (_ :: dB xs) = 0
      simp only [PyData.depthAll, PyData.depth, ih.2]
      rfl
theorem sh_bad {xs : List Nat} (h : ∀ x ∈ xs, x < 128) : SeqAt.shaped (.list (dB xs)) = true := by
  have z := lay_bad xs h
  unfold SeqAt.shaped
  simp only [PyData.canLay0, PyData.depth, z.1, z.2]
  rfl
theorem eqv_bad (xs : List Nat) : PyData.eqv (.list (dB xs)) (.list []) = decide (xs = []) := by
  cases xs with
  | nil => simp [dB, PyData.eqv, PyData.eqvAll]
  | cons x r => simp [dB, PyData.eqv, PyData.eqvAll]
abbrev s_law : Stmt := top 28
theorem sc_law : FnScope ["_law_script", "_law_my_many", "_law_my_number", "_law_text_here", "_law_told", "_law_at", "_law_pile_here", "_law_due", "_law_sign"] ["_law_script"] (defScope s_law) := ⟨rfl, rfl, rfl, by decide +kernel, rfl, by decide +kernel, by decide +kernel⟩
theorem ok_law {f : Addr} {fd : FuncData} (F : Fun K "law" "law" s_law f fd) (T : Txt K mg c)
    (c_choice_number : CalX P w K mg base 2 "choice_number" ["choice"] (spNum c) []) (c_choice_number_kw : CalXK P w K mg base 2 "choice_number" ["choice"] (spNum c) 0 ["choice"] (fun _ zs => zs))
    (c_choice_at : CalX P w K mg base 2 "choice_at" ["number", "many"] (spAt c) []) (c_choice_at_kw : CalXK P w K mg base 2 "choice_at" ["number", "many"] (spAt c) 0 ["many", "number"] (fun _ zs => zs.reverse))
    (c__law_choices : Cal P w K mg base 1 "_law_choices" ["_law_my_many"] spLc) (c__law_pile : Cal P w K mg base 1 "_law_pile" ["_law_script", "_law_k"] (spPile K)) (c__law_take : Cal P w K mg base 2 "_law_take" ["_law_pile_here", "_law_my_many"] spTake)
    (c__law_text : Cal P w K mg base 3 "_law_text" ["_law_pile_here"] spText) (c__law_caught : Cal P w K mg base 3 "_law_caught" ["_law_text_here", "_law_my_number", "_law_my_many"] (spCaught c)) :
    FnOk P w K mg base CX0 4 f fd ["_law_script"] (spLaw K) := by
  refine F.ok sc_law (fun vs H Q E h => ?_) (fun cdv A outer s H vs Q E hr h => ?_)
  · obtain ⟨a, ns, rfl, _⟩ := h
    rfl
  · obtain ⟨a, ns, rfl, hS, hlen, q⟩ := h
    refine ⟨_, (pss_cons (ps_for PassesOwn.never rfl (pi_range2 (by rfl) T.range (pa_cons pe_int (pa_cons pe_int pa_nil))) (pg_name (i := 1) sc_law.nd rfl (Or.inl rfl))
        (pss_one (ps_for PassesOwn.never rfl (pi_enum (by rfl) T.enumerate (pa_cons (pe_cal c__law_choices hr (by rfl) (pa_cons (pv 1) pa_nil)) pa_nil)) (pg_tup rfl (pgs_cons (pg_name (i := 2) sc_law.nd rfl (Or.inl rfl)) (pgs_cons (pg_name (i := 3) sc_law.nd rfl (Or.inl rfl)) pgs_nil)))
            (pss_cons (ps_set (i := 4) sc_law.nd rfl (Or.inl rfl) (pe_calX c_choice_number hr (by rfl) (pa_cons (pv 3) pa_nil)))
              (pss_cons (ps_if (PW.pt (pw_or (pt_cmpR op_ne (pv 4) (pv 2) (nomark _)) (pw_or (pt_val (pe_callB (id := "isinstance") (r := rIsi K) call_isi (by rfl) T.isinstance (by decide +kernel) (pa_cons (pv 4) (pa_cons (pe_bltn (v := .ty "bool") (by rfl) T.bool_ (by decide +kernel) rfl) pa_nil)))) (pw_or1 (pt_not (pt_val (pe_callB (id := "isinstance") (r := rIsi K) call_isi (by rfl) T.isinstance (by decide +kernel) (pa_cons (pv 4) (pa_cons (pe_bltn (v := .ty "int") (by rfl) T.int_ (by decide +kernel) rfl) pa_nil)))))))))
                (pss_one (ps_ret pe_bl))
                pss_nil)
              (pss_cons (ps_if (pt_cmpR op_ne (pe_calX c_choice_at hr (by rfl) (pa_cons (pv 2) (pa_cons (pv 1) pa_nil))) (pv 3) (nomark _))
                (pss_one (ps_ret pe_bl))
                pss_nil)
              (pss_one (ps_if (PW.pt (pw_or (pt_cmpR op_ne (pe_calXK0 c_choice_at_kw hr (by rfl) (pk_cons (pv 1) (pk_cons (pv 2) pk_nil))) (pv 3) (nomark _)) (pw_or1 (pt_cmpR op_ne (pe_calXK0 c_choice_number_kw hr (by rfl) (pk_cons (pv 3) pk_nil)) (pv 2) (nomark _)))))
                (pss_one (ps_ret pe_bl))
                pss_nil))))))))
      (pss_cons (ps_for PassesOwn.never rfl (pi_range1 (by rfl) T.range (pa_cons pe_int pa_nil)) (pg_name (i := 5) sc_law.nd rfl (Or.inl rfl))
        (pss_cons (ps_set (i := 6) sc_law.nd rfl (Or.inl rfl) (pe_cal c__law_pile hr (by rfl) (pa_cons (pv 0) (pa_cons (pv 5) pa_nil))))
          (pss_cons (ps_set (i := 3) sc_law.nd rfl (Or.inl rfl) (pe_cal c__law_text hr (by rfl) (pa_cons (pv 6) pa_nil)))
          (pss_cons (ps_set (i := 7) sc_law.nd rfl (Or.inl rfl) (pe_lst (pa_cons pe_str pa_nil)))
          (C8.pss_cut (ps_if (PW.pt (pw_and (pt_chain op_lt op_lt pe_int (pe_callB call_len_str (by rfl) T.len (by decide +kernel) (pa_cons (pv 3) pa_nil)) pe_int) (pw_and1 (pt_cmpR (op_eqD hr.units) (pe_lc (own := [("_law_sign", 8)]) (by rfl) sc_law.nd (pi_str (pv 3)) (blkOk_by (own := [("_law_sign", 8)]) (N := ["_law_script", "_law_my_many", "_law_my_number", "_law_text_here", "_law_told", "_law_at", "_law_pile_here", "_law_due", "_law_sign"]) (sc := defScope s_law) (by decide +kernel)) (fun _ _ _ _ _ => (pg_name (i := 8) sc_law.nd rfl (Or.inl rfl))) (fun _ _ _ _ _ => (pts_one (pt_cmpR op_notIn_sign (pv 8) pe_str (by rfl)))) (fun _ _ _ _ _ => (pv 8))) (pe_lst pa_nil) (nomark _)))))
            (pss_one (ps_set (i := 7) sc_law.nd rfl (Or.inl rfl) (pe_bm PySem.F.plainAttrs_list PySem.F.slot_list_index PySem.F.type_list_index mt_index (pe_cal c__law_choices hr (by rfl) (pa_cons (pe_callB call_len_str (by rfl) T.len (by decide +kernel) (pa_cons (pv 3) pa_nil)) pa_nil)) (pa_cons (pv 3) pa_nil))))
            pss_nil)
          (C8.pss_cut (ps_if (pt_cmpR (op_neD hr.units) (pe_cal c__law_caught hr (by rfl) (pa_cons (pv 3) (pa_cons pe_int (pa_cons pe_int pa_nil)))) (pv 7) (nomark _))
            (pss_one (ps_ret pe_bl))
            pss_nil)
          (pss_cons (ps_set (i := 1) sc_law.nd rfl (Or.inl rfl) (pe_op op_add pe_int (pe_cal c__law_take hr (by rfl) (pa_cons (pv 6) (pa_cons pe_int pa_nil)))))
          (pss_cons (ps_set (i := 2) sc_law.nd rfl (Or.inl rfl) (pe_op op_sub (pe_cal c__law_take hr (by rfl) (pa_cons (pv 6) (pa_cons (pe_op op_add (pe_callB call_len_seq (by rfl) T.len (by decide +kernel) (pa_cons (pe_cal c__law_choices hr (by rfl) (pa_cons (pv 1) pa_nil)) pa_nil)) pe_int) pa_nil))) pe_int))
          (C8.pss_cut (ps_if (pt_cmpR op_eq (pe_cal c__law_take hr (by rfl) (pa_cons (pv 6) (pa_cons pe_int pa_nil))) pe_int (nomark _))
            (pss_one (ps_set (i := 2) sc_law.nd rfl (Or.inl rfl) (pe_op op_mulW (pe_op op_add (pe_op op_pow pe_int pe_int) (pv 2)) (pe_ix ix_list (pe_lst (pa_cons pe_int (pa_cons (pe_un un_neg pe_int) pa_nil))) (pe_cal c__law_take hr (by rfl) (pa_cons (pv 6) (pa_cons pe_int pa_nil))) (fun _ _ => rfl)))))
            pss_nil)
          (pss_cons (ps_set (i := 7) sc_law.nd rfl (Or.inl rfl) (pe_lst (pa_cons pe_str pa_nil)))
          (C8.pss_cut (ps_if (pt_chain op_le op_lt pe_int (pv 2) (pe_callB call_len_seq (by rfl) T.len (by decide +kernel) (pa_cons (pe_cal c__law_choices hr (by rfl) (pa_cons (pv 1) pa_nil)) pa_nil)))
            (pss_one (ps_set (i := 7) sc_law.nd rfl (Or.inl rfl) (pe_ix ix_list (pe_cal c__law_choices hr (by rfl) (pa_cons (pv 1) pa_nil)) (pv 2) (fun _ _ => rfl))))
            pss_nil)
          (pss_one (ps_if (pt_cmpR (op_neD hr.units) (pe_cal c__law_caught hr (by rfl) (pa_cons pe_non (pa_cons (pv 2) (pa_cons (pv 1) pa_nil)))) (pv 7) (nomark _))
            (pss_one (ps_ret pe_bl))
            pss_nil)))))))))))))
      (pss_one (ps_ret pe_bl)))), ?_⟩
    refine ⟨1, 6, rfl, ⟨by decide, by decide, by decide, by decide⟩, for_range (lo := 1) (n := 5) (fun i σ H' => Same H H' ∧ ∃ v1 v2 v3 v4 v5 v6 v7 v8, σ = [some (.ref a), v1, v2, v3, v4, v5, v6, v7, v8]) ⟨Same.refl H, none, none, none, none, none, none, none, none, rfl⟩ ?_ ?_⟩
    · rintro i σ H0 hi ⟨s0, v1, v2, v3, v4, v5, v6, v7, v8, rfl⟩
      refine ⟨_, rfl, 1 + (i : Int), rfl, by omega, by omega, fun p H1 s1 np hp => ?_⟩
      have em : (1 + (i : Int)).toNat = i + 1 := by omega
      rw [em] at hp
      have nd := gen_nd ⟨i + 1, by omega⟩
      refine ⟨p, _, rfl, .inl (.inl hp), for_it (walk_enum (K := K) (a := p) (xs := (genM (i + 1)).map V.str)) (fun j σ H' => Same H1 H' ∧ ∃ v2 v3 v4, σ = [some (.ref a), some (.int (1 + (i : Int))), v2, v3, v4, v5, v6, v7, v8]) ⟨Same.refl _, v2, v3, v4, rfl⟩ (fun _ _ _ _ ⟨s', _⟩ => .inl (.inl (s' _ _ hp))) ?_ ?_⟩
      · rintro j x σ H2 H2' hj ⟨s2, v2, v3, v4, rfl⟩ ⟨Tp, x1, y1, rfl, nT, rfl, e1, e2⟩
        have hx1 : x1 = .int (j : Nat) := (Option.some.inj e1).symm
        subst hx1
        have e2 : ((genM (i + 1)).map V.str)[j]? = some y1 := e2
        rw [List.getElem?_map] at e2
        obtain ⟨t, ht, rfl⟩ := Option.map_eq_some_iff.mp e2
        have tm := List.mem_of_getElem? ht
        obtain ⟨tl, ts⟩ := (mem_gen _ t).mp tm
        have jl : j < (genM (i + 1)).length := by rw [List.length_map] at hj; exact hj
        have isc : 1 ≤ t.length ∧ t.length ≤ 5 ∧ Sgn t := ⟨by omega, by omega, ts⟩
        have s3 := s2.trans (same_upd (o := .tup [V.int (j : Nat), V.str t]) nT)
        refine ⟨Tp, _, rfl, .inl (.inl upd_same), rfl, _, _, rfl, _, _, rfl, rfl, ?_⟩
        refine ⟨_, rfl, t, rfl, by omega, fun j' H4 _ l5 hj' s4 => ?_, fun z => absurd isc z⟩
        have ej : j = j' := nd_ix nd ht (by rw [tl] at hj'; exact hj')
        subst ej
        refine ⟨_, rfl, _, rfl, rfl, _, rfl, ?_⟩
        rw [decide_eq_true rfl]
        refine iteF ?_
        refine ⟨_, rfl, _, _, _, _, false, rfl, .ty _, .base (.int _), kit_ty (by decide +kernel), _, rfl, iteF ?_⟩
        refine ⟨_, rfl, _, _, _, _, true, rfl, .ty _, .base (.int _), kit_ty (by decide +kernel), _, rfl, iteF ?_⟩
        -- choice_at
        have bad : ¬ (0 ≤ ((j : Nat) : Int) ∧ ((j : Nat) : Int) < ((genM (1 + (i : Int)).toNat).length : Nat)) → False := fun z => z (by rw [em]; omega)
        refine ⟨_, rfl, _, rfl, ((j : Nat) : Int), 1 + (i : Int), rfl, by omega, by omega, fun t' H5 _ ht' s5 => ?_, fun z => (bad z).elim⟩
        have et : t = t' := by
          rw [em, Int.toNat_natCast, ht] at ht'
          exact Option.some.inj ht'
        subst et
        refine ⟨_, rfl, rfl, _, rfl, ?_⟩
        rw [decide_eq_true rfl]
        refine iteF ?_
        refine ⟨_, rfl, _, rfl, rfl, rfl, ((j : Nat) : Int), 1 + (i : Int), rfl, by omega, by omega, fun t' H6 _ ht' s6 => ?_, fun z => (bad z).elim⟩
        have et : t = t' := by
          rw [em, Int.toNat_natCast, ht] at ht'
          exact Option.some.inj ht'
        subst et
        refine ⟨_, rfl, rfl, _, rfl, ?_⟩
        rw [decide_eq_true rfl]
        refine iteF ?_
        refine ⟨_, rfl, rfl, rfl, t, rfl, by omega, fun j'' H7 _ l5 hj'' s7 => ?_, fun z => absurd isc z⟩
        have ej : j = j'' := nd_ix nd ht (by rw [tl] at hj''; exact hj'')
        subst ej
        refine ⟨_, rfl, rfl, _, rfl, ?_⟩
        rw [decide_eq_true rfl]
        exact iteF ⟨(((s3.trans s4).trans s5).trans s6).trans s7, _, _, _, rfl⟩
      · rintro σ H2 ⟨s2, v2, v3, v4, rfl⟩
        exact ⟨(s0.trans s1).trans s2, _, _, _, _, _, _, _, _, rfl⟩
    · rintro σ H0 ⟨s0, v1, v2, v3, v4, v5, v6, v7, v8, rfl⟩
      refine ⟨30, rfl, by decide, by decide, for_range (lo := 0) (n := 30) (fun i σ H' => Same H H' ∧ ∃ v1 v2 v3 v4 v5 v6 v7 v8, σ = [some (.ref a), v1, v2, v3, v4, v5, v6, v7, v8]) ⟨s0, v1, v2, v3, v4, v5, v6, v7, v8, rfl⟩ ?_ ?_⟩
      · clear s0 v1 v2 v3 v4 v5 v6 v7 v8
        rintro i σ H0 hi ⟨s0, v1, v2, v3, v4, v5, v6, v7, v8, rfl⟩
        refine ⟨_, rfl, _, rfl, a, ns, _, rfl, s0.seq hS, by omega, fun p H1 s1 np0 P1 => ?_⟩
        have np : H p = none := s0.free np0
        refine ⟨_, rfl, p, rfl, P1, fun t H2 k2 P2 tl ta => ?_⟩
        have s2 : Same H H2 := Kp.sm (s0.trans s1) np k2
        refine ⟨by show 1 ≤ sizeLine; decide, fun l nl => ?_⟩
        have hl := upd_same (H := H2) (a := l) (o := .lst [V.str "choice"])
        have s3 := s2.trans (same_upd (o := .lst [V.str "choice"]) nl)
        have P3 := P2.new (o := .lst [V.str "choice"]) nl
        generalize upd H2 l (.lst [V.str "choice"]) = H3 at hl s3 P3 ⊢
        have tsz : t.length ≤ sizeLine := Nat.le_trans tl (by decide)
        -- the due of the text
        refine ⟨fun σ' H' => Same H H' ∧ Pile H' p ∧ ∃ (v : V) (v8' : Option V), σ' = [some (.ref a), v1, v2, some (.str t), v4, some (.int (0 + (i : Int))), some (.ref p), some v, v8'] ∧ DueT t H' v, ?_, ?_⟩
        · have no : ¬ isCh t → (Same H H3 ∧ Pile H3 p ∧ ∃ (v : V) (v8' : Option V), [some (V.ref a), v1, v2, some (.str t), v4, some (.int (0 + (i : Int))), some (.ref p), some (.ref l), v8] = [some (V.ref a), v1, v2, some (.str t), v4, some (.int (0 + (i : Int))), some (.ref p), some v, v8'] ∧ DueT t H3 v) := fun z => ⟨s3, P3, .ref l, v8, rfl, .inr ⟨z, l, rfl, hl⟩⟩
          refine ⟨_, rfl, t, rfl, tsz, _, _, rfl, rfl, _, rfl, ite2 (fun z1 => ?_) (fun z1 => ?_)⟩
          · have l1 : (0 : Int) < (t.length : Nat) := of_decide_eq_true z1
            refine ⟨_, _, rfl, rfl, _, rfl, ite2 (fun z2 => ?_) (fun z2 => iteF (no fun z => z2 (decide_eq_true (by have := z.2.1; omega))))⟩
            have l6 : ((t.length : Nat) : Int) < 6 := of_decide_eq_true z2
            refine ⟨_, rfl, t, rfl, fun D nD => ?_⟩
            refine lc_it (walk_str (z := t)) (fun j G => Same H3 G ∧ G D = some (.lst (((t.cps.toList.take j).filter fun x => !decide (x ∈ ("01" : Str).cps.toList)).map fun x => V.str ⟨#[x]⟩))) ⟨same_upd nD, upd_same⟩ (fun _ _ _ _ => trivial) ?_ ?_
            · rintro j x G G' hj ⟨sg, hD⟩ ⟨rfl, y, hy, rfl⟩
              have hy' : t.cps.toList[j]? = some y := by rw [Array.getElem?_toList]; exact hy
              have e2 : (t.cps.toList.take (j + 1)).filter (fun x => !decide (x ∈ ("01" : Str).cps.toList)) = (t.cps.toList.take j).filter (fun x => !decide (x ∈ ("01" : Str).cps.toList)) ++ (if (!decide (y ∈ ("01" : Str).cps.toList)) = true then [y] else []) := by
                rw [List.take_add_one, hy', List.filter_append]
                congr 1
                exact flt1 _ y
              refine ⟨rfl, _, rfl, y, "01", rfl, rfl, _, rfl, ite2 (fun z => ?_) (fun z => ?_)⟩
              · refine ⟨_, rfl, _, hD, ?_, same_mut sg nD, ?_⟩
                · rw [List.length_map]
                  refine small1000 (Nat.le_trans (List.length_filter_le _ _) ?_)
                  rw [List.length_take, Array.length_toList]
                  have : t.cps.size ≤ 100 := tl
                  omega
                · show upd G' D _ D = _
                  rw [upd_same, e2, if_pos z, List.map_append]
                  rfl
              · refine ⟨sg, ?_⟩
                show G' D = _
                rw [e2, if_neg z, List.append_nil]
                exact hD
            · rintro G ⟨sg, hD⟩
              have eD : t.cps.toList.take t.cps.size = t.cps.toList := List.take_of_length_le (by rw [Array.length_toList]; exact Nat.le_refl _)
              rw [eD] at hD
              have hD' : G D = some (.lst ((badM t).map fun x => V.str ⟨#[x]⟩)) := hD
              refine ⟨by show 0 ≤ sizeLine; decide, fun e0 ne0 => ?_⟩
              have se := same_upd (o := .lst []) ne0
              refine ⟨_, _, .lst (.inl (.inl (se _ _ hD'))) (dp_bad _), .lst (.inl (.inl upd_same)) .nil, sh_bad (fun x hx => ta x (List.mem_filter.mp hx).1), rfl, _, rfl, ?_⟩
              rw [eqv_bad]
              have sg2 := sg.trans se
              have P4 := P3.same sg2
              have s4 := s3.trans sg2
              by_cases hb : badM t = []
              · rw [decide_eq_true hb]
                refine iteT ?_
                have ts : Sgn t := bad_nil.mp hb
                have tm : t ∈ genM t.length := (mem_gen _ t).mpr ⟨rfl, ts⟩
                obtain ⟨j, hj⟩ := List.getElem?_of_mem tm
                refine ⟨_, rfl, t, rfl, tsz, _, rfl, by omega, by omega, fun r H5 s5 nr hr5 => ?_⟩
                have er : (((t.length : Nat) : Int)).toNat = t.length := by omega
                rw [er] at hr5
                refine ⟨.inl ⟨rfl, _, .inl (.inl hr5)⟩, _, rfl, r, _, _, j, .str t, rfl, rfl, .inl (.inl hr5), rfl, flat_strs _, ?_, ?_, first_at (gen_nd ⟨t.length, by omega⟩) hj, ?_⟩
                · rw [List.getElem?_map, hj]
                  rfl
                · show (t == t) = true
                  exact beq_self_eq_true t
                · exact ⟨s4.trans s5, P4.same s5, _, _, rfl, .inl ⟨⟨by omega, by omega, ts⟩, j, hj, rfl⟩⟩
              · rw [decide_eq_false hb]
                exact iteF ⟨s4, P4, .ref l, v8, rfl, .inr ⟨fun z => hb (bad_nil.mpr z.2.2), l, rfl, sg2 _ _ hl⟩⟩
          · exact ⟨_, rfl, iteF (no fun z => z1 (decide_eq_true (by have := z.1; omega)))⟩
        · clear hl s3 P3 nl s2 k2 P2 P1 s1 np0 v8 v7 v3
          rintro σ' H4 ⟨s4, P4, v, v8, rfl, due⟩
          -- caught(text, 0, 1) != due
          have next : ∀ (x : V) (H5 : Hp), Same H4 H5 → ((∃ j : Nat, isCh t ∧ (genM t.length)[j]? = some t ∧ x = .int (j : Nat)) ∨ (¬ isCh t ∧ ∃ r, x = .ref r ∧ H5 r = some (.lst [.str "choice"]))) → ∃ d, Dp K H5 x d ∧ Dp K H5 v d ∧ SeqAt.shaped d = true ∧ PyData.eqv d d = true := by
            intro x H5 s5 hx
            rcases due with ⟨ic, j, hj, rfl⟩ | ⟨nc, l, rfl, hl⟩
            · rcases hx with ⟨j', _, hj', rfl⟩ | ⟨nc, _⟩
              · have ej : j' = j := nd_ix (gen_nd ⟨t.length, by have := ic.2.1; omega⟩) hj' hj
                subst ej
                exact ⟨_, .int _, .int _, sh_i _, eqv_i _⟩
              · exact absurd ic nc
            · rcases hx with ⟨_, ic, _⟩ | ⟨_, r, rfl, hr5⟩
              · exact absurd ic nc
              · exact ⟨_, .lst (.inl (.inl hr5)) (.cons (.str _) .nil), .lst (.inl (.inl (s5 _ _ hl))) (.cons (.str _) .nil), sh_ch, eqv_ch⟩
          refine ⟨fun σ' H' => Same H H' ∧ Pile H' p ∧ σ' = [some (.ref a), v1, v2, some (.str t), v4, some (.int (0 + (i : Int))), some (.ref p), some v, v8], ?_, ?_⟩
          · refine ⟨_, rfl, .str t, 0, 1, rfl, .inl ⟨t, rfl, by omega, fun j H5 l1 l5 hj s5 => ?_, fun z r H5 s5 nr hr5 => ?_⟩⟩
            · have tg := (mem_gen _ t).mp (List.mem_of_getElem? hj)
              obtain ⟨d, d1, d2, d3, d4⟩ := next _ H5 s5 (.inl ⟨j, ⟨l1, l5, tg.2⟩, hj, rfl⟩)
              refine ⟨_, rfl, d, d, d1, d2, d3, d3, _, rfl, ?_⟩
              rw [d4]
              exact iteF ⟨s4.trans s5, P4.same s5, rfl⟩
            · obtain ⟨d, d1, d2, d3, d4⟩ := next _ H5 s5 (.inr ⟨z, r, rfl, hr5⟩)
              refine ⟨_, rfl, d, d, d1, d2, d3, d3, _, rfl, ?_⟩
              rw [d4]
              exact iteF ⟨s4.trans s5, P4.same s5, rfl⟩
          · clear next due P4 s4
            rintro σ' H5 ⟨s5, P5, rfl⟩
            refine ⟨_, rfl, p, _, rfl, by decide, by decide, P5, fun d H6 d0 d1 k6 P6 => ⟨_, _, rfl, rfl, ?_⟩⟩
            have s6 := Kp.sm s5 np k6
            refine ⟨_, rfl, _, rfl, 1 + d, rfl, by omega, by omega, fun r H7 s7 nr hr7 => ?_⟩
            have P7 := P6.same s7
            have g5 : (genM (1 + d).toNat).length ≤ 32 := (gen_len ⟨(1 + d).toNat, by omega⟩).2
            have hlen : ((genM (1 + d).toNat).map V.str).length = (genM (1 + d).toNat).length := List.length_map ..
            refine ⟨r, _, rfl, .inl (.inl (.inl hr7)), _, _, rfl, rfl, p, _, rfl, ?_, ?_, P7, fun n H8 n0 n1 k8 P8 => ⟨_, _, rfl, rfl, ?_⟩⟩
            · show (0 : Int) < ((((genM (1 + d).toNat).map V.str).length : Nat) : Int) + 6
              omega
            · show (((((genM (1 + d).toNat).map V.str).length : Nat) : Int) + 6).natAbs < 18446744073709551616
              rw [hlen]
              omega
            have s8 := Kp.sm (s6.trans s7) np k8
            refine ⟨fun σ' H' => Same H H' ∧ Pile H' p ∧ ∃ n : Int, σ' = [some (.ref a), some (.int (1 + d)), some (.int n), some (.str t), v4, some (.int (0 + (i : Int))), some (.ref p), some v, v8], ?_, ?_⟩
            · refine ⟨_, rfl, p, _, rfl, by decide, by decide, P8, fun e H9 e0 e1 k9 P9 => ⟨rfl, _, rfl, ite2 (fun _ => ?_) (fun _ => ?_)⟩⟩
              · have s9 := Kp.sm s8 np k9
                refine ⟨_, _, rfl, rfl, ⟨by decide, by decide, by decide⟩, _, rfl, _, _, rfl, rfl, _, rfl, by show 2 ≤ sizeLine; decide, fun L nL => ?_⟩
                have hL := upd_same (H := H9) (a := L) (o := .lst [V.int 1, .int (-1)])
                have pL : L ≠ p := by
                  obtain ⟨x, y, z, e⟩ := P9
                  exact (ne_of_none e nL).symm
                refine ⟨_, rfl, p, _, rfl, by decide, by decide, P9.new nL, fun g H10 g0 g1 k10 P10 => ?_⟩
                have s10 := Kp.sm (s9.trans (same_upd (o := .lst [V.int 1, .int (-1)]) nL)) np k10
                have hb : ((10 : Int) ^ (11 : Int).toNat + (n - 3)).natAbs < 2 ^ 40 := by
                  have n1' : n < ((((genM (1 + d).toNat).map V.str).length : Nat) : Int) + 6 := n1
                  rw [hlen] at n1'
                  have e : (10 : Int) ^ (11 : Int).toNat = 100000000000 := by decide
                  rw [e]
                  omega
                have hg : g = 0 ∨ g = 1 := by omega
                rcases hg with rfl | rfl
                · exact ⟨L, _, _, .int 1, rfl, rfl, .inl (.inl (k10 _ _ pL hL)), rfl, _, _, rfl, rfl, cmul (a := 40) (b := 2) hb (by decide), s10, P10, _, rfl⟩
                · exact ⟨L, _, _, .int (-1), rfl, rfl, .inl (.inl (k10 _ _ pL hL)), rfl, _, _, rfl, rfl, cmul (a := 40) (b := 2) hb (by decide), s10, P10, _, rfl⟩
              · exact ⟨Kp.sm s8 np k9, P9, _, rfl⟩
            · clear hr7 s8 P8 k8 n0 n1 P7 nr s7 s6 k6 P6 s5 P5 n hlen
              rintro σ' H8 ⟨s8, P8, n, rfl⟩
              refine ⟨by show 1 ≤ sizeLine; decide, fun l nl => ?_⟩
              have hl := upd_same (H := H8) (a := l) (o := .lst [V.str "choice"])
              have s9 := s8.trans (same_upd (o := .lst [V.str "choice"]) nl)
              generalize upd H8 l (.lst [V.str "choice"]) = H9 at hl s9 ⊢
              have m1 : 1 ≤ 1 + d := by omega
              have m5 : 1 + d ≤ 5 := by omega
              generalize 1 + d = m at m1 m5 ⊢
              refine ⟨fun σ' H' => Same H H' ∧ ∃ (v : V), σ' = [some (.ref a), some (.int m), some (.int n), some (.str t), v4, some (.int (0 + (i : Int))), some (.ref p), some v, v8] ∧ DueN n m H' v, ?_, ?_⟩
              · refine ⟨_, rfl, _, _, rfl, rfl, _, rfl, ite2 (fun z1 => ?_) (fun z1 => ?_)⟩
                · have i0 : 0 ≤ n := of_decide_eq_true z1
                  refine ⟨_, rfl, m, rfl, by omega, by omega, fun r H10 s10 nr hr10 => ?_⟩
                  have hlen : ((genM m.toNat).map V.str).length = (genM m.toNat).length := List.length_map ..
                  refine ⟨r, _, rfl, .inl (.inl (.inl hr10)), _, _, rfl, rfl, _, rfl, ?_⟩
                  by_cases il : n < (((genM m.toNat).map V.str).length : Nat)
                  · rw [decide_eq_true il]
                    refine iteT ?_
                    rw [hlen] at il
                    have hi : n.toNat < (genM m.toNat).length := by omega
                    have ht := List.getElem?_eq_getElem hi
                    refine ⟨_, rfl, m, rfl, by omega, by omega, fun r H11 s11 nr hr11 => ?_⟩
                    exact ⟨_, rfl, r, _, _, .str (genM m.toNat)[n.toNat], rfl, rfl, .inl (.inl hr11), at_of (j := n.toNat) (by omega) (by rw [List.getElem?_map, ht]; rfl), (s9.trans s10).trans s11, _, rfl, .inl ⟨i0, _, ht, rfl⟩⟩
                  · rw [decide_eq_false il]
                    rw [hlen] at il
                    exact iteF ⟨s9.trans s10, _, rfl, .inr ⟨fun z => il z.2, l, rfl, s10 _ _ hl⟩⟩
                · exact ⟨_, rfl, iteF ⟨s9, _, rfl, .inr ⟨fun z => z1 (decide_eq_true z.1), l, rfl, hl⟩⟩⟩
              · clear hl s9 nl s8 P8
                rintro σ' H10 ⟨s10, v, rfl, due⟩
                refine ⟨_, rfl, _, rfl, .non, n, m, rfl, .inr ⟨rfl, m1, m5, fun u H11 i0 hu s11 => ?_, fun z r H11 s11 nr hr11 => ?_⟩⟩
                · rcases due with ⟨_, u', hu', rfl⟩ | ⟨nc, _⟩
                  · have eu : u = u' := Option.some.inj (hu.symm.trans hu')
                    subst eu
                    have sh := sh_s (gen_asc (List.mem_of_getElem? hu))
                    refine ⟨_, rfl, _, _, .str _, .str _, sh, sh, _, rfl, ?_⟩
                    rw [eqv_s]
                    exact iteF ⟨s10.trans s11, _, _, _, _, _, _, _, _, rfl⟩
                  · refine absurd ⟨i0, ?_⟩ nc
                    have := (List.getElem?_eq_some_iff.mp hu).1
                    omega
                · rcases due with ⟨i0, u', hu', rfl⟩ | ⟨nc, l, rfl, hl⟩
                  · refine absurd ⟨i0, ?_⟩ z
                    have := (List.getElem?_eq_some_iff.mp hu').1
                    omega
                  · refine ⟨_, rfl, _, _, .lst (.inl (.inl hr11)) (.cons (.str _) .nil), .lst (.inl (.inl (s11 _ _ hl))) (.cons (.str _) .nil), sh_ch, sh_ch, _, rfl, ?_⟩
                    rw [eqv_ch]
                    exact iteF ⟨s10.trans s11, _, _, _, _, _, _, _, _, rfl⟩
      · rintro σ H1 ⟨s1, v1, v2, v3, v4, v5, v6, v7, v8, rfl⟩
        exact q _
end
theorem all_mk {w : World} {K : PySem.W.Frag} {h : Heap} {mg : Str → Option Value} {fa f1 f2 f3 f4 f5 f6 f7 f8 f9 f10 f11 t1 : Addr} (X : K.In h) (G : h.Ns mainGlobals mg) (hfa : mg "law" = some (.ref fa))
    {od1 an1 od2 an2 od3 an3 od4 an4 od5 an5 od6 an6 od7 an7 od8 an8 od9 an9 od10 an10 od11 an11 odt1 : Option Addr} {sl1 sl2 sl3 sl4 sl5 sl6 sl7 sl8 sl9 sl10 sl11 slt1 : Array (Option Value)} {oc1 kV1 dc1 pm1 cd1 ct1 oc2 kV2 dc2 pm2 cd2 ct2 oc3 kV3 dc3 pm3 cd3 ct3 oc4 kV4 dc4 pm4 cd4 ct4 oc5 kV5 dc5 pm5 cd5 ct5 oc6 kV6 dc6 pm6 cd6 ct6 oc7 kV7 dc7 pm7 cd7 ct7 oc8 kV8 dc8 pm8 cd8 ct8 oc9 kV9 dc9 pm9 cd9 ct9 oc10 kV10 dc10 pm10 cd10 ct10 oc11 kV11 dc11 pm11 cd11 ct11 oct1 : Value}
    {tk1 : Tok} {nt1 : Nat}
    {C_SlackError C_NoNumber C_NoTable C_NoRow C_NoChoice C_Flat C_NoSaying C_Lifted C_NoCover C_Dipped C_NotOne C_NoText C_NoLine C_NoName : Addr} {tkM : Tok}
    (g_SlackError : PySem.W.nsIn K mainGlobals "SlackError" = some (some (.ref C_SlackError)))
    (g_NoNumber : PySem.W.nsIn K mainGlobals "NoNumber" = some (some (.ref C_NoNumber)))
    (g_NoTable : PySem.W.nsIn K mainGlobals "NoTable" = some (some (.ref C_NoTable)))
    (g_NoRow : PySem.W.nsIn K mainGlobals "NoRow" = some (some (.ref C_NoRow)))
    (g_NoChoice : PySem.W.nsIn K mainGlobals "NoChoice" = some (some (.ref C_NoChoice)))
    (g_Flat : PySem.W.nsIn K mainGlobals "Flat" = some (some (.ref C_Flat)))
    (g_NoSaying : PySem.W.nsIn K mainGlobals "NoSaying" = some (some (.ref C_NoSaying)))
    (g_Lifted : PySem.W.nsIn K mainGlobals "Lifted" = some (some (.ref C_Lifted)))
    (g_NoCover : PySem.W.nsIn K mainGlobals "NoCover" = some (some (.ref C_NoCover)))
    (g_Dipped : PySem.W.nsIn K mainGlobals "Dipped" = some (some (.ref C_Dipped)))
    (g_NotOne : PySem.W.nsIn K mainGlobals "NotOne" = some (some (.ref C_NotOne)))
    (g_NoText : PySem.W.nsIn K mainGlobals "NoText" = some (some (.ref C_NoText)))
    (g_NoLine : PySem.W.nsIn K mainGlobals "NoLine" = some (some (.ref C_NoLine)))
    (g_NoName : PySem.W.nsIn K mainGlobals "NoName" = some (some (.ref C_NoName)))
    (sExc : PySem.W.subIn K (.ref C_SlackError) (.type "BaseException") = some true)
    (sHd : PySem.W.hasDictIn K C_SlackError = true)
    (sTy : PySem.W.typeIn K (.ref C_SlackError) = some (.type "type"))
    (mp : PySem.W.nsIn K mainGlobals "MOST_PLACES" = some (some (.int 5 tkM)))
    (xC : PySem.W.excIn K C_NoChoice [.type "ValueError", .type "Exception", .type "BaseException", .type "object"] "ValueError.__new__" = true)
    (ga : PySem.W.findIn K (.ref C_NoChoice) "__getattribute__" = some (some (.builtin "BaseException.__getattribute__")))
    (gg : PySem.W.findIn K (.ref C_NoChoice) "__getattr__" = some none)
    (kC : PySem.W.keepIn K (.ref C_NoChoice) = true)
    (exC : PySem.W.subIn K (.ref C_NoChoice) (.type "BaseException") = some true)
    (tyC : PySem.W.typeIn K (.ref C_NoChoice) = some (.type "type"))
    (hdC : PySem.W.hasDictIn K C_NoChoice = true)
    (haC : PySem.W.findIn K (.ref C_NoChoice) "__class__" = some (some (.builtin "object.__class__")))
    (hnC : PySem.W.specialIn K (.builtin "object.__class__") "__get__" = some (some (.builtin "getset_descriptor.__get__")))
    (htC : PySem.W.takesIn K (.builtin "object.__class__") = some true)
    (hmC : PySem.W.mroIn K C_NoChoice (.type "object") = some true)
    (kve : PySem.W.kitOne K (.ref C_NoChoice) (.type "ValueError") = some true)
    (kq0 : PySem.W.kitOne K (.ref C_NoChoice) (.ref C_SlackError) = some true)
    (kq1 : PySem.W.kitOne K (.ref C_NoChoice) (.ref C_NoNumber) = some false)
    (kq2 : PySem.W.kitOne K (.ref C_NoChoice) (.ref C_NoTable) = some false)
    (kq3 : PySem.W.kitOne K (.ref C_NoChoice) (.ref C_NoRow) = some false)
    (kq4 : PySem.W.kitOne K (.ref C_NoChoice) (.ref C_NoChoice) = some true)
    (kq5 : PySem.W.kitOne K (.ref C_NoChoice) (.ref C_Flat) = some false)
    (kq6 : PySem.W.kitOne K (.ref C_NoChoice) (.ref C_NoSaying) = some false)
    (kq7 : PySem.W.kitOne K (.ref C_NoChoice) (.ref C_Lifted) = some false)
    (kq8 : PySem.W.kitOne K (.ref C_NoChoice) (.ref C_NoCover) = some false)
    (kq9 : PySem.W.kitOne K (.ref C_NoChoice) (.ref C_Dipped) = some false)
    (kq10 : PySem.W.kitOne K (.ref C_NoChoice) (.ref C_NotOne) = some false)
    (kq11 : PySem.W.kitOne K (.ref C_NoChoice) (.ref C_NoText) = some false)
    (kq12 : PySem.W.kitOne K (.ref C_NoChoice) (.ref C_NoLine) = some false)
    (kq13 : PySem.W.kitOne K (.ref C_NoChoice) (.ref C_NoName) = some false)
    (sSub : PySem.W.subIn K (.ref C_NoChoice) (.ref C_SlackError) = some true)
    (a1 : PySem.W.nsIn K mainGlobals "choices" = some (some (.ref f1))) (l1 : K.lookup f1 = some ⟨oc1, od1, .func (PySem.W.fnOf "choices" "choices" (defArgs s_choices) (defBody s_choices) (defScope s_choices) (.ref t1) kV1 dc1 pm1 an1 cd1 ct1), sl1⟩) (c1 : PySem.W.codeIn K cd1 "choices" = true) (k1 : PySem.W.keepIn K (.ref f1) = true)
    (lt1 : K.lookup t1 = some ⟨oct1, odt1, .seq #[.int 0 tk1] nt1, slt1⟩)
    (a2 : PySem.W.nsIn K mainGlobals "choice_number" = some (some (.ref f2))) (l2 : K.lookup f2 = some ⟨oc2, od2, .func (PySem.W.fnOf "choice_number" "choice_number" (defArgs s_choice_number) (defBody s_choice_number) (defScope s_choice_number) .none kV2 dc2 pm2 an2 cd2 ct2), sl2⟩) (c2 : PySem.W.codeIn K cd2 "choice_number" = true) (k2 : PySem.W.keepIn K (.ref f2) = true)
    (a3 : PySem.W.nsIn K mainGlobals "choice_at" = some (some (.ref f3))) (l3 : K.lookup f3 = some ⟨oc3, od3, .func (PySem.W.fnOf "choice_at" "choice_at" (defArgs s_choice_at) (defBody s_choice_at) (defScope s_choice_at) .none kV3 dc3 pm3 an3 cd3 ct3), sl3⟩) (c3 : PySem.W.codeIn K cd3 "choice_at" = true) (k3 : PySem.W.keepIn K (.ref f3) = true)
    (a4 : PySem.W.nsIn K mainGlobals "_law_mixed" = some (some (.ref f4))) (l4 : K.lookup f4 = some ⟨oc4, od4, .func (PySem.W.fnOf "_law_mixed" "_law_mixed" (defArgs s__law_mixed) (defBody s__law_mixed) (defScope s__law_mixed) .none kV4 dc4 pm4 an4 cd4 ct4), sl4⟩) (c4 : PySem.W.codeIn K cd4 "_law_mixed" = true) (k4 : PySem.W.keepIn K (.ref f4) = true)
    (a5 : PySem.W.nsIn K mainGlobals "_law_pile" = some (some (.ref f5))) (l5 : K.lookup f5 = some ⟨oc5, od5, .func (PySem.W.fnOf "_law_pile" "_law_pile" (defArgs s__law_pile) (defBody s__law_pile) (defScope s__law_pile) .none kV5 dc5 pm5 an5 cd5 ct5), sl5⟩) (c5 : PySem.W.codeIn K cd5 "_law_pile" = true) (k5 : PySem.W.keepIn K (.ref f5) = true)
    (a6 : PySem.W.nsIn K mainGlobals "_law_take" = some (some (.ref f6))) (l6 : K.lookup f6 = some ⟨oc6, od6, .func (PySem.W.fnOf "_law_take" "_law_take" (defArgs s__law_take) (defBody s__law_take) (defScope s__law_take) .none kV6 dc6 pm6 an6 cd6 ct6), sl6⟩) (c6 : PySem.W.codeIn K cd6 "_law_take" = true) (k6 : PySem.W.keepIn K (.ref f6) = true)
    (a7 : PySem.W.nsIn K mainGlobals "_law_kind" = some (some (.ref f7))) (l7 : K.lookup f7 = some ⟨oc7, od7, .func (PySem.W.fnOf "_law_kind" "_law_kind" (defArgs s__law_kind) (defBody s__law_kind) (defScope s__law_kind) .none kV7 dc7 pm7 an7 cd7 ct7), sl7⟩) (c7 : PySem.W.codeIn K cd7 "_law_kind" = true) (k7 : PySem.W.keepIn K (.ref f7) = true)
    (a8 : PySem.W.nsIn K mainGlobals "_law_choices" = some (some (.ref f8))) (l8 : K.lookup f8 = some ⟨oc8, od8, .func (PySem.W.fnOf "_law_choices" "_law_choices" (defArgs s__law_choices) (defBody s__law_choices) (defScope s__law_choices) .none kV8 dc8 pm8 an8 cd8 ct8), sl8⟩) (c8 : PySem.W.codeIn K cd8 "_law_choices" = true) (k8 : PySem.W.keepIn K (.ref f8) = true)
    (a9 : PySem.W.nsIn K mainGlobals "_law_caught" = some (some (.ref f9))) (l9 : K.lookup f9 = some ⟨oc9, od9, .func (PySem.W.fnOf "_law_caught" "_law_caught" (defArgs s__law_caught) (defBody s__law_caught) (defScope s__law_caught) .none kV9 dc9 pm9 an9 cd9 ct9), sl9⟩) (c9 : PySem.W.codeIn K cd9 "_law_caught" = true) (k9 : PySem.W.keepIn K (.ref f9) = true)
    (a10 : PySem.W.nsIn K mainGlobals "_law_text" = some (some (.ref f10))) (l10 : K.lookup f10 = some ⟨oc10, od10, .func (PySem.W.fnOf "_law_text" "_law_text" (defArgs s__law_text) (defBody s__law_text) (defScope s__law_text) .none kV10 dc10 pm10 an10 cd10 ct10), sl10⟩) (c10 : PySem.W.codeIn K cd10 "_law_text" = true) (k10 : PySem.W.keepIn K (.ref f10) = true)
    (a11 : PySem.W.nsIn K mainGlobals "law" = some (some (.ref f11))) (l11 : K.lookup f11 = some ⟨oc11, od11, .func (PySem.W.fnOf "law" "law" (defArgs s_law) (defBody s_law) (defScope s_law) .none kV11 dc11 pm11 an11 cd11 ct11), sl11⟩) (c11 : PySem.W.codeIn K cd11 "law" = true) (k11 : PySem.W.keepIn K (.ref f11) = true)
    (z_abs : PySem.W.nsIn K mainGlobals "abs" = some none)
    (z_len : PySem.W.nsIn K mainGlobals "len" = some none)
    (z_range : PySem.W.nsIn K mainGlobals "range" = some none)
    (z_isinstance : PySem.W.nsIn K mainGlobals "isinstance" = some none)
    (z_zip : PySem.W.nsIn K mainGlobals "zip" = some none)
    (z_int : PySem.W.nsIn K mainGlobals "int" = some none)
    (z_bool : PySem.W.nsIn K mainGlobals "bool" = some none)
    (z_enumerate : PySem.W.nsIn K mainGlobals "enumerate" = some none)
    (z_ValueError : PySem.W.nsIn K mainGlobals "ValueError" = some none)
    : ∃ fd : FuncData, (∀ (s : Shared) (v : Value), BindsTo s fd ⟨[v], []⟩ [("_law_script", v)]) ∧ ∀ base : Heap, K.In base → base.Ns mainGlobals mg → FnOk RW0 w K mg base CX0 4 fa fd ["_law_script"] (spLaw K) := by
  have e := hfa.symm.trans (PySem.W.mg_of X G a11)
  cases e
  have g1 := PySem.W.mg_of X G a1
  have F2 := fun_mk (st := s_choice_number) l2 c2 k2
  have g2 := PySem.W.mg_of X G a2
  have F3 := fun_mk (st := s_choice_at) l3 c3 k3
  have g3 := PySem.W.mg_of X G a3
  have F4 := fun_mk (st := s__law_mixed) l4 c4 k4
  have g4 := PySem.W.mg_of X G a4
  have F5 := fun_mk (st := s__law_pile) l5 c5 k5
  have g5 := PySem.W.mg_of X G a5
  have F6 := fun_mk (st := s__law_take) l6 c6 k6
  have g6 := PySem.W.mg_of X G a6
  have F7 := fun_mk (st := s__law_kind) l7 c7 k7
  have g7 := PySem.W.mg_of X G a7
  have F8 := fun_mk (st := s__law_choices) l8 c8 k8
  have g8 := PySem.W.mg_of X G a8
  have F9 := fun_mk (st := s__law_caught) l9 c9 k9
  have g9 := PySem.W.mg_of X G a9
  have F10 := fun_mk (st := s__law_text) l10 c10 k10
  have g10 := PySem.W.mg_of X G a10
  have F11 := fun_mk (st := s_law) l11 c11 k11
  have g11 := PySem.W.mg_of X G a11
  let c : Adr := ⟨C_SlackError, C_NoNumber, C_NoTable, C_NoRow, C_NoChoice, C_Flat, C_NoSaying, C_Lifted, C_NoCover, C_Dipped, C_NotOne, C_NoText, C_NoLine, C_NoName⟩
  have T : Txt K mg c := ⟨PySem.W.mg_none_of X G z_abs, PySem.W.mg_none_of X G z_len, PySem.W.mg_none_of X G z_range, PySem.W.mg_none_of X G z_isinstance, PySem.W.mg_none_of X G z_zip, PySem.W.mg_none_of X G z_int, PySem.W.mg_none_of X G z_bool, PySem.W.mg_none_of X G z_enumerate, ⟨tkM, PySem.W.mg_of X G mp⟩, PySem.W.mg_none_of X G z_ValueError, PySem.W.mg_of X G g_SlackError, PySem.W.mg_of X G g_NoNumber, PySem.W.mg_of X G g_NoTable, PySem.W.mg_of X G g_NoRow, PySem.W.mg_of X G g_NoChoice, PySem.W.mg_of X G g_Flat, PySem.W.mg_of X G g_NoSaying, PySem.W.mg_of X G g_Lifted, PySem.W.mg_of X G g_NoCover, PySem.W.mg_of X G g_Dipped, PySem.W.mg_of X G g_NotOne, PySem.W.mg_of X G g_NoText, PySem.W.mg_of X G g_NoLine, PySem.W.mg_of X G g_NoName⟩
  have ec : ExcC K c.NoChoice := ⟨ga, gg, exC, hdC, haC, hnC, htC, hmC⟩
  have kN : KindOf K c c.NoChoice bCh := ⟨ec, kve, kq0, kq1, kq2, kq3, kq4, kq5, kq6, kq7, kq8, kq9, kq10, kq11, kq12, kq13⟩
  have te : PySem.W.exmOne K (.ref c.NoChoice) (.ref c.SlackError) = some true := PySem.W.exm_ref sExc sHd sTy sSub
  have F1 : FunD K "choices" "choices" (defArgs s_choices) (defBody s_choices) (defScope s_choices) [.int 0] [] f1 _ := ⟨⟨oc1, od1, .ref t1, kV1, dc1, pm1, an1, cd1, ct1, sl1, rfl, l1, c1, .inr ⟨(by intro z; cases z), t1, _, [.int 0 tk1], nt1, rfl, lt1, rfl, .cons ⟨tk1, rfl⟩ .nil⟩, .inl rfl⟩, k1⟩
  obtain ⟨ds1, v1, b1⟩ := F1.binds1 (ps := ["many", "least"]) 1 0 (by intro z; cases z) rfl (fun T kV doc pm an cdv ct us its h1 h2 => match us, its, h1, h2 with | [_], [_], _, _ => ⟨_, rfl, rfl⟩)
  have b2 := F2.binds (ps := ["choice"]) fun _ _ _ _ _ _ us hl => match us, hl with | [_], _ => rfl
  have b3 := F3.binds (ps := ["number", "many"]) fun _ _ _ _ _ _ us hl => match us, hl with | [_, _], _ => rfl
  have b4 := F4.binds (ps := ["_law_cell", "_law_k"]) fun _ _ _ _ _ _ us hl => match us, hl with | [_, _], _ => rfl
  have b5 := F5.binds (ps := ["_law_script", "_law_k"]) fun _ _ _ _ _ _ us hl => match us, hl with | [_, _], _ => rfl
  have b6 := F6.binds (ps := ["_law_pile_here", "_law_my_many"]) fun _ _ _ _ _ _ us hl => match us, hl with | [_, _], _ => rfl
  have b7 := F7.binds (ps := ["_law_error"]) fun _ _ _ _ _ _ us hl => match us, hl with | [_], _ => rfl
  have b8 := F8.binds (ps := ["_law_my_many"]) fun _ _ _ _ _ _ us hl => match us, hl with | [_], _ => rfl
  have b9 := F9.binds (ps := ["_law_text_here", "_law_my_number", "_law_my_many"]) fun _ _ _ _ _ _ us hl => match us, hl with | [_, _, _], _ => rfl
  have b10 := F10.binds (ps := ["_law_pile_here"]) fun _ _ _ _ _ _ us hl => match us, hl with | [_], _ => rfl
  have kw2 : KBn K (PySem.W.fnOf "choice_number" "choice_number" (defArgs s_choice_number) (defBody s_choice_number) (defScope s_choice_number) .none kV2 dc2 pm2 an2 cd2 ct2) ["choice"] 0 ["choice"] (fun _ ws => ws) (fun _ zs => zs) := ⟨fun s us ws X h1 h2 => match us, ws, h1, h2 with | [], [_], _, _ => .of_eq rfl, fun _ r => r⟩
  have kw3 : KBn K (PySem.W.fnOf "choice_at" "choice_at" (defArgs s_choice_at) (defBody s_choice_at) (defScope s_choice_at) .none kV3 dc3 pm3 an3 cd3 ct3) ["number", "many"] 0 ["many", "number"] (fun _ ws => ws.reverse) (fun _ zs => zs.reverse) := ⟨fun s us ws X h1 h2 => match us, ws, h1, h2 with | [], [_, _], _, _ => .of_eq rfl, fun _ r => vals_rev r⟩
  refine ⟨PySem.W.fnOf "law" "law" (defArgs s_law) (defBody s_law) (defScope s_law) .none kV11 dc11 pm11 an11 cd11 ct11, fun s v => .of_eq rfl, fun base _ _ => ?_⟩
  have C1d : CalD RW0 w K mg base 1 "choices" ["many", "least"] spCh [.int 0] := ⟨f1, _, _, ok_ch (k := 0) F1 T, g1, k1, b1, v1⟩
  have O2 := ok_num (P := RW0) (w := w) (mg := mg) (base := base) (k := 0) F2 T xC kC exC tyC C1d
  have O3 := ok_at (P := RW0) (w := w) (mg := mg) (base := base) (k := 0) F3 T xC kC exC tyC C1d
  have C2 : CalX RW0 w K mg base 2 "choice_number" ["choice"] (spNum c) [] := ⟨f2, _, _, O2, g2, k2, b2, .nil⟩
  have C2k : CalXK RW0 w K mg base 2 "choice_number" ["choice"] (spNum c) 0 ["choice"] (fun _ zs => zs) := ⟨f2, _, _, O2, g2, k2, kw2⟩
  have C3 : CalX RW0 w K mg base 2 "choice_at" ["number", "many"] (spAt c) [] := ⟨f3, _, _, O3, g3, k3, b3, .nil⟩
  have C3k : CalXK RW0 w K mg base 2 "choice_at" ["number", "many"] (spAt c) 0 ["many", "number"] (fun _ zs => zs.reverse) := ⟨f3, _, _, O3, g3, k3, kw3⟩
  have C4 : Cal RW0 w K mg base 1 "_law_mixed" ["_law_cell", "_law_k"] spMix := ⟨f4, _, ok_mix (k := 0) F4, g4, k4, b4⟩
  have C5 : Cal RW0 w K mg base 1 "_law_pile" ["_law_script", "_law_k"] (spPile K) := ⟨f5, _, ok_pile (k := 0) F5 T, g5, k5, b5⟩
  have C6 : Cal RW0 w K mg base 2 "_law_take" ["_law_pile_here", "_law_my_many"] spTake := ⟨f6, _, ok_take (k := 0) F6 C4, g6, k6, b6⟩
  have C7 : Cal RW0 w K mg base 1 "_law_kind" ["_law_error"] (spKind K c) := ⟨f7, _, ok_kind (k := 0) F7 T kN, g7, k7, b7⟩
  have C8 : Cal RW0 w K mg base 1 "_law_choices" ["_law_my_many"] spLc := ⟨f8, _, ok_lc (k := 0) F8 T, g8, k8, b8⟩
  have C9 : Cal RW0 w K mg base 3 "_law_caught" ["_law_text_here", "_law_my_number", "_law_my_many"] (spCaught c) := ⟨f9, _, ok_caught (k := 0) F9 T te C7 C3 C2, g9, k9, b9⟩
  have C10 : Cal RW0 w K mg base 3 "_law_text" ["_law_pile_here"] spText := ⟨f10, _, ok_text (k := 0) F10 T C6, g10, k10, b10⟩
  exact ok_law F11 T C2 C2k C3 C3k C8 C5 C6 C10 C9
end Toy
open PySem PySem.W PyProof.Rows
set_option maxRecDepth 100000 in
set_option maxHeartbeats 0 in
theorem PySem.Challenge.cw_eitherslack_k04_choices_numbered_holds : PySem.Challenge.rw_eitherslack_k04_choices_numbered.Holds := by
  w_on; o_law; k_head; (case hw => w_witness2)
  k_fill
  refine L2.walk_of (l := PySem.Challenge.rw_eitherslack_k04_choices_numbered) (n := 63) (k := 4) (x := "_law_script") (CX := fun _ => L2.CX0) (sp := fun w => Toy.spLaw _) rfl (by decide) rfl ⟨rfl, by decide, by decide⟩ (fun w h Y => PySem.W.kIn_of Y) ?F (fun _ _ a ns hl _ hS => ⟨a, ns, rfl, hS, hl, fun _ => rfl⟩) (fun _ _ _ _ _ h => h)
  case F =>
    intro w mg fa h KX G hmg
    refine' Toy.all_mk KX G hmg ?g_SlackError ?g_NoNumber ?g_NoTable ?g_NoRow ?g_NoChoice ?g_Flat ?g_NoSaying ?g_Lifted ?g_NoCover ?g_Dipped ?g_NotOne ?g_NoText ?g_NoLine ?g_NoName ?sExc ?sHd ?sTy ?mp ?xC ?ga ?gg ?kC ?exC ?tyC ?hdC ?haC ?hnC ?htC ?hmC ?kve ?kq0 ?kq1 ?kq2 ?kq3 ?kq4 ?kq5 ?kq6 ?kq7 ?kq8 ?kq9 ?kq10 ?kq11 ?kq12 ?kq13 ?sSub ?a1 ?l1 ?c1 ?k1 ?lt1 ?a2 ?l2 ?c2 ?k2 ?a3 ?l3 ?c3 ?k3 ?a4 ?l4 ?c4 ?k4 ?a5 ?l5 ?c5 ?k5 ?a6 ?l6 ?c6 ?k6 ?a7 ?l7 ?c7 ?k7 ?a8 ?l8 ?c8 ?k8 ?a9 ?l9 ?c9 ?k9 ?a10 ?l10 ?c10 ?k10 ?a11 ?l11 ?c11 ?k11 ?z_abs ?z_len ?z_range ?z_isinstance ?z_zip ?z_int ?z_bool ?z_enumerate ?z_ValueError
    (case g_SlackError => k_is)
    (case g_NoNumber => k_is)
    (case g_NoTable => k_is)
    (case g_NoRow => k_is)
    (case g_NoChoice => k_is)
    (case g_Flat => k_is)
    (case g_NoSaying => k_is)
    (case g_Lifted => k_is)
    (case g_NoCover => k_is)
    (case g_Dipped => k_is)
    (case g_NotOne => k_is)
    (case g_NoText => k_is)
    (case g_NoLine => k_is)
    (case g_NoName => k_is)
    (case sExc => k_is)
    (case sHd => k_is)
    (case sTy => k_is)
    (case mp => k_is)
    (case xC => k_exc)
    (case ga => k_is)
    (case gg => k_is)
    (case kC => k_is)
    (case exC => k_is)
    (case tyC => k_is)
    (case hdC => k_is)
    (case haC => k_is)
    (case hnC => k_is)
    (case htC => k_is)
    (case hmC => k_is)
    (case kve => kit_is)
    (case kq0 => kit_is)
    (case kq1 => kit_is)
    (case kq2 => kit_is)
    (case kq3 => kit_is)
    (case kq4 => kit_is)
    (case kq5 => kit_is)
    (case kq6 => kit_is)
    (case kq7 => kit_is)
    (case kq8 => kit_is)
    (case kq9 => kit_is)
    (case kq10 => kit_is)
    (case kq11 => kit_is)
    (case kq12 => kit_is)
    (case kq13 => kit_is)
    (case sSub => k_is)
    (case a1 => k_is)
    (case l1 => k_is)
    (case c1 => k_is)
    (case k1 => k_is)
    (case lt1 => k_is)
    (case a2 => k_is)
    (case l2 => k_is)
    (case c2 => k_is)
    (case k2 => k_is)
    (case a3 => k_is)
    (case l3 => k_is)
    (case c3 => k_is)
    (case k3 => k_is)
    (case a4 => k_is)
    (case l4 => k_is)
    (case c4 => k_is)
    (case k4 => k_is)
    (case a5 => k_is)
    (case l5 => k_is)
    (case c5 => k_is)
    (case k5 => k_is)
    (case a6 => k_is)
    (case l6 => k_is)
    (case c6 => k_is)
    (case k6 => k_is)
    (case a7 => k_is)
    (case l7 => k_is)
    (case c7 => k_is)
    (case k7 => k_is)
    (case a8 => k_is)
    (case l8 => k_is)
    (case c8 => k_is)
    (case k8 => k_is)
    (case a9 => k_is)
    (case l9 => k_is)
    (case c9 => k_is)
    (case k9 => k_is)
    (case a10 => k_is)
    (case l10 => k_is)
    (case c10 => k_is)
    (case k10 => k_is)
    (case a11 => k_is)
    (case l11 => k_is)
    (case c11 => k_is)
    (case k11 => k_is)
    (case z_abs => k_is)
    (case z_len => k_is)
    (case z_range => k_is)
    (case z_isinstance => k_is)
    (case z_zip => k_is)
    (case z_int => k_is)
    (case z_bool => k_is)
    (case z_enumerate => k_is)
    (case z_ValueError => k_is)
