import PyProof.Rows.All
import Wide.All
import OpenK.AllK
import Wide.FinOn
import HandS.ForMost
import HandS.Wide
import HandS.Defaults
import HandS.IsInst
import HandS.Style
import HandS.Flow
import HandS.Walk
import HandS.Codes
import HandS.ForExc
import HandS.ExcOwn
import HandS.ExcIs
import HandS.ExcField
import HandS.ExcValue
import HandS.CallSlots
import HandS.ExcInit
import HandS.ExcSuper
import HandS.OwnEq
import HandS.Zip
import HandS.Conv
import HandS.StrMore
import HandS.FStr
import KE.KExcSuper
import KE.KExcIs
import PySem.Challenge.RW_eitherslack_k05_tables_refused
set_option Elab.async false
set_option linter.all false
set_option maxRecDepth 100000
set_option synthInstance.maxSize 100000
set_option synthInstance.maxHeartbeats 4000000
namespace L2
open PySem PySem.Spec PyProof.Rows
/-! ### an exception as a value: tracked at its own address; its fields, if any, in a tracked dict -/
def exv (a : Addr) (cls : Value) (d : Option Addr) : HO := .ext fun h => ∃ (oe : Obj) (vs : Array Value), h.get? a = some oe ∧ Zc cls d oe ∧ oe.data = .fields vs
theorem exv_ok {P : Program} {w : World} {H : Hp} {h : Heap} {a : Addr} {cls : Value} {d : Option Addr} {oe : Obj} {vs : Array Value} (e : h.get? a = some oe) (z : Zc cls d oe) (hd : oe.data = .fields vs) : ObjOk P w H h a (exv a cls d) :=
  ⟨⟨oe, vs, e, z, hd⟩, ⟨oe, e⟩, fun h1 h2 p k => by
    obtain ⟨o, us, e1, e2, e3⟩ := p
    exact ⟨o, us, k o e1, e2, e3⟩⟩
theorem exv_at {P : Program} {w : World} {H : Hp} {h : Heap} {a : Addr} {cls : Value} {d : Option Addr} (ok : HOk P w H h) (e : H a = some (exv a cls d)) : ∃ (oe : Obj) (vs : Array Value), h.get? a = some oe ∧ Zc cls d oe ∧ oe.data = .fields vs := (ok a _ e).1
/-- an object of ours, laid since the entry, is from now on tracked -/
theorem Inv.track {X : Cx} {pins : List (Addr × Obj)} {σ : St} {H : Hp} {s : Shared} {a : Addr} {o : HO} (I : Inv X pins σ H s) (h0 : X.s_0.heap.get? a = none) (na : H a = none) (nL : a ≠ X.env.locals) (nC : ∀ y c, X.env.cells.lookup y = some c → c ≠ a) (nP : ∀ p ∈ X.pn ++ pins, p.1 ≠ a)
    (new : ObjOk X.prog X.w (upd H a o) s.heap a o) : Inv X pins σ (upd H a o) s := by
  have other : ∀ b, b ≠ a → upd H a o b = H b := fun b n => upd_ne n
  have had : ∀ b u, H b = some u → upd H a o b = some u := fun b u q => by
    rw [other b (ne_of_none q na)]
    exact q
  have old : ∀ b u, X.s_0.heap.get? b = some u → b ≠ a := fun b u q z => by
    rw [z, h0] at q
    cases q
  refine { I with base := ⟨I.base.keep, I.base.slot, fun b u q n hx => ?_, I.base.there, fun b xs q => had _ _ (I.base.tups b xs q), fun b u xs q => had _ _ (I.base.frzs b u xs q), fun b ps q => ?_⟩, free := ?_, freeC := fun y c q => ?_, pin := fun p hp => ?_, hok := fun b u q => ?_ }
  · rw [other b (old b u q)]
    exact I.base.free b u q n hx
  · obtain ⟨m, z⟩ := I.base.tbls b ps q
    exact ⟨m, had _ _ z⟩
  · rw [other _ nL.symm]
    exact I.free
  · rw [other _ (nC y c q)]
    exact I.freeC y c q
  · obtain ⟨e1, e2, e3⟩ := I.pin p hp
    exact ⟨e1, by rw [other _ (nP p hp)]; exact e2, e3⟩
  · by_cases hb : b = a
    · subst hb
      rw [upd_same] at q
      cases q
      exact new
    · rw [other b hb] at q
      exact (I.hok b u q).stay (fun c v _ z => z) (fun c z => had _ _ z) fun c xs z => had _ _ z
/-- try: body / except x as n: y = n: what the clause wishes of an exception of the body; behind it y (slot j) holds the exception -/
def wKeep (K : PySem.W.Frag) (c : Value) (i j : Nat) (D : Ends) : WX := fun cls d σ H => PySem.W.exmOne K cls c = some true ∧ ∀ a, H a = none → D.nx (((σ.set i (some (.ref a))).set j (some (.ref a))).set i none) (upd H a (exv a cls d))
section
variable {X : Cx} {x n y : Str} {c : Value} {i j : Nat} {body : List Stmt} {np pos pos' pn' pa py : Pos} {tb : WX → TS}
theorem ps_try_keep (hs : X.stack = X.env :: X.outer) (hf : X.env.frame = some X.env.locals) (hex : X.ex = []) (hN : X.N.Nodup) (hi : X.N[i]? = some n) (hj : X.N[j]? = some y) (hln : X.env.kindOf n = some .local) (hly : X.env.kindOf y = some .local) (hc : Names X x c)
    (hdn : (n == ("__debug__" : Str)) = false) (hdc : (n == ("__classdict__" : Str)) = false)
    (hb : ∀ (W : WX) (pn : List (Addr × Obj)) (xe : Value → Shared → Prop), Takes (X.tr pn xe) W → PassesOwn (model X.prog X.w) X.A X.env xe → PSs (X.tr pn xe) body (tb W))
    (hsw : ∀ a pn, PS (X.suite a pn) (.Assign [.Name y py] (.Name n pn') pa) (tAsg (tVar i) (gName j))) :
    PS X (.Try body [.ExceptHandler (some (.Name x np)) (some n) [.Assign [.Name y py] (.Name n pn') pa] pos'] [] [] pos) (fun D σ H => tb (wKeep X.K c i j D) D σ H) := by
  refine ⟨fun pins s σ H D I h => ?_⟩
  have hfr : X.A.frames = some (X.env :: X.outer) := I.ok.frames.trans (congrArg some hs)
  refine wpAny_Try_except ?_
  refine wpAny_mono ((hb (wKeep X.K c i j D) (X.pn ++ pins) _ (fun u s' xx => ?kc) PassesOwn.looking).run [] s σ H D (I.toTry _) h) (fun f s1 hsp => ?kt) fun _ _ z => z
  case kt =>
    cases f with
    | ret u =>
      obtain ⟨v, σ', H', J', r, q⟩ := hsp
      exact ⟨v, σ', H', J'.ofTry I.ok, r, q⟩
    | next =>
      obtain ⟨σ', H', J', q⟩ := hsp
      exact wpAny_execs_nil ⟨σ', H', J'.ofTry I.ok, q⟩
    | _ =>
      obtain ⟨σ', H', J', q⟩ := hsp
      exact ⟨σ', H', J'.ofTry I.ok, q⟩
  case kc =>
    obtain ⟨a, B, sI, pins', σ', H', cls, d, rfl, J', nb, up, sky, na, os, ag, hm, hgo⟩ := xx
    have J : Inv X pins σ' H' sI := J'.ofTry I.ok
    rw [hs] at sky
    have Ba : B.get? a = none := by
      rcases sky with z | z | z
      · exact z.2.1
      · exact z.2.1
      · exact z.2.1
    show wpAny (model X.prog X.w) X.A (noteFrame (.ref a) X.env) _ _ _
    refine Sky.land Zc.steady hfr hf sky fun h3 fl3 up3 => ?_
    have J3 : Inv X pins σ' H' { s' with heap := h3 } := J.landed nb fl3.1 (up.trans up3) os ag
    obtain ⟨oe3, vs3, he3, hz3, hd3⟩ := fl3.there
    have nfr : a ∉ frs (X.env :: X.outer) := fun hm' => by
      obtain ⟨_, o', e', hnf⟩ := fl3.2.2.1.mem hm'
      rw [he3] at e'
      cases e'
      exact hnf _ hd3
    have nL : a ≠ X.env.locals := fun z => nfr (List.mem_filterMap.mpr ⟨X.env, List.mem_cons_self, by rw [hf, z]⟩)
    have nF : a ∉ X.fs := fun hm' => by
      obtain ⟨e, he, q⟩ := List.mem_filterMap.mp hm'
      exact nfr (List.mem_filterMap.mpr ⟨e, List.mem_cons_of_mem _ he, q⟩)
    -- the exception was not there at the entry
    have sIa : sI.heap.get? a = none := by
      cases z : sI.heap.get? a with
      | none => rfl
      | some o =>
        have q := nb a o z (by rw [hs]; exact nfr)
        rw [Ba] at q
        cases q
    have s0a : X.s_0.heap.get? a = none := by
      cases z : X.s_0.heap.get? a with
      | none => rfl
      | some o =>
        obtain ⟨o', q⟩ := J.base.there a o z (by rw [hex]; exact List.not_mem_nil)
        rw [sIa] at q
        cases q
    have nC : ∀ y c, X.env.cells.lookup y = some c → c ≠ a := fun y c q z => by
      obtain ⟨v, oc, e1, _⟩ := J.cell y c q
      rw [z, sIa] at e1
      cases e1
    have nP : ∀ p ∈ X.pn ++ pins, p.1 ≠ a := fun p hp z => by
      have q := (J.pin p hp).1
      rw [z, sIa] at q
      cases q
    have S3 := J3.suite he3 hd3 na nL nF
    refine wpAny_handleBy_cons (codeAny_handlers_test ?_) (by intro q; cases q)
    have LT : PySem.W.Looks (model X.prog X.w) h3 (typeOf (.ref a)) cls := fun A Q E s k q => wpAny_typeOf_ref (k _ _ he3) (by rw [hz3.1]; exact q)
    have LM := PySem.W.exm_one (M := model X.prog X.w) J3.kIn LT hm
    have test : ∀ {Q : Value → Shared → Prop} {E : Value → Shared → Prop}, Q c { s' with heap := h3 } → wpAny (model X.prog X.w) (X.A.mark (some (.ref a))) (eval (.Name x np) X.env) Q E { s' with heap := h3 } := fun {Q E} q => by
      obtain ⟨hg, hdbg, z | ⟨z, hv, hnn⟩⟩ := hc
      · exact ld_glob (X := X.suite a ((a, oe3) :: (X.pn ++ pins))) S3 hg z q hdbg
      · exact ld_blt (X := X.suite a ((a, oe3) :: (X.pn ++ pins))) S3 hg z hv q hnn hdbg
    refine test (LM.here (codeAny_handlers_suite_as ?_))
    refine HandSPX.lands_againZ fl3 fun h4 fl4 up4 => ?_
    have J4 : Inv X pins σ' H' { s' with heap := h4 } := J.landed nb fl4.1 ((up.trans up3).trans up4) os ag
    obtain ⟨oe4, vs4, he4, hz4, hd4⟩ := fl4.there
    have S4 := J4.suite he4 hd4 na nL nF
    refine store_ok (X := X.suite a ((a, oe4) :: (X.pn ++ pins))) (v := .ref a) S4 hN hi (.inl hln) rfl (fun s5 S5 => ?_) (.inr hln)
    have li : i < σ'.length := by
      rw [J.len]
      exact (List.getElem?_eq_some_iff.mp hi).1
    have get : (σ'.set i (some (V.ref a)))[i]? = some (some (V.ref a)) := List.getElem?_set_self li
    refine wpAny_mono ((pss_one (hsw a ((a, oe4) :: (X.pn ++ pins)))).run [] s5 _ H' { nx := fun σ6 H6 => σ6 = (σ'.set i (some (.ref a))).set j (some (.ref a)) ∧ H6 = H', rt := fun _ _ => False, bk := fun _ _ => False, ct := fun _ _ => False } S5 ⟨_, get, rfl, rfl⟩) (fun f s6 hsp => ?_) fun _ _ z => False.elim z
    cases f with
    | next =>
      obtain ⟨σ6, H6, S6, rfl, rfl⟩ := hsp
      have P6 : Inv X ((a, oe4) :: pins) ((σ'.set i (some (.ref a))).set j (some (.ref a))) H6 s6 :=
        ⟨I.ok, S6.os, S6.bare, S6.base, S6.loc, S6.cell, S6.free, S6.freeC, fun p hp => S6.pin p (by
          rw [List.append_nil]
          rcases List.mem_append.mp hp with z | z
          · exact List.mem_cons_of_mem _ (List.mem_append_left _ z)
          · rcases List.mem_cons.mp z with rfl | z
            · exact List.mem_cons_self
            · exact List.mem_cons_of_mem _ (List.mem_append_right _ z)), S6.hok, S6.len⟩
      refine gone_ok P6 hN hi hln fun s7 J7 => ?_
      have he7 := (J7.pin (a, oe4) (List.mem_append_right _ List.mem_cons_self)).1
      have J8 : Inv X pins (((σ'.set i (some (.ref a))).set j (some (.ref a))).set i none) H6 s7 := J7.pins_of fun p hp => J7.pin p (List.mem_append_right _ (List.mem_cons_of_mem _ hp))
      exact ⟨_, _, J8.track (o := exv a cls d) s0a na nL nC nP (exv_ok he7 hz4 hd4), hgo a na⟩
    | ret u =>
      obtain ⟨_, _, _, _, _, z⟩ := hsp
      exact z.elim
    | brk =>
      obtain ⟨_, _, _, z⟩ := hsp
      exact z.elim
    | cont =>
      obtain ⟨_, _, _, z⟩ := hsp
      exact z.elim
end
/-! ### isinstance and fields of such a value -/
def rIsX (K : PySem.W.Frag) : List V → Hp → VK → Prop := fun xs H Q => ∃ (a D : Addr) (d : Option Addr) (dx : Option HO) (c : V) (cv : Value) (b : Bool), xs = [.ref a, c] ∧ H a = some (exv a (.ref D) d) ∧ (∀ e, d = some e → ∃ fs, H e = some (.xd fs)) ∧ ExcC K D ∧ ClsV c cv ∧ PySem.W.kitOne K (.ref D) cv = some b ∧ Q (.bl b) H
theorem inst_exv {X : Cx} {pins : List (Addr × Obj)} {σ : St} {H : Hp} {s : Shared} {a D : Addr} {d : Option Addr} (I : Inv X pins σ H s) (h : H a = some (exv a (.ref D) d)) (hd : ∀ e, d = some e → ∃ fs, H e = some (.xd fs)) : ∃ oe od, PySem.W.InstAt s.heap a oe D od := by
  obtain ⟨oe, vs, e, z, hv⟩ := exv_at I.hok h
  have nc : PySem.W.notCls oe = true := by
    unfold PySem.W.notCls
    rw [hv] <;> rfl
  cases d with
  | none => exact ⟨oe, none, e, z.1, nc, by rw [z.2]; trivial⟩
  | some dd =>
    obtain ⟨fs, hf⟩ := hd dd rfl
    have hx : ObjOk X.prog X.w H s.heap dd (.xd fs) := I.hok dd _ hf
    obtain ⟨mA, ⟨od, _, _, ho, _⟩, _⟩ := hx
    exact ⟨oe, some od, e, z.1, nc, by rw [z.2]; exact ho⟩
theorem call_isX {X : Cx} : CallR X (.builtin "isinstance") (rIsX X.K) := by
  intro pins s σ H xs us Q I r h
  obtain ⟨a, D, d, _, c, cv, b, rfl, ha, hd, C, hcv, e, q⟩ := h
  obtain ⟨u1, u2, rfl, r1, r2⟩ := vals2 r
  have e2 := hcv.eq r2
  subst e2
  cases (show u1 = Value.ref a from r1)
  obtain ⟨oe, od, J⟩ := inst_exv I ha hd
  have hcl : (PySem.W.clsIn X.K D).isSome = true := by
    obtain ⟨cd, hc, _⟩ := PySem.W.any_some C.hd
    rw [hc]
    rfl
  exact PySem.W.kia_one (PySem.W.kitx_exc (od := od) (ox := oe) hcl C.hg C.hk C.hs C.ha C.hn C.ht C.hm) I.kIn J e (fun z => nomatch z) fun tk => ⟨.bl b, H, I.tok tk, rfl, q⟩
/-- x.f, x such a value -/
def tXv (K : PySem.W.Frag) (f : Str) (te : TE) : TE := fun σ H Q => te σ H fun x H1 => ∃ (a D dd : Addr) (fs : List (Str × V)) (v : V), x = .ref a ∧ H1 a = some (exv a (.ref D) (some dd)) ∧ H1 dd = some (.xd fs) ∧ XfC K D ∧ PySem.W.findIn K (.ref D) f = some none ∧ fs.lookup f = some v ∧ Q v H1
theorem pe_xv {X : Cx} {e : Expr} {te : TE} {pos : Pos} {n : Str} (he : PE X e te) (hb : attributeBase e n X.env (eval e X.env) = eval e X.env := by rfl) : PE X (.Attribute e n pos) (tXv X.K n te) := by
  refine ⟨fun pins s σ H Q I h => attr_of hb (thn (he.run pins s σ H _ I h) fun u s1 hh => ?_)⟩
  obtain ⟨x, H1, I1, rx, a, D, dd, fs, v, rfl, ea, ed, T, hno, l, q⟩ := hh
  cases (show u = Value.ref a from rx)
  obtain ⟨oe, vs, ha, hz, hv⟩ := exv_at I1.hok ea
  obtain ⟨mA, hns, hr⟩ := (show ObjOk X.prog X.w H1 s1.heap dd (.xd fs) from I1.hok dd _ ed)
  obtain ⟨od, ho, hl⟩ := lookIn_ns hns
  obtain ⟨u, hu, ru⟩ := RelO.some_of (v := v) (o := mA n) (by rw [← l]; exact hr n)
  have J : PySem.W.InstAt s1.heap a oe D (some od) := ⟨ha, hz.1, by unfold PySem.W.notCls; rw [hv] <;> rfl, by rw [hz.2]; exact ho⟩
  exact HandSPX.exc_get I1.kIn J T.ga T.gg T.exC (PySem.W.findObj_own T.hdC hno rfl (by rw [hl, hu])) (handed_of ru) ⟨v, H1, I1.tok _, ru, q⟩
end L2
namespace Da
open PySem L2
/-! ### data, and who owns them: a shared thing (it changes no more), a list of one's own, a list handed in to be changed -/
inductive D where
  | raw (v : V) | lst (ds : List D) | tup (ds : List D) | ob (C : Addr) (ns : List Str) (ds : List D) | exc (C : Addr) (ns : List Str) (ds : List D) | scr (ns : List Int)
inductive S where
  | sh (d : D) | ow (ss : List S) | io (k : Nat) (ss : List S)
abbrev Env := List (Option S)
abbrev D.int (i : Int) : D := .raw (.int i)
abbrev D.bl (b : Bool) : D := .raw (.bl b)
abbrev D.str (x : Str) : D := .raw (.str x)
abbrev D.non : D := .raw .non
mutual
def S.fz : S → D
  | .sh d => d
  | .ow ss => .lst (fzs ss)
  | .io _ ss => .lst (fzs ss)
def fzs : List S → List D
  | [] => []
  | s :: ss => s.fz :: fzs ss
end
abbrev shs (ds : List D) : List S := ds.map S.sh
theorem fzs_shs : ∀ ds : List D, fzs (shs ds) = ds
  | [] => rfl
  | d :: ds => by
    show S.fz (.sh d) :: fzs (shs ds) = d :: ds
    rw [fzs_shs ds]
    rfl
theorem fzs_len : ∀ ss : List S, (fzs ss).length = ss.length
  | [] => rfl
  | s :: ss => by
    show (fzs ss).length + 1 = ss.length + 1
    rw [fzs_len ss]
/-- an exception's fields -/
def Xf (H : Hp) (od : Option Addr) (ns : List Str) (vs : List V) : Prop := match od with
  | none => ns = [] ∧ vs = []
  | some d => H d = some (.xd (ns.zip vs)) ∧ ns.length = vs.length
theorem Xf.mono {H H' : Hp} (s : Same H H') {od : Option Addr} {ns : List Str} {vs : List V} (h : Xf H od ns vs) : Xf H' od ns vs := by
  cases od with
  | none => exact h
  | some d => exact ⟨s _ _ h.1, h.2⟩
mutual
inductive Dn (K : PySem.W.Frag) (H : Hp) : V → D → Prop
  | raw (v : V) : Dn K H v (.raw v)
  | lst {a : Addr} {xs : List V} {ds : List D} : H a = some (.lst xs) → DnA K H xs ds → Dn K H (.ref a) (.lst ds)
  | tup {a : Addr} {xs : List V} {ds : List D} : SqT K H a xs → DnA K H xs ds → Dn K H (.ref a) (.tup ds)
  | ob {a C dx : Addr} {ns : List Str} {vs : List V} {ds : List D} : H a = some (.ins C dx (ns.zip vs)) → ns.length = vs.length → DnA K H vs ds → Dn K H (.ref a) (.ob C ns ds)
  | exc {a C : Addr} {od : Option Addr} {ns : List Str} {vs : List V} {ds : List D} : H a = some (exv a (.ref C) od) → Xf H od ns vs → DnA K H vs ds → Dn K H (.ref a) (.exc C ns ds)
  | scr {a : Addr} {ns : List Int} : SqL K H a (ns.map V.int) → Dn K H (.ref a) (.scr ns)
inductive DnA (K : PySem.W.Frag) (H : Hp) : List V → List D → Prop
  | nil : DnA K H [] []
  | cons {v : V} {vs : List V} {d : D} {ds : List D} : Dn K H v d → DnA K H vs ds → DnA K H (v :: vs) (d :: ds)
end
theorem sqt_mono {K : PySem.W.Frag} {H H' : Hp} {a : Addr} {xs : List V} (s : Same H H') (h : SqT K H a xs) : SqT K H' a xs := by
  rcases h with (h | ⟨o, h⟩) | h
  · exact .inl (.inl (s _ _ h))
  · exact .inl (.inr ⟨o, s _ _ h⟩)
  · exact .inr h
section
variable {K : PySem.W.Frag} {H H' Hs Hs' Hs2 H2 : Hp} {io : List Addr}
mutual
theorem Dn.mono (s : Same H H') : ∀ {d : D} {v : V}, Dn K H v d → Dn K H' v d
  | _, _, .raw v => .raw v
  | _, _, .lst h t => .lst (s _ _ h) (DnA.mono s t)
  | _, _, .tup h t => .tup (sqt_mono s h) (DnA.mono s t)
  | _, _, .ob h l t => .ob (s _ _ h) l (DnA.mono s t)
  | _, _, .exc h l t => .exc (s _ _ h) (l.mono s) (DnA.mono s t)
  | _, _, .scr h => .scr (s.seq h)
theorem DnA.mono (s : Same H H') : ∀ {ds : List D} {vs : List V}, DnA K H vs ds → DnA K H' vs ds
  | _, _, .nil => .nil
  | _, _, .cons h t => .cons (Dn.mono s h) (DnA.mono s t)
end
theorem DnA.len : ∀ {vs : List V} {ds : List D}, DnA K H vs ds → vs.length = ds.length
  | _, _, .nil => rfl
  | _, _, .cons _ t => congrArg (· + 1) (DnA.len t)
theorem DnA.app : ∀ {vs us : List V} {ds es : List D}, DnA K H vs ds → DnA K H us es → DnA K H (vs ++ us) (ds ++ es)
  | _, _, _, _, .nil, h => h
  | _, _, _, _, .cons h t, q => .cons h (DnA.app t q)
theorem DnA.get : ∀ {vs : List V} {ds : List D} {i : Nat} {d : D}, DnA K H vs ds → ds[i]? = some d → ∃ v, vs[i]? = some v ∧ Dn K H v d
  | _, _, _, _, .nil, e => by simp at e
  | _, _, 0, _, .cons h _, e => by
    cases (Option.some.inj e)
    exact ⟨_, rfl, h⟩
  | _, _, i + 1, _, .cons _ t, e => DnA.get (i := i) t e
theorem DnA.getV : ∀ {vs : List V} {ds : List D} {i : Nat} {v : V}, DnA K H vs ds → vs[i]? = some v → ∃ d, ds[i]? = some d ∧ Dn K H v d
  | _, _, _, _, .nil, e => by simp at e
  | _, _, 0, _, .cons h _, e => by
    cases (Option.some.inj e)
    exact ⟨_, rfl, h⟩
  | _, _, i + 1, _, .cons _ t, e => DnA.getV (i := i) t e
theorem DnA.raws : ∀ vs : List V, DnA K H vs (vs.map D.raw)
  | [] => .nil
  | v :: vs => .cons (.raw v) (DnA.raws vs)
theorem DnA.drop : ∀ {vs : List V} {ds : List D} (n : Nat), DnA K H vs ds → DnA K H (vs.drop n) (ds.drop n)
  | _, _, 0, h => h
  | _, _, _ + 1, .nil => .nil
  | _, _, n + 1, .cons _ t => DnA.drop n t
theorem DnA.take : ∀ {vs : List V} {ds : List D} (n : Nat), DnA K H vs ds → DnA K H (vs.take n) (ds.take n)
  | _, _, 0, _ => .nil
  | _, _, _ + 1, .nil => .nil
  | _, _, n + 1, .cons h t => .cons h (DnA.take n t)
theorem DnA.rev : ∀ {vs : List V} {ds : List D}, DnA K H vs ds → DnA K H vs.reverse ds.reverse
  | _, _, .nil => .nil
  | _, _, .cons h t => by
    rw [List.reverse_cons, List.reverse_cons]
    exact (DnA.rev t).app (.cons h .nil)
/-! ### what is owned -/
mutual
inductive Ow (K : PySem.W.Frag) (io : List Addr) (Hs H : Hp) : V → S → List Addr → Prop
  | sh {v : V} {d : D} : Dn K Hs v d → Ow K io Hs H v (.sh d) []
  | ow {p : Addr} {vs : List V} {ss : List S} {f : List Addr} : H p = some (.lst vs) → Hs p = none → OwA K io Hs H vs ss f → p ∉ f → Ow K io Hs H (.ref p) (.ow ss) (p :: f)
  | io {k : Nat} {p : Addr} {vs : List V} {ss : List S} {f : List Addr} : io[k]? = some p → H p = some (.lst vs) → Hs p = none → OwA K io Hs H vs ss f → p ∉ f → Ow K io Hs H (.ref p) (.io k ss) (p :: f)
inductive OwA (K : PySem.W.Frag) (io : List Addr) (Hs H : Hp) : List V → List S → List Addr → Prop
  | nil : OwA K io Hs H [] [] []
  | cons {v : V} {vs : List V} {s : S} {ss : List S} {f g : List Addr} : Ow K io Hs H v s f → OwA K io Hs H vs ss g → (∀ a ∈ f, a ∉ g) → OwA K io Hs H (v :: vs) (s :: ss) (f ++ g)
end
mutual
theorem Ow.keep (e : Same Hs Hs') : ∀ {v : V} {s : S} {f : List Addr}, Ow K io Hs H v s f → (∀ a ∈ f, H' a = H a ∧ Hs' a = none) → Ow K io Hs' H' v s f
  | _, _, _, .sh h, _ => .sh (h.mono e)
  | _, _, _, .ow h n t q, k => .ow ((k _ List.mem_cons_self).1.trans h) (k _ List.mem_cons_self).2 (OwA.keep e t fun a m => k a (List.mem_cons_of_mem _ m)) q
  | _, _, _, .io i h n t q, k => .io i ((k _ List.mem_cons_self).1.trans h) (k _ List.mem_cons_self).2 (OwA.keep e t fun a m => k a (List.mem_cons_of_mem _ m)) q
theorem OwA.keep (e : Same Hs Hs') : ∀ {vs : List V} {ss : List S} {f : List Addr}, OwA K io Hs H vs ss f → (∀ a ∈ f, H' a = H a ∧ Hs' a = none) → OwA K io Hs' H' vs ss f
  | _, _, _, .nil, _ => .nil
  | _, _, _, .cons h t d, k => .cons (Ow.keep e h fun a m => k a (List.mem_append_left _ m)) (OwA.keep e t fun a m => k a (List.mem_append_right _ m)) d
end
mutual
theorem Ow.has : ∀ {v : V} {s : S} {f : List Addr}, Ow K io Hs H v s f → ∀ a ∈ f, (∃ o, H a = some o) ∧ Hs a = none
  | _, _, _, .sh _, _, m => nomatch m
  | _, _, _, .ow h n t _, a, m => by
    rcases List.mem_cons.mp m with rfl | m
    · exact ⟨⟨_, h⟩, n⟩
    · exact OwA.has t a m
  | _, _, _, .io _ h n t _, a, m => by
    rcases List.mem_cons.mp m with rfl | m
    · exact ⟨⟨_, h⟩, n⟩
    · exact OwA.has t a m
theorem OwA.has : ∀ {vs : List V} {ss : List S} {f : List Addr}, OwA K io Hs H vs ss f → ∀ a ∈ f, (∃ o, H a = some o) ∧ Hs a = none
  | _, _, _, .nil, _, m => nomatch m
  | _, _, _, .cons h t _, a, m => by
    rcases List.mem_append.mp m with m | m
    · exact Ow.has h a m
    · exact OwA.has t a m
end
mutual
theorem Ow.fz (e : Same Hs Hs') : ∀ {v : V} {s : S} {f : List Addr}, Ow K io Hs H v s f → (∀ a ∈ f, Hs' a = H a) → Dn K Hs' v s.fz
  | _, _, _, .sh h, _ => h.mono e
  | _, _, _, .ow h _ t _, k => .lst ((k _ List.mem_cons_self).trans h) (OwA.fz e t fun a m => k a (List.mem_cons_of_mem _ m))
  | _, _, _, .io _ h _ t _, k => .lst ((k _ List.mem_cons_self).trans h) (OwA.fz e t fun a m => k a (List.mem_cons_of_mem _ m))
theorem OwA.fz (e : Same Hs Hs') : ∀ {vs : List V} {ss : List S} {f : List Addr}, OwA K io Hs H vs ss f → (∀ a ∈ f, Hs' a = H a) → DnA K Hs' vs (fzs ss)
  | _, _, _, .nil, _ => .nil
  | _, _, _, .cons h t _, k => .cons (Ow.fz e h fun a m => k a (List.mem_append_left _ m)) (OwA.fz e t fun a m => k a (List.mem_append_right _ m))
end
mutual
theorem Ow.io0 : ∀ {v : V} {s : S} {f : List Addr}, Ow K [] Hs H v s f → Ow K io Hs H v s f
  | _, _, _, .sh h => .sh h
  | _, _, _, .ow h n t q => .ow h n (OwA.io0 t) q
  | _, _, _, .io i _ _ _ _ => nomatch i
theorem OwA.io0 : ∀ {vs : List V} {ss : List S} {f : List Addr}, OwA K [] Hs H vs ss f → OwA K io Hs H vs ss f
  | _, _, _, .nil => .nil
  | _, _, _, .cons h t d => .cons (Ow.io0 h) (OwA.io0 t) d
end
theorem OwA.shs : ∀ {vs : List V} {ds : List D}, DnA K Hs vs ds → OwA K io Hs H vs (Da.shs ds) []
  | _, _, .nil => .nil
  | _, _, .cons h t => .cons (f := []) (.sh h) (OwA.shs t) (fun _ m => nomatch m)
/-- shared: what was, and the owned f -/
def jn (Hs H : Hp) (f : List Addr) : Hp := fun a => if a ∈ f then H a else Hs a
theorem jn_in {f : List Addr} {a : Addr} (m : a ∈ f) : jn Hs H f a = H a := if_pos m
theorem jn_out {f : List Addr} {a : Addr} (m : a ∉ f) : jn Hs H f a = Hs a := if_neg m
theorem jn_same {f : List Addr} (e : Same Hs H) : Same Hs (jn Hs H f) := fun a o h => by
  by_cases m : a ∈ f
  · rw [jn_in m]
    exact e a o h
  · rw [jn_out m]
    exact h
theorem jn_le {f : List Addr} (e : Same Hs H) : Same (jn Hs H f) H := fun a o h => by
  by_cases m : a ∈ f
  · rw [jn_in m] at h
    exact h
  · rw [jn_out m] at h
    exact e a o h
end
/-! ### the names' values: σ as the machine has them, ρ as they are told; F: what each of them owns -/
def FP (F : Nat → List Addr) (a : Addr) : Prop := ∃ i, a ∈ F i
structure St (K : PySem.W.Frag) (io : List Addr) (σ : L2.St) (ρ : Env) (Hs H : Hp) (F : Nat → List Addr) : Prop where
  le : Same Hs H
  len : ρ.length = σ.length
  own : ∀ i s, ρ[i]? = some (some s) → ∃ v, σ[i]? = some (some v) ∧ Ow K io Hs H v s (F i)
  non : ∀ i a, a ∈ F i → ∃ s, ρ[i]? = some (some s)
  dis : ∀ i j a, a ∈ F i → a ∈ F j → i = j
structure Tr (fe : Addr → Prop) (Hs H Hs' H' : Hp) : Prop where
  sh : Same Hs Hs'
  fr : ∀ a o, H a = some o → ¬ fe a → H' a = some o
  ns : ∀ a o, H a = some o → ¬ fe a → Hs a = none → Hs' a = none
structure Ev (F : Nat → List Addr) (Hs H : Hp) (F' : Nat → List Addr) (Hs' H' : Hp) : Prop where
  fp : ∀ a, FP F' a → FP F a ∨ H a = none
  tr : Tr (FP F) Hs H Hs' H'
section
variable {K : PySem.W.Frag} {io : List Addr} {σ : L2.St} {ρ ρ' : Env} {Hs H Hs1 H1 Hs2 H2 Hs' H' : Hp} {F F1 F2 F' : Nat → List Addr} {v : V} {s : S} {d : D} {f : List Addr}
theorem Tr.refl {fe : Addr → Prop} : Tr fe Hs H Hs H := ⟨Same.refl _, fun _ _ h _ => h, fun _ _ _ _ h => h⟩
theorem Tr.back {fe : Addr → Prop} (t : Tr fe Hs H Hs' H') {a : Addr} (h : H' a = none) : fe a ∨ H a = none := by
  cases z : H a with
  | none => exact .inr rfl
  | some o =>
    by_cases q : fe a
    · exact .inl q
    · have := t.fr a o z q
      rw [h] at this
      cases this
theorem Ev.refl : Ev F Hs H F Hs H := ⟨fun _ h => .inl h, .refl⟩
theorem Ev.trans (a : Ev F Hs H F1 Hs1 H1) (b : Ev F1 Hs1 H1 F2 Hs2 H2) : Ev F Hs H F2 Hs2 H2 where
  fp := fun x h => by
    rcases b.fp x h with z | z
    · exact a.fp x z
    · exact a.tr.back z
  tr := by
    have key : ∀ {x : Addr} {o : HO}, H x = some o → ¬ FP F x → ¬ FP F1 x := fun {x o} h n z => by
      rcases a.fp x z with q | q
      · exact n q
      · rw [h] at q
        cases q
    exact ⟨a.tr.sh.trans b.tr.sh, fun x o h n => b.tr.fr x o (a.tr.fr x o h n) (key h n), fun x o h n e => b.tr.ns x o (a.tr.fr x o h n) (key h n) (a.tr.ns x o h n e)⟩
theorem St.has (z : St K io σ ρ Hs H F) {a : Addr} (h : FP F a) : (∃ o, H a = some o) ∧ Hs a = none := by
  obtain ⟨i, m⟩ := h
  obtain ⟨s, e⟩ := z.non i a m
  obtain ⟨v, _, o⟩ := z.own i s e
  exact o.has a m
theorem St.new (z : St K io σ ρ Hs H F) {a : Addr} (h : H a = none) : ¬ FP F a := fun q => by
  obtain ⟨⟨o, e⟩, _⟩ := z.has q
  rw [h] at e
  cases e
/-- the heaps go on; nothing that the names own is touched -/
theorem St.keep (z : St K io σ ρ Hs H F) (e : Same Hs Hs') (l : Same Hs' H') (k : ∀ a, FP F a → H' a = H a ∧ Hs' a = none) : St K io σ ρ Hs' H' F :=
  ⟨l, z.len, fun i s h => by
    obtain ⟨v, h1, h2⟩ := z.own i s h
    exact ⟨v, h1, h2.keep e fun a m => k a ⟨i, m⟩⟩, z.non, z.dis⟩
/-- behind a step: a value, and what it owns -/
def Po (K : PySem.W.Frag) (io : List Addr) (σ : L2.St) (F : Nat → List Addr) (Hs H : Hp) (v : V) (s : S) (ρ' : Env) (H' : Hp) : Prop :=
  ∃ Hs' F' fv, St K io σ ρ' Hs' H' F' ∧ Ow K io Hs' H' v s fv ∧ (∀ a ∈ fv, ¬ FP F' a) ∧ (∀ a ∈ fv, FP F a ∨ H a = none) ∧ Ev F Hs H F' Hs' H'
def PoA (K : PySem.W.Frag) (io : List Addr) (σ : L2.St) (F : Nat → List Addr) (Hs H : Hp) (vs : List V) (ss : List S) (ρ' : Env) (H' : Hp) : Prop :=
  ∃ Hs' F' fv, St K io σ ρ' Hs' H' F' ∧ OwA K io Hs' H' vs ss fv ∧ (∀ a ∈ fv, ¬ FP F' a) ∧ (∀ a ∈ fv, FP F a ∨ H a = none) ∧ Ev F Hs H F' Hs' H'
def PoE (K : PySem.W.Frag) (io : List Addr) (σ : L2.St) (F : Nat → List Addr) (Hs H : Hp) (ρ' : Env) (H' : Hp) : Prop :=
  ∃ Hs' F', St K io σ ρ' Hs' H' F' ∧ Ev F Hs H F' Hs' H'
def PoD (K : PySem.W.Frag) (io : List Addr) (σ : L2.St) (F : Nat → List Addr) (Hs H : Hp) (v : V) (d : D) (ρ' : Env) (H' : Hp) : Prop :=
  ∃ Hs' F', St K io σ ρ' Hs' H' F' ∧ Dn K Hs' v d ∧ Ev F Hs H F' Hs' H'
def PoB (K : PySem.W.Frag) (io : List Addr) (σ : L2.St) (F : Nat → List Addr) (Hs H : Hp) (vs : List V) (ds : List D) (ρ' : Env) (H' : Hp) : Prop :=
  ∃ Hs' F', St K io σ ρ' Hs' H' F' ∧ DnA K Hs' vs ds ∧ Ev F Hs H F' Hs' H'
/-- an exception -/
def Xc (K : PySem.W.Frag) (Hs : Hp) (x : D) (cls : Value) (od : Option Addr) : Prop := ∃ C ns vs ds, x = .exc C ns ds ∧ cls = .ref C ∧ Xf Hs od ns vs ∧ DnA K Hs vs ds
def PoX (K : PySem.W.Frag) (io : List Addr) (σ : L2.St) (F : Nat → List Addr) (Hs H : Hp) (x : D) (cls : Value) (od : Option Addr) (ρ' : Env) (H' : Hp) : Prop :=
  ∃ Hs' F', St K io σ ρ' Hs' H' F' ∧ Xc K Hs' x cls od ∧ Ev F Hs H F' Hs' H'
theorem Po.trans (a : Ev F Hs H F1 Hs1 H1) (p : Po K io σ F1 Hs1 H1 v s ρ' H') : Po K io σ F Hs H v s ρ' H' := by
  obtain ⟨Hs', F', fv, z, o, n, w, e⟩ := p
  refine ⟨Hs', F', fv, z, o, n, fun x m => ?_, a.trans e⟩
  rcases w x m with q | q
  · exact a.fp x q
  · exact a.tr.back q
theorem PoA.trans {vs : List V} {ss : List S} (a : Ev F Hs H F1 Hs1 H1) (p : PoA K io σ F1 Hs1 H1 vs ss ρ' H') : PoA K io σ F Hs H vs ss ρ' H' := by
  obtain ⟨Hs', F', fv, z, o, n, w, e⟩ := p
  refine ⟨Hs', F', fv, z, o, n, fun x m => ?_, a.trans e⟩
  rcases w x m with q | q
  · exact a.fp x q
  · exact a.tr.back q
theorem PoE.trans (a : Ev F Hs H F1 Hs1 H1) (p : PoE K io σ F1 Hs1 H1 ρ' H') : PoE K io σ F Hs H ρ' H' := by
  obtain ⟨Hs', F', z, e⟩ := p
  exact ⟨Hs', F', z, a.trans e⟩
theorem PoD.trans (a : Ev F Hs H F1 Hs1 H1) (p : PoD K io σ F1 Hs1 H1 v d ρ' H') : PoD K io σ F Hs H v d ρ' H' := by
  obtain ⟨Hs', F', z, o, e⟩ := p
  exact ⟨Hs', F', z, o, a.trans e⟩
theorem PoX.trans {x : D} {cls : Value} {od : Option Addr} (a : Ev F Hs H F1 Hs1 H1) (p : PoX K io σ F1 Hs1 H1 x cls od ρ' H') : PoX K io σ F Hs H x cls od ρ' H' := by
  obtain ⟨Hs', F', z, o, e⟩ := p
  exact ⟨Hs', F', z, o, a.trans e⟩
/-- the owned f (beside the names) is shared from now on -/
theorem St.join (z : St K io σ ρ Hs H F) (n : ∀ a ∈ f, ¬ FP F a) : St K io σ ρ (jn Hs H f) H F :=
  z.keep (jn_same z.le) (jn_le z.le) fun a q => ⟨rfl, by
    rw [jn_out fun m => n a m q]
    exact (z.has q).2⟩
theorem Ev.join (e : Ev F Hs H F' Hs' H') (l : Same Hs' H') (w : ∀ a ∈ f, FP F a ∨ H a = none) : Ev F Hs H F' (jn Hs' H' f) H' :=
  ⟨e.fp, e.tr.sh.trans (jn_same l), e.tr.fr, fun a o h n q => by
    rw [jn_out fun m => by
      rcases w a m with r | r
      · exact n r
      · rw [h] at r
        cases r]
    exact e.tr.ns a o h n q⟩
theorem Po.fz (p : Po K io σ F Hs H v s ρ' H') : PoD K io σ F Hs H v s.fz ρ' H' := by
  obtain ⟨Hs', F', fv, z, o, n, w, e⟩ := p
  exact ⟨jn Hs' H' fv, F', z.join n, o.fz (jn_same z.le) fun a m => jn_in m, e.join z.le w⟩
theorem PoA.fz {vs : List V} {ss : List S} (p : PoA K io σ F Hs H vs ss ρ' H') : PoB K io σ F Hs H vs (fzs ss) ρ' H' := by
  obtain ⟨Hs', F', fv, z, o, n, w, e⟩ := p
  exact ⟨jn Hs' H' fv, F', z.join n, o.fz (jn_same z.le) fun a m => jn_in m, e.join z.le w⟩
theorem PoD.po (p : PoD K io σ F Hs H v d ρ' H') : Po K io σ F Hs H v (.sh d) ρ' H' := by
  obtain ⟨Hs', F', z, o, e⟩ := p
  exact ⟨Hs', F', [], z, .sh o, fun _ m => (nomatch m), fun _ m => (nomatch m), e⟩
/-- a new value: one that was there, a new list, a new tuple -/
inductive Nv (K : PySem.W.Frag) (Hs H : Hp) : V → S → Hp → Prop
  | old {v : V} {d : D} : Dn K Hs v d → Nv K Hs H v (.sh d) H
  | lst {p : Addr} {vs : List V} {ds : List D} : H p = none → DnA K Hs vs ds → Nv K Hs H (.ref p) (.ow (shs ds)) (upd H p (.lst vs))
  | tup {p : Addr} {vs : List V} {ds : List D} : H p = none → DnA K Hs vs ds → Nv K Hs H (.ref p) (.sh (.tup ds)) (upd H p (.tup vs))
theorem same_new {X : Hp} {p : Addr} {o : HO} (n : X p = none) : Same X (upd X p o) := fun a u h => by
  rw [upd_ne (ne_of_none h n)]
  exact h
theorem St.le0 (z : St K io σ ρ Hs H F) {p : Addr} (n : H p = none) : Hs p = none := z.le.free n
/-- a new object, of nobody's -/
theorem St.laid (z : St K io σ ρ Hs H F) {p : Addr} {o : HO} (n : H p = none) : St K io σ ρ Hs (upd H p o) F ∧ Ev F Hs H F Hs (upd H p o) :=
  ⟨z.keep (Same.refl _) (z.le.trans (same_new n)) fun a q => ⟨upd_ne fun e => z.new n (e ▸ q), (z.has q).2⟩,
   fun _ h => .inl h, Same.refl _, fun a u h _ => same_new n a u h, fun _ _ _ _ h => h⟩
/-- a new object, shared -/
theorem St.laidS (z : St K io σ ρ Hs H F) {p : Addr} {o : HO} (n : H p = none) : St K io σ ρ (upd Hs p o) (upd H p o) F ∧ Ev F Hs H F (upd Hs p o) (upd H p o) := by
  have ls : Same (upd Hs p o) (upd H p o) := fun a u h => by
    by_cases e : a = p
    · subst e
      rw [upd_same] at h ⊢
      exact h
    · rw [upd_ne e] at h ⊢
      exact z.le a u h
  refine ⟨z.keep (same_new (z.le0 n)) ls fun a q => ?_, fun _ h => .inl h, same_new (z.le0 n), fun a u h _ => same_new n a u h, fun a u h _ e => ?_⟩
  · have ne : a ≠ p := fun e => z.new n (e ▸ q)
    exact ⟨upd_ne ne, by rw [upd_ne ne]; exact (z.has q).2⟩
  · rw [upd_ne (ne_of_none h n)]
    exact e
theorem Nv.po (z : St K io σ ρ Hs H F) (h : Nv K Hs H v s H') : Po K io σ F Hs H v s ρ H' := by
  cases h with
  | old h => exact ⟨Hs, F, [], z, .sh h, fun _ m => (nomatch m), fun _ m => (nomatch m), .refl⟩
  | lst n t =>
    rename_i p vs ds
    obtain ⟨z1, e1⟩ := z.laid (o := .lst vs) n
    refine ⟨Hs, F, [p], z1, .ow upd_same (z.le0 n) (OwA.shs t) (by simp), fun a m q => ?_, fun a m => ?_, e1⟩
    · cases List.mem_singleton.mp m
      exact z.new n q
    · cases List.mem_singleton.mp m
      exact .inr n
  | tup n t =>
    rename_i p vs ds
    obtain ⟨z1, e1⟩ := z.laidS (o := .tup vs) n
    exact ⟨_, F, [], z1, .sh (.tup (.inl (.inl upd_same)) (t.mono (same_new (z.le0 n)))), fun _ m => (nomatch m), fun _ m => (nomatch m), e1⟩
end
end Da
namespace Da
open PySem L2
/-- the same written part -/
class KEq (K' K : PySem.W.Frag) : Prop where
  e : K' = K
instance keqRefl {K : PySem.W.Frag} : KEq K K := ⟨rfl⟩
instance keqOf {CX : CXT} {P : Program} {w : World} {K : PySem.W.Frag} {mg : Str → Option Value} {base : Heap} {N : List Str} {qual : Str} {scope : Scope} {f : Addr} {cd : Value} {A : Around} {outer : List PySem.Env} {s : Shared} {H : Hp} {E : XK} : KEq (cxOf CX P w K mg base N qual scope f cd A outer s H E).K K := ⟨rfl⟩
instance keqWish {X : Cx} {K : PySem.W.Frag} {xe : Value → Shared → Prop} [h : KEq X.K K] : KEq (X.wish xe).K K := ⟨h.e⟩
abbrev QX := D → Env → Prop
abbrev ME := Env → (S → Env → Prop) → QX → Prop
abbrev MA := Env → (List S → Env → Prop) → QX → Prop
abbrev MT := Env → (Bool → Env → Prop) → QX → Prop
abbrev MG := S → Env → (Env → Prop) → Prop
abbrev MGs := List D → Env → (Env → Prop) → Prop
abbrev MI := Env → (List D → Env → Prop) → QX → Prop
abbrev MO := Env → (Option Int → Env → Prop) → QX → Prop
structure Ed where
  nx : Env → Prop
  rt : S → Env → Prop
  bk : Env → Prop := fun _ => False
  ct : Env → Prop := fun _ => False
  xk : QX := fun _ _ => False
abbrev MS := Ed → Env → Prop
abbrev X0 : QX := fun _ _ => False
class DE (K : PySem.W.Frag) (EE : L2.St → XK) (te : TE) (m : outParam ME) : Prop where
  run : ∀ {io : List Addr} {σ : L2.St} {ρ : Env} {Hs H : Hp} {F : Nat → List Addr} {Q : S → Env → Prop} {Qx : QX} {Qh : VK}, St K io σ ρ Hs H F → m ρ Q Qx →
    (∀ v s ρ' H', Po K io σ F Hs H v s ρ' H' → Q s ρ' → Qh v H') → (∀ x cls od ρ' H', PoX K io σ F Hs H x cls od ρ' H' → Qx x ρ' → EE σ cls od H') → te σ H Qh
class DA (K : PySem.W.Frag) (EE : L2.St → XK) (ta : TA) (m : outParam MA) : Prop where
  run : ∀ {io : List Addr} {σ : L2.St} {ρ : Env} {Hs H : Hp} {F : Nat → List Addr} {Q : List S → Env → Prop} {Qx : QX} {Qh : List V → Hp → Prop}, St K io σ ρ Hs H F → m ρ Q Qx →
    (∀ vs ss ρ' H', PoA K io σ F Hs H vs ss ρ' H' → Q ss ρ' → Qh vs H') → (∀ x cls od ρ' H', PoX K io σ F Hs H x cls od ρ' H' → Qx x ρ' → EE σ cls od H') → ta σ H Qh
class DT (K : PySem.W.Frag) (EE : L2.St → XK) (tt : TT) (m : outParam MT) : Prop where
  run : ∀ {io : List Addr} {σ : L2.St} {ρ : Env} {Hs H : Hp} {F : Nat → List Addr} {Q : Bool → Env → Prop} {Qx : QX} {Qh : Bool → Hp → Prop}, St K io σ ρ Hs H F → m ρ Q Qx →
    (∀ b ρ' H', PoE K io σ F Hs H ρ' H' → Q b ρ' → Qh b H') → (∀ x cls od ρ' H', PoX K io σ F Hs H x cls od ρ' H' → Qx x ρ' → EE σ cls od H') → tt σ H Qh
class DO (K : PySem.W.Frag) (EE : L2.St → XK) (tt : TO) (m : outParam MO) : Prop where
  run : ∀ {io : List Addr} {σ : L2.St} {ρ : Env} {Hs H : Hp} {F : Nat → List Addr} {Q : Option Int → Env → Prop} {Qx : QX} {Qh : Option Int → Hp → Prop}, St K io σ ρ Hs H F → m ρ Q Qx →
    (∀ b ρ' H', PoE K io σ F Hs H ρ' H' → Q b ρ' → Qh b H') → (∀ x cls od ρ' H', PoX K io σ F Hs H x cls od ρ' H' → Qx x ρ' → EE σ cls od H') → tt σ H Qh
/-- an iterator over the data ds -/
structure Wk (K : PySem.W.Frag) (J : It) (ds : List D) (Hs : Hp) : Prop where
  go : ∀ i H Hs', i < ds.length → Same Hs Hs' → Same Hs' H → J.go i H
  stop : ∀ H Hs', Same Hs Hs' → Same Hs' H → J.stop ds.length H
  yld : ∀ i H Hs' x H', i < ds.length → Same Hs Hs' → Same Hs' H → J.yld i H x H' → ∃ d, ds[i]? = some d ∧ Nv K Hs' H x (.sh d) H'
def PoI (K : PySem.W.Frag) (io : List Addr) (σ : L2.St) (F : Nat → List Addr) (Hs H : Hp) (J : It) (ds : List D) (ρ' : Env) (H' : Hp) : Prop :=
  ∃ Hs' F', St K io σ ρ' Hs' H' F' ∧ Wk K J ds Hs' ∧ Ev F Hs H F' Hs' H'
class DI (K : PySem.W.Frag) (EE : L2.St → XK) (wi : TI) (m : outParam MI) : Prop where
  run : ∀ {io : List Addr} {σ : L2.St} {ρ : Env} {Hs H : Hp} {F : Nat → List Addr} {Q : List D → Env → Prop} {Qx : QX} {R : It → Hp → Prop}, St K io σ ρ Hs H F → m ρ Q Qx →
    (∀ J ds ρ' H', PoI K io σ F Hs H J ds ρ' H' → Q ds ρ' → R J H') → (∀ x cls od ρ' H', PoX K io σ F Hs H x cls od ρ' H' → Qx x ρ' → EE σ cls od H') → wi σ H R
/-- behind a target: fv is what the stored value owned -/
def PoG (K : PySem.W.Frag) (io : List Addr) (F : Nat → List Addr) (fv : List Addr) (Hs H : Hp) (σ' : L2.St) (ρ' : Env) (H' : Hp) : Prop :=
  ∃ Hs' F', St K io σ' ρ' Hs' H' F' ∧ (∀ a, FP F' a → FP F a ∨ a ∈ fv ∨ H a = none) ∧ Tr (fun a => FP F a ∨ a ∈ fv) Hs H Hs' H'
class DG (K : PySem.W.Frag) (EE : L2.St → XK) (g : TG) (is : outParam (List Nat)) (m : outParam MG) : Prop where
  run : ∀ {io : List Addr} {σ : L2.St} {ρ : Env} {Hs H : Hp} {F : Nat → List Addr} {v : V} {s : S} {fv : List Addr} {Q : Env → Prop} {R : L2.St → Hp → Prop}, St K io σ ρ Hs H F → Ow K io Hs H v s fv → (∀ a ∈ fv, ¬ FP F a) → m s ρ Q →
    (∀ σ' ρ' H', PoG K io F fv Hs H σ' ρ' H' → (∀ vs : List Nat, (∀ i ∈ is, i ∈ vs) → wipe σ' vs = wipe σ vs) → Q ρ' → R σ' H') → g v σ H R
class DGs (K : PySem.W.Frag) (EE : L2.St → XK) (g : TGs) (is : outParam (List Nat)) (m : outParam MGs) : Prop where
  run : ∀ {io : List Addr} {σ : L2.St} {ρ : Env} {Hs H : Hp} {F : Nat → List Addr} {vs : List V} {ds : List D} {Q : Env → Prop} {R : L2.St → Hp → Prop}, St K io σ ρ Hs H F → DnA K Hs vs ds → m ds ρ Q →
    (∀ σ' ρ' H', PoE K io σ' F Hs H ρ' H' → (∀ vs : List Nat, (∀ i ∈ is, i ∈ vs) → wipe σ' vs = wipe σ vs) → Q ρ' → R σ' H') → g vs σ H R
structure Lk (K : PySem.W.Frag) (io : List Addr) (EE : L2.St → XK) (F : Nat → List Addr) (Hs H : Hp) (Dd : Ed) (Dh : Ends) : Prop where
  nx : ∀ σ' ρ' H', PoE K io σ' F Hs H ρ' H' → Dd.nx ρ' → Dh.nx σ' H'
  rt : ∀ σ' v s ρ' H', Po K io σ' F Hs H v s ρ' H' → Dd.rt s ρ' → Dh.rt v H'
  bk : ∀ σ' ρ' H', PoE K io σ' F Hs H ρ' H' → Dd.bk ρ' → Dh.bk σ' H'
  ct : ∀ σ' ρ' H', PoE K io σ' F Hs H ρ' H' → Dd.ct ρ' → Dh.ct σ' H'
  xk : ∀ σ' x cls od ρ' H', PoX K io σ' F Hs H x cls od ρ' H' → Dd.xk x ρ' → EE σ' cls od H'
class DS (K : PySem.W.Frag) (EE : L2.St → XK) (t : TS) (m : outParam MS) : Prop where
  run : ∀ {io : List Addr} {σ : L2.St} {ρ : Env} {Hs H : Hp} {F : Nat → List Addr} {Dd : Ed} {Dh : Ends}, St K io σ ρ Hs H F → m Dd ρ → Lk K io EE F Hs H Dd Dh → t Dh σ H
section
variable {K : PySem.W.Frag} {EE : L2.St → XK} {io : List Addr} {σ : L2.St} {ρ ρ' : Env} {Hs H Hs1 H1 Hs' H' : Hp} {F F1 F' : Nat → List Addr} {v : V} {s : S} {d : D} {te ta tb : TE} {m ma mb : ME}
theorem Lk.trans {Dd : Ed} {Dh : Ends} (a : Ev F Hs H F1 Hs1 H1) (l : Lk K io EE F Hs H Dd Dh) : Lk K io EE F1 Hs1 H1 Dd Dh :=
  ⟨fun σ' ρ' H' p => l.nx σ' ρ' H' (p.trans a), fun σ' v s ρ' H' p => l.rt σ' v s ρ' H' (p.trans a), fun σ' ρ' H' p => l.bk σ' ρ' H' (p.trans a), fun σ' ρ' H' p => l.ct σ' ρ' H' (p.trans a), fun σ' x cls od ρ' H' p => l.xk σ' x cls od ρ' H' (p.trans a)⟩
def mV (m : ME) (ρ : Env) (Q : D → Env → Prop) (Qx : QX) : Prop := m ρ (fun s ρ' => Q s.fz ρ') Qx
theorem DE.runV [i : DE K EE te m] {Q : D → Env → Prop} {Qx : QX} {Qh : VK} (z : St K io σ ρ Hs H F) (h : mV m ρ Q Qx)
    (k : ∀ v d ρ' H', PoD K io σ F Hs H v d ρ' H' → Q d ρ' → Qh v H') (kx : ∀ x cls od ρ' H', PoX K io σ F Hs H x cls od ρ' H' → Qx x ρ' → EE σ cls od H') : te σ H Qh :=
  i.run z h (fun v s ρ' H' p q => k v s.fz ρ' H' p.fz q) kx
def mVA (m : MA) (ρ : Env) (Q : List D → Env → Prop) (Qx : QX) : Prop := m ρ (fun ss ρ' => Q (fzs ss) ρ') Qx
theorem DA.runV {ta : TA} {m : MA} [i : DA K EE ta m] {Q : List D → Env → Prop} {Qx : QX} {Qh : List V → Hp → Prop} (z : St K io σ ρ Hs H F) (h : mVA m ρ Q Qx)
    (k : ∀ vs ds ρ' H', PoB K io σ F Hs H vs ds ρ' H' → Q ds ρ' → Qh vs H') (kx : ∀ x cls od ρ' H', PoX K io σ F Hs H x cls od ρ' H' → Qx x ρ' → EE σ cls od H') : ta σ H Qh :=
  i.run z h (fun vs ss ρ' H' p q => k vs (fzs ss) ρ' H' p.fz q) kx
/-! ### a slot is set -/
theorem St.put (z : St K io σ ρ Hs H F) {i : Nat} {fv : List Addr} (o : Ow K io Hs H v s fv) (n : ∀ a ∈ fv, ∀ j, j ≠ i → a ∉ F j) :
    ∃ F', St K io (σ.set i (some v)) (ρ.set i (some s)) Hs H F' ∧ ∀ a, FP F' a → a ∈ fv ∨ FP F a := by
  by_cases hi : i < ρ.length
  · refine ⟨fun j => if j = i then fv else F j, ⟨z.le, by simp [z.len], fun j t h => ?_, fun j a m => ?_, fun j k a h1 h2 => ?_⟩, fun a ⟨j, m⟩ => ?_⟩
    · by_cases e : j = i
      · subst e
        rw [List.getElem?_set_self hi] at h
        cases h
        refine ⟨v, List.getElem?_set_self (by rw [← z.len]; exact hi), ?_⟩
        show Ow K io Hs H v s (if j = j then fv else F j)
        rw [if_pos rfl]
        exact o
      · rw [List.getElem?_set_ne (Ne.symm e)] at h
        obtain ⟨u, h1, h2⟩ := z.own j t h
        refine ⟨u, by rw [List.getElem?_set_ne (Ne.symm e)]; exact h1, ?_⟩
        show Ow K io Hs H u t (if j = i then fv else F j)
        rw [if_neg e]
        exact h2
    · have m : a ∈ (if j = i then fv else F j) := m
      by_cases e : j = i
      · subst e
        exact ⟨s, List.getElem?_set_self hi⟩
      · rw [if_neg e] at m
        obtain ⟨t, h⟩ := z.non j a m
        exact ⟨t, by rw [List.getElem?_set_ne (Ne.symm e)]; exact h⟩
    · have h1 : a ∈ (if j = i then fv else F j) := h1
      have h2 : a ∈ (if k = i then fv else F k) := h2
      by_cases e : j = i <;> by_cases e' : k = i
      · rw [e, e']
      · rw [if_pos e] at h1
        rw [if_neg e'] at h2
        exact absurd h2 (n a h1 k e')
      · rw [if_neg e] at h1
        rw [if_pos e'] at h2
        exact absurd h1 (n a h2 j e)
      · rw [if_neg e] at h1
        rw [if_neg e'] at h2
        exact z.dis j k a h1 h2
    · have m : a ∈ (if j = i then fv else F j) := m
      by_cases e : j = i
      · rw [if_pos e] at m
        exact .inl m
      · rw [if_neg e] at m
        exact .inr ⟨j, m⟩
  · have e1 : ρ.set i (some s) = ρ := List.set_eq_of_length_le (by omega)
    have e2 : σ.set i (some v) = σ := List.set_eq_of_length_le (by have := z.len; omega)
    rw [e1, e2]
    exact ⟨F, z, fun a h => .inr h⟩
/-- a slot's data are forgotten -/
theorem St.drop (z : St K io σ ρ Hs H F) (i : Nat) (w : Option V) : ∃ F', St K io (σ.set i w) (ρ.set i none) Hs H F' ∧ ∀ a, FP F' a → FP F a := by
  by_cases hi : i < ρ.length
  · refine ⟨fun j => if j = i then [] else F j, ⟨z.le, by simp [z.len], fun j t h => ?_, fun j a m => ?_, fun j k a h1 h2 => ?_⟩, fun a ⟨j, m⟩ => ?_⟩
    · by_cases e : j = i
      · subst e
        rw [List.getElem?_set_self hi] at h
        cases h
      · rw [List.getElem?_set_ne (Ne.symm e)] at h
        obtain ⟨u, h1, h2⟩ := z.own j t h
        refine ⟨u, by rw [List.getElem?_set_ne (Ne.symm e)]; exact h1, ?_⟩
        show Ow K io Hs H u t (if j = i then [] else F j)
        rw [if_neg e]
        exact h2
    · have m : a ∈ (if j = i then [] else F j) := m
      by_cases e : j = i
      · rw [if_pos e] at m
        exact nomatch m
      · rw [if_neg e] at m
        obtain ⟨t, h⟩ := z.non j a m
        exact ⟨t, by rw [List.getElem?_set_ne (Ne.symm e)]; exact h⟩
    · have h1 : a ∈ (if j = i then [] else F j) := h1
      have h2 : a ∈ (if k = i then [] else F k) := h2
      by_cases e : j = i
      · rw [if_pos e] at h1
        exact nomatch h1
      · by_cases e' : k = i
        · rw [if_pos e'] at h2
          exact nomatch h2
        · rw [if_neg e] at h1
          rw [if_neg e'] at h2
          exact z.dis j k a h1 h2
    · have m : a ∈ (if j = i then [] else F j) := m
      by_cases e : j = i
      · rw [if_pos e] at m
        exact nomatch m
      · rw [if_neg e] at m
        exact ⟨j, m⟩
  · have e1 : ρ.set i none = ρ := List.set_eq_of_length_le (by omega)
    have e2 : σ.set i w = σ := List.set_eq_of_length_le (by have := z.len; omega)
    rw [e1, e2]
    exact ⟨F, z, fun a h => h⟩
theorem Ev.less (e : Ev F Hs H F1 Hs1 H1) (l : ∀ a, FP F' a → FP F1 a) : Ev F Hs H F' Hs1 H1 := ⟨fun a h => e.fp a (l a h), e.tr⟩
/-! ### expressions -/
def mC (v : V) : ME := fun ρ Q _ => Q (.sh (.raw v)) ρ
instance deC : DE K EE (tC v) (mC v) := ⟨fun z h k _ => k _ _ _ _ (Nv.po z (.old (.raw v))) h⟩
theorem Ow.inv {f : List Addr} (o : Ow K io Hs H v (.sh d) f) : Dn K Hs v d := by
  cases o with
  | sh q => exact q
def mVar (i : Nat) : ME := fun ρ Q _ => match ρ[i]? with
  | some (some (.sh d)) => Q (.sh d) ρ
  | some (some (.ow ss)) => Q (.sh (.lst (fzs ss))) (ρ.set i (some (.sh (.lst (fzs ss)))))
  | _ => False
theorem set_id {α : Type} {l : List α} {i : Nat} {x : α} (h : l[i]? = some x) : l.set i x = l := by
  apply List.ext_getElem?
  intro j
  by_cases e : i = j
  · subst e
    rw [List.getElem?_set_self (List.getElem?_eq_some_iff.mp h).1, h]
  · rw [List.getElem?_set_ne e]
instance deVar {i : Nat} : DE K EE (tVar i) (mVar i) := ⟨fun {io σ ρ Hs H F Q Qx Qh} z h k _ => by
  unfold mVar at h
  split at h
  · rename_i d e
    obtain ⟨v, hv, o⟩ := z.own i _ e
    exact ⟨v, hv, k _ _ _ _ (Nv.po z (.old o.inv)) h⟩
  · rename_i ss e
    obtain ⟨v, hv, o⟩ := z.own i _ e
    refine ⟨v, hv, k _ _ _ _ ?_ h⟩
    have zj : Same Hs (jn Hs H (F i)) := jn_same z.le
    have q : Dn K (jn Hs H (F i)) v (.lst (fzs ss)) := o.fz zj fun a m => jn_in m
    -- the other slots
    have z0 : ∃ F', St K io (σ.set i none) (ρ.set i none) Hs H F' ∧ (∀ a, FP F' a → FP F a) ∧ ∀ a ∈ F i, ¬ FP F' a := by
      have hi : i < ρ.length := (List.getElem?_eq_some_iff.mp e).1
      refine ⟨fun j => if j = i then [] else F j, ⟨z.le, by simp [z.len], fun j t h => ?_, fun j a m => ?_, fun j k a h1 h2 => ?_⟩, fun a ⟨j, m⟩ => ?_, fun a ma ⟨j, m⟩ => ?_⟩
      · by_cases e : j = i
        · subst e
          rw [List.getElem?_set_self hi] at h
          cases h
        · rw [List.getElem?_set_ne (Ne.symm e)] at h
          obtain ⟨u, h1, h2⟩ := z.own j t h
          refine ⟨u, by rw [List.getElem?_set_ne (Ne.symm e)]; exact h1, ?_⟩
          show Ow K io Hs H u t (if j = i then [] else F j)
          rw [if_neg e]
          exact h2
      · have m : a ∈ (if j = i then [] else F j) := m
        by_cases e : j = i
        · rw [if_pos e] at m
          exact nomatch m
        · rw [if_neg e] at m
          obtain ⟨t, h⟩ := z.non j a m
          exact ⟨t, by rw [List.getElem?_set_ne (Ne.symm e)]; exact h⟩
      · have h1 : a ∈ (if j = i then [] else F j) := h1
        have h2 : a ∈ (if k = i then [] else F k) := h2
        by_cases e : j = i
        · rw [if_pos e] at h1
          exact nomatch h1
        · by_cases e' : k = i
          · rw [if_pos e'] at h2
            exact nomatch h2
          · rw [if_neg e] at h1
            rw [if_neg e'] at h2
            exact z.dis j k a h1 h2
      · have m : a ∈ (if j = i then [] else F j) := m
        by_cases e : j = i
        · rw [if_pos e] at m
          exact nomatch m
        · rw [if_neg e] at m
          exact ⟨j, m⟩
      · have m : a ∈ (if j = i then [] else F j) := m
        by_cases e : j = i
        · rw [if_pos e] at m
          exact nomatch m
        · rw [if_neg e] at m
          exact e (z.dis j i a m ma)
    obtain ⟨F', z1, l1, n1⟩ := z0
    have z2 := z1.join (f := F i) n1
    have li : i < σ.length := by
      rw [← z.len]
      exact (List.getElem?_eq_some_iff.mp e).1
    obtain ⟨F2, z3, l3⟩ := z2.put (i := i) (fv := []) (.sh q) (fun _ m => nomatch m)
    have es : (σ.set i none).set i (some v) = σ := by
      rw [List.set_set]
      exact set_id hv
    have er : (ρ.set i none).set i (some (S.sh (.lst (fzs ss)))) = ρ.set i (some (.sh (.lst (fzs ss)))) := List.set_set ..
    rw [es, er] at z3
    refine ⟨_, F2, [], z3, .sh q, fun _ m => (nomatch m), fun _ m => (nomatch m), ?_⟩
    have e0 : Ev F Hs H F' Hs H := ⟨fun a h => .inl (l1 a h), .refl⟩
    refine (e0.join (f := F i) z.le fun a m => .inl ⟨i, m⟩).less fun a h => ?_
    rcases l3 a h with m | m
    · exact nomatch m
    · exact m
  · exact h.elim⟩
/-- two operands, shared -/
class RD (K : PySem.W.Frag) (r : R2) (f : outParam (D → D → (S → Prop) → Prop)) : Prop where
  run : ∀ {Hs H : Hp} {x y : V} {dx dy : D} {Q : S → Prop} {Qh : VK}, Same Hs H → Dn K Hs x dx → Dn K Hs y dy → f dx dy Q → (∀ v s H', Nv K Hs H v s H' → Q s → Qh v H') → r x y H Qh
def mOp (f : D → D → (S → Prop) → Prop) (ma mb : ME) : ME := fun ρ Q Qx => mV ma ρ (fun x ρ1 => mV mb ρ1 (fun y ρ2 => f x y fun s => Q s ρ2) Qx) Qx
instance deOp {r : R2} {f : D → D → (S → Prop) → Prop} [DE K EE ta ma] [DE K EE tb mb] [rd : RD K r f] : DE K EE (tOp r ta tb) (mOp f ma mb) := ⟨fun z h k kx =>
  DE.runV (te := ta) (m := ma) z h (fun x dx ρ1 H1 p1 h1 => by
    obtain ⟨Hs1, F1, z1, q1, e1⟩ := p1
    refine DE.runV (te := tb) (m := mb) z1 h1 (fun y dy ρ2 H2 p2 h2 => ?_) (fun x cls od ρ' H' p => kx x cls od ρ' H' (p.trans e1))
    obtain ⟨Hs2, F2, z2, q2, e2⟩ := p2
    exact rd.run z2.le (q1.mono e2.tr.sh) q2 h2 fun v s H' nv q => k v s ρ2 H' ((nv.po z2).trans (e1.trans e2)) q) kx⟩
class RU (K : PySem.W.Frag) (r : V → Hp → VK → Prop) (f : outParam (D → (S → Prop) → Prop)) : Prop where
  run : ∀ {Hs H : Hp} {x : V} {dx : D} {Q : S → Prop} {Qh : VK}, Same Hs H → Dn K Hs x dx → f dx Q → (∀ v s H', Nv K Hs H v s H' → Q s → Qh v H') → r x H Qh
def mUn (f : D → (S → Prop) → Prop) (ma : ME) : ME := fun ρ Q Qx => mV ma ρ (fun x ρ1 => f x fun s => Q s ρ1) Qx
instance deUn {r : V → Hp → VK → Prop} {f : D → (S → Prop) → Prop} [DE K EE ta ma] [rd : RU K r f] : DE K EE (tUn r ta) (mUn f ma) := ⟨fun z h k kx =>
  DE.runV (te := ta) (m := ma) z h (fun x dx ρ1 H1 p1 h1 => by
    obtain ⟨Hs1, F1, z1, q1, e1⟩ := p1
    exact rd.run z1.le q1 h1 fun v s H' nv q => k v s ρ1 H' ((nv.po z1).trans e1) q) kx⟩
/-! ### arguments -/
def mNil : MA := fun ρ Q _ => Q [] ρ
instance daNil : DA K EE tNil mNil := ⟨fun {io σ ρ Hs H F Q Qx Qh} z h k _ => k [] [] ρ H ⟨Hs, F, [], z, .nil, fun _ m => (nomatch m), fun _ m => (nomatch m), .refl⟩ h⟩
def mCons (ma : ME) (mr : MA) : MA := fun ρ Q Qx => ma ρ (fun s ρ1 => mr ρ1 (fun ss ρ2 => Q (s :: ss) ρ2) Qx) Qx
theorem Ow.stay {fv : List Addr} (o : Ow K io Hs H v s fv) (n : ∀ a ∈ fv, ¬ FP F a) (e : Ev F Hs H F' Hs' H') : Ow K io Hs' H' v s fv := o.keep e.tr.sh fun a m => by
  obtain ⟨⟨u, h⟩, q⟩ := o.has a m
  exact ⟨(e.tr.fr a u h (n a m)).trans h.symm, e.tr.ns a u h (n a m) q⟩
theorem OwA.stay {vs : List V} {ss : List S} {fv : List Addr} (o : OwA K io Hs H vs ss fv) (n : ∀ a ∈ fv, ¬ FP F a) (e : Ev F Hs H F' Hs' H') : OwA K io Hs' H' vs ss fv := o.keep e.tr.sh fun a m => by
  obtain ⟨⟨u, h⟩, q⟩ := o.has a m
  exact ⟨(e.tr.fr a u h (n a m)).trans h.symm, e.tr.ns a u h (n a m) q⟩
/-- what stood apart stands apart -/
theorem Ev.apart {a : Addr} {o : HO} (e : Ev F Hs H F' Hs' H') (h : H a = some o) (n : ¬ FP F a) : ¬ FP F' a := fun q => by
  rcases e.fp a q with z | z
  · exact n z
  · rw [h] at z
    cases z
instance daCons {tr : TA} {mr : MA} [ia : DE K EE ta ma] [ir : DA K EE tr mr] : DA K EE (tCons ta tr) (mCons ma mr) := ⟨fun {io σ ρ Hs H F Q Qx Qh} z h k kx =>
  ia.run z h (fun v s ρ1 H1 p1 h1 => by
    obtain ⟨Hs1, F1, f1, z1, o1, n1, w1, e1⟩ := p1
    refine ir.run z1 h1 (fun vs ss ρ2 H2 p2 h2 => k _ _ _ _ ?_ h2) (fun x cls od ρ' H' p => kx x cls od ρ' H' (p.trans e1))
    obtain ⟨Hs2, F2, f2, z2, o2, n2, w2, e2⟩ := p2
    refine ⟨Hs2, F2, f1 ++ f2, z2, .cons (o1.stay n1 e2) o2 fun a m q => ?_, fun a m => ?_, fun a m => ?_, e1.trans e2⟩
    · obtain ⟨⟨u, hu⟩, _⟩ := o1.has a m
      rcases w2 a q with r | r
      · exact n1 a m r
      · rw [hu] at r
        cases r
    · rcases List.mem_append.mp m with m | m
      · obtain ⟨⟨u, hu⟩, _⟩ := o1.has a m
        exact e2.apart hu (n1 a m)
      · exact n2 a m
    · rcases List.mem_append.mp m with m | m
      · exact w1 a m
      · rcases w2 a m with r | r
        · exact e1.fp a r
        · exact e1.tr.back r) kx⟩
def mTup (ma : MA) : ME := fun ρ Q Qx => ma ρ (fun ss ρ1 => ss.length ≤ sizeLine ∧ Q (.sh (.tup (fzs ss))) ρ1) Qx
theorem OwA.len : ∀ {vs : List V} {ss : List S} {f : List Addr}, OwA K io Hs H vs ss f → vs.length = ss.length
  | _, _, _, .nil => rfl
  | _, _, _, .cons _ t _ => congrArg (· + 1) (OwA.len t)
instance deTup {ta : TA} {ma : MA} [ia : DA K EE ta ma] : DE K EE (tTup ta) (mTup ma) := ⟨fun {io σ ρ Hs H F Q Qx Qh} z h k kx =>
  ia.run z h (fun vs ss ρ1 H1 p1 h1 => by
    have l : vs.length = ss.length := by
      obtain ⟨_, _, _, _, o, _⟩ := p1
      exact o.len
    refine ⟨by rw [l]; exact h1.1, fun p np => k _ _ ρ1 _ ?_ h1.2⟩
    obtain ⟨Hs1, F1, z1, q1, e1⟩ := p1.fz
    exact (Nv.po z1 (.tup np q1)).trans e1) kx⟩
def mLst (ma : MA) : ME := fun ρ Q Qx => ma ρ (fun ss ρ1 => ss.length ≤ sizeLine ∧ Q (.ow ss) ρ1) Qx
instance deLst {ta : TA} {ma : MA} [ia : DA K EE ta ma] : DE K EE (tLst ta) (mLst ma) := ⟨fun {io σ ρ Hs H F Q Qx Qh} z h k kx =>
  ia.run z h (fun vs ss ρ1 H1 p1 h1 => by
    obtain ⟨Hs1, F1, f1, z1, o1, n1, w1, e1⟩ := p1
    refine ⟨by rw [o1.len]; exact h1.1, fun p np => k _ _ ρ1 _ ?_ h1.2⟩
    obtain ⟨z2, e2⟩ := z1.laid (o := .lst vs) np
    refine ⟨Hs1, F1, p :: f1, z2, .ow upd_same (z1.le0 np) (o1.stay n1 e2) fun m => ?_, fun a m => ?_, fun a m => ?_, e1.trans e2⟩
    · obtain ⟨⟨u, hu⟩, _⟩ := o1.has p m
      rw [np] at hu
      cases hu
    · rcases List.mem_cons.mp m with rfl | m
      · exact z1.new np
      · exact n1 a m
    · rcases List.mem_cons.mp m with rfl | m
      · exact e1.tr.back np
      · exact w1 a m) kx⟩
/-! ### tests -/
def asB (s : S) (Q : Bool → Prop) : Prop := match s with
  | .sh (.raw (.bl b)) => Q b
  | _ => False
theorem asB_ex {Q : Bool → Prop} (h : asB s Q) : ∃ b, s = .sh (.bl b) ∧ Q b := by
  unfold asB at h
  split at h
  · exact ⟨_, rfl, h⟩
  · exact h.elim
theorem Po.raw (p : Po K io σ F Hs H v (.sh (.raw d')) ρ' H') : v = d' ∧ PoE K io σ F Hs H ρ' H' := by
  obtain ⟨Hs', F', fv, z, o, n, w, e⟩ := p
  cases o with
  | sh q =>
    cases q
    exact ⟨rfl, Hs', F', z, e⟩
def mTest (me : ME) : MT := fun ρ Q Qx => me ρ (fun s ρ1 => asB s fun b => Q b ρ1) Qx
theorem dtTest0 [i : DE K EE te m] : DT K EE (tTest te) (mTest m) := ⟨fun z h k kx => i.run z h (fun v s ρ1 H1 p1 h1 => by
  obtain ⟨b, rfl, q⟩ := asB_ex h1
  obtain ⟨rfl, p⟩ := p1.raw
  exact ⟨b, rfl, k b ρ1 H1 p q⟩) kx⟩
theorem dtB0 [i : DE K EE te m] : DT K EE (tB te) (mTest m) := ⟨fun z h k kx => i.run z h (fun v s ρ1 H1 p1 h1 => by
  obtain ⟨b, rfl, q⟩ := asB_ex h1
  obtain ⟨rfl, p⟩ := p1.raw
  exact ⟨b, rfl, k b ρ1 H1 p q⟩) kx⟩
def mYes : MT := fun ρ Q _ => Q true ρ
instance dtYes : DT K EE tYes mYes := ⟨fun {io σ ρ Hs H F Q Qx Qh} z h k _ => k true ρ H ⟨Hs, F, z, .refl⟩ h⟩
def mAnd (a b : MT) : MT := fun ρ Q Qx => a ρ (fun c ρ1 => if c = true then b ρ1 Q Qx else Q false ρ1) Qx
def mOr (a b : MT) : MT := fun ρ Q Qx => a ρ (fun c ρ1 => if c = true then Q true ρ1 else b ρ1 Q Qx) Qx
def mNot (a : MT) : MT := fun ρ Q Qx => a ρ (fun c ρ1 => Q (!c) ρ1) Qx
variable {tt tu : TT} {mt mu : MT}
instance dtAnd [i : DT K EE tt mt] [j : DT K EE tu mu] : DT K EE (tAnd tt tu) (mAnd mt mu) := ⟨fun z h k kx => i.run z h (fun b ρ1 H1 p1 h1 => by
  cases b with
  | true =>
    obtain ⟨Hs1, F1, z1, e1⟩ := p1
    exact iteT (j.run z1 (by simpa using h1) (fun b ρ2 H2 p2 => k b ρ2 H2 (p2.trans e1)) fun x cls od ρ' H' p => kx x cls od ρ' H' (p.trans e1))
  | false => exact iteF (k false ρ1 H1 p1 (by simpa using h1))) kx⟩
instance dtOr [i : DT K EE tt mt] [j : DT K EE tu mu] : DT K EE (tOr tt tu) (mOr mt mu) := ⟨fun z h k kx => i.run z h (fun b ρ1 H1 p1 h1 => by
  cases b with
  | true => exact iteT (k true ρ1 H1 p1 (by simpa using h1))
  | false =>
    obtain ⟨Hs1, F1, z1, e1⟩ := p1
    exact iteF (j.run z1 (by simpa using h1) (fun b ρ2 H2 p2 => k b ρ2 H2 (p2.trans e1)) fun x cls od ρ' H' p => kx x cls od ρ' H' (p.trans e1))) kx⟩
instance dtNot [i : DT K EE tt mt] : DT K EE (tNot tt) (mNot mt) := ⟨fun z h k kx => i.run z h (fun b ρ1 H1 p1 h1 => k (!b) ρ1 H1 p1 h1) kx⟩
def mIf (c : MT) (a b : ME) : ME := fun ρ Q Qx => c ρ (fun c ρ1 => if c = true then a ρ1 Q Qx else b ρ1 Q Qx) Qx
instance deIf [i : DT K EE tt mt] [ja : DE K EE ta ma] [jb : DE K EE tb mb] : DE K EE (tIf tt ta tb) (mIf mt ma mb) := ⟨fun z h k kx => i.run z h (fun b ρ1 H1 p1 h1 => by
  obtain ⟨Hs1, F1, z1, e1⟩ := p1
  cases b with
  | true => exact iteT (ja.run z1 (by simpa using h1) (fun v s ρ2 H2 p2 => k v s ρ2 H2 (p2.trans e1)) fun x cls od ρ' H' p => kx x cls od ρ' H' (p.trans e1))
  | false => exact iteF (jb.run z1 (by simpa using h1) (fun v s ρ2 H2 p2 => k v s ρ2 H2 (p2.trans e1)) fun x cls od ρ' H' p => kx x cls od ρ' H' (p.trans e1))) kx⟩
def mAndV (a b : ME) : ME := fun ρ Q Qx => a ρ (fun s ρ1 => asB s fun c => if c = true then b ρ1 Q Qx else Q (.sh (.bl false)) ρ1) Qx
def mOrV (a b : ME) : ME := fun ρ Q Qx => a ρ (fun s ρ1 => asB s fun c => if c = true then Q (.sh (.bl true)) ρ1 else b ρ1 Q Qx) Qx
def mNotV (a : ME) : ME := fun ρ Q Qx => a ρ (fun s ρ1 => asB s fun c => Q (.sh (.bl (!c))) ρ1) Qx
theorem PoE.raw (p : PoE K io σ F Hs H ρ' H') (v : V) : Po K io σ F Hs H v (.sh (.raw v)) ρ' H' := by
  obtain ⟨Hs', F', z, e⟩ := p
  exact (Nv.po z (.old (.raw v))).trans e
instance deAndV [ja : DE K EE ta ma] [jb : DE K EE tb mb] : DE K EE (tAndV ta tb) (mAndV ma mb) := ⟨fun z h k kx => ja.run z h (fun v s ρ1 H1 p1 h1 => by
  obtain ⟨b, rfl, q⟩ := asB_ex h1
  obtain ⟨rfl, p⟩ := p1.raw
  refine ⟨b, rfl, ?_⟩
  cases b with
  | true =>
    obtain ⟨Hs1, F1, z1, e1⟩ := p
    exact iteT (jb.run z1 (by simpa using q) (fun v s ρ2 H2 p2 => k v s ρ2 H2 (p2.trans e1)) fun x cls od ρ' H' p => kx x cls od ρ' H' (p.trans e1))
  | false => exact iteF (k _ _ ρ1 H1 (p.raw _) (by simpa using q))) kx⟩
instance deOrV [ja : DE K EE ta ma] [jb : DE K EE tb mb] : DE K EE (tOrV ta tb) (mOrV ma mb) := ⟨fun z h k kx => ja.run z h (fun v s ρ1 H1 p1 h1 => by
  obtain ⟨b, rfl, q⟩ := asB_ex h1
  obtain ⟨rfl, p⟩ := p1.raw
  refine ⟨b, rfl, ?_⟩
  cases b with
  | true => exact iteT (k _ _ ρ1 H1 (p.raw _) (by simpa using q))
  | false =>
    obtain ⟨Hs1, F1, z1, e1⟩ := p
    exact iteF (jb.run z1 (by simpa using q) (fun v s ρ2 H2 p2 => k v s ρ2 H2 (p2.trans e1)) fun x cls od ρ' H' p => kx x cls od ρ' H' (p.trans e1))) kx⟩
instance deNotV [ja : DE K EE ta ma] : DE K EE (tNotV ta) (mNotV ma) := ⟨fun z h k kx => ja.run z h (fun v s ρ1 H1 p1 h1 => by
  obtain ⟨b, rfl, q⟩ := asB_ex h1
  obtain ⟨rfl, p⟩ := p1.raw
  exact ⟨b, rfl, k _ _ ρ1 H1 (p.raw _) q⟩) kx⟩
end
end Da
namespace Da
open PySem L2
section
variable {K : PySem.W.Frag} {EE : L2.St → XK} {io : List Addr} {σ : L2.St} {ρ ρ' : Env} {Hs H Hs1 H1 Hs' H' : Hp} {F F1 F' : Nat → List Addr} {v : V} {s : S} {d : D} {te ta tb : TE} {m ma mb : ME} {t u : TS} {mt mu : MS} {tc : TT} {mc : MT}
/-! ### targets -/
theorem wipe_set {vs : List Nat} {i : Nat} {x : Option V} : ∀ {σ : L2.St}, i ∈ vs → wipe (σ.set i x) vs = wipe σ vs := by
  have key : ∀ (vs : List Nat) (σ τ : L2.St), σ.length = τ.length → (∀ j, j ∉ vs → σ[j]? = τ[j]?) → wipe σ vs = wipe τ vs := by
    intro vs
    induction vs with
    | nil =>
      intro σ τ _ h
      apply List.ext_getElem?
      intro j
      exact h j (fun m => nomatch m)
    | cons a vs ih =>
      intro σ τ hl h
      show (wipe σ vs).set a none = (wipe τ vs).set a none
      -- peel through a set at a on both
      have e : ∀ (ws : List Nat) (σ : L2.St), (wipe σ ws).set a none = wipe (σ.set a none) ws := by
        intro ws
        induction ws with
        | nil => intro σ; rfl
        | cons b ws ih2 =>
          intro σ
          show ((wipe σ ws).set b none).set a none = (wipe (σ.set a none) ws).set b none
          rw [← ih2 σ]
          by_cases q : b = a
          · subst q
            rfl
          · exact List.set_comm _ _ q
      rw [e, e]
      refine ih _ _ (by simp [hl]) fun j n => ?_
      by_cases q : a = j
      · subst q
        by_cases z : a < σ.length
        · rw [List.getElem?_set_self z, List.getElem?_set_self (by rw [← hl]; exact z)]
        · rw [List.getElem?_eq_none (by simp; omega), List.getElem?_eq_none (by simp; omega)]
      · rw [List.getElem?_set_ne q, List.getElem?_set_ne q]
        exact h j fun m => by
          rcases List.mem_cons.mp m with r | r
          · exact q r.symm
          · exact n r
  intro σ hm
  refine key vs _ _ (by simp) fun j n => ?_
  have q : i ≠ j := fun e => n (e ▸ hm)
  rw [List.getElem?_set_ne q]
def mgName (i : Nat) : MG := fun s ρ Q => Q (ρ.set i (some s))
instance dgName {i : Nat} : DG K EE (gName i) [i] (mgName i) := ⟨fun {io σ ρ Hs H F v s fv Q R} z o n h k => by
  obtain ⟨F', z1, l1⟩ := z.put (i := i) o fun a m j _ q => n a m ⟨j, q⟩
  refine k _ _ _ ⟨Hs, F', z1, fun a q => ?_, .refl⟩ (fun vs hv => wipe_set (hv i List.mem_cons_self)) h
  rcases l1 a q with r | r
  · exact .inr (.inl r)
  · exact .inl r⟩
def mgsNil : MGs := fun ds ρ Q => match ds with
  | [] => Q ρ
  | _ :: _ => False
def mgsCons (g : MG) (gs : MGs) : MGs := fun ds ρ Q => match ds with
  | [] => False
  | d :: r => g (.sh d) ρ fun ρ1 => gs r ρ1 Q
instance dgsNil : DGs K EE gNil [] mgsNil := ⟨fun {io σ ρ Hs H F vs ds Q R} z q h k => by
  cases q with
  | nil => exact ⟨rfl, k _ _ _ ⟨Hs, F, z, .refl⟩ (fun _ _ => rfl) h⟩
  | cons => exact h.elim⟩
theorem PoG.sh {σ' : L2.St} (p : PoG K io F [] Hs H σ' ρ' H') : PoE K io σ' F Hs H ρ' H' := by
  obtain ⟨Hs', F', z, l, t⟩ := p
  have key : ∀ {a : Addr}, ¬ FP F a → ¬ (FP F a ∨ a ∈ ([] : List Addr)) := fun {a} n q => by
    rcases q with q | q
    · exact n q
    · exact (nomatch q)
  refine ⟨Hs', F', z, fun a q => ?_, t.sh, fun a o h n => t.fr a o h (key n), fun a o h n => t.ns a o h (key n)⟩
  rcases l a q with r | r | r
  · exact .inl r
  · exact (nomatch r)
  · exact .inr r
instance dgsCons {g : TG} {gs : TGs} {is js : List Nat} {mg : MG} {ms : MGs} [i : DG K EE g is mg] [j : DGs K EE gs js ms] : DGs K EE (gCons g gs) (is ++ js) (mgsCons mg ms) := ⟨fun {io σ ρ Hs H F vs ds Q R} z q h k => by
  cases q with
  | nil => exact h.elim
  | cons q1 q2 =>
    refine ⟨_, _, rfl, i.run z (.sh q1) (fun _ m => (nomatch m)) h fun σ1 ρ1 H1 p1 w1 h1 => ?_⟩
    obtain ⟨Hs1, F1, z1, e1⟩ := p1.sh
    refine j.run z1 (q2.mono e1.tr.sh) h1 fun σ' ρ' H' p w => k σ' ρ' H' (p.trans e1) fun vs hv => ?_
    rw [w vs fun i hi => hv i (List.mem_append_right _ hi), w1 vs fun i hi => hv i (List.mem_append_left _ hi)]⟩
def mgTup (n : Nat) (gs : MGs) : MG := fun s ρ Q => match s with
  | .sh (.tup ds) => ds.length = n ∧ gs ds ρ Q
  | _ => False
theorem dgTup_0 {n : Nat} {gs : TGs} {is : List Nat} {ms : MGs} [j : DGs K EE gs is ms] : DG K EE (gTup K n gs) is (mgTup n ms) := ⟨fun {io σ ρ Hs H F v s fv Q R} z o nf h k => by
  unfold mgTup at h
  split at h
  · rename_i ds
    have q := o.inv
    cases q with
    | tup hq qs =>
      refine ⟨_, _, rfl, sqt_mono z.le hq, qs.len.trans h.1, j.run z qs h.2 fun σ' ρ' H' p w => k σ' ρ' H' ?_ w⟩
      obtain ⟨Hs1, F1, z1, e1⟩ := p
      exact ⟨Hs1, F1, z1, fun a q => by
        rcases e1.fp a q with r | r
        · exact .inl r
        · exact .inr (.inr r), e1.tr.sh, fun a o h n => e1.tr.fr a o h fun q => n (.inl q), fun a o h n => e1.tr.ns a o h fun q => n (.inl q)⟩
  · exact h.elim⟩
instance dgTup {K' : PySem.W.Frag} [hK : KEq K' K] {n : Nat} {gs : TGs} {is : List Nat} {ms : MGs} [j : DGs K EE gs is ms] : DG K EE (gTup K' n gs) is (mgTup n ms) := by
  cases hK.e
  exact dgTup_0
/-! ### statements -/
def mNext : MS := fun Dd ρ => Dd.nx ρ
instance dsNext : DS K EE tNext mNext := ⟨fun {io σ ρ Hs H F Dd Dh} z h l => l.nx σ ρ H ⟨Hs, F, z, .refl⟩ h⟩
def mBreak : MS := fun Dd ρ => Dd.bk ρ
instance dsBreak : DS K EE tBreak mBreak := ⟨fun {io σ ρ Hs H F Dd Dh} z h l => l.bk σ ρ H ⟨Hs, F, z, .refl⟩ h⟩
def mCont : MS := fun Dd ρ => Dd.ct ρ
instance dsCont : DS K EE tCont mCont := ⟨fun {io σ ρ Hs H F Dd Dh} z h l => l.ct σ ρ H ⟨Hs, F, z, .refl⟩ h⟩
def mNever : MS := fun _ _ => False
instance dsNever : DS K EE tNever mNever := ⟨fun _ h _ => h⟩
def mSeq (a b : MS) : MS := fun Dd ρ => a { Dd with nx := fun ρ1 => b Dd ρ1 } ρ
instance dsSeq [i : DS K EE t mt] [j : DS K EE u mu] : DS K EE (tSeq t u) (mSeq mt mu) := ⟨fun {io σ ρ Hs H F Dd Dh} z h l => i.run z h ⟨fun σ1 ρ1 H1 p1 h1 => by
  obtain ⟨Hs1, F1, z1, e1⟩ := p1
  exact j.run z1 h1 (l.trans e1), l.rt, l.bk, l.ct, l.xk⟩⟩
/-- what follows is read once, from Mid -/
def mCut (a b : MS) : MS := fun Dd ρ => ∃ Mid : Env → Prop, a { Dd with nx := Mid } ρ ∧ ∀ ρ', Mid ρ' → b Dd ρ'
instance dsCut [i : DS K EE t mt] [j : DS K EE u mu] : DS K EE (C8.tCut t u) (mCut mt mu) := ⟨fun {io σ ρ Hs H F Dd Dh} z h l => by
  obtain ⟨Mid, h1, h2⟩ := h
  refine ⟨fun σ1 H1 => ∃ ρ1, PoE K io σ1 F Hs H ρ1 H1 ∧ Mid ρ1, i.run z h1 ⟨fun σ1 ρ1 H1 p1 q1 => ⟨ρ1, p1, q1⟩, l.rt, l.bk, l.ct, l.xk⟩, ?_⟩
  rintro σ1 H1 ⟨ρ1, ⟨Hs1, F1, z1, e1⟩, q1⟩
  exact j.run z1 (h2 ρ1 q1) (l.trans e1)⟩
def mDrop (me : ME) : MS := fun Dd ρ => me ρ (fun _ ρ1 => Dd.nx ρ1) Dd.xk
theorem dsDrop0 [i : DE K EE te m] : DS K EE (tDrop te) (mDrop m) := ⟨fun {io σ ρ Hs H F Dd Dh} z h l => i.run z h (fun v s ρ1 H1 p1 h1 => by
  obtain ⟨Hs1, F1, f1, z1, o1, n1, w1, e1⟩ := p1
  exact l.nx σ ρ1 H1 ⟨Hs1, F1, z1, e1⟩ h1) (fun x cls od ρ' H' p q => l.xk σ x cls od ρ' H' p q)⟩
def mRet (me : ME) : MS := fun Dd ρ => me ρ Dd.rt Dd.xk
theorem dsRet0 [i : DE K EE te m] : DS K EE (tRet te) (mRet m) := ⟨fun {io σ ρ Hs H F Dd Dh} z h l => i.run z h (fun v s ρ1 H1 p1 h1 => l.rt σ v s ρ1 H1 p1 h1) (fun x cls od ρ' H' p q => l.xk σ x cls od ρ' H' p q)⟩
def mRetN : MS := fun Dd ρ => Dd.rt (.sh .non) ρ
instance dsRetN : DS K EE tRetN mRetN := ⟨fun {io σ ρ Hs H F Dd Dh} z h l => l.rt σ .non _ ρ H (PoE.raw ⟨Hs, F, z, .refl⟩ _) h⟩
/-- return x, x given up -/
def mRetV (i : Nat) : MS := fun Dd ρ => match ρ[i]? with
  | some (some s) => Dd.rt s (ρ.set i none)
  | _ => False
instance dsRetV {i : Nat} : DS K EE (tRet (tVar i)) (mRetV i) := ⟨fun {io σ ρ Hs H F Dd Dh} z h l => by
  unfold mRetV at h
  split at h
  · rename_i s e
    obtain ⟨v, hv, o⟩ := z.own i _ e
    refine ⟨v, hv, l.rt (σ.set i none) v s _ H ?_ h⟩
    have hi : i < ρ.length := (List.getElem?_eq_some_iff.mp e).1
    refine ⟨Hs, fun j => if j = i then [] else F j, F i, ⟨z.le, by simp [z.len], fun j t h => ?_, fun j a m => ?_, fun j k a h1 h2 => ?_⟩, o, fun a ma ⟨j, m⟩ => ?_, fun a m => .inl ⟨i, m⟩, ⟨fun a ⟨j, m⟩ => .inl ?_, .refl⟩⟩
    · by_cases e : j = i
      · subst e
        rw [List.getElem?_set_self hi] at h
        cases h
      · rw [List.getElem?_set_ne (Ne.symm e)] at h
        obtain ⟨u, h1, h2⟩ := z.own j t h
        refine ⟨u, by rw [List.getElem?_set_ne (Ne.symm e)]; exact h1, ?_⟩
        show Ow K io Hs H u t (if j = i then [] else F j)
        rw [if_neg e]
        exact h2
    · have m : a ∈ (if j = i then [] else F j) := m
      by_cases e : j = i
      · rw [if_pos e] at m
        exact nomatch m
      · rw [if_neg e] at m
        obtain ⟨t, h⟩ := z.non j a m
        exact ⟨t, by rw [List.getElem?_set_ne (Ne.symm e)]; exact h⟩
    · have h1 : a ∈ (if j = i then [] else F j) := h1
      have h2 : a ∈ (if k = i then [] else F k) := h2
      by_cases e : j = i
      · rw [if_pos e] at h1
        exact nomatch h1
      · by_cases e' : k = i
        · rw [if_pos e'] at h2
          exact nomatch h2
        · rw [if_neg e] at h1
          rw [if_neg e'] at h2
          exact z.dis j k a h1 h2
    · have m : a ∈ (if j = i then [] else F j) := m
      by_cases e : j = i
      · rw [if_pos e] at m
        exact nomatch m
      · rw [if_neg e] at m
        exact e (z.dis j i a m ma)
    · have m : a ∈ (if j = i then [] else F j) := m
      by_cases e : j = i
      · rw [if_pos e] at m
        exact nomatch m
      · rw [if_neg e] at m
        exact ⟨j, m⟩
  · exact h.elim⟩
def mIfS (c : MT) (a b : MS) : MS := fun Dd ρ => c ρ (fun c ρ1 => if c = true then a Dd ρ1 else b Dd ρ1) Dd.xk
theorem dsIf0 [c : DT K EE tc mc] [i : DS K EE t mt] [j : DS K EE u mu] : DS K EE (tIfS tc t u) (mIfS mc mt mu) := ⟨fun {io σ ρ Hs H F Dd Dh} z h l => c.run z h (fun b ρ1 H1 p1 h1 => by
  obtain ⟨Hs1, F1, z1, e1⟩ := p1
  cases b with
  | true => exact iteT (i.run z1 (by simpa using h1) (l.trans e1))
  | false => exact iteF (j.run z1 (by simpa using h1) (l.trans e1))) (fun x cls od ρ' H' p q => l.xk σ x cls od ρ' H' p q)⟩
/-- behind a value and its target -/
theorem PoG.after {fv : List Addr} {σ' : L2.St} (e : Ev F Hs H F1 Hs1 H1) (w : ∀ a ∈ fv, FP F a ∨ H a = none) (p : PoG K io F1 fv Hs1 H1 σ' ρ' H') : PoE K io σ' F Hs H ρ' H' := by
  obtain ⟨Hs', F', z, l, t⟩ := p
  have key : ∀ {x : Addr} {o : HO}, H x = some o → ¬ FP F x → ¬ (FP F1 x ∨ x ∈ fv) := fun {x o} h n q => by
    rcases q with q | q
    · exact e.apart h n q
    · rcases w x q with r | r
      · exact n r
      · rw [h] at r
        cases r
  refine ⟨Hs', F', z, fun a q => ?_, e.tr.sh.trans t.sh, fun a o h n => t.fr a o (e.tr.fr a o h n) (key h n), fun a o h n q => t.ns a o (e.tr.fr a o h n) (key h n) (e.tr.ns a o h n q)⟩
  rcases l a q with r | r | r
  · exact e.fp a r
  · exact w a r
  · exact e.tr.back r
def mAsg (me : ME) (g : MG) : MS := fun Dd ρ => me ρ (fun s ρ1 => g s ρ1 Dd.nx) Dd.xk
theorem dsAsg0 {g : TG} {is : List Nat} {mg : MG} [i : DE K EE te m] [j : DG K EE g is mg] : DS K EE (tAsg te g) (mAsg m mg) := ⟨fun {io σ ρ Hs H F Dd Dh} z h l => i.run z h (fun v s ρ1 H1 p1 h1 => by
  obtain ⟨Hs1, F1, f1, z1, o1, n1, w1, e1⟩ := p1
  exact j.run z1 o1 n1 h1 fun σ' ρ' H' p w q => l.nx σ' ρ' H' (p.after e1 w1) q) (fun x cls od ρ' H' p q => l.xk σ x cls od ρ' H' p q)⟩
def mPar (i j : Nat) (ma : MA) : MS := fun Dd ρ => ma ρ (fun ss ρ1 => match ss with
  | [a, b] => Dd.nx ((ρ1.set i (some (.sh a.fz))).set j (some (.sh b.fz)))
  | _ => False) Dd.xk
instance dsPar {i j : Nat} {ta : TA} {ma : MA} [a : DA K EE ta ma] : DS K EE (tPar i j ta) (mPar i j ma) := ⟨fun {io σ ρ Hs H F Dd Dh} z h l => a.run z h (fun vs ss ρ1 H1 p1 h1 => by
  split at h1
  · rename_i a b
    obtain ⟨Hs1, F1, z1, q1, e1⟩ := p1.fz
    cases q1 with
    | cons qa q1 =>
      cases q1 with
      | cons qb q1 =>
        cases q1
        obtain ⟨F2, z2, l2⟩ := z1.put (i := i) (fv := []) (.sh qa) fun _ m => nomatch m
        obtain ⟨F3, z3, l3⟩ := z2.put (i := j) (fv := []) (.sh qb) fun _ m => nomatch m
        refine ⟨_, _, rfl, l.nx _ _ _ ⟨Hs1, F3, z3, e1.less fun a q => ?_⟩ h1⟩
        rcases l3 a q with r | r
        · exact nomatch r
        · rcases l2 a r with r | r
          · exact nomatch r
          · exact r
  · exact h1.elim) (fun x cls od ρ' H' p q => l.xk σ x cls od ρ' H' p q)⟩
/-! ### while -/
def mWhile (c : MT) (b : MS) : MS := fun Dd ρ => ∃ W : Nat → Env → Prop, (∃ m, W m ρ) ∧ ∀ m ρ, W m ρ → c ρ (fun k ρ1 => if k = true then ∃ N : Env → Prop, (∀ ρ', N ρ' → ∃ m', m' < m ∧ W m' ρ') ∧ b { Dd with nx := N, ct := N, bk := Dd.nx } ρ1 else Dd.nx ρ1) Dd.xk
instance dsWhile [c : DT K EE tc mc] [i : DS K EE t mt] : DS K EE (tWhile tc t) (mWhile mc mt) := ⟨fun {io σ ρ Hs H F Dd Dh} z h l => by
  obtain ⟨W, ⟨m0, w0⟩, step⟩ := h
  refine ⟨fun m σ1 H1 => ∃ ρ1, PoE K io σ1 F Hs H ρ1 H1 ∧ W m ρ1, ⟨m0, ρ, ⟨Hs, F, z, .refl⟩, w0⟩, ?_⟩
  rintro m σ1 H1 ⟨ρ1, ⟨Hs1, F1, z1, e1⟩, w1⟩
  refine c.run z1 (step m ρ1 w1) (fun b ρ2 H2 p2 h2 => ?_) (fun x cls od ρ' H' p q => l.xk σ1 x cls od ρ' H' (p.trans e1) q)
  obtain ⟨Hs2, F2, z2, e2⟩ := p2
  cases b with
  | true =>
    obtain ⟨N, hN, hb⟩ : ∃ N : Env → Prop, (∀ ρ', N ρ' → ∃ m', m' < m ∧ W m' ρ') ∧ mt { Dd with nx := N, ct := N, bk := Dd.nx } ρ2 := by simpa using h2
    refine iteT ⟨fun σ' H' => ∃ ρ', PoE K io σ' F Hs H ρ' H' ∧ N ρ', ?_, ?_⟩
    · rintro σ' H' ⟨ρ', p, q⟩
      obtain ⟨m', hm, w⟩ := hN ρ' q
      exact ⟨m', hm, ρ', p, w⟩
    · have l2 := l.trans (e1.trans e2)
      exact i.run z2 hb ⟨fun σ' ρ' H' p q => ⟨ρ', p.trans (e1.trans e2), q⟩, l2.rt, l2.nx, fun σ' ρ' H' p q => ⟨ρ', p.trans (e1.trans e2), q⟩, l2.xk⟩
  | false => exact iteF (l.nx σ1 ρ2 H2 ⟨Hs2, F2, z2, e1.trans e2⟩ (by simpa using h2))⟩
/-! ### for -/
def lp (g : MG) (b : MS) (Dd : Ed) : List D → Env → Prop
  | [], ρ => Dd.nx ρ
  | d :: ds, ρ => g (.sh d) ρ fun ρ1 => b { Dd with nx := lp g b Dd ds, ct := lp g b Dd ds, bk := Dd.nx } ρ1
def mFor (i : MI) (g : MG) (b : MS) : MS := fun Dd ρ => i ρ (fun ds ρ1 => lp g b Dd ds ρ1) Dd.xk
theorem drop_at {α : Type} {l : List α} {i : Nat} {x : α} (h : l[i]? = some x) : l.drop i = x :: l.drop (i + 1) := by
  obtain ⟨hi, e⟩ := List.getElem?_eq_some_iff.mp h
  rw [List.drop_eq_getElem_cons hi, e]
theorem Nv.shd (z : St K io σ ρ Hs H F) (h : Nv K Hs H v (.sh d) H') : ∃ Hs', St K io σ ρ Hs' H' F ∧ Dn K Hs' v d ∧ Ev F Hs H F Hs' H' := by
  cases h with
  | old h => exact ⟨Hs, z, h, .refl⟩
  | tup n t =>
    rename_i p vs ds
    obtain ⟨z1, e1⟩ := z.laidS (o := .tup vs) n
    exact ⟨_, z1, .tup (.inl (.inl upd_same)) (t.mono (same_new (z.le0 n))), e1⟩
instance dsFor {wi : TI} {mi : MI} {g : TG} {is : List Nat} {mg : MG} [i : DI K EE wi mi] [j : DG K EE g is mg] [b : DS K EE t mt] : DS K EE (tFor wi g t) (mFor mi mg mt) := ⟨fun {io σ ρ Hs H F Dd Dh} z h l => i.run z h (fun J ds ρ1 H1 p1 h1 => by
  obtain ⟨Hs1, F1, z1, wk, e1⟩ := p1
  refine ⟨fun n m σ' H' => m = ds.length - n ∧ n ≤ ds.length ∧ ∃ ρ' Hs' F', St K io σ' ρ' Hs' H' F' ∧ Ev F1 Hs1 H1 F' Hs' H' ∧ lp mg mt Dd (ds.drop n) ρ', ⟨ds.length, by simp, Nat.zero_le _, ρ1, Hs1, F1, z1, .refl, h1⟩, ?_⟩
  rintro n m σ' H' ⟨rfl, hn, ρ', Hs', F', z', e', h'⟩
  by_cases hlt : n < ds.length
  · refine .inr ⟨wk.go n H' Hs' hlt e'.tr.sh z'.le, fun σ2 H2 => ∃ ρ2, PoE K io σ2 F1 Hs1 H1 ρ2 H2 ∧ lp mg mt Dd (ds.drop (n + 1)) ρ2, ?_, fun x H2 y => ?_⟩
    · rintro σ2 H2 ⟨ρ2, ⟨Hs2, F2, z2, e2⟩, q2⟩
      exact ⟨ds.length - (n + 1), by omega, rfl, hlt, ρ2, Hs2, F2, z2, e2, q2⟩
    · obtain ⟨d, hd, nv⟩ := wk.yld n H' Hs' x H2 hlt e'.tr.sh z'.le y
      rw [drop_at hd] at h'
      obtain ⟨Hs2, z2, q2, e2⟩ := nv.shd z'
      refine j.run z2 (.sh q2) (fun _ m => (nomatch m)) h' fun σ3 ρ3 H3 p3 w3 h3 => ?_
      obtain ⟨Hs3, F3, z3, e3⟩ := p3.sh
      have ee := (e'.trans e2).trans e3
      have l3 := l.trans (e1.trans ee)
      exact b.run z3 h3 ⟨fun σ4 ρ4 H4 p q => ⟨ρ4, p.trans ee, q⟩, l3.rt, l3.nx, fun σ4 ρ4 H4 p q => ⟨ρ4, p.trans ee, q⟩, l3.xk⟩
  · have en : n = ds.length := by omega
    subst en
    rw [List.drop_length] at h'
    exact .inl ⟨wk.stop H' Hs' e'.tr.sh z'.le, l.nx σ' ρ' H' ⟨Hs', F', z', e1.trans e'⟩ h'⟩) (fun x cls od ρ' H' p q => l.xk σ x cls od ρ' H' p q)⟩
end
end Da
namespace Da
open PySem L2
section
variable {K : PySem.W.Frag} {EE : L2.St → XK} {io : List Addr} {σ : L2.St} {ρ ρ' : Env} {Hs H Hs1 H1 Hs' H' : Hp} {F F1 F' : Nat → List Addr} {v : V} {s : S} {d : D} {te ta tb : TE} {m ma mb : ME} {tt : TT} {mt : MT} {wi : TI} {mi : MI}
/-! ### comprehensions -/
def wp (ρ : Env) : List Nat → Env
  | [] => ρ
  | v :: vs => (wp ρ vs).set v none
theorem St.wipe (z : St K io σ ρ Hs H F) : ∀ vs : List Nat, ∃ F', St K io (L2.wipe σ vs) (wp ρ vs) Hs H F' ∧ ∀ a, FP F' a → FP F a
  | [] => ⟨F, z, fun _ h => h⟩
  | v :: vs => by
    obtain ⟨F1, z1, l1⟩ := z.wipe vs
    obtain ⟨F2, z2, l2⟩ := z1.drop v none
    exact ⟨F2, z2, fun a h => l1 a (l2 a h)⟩
theorem St.unwipe {vs : List Nat} (z : St K io (L2.wipe σ vs) ρ Hs H F) : St K io σ ρ Hs H F :=
  ⟨z.le, z.len.trans (wipe_length σ vs), fun i s h => by
    obtain ⟨v, h1, h2⟩ := z.own i s h
    exact ⟨v, (wipe_some h1).1, h2⟩, z.non, z.dis⟩
theorem wipe_get {σ : L2.St} {i : Nat} : ∀ {vs : List Nat}, i ∉ vs → (L2.wipe σ vs)[i]? = σ[i]?
  | [], _ => rfl
  | v :: vs, h => by
    show ((L2.wipe σ vs).set v none)[i]? = _
    rw [List.getElem?_set_ne fun e => h (by rw [e]; exact List.mem_cons_self)]
    exact wipe_get fun m => h (List.mem_cons_of_mem _ m)
theorem wipe_none {σ : L2.St} {i : Nat} : ∀ {vs : List Nat}, i ∈ vs → i < σ.length → (L2.wipe σ vs)[i]? = some none
  | v :: vs, h, hi => by
    show ((L2.wipe σ vs).set v none)[i]? = _
    by_cases e : v = i
    · subst e
      exact List.getElem?_set_self (by rw [wipe_length]; exact hi)
    · rw [List.getElem?_set_ne e]
      rcases List.mem_cons.mp h with r | r
      · exact absurd r.symm e
      · exact wipe_none r hi
theorem wipe_wipe (σ : L2.St) (vs : List Nat) : L2.wipe (L2.wipe σ vs) vs = L2.wipe σ vs := by
  apply List.ext_getElem?
  intro i
  by_cases h : i ∈ vs
  · by_cases hi : i < σ.length
    · rw [wipe_none h (by rw [wipe_length]; exact hi), wipe_none h hi]
    · rw [List.getElem?_eq_none (by rw [wipe_length, wipe_length]; omega), List.getElem?_eq_none (by rw [wipe_length]; omega)]
  · rw [wipe_get h]
def lcp (mg : MG) (mt : MT) (me : ME) (vs : List Nat) (Q : List S → Env → Prop) : List D → List S → Env → Prop
  | [], acc, ρ => Q acc ρ
  | d :: ds, acc, ρ => mg (.sh d) ρ fun ρ1 => mt ρ1 (fun b ρ2 => if b = true then me ρ2 (fun s ρ3 => lcp mg mt me vs Q ds (acc ++ [s]) (wp ρ3 vs)) X0 else lcp mg mt me vs Q ds acc (wp ρ2 vs)) X0
def mLc (mi : MI) (is : List Nat) (mg : MG) (mt : MT) (me : ME) (vs : List Nat) : ME := fun ρ Q Qx =>
  mi ρ (fun ds ρ1 => (is.all fun i => vs.contains i) = true ∧ ds.length < sizeLine ∧ lcp mg mt me vs (fun acc ρ2 => Q (.ow acc) ρ2) ds [] (wp ρ1 vs)) Qx
theorem Ev.write {p : Addr} {o : HO} (e : Ev F Hs H F' Hs' H') (n : H p = none) : Ev F Hs H F' Hs' (upd H' p o) :=
  ⟨e.fp, e.tr.sh, fun a u h q => by
    rw [upd_ne (ne_of_none h n)]
    exact e.tr.fr a u h q, e.tr.ns⟩
theorem OwA.snoc {vs : List V} {ss : List S} {f g : List Addr} {v : V} {s : S} (o : OwA K io Hs H vs ss f) (q : Ow K io Hs H v s g) (n : ∀ a ∈ g, a ∉ f) : OwA K io Hs H (vs ++ [v]) (ss ++ [s]) (f ++ g) := by
  have key : ∀ {vs : List V} {ss : List S} {f : List Addr}, OwA K io Hs H vs ss f → (∀ a ∈ g, a ∉ f) → OwA K io Hs H (vs ++ [v]) (ss ++ [s]) (f ++ g) := by
    intro vs
    induction vs with
    | nil =>
      intro ss f o n
      cases o
      have c : OwA K io Hs H [v] [s] (g ++ []) := .cons q .nil fun _ _ m => (nomatch m)
      rw [List.append_nil] at c
      exact c
    | cons u us ih =>
      intro ss f o n
      cases o with
      | cons h t dj =>
        rename_i s0 ss0 f1 f2
        rw [List.append_assoc]
        refine .cons h (ih t fun a m r => n a m (List.mem_append_right _ r)) fun a m r => ?_
        rcases List.mem_append.mp r with r | r
        · exact dj a m r
        · exact n a r (List.mem_append_left _ m)
  exact key o n
instance deLc {g : TG} {is : List Nat} {mg : MG} {vs : List Nat} [i : DI K EE wi mi] [j : DG K EE g is mg] [c : DT K EE tt mt] [b : DE K EE te m] : DE K EE (tLc wi g tt te vs) (mLc mi is mg mt m vs) := ⟨fun {io σ ρ Hs H F Q Qx Qh} z h k kx => i.run z h (fun J ds ρ1 H1 p1 h1 => by
  obtain ⟨Hs1, F1, z1, wk, e1⟩ := p1
  obtain ⟨hsub, hlen, h1⟩ := h1
  have hsub : ∀ i ∈ is, i ∈ vs := fun i hi => by
    have := List.all_eq_true.mp hsub i hi
    simpa using this
  intro Dl nD
  refine ⟨fun n mm H' => mm = ds.length - n ∧ n ≤ ds.length ∧ ∃ ρ' Hs' F' accS accV fa, St K io (L2.wipe σ vs) ρ' Hs' H' F' ∧ Ev F1 Hs1 H1 F' Hs' H' ∧ H' Dl = some (.lst accV) ∧ Hs' Dl = none ∧ ¬ FP F' Dl ∧ OwA K io Hs' H' accV accS fa ∧ Dl ∉ fa ∧ (∀ a ∈ fa, ¬ FP F' a) ∧ (∀ a ∈ fa, FP F1 a ∨ H1 a = none) ∧ accV.length ≤ n ∧
    lcp mg mt m vs (fun acc ρ2 => Q (.ow acc) ρ2) (ds.drop n) accS ρ', ⟨ds.length, by simp, Nat.zero_le _, ?_⟩, ?_⟩
  · obtain ⟨z2, e2⟩ := z1.laid (o := .lst []) nD
    obtain ⟨F3, z3, l3⟩ := z2.wipe vs
    refine ⟨wp ρ1 vs, Hs1, F3, [], [], [], z3, e2.less l3, upd_same, z1.le0 nD, fun q => z1.new nD (l3 _ q), .nil, (fun q => nomatch q), fun _ q => (nomatch q), fun _ q => (nomatch q), Nat.le_refl _, h1⟩
  · rintro n mm H' ⟨rfl, hn, ρ', Hs', F', accS, accV, fa, z', e', hD, hsD, nFD, oa, nDa, da, wa, la, h'⟩
    by_cases hlt : n < ds.length
    · refine .inr ⟨wk.go n H' Hs' hlt e'.tr.sh z'.le, fun H2 => n + 1 ≤ ds.length ∧ ∃ ρ' Hs' F' accS accV fa, St K io (L2.wipe σ vs) ρ' Hs' H2 F' ∧ Ev F1 Hs1 H1 F' Hs' H2 ∧ H2 Dl = some (.lst accV) ∧ Hs' Dl = none ∧ ¬ FP F' Dl ∧ OwA K io Hs' H2 accV accS fa ∧ Dl ∉ fa ∧ (∀ a ∈ fa, ¬ FP F' a) ∧ (∀ a ∈ fa, FP F1 a ∨ H1 a = none) ∧ accV.length ≤ n + 1 ∧
        lcp mg mt m vs (fun acc ρ2 => Q (.ow acc) ρ2) (ds.drop (n + 1)) accS ρ', ?_, fun x H2 y => ?_⟩
      · rintro H2 ⟨l, q⟩
        exact ⟨ds.length - (n + 1), by omega, rfl, l, q⟩
      · obtain ⟨d, hd, nv⟩ := wk.yld n H' Hs' x H2 hlt e'.tr.sh z'.le y
        rw [drop_at hd] at h'
        obtain ⟨Hs2, z2, q2, e2⟩ := nv.shd z'
        refine j.run z2 (.sh q2) (fun _ m => (nomatch m)) h' fun σ3 ρ3 H3 p3 w3 h3 => ⟨(w3 vs hsub).trans (wipe_wipe σ vs), ?_⟩
        obtain ⟨Hs3, F3, z3, e3⟩ := p3.sh
        have e23 := e2.trans e3
        refine c.run z3 h3 (fun bb ρ4 H4 p4 h4 => ?_) (fun x cls od ρ' H' p q => q.elim)
        obtain ⟨Hs4, F4, z4, e4⟩ := p4
        have e24 := e23.trans e4
        have wpk : ∀ {σ3 : L2.St} {ρ5 : Env} {Hs5 H5 : Hp} {F5 : Nat → List Addr}, L2.wipe σ3 vs = L2.wipe (L2.wipe σ vs) vs → St K io σ3 ρ5 Hs5 H5 F5 → ∃ F6, St K io (L2.wipe σ vs) (wp ρ5 vs) Hs5 H5 F6 ∧ ∀ a, FP F6 a → FP F5 a := fun hw z5 => by
          obtain ⟨F6, z6, l6⟩ := z5.wipe vs
          rw [hw, wipe_wipe] at z6
          exact ⟨F6, z6, l6⟩
        cases bb with
        | false =>
          refine iteF ?_
          have h4 : lcp mg mt m vs (fun acc ρ2 => Q (.ow acc) ρ2) (ds.drop (n + 1)) accS (wp ρ4 vs) := by simpa using h4
          obtain ⟨F6, z6, l6⟩ := wpk (w3 vs hsub) z4
          exact ⟨by omega, _, Hs4, F6, accS, accV, fa, z6, (e'.trans e24).less l6, e24.tr.fr _ _ hD nFD, e24.tr.ns _ _ hD nFD hsD, fun q => e24.apart hD nFD (l6 _ q), oa.stay da e24, nDa, fun a ma q => by
            obtain ⟨⟨u, hu⟩, _⟩ := oa.has a ma
            exact e24.apart hu (da a ma) (l6 _ q), wa, by omega, h4⟩
        | true =>
          refine iteT ?_
          have h4 : m ρ4 (fun s ρ3 => lcp mg mt m vs (fun acc ρ2 => Q (.ow acc) ρ2) (ds.drop (n + 1)) (accS ++ [s]) (wp ρ3 vs)) X0 := by simpa using h4
          refine b.run z4 h4 (fun y s ρ5 H5 p5 h5 => ?_) (fun x cls od ρ' H' p q => q.elim)
          obtain ⟨Hs5, F5, f5, z5, o5, n5, w5, e5⟩ := p5
          have e25 := e24.trans e5
          have hD5 := e25.tr.fr _ _ hD nFD
          have nF5 := e25.apart hD nFD
          have hs5 := e25.tr.ns _ _ hD nFD hsD
          have oa5 := oa.stay da e25
          -- what y owns is new, or was the names'
          have yv : ∀ a ∈ f5, a ∉ fa ∧ a ≠ Dl ∧ (FP F1 a ∨ H1 a = none) := fun a ma => by
            rcases w5 a ma with r | r
            · rcases e24.fp a r with r' | r'
              · refine ⟨fun q => da a q r', fun q => nFD (q ▸ r'), e'.fp a r'⟩
              · refine ⟨fun q => ?_, fun q => ?_, e'.tr.back r'⟩
                · obtain ⟨⟨u, hu⟩, _⟩ := oa.has a q
                  rw [hu] at r'
                  cases r'
                · rw [q, hD] at r'
                  cases r'
            · rcases e24.tr.back r with r' | r'
              · refine ⟨fun q => da a q r', fun q => nFD (q ▸ r'), e'.fp a r'⟩
              · refine ⟨fun q => ?_, fun q => ?_, e'.tr.back r'⟩
                · obtain ⟨⟨u, hu⟩, _⟩ := oa.has a q
                  rw [hu] at r'
                  cases r'
                · rw [q, hD] at r'
                  cases r'
          have lz : accV.length < sizeLine := by omega
          refine ⟨accV, hD5, lz, by omega, ?_⟩
          have zk : St K io σ3 ρ5 Hs5 (upd H5 Dl (.lst (accV ++ [y]))) F5 := z5.keep (Same.refl _) (fun a u hu => by
            rw [upd_ne fun q => by rw [q, hs5] at hu; cases hu]
            exact z5.le a u hu) fun a q => ⟨upd_ne fun q' => nF5 (q' ▸ q), (z5.has q).2⟩
          obtain ⟨F6, z6, l6⟩ := wpk (w3 vs hsub) zk
          refine ⟨_, Hs5, F6, accS ++ [s], accV ++ [y], fa ++ f5, z6, (((e'.trans e25).write nD).less l6), upd_same, hs5, fun q => nF5 (l6 _ q), ?_, ?_, fun a ma q => ?_, fun a ma => ?_, by simp; omega, h5⟩
          · refine (OwA.keep (Same.refl _) oa5 fun a ma => ⟨upd_ne (b := a) (a := Dl) fun (q : a = Dl) => nDa (by rw [← q]; exact ma), (oa5.has a ma).2⟩).snoc (Ow.keep (Same.refl _) o5 fun a ma => ⟨upd_ne (yv a ma).2.1, (o5.has a ma).2⟩) fun a ma => (yv a ma).1
          · intro q
            rcases List.mem_append.mp q with q | q
            · exact nDa q
            · exact (yv Dl q).2.1 rfl
          · rcases List.mem_append.mp ma with ma | ma
            · obtain ⟨⟨u, hu⟩, _⟩ := oa.has a ma
              exact e25.apart hu (da a ma) (l6 _ q)
            · exact n5 a ma (l6 _ q)
          · rcases List.mem_append.mp ma with ma | ma
            · exact wa a ma
            · exact (yv a ma).2.2
    · have en : n = ds.length := by omega
      subst en
      rw [List.drop_length] at h'
      refine .inl ⟨wk.stop H' Hs' e'.tr.sh z'.le, k _ _ ρ' H' ⟨Hs', F', Dl :: fa, z'.unwipe, .ow hD hsD oa nDa, fun a ma => ?_, fun a ma => ?_, e1.trans e'⟩ h'⟩
      · rcases List.mem_cons.mp ma with rfl | ma
        · exact nFD
        · exact da a ma
      · rcases List.mem_cons.mp ma with rfl | ma
        · exact e1.tr.back nD
        · rcases wa a ma with r | r
          · exact e1.fp a r
          · exact e1.tr.back r) kx⟩
end
end Da
namespace Da
open PySem L2
mutual
/-- no list in it -/
def D.nl : D → Prop
  | .raw _ => True
  | .lst _ => False
  | .tup ds => nls ds
  | .ob _ _ ds => nls ds
  | .exc _ _ ds => nls ds
  | .scr _ => False
def nls : List D → Prop
  | [] => True
  | d :: ds => d.nl ∧ nls ds
end
mutual
/-- every list in it is its owner's alone -/
def S.told : S → Prop
  | .sh d => d.nl
  | .ow ss => tolds ss
  | .io _ _ => False
def tolds : List S → Prop
  | [] => True
  | s :: ss => s.told ∧ tolds ss
end
theorem nls_all : ∀ {ds : List D}, (∀ d ∈ ds, d.nl) → nls ds
  | [], _ => trivial
  | d :: ds, h => ⟨h d List.mem_cons_self, nls_all fun e m => h e (List.mem_cons_of_mem _ m)⟩
theorem tolds_all : ∀ {ss : List S}, (∀ s ∈ ss, s.told) → tolds ss
  | [], _ => trivial
  | d :: ds, h => ⟨h d List.mem_cons_self, tolds_all fun e m => h e (List.mem_cons_of_mem _ m)⟩
theorem tolds_shs {ds : List D} (h : ∀ d ∈ ds, d.nl) : tolds (shs ds) := tolds_all fun s m => by
  obtain ⟨d, hd, rfl⟩ := List.mem_map.mp m
  exact h d hd
section
variable {K : PySem.W.Frag} {EE : L2.St → XK} {io : List Addr} {σ : L2.St} {ρ ρ' : Env} {Hs H Hs1 H1 Hs' H' : Hp} {F F1 F' : Nat → List Addr} {v : V} {s : S} {d : D} {te ta tb : TE} {m ma mb : ME} {tc : TT} {mc : MT} {t u : TS} {mt mu : MS}
mutual
theorem Dn.rest (k : ∀ a o, Hs a = some o → (∀ xs, o ≠ .lst xs) → Hs' a = some o) : ∀ {d : D} {v : V}, Dn K Hs v d → d.nl → Dn K Hs' v d
  | _, _, .raw v, _ => .raw v
  | _, _, .lst _ _, n => n.elim
  | _, _, .tup h t, n => .tup (by
      rcases h with (h | ⟨o, h⟩) | h
      · exact .inl (.inl (k _ _ h fun _ z => by cases z))
      · exact .inl (.inr ⟨o, k _ _ h fun _ z => by cases z⟩)
      · exact .inr h) (DnA.rest k t n)
  | _, _, .ob h l t, n => .ob (k _ _ h fun _ z => by cases z) l (DnA.rest k t n)
  | _, _, .exc (od := od) h l t, n => .exc (k _ _ h fun _ z => by cases z) (by
      cases od with
      | none => exact l
      | some d => exact ⟨k _ _ l.1 fun _ z => (by cases z), l.2⟩) (DnA.rest k t n)
  | _, _, .scr _, n => n.elim
theorem DnA.rest (k : ∀ a o, Hs a = some o → (∀ xs, o ≠ .lst xs) → Hs' a = some o) : ∀ {ds : List D} {vs : List V}, DnA K Hs vs ds → nls ds → DnA K Hs' vs ds
  | _, _, .nil, _ => .nil
  | _, _, .cons h t, n => .cons (Dn.rest k h n.1) (DnA.rest k t n.2)
end
mutual
theorem Ow.rest (k : ∀ a o, Hs a = some o → (∀ xs, o ≠ .lst xs) → Hs' a = some o) (n : ∀ a, Hs a = none → Hs' a = none) : ∀ {v : V} {s : S} {f : List Addr}, Ow K io Hs H v s f → s.told → Ow K io Hs' H v s f
  | _, _, _, .sh h, q => .sh (h.rest k q)
  | _, _, _, .ow h e t p, q => .ow h (n _ e) (OwA.rest k n t q) p
  | _, _, _, .io _ _ _ _ _, q => q.elim
theorem OwA.rest (k : ∀ a o, Hs a = some o → (∀ xs, o ≠ .lst xs) → Hs' a = some o) (n : ∀ a, Hs a = none → Hs' a = none) : ∀ {vs : List V} {ss : List S} {f : List Addr}, OwA K io Hs H vs ss f → tolds ss → OwA K io Hs' H vs ss f
  | _, _, _, .nil, _ => .nil
  | _, _, _, .cons h t p, q => .cons (Ow.rest k n h q.1) (OwA.rest k n t q.2) p
end
mutual
theorem Ow.isL : ∀ {v : V} {s : S} {f : List Addr}, Ow K io Hs H v s f → ∀ a ∈ f, ∃ xs, H a = some (.lst xs)
  | _, _, _, .sh _, _, m => nomatch m
  | _, _, _, .ow h n t _, a, m => by
    rcases List.mem_cons.mp m with rfl | m
    · exact ⟨_, h⟩
    · exact OwA.isL t a m
  | _, _, _, .io _ h n t _, a, m => by
    rcases List.mem_cons.mp m with rfl | m
    · exact ⟨_, h⟩
    · exact OwA.isL t a m
theorem OwA.isL : ∀ {vs : List V} {ss : List S} {f : List Addr}, OwA K io Hs H vs ss f → ∀ a ∈ f, ∃ xs, H a = some (.lst xs)
  | _, _, _, .nil, _, m => nomatch m
  | _, _, _, .cons h t _, a, m => by
    rcases List.mem_append.mp m with m | m
    · exact Ow.isL h a m
    · exact OwA.isL t a m
end
/-! ### read as shared for the time of an expression, then one's own again -/
def frz (ρ : Env) : Env := ρ.map (Option.map fun s => S.sh s.fz)
open Classical in
noncomputable def Hj (Hs H : Hp) (F : Nat → List Addr) : Hp := fun a => if FP F a then H a else Hs a
open Classical in
noncomputable def Hu (Hs : Hp) (F : Nat → List Addr) : Hp := fun a => if FP F a then none else Hs a
theorem Hj_in {a : Addr} (h : FP F a) : Hj Hs H F a = H a := by unfold Hj; exact if_pos h
theorem Hj_out {a : Addr} (h : ¬ FP F a) : Hj Hs H F a = Hs a := by unfold Hj; exact if_neg h
theorem Hu_in {a : Addr} (h : FP F a) : Hu Hs F a = none := by unfold Hu; exact if_pos h
theorem Hu_out {a : Addr} (h : ¬ FP F a) : Hu Hs F a = Hs a := by unfold Hu; exact if_neg h
theorem St.frz (z : St K io σ ρ Hs H F) : St K io σ (frz ρ) (Hj Hs H F) H (fun _ => []) := by
  have sj : Same Hs (Hj Hs H F) := fun a o h => by
    by_cases q : FP F a
    · rw [Hj_in q]
      exact z.le a o h
    · rw [Hj_out q]
      exact h
  refine ⟨fun a o h => ?_, by simp [Da.frz, z.len], fun i s h => ?_, fun i a m => (nomatch m), fun i j a m => (nomatch m)⟩
  · by_cases q : FP F a
    · rw [Hj_in q] at h
      exact h
    · rw [Hj_out q] at h
      exact z.le a o h
  · unfold Da.frz at h
    rw [List.getElem?_map] at h
    cases e : ρ[i]? with
    | none => rw [e] at h; cases h
    | some o =>
      rw [e] at h
      cases o with
      | none => cases h
      | some s0 =>
        cases h
        obtain ⟨v, h1, h2⟩ := z.own i s0 e
        exact ⟨v, h1, .sh (h2.fz sj fun a m => Hj_in ⟨i, m⟩)⟩
structure Back (K : PySem.W.Frag) (io : List Addr) (σ : L2.St) (ρ : Env) (Hs H : Hp) (F : Nat → List Addr) (Hs' H' : Hp) : Prop where
  st : St K io σ ρ (Hu Hs' F) H' F
  ev : Ev F Hs H F (Hu Hs' F) H'
  k : ∀ a o, Hs' a = some o → (∀ xs, o ≠ .lst xs) → Hu Hs' F a = some o
  n : ∀ a, Hs' a = none → Hu Hs' F a = none
  ap : ∀ a, Hs' a = none → ¬ FP F a
theorem St.back (z : St K io σ ρ Hs H F) (le : Same Hs' H') (tr : Tr (fun _ => False) (Hj Hs H F) H Hs' H') : Back K io σ ρ Hs H F Hs' H' := by
  have cell : ∀ a, FP F a → ∃ xs, H a = some (.lst xs) ∧ Hs' a = some (.lst xs) ∧ H' a = some (.lst xs) := fun a q => by
    obtain ⟨i, m⟩ := q
    obtain ⟨s, e⟩ := z.non i a m
    obtain ⟨v, _, o⟩ := z.own i s e
    obtain ⟨xs, h⟩ := o.isL a m
    have h1 : Hj Hs H F a = some (.lst xs) := by
      rw [Hj_in ⟨i, m⟩]
      exact h
    have h2 := tr.sh a _ h1
    exact ⟨xs, h, h2, le a _ h2⟩
  have up : Same Hs (Hu Hs' F) := fun a o h => by
    have q : ¬ FP F a := fun q => by
      rw [(z.has q).2] at h
      cases h
    rw [Hu_out q]
    exact tr.sh a o (by rw [Hj_out q]; exact h)
  have dn : Same (Hu Hs' F) H' := fun a o h => by
    by_cases q : FP F a
    · rw [Hu_in q] at h
      cases h
    · rw [Hu_out q] at h
      exact le a o h
  refine ⟨z.keep up dn fun a q => ?_, ⟨fun a h => .inl h, up, fun a o h _ => tr.fr a o h id, fun a o h q e => ?_⟩, fun a o h nl => ?_, fun a h => ?_, fun a h q => ?_⟩
  · obtain ⟨xs, h1, _, h3⟩ := cell a q
    exact ⟨h3.trans h1.symm, Hu_in q⟩
  · rw [Hu_out q]
    exact tr.ns a o h id (by rw [Hj_out q]; exact e)
  · have q : ¬ FP F a := fun q => by
      obtain ⟨xs, _, h2, _⟩ := cell a q
      rw [h] at h2
      exact nl xs (Option.some.inj h2)
    rw [Hu_out q]
    exact h
  · by_cases q : FP F a
    · exact Hu_in q
    · rw [Hu_out q]
      exact h
  · obtain ⟨xs, _, h2, _⟩ := cell a q
    rw [h] at h2
    cases h2
theorem FP0 {a : Addr} : ¬ FP (fun _ => []) a := fun ⟨_, m⟩ => nomatch m
theorem Tr.off (t : Tr (FP (fun _ => [])) Hs H Hs' H') : Tr (fun _ => False) Hs H Hs' H' := ⟨t.sh, fun a o h _ => t.fr a o h FP0, fun a o h _ => t.ns a o h FP0⟩
def mB (m : ME) : ME := fun ρ Q Qx => m (frz ρ) (fun s ρ' => ρ' = frz ρ ∧ s.told ∧ Q s ρ) (fun x ρ' => ρ' = frz ρ ∧ x.nl ∧ Qx x ρ)
theorem PoX.back (z : St K io σ ρ Hs H F) {x : D} {cls : Value} {od : Option Addr} (p : PoX K io σ (fun _ => []) (Hj Hs H F) H x cls od ρ' H') (n : x.nl) : PoX K io σ F Hs H x cls od ρ H' := by
  obtain ⟨Hs1, F1, z1, ⟨C, ns, vs, ds, rfl, rfl, xf, q⟩, e1⟩ := p
  have B := z.back z1.le e1.tr.off
  refine ⟨_, F, B.st, ⟨C, ns, vs, ds, rfl, rfl, ?_, q.rest B.k n⟩, B.ev⟩
  cases od with
  | none => exact xf
  | some d => exact ⟨B.k _ _ xf.1 fun _ z => (by cases z), xf.2⟩
theorem deB [i : DE K EE te m] : DE K EE te (mB m) := ⟨fun {io σ ρ Hs H F Q Qx Qh} z h k kx => i.run z.frz h (fun v s ρ1 H1 p1 h1 => by
  obtain ⟨rfl, tl, q⟩ := h1
  obtain ⟨Hs1, F1, f1, z1, o1, n1, w1, e1⟩ := p1
  have B := z.back z1.le e1.tr.off
  refine k v s ρ H1 ⟨_, F, f1, B.st, o1.rest B.k B.n tl, fun a ma => B.ap a (o1.has a ma).2, fun a ma => ?_, B.ev⟩ q
  rcases w1 a ma with r | r
  · exact absurd r FP0
  · exact .inr r) (fun x cls od ρ1 H1 p1 h1 => by
  obtain ⟨rfl, n, q⟩ := h1
  exact kx x cls od ρ H1 (p1.back z n) q)⟩
def mE (m : ME) : ME := fun ρ Q Qx => mB m ρ Q Qx ∨ m ρ Q Qx
theorem deE [i : DE K EE te m] : DE K EE te (mE m) := ⟨fun {io σ ρ Hs H F Q Qx Qh} z h k kx => h.elim (fun h => (deB (te := te) (m := m)).run z h k kx) (fun h => i.run z h k kx)⟩
instance dtTest [i : DE K EE te m] : DT K EE (tTest te) (mTest (mE m)) := @dtTest0 K EE te (mE m) deE
instance dtB [i : DE K EE te m] : DT K EE (tB te) (mTest (mE m)) := @dtB0 K EE te (mE m) deE
instance (priority := low) dsDrop [i : DE K EE te m] : DS K EE (tDrop te) (mDrop (mE m)) := @dsDrop0 K EE te (mE m) deE
instance (priority := low) dsRet [i : DE K EE te m] : DS K EE (tRet te) (mRet (mE m)) := @dsRet0 K EE te (mE m) deE
instance dsIf [c : DT K EE tc mc] [i : DS K EE t mt] [j : DS K EE u mu] : DS K EE (tIfS tc t u) (mIfS mc mt mu) := @dsIf0 K EE t u mt mu tc mc c i j
instance dsAsg {g : TG} {is : List Nat} {mg : MG} [i : DE K EE te m] [j : DG K EE g is mg] : DS K EE (tAsg te g) (mAsg (mE m) mg) := @dsAsg0 K EE te (mE m) g is mg deE j
/-! ### iterators -/
theorem Wk.of {J : It} {n : Nat} {G : Hp → Prop} {Y : Nat → Hp → V → Hp → Prop} {ds : List D} (w : Walk J n G Y) (hn : n = ds.length) (hG : ∀ Hs' H, Same Hs Hs' → Same Hs' H → G H)
    (hY : ∀ i H Hs' x H', i < n → Same Hs Hs' → Same Hs' H → Y i H x H' → ∃ d, ds[i]? = some d ∧ Nv K Hs' H x (.sh d) H') : Wk K J ds Hs := by
  subst hn
  exact ⟨fun i H Hs' hi a b => w.goes i H hi (hG Hs' H a b), fun H Hs' a b => w.stops H (hG Hs' H a b), fun i H Hs' x H' hi a b y => hY i H Hs' x H' hi a b (w.yields i H x H' hi (hG Hs' H a b) y)⟩
def miList (ml : ME) : MI := fun ρ Q Qx => mV ml ρ (fun d ρ1 => match d with
  | .lst ds => Q ds ρ1
  | _ => False) Qx
theorem diList_0 {tl : TE} {ml : ME} [i : DE K EE tl ml] : DI K EE (iList K tl) (miList ml) := ⟨fun {io σ ρ Hs H F Q Qx R} z h k kx => DE.runV (te := tl) (m := ml) z h (fun v d ρ1 H1 p1 h1 => by
  obtain ⟨Hs1, F1, z1, q1, e1⟩ := p1
  split at h1
  · cases q1 with
    | lst ha qs =>
      rename_i a xs
      refine ⟨a, rfl, ⟨xs, .inl (.inl (z1.le _ _ ha))⟩, k _ _ ρ1 H1 ⟨Hs1, F1, z1, Wk.of walk_list qs.len (fun Hs' H a b => .inl (.inl (b _ _ (a _ _ ha)))) fun i H Hs' x H' hi a b y => ?_, e1⟩ h1⟩
      obtain ⟨rfl, hx⟩ := y
      obtain ⟨d, hd, qd⟩ := qs.getV hx
      exact ⟨d, hd, .old (qd.mono a)⟩
  · exact h1.elim) kx⟩
instance diList {K' : PySem.W.Frag} [hK : KEq K' K] {tl : TE} {ml : ME} [i : DE K EE tl ml] : DI K EE (iList K' tl) (miList ml) := by
  cases hK.e
  exact diList_0
def miTup (ml : ME) : MI := fun ρ Q Qx => mV ml ρ (fun d ρ1 => match d with
  | .tup ds => Q ds ρ1
  | _ => False) Qx
theorem diTup_0 {tl : TE} {ml : ME} [i : DE K EE tl ml] : DI K EE (iTup K tl) (miTup ml) := ⟨fun {io σ ρ Hs H F Q Qx R} z h k kx => DE.runV (te := tl) (m := ml) z h (fun v d ρ1 H1 p1 h1 => by
  obtain ⟨Hs1, F1, z1, q1, e1⟩ := p1
  split at h1
  · cases q1 with
    | tup ha qs =>
      rename_i a xs
      refine ⟨a, rfl, ⟨xs, sqt_mono z1.le ha⟩, k _ _ ρ1 H1 ⟨Hs1, F1, z1, Wk.of walk_tup qs.len (fun Hs' H a b => sqt_mono b (sqt_mono a ha)) fun i H Hs' x H' hi a b y => ?_, e1⟩ h1⟩
      obtain ⟨rfl, hx⟩ := y
      obtain ⟨d, hd, qd⟩ := qs.getV hx
      exact ⟨d, hd, .old (qd.mono a)⟩
  · exact h1.elim) kx⟩
instance diTup {K' : PySem.W.Frag} [hK : KEq K' K] {tl : TE} {ml : ME} [i : DE K EE tl ml] : DI K EE (iTup K' tl) (miTup ml) := by
  cases hK.e
  exact diTup_0
/-- lo, lo + c, .., n of them -/
def rng (lo c : Int) (n : Nat) : List D := (List.range n).map fun (i : Nat) => D.int (lo + (i : Int) * c)
theorem rng_len {lo c : Int} {n : Nat} : (rng lo c n).length = n := by unfold rng; simp
theorem rng_at {lo c : Int} {n i : Nat} (h : i < n) : (rng lo c n)[i]? = some (D.int (lo + (i : Int) * c)) := by
  unfold rng
  rw [List.getElem?_map, List.getElem?_range h]
  rfl
def miRng1 (ma : MA) : MI := fun ρ Q Qx => mVA ma ρ (fun ds ρ1 => match ds with
  | [.raw (.int j)] => -(2 ^ 62) ≤ j ∧ j < 2 ^ 62 ∧ Q (rng 0 1 j.toNat) ρ1
  | _ => False) Qx
instance diRng1 {ta : TA} {ma : MA} [i : DA K EE ta ma] : DI K EE (iRng1 ta) (miRng1 ma) := ⟨fun {io σ ρ Hs H F Q Qx R} z h k kx => DA.runV (ta := ta) (m := ma) z h (fun vs ds ρ1 H1 p1 h1 => by
  obtain ⟨Hs1, F1, z1, q1, e1⟩ := p1
  split at h1
  · rename_i j
    cases q1 with
    | cons qa q1 =>
      cases q1
      cases qa
      refine ⟨j, rfl, h1.1, h1.2.1, k _ _ ρ1 H1 ⟨Hs1, F1, z1, Wk.of walk_range rng_len.symm (fun _ _ _ _ => trivial) fun i H Hs' x H' hi a b y => ?_, e1⟩ h1.2.2⟩
      obtain ⟨rfl, rfl⟩ := y
      refine ⟨_, rng_at hi, ?_⟩
      rw [Int.mul_one]
      exact .old (.raw _)
  · exact h1.elim) kx⟩
def miRng2 (ma : MA) : MI := fun ρ Q Qx => mVA ma ρ (fun ds ρ1 => match ds with
  | [.raw (.int i), .raw (.int j)] => (-(2 ^ 62) ≤ i ∧ i < 2 ^ 62 ∧ -(2 ^ 62) ≤ j ∧ j < 2 ^ 62) ∧ Q (rng i 1 (j - i).toNat) ρ1
  | _ => False) Qx
instance diRng2 {ta : TA} {ma : MA} [i : DA K EE ta ma] : DI K EE (iRng2 ta) (miRng2 ma) := ⟨fun {io σ ρ Hs H F Q Qx R} z h k kx => DA.runV (ta := ta) (m := ma) z h (fun vs ds ρ1 H1 p1 h1 => by
  obtain ⟨Hs1, F1, z1, q1, e1⟩ := p1
  split at h1
  · rename_i i j
    cases q1 with
    | cons qa q1 =>
      cases q1 with
      | cons qb q1 =>
        cases q1
        cases qa
        cases qb
        refine ⟨i, j, rfl, h1.1, k _ _ ρ1 H1 ⟨Hs1, F1, z1, Wk.of walk_range rng_len.symm (fun _ _ _ _ => trivial) fun i H Hs' x H' hi a b y => ?_, e1⟩ h1.2⟩
        obtain ⟨rfl, rfl⟩ := y
        refine ⟨_, rng_at hi, ?_⟩
        rw [Int.mul_one]
        exact .old (.raw _)
  · exact h1.elim) kx⟩
def miRng3 (ma : MA) : MI := fun ρ Q Qx => mVA ma ρ (fun ds ρ1 => match ds with
  | [.raw (.int i), .raw (.int j), .raw (.int c)] => ∃ n, RgC i j c n ∧ Q (rng i c n) ρ1
  | _ => False) Qx
instance diRng3 {ta : TA} {ma : MA} [i : DA K EE ta ma] : DI K EE (iRng3 ta) (miRng3 ma) := ⟨fun {io σ ρ Hs H F Q Qx R} z h k kx => DA.runV (ta := ta) (m := ma) z h (fun vs ds ρ1 H1 p1 h1 => by
  obtain ⟨Hs1, F1, z1, q1, e1⟩ := p1
  split at h1
  · rename_i i j c
    obtain ⟨n, hr, h1⟩ := h1
    cases q1 with
    | cons qa q1 =>
      cases q1 with
      | cons qb q1 =>
        cases q1 with
        | cons qc q1 =>
          cases q1
          cases qa
          cases qb
          cases qc
          refine ⟨i, j, c, n, rfl, hr, k _ _ ρ1 H1 ⟨Hs1, F1, z1, Wk.of walk_rangeC rng_len.symm (fun _ _ _ _ => trivial) fun i H Hs' x H' hi a b y => ?_, e1⟩ h1⟩
          obtain ⟨rfl, rfl⟩ := y
          exact ⟨_, rng_at hi, .old (.raw _)⟩
  · exact h1.elim) kx⟩
def zipD (as bs : List D) : List D := List.zipWith (fun a b => .tup [a, b]) as bs
def miZip (ma : MA) : MI := fun ρ Q Qx => mVA ma ρ (fun ds ρ1 => match ds with
  | [.lst as, .lst bs] => Q (zipD as bs) ρ1
  | _ => False) Qx
theorem diZip_0 {ta : TA} {ma : MA} [i : DA K EE ta ma] : DI K EE (iZip K ta) (miZip ma) := ⟨fun {io σ ρ Hs H F Q Qx R} z h k kx => DA.runV (ta := ta) (m := ma) z h (fun vs ds ρ1 H1 p1 h1 => by
  obtain ⟨Hs1, F1, z1, q1, e1⟩ := p1
  split at h1
  · rename_i as bs
    cases q1 with
    | cons qa q1 =>
      cases q1 with
      | cons qb q1 =>
        cases q1
        cases qa with
        | lst ha qas =>
          cases qb with
          | lst hb qbs =>
            refine ⟨_, _, _, _, rfl, .inl (.inl (z1.le _ _ ha)), .inl (.inl (z1.le _ _ hb)), k _ _ ρ1 H1 ⟨Hs1, F1, z1, Wk.of (walk_zip rfl) (by unfold zipD; rw [List.length_zipWith, qas.len, qbs.len]) (fun Hs' H a b => ⟨.inl (.inl (b _ _ (a _ _ ha))), .inl (.inl (b _ _ (a _ _ hb)))⟩) fun i H Hs' x H' hi a b y => ?_, e1⟩ h1⟩
            obtain ⟨T, x, y, rfl, nT, rfl, hx, hy⟩ := y
            obtain ⟨d1, hd1, qd1⟩ := qas.getV hx
            obtain ⟨d2, hd2, qd2⟩ := qbs.getV hy
            refine ⟨.tup [d1, d2], ?_, .tup nT (.cons (qd1.mono a) (.cons (qd2.mono a) .nil))⟩
            unfold zipD
            rw [List.getElem?_zipWith, hd1, hd2]
  · exact h1.elim) kx⟩
instance diZip {K' : PySem.W.Frag} [hK : KEq K' K] {ta : TA} {ma : MA} [i : DA K EE ta ma] : DI K EE (iZip K' ta) (miZip ma) := by
  cases hK.e
  exact diZip_0
def enumD : Nat → List D → List D
  | _, [] => []
  | k, d :: ds => .tup [.int (k : Nat), d] :: enumD (k + 1) ds
theorem enumD_len : ∀ (ds : List D) (k : Nat), (enumD k ds).length = ds.length
  | [], _ => rfl
  | _ :: ds, k => congrArg (· + 1) (enumD_len ds (k + 1))
theorem enumD_at : ∀ (ds : List D) (k i : Nat) (d : D), ds[i]? = some d → (enumD k ds)[i]? = some (.tup [.int ((k + i : Nat) : Int), d])
  | [], _, _, _, h => by simp at h
  | _ :: _, k, 0, d, h => by
    cases (Option.some.inj h)
    rfl
  | _ :: ds, k, i + 1, d, h => by
    have := enumD_at ds (k + 1) i d h
    show (enumD (k + 1) ds)[i]? = _
    rw [this, show k + 1 + i = k + (i + 1) by omega]
def miEnum (ma : MA) : MI := fun ρ Q Qx => mVA ma ρ (fun ds ρ1 => match ds with
  | [.lst as] => Q (enumD 0 as) ρ1
  | _ => False) Qx
theorem diEnum_0 {ta : TA} {ma : MA} [i : DA K EE ta ma] : DI K EE (iEnum K ta) (miEnum ma) := ⟨fun {io σ ρ Hs H F Q Qx R} z h k kx => DA.runV (ta := ta) (m := ma) z h (fun vs ds ρ1 H1 p1 h1 => by
  obtain ⟨Hs1, F1, z1, q1, e1⟩ := p1
  split at h1
  · rename_i as
    cases q1 with
    | cons qa q1 =>
      cases q1
      cases qa with
      | lst ha qas =>
        refine ⟨_, _, rfl, .inl (.inl (z1.le _ _ ha)), k _ _ ρ1 H1 ⟨Hs1, F1, z1, Wk.of walk_enum (by rw [enumD_len, qas.len]) (fun Hs' H a b => .inl (.inl (b _ _ (a _ _ ha)))) fun i H Hs' x H' hi a b y => ?_, e1⟩ h1⟩
        obtain ⟨T, x, y, rfl, nT, rfl, hx, hy⟩ := y
        cases (Option.some.inj hx)
        obtain ⟨d2, hd2, qd2⟩ := qas.getV hy
        refine ⟨_, enumD_at as 0 i d2 hd2, ?_⟩
        rw [Nat.zero_add]
        exact .tup nT (.cons (.raw _) (.cons (qd2.mono a) .nil))
  · exact h1.elim) kx⟩
instance diEnum {K' : PySem.W.Frag} [hK : KEq K' K] {ta : TA} {ma : MA} [i : DA K EE ta ma] : DI K EE (iEnum K' ta) (miEnum ma) := by
  cases hK.e
  exact diEnum_0
def signs (z : Str) : List D := z.cps.toList.map fun c => D.str ⟨#[c]⟩
def miStr (me : ME) : MI := fun ρ Q Qx => mV me ρ (fun d ρ1 => match d with
  | .raw (.str x) => Q (signs x) ρ1
  | _ => False) Qx
instance diStr [i : DE K EE te m] : DI K EE (iStr te) (miStr m) := ⟨fun {io σ ρ Hs H F Q Qx R} z h k kx => DE.runV (te := te) (m := m) z h (fun v d ρ1 H1 p1 h1 => by
  obtain ⟨Hs1, F1, z1, q1, e1⟩ := p1
  split at h1
  · rename_i x
    cases q1
    refine ⟨x, rfl, k _ _ ρ1 H1 ⟨Hs1, F1, z1, Wk.of walk_str (by unfold signs; simp) (fun _ _ _ _ => trivial) fun i H Hs' y H' hi a b q => ?_, e1⟩ h1⟩
    obtain ⟨rfl, c, hc, rfl⟩ := q
    refine ⟨_, ?_, .old (.raw _)⟩
    unfold signs
    rw [List.getElem?_map, Array.getElem?_toList, hc]
    rfl
  · exact h1.elim) kx⟩
end
end Da
namespace Da
open PySem L2
mutual
def D.py : D → Option PyData
  | .raw .non => some .none
  | .raw (.bl b) => some (.bool b)
  | .raw (.int i) => some (.int i)
  | .raw (.str x) => some (.str x)
  | .lst ds => (pys ds).map PyData.list
  | .tup ds => (pys ds).map PyData.tuple
  | _ => none
def pys : List D → Option (List PyData)
  | [] => some []
  | d :: ds => d.py.bind fun p => (pys ds).map fun ps => p :: ps
end
section
variable {K : PySem.W.Frag} {EE : L2.St → XK} {io : List Addr} {σ : L2.St} {ρ ρ' : Env} {Hs H Hs1 H1 Hs' H' : Hp} {F F1 F' : Nat → List Addr} {v : V} {s : S} {d : D} {te ta tb : TE} {m ma mb : ME} {tc : TT} {mc : MT} {t u : TS} {mt mu : MS}
mutual
theorem Dn.toPy : ∀ {d : D} {v : V} {p : PyData}, Dn K H v d → d.py = some p → Dp K H v p
  | _, _, p, .raw v, e => by
    cases v <;> first
      | (cases e; done)
      | (cases (Option.some.inj e); first | exact .non | exact .bl _ | exact .int _ | exact .str _)
  | _, _, p, .lst h t, e => by
    simp only [D.py] at e
    obtain ⟨ps, e1, rfl⟩ := Option.map_eq_some_iff.mp e
    exact .lst (.inl (.inl h)) (DnA.toPy t e1)
  | _, _, p, .tup h t, e => by
    simp only [D.py] at e
    obtain ⟨ps, e1, rfl⟩ := Option.map_eq_some_iff.mp e
    exact .tup h (DnA.toPy t e1)
  | _, _, _, .ob _ _ _, e => by cases e
  | _, _, _, .exc _ _ _, e => by cases e
  | _, _, _, .scr _, e => by cases e
theorem DnA.toPy : ∀ {ds : List D} {vs : List V} {ps : List PyData}, DnA K H vs ds → pys ds = some ps → DpAll K H vs ps
  | _, _, ps, .nil, e => by
    cases (Option.some.inj e)
    exact .nil
  | _, _, ps, .cons h t, e => by
    simp only [pys] at e
    obtain ⟨p, e1, e2⟩ := Option.bind_eq_some_iff.mp e
    obtain ⟨qs, e3, rfl⟩ := Option.map_eq_some_iff.mp e2
    exact .cons (Dn.toPy h e1) (DnA.toPy t e3)
end
/-! ### operators -/
def fI (C : Int → Int → Prop) (g : Int → Int → V) (x y : D) (Q : S → Prop) : Prop := match x, y with
  | .raw (.int i), .raw (.int j) => C i j ∧ Q (.sh (.raw (g i j)))
  | _, _ => False
instance rdI {C : Int → Int → Prop} {g : Int → Int → V} : RD K (rI C g) (fI C g) := ⟨fun l hx hy h k => by
  unfold fI at h
  split at h
  · cases hx
    cases hy
    exact ⟨_, _, rfl, rfl, h.1, k _ _ _ (.old (.raw _)) h.2⟩
  · exact h.elim⟩
def fI0 (g : Int → Int → V) (x y : D) (Q : S → Prop) : Prop := match x, y with
  | .raw (.int i), .raw (.int j) => Q (.sh (.raw (g i j)))
  | _, _ => False
instance rdI0 {g : Int → Int → V} : RD K (rI0 g) (fI0 g) := ⟨fun l hx hy h k => by
  unfold fI0 at h
  split at h
  · cases hx
    cases hy
    exact ⟨_, _, rfl, rfl, k _ _ _ (.old (.raw _)) h⟩
  · exact h.elim⟩
def fEq (x y : D) (Q : S → Prop) : Prop := match x, y with
  | .raw a, .raw b => scal a b = true ∧ Q (.sh (.bl (decide (a = b))))
  | _, _ => False
instance rdEq : RD K rEq fEq := ⟨fun l hx hy h k => by
  unfold fEq at h
  split at h
  · cases hx
    cases hy
    exact ⟨h.1, k _ _ _ (.old (.raw _)) h.2⟩
  · exact h.elim⟩
def fNe (x y : D) (Q : S → Prop) : Prop := match x, y with
  | .raw a, .raw b => scal a b = true ∧ Q (.sh (.bl (!decide (a = b))))
  | _, _ => False
instance rdNe : RD K rNe fNe := ⟨fun l hx hy h k => by
  unfold fNe at h
  split at h
  · cases hx
    cases hy
    exact ⟨h.1, k _ _ _ (.old (.raw _)) h.2⟩
  · exact h.elim⟩
def fEqD (x y : D) (Q : S → Prop) : Prop := ∃ p q, x.py = some p ∧ y.py = some q ∧ SeqAt.shaped p = true ∧ SeqAt.shaped q = true ∧ Q (.sh (.bl (PyData.eqv p q)))
theorem rdEqD_0 : RD K (rEqD K) fEqD := ⟨fun l hx hy h k => by
  obtain ⟨p, q, e1, e2, s1, s2, h⟩ := h
  exact ⟨p, q, (hx.mono l).toPy e1, (hy.mono l).toPy e2, s1, s2, k _ _ _ (.old (.raw _)) h⟩⟩
instance rdEqD {K' : PySem.W.Frag} [hK : KEq K' K] : RD K (rEqD K') fEqD := by
  cases hK.e
  exact rdEqD_0
def fNeD (x y : D) (Q : S → Prop) : Prop := ∃ p q, x.py = some p ∧ y.py = some q ∧ SeqAt.shaped p = true ∧ SeqAt.shaped q = true ∧ Q (.sh (.bl (!PyData.eqv p q)))
theorem rdNeD_0 : RD K (rNeD K) fNeD := ⟨fun l hx hy h k => by
  obtain ⟨p, q, e1, e2, s1, s2, h⟩ := h
  exact ⟨p, q, (hx.mono l).toPy e1, (hy.mono l).toPy e2, s1, s2, k _ _ _ (.old (.raw _)) h⟩⟩
instance rdNeD {K' : PySem.W.Frag} [hK : KEq K' K] : RD K (rNeD K') fNeD := by
  cases hK.e
  exact rdNeD_0
theorem atI_dn {vs : List V} {ds : List D} {i : Int} {d : D} (h : DnA K H vs ds) (e : atI ds i = some d) : ∃ v, atI vs i = some v ∧ Dn K H v d := by
  unfold atI at e ⊢
  rw [h.len]
  obtain ⟨j, e1, e2⟩ := Option.bind_eq_some_iff.mp e
  rw [e1]
  exact h.get e2
def fIxL (x y : D) (Q : S → Prop) : Prop := match x, y with
  | .lst ds, .raw (.int i) => ∃ d, atI ds i = some d ∧ Q (.sh d)
  | _, _ => False
theorem rdIxL_0 : RD K (rIxL K) fIxL := ⟨fun l hx hy h k => by
  unfold fIxL at h
  split at h
  · obtain ⟨d, e, h⟩ := h
    cases hy
    cases hx with
    | lst ha q =>
      obtain ⟨v, e1, q1⟩ := atI_dn q e
      exact ⟨_, _, _, v, rfl, rfl, .inl (.inl (l _ _ ha)), e1, k _ _ _ (.old q1) h⟩
  · exact h.elim⟩
instance rdIxL {K' : PySem.W.Frag} [hK : KEq K' K] : RD K (rIxL K') fIxL := by
  cases hK.e
  exact rdIxL_0
def fIxT (x y : D) (Q : S → Prop) : Prop := match x, y with
  | .tup ds, .raw (.int i) => ∃ d, atI ds i = some d ∧ Q (.sh d)
  | _, _ => False
theorem rdIxT_0 : RD K (rIxT K) fIxT := ⟨fun l hx hy h k => by
  unfold fIxT at h
  split at h
  · obtain ⟨d, e, h⟩ := h
    cases hy
    cases hx with
    | tup ha q =>
      obtain ⟨v, e1, q1⟩ := atI_dn q e
      exact ⟨_, _, _, v, rfl, rfl, sqt_mono l ha, e1, k _ _ _ (.old q1) h⟩
  · exact h.elim⟩
instance rdIxT {K' : PySem.W.Frag} [hK : KEq K' K] : RD K (rIxT K') fIxT := by
  cases hK.e
  exact rdIxT_0
def fIxS (x y : D) (Q : S → Prop) : Prop := match x, y with
  | .raw (.str z), .raw (.int i) => z.length ≤ sizeLine ∧ ∃ c, atI z.cps.toList i = some c ∧ Q (.sh (.str ⟨#[c]⟩))
  | _, _ => False
instance rdIxS : RD K rIxS fIxS := ⟨fun l hx hy h k => by
  unfold fIxS at h
  split at h
  · obtain ⟨hz, c, e, h⟩ := h
    cases hx
    cases hy
    exact ⟨_, _, c, rfl, rfl, hz, e, k _ _ _ (.old (.raw _)) h⟩
  · exact h.elim⟩
def unr : D → Option V
  | .raw v => some v
  | _ => none
/-- x in a list (or tuple) of flat things -/
def fIn (neg : Bool) (x y : D) (Q : S → Prop) : Prop := match x, y with
  | .raw a, .lst ds => flatV a = true ∧ ∃ xs : List V, ds = xs.map D.raw ∧ xs.all flatV = true ∧ Q (.sh (.bl (if neg then !inV a xs else inV a xs)))
  | .raw a, .tup ds => flatV a = true ∧ ∃ xs : List V, ds = xs.map D.raw ∧ xs.all flatV = true ∧ Q (.sh (.bl (if neg then !inV a xs else inV a xs)))
  | _, _ => False
theorem DnA.unraw : ∀ {vs xs : List V}, DnA K H vs (xs.map D.raw) → vs = xs
  | [], [], _ => rfl
  | v :: vs, x :: xs, h => by
    cases h with
    | cons a b =>
      cases a
      rw [DnA.unraw b]
  | [], _ :: _, h => nomatch h
  | _ :: _, [], h => nomatch h
theorem rdIn_0 {neg : Bool} : RD K (rIn K neg) (fIn neg) := ⟨fun l hx hy h k => by
  unfold fIn at h
  split at h
  · obtain ⟨fl, xs, rfl, fa, h⟩ := h
    cases hx
    cases hy with
    | lst ha q =>
      cases q.unraw
      exact ⟨_, _, rfl, .inl (.inl (.inl (l _ _ ha))), fl, fa, k _ _ _ (.old (.raw _)) h⟩
  · obtain ⟨fl, xs, rfl, fa, h⟩ := h
    cases hx
    cases hy with
    | tup ha q =>
      cases q.unraw
      exact ⟨_, _, rfl, .inr (sqt_mono l ha), fl, fa, k _ _ _ (.old (.raw _)) h⟩
  · exact h.elim⟩
instance rdIn {K' : PySem.W.Frag} [hK : KEq K' K] {neg : Bool} : RD K (rIn K' neg) (fIn neg) := by
  cases hK.e
  exact rdIn_0
def fIsN (x y : D) (Q : S → Prop) : Prop := match y with
  | .raw .non => (match x with
    | .raw a => Q (.sh (.bl (decide (a = .non))))
    | _ => Q (.sh (.bl false)))
  | _ => False
theorem Dn.ref_of : ∀ {d : D} {v : V}, Dn K H v d → (∀ a, d ≠ .raw a) → ∃ p, v = .ref p
  | _, _, .raw v, n => (n v rfl).elim
  | _, _, .lst _ _, _ => ⟨_, rfl⟩
  | _, _, .tup _ _, _ => ⟨_, rfl⟩
  | _, _, .ob _ _ _, _ => ⟨_, rfl⟩
  | _, _, .exc _ _ _, _ => ⟨_, rfl⟩
  | _, _, .scr _, _ => ⟨_, rfl⟩
instance rdIsN : RD K (fun x y H Q => y = .non ∧ Q (.bl (decide (x = .non))) H) fIsN := ⟨fun l hx hy h k => by
  unfold fIsN at h
  split at h
  · cases hy
    refine ⟨rfl, ?_⟩
    split at h
    · cases hx
      exact k _ _ _ (.old (.raw _)) h
    · rename_i n
      obtain ⟨p, rfl⟩ := hx.ref_of (fun a e => n a e)
      exact k _ _ _ (.old (.raw _)) h
  · exact h.elim⟩
def fNotN (x y : D) (Q : S → Prop) : Prop := match y with
  | .raw .non => (match x with
    | .raw a => Q (.sh (.bl (!decide (a = .non))))
    | _ => Q (.sh (.bl true)))
  | _ => False
instance rdNotN : RD K (fun x y H Q => y = .non ∧ Q (.bl (!decide (x = .non))) H) fNotN := ⟨fun l hx hy h k => by
  unfold fNotN at h
  split at h
  · cases hy
    refine ⟨rfl, ?_⟩
    split at h
    · cases hx
      exact k _ _ _ (.old (.raw _)) h
    · rename_i n
      obtain ⟨p, rfl⟩ := hx.ref_of (fun a e => n a e)
      exact k _ _ _ (.old (.raw _)) h
  · exact h.elim⟩
def fAddS (x y : D) (Q : S → Prop) : Prop := match x, y with
  | .raw (.str a), .raw (.str b) => a.length + b.length ≤ sizeLine ∧ Q (.sh (.str (a ++ b)))
  | _, _ => False
instance rdAddS : RD K (fun x y H Q => ∃ i j, x = .str i ∧ y = .str j ∧ i.length + j.length ≤ sizeLine ∧ Q (.str (i ++ j)) H) fAddS := ⟨fun l hx hy h k => by
  unfold fAddS at h
  split at h
  · cases hx
    cases hy
    exact ⟨_, _, rfl, rfl, h.1, k _ _ _ (.old (.raw _)) h.2⟩
  · exact h.elim⟩
def fCat (x y : D) (Q : S → Prop) : Prop := match x, y with
  | .lst as, .lst bs => as.length + bs.length ≤ sizeLine ∧ Q (.ow (shs (as ++ bs)))
  | _, _ => False
instance rdCat : RD K rCat fCat := ⟨fun l hx hy h k => by
  unfold fCat at h
  split at h
  · cases hx with
    | lst ha qa =>
      cases hy with
      | lst hb qb => exact ⟨_, _, _, _, rfl, rfl, l _ _ ha, l _ _ hb, by rw [qa.len, qb.len]; exact h.1, fun p np => k _ _ _ (.lst np (qa.app qb)) h.2⟩
  · exact h.elim⟩
theorem DnA.rep {vs : List V} {ds : List D} (h : DnA K H vs ds) : ∀ n : Nat, DnA K H (List.replicate n vs).flatten (List.replicate n ds).flatten
  | 0 => .nil
  | n + 1 => by
    rw [List.replicate_succ, List.replicate_succ, List.flatten_cons, List.flatten_cons]
    exact h.app (DnA.rep h n)
def fRep (x y : D) (Q : S → Prop) : Prop := match x, y with
  | .lst as, .raw (.int k) => -(2 ^ 63) ≤ k ∧ k < 2 ^ 63 ∧ as.length * k.toNat ≤ sizeLine ∧ Q (.ow (shs (List.replicate k.toNat as).flatten))
  | _, _ => False
instance rdRep : RD K rRep fRep := ⟨fun l hx hy h k => by
  unfold fRep at h
  split at h
  · cases hy
    cases hx with
    | lst ha qa => exact ⟨_, _, _, rfl, rfl, l _ _ ha, h.1, h.2.1, by rw [qa.len]; exact h.2.2.1, fun p np => k _ _ _ (.lst np (qa.rep _)) h.2.2.2⟩
  · exact h.elim⟩
def fU (g : Int → V) (x : D) (Q : S → Prop) : Prop := match x with
  | .raw (.int i) => Q (.sh (.raw (g i)))
  | _ => False
instance ruU {g : Int → V} : RU K (rU g) (fU g) := ⟨fun l hx h k => by
  unfold fU at h
  split at h
  · cases hx
    exact ⟨_, rfl, k _ _ _ (.old (.raw _)) h⟩
  · exact h.elim⟩
/-! ### chains -/
def asBE (s : S) (ρ : Env) (Q : Bool → Env → Prop) : Prop := asB s fun b => Q b ρ
/-! ### calls of built-ins -/
class RC (K : PySem.W.Frag) (r : List V → Hp → VK → Prop) (f : outParam (List D → (S → Prop) → Prop)) : Prop where
  run : ∀ {Hs H : Hp} {xs : List V} {ds : List D} {Q : S → Prop} {Qh : VK}, Same Hs H → DnA K Hs xs ds → f ds Q → (∀ v s H', Nv K Hs H v s H' → Q s → Qh v H') → r xs H Qh
def mCB (f : List D → (S → Prop) → Prop) (ma : MA) : ME := fun ρ Q Qx => mVA ma ρ (fun ds ρ1 => f ds fun s => Q s ρ1) Qx
instance deCB {r : List V → Hp → VK → Prop} {f : List D → (S → Prop) → Prop} {ta : TA} {ma : MA} [DA K EE ta ma] [rc : RC K r f] : DE K EE (tCB r ta) (mCB f ma) := ⟨fun z h k kx =>
  DA.runV (ta := ta) (m := ma) z h (fun vs ds ρ1 H1 p1 h1 => by
    obtain ⟨Hs1, F1, z1, q1, e1⟩ := p1
    exact rc.run z1.le q1 h1 fun v s H' nv q => k v s ρ1 H' ((nv.po z1).trans e1) q) kx⟩
theorem dn1 {vs : List V} (h : DnA K H vs [d]) : ∃ v, vs = [v] ∧ Dn K H v d := by
  cases h with
  | cons a b =>
    cases b
    exact ⟨_, rfl, a⟩
theorem dn2 {vs : List V} {e : D} (h : DnA K H vs [d, e]) : ∃ v w, vs = [v, w] ∧ Dn K H v d ∧ Dn K H w e := by
  cases h with
  | cons a b =>
    obtain ⟨w, rfl, q⟩ := dn1 b
    exact ⟨_, w, rfl, a, q⟩
def rAbs : List V → Hp → VK → Prop := fun xs H Q => ∃ i, xs = [.int i] ∧ Q (.int (if i < 0 then -i else i)) H
def rInt1 : List V → Hp → VK → Prop := fun xs H Q => (∃ i, xs = [.int i] ∧ Q (.int i) H) ∨ ∃ k, xs = [.bl k] ∧ Q (.int (if k then 1 else 0)) H
def rStrI : List V → Hp → VK → Prop := fun xs H Q => ∃ i, xs = [.int i] ∧ i.natAbs.log2 < 1920 ∧ Q (.str (toString i)) H
def rLenK (K : PySem.W.Frag) : List V → Hp → VK → Prop := fun xs H Q => ∃ p ys, xs = [.ref p] ∧ (SqL K H p ys ∨ SqT K H p ys) ∧ Q (.int ys.length) H
def rLenS : List V → Hp → VK → Prop := fun xs H Q => ∃ z, xs = [.str z] ∧ z.length ≤ sizeLine ∧ Q (.int z.length) H
def rListK (K : PySem.W.Frag) : List V → Hp → VK → Prop := fun xs H Q => ∃ p ys, xs = [.ref p] ∧ (SqL K H p ys ∨ SqT K H p ys) ∧ ∀ l, H l = none → Q (.ref l) (upd H l (.lst ys))
def rTupK (K : PySem.W.Frag) : List V → Hp → VK → Prop := fun xs H Q => ∃ p ys, xs = [.ref p] ∧ ((SqL K H p ys ∧ ∀ l, H l = none → Q (.ref l) (upd H l (.tup ys))) ∨ (SqT K H p ys ∧ Q (.ref p) H))
theorem call_absR {X : Cx} : CallR X (.builtin "abs") rAbs := call_abs
theorem call_int1R {X : Cx} : CallR X (.type "int") rInt1 := call_int1
theorem call_strR {X : Cx} : CallR X (.type "str") rStrI := call_str_int
theorem call_lenK {X : Cx} : CallR X (.builtin "len") (rLenK X.K) := call_len_seq
theorem call_lenS {X : Cx} : CallR X (.builtin "len") rLenS := call_len_str
theorem call_listK {X : Cx} : CallR X (.type "list") (rListK X.K) := call_list_of
theorem call_tupK {X : Cx} : CallR X (.type "tuple") (rTupK X.K) := call_tuple_of
def fAbs (ds : List D) (Q : S → Prop) : Prop := match ds with
  | [.raw (.int i)] => Q (.sh (.int (if i < 0 then -i else i)))
  | _ => False
instance rcAbs : RC K rAbs fAbs := ⟨fun l hx h k => by
  unfold fAbs at h
  split at h
  · obtain ⟨v, rfl, q⟩ := dn1 hx
    cases q
    exact ⟨_, rfl, k _ _ _ (.old (.raw _)) h⟩
  · exact h.elim⟩
def fInt1 (ds : List D) (Q : S → Prop) : Prop := match ds with
  | [.raw (.int i)] => Q (.sh (.int i))
  | [.raw (.bl b)] => Q (.sh (.int (if b then 1 else 0)))
  | _ => False
instance rcInt1 : RC K rInt1 fInt1 := ⟨fun l hx h k => by
  unfold fInt1 at h
  split at h
  · obtain ⟨v, rfl, q⟩ := dn1 hx
    cases q
    exact .inl ⟨_, rfl, k _ _ _ (.old (.raw _)) h⟩
  · obtain ⟨v, rfl, q⟩ := dn1 hx
    cases q
    exact .inr ⟨_, rfl, k _ _ _ (.old (.raw _)) h⟩
  · exact h.elim⟩
def fStrI (ds : List D) (Q : S → Prop) : Prop := match ds with
  | [.raw (.int i)] => i.natAbs.log2 < 1920 ∧ Q (.sh (.str (toString i)))
  | _ => False
instance rcStrI : RC K rStrI fStrI := ⟨fun l hx h k => by
  unfold fStrI at h
  split at h
  · obtain ⟨v, rfl, q⟩ := dn1 hx
    cases q
    exact ⟨_, rfl, h.1, k _ _ _ (.old (.raw _)) h.2⟩
  · exact h.elim⟩
def fLen (ds : List D) (Q : S → Prop) : Prop := match ds with
  | [.lst es] => Q (.sh (.int (es.length : Nat)))
  | [.tup es] => Q (.sh (.int (es.length : Nat)))
  | _ => False
theorem rcLen_0 : RC K (rLenK K) fLen := ⟨fun l hx h k => by
  unfold fLen at h
  split at h
  · obtain ⟨v, rfl, q⟩ := dn1 hx
    cases q with
    | lst ha qs => exact ⟨_, _, rfl, .inl (.inl (.inl (l _ _ ha))), by rw [qs.len]; exact k _ _ _ (.old (.raw _)) h⟩
  · obtain ⟨v, rfl, q⟩ := dn1 hx
    cases q with
    | tup ha qs => exact ⟨_, _, rfl, .inr (sqt_mono l ha), by rw [qs.len]; exact k _ _ _ (.old (.raw _)) h⟩
  · exact h.elim⟩
instance rcLen {K' : PySem.W.Frag} [hK : KEq K' K] : RC K (rLenK K') fLen := by
  cases hK.e
  exact rcLen_0
def fLenS (ds : List D) (Q : S → Prop) : Prop := match ds with
  | [.raw (.str x)] => x.length ≤ sizeLine ∧ Q (.sh (.int (x.length : Nat)))
  | _ => False
def fList (ds : List D) (Q : S → Prop) : Prop := match ds with
  | [.lst es] => Q (.ow (shs es))
  | [.tup es] => Q (.ow (shs es))
  | _ => False
theorem rcList_0 : RC K (rListK K) fList := ⟨fun l hx h k => by
  unfold fList at h
  split at h
  · obtain ⟨v, rfl, q⟩ := dn1 hx
    cases q with
    | lst ha qs => exact ⟨_, _, rfl, .inl (.inl (.inl (l _ _ ha))), fun p np => k _ _ _ (.lst np qs) h⟩
  · obtain ⟨v, rfl, q⟩ := dn1 hx
    cases q with
    | tup ha qs => exact ⟨_, _, rfl, .inr (sqt_mono l ha), fun p np => k _ _ _ (.lst np qs) h⟩
  · exact h.elim⟩
instance rcList {K' : PySem.W.Frag} [hK : KEq K' K] : RC K (rListK K') fList := by
  cases hK.e
  exact rcList_0
def fTuple (ds : List D) (Q : S → Prop) : Prop := match ds with
  | [.lst es] => Q (.sh (.tup es))
  | [.tup es] => Q (.sh (.tup es))
  | _ => False
theorem rcTuple_0 : RC K (rTupK K) fTuple := ⟨fun l hx h k => by
  unfold fTuple at h
  split at h
  · obtain ⟨v, rfl, q⟩ := dn1 hx
    cases q with
    | lst ha qs => exact ⟨_, _, rfl, .inl ⟨.inl (.inl (l _ _ ha)), fun p np => k _ _ _ (.tup np qs) h⟩⟩
  · obtain ⟨v, rfl, q⟩ := dn1 hx
    cases q with
    | tup ha qs => exact ⟨_, _, rfl, .inr ⟨sqt_mono l ha, k _ _ _ (.old (.tup ha qs)) h⟩⟩
  · exact h.elim⟩
instance rcTuple {K' : PySem.W.Frag} [hK : KEq K' K] : RC K (rTupK K') fTuple := by
  cases hK.e
  exact rcTuple_0
def fSum (ds : List D) (Q : S → Prop) : Prop := match ds with
  | [.lst es] => ∃ ns : List Int, es = ns.map D.int ∧ Q (.sh (.int ns.sum))
  | _ => False
theorem ints_map (ns : List Int) : ns.map D.int = (ns.map V.int).map D.raw := by
  rw [List.map_map]
  rfl
theorem rcSum_0 : RC K (rSum K) fSum := ⟨fun l hx h k => by
  unfold fSum at h
  split at h
  · obtain ⟨ns, rfl, h⟩ := h
    obtain ⟨v, rfl, q⟩ := dn1 hx
    cases q with
    | lst ha qs =>
      rw [ints_map] at qs
      cases qs.unraw
      exact ⟨_, ns, rfl, .inl (.inl (l _ _ ha)), k _ _ _ (.old (.raw _)) h⟩
  · exact h.elim⟩
instance rcSum {K' : PySem.W.Frag} [hK : KEq K' K] : RC K (rSum K') fSum := by
  cases hK.e
  exact rcSum_0
theorem bools_map (bs : List Bool) : bs.map D.bl = (bs.map V.bl).map D.raw := by
  rw [List.map_map]
  rfl
def fAll (ds : List D) (Q : S → Prop) : Prop := match ds with
  | [.lst es] => ∃ bs : List Bool, es = bs.map D.bl ∧ Q (.sh (.bl (bs.all id)))
  | _ => False
theorem rcAll_0 : RC K (rAll K) fAll := ⟨fun l hx h k => by
  unfold fAll at h
  split at h
  · obtain ⟨ns, rfl, h⟩ := h
    obtain ⟨v, rfl, q⟩ := dn1 hx
    cases q with
    | lst ha qs =>
      rw [bools_map] at qs
      cases qs.unraw
      exact ⟨_, ns, rfl, .inl (.inl (l _ _ ha)), k _ _ _ (.old (.raw _)) h⟩
  · exact h.elim⟩
instance rcAll {K' : PySem.W.Frag} [hK : KEq K' K] : RC K (rAll K') fAll := by
  cases hK.e
  exact rcAll_0
/-- isinstance of a class of the machine: what class a thing is of -/
def tyD : D → Option String
  | .raw .non => some "NoneType"
  | .raw (.bl _) => some "bool"
  | .raw (.int _) => some "int"
  | .raw (.str _) => some "str"
  | .lst _ => some "list"
  | .tup _ => some "tuple"
  | _ => none
end
end Da
namespace Da
open PySem L2
section
variable {K : PySem.W.Frag} {EE : L2.St → XK} {io : List Addr} {σ : L2.St} {ρ ρ' : Env} {Hs H Hs1 H1 Hs' H' : Hp} {F F1 F' : Nat → List Addr} {v : V} {s : S} {d : D} {te ta tb : TE} {m ma mb : ME} {tc : TT} {mc : MT} {t u : TS} {mt mu : MS}
instance rcLenS : RC K rLenS fLenS := ⟨fun l hx h k => by
  unfold fLenS at h
  split at h
  · obtain ⟨v, rfl, q⟩ := dn1 hx
    cases q
    exact ⟨_, rfl, h.1, k _ _ _ (.old (.raw _)) h.2⟩
  · exact h.elim⟩
/-! ### slices -/
def mNoPart : MO := fun ρ Q _ => Q none ρ
instance doNo : DO K EE tNoPart mNoPart := ⟨fun {io σ ρ Hs H F Q Qx Qh} z h k _ => k none ρ H ⟨Hs, F, z, .refl⟩ h⟩
def mPart (me : ME) : MO := fun ρ Q Qx => mV me ρ (fun d ρ1 => match d with
  | .raw (.int i) => Q (some i) ρ1
  | _ => False) Qx
instance doPart [i : DE K EE te m] : DO K EE (tPart te) (mPart m) := ⟨fun {io σ ρ Hs H F Q Qx Qh} z h k kx => DE.runV (te := te) (m := m) z h (fun v d ρ1 H1 p1 h1 => by
  obtain ⟨Hs1, F1, z1, q1, e1⟩ := p1
  split at h1
  · cases q1
    exact ⟨_, rfl, k _ ρ1 H1 ⟨Hs1, F1, z1, e1⟩ h1⟩
  · exact h1.elim) kx⟩
class RS (K : PySem.W.Frag) (r : V → Option Int → Option Int → Hp → VK → Prop) (f : outParam (D → Option Int → Option Int → (S → Prop) → Prop)) : Prop where
  run : ∀ {Hs H : Hp} {x : V} {dx : D} {lo hi : Option Int} {Q : S → Prop} {Qh : VK}, Same Hs H → Dn K Hs x dx → f dx lo hi Q → (∀ v s H', Nv K Hs H v s H' → Q s → Qh v H') → r x lo hi H Qh
def mSl (f : D → Option Int → Option Int → (S → Prop) → Prop) (me : ME) (ml mh : MO) : ME := fun ρ Q Qx => mV me ρ (fun x ρ1 => ml ρ1 (fun lo ρ2 => mh ρ2 (fun hi ρ3 => f x lo hi fun s => Q s ρ3) Qx) Qx) Qx
instance deSl {r : V → Option Int → Option Int → Hp → VK → Prop} {f : D → Option Int → Option Int → (S → Prop) → Prop} {tl th : TO} {ml mh : MO} [i : DE K EE te m] [jl : DO K EE tl ml] [jh : DO K EE th mh] [rs : RS K r f] : DE K EE (tSl r te tl th) (mSl f m ml mh) := ⟨fun z h k kx => DE.runV (te := te) (m := m) z h (fun v d ρ1 H1 p1 h1 => by
  obtain ⟨Hs1, F1, z1, q1, e1⟩ := p1
  refine jl.run z1 h1 (fun lo ρ2 H2 p2 h2 => ?_) (fun x cls od ρ' H' p => kx x cls od ρ' H' (p.trans e1))
  obtain ⟨Hs2, F2, z2, e2⟩ := p2
  refine jh.run z2 h2 (fun hi ρ3 H3 p3 h3 => ?_) (fun x cls od ρ' H' p => kx x cls od ρ' H' (p.trans (e1.trans e2)))
  obtain ⟨Hs3, F3, z3, e3⟩ := p3
  exact rs.run z3.le (q1.mono (e2.trans e3).tr.sh) h3 fun v s H' nv q => k v s ρ3 H' ((nv.po z3).trans ((e1.trans e2).trans e3)) q) kx⟩
def cutG {α : Type} (xs : List α) (lo hi : Option Int) : List α := (xs.drop (HT.sIx xs.length 0 lo)).take (HT.sIx xs.length xs.length hi - HT.sIx xs.length 0 lo)
theorem DnA.cut {vs : List V} {ds : List D} (h : DnA K H vs ds) (lo hi : Option Int) : DnA K H (cutV vs lo hi) (cutG ds lo hi) := by
  unfold cutV cutG
  rw [h.len]
  exact (h.drop _).take _
def fSlL (x : D) (lo hi : Option Int) (Q : S → Prop) : Prop := match x with
  | .lst ds => Q (.ow (shs (cutG ds lo hi)))
  | _ => False
theorem rsL_0 : RS K (rSlL K) fSlL := ⟨fun l hx h k => by
  unfold fSlL at h
  split at h
  · cases hx with
    | lst ha q => exact ⟨_, _, rfl, .inl (.inl (l _ _ ha)), fun p np => k _ _ _ (.lst np (q.cut _ _)) h⟩
  · exact h.elim⟩
instance rsL {K' : PySem.W.Frag} [hK : KEq K' K] : RS K (rSlL K') fSlL := by
  cases hK.e
  exact rsL_0
def fSlS (x : D) (lo hi : Option Int) (Q : S → Prop) : Prop := match x with
  | .raw (.str z) => z.length ≤ sizeLine ∧ Q (.sh (.str (cutS z lo hi)))
  | _ => False
instance rsS : RS K rSlS fSlS := ⟨fun l hx h k => by
  unfold fSlS at h
  split at h
  · cases hx
    exact ⟨_, rfl, h.1, k _ _ _ (.old (.raw _)) h.2⟩
  · exact h.elim⟩
def fRev (x : D) (Q : S → Prop) : Prop := match x with
  | .lst ds => Q (.ow (shs ds.reverse))
  | _ => False
theorem deRev_0 [i : DE K EE te m] : DE K EE (tRevL K te) (mUn fRev m) := ⟨fun z h k kx => DE.runV (te := te) (m := m) z h (fun v d ρ1 H1 p1 h1 => by
  obtain ⟨Hs1, F1, z1, q1, e1⟩ := p1
  unfold fRev at h1
  split at h1
  · cases q1 with
    | lst ha q => exact ⟨_, _, rfl, .inl (.inl (z1.le _ _ ha)), fun p np => k _ _ _ _ ((Nv.po z1 (.lst np q.rev)).trans e1) h1⟩
  · exact h1.elim) kx⟩
instance deRev {K' : PySem.W.Frag} [hK : KEq K' K] [i : DE K EE te m] : DE K EE (tRevL K' te) (mUn fRev m) := by
  cases hK.e
  exact deRev_0
/-! ### fields -/
theorem lookup_zip : ∀ {ns : List Str} {vs : List V} {ds : List D} {f : Str} {d : D}, DnA K H vs ds → (ns.zip ds).lookup f = some d → ∃ v, (ns.zip vs).lookup f = some v ∧ Dn K H v d
  | [], _, _, _, _, _, e => by simp at e
  | n :: ns, _, _, f, d, .nil, e => by simp at e
  | n :: ns, _, _, f, d, .cons h t, e => by
    rw [List.zip_cons_cons, List.lookup_cons] at e ⊢
    split at e
    · cases e
      exact ⟨_, rfl, h⟩
    · exact lookup_zip t e
theorem lookup_none : ∀ {ns : List Str} {vs : List V} {f : Str}, f ∉ ns → (ns.zip vs).lookup f = none
  | [], _, _, _ => by simp
  | n :: ns, [], _, _ => by simp
  | n :: ns, v :: vs, f, h => by
    rw [List.zip_cons_cons, List.lookup_cons]
    have e : (f == n) = false := by
      rw [beq_eq_false_iff_ne]
      exact fun q => h (q ▸ List.mem_cons_self)
    rw [e]
    exact lookup_none fun q => h (List.mem_cons_of_mem _ q)
def fFld (K : PySem.W.Frag) (f : Str) (x : D) (Q : S → Prop) : Prop := match x with
  | .ob C ns ds => Cls K C ∧ NoAttr K C f ∧ ∃ d, (ns.zip ds).lookup f = some d ∧ Q (.sh d)
  | _ => False
theorem deFld_0 {f : Str} [i : DE K EE te m] : DE K EE (tFld K te f) (mUn (fFld K f) m) := ⟨fun z h k kx => DE.runV (te := te) (m := m) z h (fun v d ρ1 H1 p1 h1 => by
  obtain ⟨Hs1, F1, z1, q1, e1⟩ := p1
  unfold fFld at h1
  split at h1
  · obtain ⟨hc, hn, d, e, h1⟩ := h1
    cases q1 with
    | ob ha l q =>
      obtain ⟨v, e2, q2⟩ := lookup_zip q e
      exact ⟨_, _, _, _, v, rfl, z1.le _ _ ha, hc, hn, e2, k _ _ _ _ ((Nv.po z1 (.old q2)).trans e1) h1⟩
  · exact h1.elim) kx⟩
instance deFld {K' : PySem.W.Frag} [hK : KEq K' K] {f : Str} [i : DE K EE te m] : DE K EE (tFld K' te f) (mUn (fFld K f) m) := by
  cases hK.e
  exact deFld_0
def fXv (K : PySem.W.Frag) (f : Str) (x : D) (Q : S → Prop) : Prop := match x with
  | .exc C ns ds => XfC K C ∧ PySem.W.findIn K (.ref C) f = some none ∧ ∃ d, (ns.zip ds).lookup f = some d ∧ Q (.sh d)
  | _ => False
theorem deXv_0 {f : Str} [i : DE K EE te m] : DE K EE (tXv K f te) (mUn (fXv K f) m) := ⟨fun z h k kx => DE.runV (te := te) (m := m) z h (fun v d ρ1 H1 p1 h1 => by
  obtain ⟨Hs1, F1, z1, q1, e1⟩ := p1
  unfold fXv at h1
  split at h1
  · obtain ⟨hc, hn, d, e, h1⟩ := h1
    cases q1 with
    | exc ha xf q =>
      rename_i a od vs
      obtain ⟨v, e2, q2⟩ := lookup_zip q e
      cases od with
      | none =>
        obtain ⟨rfl, rfl⟩ := xf
        simp at e2
      | some dd => exact ⟨_, _, dd, _, v, rfl, z1.le _ _ ha, z1.le _ _ xf.1, hc, hn, e2, k _ _ _ _ ((Nv.po z1 (.old q2)).trans e1) h1⟩
  · exact h1.elim) kx⟩
instance deXv {K' : PySem.W.Frag} [hK : KEq K' K] {f : Str} [i : DE K EE te m] : DE K EE (tXv K' f te) (mUn (fXv K f) m) := by
  cases hK.e
  exact deXv_0
/-! ### methods of texts -/
class RM (K : PySem.W.Frag) (r : V → List V → Hp → VK → Prop) (f : outParam (Str → D → (S → Prop) → Prop)) : Prop where
  run : ∀ {Hs H : Hp} {x : Str} {y : V} {dy : D} {Q : S → Prop} {Qh : VK}, Same Hs H → Dn K Hs y dy → f x dy Q → (∀ v s H', Nv K Hs H v s H' → Q s → Qh v H') → r (.str x) [y] H Qh
def mM1 (f : Str → D → (S → Prop) → Prop) (ma mb : ME) : ME := fun ρ Q Qx => mV ma ρ (fun x ρ1 => match x with
  | .raw (.str a) => mV mb ρ1 (fun y ρ2 => f a y fun s => Q s ρ2) Qx
  | _ => False) Qx
instance deM1 {r : V → List V → Hp → VK → Prop} {f : Str → D → (S → Prop) → Prop} [i : DE K EE ta ma] [j : DE K EE tb mb] [rm : RM K r f] : DE K EE (tM1 r ta tb) (mM1 f ma mb) := ⟨fun z h k kx => DE.runV (te := ta) (m := ma) z h (fun v d ρ1 H1 p1 h1 => by
  obtain ⟨Hs1, F1, z1, q1, e1⟩ := p1
  split at h1
  · cases q1
    refine ⟨⟨_, rfl⟩, DE.runV (te := tb) (m := mb) z1 h1 (fun y dy ρ2 H2 p2 h2 => ?_) (fun x cls od ρ' H' p => kx x cls od ρ' H' (p.trans e1))⟩
    obtain ⟨Hs2, F2, z2, q2, e2⟩ := p2
    exact rm.run z2.le q2 h2 fun v s H' nv q => k v s ρ2 H' ((nv.po z2).trans (e1.trans e2)) q
  · exact h1.elim) kx⟩
def fCount (x : Str) (y : D) (Q : S → Prop) : Prop := match y with
  | .raw (.str b) => Q (.sh (.int (Txt.count x b)))
  | _ => False
instance rmCount : RM K (fun x xs H Q => ∃ a b, x = .str a ∧ xs = [.str b] ∧ Q (.int (Txt.count a b)) H) fCount := ⟨fun l hy h k => by
  unfold fCount at h
  split at h
  · cases hy
    exact ⟨_, _, rfl, rfl, k _ _ _ (.old (.raw _)) h⟩
  · exact h.elim⟩
theorem strs_map (ys : List Str) : ys.map D.str = (ys.map V.str).map D.raw := by
  rw [List.map_map]
  rfl
def fJoin (x : Str) (y : D) (Q : S → Prop) : Prop := match y with
  | .lst ds => ∃ ys : List Str, ds = ys.map D.str ∧ (ys.map (·.length)).sum + ys.length * x.length ≤ 16777216 ∧ Q (.sh (.str (Txt.join x ys)))
  | _ => False
theorem rmJoin_0 : RM K (fun x xs H Q => ∃ a p, ∃ ys : List Str, x = .str a ∧ xs = [.ref p] ∧ (SqL K H p (ys.map V.str) ∨ SqT K H p (ys.map V.str)) ∧ (ys.map (·.length)).sum + ys.length * a.length ≤ 16777216 ∧ Q (.str (Txt.join a ys)) H) fJoin := ⟨fun l hy h k => by
  unfold fJoin at h
  split at h
  · obtain ⟨ys, rfl, hz, h⟩ := h
    cases hy with
    | lst ha q =>
      rw [strs_map] at q
      cases q.unraw
      exact ⟨_, _, ys, rfl, rfl, .inl (.inl (.inl (l _ _ ha))), hz, k _ _ _ (.old (.raw _)) h⟩
  · exact h.elim⟩
instance rmJoin {K' : PySem.W.Frag} [hK : KEq K' K] : RM K (fun x xs H Q => ∃ a p, ∃ ys : List Str, x = .str a ∧ xs = [.ref p] ∧ (SqL K' H p (ys.map V.str) ∨ SqT K' H p (ys.map V.str)) ∧ (ys.map (·.length)).sum + ys.length * a.length ≤ 16777216 ∧ Q (.str (Txt.join a ys)) H) fJoin := by
  cases hK.e
  exact rmJoin_0
/-! ### a list of one's own, changed -/
def lsO (o : Option (Option S)) : Option (List S × (List S → S)) := match o with
  | some (some (.ow ss)) => some (ss, .ow)
  | some (some (.io k ss)) => some (ss, .io k)
  | _ => none
theorem St.lsO {i : Nat} {ss : List S} {c : List S → S} (z : St K io σ ρ Hs H F) (h : lsO ρ[i]? = some (ss, c)) : ∃ p vs f, σ[i]? = some (some (.ref p)) ∧ H p = some (.lst vs) ∧ Hs p = none ∧ OwA K io Hs H vs ss f ∧ p ∉ f ∧ F i = p :: f ∧
    ∀ {Hs' H' : Hp} {vs' : List V} {ss' : List S} {f' : List Addr}, H' p = some (.lst vs') → Hs' p = none → OwA K io Hs' H' vs' ss' f' → p ∉ f' → Ow K io Hs' H' (.ref p) (c ss') (p :: f') := by
  unfold Da.lsO at h
  split at h
  · rename_i e
    cases h
    obtain ⟨v, hv, o⟩ := z.own i _ e
    generalize F i = f at o
    cases o with
    | ow h1 h2 h3 h4 => exact ⟨_, _, _, hv, h1, h2, h3, h4, rfl, fun a b c d => .ow a b c d⟩
  · rename_i e
    cases h
    obtain ⟨v, hv, o⟩ := z.own i _ e
    generalize F i = f at o
    cases o with
    | io h0 h1 h2 h3 h4 => exact ⟨_, _, _, hv, h1, h2, h3, h4, rfl, fun a b c d => .io h0 a b c d⟩
  · cases h
/-- the list in the slot i becomes ss', whose things vs' own f' -/
theorem St.putL {i : Nat} {c : List S → S} {p : Addr} {vs' : List V} {ss' : List S} {f f' : List Addr} {fe : Addr → Prop} (z : St K io σ ρ Hs H F) (hv : σ[i]? = some (some (.ref p))) (hF : F i = p :: f) (hp : ∃ vs, H p = some (.lst vs)) (hs : Hs p = none)
    (mk : ∀ {Hs' H' : Hp} {vs' : List V} {ss' : List S} {f' : List Addr}, H' p = some (.lst vs') → Hs' p = none → OwA K io Hs' H' vs' ss' f' → p ∉ f' → Ow K io Hs' H' (.ref p) (c ss') (p :: f'))
    (o : OwA K io Hs H vs' ss' f') (np : p ∉ f') (n : ∀ a ∈ f', ∀ j, j ≠ i → a ∉ F j) (w : ∀ a ∈ f', FP F a ∨ fe a) :
    ∃ F', St K io σ (ρ.set i (some (c ss'))) Hs (upd H p (.lst vs')) F' ∧ (∀ a, FP F' a → FP F a ∨ fe a) ∧ Tr (FP F) Hs H Hs (upd H p (.lst vs')) := by
  have pi : FP F p := ⟨i, by rw [hF]; exact List.mem_cons_self⟩
  have hi : i < σ.length := (List.getElem?_eq_some_iff.mp hv).1
  have le : Same Hs (upd H p (.lst vs')) := fun a u h => by
    rw [upd_ne fun q => by rw [q, hs] at h; cases h]
    exact z.le a u h
  have o2 : OwA K io Hs (upd H p (.lst vs')) vs' ss' f' := o.keep (Same.refl _) fun a m => ⟨upd_ne fun q => np (by rw [← q]; exact m), (o.has a m).2⟩
  refine ⟨fun j => if j = i then p :: f' else F j, ⟨le, by simp [z.len], fun j t h => ?_, fun j a m => ?_, fun j k a h1 h2 => ?_⟩, fun a ⟨j, m⟩ => ?_, ⟨Same.refl _, fun a u h q => ?_, fun _ _ _ _ h => h⟩⟩
  · by_cases e : j = i
    · subst e
      rw [List.getElem?_set_self (by rw [z.len]; exact hi)] at h
      cases h
      refine ⟨_, hv, ?_⟩
      show Ow K io Hs _ (.ref p) (c ss') (if j = j then p :: f' else F j)
      rw [if_pos rfl]
      exact mk upd_same hs o2 np
    · rw [List.getElem?_set_ne (Ne.symm e)] at h
      obtain ⟨w, h1, h2⟩ := z.own j t h
      refine ⟨w, h1, ?_⟩
      show Ow K io Hs _ w t (if j = i then p :: f' else F j)
      rw [if_neg e]
      refine h2.keep (Same.refl _) fun a m => ⟨upd_ne fun q => e (z.dis j i a m ?_), (h2.has a m).2⟩
      rw [hF, q]
      exact List.mem_cons_self
  · have m : a ∈ (if j = i then p :: f' else F j) := m
    by_cases e : j = i
    · subst e
      exact ⟨_, List.getElem?_set_self (by rw [z.len]; exact hi)⟩
    · rw [if_neg e] at m
      obtain ⟨t, h⟩ := z.non j a m
      exact ⟨t, by rw [List.getElem?_set_ne (Ne.symm e)]; exact h⟩
  · have h1 : a ∈ (if j = i then p :: f' else F j) := h1
    have h2 : a ∈ (if k = i then p :: f' else F k) := h2
    have key : ∀ {j : Nat}, j ≠ i → a ∈ F j → a ∈ p :: f' → False := fun {j} e h h' => by
      rcases List.mem_cons.mp h' with q | q
      · refine e (z.dis j i a h ?_)
        rw [hF, q]
        exact List.mem_cons_self
      · exact n a q j e h
    by_cases e : j = i <;> by_cases e' : k = i
    · rw [e, e']
    · rw [if_pos e] at h1
      rw [if_neg e'] at h2
      exact (key e' h2 h1).elim
    · rw [if_neg e] at h1
      rw [if_pos e'] at h2
      exact (key e h1 h2).elim
    · rw [if_neg e] at h1
      rw [if_neg e'] at h2
      exact z.dis j k a h1 h2
  · have m : a ∈ (if j = i then p :: f' else F j) := m
    by_cases e : j = i
    · rw [if_pos e] at m
      rcases List.mem_cons.mp m with q | q
      · exact .inl (q ▸ pi)
      · exact w a q
    · rw [if_neg e] at m
      exact .inl ⟨j, m⟩
  · have ne : a ≠ p := fun e => q (by rw [e]; exact pi)
    rw [upd_ne ne]
    exact h
theorem sql {a : Addr} {xs : List V} (h : H a = some (.lst xs)) : SqL K H a xs := .inl (.inl h)
/-- x.append(e) -/
def mApp (j : Nat) (me : ME) : MS := fun Dd ρ => (lsO ρ[j]?).isSome = true ∧ me ρ (fun s ρ1 => ∃ ss c, lsO ρ1[j]? = some (ss, c) ∧ ss.length < sizeLine ∧ Dd.nx (ρ1.set j (some (c (ss ++ [s]))))) Dd.xk
theorem dsApp_0 {j : Nat} [i : DE K EE te m] : DS K EE (tDrop (tBM K "list" rAppend (tVar j) (tCons te tNil))) (mApp j (mE m)) := ⟨fun {io σ ρ Hs H F Dd Dh} z h l => by
  obtain ⟨h0, h⟩ := h
  obtain ⟨⟨ss0, c0⟩, h0⟩ := Option.isSome_iff_exists.mp h0
  obtain ⟨p, vs, f, hv, hp, hs, _⟩ := z.lsO h0
  refine ⟨_, hv, .inl ⟨rfl, vs, sql hp⟩, (deE (te := te) (m := m)).run z h (fun v s ρ1 H1 p1 h1 => ?_) (fun x cls od ρ' H' p q => l.xk σ x cls od ρ' H' p q)⟩
  obtain ⟨Hs1, F1, f1, z1, o1, n1, w1, e1⟩ := p1
  obtain ⟨ss, c, hl, hz, hn⟩ := h1
  obtain ⟨p', vs1, g, hv1, hp1, hs1, oa, np, hF, mk⟩ := z1.lsO hl
  have ep : p' = p := by
    rw [hv] at hv1
    cases hv1
    rfl
  subst ep
  have pf : ∀ a ∈ g, FP F1 a := fun a m => ⟨j, by rw [hF]; exact List.mem_cons_of_mem _ m⟩
  have np1 : p' ∉ f1 := fun q => n1 _ q ⟨j, by rw [hF]; exact List.mem_cons_self⟩
  obtain ⟨F2, z2, l2, t2⟩ := z1.putL (fe := fun a => a ∈ f1) (f' := g ++ f1) hv1 hF ⟨_, hp1⟩ hs1 mk (oa.snoc o1 fun a m q => n1 a m (pf a q)) (fun q => by
    rcases List.mem_append.mp q with q | q
    · exact np q
    · exact np1 q) (fun a m k hk q => by
    rcases List.mem_append.mp m with m | m
    · exact hk (z1.dis k j a q (by rw [hF]; exact List.mem_cons_of_mem _ m))
    · exact n1 a m ⟨k, q⟩) (fun a m => by
    rcases List.mem_append.mp m with m | m
    · exact .inl (pf a m)
    · exact .inr m)
  refine ⟨_, _, _, rfl, rfl, hp1, by rw [oa.len]; exact hz, l.nx σ _ _ (PoG.after e1 w1 (F1 := F1) (fv := f1) ⟨Hs1, F2, z2, fun a q => ?_, t2.sh, fun a o h n => t2.fr a o h fun q => n (.inl q), fun a o h n => t2.ns a o h fun q => n (.inl q)⟩) hn⟩
  rcases l2 a q with r | r
  · exact .inl r
  · exact .inr (.inl r)⟩
instance dsApp {K' : PySem.W.Frag} [hK : KEq K' K] {j : Nat} [i : DE K EE te m] : DS K EE (tDrop (tBM K' "list" rAppend (tVar j) (tCons te tNil))) (mApp j (mE m)) := by
  cases hK.e
  exact dsApp_0
theorem OwA.set : ∀ {vs : List V} {ss : List S} {f : List Addr} {g : List Addr} {v : V} {s : S} (n : Nat), OwA K io Hs H vs ss f → Ow K io Hs H v s g → (∀ a ∈ g, a ∉ f) → ∃ f', OwA K io Hs H (vs.set n v) (ss.set n s) f' ∧ ∀ a ∈ f', a ∈ f ∨ a ∈ g
  | _, _, _, g, _, _, _, .nil, _, _ => ⟨[], .nil, fun _ m => (nomatch m)⟩
  | _, _, _, g, v, s, 0, .cons h t dj, o, n => ⟨_, .cons o t fun a m q => n a m (List.mem_append_right _ q), fun a m => by
      rcases List.mem_append.mp m with m | m
      · exact .inr m
      · exact .inl (List.mem_append_right _ m)⟩
  | _, _, _, g, v, s, k + 1, .cons h t dj, o, n => by
      obtain ⟨f', o', l'⟩ := OwA.set k t o fun a m q => n a m (List.mem_append_right _ q)
      refine ⟨_, .cons h o' fun a m q => ?_, fun a m => ?_⟩
      · rcases l' a q with r | r
        · exact dj a m r
        · exact n a r (List.mem_append_left _ m)
      · rcases List.mem_append.mp m with m | m
        · exact .inl (List.mem_append_left _ m)
        · rcases l' a m with r | r
          · exact .inl (List.mem_append_right _ r)
          · exact .inr r
/-- x[i] = value -/
def mgSub (j : Nat) (mi : ME) : MG := fun s ρ Q => (lsO ρ[j]?).isSome = true ∧ mV mi ρ (fun y ρ1 => match y with
  | .raw (.int k) => ∃ ss c n, lsO ρ1[j]? = some (ss, c) ∧ ixN ss.length k = some n ∧ Q (ρ1.set j (some (c (ss.set n s))))
  | _ => False) X0
instance dgSub {j : Nat} {ti : TE} {mi : ME} [i : DE K EE ti mi] : DG K EE (gSub (tVar j) ti rSetL) [] (mgSub j mi) := ⟨fun {io σ ρ Hs H F v s fv Q R} z o n h k => by
  obtain ⟨h0, h⟩ := h
  obtain ⟨⟨ss0, c0⟩, h0⟩ := Option.isSome_iff_exists.mp h0
  obtain ⟨p0, _, _, hv0, _⟩ := z.lsO h0
  generalize V.ref p0 = v0 at hv0
  refine ⟨v0, hv0, DE.runV (EE := EE) (te := ti) (m := mi) z h (fun y d ρ1 H1 p1 h1 => ?_) (fun x cls od ρ' H' p q => q.elim)⟩
  obtain ⟨Hs1, F1, z1, q1, e1⟩ := p1
  split at h1
  · cases q1
    rename_i k0
    obtain ⟨ss, c, nn, hl, hx, hq⟩ := h1
    obtain ⟨p, vs1, g, hv1, hp1, hs1, oa, np, hF, mk⟩ := z1.lsO hl
    have e0 : v0 = .ref p := by
      rw [hv0] at hv1
      cases hv1
      rfl
    subst e0
    have o1 := o.stay n e1
    have n1 : ∀ a ∈ fv, ¬ FP F1 a := fun a m => by
      obtain ⟨⟨u, hu⟩, _⟩ := o.has a m
      exact e1.apart hu (n a m)
    have pf : ∀ a ∈ g, FP F1 a := fun a m => ⟨j, by rw [hF]; exact List.mem_cons_of_mem _ m⟩
    obtain ⟨f', o', l'⟩ := oa.set nn o1 fun a m q => n1 a m (pf a q)
    have npf : p ∉ f' := fun q => by
      rcases l' p q with r | r
      · exact np r
      · exact n1 p r ⟨j, by rw [hF]; exact List.mem_cons_self⟩
    obtain ⟨F2, z2, l2, t2⟩ := z1.putL (fe := fun a => a ∈ fv) hv1 hF ⟨_, hp1⟩ hs1 mk o' npf (fun a m k hk q => by
      rcases l' a m with m | m
      · exact hk (z1.dis k j a q (by rw [hF]; exact List.mem_cons_of_mem _ m))
      · exact n1 a m ⟨k, q⟩) (fun a m => by
      rcases l' a m with m | m
      · exact .inl (pf a m)
      · exact .inr m)
    refine ⟨_, _, _, nn, rfl, rfl, hp1, by rw [oa.len]; exact hx, k σ _ _ ⟨Hs1, F2, z2, fun a q => ?_, e1.tr.sh.trans t2.sh, fun a o h q => t2.fr a o (e1.tr.fr a o h fun r => q (.inl r)) (e1.apart h fun r => q (.inl r)), fun a o h q r => e1.tr.ns a o h (fun r => q (.inl r)) r⟩ (fun _ _ => rfl) hq⟩
    rcases l2 a q with r | r
    · rcases e1.fp a r with r | r
      · exact .inl r
      · exact .inr (.inr r)
    · exact .inr (.inl r)
  · exact h1.elim⟩
end
end Da
namespace Da
open PySem L2
section
variable {K : PySem.W.Frag} {EE : L2.St → XK} {io : List Addr} {σ : L2.St} {ρ ρ' : Env} {Hs H Hs1 H1 Hs' H' : Hp} {F F1 F' : Nat → List Addr} {v : V} {s : S} {d : D} {te ta tb : TE} {m ma mb : ME} {tc : TT} {mc : MT} {t u : TS} {mt mu : MS}
/-! ### defs: what they tell of shared things -/
abbrev MF := List D → (S → Prop) → (D → Prop) → Prop
def PoP (K : PySem.W.Frag) (Hs H : Hp) (v : V) (s : S) (H' : Hp) : Prop := ∃ Hs' fv, Same Hs' H' ∧ Ow K [] Hs' H' v s fv ∧ (∀ a ∈ fv, H a = none) ∧ Tr (fun _ => False) Hs H Hs' H'
def PoPx (K : PySem.W.Frag) (Hs H : Hp) (x : D) (cls : Value) (od : Option Addr) (H' : Hp) : Prop := ∃ Hs', Same Hs' H' ∧ Xc K Hs' x cls od ∧ Tr (fun _ => False) Hs H Hs' H'
/-- n arguments, shared; mf tells the answer, or the refusal -/
def spP (K : PySem.W.Frag) (n : Nat) (mf : MF) : Sp := fun vs H Q E => vs.length = n ∧ ∃ Hs ds Qd Qx, Same Hs H ∧ DnA K Hs vs ds ∧ mf ds Qd Qx ∧ (∀ v s H', PoP K Hs H v s H' → Qd s → Q v H') ∧ ∀ x cls od H', PoPx K Hs H x cls od H' → Qx x → E cls od H'
theorem St.call (z : St K io σ ρ Hs H F) (l : Same Hs' H') (tr : Tr (fun _ => False) Hs H Hs' H') : St K io σ ρ Hs' H' F ∧ Ev F Hs H F Hs' H' :=
  ⟨z.keep tr.sh l fun a q => by
    obtain ⟨⟨o, h⟩, n⟩ := z.has q
    exact ⟨(tr.fr a o h id).trans h.symm, tr.ns a o h id n⟩, fun a h => .inl h, tr.sh, fun a o h _ => tr.fr a o h id, fun a o h _ => tr.ns a o h id⟩
theorem PoP.po (z : St K io σ ρ Hs H F) (p : PoP K Hs H v s H') : Po K io σ F Hs H v s ρ H' := by
  obtain ⟨Hs', fv, le, o, n, tr⟩ := p
  obtain ⟨z1, e1⟩ := z.call le tr
  exact ⟨Hs', F, fv, z1, o.io0, fun a m => z.new (n a m), fun a m => .inr (n a m), e1⟩
theorem PoPx.po (z : St K io σ ρ Hs H F) {x : D} {cls : Value} {od : Option Addr} (p : PoPx K Hs H x cls od H') : PoX K io σ F Hs H x cls od ρ H' := by
  obtain ⟨Hs', le, q, tr⟩ := p
  obtain ⟨z1, e1⟩ := z.call le tr
  exact ⟨Hs', F, z1, q, e1⟩
/-- a call that refuses nothing -/
def mCall (n : Nat) (mf : MF) (dvs : List V) (ma : MA) : ME := fun ρ Q Qx => mVA ma ρ (fun ds ρ1 => (ds ++ dvs.map D.raw).length = n ∧ mf (ds ++ dvs.map D.raw) (fun s => Q s ρ1) (fun _ => False)) Qx
instance deCall {n : Nat} {mf : MF} {dvs : List V} {ta : TA} {ma : MA} [DA K EE ta ma] : DE K EE (tCall (spP K n mf) dvs L2.E0 ta) (mCall n mf dvs ma) := ⟨fun z h k kx =>
  DA.runV (ta := ta) (m := ma) z h (fun vs ds ρ1 H1 p1 h1 => by
    obtain ⟨Hs1, F1, z1, q1, e1⟩ := p1
    have q2 := q1.app (DnA.raws (K := K) (H := Hs1) dvs)
    exact ⟨by rw [q2.len]; exact h1.1, Hs1, _, _, _, z1.le, q2, h1.2, fun v s H' p q => k v s ρ1 H' ((p.po z1).trans e1) q, fun x cls od H' p q => q.elim⟩) kx⟩
/-- .. that may refuse -/
def mCallX (n : Nat) (mf : MF) (dvs : List V) (ma : MA) : ME := fun ρ Q Qx => mVA ma ρ (fun ds ρ1 => (ds ++ dvs.map D.raw).length = n ∧ mf (ds ++ dvs.map D.raw) (fun s => Q s ρ1) (fun x => Qx x ρ1)) Qx
instance (priority := low) deCallX {E : XK} {n : Nat} {mf : MF} {dvs : List V} {ta : TA} {ma : MA} [DA K (fun _ => E) ta ma] : DE K (fun _ => E) (tCall (spP K n mf) dvs E ta) (mCallX n mf dvs ma) := ⟨fun z h k kx =>
  DA.runV (EE := fun _ => E) (ta := ta) (m := ma) z h (fun vs ds ρ1 H1 p1 h1 => by
    obtain ⟨Hs1, F1, z1, q1, e1⟩ := p1
    have q2 := q1.app (DnA.raws (K := K) (H := Hs1) dvs)
    exact ⟨by rw [q2.len]; exact h1.1, Hs1, _, _, _, z1.le, q2, h1.2, fun v s H' p q => k v s ρ1 H' ((p.po z1).trans e1) q, fun x cls od H' p q => kx x cls od ρ1 H' ((p.po z1).trans e1) q⟩) kx⟩
instance deCallSD {n : Nat} {mf : MF} {dvs : List V} {ta : TA} {ma : MA} [DA K EE ta ma] : DE K EE (tCallSD (spP K n mf) dvs EE ta) (mCallX n mf dvs ma) := ⟨fun z h k kx =>
  DA.runV (ta := ta) (m := ma) z h (fun vs ds ρ1 H1 p1 h1 => by
    obtain ⟨Hs1, F1, z1, q1, e1⟩ := p1
    have q2 := q1.app (DnA.raws (K := K) (H := Hs1) dvs)
    exact ⟨by rw [q2.len]; exact h1.1, Hs1, _, _, _, z1.le, q2, h1.2, fun v s H' p q => k v s ρ1 H' ((p.po z1).trans e1) q, fun x cls od H' p q => kx x cls od ρ1 H' ((p.po z1).trans e1) q⟩) kx⟩
/-- by names -/
class GV (gV : List V → List V → List V) (gD : outParam (List D → List D → List D)) : Prop where
  run : ∀ {K : PySem.W.Frag} {H : Hp} {vs zs : List V} {ds es : List D}, DnA K H vs ds → DnA K H zs es → DnA K H (gV vs zs) (gD ds es)
instance gvId : GV (fun _ zs => zs) (fun _ zs => zs) := ⟨fun _ h => h⟩
instance gvRev : GV (fun _ zs => zs.reverse) (fun _ zs => zs.reverse) := ⟨fun _ h => h.rev⟩
def mCallN (n k n0 : Nat) (mf : MF) (gD : List D → List D → List D) (ma mk : MA) : ME := fun ρ Q Qx => mVA ma ρ (fun ds ρ1 => mVA mk ρ1 (fun es ρ2 => ds.length = n ∧ es.length = k ∧ (gD ds es).length = n0 ∧ mf (gD ds es) (fun s => Q s ρ2) (fun _ => False)) Qx) Qx
instance deCallN {n k n0 : Nat} {mf : MF} {gV : List V → List V → List V} {gD : List D → List D → List D} {ta tk : TA} {ma mk : MA} [DA K EE ta ma] [DA K EE tk mk] [g : GV gV gD] : DE K EE (tCallN n k (spP K n0 mf) gV L2.E0 ta tk) (mCallN n k n0 mf gD ma mk) := ⟨fun z h kk kx =>
  DA.runV (ta := ta) (m := ma) z h (fun vs ds ρ1 H1 p1 h1 => by
    obtain ⟨Hs1, F1, z1, q1, e1⟩ := p1
    refine DA.runV (ta := tk) (m := mk) z1 h1 (fun ws es ρ2 H2 p2 h2 => ?_) (fun x cls od ρ' H' p => kx x cls od ρ' H' (p.trans e1))
    obtain ⟨Hs2, F2, z2, q2, e2⟩ := p2
    have q3 := g.run (q1.mono e2.tr.sh) q2
    exact ⟨q1.len.trans h2.1, q2.len.trans h2.2.1, by rw [q3.len]; exact h2.2.2.1, Hs2, _, _, _, z2.le, q3, h2.2.2.2, fun v s H' p q => kk v s ρ2 H' ((p.po z2).trans (e1.trans e2)) q, fun x cls od H' p q => q.elim⟩) kx⟩
/-! ### a def's body -/
/-- where the body starts -/
def rho (n : Nat) (ds : List D) : Env := ds.map (fun d => some (.sh d)) ++ List.replicate (n - ds.length) none
theorem St.start {N : List Str} {vs : List V} {ds : List D} (le : Same Hs H) (q : DnA K Hs vs ds) : St K [] (start N vs) (rho N.length ds) Hs H (fun _ => []) := by
  refine ⟨le, ?_, fun i s h => ?_, fun i a m => (nomatch m), fun i j a m => (nomatch m)⟩
  · unfold rho L2.start
    simp [q.len]
  · unfold rho at h
    by_cases hi : i < ds.length
    · rw [List.getElem?_append_left (by simpa using hi), List.getElem?_map] at h
      cases e : ds[i]? with
      | none => rw [e] at h; cases h
      | some d =>
        rw [e] at h
        cases h
        obtain ⟨v, hv, qv⟩ := q.get e
        refine ⟨v, ?_, .sh qv⟩
        unfold L2.start
        rw [List.getElem?_append_left (by simpa [q.len] using hi), List.getElem?_map, hv]
        rfl
    · rw [List.getElem?_append_right (by simpa using hi), List.getElem?_replicate] at h
      split at h <;> cases h
theorem body0 {N : List Str} {vs : List V} {ds : List D} {E : XK} {Qd : S → Prop} {Qx : D → Prop} {Q : VK} [i : DS K (fun _ => E) t mt] (le : Same Hs H) (q : DnA K Hs vs ds)
    (h : mt { nx := fun _ => Qd (.sh .non), rt := fun s _ => Qd s, xk := fun x _ => Qx x } (rho N.length ds)) (k : ∀ v s H', PoP K Hs H v s H' → Qd s → Q v H') (kx : ∀ x cls od H', PoPx K Hs H x cls od H' → Qx x → E cls od H') :
    t { nx := fun _ H' => Q .non H', rt := Q } (start N vs) H := by
  have po : ∀ {σ' : L2.St} {v : V} {s : S} {ρ' : Env} {H' : Hp}, Po K [] σ' (fun _ => []) Hs H v s ρ' H' → PoP K Hs H v s H' := fun {σ' v s ρ' H'} p => by
    obtain ⟨Hs', F', fv, z, o, n, w, e⟩ := p
    exact ⟨Hs', fv, z.le, o, fun a m => (w a m).elim (fun r => absurd r FP0) id, e.tr.off⟩
  refine i.run (St.start (N := N) le q) h ⟨fun σ' ρ' H' p q => k _ _ H' (po (p.raw .non)) q, fun σ' v s ρ' H' p q => k v s H' (po p) q, fun _ _ _ _ q => q, fun _ _ _ _ q => q, fun σ' x cls od ρ' H' p q => kx x cls od H' ?_ q⟩
  obtain ⟨Hs', F', z, q, e⟩ := p
  exact ⟨Hs', z.le, q, e.tr.off⟩
end
section
open PySem.Spec PyProof.Rows
variable {P : Program} {w : World} {K : PySem.W.Frag} {mg : Str → Option Value} {base : Heap}
/-- a def that refuses nothing: its body's data, read -/
theorem fn_ok {x qual : Str} {st : Stmt} {f : Addr} {fd : FuncData} {N ps : List Str} {k n : Nat} {mf : MF} (F : Fun K x qual st f fd) (S : FnScope N ps (defScope st)) (hn : n = ps.length)
    (hbody : ∀ (cdv : Value) (A : Around) (outer : List PySem.Env) (s : Shared) (H : Hp) (E : XK), Room k (A.deeper (envOfC qual (defScope st) s.heap.objs.size f cdv)) →
      ∃ t mt, PSs (cxOf CX0 P w K mg base N qual (defScope st) f cdv A outer s H E).nox (defBody st) t ∧ DS K (fun _ => E0) t mt ∧ ∀ ds Qd, ds.length = n → mf ds Qd (fun _ => False) → mt { nx := fun _ => Qd (.sh .non), rt := fun s _ => Qd s, xk := fun _ _ => False } (rho N.length ds))
    (hx : ∀ ds Qd Qx, mf ds Qd Qx → mf ds Qd (fun _ => False)) : FnOk P w K mg base CX0 (k + 1) f fd ps (spP K n mf) := by
  refine F.ok S (fun vs H Q E h => h.1.trans hn) (fun cdv A outer s H vs Q E hr h => ?_)
  obtain ⟨hl, Hs, ds, Qd, Qx, le, q, hm, k1, k2⟩ := h
  obtain ⟨t, mt, h1, i, h2⟩ := hbody cdv A outer s H E hr
  exact ⟨t, h1, body0 (E := E0) (Qx := fun _ => False) le q (h2 ds Qd (q.len.symm.trans hl) (hx _ _ _ hm)) k1 (fun _ _ _ _ _ z => z)⟩
/-- a def that may refuse -/
theorem fn_okX {x qual : Str} {st : Stmt} {f : Addr} {fd : FuncData} {N ps : List Str} {k n : Nat} {mf : MF} (F : Fun K x qual st f fd) (S : FnScope N ps (defScope st)) (hn : n = ps.length)
    (hbody : ∀ (cdv : Value) (A : Around) (outer : List PySem.Env) (s : Shared) (H : Hp) (E : XK), Room k (A.deeper (envOfC qual (defScope st) s.heap.objs.size f cdv)) →
      ∃ t mt, PSs (cxOf (L2.CX P w) P w K mg base N qual (defScope st) f cdv A outer s H E) (defBody st) t ∧ DS K (fun _ => E) t mt ∧ ∀ ds Qd Qx, ds.length = n → mf ds Qd Qx → mt { nx := fun _ => Qd (.sh .non), rt := fun s _ => Qd s, xk := fun x _ => Qx x } (rho N.length ds)) : FnOk P w K mg base (L2.CX P w) (k + 1) f fd ps (spP K n mf) := by
  refine F.okX S (fun vs H Q E h => h.1.trans hn) (fun cdv A outer s H vs Q E hr h => ?_)
  obtain ⟨hl, Hs, ds, Qd, Qx, le, q, hm, k1, k2⟩ := h
  obtain ⟨t, mt, h1, i, h2⟩ := hbody cdv A outer s H E hr
  exact ⟨t, h1, body0 (E := E) le q (h2 ds Qd Qx (q.len.symm.trans hl) hm) k1 k2⟩
end
end Da
namespace L2
open PySem PySem.Spec PyProof.Rows
section
variable {X : Cx} {CX : CXT} {k : Nat} {f C : Addr} {fd : FuncData} {ps : List Str} {sp : Sp} {dvs : List V} {ds : List Value} {E : St → XK} {x m : Str} {p pos apos : Pos} {e o : Expr} {es : List Expr} {ta : TE} {t : TA}
/-- C(..), o.m(..) within a try -/
def tMakeSD (C : Addr) (sp : Sp) (dvs : List V) (E : St → XK) (t : TA) : TE := fun σ H Q => t σ H fun vs H1 => ∀ x dx, H1 x = none → H1 dx = none → dx ≠ x →
  sp (.ref x :: (vs ++ dvs)) (upd (upd H1 dx (.own x)) x (.ins C dx [])) (fun v H2 => v = .non ∧ Q (.ref x) H2) (E σ)
def tMethSD (C : Addr) (m : Str) (sp : Sp) (dvs : List V) (E : St → XK) (ta : TE) (t : TA) : TE := fun σ H Q => ta σ H fun x H1 => ∃ a dx fs, x = .ref a ∧ H1 a = some (.ins C dx fs) ∧ fs.lookup m = none ∧
  t σ H1 fun vs H2 => sp (x :: (vs ++ dvs)) H2 Q (E σ)
theorem run_makeSD {pins : List (Addr × Obj)} {σ : St} {H : Hp} {s : Shared} {Q : VK} {us : List Value} {vs : List V} (M : Mk X.K C f) (F : FnOk X.prog X.w X.K X.mg X.base CX k f fd ps sp) (hr : Room (k + 1) X.A) (hb : Binds X.K fd ps ds) (hd : Vals dvs ds)
    (hx : PassesAt CX X σ (E σ)) (I : Inv X pins σ H s) (r : Vals vs us)
    (h : ∀ x dx, H x = none → H dx = none → dx ≠ x → sp (.ref x :: (vs ++ dvs)) (upd (upd H dx (.own x)) x (.ins C dx [])) (fun v H2 => v = .non ∧ Q (.ref x) H2) (E σ)) :
    wpAny (model X.prog X.w) X.A (call (.ref C) us) (EP X pins σ Q) X.xe s := by
  have hq := h (s.heap.objs.size + 1) s.heap.objs.size (I.hok.fresh (Nat.le_succ _)) (I.hok.fresh (Nat.le_refl _)) (Nat.ne_of_lt (Nat.lt_succ_self _))
  have I2 := Inv.made (C := C) I
  have r2 : Vals (V.ref (s.heap.objs.size + 1) :: (vs ++ dvs)) (Value.ref (s.heap.objs.size + 1) :: (us ++ ds)) := .cons rfl (r.append hd)
  have hl : (Value.ref (s.heap.objs.size + 1) :: us ++ ds).length = ps.length := by
    have e := r2.length
    rw [F.len _ _ _ _ hq] at e
    exact e.symm
  refine wpAny_call (make_map (f := f) I.kIn M.makes M.init (beq_iff_eq.mp M.fn) (codeAny_mono (F.run _ X.stack _ _ ⟨Value.ref (s.heap.objs.size + 1) :: us, []⟩ (Value.ref (s.heap.objs.size + 1) :: (us ++ ds)) _ _ (E σ) (hr.make C us [])
    (I2.env0.make C us []) (hb _ (Value.ref (s.heap.objs.size + 1) :: us) I2.kIn hl) r2 hq) fun r s' hq' => ?_))
  cases r with
  | error e => exact hx pins _ _ e s' I2 hq'
  | ok fl =>
    cases fl with
    | ret u =>
      obtain ⟨v, H', I3, rv, ev, q3⟩ := I2.after hq'
      subst ev
      exact ⟨rv, ⟨V.ref (s.heap.objs.size + 1), H', I3, rfl, q3⟩⟩
    | next => exact False.elim hq'
    | brk => exact False.elim hq'
    | cont => exact False.elim hq'
theorem pe_makeSD (M : Mk X.K C f) (F : FnOk X.prog X.w X.K X.mg X.base CX k f fd ps sp) (hr : Room (k + 1) X.A) (hg : Gl X x) (hm : X.mg x = some (.ref C)) (hb : Binds X.K fd ps ds) (hd : Vals dvs ds) (hx : ∀ σ, PassesAt CX X σ (E σ))
    (ha : PA X (e :: es) t) (hdb : (x == ("__debug__" : Str)) = false := by decide) (he : starEach (e :: es) X.env = (false, eval e X.env) :: starEach es X.env := by rfl) (hpl : (backTo pos (starEach es X.env)).any (·.1) = false := by rfl) :
    PE X (.Call (.Name x p) (e :: es) [] pos) (tMakeSD C sp dvs E t) := by
  refine ⟨fun pins s σ H Q I h => ?_⟩
  refine wpAny_Call_Name_kw (ld_glob I hg hm ?_ hdb)
  refine PySem.W.callWith_K (h₀ := X.base) I.ok.mod.kin M.kp (thn (ha.run pos pins s σ H _ I h) fun us s1 ⟨vs, H1, I1, r, q⟩ => ⟨I1.kIn, ?_⟩) he hpl
  exact run_makeSD M F hr hb hd (hx σ) I1 r q
theorem pe_methSD {pl : Sem Bool} (he : PE X o ta) (c : Cls X.K C) (hm : Meth X.K C m f) (F : FnOk X.prog X.w X.K X.mg X.base CX k f fd ps sp) (hr : Room k X.A) (hb : Binds X.K fd ps ds) (hd : Vals dvs ds) (hx : ∀ σ, PassesAt CX X σ (E σ)) (ha : PA X (e :: es) t)
    (hst : starEach (e :: es) X.env = (false, eval e X.env) :: starEach es X.env := by rfl) (hpl : (backTo pos (starEach es X.env)).any (·.1) = false := by rfl)
    (ht : eval (.Call (.Attribute o m apos) (e :: es) [] pos) X.env = (do
      let ov ← eval o X.env
      standAt apos.atName
      let (f, first) ← holding [ov] (getMethod ov m pl)
      callWith pos f first (backTo pos (starEach (e :: es) X.env)) (backToKw pos (keywordEach [] X.env))) := by rfl) :
    PE X (.Call (.Attribute o m apos) (e :: es) [] pos) (tMethSD C m sp dvs E ta t) := by
  refine ⟨fun pins s σ H Q I h => ?_⟩
  refine PySem.W.methodCall_KW (pl := pl) (thn (he.run pins s σ H _ I h) fun u s1 ⟨x, H1, I1, rx, a, dx, fs, ex, ea, l, q⟩ => ?_) ht
  subst ex
  obtain rfl : u = Value.ref a := rx
  refine getmeth_ok I1 ea c hm l ?_
  refine PySem.W.callWith_K (first := [.ref a]) (h₀ := X.base) I.ok.mod.kin hm.kp (thn (ha.run pos pins s1 σ H1 _ I1 q) fun us s2 ⟨vs, H2, I2, r, q2⟩ => ⟨I2.kIn, ?_⟩) hst hpl
  exact run_fnSD (us := .ref a :: us) (vs := .ref a :: vs) F hr hb hd (hx σ) I2 (.cons rfl r) q2
/-- raise, in words of the data layer -/
def tRaise0 (C : Addr) (E : XK) : TS := fun _ _ H => E (.ref C) none H
def tRaise1 (C : Addr) (f : Str) (E : XK) (ta : TA) : TS := fun _ σ H => ta σ H fun vs H1 => ∃ v, vs = [v] ∧ ∀ d, H1 d = none → E (.ref C) (some d) (upd H1 d (.xd [(f, v)]))
theorem ps_rs0 {E : XK} (hc : X.calm = true) (tk : Takes X (fun cls d _ H => E cls d H)) (h : PMk X e (fun _ H Q => Q (.ref C) none H)) : PS X (.Raise (some e) none pos) (tRaise0 C E) := ps_raise hc tk h
theorem ps_rs1 {E : XK} {F : Str} {tM : St → Hp → XK → Prop} (hc : X.calm = true) (tk : Takes X (fun cls d _ H => E cls d H)) (h : PMk X e tM) (hM : tM = fun σ H Q => t σ H fun vs H1 => ∃ v, vs = [v] ∧ ∀ d, H1 d = none → Q (.ref C) (some d) (upd H1 d (.xd [(F, v)]))) : PS X (.Raise (some e) none pos) (tRaise1 C F E t) := by
  subst hM
  exact ps_raise hc tk h
def tKeep (K : PySem.W.Frag) (c : Value) (i j : Nat) (tb : WX → TS) : TS := fun D σ H => tb (wKeep K c i j D) D σ H
end
end L2
namespace Da
open PySem L2
section
variable {K : PySem.W.Frag} {EE : L2.St → XK} {E : XK} {io : List Addr} {σ : L2.St} {ρ ρ' : Env} {Hs H Hs1 H1 Hs' H' : Hp} {F F1 F' : Nat → List Addr} {v : V} {s : S} {d : D} {te ta tb : TE} {m ma mb : ME} {tc : TT} {mc : MT} {t u : TS} {mt mu : MS}
/-! ### methods -/
def mMeth (C : Addr) (mn : Str) (n : Nat) (mf : MF) (dvs : List V) (ma : ME) (mr : MA) : ME := fun ρ Q Qx => mV ma ρ (fun x ρ1 => match x with
  | .ob C' ns es => C' = C ∧ mn ∉ ns ∧ mVA mr ρ1 (fun ds ρ2 => (ds ++ dvs.map D.raw).length + 1 = n ∧ mf (.ob C' ns es :: (ds ++ dvs.map D.raw)) (fun s => Q s ρ2) (fun _ => False)) Qx
  | _ => False) Qx
def mMethX (C : Addr) (mn : Str) (n : Nat) (mf : MF) (dvs : List V) (ma : ME) (mr : MA) : ME := fun ρ Q Qx => mV ma ρ (fun x ρ1 => match x with
  | .ob C' ns es => C' = C ∧ mn ∉ ns ∧ mVA mr ρ1 (fun ds ρ2 => (ds ++ dvs.map D.raw).length + 1 = n ∧ mf (.ob C' ns es :: (ds ++ dvs.map D.raw)) (fun s => Q s ρ2) (fun x => Qx x ρ2)) Qx
  | _ => False) Qx
instance deMeth {C : Addr} {mn : Str} {n : Nat} {mf : MF} {dvs : List V} {tr : TA} {mr : MA} [i : DE K EE ta ma] [j : DA K EE tr mr] : DE K EE (tMeth C mn (spP K n mf) dvs L2.E0 ta tr) (mMeth C mn n mf dvs ma mr) := ⟨fun z h k kx =>
  DE.runV (te := ta) (m := ma) z h (fun v d ρ1 H1 p1 h1 => by
    obtain ⟨Hs1, F1, z1, q1, e1⟩ := p1
    split at h1
    · obtain ⟨rfl, hn, h1⟩ := h1
      cases q1 with
      | ob ha l q =>
        refine ⟨_, _, _, rfl, z1.le _ _ ha, lookup_none hn, DA.runV (ta := tr) (m := mr) z1 h1 (fun vs ds ρ2 H2 p2 h2 => ?_) (fun x cls od ρ' H' p => kx x cls od ρ' H' (p.trans e1))⟩
        obtain ⟨Hs2, F2, z2, q2, e2⟩ := p2
        have q3 := q2.app (DnA.raws (K := K) (H := Hs2) dvs)
        have q4 : DnA K Hs2 _ (.ob _ _ _ :: _) := .cons ((Dn.ob ha l q).mono e2.tr.sh) q3
        exact ⟨by rw [q4.len]; exact h2.1, Hs2, _, _, _, z2.le, q4, h2.2, fun v s H' p q => k v s ρ2 H' ((p.po z2).trans (e1.trans e2)) q, fun x cls od H' p q => q.elim⟩
    · exact h1.elim) kx⟩
instance (priority := low) deMethX {C : Addr} {mn : Str} {n : Nat} {mf : MF} {dvs : List V} {tr : TA} {mr : MA} [i : DE K (fun _ => E) ta ma] [j : DA K (fun _ => E) tr mr] : DE K (fun _ => E) (tMeth C mn (spP K n mf) dvs E ta tr) (mMethX C mn n mf dvs ma mr) := ⟨fun z h k kx =>
  DE.runV (EE := fun _ => E) (te := ta) (m := ma) z h (fun v d ρ1 H1 p1 h1 => by
    obtain ⟨Hs1, F1, z1, q1, e1⟩ := p1
    split at h1
    · obtain ⟨rfl, hn, h1⟩ := h1
      cases q1 with
      | ob ha l q =>
        refine ⟨_, _, _, rfl, z1.le _ _ ha, lookup_none hn, DA.runV (EE := fun _ => E) (ta := tr) (m := mr) z1 h1 (fun vs ds ρ2 H2 p2 h2 => ?_) (fun x cls od ρ' H' p => kx x cls od ρ' H' (p.trans e1))⟩
        obtain ⟨Hs2, F2, z2, q2, e2⟩ := p2
        have q3 := q2.app (DnA.raws (K := K) (H := Hs2) dvs)
        have q4 : DnA K Hs2 _ (.ob _ _ _ :: _) := .cons ((Dn.ob ha l q).mono e2.tr.sh) q3
        exact ⟨by rw [q4.len]; exact h2.1, Hs2, _, _, _, z2.le, q4, h2.2, fun v s H' p q => k v s ρ2 H' ((p.po z2).trans (e1.trans e2)) q, fun x cls od H' p q => kx x cls od ρ2 H' ((p.po z2).trans (e1.trans e2)) q⟩
    · exact h1.elim) kx⟩
instance deMethSD {C : Addr} {mn : Str} {n : Nat} {mf : MF} {dvs : List V} {tr : TA} {mr : MA} [i : DE K EE ta ma] [j : DA K EE tr mr] : DE K EE (tMethSD C mn (spP K n mf) dvs EE ta tr) (mMethX C mn n mf dvs ma mr) := ⟨fun z h k kx =>
  DE.runV (te := ta) (m := ma) z h (fun v d ρ1 H1 p1 h1 => by
    obtain ⟨Hs1, F1, z1, q1, e1⟩ := p1
    split at h1
    · obtain ⟨rfl, hn, h1⟩ := h1
      cases q1 with
      | ob ha l q =>
        refine ⟨_, _, _, rfl, z1.le _ _ ha, lookup_none hn, DA.runV (ta := tr) (m := mr) z1 h1 (fun vs ds ρ2 H2 p2 h2 => ?_) (fun x cls od ρ' H' p => kx x cls od ρ' H' (p.trans e1))⟩
        obtain ⟨Hs2, F2, z2, q2, e2⟩ := p2
        have q3 := q2.app (DnA.raws (K := K) (H := Hs2) dvs)
        have q4 : DnA K Hs2 _ (.ob _ _ _ :: _) := .cons ((Dn.ob ha l q).mono e2.tr.sh) q3
        exact ⟨by rw [q4.len]; exact h2.1, Hs2, _, _, _, z2.le, q4, h2.2, fun v s H' p q => k v s ρ2 H' ((p.po z2).trans (e1.trans e2)) q, fun x cls od H' p q => kx x cls od ρ2 H' ((p.po z2).trans (e1.trans e2)) q⟩
    · exact h1.elim) kx⟩
/-! ### a new instance of a class whose __init__ sets its fields -/
abbrev MK := List D → (D → Prop) → (D → Prop) → Prop
def PoM (K : PySem.W.Frag) (x C dx : Addr) (Hs H : Hp) (ob : D) (H' : Hp) : Prop := ∃ Hs' ns vs ds, ob = .ob C ns ds ∧ Same Hs' H' ∧ H' x = some (.ins C dx (ns.zip vs)) ∧ Hs' x = none ∧ ns.length = vs.length ∧ DnA K Hs' vs ds ∧ Tr (fun a => a = x) Hs H Hs' H'
def spM (K : PySem.W.Frag) (C : Addr) (n : Nat) (mf : MK) : Sp := fun vs H Q E => vs.length = n + 1 ∧ ∃ x dx vr Hs ds Qd Qx, vs = .ref x :: vr ∧ H x = some (.ins C dx []) ∧ Hs x = none ∧ Same Hs H ∧ DnA K Hs vr ds ∧ mf ds Qd Qx ∧
  (∀ ob H', PoM K x C dx Hs H ob H' → Qd ob → Q .non H') ∧ ∀ e cls od H', PoPx K Hs H e cls od H' → Qx e → E cls od H'
theorem make0 {C : Addr} {n : Nat} {mf : MK} {vs : List V} {ds : List D} {Qd : D → Prop} {Qx : D → Prop} {Qh : VK} {x dx : Addr} (z : St K io σ ρ Hs H F) (q : DnA K Hs vs ds) (hl : ds.length = n) (h : mf ds Qd Qx) (nx : H x = none) (nd : H dx = none) (ne : dx ≠ x)
    (k : ∀ ob H', Po K io σ F Hs H (.ref x) (.sh ob) ρ H' → Qd ob → Qh (.ref x) H') (kx : ∀ e cls od H', PoX K io σ F Hs H e cls od ρ H' → Qx e → E cls od H') :
    spM K C n mf (.ref x :: vs) (upd (upd H dx (.own x)) x (.ins C dx [])) (fun v H2 => v = .non ∧ Qh (.ref x) H2) E := by
  obtain ⟨z1, e1⟩ := z.laid (o := .own x) nd
  have nx1 : upd H dx (.own x) x = none := by
    rw [upd_ne (Ne.symm ne)]
    exact nx
  obtain ⟨z2, e2⟩ := z1.laid (o := .ins C dx []) nx1
  have e12 := e1.trans e2
  refine ⟨by rw [List.length_cons, q.len, hl], x, dx, vs, Hs, ds, Qd, Qx, rfl, upd_same, z.le0 nx, z2.le, q, h, fun ob H' p qd => ⟨rfl, k ob H' ?_ qd⟩, fun e cls od H' p qe => kx e cls od H' ((p.po z2).trans e12) qe⟩
  obtain ⟨Hs', ns, us, es, rfl, le, hx, hs, lz, qs, tr⟩ := p
  have hne : ∀ a, FP F a → a ≠ x := fun a r e => z.new nx (e ▸ r)
  have up : Same Hs' (upd Hs' x (.ins C dx (ns.zip us))) := same_new hs
  have le2 : Same (upd Hs' x (.ins C dx (ns.zip us))) H' := fun a u hu => by
    by_cases r : a = x
    · subst r
      rw [upd_same] at hu
      rw [hx, ← hu]
    · rw [upd_ne r] at hu
      exact le a u hu
  refine ⟨upd Hs' x (.ins C dx (ns.zip us)), F, [], z2.keep (tr.sh.trans up) le2 fun a r => ?_, .sh (.ob upd_same lz (qs.mono up)), fun _ r => (nomatch r), fun _ r => (nomatch r), ⟨fun a r => .inl r, tr.sh.trans up, fun a o ha r => ?_, fun a o ha r hn => ?_⟩⟩
  · obtain ⟨⟨o, ho⟩, hn⟩ := z2.has r
    have nex := hne a r
    refine ⟨(tr.fr a o ho nex).trans ho.symm, ?_⟩
    rw [upd_ne nex]
    exact tr.ns a o ho nex hn
  · exact tr.fr a o (e12.tr.fr a o ha r) (ne_of_none ha nx)
  · have nex := ne_of_none ha nx
    rw [upd_ne nex]
    exact tr.ns a o (e12.tr.fr a o ha r) nex hn
def mMake (n : Nat) (mf : MK) (ma : MA) : ME := fun ρ Q Qx => mVA ma ρ (fun ds ρ1 => ds.length = n ∧ mf ds (fun ob => Q (.sh ob) ρ1) (fun _ => False)) Qx
def mMakeX (n : Nat) (mf : MK) (ma : MA) : ME := fun ρ Q Qx => mVA ma ρ (fun ds ρ1 => ds.length = n ∧ mf ds (fun ob => Q (.sh ob) ρ1) (fun x => Qx x ρ1)) Qx
instance deMake {C : Addr} {n : Nat} {mf : MK} {ta : TA} {ma : MA} [DA K EE ta ma] : DE K EE (tMake C (spM K C n mf) [] L2.E0 ta) (mMake n mf ma) := ⟨fun z h k kx =>
  DA.runV (ta := ta) (m := ma) z h (fun vs ds ρ1 H1 p1 h1 => by
    obtain ⟨Hs1, F1, z1, q1, e1⟩ := p1
    intro x dx nx nd ne
    rw [List.append_nil]
    exact make0 z1 q1 h1.1 h1.2 nx nd ne (fun ob H' p q => k _ _ ρ1 H' (p.trans e1) q) (fun e cls od H' p q => q.elim)) kx⟩
instance (priority := low) deMakeX {C : Addr} {n : Nat} {mf : MK} {ta : TA} {ma : MA} [DA K (fun _ => E) ta ma] : DE K (fun _ => E) (tMake C (spM K C n mf) [] E ta) (mMakeX n mf ma) := ⟨fun z h k kx =>
  DA.runV (EE := fun _ => E) (ta := ta) (m := ma) z h (fun vs ds ρ1 H1 p1 h1 => by
    obtain ⟨Hs1, F1, z1, q1, e1⟩ := p1
    intro x dx nx nd ne
    rw [List.append_nil]
    exact make0 z1 q1 h1.1 h1.2 nx nd ne (fun ob H' p q => k _ _ ρ1 H' (p.trans e1) q) (fun e cls od H' p q => kx e cls od ρ1 H' (p.trans e1) q)) kx⟩
instance deMakeSD {C : Addr} {n : Nat} {mf : MK} {ta : TA} {ma : MA} [DA K EE ta ma] : DE K EE (tMakeSD C (spM K C n mf) [] EE ta) (mMakeX n mf ma) := ⟨fun {io σ ρ Hs H F Q Qx Qh} z h k kx =>
  DA.runV (ta := ta) (m := ma) z h (fun vs ds ρ1 H1 p1 h1 => by
    obtain ⟨Hs1, F1, z1, q1, e1⟩ := p1
    intro x dx nx nd ne
    rw [List.append_nil]
    exact make0 z1 q1 h1.1 h1.2 nx nd ne (fun ob H' p q => k _ _ ρ1 H' (p.trans e1) q) (fun e cls od H' p q => kx e cls od ρ1 H' (p.trans e1) q)) kx⟩
/-- an __init__ that ends with self.f = e -/
theorem body_init {N : List Str} {vr : List V} {ds : List D} {x dx C : Addr} {f : Str} {Qd : D → Prop} {Qx : D → Prop} {Q : VK} [i : DS K (fun _ => E) t mt] [j : DE K (fun _ => E) te m] (le : Same Hs H) (q : DnA K Hs vr ds) (hx : H x = some (.ins C dx [])) (hs : Hs x = none)
    (cl : Cls K C) (na : NoAttr K C f) (h : mt { nx := fun ρ => ρ[0]? = some (some (.sh (.raw (.ref x)))) ∧ mE m ρ (fun s _ => Qd (.ob C [f] [s.fz])) (fun e _ => Qx e), rt := fun _ _ => False, xk := fun e _ => Qx e } (rho N.length (.raw (.ref x) :: ds)))
    (k : ∀ ob H', PoM K x C dx Hs H ob H' → Qd ob → Q .non H') (kx : ∀ e cls od H', PoPx K Hs H e cls od H' → Qx e → E cls od H') :
    tSeq t (sFld K (tVar 0) te f) { nx := fun _ H' => Q .non H', rt := Q } (start N (.ref x :: vr)) H := by
  have q0 : DnA K Hs (.ref x :: vr) (.raw (.ref x) :: ds) := .cons (.raw _) q
  refine i.run (St.start (N := N) le q0) h ⟨fun σ1 ρ1 H1 p1 h1 => ?_, fun _ _ _ _ _ _ z => z.elim, fun _ _ _ _ z => z, fun _ _ _ _ z => z, fun σ' e cls od ρ' H' p r => kx e cls od H' ?_ r⟩
  · obtain ⟨Hs1, F1, z1, e1⟩ := p1
    obtain ⟨h0, h1⟩ := h1
    obtain ⟨v0, hv0, o0⟩ := z1.own 0 _ h0
    have r0 : Dn K Hs1 v0 (.raw (.ref x)) := o0.inv
    cases r0
    refine (deE (EE := fun _ => E) (te := te) (m := m)).run z1 h1 (fun v s ρ2 H2 p2 h2 => ?_) (fun e cls od ρ' H' p r => kx e cls od H' ?_ r)
    · obtain ⟨Hs2, F2, z2, q2, e2⟩ := p2.fz
      have e12 := e1.trans e2
      have hx2 := e12.tr.fr x _ hx FP0
      have hs2 := e12.tr.ns x _ hx FP0 hs
      refine ⟨.ref x, hv0, x, C, dx, [], rfl, hx2, cl, na, by decide, k _ _ ⟨Hs2, [f], [v], [s.fz], rfl, fun a u hu => ?_, upd_same, hs2, rfl, .cons q2 .nil, e12.tr.sh, fun a u hu ne => ?_, fun a u hu ne hn => e12.tr.ns a u hu FP0 hn⟩ h2⟩
      · rw [upd_ne fun r => by rw [r, hs2] at hu; cases hu]
        exact z2.le a u hu
      · rw [upd_ne ne]
        exact e12.tr.fr a u hu FP0
    · obtain ⟨Hs2, F2, z2, q2, e2⟩ := p
      exact ⟨Hs2, z2.le, q2, (e1.trans e2).tr.off⟩
  · obtain ⟨Hs2, F2, z2, q2, e2⟩ := p
    exact ⟨Hs2, z2.le, q2, e2.tr.off⟩
/-! ### raise, try -/
def mRaise0 (C : Addr) : MS := fun Dd ρ => Dd.xk (.exc C [] []) ρ
instance dsRaise0 {C : Addr} : DS K (fun _ => E) (tRaise0 C E) (mRaise0 C) := ⟨fun {io σ ρ Hs H F Dd Dh} z h l => l.xk σ _ _ _ ρ H ⟨Hs, F, z, ⟨C, [], [], [], rfl, rfl, ⟨rfl, rfl⟩, .nil⟩, .refl⟩ h⟩
def mRaise1 (C : Addr) (f : Str) (ma : MA) : MS := fun Dd ρ => mVA ma ρ (fun ds ρ1 => match ds with
  | [d] => Dd.xk (.exc C [f] [d]) ρ1
  | _ => False) Dd.xk
instance dsRaise1 {C : Addr} {f : Str} {ta : TA} {ma : MA} [DA K (fun _ => E) ta ma] : DS K (fun _ => E) (tRaise1 C f E ta) (mRaise1 C f ma) := ⟨fun {io σ ρ Hs H F Dd Dh} z h l =>
  DA.runV (EE := fun _ => E) (ta := ta) (m := ma) z h (fun vs ds ρ1 H1 p1 h1 => by
    obtain ⟨Hs1, F1, z1, q1, e1⟩ := p1
    split at h1
    · rename_i d
      obtain ⟨v, rfl, qv⟩ := dn1 q1
      refine ⟨v, rfl, fun dd nd => l.xk σ (.exc C [f] [d]) (.ref C) (some dd) ρ1 _ ?_ h1⟩
      obtain ⟨z2, e2⟩ := z1.laidS (o := .xd [(f, v)]) nd
      exact ⟨_, F1, z2, ⟨C, [f], [v], [d], rfl, rfl, ⟨upd_same, rfl⟩, .cons (qv.mono (same_new (z1.le0 nd))) .nil⟩, e1.trans e2⟩
    · exact h1.elim) (fun x cls od ρ' H' p q => l.xk σ x cls od ρ' H' p q)⟩
def mKeep (K : PySem.W.Frag) (c : Value) (i j : Nat) (mb : MS) : MS := fun Dd ρ => mb { Dd with xk := fun x ρ' => match x with
  | .exc C _ _ => PySem.W.exmOne K (.ref C) c = some true ∧ Dd.nx (((ρ'.set i (some (.sh x))).set j (some (.sh x))).set i none)
  | _ => False } ρ
theorem dsKeep_0 {c : Value} {i j : Nat} {tb : WX → TS} {mb : MS} [b : ∀ W, DS K (WE W) (tb W) mb] : DS K EE (tKeep K c i j tb) (mKeep K c i j mb) := ⟨fun {io σ ρ Hs H F Dd Dh} z h l => by
  refine (b (wKeep K c i j Dh)).run z h ⟨l.nx, l.rt, l.bk, l.ct, fun σ1 x cls od ρ1 H1 p1 h1 => ?_⟩
  obtain ⟨Hs1, F1, z1, ⟨C, ns, vs, ds, rfl, rfl, xf, q⟩, e1⟩ := p1
  refine ⟨h1.1, fun a na => ?_⟩
  obtain ⟨z2, e2⟩ := z1.laidS (o := exv a (.ref C) od) na
  have up : Same Hs1 (upd Hs1 a (exv a (.ref C) od)) := same_new (z1.le0 na)
  have dn : Dn K (upd Hs1 a (exv a (.ref C) od)) (.ref a) (.exc C ns ds) := .exc upd_same (xf.mono up) (q.mono up)
  obtain ⟨F3, z3, l3⟩ := z2.put (i := i) (fv := []) (.sh dn) fun _ m => (nomatch m)
  obtain ⟨F4, z4, l4⟩ := z3.put (i := j) (fv := []) (.sh dn) fun _ m => (nomatch m)
  obtain ⟨F5, z5, l5⟩ := z4.drop i none
  refine l.nx _ _ _ ⟨_, F5, z5, (e1.trans e2).less fun b q => ?_⟩ h1.2
  rcases l4 b (l5 b q) with r | r
  · exact nomatch r
  · rcases l3 b r with r | r
    · exact nomatch r
    · exact r⟩
instance dsKeep {K' : PySem.W.Frag} [hK : KEq K' K] {c : Value} {i j : Nat} {tb : WX → TS} {mb : MS} [b : ∀ W, DS K (WE W) (tb W) mb] : DS K EE (tKeep K' c i j tb) (mKeep K c i j mb) := by
  cases hK.e
  exact dsKeep_0
end
end Da
namespace Da
open PySem L2
mutual
/-- nothing in it is a list that was handed in -/
def S.nio : S → Prop
  | .sh _ => True
  | .ow ss => nios ss
  | .io _ _ => False
def nios : List S → Prop
  | [] => True
  | s :: ss => s.nio ∧ nios ss
end
mutual
theorem S.nio_of : ∀ {s : S}, s.told → s.nio
  | .sh _, _ => trivial
  | .ow ss, h => nios_of h
  | .io _ _, h => h
theorem nios_of : ∀ {ss : List S}, tolds ss → nios ss
  | [], _ => trivial
  | _ :: _, h => ⟨S.nio_of h.1, nios_of h.2⟩
end
theorem nios_shs : ∀ ds : List D, nios (shs ds)
  | [] => trivial
  | _ :: ds => ⟨trivial, nios_shs ds⟩
section
variable {K : PySem.W.Frag} {EE : L2.St → XK} {E : XK} {io : List Addr} {σ : L2.St} {ρ ρ' : Env} {Hs H Hs1 H1 Hs' H' : Hp} {F F1 F' : Nat → List Addr} {v : V} {s : S} {d : D} {te ta tb : TE} {m ma mb : ME} {tc : TT} {mc : MT} {t u : TS} {mt mu : MS}
mutual
theorem Ow.noio : ∀ {v : V} {s : S} {f : List Addr}, Ow K io Hs H v s f → s.nio → Ow K [] Hs H v s f
  | _, _, _, .sh h, _ => .sh h
  | _, _, _, .ow h n t q, c => .ow h n (OwA.noio t c) q
  | _, _, _, .io _ _ _ _ _, c => c.elim
theorem OwA.noio : ∀ {vs : List V} {ss : List S} {f : List Addr}, OwA K io Hs H vs ss f → nios ss → OwA K [] Hs H vs ss f
  | _, _, _, .nil, _ => .nil
  | _, _, _, .cons h t q, c => .cons (Ow.noio h c.1) (OwA.noio t c.2) q
end
theorem OwA.unsh : ∀ {vs : List V} {ds : List D} {f : List Addr}, OwA K io Hs H vs (Da.shs ds) f → f = [] ∧ DnA K Hs vs ds
  | _, [], _, h => by
    cases h
    exact ⟨rfl, .nil⟩
  | _, d :: ds, _, h => by
    cases h with
    | cons a b _ =>
      cases a with
      | sh q =>
        obtain ⟨rfl, r⟩ := OwA.unsh b
        exact ⟨rfl, .cons q r⟩
/-! ### a def that is handed a list to change -/
abbrev MFI := List D → List D → (S → List D → Prop) → Prop
def PoR (K : PySem.W.Frag) (p : Addr) (Hs H : Hp) (v : V) (s : S) (es' : List D) (H' : Hp) : Prop :=
  ∃ Hs' vs' fv, Same Hs' H' ∧ H' p = some (.lst vs') ∧ Hs' p = none ∧ DnA K Hs' vs' es' ∧ Ow K [] Hs' H' v s fv ∧ p ∉ fv ∧ (∀ a ∈ fv, H a = none) ∧ Tr (fun a => a = p) Hs H Hs' H'
/-- the first argument is the list; es what stands in it -/
def spI (K : PySem.W.Frag) (n : Nat) (mf : MFI) : Sp := fun vs H Q _ => vs.length = n + 1 ∧ ∃ p vr vs0 Hs es ds Qd, vs = .ref p :: vr ∧ H p = some (.lst vs0) ∧ Hs p = none ∧ DnA K Hs vs0 es ∧ Same Hs H ∧ DnA K Hs vr ds ∧ mf es ds Qd ∧ ∀ v s es' H', PoR K p Hs H v s es' H' → Qd s es' → Q v H'
theorem PoR.po {i : Nat} {p : Addr} {c : List S → S} {es' : List D} (z : St K io σ ρ Hs H F) (hv : σ[i]? = some (some (.ref p))) (hF : F i = [p])
    (mk : ∀ {Hs' H' : Hp} {vs' : List V} {ss' : List S} {f' : List Addr}, H' p = some (.lst vs') → Hs' p = none → OwA K io Hs' H' vs' ss' f' → p ∉ f' → Ow K io Hs' H' (.ref p) (c ss') (p :: f'))
    (r : PoR K p Hs H v s es' H') : Po K io σ F Hs H v s (ρ.set i (some (c (shs es')))) H' := by
  obtain ⟨Hs', vs', fv, le, hp, hs, q, o, np, nw, tr⟩ := r
  have hi : i < σ.length := (List.getElem?_eq_some_iff.mp hv).1
  have pF : FP F p := ⟨i, by rw [hF]; exact List.mem_singleton_self p⟩
  have z' : St K io σ (ρ.set i (some (c (shs es')))) Hs' H' F := by
    refine ⟨le, by simp [z.len], fun j t h => ?_, fun j a m => ?_, z.dis⟩
    · by_cases e : j = i
      · subst e
        rw [List.getElem?_set_self (by rw [z.len]; exact hi)] at h
        cases h
        refine ⟨_, hv, ?_⟩
        rw [hF]
        exact mk hp hs (OwA.shs q) (fun m => (nomatch m))
      · rw [List.getElem?_set_ne (Ne.symm e)] at h
        obtain ⟨w, h1, h2⟩ := z.own j t h
        refine ⟨w, h1, h2.keep tr.sh fun a m => ?_⟩
        obtain ⟨⟨u, hu⟩, hn⟩ := h2.has a m
        have ne : a ≠ p := fun r => e (z.dis j i a m (by rw [hF, r]; exact List.mem_singleton_self p))
        exact ⟨(tr.fr a u hu ne).trans hu.symm, tr.ns a u hu ne hn⟩
    · by_cases e : j = i
      · subst e
        exact ⟨_, List.getElem?_set_self (by rw [z.len]; exact hi)⟩
      · obtain ⟨t, h⟩ := z.non j a m
        exact ⟨t, by rw [List.getElem?_set_ne (Ne.symm e)]; exact h⟩
  refine ⟨Hs', F, fv, z', o.io0, fun a m => z.new (nw a m), fun a m => .inr (nw a m), fun a h => .inl h, tr.sh, fun a u h n => tr.fr a u h fun r => n (r ▸ pF), fun a u h n => tr.ns a u h fun r => n (r ▸ pF)⟩
/-- f(x, ..), the list in the slot i -/
def mCallI (i n : Nat) (mf : MFI) (mr : MA) : ME := fun ρ Q Qx => (lsO ρ[i]?).isSome = true ∧ mVA mr ρ (fun ds ρ1 => ∃ es c, lsO ρ1[i]? = some (shs es, c) ∧ ds.length = n ∧ mf es ds fun s es' => Q s (ρ1.set i (some (c (shs es'))))) Qx
instance deCallI {i n : Nat} {mf : MFI} {tr : TA} {mr : MA} [DA K EE tr mr] : DE K EE (tCall (spI K n mf) [] L2.E0 (tCons (tVar i) tr)) (mCallI i n mf mr) := ⟨fun {io σ ρ Hs H F Q Qx Qh} z h k kx => by
  obtain ⟨h0, h⟩ := h
  obtain ⟨⟨ss0, c0⟩, h0⟩ := Option.isSome_iff_exists.mp h0
  obtain ⟨p, _, _, hv, _⟩ := z.lsO h0
  refine ⟨.ref p, hv, DA.runV (ta := tr) (m := mr) z h (fun vs ds ρ1 H1 p1 h1 => ?_) kx⟩
  obtain ⟨Hs1, F1, z1, q1, e1⟩ := p1
  obtain ⟨es, c, hl, hn, h1⟩ := h1
  obtain ⟨p', vs1, f, hv1, hp1, hs1, oa, np, hF, mk⟩ := z1.lsO hl
  have ep : p' = p := by
    rw [hv] at hv1
    cases hv1
    rfl
  subst ep
  obtain ⟨rfl, qs⟩ := oa.unsh
  rw [List.append_nil]
  exact ⟨by rw [List.length_cons, q1.len, hn], p', vs, vs1, Hs1, es, ds, _, rfl, hp1, hs1, qs, z1.le, q1, h1, fun v s es' H' r q => k v s _ H' ((PoR.po z1 hv1 hF mk r).trans e1) q⟩⟩
/-- f(e, ..), the list made on the way -/
def mCallJ (n : Nat) (mf : MFI) (me : ME) (mr : MA) : ME := fun ρ Q Qx => me ρ (fun s ρ1 => ∃ es, s = .ow (shs es) ∧ mVA mr ρ1 (fun ds ρ2 => ds.length = n ∧ mf es ds fun s _ => Q s ρ2) Qx) Qx
instance (priority := low) deCallJ {n : Nat} {mf : MFI} {tr : TA} {mr : MA} [i : DE K EE te m] [DA K EE tr mr] : DE K EE (tCall (spI K n mf) [] L2.E0 (tCons te tr)) (mCallJ n mf m mr) := ⟨fun {io σ ρ Hs H F Q Qx Qh} z h k kx =>
  i.run z h (fun v s ρ1 H1 p1 h1 => by
    obtain ⟨Hs1, F1, f1, z1, o1, n1, w1, e1⟩ := p1
    obtain ⟨es, rfl, h1⟩ := h1
    refine DA.runV (ta := tr) (m := mr) z1 h1 (fun vs ds ρ2 H2 p2 h2 => ?_) (fun x cls od ρ' H' p => kx x cls od ρ' H' (p.trans e1))
    obtain ⟨Hs2, F2, z2, q2, e2⟩ := p2
    have o2 := o1.stay n1 e2
    cases o2 with
    | ow hp hs oa np =>
      rename_i p vs0 f0
      obtain ⟨rfl, qs⟩ := oa.unsh
      have pn : ¬ FP F2 p := by
        obtain ⟨⟨u, hu⟩, _⟩ := o1.has p List.mem_cons_self
        exact e2.apart hu (n1 p List.mem_cons_self)
      have pw : FP F p ∨ H p = none := w1 p List.mem_cons_self
      rw [List.append_nil]
      refine ⟨by rw [List.length_cons, q2.len, h2.1], p, vs, vs0, Hs2, es, ds, _, rfl, hp, hs, qs, z2.le, q2, h2.2, fun v s es' H' r q => k v s ρ2 H' ?_ q⟩
      obtain ⟨Hs3, vs3, fv, le, hp3, hs3, q3, o3, np3, nw3, tr3⟩ := r
      have e12 := e1.trans e2
      have z3 : St K io σ ρ2 Hs3 H' F2 := z2.keep tr3.sh le fun a q => by
        obtain ⟨⟨u, hu⟩, hn⟩ := z2.has q
        have ne : a ≠ p := fun r => pn (r ▸ q)
        exact ⟨(tr3.fr a u hu ne).trans hu.symm, tr3.ns a u hu ne hn⟩
      have key : ∀ {a : Addr} {u : HO}, H a = some u → ¬ FP F a → a ≠ p := fun {a u} h n r => by
        rcases pw with q | q
        · exact n (r ▸ q)
        · rw [r, q] at h
          cases h
      refine ⟨Hs3, F2, fv, z3, o3.io0, fun a m => z2.new (nw3 a m), fun a m => e12.tr.back (nw3 a m), e12.fp, e12.tr.sh.trans tr3.sh, fun a u h n => tr3.fr a u (e12.tr.fr a u h n) (key h n), fun a u h n r => tr3.ns a u (e12.tr.fr a u h n) (key h n) (e12.tr.ns a u h n r)⟩) kx⟩
def rhoI (n : Nat) (es ds : List D) : Env := some (.io 0 (shs es)) :: (ds.map (fun d => some (.sh d)) ++ List.replicate (n - (ds.length + 1)) none)
theorem St.startI {N : List Str} {vr : List V} {es ds : List D} {p : Addr} {vs0 : List V} (le : Same Hs H) (hp : H p = some (.lst vs0)) (hs : Hs p = none) (q0 : DnA K Hs vs0 es) (q : DnA K Hs vr ds) : St K [p] (L2.start N (.ref p :: vr)) (rhoI N.length es ds) Hs H (fun i => if i = 0 then [p] else []) := by
  refine ⟨le, ?_, fun i s h => ?_, fun i a m => ?_, fun i j a m1 m2 => ?_⟩
  · unfold rhoI L2.start
    simp [q.len]
  · cases i with
    | zero =>
      cases (Option.some.inj (Option.some.inj h))
      exact ⟨.ref p, rfl, .io rfl hp hs (OwA.shs q0) (fun m => (nomatch m))⟩
    | succ i =>
      have h : (ds.map (fun d => some (S.sh d)) ++ List.replicate (N.length - (ds.length + 1)) none)[i]? = some (some s) := h
      by_cases hi : i < ds.length
      · rw [List.getElem?_append_left (by simpa using hi), List.getElem?_map] at h
        cases e : ds[i]? with
        | none => rw [e] at h; cases h
        | some d =>
          rw [e] at h
          cases h
          obtain ⟨v, hv, qv⟩ := q.get e
          refine ⟨v, ?_, .sh qv⟩
          unfold L2.start
          show (vr.map some ++ _)[i]? = _
          rw [List.getElem?_append_left (by simpa [q.len] using hi), List.getElem?_map, hv]
          rfl
      · rw [List.getElem?_append_right (by simpa using hi), List.getElem?_replicate] at h
        split at h <;> cases h
  · have m : a ∈ (if i = 0 then [p] else []) := m
    by_cases e : i = 0
    · subst e
      exact ⟨_, rfl⟩
    · rw [if_neg e] at m
      exact nomatch m
  · have m1 : a ∈ (if i = 0 then [p] else []) := m1
    have m2 : a ∈ (if j = 0 then [p] else []) := m2
    by_cases e : i = 0 <;> by_cases e' : j = 0
    · rw [e, e']
    · rw [if_neg e'] at m2
      exact nomatch m2
    · rw [if_neg e] at m1
      exact nomatch m1
    · rw [if_neg e] at m1
      exact nomatch m1
theorem bodyI {N : List Str} {vr : List V} {es ds : List D} {p : Addr} {vs0 : List V} {Qd : S → List D → Prop} {Q : VK} [i : DS K (fun _ => L2.E0) t mt] (le : Same Hs H) (hp : H p = some (.lst vs0)) (hs : Hs p = none) (q0 : DnA K Hs vs0 es) (q : DnA K Hs vr ds)
    (h : mt { nx := fun _ => False, rt := fun s ρ => s.nio ∧ ∃ es', ρ[0]? = some (some (.io 0 (shs es'))) ∧ Qd s es' } (rhoI N.length es ds)) (k : ∀ v s es' H', PoR K p Hs H v s es' H' → Qd s es' → Q v H') :
    t { nx := fun _ H' => Q .non H', rt := Q } (start N (.ref p :: vr)) H := by
  have fp : ∀ {a : Addr}, FP (fun i => if i = 0 then [p] else []) a → a = p := fun {a} ⟨i, m⟩ => by
    have m : a ∈ (if i = 0 then [p] else []) := m
    split at m
    · exact List.mem_singleton.mp m
    · exact nomatch m
  refine i.run (St.startI (N := N) le hp hs q0 q) h ⟨fun _ _ _ _ z => z.elim, fun σ' v s ρ' H' po r => ?_, fun _ _ _ _ z => z, fun _ _ _ _ z => z, fun _ _ _ _ _ _ _ z => z⟩
  obtain ⟨Hs', F', fv, z, o, n, w, e⟩ := po
  obtain ⟨ni, es', h0, r⟩ := r
  obtain ⟨v0, hv0, o0⟩ := z.own 0 _ h0
  generalize hF : F' 0 = f0 at o0
  cases o0 with
  | io hk hp' hs' oa np =>
    cases (Option.some.inj hk)
    obtain ⟨rfl, qs⟩ := oa.unsh
    have pF : FP F' p := ⟨0, by rw [hF]; exact List.mem_cons_self⟩
    refine k v s es' H' ⟨Hs', _, fv, z.le, hp', hs', qs, o.noio ni, fun m => n p m pF, fun a m => ?_, e.tr.sh, fun a u hu ne => e.tr.fr a u hu fun q => ne (fp q), fun a u hu ne => e.tr.ns a u hu fun q => ne (fp q)⟩ r
    rcases w a m with q | q
    · have := fp q
      subst this
      exact absurd pF (n a m)
    · exact q
end
section
open PySem.Spec PyProof.Rows
variable {P : Program} {w : World} {K : PySem.W.Frag} {mg : Str → Option Value} {base : Heap}
theorem fn_okI {x qual : Str} {st : Stmt} {f : Addr} {fd : FuncData} {N ps : List Str} {k n : Nat} {mf : MFI} (F : Fun K x qual st f fd) (S : FnScope N ps (defScope st)) (hn : n + 1 = ps.length)
    (hbody : ∀ (cdv : Value) (A : Around) (outer : List PySem.Env) (s : Shared) (H : Hp) (E : XK), Room k (A.deeper (envOfC qual (defScope st) s.heap.objs.size f cdv)) →
      ∃ t mt, PSs (cxOf CX0 P w K mg base N qual (defScope st) f cdv A outer s H E).nox (defBody st) t ∧ DS K (fun _ => L2.E0) t mt ∧ ∀ es ds Qd, ds.length = n → mf es ds Qd → mt { nx := fun _ => False, rt := fun s ρ => s.nio ∧ ∃ es', ρ[0]? = some (some (.io 0 (shs es'))) ∧ Qd s es' } (rhoI N.length es ds)) :
    FnOk P w K mg base CX0 (k + 1) f fd ps (spI K n mf) := by
  refine F.ok S (fun vs H Q E h => h.1.trans hn) (fun cdv A outer s H vs Q E hr h => ?_)
  obtain ⟨hl, p, vr, vs0, Hs, es, ds, Qd, rfl, hp, hs, q0, le, q, hm, kk⟩ := h
  obtain ⟨t, mt, h1, i, h2⟩ := hbody cdv A outer s H E hr
  exact ⟨t, h1, bodyI le hp hs q0 q (h2 es ds Qd (by rw [← q.len]; simpa using hl) hm) kk⟩
end
end Da
namespace Da
open PySem L2
/-! ### a def whose arguments may be lists of the caller's own, to be read or changed: ss ahead, ss' behind -/
inductive Ar where
  | bor (i : Nat) | val (s : S)
abbrev MX := Env → (List Ar → Env → Prop) → QX → Prop
abbrev MFX := List S → (S → List S → Prop) → (D → List S → Prop) → Prop
section
variable {K : PySem.W.Frag} {EE : L2.St → XK} {E : XK} {io : List Addr} {σ : L2.St} {ρ ρ' : Env} {Hs H Hs1 H1 Hs' H' : Hp} {F F1 F' : Nat → List Addr} {v : V} {s : S} {d : D} {te ta tb : TE} {m ma mb : ME} {tc : TT} {mc : MT} {t u : TS} {mt mu : MS}
inductive ArA (K : PySem.W.Frag) (io : List Addr) (σ : L2.St) (Hs H : Hp) : List V → List Ar → List Addr → Prop
  | nil : ArA K io σ Hs H [] [] []
  | bor {v : V} {i : Nat} {vs : List V} {as : List Ar} {f : List Addr} : σ[i]? = some (some v) → ArA K io σ Hs H vs as f → ArA K io σ Hs H (v :: vs) (.bor i :: as) f
  | val {v : V} {s : S} {vs : List V} {as : List Ar} {f g : List Addr} : Ow K io Hs H v s f → ArA K io σ Hs H vs as g → (∀ a ∈ f, a ∉ g) → ArA K io σ Hs H (v :: vs) (.val s :: as) (f ++ g)
theorem ArA.has : ∀ {vs : List V} {as : List Ar} {f : List Addr}, ArA K io σ Hs H vs as f → ∀ a ∈ f, (∃ o, H a = some o) ∧ Hs a = none
  | _, _, _, .nil, _, m => nomatch m
  | _, _, _, .bor _ t, a, m => t.has a m
  | _, _, _, .val h t _, a, m => by
    rcases List.mem_append.mp m with m | m
    · exact h.has a m
    · exact t.has a m
theorem ArA.keep (e : Same Hs Hs') : ∀ {vs : List V} {as : List Ar} {f : List Addr}, ArA K io σ Hs H vs as f → (∀ a ∈ f, H' a = H a ∧ Hs' a = none) → ArA K io σ Hs' H' vs as f
  | _, _, _, .nil, _ => .nil
  | _, _, _, .bor h t, k => .bor h (t.keep e k)
  | _, _, _, .val h t d, k => .val (h.keep e fun a m => k a (List.mem_append_left _ m)) (t.keep e fun a m => k a (List.mem_append_right _ m)) d
def PoY (K : PySem.W.Frag) (io : List Addr) (σ : L2.St) (F : Nat → List Addr) (Hs H : Hp) (vs : List V) (as : List Ar) (ρ' : Env) (H' : Hp) : Prop :=
  ∃ Hs' F' fv, St K io σ ρ' Hs' H' F' ∧ ArA K io σ Hs' H' vs as fv ∧ (∀ a ∈ fv, ¬ FP F' a) ∧ (∀ a ∈ fv, FP F a ∨ H a = none) ∧ Ev F Hs H F' Hs' H'
class DX (K : PySem.W.Frag) (EE : L2.St → XK) (ta : TA) (m : outParam MX) : Prop where
  run : ∀ {io : List Addr} {σ : L2.St} {ρ : Env} {Hs H : Hp} {F : Nat → List Addr} {Q : List Ar → Env → Prop} {Qx : QX} {Qh : List V → Hp → Prop}, St K io σ ρ Hs H F → m ρ Q Qx →
    (∀ vs as ρ' H', PoY K io σ F Hs H vs as ρ' H' → Q as ρ' → Qh vs H') → (∀ x cls od ρ' H', PoX K io σ F Hs H x cls od ρ' H' → Qx x ρ' → EE σ cls od H') → ta σ H Qh
def xNil : MX := fun ρ Q _ => Q [] ρ
instance dxNil : DX K EE tNil xNil := ⟨fun {io σ ρ Hs H F Q Qx Qh} z h k _ => k [] [] ρ H ⟨Hs, F, [], z, .nil, fun _ m => (nomatch m), fun _ m => (nomatch m), .refl⟩ h⟩
def xCons (ma : ME) (mr : MX) : MX := fun ρ Q Qx => ma ρ (fun s ρ1 => mr ρ1 (fun ss ρ2 => Q (.val s :: ss) ρ2) Qx) Qx
instance (priority := low) dxCons {tr : TA} {mr : MX} [ia : DE K EE ta ma] [ir : DX K EE tr mr] : DX K EE (tCons ta tr) (xCons ma mr) := ⟨fun {io σ ρ Hs H F Q Qx Qh} z h k kx =>
  ia.run z h (fun v s ρ1 H1 p1 h1 => by
    obtain ⟨Hs1, F1, f1, z1, o1, n1, w1, e1⟩ := p1
    refine ir.run z1 h1 (fun vs ss ρ2 H2 p2 h2 => k _ _ _ _ ?_ h2) (fun x cls od ρ' H' p => kx x cls od ρ' H' (p.trans e1))
    obtain ⟨Hs2, F2, f2, z2, o2, n2, w2, e2⟩ := p2
    refine ⟨Hs2, F2, f1 ++ f2, z2, .val (o1.stay n1 e2) o2 fun a m q => ?_, fun a m => ?_, fun a m => ?_, e1.trans e2⟩
    · obtain ⟨⟨u, hu⟩, _⟩ := o1.has a m
      rcases w2 a q with r | r
      · exact n1 a m r
      · rw [hu] at r
        cases r
    · rcases List.mem_append.mp m with m | m
      · obtain ⟨⟨u, hu⟩, _⟩ := o1.has a m
        exact e2.apart hu (n1 a m)
      · exact n2 a m
    · rcases List.mem_append.mp m with m | m
      · exact w1 a m
      · rcases w2 a m with r | r
        · exact e1.fp a r
        · exact e1.tr.back r) kx⟩
def xVar (i : Nat) (mr : MX) : MX := fun ρ Q Qx => match ρ[i]? with
  | some (some (.sh d)) => mr ρ (fun as ρ1 => Q (.val (.sh d) :: as) ρ1) Qx
  | some (some _) => mr ρ (fun as ρ1 => Q (.bor i :: as) ρ1) Qx
  | _ => False
instance dxVar {i : Nat} {tr : TA} {mr : MX} [ir : DX K EE tr mr] : DX K EE (tCons (tVar i) tr) (xVar i mr) := ⟨fun {io σ ρ Hs H F Q Qx Qh} z h k kx => by
  unfold xVar at h
  split at h
  · rename_i d e
    obtain ⟨v, hv, o⟩ := z.own i _ e
    refine ⟨v, hv, ir.run z h (fun vs ss ρ2 H2 p2 h2 => k _ _ _ _ ?_ h2) kx⟩
    obtain ⟨Hs2, F2, f2, z2, o2, n2, w2, e2⟩ := p2
    exact ⟨Hs2, F2, f2, z2, .val (f := []) (.sh (o.inv.mono e2.tr.sh)) o2 (fun _ m => (nomatch m)), n2, w2, e2⟩
  · rename_i s _ e
    obtain ⟨v, hv, o⟩ := z.own i _ e
    refine ⟨v, hv, ir.run z h (fun vs ss ρ2 H2 p2 h2 => k _ _ _ _ ?_ h2) kx⟩
    obtain ⟨Hs2, F2, f2, z2, o2, n2, w2, e2⟩ := p2
    exact ⟨Hs2, F2, f2, z2, .bor hv o2, n2, w2, e2⟩
  · exact h.elim⟩
/-- what the arguments are -/
def res (ρ : Env) : List Ar → Option (List S)
  | [] => some []
  | .val s :: as => (res ρ as).map fun ss => s :: ss
  | .bor i :: as => match ρ[i]? with
    | some (some s) => (res ρ as).map fun ss => s :: ss
    | _ => none
def bors : List Ar → List Nat
  | [] => []
  | .val _ :: as => bors as
  | .bor i :: as => i :: bors as
def putB (ρ : Env) : List Ar → List S → Env
  | .val _ :: as, _ :: ss => putB ρ as ss
  | .bor i :: as, s :: ss => putB (ρ.set i (some s)) as ss
  | _, _ => ρ
def dropB (ρ : Env) : List Nat → Env
  | [] => ρ
  | i :: is => dropB (ρ.set i none) is
theorem ArA.build (z : St K io σ ρ Hs H F) : ∀ {vs : List V} {as : List Ar} {fv : List Addr} {ss : List S}, ArA K io σ Hs H vs as fv → res ρ as = some ss → nios ss → (bors as).Nodup → (∀ a ∈ fv, ¬ FP F a) → ∃ f, OwA K [] Hs H vs ss f ∧ ∀ a ∈ f, a ∈ fv ∨ ∃ j ∈ bors as, a ∈ F j
  | _, _, _, _, .nil, e, _, _, _ => by
    cases (Option.some.inj e)
    exact ⟨[], .nil, fun _ m => (nomatch m)⟩
  | _, _, _, ss, .val (f := f1) (g := g1) h t dj, e, n, nd, ap => by
    simp only [res] at e
    obtain ⟨ss1, e1, rfl⟩ := Option.map_eq_some_iff.mp e
    obtain ⟨f2, o2, l2⟩ := ArA.build z t e1 n.2 nd fun a m => ap a (List.mem_append_right _ m)
    refine ⟨_, .cons (h.noio n.1) o2 fun a m q => ?_, fun a m => ?_⟩
    · rcases l2 a q with r | ⟨j, _, r⟩
      · exact dj a m r
      · exact ap a (List.mem_append_left _ m) ⟨j, r⟩
    · rcases List.mem_append.mp m with m | m
      · exact .inl (List.mem_append_left _ m)
      · rcases l2 a m with r | r
        · exact .inl (List.mem_append_right _ r)
        · exact .inr r
  | _, _, _, ss, .bor (i := i) hv t, e, n, nd, ap => by
    simp only [res] at e
    split at e
    · rename_i s es
      obtain ⟨ss1, e1, rfl⟩ := Option.map_eq_some_iff.mp e
      obtain ⟨v', hv', o'⟩ := z.own i s es
      rw [hv] at hv'
      cases hv'
      obtain ⟨nd1, nd2⟩ := List.nodup_cons.mp nd
      obtain ⟨f2, o2, l2⟩ := ArA.build z t e1 n.2 nd2 ap
      refine ⟨_, .cons (o'.noio n.1) o2 fun a m q => ?_, fun a m => ?_⟩
      · rcases l2 a q with r | ⟨j, hj, r⟩
        · exact ap a r ⟨i, m⟩
        · exact nd1 (z.dis i j a m r ▸ hj)
      · rcases List.mem_append.mp m with m | m
        · exact .inr ⟨i, List.mem_cons_self, m⟩
        · rcases l2 a m with r | ⟨j, hj, r⟩
          · exact .inl r
          · exact .inr ⟨j, List.mem_cons_of_mem _ hj, r⟩
    · cases e
theorem St.dropB (z : St K io σ ρ Hs H F) : ∀ is : List Nat, ∃ F', St K io σ (dropB ρ is) Hs H F' ∧ (∀ a, FP F' a → FP F a) ∧ ∀ i ∈ is, ∀ a ∈ F i, ¬ FP F' a := by
  have one : ∀ {ρ : Env} {F : Nat → List Addr} (z : St K io σ ρ Hs H F) (i : Nat), ∃ F', St K io σ (ρ.set i none) Hs H F' ∧ (∀ j a, a ∈ F' j → a ∈ F j ∧ j ≠ i) ∧ (∀ j, j ≠ i → F' j = F j) := by
    intro ρ F z i
    refine ⟨fun j => if j = i then [] else F j, ⟨z.le, by simp [z.len], fun j t h => ?_, fun j a m => ?_, fun j k a h1 h2 => ?_⟩, fun j a m => ?_, fun j h => if_neg h⟩
    · by_cases e : j = i
      · subst e
        by_cases hi : j < ρ.length
        · rw [List.getElem?_set_self hi] at h
          cases h
        · rw [List.getElem?_eq_none (by simp; omega)] at h
          cases h
      · rw [List.getElem?_set_ne (Ne.symm e)] at h
        obtain ⟨u, h1, h2⟩ := z.own j t h
        refine ⟨u, h1, ?_⟩
        show Ow K io Hs H u t (if j = i then [] else F j)
        rw [if_neg e]
        exact h2
    · have m : a ∈ (if j = i then [] else F j) := m
      by_cases e : j = i
      · rw [if_pos e] at m
        exact nomatch m
      · rw [if_neg e] at m
        obtain ⟨t, h⟩ := z.non j a m
        exact ⟨t, by rw [List.getElem?_set_ne (Ne.symm e)]; exact h⟩
    · have h1 : a ∈ (if j = i then [] else F j) := h1
      have h2 : a ∈ (if k = i then [] else F k) := h2
      by_cases e : j = i
      · rw [if_pos e] at h1
        exact nomatch h1
      · by_cases e' : k = i
        · rw [if_pos e'] at h2
          exact nomatch h2
        · rw [if_neg e] at h1
          rw [if_neg e'] at h2
          exact z.dis j k a h1 h2
    · have m : a ∈ (if j = i then [] else F j) := m
      by_cases e : j = i
      · rw [if_pos e] at m
        exact nomatch m
      · rw [if_neg e] at m
        exact ⟨m, e⟩
  intro is
  induction is generalizing ρ F with
  | nil => exact ⟨F, z, fun _ h => h, fun _ m => (nomatch m)⟩
  | cons i is ih =>
    obtain ⟨F1, z1, l1, k1⟩ := one z i
    obtain ⟨F2, z2, l2, n2⟩ := ih z1
    refine ⟨F2, z2, fun a h => ?_, fun j hj a m q => ?_⟩
    · obtain ⟨k, r⟩ := l2 a h
      exact ⟨k, (l1 k a r).1⟩
    · by_cases e : j = i
      · subst e
        obtain ⟨k, r⟩ := l2 a q
        obtain ⟨r1, r2⟩ := l1 k a r
        exact r2 (z.dis k j a r1 m)
      · rcases List.mem_cons.mp hj with r | r
        · exact e r
        · exact n2 j r a (by rw [k1 j e]; exact m) q
theorem dropB_get : ∀ {is : List Nat} {ρ : Env} {i : Nat}, i ∉ is → (Da.dropB ρ is)[i]? = ρ[i]?
  | [], _, _, _ => rfl
  | j :: is, ρ, i, h => by
    show (Da.dropB (ρ.set j none) is)[i]? = _
    rw [dropB_get fun m => h (List.mem_cons_of_mem _ m), List.getElem?_set_ne fun e => h (by rw [e]; exact List.mem_cons_self)]
/-- the borrowed ones come back -/
theorem St.putB : ∀ {vs : List V} {as : List Ar} {fv : List Addr} {ss' : List S} {f' : List Addr} {ρ : Env} {F : Nat → List Addr} {Hx Hy : Hp}, ArA K io σ Hx Hy vs as fv → OwA K [] Hs H vs ss' f' → St K io σ ρ Hs H F → (∀ a ∈ f', ¬ FP F a) → (∀ i ∈ bors as, i < ρ.length) →
    ∃ F', St K io σ (putB ρ as ss') Hs H F' ∧ ∀ a, FP F' a → FP F a ∨ a ∈ f'
  | _, _, _, _, _, ρ, F, _, _, .nil, o, z, _, _ => by
    cases o
    exact ⟨F, z, fun a h => .inl h⟩
  | _, _, _, _, _, ρ, F, _, _, .val _ t _, o, z, n, l => by
    cases o with
    | cons h1 h2 dj =>
      rename_i s' ss' f1 f2
      obtain ⟨F', z', l'⟩ := St.putB t h2 z (fun a m => n a (List.mem_append_right _ m)) l
      exact ⟨F', z', fun a h => (l' a h).imp id (List.mem_append_right _)⟩
  | _, _, _, _, _, ρ, F, _, _, .bor (i := i) hv t, o, z, n, l => by
    cases o with
    | cons h1 h2 dj =>
      rename_i s' ss' f1 f2
      obtain ⟨F1, z1, l1⟩ := z.put (i := i) h1.io0 fun a m j _ q => n a (List.mem_append_left _ m) ⟨j, q⟩
      rw [set_id hv] at z1
      obtain ⟨F', z', l'⟩ := St.putB t h2 z1 (fun a m q => by
        rcases l1 a q with r | r
        · exact dj a r m
        · exact n a (List.mem_append_right _ m) r) (fun j hj => by
        rw [List.length_set]
        exact l j (List.mem_cons_of_mem _ hj))
      refine ⟨F', z', fun a h => ?_⟩
      rcases l' a h with r | r
      · rcases l1 a r with r | r
        · exact .inr (List.mem_append_left _ r)
        · exact .inl r
      · exact .inr (List.mem_append_right _ r)
/-- behind a call of such a def -/
def PoZ (K : PySem.W.Frag) (vs : List V) (f : List Addr) (Hs H : Hp) (ss' : List S) (Hs' H' : Hp) (f' : List Addr) : Prop :=
  Same Hs' H' ∧ OwA K [] Hs' H' vs ss' f' ∧ (∀ a ∈ f', a ∈ f ∨ H a = none) ∧ Tr (fun a => a ∈ f) Hs H Hs' H'
def spX (K : PySem.W.Frag) (n : Nat) (mf : MFX) : Sp := fun vs H Q E => vs.length = n ∧ ∃ Hs ss f Qd Qx, Same Hs H ∧ OwA K [] Hs H vs ss f ∧ mf ss Qd Qx ∧
  (∀ v s ss' Hs' H' f' fv, PoZ K vs f Hs H ss' Hs' H' f' → Ow K [] Hs' H' v s fv → (∀ a ∈ fv, a ∉ f') → (∀ a ∈ fv, a ∈ f ∨ H a = none) → Qd s ss' → Q v H') ∧
  ∀ x cls od ss' Hs' H' f', PoZ K vs f Hs H ss' Hs' H' f' → Xc K Hs' x cls od → Qx x ss' → E cls od H'
def mCallXX (n : Nat) (mf : MFX) (mr : MX) : ME := fun ρ Q Qx => mr ρ (fun as ρ1 => ∃ ss, res ρ1 as = some ss ∧ nios ss ∧ (bors as).Nodup ∧ ss.length = n ∧ mf ss (fun s ss' => Q s (putB (dropB ρ1 (bors as)) as ss')) (fun _ _ => False)) Qx
instance deCallXX {n : Nat} {mf : MFX} {ta : TA} {mr : MX} [i : DX K EE ta mr] : DE K EE (tCall (spX K n mf) [] L2.E0 ta) (mCallXX n mf mr) := ⟨fun {io σ ρ Hs H F Q Qx Qh} z h k kx => i.run z h (fun vs as ρ1 H1 p1 h1 => by
  obtain ⟨Hs1, F1, fv, z1, o1, n1, w1, e1⟩ := p1
  obtain ⟨ss, hr, hn, nd, hl, h1⟩ := h1
  obtain ⟨f, of, lf⟩ := ArA.build z1 o1 hr hn nd n1
  rw [List.append_nil]
  refine ⟨by rw [of.len]; exact hl, Hs1, ss, f, _, _, z1.le, of, h1, fun v s ss' Hs2 H2 f' fr pz o2 n2 w2 q => k v s _ H2 ?_ q, fun _ _ _ _ _ _ _ _ _ q => q.elim⟩
  obtain ⟨le, oz, wz, tr⟩ := pz
  obtain ⟨Fd, zd, ld, nd2⟩ := z1.dropB (bors as)
  -- f is apart from what the other names own
  have fa : ∀ a ∈ f, ¬ FP Fd a := fun a m q => by
    rcases lf a m with r | ⟨j, hj, r⟩
    · exact n1 a r (ld a q)
    · exact nd2 j hj a r q
  have zd2 : St K io σ (dropB ρ1 (bors as)) Hs2 H2 Fd := zd.keep tr.sh le fun a q => by
    obtain ⟨⟨u, hu⟩, hx⟩ := zd.has q
    have na : a ∉ f := fun m => fa a m q
    exact ⟨(tr.fr a u hu na).trans hu.symm, tr.ns a u hu na hx⟩
  have fa2 : ∀ a ∈ f', ¬ FP Fd a := fun a m q => by
    rcases wz a m with r | r
    · exact fa a r q
    · exact zd.new r q
  have ln : ∀ i ∈ bors as, i < (dropB ρ1 (bors as)).length := fun i hi => by
    have key : ∀ {vs : List V} {as : List Ar} {fv : List Addr}, ArA K io σ Hs1 H1 vs as fv → ∀ i ∈ bors as, i < σ.length := by
      intro vs as fv o
      induction o with
      | nil => exact fun _ m => (nomatch m)
      | bor hv _ ih =>
        intro i hi
        rcases List.mem_cons.mp hi with r | r
        · rw [r]
          exact (List.getElem?_eq_some_iff.mp hv).1
        · exact ih i r
      | val _ _ _ ih => exact ih
    rw [zd.len]
    exact key o1 i hi
  obtain ⟨F3, z3, l3⟩ := St.putB o1 oz zd2 fa2 ln
  have w0 : ∀ a ∈ f, FP F a ∨ H a = none := fun a m => by
    rcases lf a m with r | ⟨j, _, r⟩
    · exact w1 a r
    · exact e1.fp a ⟨j, r⟩
  have w3 : ∀ {a : Addr}, (a ∈ f ∨ H1 a = none) → FP F a ∨ H a = none := fun {a} r => r.elim (w0 a) fun r => e1.tr.back r
  have key : ∀ {a : Addr} {u : HO}, H a = some u → ¬ FP F a → a ∉ f := fun {a u} h n m => by
    rcases w0 a m with r | r
    · exact n r
    · rw [h] at r
      cases r
  refine ⟨Hs2, F3, fr, z3, o2.io0, fun a m q => ?_, fun a m => w3 (w2 a m), fun a q => ?_, e1.tr.sh.trans tr.sh, fun a u h n => tr.fr a u (e1.tr.fr a u h n) (key h n), fun a u h n r => tr.ns a u (e1.tr.fr a u h n) (key h n) (e1.tr.ns a u h n r)⟩
  · rcases l3 a q with r | r
    · rcases w2 a m with w | w
      · exact fa a w r
      · exact zd.new w r
    · exact n2 a m r
  · rcases l3 a q with r | r
    · exact e1.fp a (ld a r)
    · exact w3 (wz a r)) kx⟩
end
end Da
namespace Da
open PySem L2
section
variable {K : PySem.W.Frag} {EE : L2.St → XK} {E : XK} {io : List Addr} {σ : L2.St} {ρ ρ' : Env} {Hs H Hs1 H1 Hs' H' : Hp} {F F1 F' : Nat → List Addr} {v : V} {s : S} {d : D} {te ta tb : TE} {m ma mb : ME} {tc : TT} {mc : MT} {t u : TS} {mt mu : MS}
def ioS : Nat → List S → Env
  | _, [] => []
  | k, .ow ts :: r => some (.io k ts) :: ioS (k + 1) r
  | k, s :: r => some s :: ioS (k + 1) r
def ioV : List V → List Addr
  | [] => []
  | .ref a :: r => a :: ioV r
  | _ :: r => 0 :: ioV r
def rhoX (n : Nat) (ss : List S) : Env := ioS 0 ss ++ List.replicate (n - ss.length) none
def FinX (ρ : Env) : Nat → List S → List S → Prop
  | _, [], [] => True
  | k, .sh d :: r, s' :: r' => s' = .sh d ∧ FinX ρ (k + 1) r r'
  | k, .ow _ :: r, s' :: r' => (∃ ts', s' = .ow ts' ∧ ρ[k]? = some (some (.io k ts')) ∧ nios ts') ∧ FinX ρ (k + 1) r r'
  | _, _, _ => False
theorem ioS_len : ∀ (ss : List S) (k : Nat), (ioS k ss).length = ss.length
  | [], _ => rfl
  | .ow _ :: r, k => congrArg (· + 1) (ioS_len r (k + 1))
  | .sh _ :: r, k => congrArg (· + 1) (ioS_len r (k + 1))
  | .io _ _ :: r, k => congrArg (· + 1) (ioS_len r (k + 1))
theorem ioS_get : ∀ (ss : List S) (k i : Nat) (s : S), (ioS k ss)[i]? = some (some s) → ∃ s0, ss[i]? = some s0 ∧ ((∃ ts, s0 = .ow ts ∧ s = .io (k + i) ts) ∨ ((∀ ts, s0 ≠ .ow ts) ∧ s = s0))
  | [], _, _, _, h => by simp [ioS] at h
  | .ow ts :: r, k, 0, s, h => by
    cases (Option.some.inj (Option.some.inj h))
    exact ⟨_, rfl, .inl ⟨ts, rfl, rfl⟩⟩
  | .sh d :: r, k, 0, s, h => by
    cases (Option.some.inj (Option.some.inj h))
    exact ⟨_, rfl, .inr ⟨(fun _ z => by cases z), rfl⟩⟩
  | .io a b :: r, k, 0, s, h => by
    cases (Option.some.inj (Option.some.inj h))
    exact ⟨_, rfl, .inr ⟨(fun _ z => by cases z), rfl⟩⟩
  | .ow ts :: r, k, i + 1, s, h => by
    have := ioS_get r (k + 1) i s h
    rw [show k + 1 + i = k + (i + 1) by omega] at this
    exact this
  | .sh _ :: r, k, i + 1, s, h => by
    have := ioS_get r (k + 1) i s h
    rw [show k + 1 + i = k + (i + 1) by omega] at this
    exact this
  | .io _ _ :: r, k, i + 1, s, h => by
    have := ioS_get r (k + 1) i s h
    rw [show k + 1 + i = k + (i + 1) by omega] at this
    exact this
theorem ioS_some : ∀ (ss : List S) (k i : Nat) (s0 : S), ss[i]? = some s0 → ∃ s, (ioS k ss)[i]? = some (some s)
  | [], _, _, _, h => by simp at h
  | .ow ts :: r, k, 0, s, h => ⟨_, rfl⟩
  | .sh d :: r, k, 0, s, h => ⟨_, rfl⟩
  | .io a b :: r, k, 0, s, h => ⟨_, rfl⟩
  | .ow ts :: r, k, i + 1, s, h => ioS_some r (k + 1) i s h
  | .sh _ :: r, k, i + 1, s, h => ioS_some r (k + 1) i s h
  | .io _ _ :: r, k, i + 1, s, h => ioS_some r (k + 1) i s h
theorem ioV_get : ∀ (vs : List V) (i : Nat) (a : Addr), vs[i]? = some (.ref a) → (ioV vs)[i]? = some a
  | [], _, _, h => by simp at h
  | .ref b :: r, 0, a, h => by
    cases (Option.some.inj h)
    rfl
  | v :: r, i + 1, a, h => by
    have := ioV_get r i a h
    cases v <;> exact this
  | .non :: r, 0, a, h => by cases h
  | .bl _ :: r, 0, a, h => by cases h
  | .int _ :: r, 0, a, h => by cases h
  | .str _ :: r, 0, a, h => by cases h
  | .byt _ :: r, 0, a, h => by cases h
  | .flt _ :: r, 0, a, h => by cases h
  | .ty _ :: r, 0, a, h => by cases h
theorem OwA.split : ∀ {vs : List V} {ss : List S} {f : List Addr}, OwA K io Hs H vs ss f → ∃ F : Nat → List Addr, (∀ i s, ss[i]? = some s → ∃ v, vs[i]? = some v ∧ Ow K io Hs H v s (F i)) ∧ (∀ i a, a ∈ F i → a ∈ f ∧ i < ss.length) ∧ ∀ i j a, a ∈ F i → a ∈ F j → i = j
  | _, _, _, .nil => ⟨fun _ => [], fun i s h => by simp at h, fun _ _ m => (nomatch m), fun _ _ _ m => (nomatch m)⟩
  | _, _, _, .cons (f := f1) (g := g1) h t dj => by
    obtain ⟨F, a, b, c⟩ := OwA.split t
    refine ⟨fun i => match i with | 0 => f1 | i + 1 => F i, fun i s e => ?_, fun i x m => ?_, fun i j x m1 m2 => ?_⟩
    · cases i with
      | zero =>
        cases (Option.some.inj e)
        exact ⟨_, rfl, h⟩
      | succ i => exact a i s e
    · cases i with
      | zero => exact ⟨List.mem_append_left _ m, by simp⟩
      | succ i =>
        obtain ⟨r1, r2⟩ := b i x m
        exact ⟨List.mem_append_right _ r1, by simp; omega⟩
    · cases i with
      | zero =>
        cases j with
        | zero => rfl
        | succ j => exact absurd (b j x m2).1 (dj x m1)
      | succ i =>
        cases j with
        | zero => exact absurd (b i x m1).1 (dj x m2)
        | succ j => rw [c i j x m1 m2]
theorem St.startX {N : List Str} {vs : List V} {ss : List S} {f : List Addr} (le : Same Hs H) (o : OwA K [] Hs H vs ss f) : ∃ F, St K (ioV vs) (L2.start N vs) (rhoX N.length ss) Hs H F ∧ ∀ a, FP F a → a ∈ f := by
  obtain ⟨F, a, b, c⟩ := o.split
  refine ⟨F, ⟨le, ?_, fun i s h => ?_, fun i x m => ?_, c⟩, fun x ⟨i, m⟩ => (b i x m).1⟩
  · unfold rhoX L2.start
    simp [ioS_len, o.len]
  · unfold rhoX at h
    by_cases hi : i < ss.length
    · rw [List.getElem?_append_left (by rw [ioS_len]; exact hi)] at h
      obtain ⟨s0, e0, q⟩ := ioS_get ss 0 i s h
      obtain ⟨v, hv, ov⟩ := a i s0 e0
      refine ⟨v, ?_, ?_⟩
      · unfold L2.start
        rw [List.getElem?_append_left (by simpa [o.len] using hi), List.getElem?_map, hv]
        rfl
      · rcases q with ⟨ts, rfl, rfl⟩ | ⟨n, rfl⟩
        · generalize F i = g at ov
          cases ov with
          | ow h1 h2 h3 h4 =>
            rw [Nat.zero_add]
            exact .io (ioV_get vs i _ hv) h1 h2 h3.io0 h4
        · exact ov.io0
    · rw [List.getElem?_append_right (by rw [ioS_len]; omega), List.getElem?_replicate] at h
      split at h <;> cases h
  · obtain ⟨_, hi⟩ := b i x m
    unfold rhoX
    obtain ⟨s, hs⟩ := ioS_some ss 0 i _ (List.getElem?_eq_getElem hi)
    exact ⟨s, by rw [List.getElem?_append_left (by rw [ioS_len]; exact hi)]; exact hs⟩
theorem FinX.ow {io : List Addr} {Hs0 H0 : Hp} (z : St K io σ ρ Hs H F) (e : Same Hs0 Hs) : ∀ {ws : List V} {ss ss' : List S} {f : List Addr} (k : Nat), OwA K [] Hs0 H0 ws ss f → (∀ i a, ws[i]? = some (.ref a) → io[k + i]? = some a) → FinX ρ k ss ss' → ∃ f', OwA K [] Hs H ws ss' f' ∧ ∀ a ∈ f', ∃ j, k ≤ j ∧ a ∈ F j
  | _, [], [], _, k, o, _, _ => by
    cases o
    exact ⟨[], .nil, fun _ m => (nomatch m)⟩
  | _, .sh d :: r, s' :: r', _, k, o, hio, h => by
    cases o with
    | cons o1 o2 dj =>
      obtain ⟨rfl, h⟩ := h
      obtain ⟨f', o', l'⟩ := FinX.ow z e (k + 1) o2 (fun i a q => by rw [show k + 1 + i = k + (i + 1) by omega]; exact hio (i + 1) a q) h
      refine ⟨f', .cons (f := []) (.sh (o1.inv.mono e)) o' (fun _ m => (nomatch m)), fun a m => ?_⟩
      obtain ⟨j, hj, q⟩ := l' a m
      exact ⟨j, by omega, q⟩
  | _, .ow ts :: r, s' :: r', _, k, o, hio, h => by
    cases o with
    | cons o1 o2 dj =>
      obtain ⟨⟨ts', rfl, hk, ni⟩, h⟩ := h
      obtain ⟨f', o', l'⟩ := FinX.ow z e (k + 1) o2 (fun i a q => by rw [show k + 1 + i = k + (i + 1) by omega]; exact hio (i + 1) a q) h
      cases o1 with
      | ow h1 h2 h3 h4 =>
        have hp := hio 0 _ rfl
        rw [Nat.add_zero] at hp
        obtain ⟨v0, hv0, o0⟩ := z.own k _ hk
        generalize hF : F k = g at o0
        cases o0 with
        | io q0 q1 q2 q3 q4 =>
          rw [hp] at q0
          cases (Option.some.inj q0)
          refine ⟨_, .cons (.ow q1 q2 (q3.noio ni) q4) o' fun a m q => ?_, fun a m => ?_⟩
          · obtain ⟨j, hj, r⟩ := l' a q
            have := z.dis k j a (by rw [hF]; exact m) r
            omega
          · rcases List.mem_append.mp m with m | m
            · exact ⟨k, Nat.le_refl _, by rw [hF]; exact m⟩
            · obtain ⟨j, hj, q⟩ := l' a m
              exact ⟨j, by omega, q⟩
  | _, .io _ _ :: _, _ :: _, _, _, _, _, h => h.elim
  | _, [], _ :: _, _, _, _, _, h => h.elim
  | _, .sh _ :: _, [], _, _, _, _, h => h.elim
  | _, .ow _ :: _, [], _, _, _, _, h => h.elim
  | _, .io _ _ :: _, [], _, _, _, _, h => h.elim
theorem bodyX {N : List Str} {vs : List V} {ss : List S} {f : List Addr} {Qd : S → List S → Prop} {Q : VK} [i : DS K (fun _ => L2.E0) t mt] (le : Same Hs H) (o : OwA K [] Hs H vs ss f)
    (h : mt { nx := fun ρ => ∃ ss', FinX ρ 0 ss ss' ∧ Qd (.sh .non) ss', rt := fun s ρ => s.nio ∧ ∃ ss', FinX ρ 0 ss ss' ∧ Qd s ss' } (rhoX N.length ss))
    (k : ∀ v s ss' Hs' H' f' fv, PoZ K vs f Hs H ss' Hs' H' f' → Ow K [] Hs' H' v s fv → (∀ a ∈ fv, a ∉ f') → (∀ a ∈ fv, a ∈ f ∨ H a = none) → Qd s ss' → Q v H') :
    t { nx := fun _ H' => Q .non H', rt := Q } (start N vs) H := by
  obtain ⟨F, z, lf⟩ := St.startX (N := N) le o
  have fin : ∀ {σ' : L2.St} {v : V} {s : S} {ρ' : Env} {H' : Hp}, Po K (ioV vs) σ' F Hs H v s ρ' H' → s.nio → (∃ ss', FinX ρ' 0 ss ss' ∧ Qd s ss') → Q v H' := fun {σ' v s ρ' H'} p ni ⟨ss', hf, q⟩ => by
    obtain ⟨Hs', F', fv, z', o', n', w', e'⟩ := p
    obtain ⟨f', of, l'⟩ := FinX.ow z' e'.tr.sh 0 o (fun i a q => by rw [Nat.zero_add]; exact ioV_get vs i a q) hf
    have wf : ∀ {a : Addr}, (FP F a ∨ H a = none) → a ∈ f ∨ H a = none := fun {a} r => r.imp (lf a) id
    refine k v s ss' Hs' H' f' fv ⟨z'.le, of, fun a m => ?_, e'.tr.sh, fun a u hu n => e'.tr.fr a u hu fun q => n (lf a q), fun a u hu n => e'.tr.ns a u hu fun q => n (lf a q)⟩ (o'.noio ni) (fun a m q => ?_) (fun a m => wf (w' a m)) q
    · obtain ⟨j, _, r⟩ := l' a m
      exact wf (e'.fp a ⟨j, r⟩)
    · obtain ⟨j, _, r⟩ := l' a q
      exact n' a m ⟨j, r⟩
  exact i.run z h ⟨fun σ' ρ' H' p q => fin (p.raw .non) trivial q, fun σ' v s ρ' H' p q => fin p q.1 q.2, fun _ _ _ _ z => z, fun _ _ _ _ z => z, fun _ _ _ _ _ _ _ z => z⟩
end
section
open PySem.Spec PyProof.Rows
variable {P : Program} {w : World} {K : PySem.W.Frag} {mg : Str → Option Value} {base : Heap}
theorem fn_okXX {x qual : Str} {st : Stmt} {f : Addr} {fd : FuncData} {N ps : List Str} {k n : Nat} {mf : MFX} (F : Fun K x qual st f fd) (S : FnScope N ps (defScope st)) (hn : n = ps.length)
    (hbody : ∀ (cdv : Value) (A : Around) (outer : List PySem.Env) (s : Shared) (H : Hp) (E : XK), Room k (A.deeper (envOfC qual (defScope st) s.heap.objs.size f cdv)) →
      ∃ t mt, PSs (cxOf CX0 P w K mg base N qual (defScope st) f cdv A outer s H E).nox (defBody st) t ∧ DS K (fun _ => L2.E0) t mt ∧ ∀ ss Qd, ss.length = n → mf ss Qd (fun _ _ => False) → mt { nx := fun ρ => ∃ ss', FinX ρ 0 ss ss' ∧ Qd (.sh .non) ss', rt := fun s ρ => s.nio ∧ ∃ ss', FinX ρ 0 ss ss' ∧ Qd s ss' } (rhoX N.length ss))
    (hx : ∀ ss Qd Qx, mf ss Qd Qx → mf ss Qd (fun _ _ => False)) : FnOk P w K mg base CX0 (k + 1) f fd ps (spX K n mf) := by
  refine F.ok S (fun vs H Q E h => h.1.trans hn) (fun cdv A outer s H vs Q E hr h => ?_)
  obtain ⟨hl, Hs, ss, ff, Qd, Qx, le, o, hm, k1, k2⟩ := h
  obtain ⟨t, mt, h1, i, h2⟩ := hbody cdv A outer s H E hr
  exact ⟨t, h1, bodyX le o (h2 ss Qd (o.len.symm.trans hl) (hx _ _ _ hm)) k1⟩
end
end Da
namespace Da
open PySem L2
mutual
/-- what == may be asked of -/
def D.cl : D → Prop
  | .raw .non => True
  | .raw (.bl _) => True
  | .raw (.int _) => True
  | .raw (.str x) => PyData.strOk x = true
  | .lst ds => cls ds
  | .tup ds => cls ds
  | _ => False
def cls : List D → Prop
  | [] => True
  | d :: ds => d.cl ∧ cls ds
end
mutual
def D.dp : D → Nat
  | .lst ds => dps ds + 1
  | .tup ds => dps ds + 1
  | _ => 1
def dps : List D → Nat
  | [] => 0
  | d :: ds => max d.dp (dps ds)
end
theorem cls_all : ∀ {ds : List D}, (∀ d ∈ ds, d.cl) → cls ds
  | [], _ => trivial
  | d :: ds, h => ⟨h d List.mem_cons_self, cls_all fun e m => h e (List.mem_cons_of_mem _ m)⟩
theorem dps_all {n : Nat} : ∀ {ds : List D}, (∀ d ∈ ds, d.dp ≤ n) → dps ds ≤ n
  | [], _ => Nat.zero_le _
  | d :: ds, h => Nat.max_le.mpr ⟨h d List.mem_cons_self, dps_all fun e m => h e (List.mem_cons_of_mem _ m)⟩
mutual
theorem D.cl_py : ∀ {d : D}, d.cl → ∃ p, d.py = some p ∧ p.canLay0 = true ∧ p.depth ≤ d.dp
  | .raw .non, _ => ⟨_, rfl, rfl, by decide⟩
  | .raw (.bl b), _ => ⟨_, rfl, rfl, by simp [PyData.depth, D.dp]⟩
  | .raw (.int i), _ => ⟨_, rfl, rfl, by simp [PyData.depth, D.dp]⟩
  | .raw (.str x), h => ⟨_, rfl, by have h : PyData.strOk x = true := h; simpa [PyData.canLay0] using h, by simp [PyData.depth, D.dp]⟩
  | .lst ds, h => by
    obtain ⟨ps, e, c, l⟩ := cls_py (ds := ds) h
    refine ⟨.list ps, by simp [D.py, e], by simpa [PyData.canLay0] using c, ?_⟩
    simp only [PyData.depth, D.dp]
    omega
  | .tup ds, h => by
    obtain ⟨ps, e, c, l⟩ := cls_py (ds := ds) h
    refine ⟨.tuple ps, by simp [D.py, e], by simpa [PyData.canLay0] using c, ?_⟩
    simp only [PyData.depth, D.dp]
    omega
  | .raw (.ref _), h => h.elim
  | .raw (.byt _), h => h.elim
  | .raw (.flt _), h => h.elim
  | .raw (.ty _), h => h.elim
  | .ob _ _ _, h => h.elim
  | .exc _ _ _, h => h.elim
  | .scr _, h => h.elim
theorem cls_py : ∀ {ds : List D}, cls ds → ∃ ps, pys ds = some ps ∧ PyData.canLayAll0 ps = true ∧ PyData.depthAll ps ≤ dps ds
  | [], _ => ⟨[], rfl, rfl, by decide⟩
  | d :: ds, h => by
    obtain ⟨p, e1, c1, l1⟩ := D.cl_py h.1
    obtain ⟨ps, e2, c2, l2⟩ := cls_py h.2
    refine ⟨p :: ps, by simp [pys, e1, e2], by simp [PyData.canLayAll0, c1, c2], ?_⟩
    simp only [PyData.depthAll, dps]
    omega
end
theorem D.cl_sh {d : D} (h : d.cl) (l : d.dp ≤ 64) : ∃ p, d.py = some p ∧ SeqAt.shaped p = true ∧ PyData.eqv p p = true := by
  obtain ⟨p, e, c, q⟩ := D.cl_py h
  refine ⟨p, e, ?_, PySem.SeqAt.eqv_refl _ c⟩
  unfold SeqAt.shaped
  rw [c, Bool.true_and]
  exact decide_eq_true (by omega)
theorem eq_self {d : D} {Q : S → Prop} (h : d.cl) (l : d.dp ≤ 64) (q : Q (.sh (.bl true))) : fEqD d d Q := by
  obtain ⟨p, e, s, r⟩ := D.cl_sh h l
  exact ⟨p, p, e, e, s, s, by rw [r]; exact q⟩
theorem ne_self {d : D} {Q : S → Prop} (h : d.cl) (l : d.dp ≤ 64) (q : Q (.sh (.bl false))) : fNeD d d Q := by
  obtain ⟨p, e, s, r⟩ := D.cl_sh h l
  exact ⟨p, p, e, e, s, s, by rw [r]; exact q⟩
section
variable {K : PySem.W.Frag} {EE : L2.St → XK} {E : XK} {io : List Addr} {σ : L2.St} {ρ ρ' : Env} {Hs H Hs1 H1 Hs' H' : Hp} {F F1 F' : Nat → List Addr} {v : V} {s : S} {d : D} {te ta tb : TE} {m ma mb : ME} {tc : TT} {mc : MT} {t u : TS} {mt mu : MS}
/-! ### more of lists of one's own; chains; a def's call without arguments -/
def mClear (j : Nat) : MS := fun Dd ρ => ∃ ss c, lsO ρ[j]? = some (ss, c) ∧ Dd.nx (ρ.set j (some (c [])))
theorem dsClear_0 {j : Nat} : DS K EE (tDrop (tBM0 K "list" rClear (tVar j))) (mClear j) := ⟨fun {io σ ρ Hs H F Dd Dh} z h l => by
  obtain ⟨ss, c, hl, hn⟩ := h
  obtain ⟨p, vs, f, hv, hp, hs, oa, np, hF, mk⟩ := z.lsO hl
  obtain ⟨F2, z2, l2, t2⟩ := z.putL (fe := fun _ => False) (vs' := []) (ss' := []) (f' := []) hv hF ⟨_, hp⟩ hs mk .nil (fun q => (nomatch q)) (fun _ q => (nomatch q)) (fun _ q => (nomatch q))
  refine ⟨_, hv, .inl ⟨rfl, vs, sql hp⟩, p, vs, rfl, rfl, hp, l.nx σ _ _ ⟨Hs, F2, z2, fun a q => ?_, t2⟩ hn⟩
  rcases l2 a q with r | r
  · exact .inl r
  · exact r.elim⟩
instance dsClear {K' : PySem.W.Frag} [hK : KEq K' K] {j : Nat} : DS K EE (tDrop (tBM0 K' "list" rClear (tVar j))) (mClear j) := by
  cases hK.e
  exact dsClear_0
theorem OwA.app {vs us : List V} {ss ts : List S} {f g : List Addr} (o : OwA K io Hs H vs ss f) (q : OwA K io Hs H us ts g) (n : ∀ a ∈ g, a ∉ f) : OwA K io Hs H (vs ++ us) (ss ++ ts) (f ++ g) := by
  have key : ∀ {vs : List V} {ss : List S} {f : List Addr}, OwA K io Hs H vs ss f → (∀ a ∈ g, a ∉ f) → OwA K io Hs H (vs ++ us) (ss ++ ts) (f ++ g) := by
    intro vs
    induction vs with
    | nil =>
      intro ss f o n
      cases o
      exact q
    | cons u us ih =>
      intro ss f o n
      cases o with
      | cons h t dj =>
        rename_i s0 ss0 f1 f2
        rw [List.append_assoc]
        refine .cons h (ih t fun a m r => n a m (List.mem_append_right _ r)) fun a m r => ?_
        rcases List.mem_append.mp r with r | r
        · exact dj a m r
        · exact n a r (List.mem_append_left _ m)
  exact key o n
/-- x.extend(e), e read as shared -/
def mExt (j : Nat) (me : ME) : MS := fun Dd ρ => (lsO ρ[j]?).isSome = true ∧ mV me ρ (fun d ρ1 => match d with
  | .lst ds => ∃ ss c, lsO ρ1[j]? = some (ss, c) ∧ ss.length + ds.length ≤ sizeLine ∧ Dd.nx (ρ1.set j (some (c (ss ++ shs ds))))
  | _ => False) Dd.xk
theorem dsExt_0 {j : Nat} [i : DE K EE te m] : DS K EE (tDrop (tBM K "list" rExtend (tVar j) (tCons te tNil))) (mExt j m) := ⟨fun {io σ ρ Hs H F Dd Dh} z h l => by
  obtain ⟨h0, h⟩ := h
  obtain ⟨⟨ss0, c0⟩, h0⟩ := Option.isSome_iff_exists.mp h0
  obtain ⟨p, vs, f, hv, hp, hs, _⟩ := z.lsO h0
  refine ⟨_, hv, .inl ⟨rfl, vs, sql hp⟩, DE.runV (te := te) (m := m) z h (fun v d ρ1 H1 p1 h1 => ?_) (fun x cls od ρ' H' p q => l.xk σ x cls od ρ' H' p q)⟩
  obtain ⟨Hs1, F1, z1, q1, e1⟩ := p1
  split at h1
  · rename_i ds
    obtain ⟨ss, c, hl, hz, hn⟩ := h1
    obtain ⟨p', vs1, g, hv1, hp1, hs1, oa, np, hF, mk⟩ := z1.lsO hl
    have ep : p' = p := by
      rw [hv] at hv1
      cases hv1
      rfl
    subst ep
    cases q1 with
    | lst hb qs =>
      have os : OwA K io Hs1 H1 _ (shs ds) [] := OwA.shs qs
      have pf : ∀ a ∈ g, FP F1 a := fun a m => ⟨j, by rw [hF]; exact List.mem_cons_of_mem _ m⟩
      obtain ⟨F2, z2, l2, t2⟩ := z1.putL (fe := fun _ => False) (f' := g ++ []) hv1 hF ⟨_, hp1⟩ hs1 mk (oa.app os fun _ m => (nomatch m)) (by rw [List.append_nil]; exact np) (fun a m k hk q => by
        rw [List.append_nil] at m
        exact hk (z1.dis k j a q (by rw [hF]; exact List.mem_cons_of_mem _ m))) (fun a m => by
        rw [List.append_nil] at m
        exact .inl (pf a m))
      refine ⟨_, _, _, _, rfl, rfl, hp1, z1.le _ _ hb, by rw [oa.len, qs.len]; exact hz, l.nx σ _ _ ⟨Hs1, F2, z2, fun a q => ?_, (e1.trans ⟨fun a q => .inl q, t2⟩).tr⟩ hn⟩
      rcases l2 a q with r | r
      · exact e1.fp a r
      · exact r.elim
  · exact h1.elim⟩
instance dsExt {K' : PySem.W.Frag} [hK : KEq K' K] {j : Nat} [i : DE K EE te m] : DS K EE (tDrop (tBM K' "list" rExtend (tVar j) (tCons te tNil))) (mExt j m) := by
  cases hK.e
  exact dsExt_0
/-- a < b < c, told as a truth -/
def mChain (f g : D → D → (S → Prop) → Prop) (ma mb mc : ME) : ME := fun ρ Q Qx => mV ma ρ (fun x ρ1 => mV mb ρ1 (fun y ρ2 => f x y fun s => asB s fun k => if k = true then mV mc ρ2 (fun z ρ3 => g y z fun s => Q s ρ3) Qx else Q (.sh (.bl false)) ρ2) Qx) Qx
theorem Nv.bl {b : Bool} (h : Nv K Hs H v (.sh (.bl b)) H') : v = .bl b ∧ H' = H := by
  cases h with
  | old q =>
    cases q
    exact ⟨rfl, rfl⟩
instance deChain {r r' : R2} {f g : D → D → (S → Prop) → Prop} {tx : TE} {mx : ME} [DE K EE ta ma] [DE K EE tb mb] [DE K EE tx mx] [rd : RD K r f] [rd' : RD K r' g] : DE K EE (tChain r r' ta tb tx) (mChain f g ma mb mx) := ⟨fun z h k kx =>
  DE.runV (te := ta) (m := ma) z h (fun x dx ρ1 H1 p1 h1 => by
    obtain ⟨Hs1, F1, z1, q1, e1⟩ := p1
    refine DE.runV (te := tb) (m := mb) z1 h1 (fun y dy ρ2 H2 p2 h2 => ?_) (fun x cls od ρ' H' p => kx x cls od ρ' H' (p.trans e1))
    obtain ⟨Hs2, F2, z2, q2, e2⟩ := p2
    refine rd.run z2.le (q1.mono e2.tr.sh) q2 h2 fun v s H' nv q => ?_
    obtain ⟨b, rfl, qb⟩ := asB_ex q
    obtain ⟨rfl, rfl⟩ := nv.bl
    refine ⟨b, rfl, ?_⟩
    cases b with
    | true =>
      refine iteT (DE.runV (te := tx) (m := mx) z2 (by simpa using qb) (fun w dw ρ3 H3 p3 h3 => ?_) (fun x cls od ρ' H' p => kx x cls od ρ' H' (p.trans (e1.trans e2))))
      obtain ⟨Hs3, F3, z3, q3, e3⟩ := p3
      exact rd'.run z3.le (q2.mono e3.tr.sh) q3 h3 fun v s H' nv q => k v s ρ3 H' ((nv.po z3).trans ((e1.trans e2).trans e3)) q
    | false => exact iteF (k _ _ ρ2 _ ((Nv.po z2 (.old (.raw _))).trans (e1.trans e2)) (by simpa using qb))) kx⟩
end
end Da
namespace Da
open PySem L2
/-! ### readings: comprehensions and loops that hang on their item alone -/
theorem lcp_map {i : Nat} {me : ME} {vs : List Nat} {Q : List S → Env → Prop} (f : D → S) {ρ : Env} : ∀ (ds : List D) {acc : List S}, (∀ d ∈ ds, ∀ Q' : S → Env → Prop, Q' (f d) (ρ.set i (some (.sh d))) → me (ρ.set i (some (.sh d))) Q' X0) → (∀ d : D, wp (ρ.set i (some (.sh d))) vs = ρ) → Q (acc ++ ds.map f) ρ → lcp (mgName i) mYes me vs Q ds acc ρ
  | [], acc, _, _, q => by
    rw [List.map_nil, List.append_nil] at q
    exact q
  | d :: ds, acc, h, hw, q => by
    show (if true = true then me (ρ.set i (some (.sh d))) (fun s ρ3 => lcp (mgName i) mYes me vs Q ds (acc ++ [s]) (wp ρ3 vs)) X0 else lcp (mgName i) mYes me vs Q ds acc (wp (ρ.set i (some (.sh d))) vs))
    refine iteT (h d List.mem_cons_self _ ?_)
    show lcp (mgName i) mYes me vs Q ds (acc ++ [f d]) (wp (ρ.set i (some (.sh d))) vs)
    rw [hw d]
    refine lcp_map f ds (fun e m => h e (List.mem_cons_of_mem _ m)) hw ?_
    rw [List.append_assoc]
    exact q
/-- with a test: f d none where d is left out -/
theorem lcp_flt {i : Nat} {mt : MT} {me : ME} {vs : List Nat} {Q : List S → Env → Prop} (p : D → Bool) (f : D → S) {ρ : Env} : ∀ (ds : List D) {acc : List S}, (∀ d ∈ ds, ∀ Q' : Bool → Env → Prop, Q' (p d) (ρ.set i (some (.sh d))) → mt (ρ.set i (some (.sh d))) Q' X0) →
    (∀ d ∈ ds, p d = true → ∀ Q' : S → Env → Prop, Q' (f d) (ρ.set i (some (.sh d))) → me (ρ.set i (some (.sh d))) Q' X0) → (∀ d : D, wp (ρ.set i (some (.sh d))) vs = ρ) → Q (acc ++ (ds.filter p).map f) ρ → lcp (mgName i) mt me vs Q ds acc ρ
  | [], acc, _, _, _, q => by
    rw [List.filter_nil, List.map_nil, List.append_nil] at q
    exact q
  | d :: ds, acc, ht, h, hw, q => by
    show mt (ρ.set i (some (.sh d))) (fun b ρ2 => if b = true then me ρ2 (fun s ρ3 => lcp (mgName i) mt me vs Q ds (acc ++ [s]) (wp ρ3 vs)) X0 else lcp (mgName i) mt me vs Q ds acc (wp ρ2 vs)) X0
    refine ht d List.mem_cons_self _ ?_
    cases e : p d with
    | true =>
      refine iteT (h d List.mem_cons_self e _ ?_)
      show lcp (mgName i) mt me vs Q ds (acc ++ [f d]) (wp (ρ.set i (some (.sh d))) vs)
      rw [hw d]
      refine lcp_flt p f ds (fun e m => ht e (List.mem_cons_of_mem _ m)) (fun e m => h e (List.mem_cons_of_mem _ m)) hw ?_
      rw [List.filter_cons, if_pos e, List.map_cons] at q
      rw [List.append_assoc]
      exact q
    | false =>
      refine iteF ?_
      show lcp (mgName i) mt me vs Q ds acc (wp (ρ.set i (some (.sh d))) vs)
      rw [hw d]
      refine lcp_flt p f ds (fun e m => ht e (List.mem_cons_of_mem _ m)) (fun e m => h e (List.mem_cons_of_mem _ m)) hw ?_
      rw [List.filter_cons, if_neg (by rw [e]; decide)] at q
      exact q
theorem iteD {p A B : Prop} [Decidable p] (h1 : p → A) (h2 : ¬ p → B) : if decide p = true then A else B := ite2 (fun z => h1 (of_decide_eq_true z)) (fun z => h2 fun q => z (decide_eq_true q))
theorem iteND {p A B : Prop} [Decidable p] (h1 : ¬ p → A) (h2 : p → B) : if (!decide p) = true then A else B := ite2 (fun z => h1 fun q => by rw [decide_eq_true q] at z; exact absurd z (by decide)) (fun z => h2 (by
  by_cases q : p
  · exact q
  · exact absurd (by rw [decide_eq_false q]; rfl) z))
theorem small {n : Nat} (h : n ≤ 100000) : n < sizeLine := Nat.lt_of_le_of_lt h (by decide)
theorem smalle {n : Nat} (h : n ≤ 100000) : n ≤ sizeLine := Nat.le_of_lt (small h)
theorem py_nil {ds : List D} (h : (D.lst ds).cl) (l : (D.lst ds).dp ≤ 64) : ∃ p, (D.lst ds).py = some p ∧ SeqAt.shaped p = true ∧ PyData.eqv p (.list []) = ds.isEmpty := by
  obtain ⟨p, e, s, r⟩ := D.cl_sh h l
  refine ⟨p, e, s, ?_⟩
  simp only [D.py] at e
  obtain ⟨ps, e1, rfl⟩ := Option.map_eq_some_iff.mp e
  cases ds with
  | nil =>
    cases (Option.some.inj e1)
    exact r
  | cons d ds =>
    simp only [pys] at e1
    obtain ⟨p0, _, e2⟩ := Option.bind_eq_some_iff.mp e1
    obtain ⟨qs, _, rfl⟩ := Option.map_eq_some_iff.mp e2
    simp [PyData.eqv, PyData.eqvAll]
theorem eq_nil {ds : List D} {Q : S → Prop} (h : (D.lst ds).cl) (l : (D.lst ds).dp ≤ 64) (q : Q (.sh (.bl ds.isEmpty))) : fEqD (.lst ds) (.lst []) Q := by
  obtain ⟨p, e, s, r⟩ := py_nil h l
  exact ⟨p, .list [], e, rfl, s, by decide, by rw [r]; exact q⟩
theorem ne_nil {ds : List D} {Q : S → Prop} (h : (D.lst ds).cl) (l : (D.lst ds).dp ≤ 64) (q : Q (.sh (.bl (!ds.isEmpty)))) : fNeD (.lst ds) (.lst []) Q := by
  obtain ⟨p, e, s, r⟩ := py_nil h l
  exact ⟨p, .list [], e, rfl, s, by decide, by rw [r]; exact q⟩
theorem atI_int {α : Type} {xs : List α} {p : Int} {v : α} (h0 : 0 ≤ p) (h : xs[p.toNat]? = some v) : atI xs p = some v := by
  have e : p = ((p.toNat : Nat) : Int) := by omega
  rw [e]
  exact atI_nat h
theorem ixN_int {n : Nat} {p : Int} (h0 : 0 ≤ p) (h : p < n) : ixN n p = some p.toNat := by
  unfold ixN
  rw [if_pos h0, if_pos h]
end Da
namespace Cc
open PySem L2
/-! ### a def that is called: its promise, its name, how it binds -/
structure Cal (P : Program) (w : World) (K : PySem.W.Frag) (mg : Str → Option Value) (base : Heap) (lv : Nat) (x : Str) (ps : List Str) (sp : Sp) : Prop where
  ex : ∃ (f : Addr) (fd : FuncData), FnOk P w K mg base CX0 lv f fd ps sp ∧ mg x = some (.ref f) ∧ PySem.W.keepIn K (.ref f) = true ∧ Binds K fd ps []
/-- the same, by keywords alone -/
structure CalK (P : Program) (w : World) (K : PySem.W.Frag) (mg : Str → Option Value) (base : Heap) (lv : Nat) (x : Str) (ps : List Str) (sp : Sp) (n : Nat) (ks : List Str) (gV : List V → List V → List V) : Prop where
  ex : ∃ (f : Addr) (fd : FuncData) (g : List Value → List Value → List Value), FnOk P w K mg base CX0 lv f fd ps sp ∧ mg x = some (.ref f) ∧ PySem.W.keepIn K (.ref f) = true ∧ KBn K fd ps n ks g gV
section
variable {X : Cx} {k lv : Nat} {ps ks : List Str} {sp : Sp} {x : Str} {p pos : Pos} {e : Expr} {es : List Expr} {kws : List Keyword} {t tk : TA} {n : Nat} {gV : List V → List V → List V}
theorem pe_cal (C : Cal X.prog X.w X.K X.mg X.base lv x ps sp) (hr : Room k X.A) (hg : Gl X x) (ha : PA X (e :: es) t) (hle : lv ≤ k := by decide)
    (hdb : (x == ("__debug__" : Str)) = false := by decide) (he : starEach (e :: es) X.env = (false, eval e X.env) :: starEach es X.env := by rfl) (hpl : (backTo pos (starEach es X.env)).any (·.1) = false := by rfl) :
    PE X (.Call (.Name x p) (e :: es) [] pos) (tCall sp [] E0 t) := by
  obtain ⟨f, fd, F, hm, hk, hb⟩ := C.ex
  exact pe_call F (hr.mono hle) hg hm hk hb .nil pass0 ha hdb he hpl
theorem pe_cal0 (C : Cal X.prog X.w X.K X.mg X.base lv x ps sp) (hr : Room k X.A) (hg : Gl X x) (hle : lv ≤ k := by decide)
    (hdb : (x == ("__debug__" : Str)) = false := by decide) :
    PE X (.Call (.Name x p) [] [] pos) (tCall sp [] E0 tNil) := by
  obtain ⟨f, fd, F, hm, hk, hb⟩ := C.ex
  exact pe_call0 F (hr.mono hle) hg hm hk hb .nil pass0 hdb
theorem pe_calK0 (C : CalK X.prog X.w X.K X.mg X.base lv x ps sp 0 ks gV) (hr : Room k X.A) (hg : Gl X x) (hkw : PK X kws tk) (hle : lv ≤ k := by decide)
    (hall : (backToKw pos (keywordEach kws X.env)).all (·.1.isSome) = true := by rfl) (hks : (backToKw pos (keywordEach kws X.env)).filterMap (·.1) = ks := by rfl)
    (hdb : (x == ("__debug__" : Str)) = false := by decide)
    (hpl : ((backTo pos (starEach [] X.env)).any (·.1) || (backToKw pos (keywordEach kws X.env)).any (·.1.isNone)) = false := by rfl) :
    PE X (.Call (.Name x p) [] kws pos) (tCallN 0 ks.length sp gV E0 tNil tk) := by
  obtain ⟨f, fd, g, F, hm, hk, hb⟩ := C.ex
  refine ⟨fun pins s σ H Q I h => ?_⟩
  refine wpAny_Call_Name_kw (ld_glob I hg hm ?_ hdb)
  refine PySem.W.callWith_KW0 (h₀ := X.base) I.ok.mod.kin hk hall ?_ hpl
  have h : tk σ H fun zs H2 => ([] : List V).length = 0 ∧ zs.length = ks.length ∧ sp (gV [] zs) H2 Q E0 := h
  refine thn (hkw.run pos pins s σ H _ I h) fun ws s2 ⟨zs, H2, I2, rz, l1, l2, q2⟩ => ⟨I2.kIn, ?_⟩
  rw [hks]
  exact run_fnN F (hr.mono hle) hb pass0 I2 .nil rz l1 l2 q2
theorem pe_calK (C : CalK X.prog X.w X.K X.mg X.base lv x ps sp n ks gV) (hr : Room k X.A) (hg : Gl X x) (ha : PA X (e :: es) t) (hkw : PK X kws tk) (hle : lv ≤ k := by decide)
    (hall : (backToKw pos (keywordEach kws X.env)).all (·.1.isSome) = true := by rfl) (hks : (backToKw pos (keywordEach kws X.env)).filterMap (·.1) = ks := by rfl)
    (hdb : (x == ("__debug__" : Str)) = false := by decide) (he : starEach (e :: es) X.env = (false, eval e X.env) :: starEach es X.env := by rfl)
    (hpl : ((backTo pos (starEach (e :: es) X.env)).any (·.1) || (backToKw pos (keywordEach kws X.env)).any (·.1.isNone)) = false := by rfl) :
    PE X (.Call (.Name x p) (e :: es) kws pos) (tCallN n ks.length sp gV E0 t tk) := by
  obtain ⟨f, fd, g, F, hm, hk, hb⟩ := C.ex
  exact pe_callN F (hr.mono hle) hg hm hk hb pass0 ha hkw hall hks hdb he hpl
end
/-! ### heaps -/
/-- all but what stands at p is as it was -/
def Kp (p : Addr) (H H' : Hp) : Prop := ∀ b o, b ≠ p → H b = some o → H' b = some o
theorem Kp.of {p : Addr} {H H' : Hp} (s : Same H H') : Kp p H H' := fun b o _ e => s b o e
theorem Kp.trans {p : Addr} {H H1 H2 : Hp} (a : Kp p H H1) (b : Kp p H1 H2) : Kp p H H2 := fun c o n h => b c o n (a c o n h)
theorem same_upd {H : Hp} {p : Addr} {o : HO} (h : H p = none) : Same H (upd H p o) := fun b x e => by
  rw [upd_ne (ne_of_none e h)]
  exact e
theorem same_mut {H H' : Hp} {p : Addr} {o : HO} (s : Same H H') (h : H p = none) : Same H (upd H' p o) := fun b x e => by
  rw [upd_ne (ne_of_none e h)]
  exact s b x e
theorem kp_upd {H : Hp} {p : Addr} {o : HO} : Kp p H (upd H p o) := fun b x n e => by
  rw [upd_ne n]
  exact e
theorem Kp.new {p q : Addr} {H H' : Hp} {o : HO} (k : Kp p H H') (h : H' q = none) : Kp p H (upd H' q o) := fun b x n e => by
  rw [upd_ne (ne_of_none (k b x n e) h)]
  exact k b x n e
theorem Kp.free {p q : Addr} {H H' : Hp} (k : Kp p H H') (h : H' q = none) (n : q ≠ p) : H q = none := by
  cases z : H q with
  | none => rfl
  | some o =>
    rw [k q o n z] at h
    cases h
theorem Kp.seq {K : PySem.W.Frag} {p a : Addr} {H H' : Hp} {xs : List V} (k : Kp p H H') (n : a ≠ p) (h : SqL K H a xs) : SqL K H' a xs := by
  rcases h with (h | ⟨o, h⟩) | h
  · exact .inl (.inl (k _ _ n h))
  · exact .inl (.inr ⟨o, k _ _ n h⟩)
  · exact .inr h
end Cc
namespace Fr
theorem gcd_step (a b : Int) : Int.gcd b (a.fmod b) = Int.gcd a b := by
  rw [Int.fmod_def, Int.gcd_sub_mul_left_right, Int.gcd_comm]
theorem fmod_lt (a : Int) {b : Int} (h : b ≠ 0) : (a.fmod b).natAbs < b.natAbs := by
  rcases Int.lt_or_gt_of_ne h with hb | hb
  · have e : a.fmod b = -((-a).fmod (-b)) := by rw [Int.neg_fmod_neg]; simp
    have h1 := Int.fmod_lt_of_pos (-a) (b := -b) (by omega)
    have h2 := Int.fmod_nonneg_of_pos (-a) (b := -b) (by omega)
    omega
  · have h1 := Int.fmod_lt_of_pos a hb
    have h2 := Int.fmod_nonneg_of_pos a hb
    omega
/-- a fraction in lowest terms -/
structure Ok (f : Int × Int) : Prop where
  pos : 0 < f.2
  cop : Int.gcd f.1 f.2 = 1
def g (a b : Int) : Int := (Int.gcd a b : Int)
theorem g_pos {t b : Int} (h : 0 < b) : 0 < g t b := by
  unfold g
  have := Int.gcd_pos_of_ne_zero_right t (b := b) (by omega)
  omega
def low (t b : Int) : Int × Int := (t / g t b, b / g t b)
theorem g_l (t b : Int) : t / g t b * g t b = t := Int.ediv_mul_cancel (Int.gcd_dvd_left t b)
theorem g_r (t b : Int) : b / g t b * g t b = b := Int.ediv_mul_cancel (Int.gcd_dvd_right t b)
theorem low_ok {t b : Int} (h : 0 < b) : Ok (low t b) := by
  have hg := g_pos (t := t) h
  refine ⟨?_, ?_⟩
  · show 0 < b / g t b
    have := g_r t b
    rcases Int.lt_or_le 0 (b / g t b) with z | z
    · exact z
    · have : b / g t b * g t b ≤ 0 := Int.mul_nonpos_of_nonpos_of_nonneg z (by omega)
      omega
  · show Int.gcd (t / g t b) (b / g t b) = 1
    unfold g at hg ⊢
    exact Int.gcd_ediv_gcd_ediv_gcd (by omega)
theorem low_val (t b : Int) : (low t b).1 * b = t * (low t b).2 := by
  show t / g t b * b = t * (b / g t b)
  have h1 := g_l t b
  have h2 := g_r t b
  generalize t / g t b = x at *
  generalize b / g t b = y at *
  generalize g t b = z at *
  subst h1 h2
  grind
/-- one of two in lowest terms divides the other -/
theorem same {f h : Int × Int} (F : Ok f) (G : Ok h) (e : f.1 * h.2 = h.1 * f.2) : f = h := by
  have key : ∀ {f h : Int × Int}, Ok f → f.1 * h.2 = h.1 * f.2 → f.2 ∣ h.2 := fun {f h} F e => by
    have d : f.2.natAbs ∣ f.1.natAbs * h.2.natAbs := by
      rw [← Int.natAbs_mul, e, Int.natAbs_mul]
      exact Nat.dvd_mul_left _ _
    have c : Nat.Coprime f.2.natAbs f.1.natAbs := Nat.Coprime.symm F.cop
    exact Int.natAbs_dvd_natAbs.mp (c.dvd_of_dvd_mul_left d)
  have d1 := key F e
  have d2 := key G e.symm
  have p1 := F.pos
  have p2 := G.pos
  have e2 : f.2 = h.2 := Int.dvd_antisymm (by omega) (by omega) d1 d2
  have e1 : f.1 = h.1 := by
    rw [e2] at e
    exact Int.eq_of_mul_eq_mul_right (by omega) e
  exact Prod.ext e1 e2
theorem eq_low {f : Int × Int} {t b : Int} (F : Ok f) (hb : 0 < b) (e : f.1 * b = t * f.2) : f = low t b := by
  refine same F (low_ok hb) ?_
  have v := low_val t b
  have G := low_ok (t := t) hb
  generalize low t b = l at *
  -- f.1 * l.2 = l.1 * f.2; times b
  refine Int.eq_of_mul_eq_mul_right (a := b) (by omega) ?_
  have : f.1 * l.2 * b = f.1 * b * l.2 := by grind
  rw [this, e]
  have : l.1 * f.2 * b = l.1 * b * f.2 := by grind
  rw [this, v]
  grind
theorem low_self {f : Int × Int} (F : Ok f) : low f.1 f.2 = f := (eq_low F F.pos rfl).symm
def plus (f h : Int × Int) : Int × Int := low (f.1 * h.2 + h.1 * f.2) (f.2 * h.2)
def mul (f h : Int × Int) : Int × Int := low (f.1 * h.1) (f.2 * h.2)
def prod2 (f h : Int × Int) : Int × Int := ((low f.1 h.2).1 * (low h.1 f.2).1, (low f.1 h.2).2 * (low h.1 f.2).2)
theorem cop_of {a b x y : Int} (h : Int.gcd a b = 1) (hx : x ∣ a) (hy : y ∣ b) : Int.gcd x y = 1 :=
  Nat.Coprime.coprime_dvd_left (Int.natAbs_dvd_natAbs.mpr hx) (Nat.Coprime.coprime_dvd_right (Int.natAbs_dvd_natAbs.mpr hy) h)
theorem cop_mul_l {a b c : Int} (h1 : Int.gcd a c = 1) (h2 : Int.gcd b c = 1) : Int.gcd (a * b) c = 1 := by
  show Nat.gcd _ _ = 1
  rw [Int.natAbs_mul]
  exact Nat.Coprime.mul_left h1 h2
theorem cop_mul_r {a b c : Int} (h1 : Int.gcd c a = 1) (h2 : Int.gcd c b = 1) : Int.gcd c (a * b) = 1 := by
  show Nat.gcd _ _ = 1
  rw [Int.natAbs_mul]
  exact Nat.Coprime.mul_right h1 h2
theorem low_dl (t b : Int) : (low t b).1 ∣ t := ⟨g t b, (g_l t b).symm⟩
theorem low_dr (t b : Int) : (low t b).2 ∣ b := ⟨g t b, (g_r t b).symm⟩
theorem prod2_eq {f h : Int × Int} (F : Ok f) (G : Ok h) : prod2 f h = mul f h := by
  have A := low_ok (t := f.1) G.pos
  have B := low_ok (t := h.1) F.pos
  have va := low_val f.1 h.2
  have vb := low_val h.1 f.2
  refine eq_low ⟨Int.mul_pos A.pos B.pos, ?_⟩ (Int.mul_pos F.pos G.pos) ?_
  · show Int.gcd ((low f.1 h.2).1 * (low h.1 f.2).1) ((low f.1 h.2).2 * (low h.1 f.2).2) = 1
    refine cop_mul_l (cop_mul_r A.cop ?_) (cop_mul_r ?_ B.cop)
    · exact cop_of F.cop (low_dl _ _) (low_dr _ _)
    · exact cop_of G.cop (low_dl _ _) (low_dr _ _)
  · show (low f.1 h.2).1 * (low h.1 f.2).1 * (f.2 * h.2) = f.1 * h.1 * ((low f.1 h.2).2 * (low h.1 f.2).2)
    generalize low f.1 h.2 = x at *
    generalize low h.1 f.2 = y at *
    have e1 : x.1 * y.1 * (f.2 * h.2) = (x.1 * h.2) * (y.1 * f.2) := by grind
    rw [e1, va, vb]
    grind
/-- the program's sum of two -/
def stop (f h : Int × Int) : Int := f.1 * (h.2 / g f.2 h.2) + h.1 * (f.2 / g f.2 h.2)
def sum2 (f h : Int × Int) : Int × Int := (stop f h / g (stop f h) (g f.2 h.2), f.2 / g f.2 h.2 * (h.2 / g (stop f h) (g f.2 h.2)))
theorem sum2_eq {f h : Int × Int} (F : Ok f) (G : Ok h) : sum2 f h = plus f h := by
  have pf := F.pos
  have ph := G.pos
  have dp : 0 < g f.2 h.2 := g_pos ph
  have hu := g_l f.2 h.2
  have hv := g_r f.2 h.2
  have huv : Int.gcd (f.2 / g f.2 h.2) (h.2 / g f.2 h.2) = 1 := (low_ok (t := f.2) ph).cop
  have ep : 0 < g (stop f h) (g f.2 h.2) := g_pos dp
  have hT := g_l (stop f h) (g f.2 h.2)
  have hD := g_r (stop f h) (g f.2 h.2)
  have hTD : Int.gcd (stop f h / g (stop f h) (g f.2 h.2)) (g f.2 h.2 / g (stop f h) (g f.2 h.2)) = 1 := (low_ok (t := stop f h) dp).cop
  have htop : stop f h = f.1 * (h.2 / g f.2 h.2) + h.1 * (f.2 / g f.2 h.2) := rfl
  have cu : Int.gcd f.1 (f.2 / g f.2 h.2) = 1 := cop_of F.cop (Int.dvd_refl _) ⟨_, hu.symm⟩
  have cv : Int.gcd h.1 (h.2 / g f.2 h.2) = 1 := cop_of G.cop (Int.dvd_refl _) ⟨_, hv.symm⟩
  have hw : h.2 / g (stop f h) (g f.2 h.2) = g f.2 h.2 / g (stop f h) (g f.2 h.2) * (h.2 / g f.2 h.2) := by
    refine Int.ediv_eq_of_eq_mul_right (by omega) ?_
    have z : g (stop f h) (g f.2 h.2) * (g f.2 h.2 / g (stop f h) (g f.2 h.2) * (h.2 / g f.2 h.2)) = (g f.2 h.2 / g (stop f h) (g f.2 h.2) * g (stop f h) (g f.2 h.2)) * (h.2 / g f.2 h.2) := by grind
    rw [z, hD, Int.mul_comm, hv]
  unfold sum2
  rw [hw]
  generalize stop f h = top at *
  generalize g top (g f.2 h.2) = e at *
  generalize top / e = T at *
  generalize g f.2 h.2 / e = D at *
  generalize f.2 / g f.2 h.2 = u at *
  generalize h.2 / g f.2 h.2 = v at *
  generalize g f.2 h.2 = d at *
  have up : 0 < u := by
    rcases Int.lt_or_le 0 u with z | z
    · exact z
    · have : u * d ≤ 0 := Int.mul_nonpos_of_nonpos_of_nonneg z (by omega)
      omega
  have vp : 0 < v := by
    rcases Int.lt_or_le 0 v with z | z
    · exact z
    · have : v * d ≤ 0 := Int.mul_nonpos_of_nonpos_of_nonneg z (by omega)
      omega
  have Dp : 0 < D := by
    rcases Int.lt_or_le 0 D with z | z
    · exact z
    · have : D * e ≤ 0 := Int.mul_nonpos_of_nonpos_of_nonneg z (by omega)
      omega
  have dT : T ∣ top := ⟨e, hT.symm⟩
  have ctu : Int.gcd top u = 1 := by
    rw [htop, Int.gcd_comm, Int.mul_comm h.1 u, Int.gcd_add_mul_left_right]
    refine cop_mul_r ?_ huv
    rw [Int.gcd_comm]; exact cu
  have ctv : Int.gcd top v = 1 := by
    rw [htop, Int.gcd_comm, Int.add_comm, Int.mul_comm f.1 v, Int.gcd_add_mul_left_right]
    refine cop_mul_r ?_ ?_
    · rw [Int.gcd_comm]; exact cv
    · rw [Int.gcd_comm]; exact huv
  refine eq_low ⟨Int.mul_pos up (Int.mul_pos Dp vp), ?_⟩ (Int.mul_pos pf ph) ?_
  · show Int.gcd T (u * (D * v)) = 1
    exact cop_mul_r (cop_of ctu dT (Int.dvd_refl _)) (cop_mul_r hTD (cop_of ctv dT (Int.dvd_refl _)))
  · show T * (f.2 * h.2) = (f.1 * h.2 + h.1 * f.2) * (u * (D * v))
    have e1 : (f.1 * h.2 + h.1 * f.2) = d * top := by
      rw [htop, ← hu, ← hv]
      grind
    rw [e1, ← hu, ← hv, ← hT, ← hD]
    grind
end Fr
namespace Cc
open PySem L2
/-! ### a def that may refuse, called: where it does not refuse (CalX), or within a try (pe_calXS) -/
theorem passX {P : Program} {w : World} {X : Cx} : Passes (L2.CX P w) X E0 := fun _ _ _ _ _ _ _ ⟨_, _, _, _, _, _, _, _, _, _, _, _, e⟩ => e.elim
structure CalX (P : Program) (w : World) (K : PySem.W.Frag) (mg : Str → Option Value) (base : Heap) (lv : Nat) (x : Str) (ps : List Str) (sp : Sp) (dvs : List V) : Prop where
  ex : ∃ (f : Addr) (fd : FuncData) (ds : List Value), FnOk P w K mg base (L2.CX P w) lv f fd ps sp ∧ mg x = some (.ref f) ∧ PySem.W.keepIn K (.ref f) = true ∧ Binds K fd ps ds ∧ Vals dvs ds
structure CalXK (P : Program) (w : World) (K : PySem.W.Frag) (mg : Str → Option Value) (base : Heap) (lv : Nat) (x : Str) (ps : List Str) (sp : Sp) (n : Nat) (ks : List Str) (gV : List V → List V → List V) : Prop where
  ex : ∃ (f : Addr) (fd : FuncData) (g : List Value → List Value → List Value), FnOk P w K mg base (L2.CX P w) lv f fd ps sp ∧ mg x = some (.ref f) ∧ PySem.W.keepIn K (.ref f) = true ∧ KBn K fd ps n ks g gV
section
variable {X : Cx} {k lv : Nat} {ps ks : List Str} {sp : Sp} {x : Str} {p pos : Pos} {e : Expr} {es : List Expr} {kws : List Keyword} {t tk : TA} {n : Nat} {gV : List V → List V → List V} {dvs : List V} {W : WX}
theorem pe_calX (C : CalX X.prog X.w X.K X.mg X.base lv x ps sp dvs) (hr : Room k X.A) (hg : Gl X x) (ha : PA X (e :: es) t) (hle : lv ≤ k := by decide)
    (hdb : (x == ("__debug__" : Str)) = false := by decide) (he : starEach (e :: es) X.env = (false, eval e X.env) :: starEach es X.env := by rfl) (hpl : (backTo pos (starEach es X.env)).any (·.1) = false := by rfl) :
    PE X (.Call (.Name x p) (e :: es) [] pos) (tCall sp dvs E0 t) := by
  obtain ⟨f, fd, ds, F, hm, hk, hb, hd⟩ := C.ex
  exact pe_call F (hr.mono hle) hg hm hk hb hd passX ha hdb he hpl
/-- within a try's body -/
theorem pe_calXS (C : CalX X.prog X.w X.K X.mg X.base lv x ps sp dvs) (tk : Takes X W) (hr : Room k X.A) (hg : Gl X x) (ha : PA X (e :: es) t) (hle : lv ≤ k := by decide)
    (hdb : (x == ("__debug__" : Str)) = false := by decide) (he : starEach (e :: es) X.env = (false, eval e X.env) :: starEach es X.env := by rfl) (hpl : (backTo pos (starEach es X.env)).any (·.1) = false := by rfl) :
    PE X (.Call (.Name x p) (e :: es) [] pos) (tCallSD sp dvs (WE W) t) := by
  obtain ⟨f, fd, ds, F, hm, hk, hb, hd⟩ := C.ex
  exact pe_callSD F (hr.mono hle) hg hm hk hb hd (fun σ => passAt tk σ) ha hdb he hpl
theorem pe_calXK0 (C : CalXK X.prog X.w X.K X.mg X.base lv x ps sp 0 ks gV) (hr : Room k X.A) (hg : Gl X x) (hkw : PK X kws tk) (hle : lv ≤ k := by decide)
    (hall : (backToKw pos (keywordEach kws X.env)).all (·.1.isSome) = true := by rfl) (hks : (backToKw pos (keywordEach kws X.env)).filterMap (·.1) = ks := by rfl)
    (hdb : (x == ("__debug__" : Str)) = false := by decide)
    (hpl : ((backTo pos (starEach [] X.env)).any (·.1) || (backToKw pos (keywordEach kws X.env)).any (·.1.isNone)) = false := by rfl) :
    PE X (.Call (.Name x p) [] kws pos) (tCallN 0 ks.length sp gV E0 tNil tk) := by
  obtain ⟨f, fd, g, F, hm, hk, hb⟩ := C.ex
  refine ⟨fun pins s σ H Q I h => ?_⟩
  refine wpAny_Call_Name_kw (ld_glob I hg hm ?_ hdb)
  refine PySem.W.callWith_KW0 (h₀ := X.base) I.ok.mod.kin hk hall ?_ hpl
  have h : tk σ H fun zs H2 => ([] : List V).length = 0 ∧ zs.length = ks.length ∧ sp (gV [] zs) H2 Q E0 := h
  refine thn (hkw.run pos pins s σ H _ I h) fun ws s2 ⟨zs, H2, I2, rz, l1, l2, q2⟩ => ⟨I2.kIn, ?_⟩
  rw [hks]
  exact run_fnN F (hr.mono hle) hb passX I2 .nil rz l1 l2 q2
theorem pe_calXK (C : CalXK X.prog X.w X.K X.mg X.base lv x ps sp n ks gV) (hr : Room k X.A) (hg : Gl X x) (ha : PA X (e :: es) t) (hkw : PK X kws tk) (hle : lv ≤ k := by decide)
    (hall : (backToKw pos (keywordEach kws X.env)).all (·.1.isSome) = true := by rfl) (hks : (backToKw pos (keywordEach kws X.env)).filterMap (·.1) = ks := by rfl)
    (hdb : (x == ("__debug__" : Str)) = false := by decide) (he : starEach (e :: es) X.env = (false, eval e X.env) :: starEach es X.env := by rfl)
    (hpl : ((backTo pos (starEach (e :: es) X.env)).any (·.1) || (backToKw pos (keywordEach kws X.env)).any (·.1.isNone)) = false := by rfl) :
    PE X (.Call (.Name x p) (e :: es) kws pos) (tCallN n ks.length sp gV E0 t tk) := by
  obtain ⟨f, fd, g, F, hm, hk, hb⟩ := C.ex
  exact pe_callN F (hr.mono hle) hg hm hk hb passX ha hkw hall hks hdb he hpl
theorem op_fdivZ : OpR X (binaryOp .FloorDiv) (rI (fun _ j => j ≠ 0 ∧ j.natAbs.log2 < 9000) fun i j => .int (i.fdiv j)) := opI fun i j _ _ _ _ _ hc q => PyProof.Rows.floordiv_int hc.1 q (.inl (PyProof.noPylong_of_log2 hc.2))
end
/-- positional values and keywords, the defaults fill up -/
theorem kbindsN {K : PySem.W.Frag} {x qual : Str} {params : Arguments} {body : List Stmt} {scope : Scope} {dvs : List V} {f : Addr} {fd : FuncData} {ps : List Str} (F : FunD K x qual params body scope dvs [] f fd) (n : Nat) (ks : List Str) (g : {α : Type} → List α → List α → List α → List α) (hd : dvs ≠ [])
    (hrel : ∀ {vs ds zs : List V} {us its ws : List Value}, Vals vs us → Vals ds its → Vals zs ws → Vals (g vs ds zs) (g us its ws))
    (h : ∀ (T : Addr) (kV doc pm : Value) (an : Option Addr) (cdv ct : Value) (us its ws : List Value), us.length = n → its.length = dvs.length → ws.length = ks.length →
      ∃ k, bindArgs (PySem.W.fnOf x qual params body scope (.ref T) kV doc pm an cdv ct) ⟨us, ks.zip ws⟩ = seqItems? (.ref T) >>= k ∧ k (some its.toArray) = pure (ps.zip (g us its ws))) :
    ∃ its : List Value, KBn K fd ps n ks (fun us ws => g us its ws) (fun vs zs => g vs dvs zs) := by
  obtain ⟨oc, od, dV, kV, doc, pm, an, cdv, ct, osl, rfl, lk, hcd, hD, hK⟩ := F.ex
  rcases hD with ⟨e, _⟩ | ⟨_, T, o, its, m, rfl, lT, oT, rT⟩
  · exact absurd e hd
  · refine ⟨its, ⟨fun s us ws X l1 l2 => ?_, fun r1 r2 => hrel r1 rT r2⟩⟩
    obtain ⟨k, e1, e2⟩ := h T kV doc pm an cdv ct us its ws l1 rT.length.symm l2
    refine BindsTo.of_looks fun M => ?_
    rw [e1]
    exact looks_items X lT oT (.of_pure e2)
end Cc
namespace Cc
open PySem L2
/-! ### classes of objects: made, and their methods called -/
theorem fnok_x {P : Program} {w : World} {K : PySem.W.Frag} {mg : Str → Option Value} {base : Heap} {k : Nat} {f : Addr} {fd : FuncData} {ps : List Str} {sp : Sp} (F : FnOk P w K mg base CX0 k f fd ps sp) : FnOk P w K mg base (L2.CX P w) k f fd ps sp :=
  ⟨F.len, fun A outer s H args us vs Q E hr he hb hv hs => codeAny_mono (F.run A outer s H args us vs Q E hr he hb hv hs) fun r s' h => by
    cases r with
    | error e => exact h.elim
    | ok fl => cases fl <;> exact h⟩
structure CalM (P : Program) (w : World) (K : PySem.W.Frag) (mg : Str → Option Value) (base : Heap) (lv : Nat) (x : Str) (C : Addr) (ps : List Str) (sp : Sp) : Prop where
  ex : ∃ (f : Addr) (fd : FuncData), Mk K C f ∧ FnOk P w K mg base (L2.CX P w) lv f fd ps sp ∧ mg x = some (.ref C) ∧ Binds K fd ps []
structure CalT (P : Program) (w : World) (K : PySem.W.Frag) (mg : Str → Option Value) (base : Heap) (lv : Nat) (C : Addr) (m : Str) (ps : List Str) (sp : Sp) (dvs : List V) : Prop where
  cl : Cls K C
  ex : ∃ (f : Addr) (fd : FuncData) (ds : List Value), Meth K C m f ∧ FnOk P w K mg base (L2.CX P w) lv f fd ps sp ∧ Binds K fd ps ds ∧ Vals dvs ds
section
variable {X : Cx} {k lv : Nat} {ps ks : List Str} {sp : Sp} {x m : Str} {p pos apos : Pos} {e o : Expr} {es : List Expr} {kws : List Keyword} {t tk : TA} {to : TE} {n : Nat} {gV : List V → List V → List V} {dvs : List V} {W : WX} {C : Addr} {E : XK}
theorem pe_mkC (c : CalM X.prog X.w X.K X.mg X.base lv x C ps sp) (hr : Room k X.A) (hg : Gl X x) (ha : PA X (e :: es) t) (hle : lv + 1 ≤ k := by decide)
    (hdb : (x == ("__debug__" : Str)) = false := by decide) (he : starEach (e :: es) X.env = (false, eval e X.env) :: starEach es X.env := by rfl) (hpl : (backTo pos (starEach es X.env)).any (·.1) = false := by rfl) :
    PE X (.Call (.Name x p) (e :: es) [] pos) (tMake C sp [] L2.E0 t) := by
  obtain ⟨f, fd, M, F, hm, hb⟩ := c.ex
  exact pe_make M F (hr.mono hle) hg hm hb .nil passX ha hdb he hpl
theorem pe_mkCX (c : CalM X.prog X.w X.K X.mg X.base lv x C ps sp) (tk : Takes X (fun cls d _ H => E cls d H)) (hr : Room k X.A) (hg : Gl X x) (ha : PA X (e :: es) t) (hle : lv + 1 ≤ k := by decide)
    (hdb : (x == ("__debug__" : Str)) = false := by decide) (he : starEach (e :: es) X.env = (false, eval e X.env) :: starEach es X.env := by rfl) (hpl : (backTo pos (starEach es X.env)).any (·.1) = false := by rfl) :
    PE X (.Call (.Name x p) (e :: es) [] pos) (tMake C sp [] E t) := by
  obtain ⟨f, fd, M, F, hm, hb⟩ := c.ex
  exact pe_make M F (hr.mono hle) hg hm hb .nil (passes_call tk fun _ _ _ _ h => h) ha hdb he hpl
theorem pe_mkCS (c : CalM X.prog X.w X.K X.mg X.base lv x C ps sp) (tk : Takes X W) (hr : Room k X.A) (hg : Gl X x) (ha : PA X (e :: es) t) (hle : lv + 1 ≤ k := by decide)
    (hdb : (x == ("__debug__" : Str)) = false := by decide) (he : starEach (e :: es) X.env = (false, eval e X.env) :: starEach es X.env := by rfl) (hpl : (backTo pos (starEach es X.env)).any (·.1) = false := by rfl) :
    PE X (.Call (.Name x p) (e :: es) [] pos) (tMakeSD C sp [] (WE W) t) := by
  obtain ⟨f, fd, M, F, hm, hb⟩ := c.ex
  exact pe_makeSD M F (hr.mono hle) hg hm hb .nil (fun σ => passAt tk σ) ha hdb he hpl
theorem pe_mtC {pl : Sem Bool} (c : CalT X.prog X.w X.K X.mg X.base lv C m ps sp dvs) (hr : Room k X.A) (ho : PE X o to) (ha : PA X (e :: es) t) (hle : lv ≤ k := by decide)
    (hst : starEach (e :: es) X.env = (false, eval e X.env) :: starEach es X.env := by rfl) (hpl : (backTo pos (starEach es X.env)).any (·.1) = false := by rfl)
    (ht : eval (.Call (.Attribute o m apos) (e :: es) [] pos) X.env = (do
      let ov ← eval o X.env
      standAt apos.atName
      let (f, first) ← holding [ov] (getMethod ov m pl)
      callWith pos f first (backTo pos (starEach (e :: es) X.env)) (backToKw pos (keywordEach [] X.env))) := by rfl) :
    PE X (.Call (.Attribute o m apos) (e :: es) [] pos) (tMeth C m sp dvs L2.E0 to t) := by
  obtain ⟨f, fd, ds, M, F, hb, hd⟩ := c.ex
  exact pe_meth ho c.cl M F (hr.mono hle) hb hd passX ha hst hpl ht
theorem pe_mtCX {pl : Sem Bool} (c : CalT X.prog X.w X.K X.mg X.base lv C m ps sp dvs) (tk : Takes X (fun cls d _ H => E cls d H)) (hr : Room k X.A) (ho : PE X o to) (ha : PA X (e :: es) t) (hle : lv ≤ k := by decide)
    (hst : starEach (e :: es) X.env = (false, eval e X.env) :: starEach es X.env := by rfl) (hpl : (backTo pos (starEach es X.env)).any (·.1) = false := by rfl)
    (ht : eval (.Call (.Attribute o m apos) (e :: es) [] pos) X.env = (do
      let ov ← eval o X.env
      standAt apos.atName
      let (f, first) ← holding [ov] (getMethod ov m pl)
      callWith pos f first (backTo pos (starEach (e :: es) X.env)) (backToKw pos (keywordEach [] X.env))) := by rfl) :
    PE X (.Call (.Attribute o m apos) (e :: es) [] pos) (tMeth C m sp dvs E to t) := by
  obtain ⟨f, fd, ds, M, F, hb, hd⟩ := c.ex
  exact pe_meth ho c.cl M F (hr.mono hle) hb hd (passes_call tk fun _ _ _ _ h => h) ha hst hpl ht
theorem pe_mtCS {pl : Sem Bool} (c : CalT X.prog X.w X.K X.mg X.base lv C m ps sp dvs) (tk : Takes X W) (hr : Room k X.A) (ho : PE X o to) (ha : PA X (e :: es) t) (hle : lv ≤ k := by decide)
    (hst : starEach (e :: es) X.env = (false, eval e X.env) :: starEach es X.env := by rfl) (hpl : (backTo pos (starEach es X.env)).any (·.1) = false := by rfl)
    (ht : eval (.Call (.Attribute o m apos) (e :: es) [] pos) X.env = (do
      let ov ← eval o X.env
      standAt apos.atName
      let (f, first) ← holding [ov] (getMethod ov m pl)
      callWith pos f first (backTo pos (starEach (e :: es) X.env)) (backToKw pos (keywordEach [] X.env))) := by rfl) :
    PE X (.Call (.Attribute o m apos) (e :: es) [] pos) (tMethSD C m sp dvs (WE W) to t) := by
  obtain ⟨f, fd, ds, M, F, hb, hd⟩ := c.ex
  exact pe_methSD ho c.cl M F (hr.mono hle) hb hd (fun σ => passAt tk σ) ha hst hpl ht
theorem pe_mtC0 {pl : Sem Bool} (c : CalT X.prog X.w X.K X.mg X.base lv C m ps sp dvs) (hr : Room k X.A) (ho : PE X o to) (hle : lv ≤ k := by decide)
    (ht : eval (.Call (.Attribute o m apos) [] [] pos) X.env = (do
      let ov ← eval o X.env
      standAt apos.atName
      let (f, first) ← holding [ov] (getMethod ov m pl)
      callWith pos f first (backTo pos (starEach [] X.env)) (backToKw pos (keywordEach [] X.env))) := by rfl) :
    PE X (.Call (.Attribute o m apos) [] [] pos) (tMeth C m sp dvs L2.E0 to tNil) := by
  obtain ⟨f, fd, ds, M, F, hb, hd⟩ := c.ex
  exact pe_meth0 ho c.cl M F (hr.mono hle) hb hd passX ht
end
section
variable {X : Cx} {x n y : Str} {c : Value} {i j : Nat} {body : List Stmt} {np pos pos' pn' pa py : Pos} {tb : WX → TS}
theorem ps_tryK (hs : X.stack = X.env :: X.outer) (hf : X.env.frame = some X.env.locals) (hex : X.ex = []) (hN : X.N.Nodup) (hi : X.N[i]? = some n) (hj : X.N[j]? = some y) (hln : X.env.kindOf n = some .local) (hly : X.env.kindOf y = some .local) (hc : Names X x c)
    (hdn : (n == ("__debug__" : Str)) = false) (hdc : (n == ("__classdict__" : Str)) = false)
    (hb : ∀ (W : WX) (pn : List (Addr × Obj)) (xe : Value → Shared → Prop), Takes (X.tr pn xe) W → PassesOwn (model X.prog X.w) X.A X.env xe → PSs (X.tr pn xe) body (tb W))
    (hsw : ∀ a pn, PS (X.suite a pn) (.Assign [.Name y py] (.Name n pn') pa) (tAsg (tVar i) (gName j))) :
    PS X (.Try body [.ExceptHandler (some (.Name x np)) (some n) [.Assign [.Name y py] (.Name n pn') pa] pos'] [] [] pos) (tKeep X.K c i j tb) := ps_try_keep hs hf hex hN hi hj hln hly hc hdn hdc hb hsw
end
end Cc
namespace PySem
namespace SupX
open PySem.W PySem.Calls PyProof.Rows PySem.HandSPX
/-! ### an own exception over SlackError, over ValueError, whose __init__ says super().__init__('..') and stores one field -/
/-- what the written part says of the class x at C, its __init__ at fI -/
structure ExTxt (K : Frag) (mg : Str → Option Value) (C : Addr) : Prop where
  cls : ∃ nm q N bs bm sn sub ab col dd k0 k1 k2 k3 k5, K.lookup C = some (excClassObj nm q C N bs bm true sn sub ab col dd k0 k1 k2 k3 k5 "ValueError.__new__") ∧ refsVE bm = true
  sa : findIn K (.ref C) "__setattr__" = some (some (.builtin "object.__setattr__"))
  ga : findIn K (.ref C) "__getattribute__" = some (some (.builtin "BaseException.__getattribute__"))
  gg : findIn K (.ref C) "__getattr__" = some none
  kC : keepIn K (.ref C) = true
  exC : subIn K (.ref C) (.type "BaseException") = some true
  veC : subIn K (.ref C) (.type "ValueError") = some true
  tyC : typeIn K (.ref C) = some (.type "type")
  hdC : hasDictIn K C = true
theorem one_size (v : Value) : [v].length ≤ sizeLine := by
  rw [sizeLine_eq]
  exact (by decide : 1 ≤ 16777216)
structure InitEnd (f : Str) (h h' : Heap) (x C dx t1 : Addr) (v : Value) : Prop where
  keep : ∀ b o, b ≠ x → h.get? b = some o → h'.get? b = some o
  obj : h'.get? x = some { cls := .ref C, dict := some dx, data := .fields #[.ref t1, .none, .none, .none, .bool false, .none] }
  dbig : h.objs.size ≤ dx
  dne : dx ≠ x
  ns : h'.Ns1 dx (fun y => if y = f then some v else none)
structure OwnMade (f : Str) (h h' : Heap) (e C d : Addr) (v : Value) : Prop where
  keep : ∀ b o, h.get? b = some o → h'.get? b = some o
  new : h.objs.size ≤ e
  obj : ∃ t1 : Addr, h'.get? e = some { cls := .ref C, dict := some d, data := .fields #[.ref t1, .none, .none, .none, .bool false, .none] }
  dbig : h.objs.size ≤ d
  dne : d ≠ e
  ns : h'.Ns1 d (fun y => if y = f then some v else none)
section
variable {prog : Program} {w : World} {A : Around} {E : Value → Shared → Prop} {R : Result → Shared → Prop} {s : Shared} {K : Frag} {mg : Str → Option Value} {C fI : Addr} {f : Str}
theorem callWith_mw {M : Model} {pos : Pos} {env : Env} {e : Expr} {rest : List Expr} {u x : Addr} {i : String} {Q : Value → Shared → Prop}
    (h : wpAny M A (spliced (backTo pos (starEach (e :: rest) env))) (fun vs s₁ => KxsAt i u x s₁.heap ∧ wpAny M A (call (.ref u) vs) Q E s₁) E s)
    (he : starEach (e :: rest) env = (false, eval e env) :: starEach rest env := by rfl) (hplain : (backTo pos (starEach rest env)).any (·.1) = false := by rfl) :
    wpAny M A (callWith pos (.ref u) [] (backTo pos (starEach (e :: rest) env)) []) Q E s := by
  rw [he] at h ⊢
  refine kxs_callWith (i := i) (x := x) (by show (false || (backTo pos (starEach rest env)).any (·.1)) = false; rw [hplain]; rfl) ?_
  exact evalArgs_plain h
/-- the built-in __init__ bound to a fresh exception, called -/
theorem call_mw {u e t0 : Addr} {rest : List Value} {Q : Value → Shared → Prop} (T : ExTxt K mg C) (X : K.In s.heap) (he : s.heap.get? e = some (excO C t0)) (hu : s.heap.get? u = some (kxs_mw "ValueError.__init__" e)) (hrest : rest.length ≤ sizeLine)
    (hq : ∀ h' t1, (∀ b o, b ≠ e → s.heap.get? b = some o → h'.get? b = some o) → h'.get? e = some (excO C t1) → Q .none { s with heap := h' }) :
    wpAny (model prog w) A (call (.ref u) rest) Q E s := by
  obtain ⟨nm, q, N, bs, bm, sn, sub, ab, col, dd, k0, k1, k2, k3, k5, hC, hbm⟩ := T.cls
  obtain ⟨hh, g, d, tk, os⟩ := s
  refine wpAny_call (codeAny_of_tree ?_)
  show wpAny _ A.in1 (callAny (.ref u) ⟨rest, []⟩) _ _ _
  simp only [callAny]
  refine wpAny_bind (wpAny_load hu ?_)
  simp only [kxs_mw, show (Value.type "method-wrapper" == Value.type "method" || Value.type "method-wrapper" == Value.type "builtin_function_or_method" || Value.type "method-wrapper" == Value.type "method-wrapper") = true by decide, if_true]
  refine KFB.if_so (by decide) ?_
  refine wpAny_bind (check_bound_init F.excBase_ValueError.toExcCallFacts (X _ _ hC) he rfl ?_)
  refine wpAny_bind (wpAny_pure (wpAny_pure ?_))
  refine ⟨plainId_quiet F.excBase_ValueError.init.plain _, codeAny_builtin F.excBase_ValueError.initEntry ?_⟩
  exact exc_init_tree (cls := .ref C) (t0 := t0) (dv := none) (c2 := .none) (c3 := .none) (b4 := .bool false) he hrest fun h' k e' _ => hq h' _ k e'
end
end SupX
end PySem
namespace Toy
open PySem
def top (i : Nat) : Stmt := PySem.Challenge.pw_eitherslack_k05_tables_refused.main.body.getD i (.Pass ⟨0, 0, 0, 0⟩)
abbrev RW0 : Program := PySem.Challenge.pw_eitherslack_k05_tables_refused
end Toy
namespace PySem
namespace SupX
open PySem.W PySem.Calls PyProof.Rows PySem.HandSPX L2
abbrev si_NoTable : Stmt := inClass (Toy.top 4) 0
structure In_NoTable (K : Frag) (mg : Str → Option Value) (C fI : Addr) : Prop where
  gC : mg "NoTable" = some (.ref C)
  noN : findIn K (.ref C) "place" = some none
  iC : findIn K (.ref C) "__init__" = some (some (.ref fI))
  tC : typeIn K (.ref fI) = some (.type "function")
  sup : mg "super" = none
  opq : nsIn K cStatics "thirdparty.any" = some none
  along : ks_superIn K C C "__init__" = some (some (.builtin "ValueError.__init__"))
  mro : mroIn K C (.ref C) = some true
  fn : ∃ (oc : Value) (od : Option Addr) (kV doc pm : Value) (an : Option Addr) (cda cc : Addr) (ct : Value) (osl : Array (Option Value)) (ccl : Value) (cdd : Option Addr) (vs : Array Value) (ccs : Array (Option Value)) (file : Str) (tf : Tok) (cl : Value) (cld : Option Addr) (csl : Array (Option Value)),
    K.lookup fI = some ⟨oc, od, .func (ksFn "__init__" "NoTable.__init__" (defArgs si_NoTable) (defBody si_NoTable) (defScope si_NoTable) .none kV doc pm an (.ref cda) ct cc), osl⟩ ∧ codeIn K (.ref cda) "NoTable.__init__" = true ∧
    K.lookup cda = some ⟨ccl, cdd, .fields vs, ccs⟩ ∧ vs[2]? = some (.str file tf) ∧ ((PySem.Challenge.pw_eitherslack_k05_tables_refused.main.file : Str) == file) = true ∧ K.lookup cc = some ⟨cl, cld, .cell (some (.ref C)), csl⟩
section
variable {w : World} {A : Around} {E : Value → Shared → Prop} {R : Result → Shared → Prop} {s : Shared} {K : Frag} {mg : Str → Option Value} {C fI : Addr}
theorem init_NoTable (T : ExTxt K mg C) (J : In_NoTable K mg C fI) {x t0 : Addr} {v : Value} (X : K.In s.heap) (hlim : s.heap.NoLimit) (hgl : s.heap.Ns mainGlobals mg) (hbl : ∃ mb, s.heap.Ns builtinsNs mb ∧ ∀ x : Str, x ≠ "__name__" → mb x = bootBuiltins x) (hx : s.heap.get? x = some (excO C t0)) (hnx : K.lookup x = none) (hroom : A.depth < recursionLimit)
    (hq : ∀ h' tk dx t1, InitEnd "place" s.heap h' x C dx t1 v → R (.ok (.ret .none)) { s with heap := h', toks := tk }) :
    codeAny (model PySem.Challenge.pw_eitherslack_k05_tables_refused w) A (.call (.ref fI) ⟨[.ref x, v], []⟩) R s := by
  obtain ⟨oc, od, kV, doc, pm, an, cda, cc, ct, osl, ccl, cdd, vs, ccs, file, tf, cl, cld, csl, hfn, hcd, hcode, hvs, hfile, hcell⟩ := J.fn
  obtain ⟨nm, q, N, bs, bm, sn, sub, ab, col, dd, k0, k1, k2, k3, k5, hC, hbm⟩ := T.cls
  obtain ⟨mb, hb1, hb2⟩ := hbl
  have hcl : clsIn K C = some { name := nm, bases := bs, mro := .ref C :: bm, ns := N, qualname := q, hasDict := true, slotNames := sn, subclasses := sub, abstract := ab, collection := col, hasDel := false } := by unfold clsIn; rw [hC] <;> rfl
  have hxC : x ≠ C := fun z => by
    rw [z, hC] at hnx
    cases hnx
  refine ks_codeAny_call_defAt (binds := [(("self" : Str), .ref x), (("place" : Str), v)]) hroom (X _ _ hfn) rfl hlim (codeRec_of X hcd) rfl (BindsTo.of_eq (by first | rfl | with_unfolding_all rfl)) (show ∀ y ∈ (defScope si_NoTable).names, y.2 ≠ NameKind.cell by decide +kernel) (fun y hy => ?_) (fun h₁ hns kp₁ => ?_) rfl rfl rfl
  · rcases List.mem_cons.mp hy with rfl | hy
    · rfl
    · rw [List.mem_singleton.mp hy]
      rfl
  obtain ⟨hp, g, dr, tk0, os⟩ := s
  have X₁ : K.In h₁ := X.keeps kp₁
  have hx₁ := kp₁ _ _ hx
  have hLx : hp.objs.size ≠ x := Nat.ne_of_gt (Heap.lt_size hx)
  refine ks_wpAt_execs_cons (ks_wpAt_Expr_any (ks_wpAt_MethodCall ?_))
  refine ks_wpAt_super_base (env := ksEnv "NoTable.__init__" (defScope si_NoTable) hp.objs.size fI (.ref cda) cc) rfl rfl (by decide) rfl (X₁ _ _ hfn) rfl rfl rfl (X₁ _ _ hcode) rfl hvs hfile (by decide +kernel) ?_
  refine ks_loadName_global rfl rfl (loadGlobal_builtin (env := ksEnv "NoTable.__init__" (defScope si_NoTable) hp.objs.size fI (.ref cda) cc) (hgl.keeps kp₁) J.sup (hb1.keeps kp₁) ((hb2 _ (by decide +kernel)).trans (by decide +kernel)) ⟨rfl, ?_⟩)
  refine wpAny_loadName_free rfl rfl rfl ⟨_, X₁ _ _ hcell, rfl⟩ ?_
  refine wpAny_loadName_local rfl rfl hns rfl ?_
  refine ks_wpAny_isType_cls (X₁ _ _ hC) rfl ⟨rfl, ?_⟩
  refine ks_wpAny_call_super (X₁ _ _ hC) rfl hx₁ rfl (fun c e => nomatch e) (looks_mroIn X₁ J.mro) (fun h₂ e₂ kp₂ => ?_)
  have X₂ : K.In h₂ := X₁.keeps kp₂
  have hx₂ := kp₂ _ _ hx₁
  have ial : alongIn K "__init__" (((Value.ref C :: bm).dropWhile (· != .ref C)).drop 1) = some (some (.builtin "ValueError.__init__")) := by
    have z := J.along
    unfold ks_superIn at z
    rw [hcl] at z
    exact z
  have I₂ : InstAt h₂ x (excO C t0) C none := ⟨hx₂, rfl, rfl, trivial⟩
  refine kxs_getMethod kxs_ValueError e₂ (looks_opaque X₂ J.opq) (l₀ := .ref C :: bm) ?_ rfl X₂ ial (I₂.type.andThen (looks_subIn X₂ T.veC)) hxC (by decide) ?_
  · exact fun A Q E s k q => wpAny_bind ((looks_clsIn X₂ hcl) A _ E s k (wpAny_pure q))
  have up : ∀ b o, h₂.get? b = some o → (h₂.push (kxs_mw "ValueError.__init__" x)).get? b = some o := fun b o e => Heap.get?_push_of_some _ e
  refine callWith_mw (i := "ValueError.__init__") (x := x) ?_
  show wpAny _ _ (spliced ((false, eval (.Constant (.str _) 0 ⟨0, 0, 0, 0⟩) (ksEnv "NoTable.__init__" (defScope si_NoTable) hp.objs.size fI (.ref cda) cc)) :: [])) _ _ _
  refine spliced_cons (Constant_str (spliced_nil ⟨Heap.get?_push_at rfl rfl, ?_⟩))
  have X₃ : K.In (h₂.push (kxs_mw "ValueError.__init__" x)) := X₂.keeps up
  refine call_mw (s := ⟨h₂.push (kxs_mw "ValueError.__init__" x), g, dr, _, os⟩) T X₃ (up _ _ hx₂) (Heap.get?_push_at rfl rfl) (one_size _) fun h₄ t1 kp₄ hx₄ => ?_
  -- self.f = f
  have old : ∀ b o, b ≠ x → h₁.get? b = some o → h₄.get? b = some o := fun b o hb e => kp₄ b o hb (up _ _ (kp₂ _ _ e))
  have X₄ : K.In h₄ := fun a o e => kp₄ a o (fun z => by rw [z, hnx] at e; cases e) (X₃ a o e)
  obtain ⟨oL, es, ep, hL, rL⟩ := hns
  have hns₄ : h₄.Ns hp.objs.size (fun y => ([(("self" : Str), Value.ref x), (("place" : Str), v)] : List (Str × Value)).reverse.lookup y) := ⟨oL, es, ep, old _ _ hLx hL, rL⟩
  refine ks_wpAt_execs_cons (wpAt_of_wpAny (plainObj_wpAny_Assign_Attribute ?_))
  refine ESX.ldL (v := v) hns₄ (by first | rfl | with_unfolding_all rfl | kernel_rfl) (ESX.ldL (v := .ref x) hns₄ (by first | rfl | with_unfolding_all rfl | kernel_rfl) ?_)
  refine set_plain X₄ (ox := excO C t1) (od := none) ⟨hx₄, rfl, rfl, trivial⟩ T.sa ?_
  refine exc_osa X₄ hx₄ hcl (show refsVE (.ref C :: bm) = true from hbm) rfl J.noN (fun h₅ tk₅ dx kp₅ dn dne hx₅ hn₅ => ?_)
  have dbig : hp.objs.size ≤ h₄.objs.size := Nat.le_of_lt hns₄.lt
  exact wpAt_of_wpAny (wpAny_execs_nil (hq h₅ tk₅ dx t1 ⟨fun b o hb e => kp₅ b o hb (old b o hb (kp₁ b o e)), hx₅, Nat.le_trans dbig dn, dne, hn₅⟩))
theorem made_NoTable (T : ExTxt K mg C) (J : In_NoTable K mg C fI) {v : Value} (X : K.In s.heap) (hlim : s.heap.NoLimit) (hgl : s.heap.Ns mainGlobals mg) (hbl : ∃ mb, s.heap.Ns builtinsNs mb ∧ ∀ x : Str, x ≠ "__name__" → mb x = bootBuiltins x) (hroom : A.depth + 1 < recursionLimit)
    (hq : ∀ h' tk e d, OwnMade "place" s.heap h' e C d v → R (.ok (.ret (.ref e))) { s with heap := h', toks := tk }) :
    codeAny (model PySem.Challenge.pw_eitherslack_k05_tables_refused w) A (.call (.ref C) ⟨[v], []⟩) R s := by
  obtain ⟨nm, q, N, bs, bm, sn, sub, ab, col, dd, k0, k1, k2, k3, k5, hC, hbm⟩ := T.cls
  obtain ⟨hp, g, dr, tk, os⟩ := s
  have k : ∀ b o, hp.get? b = some o → ((hp.push (kdv_tup [v])).push (excO C hp.objs.size)).get? b = some o := fun b o e => Heap.get?_push_of_some _ (Heap.get?_push_of_some _ e)
  have hget : ((hp.push (kdv_tup [v])).push (excO C hp.objs.size)).get? (hp.objs.size + 1) = some (excO C hp.objs.size) := by heap_get
  have hnx : K.lookup (hp.objs.size + 1) = none := by
    cases e : K.lookup (hp.objs.size + 1) with
    | none => rfl
    | some o =>
      have z : hp.get? (hp.objs.size + 1) = some o := X _ _ e
      exact absurd (Nat.lt_of_succ_lt (Heap.lt_size z)) (Nat.lt_irrefl _)
  refine call_own F.excBase_ValueError (fun X => refsVE_contains X bm hbm) (X _ _ hC) (looks_findIn X J.iC) (fun self => bind_fn X self J.tC) (one_size v) ?_
  obtain ⟨mb, hb1, hb2⟩ := hbl
  refine init_NoTable (s := ⟨(hp.push (kdv_tup [v])).push (excO C hp.objs.size), g, dr, tk, os⟩) T J (X.keeps k) (hlim.keeps k) (hgl.keeps k) ⟨mb, hb1.keeps k, hb2⟩ hget hnx hroom fun h' tk' dx t1 ⟨k', hx, dn, dne, hns⟩ => ?_
  have old : ∀ b o, hp.get? b = some o → h'.get? b = some o := fun b o e => k' b o (Nat.ne_of_lt (Nat.lt_succ_of_lt (Heap.lt_size e))) (k b o e)
  have z : hp.objs.size + 1 + 1 ≤ dx := by
    first
      | (simpa only [Heap.size_push] using dn)
      | exact dn
      | (have q := dn; rw [Heap.size_push, Heap.size_push] at q; exact q)
  exact ⟨rfl, hq h' tk' (hp.objs.size + 1) dx ⟨old, Nat.le_succ _, ⟨t1, hx⟩, Nat.le_trans (Nat.le_trans (Nat.le_succ _) (Nat.le_succ _)) z, dne, hns⟩⟩
end
end SupX
end PySem
namespace L2
open PySem PySem.Spec PyProof.Rows
section
variable {X : Cx} {C fI : Addr}
theorem relO_NoTable {v : V} {v' : Value} (r : RelV v v') (f : Str) : RelO (List.lookup f [(("place" : Str), v)]) (if f = "place" then some v' else none) := by
  by_cases hw : f = "place"
  · subst hw
    rw [if_pos rfl]
    have q : List.lookup ("place" : Str) [(("place" : Str), v)] = some v := by simp [List.lookup]
    rw [q]
    exact r
  · rw [if_neg hw]
    have qw : (f == ("place" : Str)) = false := by simpa using hw
    have q2 : List.lookup f [(("place" : Str), v)] = none := by simp [List.lookup, qw]
    rw [q2]
    trivial
def tMk_NoTable (C : Addr) (ta : TA) : St → Hp → XK → Prop := fun σ H Q => ta σ H fun vs H1 => ∃ v, vs = [v] ∧ ∀ d, H1 d = none → Q (.ref C) (some d) (upd H1 d (.xd [(("place" : Str), v)]))
theorem pmk_NoTable {a : Expr} {ta : TA} {p pos : Pos} {k : Nat} (hprog : X.prog = PySem.Challenge.pw_eitherslack_k05_tables_refused) (T : PySem.SupX.ExTxt X.K X.mg C) (J : PySem.SupX.In_NoTable X.K X.mg C fI) (hr : Room k X.A) (ha : PA X [a] ta) (hg : Gl X "NoTable" := by rfl)
    (he : starEach (a :: []) X.env = (false, eval a X.env) :: starEach [] X.env := by rfl) (hpl : (backTo pos (starEach [] X.env)).any (·.1) = false := by rfl) :
    PMk X (.Call (.Name "NoTable" p) [a] [] pos) (tMk_NoTable C ta) := by
  intro pins s σ H Q I h
  refine wpAny_Call_Name_kw (ld_glob I hg J.gC ?_)
  refine PySem.W.callWith_K (h₀ := X.base) I.ok.mod.kin T.kC (thn (ha.run pos pins s σ H _ I h) fun us s1 hh => ?_) he hpl
  obtain ⟨vs, H1, I1, r1, v, ev, q1⟩ := hh
  subst ev
  refine ⟨I1.kIn, ?_⟩
  cases r1 with
  | cons rv rn =>
    rename_i v' us'
    cases rn
    show wpAny _ _ (call (.ref C) [v']) _ _ _
    have hlim := I1.nolimit
    have hgl := I1.mod.glob.keeps I1.bk
    obtain ⟨mb, hb1, hb2⟩ := I1.mod.blt
    have hbl := hb1.keeps I1.bk
    obtain ⟨hp, g, dr, tk, os⟩ := s1
    rw [hprog]
    refine wpAny_call (PySem.SupX.made_NoTable T J I1.kIn hlim hgl ⟨mb, hbl, hb2⟩ (by have := hr.dp; omega) fun h' tk' e d M => ?_)
    show MkP X pins σ Q (.ref e) ⟨h', g, dr, tk', os⟩
    obtain ⟨t1, hoe⟩ := M.obj
    have hns := M.ns
    obtain ⟨G', g1, g2⟩ := restrict h' fun b => decide (b ≠ e)
    have gk : ∀ b, b ≠ e → G'.get? b = h'.get? b := fun b hb => g1 b (decide_eq_true hb)
    have ge : G'.get? e = none := g2 e (by simp)
    have old : ∀ b o, hp.get? b = some o → G'.get? b = some o := fun b o q => (gk b (Nat.ne_of_lt (Nat.lt_of_lt_of_le (Heap.lt_size q) M.new))).trans (M.keep b o q)
    have ob : ObjOk X.prog X.w (upd H1 d (.xd [(("place" : Str), v)])) G' d (.xd [(("place" : Str), v)]) :=
      ⟨_, hns.at (fun o q => (gk d M.dne).trans q), fun f => relO_NoTable rv f⟩
    have J2 : Inv X pins σ (upd H1 d (.xd [(("place" : Str), v)])) ⟨G', g, dr, tk', os⟩ := I1.laid (t' := tk') old M.dbig ob
    refine ⟨e, _, _, ⟨G', g, dr, tk', os⟩, _, .ref C, some d, rfl, J2, fun b o q => ?_, ge, hoe, ⟨rfl, rfl⟩, rfl, rfl, ?_, rfl, I1.bare, raises_own T.exC T.tyC, q1 d (I1.hok.fresh M.dbig)⟩
    · by_cases hb : b = e
      · have q' : G'.get? b = some o := q
        rw [hb, ge] at q'; cases q'
      · exact (gk b hb).symm.trans q
    · rw [upd_ne (Ne.symm M.dne)]
      exact I1.hok.fresh M.new
end
end L2

namespace Toy
open PySem L2 Cc Da
structure Adr where
  (SlackError NoNumber NoTable NoRow NoChoice Flat NoSaying Lifted NoCover Dipped NotOne NoText NoLine NoName Table : Addr)
structure Txt (K : PySem.W.Frag) (mg : Str → Option Value) (c : Adr) : Prop where
  abs : mg "abs" = none
  len : mg "len" = none
  range : mg "range" = none
  isinstance : mg "isinstance" = none
  zip : mg "zip" = none
  int_ : mg "int" = none
  enumerate : mg "enumerate" = none
  list_ : mg "list" = none
  tuple_ : mg "tuple" = none
  ValueError_ : mg "ValueError" = none
  k_MOST_PLACES : ∃ tk, mg "MOST_PLACES" = some (.int (5) tk)
  g_SlackError : mg "SlackError" = some (.ref c.SlackError)
  g_NoNumber : mg "NoNumber" = some (.ref c.NoNumber)
  g_NoTable : mg "NoTable" = some (.ref c.NoTable)
  g_NoRow : mg "NoRow" = some (.ref c.NoRow)
  g_NoChoice : mg "NoChoice" = some (.ref c.NoChoice)
  g_Flat : mg "Flat" = some (.ref c.Flat)
  g_NoSaying : mg "NoSaying" = some (.ref c.NoSaying)
  g_Lifted : mg "Lifted" = some (.ref c.Lifted)
  g_NoCover : mg "NoCover" = some (.ref c.NoCover)
  g_Dipped : mg "Dipped" = some (.ref c.Dipped)
  g_NotOne : mg "NotOne" = some (.ref c.NotOne)
  g_NoText : mg "NoText" = some (.ref c.NoText)
  g_NoLine : mg "NoLine" = some (.ref c.NoLine)
  g_NoName : mg "NoName" = some (.ref c.NoName)
  g_Table : mg "Table" = some (.ref c.Table)
structure KindOf (K : PySem.W.Frag) (c : Adr) (D : Addr) (b : Nat → Bool) : Prop where
  ec : ExcC K D
  ve : PySem.W.kitOne K (.ref D) (.type "ValueError") = some true
  sl : PySem.W.kitOne K (.ref D) (.ref c.SlackError) = some true
  q1 : PySem.W.kitOne K (.ref D) (.ref c.NoNumber) = some (b 1)
  q2 : PySem.W.kitOne K (.ref D) (.ref c.NoTable) = some (b 2)
  q3 : PySem.W.kitOne K (.ref D) (.ref c.NoRow) = some (b 3)
  q4 : PySem.W.kitOne K (.ref D) (.ref c.NoChoice) = some (b 4)
  q5 : PySem.W.kitOne K (.ref D) (.ref c.Flat) = some (b 5)
  q6 : PySem.W.kitOne K (.ref D) (.ref c.NoSaying) = some (b 6)
  q7 : PySem.W.kitOne K (.ref D) (.ref c.Lifted) = some (b 7)
  q8 : PySem.W.kitOne K (.ref D) (.ref c.NoCover) = some (b 8)
  q9 : PySem.W.kitOne K (.ref D) (.ref c.Dipped) = some (b 9)
  q10 : PySem.W.kitOne K (.ref D) (.ref c.NotOne) = some (b 10)
  q11 : PySem.W.kitOne K (.ref D) (.ref c.NoText) = some (b 11)
  q12 : PySem.W.kitOne K (.ref D) (.ref c.NoLine) = some (b 12)
  q13 : PySem.W.kitOne K (.ref D) (.ref c.NoName) = some (b 13)
def Pile (H : Hp) (p : Addr) : Prop := ∃ x y z : Int, H p = some (.lst [.int x, .int y, .int z])
end Toy
namespace Toy
open PySem L2 Cc Da
section
variable {P : Program} {w : World} {K : PySem.W.Frag} {mg : Str → Option Value} {base : Heap}
theorem cdiv {i j : Int} {b : Nat} (h : 0 < j) (hb : j.natAbs < 2 ^ b) (h0 : 0 < b := by decide) (h9 : b ≤ 9000 := by decide) : CDivW i j := wide_div h hb h0 h9
theorem cmul {i j : Int} {a b : Nat} (ha : i.natAbs < 2 ^ a) (hb : j.natAbs < 2 ^ b) (h0 : 0 < a := by decide) (h1 : 0 < b := by decide) (h : a + b ≤ 1000000 := by decide) : CMulW i j := wide_mul ha hb h0 h1 h
/-! ### the law's draws -/
theorem fm {x m : Int} (h : 0 < m) : 0 ≤ x.fmod m ∧ x.fmod m < m := ⟨Int.fmod_nonneg_of_pos x h, Int.fmod_lt_of_pos x h⟩
theorem sm {x : Int} {n : Nat} (h0 : 0 ≤ x) (h : x < ((2 ^ n : Nat) : Int)) : x.natAbs < 2 ^ n := by omega
theorem fm64 {x m : Int} (h : 0 < m) (h2 : m < 18446744073709551616) : (x.fmod m).natAbs < 2 ^ 64 := by
  have := fm (x := x) h
  show (x.fmod m).natAbs < 18446744073709551616
  omega
def spMix : Sp := fun vs H Q _ => ∃ a b : Int, vs = [.int a, .int b] ∧ ∀ d : Int, Q (.int d) H
abbrev s__law_mixed : Stmt := top 50
theorem sc__law_mixed : FnScope ["_law_cell", "_law_k", "_law_number_here"] ["_law_cell", "_law_k"] (defScope s__law_mixed) := ⟨rfl, rfl, rfl, by decide +kernel, rfl, by decide +kernel, by decide +kernel⟩
theorem ok_mix {f : Addr} {fd : FuncData} {k : Nat} (F : Fun K "_law_mixed" "_law_mixed" s__law_mixed f fd) : FnOk P w K mg base CX0 (k + 1) f fd ["_law_cell", "_law_k"] spMix := by
  refine F.ok sc__law_mixed (fun vs H Q E h => ?_) (fun cdv A outer s H vs Q E hr h => ?_)
  · obtain ⟨a, b, rfl, _⟩ := h
    rfl
  · obtain ⟨a, b, rfl, q⟩ := h
    refine ⟨_, (pss_cons (ps_set (i := 2) sc__law_mixed.nd rfl (Or.inl rfl) (pe_op op_modN (pe_op op_add (pe_op op_add (pe_op op_mulW (pe_op op_modN (pv 0) pe_int) pe_int) (pe_op op_mul (pv 1) pe_int)) pe_int) pe_int))
      (pss_cons (ps_set (i := 2) sc__law_mixed.nd rfl (Or.inl rfl) (pe_op op_modN (pe_op op_mulW (pv 2) (pv 2)) pe_int))
      (pss_one (ps_ret (pe_op op_fdivW (pe_op op_modN (pe_op op_mulW (pv 2) (pv 2)) pe_int) pe_int))))), ?_⟩
    have n1 : (2147483647 : Int) ≠ 0 := by decide
    have n2 : (2147483629 : Int) ≠ 0 := by decide
    have n3 : (2147483587 : Int) ≠ 0 := by decide
    refine ⟨_, rfl, _, _, rfl, rfl, n1, _, _, rfl, rfl, cmul (a := 64) (b := 64) (fm64 (by decide) (by decide)) (by decide), ?_⟩
    refine ⟨_, rfl, _, _, rfl, rfl, .inr ⟨by decide, by decide⟩, _, _, rfl, rfl, _, _, rfl, rfl, _, _, rfl, rfl, n1, ?_⟩
    refine ⟨_, rfl, _, rfl, _, _, rfl, rfl, cmul (a := 64) (b := 64) (fm64 (by decide) (by decide)) (fm64 (by decide) (by decide)), _, _, rfl, rfl, n2, ?_⟩
    exact ⟨_, rfl, _, rfl, _, _, rfl, rfl, cmul (a := 64) (b := 64) (fm64 (by decide) (by decide)) (fm64 (by decide) (by decide)), _, _, rfl, rfl, n3, _, _, rfl, rfl, cdiv (b := 64) (by decide) (by decide), q _⟩
def spPile (K : PySem.W.Frag) : Sp := fun vs H Q _ => ∃ (a : Addr) (ns : List Int) (k : Int), vs = [.ref a, .int k] ∧ SqL K H a (ns.map V.int) ∧ 0 ≤ k ∧
  ∀ p H', Same H H' → H p = none → Pile H' p → Q (.ref p) H'
abbrev s__law_pile : Stmt := top 51
theorem sc__law_pile : FnScope ["_law_script", "_law_k", "_law_cell"] ["_law_script", "_law_k"] (defScope s__law_pile) := ⟨rfl, rfl, rfl, by decide +kernel, rfl, by decide +kernel, by decide +kernel⟩
theorem ok_pile {f : Addr} {fd : FuncData} {k : Nat} (F : Fun K "_law_pile" "_law_pile" s__law_pile f fd) {c : Adr} (T : Txt K mg c) : FnOk P w K mg base CX0 (k + 1) f fd ["_law_script", "_law_k"] (spPile K) := by
  refine F.ok sc__law_pile (fun vs H Q E h => ?_) (fun cdv A outer s H vs Q E hr h => ?_)
  · obtain ⟨a, ns, k, rfl, _⟩ := h
    rfl
  · obtain ⟨a, ns, k, rfl, hS, k0, q⟩ := h
    refine ⟨_, (pss_cons (ps_set (i := 2) sc__law_pile.nd rfl (Or.inl rfl) pe_int)
      (pss_cons (ps_if (pt_cmpR op_lt (pv 1) (pe_callB (id := "len") (r := rLenK K) call_lenK (by rfl) T.len (by decide +kernel) (pa_cons (pv 0) pa_nil)) (nomark _))
        (pss_one (ps_set (i := 2) sc__law_pile.nd rfl (Or.inl rfl) (pe_ix ix_list (pv 0) (pv 1) (fun _ _ => rfl))))
        pss_nil)
      (pss_one (ps_ret (pe_lst (pa_cons (pe_ix ix_list (pe_lst (pa_cons pe_int (pa_cons (pe_op op_modN (pv 2) (pe_op op_mulW (pe_op op_mulW (pe_op op_pow pe_int pe_int) (pe_op op_pow pe_int pe_int)) (pe_op op_pow pe_int pe_int))) pa_nil))) (pe_callTy (T := "int") (r := rInt1) call_int1R (by rfl) T.int_ (by decide +kernel) (pa_cons (pe_cmpR op_ge (pe_callB (id := "abs") (r := rAbs) call_absR (by rfl) T.abs (by decide +kernel) (pa_cons (pv 2) pa_nil)) (pe_op op_pow pe_int pe_int) (nomark _)) pa_nil)) (fun _ _ => rfl)) (pa_cons (pe_op op_modN (pv 2) pe_int) (pa_cons (pe_op op_mul pe_int (pv 1)) pa_nil)))))))), ?_⟩
    -- behind the if: some cell
    have rest : ∀ cell : Int, tRet (tLst (tCons (tOp (rIxL K) (tLst (tCons (tC (.int 0)) (tCons (tOp (rI (fun _ j => j ≠ 0) fun i j => .int (i.fmod j)) (tVar 2) (tOp (rI CMulW fun i j => .int (i * j)) (tOp (rI CMulW fun i j => .int (i * j)) (tOp (rI CPow fun i j => .int (i ^ j.toNat)) (tC (.int 10)) (tC (.int 50))) (tOp (rI CPow fun i j => .int (i ^ j.toNat)) (tC (.int 10)) (tC (.int 50)))) (tOp (rI CPow fun i j => .int (i ^ j.toNat)) (tC (.int 10)) (tC (.int 50))))) tNil)))
        (tCB (fun xs H Q => (∃ i, xs = [.int i] ∧ Q (.int i) H) ∨ ∃ k, xs = [.bl k] ∧ Q (.int (if k then 1 else 0)) H) (tCons (tOp (rI0 fun i j => .bl (decide (j ≤ i))) (tCB (fun xs H Q => ∃ i, xs = [.int i] ∧ Q (.int (if i < 0 then -i else i)) H) (tCons (tVar 2) tNil)) (tOp (rI CPow fun i j => .int (i ^ j.toNat)) (tC (.int 10)) (tC (.int 18)))) tNil)))
        (tCons (tOp (rI (fun _ j => j ≠ 0) fun i j => .int (i.fmod j)) (tVar 2) (tC (.int 2147483647))) (tCons (tOp (rI CMul fun i j => .int (i * j)) (tC (.int 97)) (tVar 1)) tNil)))) { nx := fun _ H' => Q .non H', rt := Q } [some (.ref a), some (.int k), some (.int cell)] H := fun cell => by
      have p50 : CPow 10 50 := ⟨by decide, by decide, by decide⟩
      refine ⟨_, rfl, _, _, rfl, rfl, p50, _, _, rfl, rfl, p50, _, _, rfl, rfl, cmul (a := 256) (b := 256) (by decide +kernel) (by decide +kernel), _, _, rfl, rfl, p50, _, _, rfl, rfl, cmul (a := 512) (b := 256) (by decide +kernel) (by decide +kernel), _, _, rfl, rfl, (show ((10 : Int) ^ (50 : Int).toNat * 10 ^ (50 : Int).toNat * 10 ^ (50 : Int).toNat) ≠ 0 by decide +kernel), by show 2 ≤ sizeLine; decide, fun l nl => ?_⟩
      refine ⟨_, rfl, _, rfl, _, _, rfl, rfl, ⟨by decide, by decide, by decide⟩, _, _, rfl, rfl, .inr ⟨_, rfl, ?_⟩⟩
      have key : ∀ b : Bool, ∃ u : Int, atI [V.int 0, V.int (cell.fmod (10 ^ (50 : Int).toNat * 10 ^ (50 : Int).toNat * 10 ^ (50 : Int).toNat))] (if b then 1 else 0) = some (.int u) := fun b => by
        cases b
        · exact ⟨_, rfl⟩
        · exact ⟨_, rfl⟩
      obtain ⟨u, hu⟩ := key (decide ((10 : Int) ^ (18 : Int).toNat ≤ (if cell < 0 then -cell else cell)))
      refine ⟨l, _, _, .int u, rfl, rfl, .inl (.inl upd_same), hu, ?_⟩
      refine ⟨_, rfl, _, _, rfl, rfl, (show (2147483647 : Int) ≠ 0 by decide), _, rfl, _, _, rfl, rfl, .inl ⟨by decide, by decide⟩, by show 3 ≤ sizeLine; decide, fun p np => ?_⟩
      have s1 := same_upd (o := .lst [V.int 0, V.int (cell.fmod (10 ^ (50 : Int).toNat * 10 ^ (50 : Int).toNat * 10 ^ (50 : Int).toNat))]) nl
      refine q p _ (s1.trans (same_upd np)) (s1.free np) ⟨_, _, _, upd_same⟩
    refine ⟨_, rfl, _, rfl, a, _, rfl, .inl hS, _, _, rfl, rfl, _, rfl, ite2 (fun z => ?_) (fun z => ?_)⟩
    · have z1 : k < ((ns.map V.int).length : Int) := of_decide_eq_true z
      have z2 : k.toNat < ns.length := by
        rw [List.length_map] at z1
        omega
      have e : atI (ns.map V.int) k = some (.int ns[k.toNat]) := by
        refine at_of (j := k.toNat) (by omega) ?_
        rw [List.getElem?_map, List.getElem?_eq_getElem z2]
        rfl
      exact ⟨_, rfl, _, rfl, a, _, _, _, rfl, rfl, hS, e, rest _⟩
    · exact rest 0
end
section
variable {P : Program} {w : World} {K : PySem.W.Frag} {mg : Str → Option Value} {base : Heap}
theorem three {α : Type} {x y z : α} : atI [x, y, z] 0 = some x ∧ atI [x, y, z] 1 = some y ∧ atI [x, y, z] 2 = some z := ⟨rfl, rfl, rfl⟩
def spTake : Sp := fun vs H Q _ => ∃ (p : Addr) (m : Int), vs = [.ref p, .int m] ∧ 0 < m ∧ m.natAbs < 2 ^ 64 ∧ Pile H p ∧ ∀ (d : Int) (H' : Hp), 0 ≤ d → d < m → Kp p H H' → Pile H' p → Q (.int d) H'
abbrev s__law_take : Stmt := top 52
theorem sc__law_take : FnScope ["_law_pile_here", "_law_many", "_law_digit"] ["_law_pile_here", "_law_many"] (defScope s__law_take) := ⟨rfl, rfl, rfl, by decide +kernel, rfl, by decide +kernel, by decide +kernel⟩
theorem ok_take {f : Addr} {fd : FuncData} {k : Nat} (F : Fun K "_law_take" "_law_take" s__law_take f fd) (c__law_mixed : Cal P w K mg base 1 "_law_mixed" ["_law_cell", "_law_k"] spMix) : FnOk P w K mg base CX0 (k + 1 + 1) f fd ["_law_pile_here", "_law_many"] spTake := by
  refine F.ok sc__law_take (fun vs H Q E h => ?_) (fun cdv A outer s H vs Q E hr h => ?_)
  · obtain ⟨p, m, rfl, _⟩ := h
    rfl
  · obtain ⟨p, m, rfl, m0, m64, ⟨x, y, z, hp⟩, q⟩ := h
    have hr : Room 1 _ := hr.mono (Nat.le_add_left 1 k)
    refine ⟨_, (pss_cons (ps_if (pt_cmpR op_in_seq (pe_ix ix_list (pv 0) pe_int (fun _ _ => rfl)) (pe_lst (pa_cons pe_int (pa_cons (pe_un un_neg pe_int) pa_nil))) (by rfl))
        (pss_cons (ps_asg (pe_op op_add (pe_ix ix_list (pv 0) pe_int (fun _ _ => rfl)) pe_int) (pg_sub (pv 0) pe_int set_list))
          (pss_one (ps_ret (pe_op op_modN (pe_cal c__law_mixed hr (by rfl) (pa_cons (pe_ix ix_list (pv 0) pe_int (fun _ _ => rfl)) (pa_cons (pe_ix ix_list (pv 0) pe_int (fun _ _ => rfl)) pa_nil))) (pv 1)))))
        pss_nil)
      (pss_cons (ps_set (i := 2) sc__law_take.nd rfl (Or.inl rfl) (pe_op op_modN (pe_ix ix_list (pv 0) pe_int (fun _ _ => rfl)) (pv 1)))
      (pss_cons (ps_asg (pe_op op_fdivW (pe_ix ix_list (pv 0) pe_int (fun _ _ => rfl)) (pv 1)) (pg_sub (pv 0) pe_int set_list))
      (pss_one (ps_ret (pv 2)))))), ?_⟩
    refine ⟨_, rfl, p, _, _, _, rfl, rfl, .inl (.inl hp), three.1, _, rfl, by show 2 ≤ sizeLine; decide, fun l nl => ?_⟩
    have npl : p ≠ l := ne_of_none hp nl
    have s1 := same_upd (o := .lst [V.int 0, V.int (-1)]) nl
    have m0' : m ≠ 0 := by omega
    refine ⟨l, _, rfl, .inl (.inl (.inl upd_same)), rfl, rfl, _, rfl, ite2 (fun _ => ?_) (fun _ => ?_)⟩
    · refine ⟨_, rfl, p, _, _, _, rfl, rfl, .inl (.inl (s1 _ _ hp)), three.2.2, _, _, rfl, rfl, _, rfl, p, _, _, 2, rfl, rfl, s1 _ _ hp, rfl, ?_⟩
      refine ⟨_, rfl, p, _, _, _, rfl, rfl, .inl (.inl upd_same), three.2.1, _, rfl, p, _, _, _, rfl, rfl, .inl (.inl upd_same), three.2.2, _, _, rfl, fun d => ?_⟩
      refine ⟨_, rfl, _, _, rfl, rfl, m0', ?_⟩
      exact q _ _ (fm m0).1 (fm m0).2 (fun b o n e => by rw [upd_ne n]; exact s1 _ _ e) ⟨_, _, _, upd_same⟩
    · refine ⟨_, rfl, p, _, _, _, rfl, rfl, .inl (.inl (s1 _ _ hp)), three.1, _, rfl, _, _, rfl, rfl, m0', ?_⟩
      refine ⟨_, rfl, p, _, _, _, rfl, rfl, .inl (.inl (s1 _ _ hp)), three.1, _, rfl, _, _, rfl, rfl, cdiv m0 m64, _, rfl, p, _, _, 0, rfl, rfl, s1 _ _ hp, rfl, ?_⟩
      exact ⟨_, rfl, q _ _ (fm m0).1 (fm m0).2 (fun b o n e => by rw [upd_ne n]; exact s1 _ _ e) ⟨_, _, _, upd_same⟩⟩
theorem pile_ne {H H' : Hp} {p q : Addr} (h : Pile H p) (n : H q = none) : q ≠ p := by
  obtain ⟨x, y, z, e⟩ := h
  exact (ne_of_none e n).symm
theorem Pile.new {H : Hp} {p q : Addr} {o : HO} (h : Pile H p) (n : H q = none) : Pile (upd H q o) p := by
  obtain ⟨x, y, z, e⟩ := h
  exact ⟨x, y, z, by rw [upd_ne (ne_of_none e n)]; exact e⟩
end
end Toy
namespace Toy
open PySem L2 Cc Da
section
variable {P : Program} {w : World} {K : PySem.W.Frag} {mg : Str → Option Value} {base : Heap} {c : Adr}
theorem sz2 : 2 ≤ sizeLine := by decide
theorem len2 {vs : List V} (h : vs.length = 2) : ∃ a b, vs = [a, b] := match vs, h with
  | [a, b], _ => ⟨a, b, rfl⟩
theorem sz3 : 3 ≤ sizeLine := by decide
/-- the fields of the i-th class, and its word -/
def Fl : Nat → List Str
  | 1 => ["top"]
  | 2 => ["place"]
  | 5 => ["choice"]
  | 7 => ["row", "column"]
  | 9 => ["row"]
  | 10 => ["choice"]
  | 13 => ["name"]
  | _ => []
def Wd : Nat → List V
  | 1 => [.str "number"]
  | 2 => [.str "table"]
  | 5 => [.str "flat"]
  | 7 => [.str "lifted"]
  | 9 => [.str "dipped"]
  | 10 => [.str "not one"]
  | 13 => [.str "name"]
  | 3 => [.str "no row"]
  | 4 => [.str "choice"]
  | 6 => [.str "saying"]
  | 8 => [.str "cover"]
  | 11 => [.str "text"]
  | 12 => [.str "line"]
  | _ => []
def P6 : List (Nat × Str) := [(3, "no row"), (4, "choice"), (6, "saying"), (8, "cover"), (11, "text"), (12, "line")]
def pw (i j : Nat) : List V := ((P6.take j).filter fun p => p.1 == i).map fun p => V.str p.2
theorem pw_step {i j k : Nat} {t : Str} (h : P6[j]? = some (k, t)) : pw i (j + 1) = pw i j ++ (if (k == i) = true then [V.str t] else []) := by
  unfold pw
  rw [List.take_add_one, h, List.filter_append, List.map_append]
  congr 1
  show List.map _ (List.filter _ [(k, t)]) = _
  cases h2 : (k == i) <;> simp [h2]
theorem pw_len (i j : Nat) : (pw i j).length ≤ 6 := by
  unfold pw
  rw [List.length_map]
  refine Nat.le_trans (List.length_filter_le _ _) ?_
  rw [List.length_take]
  exact Nat.min_le_right _ _
def acc (L : List Nat) (i : Nat) (vs : List V) : List V := if i ∈ L then Wd i ++ vs else []
theorem acc_no {L : List Nat} {i k : Nat} {vs : List V} (h : ¬ (k == i) = true) : acc (L ++ [k]) i vs = acc L i vs := by
  have n : i ≠ k := fun z => h (by rw [z]; exact beq_self_eq_true k)
  unfold acc
  by_cases z : i ∈ L
  · rw [if_pos z, if_pos (List.mem_append_left _ z)]
  · rw [if_neg z, if_neg fun q => by
      rcases List.mem_append.mp q with q | q
      · exact z q
      · exact n (List.mem_singleton.mp q)]
def L7 : List Nat := [1, 2, 5, 7, 9, 10, 13]
theorem acc_all {i : Nat} {vs : List V} (hi : i ≤ 13) (hl : vs.length = (Fl i).length) : acc L7 i vs ++ pw i 6 = Wd i ++ vs := by
  rcases (show i = 0 ∨ i = 1 ∨ i = 2 ∨ i = 3 ∨ i = 4 ∨ i = 5 ∨ i = 6 ∨ i = 7 ∨ i = 8 ∨ i = 9 ∨ i = 10 ∨ i = 11 ∨ i = 12 ∨ i = 13 by omega) with rfl | rfl | rfl | rfl | rfl | rfl | rfl | rfl | rfl | rfl | rfl | rfl | rfl | rfl <;>
    first
      | (have e : vs = [] := List.eq_nil_of_length_eq_zero hl
         subst e
         rfl)
      | exact List.append_nil _
/-- an exception of the i-th class with the fields vs stands at a -/
structure Exc (K : PySem.W.Frag) (c : Adr) (H : Hp) (a : Addr) (i : Nat) (vs : List V) : Prop where
  ex : ∃ (D : Addr) (d : Option Addr), H a = some (exv a (.ref D) d) ∧ KindOf K c D (fun j => j == i) ∧ XfC K D ∧ (∀ e, d = some e → ∃ fs, H e = some (.xd fs)) ∧ vs.length = (Fl i).length ∧
    (∀ f v, (f, v) ∈ (Fl i).zip vs → PySem.W.findIn K (.ref D) f = some none ∧ ∃ dd fs, d = some dd ∧ H dd = some (.xd fs) ∧ fs.lookup f = some v) ∧ i ≤ 13
theorem Exc.same {H H' : Hp} {a : Addr} {i : Nat} {vs : List V} (h : Exc K c H a i vs) (s : Same H H') : Exc K c H' a i vs := by
  obtain ⟨D, d, h1, h2, h3, h4, h5, h6, h7⟩ := h.ex
  refine ⟨D, d, s _ _ h1, h2, h3, fun e z => ?_, h5, fun f v z => ?_, h7⟩
  · obtain ⟨fs, q⟩ := h4 e z
    exact ⟨fs, s _ _ q⟩
  · obtain ⟨no, dd, fs, e, q, l⟩ := h6 f v z
    exact ⟨no, dd, fs, e, s _ _ q, l⟩
def spKind (K : PySem.W.Frag) (c : Adr) : Sp := fun vs H Q _ => ∃ (a : Addr) (i : Nat) (ws : List V), vs = [.ref a] ∧ Exc K c H a i ws ∧ ∀ p H', Same H H' → H p = none → H' p = some (.lst (Wd i ++ ws)) → Q (.ref p) H'
abbrev s__law_kind : Stmt := top 53
theorem sc__law_kind : FnScope ["_law_error", "_law_found", "_law_plain", "_law_words", "_law_word", "_law_truth"] ["_law_error"] (defScope s__law_kind) := ⟨rfl, rfl, rfl, by decide +kernel, rfl, by decide +kernel, by decide +kernel⟩
theorem ok_kind {f : Addr} {fd : FuncData} {k : Nat} (F : Fun K "_law_kind" "_law_kind" s__law_kind f fd) (T : Txt K mg c) : FnOk P w K mg base CX0 (k + 1) f fd ["_law_error"] (spKind K c) := by
  refine F.ok sc__law_kind (fun vs H Q E h => ?_) (fun cdv A outer s H vs Q E hr h => ?_)
  · obtain ⟨a, i, ws, rfl, _⟩ := h
    rfl
  · obtain ⟨a, i, ws, rfl, X, q⟩ := h
    obtain ⟨D, d, ha, N, xf, hd, wl, hf, hi⟩ := X.ex
    refine ⟨_, (pss_cons (ps_set (i := 1) sc__law_kind.nd rfl (Or.inl rfl) (pe_lst pa_nil))
      (C8.pss_cut (ps_if (pt_val (pe_callB (id := "isinstance") (r := rIsX K) call_isX (by rfl) T.isinstance (by decide +kernel) (pa_cons (pv 0) (pa_cons (pe_glob (v := .ref c.NoNumber) (by rfl) T.g_NoNumber rfl) pa_nil))))
        (pss_one (ps_set (i := 1) sc__law_kind.nd rfl (Or.inl rfl) (pe_op op_cat (pv 1) (pe_lst (pa_cons pe_str (pa_cons (pe_xv (pv 0)) pa_nil))))))
        pss_nil)
      (C8.pss_cut (ps_if (pt_val (pe_callB (id := "isinstance") (r := rIsX K) call_isX (by rfl) T.isinstance (by decide +kernel) (pa_cons (pv 0) (pa_cons (pe_glob (v := .ref c.NoTable) (by rfl) T.g_NoTable rfl) pa_nil))))
        (pss_one (ps_set (i := 1) sc__law_kind.nd rfl (Or.inl rfl) (pe_op op_cat (pv 1) (pe_lst (pa_cons pe_str (pa_cons (pe_xv (pv 0)) pa_nil))))))
        pss_nil)
      (C8.pss_cut (ps_if (pt_val (pe_callB (id := "isinstance") (r := rIsX K) call_isX (by rfl) T.isinstance (by decide +kernel) (pa_cons (pv 0) (pa_cons (pe_glob (v := .ref c.Flat) (by rfl) T.g_Flat rfl) pa_nil))))
        (pss_one (ps_set (i := 1) sc__law_kind.nd rfl (Or.inl rfl) (pe_op op_cat (pv 1) (pe_lst (pa_cons pe_str (pa_cons (pe_xv (pv 0)) pa_nil))))))
        pss_nil)
      (C8.pss_cut (ps_if (pt_val (pe_callB (id := "isinstance") (r := rIsX K) call_isX (by rfl) T.isinstance (by decide +kernel) (pa_cons (pv 0) (pa_cons (pe_glob (v := .ref c.Lifted) (by rfl) T.g_Lifted rfl) pa_nil))))
        (pss_one (ps_set (i := 1) sc__law_kind.nd rfl (Or.inl rfl) (pe_op op_cat (pv 1) (pe_lst (pa_cons pe_str (pa_cons (pe_xv (pv 0)) (pa_cons (pe_xv (pv 0)) pa_nil)))))))
        pss_nil)
      (C8.pss_cut (ps_if (pt_val (pe_callB (id := "isinstance") (r := rIsX K) call_isX (by rfl) T.isinstance (by decide +kernel) (pa_cons (pv 0) (pa_cons (pe_glob (v := .ref c.Dipped) (by rfl) T.g_Dipped rfl) pa_nil))))
        (pss_one (ps_set (i := 1) sc__law_kind.nd rfl (Or.inl rfl) (pe_op op_cat (pv 1) (pe_lst (pa_cons pe_str (pa_cons (pe_xv (pv 0)) pa_nil))))))
        pss_nil)
      (C8.pss_cut (ps_if (pt_val (pe_callB (id := "isinstance") (r := rIsX K) call_isX (by rfl) T.isinstance (by decide +kernel) (pa_cons (pv 0) (pa_cons (pe_glob (v := .ref c.NotOne) (by rfl) T.g_NotOne rfl) pa_nil))))
        (pss_one (ps_set (i := 1) sc__law_kind.nd rfl (Or.inl rfl) (pe_op op_cat (pv 1) (pe_lst (pa_cons pe_str (pa_cons (pe_xv (pv 0)) pa_nil))))))
        pss_nil)
      (C8.pss_cut (ps_if (pt_val (pe_callB (id := "isinstance") (r := rIsX K) call_isX (by rfl) T.isinstance (by decide +kernel) (pa_cons (pv 0) (pa_cons (pe_glob (v := .ref c.NoName) (by rfl) T.g_NoName rfl) pa_nil))))
        (pss_one (ps_set (i := 1) sc__law_kind.nd rfl (Or.inl rfl) (pe_op op_cat (pv 1) (pe_lst (pa_cons pe_str (pa_cons (pe_xv (pv 0)) pa_nil))))))
        pss_nil)
      (pss_cons (ps_set (i := 2) sc__law_kind.nd rfl (Or.inl rfl) (pe_lst (pa_cons (pe_callB (id := "isinstance") (r := rIsX K) call_isX (by rfl) T.isinstance (by decide +kernel) (pa_cons (pv 0) (pa_cons (pe_glob (v := .ref c.NoRow) (by rfl) T.g_NoRow rfl) pa_nil))) (pa_cons (pe_callB (id := "isinstance") (r := rIsX K) call_isX (by rfl) T.isinstance (by decide +kernel) (pa_cons (pv 0) (pa_cons (pe_glob (v := .ref c.NoChoice) (by rfl) T.g_NoChoice rfl) pa_nil))) (pa_cons (pe_callB (id := "isinstance") (r := rIsX K) call_isX (by rfl) T.isinstance (by decide +kernel) (pa_cons (pv 0) (pa_cons (pe_glob (v := .ref c.NoSaying) (by rfl) T.g_NoSaying rfl) pa_nil))) pa_nil)))))
      (pss_cons (ps_set (i := 2) sc__law_kind.nd rfl (Or.inl rfl) (pe_op op_cat (pv 2) (pe_lst (pa_cons (pe_callB (id := "isinstance") (r := rIsX K) call_isX (by rfl) T.isinstance (by decide +kernel) (pa_cons (pv 0) (pa_cons (pe_glob (v := .ref c.NoCover) (by rfl) T.g_NoCover rfl) pa_nil))) (pa_cons (pe_callB (id := "isinstance") (r := rIsX K) call_isX (by rfl) T.isinstance (by decide +kernel) (pa_cons (pv 0) (pa_cons (pe_glob (v := .ref c.NoText) (by rfl) T.g_NoText rfl) pa_nil))) (pa_cons (pe_callB (id := "isinstance") (r := rIsX K) call_isX (by rfl) T.isinstance (by decide +kernel) (pa_cons (pv 0) (pa_cons (pe_glob (v := .ref c.NoLine) (by rfl) T.g_NoLine rfl) pa_nil))) pa_nil))))))
      (pss_cons (ps_set (i := 3) sc__law_kind.nd rfl (Or.inl rfl) (pe_lst (pa_cons pe_str (pa_cons pe_str (pa_cons pe_str (pa_cons pe_str (pa_cons pe_str (pa_cons pe_str pa_nil))))))))
      (pss_cons (ps_set (i := 1) sc__law_kind.nd rfl (Or.inl rfl) (pe_op op_cat (pv 1) (pe_lc (own := [("_law_word", 4), ("_law_truth", 5)]) (g := gTup K 2 (gCons (gName 4) (gCons (gName 5) gNil))) (by rfl) sc__law_kind.nd (pi_zip (by rfl) T.zip (pa_cons (pv 3) (pa_cons (pv 2) pa_nil))) (blkOk_by (own := [("_law_word", 4), ("_law_truth", 5)]) (N := ["_law_error", "_law_found", "_law_plain", "_law_words", "_law_word", "_law_truth"]) (sc := defScope s__law_kind) (by decide +kernel)) (fun _ _ _ _ _ => (pg_tup rfl (pgs_cons (pg_name (i := 4) sc__law_kind.nd rfl (Or.inl rfl)) (pgs_cons (pg_name (i := 5) sc__law_kind.nd rfl (Or.inl rfl)) pgs_nil)))) (fun _ _ _ _ _ => (pts_one (pt_val (pv 5)))) (fun _ _ _ _ _ => (pv 4)))))
      (pss_cons (ps_if (PW.pt (pw_and (pt_cmpR op_notN (pv 0) pe_non (nomark _)) (pw_and1 (PW.pt (pw_or (pt_not (pt_val (pe_callB (id := "isinstance") (r := rIsX K) call_isX (by rfl) T.isinstance (by decide +kernel) (pa_cons (pv 0) (pa_cons (pe_glob (v := .ref c.SlackError) (by rfl) T.g_SlackError rfl) pa_nil))))) (pw_or1 (pt_not (pt_val (pe_callB (id := "isinstance") (r := rIsX K) call_isX (by rfl) T.isinstance (by decide +kernel) (pa_cons (pv 0) (pa_cons (pe_bltn (v := .ty "ValueError") (by rfl) T.ValueError_ (by decide +kernel) rfl) pa_nil)))))))))))
        (pss_one (ps_expr (pe_bm PySem.F.plainAttrs_list PySem.F.slot_list_append PySem.F.type_list_append mt_append (pv 1) (pa_cons pe_str pa_nil))))
        pss_nil)
      (pss_one (ps_ret (pv 1)))))))))))))))), ?_⟩
    have hx : ∀ {G : Hp}, Same H G → G a = some (exv a (.ref D) d) ∧ ∀ e, d = some e → ∃ fs, G e = some (.xd fs) := fun s => ⟨s _ _ ha, fun e z => by
      obtain ⟨fs, q⟩ := hd e z
      exact ⟨fs, s _ _ q⟩⟩
    refine ⟨by show 0 ≤ sizeLine; decide, fun f0 n0 => ?_⟩
    have s0 := same_upd (o := .lst []) n0
    have hf0 : upd H f0 (.lst []) f0 = some (.lst (acc [] i ws)) := upd_same
    generalize upd H f0 (.lst []) = G at s0 hf0 ⊢
    -- NoNumber
    refine ⟨fun σ' H' => Same H H' ∧ ∃ f1, σ' = [some (.ref a), some (.ref f1), none, none, none, none] ∧ H f1 = none ∧ H' f1 = some (.lst (acc [1] i ws)), ?_, ?_⟩
    · refine ⟨_, rfl, a, D, d, none, _, _, (1 == i), rfl, (hx s0).1, (hx s0).2, N.ec, .own _, N.q1, _, rfl, ite2 (fun z => ?_) (fun z => ?_)⟩
      · have ei : 1 = i := beq_iff_eq.mp z
        subst ei
        obtain ⟨v0, rfl⟩ := List.length_eq_one_iff.mp wl
        obtain ⟨no0, dd0, fs0, e0, q0, lk0⟩ := hf "top" v0 (by simp [Fl])
        subst e0
        refine ⟨_, rfl, _, rfl, a, D, dd0, fs0, v0, rfl, (hx s0).1, s0 _ _ q0, xf, no0, lk0, sz2, fun l1 m1 => ?_⟩
        have s1 := s0.trans (same_upd (o := .lst [V.str "number", v0]) m1)
        have nf0 : f0 ≠ l1 := ne_of_none hf0 m1
        have hf0' : G f0 = some (.lst []) := hf0
        refine ⟨f0, l1, [], _, rfl, rfl, Eq.trans (upd_ne nf0) hf0', upd_same, sz2, fun f1 n1 => ?_⟩
        exact ⟨s1.trans (same_upd n1), f1, rfl, s1.free n1, upd_same⟩
      · refine ⟨s0, f0, rfl, n0, ?_⟩
        rw [show ([1] : List Nat) = [] ++ [1] from rfl, acc_no z]
        exact hf0
    clear hf0 s0 n0
    rintro σ' G ⟨s0, f0, rfl, n0, hf0⟩
    -- NoTable
    refine ⟨fun σ' H' => Same H H' ∧ ∃ f1, σ' = [some (.ref a), some (.ref f1), none, none, none, none] ∧ H f1 = none ∧ H' f1 = some (.lst (acc [1, 2] i ws)), ?_, ?_⟩
    · refine ⟨_, rfl, a, D, d, none, _, _, (2 == i), rfl, (hx s0).1, (hx s0).2, N.ec, .own _, N.q2, _, rfl, ite2 (fun z => ?_) (fun z => ?_)⟩
      · have ei : 2 = i := beq_iff_eq.mp z
        subst ei
        obtain ⟨v0, rfl⟩ := List.length_eq_one_iff.mp wl
        obtain ⟨no0, dd0, fs0, e0, q0, lk0⟩ := hf "place" v0 (by simp [Fl])
        subst e0
        refine ⟨_, rfl, _, rfl, a, D, dd0, fs0, v0, rfl, (hx s0).1, s0 _ _ q0, xf, no0, lk0, sz2, fun l1 m1 => ?_⟩
        have s1 := s0.trans (same_upd (o := .lst [V.str "table", v0]) m1)
        have nf0 : f0 ≠ l1 := ne_of_none hf0 m1
        have hf0' : G f0 = some (.lst []) := hf0
        refine ⟨f0, l1, [], _, rfl, rfl, Eq.trans (upd_ne nf0) hf0', upd_same, sz2, fun f1 n1 => ?_⟩
        exact ⟨s1.trans (same_upd n1), f1, rfl, s1.free n1, upd_same⟩
      · refine ⟨s0, f0, rfl, n0, ?_⟩
        rw [show ([1, 2] : List Nat) = [1] ++ [2] from rfl, acc_no z]
        exact hf0
    clear hf0 s0 n0
    rintro σ' G ⟨s0, f0, rfl, n0, hf0⟩
    -- Flat
    refine ⟨fun σ' H' => Same H H' ∧ ∃ f1, σ' = [some (.ref a), some (.ref f1), none, none, none, none] ∧ H f1 = none ∧ H' f1 = some (.lst (acc [1, 2, 5] i ws)), ?_, ?_⟩
    · refine ⟨_, rfl, a, D, d, none, _, _, (5 == i), rfl, (hx s0).1, (hx s0).2, N.ec, .own _, N.q5, _, rfl, ite2 (fun z => ?_) (fun z => ?_)⟩
      · have ei : 5 = i := beq_iff_eq.mp z
        subst ei
        obtain ⟨v0, rfl⟩ := List.length_eq_one_iff.mp wl
        obtain ⟨no0, dd0, fs0, e0, q0, lk0⟩ := hf "choice" v0 (by simp [Fl])
        subst e0
        refine ⟨_, rfl, _, rfl, a, D, dd0, fs0, v0, rfl, (hx s0).1, s0 _ _ q0, xf, no0, lk0, sz2, fun l1 m1 => ?_⟩
        have s1 := s0.trans (same_upd (o := .lst [V.str "flat", v0]) m1)
        have nf0 : f0 ≠ l1 := ne_of_none hf0 m1
        have hf0' : G f0 = some (.lst []) := hf0
        refine ⟨f0, l1, [], _, rfl, rfl, Eq.trans (upd_ne nf0) hf0', upd_same, sz2, fun f1 n1 => ?_⟩
        exact ⟨s1.trans (same_upd n1), f1, rfl, s1.free n1, upd_same⟩
      · refine ⟨s0, f0, rfl, n0, ?_⟩
        rw [show ([1, 2, 5] : List Nat) = [1, 2] ++ [5] from rfl, acc_no z]
        exact hf0
    clear hf0 s0 n0
    rintro σ' G ⟨s0, f0, rfl, n0, hf0⟩
    -- Lifted
    refine ⟨fun σ' H' => Same H H' ∧ ∃ f1, σ' = [some (.ref a), some (.ref f1), none, none, none, none] ∧ H f1 = none ∧ H' f1 = some (.lst (acc [1, 2, 5, 7] i ws)), ?_, ?_⟩
    · refine ⟨_, rfl, a, D, d, none, _, _, (7 == i), rfl, (hx s0).1, (hx s0).2, N.ec, .own _, N.q7, _, rfl, ite2 (fun z => ?_) (fun z => ?_)⟩
      · have ei : 7 = i := beq_iff_eq.mp z
        subst ei
        obtain ⟨v0, v1, rfl⟩ := len2 wl
        obtain ⟨no0, dd0, fs0, e0, q0, lk0⟩ := hf "row" v0 (by simp [Fl])
        subst e0
        obtain ⟨no1, dd1, fs1, e1, q1, lk1⟩ := hf "column" v1 (by simp [Fl])
        cases e1
        refine ⟨_, rfl, _, rfl, a, D, dd0, fs0, v0, rfl, (hx s0).1, s0 _ _ q0, xf, no0, lk0, _, rfl, a, D, dd0, fs1, v1, rfl, (hx s0).1, s0 _ _ q1, xf, no1, lk1, sz3, fun l1 m1 => ?_⟩
        have s1 := s0.trans (same_upd (o := .lst [V.str "lifted", v0, v1]) m1)
        have nf0 : f0 ≠ l1 := ne_of_none hf0 m1
        have hf0' : G f0 = some (.lst []) := hf0
        refine ⟨f0, l1, [], _, rfl, rfl, Eq.trans (upd_ne nf0) hf0', upd_same, sz3, fun f1 n1 => ?_⟩
        exact ⟨s1.trans (same_upd n1), f1, rfl, s1.free n1, upd_same⟩
      · refine ⟨s0, f0, rfl, n0, ?_⟩
        rw [show ([1, 2, 5, 7] : List Nat) = [1, 2, 5] ++ [7] from rfl, acc_no z]
        exact hf0
    clear hf0 s0 n0
    rintro σ' G ⟨s0, f0, rfl, n0, hf0⟩
    -- Dipped
    refine ⟨fun σ' H' => Same H H' ∧ ∃ f1, σ' = [some (.ref a), some (.ref f1), none, none, none, none] ∧ H f1 = none ∧ H' f1 = some (.lst (acc [1, 2, 5, 7, 9] i ws)), ?_, ?_⟩
    · refine ⟨_, rfl, a, D, d, none, _, _, (9 == i), rfl, (hx s0).1, (hx s0).2, N.ec, .own _, N.q9, _, rfl, ite2 (fun z => ?_) (fun z => ?_)⟩
      · have ei : 9 = i := beq_iff_eq.mp z
        subst ei
        obtain ⟨v0, rfl⟩ := List.length_eq_one_iff.mp wl
        obtain ⟨no0, dd0, fs0, e0, q0, lk0⟩ := hf "row" v0 (by simp [Fl])
        subst e0
        refine ⟨_, rfl, _, rfl, a, D, dd0, fs0, v0, rfl, (hx s0).1, s0 _ _ q0, xf, no0, lk0, sz2, fun l1 m1 => ?_⟩
        have s1 := s0.trans (same_upd (o := .lst [V.str "dipped", v0]) m1)
        have nf0 : f0 ≠ l1 := ne_of_none hf0 m1
        have hf0' : G f0 = some (.lst []) := hf0
        refine ⟨f0, l1, [], _, rfl, rfl, Eq.trans (upd_ne nf0) hf0', upd_same, sz2, fun f1 n1 => ?_⟩
        exact ⟨s1.trans (same_upd n1), f1, rfl, s1.free n1, upd_same⟩
      · refine ⟨s0, f0, rfl, n0, ?_⟩
        rw [show ([1, 2, 5, 7, 9] : List Nat) = [1, 2, 5, 7] ++ [9] from rfl, acc_no z]
        exact hf0
    clear hf0 s0 n0
    rintro σ' G ⟨s0, f0, rfl, n0, hf0⟩
    -- NotOne
    refine ⟨fun σ' H' => Same H H' ∧ ∃ f1, σ' = [some (.ref a), some (.ref f1), none, none, none, none] ∧ H f1 = none ∧ H' f1 = some (.lst (acc [1, 2, 5, 7, 9, 10] i ws)), ?_, ?_⟩
    · refine ⟨_, rfl, a, D, d, none, _, _, (10 == i), rfl, (hx s0).1, (hx s0).2, N.ec, .own _, N.q10, _, rfl, ite2 (fun z => ?_) (fun z => ?_)⟩
      · have ei : 10 = i := beq_iff_eq.mp z
        subst ei
        obtain ⟨v0, rfl⟩ := List.length_eq_one_iff.mp wl
        obtain ⟨no0, dd0, fs0, e0, q0, lk0⟩ := hf "choice" v0 (by simp [Fl])
        subst e0
        refine ⟨_, rfl, _, rfl, a, D, dd0, fs0, v0, rfl, (hx s0).1, s0 _ _ q0, xf, no0, lk0, sz2, fun l1 m1 => ?_⟩
        have s1 := s0.trans (same_upd (o := .lst [V.str "not one", v0]) m1)
        have nf0 : f0 ≠ l1 := ne_of_none hf0 m1
        have hf0' : G f0 = some (.lst []) := hf0
        refine ⟨f0, l1, [], _, rfl, rfl, Eq.trans (upd_ne nf0) hf0', upd_same, sz2, fun f1 n1 => ?_⟩
        exact ⟨s1.trans (same_upd n1), f1, rfl, s1.free n1, upd_same⟩
      · refine ⟨s0, f0, rfl, n0, ?_⟩
        rw [show ([1, 2, 5, 7, 9, 10] : List Nat) = [1, 2, 5, 7, 9] ++ [10] from rfl, acc_no z]
        exact hf0
    clear hf0 s0 n0
    rintro σ' G ⟨s0, f0, rfl, n0, hf0⟩
    -- NoName
    refine ⟨fun σ' H' => Same H H' ∧ ∃ f1, σ' = [some (.ref a), some (.ref f1), none, none, none, none] ∧ H f1 = none ∧ H' f1 = some (.lst (acc [1, 2, 5, 7, 9, 10, 13] i ws)), ?_, ?_⟩
    · refine ⟨_, rfl, a, D, d, none, _, _, (13 == i), rfl, (hx s0).1, (hx s0).2, N.ec, .own _, N.q13, _, rfl, ite2 (fun z => ?_) (fun z => ?_)⟩
      · have ei : 13 = i := beq_iff_eq.mp z
        subst ei
        obtain ⟨v0, rfl⟩ := List.length_eq_one_iff.mp wl
        obtain ⟨no0, dd0, fs0, e0, q0, lk0⟩ := hf "name" v0 (by simp [Fl])
        subst e0
        refine ⟨_, rfl, _, rfl, a, D, dd0, fs0, v0, rfl, (hx s0).1, s0 _ _ q0, xf, no0, lk0, sz2, fun l1 m1 => ?_⟩
        have s1 := s0.trans (same_upd (o := .lst [V.str "name", v0]) m1)
        have nf0 : f0 ≠ l1 := ne_of_none hf0 m1
        have hf0' : G f0 = some (.lst []) := hf0
        refine ⟨f0, l1, [], _, rfl, rfl, Eq.trans (upd_ne nf0) hf0', upd_same, sz2, fun f1 n1 => ?_⟩
        exact ⟨s1.trans (same_upd n1), f1, rfl, s1.free n1, upd_same⟩
      · refine ⟨s0, f0, rfl, n0, ?_⟩
        rw [show ([1, 2, 5, 7, 9, 10, 13] : List Nat) = [1, 2, 5, 7, 9, 10] ++ [13] from rfl, acc_no z]
        exact hf0
    clear hf0 s0 n0
    rintro σ' G ⟨s0, f0, rfl, n0, hf0⟩
    -- plain
    refine ⟨_, rfl, a, D, d, none, _, _, (3 == i), rfl, (hx s0).1, (hx s0).2, N.ec, .own _, N.q3, ?_⟩
    refine ⟨_, rfl, a, D, d, none, _, _, (4 == i), rfl, (hx s0).1, (hx s0).2, N.ec, .own _, N.q4, ?_⟩
    refine ⟨_, rfl, a, D, d, none, _, _, (6 == i), rfl, (hx s0).1, (hx s0).2, N.ec, .own _, N.q6, ?_⟩
    refine ⟨sz3, fun p1 m2 => ?_⟩
    have s3 := s0.trans (same_upd (o := .lst [.bl (3 == i), .bl (4 == i), .bl (6 == i)]) m2)
    refine ⟨_, rfl, ?_⟩
    refine ⟨_, rfl, a, D, d, none, _, _, (8 == i), rfl, (hx s3).1, (hx s3).2, N.ec, .own _, N.q8, ?_⟩
    refine ⟨_, rfl, a, D, d, none, _, _, (11 == i), rfl, (hx s3).1, (hx s3).2, N.ec, .own _, N.q11, ?_⟩
    refine ⟨_, rfl, a, D, d, none, _, _, (12 == i), rfl, (hx s3).1, (hx s3).2, N.ec, .own _, N.q12, ?_⟩
    refine ⟨sz3, fun p2 m3 => ?_⟩
    have np12 : p1 ≠ p2 := ne_of_none upd_same m3
    refine ⟨p1, p2, _, _, rfl, rfl, Eq.trans (upd_ne np12) upd_same, upd_same, by show 6 ≤ sizeLine; decide, fun p3 m4 => ?_⟩
    have k5 : Same G (upd (upd (upd G p1 (.lst [.bl (3 == i), .bl (4 == i), .bl (6 == i)])) p2 (.lst [.bl (8 == i), .bl (11 == i), .bl (12 == i)])) p3 (.lst ([.bl (3 == i), .bl (4 == i), .bl (6 == i)] ++ [.bl (8 == i), .bl (11 == i), .bl (12 == i)]))) := ((same_upd m2).trans (same_upd m3)).trans (same_upd m4)
    have hp3 : (upd (upd (upd G p1 (.lst [.bl (3 == i), .bl (4 == i), .bl (6 == i)])) p2 (.lst [.bl (8 == i), .bl (11 == i), .bl (12 == i)])) p3 (.lst ([.bl (3 == i), .bl (4 == i), .bl (6 == i)] ++ [.bl (8 == i), .bl (11 == i), .bl (12 == i)]))) p3 = some (.lst (P6.map fun p => V.bl (p.1 == i))) := upd_same
    show tSeq _ _ _ _ (upd (upd (upd G p1 (.lst [.bl (3 == i), .bl (4 == i), .bl (6 == i)])) p2 (.lst [.bl (8 == i), .bl (11 == i), .bl (12 == i)])) p3 (.lst ([.bl (3 == i), .bl (4 == i), .bl (6 == i)] ++ [.bl (8 == i), .bl (11 == i), .bl (12 == i)])))
    generalize upd (upd (upd G p1 (.lst [.bl (3 == i), .bl (4 == i), .bl (6 == i)])) p2 (.lst [.bl (8 == i), .bl (11 == i), .bl (12 == i)])) p3 (.lst ([.bl (3 == i), .bl (4 == i), .bl (6 == i)] ++ [.bl (8 == i), .bl (11 == i), .bl (12 == i)])) = G2 at k5 hp3 ⊢
    -- words
    refine ⟨by show 6 ≤ sizeLine; decide, fun wd m5 => ?_⟩
    have s6 := same_upd (o := .lst [V.str "no row", .str "choice", .str "saying", .str "cover", .str "text", .str "line"]) m5
    have hw : upd G2 wd (.lst [V.str "no row", .str "choice", .str "saying", .str "cover", .str "text", .str "line"]) wd = some (.lst (P6.map fun p => V.str p.2)) := upd_same
    generalize hG3 : upd G2 wd (.lst [V.str "no row", .str "choice", .str "saying", .str "cover", .str "text", .str "line"]) = G3 at s6 hw ⊢
    have hp3' := s6 _ _ hp3
    refine ⟨_, rfl, _, rfl, _, rfl, wd, p3, _, _, rfl, .inl (.inl hw), .inl (.inl hp3'), fun D2 nD => ?_⟩
    refine lc_it (walk_zip (K := K) (a := wd) (b := p3) (n := 6) rfl) (fun j H' => Same G3 H' ∧ H' D2 = some (.lst (pw i j))) ⟨same_upd nD, upd_same⟩ (fun j H' _ ⟨s', _⟩ => ⟨.inl (.inl (s' _ _ hw)), .inl (.inl (s' _ _ hp3'))⟩) ?_ ?_
    · rintro j x G4 G4' hj ⟨s7, hD⟩ ⟨Tp, x1, y1, rfl, nT, rfl, e1, e2⟩
      have nDT : D2 ≠ Tp := ne_of_none hD nT
      have s8 := s7.trans (same_upd (o := .tup [x1, y1]) nT)
      have e1' : (P6.map fun p => V.str p.2)[j]? = some x1 := e1
      have e2' : (P6.map fun p => V.bl (p.1 == i))[j]? = some y1 := e2
      rw [List.getElem?_map] at e1' e2'
      obtain ⟨⟨k1, t1⟩, hk, rfl⟩ := Option.map_eq_some_iff.mp e1'
      rw [hk] at e2'
      have hy : y1 = .bl (k1 == i) := (Option.some.inj e2').symm
      subst hy
      refine ⟨Tp, _, rfl, .inl (.inl upd_same), rfl, _, _, rfl, _, _, rfl, rfl, rfl, ?_⟩
      have st := pw_step (i := i) hk
      refine ⟨_, rfl, _, rfl, ite2 (fun z => ⟨_, rfl, _, Eq.trans (upd_ne nDT) hD, Nat.lt_of_le_of_lt (pw_len i j) (by decide), same_mut s8 nD, ?_⟩) (fun z => ⟨s8, ?_⟩)⟩
      · show upd _ D2 _ D2 = _
        rw [upd_same, st, if_pos z]
      · rw [upd_ne nDT, hD, st, if_neg z, List.append_nil]
    · rintro G4 ⟨s7, hD⟩
      have t4 : Same H G4 := ((s0.trans k5).trans s6).trans s7
      have hf4 : G4 f0 = some (.lst (acc L7 i ws)) := s7 _ _ (s6 _ _ (k5 _ _ hf0))
      have hD' : G4 D2 = some (.lst (pw i 6)) := hD
      have all := acc_all hi wl
      have small : (acc L7 i ws).length + (pw i 6).length ≤ sizeLine := by
        rw [← List.length_append, all, List.length_append]
        have w1 : (Wd i).length ≤ 1 := by
          rcases (show i = 0 ∨ i = 1 ∨ i = 2 ∨ i = 3 ∨ i = 4 ∨ i = 5 ∨ i = 6 ∨ i = 7 ∨ i = 8 ∨ i = 9 ∨ i = 10 ∨ i = 11 ∨ i = 12 ∨ i = 13 by omega) with rfl | rfl | rfl | rfl | rfl | rfl | rfl | rfl | rfl | rfl | rfl | rfl | rfl | rfl <;> decide
        have w2 : (Fl i).length ≤ 2 := by
          rcases (show i = 0 ∨ i = 1 ∨ i = 2 ∨ i = 3 ∨ i = 4 ∨ i = 5 ∨ i = 6 ∨ i = 7 ∨ i = 8 ∨ i = 9 ∨ i = 10 ∨ i = 11 ∨ i = 12 ∨ i = 13 by omega) with rfl | rfl | rfl | rfl | rfl | rfl | rfl | rfl | rfl | rfl | rfl | rfl | rfl | rfl <;> decide
        exact Nat.le_trans (show _ ≤ 3 by rw [wl]; omega) sz3
      refine ⟨f0, D2, _, _, rfl, rfl, hf4, hD', small, fun f2 n2 => ?_⟩
      rw [all]
      have t5 := t4.trans (same_upd (o := .lst (Wd i ++ ws)) n2)
      refine ⟨_, rfl, rfl, _, rfl, iteT ?_⟩
      refine ⟨_, rfl, a, D, d, none, _, _, true, rfl, (hx t5).1, (hx t5).2, N.ec, .own _, N.sl, _, rfl, iteF ?_⟩
      refine ⟨_, rfl, a, D, d, none, _, _, true, rfl, (hx t5).1, (hx t5).2, N.ec, .ty _, N.ve, _, rfl, iteF ?_⟩
      exact ⟨_, rfl, q f2 _ t5 (t4.free n2) upd_same⟩
end
end Toy
namespace Toy
open PySem L2 Cc Da
section
variable {P : Program} {w : World} {K : PySem.W.Frag} {mg : Str → Option Value} {base : Heap} {c : Adr}
/-! ### the law's draws, in words of data -/
def i3 (x y z : Int) : List D := [.int x, .int y, .int z]
def mfTake : MFI := fun es ds Q => (∃ x y z, es = i3 x y z) ∧ ∃ m : Int, ds = [.int m] ∧ 0 < m ∧ m.natAbs < 2 ^ 64 ∧ ∀ d x y z, 0 ≤ d → d < m → Q (.sh (.int d)) (i3 x y z)
theorem dn3 {H : Hp} {x y z : Int} : DnA K H [.int x, .int y, .int z] (i3 x y z) := .cons (.raw _) (.cons (.raw _) (.cons (.raw _) .nil))
theorem un3 {H : Hp} {vs : List V} {x y z : Int} (h : DnA K H vs (i3 x y z)) : vs = [.int x, .int y, .int z] := by
  have h : DnA K H vs ([V.int x, .int y, .int z].map D.raw) := h
  exact h.unraw
theorem okI_take {f : Addr} {fd : FuncData} {k : Nat} {ps : List Str} (F : FnOk P w K mg base CX0 k f fd ps spTake) : FnOk P w K mg base CX0 k f fd ps (spI K 1 mfTake) := by
  refine F.imp fun vs H Q E h => ?_
  obtain ⟨hl, p, vr, vs0, Hs, es, ds, Qd, rfl, hp, hs, q0, le, q, ⟨⟨x, y, z, rfl⟩, m, rfl, m0, m64, hq⟩, kk⟩ := h
  obtain ⟨v, rfl, qv⟩ := dn1 q
  cases qv
  cases un3 q0
  refine ⟨p, m, rfl, m0, m64, ⟨x, y, z, hp⟩, fun d H' d0 d1 kp ⟨x', y', z', hp'⟩ => kk _ _ _ H' ⟨Hs, _, [], fun a o h => ?_, hp', hs, dn3, .sh (.raw _), fun m => (nomatch m), fun _ m => (nomatch m), Same.refl _, fun a o h n => kp a o n h, fun _ _ _ _ h => h⟩ (hq d x' y' z' d0 d1)⟩
  have ne : a ≠ p := fun e => by
    rw [e, hs] at h
    cases h
  exact kp a o ne (le a o h)
def mfPile : MF := fun ds Q _ => ∃ (ns : List Int) (k : Int), ds = [.scr ns, .int k] ∧ 0 ≤ k ∧ ∀ x y z, Q (.ow (shs (i3 x y z)))
theorem okP_pile {f : Addr} {fd : FuncData} {k : Nat} {ps : List Str} (F : FnOk P w K mg base CX0 k f fd ps (spPile K)) : FnOk P w K mg base CX0 k f fd ps (spP K 2 mfPile) := by
  refine F.imp fun vs H Q E h => ?_
  obtain ⟨hl, Hs, ds, Qd, Qx, le, q, ⟨ns, k, rfl, k0, hq⟩, k1, k2⟩ := h
  obtain ⟨v, u, rfl, qv, qu⟩ := dn2 q
  cases qu
  cases qv with
  | scr hs =>
    rename_i a
    refine ⟨a, ns, k, rfl, le.seq hs, k0, fun p H' sm np ⟨x, y, z, hp⟩ => k1 _ _ H' ⟨Hs, [p], le.trans sm, .ow hp (le.free np) (OwA.shs dn3) (by simp), fun b m => ?_, Same.refl _, fun b o h _ => sm b o h, fun _ _ _ _ h => h⟩ (hq x y z)⟩
    rw [List.mem_singleton.mp m]
    exact np
/-! ### what is told of a refusal -/
structure KX (K : PySem.W.Frag) (c : Adr) (C : Addr) (i : Nat) : Prop where
  kd : KindOf K c C (fun j => j == i)
  xf : XfC K C
  no : ∀ f ∈ Fl i, PySem.W.findIn K (.ref C) f = some none
  le : i ≤ 13
theorem lookup_mem {β : Type} : ∀ {ns : List Str} {vs : List β} {f : Str} {v : β}, ns.Nodup → (f, v) ∈ ns.zip vs → (ns.zip vs).lookup f = some v
  | [], _, _, _, _, m => by simp at m
  | n :: ns, [], _, _, _, m => by simp at m
  | n :: ns, u :: vs, f, v, nd, m => by
    obtain ⟨n1, n2⟩ := List.nodup_cons.mp nd
    rw [List.zip_cons_cons] at m ⊢
    rw [List.lookup_cons]
    rcases List.mem_cons.mp m with e | m
    · cases e
      simp
    · have e : (f == n) = false := by
        rw [beq_eq_false_iff_ne]
        exact fun q => n1 (q ▸ (List.of_mem_zip m).1)
      rw [e]
      exact lookup_mem n2 m
theorem fl_nd {i : Nat} (h : i ≤ 13) : (Fl i).Nodup := by
  rcases (show i = 0 ∨ i = 1 ∨ i = 2 ∨ i = 3 ∨ i = 4 ∨ i = 5 ∨ i = 6 ∨ i = 7 ∨ i = 8 ∨ i = 9 ∨ i = 10 ∨ i = 11 ∨ i = 12 ∨ i = 13 by omega) with rfl | rfl | rfl | rfl | rfl | rfl | rfl | rfl | rfl | rfl | rfl | rfl | rfl | rfl <;> decide +kernel
def mfKind (K : PySem.W.Frag) (c : Adr) : MF := fun ds Q _ => ∃ (C : Addr) (i : Nat) (es : List D), ds = [.exc C (Fl i) es] ∧ KX K c C i ∧ Q (.ow (shs ((Wd i).map D.raw ++ es)))
theorem okP_kind {f : Addr} {fd : FuncData} {k : Nat} {ps : List Str} (F : FnOk P w K mg base CX0 k f fd ps (spKind K c)) : FnOk P w K mg base CX0 k f fd ps (spP K 1 (mfKind K c)) := by
  refine F.imp fun vs H Q E h => ?_
  obtain ⟨hl, Hs, ds, Qd, Qx, le, q, ⟨C, i, es, rfl, kx, hq⟩, k1, k2⟩ := h
  obtain ⟨v, rfl, qv⟩ := dn1 q
  cases qv with
  | exc ha xf qs =>
    rename_i a od vs
    have lz : vs.length = (Fl i).length := by
      cases od with
      | none =>
        rw [xf.1, xf.2]
        rfl
      | some d => exact xf.2.symm
    refine ⟨a, i, vs, rfl, ⟨C, od, le _ _ ha, kx.kd, kx.xf, fun e z => ?_, lz, fun f v z => ⟨kx.no f (List.of_mem_zip z).1, ?_⟩, kx.le⟩, fun p H' sm np hp => k1 _ _ H' ⟨Hs, [p], le.trans sm, .ow hp (le.free np) (OwA.shs ((DnA.raws (Wd i)).app qs)) (by simp), fun b m => ?_, Same.refl _, fun b o h _ => sm b o h, fun _ _ _ _ h => h⟩ hq⟩
    · subst z
      exact ⟨_, le _ _ xf.1⟩
    · cases od with
      | none =>
        rw [xf.2] at z
        simp at z
      | some d => exact ⟨d, _, rfl, le _ _ xf.1, lookup_mem (fl_nd kx.le) z⟩
    · rw [List.mem_singleton.mp m]
      exact np
/-! ### fractions -/
theorem g_le {t b : Int} (h : 0 < b) : (Fr.g t b).natAbs ≤ b.natAbs := by
  have h1 := Fr.g_pos (t := t) h
  have h2 : Fr.g t b ∣ b := Int.gcd_dvd_right t b
  exact Nat.le_of_dvd (by omega) (Int.natAbs_dvd_natAbs.mpr h2)
theorem g_le' {t b : Int} {n : Nat} (h : 0 < b) (hb : b.natAbs < 2 ^ n) : (Fr.g t b).natAbs < 2 ^ n := Nat.lt_of_le_of_lt (g_le h) hb
theorem dv_le {x y : Int} {n : Nat} (hx : x.natAbs < 2 ^ n) : (x / y).natAbs < 2 ^ n := Nat.lt_of_le_of_lt (Int.natAbs_ediv_le_natAbs x y) hx
abbrev frD (f : Int × Int) : D := .tup [.int f.1, .int f.2]
def mfLow : MF := fun ds Q _ => ∃ t b : Int, ds = [.int t, .int b] ∧ 0 < b ∧ b.natAbs < 2 ^ 8000 ∧ Q (.sh (frD (Fr.low t b)))
abbrev s__law_lowest : Stmt := top 54
theorem sc__law_lowest : FnScope ["_law_top", "_law_bottom", "_law_one", "_law_other"] ["_law_top", "_law_bottom"] (defScope s__law_lowest) := ⟨rfl, rfl, rfl, by decide +kernel, rfl, by decide +kernel, by decide +kernel⟩
theorem ok_low {f : Addr} {fd : FuncData} {k : Nat} (F : Fun K "_law_lowest" "_law_lowest" s__law_lowest f fd) : FnOk P w K mg base CX0 (k + 1) f fd ["_law_top", "_law_bottom"] (spP K 2 mfLow) := by
  refine fn_ok F sc__law_lowest rfl (fun cdv A outer s H E hr => ?_) (fun _ _ _ h => h)
  refine ⟨_, _, (pss_cons (ps_par (i := 2) (j := 3) (by rfl) sc__law_lowest.nd rfl rfl (by decide) rfl rfl (pa_cons (pv 0) (pa_cons (pv 1) pa_nil)) (by rfl))
      (pss_cons (ps_while PassesOwn.never (pt_cmpR op_ne (pv 3) pe_int (nomark _))
        (pss_one (ps_par (i := 2) (j := 3) (by rfl) sc__law_lowest.nd rfl rfl (by decide) rfl rfl (pa_cons (pv 3) (pa_cons (pe_op op_modN (pv 2) (pv 3)) pa_nil)) (by rfl))))
      (pss_one (ps_ret (pe_tup (pa_cons (pe_op op_fdivW (pv 0) (pv 2)) (pa_cons (pe_op op_fdivW (pv 1) (pv 2)) pa_nil))))))), inferInstance, ?_⟩
  rintro ds Qd hl ⟨t, b, rfl, hb, hB, q⟩
  refine ⟨fun m ρ => ∃ x y : Int, ρ = [some (.sh (.int t)), some (.sh (.int b)), some (.sh (.int x)), some (.sh (.int y))] ∧ m = y.natAbs ∧ Int.gcd x y = Int.gcd t b ∧ 0 ≤ y ∧ (0 < x ∨ 0 < y), ⟨_, t, b, rfl, rfl, rfl, by omega, .inr hb⟩, ?_⟩
  rintro m ρ ⟨x, y, rfl, rfl, e, y0, xy⟩
  refine .inr ⟨rfl, ite2 (fun z => ?_) (fun z => ?_)⟩
  · have y1 : y ≠ 0 := fun h0 => by
      subst h0
      exact absurd z (by decide)
    refine ⟨fun ρ' => ρ' = [some (.sh (.int t)), some (.sh (.int b)), some (.sh (.int y)), some (.sh (.int (x.fmod y)))], ?_, y1, rfl⟩
    rintro ρ' rfl
    exact ⟨_, Fr.fmod_lt x y1, y, x.fmod y, rfl, rfl, by rw [Fr.gcd_step, e], Int.fmod_nonneg_of_pos x (by omega), .inl (by omega)⟩
  · have y1 : y = 0 := by
      have z1 : (!decide (V.int y = V.int 0)) = false := by simpa using z
      have z2 : decide (V.int y = V.int 0) = true := by simpa using z1
      exact V.int.inj (of_decide_eq_true z2)
    subst y1
    have ex : x = Fr.g t b := by
      unfold Fr.g
      rw [← e, Int.gcd_zero_right]
      omega
    subst ex
    have c := cdiv (i := t) (Fr.g_pos (t := t) hb) (g_le' (t := t) hb hB)
    have c2 := cdiv (i := b) (Fr.g_pos (t := t) hb) (g_le' (t := t) hb hB)
    exact .inr ⟨c, c2, by show 2 ≤ sizeLine; decide, q⟩
/-! ### a drawn number -/
def mfNum : MFI := fun es ds Q => (∃ x y z, es = i3 x y z) ∧ ds = [] ∧ ∀ f x y z, Fr.Ok f → f.1.natAbs < 2 ^ 40 → f.2.natAbs < 2 ^ 40 → Q (.sh (frD f)) (i3 x y z)
abbrev s__law_number : Stmt := top 55
theorem sc__law_number : FnScope ["_law_pile_here", "_law_lean", "_law_top"] ["_law_pile_here"] (defScope s__law_number) := ⟨rfl, rfl, rfl, by decide +kernel, rfl, by decide +kernel, by decide +kernel⟩
theorem ok_num {f : Addr} {fd : FuncData} {k : Nat} {pt : List Str} (F : Fun K "_law_number" "_law_number" s__law_number f fd) (c__law_take : Cal P w K mg base 2 "_law_take" pt (spI K 1 mfTake)) (c__law_lowest : Cal P w K mg base 1 "_law_lowest" ["_law_top", "_law_bottom"] (spP K 2 mfLow)) : FnOk P w K mg base CX0 (k + 2 + 1) f fd ["_law_pile_here"] (spI K 0 mfNum) := by
  refine fn_okI F sc__law_number rfl (fun cdv A outer s H E hr => ?_)
  have hr : Room 2 _ := hr.mono (Nat.le_add_left 2 k)
  refine ⟨_, _, (pss_cons (ps_set (i := 1) sc__law_number.nd rfl (Or.inl rfl) (pe_cal c__law_take hr (by rfl) (pa_cons (pv 0) (pa_cons pe_int pa_nil))))
      (pss_cons (ps_if (pt_cmpR op_eq (pv 1) pe_int (nomark _))
        (pss_cons (ps_set (i := 2) sc__law_number.nd rfl (Or.inl rfl) (pe_op op_add (pe_op op_mulW (pe_cal c__law_take hr (by rfl) (pa_cons (pv 0) (pa_cons (pe_op op_pow pe_int pe_int) pa_nil))) (pe_op op_pow pe_int pe_int)) (pe_cal c__law_take hr (by rfl) (pa_cons (pv 0) (pa_cons (pe_op op_pow pe_int pe_int) pa_nil)))))
          (pss_one (ps_ret (pe_cal c__law_lowest hr (by rfl) (pa_cons (pe_ix ix_list (pe_lst (pa_cons (pv 2) (pa_cons (pe_un un_neg (pv 2)) pa_nil))) (pe_cal c__law_take hr (by rfl) (pa_cons (pv 0) (pa_cons pe_int pa_nil))) (fun _ _ => rfl)) (pa_cons (pe_op op_add pe_int (pe_cal c__law_take hr (by rfl) (pa_cons (pv 0) (pa_cons (pe_op op_pow pe_int pe_int) pa_nil)))) pa_nil))))))
        pss_nil)
      (pss_cons (ps_if (pt_cmpR op_gt (pv 1) pe_int (nomark _))
        (pss_one (ps_ret (pe_cal c__law_lowest hr (by rfl) (pa_cons (pe_op op_sub (pe_cal c__law_take hr (by rfl) (pa_cons (pv 0) (pa_cons pe_int pa_nil))) pe_int) (pa_cons (pe_op op_add pe_int (pe_cal c__law_take hr (by rfl) (pa_cons (pv 0) (pa_cons pe_int pa_nil)))) pa_nil)))))
        pss_nil)
      (pss_one (ps_ret (pe_tup (pa_cons (pe_op op_sub (pe_cal c__law_take hr (by rfl) (pa_cons (pv 0) (pa_cons pe_int pa_nil))) pe_int) (pa_cons pe_int pa_nil)))))))), inferInstance, ?_⟩
  rintro es ds Qd hl ⟨⟨x, y, z, rfl⟩, rfl, q⟩
  have fin : ∀ {s : S} {ρ : Da.Env} {x y z : Int} {f : Int × Int}, s = .sh (frD f) → ρ[0]? = some (some (.io 0 (shs (i3 x y z)))) → Fr.Ok f → f.1.natAbs < 2 ^ 40 → f.2.natAbs < 2 ^ 40 → s.nio ∧ ∃ es', ρ[0]? = some (some (.io 0 (shs es'))) ∧ Qd s es' := fun {s ρ x y z f} e h o b1 b2 => by
    subst e
    exact ⟨trivial, i3 x y z, h, q f x y z o b1 b2⟩
  have e5 : (10 : Int) ^ (5 : Int).toNat = 100000 := by decide
  have e6 : (10 : Int) ^ (6 : Int).toNat = 1000000 := by decide
  have p40 : (2 : Nat) ^ 40 = 1099511627776 := by decide
  have lw : ∀ {t b : Int}, 0 < b → t.natAbs < 2 ^ 40 → b.natAbs < 2 ^ 40 → Fr.Ok (Fr.low t b) ∧ (Fr.low t b).1.natAbs < 2 ^ 40 ∧ (Fr.low t b).2.natAbs < 2 ^ 40 := fun {t b} h h1 h2 => ⟨Fr.low_ok h, dv_le h1, dv_le h2⟩
  refine .inr ⟨rfl, i3 x y z, _, rfl, rfl, ⟨_, _, _, rfl⟩, 12, rfl, by decide, by decide, fun d x y z d0 d1 => ?_⟩
  refine .inr ⟨rfl, ite2 (fun _ => ?_) (fun _ => ?_)⟩
  · have cp5 : CPow 10 5 := ⟨by decide, by decide, by decide⟩
    have cp6 : CPow 10 6 := ⟨by decide, by decide, by decide⟩
    refine .inr ⟨rfl, cp5, i3 x y z, _, rfl, rfl, ⟨_, _, _, rfl⟩, _, rfl, by decide, by decide, fun a x y z a0 a1 => ?_⟩
    rw [e5] at a1
    refine ⟨cp6, cmul (a := 40) (b := 40) (by rw [p40]; omega) (by decide), rfl, cp6, i3 x y z, _, rfl, rfl, ⟨_, _, _, rfl⟩, _, rfl, by decide, by decide, fun b x y z b0 b1 => ?_⟩
    rw [e6] at b1
    refine .inr ⟨by show 2 ≤ sizeLine; decide, rfl, i3 x y z, _, rfl, rfl, ⟨_, _, _, rfl⟩, 2, rfl, by decide, by decide, fun g x y z g0 g1 => ?_⟩
    have key : ∃ t : Int, atI [D.int (a * 10 ^ (6 : Int).toNat + b), .int (-(a * 10 ^ (6 : Int).toNat + b))] g = some (.int t) ∧ t.natAbs < 2 ^ 40 := by
      rcases (show g = 0 ∨ g = 1 by omega) with rfl | rfl
      · exact ⟨_, rfl, by rw [e6, p40]; omega⟩
      · exact ⟨_, rfl, by rw [e6, p40]; omega⟩
    obtain ⟨t, ht, hb⟩ := key
    refine ⟨_, ht, rfl, cp6, i3 x y z, _, rfl, rfl, ⟨_, _, _, rfl⟩, _, rfl, by decide, by decide, fun e x y z e0 e1 => ?_⟩
    rw [e6] at e1
    have l := lw (t := t) (b := 1 + e) (by omega) hb (by rw [p40]; omega)
    exact ⟨rfl, t, 1 + e, rfl, by omega, Nat.lt_of_lt_of_le (show (1 + e).natAbs < 2 ^ 40 by rw [p40]; omega) (Nat.pow_le_pow_right (by decide) (by decide)), fin rfl rfl l.1 l.2.1 l.2.2⟩
  · refine .inr (ite2 (fun _ => ?_) (fun _ => ?_))
    · refine .inr ⟨rfl, i3 x y z, _, rfl, rfl, ⟨_, _, _, rfl⟩, 13, rfl, by decide, by decide, fun a x y z a0 a1 => ?_⟩
      refine ⟨rfl, i3 x y z, _, rfl, rfl, ⟨_, _, _, rfl⟩, 4, rfl, by decide, by decide, fun b x y z b0 b1 => ?_⟩
      have l := lw (t := a - 6) (b := 1 + b) (by omega) (by rw [p40]; omega) (by rw [p40]; omega)
      exact ⟨rfl, a - 6, 1 + b, rfl, by omega, by omega, fin rfl rfl l.1 l.2.1 l.2.2⟩
    · refine .inr ⟨rfl, i3 x y z, _, rfl, rfl, ⟨_, _, _, rfl⟩, 9, rfl, by decide, by decide, fun a x y z a0 a1 => ?_⟩
      refine ⟨by show 2 ≤ sizeLine; decide, fin (f := (a - 4, 1)) rfl rfl ⟨by show (0 : Int) < 1; decide, by show Int.gcd (a - 4) 1 = 1; rw [Int.gcd_one_right]⟩ ?_ (by show (1 : Int).natAbs < 2 ^ 40; decide)⟩
      show (a - 4).natAbs < 2 ^ 40
      rw [p40]
      omega
/-! ### drawn rows -/
abbrev Rw := List (Int × Int)
abbrev rowS (r : Rw) : S := .ow (shs (r.map frD))
def Okf (f : Int × Int) : Prop := Fr.Ok f ∧ f.1.natAbs < 2 ^ 40 ∧ f.2.natAbs < 2 ^ 40
theorem shs_app (a b : List D) : shs a ++ shs b = shs (a ++ b) := (List.map_append ..).symm
theorem draw_row {R : Int → Int → Int → Da.Env} {k p : Nat} {Q : List S → Da.Env → Prop} (hl : ∀ e x y z, lsO ((R x y z).set k (some (.sh e)))[p]? = some (shs (i3 x y z), .ow)) (hw : ∀ e x y z x' y' z', wp (((R x y z).set k (some (.sh e))).set p (some (.ow (shs (i3 x' y' z'))))) [k] = R x' y' z') :
    ∀ (ds : List D) (acc : Rw) (x y z : Int), (∀ (fs : Rw) x y z, fs.length = ds.length → (∀ f ∈ fs, Okf f) → Q (shs ((acc ++ fs).map frD)) (R x y z)) → lcp (mgName k) mYes (mCallI p 0 mfNum mNil) [k] Q ds (shs (acc.map frD)) (R x y z)
  | [], acc, x, y, z, h => by
    have := h [] x y z rfl (fun _ m => (nomatch m))
    rw [List.append_nil] at this
    exact this
  | d :: ds, acc, x, y, z, h => by
    refine ⟨by rw [hl]; rfl, i3 x y z, .ow, hl d x y z, rfl, ⟨_, _, _, rfl⟩, rfl, fun f x' y' z' o b1 b2 => ?_⟩
    show lcp (mgName k) mYes (mCallI p 0 mfNum mNil) [k] Q ds (shs (acc.map frD) ++ [.sh (frD f)]) (wp (((R x y z).set k (some (.sh d))).set p (some (.ow (shs (i3 x' y' z'))))) [k])
    rw [hw]
    have e : shs (acc.map frD) ++ [.sh (frD f)] = shs ((acc ++ [f]).map frD) := by
      show List.map S.sh _ ++ _ = List.map S.sh _
      rw [List.map_append, List.map_append]
      rfl
    rw [e]
    refine draw_row hl hw ds (acc ++ [f]) x' y' z' fun fs a b c' lz ok => ?_
    have := h (f :: fs) a b c' (by simp [lz]) (fun g m => by
      rcases List.mem_cons.mp m with r | r
      · rw [r]
        exact ⟨o, b1, b2⟩
      · exact ok g r)
    rw [List.append_assoc]
    exact this
theorem draw_rows {R : Int → Int → Int → Da.Env} {j k p ns : Nat} {n : Int} {Q : List S → Da.Env → Prop} (n0 : 0 ≤ n) (n1 : n ≤ 100) (R' : D → Int → Int → Int → Da.Env) (h0 : ∀ d x y z, wp ((R x y z).set j (some (.sh d))) [k] = R' d x y z)
    (hn : ∀ d x y z, ((R x y z).set j (some (.sh d)))[ns]? = some (some (.sh (.int n)))) (hl : ∀ d e x y z, lsO ((R' d x y z).set k (some (.sh e)))[p]? = some (shs (i3 x y z), .ow)) (hw : ∀ d e x y z x' y' z', wp (((R' d x y z).set k (some (.sh e))).set p (some (.ow (shs (i3 x' y' z'))))) [k] = R' d x' y' z') (hz : ∀ d x y z, wp (R' d x y z) [j] = R x y z) :
    ∀ (ds : List D) (acc : List Rw) (x y z : Int), (∀ (rs : List Rw) x y z, rs.length = ds.length → (∀ r ∈ rs, r.length = n.toNat ∧ ∀ f ∈ r, Okf f) → Q ((acc ++ rs).map rowS) (R x y z)) → lcp (mgName j) mYes (mLc (miRng1 (mCons (mVar ns) mNil)) [k] (mgName k) mYes (mCallI p 0 mfNum mNil) [k]) [j] Q ds (acc.map rowS) (R x y z)
  | [], acc, x, y, z, h => by
    have := h [] x y z rfl (fun _ m => (nomatch m))
    rw [List.append_nil] at this
    exact this
  | d :: ds, acc, x, y, z, h => by
    have st : ∀ {Q' : S → Da.Env → Prop}, (∀ (r : Rw) x' y' z', r.length = n.toNat → (∀ f ∈ r, Okf f) → Q' (rowS r) (R' d x' y' z')) → mLc (miRng1 (mCons (mVar ns) mNil)) [k] (mgName k) mYes (mCallI p 0 mfNum mNil) [k] ((R x y z).set j (some (.sh d))) Q' X0 := fun {Q'} hq => by
      have mv : ∀ {Q2 : S → Da.Env → Prop}, Q2 (.sh (.int n)) ((R x y z).set j (some (.sh d))) → mVar ns ((R x y z).set j (some (.sh d))) Q2 X0 := fun {Q2} q2 => by
        unfold mVar
        rw [hn d x y z]
        exact q2
      unfold mLc miRng1 mVA mCons
      refine mv ?_
      refine ⟨by omega, by omega, by simp, by rw [rng_len]; exact small (by omega), ?_⟩
      rw [h0]
      refine draw_row (R := R' d) (hl d) (hw d) (rng 0 1 n.toNat) [] x y z fun fs a b c' lz ok => ?_
      rw [rng_len] at lz
      exact hq fs a b c' lz ok
    show mLc (miRng1 (mCons (mVar ns) mNil)) [k] (mgName k) mYes (mCallI p 0 mfNum mNil) [k] ((R x y z).set j (some (.sh d))) (fun s ρ3 => lcp (mgName j) mYes (mLc (miRng1 (mCons (mVar ns) mNil)) [k] (mgName k) mYes (mCallI p 0 mfNum mNil) [k]) [j] Q ds (acc.map rowS ++ [s]) (wp ρ3 [j])) X0
    refine st fun r x' y' z' lr ok => ?_
    show lcp (mgName j) mYes _ [j] Q ds (acc.map rowS ++ [rowS r]) (wp (R' d x' y' z') [j])
    rw [hz]
    have e : acc.map rowS ++ [rowS r] = (acc ++ [r]).map rowS := by
      rw [List.map_append]
      rfl
    rw [e]
    refine draw_rows n0 n1 R' h0 hn hl hw hz ds (acc ++ [r]) x' y' z' fun rs a b c' lz ok' => ?_
    have := h (r :: rs) a b c' (by simp [lz]) (fun t m => by
      rcases List.mem_cons.mp m with q | q
      · rw [q]
        exact ⟨lr, ok⟩
      · exact ok' t q)
    rw [List.append_assoc]
    exact this
end
end Toy
namespace Toy
open PySem L2 Cc Da
section
variable {w : World} {K : PySem.W.Frag} {mg : Str → Option Value} {base : Heap} {c : Adr}
/-! ### rows, tables -/
abbrev rowD (r : Rw) : D := .lst (r.map frD)
abbrev rowsD (rs : List Rw) : D := .lst (rs.map rowD)
abbrev gridD (rs : List Rw) : D := .tup (rs.map fun r => .tup (r.map frD))
abbrev tabD (C : Addr) (rs : List Rw) : D := .ob C ["grid"] [gridD rs]
theorem fr_nl (f : Int × Int) : (frD f).nl := ⟨trivial, trivial, trivial⟩
theorem fr_cl (f : Int × Int) : (frD f).cl := ⟨trivial, trivial, trivial⟩
theorem row_cl (r : Rw) : (rowD r).cl := cls_all fun d m => by
  obtain ⟨f, _, rfl⟩ := List.mem_map.mp m
  exact fr_cl f
theorem rows_cl (rs : List Rw) : (rowsD rs).cl := cls_all fun d m => by
  obtain ⟨r, _, rfl⟩ := List.mem_map.mp m
  exact row_cl r
theorem row_dp (r : Rw) : (rowD r).dp ≤ 3 := by
  have h : dps (r.map frD) ≤ 2 := dps_all fun d m => by
    obtain ⟨f, _, rfl⟩ := List.mem_map.mp m
    exact Nat.le_refl 2
  show dps (r.map frD) + 1 ≤ 3
  omega
theorem rows_dp (rs : List Rw) : (rowsD rs).dp ≤ 4 := by
  have h : dps (rs.map rowD) ≤ 3 := dps_all fun d m => by
    obtain ⟨r, _, rfl⟩ := List.mem_map.mp m
    exact row_dp r
  show dps (rs.map rowD) + 1 ≤ 4
  omega
theorem grid_nl (rs : List Rw) : (gridD rs).nl := nls_all fun d m => by
  obtain ⟨r, _, rfl⟩ := List.mem_map.mp m
  exact nls_all fun d m => by
    obtain ⟨f, _, rfl⟩ := List.mem_map.mp m
    exact fr_nl f
theorem tab_nl (C : Addr) (rs : List Rw) : (tabD C rs).nl := ⟨grid_nl rs, trivial⟩
theorem seq_as {a b d : TS} {D : Ends} {σ : L2.St} {H : Hp} (h : tSeq (tSeq a b) d D σ H) : tSeq a (tSeq b d) D σ H := h
/-- where rows are no table: -1, or the first wrong row -/
def fb (n : Nat) : Nat → List Rw → Option Int
  | _, [] => none
  | k, r :: t => if r.length = n then fb n (k + 1) t else some (k : Nat)
def bad (rs : List Rw) : Option Int := if 1 ≤ rs.length ∧ rs.length ≤ 5 then fb rs.length 0 rs else some (-1)
def mfTab (C X : Addr) : MK := fun ds Qd Qx => ∃ rs : List Rw, ds = [rowsD rs] ∧ rs.length < 1000 ∧ (∀ r ∈ rs, r.length < 1000) ∧ match bad rs with
  | some k => Qx (.exc X ["place"] [.int k])
  | none => Qd (tabD C rs)
abbrev s_Table___init__ : Stmt := inClass (top 48) 0
theorem sc_Table___init__ : FnScope ["self", "rows", "place", "row"] ["self", "rows"] (defScope s_Table___init__) := ⟨rfl, rfl, rfl, by decide +kernel, rfl, by decide +kernel, by decide +kernel⟩
theorem ok_tab {f fI : Addr} {fd : FuncData} {k : Nat} (F : Fun K "__init__" "Table.__init__" s_Table___init__ f fd) (T : Txt K mg c) (cl : Cls K c.Table) (na : NoAttr K c.Table "grid") (xT : PySem.SupX.ExTxt K mg c.NoTable) (iT : PySem.SupX.In_NoTable K mg c.NoTable fI) :
    FnOk RW0 w K mg base (L2.CX RW0 w) (k + 1 + 1) f fd ["self", "rows"] (spM K c.Table 1 (mfTab c.Table c.NoTable)) := by
  refine F.okX sc_Table___init__ (fun vs H Q E h => h.1) (fun cdv A outer s H vs Q E hr h => ?_)
  obtain ⟨hl, x, dx, vr, Hs, ds, Qd, Qx, rfl, hx, hs, le, q, ⟨rs, rfl, l1, l2, hm⟩, k1, k2⟩ := h
  have hr : Room 1 _ := hr.mono (Nat.le_add_left 1 k)
  obtain ⟨tkm, mpl⟩ := T.k_MOST_PLACES
  refine ⟨_, (pss_cons (ps_if (pt_not (pt_chain op_le op_le pe_int (pe_callB (id := "len") (r := rLenK K) call_lenK (by rfl) T.len (by decide +kernel) (pa_cons (pv 1) pa_nil)) (pe_glob (v := .int 5) (by rfl) mpl ⟨_, rfl⟩)))
        (pss_one (ps_rs1 (F := "place") (C := c.NoTable) rfl (takes_of rfl rfl rfl rfl) (pmk_NoTable rfl xT iT hr (pa_cons (pe_un un_neg pe_int) pa_nil)) rfl))
        pss_nil)
      (pss_cons (ps_for (passes_of rfl) rfl (pi_enum (by rfl) T.enumerate (pa_cons (pv 1) pa_nil)) (pg_tup rfl (pgs_cons (pg_name (i := 2) sc_Table___init__.nd rfl (Or.inl rfl)) (pgs_cons (pg_name (i := 3) sc_Table___init__.nd rfl (Or.inl rfl)) pgs_nil)))
        (pss_one (ps_if (pt_cmpR op_ne (pe_callB (id := "len") (r := rLenK K) call_lenK (by rfl) T.len (by decide +kernel) (pa_cons (pv 3) pa_nil)) (pe_callB (id := "len") (r := rLenK K) call_lenK (by rfl) T.len (by decide +kernel) (pa_cons (pv 1) pa_nil)) (nomark _))
            (pss_one (ps_rs1 (F := "place") (C := c.NoTable) rfl (takes_of rfl rfl rfl rfl) (pmk_NoTable rfl xT iT hr (pa_cons (pv 2) pa_nil)) rfl))
            pss_nil)))
      (pss_one (ps_fld (pv 0) (pe_callTy (T := "tuple") (r := rTupK K) call_tupK (by rfl) T.tuple_ (by decide +kernel) (pa_cons (pe_lc (own := [("row", 3)]) (by rfl) sc_Table___init__.nd (pi_list (pv 1)) (blkOk_by (own := [("row", 3)]) (N := ["self", "rows", "place", "row"]) (sc := defScope s_Table___init__) (by decide +kernel)) (fun _ _ _ _ _ => (pg_name (i := 3) sc_Table___init__.nd rfl (Or.inl rfl))) (fun _ _ _ _ _ => pts_nil) (fun _ _ _ _ _ => (pe_callTy (T := "tuple") (r := rTupK K) call_tupK (by rfl) T.tuple_ (by decide +kernel) (pa_cons (pv 3) pa_nil)))) pa_nil)) rfl)))), ?_⟩
  refine seq_as (body_init (K := K) (E := E) le q hx hs cl na ?_ k1 k2)
  have no : ¬ (1 ≤ rs.length ∧ rs.length ≤ 5) → Qx (.exc c.NoTable ["place"] [.int (-1)]) := fun z => by
    unfold bad at hm
    rw [if_neg z] at hm
    exact hm
  have ln : (rs.map rowD).length = rs.length := List.length_map ..
  -- 1 <= len(rows) <= 5
  refine .inr (iteD (fun z1 => iteND (fun z2 => no fun z => z2 (by rw [ln]; omega)) (fun z2 => ?_)) (fun z1 => no fun z => z1 (by rw [ln]; omega)))
  have hm : match fb rs.length 0 rs with
      | some k => Qx (.exc c.NoTable ["place"] [.int k])
      | none => Qd (tabD c.Table rs) := by
    unfold bad at hm
    rw [ln] at z1 z2
    rw [if_pos (by omega)] at hm
    exact hm
  -- the rows one by one
  refine (?key : ∀ (tl : List Rw) (k0 : Nat) (o2 o3 : Option S), (match fb rs.length k0 tl with
      | some k => Qx (.exc c.NoTable ["place"] [.int k])
      | none => Qd (tabD c.Table rs)) → lp _ _ _ (enumD k0 (tl.map rowD)) [some (.sh (.raw (.ref x))), some (.sh (rowsD rs)), o2, o3]) rs 0 none none hm
  intro tl
  induction tl with
  | nil =>
    intro k0 o2 o3 hm
    refine ⟨rfl, .inr ⟨rfl, small (by rw [ln]; omega), lcp_map (fun d => match d with | .lst es => .sh (.tup es) | d => .sh d) (rs.map rowD) ?_ (fun _ => rfl) ?_⟩⟩
    · intro d m Q' q'
      obtain ⟨r, hr, rfl⟩ := List.mem_map.mp m
      exact q'
    · have hm : Qd (tabD c.Table rs) := hm
      have e : fzs ([] ++ (rs.map rowD).map fun d => match d with | .lst es => S.sh (.tup es) | d => .sh d) = rs.map fun r => D.tup (r.map frD) := by
        rw [List.nil_append, List.map_map]
        have e2 : (rs.map ((fun d => match d with | .lst es => S.sh (.tup es) | d => .sh d) ∘ rowD)) = shs (rs.map fun r => D.tup (r.map frD)) := by
          show _ = (rs.map fun r => D.tup (r.map frD)).map S.sh
          rw [List.map_map]
          rfl
        rw [e2, fzs_shs]
      show Qd (.ob c.Table ["grid"] [.tup (fzs ([] ++ (rs.map rowD).map fun d => match d with | .lst es => S.sh (.tup es) | d => .sh d))])
      rw [e]
      exact hm
  | cons r tl ih =>
    intro k0 o2 o3 hm
    have lr : (r.map frD).length = r.length := List.length_map ..
    unfold fb at hm
    refine ⟨rfl, .inr ⟨rfl, iteND (fun z => ?_) (fun z => ?_)⟩⟩
    · rw [if_neg fun q => z (by rw [lr, ln, q])] at hm
      exact hm
    · have z : ((r.map frD).length : Int) = ((rs.map rowD).length : Nat) := V.int.inj z
      rw [lr, ln] at z
      rw [if_pos (by omega)] at hm
      exact ih (k0 + 1) _ _ hm
/-! ### rows() -/
def mfRows (C : Addr) : MF := fun ds Q _ => ∃ rs : List Rw, ds = [tabD C rs] ∧ rs.length < 1000 ∧ Q (.ow (rs.map rowS))
abbrev s_Table_rows : Stmt := inClass (top 48) 5
theorem sc_Table_rows : FnScope ["self", "row"] ["self"] (defScope s_Table_rows) := ⟨rfl, rfl, rfl, by decide +kernel, rfl, by decide +kernel, by decide +kernel⟩
theorem ok_rows {f : Addr} {fd : FuncData} {k : Nat} (F : Fun K "rows" "Table.rows" s_Table_rows f fd) (T : Txt K mg c) (cl : Cls K c.Table) (na : NoAttr K c.Table "grid") : FnOk RW0 w K mg base CX0 (k + 1) f fd ["self"] (spP K 1 (mfRows c.Table)) := by
  refine fn_ok F sc_Table_rows rfl (fun cdv A outer s H E hr => ?_) (fun _ _ _ h => h)
  refine ⟨_, _, (pss_one (ps_ret (pe_lc (own := [("row", 1)]) (by rfl) sc_Table_rows.nd (pi_tup (pe_fld (pv 0) (by rfl))) (blkOk_by (own := [("row", 1)]) (N := ["self", "row"]) (sc := defScope s_Table_rows) (by decide +kernel)) (fun _ _ _ _ _ => (pg_name (i := 1) sc_Table_rows.nd rfl (Or.inl rfl))) (fun _ _ _ _ _ => pts_nil) (fun _ _ _ _ _ => (pe_callTy (T := "list") (r := rListK K) call_listK (by rfl) T.list_ (by decide +kernel) (pa_cons (pv 1) pa_nil)))))), inferInstance, ?_⟩
  rintro ds Qd hl ⟨rs, rfl, l1, q⟩
  refine .inr ⟨cl, na, gridD rs, rfl, rfl, small (by rw [List.length_map]; omega), lcp_map (fun d => match d with | .tup es => .ow (shs es) | d => .sh d) _ ?_ (fun _ => rfl) ?_⟩
  · intro d m Q' q'
    obtain ⟨r, hr, rfl⟩ := List.mem_map.mp m
    exact q'
  · rw [List.nil_append, List.map_map]
    exact q
/-! ### due -/
def dueS (rs : List Rw) : S := match bad rs with
  | some k => .ow [.sh (.str "table"), .sh (.int k)]
  | none => .sh (rowsD rs)
def mfDue : MF := fun ds Q _ => ∃ rs : List Rw, ds = [rowsD rs] ∧ rs.length < 1000 ∧ Q (dueS rs)
abbrev s__law_due : Stmt := top 57
theorem sc__law_due : FnScope ["_law_rows", "_law_place", "_law_row"] ["_law_rows"] (defScope s__law_due) := ⟨rfl, rfl, rfl, by decide +kernel, rfl, by decide +kernel, by decide +kernel⟩
theorem ok_due {f : Addr} {fd : FuncData} {k : Nat} (F : Fun K "_law_due" "_law_due" s__law_due f fd) (T : Txt K mg c) : FnOk RW0 w K mg base CX0 (k + 1) f fd ["_law_rows"] (spP K 1 mfDue) := by
  refine fn_ok F sc__law_due rfl (fun cdv A outer s H E hr => ?_) (fun _ _ _ h => h)
  refine ⟨_, _, (pss_cons (ps_if (PW.pt (pw_or (pt_cmpR (op_eqD hr.units) (pv 0) (pe_lst pa_nil) (nomark _)) (pw_or1 (pt_cmpR op_gt (pe_callB (id := "len") (r := rLenK K) call_lenK (by rfl) T.len (by decide +kernel) (pa_cons (pv 0) pa_nil)) pe_int (nomark _)))))
        (pss_one (ps_ret (pe_lst (pa_cons pe_str (pa_cons (pe_un un_neg pe_int) pa_nil)))))
        pss_nil)
      (pss_cons (ps_for PassesOwn.never rfl (pi_enum (by rfl) T.enumerate (pa_cons (pv 0) pa_nil)) (pg_tup rfl (pgs_cons (pg_name (i := 1) sc__law_due.nd rfl (Or.inl rfl)) (pgs_cons (pg_name (i := 2) sc__law_due.nd rfl (Or.inl rfl)) pgs_nil)))
        (pss_one (ps_if (pt_cmpR op_ne (pe_callB (id := "len") (r := rLenK K) call_lenK (by rfl) T.len (by decide +kernel) (pa_cons (pv 2) pa_nil)) (pe_callB (id := "len") (r := rLenK K) call_lenK (by rfl) T.len (by decide +kernel) (pa_cons (pv 0) pa_nil)) (nomark _))
            (pss_one (ps_ret (pe_lst (pa_cons pe_str (pa_cons (pv 1) pa_nil)))))
            pss_nil)))
      (pss_one (ps_ret (pv 0))))), inferInstance, ?_⟩
  rintro ds Qd hl ⟨rs, rfl, l1, q⟩
  have ln : (rs.map rowD).length = rs.length := List.length_map ..
  have no : ¬ (1 ≤ rs.length ∧ rs.length ≤ 5) → Qd (.ow [.sh (.str "table"), .sh (.int (-1))]) := fun z => by
    unfold dueS bad at q
    rw [if_neg z] at q
    exact q
  have out : ∀ {k : Int}, Qd (.ow [.sh (.str "table"), .sh (.int k)]) → (2 ≤ sizeLine) ∧ Qd (.ow [.sh (.str "table"), .sh (.int k)]) := fun h => ⟨by decide, h⟩
  refine .inr ⟨by show 0 ≤ sizeLine; decide, eq_nil (rows_cl rs) (Nat.le_trans (rows_dp rs) (by decide)) ?_⟩
  cases he : (rs.map rowD).isEmpty with
  | true =>
    refine Or.inr (out (no fun z => ?_))
    have e0 : rs.map rowD = [] := List.isEmpty_iff.mp he
    rw [← ln, e0] at z
    exact absurd z.1 (by decide)
  | false =>
    have h1 : rs.length ≠ 0 := fun z => by
      have e0 : rs.map rowD = [] := List.eq_nil_of_length_eq_zero (ln.trans z)
      rw [e0] at he
      exact absurd he (by decide)
    refine (Or.inr (iteD (fun z => .inr (out (no fun z' => by rw [ln] at z; omega))) (fun z => ?_)))
    rw [ln] at z
    have hm : Qd (match fb rs.length 0 rs with
        | some k => .ow [.sh (.str "table"), .sh (.int k)]
        | none => .sh (rowsD rs)) := by
      unfold dueS bad at q
      rw [if_pos (by omega)] at q
      exact q
    refine (?key : ∀ (tl : List Rw) (k0 : Nat) (o2 o3 : Option S), Qd (match fb rs.length k0 tl with
        | some k => .ow [.sh (.str "table"), .sh (.int k)]
        | none => .sh (rowsD rs)) → lp _ _ _ (enumD k0 (tl.map rowD)) [some (.sh (rowsD rs)), o2, o3]) rs 0 none none hm
    intro tl
    induction tl with
    | nil =>
      intro k0 o2 o3 hm
      exact hm
    | cons r tl ih =>
      intro k0 o2 o3 hm
      have lr : (r.map frD).length = r.length := List.length_map ..
      unfold fb at hm
      refine ⟨rfl, .inr ⟨rfl, iteND (fun z => ?_) (fun z => ?_)⟩⟩
      · rw [if_neg fun q => z (by rw [lr, ln, q])] at hm
        exact .inr (out hm)
      · have z : ((r.map frD).length : Int) = ((rs.map rowD).length : Nat) := V.int.inj z
        rw [lr, ln] at z
        rw [if_pos (by omega)] at hm
        exact ih (k0 + 1) _ _ hm
end
end Toy
namespace Toy
open PySem L2 Cc Da
section
variable {w : World} {K : PySem.W.Frag} {mg : Str → Option Value} {base : Heap} {c : Adr}
theorem rowS_told (r : Rw) : (rowS r).told := tolds_shs fun d m => by
  obtain ⟨f, _, rfl⟩ := List.mem_map.mp m
  exact fr_nl f
theorem rowsS_told (rs : List Rw) : tolds (rs.map rowS) := tolds_all fun s m => by
  obtain ⟨r, _, rfl⟩ := List.mem_map.mp m
  exact rowS_told r
theorem so_table : PyData.strOk ("table" : Str) = true := by decide +kernel
abbrev kdL (k : Int) : List D := [.str "table", .int k]
def toldS (rs : List Rw) : S := match bad rs with
  | some k => .ow (shs (kdL k))
  | none => .ow (rs.map rowS)
def aliveD (c : Adr) (rs : List Rw) : List D := match bad rs with
  | some k => [.tup [.exc c.NoTable ["place"] [.int k], .lst (kdL k)]]
  | none => []
def mfTold (c : Adr) : MFX := fun ss Q _ => ∃ (s0 : S) (es : List D) (rs : List Rw), ss = [s0, .ow (shs es)] ∧ s0.fz = rowsD rs ∧ s0.nio ∧ rs.length < 1000 ∧ (∀ r ∈ rs, r.length < 1000) ∧ es.length < 10000 ∧ Q (toldS rs) [s0, .ow (shs (es ++ aliveD c rs))]
abbrev s__law_told : Stmt := top 56
theorem sc__law_told : FnScope ["_law_rows", "_law_alive", "_law_kept", "_law_told_here", "e"] ["_law_rows", "_law_alive"] (defScope s__law_told) := ⟨rfl, rfl, rfl, by decide +kernel, rfl, by decide +kernel, by decide +kernel⟩
theorem ok_told {f : Addr} {fd : FuncData} {k : Nat} (F : Fun K "_law_told" "_law_told" s__law_told f fd) (T : Txt K mg c) (te : PySem.W.exmOne K (.ref c.NoTable) (.ref c.SlackError) = some true) (kx : KX K c c.NoTable 2)
    (c_Table : CalM RW0 w K mg base 2 "Table" c.Table ["self", "rows"] (spM K c.Table 1 (mfTab c.Table c.NoTable))) (c_Table_rows : CalT RW0 w K mg base 1 c.Table "rows" ["self"] (spP K 1 (mfRows c.Table)) []) (c__law_kind : Cal RW0 w K mg base 1 "_law_kind" ["_law_error"] (spP K 1 (mfKind K c))) :
    FnOk RW0 w K mg base CX0 (k + 3 + 1) f fd ["_law_rows", "_law_alive"] (spX K 2 (mfTold c)) := by
  refine fn_okXX F sc__law_told rfl (fun cdv A outer s H E hr => ?_) (fun _ _ _ h => h)
  have hr : Room 3 _ := hr.mono (Nat.le_add_left 3 k)
  refine ⟨_, _, (pss_cons (ps_set (i := 2) sc__law_told.nd rfl (Or.inl rfl) pe_non)
      (pss_cons (ps_set (i := 3) sc__law_told.nd rfl (Or.inl rfl) pe_non)
      (pss_cons (ps_tryK (i := 4) (j := 2) rfl rfl rfl sc__law_told.nd rfl rfl rfl rfl ⟨rfl, by decide, .inl T.g_SlackError⟩ (by decide) (by decide) (fun W pn xe tk hpo => (pss_one (ps_set (i := 3) sc__law_told.nd rfl (Or.inl rfl) (pe_mkCS c_Table tk hr (by rfl) (pa_cons (pv 0) pa_nil)))))
        (fun a pn => ps_set (i := 2) sc__law_told.nd rfl (Or.inl rfl) (pv 4)))
      (pss_cons (ps_if (pt_cmpR op_isN (pv 2) pe_non (nomark _))
        (pss_one (ps_ret (pe_mtC0 c_Table_rows hr (pv 3))))
        pss_nil)
      (pss_cons (ps_expr (pe_bm PySem.F.plainAttrs_list PySem.F.slot_list_append PySem.F.type_list_append mt_append (pv 1) (pa_cons (pe_tup (pa_cons (pv 2) (pa_cons (pe_cal c__law_kind hr (by rfl) (pa_cons (pv 2) pa_nil)) pa_nil))) pa_nil)))
      (pss_one (ps_ret (pe_cal c__law_kind hr (by rfl) (pa_cons (pv 2) pa_nil))))))))), inferInstance, ?_⟩
  rintro ss Qd hl ⟨s0, es, rs, rfl, e0, ni, l1, l2, l3, q⟩
  obtain ⟨x0, hx0, hρ, hf⟩ : ∃ x0 : S, x0.fz = rowsD rs ∧ rhoX 5 [s0, .ow (shs es)] = [some x0, some (.io 1 (shs es)), none, none, none] ∧ ∀ (ρ : Da.Env) (es' : List D), ρ[0]? = some (some x0) → ρ[1]? = some (some (.io 1 (shs es'))) → FinX ρ 0 [s0, .ow (shs es)] [s0, .ow (shs es')] := by
    cases s0 with
    | sh d => exact ⟨.sh d, e0, rfl, fun ρ es' _ h1 => ⟨rfl, ⟨_, rfl, h1, nios_shs es'⟩, trivial⟩⟩
    | ow ts => exact ⟨.io 0 ts, e0, rfl, fun ρ es' h0 h1 => ⟨⟨ts, rfl, h0, ni⟩, ⟨_, rfl, h1, nios_shs es'⟩, trivial⟩⟩
    | io k ts => exact ni.elim
  generalize hg : rhoX _ [s0, .ow (shs es)] = ρ0
  have hg2 : ρ0 = [some x0, some (.io 1 (shs es)), none, none, none] := hg.symm.trans hρ
  subst hg2
  clear hg hρ
  -- the table, or the refusal
  have tb : ∀ (Qo Qx : D → Prop), (bad rs = none → Qo (tabD c.Table rs)) → (∀ k, bad rs = some k → Qx (.exc c.NoTable ["place"] [.int k])) → mfTab c.Table c.NoTable [x0.fz] Qo Qx := fun Qo Qx h1 h2 => by
    refine ⟨rs, by rw [hx0], l1, l2, ?_⟩
    cases e : bad rs with
    | none => exact h1 e
    | some k => exact h2 k e
  refine .inr (.inr (.inl ⟨rfl, tb _ _ (fun e => ⟨rfl, tab_nl c.Table rs, ?_⟩) (fun k e => ⟨rfl, ⟨trivial, trivial⟩, te, ?_⟩)⟩))
  · refine .inr (.inr ⟨rfl, (by decide +kernel : ("rows" : Str) ∉ (["grid"] : List Str)), rfl, rs, rfl, l1, ?_⟩)
    have e1 : toldS rs = .ow (rs.map rowS) := by unfold toldS; rw [e]
    have e2 : aliveD c rs = [] := by unfold aliveD; rw [e]
    rw [e1, e2, List.append_nil] at q
    exact ⟨nios_of (rowsS_told rs), _, hf _ es rfl rfl, q⟩
  · have e1 : toldS rs = .ow (shs (kdL k)) := by unfold toldS; rw [e]
    have e2 : aliveD c rs = [.tup [.exc c.NoTable ["place"] [.int k], .lst (kdL k)]] := by unfold aliveD; rw [e]
    rw [e1, e2] at q
    have ls : (shs es).length < sizeLine := small (by rw [List.length_map]; omega)
    have es2 : shs es ++ [S.sh (.tup [.exc c.NoTable ["place"] [.int k], .lst (kdL k)])] = shs (es ++ [.tup [.exc c.NoTable ["place"] [.int k], .lst (kdL k)]]) := by
      show _ = List.map S.sh (es ++ _)
      rw [List.map_append]
      rfl
    refine .inr ⟨rfl, .inr ⟨rfl, c.NoTable, 2, [.int k], rfl, kx, by show 2 ≤ sizeLine; decide, shs es, .io 1, rfl, ls, ?_⟩⟩
    refine .inr ⟨rfl, c.NoTable, 2, [.int k], rfl, kx, nios_shs _, [s0, .ow (shs (es ++ [D.tup [D.exc c.NoTable ["place"] [D.int k], D.lst (kdL k)]]))], hf _ _ rfl ?_, q⟩
    rw [← es2]
    rfl
end
end Toy
namespace Toy
open PySem L2 Cc Da
section
variable {w : World} {K : PySem.W.Frag} {mg : Str → Option Value} {base : Heap} {c : Adr}
theorem fz_row (r : Rw) : (rowS r).fz = rowD r := by
  show D.lst (fzs (shs (r.map frD))) = _
  rw [fzs_shs]
theorem fzs_rows : ∀ rs : List Rw, fzs (rs.map rowS) = rs.map rowD
  | [] => rfl
  | r :: rs => by
    show (rowS r).fz :: fzs (rs.map rowS) = rowD r :: rs.map rowD
    rw [fz_row, fzs_rows rs]
theorem fzs_set : ∀ (ss : List S) (n : Nat) (s : S), fzs (ss.set n s) = (fzs ss).set n s.fz
  | [], _, _ => rfl
  | _ :: ss, 0, s => rfl
  | a :: ss, n + 1, s => by
    show a.fz :: fzs (ss.set n s) = a.fz :: (fzs ss).set n s.fz
    rw [fzs_set ss n s]
theorem nios_set : ∀ (ss : List S) (n : Nat) (s : S), nios ss → s.nio → nios (ss.set n s)
  | [], _, _, h, _ => h
  | _ :: ss, 0, s, h, q => ⟨q, h.2⟩
  | a :: ss, n + 1, s, h, q => ⟨h.1, nios_set ss n s h.2 q⟩
/-- [list(row) for row in rows] -/
theorem copy_rows {i : Nat} {Q : List S → Da.Env → Prop} {ρ : Da.Env} (hi : i < ρ.length) (hw : ∀ d : D, wp (ρ.set i (some (.sh d))) [i] = ρ) (rs : List Rw) (q : Q (rs.map rowS) ρ) : lcp (mgName i) mYes (mCB fList (mCons (mVar i) mNil)) [i] Q (rs.map rowD) [] ρ := by
  refine lcp_map (fun d => match d with | .lst es => .ow (shs es) | d => .sh d) (rs.map rowD) ?_ hw ?_
  · intro d m Q' q'
    obtain ⟨r, _, rfl⟩ := List.mem_map.mp m
    unfold mCB mVA mCons mVar
    rw [List.getElem?_set_self hi]
    exact q'
  · rw [List.nil_append, List.map_map]
    exact q
theorem cutG_map {α β : Type} (f : α → β) (xs : List α) (lo hi : Option Int) : cutG (xs.map f) lo hi = (cutG xs lo hi).map f := by
  unfold cutG
  rw [List.length_map, List.map_take, List.map_drop]
theorem cutG_len {α : Type} (xs : List α) (lo hi : Option Int) : (cutG xs lo hi).length ≤ xs.length := by
  unfold cutG
  rw [List.length_take, List.length_drop]
  omega
/-- what stands in the list of refusals -/
def AliveOk (c : Adr) (es : List D) : Prop := ∀ e ∈ es, ∃ k : Int, e = D.tup [.exc c.NoTable ["place"] [.int k], .lst (kdL k)]
theorem rng_int {n : Nat} : ∀ d ∈ rng 0 1 n, ∃ i : Int, d = .int i ∧ 0 ≤ i := fun d m => by
  unfold rng at m
  obtain ⟨i, _, rfl⟩ := List.mem_map.mp m
  exact ⟨_, rfl, by omega⟩
theorem told_due (rs : List Rw) : (dueS rs).fz = (toldS rs).fz := by
  unfold dueS toldS
  cases bad rs with
  | some k => rfl
  | none =>
    show rowsD rs = D.lst (fzs (rs.map rowS))
    rw [fzs_rows]
theorem kd_cl (k : Int) : (D.lst (kdL k)).cl := ⟨so_table, trivial, trivial⟩
theorem told_cl (rs : List Rw) : (toldS rs).fz.cl ∧ (toldS rs).fz.dp ≤ 64 := by
  rw [← told_due]
  unfold dueS
  cases bad rs with
  | some k => exact ⟨kd_cl k, by show (D.lst (kdL k)).dp ≤ 64; simp [D.dp, dps]⟩
  | none => exact ⟨rows_cl rs, Nat.le_trans (rows_dp rs) (by decide)⟩
theorem told_ne {rs : List Rw} {Q : S → Prop} (q : Q (.sh (.bl false))) : fNeD (toldS rs).fz (dueS rs).fz Q := by
  rw [told_due]
  exact ne_self (told_cl rs).1 (told_cl rs).2 q
theorem alive_app {es : List D} (h : AliveOk c es) (rs : List Rw) : AliveOk c (es ++ aliveD c rs) ∧ (es ++ aliveD c rs).length ≤ es.length + 1 := by
  unfold aliveD
  cases bad rs with
  | some k =>
    refine ⟨fun e m => ?_, by simp⟩
    rcases List.mem_append.mp m with m | m
    · exact h e m
    · exact ⟨k, List.mem_singleton.mp m⟩
  | none => exact ⟨by rw [List.append_nil]; exact h, by simp⟩
theorem mB_op2 {f : D → D → (S → Prop) → Prop} {i j : Nat} {ρ : Da.Env} {d e : D} {Q : S → Da.Env → Prop} {Qx : QX} (h1 : (frz ρ)[i]? = some (some (.sh d))) (h2 : (frz ρ)[j]? = some (some (.sh e))) (q : f d e fun s => frz ρ = frz ρ ∧ s.told ∧ Q s ρ) : mB (mOp f (mVar i) (mVar j)) ρ Q Qx := by
  unfold mB mOp mV mVar
  rw [h1]
  dsimp only
  rw [h2]
  exact q
theorem mV_sh {i : Nat} {ρ : Da.Env} {d : D} {Q : D → Da.Env → Prop} {Qx : QX} (h : ρ[i]? = some (some (.sh d))) (q : Q d ρ) : mV (mVar i) ρ Q Qx := by
  unfold mV mVar
  rw [h]
  exact q
theorem told_kd {rs : List Rw} {k : Int} {Q : S → Prop} (h : bad rs = some k) (q : Q (.sh (.bl false))) : fNeD (toldS rs).fz (D.lst (kdL k)) Q := by
  have e : (toldS rs).fz = D.lst (kdL k) := by
    unfold toldS
    rw [h]
    rfl
  have := told_cl rs
  rw [e] at this ⊢
  exact ne_self this.1 this.2 q
def mfLaw : MF := fun ds Q _ => ∃ ns : List Int, ds = [.scr ns] ∧ Q (.sh (.bl true))
abbrev s_law : Stmt := top 58
theorem sc_law : FnScope ["_law_script", "_law_alive", "_law_at", "_law_pile_here", "_law_many", "_law_good", "_law_rows", "_law_turn", "_law_place", "_law_handed", "_law_due_here", "_law_j", "_law_row", "_law_kept", "_law_k"] ["_law_script"] (defScope s_law) := ⟨rfl, rfl, rfl, by decide +kernel, rfl, by decide +kernel, by decide +kernel⟩
theorem ok_law {f : Addr} {fd : FuncData} {k : Nat} {pt : List Str} (F : Fun K "law" "law" s_law f fd) (T : Txt K mg c) (kx : KX K c c.NoTable 2)
    (c__law_pile : Cal RW0 w K mg base 1 "_law_pile" ["_law_script", "_law_k"] (spP K 2 mfPile)) (c__law_take : Cal RW0 w K mg base 2 "_law_take" pt (spI K 1 mfTake)) (c__law_number : Cal RW0 w K mg base 3 "_law_number" ["_law_pile_here"] (spI K 0 mfNum))
    (c__law_told : Cal RW0 w K mg base 4 "_law_told" ["_law_rows", "_law_alive"] (spX K 2 (mfTold c))) (c__law_due : Cal RW0 w K mg base 1 "_law_due" ["_law_rows"] (spP K 1 mfDue)) (c__law_kind : Cal RW0 w K mg base 1 "_law_kind" ["_law_error"] (spP K 1 (mfKind K c))) :
    FnOk RW0 w K mg base CX0 (k + 4 + 1) f fd ["_law_script"] (spP K 1 mfLaw) := by
  refine fn_ok F sc_law rfl (fun cdv A outer s H E hr => ?_) (fun _ _ _ h => h)
  have hr : Room 4 _ := hr.mono (Nat.le_add_left 4 k)
  refine ⟨_, _, (pss_cons (ps_set (i := 1) sc_law.nd rfl (Or.inl rfl) (pe_lst pa_nil))
      (pss_cons (ps_for PassesOwn.never rfl (pi_range1 (by rfl) T.range (pa_cons pe_int pa_nil)) (pg_name (i := 2) sc_law.nd rfl (Or.inl rfl))
        (pss_cons (ps_set (i := 3) sc_law.nd rfl (Or.inr rfl) (pe_cal c__law_pile hr (by rfl) (pa_cons (pv 0) (pa_cons (pv 2) pa_nil))))
          (pss_cons (ps_set (i := 4) sc_law.nd rfl (Or.inr rfl) (pe_cal c__law_take hr (by rfl) (pa_cons (pv 3) (pa_cons pe_int pa_nil))))
          (pss_cons (ps_setLc (i := 5) (own := [("_law_j", 11)]) (by rfl) sc_law.nd rfl rfl (sw_true rfl rfl rfl (by decide +kernel)) (pi_range1 (by rfl) T.range (pa_cons (pv 4) pa_nil)) (blkOk_by (own := [("_law_j", 11)]) (N := ["_law_script", "_law_alive", "_law_at", "_law_pile_here", "_law_many", "_law_good", "_law_rows", "_law_turn", "_law_place", "_law_handed", "_law_due_here", "_law_j", "_law_row", "_law_kept", "_law_k"]) (sc := defScope s_law) (by decide +kernel)) (fun _ _ _ _ _ => (pg_name (i := 11) sc_law.nd rfl (Or.inl rfl))) (fun _ _ _ _ _ => pts_nil) (fun _ _ _ _ _ => (pe_lc (own := [("_law_k", 14)]) (by rfl) sc_law.nd (pi_range1 (by rfl) T.range (pa_cons (pv 4) pa_nil)) (blkOk_by (own := [("_law_k", 14)]) (N := ["_law_script", "_law_alive", "_law_at", "_law_pile_here", "_law_many", "_law_good", "_law_rows", "_law_turn", "_law_place", "_law_handed", "_law_due_here", "_law_j", "_law_row", "_law_kept", "_law_k"]) (sc := relS { kind := .function, names := [(".0", .local), ("_law_j", .local), ("range", .globalImplicit), ("_law_many", .free), ("_law_pile_here", .free)], isGenerator := false, isCoroutine := false } (defScope s_law)) (by decide +kernel)) (fun _ _ _ _ _ => (pg_name (i := 14) sc_law.nd rfl (Or.inl rfl))) (fun _ _ _ _ _ => pts_nil) (fun _ _ _ _ _ => (pe_cal c__law_number hr (by rfl) (pa_cons (pv 3) pa_nil))))))
          (pss_cons (ps_setLc (i := 6) (own := [("_law_row", 12)]) (by rfl) sc_law.nd rfl rfl (sw_true rfl rfl rfl (by decide +kernel)) (pi_list (pv 5)) (blkOk_by (own := [("_law_row", 12)]) (N := ["_law_script", "_law_alive", "_law_at", "_law_pile_here", "_law_many", "_law_good", "_law_rows", "_law_turn", "_law_place", "_law_handed", "_law_due_here", "_law_j", "_law_row", "_law_kept", "_law_k"]) (sc := defScope s_law) (by decide +kernel)) (fun _ _ _ _ _ => (pg_name (i := 12) sc_law.nd rfl (Or.inl rfl))) (fun _ _ _ _ _ => pts_nil) (fun _ _ _ _ _ => (pe_callTy (T := "list") (r := rListK K) call_listK (by rfl) T.list_ (by decide +kernel) (pa_cons (pv 12) pa_nil))))
          (pss_cons (ps_for PassesOwn.never rfl (pi_range1 (by rfl) T.range (pa_cons (pe_op op_mulW (pe_cal c__law_take hr (by rfl) (pa_cons (pv 3) (pa_cons pe_int pa_nil))) (pe_callTy (T := "int") (r := rInt1) call_int1R (by rfl) T.int_ (by decide +kernel) (pa_cons (pe_cmpR op_gt (pv 4) pe_int (nomark _)) pa_nil))) pa_nil)) (pg_name (i := 7) sc_law.nd rfl (Or.inl rfl))
            (pss_cons (ps_set (i := 8) sc_law.nd rfl (Or.inl rfl) (pe_cal c__law_take hr (by rfl) (pa_cons (pv 3) (pa_cons (pv 4) pa_nil))))
              (pss_one (ps_asg (pe_ix ix_list (pe_lst (pa_cons (pe_op op_cat (pe_ix ix_list (pv 5) (pv 8) (fun _ _ => rfl)) (pe_lst (pa_cons (pe_tup (pa_cons pe_int (pa_cons pe_int pa_nil))) pa_nil))) (pa_cons (pe_slice sl_list (pe_ix ix_list (pv 5) (pv 8) (fun _ _ => rfl)) (po_some pe_int) po_none) (pa_cons (pe_op op_rep (pe_ix ix_list (pv 5) (pv 8) (fun _ _ => rfl)) pe_int) pa_nil)))) (pe_cal c__law_take hr (by rfl) (pa_cons (pv 3) (pa_cons pe_int pa_nil))) (fun _ _ => rfl)) (pg_sub (pv 6) (pv 8) set_list)))))
          (pss_cons (ps_setLc (i := 9) (own := [("_law_row", 12)]) (by rfl) sc_law.nd rfl rfl (sw_true rfl rfl rfl (by decide +kernel)) (pi_list (pv 6)) (blkOk_by (own := [("_law_row", 12)]) (N := ["_law_script", "_law_alive", "_law_at", "_law_pile_here", "_law_many", "_law_good", "_law_rows", "_law_turn", "_law_place", "_law_handed", "_law_due_here", "_law_j", "_law_row", "_law_kept", "_law_k"]) (sc := defScope s_law) (by decide +kernel)) (fun _ _ _ _ _ => (pg_name (i := 12) sc_law.nd rfl (Or.inl rfl))) (fun _ _ _ _ _ => pts_nil) (fun _ _ _ _ _ => (pe_callTy (T := "list") (r := rListK K) call_listK (by rfl) T.list_ (by decide +kernel) (pa_cons (pv 12) pa_nil))))
          (pss_cons (ps_for PassesOwn.never rfl (pi_range1 (by rfl) T.range (pa_cons pe_int pa_nil)) (pg_name (i := 7) sc_law.nd rfl (Or.inl rfl))
            (pss_one (ps_if (PW.pt (pw_or (pt_cmpR (op_neD hr.units) (pe_cal c__law_told hr (by rfl) (pa_cons (pv 9) (pa_cons (pv 1) pa_nil))) (pe_cal c__law_due hr (by rfl) (pa_cons (pv 6) pa_nil)) (nomark _)) (pw_or1 (pt_cmpR (op_neD hr.units) (pv 9) (pv 6) (nomark _)))))
                (pss_one (ps_ret pe_bl))
                pss_nil)))
          (pss_cons (ps_expr (pe_bm0 PySem.F.plainAttrs_list PySem.F.slot_list_clear PySem.F.type_list_clear mt_clear (pv 9)))
          (pss_cons (ps_expr (pe_bm PySem.F.plainAttrs_list PySem.F.slot_list_extend PySem.F.type_list_extend mt_extend (pv 9) (pa_cons (pe_lc (own := [("_law_row", 12)]) (by rfl) sc_law.nd (pi_list (pv 5)) (blkOk_by (own := [("_law_row", 12)]) (N := ["_law_script", "_law_alive", "_law_at", "_law_pile_here", "_law_many", "_law_good", "_law_rows", "_law_turn", "_law_place", "_law_handed", "_law_due_here", "_law_j", "_law_row", "_law_kept", "_law_k"]) (sc := defScope s_law) (by decide +kernel)) (fun _ _ _ _ _ => (pg_name (i := 12) sc_law.nd rfl (Or.inl rfl))) (fun _ _ _ _ _ => pts_nil) (fun _ _ _ _ _ => (pe_callTy (T := "list") (r := rListK K) call_listK (by rfl) T.list_ (by decide +kernel) (pa_cons (pv 12) pa_nil)))) pa_nil)))
          (pss_one (ps_if (pt_cmpR (op_neD hr.units) (pe_cal c__law_told hr (by rfl) (pa_cons (pv 9) (pa_cons (pv 1) pa_nil))) (pe_cal c__law_due hr (by rfl) (pa_cons (pv 5) pa_nil)) (nomark _))
            (pss_one (ps_ret pe_bl))
            pss_nil))))))))))))
      (pss_cons (ps_for PassesOwn.never rfl (pi_list (pe_lst (pa_cons (pe_tup (pa_cons (pe_un un_neg pe_int) (pa_cons (pe_lst pa_nil) pa_nil))) (pa_cons (pe_tup (pa_cons pe_int (pa_cons (pe_lst (pa_cons (pe_lst pa_nil) pa_nil)) pa_nil))) (pa_cons (pe_tup (pa_cons pe_int (pa_cons (pe_lst (pa_cons (pe_lst (pa_cons (pe_tup (pa_cons pe_int (pa_cons pe_int pa_nil))) (pa_cons (pe_tup (pa_cons pe_int (pa_cons pe_int pa_nil))) pa_nil))) (pa_cons (pe_lst (pa_cons (pe_tup (pa_cons pe_int (pa_cons pe_int pa_nil))) pa_nil)) pa_nil))) pa_nil))) pa_nil))))) (pg_tup rfl (pgs_cons (pg_name (i := 10) sc_law.nd rfl (Or.inl rfl)) (pgs_cons (pg_name (i := 6) sc_law.nd rfl (Or.inl rfl)) pgs_nil)))
        (pss_one (ps_if (pt_cmpR (op_neD hr.units) (pe_cal c__law_told hr (by rfl) (pa_cons (pv 6) (pa_cons (pv 1) pa_nil))) (pe_lst (pa_cons pe_str (pa_cons (pv 10) pa_nil))) (nomark _))
            (pss_one (ps_ret pe_bl))
            pss_nil)))
      (pss_one (ps_ret (pe_cmpR (op_eqD hr.units) (pe_lc (own := [("_law_kept", 13), ("_law_due_here", 10)]) (g := gTup K 2 (gCons (gName 13) (gCons (gName 10) gNil))) (by rfl) sc_law.nd (pi_list (pv 1)) (blkOk_by (own := [("_law_kept", 13), ("_law_due_here", 10)]) (N := ["_law_script", "_law_alive", "_law_at", "_law_pile_here", "_law_many", "_law_good", "_law_rows", "_law_turn", "_law_place", "_law_handed", "_law_due_here", "_law_j", "_law_row", "_law_kept", "_law_k"]) (sc := defScope s_law) (by decide +kernel)) (fun _ _ _ _ _ => (pg_tup rfl (pgs_cons (pg_name (i := 13) sc_law.nd rfl (Or.inl rfl)) (pgs_cons (pg_name (i := 10) sc_law.nd rfl (Or.inl rfl)) pgs_nil)))) (fun _ _ _ _ _ => (pts_one (pt_cmpR (r := rNeD K) (op_neD hr.units) (pe_cal c__law_kind hr (by rfl) (pa_cons (pv 13) pa_nil)) (pv 10) (nomark _)))) (fun _ _ _ _ _ => (pv 10))) (pe_lst pa_nil) (nomark _))))))), inferInstance, ?_⟩
  rintro ds Qd hl ⟨ns, rfl, q⟩
  refine .inr ⟨by show 0 ≤ sizeLine; decide, by decide, by decide, ?_⟩
  refine (?outer : ∀ (ds : List D) (es : List D) (o2 o3 o4 o5 o6 o7 o8 o9 o10 : Option S), (∀ d ∈ ds, ∃ i : Int, d = .int i ∧ 0 ≤ i) → AliveOk c es → es.length + 3 * ds.length ≤ 200 →
    lp _ _ _ ds [some (.sh (.scr ns)), some (.ow (shs es)), o2, o3, o4, o5, o6, o7, o8, o9, o10, none, none, none, none]) (rng 0 1 30) [] none none none none none none none none none rng_int (fun _ m => (nomatch m)) (by decide)
  intro ds
  induction ds with
  | nil =>
    intro es o2 o3 o4 o5 o6 o7 o8 o9 o10 _ al le
    have le : es.length + 3 * 0 ≤ 200 := le
    have z : ∀ {n : Nat}, n ≤ 100 → n ≤ sizeLine := fun h => smalle (by omega)
    refine ⟨z (by decide), z (by decide), z (by decide), z (by decide), z (by decide), z (by decide), z (by decide), z (by decide), z (by decide), z (by decide), z (by decide), z (by decide), z (by decide), ?_⟩
    refine (?three : ∀ (tl : List (Int × List Rw)) (es : List D) (o6 o10 : Option S), (∀ p ∈ tl, bad p.2 = some p.1 ∧ p.2.length < 1000 ∧ ∀ r ∈ p.2, r.length < 1000) → AliveOk c es → es.length + tl.length ≤ 300 →
      lp _ _ _ (tl.map fun p => D.tup [.int p.1, rowsD p.2]) [some (.sh (.scr ns)), some (.ow (shs es)), o2, o3, o4, o5, o6, o7, o8, o9, o10, none, none, none, none]) [(-1, []), (0, [[]]), (1, [[(0, 1), (1, 1)], [(2, 1)]])] es o6 o10 (by decide) al (by show es.length + 3 ≤ 300; omega)
    intro tl
    induction tl with
    | nil =>
      intro es o6 o10 _ al le
      have le : es.length + 0 ≤ 300 := le
      refine .inr ⟨rfl, small (by rw [fzs_shs]; omega), ?_⟩
      rw [fzs_shs]
      refine (?keep : ∀ (tl : List D) (a0 a1 a2 a3 a4 a5 a6 a7 a8 a9 a10 a11 a12 a13 a14 : Option S), AliveOk c tl → lcp _ _ _ _ _ tl [] [a0, a1, a2, a3, a4, a5, a6, a7, a8, a9, a10, a11, a12, a13, a14]) es _ _ _ _ _ _ _ _ _ _ _ _ _ _ _ al
      intro tl
      induction tl with
      | nil => exact fun _ _ _ _ _ _ _ _ _ _ _ _ _ _ _ _ => ⟨z (show 0 ≤ 100 by decide), eq_nil trivial (by decide) q⟩
      | cons e tl iht =>
        intro a0 a1 a2 a3 a4 a5 a6 a7 a8 a9 a10 a11 a12 a13 a14 al
        obtain ⟨k, rfl⟩ := al e List.mem_cons_self
        refine ⟨rfl, .inr ⟨rfl, c.NoTable, 2, [.int k], rfl, kx, ?_⟩⟩
        have nxt := iht a0 a1 a2 a3 a4 a5 a6 a7 a8 a9 none a11 a12 none a14 fun e m => al e (List.mem_cons_of_mem _ m)
        refine mV_sh (d := D.lst (kdL k)) rfl ?_
        refine ne_self (kd_cl k) (by show (D.lst (kdL k)).dp ≤ 64; simp [D.dp, dps]) ?_
        exact nxt
    | cons p tl iht =>
      intro es o6 o10 hp al le
      obtain ⟨k, rs⟩ := p
      obtain ⟨hb, l1, l2⟩ := hp _ List.mem_cons_self
      rw [List.length_cons] at le
      obtain ⟨al2, ll2⟩ := alive_app al rs
      refine ⟨rfl, .inr ⟨[.sh (rowsD rs), .ow (shs es)], rfl, ⟨trivial, nios_shs es, trivial⟩, (show ([1] : List Nat).Nodup by decide), rfl, .sh (rowsD rs), es, rs, rfl, rfl, trivial, l1, l2, by omega, ?_⟩⟩
      refine ⟨z (show 2 ≤ 100 by decide), told_kd hb ?_⟩
      exact iht (es ++ aliveD c rs) _ _ (fun q m => hp q (List.mem_cons_of_mem _ m)) al2 (by omega)
  | cons d ds ih =>
    intro es o2 o3 o4 o5 o6 o7 o8 o9 o10 hd al le
    obtain ⟨i, rfl, i0⟩ := hd d List.mem_cons_self
    refine .inr ⟨rfl, ns, i, rfl, i0, fun x y z => ?_⟩
    refine .inr ⟨rfl, i3 x y z, _, rfl, rfl, ⟨_, _, _, rfl⟩, 9, rfl, by decide, by decide, fun n x y z n0 n9 => ?_⟩
    -- good
    refine .inr ⟨by omega, by omega, rfl, small (by rw [rng_len]; omega), ?_⟩
    refine draw_rows (R := fun x y z => [some (.sh (.scr ns)), some (.ow (shs es)), some (.sh (.int i)), some (.ow (shs (i3 x y z))), some (.sh (.int n)), o5, o6, o7, o8, o9, o10, none, none, none, none]) n0 (by omega)
      (fun d x y z => [some (.sh (.scr ns)), some (.ow (shs es)), some (.sh (.int i)), some (.ow (shs (i3 x y z))), some (.sh (.int n)), o5, o6, o7, o8, o9, o10, some (.sh d), none, none, none]) (fun _ _ _ _ => rfl) (fun _ _ _ _ => rfl) (fun _ _ _ _ _ => rfl) (fun _ _ _ _ _ _ _ _ => rfl) (fun _ _ _ _ => rfl) (rng 0 1 n.toNat) [] x y z fun good x y z gl gok => ?_
    rw [rng_len] at gl
    rw [List.nil_append]
    have gn : good.length ≤ 9 := by omega
    -- rows
    refine .inl ⟨rfl, small (by rw [fzs_len, List.length_map]; omega), ?_⟩
    show lcp _ _ _ _ _ (fzs (good.map rowS)) _ _
    rw [fzs_rows]
    refine copy_rows (show 12 < 15 by decide) (fun _ => rfl) good ⟨rfl, rowsS_told good, ?_⟩
    -- how often a row is bent
    refine ⟨rfl, i3 x y z, _, rfl, rfl, ⟨_, _, _, rfl⟩, 3, rfl, by decide, by decide, fun a x y z a0 a3 => ?_⟩
    have mul : ∀ b : Bool, CMulW a (if b then 1 else 0) ∧ 0 ≤ a * (if b then 1 else 0) ∧ a * (if b then 1 else 0) ≤ 3 := fun b => by
      cases b
      · exact ⟨cmul (a := 8) (b := 8) (by show a.natAbs < 256; omega) (by decide), by simp, by simp⟩
      · exact ⟨cmul (a := 8) (b := 8) (by show a.natAbs < 256; omega) (by decide), by simp; omega, by simp; omega⟩
    have mm := mul (decide (0 < n))
    refine ⟨mm.1, by omega, by omega, ?_⟩
    have nn : ∀ b : Bool, b = decide (0 < n) → rng 0 1 (a * (if b then 1 else 0)).toNat ≠ [] → 0 < n := fun b e h => by
      by_cases z : 0 < n
      · exact z
      · refine absurd ?_ h
        rw [e, decide_eq_false z]
        show rng 0 1 (a * 0).toNat = []
        rw [Int.mul_zero]
        rfl
    have gr : ∀ r ∈ good, r.length ≤ 9 := fun r m => by
      have := (gok r m).1
      omega
    refine (?turn : ∀ (ts : List D) (x y z : Int) (s5 : S) (ss : List S) (rs : List Rw) (o7 o8 : Option S), (ts ≠ [] → 0 < n) → (s5 = .ow (good.map rowS) ∨ s5 = .sh (rowsD good)) → fzs ss = rs.map rowD → nios ss → rs.length = n.toNat → (∀ r ∈ rs, r.length ≤ 30) →
      lp _ _ _ ts [some (.sh (.scr ns)), some (.ow (shs es)), some (.sh (.int i)), some (.ow (shs (i3 x y z))), some (.sh (.int n)), some s5, some (.ow ss), o7, o8, o9, o10, none, none, none, none]) _ x y z _ _ good o7 o8 (nn _ rfl) (.inl rfl) (fzs_rows good) (nios_of (rowsS_told good)) gl (fun r m => Nat.le_trans (gr r m) (by decide))
    clear nn mm mul a0 a3 a x y z
    intro ts
    induction ts with
    | nil =>
      intro x y z s5 ss rs o7 o8 _ h5 e6 n6 l6 b6
      -- handed
      refine .inl ⟨rfl, small (by rw [e6, List.length_map, l6]; omega), ?_⟩
      show lcp _ _ _ _ _ (fzs ss) _ _
      rw [e6]
      refine copy_rows (show 12 < 15 by decide) (fun _ => rfl) rs ⟨rfl, rowsS_told rs, ?_⟩
      have lrs : rs.length < 1000 := by omega
      have wrs : ∀ r ∈ rs, r.length < 1000 := fun r m => Nat.lt_of_le_of_lt (b6 r m) (by decide)
      have le0 : es.length + (rng 0 1 2).length + 1 + 3 * ds.length ≤ 200 := by
        rw [List.length_cons] at le
        show es.length + 2 + 1 + 3 * ds.length ≤ 200
        omega
      refine ⟨by decide, by decide, ?_⟩
      refine (?two : ∀ (us : List D) (es : List D) (s6 : S) (o7 : Option S), (s6 = .ow ss ∨ s6 = .sh (rowsD rs)) → AliveOk c es → es.length + us.length + 1 + 3 * ds.length ≤ 200 →
        lp _ _ _ us [some (.sh (.scr ns)), some (.ow (shs es)), some (.sh (.int i)), some (.ow (shs (i3 x y z))), some (.sh (.int n)), some s5, some s6, o7, o8, some (.ow (rs.map rowS)), o10, none, none, none, none]) (rng 0 1 2) es _ o7 (.inl rfl) al le0
      intro us
      induction us with
      | nil =>
        intro es s6 o7 h6 al le
        have le : es.length + 0 + 1 + 3 * ds.length ≤ 200 := le
        obtain ⟨al2, ll2⟩ := alive_app al good
        refine ⟨rs.map rowS, .ow, rfl, rfl, ?_⟩
        have le3 : (fzs (good.map rowS)).length ≤ 100000 := by rw [fzs_len, List.length_map]; omega
        rcases h5 with rfl | rfl
        · refine ⟨rfl, small (by rw [fzs_len, List.length_map]; omega), ?_⟩
          rw [fzs_rows]
          refine copy_rows (show 12 < 15 by decide) (fun _ => rfl) good ⟨[], .ow, rfl, smalle (by show 0 + (fzs (good.map rowS)).length ≤ _; rw [Nat.zero_add]; exact le3), ?_⟩
          rw [fzs_rows]
          refine .inr ⟨[.ow ([] ++ shs (good.map rowD)), .ow (shs es)], rfl, ⟨nios_shs _, nios_shs es, trivial⟩, by decide, rfl, .ow (shs (good.map rowD)), es, good, rfl, by show D.lst (fzs (shs _)) = _; rw [fzs_shs], nios_shs _, by omega, fun r m => Nat.lt_of_le_of_lt (gr r m) (by decide), by omega, ?_⟩
          refine ⟨rfl, good, rfl, by omega, told_ne ?_⟩
          exact ih (es ++ aliveD c good) _ _ _ _ _ _ _ _ _ (fun e m => hd e (List.mem_cons_of_mem _ m)) al2 (by omega)
        · refine ⟨rfl, small (by rw [List.length_map]; omega), ?_⟩
          refine copy_rows (show 12 < 15 by decide) (fun _ => rfl) good ⟨[], .ow, rfl, smalle (by show 0 + (fzs (good.map rowS)).length ≤ _; rw [Nat.zero_add]; exact le3), ?_⟩
          rw [fzs_rows]
          refine .inr ⟨[.ow ([] ++ shs (good.map rowD)), .ow (shs es)], rfl, ⟨nios_shs _, nios_shs es, trivial⟩, by decide, rfl, .ow (shs (good.map rowD)), es, good, rfl, by show D.lst (fzs (shs _)) = _; rw [fzs_shs], nios_shs _, by omega, fun r m => Nat.lt_of_le_of_lt (gr r m) (by decide), by omega, ?_⟩
          refine ⟨rfl, good, rfl, by omega, told_ne ?_⟩
          exact ih (es ++ aliveD c good) _ _ _ _ _ _ _ _ _ (fun e m => hd e (List.mem_cons_of_mem _ m)) al2 (by omega)
      | cons u us ihu =>
        intro es s6 o7 h6 al le
        have le : es.length + (us.length + 1) + 1 + 3 * ds.length ≤ 200 := le
        obtain ⟨al2, ll2⟩ := alive_app al rs
        refine .inr ⟨[.ow (rs.map rowS), .ow (shs es)], rfl, ⟨nios_of (rowsS_told rs), nios_shs es, trivial⟩, by decide, rfl, .ow (rs.map rowS), es, rs, rfl, by show D.lst (fzs (rs.map rowS)) = _; rw [fzs_rows], nios_of (rowsS_told rs), lrs, wrs, by omega, ?_⟩
        have nxt := ihu (es ++ aliveD c rs) (.sh (rowsD rs)) (some (.sh u)) (.inr rfl) al2 (by omega)
        have sm : ∀ Q : S → Prop, Q (.sh (.bl false)) → fNeD (rowsD rs) (rowsD rs) Q := fun Q q => ne_self (rows_cl rs) (Nat.le_trans (rows_dp rs) (by decide)) q
        rcases h6 with rfl | rfl
        · refine ⟨rfl, rs, ?_, lrs, told_ne ?_⟩
          · show [D.lst (fzs ss)] = _
            rw [e6]
          refine .inl (mB_op2 (d := rowsD rs) (e := D.lst (fzs ss)) (by show some (some (S.sh (D.lst (fzs (rs.map rowS))))) = _; rw [fzs_rows]) rfl ?_)
          rw [e6]
          exact sm _ ⟨rfl, trivial, nxt⟩
        · refine ⟨rfl, rs, rfl, lrs, told_ne ?_⟩
          refine .inl (mB_op2 (d := rowsD rs) (e := rowsD rs) (by show some (some (S.sh (D.lst (fzs (rs.map rowS))))) = _; rw [fzs_rows]) rfl ?_)
          exact sm _ ⟨rfl, trivial, nxt⟩
    | cons t ts iht =>
      intro x y z s5 ss rs o7 o8 hts h5 e6 n6 l6 b6
      have np := hts (fun z => nomatch z)
      refine .inr ⟨rfl, i3 x y z, _, rfl, rfl, ⟨_, _, _, rfl⟩, n, rfl, np, ?_, fun p x y z p0 pn => ?_⟩
      · show n.natAbs < 18446744073709551616
        omega
      have hp : p.toNat < good.length := by omega
      obtain ⟨r, hr⟩ : ∃ r, good[p.toNat]? = some r := ⟨_, List.getElem?_eq_getElem hp⟩
      have hg : atI (good.map rowD) p = some (rowD r) := atI_int p0 (by rw [List.getElem?_map, hr]; rfl)
      have rl : r.length ≤ 9 := gr r (List.mem_of_getElem? hr)
      have lm : (r.map frD).length = r.length := List.length_map ..
      have s2 : 2 ≤ sizeLine := by decide
      have s1 : 1 ≤ sizeLine := by decide
      have s3 : 3 ≤ sizeLine := by decide
      -- one of three rows
      have three : ∀ b : Int, 0 ≤ b → b < 3 → ∃ r' : Rw, atI (fzs [.ow (shs (r.map frD ++ [frD (0, 1)])), .ow (shs (cutG (r.map frD) (some 1) none)), .ow (shs (List.replicate (2 : Int).toNat (r.map frD)).flatten)]) b = some (rowD r') ∧ r'.length ≤ 30 := fun b b0 b3 => by
        have e : fzs [.ow (shs (r.map frD ++ [frD (0, 1)])), .ow (shs (cutG (r.map frD) (some 1) none)), .ow (shs (List.replicate (2 : Int).toNat (r.map frD)).flatten)] = [D.lst (r.map frD ++ [frD (0, 1)]), .lst (cutG (r.map frD) (some 1) none), .lst (List.replicate (2 : Int).toNat (r.map frD)).flatten] := by
          show [D.lst (fzs (shs _)), D.lst (fzs (shs _)), D.lst (fzs (shs _))] = _
          rw [fzs_shs, fzs_shs, fzs_shs]
        rw [e]
        rcases (show b = 0 ∨ b = 1 ∨ b = 2 by omega) with rfl | rfl | rfl
        · refine ⟨r ++ [(0, 1)], ?_, by simp; omega⟩
          show some (D.lst (r.map frD ++ [frD (0, 1)])) = some (.lst ((r ++ [(0, 1)]).map frD))
          rw [List.map_append]
          rfl
        · refine ⟨cutG r (some 1) none, ?_, Nat.le_trans (cutG_len _ _ _) (by omega)⟩
          show some (D.lst (cutG (r.map frD) (some 1) none)) = some (.lst ((cutG r (some 1) none).map frD))
          rw [cutG_map]
        · refine ⟨r ++ r, ?_, by simp; omega⟩
          show some (D.lst (r.map frD ++ (r.map frD ++ []))) = some (.lst ((r ++ r).map frD))
          rw [List.append_nil, List.map_append]
      have l6' : ss.length = n.toNat := by
        rw [← fzs_len ss, e6, List.length_map, l6]
      have c1 : (r.map frD).length + [frD (0, 1)].length ≤ sizeLine := smalle (by rw [lm]; show r.length + 1 ≤ 100000; omega)
      have c2 : (r.map frD).length * (2 : Int).toNat ≤ sizeLine := smalle (by rw [lm]; show r.length * 2 ≤ 100000; omega)
      have nxt := fun (x y z : Int) (o7 : Option S) (r' : Rw) (lr' : r'.length ≤ 30) => iht x y z (.sh (rowsD good)) (ss.set p.toNat (.sh (rowD r'))) (rs.set p.toNat r') o7 (some (.sh (.int p))) (fun _ => np) (.inr rfl) (by rw [fzs_set, e6]; exact (List.map_set ..).symm) (nios_set _ _ _ n6 trivial) (by rw [List.length_set]; exact l6) (fun q m => by
          rcases List.mem_or_eq_of_mem_set m with m | m
          · exact b6 q m
          · rw [m]
            exact lr')
      rcases h5 with rfl | rfl
      · have hg1 : atI (fzs (good.map rowS)) p = some (rowD r) := by rw [fzs_rows]; exact hg
        refine .inr ⟨rowD r, hg1, s2, s1, c1, rowD r, hg1, rowD r, hg1, by decide, by decide, c2, s3, rfl, i3 x y z, _, rfl, rfl, ⟨_, _, _, rfl⟩, 3, rfl, by decide, by decide, fun b x y z b0 b3 => ?_⟩
        obtain ⟨r', hr', lr'⟩ := three b b0 b3
        refine ⟨_, hr', rfl, ss, .ow, p.toNat, rfl, ixN_int p0 (by omega), ?_⟩
        rw [fzs_rows]
        exact nxt x y z (some (.sh t)) r' lr'
      · refine .inr ⟨rowD r, hg, s2, s1, c1, rowD r, hg, rowD r, hg, by decide, by decide, c2, s3, rfl, i3 x y z, _, rfl, rfl, ⟨_, _, _, rfl⟩, 3, rfl, by decide, by decide, fun b x y z b0 b3 => ?_⟩
        obtain ⟨r', hr', lr'⟩ := three b b0 b3
        exact ⟨_, hr', rfl, ss, .ow, p.toNat, rfl, ixN_int p0 (by omega), nxt x y z (some (.sh t)) r' lr'⟩
end
end Toy
namespace Toy
open PySem L2 Cc Da
def spLaw (K : PySem.W.Frag) : Sp := fun vs H Q _ => ∃ (a : Addr) (ns : List Int), vs = [.ref a] ∧ SqL K H a (ns.map V.int) ∧ ns.length ≤ 63 ∧ ∀ H', Q (.bl true) H'
theorem law_sp {P : Program} {w : World} {K : PySem.W.Frag} {mg : Str → Option Value} {base : Heap} {f : Addr} {fd : FuncData} {k : Nat} {ps : List Str} (F : FnOk P w K mg base CX0 k f fd ps (spP K 1 mfLaw)) : FnOk P w K mg base CX0 k f fd ps (spLaw K) := by
  refine F.imp fun vs H Q E h => ?_
  obtain ⟨a, ns, rfl, hs, hl, hq⟩ := h
  refine ⟨rfl, H, [.scr ns], fun s => s = .sh (.bl true), fun _ => False, Same.refl _, .cons (.scr hs) .nil, ⟨ns, rfl, rfl⟩, fun v s H' p e => ?_, fun _ _ _ _ _ q => q.elim⟩
  subst e
  obtain ⟨Hs', fv, _, o, _⟩ := p
  cases o with
  | sh q =>
    cases q
    exact hq H'
theorem all_mk {w : World} {K : PySem.W.Frag} {h : Heap} {mg : Str → Option Value} {fa : Addr} (X : K.In h) (G : h.Ns mainGlobals mg) (hfa : mg "law" = some (.ref fa))
    {C_SlackError C_NoNumber C_NoTable C_NoRow C_NoChoice C_Flat C_NoSaying C_Lifted C_NoCover C_Dipped C_NotOne C_NoText C_NoLine C_NoName C_Table : Addr}
    {tk_MOST_PLACES : Tok}
    {fI_NoTable N0_NoTable cdaI_NoTable ccI_NoTable : Addr} {nm_NoTable q0_NoTable fileI_NoTable : Str} {bs0_NoTable sub0_NoTable : List Value} {sn0_NoTable : List Str} {ab0_NoTable : Bool} {col0_NoTable : Option Bool} {dd0_NoTable odI_NoTable anI_NoTable cddI_NoTable cldI_NoTable : Option Addr} {m0_NoTable m1_NoTable m2_NoTable m3_NoTable m5_NoTable : Option Value} {ocI_NoTable kVI_NoTable dcI_NoTable pmI_NoTable ctI_NoTable cclI_NoTable clI_NoTable : Value} {slI_NoTable ccsI_NoTable cslI_NoTable : Array (Option Value)} {vsI_NoTable : Array Value} {tfI_NoTable : Tok}
    {f_Table___init__ f_Table_rows f__law_mixed f__law_pile f__law_take f__law_kind f__law_lowest f__law_number f__law_told f__law_due f_law : Addr} {od_Table___init__ an_Table___init__ od_Table_rows an_Table_rows od__law_mixed an__law_mixed od__law_pile an__law_pile od__law_take an__law_take od__law_kind an__law_kind od__law_lowest an__law_lowest od__law_number an__law_number od__law_told an__law_told od__law_due an__law_due od_law an_law : Option Addr} {sl_Table___init__ sl_Table_rows sl__law_mixed sl__law_pile sl__law_take sl__law_kind sl__law_lowest sl__law_number sl__law_told sl__law_due sl_law : Array (Option Value)} {oc_Table___init__ kV_Table___init__ dc_Table___init__ pm_Table___init__ cd_Table___init__ ct_Table___init__ oc_Table_rows kV_Table_rows dc_Table_rows pm_Table_rows cd_Table_rows ct_Table_rows oc__law_mixed kV__law_mixed dc__law_mixed pm__law_mixed cd__law_mixed ct__law_mixed oc__law_pile kV__law_pile dc__law_pile pm__law_pile cd__law_pile ct__law_pile oc__law_take kV__law_take dc__law_take pm__law_take cd__law_take ct__law_take oc__law_kind kV__law_kind dc__law_kind pm__law_kind cd__law_kind ct__law_kind oc__law_lowest kV__law_lowest dc__law_lowest pm__law_lowest cd__law_lowest ct__law_lowest oc__law_number kV__law_number dc__law_number pm__law_number cd__law_number ct__law_number oc__law_told kV__law_told dc__law_told pm__law_told cd__law_told ct__law_told oc__law_due kV__law_due dc__law_due pm__law_due cd__law_due ct__law_due oc_law kV_law dc_law pm_law cd_law ct_law : Value}
    (g_SlackError : PySem.W.nsIn K mainGlobals "SlackError" = some (some (.ref C_SlackError)))
    (g_NoNumber : PySem.W.nsIn K mainGlobals "NoNumber" = some (some (.ref C_NoNumber)))
    (g_NoTable : PySem.W.nsIn K mainGlobals "NoTable" = some (some (.ref C_NoTable)))
    (g_NoRow : PySem.W.nsIn K mainGlobals "NoRow" = some (some (.ref C_NoRow)))
    (g_NoChoice : PySem.W.nsIn K mainGlobals "NoChoice" = some (some (.ref C_NoChoice)))
    (g_Flat : PySem.W.nsIn K mainGlobals "Flat" = some (some (.ref C_Flat)))
    (g_NoSaying : PySem.W.nsIn K mainGlobals "NoSaying" = some (some (.ref C_NoSaying)))
    (g_Lifted : PySem.W.nsIn K mainGlobals "Lifted" = some (some (.ref C_Lifted)))
    (g_NoCover : PySem.W.nsIn K mainGlobals "NoCover" = some (some (.ref C_NoCover)))
    (g_Dipped : PySem.W.nsIn K mainGlobals "Dipped" = some (some (.ref C_Dipped)))
    (g_NotOne : PySem.W.nsIn K mainGlobals "NotOne" = some (some (.ref C_NotOne)))
    (g_NoText : PySem.W.nsIn K mainGlobals "NoText" = some (some (.ref C_NoText)))
    (g_NoLine : PySem.W.nsIn K mainGlobals "NoLine" = some (some (.ref C_NoLine)))
    (g_NoName : PySem.W.nsIn K mainGlobals "NoName" = some (some (.ref C_NoName)))
    (g_Table : PySem.W.nsIn K mainGlobals "Table" = some (some (.ref C_Table)))
    (z_abs : PySem.W.nsIn K mainGlobals "abs" = some none)
    (z_len : PySem.W.nsIn K mainGlobals "len" = some none)
    (z_range : PySem.W.nsIn K mainGlobals "range" = some none)
    (z_isinstance : PySem.W.nsIn K mainGlobals "isinstance" = some none)
    (z_zip : PySem.W.nsIn K mainGlobals "zip" = some none)
    (z_int : PySem.W.nsIn K mainGlobals "int" = some none)
    (z_enumerate : PySem.W.nsIn K mainGlobals "enumerate" = some none)
    (z_list : PySem.W.nsIn K mainGlobals "list" = some none)
    (z_tuple : PySem.W.nsIn K mainGlobals "tuple" = some none)
    (z_ValueError : PySem.W.nsIn K mainGlobals "ValueError" = some none)
    (k_MOST_PLACES : PySem.W.nsIn K mainGlobals "MOST_PLACES" = some (some (.int (5) tk_MOST_PLACES)))
    (opq : PySem.W.nsIn K cStatics "thirdparty.any" = some none)
    (hnC : PySem.W.specialIn K (.builtin "object.__class__") "__get__" = some (some (.builtin "getset_descriptor.__get__")))
    (htC : PySem.W.takesIn K (.builtin "object.__class__") = some true)
    (z_super : PySem.W.nsIn K mainGlobals "super" = some none)
    (xL_NoTable : K.lookup C_NoTable = some (excClassObj nm_NoTable q0_NoTable C_NoTable N0_NoTable bs0_NoTable [.ref C_SlackError, .type "ValueError", .type "Exception", .type "BaseException", .type "object"] true sn0_NoTable sub0_NoTable ab0_NoTable col0_NoTable dd0_NoTable m0_NoTable m1_NoTable m2_NoTable m3_NoTable m5_NoTable "ValueError.__new__"))
    (sa_NoTable : PySem.W.findIn K (.ref C_NoTable) "__setattr__" = some (some (.builtin "object.__setattr__")))
    (ga_NoTable : PySem.W.findIn K (.ref C_NoTable) "__getattribute__" = some (some (.builtin "BaseException.__getattribute__")))
    (gg_NoTable : PySem.W.findIn K (.ref C_NoTable) "__getattr__" = some none)
    (no_place_NoTable : PySem.W.findIn K (.ref C_NoTable) "place" = some none)
    (kC_NoTable : PySem.W.keepIn K (.ref C_NoTable) = true)
    (exC_NoTable : PySem.W.subIn K (.ref C_NoTable) (.type "BaseException") = some true)
    (veC_NoTable : PySem.W.subIn K (.ref C_NoTable) (.type "ValueError") = some true)
    (tyC_NoTable : PySem.W.typeIn K (.ref C_NoTable) = some (.type "type"))
    (hdC_NoTable : PySem.W.hasDictIn K C_NoTable = true)
    (iC_NoTable : PySem.W.findIn K (.ref C_NoTable) "__init__" = some (some (.ref fI_NoTable)))
    (tI_NoTable : PySem.W.typeIn K (.ref fI_NoTable) = some (.type "function"))
    (along_NoTable : PySem.W.ks_superIn K C_NoTable C_NoTable "__init__" = some (some (.builtin "ValueError.__init__")))
    (mro_NoTable : PySem.W.mroIn K C_NoTable (.ref C_NoTable) = some true)
    (lI_NoTable : K.lookup fI_NoTable = some ⟨ocI_NoTable, odI_NoTable, .func (PySem.W.ksFn "__init__" "NoTable.__init__" (defArgs PySem.SupX.si_NoTable) (defBody PySem.SupX.si_NoTable) (defScope PySem.SupX.si_NoTable) .none kVI_NoTable dcI_NoTable pmI_NoTable anI_NoTable (.ref cdaI_NoTable) ctI_NoTable ccI_NoTable), slI_NoTable⟩)
    (cI_NoTable : PySem.W.codeIn K (.ref cdaI_NoTable) "NoTable.__init__" = true)
    (lcd_NoTable : K.lookup cdaI_NoTable = some ⟨cclI_NoTable, cddI_NoTable, .fields vsI_NoTable, ccsI_NoTable⟩)
    (hvs_NoTable : vsI_NoTable[2]? = some (.str fileI_NoTable tfI_NoTable))
    (hfile_NoTable : ((RW0.main.file : Str) == fileI_NoTable) = true)
    (lcc_NoTable : K.lookup ccI_NoTable = some ⟨clI_NoTable, cldI_NoTable, .cell (some (.ref C_NoTable)), cslI_NoTable⟩)
    (haC_NoTable : PySem.W.findIn K (.ref C_NoTable) "__class__" = some (some (.builtin "object.__class__")))
    (hmC_NoTable : PySem.W.mroIn K C_NoTable (.type "object") = some true)
    (kve_NoTable : PySem.W.kitOne K (.ref C_NoTable) (.type "ValueError") = some true)
    (kq0_NoTable : PySem.W.kitOne K (.ref C_NoTable) (.ref C_SlackError) = some true)
    (kq1_NoTable : PySem.W.kitOne K (.ref C_NoTable) (.ref C_NoNumber) = some false)
    (kq2_NoTable : PySem.W.kitOne K (.ref C_NoTable) (.ref C_NoTable) = some true)
    (kq3_NoTable : PySem.W.kitOne K (.ref C_NoTable) (.ref C_NoRow) = some false)
    (kq4_NoTable : PySem.W.kitOne K (.ref C_NoTable) (.ref C_NoChoice) = some false)
    (kq5_NoTable : PySem.W.kitOne K (.ref C_NoTable) (.ref C_Flat) = some false)
    (kq6_NoTable : PySem.W.kitOne K (.ref C_NoTable) (.ref C_NoSaying) = some false)
    (kq7_NoTable : PySem.W.kitOne K (.ref C_NoTable) (.ref C_Lifted) = some false)
    (kq8_NoTable : PySem.W.kitOne K (.ref C_NoTable) (.ref C_NoCover) = some false)
    (kq9_NoTable : PySem.W.kitOne K (.ref C_NoTable) (.ref C_Dipped) = some false)
    (kq10_NoTable : PySem.W.kitOne K (.ref C_NoTable) (.ref C_NotOne) = some false)
    (kq11_NoTable : PySem.W.kitOne K (.ref C_NoTable) (.ref C_NoText) = some false)
    (kq12_NoTable : PySem.W.kitOne K (.ref C_NoTable) (.ref C_NoLine) = some false)
    (kq13_NoTable : PySem.W.kitOne K (.ref C_NoTable) (.ref C_NoName) = some false)
    (sSub_NoTable : PySem.W.subIn K (.ref C_NoTable) (.ref C_SlackError) = some true)
    (sExc : PySem.W.subIn K (.ref C_SlackError) (.type "BaseException") = some true)
    (sHd : PySem.W.hasDictIn K C_SlackError = true)
    (sTy : PySem.W.typeIn K (.ref C_SlackError) = some (.type "type"))
    (pg_Table : PySem.W.plainGet K C_Table Str.empty = true)
    (hd_Table : PySem.W.hasDictIn K C_Table = true)
    (po_Table : PySem.W.plainOver K C_Table = true)
    (sa_Table : PySem.W.findIn K (.ref C_Table) "__setattr__" = some (some (.builtin "object.__setattr__")))
    (mk_Table : PySem.W.makesIn K C_Table = true)
    (kc_Table : PySem.W.keepIn K (.ref C_Table) = true)
    (no_Table_grid : PySem.W.findIn K (.ref C_Table) "grid" = some none)
    (a_Table___init__ : PySem.W.findIn K (.ref C_Table) "__init__" = some (some (.ref f_Table___init__)))
    (l_Table___init__ : K.lookup f_Table___init__ = some ⟨oc_Table___init__, od_Table___init__, .func (PySem.W.fnOf "__init__" "Table.__init__" (defArgs s_Table___init__) (defBody s_Table___init__) (defScope s_Table___init__) .none kV_Table___init__ dc_Table___init__ pm_Table___init__ an_Table___init__ cd_Table___init__ ct_Table___init__), sl_Table___init__⟩)
    (c_Table___init__ : PySem.W.codeIn K cd_Table___init__ "Table.__init__" = true)
    (k_Table___init__ : PySem.W.keepIn K (.ref f_Table___init__) = true)
    (i_Table___init__ : PySem.W.isFn K (.ref f_Table___init__) = true)
    (a_Table_rows : PySem.W.findIn K (.ref C_Table) "rows" = some (some (.ref f_Table_rows)))
    (l_Table_rows : K.lookup f_Table_rows = some ⟨oc_Table_rows, od_Table_rows, .func (PySem.W.fnOf "rows" "Table.rows" (defArgs s_Table_rows) (defBody s_Table_rows) (defScope s_Table_rows) .none kV_Table_rows dc_Table_rows pm_Table_rows an_Table_rows cd_Table_rows ct_Table_rows), sl_Table_rows⟩)
    (c_Table_rows : PySem.W.codeIn K cd_Table_rows "Table.rows" = true)
    (k_Table_rows : PySem.W.keepIn K (.ref f_Table_rows) = true)
    (i_Table_rows : PySem.W.isFn K (.ref f_Table_rows) = true)
    (a__law_mixed : PySem.W.nsIn K mainGlobals "_law_mixed" = some (some (.ref f__law_mixed)))
    (l__law_mixed : K.lookup f__law_mixed = some ⟨oc__law_mixed, od__law_mixed, .func (PySem.W.fnOf "_law_mixed" "_law_mixed" (defArgs s__law_mixed) (defBody s__law_mixed) (defScope s__law_mixed) .none kV__law_mixed dc__law_mixed pm__law_mixed an__law_mixed cd__law_mixed ct__law_mixed), sl__law_mixed⟩)
    (c__law_mixed : PySem.W.codeIn K cd__law_mixed "_law_mixed" = true)
    (k__law_mixed : PySem.W.keepIn K (.ref f__law_mixed) = true)
    (a__law_pile : PySem.W.nsIn K mainGlobals "_law_pile" = some (some (.ref f__law_pile)))
    (l__law_pile : K.lookup f__law_pile = some ⟨oc__law_pile, od__law_pile, .func (PySem.W.fnOf "_law_pile" "_law_pile" (defArgs s__law_pile) (defBody s__law_pile) (defScope s__law_pile) .none kV__law_pile dc__law_pile pm__law_pile an__law_pile cd__law_pile ct__law_pile), sl__law_pile⟩)
    (c__law_pile : PySem.W.codeIn K cd__law_pile "_law_pile" = true)
    (k__law_pile : PySem.W.keepIn K (.ref f__law_pile) = true)
    (a__law_take : PySem.W.nsIn K mainGlobals "_law_take" = some (some (.ref f__law_take)))
    (l__law_take : K.lookup f__law_take = some ⟨oc__law_take, od__law_take, .func (PySem.W.fnOf "_law_take" "_law_take" (defArgs s__law_take) (defBody s__law_take) (defScope s__law_take) .none kV__law_take dc__law_take pm__law_take an__law_take cd__law_take ct__law_take), sl__law_take⟩)
    (c__law_take : PySem.W.codeIn K cd__law_take "_law_take" = true)
    (k__law_take : PySem.W.keepIn K (.ref f__law_take) = true)
    (a__law_kind : PySem.W.nsIn K mainGlobals "_law_kind" = some (some (.ref f__law_kind)))
    (l__law_kind : K.lookup f__law_kind = some ⟨oc__law_kind, od__law_kind, .func (PySem.W.fnOf "_law_kind" "_law_kind" (defArgs s__law_kind) (defBody s__law_kind) (defScope s__law_kind) .none kV__law_kind dc__law_kind pm__law_kind an__law_kind cd__law_kind ct__law_kind), sl__law_kind⟩)
    (c__law_kind : PySem.W.codeIn K cd__law_kind "_law_kind" = true)
    (k__law_kind : PySem.W.keepIn K (.ref f__law_kind) = true)
    (a__law_lowest : PySem.W.nsIn K mainGlobals "_law_lowest" = some (some (.ref f__law_lowest)))
    (l__law_lowest : K.lookup f__law_lowest = some ⟨oc__law_lowest, od__law_lowest, .func (PySem.W.fnOf "_law_lowest" "_law_lowest" (defArgs s__law_lowest) (defBody s__law_lowest) (defScope s__law_lowest) .none kV__law_lowest dc__law_lowest pm__law_lowest an__law_lowest cd__law_lowest ct__law_lowest), sl__law_lowest⟩)
    (c__law_lowest : PySem.W.codeIn K cd__law_lowest "_law_lowest" = true)
    (k__law_lowest : PySem.W.keepIn K (.ref f__law_lowest) = true)
    (a__law_number : PySem.W.nsIn K mainGlobals "_law_number" = some (some (.ref f__law_number)))
    (l__law_number : K.lookup f__law_number = some ⟨oc__law_number, od__law_number, .func (PySem.W.fnOf "_law_number" "_law_number" (defArgs s__law_number) (defBody s__law_number) (defScope s__law_number) .none kV__law_number dc__law_number pm__law_number an__law_number cd__law_number ct__law_number), sl__law_number⟩)
    (c__law_number : PySem.W.codeIn K cd__law_number "_law_number" = true)
    (k__law_number : PySem.W.keepIn K (.ref f__law_number) = true)
    (a__law_told : PySem.W.nsIn K mainGlobals "_law_told" = some (some (.ref f__law_told)))
    (l__law_told : K.lookup f__law_told = some ⟨oc__law_told, od__law_told, .func (PySem.W.fnOf "_law_told" "_law_told" (defArgs s__law_told) (defBody s__law_told) (defScope s__law_told) .none kV__law_told dc__law_told pm__law_told an__law_told cd__law_told ct__law_told), sl__law_told⟩)
    (c__law_told : PySem.W.codeIn K cd__law_told "_law_told" = true)
    (k__law_told : PySem.W.keepIn K (.ref f__law_told) = true)
    (a__law_due : PySem.W.nsIn K mainGlobals "_law_due" = some (some (.ref f__law_due)))
    (l__law_due : K.lookup f__law_due = some ⟨oc__law_due, od__law_due, .func (PySem.W.fnOf "_law_due" "_law_due" (defArgs s__law_due) (defBody s__law_due) (defScope s__law_due) .none kV__law_due dc__law_due pm__law_due an__law_due cd__law_due ct__law_due), sl__law_due⟩)
    (c__law_due : PySem.W.codeIn K cd__law_due "_law_due" = true)
    (k__law_due : PySem.W.keepIn K (.ref f__law_due) = true)
    (a_law : PySem.W.nsIn K mainGlobals "law" = some (some (.ref f_law)))
    (l_law : K.lookup f_law = some ⟨oc_law, od_law, .func (PySem.W.fnOf "law" "law" (defArgs s_law) (defBody s_law) (defScope s_law) .none kV_law dc_law pm_law an_law cd_law ct_law), sl_law⟩)
    (c_law : PySem.W.codeIn K cd_law "law" = true)
    (k_law : PySem.W.keepIn K (.ref f_law) = true)
    : ∃ fd : FuncData, (∀ (s : Shared) (v : Value), BindsTo s fd ⟨[v], []⟩ [("_law_script", v)]) ∧ ∀ base : Heap, K.In base → base.Ns mainGlobals mg → FnOk RW0 w K mg base CX0 5 fa fd ["_law_script"] (spLaw K) := by
  have e := hfa.symm.trans (PySem.W.mg_of X G a_law)
  cases e
  let c : Adr := ⟨C_SlackError, C_NoNumber, C_NoTable, C_NoRow, C_NoChoice, C_Flat, C_NoSaying, C_Lifted, C_NoCover, C_Dipped, C_NotOne, C_NoText, C_NoLine, C_NoName, C_Table⟩
  have T : Txt K mg c := ⟨PySem.W.mg_none_of X G z_abs, PySem.W.mg_none_of X G z_len, PySem.W.mg_none_of X G z_range, PySem.W.mg_none_of X G z_isinstance, PySem.W.mg_none_of X G z_zip, PySem.W.mg_none_of X G z_int, PySem.W.mg_none_of X G z_enumerate, PySem.W.mg_none_of X G z_list, PySem.W.mg_none_of X G z_tuple, PySem.W.mg_none_of X G z_ValueError, ⟨_, PySem.W.mg_of X G k_MOST_PLACES⟩, PySem.W.mg_of X G g_SlackError, PySem.W.mg_of X G g_NoNumber, PySem.W.mg_of X G g_NoTable, PySem.W.mg_of X G g_NoRow, PySem.W.mg_of X G g_NoChoice, PySem.W.mg_of X G g_Flat, PySem.W.mg_of X G g_NoSaying, PySem.W.mg_of X G g_Lifted, PySem.W.mg_of X G g_NoCover, PySem.W.mg_of X G g_Dipped, PySem.W.mg_of X G g_NotOne, PySem.W.mg_of X G g_NoText, PySem.W.mg_of X G g_NoLine, PySem.W.mg_of X G g_NoName, PySem.W.mg_of X G g_Table⟩
  have xf_NoTable : XfC K c.NoTable := ⟨ga_NoTable, gg_NoTable, exC_NoTable, hdC_NoTable⟩
  have ec_NoTable : ExcC K c.NoTable := ⟨ga_NoTable, gg_NoTable, exC_NoTable, hdC_NoTable, haC_NoTable, hnC, htC, hmC_NoTable⟩
  have kd_NoTable : KindOf K c c.NoTable (fun j => j == 2) := ⟨ec_NoTable, kve_NoTable, kq0_NoTable, kq1_NoTable, kq2_NoTable, kq3_NoTable, kq4_NoTable, kq5_NoTable, kq6_NoTable, kq7_NoTable, kq8_NoTable, kq9_NoTable, kq10_NoTable, kq11_NoTable, kq12_NoTable, kq13_NoTable⟩
  have te_NoTable : PySem.W.exmOne K (.ref c.NoTable) (.ref c.SlackError) = some true := PySem.W.exm_ref sExc sHd sTy sSub_NoTable
  have xt_NoTable : PySem.SupX.ExTxt K mg c.NoTable := ⟨⟨nm_NoTable, q0_NoTable, N0_NoTable, bs0_NoTable, _, sn0_NoTable, sub0_NoTable, ab0_NoTable, col0_NoTable, dd0_NoTable, m0_NoTable, m1_NoTable, m2_NoTable, m3_NoTable, m5_NoTable, xL_NoTable, by rfl⟩, sa_NoTable, ga_NoTable, gg_NoTable, kC_NoTable, exC_NoTable, veC_NoTable, tyC_NoTable, hdC_NoTable⟩
  have in_NoTable : PySem.SupX.In_NoTable K mg c.NoTable fI_NoTable := ⟨PySem.W.mg_of X G g_NoTable, no_place_NoTable, iC_NoTable, tI_NoTable, PySem.W.mg_none_of X G z_super, opq, along_NoTable, mro_NoTable, ⟨ocI_NoTable, odI_NoTable, kVI_NoTable, dcI_NoTable, pmI_NoTable, anI_NoTable, cdaI_NoTable, ccI_NoTable, ctI_NoTable, slI_NoTable, cclI_NoTable, cddI_NoTable, vsI_NoTable, ccsI_NoTable, fileI_NoTable, tfI_NoTable, clI_NoTable, cldI_NoTable, cslI_NoTable, lI_NoTable, cI_NoTable, lcd_NoTable, hvs_NoTable, hfile_NoTable, lcc_NoTable⟩⟩
  have kx_NoTable : KX K c c.NoTable 2 := ⟨kd_NoTable, xf_NoTable, fun f hf => by
    rw [List.mem_singleton.mp (show f ∈ (["place"] : List Str) from hf)]
    exact no_place_NoTable, by decide⟩
  have cl_Table : Cls K c.Table := ⟨pg_Table, hd_Table, po_Table, sa_Table⟩
  have na_Table_grid : NoAttr K c.Table "grid" := no_Table_grid
  have mk_Table : Mk K c.Table f_Table___init__ := ⟨mk_Table, a_Table___init__, i_Table___init__, kc_Table⟩
  have me_Table_rows : Meth K c.Table "rows" f_Table_rows := ⟨a_Table_rows, i_Table_rows, k_Table_rows⟩
  have F_Table___init__ := fun_mk (st := s_Table___init__) l_Table___init__ c_Table___init__ k_Table___init__
  have b_Table___init__ := F_Table___init__.binds (ps := ["self", "rows"]) fun _ _ _ _ _ _ us hl => match us, hl with | [_, _], _ => rfl
  have F_Table_rows := fun_mk (st := s_Table_rows) l_Table_rows c_Table_rows k_Table_rows
  have b_Table_rows := F_Table_rows.binds (ps := ["self"]) fun _ _ _ _ _ _ us hl => match us, hl with | [_], _ => rfl
  have F__law_mixed := fun_mk (st := s__law_mixed) l__law_mixed c__law_mixed k__law_mixed
  have g__law_mixed := PySem.W.mg_of X G a__law_mixed
  have b__law_mixed := F__law_mixed.binds (ps := ["_law_cell", "_law_k"]) fun _ _ _ _ _ _ us hl => match us, hl with | [_, _], _ => rfl
  have F__law_pile := fun_mk (st := s__law_pile) l__law_pile c__law_pile k__law_pile
  have g__law_pile := PySem.W.mg_of X G a__law_pile
  have b__law_pile := F__law_pile.binds (ps := ["_law_script", "_law_k"]) fun _ _ _ _ _ _ us hl => match us, hl with | [_, _], _ => rfl
  have F__law_take := fun_mk (st := s__law_take) l__law_take c__law_take k__law_take
  have g__law_take := PySem.W.mg_of X G a__law_take
  have b__law_take := F__law_take.binds (ps := ["_law_pile_here", "_law_many"]) fun _ _ _ _ _ _ us hl => match us, hl with | [_, _], _ => rfl
  have F__law_kind := fun_mk (st := s__law_kind) l__law_kind c__law_kind k__law_kind
  have g__law_kind := PySem.W.mg_of X G a__law_kind
  have b__law_kind := F__law_kind.binds (ps := ["_law_error"]) fun _ _ _ _ _ _ us hl => match us, hl with | [_], _ => rfl
  have F__law_lowest := fun_mk (st := s__law_lowest) l__law_lowest c__law_lowest k__law_lowest
  have g__law_lowest := PySem.W.mg_of X G a__law_lowest
  have b__law_lowest := F__law_lowest.binds (ps := ["_law_top", "_law_bottom"]) fun _ _ _ _ _ _ us hl => match us, hl with | [_, _], _ => rfl
  have F__law_number := fun_mk (st := s__law_number) l__law_number c__law_number k__law_number
  have g__law_number := PySem.W.mg_of X G a__law_number
  have b__law_number := F__law_number.binds (ps := ["_law_pile_here"]) fun _ _ _ _ _ _ us hl => match us, hl with | [_], _ => rfl
  have F__law_told := fun_mk (st := s__law_told) l__law_told c__law_told k__law_told
  have g__law_told := PySem.W.mg_of X G a__law_told
  have b__law_told := F__law_told.binds (ps := ["_law_rows", "_law_alive"]) fun _ _ _ _ _ _ us hl => match us, hl with | [_, _], _ => rfl
  have F__law_due := fun_mk (st := s__law_due) l__law_due c__law_due k__law_due
  have g__law_due := PySem.W.mg_of X G a__law_due
  have b__law_due := F__law_due.binds (ps := ["_law_rows"]) fun _ _ _ _ _ _ us hl => match us, hl with | [_], _ => rfl
  have F_law := fun_mk (st := s_law) l_law c_law k_law
  have g_law := PySem.W.mg_of X G a_law
  refine ⟨PySem.W.fnOf "law" "law" (defArgs s_law) (defBody s_law) (defScope s_law) .none kV_law dc_law pm_law an_law cd_law ct_law, fun s v => .of_eq rfl, fun base _ _ => ?_⟩
  have C1 : Cal RW0 w K mg base 1 "_law_mixed" ["_law_cell", "_law_k"] spMix := ⟨f__law_mixed, _, ok_mix (k := 0) F__law_mixed, g__law_mixed, k__law_mixed, b__law_mixed⟩
  have C2 : Cal RW0 w K mg base 1 "_law_pile" ["_law_script", "_law_k"] (spP K 2 mfPile) := ⟨f__law_pile, _, okP_pile (ok_pile (k := 0) F__law_pile T), g__law_pile, k__law_pile, b__law_pile⟩
  have C3 : Cal RW0 w K mg base 2 "_law_take" ["_law_pile_here", "_law_many"] (spI K 1 mfTake) := ⟨f__law_take, _, okI_take (ok_take (k := 0) F__law_take C1), g__law_take, k__law_take, b__law_take⟩
  have C4 : Cal RW0 w K mg base 1 "_law_kind" ["_law_error"] (spP K 1 (mfKind K c)) := ⟨f__law_kind, _, okP_kind (ok_kind (k := 0) F__law_kind T), g__law_kind, k__law_kind, b__law_kind⟩
  have C5 : Cal RW0 w K mg base 1 "_law_lowest" ["_law_top", "_law_bottom"] (spP K 2 mfLow) := ⟨f__law_lowest, _, ok_low (k := 0) F__law_lowest, g__law_lowest, k__law_lowest, b__law_lowest⟩
  have C6 : Cal RW0 w K mg base 3 "_law_number" ["_law_pile_here"] (spI K 0 mfNum) := ⟨f__law_number, _, ok_num (k := 0) F__law_number C3 C5, g__law_number, k__law_number, b__law_number⟩
  have M1 : CalM RW0 w K mg base 2 "Table" c.Table ["self", "rows"] (spM K c.Table 1 (mfTab c.Table c.NoTable)) := ⟨f_Table___init__, _, mk_Table, ok_tab (k := 0) F_Table___init__ T cl_Table na_Table_grid xt_NoTable in_NoTable, T.g_Table, b_Table___init__⟩
  have M2 : CalT RW0 w K mg base 1 c.Table "rows" ["self"] (spP K 1 (mfRows c.Table)) [] := ⟨cl_Table, f_Table_rows, _, [], me_Table_rows, fnok_x (ok_rows (k := 0) F_Table_rows T cl_Table na_Table_grid), b_Table_rows, .nil⟩
  have C7 : Cal RW0 w K mg base 4 "_law_told" ["_law_rows", "_law_alive"] (spX K 2 (mfTold c)) := ⟨f__law_told, _, ok_told (k := 0) F__law_told T te_NoTable kx_NoTable M1 M2 C4, g__law_told, k__law_told, b__law_told⟩
  have C8 : Cal RW0 w K mg base 1 "_law_due" ["_law_rows"] (spP K 1 mfDue) := ⟨f__law_due, _, ok_due (k := 0) F__law_due T, g__law_due, k__law_due, b__law_due⟩
  exact law_sp (ok_law (k := 0) F_law T kx_NoTable C2 C3 C6 C7 C8 C4)
end Toy
open PySem PySem.W PyProof.Rows
set_option maxRecDepth 100000 in
set_option maxHeartbeats 0 in
theorem PySem.Challenge.cw_eitherslack_k05_tables_refused_holds : PySem.Challenge.rw_eitherslack_k05_tables_refused.Holds := by
  w_on; o_law; k_head; (case hw => w_witness2)
  k_fill
  refine L2.walk_of (l := PySem.Challenge.rw_eitherslack_k05_tables_refused) (n := 63) (k := 5) (x := "_law_script") (CX := fun _ => L2.CX0) (sp := fun w => Toy.spLaw _) rfl (by decide) rfl ⟨rfl, by decide, by decide⟩ (fun w h Y => PySem.W.kIn_of Y) ?F (fun _ _ a ns hl _ hS => ⟨a, ns, rfl, hS, hl, fun _ => rfl⟩) (fun _ _ _ _ _ h => h)
  case F =>
    intro w mg fa h KX G hmg
    refine' Toy.all_mk KX G hmg ?g_SlackError ?g_NoNumber ?g_NoTable ?g_NoRow ?g_NoChoice ?g_Flat ?g_NoSaying ?g_Lifted ?g_NoCover ?g_Dipped ?g_NotOne ?g_NoText ?g_NoLine ?g_NoName ?g_Table ?z_abs ?z_len ?z_range ?z_isinstance ?z_zip ?z_int ?z_enumerate ?z_list ?z_tuple ?z_ValueError ?k_MOST_PLACES ?opq ?hnC ?htC ?z_super ?xL_NoTable ?sa_NoTable ?ga_NoTable ?gg_NoTable ?no_place_NoTable ?kC_NoTable ?exC_NoTable ?veC_NoTable ?tyC_NoTable ?hdC_NoTable ?iC_NoTable ?tI_NoTable ?along_NoTable ?mro_NoTable ?lI_NoTable ?cI_NoTable ?lcd_NoTable ?hvs_NoTable ?hfile_NoTable ?lcc_NoTable ?haC_NoTable ?hmC_NoTable ?kve_NoTable ?kq0_NoTable ?kq1_NoTable ?kq2_NoTable ?kq3_NoTable ?kq4_NoTable ?kq5_NoTable ?kq6_NoTable ?kq7_NoTable ?kq8_NoTable ?kq9_NoTable ?kq10_NoTable ?kq11_NoTable ?kq12_NoTable ?kq13_NoTable ?sSub_NoTable ?sExc ?sHd ?sTy ?pg_Table ?hd_Table ?po_Table ?sa_Table ?mk_Table ?kc_Table ?no_Table_grid ?a_Table___init__ ?l_Table___init__ ?c_Table___init__ ?k_Table___init__ ?i_Table___init__ ?a_Table_rows ?l_Table_rows ?c_Table_rows ?k_Table_rows ?i_Table_rows ?a__law_mixed ?l__law_mixed ?c__law_mixed ?k__law_mixed ?a__law_pile ?l__law_pile ?c__law_pile ?k__law_pile ?a__law_take ?l__law_take ?c__law_take ?k__law_take ?a__law_kind ?l__law_kind ?c__law_kind ?k__law_kind ?a__law_lowest ?l__law_lowest ?c__law_lowest ?k__law_lowest ?a__law_number ?l__law_number ?c__law_number ?k__law_number ?a__law_told ?l__law_told ?c__law_told ?k__law_told ?a__law_due ?l__law_due ?c__law_due ?k__law_due ?a_law ?l_law ?c_law ?k_law
    (case g_SlackError => k_is)
    (case g_NoNumber => k_is)
    (case g_NoTable => k_is)
    (case g_NoRow => k_is)
    (case g_NoChoice => k_is)
    (case g_Flat => k_is)
    (case g_NoSaying => k_is)
    (case g_Lifted => k_is)
    (case g_NoCover => k_is)
    (case g_Dipped => k_is)
    (case g_NotOne => k_is)
    (case g_NoText => k_is)
    (case g_NoLine => k_is)
    (case g_NoName => k_is)
    (case g_Table => k_is)
    (case z_abs => k_is)
    (case z_len => k_is)
    (case z_range => k_is)
    (case z_isinstance => k_is)
    (case z_zip => k_is)
    (case z_int => k_is)
    (case z_enumerate => k_is)
    (case z_list => k_is)
    (case z_tuple => k_is)
    (case z_ValueError => k_is)
    (case k_MOST_PLACES => k_is)
    (case opq => k_is)
    (case hnC => k_is)
    (case htC => k_is)
    (case z_super => k_is)
    (case xL_NoTable => k_is)
    (case sa_NoTable => k_is)
    (case ga_NoTable => k_is)
    (case gg_NoTable => k_is)
    (case no_place_NoTable => k_is)
    (case kC_NoTable => k_is)
    (case exC_NoTable => k_is)
    (case veC_NoTable => k_is)
    (case tyC_NoTable => k_is)
    (case hdC_NoTable => k_is)
    (case iC_NoTable => k_is)
    (case tI_NoTable => k_is)
    (case along_NoTable => ks_is)
    (case mro_NoTable => k_is)
    (case lI_NoTable => k_is)
    (case cI_NoTable => k_is)
    (case lcd_NoTable => k_is)
    (case hvs_NoTable => rfl)
    (case hfile_NoTable => first | rfl | decide +kernel)
    (case lcc_NoTable => k_is)
    (case haC_NoTable => k_is)
    (case hmC_NoTable => k_is)
    (case kve_NoTable => kit_is)
    (case kq0_NoTable => kit_is)
    (case kq1_NoTable => kit_is)
    (case kq2_NoTable => kit_is)
    (case kq3_NoTable => kit_is)
    (case kq4_NoTable => kit_is)
    (case kq5_NoTable => kit_is)
    (case kq6_NoTable => kit_is)
    (case kq7_NoTable => kit_is)
    (case kq8_NoTable => kit_is)
    (case kq9_NoTable => kit_is)
    (case kq10_NoTable => kit_is)
    (case kq11_NoTable => kit_is)
    (case kq12_NoTable => kit_is)
    (case kq13_NoTable => kit_is)
    (case sSub_NoTable => k_is)
    (case sExc => k_is)
    (case sHd => k_is)
    (case sTy => k_is)
    (case pg_Table => k_is)
    (case hd_Table => k_is)
    (case po_Table => k_is)
    (case sa_Table => k_is)
    (case mk_Table => k_is)
    (case kc_Table => k_is)
    (case no_Table_grid => k_is)
    (case a_Table___init__ => k_is)
    (case l_Table___init__ => k_is)
    (case c_Table___init__ => k_is)
    (case k_Table___init__ => k_is)
    (case i_Table___init__ => k_is)
    (case a_Table_rows => k_is)
    (case l_Table_rows => k_is)
    (case c_Table_rows => k_is)
    (case k_Table_rows => k_is)
    (case i_Table_rows => k_is)
    (case a__law_mixed => k_is)
    (case l__law_mixed => k_is)
    (case c__law_mixed => k_is)
    (case k__law_mixed => k_is)
    (case a__law_pile => k_is)
    (case l__law_pile => k_is)
    (case c__law_pile => k_is)
    (case k__law_pile => k_is)
    (case a__law_take => k_is)
    (case l__law_take => k_is)
    (case c__law_take => k_is)
    (case k__law_take => k_is)
    (case a__law_kind => k_is)
    (case l__law_kind => k_is)
    (case c__law_kind => k_is)
    (case k__law_kind => k_is)
    (case a__law_lowest => k_is)
    (case l__law_lowest => k_is)
    (case c__law_lowest => k_is)
    (case k__law_lowest => k_is)
    (case a__law_number => k_is)
    (case l__law_number => k_is)
    (case c__law_number => k_is)
    (case k__law_number => k_is)
    (case a__law_told => k_is)
    (case l__law_told => k_is)
    (case c__law_told => k_is)
    (case k__law_told => k_is)
    (case a__law_due => k_is)
    (case l__law_due => k_is)
    (case c__law_due => k_is)
    (case k__law_due => k_is)
    (case a_law => k_is)
    (case l_law => k_is)
    (case c_law => k_is)
    (case k_law => k_is)
