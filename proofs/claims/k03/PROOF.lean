import PyProof.Rows.All
import Wide.All
import OpenK.AllK
import Wide.FinOn
import HandS.ForMost
import HandS.Wide
import HandS.Defaults
import HandS.IsInst
import HandS.Style
import HandS.Flow
import HandS.Walk
import PySem.Challenge.RW_eitherslack_k03_choices
set_option Elab.async false
set_option linter.all false
set_option maxRecDepth 100000
namespace Ch
open PySem
/-! ### the mathematics of choices -/
def s0 : Str := ⟨#[48]⟩
def s1 : Str := ⟨#[49]⟩
def stepM (xs : List Str) : List Str := xs.flatMap fun t => [t ++ s0, t ++ s1]
def genM : Nat → List Str
  | 0 => [⟨#[]⟩]
  | n + 1 => stepM (genM n)
def chM (n : Nat) (l : Int) : List Str := (genM n).filter fun t => decide (l ≤ Txt.count t s1)
/-- the law's own way: m signs of a number, from the right, and what is left -/
def bits (n : Int) : Nat → Str × Int
  | 0 => (⟨#[]⟩, n)
  | k + 1 => ((if (bits n k).2.fmod 2 = 0 then s0 else s1) ++ (bits n k).1, (bits n k).2 / 2)
def onesM (t : Str) : Int := ((t.cps.toList.filter fun c => decide (c = 49)).length : Nat)
def keepM (m : Nat) (l : Int) (n : Nat) : Bool := decide ((bits n m).2 = 0) && decide (l ≤ onesM (bits n m).1)
def allM (m : Nat) (l : Int) : List Str := ((List.range 32).filter (keepM m l)).map fun n => (bits (n : Nat) m).1
theorem same0 : ∀ m : _root_.Fin 6, ∀ l : _root_.Fin 8, chM m.1 (l.1 : Nat) = allM m.1 (l.1 : Nat) := by decide +kernel
theorem gen_len : ∀ m : _root_.Fin 6, (genM m.1).all (fun t => decide (t.length ≤ 5)) = true ∧ (genM m.1).length ≤ 32 := by decide +kernel
theorem shaped0 : ∀ m : _root_.Fin 6, ∀ l : _root_.Fin 8, SeqAt.shaped (.list ((chM m.1 (l.1 : Nat)).map PyData.str)) = true := by decide +kernel
theorem sorted0 : ∀ m : _root_.Fin 6, ∀ l : _root_.Fin 8, PyProof.Rows.sortedS (chM m.1 (l.1 : Nat)) = true := by decide +kernel
theorem bits_len : ∀ (n : Int) (k : Nat), (bits n k).1.length = k
  | _, 0 => rfl
  | n, k + 1 => by
    have ih := bits_len n k
    have e : ∀ a b : Str, (a ++ b).length = a.length + b.length := fun a b => by
      show (a.cps ++ b.cps).size = _
      rw [Array.size_append]
      rfl
    show ((if (bits n k).2.fmod 2 = 0 then s0 else s1) ++ (bits n k).1).length = k + 1
    rw [e, ih]
    split <;> (show 1 + k = k + 1; omega)
theorem lts (m : Nat) (l : Int) : (chM m l).length ≤ (genM m).length := List.length_filter_le _ _
/-! ### sorted once, sorted for ever -/
theorem le_of {p x : Str} (h : PySem.Spec.ltCps x.cps.toList p.cps.toList = false) : p.cps.toList ≤ x.cps.toList := by
  rw [PyProof.Rows.ltCps_eq] at h
  exact of_decide_eq_false h
theorem rising_pw : ∀ (l : List Str) (p : Str), PyProof.Rows.risingS p l = true → (p :: l).Pairwise (fun a b => a.cps.toList ≤ b.cps.toList)
  | [], p, _ => by simp
  | x :: r, p, h => by
    have h' : (!PySem.Spec.ltCps x.cps.toList p.cps.toList && PyProof.Rows.risingS x r) = true := h
    rw [Bool.and_eq_true, Bool.not_eq_true'] at h'
    have ih := rising_pw r x h'.2
    have hx := le_of h'.1
    refine List.pairwise_cons.mpr ⟨fun y hy => ?_, ih⟩
    rcases List.mem_cons.mp hy with rfl | hy
    · exact hx
    · exact List.le_trans hx ((List.pairwise_cons.mp ih).1 y hy)
theorem sorted_pw : ∀ (l : List Str), PyProof.Rows.sortedS l = true → l.Pairwise (fun a b => a.cps.toList ≤ b.cps.toList)
  | [], _ => List.Pairwise.nil
  | x :: r, h => rising_pw r x h
theorem sorted_same {a b : List Str} (hp : a.Perm b) (ha : PyProof.Rows.sortedS a = true) (hb : PyProof.Rows.sortedS b = true) : a = b := by
  refine List.Perm.eq_of_pairwise (fun x y _ _ h1 h2 => ?_) (sorted_pw a ha) (sorted_pw b hb) hp
  have e := List.le_antisymm h1 h2
  obtain ⟨⟨u⟩⟩ := x
  obtain ⟨⟨v⟩⟩ := y
  have e' : u = v := e
  rw [e']
end Ch
namespace Cc
open PySem L2
/-! ### a def that is called: its promise, its name, how it binds -/
structure Cal (P : Program) (w : World) (K : PySem.W.Frag) (mg : Str → Option Value) (base : Heap) (lv : Nat) (x : Str) (ps : List Str) (sp : Sp) : Prop where
  ex : ∃ (f : Addr) (fd : FuncData), FnOk P w K mg base CX0 lv f fd ps sp ∧ mg x = some (.ref f) ∧ PySem.W.keepIn K (.ref f) = true ∧ Binds K fd ps []
/-- the same, by keywords alone -/
structure CalK (P : Program) (w : World) (K : PySem.W.Frag) (mg : Str → Option Value) (base : Heap) (lv : Nat) (x : Str) (ps : List Str) (sp : Sp) (n : Nat) (ks : List Str) (gV : List V → List V → List V) : Prop where
  ex : ∃ (f : Addr) (fd : FuncData) (g : List Value → List Value → List Value), FnOk P w K mg base CX0 lv f fd ps sp ∧ mg x = some (.ref f) ∧ PySem.W.keepIn K (.ref f) = true ∧ KBn K fd ps n ks g gV
section
variable {X : Cx} {k lv : Nat} {ps ks : List Str} {sp : Sp} {x : Str} {p pos : Pos} {e : Expr} {es : List Expr} {kws : List Keyword} {t tk : TA} {n : Nat} {gV : List V → List V → List V}
theorem pe_cal (C : Cal X.prog X.w X.K X.mg X.base lv x ps sp) (hr : Room k X.A) (hg : Gl X x) (ha : PA X (e :: es) t) (hle : lv ≤ k := by decide)
    (hdb : (x == ("__debug__" : Str)) = false := by decide) (he : starEach (e :: es) X.env = (false, eval e X.env) :: starEach es X.env := by rfl) (hpl : (backTo pos (starEach es X.env)).any (·.1) = false := by rfl) :
    PE X (.Call (.Name x p) (e :: es) [] pos) (tCall sp [] E0 t) := by
  obtain ⟨f, fd, F, hm, hk, hb⟩ := C.ex
  exact pe_call F (hr.mono hle) hg hm hk hb .nil pass0 ha hdb he hpl
theorem pe_cal0 (C : Cal X.prog X.w X.K X.mg X.base lv x ps sp) (hr : Room k X.A) (hg : Gl X x) (hle : lv ≤ k := by decide)
    (hdb : (x == ("__debug__" : Str)) = false := by decide) :
    PE X (.Call (.Name x p) [] [] pos) (tCall sp [] E0 tNil) := by
  obtain ⟨f, fd, F, hm, hk, hb⟩ := C.ex
  exact pe_call0 F (hr.mono hle) hg hm hk hb .nil pass0 hdb
theorem pe_calK0 (C : CalK X.prog X.w X.K X.mg X.base lv x ps sp 0 ks gV) (hr : Room k X.A) (hg : Gl X x) (hkw : PK X kws tk) (hle : lv ≤ k := by decide)
    (hall : (backToKw pos (keywordEach kws X.env)).all (·.1.isSome) = true := by rfl) (hks : (backToKw pos (keywordEach kws X.env)).filterMap (·.1) = ks := by rfl)
    (hdb : (x == ("__debug__" : Str)) = false := by decide)
    (hpl : ((backTo pos (starEach [] X.env)).any (·.1) || (backToKw pos (keywordEach kws X.env)).any (·.1.isNone)) = false := by rfl) :
    PE X (.Call (.Name x p) [] kws pos) (tCallN 0 ks.length sp gV E0 tNil tk) := by
  obtain ⟨f, fd, g, F, hm, hk, hb⟩ := C.ex
  refine ⟨fun pins s σ H Q I h => ?_⟩
  refine wpAny_Call_Name_kw (ld_glob I hg hm ?_ hdb)
  refine PySem.W.callWith_KW0 (h₀ := X.base) I.ok.mod.kin hk hall ?_ hpl
  have h : tk σ H fun zs H2 => ([] : List V).length = 0 ∧ zs.length = ks.length ∧ sp (gV [] zs) H2 Q E0 := h
  refine thn (hkw.run pos pins s σ H _ I h) fun ws s2 ⟨zs, H2, I2, rz, l1, l2, q2⟩ => ⟨I2.kIn, ?_⟩
  rw [hks]
  exact run_fnN F (hr.mono hle) hb pass0 I2 .nil rz l1 l2 q2
theorem pe_calK (C : CalK X.prog X.w X.K X.mg X.base lv x ps sp n ks gV) (hr : Room k X.A) (hg : Gl X x) (ha : PA X (e :: es) t) (hkw : PK X kws tk) (hle : lv ≤ k := by decide)
    (hall : (backToKw pos (keywordEach kws X.env)).all (·.1.isSome) = true := by rfl) (hks : (backToKw pos (keywordEach kws X.env)).filterMap (·.1) = ks := by rfl)
    (hdb : (x == ("__debug__" : Str)) = false := by decide) (he : starEach (e :: es) X.env = (false, eval e X.env) :: starEach es X.env := by rfl)
    (hpl : ((backTo pos (starEach (e :: es) X.env)).any (·.1) || (backToKw pos (keywordEach kws X.env)).any (·.1.isNone)) = false := by rfl) :
    PE X (.Call (.Name x p) (e :: es) kws pos) (tCallN n ks.length sp gV E0 t tk) := by
  obtain ⟨f, fd, g, F, hm, hk, hb⟩ := C.ex
  exact pe_callN F (hr.mono hle) hg hm hk hb pass0 ha hkw hall hks hdb he hpl
end
/-! ### heaps -/
/-- all but what stands at p is as it was -/
def Kp (p : Addr) (H H' : Hp) : Prop := ∀ b o, b ≠ p → H b = some o → H' b = some o
theorem Kp.of {p : Addr} {H H' : Hp} (s : Same H H') : Kp p H H' := fun b o _ e => s b o e
theorem Kp.trans {p : Addr} {H H1 H2 : Hp} (a : Kp p H H1) (b : Kp p H1 H2) : Kp p H H2 := fun c o n h => b c o n (a c o n h)
theorem same_upd {H : Hp} {p : Addr} {o : HO} (h : H p = none) : Same H (upd H p o) := fun b x e => by
  rw [upd_ne (ne_of_none e h)]
  exact e
theorem same_mut {H H' : Hp} {p : Addr} {o : HO} (s : Same H H') (h : H p = none) : Same H (upd H' p o) := fun b x e => by
  rw [upd_ne (ne_of_none e h)]
  exact s b x e
theorem kp_upd {H : Hp} {p : Addr} {o : HO} : Kp p H (upd H p o) := fun b x n e => by
  rw [upd_ne n]
  exact e
theorem Kp.new {p q : Addr} {H H' : Hp} {o : HO} (k : Kp p H H') (h : H' q = none) : Kp p H (upd H' q o) := fun b x n e => by
  rw [upd_ne (ne_of_none (k b x n e) h)]
  exact k b x n e
theorem Kp.free {p q : Addr} {H H' : Hp} (k : Kp p H H') (h : H' q = none) (n : q ≠ p) : H q = none := by
  cases z : H q with
  | none => rfl
  | some o =>
    rw [k q o n z] at h
    cases h
theorem Kp.seq {K : PySem.W.Frag} {p a : Addr} {H H' : Hp} {xs : List V} (k : Kp p H H') (n : a ≠ p) (h : SqL K H a xs) : SqL K H' a xs := by
  rcases h with (h | ⟨o, h⟩) | h
  · exact .inl (.inl (k _ _ n h))
  · exact .inl (.inr ⟨o, k _ _ n h⟩)
  · exact .inr h
end Cc
namespace Cc
open PySem L2
/-! ### comprehensions of two clauses, by two walks -/
section
variable {J : It} {n : Nat} {G : Hp → Prop} {Y : Nat → Hp → V → Hp → Prop}
theorem lc2_in {n1 : Nat} {J1 : It} {G1 : Hp → Prop} {Y1 : Nat → Hp → V → Hp → Prop} (w : Walk J1 n1 G1 Y1) {g1 : TG} {tt1 : TT} {te : TE} {vs1 : List Nat} {σ2 : St} {H4 : Hp} {D : Addr} {Nx : Hp → Prop} (Pv : Nat → Hp → Prop) (h0 : Pv 0 H4) (hG : ∀ i H, i ≤ n1 → Pv i H → G1 H)
    (hs : ∀ i x H H', i < n1 → Pv i H → Y1 i H x H' → g1 x (wipe σ2 vs1) H' fun σ3 H5 => wipe σ3 vs1 = wipe σ2 vs1 ∧ tt1 σ3 H5 fun b H6 =>
      if b = true then te σ3 H6 fun y H7 => ∃ acc, H7 D = some (.lst acc) ∧ acc.length < sizeLine ∧ Pv (i + 1) (upd H7 D (.lst (acc ++ [y]))) else Pv (i + 1) H6) (hd : ∀ H, Pv n1 H → Nx H) :
    ∃ W1 : Nat → Nat → Hp → Prop, (∃ m, W1 0 m H4) ∧ ∀ j k H, W1 j k H →
      (J1.stop j H ∧ Nx H) ∨ (J1.go j H ∧ ∃ Nx1 : Hp → Prop, (∀ H', Nx1 H' → ∃ k', k' < k ∧ W1 (j + 1) k' H') ∧ ∀ x H', J1.yld j H x H' → g1 x (wipe σ2 vs1) H' fun σ3 H5 => wipe σ3 vs1 = wipe σ2 vs1 ∧ tt1 σ3 H5 fun b H6 =>
        if b = true then te σ3 H6 fun y H7 => ∃ acc, H7 D = some (.lst acc) ∧ acc.length < sizeLine ∧ Nx1 (upd H7 D (.lst (acc ++ [y]))) else Nx1 H6) := by
  refine ⟨fun i m H => m = n1 - i ∧ i ≤ n1 ∧ Pv i H, ⟨n1, by simp, Nat.zero_le _, h0⟩, ?_⟩
  rintro i m H ⟨rfl, hi, p⟩
  have q := hG i H hi p
  by_cases hlt : i < n1
  · exact .inr ⟨w.goes i H hlt q, Pv (i + 1), fun H' p' => ⟨n1 - (i + 1), by omega, rfl, hlt, p'⟩, fun x H' y => hs i x H H' hlt p (w.yields i H x H' hlt q y)⟩
  · have e : i = n1 := by omega
    subst e
    exact .inl ⟨w.stops H q, hd H p⟩
theorem lc2_it (w : Walk J n G Y) {wi1 : TI} {g g1 : TG} {tt tt1 : TT} {te : TE} {vs vs1 : List Nat} {σ : St} {H1 : Hp} {D : Addr} {Qd : Hp → Prop} (Pv : Nat → Hp → Prop) (h0 : Pv 0 (upd H1 D (.lst []))) (hG : ∀ i H, i ≤ n → Pv i H → G H)
    (hs : ∀ i x H H', i < n → Pv i H → Y i H x H' → g x (wipe σ vs) H' fun σ2 H2 => wipe σ2 vs = wipe σ vs ∧ tt σ2 H2 fun b H3 =>
    if b = true then wi1 σ2 H3 fun J1 H4 => ∃ W1 : Nat → Nat → Hp → Prop, (∃ m, W1 0 m H4) ∧ ∀ j k H, W1 j k H →
      (J1.stop j H ∧ Pv (i + 1) H) ∨ (J1.go j H ∧ ∃ Nx1 : Hp → Prop, (∀ H', Nx1 H' → ∃ k', k' < k ∧ W1 (j + 1) k' H') ∧ ∀ x H', J1.yld j H x H' → g1 x (wipe σ2 vs1) H' fun σ3 H5 => wipe σ3 vs1 = wipe σ2 vs1 ∧ tt1 σ3 H5 fun b H6 =>
        if b = true then te σ3 H6 fun y H7 => ∃ acc, H7 D = some (.lst acc) ∧ acc.length < sizeLine ∧ Nx1 (upd H7 D (.lst (acc ++ [y]))) else Nx1 H6)
    else Pv (i + 1) H3) (hd : ∀ H, Pv n H → Qd H) :
    ∃ W : Nat → Nat → Hp → Prop, (∃ m, W 0 m (upd H1 D (.lst []))) ∧ ∀ i m H, W i m H →
  (J.stop i H ∧ Qd H) ∨ (J.go i H ∧ ∃ Nx : Hp → Prop, (∀ H', Nx H' → ∃ m', m' < m ∧ W (i + 1) m' H') ∧ ∀ x H', J.yld i H x H' → g x (wipe σ vs) H' fun σ2 H2 => wipe σ2 vs = wipe σ vs ∧ tt σ2 H2 fun b H3 =>
    if b = true then wi1 σ2 H3 fun J1 H4 => ∃ W1 : Nat → Nat → Hp → Prop, (∃ m, W1 0 m H4) ∧ ∀ j k H, W1 j k H →
      (J1.stop j H ∧ Nx H) ∨ (J1.go j H ∧ ∃ Nx1 : Hp → Prop, (∀ H', Nx1 H' → ∃ k', k' < k ∧ W1 (j + 1) k' H') ∧ ∀ x H', J1.yld j H x H' → g1 x (wipe σ2 vs1) H' fun σ3 H5 => wipe σ3 vs1 = wipe σ2 vs1 ∧ tt1 σ3 H5 fun b H6 =>
        if b = true then te σ3 H6 fun y H7 => ∃ acc, H7 D = some (.lst acc) ∧ acc.length < sizeLine ∧ Nx1 (upd H7 D (.lst (acc ++ [y]))) else Nx1 H6)
    else Nx H3) := by
  refine ⟨fun i m H => m = n - i ∧ i ≤ n ∧ Pv i H, ⟨n, by simp, Nat.zero_le _, h0⟩, ?_⟩
  rintro i m H ⟨rfl, hi, p⟩
  have q := hG i H hi p
  by_cases hlt : i < n
  · exact .inr ⟨w.goes i H hlt q, Pv (i + 1), fun H' p' => ⟨n - (i + 1), by omega, rfl, hlt, p'⟩, fun x H' y => hs i x H H' hlt p (w.yields i H x H' hlt q y)⟩
  · have e : i = n := by omega
    subst e
    exact .inl ⟨w.stops H q, hd H p⟩
end
end Cc
namespace Cc
open PySem L2
/-! ### defs with defaults -/
structure CalD (P : Program) (w : World) (K : PySem.W.Frag) (mg : Str → Option Value) (base : Heap) (lv : Nat) (x : Str) (ps : List Str) (sp : Sp) (dvs : List V) : Prop where
  ex : ∃ (f : Addr) (fd : FuncData) (ds : List Value), FnOk P w K mg base CX0 lv f fd ps sp ∧ mg x = some (.ref f) ∧ PySem.W.keepIn K (.ref f) = true ∧ Binds K fd ps ds ∧ Vals dvs ds
section
variable {X : Cx} {k lv : Nat} {ps : List Str} {sp : Sp} {x : Str} {p pos : Pos} {e : Expr} {es : List Expr} {t : TA} {dvs : List V}
theorem pe_calD (C : CalD X.prog X.w X.K X.mg X.base lv x ps sp dvs) (hr : Room k X.A) (hg : Gl X x) (ha : PA X (e :: es) t) (hle : lv ≤ k := by decide)
    (hdb : (x == ("__debug__" : Str)) = false := by decide) (he : starEach (e :: es) X.env = (false, eval e X.env) :: starEach es X.env := by rfl) (hpl : (backTo pos (starEach es X.env)).any (·.1) = false := by rfl) :
    PE X (.Call (.Name x p) (e :: es) [] pos) (tCall sp dvs E0 t) := by
  obtain ⟨f, fd, ds, F, hm, hk, hb, hd⟩ := C.ex
  exact pe_call F (hr.mono hle) hg hm hk hb hd pass0 ha hdb he hpl
end
/-- f(k = v, ..): keywords alone, the defaults fill up -/
theorem kbindsD {K : PySem.W.Frag} {x qual : Str} {params : Arguments} {body : List Stmt} {scope : Scope} {dvs : List V} {f : Addr} {fd : FuncData} {ps : List Str} (F : FunD K x qual params body scope dvs [] f fd) (ks : List Str) (g : {α : Type} → List α → List α → List α) (hd : dvs ≠ [])
    (hrel : ∀ {ds zs : List V} {its ws : List Value}, Vals ds its → Vals zs ws → Vals (g ds zs) (g its ws))
    (h : ∀ (T : Addr) (kV doc pm : Value) (an : Option Addr) (cdv ct : Value) (its ws : List Value), its.length = dvs.length → ws.length = ks.length →
      ∃ k, bindArgs (PySem.W.fnOf x qual params body scope (.ref T) kV doc pm an cdv ct) ⟨[], ks.zip ws⟩ = seqItems? (.ref T) >>= k ∧ k (some its.toArray) = pure (ps.zip (g its ws))) :
    ∃ its : List Value, KBn K fd ps 0 ks (fun _ ws => g its ws) (fun _ zs => g dvs zs) := by
  obtain ⟨oc, od, dV, kV, doc, pm, an, cdv, ct, osl, rfl, lk, hcd, hD, hK⟩ := F.ex
  rcases hD with ⟨e, _⟩ | ⟨_, T, o, its, m, rfl, lT, oT, rT⟩
  · exact absurd e hd
  · refine ⟨its, ⟨fun s us ws X l1 l2 => ?_, fun _ r2 => hrel rT r2⟩⟩
    obtain rfl : us = [] := List.length_eq_zero_iff.mp l1
    obtain ⟨k, e1, e2⟩ := h T kV doc pm an cdv ct its ws rT.length.symm l2
    refine BindsTo.of_looks fun M => ?_
    rw [e1]
    exact looks_items X lT oT (.of_pure e2)
theorem vals_rev {zs : List V} {ws : List Value} (r : Vals zs ws) : Vals zs.reverse ws.reverse := by
  induction r with
  | nil => exact .nil
  | cons h t ih =>
    rw [List.reverse_cons, List.reverse_cons]
    exact ih.append (.cons h .nil)
end Cc
namespace Toy
open PySem L2 Cc Ch
def top (i : Nat) : Stmt := PySem.Challenge.pw_eitherslack_k03_choices.main.body.getD i (.Pass ⟨0, 0, 0, 0⟩)
structure Txt (mg : Str → Option Value) : Prop where
  len : mg "len" = none
  range : mg "range" = none
  isinstance : mg "isinstance" = none
  sorted : mg "sorted" = none
  sum : mg "sum" = none
  list_ : mg "list" = none
  str_ : mg "str" = none
abbrev Strs (H : Hp) (a : Addr) (xs : List Str) : Prop := H a = some (.lst (xs.map V.str))
section
variable {P : Program} {w : World} {K : PySem.W.Frag} {mg : Str → Option Value} {base : Heap}
theorem map_snoc (xs : List Str) (y : Str) : xs.map V.str ++ [V.str y] = (xs ++ [y]).map V.str := by
  rw [List.map_append]
  rfl
theorem one_eq : ("1" : Str) = s1 := by decide +kernel
theorem tyes {σ : L2.St} {H : Hp} {Q : Bool → Hp → Prop} (h : Q true H) : tYes σ H Q := h
theorem two_signs {i c : Nat} (h : i < 2) (e : ("01" : Str).cps[i]? = some c) : (i = 0 ∧ c = 48) ∨ (i = 1 ∧ c = 49) := by
  rcases (show i = 0 ∨ i = 1 by omega) with rfl | rfl
  · exact .inl ⟨rfl, (Option.some.inj e).symm⟩
  · exact .inr ⟨rfl, (Option.some.inj e).symm⟩
def spCh : Sp := fun vs H Q _ => ∃ m l : Int, vs = [.int m, .int l] ∧ 0 ≤ m ∧ m ≤ 5 ∧ ∀ p H', Same H H' → H p = none → Strs H' p (chM m.toNat l) → Q (.ref p) H'
abbrev s_choices : Stmt := top 1
theorem sc_choices : FnScope ["many", "least", "texts", "place", "text", "sign"] ["many", "least"] (defScope s_choices) := ⟨rfl, rfl, rfl, by decide +kernel, rfl, by decide +kernel, by decide +kernel⟩
theorem ok_ch {f : Addr} {fd : FuncData} {k : Nat} {dvs : List V} (F : FunD K "choices" "choices" (defArgs s_choices) (defBody s_choices) (defScope s_choices) dvs [] f fd) (T : Txt mg) : FnOk P w K mg base CX0 (k + 1) f fd ["many", "least"] spCh := by
  refine F.ok sc_choices (fun vs H Q E h => ?_) (fun cdv A outer s H vs Q E hr h => ?_)
  · obtain ⟨m, l, rfl, _⟩ := h
    rfl
  · obtain ⟨m, l, rfl, m0, m5, q⟩ := h
    suffices hh : ∃ t, PSs (cxOf CX0 P w K mg base ["many", "least", "texts", "place", "text", "sign"] "choices" (defScope s_choices) f cdv A outer s H E).nox (defBody s_choices) t ∧ t { nx := fun _ H' => Q .non H', rt := Q } (start ["many", "least", "texts", "place", "text", "sign"] [.int m, .int l]) H by
      obtain ⟨t, h1, h2⟩ := hh
      exact ⟨t, h1.nox, h2⟩
    refine ⟨_, (pss_cons (ps_set (i := 2) sc_choices.nd rfl (Or.inl rfl) (pe_lst (pa_cons pe_str pa_nil)))
      (pss_cons (ps_for PassesOwn.never rfl (pi_range1 (by rfl) T.range (pa_cons (pv 0) pa_nil)) (pg_name (i := 3) sc_choices.nd rfl (Or.inl rfl))
        (pss_one (ps_setLc2 (i := 2) (own := [("text", 4), ("sign", 5)]) (vs1 := [5]) (by rfl) sc_choices.nd rfl rfl (sw_true rfl rfl rfl (by decide +kernel)) (pi_list (pv 2)) (blkOk_by (own := [("text", 4), ("sign", 5)]) (N := ["many", "least", "texts", "place", "text", "sign"]) (sc := defScope s_choices) (by decide +kernel)) (by decide) (fun _ _ _ _ _ => (pg_name (i := 4) sc_choices.nd rfl (Or.inl rfl))) (fun _ _ _ _ _ => pts_nil) (fun _ _ _ _ _ => (pi_str pe_str)) (fun _ _ _ _ _ => (pg_name (i := 5) sc_choices.nd rfl (Or.inl rfl))) (fun _ _ _ _ _ => pts_nil) (fun _ _ _ _ _ => (pe_op op_add_str (pv 4) (pv 5))))))
      (pss_one (ps_ret (pe_lc (own := [("text", 4)]) (by rfl) sc_choices.nd (pi_list (pv 2)) (blkOk_by (own := [("text", 4)]) (N := ["many", "least", "texts", "place", "text", "sign"]) (sc := defScope s_choices) (by decide +kernel)) (fun _ _ _ _ _ => (pg_name (i := 4) sc_choices.nd rfl (Or.inl rfl))) (fun _ _ _ _ _ => (pts_one (pt_cmpR op_ge (pe_m1 PySem.F.slot_str_count PySem.F.type_str_count mt_count (pv 4) pe_str) (pv 1) (nomark _)))) (fun _ _ _ _ _ => (pv 4))))))), ?_⟩
    refine ⟨by show 1 ≤ sizeLine; decide, fun a na => ?_⟩
    have sa := same_upd (o := .lst [V.str ⟨#[]⟩]) na
    refine ⟨_, rfl, m, rfl, by omega, by omega, for_range (lo := 0) (n := m.toNat) (fun i σ H' => Same H H' ∧ ∃ (b : Addr) (v3 : Option V), σ = [some (.int m), some (.int l), some (.ref b), v3, none, none] ∧ H b = none ∧ Strs H' b (genM i)) ⟨sa, a, none, rfl, na, upd_same⟩ ?_ ?_⟩
    · rintro i σ H1 hi ⟨sm, b, v3, rfl, nb, hb⟩
      have gl := gen_len ⟨i, by omega⟩
      have gl5 : ∀ t ∈ genM i, t.length ≤ 5 := fun t ht => of_decide_eq_true (List.all_eq_true.mp gl.1 t ht)
      refine ⟨_, rfl, b, rfl, ⟨_, .inl (.inl hb)⟩, fun D nD => ?_⟩
      have Db : b ≠ D := ne_of_none hb nD
      refine lc2_it (walk_list (K := K) (a := b) (xs := (genM i).map V.str)) (fun j H' => Same H1 H' ∧ Strs H' D (stepM ((genM i).take j))) ?_ ?_ ?_ ?_
      · exact ⟨same_upd nD, upd_same⟩
      · rintro j H' _ ⟨s', _⟩
        exact .inl (.inl (s' _ _ hb))
      · rintro j x H2 H2' hj ⟨s2, hD⟩ ⟨rfl, hx⟩
        rw [List.getElem?_map] at hx
        obtain ⟨t, ht, rfl⟩ := Option.map_eq_some_iff.mp hx
        have t5 := gl5 t (List.mem_of_getElem? ht)
        rw [List.length_map] at hj
        refine ⟨rfl, tyes (iteT ?_)⟩
        refine ⟨_, rfl, ?_⟩
        have e1 : stepM ((genM i).take (j + 1)) = stepM ((genM i).take j) ++ [t ++ s0, t ++ s1] := by
          unfold stepM
          rw [List.take_add_one, ht, List.flatMap_append]
          simp
        have szj : (stepM ((genM i).take j)).length ≤ 64 := by
          have e : ∀ xs : List Str, (stepM xs).length = 2 * xs.length := fun xs => by
            induction xs with
            | nil => rfl
            | cons y r ih =>
              show ([y ++ s0, y ++ s1] ++ stepM r).length = _
              rw [List.length_append, ih]
              show 2 + 2 * r.length = 2 * (r.length + 1)
              omega
          have g2 : (genM i).length ≤ 32 := gl.2
          rw [e, List.length_take]
          omega
        show ∃ W1 : Nat → Nat → Hp → Prop, _
        refine lc2_in (walk_str (z := "01")) (fun c H' => Same H1 H' ∧ Strs H' D (stepM ((genM i).take j) ++ [t ++ s0, t ++ s1].take c)) ?_ (fun _ _ _ _ => trivial) ?_ ?_
        · exact ⟨s2, by rw [List.take_zero, List.append_nil]; exact hD⟩
        · rintro c y H3 H3' hc ⟨s3, hD3⟩ ⟨rfl, d, hd, rfl⟩
          refine ⟨rfl, tyes (iteT ?_)⟩
          have key : (⟨#[d]⟩ : Str).length = 1 := rfl
          refine ⟨_, rfl, _, rfl, _, _, rfl, rfl, ?_, _, hD3, ?_, ?_, ?_⟩
          · rw [key]
            exact Nat.le_trans (show t.length + 1 ≤ 6 by omega) (by decide)
          · rw [List.length_map, List.length_append]
            refine small1000 ?_
            have : ([t ++ s0, t ++ s1].take c).length ≤ 2 := by rw [List.length_take]; exact Nat.min_le_right _ _
            omega
          · exact same_mut s3 nD
          · rcases two_signs hc hd with ⟨rfl, rfl⟩ | ⟨rfl, rfl⟩
            · show upd H3' D _ D = _
              rw [upd_same, map_snoc, List.append_assoc]
              rfl
            · show upd H3' D _ D = _
              rw [upd_same, map_snoc, List.append_assoc]
              rfl
        · rintro H3 ⟨s3, hD3⟩
          refine ⟨s3, ?_⟩
          show Strs H3 D (stepM ((genM i).take (j + 1)))
          rw [e1]
          exact hD3
      · rintro H2 ⟨s2, hD⟩
        refine ⟨sm.trans s2, D, _, rfl, sm.free nD, ?_⟩
        rw [List.length_map, List.take_length] at hD
        exact hD
    · rintro σ H1 ⟨sm, b, v3, rfl, nb, hb⟩
      have gl := gen_len ⟨m.toNat, by omega⟩
      refine ⟨_, rfl, b, rfl, ⟨_, .inl (.inl hb)⟩, fun D nD => ?_⟩
      refine lc_it (walk_list (K := K) (a := b) (xs := (genM m.toNat).map V.str)) (fun j H' => Same H1 H' ∧ Strs H' D (((genM m.toNat).take j).filter fun t => decide (l ≤ Txt.count t s1))) ?_ ?_ ?_ ?_
      · exact ⟨same_upd nD, upd_same⟩
      · rintro j H' _ ⟨s', _⟩
        exact .inl (.inl (s' _ _ hb))
      · rintro j x H2 H2' hj ⟨s2, hD⟩ ⟨rfl, hx⟩
        rw [List.getElem?_map] at hx
        obtain ⟨t, ht, rfl⟩ := Option.map_eq_some_iff.mp hx
        rw [List.length_map] at hj
        refine ⟨rfl, ?_⟩
        refine ⟨_, rfl, ⟨_, rfl⟩, _, _, rfl, rfl, ?_⟩
        refine ⟨_, rfl, _, _, rfl, rfl, _, rfl, ?_⟩
        have e1 : ((genM m.toNat).take (j + 1)).filter (fun t => decide (l ≤ Txt.count t s1)) = ((genM m.toNat).take j).filter (fun t => decide (l ≤ Txt.count t s1)) ++ (if decide (l ≤ Txt.count t s1) = true then [t] else []) := by
          rw [List.take_add_one, ht, List.filter_append]
          congr 1
          by_cases z : l ≤ Txt.count t s1 <;> simp [z]
        refine ite2 (fun z => ?_) (fun z => ?_) <;> rw [one_eq] at z
        · refine ⟨_, rfl, _, hD, ?_, same_mut s2 nD, ?_⟩
          · rw [List.length_map]
            refine small1000 (Nat.le_trans (List.length_filter_le _ _) ?_)
            have g2 : (genM m.toNat).length ≤ 32 := gl.2
            rw [List.length_take]
            omega
          · show upd H2' D _ D = _
            rw [upd_same, e1, if_pos z, List.map_append]
            rfl
        · refine ⟨s2, ?_⟩
          show Strs H2' D _
          rw [e1, if_neg z, List.append_nil]
          exact hD
      · rintro H2 ⟨s2, hD⟩
        rw [List.length_map, List.take_length] at hD
        exact q D H2 (sm.trans s2) (sm.free nD) hD
end
section
variable {P : Program} {w : World} {K : PySem.W.Frag} {mg : Str → Option Value} {base : Heap}
theorem str01 : ∀ b : Bool, Str.ofString (toString (if b then (1 : Int) else 0)) = (if b then s1 else s0) := by decide +kernel
theorem sign_of (x : Int) : (Str.ofString (toString (x.fmod 2))) = (if x.fmod 2 = 0 then s0 else s1) := by
  have h1 := Int.fmod_nonneg_of_pos x (b := 2) (by decide)
  have h2 := Int.fmod_lt_of_pos x (b := 2) (by decide)
  rcases (show x.fmod 2 = 0 ∨ x.fmod 2 = 1 by omega) with e | e
  · rw [e, if_pos rfl]
    exact str01 false
  · rw [e, if_neg (by decide)]
    exact str01 true
def spAll : Sp := fun vs H Q _ => ∃ m l : Int, vs = [.int m, .int l] ∧ 0 ≤ m ∧ m ≤ 5 ∧ ∀ p H', Same H H' → H p = none → Strs H' p (allM m.toNat l) → Q (.ref p) H'
abbrev s__law_all : Stmt := top 3
theorem sc__law_all : FnScope ["_law_my_many", "_law_my_least", "_law_found", "_law_number", "_law_text", "_law_left", "_law_k", "_law_sign"] ["_law_my_many", "_law_my_least"] (defScope s__law_all) := ⟨rfl, rfl, rfl, by decide +kernel, rfl, by decide +kernel, by decide +kernel⟩
theorem ok_all {f : Addr} {fd : FuncData} {k : Nat} (F : Fun K "_law_all" "_law_all" s__law_all f fd) (T : Txt mg) : FnOk P w K mg base CX0 (k + 1) f fd ["_law_my_many", "_law_my_least"] spAll := by
  refine F.ok sc__law_all (fun vs H Q E h => ?_) (fun cdv A outer s H vs Q E hr h => ?_)
  · obtain ⟨m, l, rfl, _⟩ := h
    rfl
  · obtain ⟨m, l, rfl, m0, m5, q⟩ := h
    refine ⟨_, (pss_cons (ps_set (i := 2) sc__law_all.nd rfl (Or.inl rfl) (pe_lst pa_nil))
      (pss_cons (ps_for PassesOwn.never rfl (pi_range1 (by rfl) T.range (pa_cons pe_int pa_nil)) (pg_name (i := 3) sc__law_all.nd rfl (Or.inl rfl))
        (pss_cons (ps_set (i := 4) sc__law_all.nd rfl (Or.inl rfl) pe_str)
          (pss_cons (ps_set (i := 5) sc__law_all.nd rfl (Or.inl rfl) (pv 3))
          (pss_cons (ps_for PassesOwn.never rfl (pi_range1 (by rfl) T.range (pa_cons (pv 0) pa_nil)) (pg_name (i := 6) sc__law_all.nd rfl (Or.inl rfl))
            (pss_cons (ps_set (i := 4) sc__law_all.nd rfl (Or.inl rfl) (pe_op op_add_str (pe_callTy call_str_int (by rfl) T.str_ (by decide +kernel) (pa_cons (pe_op op_modN (pv 5) pe_int) pa_nil)) (pv 4)))
              (pss_one (ps_set (i := 5) sc__law_all.nd rfl (Or.inl rfl) (pe_op op_fdivW (pv 5) pe_int)))))
          (pss_one (ps_if (PW.pt (pw_and (pt_cmpR op_eq (pv 5) pe_int (nomark _)) (pw_and1 (pt_cmpR op_ge (pe_callB call_len_seq (by rfl) T.len (by decide +kernel) (pa_cons (pe_lc (own := [("_law_sign", 7)]) (by rfl) sc__law_all.nd (pi_str (pv 4)) (blkOk_by (own := [("_law_sign", 7)]) (N := ["_law_my_many", "_law_my_least", "_law_found", "_law_number", "_law_text", "_law_left", "_law_k", "_law_sign"]) (sc := defScope s__law_all) (by decide +kernel)) (fun _ _ _ _ _ => (pg_name (i := 7) sc__law_all.nd rfl (Or.inl rfl))) (fun _ _ _ _ _ => (pts_one (pt_cmpR op_eq (pv 7) pe_str (nomark _)))) (fun _ _ _ _ _ => (pv 7))) pa_nil)) (pv 1) (nomark _)))))
            (pss_one (ps_expr (pe_bm PySem.F.plainAttrs_list PySem.F.slot_list_append PySem.F.type_list_append mt_append (pv 2) (pa_cons (pv 4) pa_nil))))
            pss_nil))))))
      (pss_one (ps_ret (pv 2))))), ?_⟩
    refine ⟨by show 0 ≤ sizeLine; decide, fun a na => ?_⟩
    refine ⟨32, rfl, by decide, by decide, for_range (lo := 0) (n := 32) (fun i σ H' => Same H H' ∧ ∃ (v3 v4 v5 v6 v7 : Option V), σ = [some (.int m), some (.int l), some (.ref a), v3, v4, v5, v6, v7] ∧ Strs H' a ((((List.range 32).take i).filter (keepM m.toNat l)).map fun n => (bits (n : Nat) m.toNat).1)) ⟨same_upd na, none, none, none, none, none, rfl, upd_same⟩ ?_ ?_⟩
    · rintro i σ H1 hi ⟨sm, v3, v4, v5, v6, v7, rfl, ha⟩
      refine ⟨_, rfl, ?_⟩
      refine ⟨_, rfl, m, rfl, by omega, by omega, for_range (lo := 0) (n := m.toNat) (fun j σ H' => H' = H1 ∧ ∃ v6 : Option V, σ = [some (.int m), some (.int l), some (.ref a), some (.int (0 + ↑i)), some (.str (bits (i : Nat) j).1), some (.int (bits (i : Nat) j).2), v6, v7]) ⟨rfl, v6, by rw [Int.zero_add]; rfl⟩ ?_ ?_⟩
      · rintro j σ H' hj ⟨rfl, v6, rfl⟩
        have bl := bits_len (i : Nat) j
        have fz := Int.fmod_nonneg_of_pos (bits (i : Nat) j).2 (b := 2) (by decide)
        have fl := Int.fmod_lt_of_pos (bits (i : Nat) j).2 (b := 2) (by decide)
        refine ⟨_, rfl, _, _, rfl, rfl, (show (2 : Int) ≠ 0 by decide), _, rfl, ?_, ?_⟩
        · rcases (show (bits (i : Nat) j).2.fmod 2 = 0 ∨ (bits (i : Nat) j).2.fmod 2 = 1 by omega) with e | e
          · show ((bits (i : Nat) j).2.fmod 2).natAbs.log2 < 1920
            rw [e]
            decide
          · show ((bits (i : Nat) j).2.fmod 2).natAbs.log2 < 1920
            rw [e]
            decide
        refine ⟨_, rfl, _, _, rfl, rfl, ?_, ?_⟩
        · have e := sign_of (bits (i : Nat) j).2
          show (Str.ofString (toString ((bits (i : Nat) j).2.fmod 2))).length + (bits (i : Nat) j).1.length ≤ sizeLine
          rw [e, bl]
          refine Nat.le_trans (show _ ≤ 6 from ?_) (by decide)
          split <;> (show 1 + j ≤ 6; omega)
        refine ⟨_, rfl, _, _, rfl, rfl, wide_div (b := 64) (by decide) (by decide) (by decide) (by decide), rfl, some (.int (0 + ↑j)), ?_⟩
        have e := sign_of (bits (i : Nat) j).2
        show [some (.int m), some (.int l), some (.ref a), some (.int (0 + ↑i)), some (.str (Str.ofString (toString ((bits (i : Nat) j).2.fmod 2)) ++ (bits (i : Nat) j).1)), some (.int ((bits (i : Nat) j).2 / 2)), some (.int (0 + ↑j)), v7] = _
        rw [e]
        rfl
      · rintro σ H' ⟨rfl, v6, rfl⟩
        have bl := bits_len (i : Nat) m.toNat
        generalize hb : bits (i : Nat) m.toNat = bb at bl ⊢
        obtain ⟨t, left⟩ := bb
        have ht : t.cps.size = m.toNat := bl
        have ek : ∀ b : Bool, keepM m.toNat l i = b → (((List.range 32).take (i + 1)).filter (keepM m.toNat l)).map (fun n => (bits (n : Nat) m.toNat).1) = (((List.range 32).take i).filter (keepM m.toNat l)).map (fun n => (bits (n : Nat) m.toNat).1) ++ (if b = true then [t] else []) := fun b hb2 => by
          have e : (List.range 32)[i]? = some i := by rw [List.getElem?_range hi]
          rw [List.take_add_one, e, List.filter_append, List.map_append]
          congr 1
          cases b with
          | false => simp [hb2]
          | true => simp [hb2, hb]
        have kd : keepM m.toNat l i = (decide (left = 0) && decide (l ≤ onesM t)) := by
          unfold keepM
          rw [hb]
        have szi : ((((List.range 32).take i).filter (keepM m.toNat l)).map fun n => (bits (n : Nat) m.toNat).1).length ≤ 32 := by
          rw [List.length_map]
          refine Nat.le_trans (List.length_filter_le _ _) ?_
          rw [List.length_take, List.length_range]
          omega
        have szV := small1000 (n := (List.map V.str ((((List.range 32).take i).filter (keepM m.toNat l)).map fun n => (bits (n : Nat) m.toNat).1)).length) (by rw [List.length_map]; omega)
        refine ⟨_, rfl, rfl, _, rfl, ite2 (fun z => ?_) (fun z => ?_)⟩
        · have z0 : left = 0 := V.int.inj (of_decide_eq_true z)
          subst z0
          -- len([sign for sign in text if sign == '1']) >= least
          refine ⟨_, rfl, t, rfl, fun D nD => ?_⟩
          have aD : a ≠ D := ne_of_none ha nD
          refine lc_it (walk_str (z := t)) (fun j G => Same H' G ∧ G D = some (.lst (((t.cps.toList.take j).filter fun c => decide (c = 49)).map fun c => V.str ⟨#[c]⟩))) ?_ (fun _ _ _ _ => trivial) ?_ ?_
          · exact ⟨same_upd nD, upd_same⟩
          · rintro j x G2 G2' hj ⟨s2, hD⟩ ⟨rfl, c, hc, rfl⟩
            refine ⟨rfl, ?_⟩
            refine ⟨_, rfl, rfl, _, rfl, ?_⟩
            have hc' : t.cps.toList[j]? = some c := by rw [Array.getElem?_toList]; exact hc
            have e1 : decide (V.str ⟨#[c]⟩ = V.str "1") = decide (c = 49) := by
              by_cases z : c = 49
              · subst z
                rfl
              · rw [decide_eq_false z]
                refine decide_eq_false fun w => z ?_
                have w1 : (⟨#[c]⟩ : Str) = ⟨#[49]⟩ := V.str.inj w
                have w2 : #[c] = #[49] := congrArg Str.cps w1
                have w3 := congrArg (fun z => z[0]?) w2
                exact Option.some.inj w3
            have e2 : (t.cps.toList.take (j + 1)).filter (fun c => decide (c = 49)) = (t.cps.toList.take j).filter (fun c => decide (c = 49)) ++ (if decide (c = 49) = true then [c] else []) := by
              rw [List.take_add_one, hc', List.filter_append]
              congr 1
              by_cases z : c = 49 <;> simp [z]
            rw [e1]
            refine ite2 (fun z => ?_) (fun z => ?_)
            · refine ⟨_, rfl, _, hD, ?_, same_mut s2 nD, ?_⟩
              · rw [List.length_map]
                refine small1000 (Nat.le_trans (List.length_filter_le _ _) ?_)
                rw [List.length_take, Array.length_toList]
                omega
              · show upd G2' D _ D = _
                rw [upd_same, e2, if_pos z, List.map_append]
                rfl
            · refine ⟨s2, ?_⟩
              show G2' D = _
              rw [e2, if_neg z, List.append_nil]
              exact hD
          · rintro G ⟨s2, hD⟩
            have eD : t.cps.toList.take t.cps.size = t.cps.toList := List.take_of_length_le (by rw [Array.length_toList]; exact Nat.le_refl _)
            rw [eD] at hD
            refine ⟨D, _, rfl, .inl (.inl (.inl hD)), ?_⟩
            refine ⟨_, rfl, _, _, rfl, rfl, _, rfl, ?_⟩
            have eo : (decide (l ≤ (((t.cps.toList.filter fun c => decide (c = 49)).map fun c => V.str ⟨#[c]⟩).length : Int))) = decide (l ≤ onesM t) := by
              rw [List.length_map]
              rfl
            rw [eo]
            refine ite2 (fun z1 => ?_) (fun z1 => ?_)
            · refine ⟨_, rfl, .inl ⟨rfl, _, .inl (.inl (s2 _ _ ha))⟩, _, rfl, a, _, _, rfl, rfl, s2 _ _ ha, szV, ?_⟩
              refine ⟨same_mut (sm.trans s2) na, _, _, _, _, _, rfl, ?_⟩
              show upd G a _ a = _
              rw [upd_same, ek true (by rw [kd, decide_eq_true rfl, z1]; rfl), if_pos rfl, map_snoc]
            · refine ⟨sm.trans s2, _, _, _, _, _, rfl, ?_⟩
              show Strs G a _
              rw [ek false (by rw [kd, Bool.eq_false_iff.mpr z1, Bool.and_false]), if_neg (by decide), List.append_nil]
              exact s2 _ _ ha
        · refine iteF ⟨sm, _, _, _, _, _, rfl, ?_⟩
          have z0 : decide (left = 0) = false := decide_eq_false fun e => z (decide_eq_true (by rw [e]))
          show Strs H' a _
          rw [ek false (by rw [kd, z0, Bool.false_and]), if_neg (by decide), List.append_nil]
          exact ha
    · rintro σ H1 ⟨sm, v3, v4, v5, v6, v7, rfl, ha⟩
      refine ⟨_, rfl, q a H1 sm na ?_⟩
      have e : (List.range 32).take 32 = List.range 32 := by decide
      rw [e] at ha
      exact ha
end
section
variable {P : Program} {w : World} {K : PySem.W.Frag} {mg : Str → Option Value} {base : Heap}
def dS (xs : List Str) : PyData := .list (xs.map PyData.str)
theorem dp_strs {H : Hp} : ∀ (xs : List Str), DpAll K H (xs.map V.str) (xs.map PyData.str)
  | [] => .nil
  | x :: xs => .cons (.str x) (dp_strs xs)
theorem dp_S {H : Hp} {a : Addr} {xs : List Str} (h : Strs H a xs) : Dp K H (.ref a) (dS xs) := .lst (.inl (.inl h)) (dp_strs xs)
theorem fin_of {m l : Int} (m1 : 0 ≤ m) (m5 : m ≤ 5) (l0 : 0 ≤ l) (l7 : l ≤ 7) : chM m.toNat l = allM m.toNat l ∧ SeqAt.shaped (dS (chM m.toNat l)) = true ∧ PyProof.Rows.sortedS (chM m.toNat l) = true ∧ (chM m.toNat l).length ≤ 32 := by
  have e : ((l.toNat : Nat) : Int) = l := by omega
  have h1 := same0 ⟨m.toNat, by omega⟩ ⟨l.toNat, by omega⟩
  have h2 := shaped0 ⟨m.toNat, by omega⟩ ⟨l.toNat, by omega⟩
  have h3 := sorted0 ⟨m.toNat, by omega⟩ ⟨l.toNat, by omega⟩
  have h4 := (gen_len ⟨m.toNat, by omega⟩).2
  simp only [e] at h1 h2 h3
  exact ⟨h1, h2, h3, Nat.le_trans (lts _ _) h4⟩
theorem eqv_S {xs : List Str} (h : SeqAt.shaped (dS xs) = true) : PyData.eqv (dS xs) (dS xs) = true := PySem.SeqAt.eqv_refl _ (Bool.and_eq_true_iff.mp h).1
/-! ### _law_right -/
def spRt : Sp := fun vs H Q _ => ∃ m l : Int, vs = [.int m, .int l] ∧ 1 ≤ m ∧ m ≤ 5 ∧ 0 ≤ l ∧ l ≤ 7 ∧ ∀ H', Same H H' → Q (.bl true) H'
abbrev s__law_right : Stmt := top 4
theorem sc__law_right : FnScope ["_law_my_many", "_law_my_least", "_law_due", "_law_told", "_law_text"] ["_law_my_many", "_law_my_least"] (defScope s__law_right) := ⟨rfl, rfl, rfl, by decide +kernel, rfl, by decide +kernel, by decide +kernel⟩
theorem ok_rt {f : Addr} {fd : FuncData} {k : Nat} (F : Fun K "_law_right" "_law_right" s__law_right f fd) (T : Txt mg) (c__law_all : Cal P w K mg base 1 "_law_all" ["_law_my_many", "_law_my_least"] spAll)
    (c_choices : Cal P w K mg base 1 "choices" ["many", "least"] spCh) (c_choices_kw : CalK P w K mg base 1 "choices" ["many", "least"] spCh 0 ["least", "many"] (fun _ zs => zs.reverse)) : FnOk P w K mg base CX0 (k + 1 + 1) f fd ["_law_my_many", "_law_my_least"] spRt := by
  refine F.ok sc__law_right (fun vs H Q E h => ?_) (fun cdv A outer s H vs Q E hr h => ?_)
  · obtain ⟨m, l, rfl, _⟩ := h
    rfl
  · obtain ⟨m, l, rfl, m1, m5, l0, l7, q⟩ := h
    have hr : Room 1 _ := hr.mono (Nat.le_add_left 1 k)
    obtain ⟨e, sh, so, ln⟩ := fin_of (by omega) m5 l0 l7
    refine ⟨_, (pss_cons (ps_set (i := 2) sc__law_right.nd rfl (Or.inl rfl) (pe_cal c__law_all hr (by rfl) (pa_cons (pv 0) (pa_cons (pv 1) pa_nil))))
      (pss_cons (ps_set (i := 3) sc__law_right.nd rfl (Or.inl rfl) (pe_cal c_choices hr (by rfl) (pa_cons (pv 0) (pa_cons (pv 1) pa_nil))))
      (pss_cons (ps_if (PW.pt (pw_or (pt_not (pt_val (pe_callB (id := "isinstance") (r := rIsi K) call_isi (by rfl) T.isinstance (by decide +kernel) (pa_cons (pv 3) (pa_cons (pe_bltn (v := .ty "list") (by rfl) T.list_ (by decide +kernel) rfl) pa_nil))))) (pw_or (pt_cmpR (op_neD hr.units) (pv 3) (pv 2) (nomark _)) (pw_or1 (pt_cmpR (op_neD hr.units) (pe_callB cr_sortedS (by rfl) T.sorted (by decide +kernel) (pa_cons (pv 3) pa_nil)) (pv 3) (nomark _))))))
        (pss_one (ps_ret pe_bl))
        pss_nil)
      (pss_cons (ps_if (pt_cmpR (op_neD hr.units) (pe_lc (own := [("_law_text", 4)]) (by rfl) sc__law_right.nd (pi_list (pv 3)) (blkOk_by (own := [("_law_text", 4)]) (N := ["_law_my_many", "_law_my_least", "_law_due", "_law_told", "_law_text"]) (sc := defScope s__law_right) (by decide +kernel)) (fun _ _ _ _ _ => (pg_name (i := 4) sc__law_right.nd rfl (Or.inl rfl))) (fun _ _ _ _ _ => (pts_one (pt_not (pt_val (pe_callB (id := "isinstance") (r := rIsi K) call_isi (by rfl) T.isinstance (by decide +kernel) (pa_cons (pv 4) (pa_cons (pe_bltn (v := .ty "str") (by rfl) T.str_ (by decide +kernel) rfl) pa_nil))))))) (fun _ _ _ _ _ => (pv 4))) (pe_lst pa_nil) (nomark _))
        (pss_one (ps_ret pe_bl))
        pss_nil)
      (pss_cons (ps_expr (pe_bm PySem.F.plainAttrs_list PySem.F.slot_list_append PySem.F.type_list_append mt_append (pv 3) (pa_cons pe_str pa_nil)))
      (pss_one (ps_ret (pe_and (pe_cmpR (op_eqD hr.units) (pe_cal c_choices hr (by rfl) (pa_cons (pv 0) (pa_cons (pv 1) pa_nil))) (pv 2) (nomark _)) (pe_one (pe_cmpR (op_eqD hr.units) (pe_calK0 c_choices_kw hr (by rfl) (pk_cons (pv 1) (pk_cons (pv 0) pk_nil))) (pv 2) (nomark _))))))))))), ?_⟩
    refine ⟨_, rfl, _, rfl, m, l, rfl, by omega, m5, fun p1 H1 s1 n1 h1 => ?_⟩
    rw [← e] at h1
    refine ⟨_, rfl, _, rfl, m, l, rfl, by omega, m5, fun p2 H2 s2 n2 h2 => ?_⟩
    generalize hx : chM m.toNat l = xs at h1 h2 sh so ln
    have h12 : Strs H2 p1 xs := s2 _ _ h1
    have eq := eqv_S sh
    -- isinstance, !=, sorted
    refine ⟨_, rfl, _, _, _, _, true, rfl, .ty _, .base (.lst h2), kit_ty (by decide +kernel), _, rfl, iteF ?_⟩
    refine ⟨_, rfl, _, rfl, _, _, dp_S h2, dp_S h12, sh, sh, _, rfl, ?_⟩
    rw [eq]
    refine iteF ?_
    refine ⟨_, rfl, p2, xs, rfl, .inl (.inl h2), by omega, fun ys p3 pm sy n3 => ?_⟩
    have ey : ys = xs := sorted_same pm sy so
    subst ey
    have s3 := same_upd (o := .lst (ys.map V.str)) n3
    refine ⟨_, rfl, _, _, dp_S (xs := ys) upd_same, dp_S (s3 _ _ h2), sh, sh, _, rfl, ?_⟩
    rw [eq]
    refine iteF ?_
    -- no text that is none
    refine ⟨_, rfl, p2, rfl, ⟨_, .inl (.inl (s3 _ _ h2))⟩, fun D nD => ?_⟩
    refine lc_it (walk_list (K := K) (a := p2) (xs := ys.map V.str)) (fun j H' => Same (upd H2 p3 (.lst (ys.map V.str))) H' ∧ H' D = some (.lst [])) ⟨same_upd nD, upd_same⟩ (fun j H' _ ⟨s', _⟩ => .inl (.inl (s' _ _ (s3 _ _ h2)))) ?_ ?_
    · rintro j x H4 H4' hj ⟨s4, hD⟩ ⟨rfl, hx1⟩
      rw [List.getElem?_map] at hx1
      obtain ⟨t, _, rfl⟩ := Option.map_eq_some_iff.mp hx1
      exact ⟨rfl, _, rfl, _, _, _, _, true, rfl, .ty _, .base (.str _), kit_ty (by decide +kernel), _, rfl, iteF ⟨s4, hD⟩⟩
    · rintro H4 ⟨s4, hD⟩
      refine ⟨by show 0 ≤ sizeLine; decide, fun e0 ne0 => ?_⟩
      have s5 := same_upd (o := .lst []) ne0
      refine ⟨_, _, .lst (.inl (.inl (s5 _ _ hD))) .nil, .lst (.inl (.inl upd_same)) .nil, rfl, rfl, _, rfl, ?_⟩
      rw [show PyData.eqv (.list []) (.list []) = true by simp [PyData.eqv, PyData.eqvAll]]
      refine iteF ?_
      have t5 := (s3.trans s4).trans s5
      generalize hH5 : upd H4 e0 (.lst []) = H5 at t5 ⊢
      -- told.append('2')
      refine ⟨_, rfl, .inl ⟨rfl, _, .inl (.inl (t5 _ _ h2))⟩, p2, _, _, rfl, rfl, t5 _ _ h2, small1000 (by rw [List.length_map]; omega), ?_⟩
      have s16 : Same H1 (upd H5 p2 (.lst (ys.map V.str ++ [V.str "2"]))) := same_mut (s2.trans t5) n2
      have s06 := s1.trans s16
      generalize upd H5 p2 (.lst (ys.map V.str ++ [V.str "2"])) = H6 at s16 s06 ⊢
      refine ⟨_, rfl, _, rfl, m, l, rfl, by omega, m5, fun p7 H7 s7 n7 h7 => ?_⟩
      rw [hx] at h7
      refine ⟨_, rfl, _, _, dp_S h7, dp_S (s7 _ _ (s16 _ _ h1)), sh, sh, true, by rw [eq], iteT ?_⟩
      refine ⟨_, rfl, _, rfl, rfl, rfl, m, l, rfl, by omega, m5, fun p8 H8 s8 n8 h8 => ?_⟩
      rw [hx] at h8
      refine ⟨_, rfl, _, _, dp_S h8, dp_S (s8 _ _ (s7 _ _ (s16 _ _ h1))), sh, sh, ?_⟩
      rw [eq]
      exact q _ ((s06.trans s7).trans s8)
/-! ### the law -/
def spLaw (K : PySem.W.Frag) : Sp := fun vs H Q _ => ∃ (a : Addr) (ns : List Int), vs = [.ref a] ∧ SqL K H a (ns.map V.int) ∧ ns.length ≤ 63 ∧ ∀ H', Q (.bl true) H'
abbrev s_law : Stmt := top 5
theorem sc_law : FnScope ["_law_script", "_law_turn", "_law_k", "_law_my_many", "_law_my_least"] ["_law_script"] (defScope s_law) := ⟨rfl, rfl, rfl, by decide +kernel, rfl, by decide +kernel, by decide +kernel⟩
theorem ok_law {f : Addr} {fd : FuncData} (F : Fun K "law" "law" s_law f fd) (T : Txt mg) (c__law_all : Cal P w K mg base 1 "_law_all" ["_law_my_many", "_law_my_least"] spAll) (c__law_right : Cal P w K mg base 2 "_law_right" ["_law_my_many", "_law_my_least"] spRt)
    (c_choices_1 : CalD P w K mg base 1 "choices" ["many", "least"] spCh [.int 0]) (c_choices_m_kw : CalK P w K mg base 1 "choices" ["many", "least"] spCh 0 ["many"] (fun _ zs => zs ++ [.int 0])) : FnOk P w K mg base CX0 3 f fd ["_law_script"] (spLaw K) := by
  refine F.ok sc_law (fun vs H Q E h => ?_) (fun cdv A outer s H vs Q E hr h => ?_)
  · obtain ⟨a, ns, rfl, _⟩ := h
    rfl
  · obtain ⟨a, ns, rfl, hS, hlen, q⟩ := h
    refine ⟨_, (pss_cons (ps_set (i := 1) sc_law.nd rfl (Or.inl rfl) (pe_op op_modN (pe_callB (cr_sum rfl) (by rfl) T.sum (by decide +kernel) (pa_cons (pv 0) pa_nil)) pe_int))
      (pss_cons (ps_for PassesOwn.never rfl (pi_range1 (by rfl) T.range (pa_cons pe_int pa_nil)) (pg_name (i := 2) sc_law.nd rfl (Or.inl rfl))
        (pss_cons (ps_set (i := 3) sc_law.nd rfl (Or.inl rfl) (pe_op op_add pe_int (pe_op op_modN (pe_op op_add (pv 2) (pv 1)) pe_int)))
          (pss_cons (ps_if (PW.pt (pw_or (pt_cmpR (op_neD hr.units) (pe_calD c_choices_1 hr (by rfl) (pa_cons (pv 3) pa_nil)) (pe_cal c__law_all hr (by rfl) (pa_cons (pv 3) (pa_cons pe_int pa_nil))) (nomark _)) (pw_or1 (pt_cmpR (op_neD hr.units) (pe_calK0 c_choices_m_kw hr (by rfl) (pk_cons (pv 3) pk_nil)) (pe_cal c__law_all hr (by rfl) (pa_cons (pv 3) (pa_cons pe_int pa_nil))) (nomark _)))))
            (pss_one (ps_ret pe_bl))
            pss_nil)
          (pss_one (ps_for PassesOwn.never rfl (pi_range1 (by rfl) T.range (pa_cons (pe_op op_add (pv 3) pe_int) pa_nil)) (pg_name (i := 4) sc_law.nd rfl (Or.inl rfl))
            (pss_one (ps_if (pt_not (pt_val (pe_cal c__law_right hr (by rfl) (pa_cons (pv 3) (pa_cons (pv 4) pa_nil)))))
                (pss_one (ps_ret pe_bl))
                pss_nil)))))))
      (pss_one (ps_ret pe_bl)))), ?_⟩
    refine ⟨_, rfl, a, ns, rfl, hS, _, _, rfl, rfl, (show (5 : Int) ≠ 0 by decide), ?_⟩
    refine ⟨5, rfl, by decide, by decide, for_range (lo := 0) (n := 5) (fun i σ H' => Same H H' ∧ ∃ v2 v3 v4 : Option V, σ = [some (.ref a), some (.int (ns.sum.fmod 5)), v2, v3, v4]) ⟨Same.refl H, none, none, none, rfl⟩ ?_ ?_⟩
    · rintro i σ H1 hi ⟨s1, v2, v3, v4, rfl⟩
      refine ⟨_, rfl, _, rfl, _, _, rfl, rfl, _, _, rfl, rfl, (show (5 : Int) ≠ 0 by decide), _, _, rfl, rfl, ?_⟩
      have b1 := Int.fmod_nonneg_of_pos (0 + (i : Int) + ns.sum.fmod 5) (b := 5) (by decide)
      have b2 := Int.fmod_lt_of_pos (0 + (i : Int) + ns.sum.fmod 5) (b := 5) (by decide)
      have m1 : 1 ≤ 1 + (0 + (i : Int) + ns.sum.fmod 5).fmod 5 := by omega
      have m5 : 1 + (0 + (i : Int) + ns.sum.fmod 5).fmod 5 ≤ 5 := by omega
      obtain ⟨e, sh, so, ln⟩ := fin_of (l := 0) (by omega) m5 (by decide) (by decide)
      have eq := eqv_S sh
      refine ⟨_, rfl, _, 0, rfl, by omega, m5, fun p2 H2 s2 n2 h2 => ?_⟩
      refine ⟨_, rfl, _, 0, rfl, by omega, m5, fun p3 H3 s3 n3 h3 => ?_⟩
      rw [← e] at h3
      refine ⟨_, _, dp_S (s3 _ _ h2), dp_S h3, sh, sh, _, rfl, ?_⟩
      rw [eq]
      refine iteF ?_
      refine ⟨_, rfl, rfl, rfl, _, 0, rfl, by omega, m5, fun p4 H4 s4 n4 h4 => ?_⟩
      refine ⟨_, rfl, _, 0, rfl, by omega, m5, fun p5 H5 s5 n5 h5 => ?_⟩
      rw [← e] at h5
      refine ⟨_, _, dp_S (s5 _ _ h4), dp_S h5, sh, sh, _, rfl, ?_⟩
      rw [eq]
      refine iteF ?_
      have t5 := s1.trans ((s2.trans s3).trans (s4.trans s5))
      refine ⟨_, rfl, _, _, rfl, rfl, _, rfl, by omega, by omega, for_range (lo := 0) (n := (1 + (0 + (i : Int) + ns.sum.fmod 5).fmod 5 + 2).toNat) (fun j σ H' => Same H H' ∧ ∃ v4 : Option V, σ = [some (.ref a), some (.int (ns.sum.fmod 5)), some (.int (0 + (i : Int))), some (.int (1 + (0 + (i : Int) + ns.sum.fmod 5).fmod 5)), v4]) ⟨t5, v4, rfl⟩ ?_ ?_⟩
      · rintro j σ H6 hj ⟨s6, v4, rfl⟩
        refine ⟨_, rfl, _, rfl, _, _, rfl, m1, m5, by omega, by omega, fun H7 s7 => ?_⟩
        exact ⟨_, rfl, iteF ⟨s6.trans s7, _, rfl⟩⟩
      · rintro σ H6 ⟨s6, v4, rfl⟩
        exact ⟨s6, _, _, _, rfl⟩
    · rintro σ H1 ⟨s1, v2, v3, v4, rfl⟩
      exact q _
end
theorem all_mk {l : PySem.W.OpenLaw} {w : World} {K : PySem.W.Frag} {h : Heap} {mg : Str → Option Value} {fa f1 f2 f3 f4 t1 : Addr} (X : K.In h) (G : h.Ns mainGlobals mg) (hfa : mg "law" = some (.ref fa))
    {od1 an1 od2 an2 od3 an3 od4 an4 odt1 : Option Addr} {sl1 sl2 sl3 sl4 slt1 : Array (Option Value)} {oc1 kV1 dc1 pm1 cd1 ct1 oc2 kV2 dc2 pm2 cd2 ct2 oc3 kV3 dc3 pm3 cd3 ct3 oc4 kV4 dc4 pm4 cd4 ct4 oct1 : Value}
    {tk1 : Tok} {nt1 : Nat}
    (a1 : PySem.W.nsIn K mainGlobals "choices" = some (some (.ref f1))) (l1 : K.lookup f1 = some ⟨oc1, od1, .func (PySem.W.fnOf "choices" "choices" (defArgs s_choices) (defBody s_choices) (defScope s_choices) (.ref t1) kV1 dc1 pm1 an1 cd1 ct1), sl1⟩) (c1 : PySem.W.codeIn K cd1 "choices" = true) (k1 : PySem.W.keepIn K (.ref f1) = true)
    (lt1 : K.lookup t1 = some ⟨oct1, odt1, .seq #[.int 0 tk1] nt1, slt1⟩)
    (a2 : PySem.W.nsIn K mainGlobals "_law_all" = some (some (.ref f2))) (l2 : K.lookup f2 = some ⟨oc2, od2, .func (PySem.W.fnOf "_law_all" "_law_all" (defArgs s__law_all) (defBody s__law_all) (defScope s__law_all) .none kV2 dc2 pm2 an2 cd2 ct2), sl2⟩) (c2 : PySem.W.codeIn K cd2 "_law_all" = true) (k2 : PySem.W.keepIn K (.ref f2) = true)
    (a3 : PySem.W.nsIn K mainGlobals "_law_right" = some (some (.ref f3))) (l3 : K.lookup f3 = some ⟨oc3, od3, .func (PySem.W.fnOf "_law_right" "_law_right" (defArgs s__law_right) (defBody s__law_right) (defScope s__law_right) .none kV3 dc3 pm3 an3 cd3 ct3), sl3⟩) (c3 : PySem.W.codeIn K cd3 "_law_right" = true) (k3 : PySem.W.keepIn K (.ref f3) = true)
    (a4 : PySem.W.nsIn K mainGlobals "law" = some (some (.ref f4))) (l4 : K.lookup f4 = some ⟨oc4, od4, .func (PySem.W.fnOf "law" "law" (defArgs s_law) (defBody s_law) (defScope s_law) .none kV4 dc4 pm4 an4 cd4 ct4), sl4⟩) (c4 : PySem.W.codeIn K cd4 "law" = true) (k4 : PySem.W.keepIn K (.ref f4) = true)
    (z_len : PySem.W.nsIn K mainGlobals "len" = some none)
    (z_range : PySem.W.nsIn K mainGlobals "range" = some none)
    (z_isinstance : PySem.W.nsIn K mainGlobals "isinstance" = some none)
    (z_sorted : PySem.W.nsIn K mainGlobals "sorted" = some none)
    (z_sum : PySem.W.nsIn K mainGlobals "sum" = some none)
    (z_list : PySem.W.nsIn K mainGlobals "list" = some none)
    (z_str : PySem.W.nsIn K mainGlobals "str" = some none)
    : ∃ fd : FuncData, (∀ (s : Shared) (v : Value), BindsTo s fd ⟨[v], []⟩ [("_law_script", v)]) ∧ ∀ base : Heap, K.In base → base.Ns mainGlobals mg → FnOk l.prog w K mg base CX0 3 fa fd ["_law_script"] (spLaw K) := by
  have e := hfa.symm.trans (PySem.W.mg_of X G a4)
  cases e
  have T : Txt mg := ⟨PySem.W.mg_none_of X G z_len, PySem.W.mg_none_of X G z_range, PySem.W.mg_none_of X G z_isinstance, PySem.W.mg_none_of X G z_sorted, PySem.W.mg_none_of X G z_sum, PySem.W.mg_none_of X G z_list, PySem.W.mg_none_of X G z_str⟩
  have g1 := PySem.W.mg_of X G a1
  have F2 := fun_mk (st := s__law_all) l2 c2 k2
  have g2 := PySem.W.mg_of X G a2
  have F3 := fun_mk (st := s__law_right) l3 c3 k3
  have g3 := PySem.W.mg_of X G a3
  have F4 := fun_mk (st := s_law) l4 c4 k4
  have g4 := PySem.W.mg_of X G a4
  have F1 : FunD K "choices" "choices" (defArgs s_choices) (defBody s_choices) (defScope s_choices) [.int 0] [] f1 _ := ⟨⟨oc1, od1, .ref t1, kV1, dc1, pm1, an1, cd1, ct1, sl1, rfl, l1, c1, .inr ⟨(by intro z; cases z), t1, _, [.int 0 tk1], nt1, rfl, lt1, rfl, .cons ⟨tk1, rfl⟩ .nil⟩, .inl rfl⟩, k1⟩
  obtain ⟨ds2, v2, b2⟩ := F1.binds1 (ps := ["many", "least"]) 2 1 (by intro z; cases z) rfl (fun T kV doc pm an cdv ct us its h1 h2 => match us, its, h1, h2 with | [_, _], [_], _, _ => ⟨_, rfl, rfl⟩)
  cases v2
  obtain ⟨ds1, v1, b1⟩ := F1.binds1 (ps := ["many", "least"]) 1 0 (by intro z; cases z) rfl (fun T kV doc pm an cdv ct us its h1 h2 => match us, its, h1, h2 with | [_], [_], _, _ => ⟨_, rfl, rfl⟩)
  obtain ⟨it1, q1⟩ := kbindsD (ps := ["many", "least"]) F1 ["many"] (fun ds zs => zs ++ ds) (by intro z; cases z) (fun r1 r2 => r2.append r1) (fun T kV doc pm an cdv ct its ws h1 h2 => match its, ws, h1, h2 with | [_], [_], _, _ => ⟨_, rfl, rfl⟩)
  obtain ⟨it2, q2⟩ := kbindsD (ps := ["many", "least"]) F1 ["least", "many"] (fun _ zs => zs.reverse) (by intro z; cases z) (fun r1 r2 => vals_rev r2) (fun T kV doc pm an cdv ct its ws h1 h2 => match its, ws, h1, h2 with | [_], [_, _], _, _ => ⟨_, rfl, rfl⟩)
  have b3 := F2.binds (ps := ["_law_my_many", "_law_my_least"]) fun _ _ _ _ _ _ us hl => match us, hl with | [_, _], _ => rfl
  have b4 := F3.binds (ps := ["_law_my_many", "_law_my_least"]) fun _ _ _ _ _ _ us hl => match us, hl with | [_, _], _ => rfl
  refine ⟨PySem.W.fnOf "law" "law" (defArgs s_law) (defBody s_law) (defScope s_law) .none kV4 dc4 pm4 an4 cd4 ct4, fun s v => .of_eq rfl, fun base _ _ => ?_⟩
  have O1 : FnOk l.prog w K mg base CX0 1 f1 _ ["many", "least"] spCh := ok_ch (k := 0) F1 T
  have C1 : Cal l.prog w K mg base 1 "choices" ["many", "least"] spCh := ⟨f1, _, O1, g1, k1, b2⟩
  have C1d : CalD l.prog w K mg base 1 "choices" ["many", "least"] spCh [.int 0] := ⟨f1, _, _, O1, g1, k1, b1, v1⟩
  have C1m : CalK l.prog w K mg base 1 "choices" ["many", "least"] spCh 0 ["many"] (fun _ zs => zs ++ [.int 0]) := ⟨f1, _, _, O1, g1, k1, q1⟩
  have C1k : CalK l.prog w K mg base 1 "choices" ["many", "least"] spCh 0 ["least", "many"] (fun _ zs => zs.reverse) := ⟨f1, _, _, O1, g1, k1, q2⟩
  have C2 : Cal l.prog w K mg base 1 "_law_all" ["_law_my_many", "_law_my_least"] spAll := ⟨f2, _, ok_all (k := 0) F2 T, g2, k2, b3⟩
  have C3 : Cal l.prog w K mg base 2 "_law_right" ["_law_my_many", "_law_my_least"] spRt := ⟨f3, _, ok_rt (k := 0) F3 T C2 C1 C1k, g3, k3, b4⟩
  exact ok_law F4 T C2 C3 C1d C1m
end Toy
open PySem PySem.W PyProof.Rows
set_option maxRecDepth 100000 in
set_option maxHeartbeats 0 in
theorem PySem.Challenge.cw_eitherslack_k03_choices_holds : PySem.Challenge.rw_eitherslack_k03_choices.Holds := by
  w_on; o_law; k_head; (case hw => w_witness2)
  k_fill
  refine L2.walk_of (l := PySem.Challenge.rw_eitherslack_k03_choices) (n := 63) (k := 3) (x := "_law_script") (CX := fun _ => L2.CX0) (sp := fun w => Toy.spLaw _) rfl (by decide) rfl ⟨rfl, by decide, by decide⟩ (fun w h Y => PySem.W.kIn_of Y) ?F (fun _ _ a ns hl _ hS => ⟨a, ns, rfl, hS, hl, fun _ => rfl⟩) (fun _ _ _ _ _ h => h)
  case F =>
    intro w mg fa h KX G hmg
    refine' Toy.all_mk KX G hmg ?a1 ?l1 ?c1 ?k1 ?lt1 ?a2 ?l2 ?c2 ?k2 ?a3 ?l3 ?c3 ?k3 ?a4 ?l4 ?c4 ?k4 ?z_len ?z_range ?z_isinstance ?z_sorted ?z_sum ?z_list ?z_str
    (case a1 => k_is)
    (case l1 => k_is)
    (case c1 => k_is)
    (case k1 => k_is)
    (case lt1 => k_is)
    (case a2 => k_is)
    (case l2 => k_is)
    (case c2 => k_is)
    (case k2 => k_is)
    (case a3 => k_is)
    (case l3 => k_is)
    (case c3 => k_is)
    (case k3 => k_is)
    (case a4 => k_is)
    (case l4 => k_is)
    (case c4 => k_is)
    (case k4 => k_is)
    (case z_len => k_is)
    (case z_range => k_is)
    (case z_isinstance => k_is)
    (case z_sorted => k_is)
    (case z_sum => k_is)
    (case z_list => k_is)
    (case z_str => k_is)
