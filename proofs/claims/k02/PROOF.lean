import PyProof.Rows.All
import Wide.All
import OpenK.AllK
import Wide.FinOn
import HandS.ForMost
import HandS.Wide
import HandS.WideBits
import HandS.Defaults
import HandS.IsInst
import HandS.Style
import HandS.Flow
import PySem.Challenge.RW_eitherslack_k02_sums_and_products
set_option Elab.async false
set_option linter.all false
set_option maxRecDepth 100000
namespace Fr
theorem gcd_step (a b : Int) : Int.gcd b (a.fmod b) = Int.gcd a b := by
  rw [Int.fmod_def, Int.gcd_sub_mul_left_right, Int.gcd_comm]
theorem fmod_lt (a : Int) {b : Int} (h : b ≠ 0) : (a.fmod b).natAbs < b.natAbs := by
  rcases Int.lt_or_gt_of_ne h with hb | hb
  · have e : a.fmod b = -((-a).fmod (-b)) := by rw [Int.neg_fmod_neg]; simp
    have h1 := Int.fmod_lt_of_pos (-a) (b := -b) (by omega)
    have h2 := Int.fmod_nonneg_of_pos (-a) (b := -b) (by omega)
    omega
  · have h1 := Int.fmod_lt_of_pos a hb
    have h2 := Int.fmod_nonneg_of_pos a hb
    omega
/-- a fraction in lowest terms -/
structure Ok (f : Int × Int) : Prop where
  pos : 0 < f.2
  cop : Int.gcd f.1 f.2 = 1
def g (a b : Int) : Int := (Int.gcd a b : Int)
theorem g_pos {t b : Int} (h : 0 < b) : 0 < g t b := by
  unfold g
  have := Int.gcd_pos_of_ne_zero_right t (b := b) (by omega)
  omega
def low (t b : Int) : Int × Int := (t / g t b, b / g t b)
theorem g_l (t b : Int) : t / g t b * g t b = t := Int.ediv_mul_cancel (Int.gcd_dvd_left t b)
theorem g_r (t b : Int) : b / g t b * g t b = b := Int.ediv_mul_cancel (Int.gcd_dvd_right t b)
theorem low_ok {t b : Int} (h : 0 < b) : Ok (low t b) := by
  have hg := g_pos (t := t) h
  refine ⟨?_, ?_⟩
  · show 0 < b / g t b
    have := g_r t b
    rcases Int.lt_or_le 0 (b / g t b) with z | z
    · exact z
    · have : b / g t b * g t b ≤ 0 := Int.mul_nonpos_of_nonpos_of_nonneg z (by omega)
      omega
  · show Int.gcd (t / g t b) (b / g t b) = 1
    unfold g at hg ⊢
    exact Int.gcd_ediv_gcd_ediv_gcd (by omega)
theorem low_val (t b : Int) : (low t b).1 * b = t * (low t b).2 := by
  show t / g t b * b = t * (b / g t b)
  have h1 := g_l t b
  have h2 := g_r t b
  generalize t / g t b = x at *
  generalize b / g t b = y at *
  generalize g t b = z at *
  subst h1 h2
  grind
/-- one of two in lowest terms divides the other -/
theorem same {f h : Int × Int} (F : Ok f) (G : Ok h) (e : f.1 * h.2 = h.1 * f.2) : f = h := by
  have key : ∀ {f h : Int × Int}, Ok f → f.1 * h.2 = h.1 * f.2 → f.2 ∣ h.2 := fun {f h} F e => by
    have d : f.2.natAbs ∣ f.1.natAbs * h.2.natAbs := by
      rw [← Int.natAbs_mul, e, Int.natAbs_mul]
      exact Nat.dvd_mul_left _ _
    have c : Nat.Coprime f.2.natAbs f.1.natAbs := Nat.Coprime.symm F.cop
    exact Int.natAbs_dvd_natAbs.mp (c.dvd_of_dvd_mul_left d)
  have d1 := key F e
  have d2 := key G e.symm
  have p1 := F.pos
  have p2 := G.pos
  have e2 : f.2 = h.2 := Int.dvd_antisymm (by omega) (by omega) d1 d2
  have e1 : f.1 = h.1 := by
    rw [e2] at e
    exact Int.eq_of_mul_eq_mul_right (by omega) e
  exact Prod.ext e1 e2
theorem eq_low {f : Int × Int} {t b : Int} (F : Ok f) (hb : 0 < b) (e : f.1 * b = t * f.2) : f = low t b := by
  refine same F (low_ok hb) ?_
  have v := low_val t b
  have G := low_ok (t := t) hb
  generalize low t b = l at *
  -- f.1 * l.2 = l.1 * f.2; times b
  refine Int.eq_of_mul_eq_mul_right (a := b) (by omega) ?_
  have : f.1 * l.2 * b = f.1 * b * l.2 := by grind
  rw [this, e]
  have : l.1 * f.2 * b = l.1 * b * f.2 := by grind
  rw [this, v]
  grind
theorem low_self {f : Int × Int} (F : Ok f) : low f.1 f.2 = f := (eq_low F F.pos rfl).symm
def plus (f h : Int × Int) : Int × Int := low (f.1 * h.2 + h.1 * f.2) (f.2 * h.2)
def mul (f h : Int × Int) : Int × Int := low (f.1 * h.1) (f.2 * h.2)
def prod2 (f h : Int × Int) : Int × Int := ((low f.1 h.2).1 * (low h.1 f.2).1, (low f.1 h.2).2 * (low h.1 f.2).2)
theorem cop_of {a b x y : Int} (h : Int.gcd a b = 1) (hx : x ∣ a) (hy : y ∣ b) : Int.gcd x y = 1 :=
  Nat.Coprime.coprime_dvd_left (Int.natAbs_dvd_natAbs.mpr hx) (Nat.Coprime.coprime_dvd_right (Int.natAbs_dvd_natAbs.mpr hy) h)
theorem cop_mul_l {a b c : Int} (h1 : Int.gcd a c = 1) (h2 : Int.gcd b c = 1) : Int.gcd (a * b) c = 1 := by
  show Nat.gcd _ _ = 1
  rw [Int.natAbs_mul]
  exact Nat.Coprime.mul_left h1 h2
theorem cop_mul_r {a b c : Int} (h1 : Int.gcd c a = 1) (h2 : Int.gcd c b = 1) : Int.gcd c (a * b) = 1 := by
  show Nat.gcd _ _ = 1
  rw [Int.natAbs_mul]
  exact Nat.Coprime.mul_right h1 h2
theorem low_dl (t b : Int) : (low t b).1 ∣ t := ⟨g t b, (g_l t b).symm⟩
theorem low_dr (t b : Int) : (low t b).2 ∣ b := ⟨g t b, (g_r t b).symm⟩
theorem prod2_eq {f h : Int × Int} (F : Ok f) (G : Ok h) : prod2 f h = mul f h := by
  have A := low_ok (t := f.1) G.pos
  have B := low_ok (t := h.1) F.pos
  have va := low_val f.1 h.2
  have vb := low_val h.1 f.2
  refine eq_low ⟨Int.mul_pos A.pos B.pos, ?_⟩ (Int.mul_pos F.pos G.pos) ?_
  · show Int.gcd ((low f.1 h.2).1 * (low h.1 f.2).1) ((low f.1 h.2).2 * (low h.1 f.2).2) = 1
    refine cop_mul_l (cop_mul_r A.cop ?_) (cop_mul_r ?_ B.cop)
    · exact cop_of F.cop (low_dl _ _) (low_dr _ _)
    · exact cop_of G.cop (low_dl _ _) (low_dr _ _)
  · show (low f.1 h.2).1 * (low h.1 f.2).1 * (f.2 * h.2) = f.1 * h.1 * ((low f.1 h.2).2 * (low h.1 f.2).2)
    generalize low f.1 h.2 = x at *
    generalize low h.1 f.2 = y at *
    have e1 : x.1 * y.1 * (f.2 * h.2) = (x.1 * h.2) * (y.1 * f.2) := by grind
    rw [e1, va, vb]
    grind
/-- the program's sum of two -/
def stop (f h : Int × Int) : Int := f.1 * (h.2 / g f.2 h.2) + h.1 * (f.2 / g f.2 h.2)
def sum2 (f h : Int × Int) : Int × Int := (stop f h / g (stop f h) (g f.2 h.2), f.2 / g f.2 h.2 * (h.2 / g (stop f h) (g f.2 h.2)))
theorem sum2_eq {f h : Int × Int} (F : Ok f) (G : Ok h) : sum2 f h = plus f h := by
  have pf := F.pos
  have ph := G.pos
  have dp : 0 < g f.2 h.2 := g_pos ph
  have hu := g_l f.2 h.2
  have hv := g_r f.2 h.2
  have huv : Int.gcd (f.2 / g f.2 h.2) (h.2 / g f.2 h.2) = 1 := (low_ok (t := f.2) ph).cop
  have ep : 0 < g (stop f h) (g f.2 h.2) := g_pos dp
  have hT := g_l (stop f h) (g f.2 h.2)
  have hD := g_r (stop f h) (g f.2 h.2)
  have hTD : Int.gcd (stop f h / g (stop f h) (g f.2 h.2)) (g f.2 h.2 / g (stop f h) (g f.2 h.2)) = 1 := (low_ok (t := stop f h) dp).cop
  have htop : stop f h = f.1 * (h.2 / g f.2 h.2) + h.1 * (f.2 / g f.2 h.2) := rfl
  have cu : Int.gcd f.1 (f.2 / g f.2 h.2) = 1 := cop_of F.cop (Int.dvd_refl _) ⟨_, hu.symm⟩
  have cv : Int.gcd h.1 (h.2 / g f.2 h.2) = 1 := cop_of G.cop (Int.dvd_refl _) ⟨_, hv.symm⟩
  have hw : h.2 / g (stop f h) (g f.2 h.2) = g f.2 h.2 / g (stop f h) (g f.2 h.2) * (h.2 / g f.2 h.2) := by
    refine Int.ediv_eq_of_eq_mul_right (by omega) ?_
    have z : g (stop f h) (g f.2 h.2) * (g f.2 h.2 / g (stop f h) (g f.2 h.2) * (h.2 / g f.2 h.2)) = (g f.2 h.2 / g (stop f h) (g f.2 h.2) * g (stop f h) (g f.2 h.2)) * (h.2 / g f.2 h.2) := by grind
    rw [z, hD, Int.mul_comm, hv]
  unfold sum2
  rw [hw]
  generalize stop f h = top at *
  generalize g top (g f.2 h.2) = e at *
  generalize top / e = T at *
  generalize g f.2 h.2 / e = D at *
  generalize f.2 / g f.2 h.2 = u at *
  generalize h.2 / g f.2 h.2 = v at *
  generalize g f.2 h.2 = d at *
  have up : 0 < u := by
    rcases Int.lt_or_le 0 u with z | z
    · exact z
    · have : u * d ≤ 0 := Int.mul_nonpos_of_nonpos_of_nonneg z (by omega)
      omega
  have vp : 0 < v := by
    rcases Int.lt_or_le 0 v with z | z
    · exact z
    · have : v * d ≤ 0 := Int.mul_nonpos_of_nonpos_of_nonneg z (by omega)
      omega
  have Dp : 0 < D := by
    rcases Int.lt_or_le 0 D with z | z
    · exact z
    · have : D * e ≤ 0 := Int.mul_nonpos_of_nonpos_of_nonneg z (by omega)
      omega
  have dT : T ∣ top := ⟨e, hT.symm⟩
  have ctu : Int.gcd top u = 1 := by
    rw [htop, Int.gcd_comm, Int.mul_comm h.1 u, Int.gcd_add_mul_left_right]
    refine cop_mul_r ?_ huv
    rw [Int.gcd_comm]; exact cu
  have ctv : Int.gcd top v = 1 := by
    rw [htop, Int.gcd_comm, Int.add_comm, Int.mul_comm f.1 v, Int.gcd_add_mul_left_right]
    refine cop_mul_r ?_ ?_
    · rw [Int.gcd_comm]; exact cv
    · rw [Int.gcd_comm]; exact huv
  refine eq_low ⟨Int.mul_pos up (Int.mul_pos Dp vp), ?_⟩ (Int.mul_pos pf ph) ?_
  · show Int.gcd T (u * (D * v)) = 1
    exact cop_mul_r (cop_of ctu dT (Int.dvd_refl _)) (cop_mul_r hTD (cop_of ctv dT (Int.dvd_refl _)))
  · show T * (f.2 * h.2) = (f.1 * h.2 + h.1 * f.2) * (u * (D * v))
    have e1 : (f.1 * h.2 + h.1 * f.2) = d * top := by
      rw [htop, ← hu, ← hv]
      grind
    rw [e1, ← hu, ← hv, ← hT, ← hD]
    grind
end Fr
namespace Cc
open PySem L2
/-! ### a def that is called: its promise, its name, how it binds -/
structure Cal (P : Program) (w : World) (K : PySem.W.Frag) (mg : Str → Option Value) (base : Heap) (lv : Nat) (x : Str) (ps : List Str) (sp : Sp) : Prop where
  ex : ∃ (f : Addr) (fd : FuncData), FnOk P w K mg base CX0 lv f fd ps sp ∧ mg x = some (.ref f) ∧ PySem.W.keepIn K (.ref f) = true ∧ Binds K fd ps []
/-- the same, by keywords alone -/
structure CalK (P : Program) (w : World) (K : PySem.W.Frag) (mg : Str → Option Value) (base : Heap) (lv : Nat) (x : Str) (ps : List Str) (sp : Sp) (n : Nat) (ks : List Str) (gV : List V → List V → List V) : Prop where
  ex : ∃ (f : Addr) (fd : FuncData) (g : List Value → List Value → List Value), FnOk P w K mg base CX0 lv f fd ps sp ∧ mg x = some (.ref f) ∧ PySem.W.keepIn K (.ref f) = true ∧ KBn K fd ps n ks g gV
section
variable {X : Cx} {k lv : Nat} {ps ks : List Str} {sp : Sp} {x : Str} {p pos : Pos} {e : Expr} {es : List Expr} {kws : List Keyword} {t tk : TA} {n : Nat} {gV : List V → List V → List V}
theorem pe_cal (C : Cal X.prog X.w X.K X.mg X.base lv x ps sp) (hr : Room k X.A) (hg : Gl X x) (ha : PA X (e :: es) t) (hle : lv ≤ k := by decide)
    (hdb : (x == ("__debug__" : Str)) = false := by decide) (he : starEach (e :: es) X.env = (false, eval e X.env) :: starEach es X.env := by rfl) (hpl : (backTo pos (starEach es X.env)).any (·.1) = false := by rfl) :
    PE X (.Call (.Name x p) (e :: es) [] pos) (tCall sp [] E0 t) := by
  obtain ⟨f, fd, F, hm, hk, hb⟩ := C.ex
  exact pe_call F (hr.mono hle) hg hm hk hb .nil pass0 ha hdb he hpl
theorem pe_cal0 (C : Cal X.prog X.w X.K X.mg X.base lv x ps sp) (hr : Room k X.A) (hg : Gl X x) (hle : lv ≤ k := by decide)
    (hdb : (x == ("__debug__" : Str)) = false := by decide) :
    PE X (.Call (.Name x p) [] [] pos) (tCall sp [] E0 tNil) := by
  obtain ⟨f, fd, F, hm, hk, hb⟩ := C.ex
  exact pe_call0 F (hr.mono hle) hg hm hk hb .nil pass0 hdb
theorem pe_calK0 (C : CalK X.prog X.w X.K X.mg X.base lv x ps sp 0 ks gV) (hr : Room k X.A) (hg : Gl X x) (hkw : PK X kws tk) (hle : lv ≤ k := by decide)
    (hall : (backToKw pos (keywordEach kws X.env)).all (·.1.isSome) = true := by rfl) (hks : (backToKw pos (keywordEach kws X.env)).filterMap (·.1) = ks := by rfl)
    (hdb : (x == ("__debug__" : Str)) = false := by decide)
    (hpl : ((backTo pos (starEach [] X.env)).any (·.1) || (backToKw pos (keywordEach kws X.env)).any (·.1.isNone)) = false := by rfl) :
    PE X (.Call (.Name x p) [] kws pos) (tCallN 0 ks.length sp gV E0 tNil tk) := by
  obtain ⟨f, fd, g, F, hm, hk, hb⟩ := C.ex
  refine ⟨fun pins s σ H Q I h => ?_⟩
  refine wpAny_Call_Name_kw (ld_glob I hg hm ?_ hdb)
  refine PySem.W.callWith_KW0 (h₀ := X.base) I.ok.mod.kin hk hall ?_ hpl
  have h : tk σ H fun zs H2 => ([] : List V).length = 0 ∧ zs.length = ks.length ∧ sp (gV [] zs) H2 Q E0 := h
  refine thn (hkw.run pos pins s σ H _ I h) fun ws s2 ⟨zs, H2, I2, rz, l1, l2, q2⟩ => ⟨I2.kIn, ?_⟩
  rw [hks]
  exact run_fnN F (hr.mono hle) hb pass0 I2 .nil rz l1 l2 q2
theorem pe_calK (C : CalK X.prog X.w X.K X.mg X.base lv x ps sp n ks gV) (hr : Room k X.A) (hg : Gl X x) (ha : PA X (e :: es) t) (hkw : PK X kws tk) (hle : lv ≤ k := by decide)
    (hall : (backToKw pos (keywordEach kws X.env)).all (·.1.isSome) = true := by rfl) (hks : (backToKw pos (keywordEach kws X.env)).filterMap (·.1) = ks := by rfl)
    (hdb : (x == ("__debug__" : Str)) = false := by decide) (he : starEach (e :: es) X.env = (false, eval e X.env) :: starEach es X.env := by rfl)
    (hpl : ((backTo pos (starEach (e :: es) X.env)).any (·.1) || (backToKw pos (keywordEach kws X.env)).any (·.1.isNone)) = false := by rfl) :
    PE X (.Call (.Name x p) (e :: es) kws pos) (tCallN n ks.length sp gV E0 t tk) := by
  obtain ⟨f, fd, g, F, hm, hk, hb⟩ := C.ex
  exact pe_callN F (hr.mono hle) hg hm hk hb pass0 ha hkw hall hks hdb he hpl
end
/-! ### heaps -/
/-- all but what stands at p is as it was -/
def Kp (p : Addr) (H H' : Hp) : Prop := ∀ b o, b ≠ p → H b = some o → H' b = some o
theorem Kp.of {p : Addr} {H H' : Hp} (s : Same H H') : Kp p H H' := fun b o _ e => s b o e
theorem Kp.trans {p : Addr} {H H1 H2 : Hp} (a : Kp p H H1) (b : Kp p H1 H2) : Kp p H H2 := fun c o n h => b c o n (a c o n h)
theorem same_upd {H : Hp} {p : Addr} {o : HO} (h : H p = none) : Same H (upd H p o) := fun b x e => by
  rw [upd_ne (ne_of_none e h)]
  exact e
theorem same_mut {H H' : Hp} {p : Addr} {o : HO} (s : Same H H') (h : H p = none) : Same H (upd H' p o) := fun b x e => by
  rw [upd_ne (ne_of_none e h)]
  exact s b x e
theorem kp_upd {H : Hp} {p : Addr} {o : HO} : Kp p H (upd H p o) := fun b x n e => by
  rw [upd_ne n]
  exact e
theorem Kp.new {p q : Addr} {H H' : Hp} {o : HO} (k : Kp p H H') (h : H' q = none) : Kp p H (upd H' q o) := fun b x n e => by
  rw [upd_ne (ne_of_none (k b x n e) h)]
  exact k b x n e
theorem Kp.free {p q : Addr} {H H' : Hp} (k : Kp p H H') (h : H' q = none) (n : q ≠ p) : H q = none := by
  cases z : H q with
  | none => rfl
  | some o =>
    rw [k q o n z] at h
    cases h
theorem Kp.seq {K : PySem.W.Frag} {p a : Addr} {H H' : Hp} {xs : List V} (k : Kp p H H') (n : a ≠ p) (h : SqL K H a xs) : SqL K H' a xs := by
  rcases h with (h | ⟨o, h⟩) | h
  · exact .inl (.inl (k _ _ n h))
  · exact .inl (.inr ⟨o, k _ _ n h⟩)
  · exact .inr h
end Cc
namespace Toy
open PySem L2 Cc
def top (i : Nat) : Stmt := PySem.Challenge.pw_eitherslack_k02_sums_and_products.main.body.getD i (.Pass ⟨0, 0, 0, 0⟩)
abbrev RW0 : Program := PySem.Challenge.pw_eitherslack_k02_sums_and_products
structure Txt (mg : Str → Option Value) : Prop where
  abs : mg "abs" = none
  len : mg "len" = none
  range : mg "range" = none
  isinstance : mg "isinstance" = none
  int_ : mg "int" = none
  list_ : mg "list" = none
  bool_ : mg "bool" = none
  tuple_ : mg "tuple" = none
  k_PLAIN_BITS : ∃ tk, mg "PLAIN_BITS" = some (.int (6000) tk)
/-- a fraction stands at a -/
abbrev Fra (H : Hp) (a : Addr) (f : Int × Int) : Prop := H a = some (.tup [.int f.1, .int f.2])
/-- a pile: three ints -/
def Pile (H : Hp) (p : Addr) : Prop := ∃ x y z : Int, H p = some (.lst [.int x, .int y, .int z])
section
variable {P : Program} {w : World} {K : PySem.W.Frag} {mg : Str → Option Value} {base : Heap}
/-! ### common_divisor -/
def spCd : Sp := fun vs H Q _ => ∃ a b : Int, vs = [.int a, .int b] ∧ Q (.int (Fr.g a b)) H
/-- the program's: of numbers of at most 6000 bits -/
def spCdB : Sp := fun vs H Q _ => ∃ a b : Int, vs = [.int a, .int b] ∧ b.natAbs < 2 ^ 6000 ∧ Q (.int (Fr.g a b)) H
theorem abs_gcd (a b : Int) : Int.gcd (if a < 0 then -a else a) (if b < 0 then -b else b) = Int.gcd a b := by
  split <;> split <;> simp only [Int.neg_gcd, Int.gcd_neg]
abbrev s_common_divisor : Stmt := top 5
theorem sc_common_divisor : FnScope ["one", "other"] ["one", "other"] (defScope s_common_divisor) := ⟨rfl, rfl, rfl, by decide +kernel, rfl, by decide +kernel, by decide +kernel⟩
theorem ok_cd {f : Addr} {fd : FuncData} {k : Nat} (F : Fun K "common_divisor" "common_divisor" s_common_divisor f fd) (T : Txt mg) : FnOk P w K mg base CX0 (k + 1) f fd ["one", "other"] spCdB := by
  obtain ⟨tkb, plb⟩ := T.k_PLAIN_BITS
  refine F.ok sc_common_divisor (fun vs H Q E h => ?_) (fun cdv A outer s H vs Q E hr h => ?_)
  · obtain ⟨a, b, rfl, _⟩ := h
    rfl
  · obtain ⟨a, b, rfl, hb, q⟩ := h
    refine ⟨_, (pss_cons (ps_par (i := 0) (j := 1) (by rfl) sc_common_divisor.nd rfl rfl (by decide) rfl rfl (pa_cons (pe_callB call_abs (by rfl) T.abs (by decide +kernel) (pa_cons (pv 0) pa_nil)) (pa_cons (pe_callB call_abs (by rfl) T.abs (by decide +kernel) (pa_cons (pv 1) pa_nil)) pa_nil)) (by rfl))
      (pss_cons (ps_while PassesOwn.never (pt_cmpR op_gt (pe_bits (pv 1)) (pe_glob (v := .int 6000) (by rfl) plb ⟨_, rfl⟩) (nomark _))
        (pss_one ps_never))
      (pss_cons (ps_while PassesOwn.never (pt_cmpR op_ne (pv 1) pe_int (nomark _))
        (pss_one (ps_par (i := 0) (j := 1) (by rfl) sc_common_divisor.nd rfl rfl (by decide) rfl rfl (pa_cons (pv 1) (pa_cons (pe_op op_modN (pv 0) (pv 1)) pa_nil)) (by rfl))))
      (pss_one (ps_ret (pv 0)))))), ?_⟩
    refine ⟨_, rfl, a, rfl, _, rfl, b, rfl, _, _, rfl, ?_⟩
    have a0 : 0 ≤ (if a < 0 then -a else a) := by split <;> omega
    have b0 : 0 ≤ (if b < 0 then -b else b) := by split <;> omega
    have b1 : (if b < 0 then -b else b).natAbs < 2 ^ 6000 := by
      rw [show (if b < 0 then -b else b).natAbs = b.natAbs by split <;> omega]
      exact hb
    have e0 := abs_gcd a b
    generalize (if a < 0 then -a else a) = a' at a0 e0 ⊢
    generalize (if b < 0 then -b else b) = b' at b0 b1 e0 ⊢
    refine while_by (fun σ H' => H' = H ∧ σ = [some (.int a'), some (.int b')]) (fun _ _ => 0) ⟨rfl, rfl⟩ ?_ ?_
    · rintro σ H' ⟨rfl, rfl⟩
      refine ⟨_, rfl, b', rfl, _, _, rfl, rfl, _, rfl, ite2 (fun z => ?_) (fun z => ?_)⟩
      · have z1 : (6000 : Int) < (Builtin.Int.intBits b' : Int) := of_decide_eq_true z
        have z2 := PyProof.Rows.intBits_le b1
        omega
      refine while_by (fun σ H2 => H2 = H' ∧ ∃ x y : Int, σ = [some (.int x), some (.int y)] ∧ Int.gcd x y = Int.gcd a b ∧ 0 ≤ x ∧ 0 ≤ y) (fun σ _ => match σ with | [_, some (.int y)] => y.natAbs | _ => 0) ⟨rfl, a', b', rfl, e0, a0, b0⟩ ?_ ?_
      · rintro σ H2 ⟨rfl, x, y, rfl, e, x0, yn⟩
        refine ⟨_, rfl, rfl, _, rfl, ite2 (fun z => ?_) (fun z => ?_)⟩
        · have y0 : y ≠ 0 := fun h0 => by
            subst h0
            exact absurd z (by decide)
          refine ⟨_, rfl, _, rfl, _, rfl, _, _, rfl, rfl, y0, _, _, rfl, ⟨rfl, y, x.fmod y, rfl, ?_, yn, Int.fmod_nonneg_of_pos x (by omega)⟩, ?_⟩
          · rw [Fr.gcd_step, e]
          · exact Fr.fmod_lt x y0
        · have y0 : y = 0 := by
            have z1 : (!decide (V.int y = V.int 0)) = false := by simpa using z
            have z2 : decide (V.int y = V.int 0) = true := by simpa using z1
            exact V.int.inj (of_decide_eq_true z2)
          subst y0
          refine ⟨_, rfl, ?_⟩
          have e2 : x = Fr.g a b := by
            unfold Fr.g
            rw [← e, Int.gcd_zero_right]
            omega
          rw [e2]
          exact q
      · intro σ H' Q' Q'' hm ⟨v, hv, h1, k1, hk, h2⟩
        exact ⟨v, hv, h1, k1, hk, hm _ _ h2⟩
    · intro σ H' Q' Q'' hm ⟨v, hv, i, hi, j, k, e1, e2, bb, e3, h2⟩
      exact ⟨v, hv, i, hi, j, k, e1, e2, bb, e3, hm _ _ h2⟩
end
section
variable {P : Program} {w : World} {K : PySem.W.Frag} {mg : Str → Option Value} {base : Heap}
abbrev Big (x : Int) : Prop := x.natAbs < 2 ^ 4000
theorem g_le {t b : Int} (h : 0 < b) : (Fr.g t b).natAbs ≤ b.natAbs := by
  have h1 := Fr.g_pos (t := t) h
  have h2 : Fr.g t b ∣ b := Int.gcd_dvd_right t b
  exact Nat.le_of_dvd (by omega) (Int.natAbs_dvd_natAbs.mpr h2)
theorem g_le' {t b : Int} {n : Nat} (h : 0 < b) (hb : b.natAbs < 2 ^ n) : (Fr.g t b).natAbs < 2 ^ n := Nat.lt_of_le_of_lt (g_le h) hb
theorem dv_le {x y : Int} {n : Nat} (hx : x.natAbs < 2 ^ n) : (x / y).natAbs < 2 ^ n := Nat.lt_of_le_of_lt (Int.natAbs_ediv_le_natAbs x y) hx
theorem cdiv {i j : Int} {b : Nat} (h : 0 < j) (hb : j.natAbs < 2 ^ b) (h0 : 0 < b := by decide) (h9 : b ≤ 9000 := by decide) : CDivW i j := wide_div h hb h0 h9
theorem big6 {x : Int} (h : Big x) : x.natAbs < 2 ^ 6000 := Nat.lt_of_lt_of_le h (Nat.pow_le_pow_right (by decide) (by decide))
/-! ### lowest -/
def spLowB : Sp := fun vs H Q _ => ∃ t b : Int, vs = [.int t, .int b] ∧ 0 < b ∧ b.natAbs < 2 ^ 6000 ∧ ∀ p, H p = none → Q (.ref p) (upd H p (.tup [.int (Fr.low t b).1, .int (Fr.low t b).2]))
def spLow : Sp := fun vs H Q _ => ∃ t b : Int, vs = [.int t, .int b] ∧ 0 < b ∧ b.natAbs < 2 ^ 8000 ∧ ∀ p, H p = none → Q (.ref p) (upd H p (.tup [.int (Fr.low t b).1, .int (Fr.low t b).2]))
abbrev s_lowest : Stmt := top 10
theorem sc_lowest : FnScope ["top", "bottom", "divisor"] ["top", "bottom"] (defScope s_lowest) := ⟨rfl, rfl, rfl, by decide +kernel, rfl, by decide +kernel, by decide +kernel⟩
theorem ok_low {f : Addr} {fd : FuncData} {k : Nat} {dvs : List V} (F : FunD K "lowest" "lowest" (defArgs s_lowest) (defBody s_lowest) (defScope s_lowest) dvs [] f fd) (c_common_divisor : Cal P w K mg base 1 "common_divisor" ["one", "other"] spCdB) : FnOk P w K mg base CX0 (k + 1 + 1) f fd ["top", "bottom"] spLowB := by
  refine F.ok sc_lowest (fun vs H Q E h => ?_) (fun cdv A outer s H vs Q E hr h => ?_)
  · obtain ⟨a, b, rfl, _⟩ := h
    rfl
  · obtain ⟨t, b, rfl, hb, hB, q⟩ := h
    have hr : Room 1 _ := hr.mono (Nat.le_add_left 1 k)
    refine ⟨_, PSs.nox (pss_cons (ps_if (pt_cmpR op_eq (pv 1) pe_int (nomark _))
        (pss_one ps_never)
        pss_nil)
      (pss_cons (ps_set (i := 2) sc_lowest.nd rfl (Or.inl rfl) (pe_cal c_common_divisor hr (by rfl) (pa_cons (pv 0) (pa_cons (pv 1) pa_nil))))
      (pss_cons (ps_if (pt_cmpR op_lt (pv 1) pe_int (nomark _))
        (pss_one (ps_set (i := 2) sc_lowest.nd rfl (Or.inl rfl) (pe_un un_neg (pv 2))))
        pss_nil)
      (pss_one (ps_ret (pe_tup (pa_cons (pe_op op_fdivW (pv 0) (pv 2)) (pa_cons (pe_op op_fdivW (pv 1) (pv 2)) pa_nil)))))))), ?_⟩
    refine ⟨_, rfl, rfl, _, rfl, ite2 (fun z => ?_) (fun z => ?_)⟩
    · have : b = 0 := V.int.inj (of_decide_eq_true z)
      omega
    · refine ⟨_, rfl, _, rfl, t, b, rfl, hB, ?_⟩
      refine ⟨_, rfl, _, _, rfl, rfl, _, rfl, ite2 (fun z => ?_) (fun z => ?_)⟩
      · have := of_decide_eq_true z
        omega
      · have d := Fr.g_pos (t := t) hb
        have d2 := g_le' (t := t) hb hB
        refine ⟨_, rfl, _, rfl, _, _, rfl, rfl, cdiv d d2, ?_⟩
        refine ⟨_, rfl, _, rfl, _, _, rfl, rfl, cdiv d d2, ?_⟩
        exact ⟨by show 2 ≤ sizeLine; decide, fun p hp => q p hp⟩
/-! ### sum_of_two -/
def spS2 : Sp := fun vs H Q _ => ∃ (a c : Addr) (f h : Int × Int), vs = [.ref a, .ref c] ∧ Fra H a f ∧ Fra H c h ∧ Fr.Ok f ∧ Fr.Ok h ∧ Big f.1 ∧ Big f.2 ∧ Big h.1 ∧ Big h.2 ∧
  ∀ p, H p = none → Q (.ref p) (upd H p (.tup [.int (Fr.plus f h).1, .int (Fr.plus f h).2]))
abbrev s_sum_of_two : Stmt := top 11
theorem sc_sum_of_two : FnScope ["one", "other", "one_top", "one_bottom", "other_top", "other_bottom", "common", "one_part", "top", "divisor"] ["one", "other"] (defScope s_sum_of_two) := ⟨rfl, rfl, rfl, by decide +kernel, rfl, by decide +kernel, by decide +kernel⟩
theorem ok_s2 {f : Addr} {fd : FuncData} {k : Nat} (F : Fun K "sum_of_two" "sum_of_two" s_sum_of_two f fd) (c_common_divisor : Cal P w K mg base 1 "common_divisor" ["one", "other"] spCdB) : FnOk P w K mg base CX0 (k + 1 + 1) f fd ["one", "other"] spS2 := by
  refine F.ok sc_sum_of_two (fun vs H Q E h => ?_) (fun cdv A outer s H vs Q E hr h => ?_)
  · obtain ⟨a, c, f, h, rfl, _⟩ := h
    rfl
  · obtain ⟨a, c, f, h, rfl, ha, hc, F, G, b1, b2, b3, b4, q⟩ := h
    have hr : Room 1 _ := hr.mono (Nat.le_add_left 1 k)
    refine ⟨_, (pss_cons (ps_asg (pv 0) (pg_tup rfl (pgs_cons (pg_name (i := 2) sc_sum_of_two.nd rfl (Or.inl rfl)) (pgs_cons (pg_name (i := 3) sc_sum_of_two.nd rfl (Or.inl rfl)) pgs_nil))))
      (pss_cons (ps_asg (pv 1) (pg_tup rfl (pgs_cons (pg_name (i := 4) sc_sum_of_two.nd rfl (Or.inl rfl)) (pgs_cons (pg_name (i := 5) sc_sum_of_two.nd rfl (Or.inl rfl)) pgs_nil))))
      (pss_cons (ps_set (i := 6) sc_sum_of_two.nd rfl (Or.inl rfl) (pe_cal c_common_divisor hr (by rfl) (pa_cons (pv 3) (pa_cons (pv 5) pa_nil))))
      (pss_cons (ps_set (i := 7) sc_sum_of_two.nd rfl (Or.inl rfl) (pe_op op_fdivW (pv 3) (pv 6)))
      (pss_cons (ps_set (i := 8) sc_sum_of_two.nd rfl (Or.inl rfl) (pe_op op_add (pe_op op_mulW (pv 2) (pe_op op_fdivW (pv 5) (pv 6))) (pe_op op_mulW (pv 4) (pv 7))))
      (pss_cons (ps_set (i := 9) sc_sum_of_two.nd rfl (Or.inl rfl) (pe_cal c_common_divisor hr (by rfl) (pa_cons (pv 8) (pa_cons (pv 6) pa_nil))))
      (pss_one (ps_ret (pe_tup (pa_cons (pe_op op_fdivW (pv 8) (pv 9)) (pa_cons (pe_op op_mulW (pv 7) (pe_op op_fdivW (pv 5) (pv 9))) pa_nil))))))))))), ?_⟩
    have pf := F.pos
    have ph := G.pos
    have dp : 0 < Fr.g f.2 h.2 := Fr.g_pos ph
    have db := g_le' (t := f.2) ph b4
    have ep : 0 < Fr.g (Fr.stop f h) (Fr.g f.2 h.2) := Fr.g_pos dp
    have eb := g_le' (t := Fr.stop f h) dp db
    refine ⟨_, rfl, a, _, rfl, .inl (.inl ha), rfl, _, _, rfl, _, _, rfl, rfl, ?_⟩
    refine ⟨_, rfl, c, _, rfl, .inl (.inl hc), rfl, _, _, rfl, _, _, rfl, rfl, ?_⟩
    refine ⟨_, rfl, _, rfl, f.2, h.2, rfl, big6 b4, ?_⟩
    refine ⟨_, rfl, _, rfl, _, _, rfl, rfl, cdiv dp db, ?_⟩
    refine ⟨_, rfl, _, rfl, _, rfl, _, _, rfl, rfl, cdiv dp db, _, _, rfl, rfl, wide_mul b1 (dv_le b4) (by decide) (by decide) (by decide), _, rfl, _, rfl, _, _, rfl, rfl, wide_mul b3 (dv_le b2) (by decide) (by decide) (by decide), _, _, rfl, rfl, ?_⟩
    refine ⟨_, rfl, _, rfl, Fr.stop f h, Fr.g f.2 h.2, rfl, big6 db, ?_⟩
    refine ⟨_, rfl, _, rfl, _, _, rfl, rfl, cdiv ep eb, ?_⟩
    refine ⟨_, rfl, _, rfl, _, rfl, _, _, rfl, rfl, cdiv ep eb, _, _, rfl, rfl, wide_mul (dv_le b2) (dv_le b4) (by decide) (by decide) (by decide), ?_⟩
    refine ⟨by show 2 ≤ sizeLine; decide, fun p hp => ?_⟩
    have e := Fr.sum2_eq F G
    have q' := q p hp
    rw [← e] at q'
    exact q'
/-! ### total -/
/-- the addresses as hold the fractions fs -/
def Fras (H : Hp) : List Addr → List (Int × Int) → Prop
  | [], [] => True
  | a :: as, f :: fs => Fra H a f ∧ Fras H as fs
  | _, _ => False
theorem Fras.mono {H H' : Hp} : ∀ {as : List Addr} {fs : List (Int × Int)}, (∀ a f, a ∈ as → Fra H a f → Fra H' a f) → Fras H as fs → Fras H' as fs
  | [], [], _, _ => trivial
  | a :: as, f :: fs, k, h => ⟨k a f List.mem_cons_self h.1, Fras.mono (fun b g m => k b g (List.mem_cons_of_mem _ m)) h.2⟩
  | [], _ :: _, _, h => h.elim
  | _ :: _, [], _, h => h.elim
theorem Fras.same {H H' : Hp} (s : Same H H') {as : List Addr} {fs : List (Int × Int)} (h : Fras H as fs) : Fras H' as fs := h.mono fun a f _ e => s _ _ e
theorem Fras.len {H : Hp} : ∀ {as : List Addr} {fs : List (Int × Int)}, Fras H as fs → as.length = fs.length
  | [], [], _ => rfl
  | _ :: _, _ :: _, h => congrArg (· + 1) (Fras.len h.2)
  | [], _ :: _, h => h.elim
  | _ :: _, [], h => h.elim
theorem Fras.get {H : Hp} : ∀ {as : List Addr} {fs : List (Int × Int)} {i : Nat} {a : Addr}, Fras H as fs → as[i]? = some a → ∃ f, fs[i]? = some f ∧ Fra H a f
  | [], [], i, a, _, e => by simp at e
  | _ :: _, f :: _, 0, a, h, e => by
    have e : _ = a := Option.some.inj e
    subst e
    exact ⟨f, rfl, h.1⟩
  | _ :: _, _ :: _, i + 1, a, h, e => Fras.get (i := i) h.2 e
  | [], _ :: _, _, _, h, _ => h.elim
  | _ :: _, [], _, _, h, _ => h.elim
theorem Fras.app {H : Hp} : ∀ {as : List Addr} {fs : List (Int × Int)} {a : Addr} {f : Int × Int}, Fras H as fs → Fra H a f → Fras H (as ++ [a]) (fs ++ [f])
  | [], [], _, _, _, e => ⟨e, trivial⟩
  | _ :: _, _ :: _, _, _, h, e => ⟨h.1, Fras.app h.2 e⟩
  | [], _ :: _, _, _, h, _ => h.elim
  | _ :: _, [], _, _, h, _ => h.elim
def sumF (fs : List (Int × Int)) : Int × Int := fs.foldl Fr.plus (0, 1)
theorem ok01 : Fr.Ok (0, 1) := ⟨by decide, by decide⟩
theorem plus_ok {f h : Int × Int} (F : Fr.Ok f) (G : Fr.Ok h) : Fr.Ok (Fr.plus f h) := Fr.low_ok (Int.mul_pos F.pos G.pos)
theorem fold_ok : ∀ (fs : List (Int × Int)) (z : Int × Int), Fr.Ok z → (∀ f ∈ fs, Fr.Ok f) → Fr.Ok (fs.foldl Fr.plus z)
  | [], _, Z, _ => Z
  | f :: fs, z, Z, h => fold_ok fs _ (plus_ok Z (h f List.mem_cons_self)) fun g m => h g (List.mem_cons_of_mem _ m)
theorem sum_ok {fs : List (Int × Int)} (h : ∀ f ∈ fs, Fr.Ok f) : Fr.Ok (sumF fs) := fold_ok fs _ ok01 h
theorem sum_app (fs : List (Int × Int)) (f : Int × Int) : sumF (fs ++ [f]) = Fr.plus (sumF fs) f := by
  unfold sumF
  rw [List.foldl_append]
  rfl
theorem take_succ {α : Type} {l : List α} {i : Nat} {x : α} (h : l[i]? = some x) : l.take (i + 1) = l.take i ++ [x] := by
  rw [List.take_add_one, h]
  rfl
def spTot : Sp := fun vs H Q _ => ∃ (a : Addr) (as : List Addr) (fs : List (Int × Int)), vs = [.ref a] ∧ H a = some (.lst (as.map V.ref)) ∧ Fras H as fs ∧ (∀ f ∈ fs, Fr.Ok f ∧ Big f.1 ∧ Big f.2) ∧ (∀ i, Big (sumF (fs.take i)).1 ∧ Big (sumF (fs.take i)).2) ∧
  ∀ p H', Same H H' → H p = none → Fra H' p (sumF fs) → Q (.ref p) H'
abbrev s_total : Stmt := top 12
theorem sc_total : FnScope ["numbers", "result", "number"] ["numbers"] (defScope s_total) := ⟨rfl, rfl, rfl, by decide +kernel, rfl, by decide +kernel, by decide +kernel⟩
theorem ok_tot {f : Addr} {fd : FuncData} {k : Nat} (F : Fun K "total" "total" s_total f fd) (c_sum_of_two : Cal P w K mg base 2 "sum_of_two" ["one", "other"] spS2) : FnOk P w K mg base CX0 (k + 2 + 1) f fd ["numbers"] spTot := by
  refine F.ok sc_total (fun vs H Q E h => ?_) (fun cdv A outer s H vs Q E hr h => ?_)
  · obtain ⟨a, as, fs, rfl, _⟩ := h
    rfl
  · obtain ⟨a, as, fs, rfl, ha, hf, ho, hb, q⟩ := h
    have hr : Room 2 _ := hr.mono (Nat.le_add_left 2 k)
    refine ⟨_, (pss_cons (ps_set (i := 1) sc_total.nd rfl (Or.inl rfl) (pe_tup (pa_cons pe_int (pa_cons pe_int pa_nil))))
      (pss_cons (ps_for PassesOwn.never rfl (pi_list (pv 0)) (pg_name (i := 2) sc_total.nd rfl (Or.inl rfl))
        (pss_one (ps_set (i := 1) sc_total.nd rfl (Or.inl rfl) (pe_cal c_sum_of_two hr (by rfl) (pa_cons (pv 1) (pa_cons (pv 2) pa_nil))))))
      (pss_one (ps_ret (pv 1))))), ?_⟩
    refine ⟨by show 2 ≤ sizeLine; decide, fun r hr0 => ?_⟩
    have s1 : Same H (upd H r (.tup [.int 0, .int 1])) := same_upd hr0
    refine ⟨_, rfl, a, rfl, ⟨_, .inl (.inl (s1 _ _ ha))⟩, for_list (K := K) (a := a) (xs := as.map V.ref) (fun i σ H' => Same H H' ∧ ∃ (r : Addr) (v : Option V), σ = [some (.ref a), some (.ref r), v] ∧ H r = none ∧ Fra H' r (sumF (fs.take i)))
      ⟨s1, r, none, rfl, hr0, upd_same⟩ (fun i σ H' _ ⟨s', _⟩ => .inl (.inl (s' _ _ ha))) ?_ ?_⟩
    · rintro i x σ H' hi ⟨s', r, v, rfl, r0, hr'⟩
      rw [List.getElem?_map] at hi
      obtain ⟨b, hb1, hx⟩ := Option.map_eq_some_iff.mp hi
      subst hx
      obtain ⟨f, hf1, hf2⟩ := hf.get hb1
      have fm : f ∈ fs := List.mem_of_getElem? hf1
      have O := ho f fm
      have S := sum_ok (fs := fs.take i) fun g m => (ho g (List.mem_of_mem_take m)).1
      refine ⟨_, rfl, _, rfl, r, b, sumF (fs.take i), f, rfl, hr', s' _ _ hf2, S, O.1, (hb i).1, (hb i).2, O.2.1, O.2.2, fun p hp => ?_⟩
      refine ⟨same_mut s' (s'.free hp), p, _, rfl, s'.free hp, ?_⟩
      rw [take_succ hf1, sum_app]
      exact upd_same
    · rintro σ H' ⟨s', r, v, rfl, r0, hr'⟩
      refine ⟨_, rfl, q r H' s' r0 ?_⟩
      have e : fs.take (as.map V.ref).length = fs := List.take_of_length_le (by rw [List.length_map, hf.len]; exact Nat.le_refl _)
      rw [e] at hr'
      exact hr'
end
section
variable {P : Program} {w : World} {K : PySem.W.Frag} {mg : Str → Option Value} {base : Heap}
theorem at0 {α : Type} {x y : α} : atI [x, y] 0 = some x := rfl
theorem at1 {α : Type} {x y : α} : atI [x, y] 1 = some y := rfl
theorem cmul {i j : Int} {a b : Nat} (ha : i.natAbs < 2 ^ a) (hb : j.natAbs < 2 ^ b) (h0 : 0 < a := by decide) (h1 : 0 < b := by decide) (h : a + b ≤ 1000000 := by decide) : CMulW i j := wide_mul ha hb h0 h1 h
theorem big8 {x : Int} (h : Big x) : x.natAbs < 2 ^ 8000 := Nat.lt_of_lt_of_le h (Nat.pow_le_pow_right (by decide) (by decide))
theorem low_bl {t b : Int} {n : Nat} (h : t.natAbs < 2 ^ n) : (Fr.low t b).1.natAbs < 2 ^ n := dv_le h
theorem low_br {t b : Int} {n : Nat} (h : b.natAbs < 2 ^ n) : (Fr.low t b).2.natAbs < 2 ^ n := dv_le h
/-! ### product -/
def spPro : Sp := fun vs H Q _ => ∃ (a c : Addr) (f h : Int × Int), vs = [.ref a, .ref c] ∧ Fra H a f ∧ Fra H c h ∧ Fr.Ok f ∧ Fr.Ok h ∧ Big f.1 ∧ Big f.2 ∧ Big h.1 ∧ Big h.2 ∧
  ∀ p H', Same H H' → H p = none → Fra H' p (Fr.mul f h) → Q (.ref p) H'
abbrev s_product : Stmt := top 13
theorem sc_product : FnScope ["one", "other", "first_top", "first_bottom", "second_top", "second_bottom"] ["one", "other"] (defScope s_product) := ⟨rfl, rfl, rfl, by decide +kernel, rfl, by decide +kernel, by decide +kernel⟩
theorem ok_pro {f : Addr} {fd : FuncData} {k : Nat} (F : Fun K "product" "product" s_product f fd) (c_lowest : Cal P w K mg base 2 "lowest" ["top", "bottom"] spLowB) : FnOk P w K mg base CX0 (k + 2 + 1) f fd ["one", "other"] spPro := by
  refine F.ok sc_product (fun vs H Q E h => ?_) (fun cdv A outer s H vs Q E hr h => ?_)
  · obtain ⟨a, c, f, h, rfl, _⟩ := h
    rfl
  · obtain ⟨a, c, f, h, rfl, ha, hc, F, G, b1, b2, b3, b4, q⟩ := h
    have hr : Room 2 _ := hr.mono (Nat.le_add_left 2 k)
    refine ⟨_, (pss_cons (ps_asg (pe_cal c_lowest hr (by rfl) (pa_cons (pe_ix ix_tup (pv 0) pe_int (fun _ _ => rfl)) (pa_cons (pe_ix ix_tup (pv 1) pe_int (fun _ _ => rfl)) pa_nil))) (pg_tup rfl (pgs_cons (pg_name (i := 2) sc_product.nd rfl (Or.inl rfl)) (pgs_cons (pg_name (i := 3) sc_product.nd rfl (Or.inl rfl)) pgs_nil))))
      (pss_cons (ps_asg (pe_cal c_lowest hr (by rfl) (pa_cons (pe_ix ix_tup (pv 1) pe_int (fun _ _ => rfl)) (pa_cons (pe_ix ix_tup (pv 0) pe_int (fun _ _ => rfl)) pa_nil))) (pg_tup rfl (pgs_cons (pg_name (i := 4) sc_product.nd rfl (Or.inl rfl)) (pgs_cons (pg_name (i := 5) sc_product.nd rfl (Or.inl rfl)) pgs_nil))))
      (pss_one (ps_ret (pe_tup (pa_cons (pe_op op_mulW (pv 2) (pv 4)) (pa_cons (pe_op op_mulW (pv 3) (pv 5)) pa_nil))))))), ?_⟩
    refine ⟨_, rfl, a, _, _, _, rfl, rfl, .inl (.inl ha), at0, _, rfl, c, _, _, _, rfl, rfl, .inl (.inl hc), at1, f.1, h.2, rfl, G.pos, big6 b4, fun p1 n1 => ?_⟩
    have s1 := same_upd (o := .tup [.int (Fr.low f.1 h.2).1, .int (Fr.low f.1 h.2).2]) n1
    refine ⟨p1, _, rfl, .inl (.inl upd_same), rfl, _, _, rfl, _, _, rfl, rfl, ?_⟩
    refine ⟨_, rfl, c, _, _, _, rfl, rfl, .inl (.inl (s1 _ _ hc)), at0, _, rfl, a, _, _, _, rfl, rfl, .inl (.inl (s1 _ _ ha)), at1, h.1, f.2, rfl, F.pos, big6 b2, fun p2 n2 => ?_⟩
    have s2 := s1.trans (same_upd (o := .tup [.int (Fr.low h.1 f.2).1, .int (Fr.low h.1 f.2).2]) n2)
    refine ⟨p2, _, rfl, .inl (.inl upd_same), rfl, _, _, rfl, _, _, rfl, rfl, ?_⟩
    refine ⟨_, rfl, _, rfl, _, _, rfl, rfl, cmul (low_bl b1) (low_bl b3), _, rfl, _, rfl, _, _, rfl, rfl, cmul (low_br b4) (low_br b2), by show 2 ≤ sizeLine; decide, fun p np => ?_⟩
    refine q p _ (same_mut s2 (s2.free np)) (s2.free np) ?_
    rw [← Fr.prod2_eq F G]
    exact upd_same
/-! ### below -/
def lessF (f h : Int × Int) : Bool := decide (f.1 * h.2 < h.1 * f.2)
def spBel : Sp := fun vs H Q _ => ∃ (a c : Addr) (f h : Int × Int), vs = [.ref a, .ref c] ∧ Fra H a f ∧ Fra H c h ∧ Big f.1 ∧ Big f.2 ∧ Big h.1 ∧ Big h.2 ∧ Q (.bl (lessF f h)) H
abbrev s_below : Stmt := top 14
theorem sc_below : FnScope ["one", "other"] ["one", "other"] (defScope s_below) := ⟨rfl, rfl, rfl, by decide +kernel, rfl, by decide +kernel, by decide +kernel⟩
theorem ok_bel {f : Addr} {fd : FuncData} {k : Nat} (F : Fun K "below" "below" s_below f fd) : FnOk P w K mg base CX0 (k + 1) f fd ["one", "other"] spBel := by
  refine F.ok sc_below (fun vs H Q E h => ?_) (fun cdv A outer s H vs Q E hr h => ?_)
  · obtain ⟨a, c, f, h, rfl, _⟩ := h
    rfl
  · obtain ⟨a, c, f, h, rfl, ha, hc, b1, b2, b3, b4, q⟩ := h
    refine ⟨_, (pss_one (ps_ret (pe_cmpR op_lt (pe_op op_mulW (pe_ix ix_tup (pv 0) pe_int (fun _ _ => rfl)) (pe_ix ix_tup (pv 1) pe_int (fun _ _ => rfl))) (pe_op op_mulW (pe_ix ix_tup (pv 1) pe_int (fun _ _ => rfl)) (pe_ix ix_tup (pv 0) pe_int (fun _ _ => rfl))) (nomark _)))), ?_⟩
    refine ⟨_, rfl, a, _, _, _, rfl, rfl, .inl (.inl ha), at0, _, rfl, c, _, _, _, rfl, rfl, .inl (.inl hc), at1, _, _, rfl, rfl, cmul b1 b4, ?_⟩
    refine ⟨_, rfl, c, _, _, _, rfl, rfl, .inl (.inl hc), at0, _, rfl, a, _, _, _, rfl, rfl, .inl (.inl ha), at1, _, _, rfl, rfl, cmul b3 b2, _, _, rfl, rfl, q⟩
/-! ### the law's draws -/
theorem fm {x m : Int} (h : 0 < m) : 0 ≤ x.fmod m ∧ x.fmod m < m := ⟨Int.fmod_nonneg_of_pos x h, Int.fmod_lt_of_pos x h⟩
theorem sm {x : Int} {n : Nat} (h0 : 0 ≤ x) (h : x < ((2 ^ n : Nat) : Int)) : x.natAbs < 2 ^ n := by omega
theorem fm64 {x m : Int} (h : 0 < m) (h2 : m < 18446744073709551616) : (x.fmod m).natAbs < 2 ^ 64 := by
  have := fm (x := x) h
  show (x.fmod m).natAbs < 18446744073709551616
  omega
def spMix : Sp := fun vs H Q _ => ∃ a b : Int, vs = [.int a, .int b] ∧ ∀ d : Int, Q (.int d) H
abbrev s__law_mixed : Stmt := top 16
theorem sc__law_mixed : FnScope ["_law_cell", "_law_k", "_law_number_here"] ["_law_cell", "_law_k"] (defScope s__law_mixed) := ⟨rfl, rfl, rfl, by decide +kernel, rfl, by decide +kernel, by decide +kernel⟩
theorem ok_mix {f : Addr} {fd : FuncData} {k : Nat} (F : Fun K "_law_mixed" "_law_mixed" s__law_mixed f fd) : FnOk P w K mg base CX0 (k + 1) f fd ["_law_cell", "_law_k"] spMix := by
  refine F.ok sc__law_mixed (fun vs H Q E h => ?_) (fun cdv A outer s H vs Q E hr h => ?_)
  · obtain ⟨a, b, rfl, _⟩ := h
    rfl
  · obtain ⟨a, b, rfl, q⟩ := h
    refine ⟨_, (pss_cons (ps_set (i := 2) sc__law_mixed.nd rfl (Or.inl rfl) (pe_op op_modN (pe_op op_add (pe_op op_add (pe_op op_mulW (pe_op op_modN (pv 0) pe_int) pe_int) (pe_op op_mul (pv 1) pe_int)) pe_int) pe_int))
      (pss_cons (ps_set (i := 2) sc__law_mixed.nd rfl (Or.inl rfl) (pe_op op_modN (pe_op op_mulW (pv 2) (pv 2)) pe_int))
      (pss_one (ps_ret (pe_op op_fdivW (pe_op op_modN (pe_op op_mulW (pv 2) (pv 2)) pe_int) pe_int))))), ?_⟩
    have n1 : (2147483647 : Int) ≠ 0 := by decide
    have n2 : (2147483629 : Int) ≠ 0 := by decide
    have n3 : (2147483587 : Int) ≠ 0 := by decide
    refine ⟨_, rfl, _, _, rfl, rfl, n1, _, _, rfl, rfl, cmul (a := 64) (b := 64) (fm64 (by decide) (by decide)) (by decide), ?_⟩
    refine ⟨_, rfl, _, _, rfl, rfl, .inr ⟨by decide, by decide⟩, _, _, rfl, rfl, _, _, rfl, rfl, _, _, rfl, rfl, n1, ?_⟩
    refine ⟨_, rfl, _, rfl, _, _, rfl, rfl, cmul (a := 64) (b := 64) (fm64 (by decide) (by decide)) (fm64 (by decide) (by decide)), _, _, rfl, rfl, n2, ?_⟩
    exact ⟨_, rfl, _, rfl, _, _, rfl, rfl, cmul (a := 64) (b := 64) (fm64 (by decide) (by decide)) (fm64 (by decide) (by decide)), _, _, rfl, rfl, n3, _, _, rfl, rfl, cdiv (b := 64) (by decide) (by decide), q _⟩
def spPile (K : PySem.W.Frag) : Sp := fun vs H Q _ => ∃ (a : Addr) (ns : List Int) (k : Int), vs = [.ref a, .int k] ∧ SqL K H a (ns.map V.int) ∧ 0 ≤ k ∧
  ∀ p H', Same H H' → H p = none → Pile H' p → Q (.ref p) H'
abbrev s__law_pile : Stmt := top 17
theorem sc__law_pile : FnScope ["_law_script", "_law_k", "_law_cell"] ["_law_script", "_law_k"] (defScope s__law_pile) := ⟨rfl, rfl, rfl, by decide +kernel, rfl, by decide +kernel, by decide +kernel⟩
theorem ok_pile {f : Addr} {fd : FuncData} {k : Nat} (F : Fun K "_law_pile" "_law_pile" s__law_pile f fd) (T : Txt mg) : FnOk P w K mg base CX0 (k + 1) f fd ["_law_script", "_law_k"] (spPile K) := by
  refine F.ok sc__law_pile (fun vs H Q E h => ?_) (fun cdv A outer s H vs Q E hr h => ?_)
  · obtain ⟨a, ns, k, rfl, _⟩ := h
    rfl
  · obtain ⟨a, ns, k, rfl, hS, k0, q⟩ := h
    refine ⟨_, (pss_cons (ps_set (i := 2) sc__law_pile.nd rfl (Or.inl rfl) pe_int)
      (pss_cons (ps_if (pt_cmpR op_lt (pv 1) (pe_callB call_len_seq (by rfl) T.len (by decide +kernel) (pa_cons (pv 0) pa_nil)) (nomark _))
        (pss_one (ps_set (i := 2) sc__law_pile.nd rfl (Or.inl rfl) (pe_ix ix_list (pv 0) (pv 1) (fun _ _ => rfl))))
        pss_nil)
      (pss_one (ps_ret (pe_lst (pa_cons (pe_ix ix_list (pe_lst (pa_cons pe_int (pa_cons (pe_op op_modN (pv 2) (pe_op op_mulW (pe_op op_mulW (pe_op op_pow pe_int pe_int) (pe_op op_pow pe_int pe_int)) (pe_op op_pow pe_int pe_int))) pa_nil))) (pe_callTy call_int1 (by rfl) T.int_ (by decide +kernel) (pa_cons (pe_cmpR op_ge (pe_callB call_abs (by rfl) T.abs (by decide +kernel) (pa_cons (pv 2) pa_nil)) (pe_op op_pow pe_int pe_int) (nomark _)) pa_nil)) (fun _ _ => rfl)) (pa_cons (pe_op op_modN (pv 2) pe_int) (pa_cons (pe_op op_mul pe_int (pv 1)) pa_nil)))))))), ?_⟩
    -- behind the if: some cell
    have rest : ∀ cell : Int, tRet (tLst (tCons (tOp (rIxL K) (tLst (tCons (tC (.int 0)) (tCons (tOp (rI (fun _ j => j ≠ 0) fun i j => .int (i.fmod j)) (tVar 2) (tOp (rI CMulW fun i j => .int (i * j)) (tOp (rI CMulW fun i j => .int (i * j)) (tOp (rI CPow fun i j => .int (i ^ j.toNat)) (tC (.int 10)) (tC (.int 50))) (tOp (rI CPow fun i j => .int (i ^ j.toNat)) (tC (.int 10)) (tC (.int 50)))) (tOp (rI CPow fun i j => .int (i ^ j.toNat)) (tC (.int 10)) (tC (.int 50))))) tNil)))
        (tCB (fun xs H Q => (∃ i, xs = [.int i] ∧ Q (.int i) H) ∨ ∃ k, xs = [.bl k] ∧ Q (.int (if k then 1 else 0)) H) (tCons (tOp (rI0 fun i j => .bl (decide (j ≤ i))) (tCB (fun xs H Q => ∃ i, xs = [.int i] ∧ Q (.int (if i < 0 then -i else i)) H) (tCons (tVar 2) tNil)) (tOp (rI CPow fun i j => .int (i ^ j.toNat)) (tC (.int 10)) (tC (.int 18)))) tNil)))
        (tCons (tOp (rI (fun _ j => j ≠ 0) fun i j => .int (i.fmod j)) (tVar 2) (tC (.int 2147483647))) (tCons (tOp (rI CMul fun i j => .int (i * j)) (tC (.int 97)) (tVar 1)) tNil)))) { nx := fun _ H' => Q .non H', rt := Q } [some (.ref a), some (.int k), some (.int cell)] H := fun cell => by
      have p50 : CPow 10 50 := ⟨by decide, by decide, by decide⟩
      refine ⟨_, rfl, _, _, rfl, rfl, p50, _, _, rfl, rfl, p50, _, _, rfl, rfl, cmul (a := 256) (b := 256) (by decide +kernel) (by decide +kernel), _, _, rfl, rfl, p50, _, _, rfl, rfl, cmul (a := 512) (b := 256) (by decide +kernel) (by decide +kernel), _, _, rfl, rfl, (show ((10 : Int) ^ (50 : Int).toNat * 10 ^ (50 : Int).toNat * 10 ^ (50 : Int).toNat) ≠ 0 by decide +kernel), by show 2 ≤ sizeLine; decide, fun l nl => ?_⟩
      refine ⟨_, rfl, _, rfl, _, _, rfl, rfl, ⟨by decide, by decide, by decide⟩, _, _, rfl, rfl, .inr ⟨_, rfl, ?_⟩⟩
      have key : ∀ b : Bool, ∃ u : Int, atI [V.int 0, V.int (cell.fmod (10 ^ (50 : Int).toNat * 10 ^ (50 : Int).toNat * 10 ^ (50 : Int).toNat))] (if b then 1 else 0) = some (.int u) := fun b => by
        cases b
        · exact ⟨_, rfl⟩
        · exact ⟨_, rfl⟩
      obtain ⟨u, hu⟩ := key (decide ((10 : Int) ^ (18 : Int).toNat ≤ (if cell < 0 then -cell else cell)))
      refine ⟨l, _, _, .int u, rfl, rfl, .inl (.inl upd_same), hu, ?_⟩
      refine ⟨_, rfl, _, _, rfl, rfl, (show (2147483647 : Int) ≠ 0 by decide), _, rfl, _, _, rfl, rfl, .inl ⟨by decide, by decide⟩, by show 3 ≤ sizeLine; decide, fun p np => ?_⟩
      have s1 := same_upd (o := .lst [V.int 0, V.int (cell.fmod (10 ^ (50 : Int).toNat * 10 ^ (50 : Int).toNat * 10 ^ (50 : Int).toNat))]) nl
      refine q p _ (s1.trans (same_upd np)) (s1.free np) ⟨_, _, _, upd_same⟩
    refine ⟨_, rfl, _, rfl, a, _, rfl, .inl hS, _, _, rfl, rfl, _, rfl, ite2 (fun z => ?_) (fun z => ?_)⟩
    · have z1 : k < ((ns.map V.int).length : Int) := of_decide_eq_true z
      have z2 : k.toNat < ns.length := by
        rw [List.length_map] at z1
        omega
      have e : atI (ns.map V.int) k = some (.int ns[k.toNat]) := by
        refine at_of (j := k.toNat) (by omega) ?_
        rw [List.getElem?_map, List.getElem?_eq_getElem z2]
        rfl
      exact ⟨_, rfl, _, rfl, a, _, _, _, rfl, rfl, hS, e, rest _⟩
    · exact rest 0
end
section
variable {P : Program} {w : World} {K : PySem.W.Frag} {mg : Str → Option Value} {base : Heap}
theorem three {α : Type} {x y z : α} : atI [x, y, z] 0 = some x ∧ atI [x, y, z] 1 = some y ∧ atI [x, y, z] 2 = some z := ⟨rfl, rfl, rfl⟩
def spTake : Sp := fun vs H Q _ => ∃ (p : Addr) (m : Int), vs = [.ref p, .int m] ∧ 0 < m ∧ m.natAbs < 2 ^ 64 ∧ Pile H p ∧ ∀ (d : Int) (H' : Hp), 0 ≤ d → d < m → Kp p H H' → Pile H' p → Q (.int d) H'
abbrev s__law_take : Stmt := top 18
theorem sc__law_take : FnScope ["_law_pile_here", "_law_many", "_law_digit"] ["_law_pile_here", "_law_many"] (defScope s__law_take) := ⟨rfl, rfl, rfl, by decide +kernel, rfl, by decide +kernel, by decide +kernel⟩
theorem ok_take {f : Addr} {fd : FuncData} {k : Nat} (F : Fun K "_law_take" "_law_take" s__law_take f fd) (c__law_mixed : Cal P w K mg base 1 "_law_mixed" ["_law_cell", "_law_k"] spMix) : FnOk P w K mg base CX0 (k + 1 + 1) f fd ["_law_pile_here", "_law_many"] spTake := by
  refine F.ok sc__law_take (fun vs H Q E h => ?_) (fun cdv A outer s H vs Q E hr h => ?_)
  · obtain ⟨p, m, rfl, _⟩ := h
    rfl
  · obtain ⟨p, m, rfl, m0, m64, ⟨x, y, z, hp⟩, q⟩ := h
    have hr : Room 1 _ := hr.mono (Nat.le_add_left 1 k)
    refine ⟨_, (pss_cons (ps_if (pt_cmpR op_in_seq (pe_ix ix_list (pv 0) pe_int (fun _ _ => rfl)) (pe_lst (pa_cons pe_int (pa_cons (pe_un un_neg pe_int) pa_nil))) (by rfl))
        (pss_cons (ps_asg (pe_op op_add (pe_ix ix_list (pv 0) pe_int (fun _ _ => rfl)) pe_int) (pg_sub (pv 0) pe_int set_list))
          (pss_one (ps_ret (pe_op op_modN (pe_cal c__law_mixed hr (by rfl) (pa_cons (pe_ix ix_list (pv 0) pe_int (fun _ _ => rfl)) (pa_cons (pe_ix ix_list (pv 0) pe_int (fun _ _ => rfl)) pa_nil))) (pv 1)))))
        pss_nil)
      (pss_cons (ps_set (i := 2) sc__law_take.nd rfl (Or.inl rfl) (pe_op op_modN (pe_ix ix_list (pv 0) pe_int (fun _ _ => rfl)) (pv 1)))
      (pss_cons (ps_asg (pe_op op_fdivW (pe_ix ix_list (pv 0) pe_int (fun _ _ => rfl)) (pv 1)) (pg_sub (pv 0) pe_int set_list))
      (pss_one (ps_ret (pv 2)))))), ?_⟩
    refine ⟨_, rfl, p, _, _, _, rfl, rfl, .inl (.inl hp), three.1, _, rfl, by show 2 ≤ sizeLine; decide, fun l nl => ?_⟩
    have npl : p ≠ l := ne_of_none hp nl
    have s1 := same_upd (o := .lst [V.int 0, V.int (-1)]) nl
    have m0' : m ≠ 0 := by omega
    refine ⟨l, _, rfl, .inl (.inl (.inl upd_same)), rfl, rfl, _, rfl, ite2 (fun _ => ?_) (fun _ => ?_)⟩
    · refine ⟨_, rfl, p, _, _, _, rfl, rfl, .inl (.inl (s1 _ _ hp)), three.2.2, _, _, rfl, rfl, _, rfl, p, _, _, 2, rfl, rfl, s1 _ _ hp, rfl, ?_⟩
      refine ⟨_, rfl, p, _, _, _, rfl, rfl, .inl (.inl upd_same), three.2.1, _, rfl, p, _, _, _, rfl, rfl, .inl (.inl upd_same), three.2.2, _, _, rfl, fun d => ?_⟩
      refine ⟨_, rfl, _, _, rfl, rfl, m0', ?_⟩
      exact q _ _ (fm m0).1 (fm m0).2 (fun b o n e => by rw [upd_ne n]; exact s1 _ _ e) ⟨_, _, _, upd_same⟩
    · refine ⟨_, rfl, p, _, _, _, rfl, rfl, .inl (.inl (s1 _ _ hp)), three.1, _, rfl, _, _, rfl, rfl, m0', ?_⟩
      refine ⟨_, rfl, p, _, _, _, rfl, rfl, .inl (.inl (s1 _ _ hp)), three.1, _, rfl, _, _, rfl, rfl, cdiv m0 m64, _, rfl, p, _, _, 0, rfl, rfl, s1 _ _ hp, rfl, ?_⟩
      exact ⟨_, rfl, q _ _ (fm m0).1 (fm m0).2 (fun b o n e => by rw [upd_ne n]; exact s1 _ _ e) ⟨_, _, _, upd_same⟩⟩
/-! ### the law's own fractions -/
abbrev s__law_lowest : Stmt := top 19
theorem sc__law_lowest : FnScope ["_law_top", "_law_bottom", "_law_my_one", "_law_my_other"] ["_law_top", "_law_bottom"] (defScope s__law_lowest) := ⟨rfl, rfl, rfl, by decide +kernel, rfl, by decide +kernel, by decide +kernel⟩
theorem ok_llow {f : Addr} {fd : FuncData} {k : Nat} (F : Fun K "_law_lowest" "_law_lowest" s__law_lowest f fd) : FnOk P w K mg base CX0 (k + 1) f fd ["_law_top", "_law_bottom"] spLow := by
  refine F.ok sc__law_lowest (fun vs H Q E h => ?_) (fun cdv A outer s H vs Q E hr h => ?_)
  · obtain ⟨a, b, rfl, _⟩ := h
    rfl
  · obtain ⟨t, b, rfl, hb, hB, q⟩ := h
    refine ⟨_, (pss_cons (ps_par (i := 2) (j := 3) (by rfl) sc__law_lowest.nd rfl rfl (by decide) rfl rfl (pa_cons (pv 0) (pa_cons (pv 1) pa_nil)) (by rfl))
      (pss_cons (ps_while PassesOwn.never (pt_cmpR op_ne (pv 3) pe_int (nomark _))
        (pss_one (ps_par (i := 2) (j := 3) (by rfl) sc__law_lowest.nd rfl rfl (by decide) rfl rfl (pa_cons (pv 3) (pa_cons (pe_op op_modN (pv 2) (pv 3)) pa_nil)) (by rfl))))
      (pss_one (ps_ret (pe_tup (pa_cons (pe_op op_fdivW (pv 0) (pv 2)) (pa_cons (pe_op op_fdivW (pv 1) (pv 2)) pa_nil))))))), ?_⟩
    refine ⟨_, rfl, _, rfl, _, _, rfl, ?_⟩
    refine while_by (fun σ H' => H' = H ∧ ∃ x y : Int, σ = [some (.int t), some (.int b), some (.int x), some (.int y)] ∧ Int.gcd x y = Int.gcd t b ∧ (0 < y ∨ y = 0 ∧ 0 < x)) (fun σ _ => match σ with | [_, _, _, some (.int y)] => y.natAbs | _ => 0) ⟨rfl, t, b, rfl, rfl, .inl hb⟩ ?_ ?_
    · rintro σ H' ⟨rfl, x, y, rfl, e, hy⟩
      refine ⟨_, rfl, rfl, _, rfl, ite2 (fun z => ?_) (fun z => ?_)⟩
      · have y0 : y ≠ 0 := fun h0 => by
          subst h0
          exact absurd z (by decide)
        have yp : 0 < y := by omega
        refine ⟨_, rfl, _, rfl, _, rfl, _, _, rfl, rfl, y0, _, _, rfl, ⟨rfl, y, x.fmod y, rfl, ?_, ?_⟩, ?_⟩
        · rw [Fr.gcd_step, e]
        · have := fm (x := x) yp
          omega
        · exact Fr.fmod_lt x y0
      · have y0 : y = 0 := by
          have z1 : (!decide (V.int y = V.int 0)) = false := by simpa using z
          have z2 : decide (V.int y = V.int 0) = true := by simpa using z1
          exact V.int.inj (of_decide_eq_true z2)
        subst y0
        have xg : x = Fr.g t b := by
          unfold Fr.g
          rw [← e, Int.gcd_zero_right]
          omega
        subst xg
        have d := Fr.g_pos (t := t) hb
        have d2 := g_le' (t := t) hb hB
        refine ⟨_, rfl, _, rfl, _, _, rfl, rfl, cdiv d d2, ?_⟩
        refine ⟨_, rfl, _, rfl, _, _, rfl, rfl, cdiv d d2, ?_⟩
        exact ⟨by show 2 ≤ sizeLine; decide, fun p hp => q p hp⟩
    · intro σ H' Q' Q'' hm ⟨v, hv, h1, k1, hk, h2⟩
      exact ⟨v, hv, h1, k1, hk, hm _ _ h2⟩
/-- what _law_number draws -/
structure Sml (f : Int × Int) : Prop where
  ok : Fr.Ok f
  b1 : f.1.natAbs < 2 ^ 40
  b2 : f.2.natAbs < 2 ^ 40
def spNum : Sp := fun vs H Q _ => ∃ p : Addr, vs = [.ref p] ∧ Pile H p ∧ ∀ (q : Addr) (H' : Hp) (f : Int × Int), Kp p H H' → Pile H' p → H q = none → Fra H' q f → Sml f → Q (.ref q) H'
abbrev s__law_number : Stmt := top 20
theorem sc__law_number : FnScope ["_law_pile_here", "_law_lean", "_law_top"] ["_law_pile_here"] (defScope s__law_number) := ⟨rfl, rfl, rfl, by decide +kernel, rfl, by decide +kernel, by decide +kernel⟩
theorem two40 : (2 : Nat) ^ 40 = 1099511627776 := by decide
theorem pile_ne {H H' : Hp} {p q : Addr} (h : Pile H p) (n : H q = none) : q ≠ p := by
  obtain ⟨x, y, z, e⟩ := h
  exact (ne_of_none e n).symm
theorem Pile.new {H : Hp} {p q : Addr} {o : HO} (h : Pile H p) (n : H q = none) : Pile (upd H q o) p := by
  obtain ⟨x, y, z, e⟩ := h
  exact ⟨x, y, z, by rw [upd_ne (ne_of_none e n)]; exact e⟩
theorem ok_num {f : Addr} {fd : FuncData} {k : Nat} (F : Fun K "_law_number" "_law_number" s__law_number f fd) (c__law_take : Cal P w K mg base 2 "_law_take" ["_law_pile_here", "_law_many"] spTake) (c__law_lowest : Cal P w K mg base 1 "_law_lowest" ["_law_top", "_law_bottom"] spLow) : FnOk P w K mg base CX0 (k + 2 + 1) f fd ["_law_pile_here"] spNum := by
  refine F.ok sc__law_number (fun vs H Q E h => ?_) (fun cdv A outer s H vs Q E hr h => ?_)
  · obtain ⟨p, rfl, _⟩ := h
    rfl
  · obtain ⟨p, rfl, hP, q⟩ := h
    have hr : Room 2 _ := hr.mono (Nat.le_add_left 2 k)
    refine ⟨_, (pss_cons (ps_set (i := 1) sc__law_number.nd rfl (Or.inl rfl) (pe_cal c__law_take hr (by rfl) (pa_cons (pv 0) (pa_cons pe_int pa_nil))))
      (pss_cons (ps_if (pt_cmpR op_eq (pv 1) pe_int (nomark _))
        (pss_cons (ps_set (i := 2) sc__law_number.nd rfl (Or.inl rfl) (pe_op op_add (pe_op op_mulW (pe_cal c__law_take hr (by rfl) (pa_cons (pv 0) (pa_cons (pe_op op_pow pe_int pe_int) pa_nil))) (pe_op op_pow pe_int pe_int)) (pe_cal c__law_take hr (by rfl) (pa_cons (pv 0) (pa_cons (pe_op op_pow pe_int pe_int) pa_nil)))))
          (pss_one (ps_ret (pe_cal c__law_lowest hr (by rfl) (pa_cons (pe_ix ix_list (pe_lst (pa_cons (pv 2) (pa_cons (pe_un un_neg (pv 2)) pa_nil))) (pe_cal c__law_take hr (by rfl) (pa_cons (pv 0) (pa_cons pe_int pa_nil))) (fun _ _ => rfl)) (pa_cons (pe_op op_add pe_int (pe_cal c__law_take hr (by rfl) (pa_cons (pv 0) (pa_cons (pe_op op_pow pe_int pe_int) pa_nil)))) pa_nil))))))
        pss_nil)
      (pss_cons (ps_if (pt_cmpR op_gt (pv 1) pe_int (nomark _))
        (pss_one (ps_ret (pe_cal c__law_lowest hr (by rfl) (pa_cons (pe_op op_sub (pe_cal c__law_take hr (by rfl) (pa_cons (pv 0) (pa_cons pe_int pa_nil))) pe_int) (pa_cons (pe_op op_add pe_int (pe_cal c__law_take hr (by rfl) (pa_cons (pv 0) (pa_cons pe_int pa_nil)))) pa_nil)))))
        pss_nil)
      (pss_one (ps_ret (pe_tup (pa_cons (pe_op op_sub (pe_cal c__law_take hr (by rfl) (pa_cons (pv 0) (pa_cons pe_int pa_nil))) pe_int) (pa_cons pe_int pa_nil)))))))), ?_⟩
    have t12 : (12 : Int).natAbs < 2 ^ 64 := by decide
    have p5 : CPow 10 5 := ⟨by decide, by decide, by decide⟩
    have p6 : CPow 10 6 := ⟨by decide, by decide, by decide⟩
    have e5 : (10 : Int) ^ (5 : Int).toNat = 100000 := by decide
    have e6 : (10 : Int) ^ (6 : Int).toNat = 1000000 := by decide
    -- the end: a new tuple
    have fin : ∀ (t b : Int) (H' : Hp), Kp p H H' → Pile H' p → 0 < b → t.natAbs < 2 ^ 40 → b.natAbs < 2 ^ 40 → ∀ r, H' r = none → Q (.ref r) (upd H' r (.tup [.int (Fr.low t b).1, .int (Fr.low t b).2])) := fun t b H' kp hP' hb t4 b4 r nr =>
      q r _ (Fr.low t b) (kp.new nr) (hP'.new nr) (kp.free nr (pile_ne (H' := H) hP' nr)) upd_same ⟨Fr.low_ok hb, low_bl t4, low_br b4⟩
    refine ⟨_, rfl, p, _, rfl, by decide, t12, hP, fun d H1 d0 d1 k1 P1 => ?_⟩
    refine ⟨_, rfl, rfl, _, rfl, ite2 (fun _ => ?_) (fun _ => ?_)⟩
    · refine ⟨_, rfl, _, _, rfl, rfl, p5, p, _, rfl, by decide, by decide, P1, fun d2 H2 d20 d21 k2 P2 => ?_⟩
      have k12 := k1.trans k2
      rw [e5] at d21
      refine ⟨_, _, rfl, rfl, p6, _, _, rfl, rfl, cmul (a := 64) (b := 64) (by show d2.natAbs < 18446744073709551616; omega) (by decide), ?_⟩
      refine ⟨_, rfl, _, _, rfl, rfl, p6, p, _, rfl, by decide, by decide, P2, fun d3 H3 d30 d31 k3 P3 => ?_⟩
      have k13 := k12.trans k3
      rw [e6] at d31
      refine ⟨_, _, rfl, rfl, ?_⟩
      refine ⟨_, rfl, _, rfl, _, rfl, by show 2 ≤ sizeLine; decide, fun l nl => ?_⟩
      have k13' := k13.new (o := .lst [V.int (d2 * 10 ^ (6 : Int).toNat + d3), V.int (-(d2 * 10 ^ (6 : Int).toNat + d3))]) nl
      refine ⟨_, rfl, p, _, rfl, by decide, by decide, P3.new nl, fun d4 H4 d40 d41 k4 P4 => ?_⟩
      have k14 := k13'.trans k4
      have lp : l ≠ p := pile_ne (H' := H) P3 nl
      have hl := k4 l _ lp upd_same
      have key : ∃ u : Int, atI [V.int (d2 * 10 ^ (6 : Int).toNat + d3), V.int (-(d2 * 10 ^ (6 : Int).toNat + d3))] d4 = some (.int u) ∧ u.natAbs < 2 ^ 40 := by
        rw [e6, two40]
        rcases (show d4 = 0 ∨ d4 = 1 by omega) with rfl | rfl
        · exact ⟨_, rfl, by omega⟩
        · exact ⟨_, rfl, by omega⟩
      obtain ⟨u, hu, u4⟩ := key
      refine ⟨l, _, _, _, rfl, rfl, .inl (.inl hl), hu, ?_⟩
      refine ⟨_, rfl, _, _, rfl, rfl, p6, p, _, rfl, by decide, by decide, P4, fun d5 H5 d50 d51 k5 P5 => ?_⟩
      rw [e6] at d51
      refine ⟨_, _, rfl, rfl, u, 1 + d5, rfl, by omega, ?_, fin _ _ H5 (k14.trans k5) P5 (by omega) u4 (by rw [two40]; omega)⟩
      exact Nat.lt_of_lt_of_le (show (1 + d5).natAbs < 2 ^ 40 by rw [two40]; omega) (Nat.pow_le_pow_right (by decide) (by decide))
    · refine ⟨_, rfl, _, _, rfl, rfl, _, rfl, ite2 (fun _ => ?_) (fun _ => ?_)⟩
      · refine ⟨_, rfl, p, _, rfl, by decide, by decide, P1, fun d2 H2 d20 d21 k2 P2 => ?_⟩
        refine ⟨_, _, rfl, rfl, ?_⟩
        refine ⟨_, rfl, p, _, rfl, by decide, by decide, P2, fun d3 H3 d30 d31 k3 P3 => ?_⟩
        refine ⟨_, _, rfl, rfl, d2 - 6, 1 + d3, rfl, by omega, ?_, fin _ _ H3 ((k1.trans k2).trans k3) P3 (by omega) (by rw [two40]; omega) (by rw [two40]; omega)⟩
        exact Nat.lt_of_lt_of_le (show (1 + d3).natAbs < 2 ^ 40 by rw [two40]; omega) (Nat.pow_le_pow_right (by decide) (by decide))
      · refine ⟨_, rfl, p, _, rfl, by decide, by decide, P1, fun d2 H2 d20 d21 k2 P2 => ?_⟩
        refine ⟨_, _, rfl, rfl, by show 2 ≤ sizeLine; decide, fun r nr => ?_⟩
        have kp := k1.trans k2
        refine q r _ (d2 - 4, 1) (kp.new nr) (P2.new nr) (kp.free nr (pile_ne (H' := H) P2 nr)) upd_same ⟨⟨by show (0 : Int) < 1; decide, ?_⟩, by show (d2 - 4).natAbs < 2 ^ 40; rw [two40]; omega, by show (1 : Int).natAbs < 2 ^ 40; decide⟩
        show Int.gcd (d2 - 4) 1 = 1
        rw [Int.gcd_one_right]
/-! ### _law_plus -/
def spPlus : Sp := fun vs H Q _ => ∃ (a c : Addr) (f h : Int × Int), vs = [.ref a, .ref c] ∧ Fra H a f ∧ Fra H c h ∧ Fr.Ok f ∧ Fr.Ok h ∧ Big f.1 ∧ Big f.2 ∧ Big h.1 ∧ Big h.2 ∧
  ∀ p, H p = none → Q (.ref p) (upd H p (.tup [.int (Fr.plus f h).1, .int (Fr.plus f h).2]))
abbrev s__law_plus : Stmt := top 21
theorem sc__law_plus : FnScope ["_law_my_one", "_law_my_other"] ["_law_my_one", "_law_my_other"] (defScope s__law_plus) := ⟨rfl, rfl, rfl, by decide +kernel, rfl, by decide +kernel, by decide +kernel⟩
theorem ok_plus {f : Addr} {fd : FuncData} {k : Nat} (F : Fun K "_law_plus" "_law_plus" s__law_plus f fd) (c__law_lowest : Cal P w K mg base 1 "_law_lowest" ["_law_top", "_law_bottom"] spLow) : FnOk P w K mg base CX0 (k + 1 + 1) f fd ["_law_my_one", "_law_my_other"] spPlus := by
  refine F.ok sc__law_plus (fun vs H Q E h => ?_) (fun cdv A outer s H vs Q E hr h => ?_)
  · obtain ⟨a, c, f, h, rfl, _⟩ := h
    rfl
  · obtain ⟨a, c, f, h, rfl, ha, hc, F, G, b1, b2, b3, b4, q⟩ := h
    have hr : Room 1 _ := hr.mono (Nat.le_add_left 1 k)
    refine ⟨_, (pss_one (ps_ret (pe_cal c__law_lowest hr (by rfl) (pa_cons (pe_op op_add (pe_op op_mulW (pe_ix ix_tup (pv 0) pe_int (fun _ _ => rfl)) (pe_ix ix_tup (pv 1) pe_int (fun _ _ => rfl))) (pe_op op_mulW (pe_ix ix_tup (pv 1) pe_int (fun _ _ => rfl)) (pe_ix ix_tup (pv 0) pe_int (fun _ _ => rfl)))) (pa_cons (pe_op op_mulW (pe_ix ix_tup (pv 0) pe_int (fun _ _ => rfl)) (pe_ix ix_tup (pv 1) pe_int (fun _ _ => rfl))) pa_nil))))), ?_⟩
    refine ⟨_, rfl, a, _, _, _, rfl, rfl, .inl (.inl ha), at0, _, rfl, c, _, _, _, rfl, rfl, .inl (.inl hc), at1, _, _, rfl, rfl, cmul b1 b4, ?_⟩
    refine ⟨_, rfl, c, _, _, _, rfl, rfl, .inl (.inl hc), at0, _, rfl, a, _, _, _, rfl, rfl, .inl (.inl ha), at1, _, _, rfl, rfl, cmul b3 b2, _, _, rfl, rfl, ?_⟩
    refine ⟨_, rfl, a, _, _, _, rfl, rfl, .inl (.inl ha), at1, _, rfl, c, _, _, _, rfl, rfl, .inl (.inl hc), at1, _, _, rfl, rfl, cmul b2 b4, ?_⟩
    refine ⟨f.1 * h.2 + h.1 * f.2, f.2 * h.2, rfl, Int.mul_pos F.pos G.pos, ?_, fun p hp => q p hp⟩
    exact wide_lt (a := 4000) (b := 4000) b2 b4
end
section
variable {P : Program} {w : World} {K : PySem.W.Frag} {mg : Str → Option Value} {base : Heap}
theorem dp_fra {H : Hp} {a : Addr} {f : Int × Int} (h : Fra H a f) : Dp K H (.ref a) (.tuple [.int f.1, .int f.2]) := .tup (.inl (.inl h)) (.cons (.int _) (.cons (.int _) .nil))
theorem eqv_fra (x y : Int) : PyData.eqv (.tuple [.int x, .int y]) (.tuple [.int x, .int y]) = true := by simp [PyData.eqv, PyData.eqvAll]
theorem sz2 : 2 ≤ sizeLine := by decide
/-! ### _law_is -/
def spIs : Sp := fun vs H Q _ => ∃ (a : Addr) (t b : Int), vs = [.ref a, .int t, .int b] ∧ 0 < b ∧ b.natAbs < 2 ^ 8000 ∧ Fra H a (Fr.low t b) ∧ ∀ H', Same H H' → Q (.bl true) H'
abbrev s__law_is : Stmt := top 22
theorem sc__law_is : FnScope ["_law_found", "_law_top", "_law_bottom"] ["_law_found", "_law_top", "_law_bottom"] (defScope s__law_is) := ⟨rfl, rfl, rfl, by decide +kernel, rfl, by decide +kernel, by decide +kernel⟩
theorem ok_is {f : Addr} {fd : FuncData} {k : Nat} (F : Fun K "_law_is" "_law_is" s__law_is f fd) (T : Txt mg) (c__law_lowest : Cal P w K mg base 1 "_law_lowest" ["_law_top", "_law_bottom"] spLow) : FnOk P w K mg base CX0 (k + 1 + 1) f fd ["_law_found", "_law_top", "_law_bottom"] spIs := by
  refine F.ok sc__law_is (fun vs H Q E h => ?_) (fun cdv A outer s H vs Q E hr h => ?_)
  · obtain ⟨a, t, b, rfl, _⟩ := h
    rfl
  · obtain ⟨a, t, b, rfl, hb, hB, ha, q⟩ := h
    have hr : Room 1 _ := hr.mono (Nat.le_add_left 1 k)
    refine ⟨_, (pss_cons (ps_if (PW.pt (pw_or (pt_not (pt_val (pe_callB (id := "isinstance") (r := rIsi K) call_isi (by rfl) T.isinstance (by decide +kernel) (pa_cons (pv 0) (pa_cons (pe_bltn (v := .ty "tuple") (by rfl) T.tuple_ (by decide +kernel) rfl) pa_nil))))) (pw_or (pt_cmpR op_ne (pe_callB call_len_seq (by rfl) T.len (by decide +kernel) (pa_cons (pv 0) pa_nil)) pe_int (nomark _)) (pw_or (pt_val (pe_callB (id := "isinstance") (r := rIsi K) call_isi (by rfl) T.isinstance (by decide +kernel) (pa_cons (pe_ix ix_tup (pv 0) pe_int (fun _ _ => rfl)) (pa_cons (pe_bltn (v := .ty "bool") (by rfl) T.bool_ (by decide +kernel) rfl) pa_nil)))) (pw_or1 (pt_val (pe_callB (id := "isinstance") (r := rIsi K) call_isi (by rfl) T.isinstance (by decide +kernel) (pa_cons (pe_ix ix_tup (pv 0) pe_int (fun _ _ => rfl)) (pa_cons (pe_bltn (v := .ty "bool") (by rfl) T.bool_ (by decide +kernel) rfl) pa_nil)))))))))
        (pss_one (ps_ret pe_bl))
        pss_nil)
      (pss_one (ps_ret (pe_and (pe_callB (id := "isinstance") (r := rIsi K) call_isi (by rfl) T.isinstance (by decide +kernel) (pa_cons (pe_ix ix_tup (pv 0) pe_int (fun _ _ => rfl)) (pa_cons (pe_bltn (v := .ty "int") (by rfl) T.int_ (by decide +kernel) rfl) pa_nil))) (pe_and (pe_callB (id := "isinstance") (r := rIsi K) call_isi (by rfl) T.isinstance (by decide +kernel) (pa_cons (pe_ix ix_tup (pv 0) pe_int (fun _ _ => rfl)) (pa_cons (pe_bltn (v := .ty "int") (by rfl) T.int_ (by decide +kernel) rfl) pa_nil))) (pe_one (pe_cmpR (op_eqD hr.units) (pv 0) (pe_cal c__law_lowest hr (by rfl) (pa_cons (pv 1) (pa_cons (pv 2) pa_nil))) (nomark _)))))))), ?_⟩
    refine ⟨_, rfl, _, _, _, _, true, rfl, .ty _, .base (.tup ha), kit_ty (by decide +kernel), _, rfl, iteF ?_⟩
    refine ⟨_, rfl, a, _, rfl, .inr (.inl (.inl ha)), rfl, _, rfl, iteF ?_⟩
    refine ⟨_, rfl, a, _, _, _, rfl, rfl, .inl (.inl ha), at0, _, _, _, _, false, rfl, .ty _, .base (.int _), kit_ty (by decide +kernel), _, rfl, iteF ?_⟩
    refine ⟨_, rfl, a, _, _, _, rfl, rfl, .inl (.inl ha), at1, _, _, _, _, false, rfl, .ty _, .base (.int _), kit_ty (by decide +kernel), _, rfl, iteF ?_⟩
    refine ⟨_, rfl, a, _, _, _, rfl, rfl, .inl (.inl ha), at0, _, _, _, _, true, rfl, .ty _, .base (.int _), kit_ty (by decide +kernel), _, rfl, iteT ?_⟩
    refine ⟨_, rfl, a, _, _, _, rfl, rfl, .inl (.inl ha), at1, _, _, _, _, true, rfl, .ty _, .base (.int _), kit_ty (by decide +kernel), _, rfl, iteT ?_⟩
    refine ⟨_, rfl, _, rfl, _, rfl, t, b, rfl, hb, hB, fun p np => ?_⟩
    have s1 := same_upd (o := .tup [.int (Fr.low t b).1, .int (Fr.low t b).2]) np
    refine ⟨_, _, dp_fra (s1 _ _ ha), dp_fra (f := Fr.low t b) upd_same, rfl, rfl, ?_⟩
    rw [eqv_fra]
    exact q _ s1
/-! ### _law_great -/
def spGreat : Sp := fun vs H Q _ => vs = [] ∧ ∀ H', Same H H' → Q (.bl true) H'
abbrev s__law_great : Stmt := top 23
theorem sc__law_great : FnScope ["_law_far", "_law_turn"] [] (defScope s__law_great) := ⟨rfl, rfl, rfl, by decide +kernel, rfl, by decide +kernel, by decide +kernel⟩
def far : Int := 10 ^ 900
theorem far_pos : 0 < far := by decide +kernel
theorem far_b : far.natAbs < 2 ^ 3999 := by decide +kernel
theorem big_of {x : Int} (h : x.natAbs < 2 ^ 3999) : Big x := Nat.lt_of_lt_of_le h (Nat.pow_le_pow_right (by decide) (by decide))
theorem big_far : Big far := big_of far_b
theorem gr1 : lessF (far - 1, far) (1, 1) = true := by decide +kernel
theorem gr2 : lessF (1, 1) (far - 1, far) = false := by decide +kernel
theorem gr3 : lessF (-far, 1) (far, 1) = true := by decide +kernel
theorem gr4 : lessF (far, 1) (-far, 1) = false := by decide +kernel
theorem gr5 : Fr.mul (far, 7) (21, far) = (3, 1) := by decide +kernel
theorem gr6 : sumF [(far, 1), (1, 2), (-far, 1)] = (1, 2) := by decide +kernel
theorem ok_far {x : Int} : Fr.Ok (x, 1) := ⟨by show (0 : Int) < 1; decide, by show Int.gcd x 1 = 1; rw [Int.gcd_one_right]⟩
theorem gr7 : Fr.Ok (far, 7) := ⟨by decide, by decide +kernel⟩
theorem gr8 : Fr.Ok (21, far) := ⟨far_pos, by decide +kernel⟩
theorem gr9 : Fr.Ok (1, 2) := ⟨by decide, by decide +kernel⟩
theorem big_s {x : Int} (h : x.natAbs < 2 ^ 64 := by decide) : Big x := big_of (Nat.lt_of_lt_of_le h (Nat.pow_le_pow_right (by decide) (by decide)))
theorem big_far1 : Big (far - 1) := big_of (by decide +kernel)
theorem big_nfar : Big (-far) := big_of (by decide +kernel)
theorem gr10 : ∀ i, Big (sumF ([(far, 1), (1, 2), (-far, 1)].take i)).1 ∧ Big (sumF ([(far, 1), (1, 2), (-far, 1)].take i)).2
  | 0 => ⟨big_s, big_s⟩
  | 1 => ⟨big_of (by decide +kernel), big_of (by decide +kernel)⟩
  | 2 => ⟨big_of (by decide +kernel), big_of (by decide +kernel)⟩
  | i + 3 => by
    have e : [(far, (1 : Int)), (1, 2), (-far, 1)].take (i + 3) = [(far, 1), (1, 2), (-far, 1)] := List.take_of_length_le (by simp)
    rw [e, gr6]
    exact ⟨big_s, big_s⟩
theorem ok_great {f : Addr} {fd : FuncData} {k : Nat} (F : Fun K "_law_great" "_law_great" s__law_great f fd) (T : Txt mg) (c_below : Cal P w K mg base 1 "below" ["one", "other"] spBel) (c_product : Cal P w K mg base 3 "product" ["one", "other"] spPro) (c_total : Cal P w K mg base 3 "total" ["numbers"] spTot) : FnOk P w K mg base CX0 (k + 3 + 1) f fd [] spGreat := by
  refine F.ok sc__law_great (fun vs H Q E h => ?_) (fun cdv A outer s H vs Q E hr h => ?_)
  · obtain ⟨rfl, _⟩ := h
    rfl
  · obtain ⟨rfl, q⟩ := h
    have hr : Room 3 _ := hr.mono (Nat.le_add_left 3 k)
    refine ⟨_, (pss_cons (ps_set (i := 0) sc__law_great.nd rfl (Or.inl rfl) pe_int)
      (pss_cons (ps_for PassesOwn.never rfl (pi_range1 (by rfl) T.range (pa_cons pe_int pa_nil)) (pg_name (i := 1) sc__law_great.nd rfl (Or.inl rfl))
        (pss_one (ps_set (i := 0) sc__law_great.nd rfl (Or.inl rfl) (pe_op op_mulW (pv 0) (pe_op op_pow pe_int pe_int)))))
      (pss_cons (ps_if (PW.pt (pw_or (pt_cmpR op_notBl (pe_cal c_below hr (by rfl) (pa_cons (pe_tup (pa_cons (pe_op op_sub (pv 0) pe_int) (pa_cons (pv 0) pa_nil))) (pa_cons (pe_tup (pa_cons pe_int (pa_cons pe_int pa_nil))) pa_nil))) pe_bl (nomark _)) (pw_or1 (pt_cmpR op_notBl (pe_cal c_below hr (by rfl) (pa_cons (pe_tup (pa_cons pe_int (pa_cons pe_int pa_nil))) (pa_cons (pe_tup (pa_cons (pe_op op_sub (pv 0) pe_int) (pa_cons (pv 0) pa_nil))) pa_nil))) pe_bl (nomark _)))))
        (pss_one (ps_ret pe_bl))
        pss_nil)
      (pss_cons (ps_if (PW.pt (pw_or (pt_cmpR op_notBl (pe_cal c_below hr (by rfl) (pa_cons (pe_tup (pa_cons (pe_un un_neg (pv 0)) (pa_cons pe_int pa_nil))) (pa_cons (pe_tup (pa_cons (pv 0) (pa_cons pe_int pa_nil))) pa_nil))) pe_bl (nomark _)) (pw_or1 (pt_cmpR op_notBl (pe_cal c_below hr (by rfl) (pa_cons (pe_tup (pa_cons (pv 0) (pa_cons pe_int pa_nil))) (pa_cons (pe_tup (pa_cons (pe_un un_neg (pv 0)) (pa_cons pe_int pa_nil))) pa_nil))) pe_bl (nomark _)))))
        (pss_one (ps_ret pe_bl))
        pss_nil)
      (pss_one (ps_ret (pe_and (pe_cmpR (op_eqD hr.units) (pe_cal c_product hr (by rfl) (pa_cons (pe_tup (pa_cons (pv 0) (pa_cons pe_int pa_nil))) (pa_cons (pe_tup (pa_cons pe_int (pa_cons (pv 0) pa_nil))) pa_nil))) (pe_tup (pa_cons pe_int (pa_cons pe_int pa_nil))) (nomark _)) (pe_one (pe_cmpR (op_eqD hr.units) (pe_cal c_total hr (by rfl) (pa_cons (pe_lst (pa_cons (pe_tup (pa_cons (pv 0) (pa_cons pe_int pa_nil))) (pa_cons (pe_tup (pa_cons pe_int (pa_cons pe_int pa_nil))) (pa_cons (pe_tup (pa_cons (pe_un un_neg (pv 0)) (pa_cons pe_int pa_nil))) pa_nil)))) pa_nil)) (pe_tup (pa_cons pe_int (pa_cons pe_int pa_nil))) (nomark _)))))))))), ?_⟩
    refine ⟨15, rfl, by decide, by decide, for_range (lo := 0) (n := 15) (fun i σ H' => H' = H ∧ ∃ v, σ = [some (.int ((10 : Int) ^ (60 * i))), v]) ⟨rfl, none, rfl⟩ ?_ ?_⟩
    · rintro i σ H' hi ⟨rfl, v, rfl⟩
      have b1 : ((10 : Int) ^ (60 * i)).natAbs < 2 ^ 4000 := by
        rw [Int.natAbs_pow]
        exact Nat.lt_of_le_of_lt (Nat.pow_le_pow_right (n := (10 : Int).natAbs) (i := 60 * i) (j := 900) (by decide) (by omega)) (by decide +kernel)
      refine ⟨_, rfl, _, _, rfl, rfl, ⟨by decide, by decide, by decide⟩, _, _, rfl, rfl, cmul (a := 4000) (b := 4000) b1 (by decide +kernel), rfl, some (.int (0 + i)), ?_⟩
      have e : (10 : Int) ^ (60 * i) * 10 ^ (60 : Int).toNat = 10 ^ (60 * (i + 1)) := by
        rw [show (60 : Int).toNat = 60 from rfl, ← Int.pow_add]
        rfl
      rw [← e]
      rfl
    · rintro σ H' ⟨rfl, v, rfl⟩
      have e : (10 : Int) ^ (60 * 15) = far := by unfold far; rfl
      rw [e]
      have S : ∀ {G G' : Hp} {p : Addr} {o : HO}, Same G G' → G' p = none → Same G (upd G' p o) := fun s n => s.trans (same_upd n)
      have r0 := Same.refl H'
      -- below((far - 1, far), (1, 1)) is not True
      refine ⟨_, rfl, _, _, rfl, rfl, _, rfl, sz2, fun p1 n1 => ⟨sz2, fun p2 n2 => ⟨p1, p2, (far - 1, far), (1, 1), rfl, same_upd n2 _ _ upd_same, upd_same, big_far1, big_far, big_s, big_s, ?_⟩⟩⟩
      refine ⟨true, true, by rw [gr1], rfl, _, rfl, iteF ?_⟩
      have s2 := S (o := .tup [.int 1, .int 1]) (S (o := .tup [.int (far - 1), .int far]) r0 n1) n2
      refine ⟨sz2, fun p3 n3 => ⟨_, rfl, _, _, rfl, rfl, _, rfl, sz2, fun p4 n4 => ⟨p3, p4, (1, 1), (far - 1, far), rfl, same_upd n4 _ _ upd_same, upd_same, big_s, big_s, big_far1, big_far, ?_⟩⟩⟩
      refine ⟨false, false, by rw [gr2], rfl, _, rfl, iteF ?_⟩
      have s4 := S (o := .tup [.int (far - 1), .int far]) (S (o := .tup [.int 1, .int 1]) s2 n3) n4
      refine ⟨_, rfl, _, rfl, sz2, fun p5 n5 => ⟨_, rfl, sz2, fun p6 n6 => ⟨p5, p6, (-far, 1), (far, 1), rfl, same_upd n6 _ _ upd_same, upd_same, big_nfar, big_s, big_far, big_s, ?_⟩⟩⟩
      refine ⟨true, true, by rw [gr3], rfl, _, rfl, iteF ?_⟩
      have s6 := S (o := .tup [.int far, .int 1]) (S (o := .tup [.int (-far), .int 1]) s4 n5) n6
      refine ⟨_, rfl, sz2, fun p7 n7 => ⟨_, rfl, _, rfl, sz2, fun p8 n8 => ⟨p7, p8, (far, 1), (-far, 1), rfl, same_upd n8 _ _ upd_same, upd_same, big_far, big_s, big_nfar, big_s, ?_⟩⟩⟩
      refine ⟨false, false, by rw [gr4], rfl, _, rfl, iteF ?_⟩
      have s8 := S (o := .tup [.int (-far), .int 1]) (S (o := .tup [.int far, .int 1]) s6 n7) n8
      -- product((far, 7), (21, far)) == (3, 1)
      refine ⟨_, rfl, sz2, fun p9 n9 => ⟨_, rfl, sz2, fun p10 n10 => ⟨p9, p10, (far, 7), (21, far), rfl, same_upd n10 _ _ upd_same, upd_same, gr7, gr8, big_far, big_s, big_s, big_far, fun p H1 s1 _ hp => ?_⟩⟩⟩
      have s10 := (S (o := .tup [.int 21, .int far]) (S (o := .tup [.int far, .int 7]) s8 n9) n10).trans s1
      rw [gr5] at hp
      refine ⟨sz2, fun p11 n11 => ?_⟩
      refine ⟨_, _, dp_fra (same_upd n11 _ _ hp), dp_fra (f := (3, 1)) upd_same, rfl, rfl, true, by rw [eqv_fra], iteT ?_⟩
      have s11 := S (o := .tup [.int 3, .int 1]) s10 n11
      -- total([(far, 1), (1, 2), (-far, 1)]) == (1, 2)
      refine ⟨_, rfl, sz2, fun q1 m1 => ⟨sz2, fun q2 m2 => ⟨_, rfl, _, rfl, sz2, fun q3 m3 => ⟨by show 3 ≤ sizeLine; decide, fun l ml => ?_⟩⟩⟩⟩
      have t2 := same_upd (o := .tup [.int 1, .int 2]) m2
      have t3 := same_upd (o := .tup [.int (-far), .int 1]) m3
      have t4 := same_upd (o := .lst [V.ref q1, V.ref q2, V.ref q3]) ml
      refine ⟨l, [q1, q2, q3], [(far, 1), (1, 2), (-far, 1)], rfl, upd_same, ⟨t4 _ _ (t3 _ _ (t2 _ _ upd_same)), t4 _ _ (t3 _ _ upd_same), t4 _ _ upd_same, trivial⟩, ?_, gr10, fun p H2 z1 _ hp2 => ?_⟩
      · intro f hf
        simp only [List.mem_cons, List.not_mem_nil, or_false] at hf
        rcases hf with rfl | rfl | rfl
        · exact ⟨ok_far, big_far, big_s⟩
        · exact ⟨gr9, big_s, big_s⟩
        · exact ⟨ok_far, big_nfar, big_s⟩
      rw [gr6] at hp2
      refine ⟨sz2, fun p12 n12 => ?_⟩
      refine ⟨_, _, dp_fra (same_upd n12 _ _ hp2), dp_fra (f := (1, 2)) upd_same, rfl, rfl, ?_⟩
      rw [eqv_fra]
      exact q _ (S ((((S s11 m1).trans t2).trans t3).trans t4 |>.trans z1) n12)
end
section
variable {P : Program} {w : World} {K : PySem.W.Frag} {mg : Str → Option Value} {base : Heap}
/-! ### sizes -/
theorem plus_b {f h : Int × Int} {a : Nat} (f1 : f.1.natAbs < 2 ^ a) (f2 : f.2.natAbs < 2 ^ a) (h1 : h.1.natAbs < 2 ^ 40) (h2 : h.2.natAbs < 2 ^ 40) : (Fr.plus f h).1.natAbs < 2 ^ (a + 41) ∧ (Fr.plus f h).2.natAbs < 2 ^ (a + 41) := by
  have e1 := wide_lt f1 h2
  have e2 := wide_lt h1 f2
  have e3 := wide_lt f2 h2
  have p : 2 ^ (a + 41) = 2 ^ (a + 40) + 2 ^ (a + 40) := by
    rw [show a + 41 = (a + 40) + 1 from rfl, Nat.pow_succ]
    omega
  have c : 2 ^ (40 + a) = 2 ^ (a + 40) := by rw [Nat.add_comm]
  rw [c] at e2
  refine ⟨low_bl ?_, low_br ?_⟩
  · rw [p]
    omega
  · rw [p]
    omega
theorem fold_b : ∀ (fs : List (Int × Int)) (z : Int × Int) (a : Nat), z.1.natAbs < 2 ^ a → z.2.natAbs < 2 ^ a → (∀ f ∈ fs, Sml f) → (fs.foldl Fr.plus z).1.natAbs < 2 ^ (a + 41 * fs.length) ∧ (fs.foldl Fr.plus z).2.natAbs < 2 ^ (a + 41 * fs.length)
  | [], z, a, h1, h2, _ => ⟨h1, h2⟩
  | f :: fs, z, a, h1, h2, h => by
    have s := h f List.mem_cons_self
    have b := plus_b h1 h2 s.b1 s.b2
    have r := fold_b fs (Fr.plus z f) (a + 41) b.1 b.2 fun g m => h g (List.mem_cons_of_mem _ m)
    rw [show a + 41 * (f :: fs).length = a + 41 + 41 * fs.length by rw [List.length_cons]; omega]
    exact r
theorem sum_b {fs : List (Int × Int)} (h : ∀ f ∈ fs, Sml f) (hl : fs.length ≤ 8) : Big (sumF fs).1 ∧ Big (sumF fs).2 := by
  have b := fold_b fs (0, 1) 1 (by decide) (by decide) h
  have e : 1 + 41 * fs.length ≤ 4000 := by omega
  exact ⟨Nat.lt_of_lt_of_le b.1 (Nat.pow_le_pow_right (by decide) e), Nat.lt_of_lt_of_le b.2 (Nat.pow_le_pow_right (by decide) e)⟩
theorem sum_bt {fs : List (Int × Int)} (h : ∀ f ∈ fs, Sml f) (hl : fs.length ≤ 8) (i : Nat) : Big (sumF (fs.take i)).1 ∧ Big (sumF (fs.take i)).2 :=
  sum_b (fun f m => h f (List.mem_of_mem_take m)) (by rw [List.length_take]; omega)
theorem sml_big {x : Int} (h : x.natAbs < 2 ^ 40) : Big x := Nat.lt_of_lt_of_le h (Nat.pow_le_pow_right (by decide) (by decide))
theorem Sml.bg {f : Int × Int} (s : Sml f) : Fr.Ok f ∧ Big f.1 ∧ Big f.2 := ⟨s.ok, sml_big s.b1, sml_big s.b2⟩
theorem sum_one {f : Int × Int} (F : Fr.Ok f) : sumF [f] = f := by
  show Fr.plus (0, 1) f = f
  unfold Fr.plus
  rw [show (0, (1 : Int)).1 * f.2 + f.1 * (0, (1 : Int)).2 = f.1 by simp, show (0, (1 : Int)).2 * f.2 = f.2 by simp]
  exact Fr.low_self F
theorem mul_comm {f h : Int × Int} : Fr.mul f h = Fr.mul h f := by
  unfold Fr.mul
  rw [Int.mul_comm f.1, Int.mul_comm f.2]
/-! ### lists of fractions compared -/
def dF (fs : List (Int × Int)) : List PyData := fs.map fun f => .tuple [.int f.1, .int f.2]
theorem dp_fras {H : Hp} : ∀ {as : List Addr} {fs : List (Int × Int)}, Fras H as fs → DpAll K H (as.map V.ref) (dF fs)
  | [], [], _ => .nil
  | _ :: _, _ :: _, h => .cons (dp_fra h.1) (dp_fras h.2)
  | [], _ :: _, h => h.elim
  | _ :: _, [], h => h.elim
theorem eqv_dF : ∀ fs : List (Int × Int), PyData.eqvAll (dF fs) (dF fs) = true
  | [] => by simp [dF, PyData.eqvAll]
  | f :: fs => by
    have ih := eqv_dF fs
    show PyData.eqvAll (_ :: dF fs) (_ :: dF fs) = true
    rw [PyData.eqvAll, ih, eqv_fra]
    rfl
theorem lay_dF : ∀ fs : List (Int × Int), PyData.canLayAll0 (dF fs) = true
  | [] => by simp [dF, PyData.canLayAll0]
  | f :: fs => by
    have ih := lay_dF fs
    show PyData.canLayAll0 (_ :: dF fs) = true
    simp only [PyData.canLayAll0, ih, PyData.canLay0, Bool.and_true]
theorem dep_dF : ∀ fs : List (Int × Int), PyData.depthAll (dF fs) ≤ 8
  | [] => by simp [dF, PyData.depthAll]
  | f :: fs => by
    have ih := dep_dF fs
    show PyData.depthAll (_ :: dF fs) ≤ 8
    simp only [PyData.depthAll, PyData.depth]
    omega
theorem shaped_dF (fs : List (Int × Int)) : SeqAt.shaped (.list (dF fs)) = true := by
  unfold SeqAt.shaped
  have h1 := lay_dF fs
  have h2 := dep_dF fs
  have e : PyData.depth (.list (dF fs)) = PyData.depthAll (dF fs) + 1 := by simp only [PyData.depth]
  rw [PyData.canLay0, h1, Bool.true_and, e]
  exact decide_eq_true (by omega)
end
section
variable {P : Program} {w : World} {K : PySem.W.Frag} {mg : Str → Option Value} {base : Heap}
theorem Kp.seq' {p a : Addr} {H H' : Hp} {xs : List V} (k : Kp p H H') (n : H p = none) (h : SqL K H a xs) : SqL K H' a xs := by
  rcases h with (h | ⟨o, h⟩) | h
  · exact .inl (.inl (k _ _ (ne_of_none h n) h))
  · exact .inl (.inr ⟨o, k _ _ (ne_of_none h n) h⟩)
  · exact .inr h
/-- from a heap in which p is free -/
theorem Kp.sm {p : Addr} {H H1 H' : Hp} (s : Same H H1) (n : H p = none) (k : Kp p H1 H') : Same H H' := fun b o e => k b o (ne_of_none e n) (s b o e)
theorem Fras.kp {p : Addr} {H H' : Hp} (k : Kp p H H') {as : List Addr} {fs : List (Int × Int)} (n : ∀ x ∈ as, x ≠ p) (h : Fras H as fs) : Fras H' as fs := h.mono fun a f m e => k _ _ (n a m) e
def spLaw (K : PySem.W.Frag) : Sp := fun vs H Q _ => ∃ (a : Addr) (ns : List Int), vs = [.ref a] ∧ SqL K H a (ns.map V.int) ∧ ns.length ≤ 63 ∧ ∀ H', Q (.bl true) H'
abbrev s_law : Stmt := top 24
theorem sc_law : FnScope ["_law_script", "_law_at", "_law_pile_here", "_law_some", "_law_my_one", "_law_my_other", "_law_due", "_law_number_here", "_law_handed", "_law_near", "_law_a", "_law_b", "_law_less", "_law_told", "_law_k"] ["_law_script"] (defScope s_law) := ⟨rfl, rfl, rfl, by decide +kernel, rfl, by decide +kernel, by decide +kernel⟩
/-- a pair of two fractions, as the law's last loop walks them -/
def PairAt (H : Hp) (x : V) : Prop := ∃ (T u v : Addr) (f h : Int × Int), x = .ref T ∧ H T = some (.tup [.ref u, .ref v]) ∧ Fra H u f ∧ Fra H v h ∧ Big f.1 ∧ Big f.2 ∧ Big h.1 ∧ Big h.2
theorem PairAt.same {H H' : Hp} {x : V} (s : Same H H') (h : PairAt H x) : PairAt H' x := by
  obtain ⟨T, u, v, f, h, e, a, b, c, r⟩ := h
  exact ⟨T, u, v, f, h, e, s _ _ a, s _ _ b, s _ _ c, r⟩
theorem ok_law {f : Addr} {fd : FuncData} (F : Fun K "law" "law" s_law f fd) (T : Txt mg)
    (c_total : Cal P w K mg base 3 "total" ["numbers"] spTot) (c_total_kw : CalK P w K mg base 3 "total" ["numbers"] spTot 0 ["numbers"] (fun _ zs => zs))
    (c_product : Cal P w K mg base 3 "product" ["one", "other"] spPro) (c_product_kw : CalK P w K mg base 3 "product" ["one", "other"] spPro 0 ["other", "one"] (fun _ zs => zs.reverse))
    (c_below : Cal P w K mg base 1 "below" ["one", "other"] spBel) (c_below_kw : CalK P w K mg base 1 "below" ["one", "other"] spBel 0 ["other", "one"] (fun _ zs => zs.reverse))
    (c__law_pile : Cal P w K mg base 1 "_law_pile" ["_law_script", "_law_k"] (spPile K)) (c__law_take : Cal P w K mg base 2 "_law_take" ["_law_pile_here", "_law_many"] spTake)
    (c__law_lowest : Cal P w K mg base 1 "_law_lowest" ["_law_top", "_law_bottom"] spLow) (c__law_number : Cal P w K mg base 3 "_law_number" ["_law_pile_here"] spNum)
    (c__law_plus : Cal P w K mg base 2 "_law_plus" ["_law_my_one", "_law_my_other"] spPlus) (c__law_is : Cal P w K mg base 2 "_law_is" ["_law_found", "_law_top", "_law_bottom"] spIs) (c__law_great : Cal P w K mg base 4 "_law_great" [] spGreat) :
    FnOk P w K mg base CX0 5 f fd ["_law_script"] (spLaw K) := by
  refine F.ok sc_law (fun vs H Q E h => ?_) (fun cdv A outer s H vs Q E hr h => ?_)
  · obtain ⟨a, ns, rfl, _⟩ := h
    rfl
  · obtain ⟨a, ns, rfl, hS, hlen, q⟩ := h
    refine ⟨_, (pss_cons (ps_for PassesOwn.never rfl (pi_range1 (by rfl) T.range (pa_cons pe_int pa_nil)) (pg_name (i := 1) sc_law.nd rfl (Or.inl rfl))
        (pss_cons (ps_set (i := 2) sc_law.nd rfl (Or.inr rfl) (pe_cal c__law_pile hr (by rfl) (pa_cons (pv 0) (pa_cons (pv 1) pa_nil))))
          (pss_cons (ps_setLc (i := 3) (own := [("_law_k", 14)]) (by rfl) sc_law.nd rfl rfl (sw_true rfl rfl rfl (by decide +kernel)) (pi_range1 (by rfl) T.range (pa_cons (pe_cal c__law_take hr (by rfl) (pa_cons (pv 2) (pa_cons pe_int pa_nil))) pa_nil)) (blkOk_by (own := [("_law_k", 14)]) (N := ["_law_script", "_law_at", "_law_pile_here", "_law_some", "_law_my_one", "_law_my_other", "_law_due", "_law_number_here", "_law_handed", "_law_near", "_law_a", "_law_b", "_law_less", "_law_told", "_law_k"]) (sc := defScope s_law) (by decide +kernel)) (fun _ _ _ _ _ => (pg_name (i := 14) sc_law.nd rfl (Or.inl rfl))) (fun _ _ _ _ _ => pts_nil) (fun _ _ _ _ _ => (pe_cal c__law_number hr (by rfl) (pa_cons (pv 2) pa_nil))))
          (pss_cons (ps_par (i := 4) (j := 5) (by rfl) sc_law.nd rfl rfl (by decide) rfl rfl (pa_cons (pe_cal c__law_number hr (by rfl) (pa_cons (pv 2) pa_nil)) (pa_cons (pe_cal c__law_number hr (by rfl) (pa_cons (pv 2) pa_nil)) pa_nil)) (by rfl))
          (pss_cons (ps_set (i := 6) sc_law.nd rfl (Or.inl rfl) (pe_tup (pa_cons pe_int (pa_cons pe_int pa_nil))))
          (pss_cons (ps_for PassesOwn.never rfl (pi_list (pv 3)) (pg_name (i := 7) sc_law.nd rfl (Or.inl rfl))
            (pss_one (ps_set (i := 6) sc_law.nd rfl (Or.inl rfl) (pe_cal c__law_plus hr (by rfl) (pa_cons (pv 6) (pa_cons (pv 7) pa_nil))))))
          (pss_cons (ps_set (i := 8) sc_law.nd rfl (Or.inl rfl) (pe_callTy call_list_of (by rfl) T.list_ (by decide +kernel) (pa_cons (pv 3) pa_nil)))
          (pss_cons (ps_if (PW.pt (pw_or (pt_not (pt_val (pe_cal c__law_is hr (by rfl) (pa_cons (pe_cal c_total hr (by rfl) (pa_cons (pv 8) pa_nil)) (pa_cons (pe_ix ix_tup (pv 6) pe_int (fun _ _ => rfl)) (pa_cons (pe_ix ix_tup (pv 6) pe_int (fun _ _ => rfl)) pa_nil)))))) (pw_or (pt_cmpR (op_neD hr.units) (pe_calK0 c_total_kw hr (by rfl) (pk_cons (pv 8) pk_nil)) (pv 6) (nomark _)) (pw_or1 (pt_cmpR (op_neD hr.units) (pv 8) (pv 3) (nomark _))))))
            (pss_one (ps_ret pe_bl))
            pss_nil)
          (pss_cons (ps_expr (pe_bm PySem.F.plainAttrs_list PySem.F.slot_list_append PySem.F.type_list_append mt_append (pv 8) (pa_cons (pv 4) pa_nil)))
          (pss_cons (ps_set (i := 6) sc_law.nd rfl (Or.inl rfl) (pe_cal c__law_plus hr (by rfl) (pa_cons (pv 6) (pa_cons (pv 4) pa_nil))))
          (pss_cons (ps_if (pt_not (pt_val (pe_cal c__law_is hr (by rfl) (pa_cons (pe_cal c_total hr (by rfl) (pa_cons (pv 8) pa_nil)) (pa_cons (pe_ix ix_tup (pv 6) pe_int (fun _ _ => rfl)) (pa_cons (pe_ix ix_tup (pv 6) pe_int (fun _ _ => rfl)) pa_nil))))))
            (pss_one (ps_ret pe_bl))
            pss_nil)
          (pss_cons (ps_if (pt_not (pt_val (pe_cal c__law_is hr (by rfl) (pa_cons (pe_cal c_product hr (by rfl) (pa_cons (pv 4) (pa_cons (pv 5) pa_nil))) (pa_cons (pe_op op_mulW (pe_ix ix_tup (pv 4) pe_int (fun _ _ => rfl)) (pe_ix ix_tup (pv 5) pe_int (fun _ _ => rfl))) (pa_cons (pe_op op_mulW (pe_ix ix_tup (pv 4) pe_int (fun _ _ => rfl)) (pe_ix ix_tup (pv 5) pe_int (fun _ _ => rfl))) pa_nil))))))
            (pss_one (ps_ret pe_bl))
            pss_nil)
          (pss_cons (ps_if (PW.pt (pw_or (pt_cmpR (op_neD hr.units) (pe_calK0 c_product_kw hr (by rfl) (pk_cons (pv 4) (pk_cons (pv 5) pk_nil))) (pe_cal c_product hr (by rfl) (pa_cons (pv 4) (pa_cons (pv 5) pa_nil))) (nomark _)) (pw_or1 (pt_cmpR (op_neD hr.units) (pe_cal c_total hr (by rfl) (pa_cons (pe_lst (pa_cons (pv 4) pa_nil)) pa_nil)) (pv 4) (nomark _)))))
            (pss_one (ps_ret pe_bl))
            pss_nil)
          (pss_cons (ps_set (i := 9) sc_law.nd rfl (Or.inl rfl) (pe_cal c__law_lowest hr (by rfl) (pa_cons (pe_op op_add (pe_op op_mulW (pe_ix ix_tup (pv 4) pe_int (fun _ _ => rfl)) (pe_op op_pow pe_int pe_int)) (pe_ix ix_tup (pv 4) pe_int (fun _ _ => rfl))) (pa_cons (pe_op op_mulW (pe_ix ix_tup (pv 4) pe_int (fun _ _ => rfl)) (pe_op op_pow pe_int pe_int)) pa_nil))))
          (pss_one (ps_for PassesOwn.never rfl (pi_list (pe_lst (pa_cons (pe_tup (pa_cons (pv 4) (pa_cons (pv 5) pa_nil))) (pa_cons (pe_tup (pa_cons (pv 5) (pa_cons (pv 4) pa_nil))) (pa_cons (pe_tup (pa_cons (pv 4) (pa_cons (pv 4) pa_nil))) (pa_cons (pe_tup (pa_cons (pv 4) (pa_cons (pv 9) pa_nil))) (pa_cons (pe_tup (pa_cons (pv 9) (pa_cons (pv 4) pa_nil))) pa_nil))))))) (pg_tup rfl (pgs_cons (pg_name (i := 10) sc_law.nd rfl (Or.inl rfl)) (pgs_cons (pg_name (i := 11) sc_law.nd rfl (Or.inl rfl)) pgs_nil)))
            (pss_cons (ps_set (i := 12) sc_law.nd rfl (Or.inl rfl) (pe_cmpR op_lt (pe_op op_mulW (pe_ix ix_tup (pv 10) pe_int (fun _ _ => rfl)) (pe_ix ix_tup (pv 11) pe_int (fun _ _ => rfl))) (pe_op op_mulW (pe_ix ix_tup (pv 11) pe_int (fun _ _ => rfl)) (pe_ix ix_tup (pv 10) pe_int (fun _ _ => rfl))) (nomark _)))
              (pss_cons (ps_set (i := 13) sc_law.nd rfl (Or.inl rfl) (pe_cal c_below hr (by rfl) (pa_cons (pv 10) (pa_cons (pv 11) pa_nil))))
              (pss_one (ps_if (PW.pt (pw_or (pt_not (pt_val (pe_callB (id := "isinstance") (r := rIsi K) call_isi (by rfl) T.isinstance (by decide +kernel) (pa_cons (pv 13) (pa_cons (pe_bltn (v := .ty "bool") (by rfl) T.bool_ (by decide +kernel) rfl) pa_nil))))) (pw_or (pt_cmpR op_ne (pv 13) (pv 12) (nomark _)) (pw_or1 (pt_cmpR op_ne (pe_calK0 c_below_kw hr (by rfl) (pk_cons (pv 11) (pk_cons (pv 10) pk_nil))) (pv 12) (nomark _))))))
                (pss_one (ps_ret pe_bl))
                pss_nil))))))))))))))))))))
      (pss_one (ps_ret (pe_and (pe_cmpR (op_eqD hr.units) (pe_cal c_total hr (by rfl) (pa_cons (pe_lst pa_nil) pa_nil)) (pe_tup (pa_cons pe_int (pa_cons pe_int pa_nil))) (nomark _)) (pe_one (pe_cal0 c__law_great hr (by rfl))))))), ?_⟩
    refine ⟨40, rfl, by decide, by decide, for_range (lo := 0) (n := 40) (fun i σ H' => Same H H' ∧ ∃ v1 v2 v3 v4 v5 v6 v7 v8 v9 v10 v11 v12 v13 v14, σ = [some (.ref a), v1, v2, v3, v4, v5, v6, v7, v8, v9, v10, v11, v12, v13, v14])
      ⟨Same.refl H, none, none, none, none, none, none, none, none, none, none, none, none, none, none, rfl⟩ ?_ ?_⟩
    · rintro i σ H0 hi ⟨s0, v1, v2, v3, v4, v5, v6, v7, v8, v9, v10, v11, v12, v13, v14, rfl⟩
      -- pile
      refine ⟨_, rfl, _, rfl, a, ns, _, rfl, s0.seq hS, by omega, fun p H1 s1 np0 P1 => ?_⟩
      have np : H p = none := s0.free np0
      have sa : Same H H1 := s0.trans s1
      -- some = [number(pile) for k in range(take(pile, 7))]
      refine ⟨_, rfl, p, 7, rfl, by decide, by decide, P1, fun d H2 d0 d1 k2 P2 => ?_⟩
      have sb : Same H H2 := Kp.sm sa np k2
      refine ⟨d, rfl, by omega, by omega, fun D nD => ?_⟩
      have nD0 : H D = none := sb.free nD
      refine lc_range (lo := 0) (n := d.toNat) (fun i H' => Kp p H2 H' ∧ Pile H' p ∧ ∃ (as : List Addr) (fs : List (Int × Int)), H' D = some (.lst (as.map V.ref)) ∧ Fras H' as fs ∧ (∀ f ∈ fs, Sml f) ∧ as.length = i ∧ (∀ x ∈ as, x ≠ p ∧ x ≠ D ∧ H x = none)) ?_ ?_ ?_
      · exact ⟨Kp.of (same_upd nD), P2.new nD, [], [], upd_same, trivial, (fun _ h => nomatch h), rfl, (fun _ h => nomatch h)⟩
      · rintro j H3 hj ⟨k3, P3, as, fs, hD, hf, hs, hl, hn⟩
        refine ⟨rfl, ?_⟩
        dsimp only [tYes]
        rw [if_pos rfl]
        refine ⟨_, rfl, p, rfl, P3, fun q4 H4 f k4 P4 nq hq sf => ?_⟩
        have Dp : D ≠ p := by
          obtain ⟨x, y, z, e⟩ := P2
          exact (ne_of_none e nD).symm
        have hD4 := k4 _ _ Dp hD
        have qD : q4 ≠ D := (ne_of_none hD nq).symm
        have qp : q4 ≠ p := pile_ne (H' := H) P3 nq
        have k24 := k3.trans k4
        refine ⟨_, hD4, small1000 (by rw [List.length_map, hl]; omega), ?_⟩
        refine ⟨fun b o n e => ?_, ?_, as ++ [q4], fs ++ [f], ?_, ?_, ?_, ?_, ?_⟩
        · rw [upd_ne (ne_of_none e nD)]
          exact k24 _ _ n e
        · obtain ⟨x, y, z, e⟩ := P4
          exact ⟨x, y, z, by rw [upd_ne Dp.symm]; exact e⟩
        · rw [upd_same, List.map_append]
          rfl
        · refine Fras.mono (H := H4) (fun x g m e => ?_) (Fras.app (hf.kp k4 fun x m => (hn x m).1) hq)
          have : x ≠ D := by
            rcases List.mem_append.mp m with m | m
            · exact (hn x m).2.1
            · rw [List.mem_singleton.mp m]; exact qD
          show upd H4 D _ x = _
          rw [upd_ne this]
          exact e
        · intro g m
          rcases List.mem_append.mp m with m | m
          · exact hs g m
          · rw [List.mem_singleton.mp m]; exact sf
        · rw [List.length_append, List.length_singleton, hl]
        · intro x m
          rcases List.mem_append.mp m with m | m
          · exact hn x m
          · rw [List.mem_singleton.mp m]
            exact ⟨qp, qD, sb.free (k3.free nq qp)⟩
      · rintro H3 ⟨k3, P3, as, fs, hD, hf, hs, hl, hn⟩
        have sc : Same H H3 := Kp.sm sb np k3
        have hfl : fs.length ≤ 6 := by
          have := hf.len
          omega
        have Dp : D ≠ p := by
          obtain ⟨x, y, z, e⟩ := P2
          exact (ne_of_none e nD).symm
        -- my_one, my_other
        refine ⟨_, rfl, p, rfl, P3, fun q1 H4 f1 k4 P4 nq1 hq1 sf1 => ?_⟩
        refine ⟨_, rfl, p, rfl, P4, fun q2 H5 f2 k5 P5 nq2 hq2 sf2 => ?_⟩
        have q1p : q1 ≠ p := pile_ne (H' := H) P3 nq1
        have hD5 := k5 _ _ Dp (k4 _ _ Dp hD)
        have hf5 := (hf.kp k4 fun x m => (hn x m).1).kp k5 fun x m => (hn x m).1
        have h15 : Fra H5 q1 f1 := k5 _ _ q1p hq1
        have sd : Same H H5 := Kp.sm (Kp.sm sc np k4) np k5
        clear hD hf k2 k3 k4 k5 hq1 P1 P2 P3 P4 P5
        refine ⟨_, _, rfl, ?_⟩
        -- due = (0, 1)
        refine ⟨sz2, fun r nr => ?_⟩
        have s6 := same_upd (o := .tup [.int 0, .int 1]) nr
        refine ⟨_, rfl, D, rfl, ⟨_, .inl (.inl (s6 _ _ hD5))⟩, for_list (K := K) (a := D) (xs := as.map V.ref) (fun j σ H' => Same H5 H' ∧ ∃ (r : Addr) (v7 : Option V), σ = [some (.ref a), some (.int (0 + ↑i)), some (.ref p), some (.ref D), some (.ref q1), some (.ref q2), some (.ref r), v7, v8, v9, v10, v11, v12, v13, v14] ∧ Fra H' r (sumF (fs.take j)))
          ⟨s6, r, v7, rfl, upd_same⟩ (fun i σ H' _ ⟨s', _⟩ => .inl (.inl (s' _ _ hD5))) ?_ ?_⟩
        · rintro j x σ H' hj ⟨s', r, v7, rfl, hr'⟩
          rw [List.getElem?_map] at hj
          obtain ⟨b, hb1, hx⟩ := Option.map_eq_some_iff.mp hj
          subst hx
          obtain ⟨f, hf1, hf2⟩ := hf5.get hb1
          have O := (hs f (List.mem_of_getElem? hf1)).bg
          have S := sum_ok (fs := fs.take j) fun g m => (hs g (List.mem_of_mem_take m)).ok
          have B := sum_bt hs (by omega) j
          refine ⟨_, rfl, _, rfl, r, b, sumF (fs.take j), f, rfl, hr', s' _ _ hf2, S, O.1, B.1, B.2, O.2.1, O.2.2, fun p hp => ?_⟩
          refine ⟨s'.trans (same_upd hp), p, _, rfl, ?_⟩
          rw [take_succ hf1, sum_app]
          exact upd_same
        · rintro σ H6 ⟨s6, r, v7, rfl, hr6⟩
          have e6 : fs.take (as.map V.ref).length = fs := List.take_of_length_le (by rw [List.length_map, hf5.len]; exact Nat.le_refl _)
          rw [e6] at hr6
          have OS := sum_ok (fs := fs) fun g m => (hs g m).ok
          have BS := sum_b hs (by omega)
          have BT := sum_bt hs (by omega)
          have hs' : ∀ f ∈ fs, Fr.Ok f ∧ Big f.1 ∧ Big f.2 := fun f m => (hs f m).bg
          -- handed = list(some)
          refine ⟨_, rfl, D, _, rfl, .inl (.inl (.inl (s6 _ _ hD5))), fun hd nhd => ?_⟩
          have s7 := same_upd (o := .lst (as.map V.ref)) nhd
          have s57 := s6.trans s7
          -- total(handed)
          refine ⟨_, rfl, hd, as, fs, rfl, upd_same, hf5.same s57, hs', BT, fun p8 H8 s8 _ hp8 => ?_⟩
          have r8 : Fra H8 r (sumF fs) := s8 _ _ (s7 _ _ hr6)
          refine ⟨_, rfl, r, _, _, _, rfl, rfl, .inl (.inl r8), at0, _, rfl, r, _, _, _, rfl, rfl, .inl (.inl r8), at1, ?_⟩
          refine ⟨p8, _, _, rfl, OS.pos, big8 BS.2, by rw [Fr.low_self OS]; exact hp8, fun H9 s9 => ?_⟩
          refine ⟨_, rfl, iteF ?_⟩
          have s79 := s8.trans s9
          -- total(numbers=handed) != due
          refine ⟨_, rfl, rfl, rfl, hd, as, fs, rfl, s79 _ _ upd_same, hf5.same (s57.trans s79), hs', BT, fun p10 H10 s10 _ hp10 => ?_⟩
          have s710 := s79.trans s10
          refine ⟨_, rfl, _, _, dp_fra hp10, dp_fra (s710 _ _ (s7 _ _ hr6)), rfl, rfl, _, rfl, ?_⟩
          rw [eqv_fra]
          refine iteF ?_
          -- handed != some
          have hf10 := hf5.same (s57.trans s710)
          refine ⟨_, rfl, _, rfl, _, _, .lst (.inl (.inl (s710 _ _ upd_same))) (dp_fras hf10), .lst (.inl (.inl (s710 _ _ (s7 _ _ (s6 _ _ hD5))))) (dp_fras hf10), shaped_dF fs, shaped_dF fs, _, rfl, ?_⟩
          rw [show PyData.eqv (.list (dF fs)) (.list (dF fs)) = true by rw [PyData.eqv]; exact eqv_dF fs]
          refine iteF ?_
          -- handed.append(my_one)
          refine ⟨_, rfl, .inl ⟨rfl, _, .inl (.inl (s710 _ _ upd_same))⟩, _, rfl, hd, _, _, rfl, rfl, s710 _ _ upd_same, small1000 (by rw [List.length_map]; have := hf5.len; omega), ?_⟩
          have s611 : Same H6 (upd H10 hd (.lst (as.map V.ref ++ [V.ref q1]))) := same_mut (s7.trans s710) nhd
          have eL : as.map V.ref ++ [V.ref q1] = (as ++ [q1]).map V.ref := by rw [List.map_append]; rfl
          have hL := upd_same (H := H10) (a := hd) (o := .lst (as.map V.ref ++ [V.ref q1]))
          rw [eL] at s611 hL ⊢
          generalize hH11 : upd H10 hd (.lst ((as ++ [q1]).map V.ref)) = H11 at s611 hL ⊢
          have g1 : Fra H11 q1 f1 := s611 _ _ (s6 _ _ h15)
          have g2 : Fra H11 q2 f2 := s611 _ _ (s6 _ _ hq2)
          have gr : Fra H11 r (sumF fs) := s611 _ _ hr6
          have gf : Fras H11 (as ++ [q1]) (fs ++ [f1]) := (hf5.same (s6.trans s611)).app g1
          have B1 := sf1.bg
          have B2 := sf2.bg
          have S11 : Same H H11 := sd.trans (s6.trans s611)
          clear hH11 s611 s710 s79 s10 s9 s8 s57 s7 hp8 hp10 hf10 r8
          -- due = plus(due, my_one)
          refine ⟨_, rfl, _, rfl, r, q1, sumF fs, f1, rfl, gr, g1, OS, B1.1, BS.1, BS.2, B1.2.1, B1.2.2, fun r2 nr2 => ?_⟩
          have s12 := same_upd (o := .tup [.int (Fr.plus (sumF fs) f1).1, .int (Fr.plus (sumF fs) f1).2]) nr2
          have hr2 := upd_same (H := H11) (a := r2) (o := .tup [.int (Fr.plus (sumF fs) f1).1, .int (Fr.plus (sumF fs) f1).2])
          rw [← sum_app] at s12 hr2 ⊢
          generalize hH12 : upd H11 r2 (.tup [.int (sumF (fs ++ [f1])).1, .int (sumF (fs ++ [f1])).2]) = H12 at s12 hr2 ⊢
          have hs2 : ∀ f ∈ fs ++ [f1], Sml f := fun f m => by
            rcases List.mem_append.mp m with m | m
            · exact hs f m
            · rw [List.mem_singleton.mp m]; exact sf1
          have hl2 : (fs ++ [f1]).length ≤ 8 := by
            rw [List.length_append, List.length_singleton]
            omega
          have OS2 := sum_ok (fs := fs ++ [f1]) fun g m => (hs2 g m).ok
          have BS2 := sum_b hs2 hl2
          -- total(handed)
          refine ⟨_, rfl, hd, as ++ [q1], fs ++ [f1], rfl, s12 _ _ hL, gf.same s12, fun f m => (hs2 f m).bg, sum_bt hs2 hl2, fun p13 H13 s13 _ hp13 => ?_⟩
          have r13 : Fra H13 r2 (sumF (fs ++ [f1])) := s13 _ _ hr2
          refine ⟨_, rfl, r2, _, _, _, rfl, rfl, .inl (.inl r13), at0, _, rfl, r2, _, _, _, rfl, rfl, .inl (.inl r13), at1, ?_⟩
          refine ⟨p13, _, _, rfl, OS2.pos, big8 BS2.2, by rw [Fr.low_self OS2]; exact hp13, fun H14 s14 => ?_⟩
          refine ⟨_, rfl, iteF ?_⟩
          have t14 := (s12.trans s13).trans s14
          -- product
          refine ⟨_, rfl, _, rfl, q1, q2, f1, f2, rfl, t14 _ _ g1, t14 _ _ g2, B1.1, B2.1, B1.2.1, B1.2.2, B2.2.1, B2.2.2, fun p15 H15 s15 _ hp15 => ?_⟩
          have t15 := t14.trans s15
          refine ⟨_, rfl, q1, _, _, _, rfl, rfl, .inl (.inl (t15 _ _ g1)), at0, _, rfl, q2, _, _, _, rfl, rfl, .inl (.inl (t15 _ _ g2)), at0, _, _, rfl, rfl, cmul B1.2.1 B2.2.1, ?_⟩
          refine ⟨_, rfl, q1, _, _, _, rfl, rfl, .inl (.inl (t15 _ _ g1)), at1, _, rfl, q2, _, _, _, rfl, rfl, .inl (.inl (t15 _ _ g2)), at1, _, _, rfl, rfl, cmul B1.2.2 B2.2.2, ?_⟩
          refine ⟨p15, f1.1 * f2.1, f1.2 * f2.2, rfl, Int.mul_pos B1.1.pos B2.1.pos, wide_lt (a := 4000) (b := 4000) B1.2.2 B2.2.2, hp15, fun H16 s16 => ?_⟩
          refine ⟨_, rfl, iteF ?_⟩
          have t16 := t15.trans s16
          -- product(other=my_one, one=my_other) != product(my_one, my_other)
          refine ⟨_, rfl, _, rfl, rfl, rfl, q2, q1, f2, f1, rfl, t16 _ _ g2, t16 _ _ g1, B2.1, B1.1, B2.2.1, B2.2.2, B1.2.1, B1.2.2, fun p17 H17 s17 _ hp17 => ?_⟩
          have t17 := t16.trans s17
          refine ⟨_, rfl, _, rfl, q1, q2, f1, f2, rfl, t17 _ _ g1, t17 _ _ g2, B1.1, B2.1, B1.2.1, B1.2.2, B2.2.1, B2.2.2, fun p18 H18 s18 _ hp18 => ?_⟩
          have t18 := t17.trans s18
          rw [mul_comm] at hp17
          refine ⟨_, _, dp_fra (s18 _ _ hp17), dp_fra hp18, rfl, rfl, _, rfl, ?_⟩
          rw [eqv_fra]
          refine iteF ?_
          -- total([my_one]) != my_one
          refine ⟨_, rfl, by show 1 ≤ sizeLine; decide, fun l nl => ?_⟩
          have t19 := t18.trans (same_upd (o := .lst [V.ref q1]) nl)
          have hs1 : ∀ f ∈ [f1], Sml f := fun f m => by rw [List.mem_singleton.mp m]; exact sf1
          refine ⟨l, [q1], [f1], rfl, upd_same, ⟨t19 _ _ g1, trivial⟩, fun f m => (hs1 f m).bg, sum_bt hs1 (by show 1 ≤ 8; decide), fun p20 H20 s20 _ hp20 => ?_⟩
          have t20 := t19.trans s20
          rw [sum_one B1.1] at hp20
          refine ⟨_, rfl, _, _, dp_fra hp20, dp_fra (t20 _ _ g1), rfl, rfl, _, rfl, ?_⟩
          rw [eqv_fra]
          refine iteF ?_
          -- near
          have p40 : CPow 10 40 := ⟨by decide, by decide, by decide⟩
          have b40 : ((10 : Int) ^ (40 : Int).toNat).natAbs < 2 ^ 256 := by decide +kernel
          have c40 : (0 : Int) < (10 : Int) ^ (40 : Int).toNat := by decide +kernel
          refine ⟨_, rfl, q1, _, _, _, rfl, rfl, .inl (.inl (t20 _ _ g1)), at0, _, _, rfl, rfl, p40, _, _, rfl, rfl, cmul B1.2.1 b40, _, rfl, q1, _, _, _, rfl, rfl, .inl (.inl (t20 _ _ g1)), at1, _, _, rfl, rfl, ?_⟩
          refine ⟨_, rfl, q1, _, _, _, rfl, rfl, .inl (.inl (t20 _ _ g1)), at1, _, _, rfl, rfl, p40, _, _, rfl, rfl, cmul B1.2.2 b40, ?_⟩
          have nb : (f1.2 * 10 ^ (40 : Int).toNat).natAbs < 2 ^ (40 + 256) := wide_lt sf1.b2 b40
          have nt : (f1.1 * 10 ^ (40 : Int).toNat + f1.2).natAbs < 2 ^ (40 + 256 + 1) := by
            have z := wide_lt sf1.b1 b40
            have z2 := sf1.b2
            have z3 : 2 ^ (40 + 256 + 1) = 2 ^ (40 + 256) + 2 ^ (40 + 256) := by rw [Nat.pow_succ]; omega
            have z4 : (2 : Nat) ^ 40 ≤ 2 ^ (40 + 256) := Nat.pow_le_pow_right (by decide) (by decide)
            rw [z3]
            omega
          refine ⟨f1.1 * 10 ^ (40 : Int).toNat + f1.2, f1.2 * 10 ^ (40 : Int).toNat, rfl, Int.mul_pos B1.1.pos c40, Nat.lt_of_lt_of_le nb (Nat.pow_le_pow_right (by decide) (by decide)), fun nr nnr => ?_⟩
          have B3 : Big (Fr.low (f1.1 * 10 ^ (40 : Int).toNat + f1.2) (f1.2 * 10 ^ (40 : Int).toNat)).1 := low_bl (Nat.lt_of_lt_of_le nt (Nat.pow_le_pow_right (by decide) (by decide)))
          have B4 : Big (Fr.low (f1.1 * 10 ^ (40 : Int).toNat + f1.2) (f1.2 * 10 ^ (40 : Int).toNat)).2 := low_br (Nat.lt_of_lt_of_le nb (Nat.pow_le_pow_right (by decide) (by decide)))
          generalize Fr.low (f1.1 * 10 ^ (40 : Int).toNat + f1.2) (f1.2 * 10 ^ (40 : Int).toNat) = f3 at B3 B4 ⊢
          have s21 := same_upd (o := .tup [.int f3.1, .int f3.2]) nnr
          have g3 : Fra (upd H20 nr (.tup [.int f3.1, .int f3.2])) nr f3 := upd_same
          have t21 := t20.trans s21
          generalize hH21 : upd H20 nr (.tup [.int f3.1, .int f3.2]) = H21 at s21 g3 t21 ⊢
          have g1' := t21 _ _ g1
          have g2' := t21 _ _ g2
          have S21 : Same H H21 := S11.trans t21
          clear t20 t19 t18 t17 t16 t15 t14 s12 s13 s14 s15 s16 s17 s18 s20 s21 hH21 hH12 hp13 hp15 hp17 hp18 hp20 r13 hr2
          -- the pairs
          refine ⟨_, rfl, _, rfl, sz2, fun t1 m1 => ⟨_, rfl, _, rfl, sz2, fun t2 m2 => ⟨_, rfl, _, rfl, sz2, fun t3 m3 => ⟨_, rfl, _, rfl, sz2, fun t4 m4 => ⟨_, rfl, _, rfl, sz2, fun t5 m5 => ⟨by show 5 ≤ sizeLine; decide, fun L nL => ?_⟩⟩⟩⟩⟩⟩
          have w1 := same_upd (o := .tup [.ref q1, .ref q2]) m1
          have w2 := same_upd (o := .tup [.ref q2, .ref q1]) m2
          have w3 := same_upd (o := .tup [.ref q1, .ref q1]) m3
          have w4 := same_upd (o := .tup [.ref q1, .ref nr]) m4
          have w5 := same_upd (o := .tup [.ref nr, .ref q1]) m5
          have w6 := same_upd (o := .lst [V.ref t1, V.ref t2, V.ref t3, V.ref t4, V.ref t5]) nL
          have wz := (((w1.trans w2).trans w3).trans w4).trans (w5.trans w6)
          have u1 := wz _ _ g1'
          have u2 := wz _ _ g2'
          have u3 := wz _ _ g3
          have y5 := w6 _ _ (upd_same (a := t5) (o := .tup [.ref nr, .ref q1]))
          have y4 := (w5.trans w6) _ _ (upd_same (a := t4) (o := .tup [.ref q1, .ref nr]))
          have y3 := (w4.trans (w5.trans w6)) _ _ (upd_same (a := t3) (o := .tup [.ref q1, .ref q1]))
          have y2 := (w3.trans (w4.trans (w5.trans w6))) _ _ (upd_same (a := t2) (o := .tup [.ref q2, .ref q1]))
          have y1 := (w2.trans (w3.trans (w4.trans (w5.trans w6)))) _ _ (upd_same (a := t1) (o := .tup [.ref q1, .ref q2]))
          have yL := upd_same (H := (upd (upd (upd (upd (upd H21 t1 (.tup [.ref q1, .ref q2])) t2 (.tup [.ref q2, .ref q1])) t3 (.tup [.ref q1, .ref q1])) t4 (.tup [.ref q1, .ref nr])) t5 (.tup [.ref nr, .ref q1]))) (a := L) (o := .lst [V.ref t1, V.ref t2, V.ref t3, V.ref t4, V.ref t5])
          have S22 := S21.trans wz
          generalize upd (upd (upd (upd (upd (upd H21 t1 (.tup [.ref q1, .ref q2])) t2 (.tup [.ref q2, .ref q1])) t3 (.tup [.ref q1, .ref q1])) t4 (.tup [.ref q1, .ref nr])) t5 (.tup [.ref nr, .ref q1])) L (.lst [V.ref t1, V.ref t2, V.ref t3, V.ref t4, V.ref t5]) = H22 at u1 u2 u3 y1 y2 y3 y4 y5 yL S22 ⊢
          have pairs : ∀ x ∈ [V.ref t1, V.ref t2, V.ref t3, V.ref t4, V.ref t5], PairAt H22 x := by
            intro x m
            simp only [List.mem_cons, List.not_mem_nil, or_false] at m
            rcases m with rfl | rfl | rfl | rfl | rfl
            · exact ⟨t1, q1, q2, f1, f2, rfl, y1, u1, u2, B1.2.1, B1.2.2, B2.2.1, B2.2.2⟩
            · exact ⟨t2, q2, q1, f2, f1, rfl, y2, u2, u1, B2.2.1, B2.2.2, B1.2.1, B1.2.2⟩
            · exact ⟨t3, q1, q1, f1, f1, rfl, y3, u1, u1, B1.2.1, B1.2.2, B1.2.1, B1.2.2⟩
            · exact ⟨t4, q1, nr, f1, f3, rfl, y4, u1, u3, B1.2.1, B1.2.2, B3, B4⟩
            · exact ⟨t5, nr, q1, f3, f1, rfl, y5, u3, u1, B3, B4, B1.2.1, B1.2.2⟩
          refine ⟨L, rfl, ⟨_, .inl (.inl yL)⟩, for_list (K := K) (a := L) (xs := [V.ref t1, V.ref t2, V.ref t3, V.ref t4, V.ref t5]) (fun j σ H' => Same H22 H' ∧ ∃ x10 x11 x12 x13, σ = [some (.ref a), some (.int (0 + ↑i)), some (.ref p), some (.ref D), some (.ref q1), some (.ref q2), some (.ref r2), v7, some (.ref hd), some (.ref nr), x10, x11, x12, x13, v14])
            ⟨Same.refl _, v10, v11, v12, v13, rfl⟩ (fun j σ H' _ ⟨s', _⟩ => .inl (.inl (s' _ _ yL))) ?_ ?_⟩
          · rintro j x σ H' hj ⟨s', x10, x11, x12, x13, rfl⟩
            obtain ⟨T', u, v, fa, fb, rfl, hT, hu, hv, c1, c2, c3, c4⟩ := (pairs x (List.mem_of_getElem? hj)).same s'
            refine ⟨T', _, rfl, .inl (.inl hT), rfl, _, _, rfl, _, _, rfl, rfl, ?_⟩
            refine ⟨_, rfl, u, _, _, _, rfl, rfl, .inl (.inl hu), at0, _, rfl, v, _, _, _, rfl, rfl, .inl (.inl hv), at1, _, _, rfl, rfl, cmul c1 c4, ?_⟩
            refine ⟨_, rfl, v, _, _, _, rfl, rfl, .inl (.inl hv), at0, _, rfl, u, _, _, _, rfl, rfl, .inl (.inl hu), at1, _, _, rfl, rfl, cmul c3 c2, _, _, rfl, rfl, ?_⟩
            refine ⟨_, rfl, _, rfl, u, v, fa, fb, rfl, hu, hv, c1, c2, c3, c4, ?_⟩
            refine ⟨_, rfl, _, _, _, _, true, rfl, .ty _, .base (.bl _), kit_ty (by decide +kernel), _, rfl, iteF ?_⟩
            refine ⟨_, rfl, _, rfl, rfl, _, rfl, ?_⟩
            have eb : (!decide (V.bl (lessF fa fb) = V.bl (decide (fa.1 * fb.2 < fb.1 * fa.2)))) = false := by
              unfold lessF
              simp
            rw [eb]
            refine iteF ?_
            refine ⟨_, rfl, _, rfl, rfl, rfl, u, v, fa, fb, rfl, hu, hv, c1, c2, c3, c4, ?_⟩
            refine ⟨_, rfl, rfl, _, rfl, ?_⟩
            rw [eb]
            exact iteF ⟨s', _, _, _, _, rfl⟩
          · rintro σ H' ⟨s', x10, x11, x12, x13, rfl⟩
            exact ⟨S22.trans s', _, _, _, _, _, _, _, _, _, _, _, _, _, _, rfl⟩
    · rintro σ H' ⟨s0, v1, v2, v3, v4, v5, v6, v7, v8, v9, v10, v11, v12, v13, v14, rfl⟩
      refine ⟨by show 0 ≤ sizeLine; decide, fun l nl => ?_⟩
      refine ⟨l, [], [], rfl, upd_same, trivial, (fun _ h => nomatch h), (fun i => by rw [List.take_nil]; exact ⟨big_s, big_s⟩), fun p1 H1 s1 _ hp1 => ?_⟩
      refine ⟨sz2, fun p2 n2 => ?_⟩
      refine ⟨_, _, dp_fra (same_upd n2 _ _ hp1), dp_fra (f := (0, 1)) upd_same, rfl, rfl, true, ?_, iteT ?_⟩
      · show V.bl (PyData.eqv (.tuple [.int 0, .int 1]) (.tuple [.int 0, .int 1])) = V.bl true
        rw [eqv_fra]
      · exact ⟨rfl, fun H3 _ => q H3⟩
end
theorem vals_rev {zs : List V} {ws : List Value} (r : Vals zs ws) : Vals zs.reverse ws.reverse := by
  induction r with
  | nil => exact .nil
  | cons h t ih =>
    rw [List.reverse_cons, List.reverse_cons]
    exact ih.append (.cons h .nil)
theorem all_mk {w : World} {K : PySem.W.Frag} {h : Heap} {mg : Str → Option Value} {fa f1 f2 f3 f4 f5 f6 f7 f8 f9 f10 f11 f12 f13 f14 f15 t2 : Addr} (X : K.In h) (G : h.Ns mainGlobals mg) (hfa : mg "law" = some (.ref fa))
    {od1 an1 od2 an2 od3 an3 od4 an4 od5 an5 od6 an6 od7 an7 od8 an8 od9 an9 od10 an10 od11 an11 od12 an12 od13 an13 od14 an14 od15 an15 odt2 : Option Addr} {sl1 sl2 sl3 sl4 sl5 sl6 sl7 sl8 sl9 sl10 sl11 sl12 sl13 sl14 sl15 slt2 : Array (Option Value)} {oc1 kV1 dc1 pm1 cd1 ct1 oc2 kV2 dc2 pm2 cd2 ct2 oc3 kV3 dc3 pm3 cd3 ct3 oc4 kV4 dc4 pm4 cd4 ct4 oc5 kV5 dc5 pm5 cd5 ct5 oc6 kV6 dc6 pm6 cd6 ct6 oc7 kV7 dc7 pm7 cd7 ct7 oc8 kV8 dc8 pm8 cd8 ct8 oc9 kV9 dc9 pm9 cd9 ct9 oc10 kV10 dc10 pm10 cd10 ct10 oc11 kV11 dc11 pm11 cd11 ct11 oc12 kV12 dc12 pm12 cd12 ct12 oc13 kV13 dc13 pm13 cd13 ct13 oc14 kV14 dc14 pm14 cd14 ct14 oc15 kV15 dc15 pm15 cd15 ct15 oct2 : Value}
    {tk2 : Tok} {nt2 : Nat}
    {tk_PLAIN_BITS : Tok}
    (k_PLAIN_BITS : PySem.W.nsIn K mainGlobals "PLAIN_BITS" = some (some (.int (6000) tk_PLAIN_BITS)))
    (a1 : PySem.W.nsIn K mainGlobals "common_divisor" = some (some (.ref f1))) (l1 : K.lookup f1 = some ⟨oc1, od1, .func (PySem.W.fnOf "common_divisor" "common_divisor" (defArgs s_common_divisor) (defBody s_common_divisor) (defScope s_common_divisor) .none kV1 dc1 pm1 an1 cd1 ct1), sl1⟩) (c1 : PySem.W.codeIn K cd1 "common_divisor" = true) (k1 : PySem.W.keepIn K (.ref f1) = true)
    (a2 : PySem.W.nsIn K mainGlobals "lowest" = some (some (.ref f2))) (l2 : K.lookup f2 = some ⟨oc2, od2, .func (PySem.W.fnOf "lowest" "lowest" (defArgs s_lowest) (defBody s_lowest) (defScope s_lowest) (.ref t2) kV2 dc2 pm2 an2 cd2 ct2), sl2⟩) (c2 : PySem.W.codeIn K cd2 "lowest" = true) (k2 : PySem.W.keepIn K (.ref f2) = true)
    (lt2 : K.lookup t2 = some ⟨oct2, odt2, .seq #[.int 1 tk2] nt2, slt2⟩)
    (a3 : PySem.W.nsIn K mainGlobals "sum_of_two" = some (some (.ref f3))) (l3 : K.lookup f3 = some ⟨oc3, od3, .func (PySem.W.fnOf "sum_of_two" "sum_of_two" (defArgs s_sum_of_two) (defBody s_sum_of_two) (defScope s_sum_of_two) .none kV3 dc3 pm3 an3 cd3 ct3), sl3⟩) (c3 : PySem.W.codeIn K cd3 "sum_of_two" = true) (k3 : PySem.W.keepIn K (.ref f3) = true)
    (a4 : PySem.W.nsIn K mainGlobals "total" = some (some (.ref f4))) (l4 : K.lookup f4 = some ⟨oc4, od4, .func (PySem.W.fnOf "total" "total" (defArgs s_total) (defBody s_total) (defScope s_total) .none kV4 dc4 pm4 an4 cd4 ct4), sl4⟩) (c4 : PySem.W.codeIn K cd4 "total" = true) (k4 : PySem.W.keepIn K (.ref f4) = true)
    (a5 : PySem.W.nsIn K mainGlobals "product" = some (some (.ref f5))) (l5 : K.lookup f5 = some ⟨oc5, od5, .func (PySem.W.fnOf "product" "product" (defArgs s_product) (defBody s_product) (defScope s_product) .none kV5 dc5 pm5 an5 cd5 ct5), sl5⟩) (c5 : PySem.W.codeIn K cd5 "product" = true) (k5 : PySem.W.keepIn K (.ref f5) = true)
    (a6 : PySem.W.nsIn K mainGlobals "below" = some (some (.ref f6))) (l6 : K.lookup f6 = some ⟨oc6, od6, .func (PySem.W.fnOf "below" "below" (defArgs s_below) (defBody s_below) (defScope s_below) .none kV6 dc6 pm6 an6 cd6 ct6), sl6⟩) (c6 : PySem.W.codeIn K cd6 "below" = true) (k6 : PySem.W.keepIn K (.ref f6) = true)
    (a7 : PySem.W.nsIn K mainGlobals "_law_mixed" = some (some (.ref f7))) (l7 : K.lookup f7 = some ⟨oc7, od7, .func (PySem.W.fnOf "_law_mixed" "_law_mixed" (defArgs s__law_mixed) (defBody s__law_mixed) (defScope s__law_mixed) .none kV7 dc7 pm7 an7 cd7 ct7), sl7⟩) (c7 : PySem.W.codeIn K cd7 "_law_mixed" = true) (k7 : PySem.W.keepIn K (.ref f7) = true)
    (a8 : PySem.W.nsIn K mainGlobals "_law_pile" = some (some (.ref f8))) (l8 : K.lookup f8 = some ⟨oc8, od8, .func (PySem.W.fnOf "_law_pile" "_law_pile" (defArgs s__law_pile) (defBody s__law_pile) (defScope s__law_pile) .none kV8 dc8 pm8 an8 cd8 ct8), sl8⟩) (c8 : PySem.W.codeIn K cd8 "_law_pile" = true) (k8 : PySem.W.keepIn K (.ref f8) = true)
    (a9 : PySem.W.nsIn K mainGlobals "_law_take" = some (some (.ref f9))) (l9 : K.lookup f9 = some ⟨oc9, od9, .func (PySem.W.fnOf "_law_take" "_law_take" (defArgs s__law_take) (defBody s__law_take) (defScope s__law_take) .none kV9 dc9 pm9 an9 cd9 ct9), sl9⟩) (c9 : PySem.W.codeIn K cd9 "_law_take" = true) (k9 : PySem.W.keepIn K (.ref f9) = true)
    (a10 : PySem.W.nsIn K mainGlobals "_law_lowest" = some (some (.ref f10))) (l10 : K.lookup f10 = some ⟨oc10, od10, .func (PySem.W.fnOf "_law_lowest" "_law_lowest" (defArgs s__law_lowest) (defBody s__law_lowest) (defScope s__law_lowest) .none kV10 dc10 pm10 an10 cd10 ct10), sl10⟩) (c10 : PySem.W.codeIn K cd10 "_law_lowest" = true) (k10 : PySem.W.keepIn K (.ref f10) = true)
    (a11 : PySem.W.nsIn K mainGlobals "_law_number" = some (some (.ref f11))) (l11 : K.lookup f11 = some ⟨oc11, od11, .func (PySem.W.fnOf "_law_number" "_law_number" (defArgs s__law_number) (defBody s__law_number) (defScope s__law_number) .none kV11 dc11 pm11 an11 cd11 ct11), sl11⟩) (c11 : PySem.W.codeIn K cd11 "_law_number" = true) (k11 : PySem.W.keepIn K (.ref f11) = true)
    (a12 : PySem.W.nsIn K mainGlobals "_law_plus" = some (some (.ref f12))) (l12 : K.lookup f12 = some ⟨oc12, od12, .func (PySem.W.fnOf "_law_plus" "_law_plus" (defArgs s__law_plus) (defBody s__law_plus) (defScope s__law_plus) .none kV12 dc12 pm12 an12 cd12 ct12), sl12⟩) (c12 : PySem.W.codeIn K cd12 "_law_plus" = true) (k12 : PySem.W.keepIn K (.ref f12) = true)
    (a13 : PySem.W.nsIn K mainGlobals "_law_is" = some (some (.ref f13))) (l13 : K.lookup f13 = some ⟨oc13, od13, .func (PySem.W.fnOf "_law_is" "_law_is" (defArgs s__law_is) (defBody s__law_is) (defScope s__law_is) .none kV13 dc13 pm13 an13 cd13 ct13), sl13⟩) (c13 : PySem.W.codeIn K cd13 "_law_is" = true) (k13 : PySem.W.keepIn K (.ref f13) = true)
    (a14 : PySem.W.nsIn K mainGlobals "_law_great" = some (some (.ref f14))) (l14 : K.lookup f14 = some ⟨oc14, od14, .func (PySem.W.fnOf "_law_great" "_law_great" (defArgs s__law_great) (defBody s__law_great) (defScope s__law_great) .none kV14 dc14 pm14 an14 cd14 ct14), sl14⟩) (c14 : PySem.W.codeIn K cd14 "_law_great" = true) (k14 : PySem.W.keepIn K (.ref f14) = true)
    (a15 : PySem.W.nsIn K mainGlobals "law" = some (some (.ref f15))) (l15 : K.lookup f15 = some ⟨oc15, od15, .func (PySem.W.fnOf "law" "law" (defArgs s_law) (defBody s_law) (defScope s_law) .none kV15 dc15 pm15 an15 cd15 ct15), sl15⟩) (c15 : PySem.W.codeIn K cd15 "law" = true) (k15 : PySem.W.keepIn K (.ref f15) = true)
    (z_abs : PySem.W.nsIn K mainGlobals "abs" = some none)
    (z_len : PySem.W.nsIn K mainGlobals "len" = some none)
    (z_range : PySem.W.nsIn K mainGlobals "range" = some none)
    (z_isinstance : PySem.W.nsIn K mainGlobals "isinstance" = some none)
    (z_int : PySem.W.nsIn K mainGlobals "int" = some none)
    (z_list : PySem.W.nsIn K mainGlobals "list" = some none)
    (z_bool : PySem.W.nsIn K mainGlobals "bool" = some none)
    (z_tuple : PySem.W.nsIn K mainGlobals "tuple" = some none)
    : ∃ fd : FuncData, (∀ (s : Shared) (v : Value), BindsTo s fd ⟨[v], []⟩ [("_law_script", v)]) ∧ ∀ base : Heap, K.In base → base.Ns mainGlobals mg → FnOk RW0 w K mg base CX0 5 fa fd ["_law_script"] (spLaw K) := by
  have e := hfa.symm.trans (PySem.W.mg_of X G a15)
  cases e
  have F1 := fun_mk (st := s_common_divisor) l1 c1 k1
  have g1 := PySem.W.mg_of X G a1
  have g2 := PySem.W.mg_of X G a2
  have F3 := fun_mk (st := s_sum_of_two) l3 c3 k3
  have g3 := PySem.W.mg_of X G a3
  have F4 := fun_mk (st := s_total) l4 c4 k4
  have g4 := PySem.W.mg_of X G a4
  have F5 := fun_mk (st := s_product) l5 c5 k5
  have g5 := PySem.W.mg_of X G a5
  have F6 := fun_mk (st := s_below) l6 c6 k6
  have g6 := PySem.W.mg_of X G a6
  have F7 := fun_mk (st := s__law_mixed) l7 c7 k7
  have g7 := PySem.W.mg_of X G a7
  have F8 := fun_mk (st := s__law_pile) l8 c8 k8
  have g8 := PySem.W.mg_of X G a8
  have F9 := fun_mk (st := s__law_take) l9 c9 k9
  have g9 := PySem.W.mg_of X G a9
  have F10 := fun_mk (st := s__law_lowest) l10 c10 k10
  have g10 := PySem.W.mg_of X G a10
  have F11 := fun_mk (st := s__law_number) l11 c11 k11
  have g11 := PySem.W.mg_of X G a11
  have F12 := fun_mk (st := s__law_plus) l12 c12 k12
  have g12 := PySem.W.mg_of X G a12
  have F13 := fun_mk (st := s__law_is) l13 c13 k13
  have g13 := PySem.W.mg_of X G a13
  have F14 := fun_mk (st := s__law_great) l14 c14 k14
  have g14 := PySem.W.mg_of X G a14
  have F15 := fun_mk (st := s_law) l15 c15 k15
  have g15 := PySem.W.mg_of X G a15
  have T : Txt mg := ⟨PySem.W.mg_none_of X G z_abs, PySem.W.mg_none_of X G z_len, PySem.W.mg_none_of X G z_range, PySem.W.mg_none_of X G z_isinstance, PySem.W.mg_none_of X G z_int, PySem.W.mg_none_of X G z_list, PySem.W.mg_none_of X G z_bool, PySem.W.mg_none_of X G z_tuple, ⟨_, PySem.W.mg_of X G k_PLAIN_BITS⟩⟩
  have b1 := F1.binds (ps := ["one", "other"]) fun _ _ _ _ _ _ us hl => match us, hl with | [_, _], _ => rfl
  have b3 := F3.binds (ps := ["one", "other"]) fun _ _ _ _ _ _ us hl => match us, hl with | [_, _], _ => rfl
  have b4 := F4.binds (ps := ["numbers"]) fun _ _ _ _ _ _ us hl => match us, hl with | [_], _ => rfl
  have b5 := F5.binds (ps := ["one", "other"]) fun _ _ _ _ _ _ us hl => match us, hl with | [_, _], _ => rfl
  have b6 := F6.binds (ps := ["one", "other"]) fun _ _ _ _ _ _ us hl => match us, hl with | [_, _], _ => rfl
  have b7 := F7.binds (ps := ["_law_cell", "_law_k"]) fun _ _ _ _ _ _ us hl => match us, hl with | [_, _], _ => rfl
  have b8 := F8.binds (ps := ["_law_script", "_law_k"]) fun _ _ _ _ _ _ us hl => match us, hl with | [_, _], _ => rfl
  have b9 := F9.binds (ps := ["_law_pile_here", "_law_many"]) fun _ _ _ _ _ _ us hl => match us, hl with | [_, _], _ => rfl
  have b10 := F10.binds (ps := ["_law_top", "_law_bottom"]) fun _ _ _ _ _ _ us hl => match us, hl with | [_, _], _ => rfl
  have b11 := F11.binds (ps := ["_law_pile_here"]) fun _ _ _ _ _ _ us hl => match us, hl with | [_], _ => rfl
  have b12 := F12.binds (ps := ["_law_my_one", "_law_my_other"]) fun _ _ _ _ _ _ us hl => match us, hl with | [_, _], _ => rfl
  have b13 := F13.binds (ps := ["_law_found", "_law_top", "_law_bottom"]) fun _ _ _ _ _ _ us hl => match us, hl with | [_, _, _], _ => rfl
  have b14 := F14.binds (ps := []) fun _ _ _ _ _ _ us hl => match us, hl with | [], _ => rfl
  have F2 : FunD K "lowest" "lowest" (defArgs s_lowest) (defBody s_lowest) (defScope s_lowest) [.int 1] [] f2 _ := ⟨⟨oc2, od2, .ref t2, kV2, dc2, pm2, an2, cd2, ct2, sl2, rfl, l2, c2, .inr ⟨(by intro z; cases z), t2, _, [.int 1 tk2], nt2, rfl, lt2, rfl, .cons ⟨tk2, rfl⟩ .nil⟩, .inl rfl⟩, k2⟩
  obtain ⟨ds2, v2, b2⟩ := F2.binds1 (ps := ["top", "bottom"]) 2 1 (by intro z; cases z) rfl (fun T kV doc pm an cdv ct us its h1 h2 => match us, its, h1, h2 with | [_, _], [_], _, _ => ⟨_, rfl, rfl⟩)
  cases v2
  have kw4 : KBn K (PySem.W.fnOf "total" "total" (defArgs s_total) (defBody s_total) (defScope s_total) .none kV4 dc4 pm4 an4 cd4 ct4) ["numbers"] 0 ["numbers"] (fun _ ws => ws) (fun _ zs => zs) := ⟨fun s us ws X h1 h2 => match us, ws, h1, h2 with | [], [_], _, _ => .of_eq rfl, fun _ r => r⟩
  have kw5 : KBn K (PySem.W.fnOf "product" "product" (defArgs s_product) (defBody s_product) (defScope s_product) .none kV5 dc5 pm5 an5 cd5 ct5) ["one", "other"] 0 ["other", "one"] (fun _ ws => ws.reverse) (fun _ zs => zs.reverse) := ⟨fun s us ws X h1 h2 => match us, ws, h1, h2 with | [], [_, _], _, _ => .of_eq rfl, fun _ r => vals_rev r⟩
  have kw6 : KBn K (PySem.W.fnOf "below" "below" (defArgs s_below) (defBody s_below) (defScope s_below) .none kV6 dc6 pm6 an6 cd6 ct6) ["one", "other"] 0 ["other", "one"] (fun _ ws => ws.reverse) (fun _ zs => zs.reverse) := ⟨fun s us ws X h1 h2 => match us, ws, h1, h2 with | [], [_, _], _, _ => .of_eq rfl, fun _ r => vals_rev r⟩
  refine ⟨PySem.W.fnOf "law" "law" (defArgs s_law) (defBody s_law) (defScope s_law) .none kV15 dc15 pm15 an15 cd15 ct15, fun s v => .of_eq rfl, fun base _ _ => ?_⟩
  have C1 : Cal RW0 w K mg base 1 "common_divisor" ["one", "other"] spCdB := ⟨f1, _, ok_cd (k := 0) F1 T, g1, k1, b1⟩
  have C2 : Cal RW0 w K mg base 2 "lowest" ["top", "bottom"] spLowB := ⟨f2, _, ok_low (k := 0) F2 C1, g2, k2, b2⟩
  have C3 : Cal RW0 w K mg base 2 "sum_of_two" ["one", "other"] spS2 := ⟨f3, _, ok_s2 (k := 0) F3 C1, g3, k3, b3⟩
  have C4 : Cal RW0 w K mg base 3 "total" ["numbers"] spTot := ⟨f4, _, ok_tot (k := 0) F4 C3, g4, k4, b4⟩
  have C4k : CalK RW0 w K mg base 3 "total" ["numbers"] spTot 0 ["numbers"] (fun _ zs => zs) := ⟨f4, _, _, ok_tot (k := 0) F4 C3, g4, k4, kw4⟩
  have C5 : Cal RW0 w K mg base 3 "product" ["one", "other"] spPro := ⟨f5, _, ok_pro (k := 0) F5 C2, g5, k5, b5⟩
  have C5k : CalK RW0 w K mg base 3 "product" ["one", "other"] spPro 0 ["other", "one"] (fun _ zs => zs.reverse) := ⟨f5, _, _, ok_pro (k := 0) F5 C2, g5, k5, kw5⟩
  have C6 : Cal RW0 w K mg base 1 "below" ["one", "other"] spBel := ⟨f6, _, ok_bel (k := 0) F6, g6, k6, b6⟩
  have C6k : CalK RW0 w K mg base 1 "below" ["one", "other"] spBel 0 ["other", "one"] (fun _ zs => zs.reverse) := ⟨f6, _, _, ok_bel (k := 0) F6, g6, k6, kw6⟩
  have C7 : Cal RW0 w K mg base 1 "_law_mixed" ["_law_cell", "_law_k"] spMix := ⟨f7, _, ok_mix (k := 0) F7, g7, k7, b7⟩
  have C8 : Cal RW0 w K mg base 1 "_law_pile" ["_law_script", "_law_k"] (spPile K) := ⟨f8, _, ok_pile (k := 0) F8 T, g8, k8, b8⟩
  have C9 : Cal RW0 w K mg base 2 "_law_take" ["_law_pile_here", "_law_many"] spTake := ⟨f9, _, ok_take (k := 0) F9 C7, g9, k9, b9⟩
  have C10 : Cal RW0 w K mg base 1 "_law_lowest" ["_law_top", "_law_bottom"] spLow := ⟨f10, _, ok_llow (k := 0) F10, g10, k10, b10⟩
  have C11 : Cal RW0 w K mg base 3 "_law_number" ["_law_pile_here"] spNum := ⟨f11, _, ok_num (k := 0) F11 C9 C10, g11, k11, b11⟩
  have C12 : Cal RW0 w K mg base 2 "_law_plus" ["_law_my_one", "_law_my_other"] spPlus := ⟨f12, _, ok_plus (k := 0) F12 C10, g12, k12, b12⟩
  have C13 : Cal RW0 w K mg base 2 "_law_is" ["_law_found", "_law_top", "_law_bottom"] spIs := ⟨f13, _, ok_is (k := 0) F13 T C10, g13, k13, b13⟩
  have C14 : Cal RW0 w K mg base 4 "_law_great" [] spGreat := ⟨f14, _, ok_great (k := 0) F14 T C6 C5 C4, g14, k14, b14⟩
  exact ok_law F15 T C4 C4k C5 C5k C6 C6k C8 C9 C10 C11 C12 C13 C14
end Toy
open PySem PySem.W PyProof.Rows
set_option maxRecDepth 100000 in
set_option maxHeartbeats 0 in
theorem PySem.Challenge.cw_eitherslack_k02_sums_and_products_holds : PySem.Challenge.rw_eitherslack_k02_sums_and_products.Holds := by
  w_on; o_law; k_head; (case hw => w_witness2)
  k_fill
  refine L2.walk_of (l := PySem.Challenge.rw_eitherslack_k02_sums_and_products) (n := 63) (k := 5) (x := "_law_script") (CX := fun _ => L2.CX0) (sp := fun w => Toy.spLaw _) rfl (by decide) rfl ⟨rfl, by decide, by decide⟩ (fun w h Y => PySem.W.kIn_of Y) ?F (fun _ _ a ns hl _ hS => ⟨a, ns, rfl, hS, hl, fun _ => rfl⟩) (fun _ _ _ _ _ h => h)
  case F =>
    intro w mg fa h KX G hmg
    refine' Toy.all_mk KX G hmg ?k_PLAIN_BITS ?a1 ?l1 ?c1 ?k1 ?a2 ?l2 ?c2 ?k2 ?lt2 ?a3 ?l3 ?c3 ?k3 ?a4 ?l4 ?c4 ?k4 ?a5 ?l5 ?c5 ?k5 ?a6 ?l6 ?c6 ?k6 ?a7 ?l7 ?c7 ?k7 ?a8 ?l8 ?c8 ?k8 ?a9 ?l9 ?c9 ?k9 ?a10 ?l10 ?c10 ?k10 ?a11 ?l11 ?c11 ?k11 ?a12 ?l12 ?c12 ?k12 ?a13 ?l13 ?c13 ?k13 ?a14 ?l14 ?c14 ?k14 ?a15 ?l15 ?c15 ?k15 ?z_abs ?z_len ?z_range ?z_isinstance ?z_int ?z_list ?z_bool ?z_tuple
    (case k_PLAIN_BITS => k_is)
    (case a1 => k_is)
    (case l1 => k_is)
    (case c1 => k_is)
    (case k1 => k_is)
    (case a2 => k_is)
    (case l2 => k_is)
    (case c2 => k_is)
    (case k2 => k_is)
    (case lt2 => k_is)
    (case a3 => k_is)
    (case l3 => k_is)
    (case c3 => k_is)
    (case k3 => k_is)
    (case a4 => k_is)
    (case l4 => k_is)
    (case c4 => k_is)
    (case k4 => k_is)
    (case a5 => k_is)
    (case l5 => k_is)
    (case c5 => k_is)
    (case k5 => k_is)
    (case a6 => k_is)
    (case l6 => k_is)
    (case c6 => k_is)
    (case k6 => k_is)
    (case a7 => k_is)
    (case l7 => k_is)
    (case c7 => k_is)
    (case k7 => k_is)
    (case a8 => k_is)
    (case l8 => k_is)
    (case c8 => k_is)
    (case k8 => k_is)
    (case a9 => k_is)
    (case l9 => k_is)
    (case c9 => k_is)
    (case k9 => k_is)
    (case a10 => k_is)
    (case l10 => k_is)
    (case c10 => k_is)
    (case k10 => k_is)
    (case a11 => k_is)
    (case l11 => k_is)
    (case c11 => k_is)
    (case k11 => k_is)
    (case a12 => k_is)
    (case l12 => k_is)
    (case c12 => k_is)
    (case k12 => k_is)
    (case a13 => k_is)
    (case l13 => k_is)
    (case c13 => k_is)
    (case k13 => k_is)
    (case a14 => k_is)
    (case l14 => k_is)
    (case c14 => k_is)
    (case k14 => k_is)
    (case a15 => k_is)
    (case l15 => k_is)
    (case c15 => k_is)
    (case k15 => k_is)
    (case z_abs => k_is)
    (case z_len => k_is)
    (case z_range => k_is)
    (case z_isinstance => k_is)
    (case z_int => k_is)
    (case z_list => k_is)
    (case z_bool => k_is)
    (case z_tuple => k_is)
