import PyProof.Rows.All
import Wide.All
import OpenK.AllK
import Wide.FinOn
import HandS.ForMost
import HandS.Wide
import HandS.IsInst
import HandS.Evl
import HandS.Defaults
import HandS.More
import HandS.Style
import PySem.Challenge.RW_monthclamp_k01_leap_years_and_months
set_option Elab.async false
set_option linter.all false
set_option maxRecDepth 100000
set_option maxHeartbeats 4000000
namespace Mc
open PySem L2

/-! ### forward rules: one for each head of a reading -/
section
variable {K : PySem.W.Frag} {σ : L2.St} {H : Hp} {Q : VK} {ta tb te tc : TE} {t u c : TT} {t1 t2 : TS} {D : Ends} {i : Nat} {v x y : V} {r : R2}
theorem f_var (h : σ[i]? = some (some v)) (q : Q v H) : tVar i σ H Q := ⟨v, h, q⟩
theorem f_c (q : Q v H) : tC v σ H Q := q
theorem f_op (h : ta σ H fun x H1 => tb σ H1 fun y H2 => r x y H2 Q) : tOp r ta tb σ H Q := h
theorem f_un {r : V → Hp → VK → Prop} (h : ta σ H fun x H1 => r x H1 Q) : tUn r ta σ H Q := h
theorem f_I0 {g : Int → Int → V} {a b : Int} (q : Q (g a b) H) : rI0 g (.int a) (.int b) H Q := ⟨a, b, rfl, rfl, q⟩
theorem f_I {C : Int → Int → Prop} {g : Int → Int → V} {a b : Int} (hc : C a b) (q : Q (g a b) H) : rI C g (.int a) (.int b) H Q := ⟨a, b, rfl, rfl, hc, q⟩
theorem f_U {g : Int → V} {a : Int} (q : Q (g a) H) : rU g (.int a) H Q := ⟨a, rfl, q⟩
theorem dec_int (a b : Int) : decide (V.int a = V.int b) = decide (a = b) := by
  by_cases h : a = b
  · subst h; simp
  · rw [decide_eq_false h, decide_eq_false (fun e => h (V.int.inj e))]
theorem f_eqI {a b : Int} (q : Q (.bl (decide (a = b))) H) : rEq (.int a) (.int b) H Q := ⟨rfl, by rw [dec_int]; exact q⟩
theorem f_neI {a b : Int} (q : Q (.bl (!decide (a = b))) H) : rNe (.int a) (.int b) H Q := ⟨rfl, by rw [dec_int]; exact q⟩
theorem dec_bl (a b : Bool) : decide (V.bl a = V.bl b) = (a == b) := by cases a <;> cases b <;> decide
theorem f_eqB {a b : Bool} (q : Q (.bl (a == b)) H) : rEq (.bl a) (.bl b) H Q := ⟨rfl, by rw [dec_bl]; exact q⟩
theorem f_neB {a b : Bool} (q : Q (.bl (!(a == b))) H) : rNe (.bl a) (.bl b) H Q := ⟨rfl, by rw [dec_bl]; exact q⟩
theorem f_test {Q : Bool → Hp → Prop} (h : te σ H fun x H' => ∃ k, x = .bl k ∧ Q k H') : tTest te σ H Q := h
theorem f_B {Q : Bool → Hp → Prop} (h : te σ H fun x H' => ∃ k, x = .bl k ∧ Q k H') : tB te σ H Q := h
theorem f_bl {b : Bool} {R : Bool → Prop} (q : R b) : ∃ k, V.bl b = V.bl k ∧ R k := ⟨b, rfl, q⟩
theorem f_and {Q : Bool → Hp → Prop} (h : t σ H fun c H1 => if c = true then u σ H1 Q else Q false H1) : tAnd t u σ H Q := h
theorem f_or {Q : Bool → Hp → Prop} (h : t σ H fun c H1 => if c = true then Q true H1 else u σ H1 Q) : tOr t u σ H Q := h
theorem f_not {Q : Bool → Hp → Prop} (h : t σ H fun c H1 => Q (!c) H1) : tNot t σ H Q := h
theorem f_seq (h : t1 { D with nx := t2 D } σ H) : tSeq t1 t2 D σ H := h
theorem f_next (q : D.nx σ H) : tNext D σ H := q
theorem f_asg {g : TG} (h : te σ H fun x H1 => g x σ H1 D.nx) : tAsg te g D σ H := h
theorem f_gName {R : L2.St → Hp → Prop} (q : R (σ.set i (some v)) H) : gName i v σ H R := q
theorem f_ret (h : te σ H D.rt) : tRet te D σ H := h
theorem f_drop (h : te σ H fun _ H1 => D.nx σ H1) : tDrop te D σ H := h
theorem f_ifS (h : c σ H fun b H1 => if b = true then t1 D σ H1 else t2 D σ H1) : tIfS c t1 t2 D σ H := h
theorem f_if (h : c σ H fun b H1 => if b = true then ta σ H1 Q else tb σ H1 Q) : tIf c ta tb σ H Q := h
theorem f_ite {p : Prop} [Decidable p] {A B : Prop} (h1 : p → A) (h2 : ¬ p → B) : if decide p = true then A else B := by
  by_cases h : p
  · rw [if_pos (decide_eq_true h)]; exact h1 h
  · rw [if_neg (by rw [decide_eq_false h]; decide)]; exact h2 h
theorem f_iteB {b : Bool} {A B : Prop} (h1 : b = true → A) (h2 : b = false → B) : if b = true then A else B := by
  cases b with
  | true => rw [if_pos rfl]; exact h1 rfl
  | false => rw [if_neg Bool.false_ne_true]; exact h2 rfl
theorem f_call {sp : Sp} {dvs : List V} {E : XK} {ta : TA} (h : ta σ H fun vs H1 => sp (vs ++ dvs) H1 Q E) : tCall sp dvs E ta σ H Q := h
theorem f_nil {Q : List V → Hp → Prop} (q : Q [] H) : tNil σ H Q := q
theorem f_cons {tr : TA} {Q : List V → Hp → Prop} (h : ta σ H fun x H1 => tr σ H1 fun xs H2 => Q (x :: xs) H2) : tCons ta tr σ H Q := h
theorem f_tup {ta : TA} (h : ta σ H fun xs H1 => xs.length ≤ sizeLine ∧ ∀ p, H1 p = none → Q (.ref p) (upd H1 p (.tup xs))) : tTup ta σ H Q := h
theorem f_lst {ta : TA} (h : ta σ H fun xs H1 => xs.length ≤ sizeLine ∧ ∀ p, H1 p = none → Q (.ref p) (upd H1 p (.lst xs))) : tLst ta σ H Q := h
theorem f_cb {r : List V → Hp → VK → Prop} {ta : TA} (h : ta σ H fun vs H1 => r vs H1 Q) : tCB r ta σ H Q := h
end

/-! ### pure defs -/
open Evl
/-- a def that gives z of vs by D and leaves all as it was -/
def spF (D : List V → V → Prop) : Sp := fun vs H Q _ => ∃ z, D vs z ∧ ∀ H', Ex H H' → Q z H'
theorem f_spF {D : List V → V → Prop} {vs : List V} {H : Hp} {Q : VK} {E : XK} (z : V) (h : D vs z) (q : ∀ H', Ex H H' → Q z H') : spF D vs H Q E := ⟨z, h, q⟩
theorem sv_F {D : List V → V → Prop} {vs : List V} {H : Hp} {z : V} (h : D vs z) : SpV (spF D) (vs ++ []) H z := fun H1 e Q q E => ⟨z, by rw [List.append_nil]; exact h, q⟩
theorem rv_eqI {H : Hp} {i j : Int} : RV rEq (.int i) (.int j) H (.bl (decide (i = j))) := fun H1 _ _ q => ⟨rfl, by rw [dec_int]; exact q H1 (Ex.refl H1)⟩
theorem rv_neI {H : Hp} {i j : Int} : RV rNe (.int i) (.int j) H (.bl (!decide (i = j))) := fun H1 _ _ q => ⟨rfl, by rw [dec_int]; exact q H1 (Ex.refl H1)⟩
theorem rv_eqB {H : Hp} {i j : Bool} : RV rEq (.bl i) (.bl j) H (.bl (i == j)) := fun H1 _ _ q => ⟨rfl, by rw [dec_bl]; exact q H1 (Ex.refl H1)⟩
theorem rv_neB {H : Hp} {i j : Bool} : RV rNe (.bl i) (.bl j) H (.bl (!(i == j))) := fun H1 _ _ q => ⟨rfl, by rw [dec_bl]; exact q H1 (Ex.refl H1)⟩
theorem rv_mod {H : Hp} {i j : Int} (h : 0 < j) : RV (rI (fun _ j => 0 < j) fun i j => .int (i % j)) (.int i) (.int j) H (.int (i % j)) := rv_I (C := fun _ j => 0 < j) h
def b2 (b : Bool) : Int := if b then 1 else 0
theorem ev_intB {te : TE} {σ : L2.St} {H : Hp} {b : Bool} (h : Ev te σ H (.bl b)) : Ev (tCB (fun xs H Q => (∃ i, xs = [.int i] ∧ Q (.int i) H) ∨ ∃ k, xs = [.bl k] ∧ Q (.int (if k then 1 else 0)) H) (tCons te tNil)) σ H (.int (b2 b)) :=
  fun H1 e Q q => h H1 e _ fun H2 e2 => Or.inr ⟨b, rfl, q H2 e2⟩
/-- f(k = v, ..): keywords alone -/
theorem pe_callN0 {X : Cx} {CX : CXT} {k : Nat} {f : Addr} {fd : FuncData} {ps ks : List Str} {sp : Sp} {x : Str} {p pos : Pos} {kws : List Keyword} {tk : TA} {E : XK} {g : List Value → List Value → List Value} {gV : List V → List V → List V}
    (F : FnOk X.prog X.w X.K X.mg X.base CX k f fd ps sp) (hr : Room k X.A) (hg : Gl X x) (hm : X.mg x = some (.ref f)) (kp : PySem.W.keepIn X.K (.ref f) = true) (hb : KBn X.K fd ps 0 ks g gV) (hx : Passes CX X E)
    (hkw : PK X kws tk) (hsome : (backToKw pos (keywordEach kws X.env)).all (·.1.isSome) = true := by rfl) (hnames : (backToKw pos (keywordEach kws X.env)).filterMap (·.1) = ks := by rfl)
    (hdeb : (x == ("__debug__" : Str)) = false := by decide)
    (hplain : ((backTo pos (starEach [] X.env)).any (·.1) || (backToKw pos (keywordEach kws X.env)).any (·.1.isNone)) = false := by rfl) :
    PE X (.Call (.Name x p) [] kws pos) (tCallN 0 ks.length sp gV E tNil tk) := by
  refine ⟨fun pins s σ H Q I h => wpAny_Call_Name_kw (ld_glob I hg hm ?_ hdeb)⟩
  refine PySem.W.callWith_KW0 (h₀ := X.base) I.ok.mod.kin kp hsome (thn (hkw.run pos pins s σ H _ I h) fun us s1 ⟨vs, H1, I1, r, l1, l2, q⟩ => ⟨I1.kIn, ?_⟩) hplain
  rw [hnames]
  exact run_fnN (us := []) F hr hb hx I1 .nil r l1 l2 q
theorem vals_rev : ∀ {xs : List V} {us : List Value}, Vals xs us → Vals xs.reverse us.reverse
  | _, _, .nil => .nil
  | _, _, .cons r t => by
    rw [List.reverse_cons, List.reverse_cons]
    exact (vals_rev t).append (.cons r .nil)

/-! ### == of data -/
theorem eqv_ints (xs ys : List Int) : PyData.eqvAll (xs.map PyData.int) (ys.map PyData.int) = decide (xs = ys) := by
  induction xs generalizing ys with
  | nil => cases ys <;> simp [PyData.eqvAll]
  | cons x xs ih =>
    cases ys with
    | nil => simp [PyData.eqvAll]
    | cons y ys =>
      simp only [List.map_cons, PyData.eqvAll, ih, PyData.eqv, List.cons.injEq]
      by_cases h : x = y <;> by_cases g : xs = ys <;> simp [h, g]
theorem dpa_ints {K : PySem.W.Frag} {H : Hp} : ∀ ns : List Int, DpAll K H (ns.map V.int) (ns.map PyData.int)
  | [] => .nil
  | n :: ns => .cons (.int n) (dpa_ints ns)
theorem dp_ints {K : PySem.W.Frag} {H : Hp} {a : Addr} {ns : List Int} (h : SqL K H a (ns.map V.int)) : Dp K H (.ref a) (.list (ns.map PyData.int)) := .lst h (dpa_ints ns)
/-- two lists of ints compared -/
theorem rv_eqL {K : PySem.W.Frag} {H : Hp} {a b : Addr} {xs ys : List Int} (ha : SqL K H a (xs.map V.int)) (hb : SqL K H b (ys.map V.int)) : RV (rEqD K) (.ref a) (.ref b) H (.bl (decide (xs = ys))) := fun H1 e Q q =>
  ⟨_, _, dp_ints (ex_l e ha), dp_ints (ex_l e hb), PySem.W.ke_shaped_ints xs, PySem.W.ke_shaped_ints ys, by
    show Q (.bl (PyData.eqvAll (xs.map PyData.int) (ys.map PyData.int))) H1
    rw [eqv_ints]; exact q H1 (Ex.refl H1)⟩
theorem rv_neL {K : PySem.W.Frag} {H : Hp} {a b : Addr} {xs ys : List Int} (ha : SqL K H a (xs.map V.int)) (hb : SqL K H b (ys.map V.int)) : RV (rNeD K) (.ref a) (.ref b) H (.bl (!decide (xs = ys))) := fun H1 e Q q =>
  ⟨_, _, dp_ints (ex_l e ha), dp_ints (ex_l e hb), PySem.W.ke_shaped_ints xs, PySem.W.ke_shaped_ints ys, by
    show Q (.bl (!PyData.eqvAll (xs.map PyData.int) (ys.map PyData.int))) H1
    rw [eqv_ints]; exact q H1 (Ex.refl H1)⟩
theorem ev_neL {K : PySem.W.Frag} {σ : L2.St} {H : Hp} {ta tb : TE} {a : Addr} {xs ys : List Int} (ha : Ev ta σ H (.ref a)) (hx : SqL K H a (xs.map V.int)) (hb : EvL tb σ H (ys.map V.int)) : Ev (tOp (rNeD K) ta tb) σ H (.bl (!decide (xs = ys))) :=
  ev_opL ha hb fun _ _ h e => rv_neL (ex_l e hx) (sq_of h)
theorem ev_eqL {K : PySem.W.Frag} {σ : L2.St} {H : Hp} {ta tb : TE} {a : Addr} {xs ys : List Int} (ha : Ev ta σ H (.ref a)) (hx : SqL K H a (xs.map V.int)) (hb : EvL tb σ H (ys.map V.int)) : Ev (tOp (rEqD K) ta tb) σ H (.bl (decide (xs = ys))) :=
  ev_opL ha hb fun _ _ h e => rv_eqL (ex_l e hx) (sq_of h)

/-! ### the source of draws: [digits, held, mix, turn] at s, digits at d; B draws may still come -/
structure Src (H : Hp) (s d : Addr) (B : Nat) : Prop where
  ex : ∃ (ds : List Int) (a m c : Int), H s = some (.lst [.ref d, .int a, .int m, .int c]) ∧ H d = some (.lst (ds.map V.int)) ∧ ds.length ≤ 63 ∧ 0 ≤ m ∧ m < 2 ^ 61 ∧ 0 ≤ c ∧ c + B ≤ 2 ^ 60
theorem Src.ne {H : Hp} {s d : Addr} {B : Nat} (S : Src H s d B) : s ≠ d := fun e => by
  obtain ⟨ds, a, m, c, h1, h2, _⟩ := S.ex
  rw [e, h2] at h1
  cases ds with
  | nil => simp at h1
  | cons x r => simp at h1
theorem Src.less {H : Hp} {s d : Addr} {B B' : Nat} (S : Src H s d B) (h : B' ≤ B) : Src H s d B' := by
  obtain ⟨ds, a, m, c, h1, h2, h3, h4, h5, h6, h7⟩ := S.ex
  exact ⟨ds, a, m, c, h1, h2, h3, h4, h5, h6, by omega⟩
theorem Src.ex_ {H H' : Hp} {s d : Addr} {B : Nat} (S : Src H s d B) (e : Ex H H') : Src H' s d B := by
  obtain ⟨ds, a, m, c, h1, h2, h⟩ := S.ex
  exact ⟨ds, a, m, c, e _ _ h1, e _ _ h2, h⟩
theorem Src.free {H : Hp} {s d : Addr} {B : Nat} (S : Src H s d B) {p : Addr} (h : H p = none) : p ≠ s ∧ p ≠ d := by
  obtain ⟨ds, a, m, c, h1, h2, _⟩ := S.ex
  exact ⟨(ne_of_none h1 h).symm, (ne_of_none h2 h).symm⟩
/-- all but the source is kept -/
def Kp (s d : Addr) (H H' : Hp) : Prop := ∀ b o, b ≠ s → b ≠ d → H b = some o → H' b = some o
theorem Kp.refl {s d : Addr} {H : Hp} : Kp s d H H := fun _ _ _ _ h => h
theorem Kp.trans {s d : Addr} {H H1 H2 : Hp} (a : Kp s d H H1) (b : Kp s d H1 H2) : Kp s d H H2 := fun c o h1 h2 h => b c o h1 h2 (a c o h1 h2 h)
theorem Kp.of {s d : Addr} {H H' : Hp} (e : Ex H H') : Kp s d H H' := fun c o _ _ h => e c o h
theorem Kp.l {s d : Addr} {H H1 H2 : Hp} (a : Kp s d H H1) (b : Ex H1 H2) : Kp s d H H2 := a.trans (.of b)
def spDraw : Sp := fun vs H Q _ => ∃ (s d : Addr) (many : Int) (B : Nat), vs = [.ref s, .int many] ∧ 0 < many ∧ many ≤ 10 ^ 60 ∧ Src H s d (B + 1) ∧ ∀ n H', 0 ≤ n → n < many → Src H' s d B → Kp s d H H' → Q (.int n) H'
def spSource (K : PySem.W.Frag) : Sp := fun vs H Q _ => ∃ (a : Addr) (ns : List Int), vs = [.ref a] ∧ SqL K H a (ns.map V.int) ∧ ns.length ≤ 63 ∧ ∀ s d H', H s = none → H d = none → Src H' s d (2 ^ 59) → Ex H H' → Q (.ref s) H'
theorem sz1000 {n : Nat} (h : n ≤ 1000) : n ≤ sizeLine := Nat.le_trans h (by decide)
theorem f_draw {H : Hp} {s d : Addr} {B : Nat} {many : Int} {Q : VK} {E : XK} (S : Src H s d (B + 1)) (h0 : 0 < many) (hb : many ≤ 10 ^ 60) (q : ∀ n H', 0 ≤ n → n < many → Src H' s d B → Kp s d H H' → Q (.int n) H') :
    spDraw ([.ref s, .int many] ++ []) H Q E := ⟨s, d, many, B, rfl, h0, hb, S, q⟩
theorem at_ints {L : List Int} {n : Int} (h0 : 0 ≤ n) (h1 : n < L.length) : ∃ z, z ∈ L ∧ atI (L.map V.int) n = some (.int z) := by
  obtain ⟨j, rfl⟩ : ∃ j : Nat, n = (j : Int) := ⟨n.toNat, by omega⟩
  have hj : j < L.length := by omega
  exact ⟨L[j], List.getElem_mem hj, atI_nat (by rw [List.getElem?_map, List.getElem?_eq_getElem hj]; rfl)⟩
theorem Kp.at {s d p : Addr} {H H' : Hp} {o : HO} (k : Kp s d H H') (f : p ≠ s ∧ p ≠ d) (h : H p = some o) : H' p = some o := k p o f.1 f.2 h
theorem upd_old {H : Hp} {p q : Addr} {o u : HO} (h : H p = some o) (n : H q = none) : upd H q u p = some o := by
  rw [upd_ne (ne_of_none h n)]; exact h
def spCount : Sp := fun vs H Q _ => ∃ (s d : Addr) (B : Nat), vs = [.ref s] ∧ Src H s d (B + 7) ∧ ∀ y H', y.natAbs ≤ 10 ^ 31 → Src H' s d B → Kp s d H H' → Q (.int y) H'

/-! ### data: what _law_same compares -/
def tyN : PyData → String
  | .none => "NoneType" | .bool _ => "bool" | .int _ => "int" | .str _ => "str" | .list _ => "list" | .tuple _ => "tuple" | .dict _ => "dict"
theorem ty_dp {K : PySem.W.Frag} {H : Hp} {x : V} {d : PyData} (h : Dp K H x d) : TyX K H x (.type (tyN d)) := by
  cases h with
  | non => exact .base .non
  | bl b => exact .base (.bl b)
  | int i => exact .base (.int i)
  | str x => exact .base (.str x)
  | lst h _ =>
    rcases h with (h | ⟨o, h⟩) | ⟨o, its, n, h, c, _⟩
    · exact .base (.lst h)
    · exact .base (.frz h)
    · exact .kList h c
  | tup h _ =>
    rcases h with (h | ⟨o, h⟩) | ⟨o, its, n, h, c, _⟩
    · exact .base (.tup h)
    · exact .fTuple h
    · exact .kTuple h c
mutual
theorem dp_ex {K : PySem.W.Frag} {H H' : Hp} (e : Ex H H') : ∀ {d : PyData} {x : V}, Dp K H x d → Dp K H' x d
  | _, _, .non => .non
  | _, _, .bl b => .bl b
  | _, _, .int i => .int i
  | _, _, .str x => .str x
  | _, _, .lst h a => .lst (ex_l e h) (dpa_ex e a)
  | _, _, .tup h a => .tup (ex_t e h) (dpa_ex e a)
theorem dpa_ex {K : PySem.W.Frag} {H H' : Hp} (e : Ex H H') : ∀ {ds : List PyData} {xs : List V}, DpAll K H xs ds → DpAll K H' xs ds
  | _, _, .nil => .nil
  | _, _, .cons h a => .cons (dp_ex e h) (dpa_ex e a)
end
theorem dpa_len {K : PySem.W.Frag} {H : Hp} : ∀ {xs : List V} {ds : List PyData}, DpAll K H xs ds → xs.length = ds.length
  | _, _, .nil => rfl
  | _, _, .cons _ a => congrArg Nat.succ (dpa_len a)
theorem dpa_get {K : PySem.W.Frag} {H : Hp} : ∀ {xs : List V} {ds : List PyData} {i : Nat}, DpAll K H xs ds → i < ds.length → ∃ x d, xs[i]? = some x ∧ ds[i]? = some d ∧ d ∈ ds ∧ Dp K H x d
  | _, _, _, .nil, h => by simp at h
  | _, _, 0, .cons h _, _ => ⟨_, _, rfl, rfl, List.mem_cons_self .., h⟩
  | _, _, i + 1, .cons _ a, h => by
    obtain ⟨x, d, h1, h2, h3, h4⟩ := dpa_get (i := i) a (by simpa using h)
    exact ⟨x, d, h1, h2, List.mem_cons_of_mem _ h3, h4⟩
/-- data of depth n, lists and tuples of at most 10000 -/
def okd : Nat → PyData → Prop
  | _, .none => True
  | _, .bool _ => True
  | _, .int _ => True
  | _, .str x => PyData.canLay0 (.str x) = true
  | n + 1, .list xs => xs.length ≤ 10000 ∧ ∀ x, x ∈ xs → okd n x
  | n + 1, .tuple xs => xs.length ≤ 10000 ∧ ∀ x, x ∈ xs → okd n x
  | _, _ => False
theorem shaped_str {x : Str} (h : PyData.canLay0 (.str x) = true) : SeqAt.shaped (.str x) = true := by
  unfold SeqAt.shaped
  rw [h]; rfl
theorem ev_isi {K : PySem.W.Frag} {σ : L2.St} {H : Hp} {te : TE} {x : V} {t : String} {n : String} {b : Bool} (h : Ev te σ H x) (ty : ∀ H1, Ex H H1 → TyX K H1 x (.type t)) (kb : kitB t n = some b) :
    Ev (tCB (rIsi K) (tCons te (tCons (tC (.ty n)) tNil))) σ H (.bl b) := fun H1 e Q q => h H1 e _ fun H2 e2 => ⟨x, .ty n, _, _, b, rfl, .ty n, ty H2 (e.trans e2), kit_ty kb, q H2 e2⟩
theorem rv_isN {H : Hp} {x : V} : RV (fun x y H Q => y = .non ∧ Q (.bl (decide (x = .non))) H) x .non H (.bl (decide (x = .non))) := fun H1 _ _ q => ⟨rfl, q H1 (Ex.refl H1)⟩
theorem rv_eqDp {K : PySem.W.Frag} {H : Hp} {x y : V} {d e : PyData} (hx : Dp K H x d) (hy : Dp K H y e) (sd : SeqAt.shaped d = true) (se : SeqAt.shaped e = true) : RV (rEqD K) x y H (.bl (PyData.eqv d e)) := fun H1 x1 _ q =>
  ⟨d, e, dp_ex x1 hx, dp_ex x1 hy, sd, se, q H1 (Ex.refl H1)⟩
/-- found[k], of a list or a tuple -/
theorem rv_ixAny {K : PySem.W.Frag} {H : Hp} {p : Addr} {xs : List V} {j : Nat} {v : V} (h : SqL K H p xs ∨ SqT K H p xs) (ha : xs[j]? = some v) : RV (rIx K) (.ref p) (.int (j : Int)) H v := fun H1 e _ q => by
  rcases h with h | h
  · exact Or.inl ⟨p, xs, _, v, rfl, rfl, ex_l e h, atI_nat ha, q H1 (Ex.refl H1)⟩
  · exact Or.inr (Or.inl ⟨p, xs, _, v, rfl, rfl, ex_t e h, atI_nat ha, q H1 (Ex.refl H1)⟩)
theorem ev_lenS {K : PySem.W.Frag} {σ : L2.St} {H : Hp} {ta : TE} {p : Addr} {xs : List V} (ha : Ev ta σ H (.ref p)) (h : SqL K H p xs ∨ SqT K H p xs) : Ev (tCB (rLenS K) (tCons ta tNil)) σ H (.int (xs.length : Int)) := fun H1 e Q q =>
  ha H1 e _ fun H2 e2 => ⟨p, xs, rfl, h.elim (fun h => Or.inl (ex_l (e.trans e2) h)) (fun h => Or.inr (ex_t (e.trans e2) h)), q H2 e2⟩
def spSame (K : PySem.W.Frag) (n : Nat) : Sp := fun vs H Q _ => ∃ (x y : V) (dt : PyData), vs = [x, y] ∧ Dp K H x dt ∧ Dp K H y dt ∧ okd n dt ∧ ∀ H', Ex H H' → Q (.bl true) H'
theorem given_none {n : Nat} {f : Nat → Bool} {v : Nat → V} (h : ∀ i, i < n → f i = false) : given n f v = [] := by
  unfold given
  rw [List.filter_eq_nil_iff.mpr (fun i hi => by rw [h i (List.mem_range.mp hi)]; decide)]; rfl

/-! ### steps of a law's own text -/
section
variable {K : PySem.W.Frag} {σ : L2.St} {H : Hp} {Q : VK} {te : TE} {t : TT}
theorem f_evL {xs : List V} (h : EvL te σ H xs) (k : ∀ p H1, H p = none → Ex H H1 → H1 p = some (.lst xs) → Q (.ref p) H1) : te σ H Q := h H (Ex.refl H) Q k
theorem f_ev {v : V} (h : Ev te σ H v) (k : ∀ H1, Ex H H1 → Q v H1) : te σ H Q := h H (Ex.refl H) Q k
theorem ev_callK {sp : Sp} {gV : List V → List V → List V} {E : XK} {ta tk : TA} {vs zs : List V} {n m : Nat} {z : V} (h : EvA ta σ H vs) (hk : EvA tk σ H zs) (hn : vs.length = n) (hm : zs.length = m) (hs : SpV sp (gV vs zs) H z) : Ev (tCallN n m sp gV E ta tk) σ H z := fun H1 e Q q =>
  h H1 e _ fun H2 e2 => hk H2 (e.trans e2) _ fun H3 e3 => ⟨hn, hm, hs H3 ((e.trans e2).trans e3) Q (fun H4 e4 => q H4 ((e2.trans e3).trans e4)) E⟩
theorem sv_Fk {D : List V → V → Prop} {vs : List V} {H : Hp} {z : V} (h : D vs z) : SpV (spF D) vs H z := fun H1 e Q q E => ⟨z, h, q⟩
/-- a def that gives a new list -/
def spNL (D : List V → List V → Prop) : Sp := fun vs H Q _ => ∃ xs, D vs xs ∧ ∀ p H', H p = none → Ex H H' → H' p = some (.lst xs) → Q (.ref p) H'
theorem sl_NL {D : List V → List V → Prop} {vs : List V} {H : Hp} {xs : List V} (h : D vs xs) : SpL (spNL D) (vs ++ []) H xs := fun H1 e Q q E => ⟨xs, by rw [List.append_nil]; exact h, q⟩
theorem el_lcR2 {ta : TA} {j : Nat} {vs : List Nat} {lo n : Int} (f : Nat → Bool) (v : Nat → V) (h : EvA ta σ H [.int lo, .int n]) (hn : -100000 ≤ lo ∧ lo ≤ 100000 ∧ lo ≤ n ∧ n ≤ lo + 40000) (hw : ∀ x, wipe ((wipe σ vs).set j (some x)) vs = wipe σ vs)
    (ht : ∀ (i : Nat) H1, Ex H H1 → lo + (i : Int) < n → EvT t ((wipe σ vs).set j (some (.int (lo + (i : Int))))) H1 (f i)) (he : ∀ (i : Nat) H1, Ex H H1 → lo + (i : Int) < n → f i = true → Ev te ((wipe σ vs).set j (some (.int (lo + (i : Int))))) H1 (v i)) :
    EvL (tLc (iRng2 ta) (gName j) t te vs) σ H (given (n - lo).toNat f v) := fun H0 e Q q => h H0 e _ fun H1 e1 => ⟨lo, n, rfl, by omega, fun Dl hD =>
  lc_range (lo := lo) (n := (n - lo).toNat) (Cw H1 f v Dl) ⟨hD, Ex.new hD, upd_same⟩ (fun i H' hi p =>
    ⟨hw _, cw_turn p (by omega) (ht i H1 (e.trans e1) (by omega)) (fun hf => he i H1 (e.trans e1) (by omega) hf)⟩) (fun H' p => q Dl H' (fresh_back e1 p.1) (e1.trans p.2.1) p.2.2)⟩
theorem et_yes {b : Bool} (h : b = true) : EvT tYes σ H b := fun H1 _ _ q => by subst h; exact q H1 (Ex.refl H1)
theorem ev_sumL {ns : List Int} (h : EvL te σ H (ns.map V.int)) : Ev (tCB (rSum K) (tCons te tNil)) σ H (.int ns.sum) := fun H1 e Q q =>
  h H1 e _ fun p H2 _ e2 hp => ⟨p, ns, rfl, sq_of hp, q H2 e2⟩
theorem given_all {n : Nat} {v : Nat → V} : given n (fun _ => true) v = (List.range n).map v := by
  unfold given
  rw [List.filter_eq_self.mpr (fun _ _ => rfl)]
theorem el_rep {te tk : TE} {xs : List V} {k : Int} (h : EvL te σ H xs) (hk : ∀ H1, Ex H H1 → Ev tk σ H1 (.int k)) (h0 : 0 ≤ k ∧ k ≤ 100) (hz : xs.length ≤ 100) : EvL (tOp rRep te tk) σ H ((List.replicate k.toNat xs).flatten) := fun H1 e Q q =>
  h H1 e _ fun p H2 np e2 hp => hk H2 (e.trans e2) H2 (Ex.refl H2) _ fun H3 e3 => ⟨p, k, xs, rfl, rfl, e3 _ _ hp, by omega, by omega, Nat.le_trans (Nat.mul_le_mul hz (show k.toNat ≤ 100 by omega)) (by decide), fun l hl => q l _ (fresh_back (e2.trans e3) hl) ((e2.trans e3).trans (Ex.new hl)) upd_same⟩
/-- a list of bools compared -/
theorem eqv_bools (xs : List Bool) : PyData.eqvAll (xs.map PyData.bool) (xs.map PyData.bool) = true := by
  induction xs with
  | nil => simp [PyData.eqvAll]
  | cons x xs ih => simp [PyData.eqvAll, PyData.eqv, ih]
theorem dpa_bools {H : Hp} : ∀ ns : List Bool, DpAll K H (ns.map V.bl) (ns.map PyData.bool)
  | [] => .nil
  | n :: ns => .cons (.bl n) (dpa_bools ns)
theorem dp_bools {H : Hp} {a : Addr} {ns : List Bool} (h : SqL K H a (ns.map V.bl)) : Dp K H (.ref a) (.list (ns.map PyData.bool)) := .lst h (dpa_bools ns)
end
end Mc
namespace Mk
open PySem L2 Mc Evl
def topS (i : Nat) : Stmt := PySem.Challenge.pw_monthclamp_k01_leap_years_and_months.main.body.getD i (.Pass ⟨0, 0, 0, 0⟩)
abbrev s_is_leap : Stmt := topS 5
theorem sc_is_leap : FnScope ["year"] ["year"] (defScope s_is_leap) := ⟨rfl, rfl, rfl, by decide +kernel, rfl, by decide +kernel, by decide +kernel⟩
abbrev s_days_in : Stmt := topS 6
theorem sc_days_in : FnScope ["year", "month"] ["year", "month"] (defScope s_days_in) := ⟨rfl, rfl, rfl, by decide +kernel, rfl, by decide +kernel, by decide +kernel⟩
abbrev s_law_source : Stmt := topS 8
theorem sc_law_source : FnScope ["script", "mix", "digits", "cell", "size"] ["script"] (defScope s_law_source) := ⟨rfl, rfl, rfl, by decide +kernel, rfl, by decide +kernel, by decide +kernel⟩
abbrev s_law_draw : Stmt := topS 9
theorem sc_law_draw : FnScope ["source", "many", "drawn", "mixed"] ["source", "many"] (defScope s_law_draw) := ⟨rfl, rfl, rfl, by decide +kernel, rfl, by decide +kernel, by decide +kernel⟩
abbrev s_law_same : Stmt := topS 10
theorem sc_law_same : FnScope ["found", "wanted", "k"] ["found", "wanted"] (defScope s_law_same) := ⟨rfl, rfl, rfl, by decide +kernel, rfl, by decide +kernel, by decide +kernel⟩
abbrev s_law_leap : Stmt := topS 11
theorem sc_law_leap : FnScope ["count"] ["count"] (defScope s_law_leap) := ⟨rfl, rfl, rfl, by decide +kernel, rfl, by decide +kernel, by decide +kernel⟩
abbrev s_law_length : Stmt := topS 12
theorem sc_law_length : FnScope ["number", "place"] ["number"] (defScope s_law_length) := ⟨rfl, rfl, rfl, by decide +kernel, rfl, by decide +kernel, by decide +kernel⟩
abbrev s_law_count : Stmt := topS 13
theorem sc_law_count : FnScope ["source", "some", "far"] ["source"] (defScope s_law_count) := ⟨rfl, rfl, rfl, by decide +kernel, rfl, by decide +kernel, by decide +kernel⟩
abbrev s_law_date : Stmt := topS 14
theorem sc_law_date : FnScope ["source", "count", "place", "last", "days"] ["source"] (defScope s_law_date) := ⟨rfl, rfl, rfl, by decide +kernel, rfl, by decide +kernel, by decide +kernel⟩
abbrev s_law_lengths : Stmt := topS 15
theorem sc_law_lengths : FnScope ["count"] ["count"] (defScope s_law_lengths) := ⟨rfl, rfl, rfl, by decide +kernel, rfl, by decide +kernel, by decide +kernel⟩
abbrev s_law : Stmt := topS 16
theorem sc_law : FnScope ["script", "source", "k", "turn", "count", "due", "told", "named", "first", "days", "some", "at", "number"] ["script"] (defScope s_law) := ⟨rfl, rfl, rfl, by decide +kernel, rfl, by decide +kernel, by decide +kernel⟩
structure Top (K : PySem.W.Frag) (mg : Str → Option Value) where
  f_is_leap : Addr
  fd_is_leap : FuncData
  F_is_leap : Fun K "is_leap" "is_leap" s_is_leap f_is_leap fd_is_leap
  g_is_leap : mg "is_leap" = some (.ref f_is_leap)
  b_is_leap : Binds K fd_is_leap ["year"] []
  f_days_in : Addr
  fd_days_in : FuncData
  F_days_in : Fun K "days_in" "days_in" s_days_in f_days_in fd_days_in
  g_days_in : mg "days_in" = some (.ref f_days_in)
  b_days_in : Binds K fd_days_in ["year", "month"] []
  f_law_source : Addr
  fd_law_source : FuncData
  F_law_source : Fun K "_law_source" "_law_source" s_law_source f_law_source fd_law_source
  g_law_source : mg "_law_source" = some (.ref f_law_source)
  b_law_source : Binds K fd_law_source ["script"] []
  f_law_draw : Addr
  fd_law_draw : FuncData
  F_law_draw : Fun K "_law_draw" "_law_draw" s_law_draw f_law_draw fd_law_draw
  g_law_draw : mg "_law_draw" = some (.ref f_law_draw)
  b_law_draw : Binds K fd_law_draw ["source", "many"] []
  f_law_same : Addr
  fd_law_same : FuncData
  F_law_same : Fun K "_law_same" "_law_same" s_law_same f_law_same fd_law_same
  g_law_same : mg "_law_same" = some (.ref f_law_same)
  b_law_same : Binds K fd_law_same ["found", "wanted"] []
  f_law_leap : Addr
  fd_law_leap : FuncData
  F_law_leap : Fun K "_law_leap" "_law_leap" s_law_leap f_law_leap fd_law_leap
  g_law_leap : mg "_law_leap" = some (.ref f_law_leap)
  b_law_leap : Binds K fd_law_leap ["count"] []
  f_law_count : Addr
  fd_law_count : FuncData
  F_law_count : Fun K "_law_count" "_law_count" s_law_count f_law_count fd_law_count
  g_law_count : mg "_law_count" = some (.ref f_law_count)
  b_law_count : Binds K fd_law_count ["source"] []
  f_law_lengths : Addr
  fd_law_lengths : FuncData
  F_law_lengths : Fun K "_law_lengths" "_law_lengths" s_law_lengths f_law_lengths fd_law_lengths
  g_law_lengths : mg "_law_lengths" = some (.ref f_law_lengths)
  b_law_lengths : Binds K fd_law_lengths ["count"] []
  f_law : Addr
  fd_law : FuncData
  F_law : Fun K "law" "law" s_law f_law fd_law
  g_law : mg "law" = some (.ref f_law)
  b_law : Binds K fd_law ["script"] []
  z_bool : mg "bool" = none
  z_int : mg "int" = none
  z_isinstance : mg "isinstance" = none
  z_len : mg "len" = none
  z_list : mg "list" = none
  z_max : mg "max" = none
  z_min : mg "min" = none
  z_range : mg "range" = none
  z_str : mg "str" = none
  z_sum : mg "sum" = none
  z_tuple : mg "tuple" = none
  a_DAYS_IN_COMMON_YEAR : Addr
  g_DAYS_IN_COMMON_YEAR : mg "_DAYS_IN_COMMON_YEAR" = some (.ref a_DAYS_IN_COMMON_YEAR)
  q_DAYS_IN_COMMON_YEAR : ∀ H : Hp, SqT K H a_DAYS_IN_COMMON_YEAR [.int 31, .int 28, .int 31, .int 30, .int 31, .int 30, .int 31, .int 31, .int 30, .int 31, .int 30, .int 31]
def spLaw (K : PySem.W.Frag) : Sp := fun vs H Q _ => ∃ (a : Addr) (ns : List Int), vs = [.ref a] ∧ SqL K H a (ns.map V.int) ∧ ns.length ≤ 63 ∧ ∀ H', Q (.bl true) H'
section
variable {P : Program} {w : World} {K : PySem.W.Frag} {mg : Str → Option Value} {base : Heap}
def kg_days_in_month_year {α : Type} : List α → List α → List α := fun us ws => us ++ ws.reverse
theorem kb_days_in_month_year {K : PySem.W.Frag} {f : Addr} {fd : FuncData} (F : Fun K "days_in" "days_in" s_days_in f fd) : KBn K fd ["year", "month"] 0 ["month", "year"] kg_days_in_month_year kg_days_in_month_year := by
  obtain ⟨oc, od, kV, doc, pm, an, cdv, ct, osl, rfl, lk, hcd⟩ := F.ex
  refine ⟨fun s us ws _ hl hm => ?_, fun {vs us zs ws} r rz => r.append (vals_rev rz)⟩
  match us, ws, hl, hm with
  | [], [w0, w1], _, _ => exact .of_eq rfl

def kg_is_leap_year {α : Type} : List α → List α → List α := fun us ws => us ++ ws
theorem kb_is_leap_year {K : PySem.W.Frag} {f : Addr} {fd : FuncData} (F : Fun K "is_leap" "is_leap" s_is_leap f fd) : KBn K fd ["year"] 0 ["year"] kg_is_leap_year kg_is_leap_year := by
  obtain ⟨oc, od, kV, doc, pm, an, cdv, ct, osl, rfl, lk, hcd⟩ := F.ex
  refine ⟨fun s us ws _ hl hm => ?_, fun {vs us zs ws} r rz => r.append rz⟩
  match us, ws, hl, hm with
  | [], [w0], _, _ => exact .of_eq rfl
local macro_rules | `(tactic| walk_at "fw") => `(tactic| repeat (first
  | with_reducible refine f_seq ?_
  | with_reducible refine f_asg ?_
  | with_reducible refine f_gName ?_
  | with_reducible refine f_ret ?_
  | with_reducible refine f_op ?_
  | with_reducible refine f_un ?_
  | with_reducible refine f_c ?_
  | ((with_reducible apply f_var); exact rfl)
  | with_reducible refine f_I0 ?_
  | with_reducible refine f_U ?_
  | ((with_reducible refine f_I ?fwh ?_); case fwh => first | assumption | (unfold CPow; omega) | (unfold CDivW; omega) | (unfold CDiv; omega) | (exact wide_mul (a := 20) (b := 64) (by omega) (by omega) (by decide) (by decide) (by decide)) | (exact wide_mul (a := 64) (b := 20) (by omega) (by omega) (by decide) (by decide) (by decide)) | (exact wide_mul (a := 160) (b := 160) (by omega) (by omega) (by decide) (by decide) (by decide)) | decide | omega)
  | with_reducible refine f_eqI ?_
  | with_reducible refine f_neI ?_
  | with_reducible refine f_test ?_
  | with_reducible refine f_B ?_
  | with_reducible refine f_bl ?_
  | with_reducible refine f_and ?_
  | with_reducible refine f_or ?_
  | with_reducible refine f_not ?_
  | with_reducible refine f_next ?_
  | with_reducible refine f_drop ?_
  | with_reducible refine f_ifS ?_
  | with_reducible refine f_if ?_
  | with_reducible refine f_call ?_
  | with_reducible refine f_nil ?_
  | with_reducible refine f_cons ?_
  | with_reducible refine f_tup ?_
  | with_reducible refine f_lst ?_
  | with_reducible refine f_cb ?_))

local macro_rules | `(tactic| walk_at "fs") => `(tactic| repeat (first
  | with_reducible refine f_seq ?_
  | with_reducible refine f_asg ?_
  | with_reducible refine f_gName ?_
  | with_reducible refine f_ret ?_
  | with_reducible refine f_c ?_
  | ((with_reducible apply f_var); exact rfl)
  | with_reducible refine f_test ?_
  | with_reducible refine f_B ?_
  | with_reducible refine f_bl ?_
  | with_reducible refine f_and ?_
  | with_reducible refine f_or ?_
  | with_reducible refine f_not ?_
  | with_reducible refine f_next ?_
  | with_reducible refine f_drop ?_
  | with_reducible refine f_nil ?_
  | with_reducible refine f_ifS ?_))

def leap (y : Int) : Bool := decide (y % 4 = 0) && (!decide (y % 100 = 0) || decide (y % 400 = 0))
def D_leap (vs : List V) (z : V) : Prop := ∃ y : Int, vs = [.int y] ∧ z = .bl (leap y)
theorem ok_is_leap (T : Top K mg) : FnOk P w K mg base CX0 1 T.f_is_leap T.fd_is_leap ["year"] (spF D_leap) := by
  refine T.F_is_leap.ok sc_is_leap (fun vs H Q E h => ?_) (fun cdv A outer s H vs Q E hr h => ?_)
  · obtain ⟨z, ⟨y, rfl, _⟩, _⟩ := h; rfl
  · obtain ⟨z, ⟨y, rfl, rfl⟩, q⟩ := h
    refine ⟨_, (pss_one (ps_ret (pe_and (pe_cmpR op_eq (pe_op op_mod (pv 0) pe_int) pe_int (nomark _)) (pe_one (pe_or (pe_cmpR op_ne (pe_op op_mod (pv 0) pe_int) pe_int (nomark _)) (pe_one (pe_cmpR op_eq (pe_op op_mod (pv 0) pe_int) pe_int (nomark _)))))))), ?_⟩
    exact s_ret (ev_andV (ev_op (ev_op (ev_var rfl) ev_c (rv_I (by decide))) ev_c rv_eqI) fun _ => ev_orV (ev_op (ev_op (ev_var rfl) ev_c (rv_I (by decide))) ev_c rv_neI) fun _ => ev_op (ev_op (ev_var rfl) ev_c (rv_I (by decide))) ev_c rv_eqI) q
def lleap (y : Int) : Bool := decide (y % 400 = 0) || (decide (y % 4 = 0) && !decide (y % 100 = 0))
theorem lleap_eq (y : Int) : lleap y = leap y := by
  unfold lleap leap
  by_cases h4 : y % 400 = 0
  · have a : y % 4 = 0 := by omega
    have b : y % 100 = 0 := by omega
    simp [h4, a, b]
  · simp [h4]
theorem ok_law_leap (T : Top K mg) : FnOk P w K mg base CX0 1 T.f_law_leap T.fd_law_leap ["count"] (spF D_leap) := by
  refine T.F_law_leap.ok sc_law_leap (fun vs H Q E h => ?_) (fun cdv A outer s H vs Q E hr h => ?_)
  · obtain ⟨z, ⟨y, rfl, _⟩, _⟩ := h; rfl
  · obtain ⟨z, ⟨y, rfl, rfl⟩, q⟩ := h
    rw [← lleap_eq] at q
    refine ⟨_, (pss_one (ps_ret (pe_or (pe_cmpR op_eq (pe_op op_mod (pv 0) pe_int) pe_int (nomark _)) (pe_one (pe_and (pe_cmpR op_eq (pe_op op_mod (pv 0) pe_int) pe_int (nomark _)) (pe_one (pe_cmpR op_ne (pe_op op_mod (pv 0) pe_int) pe_int (nomark _)))))))), ?_⟩
    exact s_ret (ev_orV (ev_op (ev_op (ev_var rfl) ev_c (rv_I (by decide))) ev_c rv_eqI) fun _ => ev_andV (ev_op (ev_op (ev_var rfl) ev_c (rv_I (by decide))) ev_c rv_eqI) fun _ => ev_op (ev_op (ev_var rfl) ev_c (rv_I (by decide))) ev_c rv_neI) q


/-! the lengths of months -/
def mlist (y : Int) : List Int := [31, 28 + b2 (leap y), 31, 30, 31, 30, 31, 31, 30, 31, 30, 31]
def dlen (y m : Int) : Int := (mlist y).getD (m - 1).toNat 0
def D_days (vs : List V) (z : V) : Prop := ∃ y m : Int, vs = [.int y, .int m] ∧ 1 ≤ m ∧ m ≤ 12 ∧ z = .int (dlen y m)
theorem ok_days_in (T : Top K mg) : FnOk P w K mg base CX0 2 T.f_days_in T.fd_days_in ["year", "month"] (spF D_days) := by
  have G_is_leap : FnOk P w K mg base CX0 1 T.f_is_leap T.fd_is_leap ["year"] (spF D_leap) := ok_is_leap T
  refine T.F_days_in.ok sc_days_in (fun vs H Q E h => ?_) (fun cdv A outer s H vs Q E hr h => ?_)
  · obtain ⟨z, ⟨y, m, rfl, _⟩, _⟩ := h; rfl
  · obtain ⟨z, ⟨y, m, rfl, h1, h12, rfl⟩, q⟩ := h
    refine ⟨_, (pss_cons (ps_if (PW.pt (pw_or (pt_cmpR op_lt (pv 1) pe_int (nomark _)) (pw_or1 (pt_cmpR op_gt (pv 1) pe_int (nomark _))))) (pss_one ps_never) pss_nil)
      (pss_cons (ps_if (PW.pt (pw_and (pt_cmpR op_eq (pv 1) pe_int (nomark _)) (pw_and1 (pt_val (pe_call G_is_leap (hr.mono (by first | decide | omega)) (by rfl) T.g_is_leap T.F_is_leap.kp T.b_is_leap .nil pass0 (pa_cons (pv 0) pa_nil)))))) (pss_one (ps_ret pe_int)) pss_nil)
      (pss_one (ps_ret (pe_ix (r := rIxT K) ix_tup (pe_glob (v := .ref T.a_DAYS_IN_COMMON_YEAR) (by rfl) T.g_DAYS_IN_COMMON_YEAR rfl) (pe_op op_sub (pv 1) pe_int) (fun _ _ => rfl)))))), ?_⟩
    refine f_seq (s_if (et_or (et_test (ev_op (ev_var rfl) ev_c rv_I0)) fun _ => et_test (ev_op (ev_var rfl) ev_c rv_I0)) (fun h => ?_) fun _ H1 e1 => ?_)
    · simp at h; omega
    refine f_seq (s_if (et_and (et_test (ev_op (ev_var rfl) ev_c rv_eqI)) fun _ => et_B (ev_call (ea_cons (ev_var rfl) ea_nil) (sv_F ⟨y, rfl, rfl⟩))) (fun h H2 e2 => ?_) fun h H2 e2 => ?_)
    · simp at h
      obtain ⟨rfl, h⟩ := h
      refine s_ret ev_c fun H3 e3 => ?_
      have e : dlen y 2 = 29 := by simp [dlen, mlist, h, b2]
      rw [e] at q
      exact q _ ((e1.trans e2).trans e3)
    · have hm : m = 1 ∨ m = 2 ∨ m = 3 ∨ m = 4 ∨ m = 5 ∨ m = 6 ∨ m = 7 ∨ m = 8 ∨ m = 9 ∨ m = 10 ∨ m = 11 ∨ m = 12 := by omega
      have hq : atI ([.int 31, .int 28, .int 31, .int 30, .int 31, .int 30, .int 31, .int 31, .int 30, .int 31, .int 30, .int 31] : List V) (m - 1) = some (.int (dlen y m)) := by
        rcases hm with rfl | rfl | rfl | rfl | rfl | rfl | rfl | rfl | rfl | rfl | rfl | rfl
        case inr.inl =>
          simp at h
          have e : dlen y 2 = 28 := by simp [dlen, mlist, h, b2]
          rw [e]; exact atI_nat (j := 1) rfl
        all_goals (first | exact atI_nat (j := 0) rfl | exact atI_nat (j := 2) rfl | exact atI_nat (j := 3) rfl | exact atI_nat (j := 4) rfl | exact atI_nat (j := 5) rfl | exact atI_nat (j := 6) rfl | exact atI_nat (j := 7) rfl | exact atI_nat (j := 8) rfl | exact atI_nat (j := 9) rfl | exact atI_nat (j := 10) rfl | exact atI_nat (j := 11) rfl)
      exact s_ret (ev_op ev_c (ev_op (ev_var rfl) ev_c rv_I0) (rv_ixT (T.q_DAYS_IN_COMMON_YEAR _) hq)) fun H3 e3 => q _ ((e1.trans e2).trans e3)

theorem pow61 : (2 : Int) ^ (61 : Int).toNat - 1 = 2305843009213693951 := by decide
theorem ok_law_source (T : Top K mg) : FnOk P w K mg base CX0 1 T.f_law_source T.fd_law_source ["script"] (spSource K) := by
  refine T.F_law_source.ok sc_law_source (fun vs H Q E h => ?_) (fun cdv A outer s H vs Q E hr h => ?_)
  · obtain ⟨a, ns, rfl, _⟩ := h; rfl
  · obtain ⟨a, ns, rfl, hS, hlen, q⟩ := h
    refine ⟨_, (pss_cons (ps_set (i := 1) sc_law_source.nd rfl (Or.inl rfl) pe_int)
      (pss_cons (ps_set (i := 2) sc_law_source.nd rfl (Or.inl rfl) (pe_lst pa_nil))
      (pss_cons (ps_for PassesOwn.never rfl (pi_list (pv 0)) (pg_name (i := 3) sc_law_source.nd rfl (Or.inl rfl)) (pss_cons (ps_set (i := 1) sc_law_source.nd rfl (Or.inl rfl) (pe_op op_mod (pe_op op_add (pe_op op_mulW (pv 1) pe_int) (pv 3)) (pe_op op_sub (pe_op op_pow pe_int pe_int) pe_int)))
      (pss_cons (ps_set (i := 4) sc_law_source.nd rfl (Or.inl rfl) (pe_callB (call_max2 rfl) (by rfl) T.z_max (by decide +kernel) (pa_cons (pv 3) (pa_cons (pe_op op_sub pe_int (pv 3)) pa_nil))))
      (pss_one (ps_if (pt_cmpR op_ge (pv 4) (pe_op op_pow pe_int pe_int) (nomark _)) (pss_one (ps_expr (pe_bm PySem.F.plainAttrs_list PySem.F.slot_list_append PySem.F.type_list_append mt_append (pv 2) (pa_cons (pe_op op_sub (pv 4) (pe_op op_pow pe_int pe_int)) pa_nil)))) pss_nil)))))
      (pss_one (ps_ret (pe_lst (pa_cons (pv 2) (pa_cons pe_int (pa_cons (pv 1) (pa_cons pe_int pa_nil)))))))))), ?_⟩
    refine f_seq (s_asg ev_c fun H1 e1 => ?_)
    refine f_seq (s_asgL (el_lst ea_nil (Nat.zero_le _)) fun dd H2 nd e2 hd => ?_)
    refine f_seq (s_forL (xs := ns.map V.int) (ev_var rfl) (ex_l (e1.trans e2) hS) (fun i σ H' => ∃ (m : Int) (ds : List Int) (v3 v4 : Option V), σ = [some (.ref a), some (.int m), some (.ref dd), v3, v4] ∧ Ex H H' ∧ H' dd = some (.lst (ds.map V.int)) ∧ ds.length ≤ i ∧ 0 ≤ m ∧ m < 2 ^ 61)
      (fun H3 e3 => ⟨271828182845904, [], none, none, rfl, (e1.trans e2).trans e3, e3 _ _ hd, Nat.le_refl _, by decide, by decide⟩) (fun i σ H' _ ⟨_, _, _, _, _, e, _⟩ => ex_l e hS) (fun i x σ H' hx hp => ?_) fun σ H' hp => ?_)
    · obtain ⟨m, ds, v3, v4, rfl, e, hD, hl, m0, m1⟩ := hp
      obtain ⟨cell, rfl⟩ : ∃ cell, x = V.int cell := by
        rw [List.getElem?_map] at hx
        cases h : ns[i]? with
        | none => rw [h] at hx; cases hx
        | some z => rw [h] at hx; exact ⟨z, (Option.some.inj hx).symm⟩
      have hi : i < 63 := by
        have z := (List.getElem?_eq_some_iff.mp hx).1
        rw [List.length_map] at z; omega
      have hne : H dd = none := fresh_back e1 nd
      refine f_gName (f_seq (s_asg (ev_op (ev_op (ev_op (ev_var rfl) ev_c (rv_I (wide_mul (a := 61) (b := 20) (by omega) (by decide) (by decide) (by decide) (by decide)))) (ev_var rfl) rv_I0) (ev_op (ev_op ev_c ev_c (rv_I (by unfold CPow; decide))) ev_c rv_I0) (rv_I (by decide))) fun H4 e4 => ?_))
      refine f_seq (s_asg (ev_max2 (ev_var rfl) (ev_op ev_c (ev_var rfl) rv_I0)) fun H5 e5 => ?_)
      have m2 : 0 ≤ (m * 1000033 + cell) % (2 ^ (61 : Int).toNat - 1) := by rw [pow61]; omega
      have m3 : (m * 1000033 + cell) % (2 ^ (61 : Int).toNat - 1) < 2 ^ 61 := by rw [pow61]; omega
      refine s_if (et_test (ev_op (ev_var rfl) (ev_op ev_c ev_c (rv_I (by unfold CPow; decide))) rv_I0)) (fun _ H6 e6 => ?_) (fun _ H6 e6 => ?_)
      · refine s_app (((e4.trans e5).trans e6) _ _ hD) (ev_var rfl) (ev_op (ev_var rfl) (ev_op ev_c ev_c (rv_I (by unfold CPow; decide))) rv_I0) (by rw [List.length_map]; omega) fun H7 e7 => ?_
        refine ⟨_, ds ++ [(if 0 - cell > cell then 0 - cell else cell) - 10 ^ (18 : Int).toNat], _, _, rfl, ?_, ?_, ?_, m2, m3⟩
        · exact ((((e.trans e4).trans e5).trans e6).trans e7).mut hne
        · rw [upd_same, List.map_append]; rfl
        · rw [List.length_append, List.length_singleton]; omega
      · exact ⟨_, ds, _, _, rfl, ((e.trans e4).trans e5).trans e6, ((e4.trans e5).trans e6) _ _ hD, by omega, m2, m3⟩
    · obtain ⟨m, ds, v3, v4, rfl, e, hD, hl, m0, m1⟩ := hp
      refine s_retL (el_lst (ea_cons (ev_var rfl) (ea_cons ev_c (ea_cons (ev_var rfl) (ea_cons ev_c ea_nil)))) (by show 4 ≤ 100000; decide)) fun p H4 hp e4 h4 => ?_
      refine q p dd _ (fresh_back e hp) (fresh_back e1 nd) ⟨ds, 0, m, 0, h4, e4 _ _ hD, by rw [List.length_map] at hl; omega, m0, m1, by decide, by decide⟩ (e.trans e4)

theorem sq_upd {K : PySem.W.Frag} {H : Hp} {a : Addr} {xs : List V} : SqL K (upd H a (.lst xs)) a xs := Or.inl (Or.inl upd_same)
theorem src_set {H : Hp} {s d : Addr} {o u : HO} (h : s ≠ d) (hs : H s = some o) (hd : H d = some u) : True := trivial
theorem ok_law_draw (T : Top K mg) : FnOk P w K mg base CX0 1 T.f_law_draw T.fd_law_draw ["source", "many"] spDraw := by
  refine T.F_law_draw.ok sc_law_draw (fun vs H Q E h => ?_) (fun cdv A outer s H vs Q E hr h => ?_)
  · obtain ⟨s, d, many, B, rfl, _⟩ := h; rfl
  · obtain ⟨s, d, many, B, rfl, h0, hbig, S, q⟩ := h
    have hsd : s ≠ d := S.ne
    obtain ⟨ds, a, m, c, hs, hd, hl, m0, m1, c0, c1⟩ := S.ex
    refine ⟨_, (pss_cons (ps_while PassesOwn.never (PW.pt (pw_and (pt_cmpR op_lt (pe_ix (r := rIxL K) ix_list (pv 0) pe_int (fun _ _ => rfl)) pe_int (nomark _)) (pw_and1 (pt_cmpR (r := rNeD K) (op_neD hr.units) (pe_ix (r := rIxL K) ix_list (pv 0) pe_int (fun _ _ => rfl)) (pe_lst pa_nil) (nomark _))))) (pss_one (ps_asg (pe_bm PySem.F.plainAttrs_list PySem.F.slot_list_pop PySem.F.type_list_pop mt_popAt (pe_ix (r := rIxL K) ix_list (pv 0) pe_int (fun _ _ => rfl)) (pa_cons pe_int pa_nil)) (pg_sub (pv 0) pe_int set_list))))
      (pss_cons (ps_if (pt_cmpR op_ge (pe_ix (r := rIxL K) ix_list (pv 0) pe_int (fun _ _ => rfl)) pe_int (nomark _)) (pss_cons (ps_set (i := 2) sc_law_draw.nd rfl (Or.inl rfl) (pe_op op_mod (pe_ix (r := rIxL K) ix_list (pv 0) pe_int (fun _ _ => rfl)) (pv 1)))
      (pss_cons (ps_asg (pe_op op_fdivW (pe_ix (r := rIxL K) ix_list (pv 0) pe_int (fun _ _ => rfl)) (pv 1)) (pg_sub (pv 0) pe_int set_list))
      (pss_one (ps_ret (pv 2))))) pss_nil)
      (pss_cons (ps_asg (pe_op op_add (pe_ix (r := rIxL K) ix_list (pv 0) pe_int (fun _ _ => rfl)) pe_int) (pg_sub (pv 0) pe_int set_list))
      (pss_cons (ps_set (i := 3) sc_law_draw.nd rfl (Or.inl rfl) (pe_op op_mul (pe_op op_add (pe_ix (r := rIxL K) ix_list (pv 0) pe_int (fun _ _ => rfl)) pe_int) (pe_op op_pow (pe_op op_add (pe_ix (r := rIxL K) ix_list (pv 0) pe_int (fun _ _ => rfl)) pe_int) pe_int)))
      (pss_cons (ps_set (i := 3) sc_law_draw.nd rfl (Or.inl rfl) (pe_op op_mod (pe_op op_add (pv 3) (pe_op op_mulW pe_int (pe_ix (r := rIxL K) ix_list (pv 0) pe_int (fun _ _ => rfl)))) (pe_op op_sub (pe_op op_pow pe_int pe_int) pe_int)))
      (pss_one (ps_ret (pe_op op_mod (pe_op op_fdivW (pe_op op_mod (pe_op op_pow (pv 3) pe_int) (pe_op op_add (pe_op op_pow pe_int pe_int) pe_int)) pe_int) (pv 1))))))))), ?_⟩
    have KL {H' : Hp} {a : Int} (hs : H' s = some (.lst [.ref d, .int a, .int m, .int c])) : SqL K H' s [.ref d, .int a, .int m, .int c] := sq_of hs
    refine f_seq (s_while (fun n σ H' => ∃ (ds : List Int) (a : Int), n = ds.length ∧ σ = [some (.ref s), some (.int many), none, none] ∧ H' s = some (.lst [.ref d, .int a, .int m, .int c]) ∧ H' d = some (.lst (ds.map V.int)) ∧ ds.length ≤ 63 ∧ Kp s d H H')
      ds.length ⟨ds, a, rfl, rfl, hs, hd, hl, .refl⟩ fun n σ H' hw => ?_)
    obtain ⟨ds, a, rfl, rfl, hs, hd, hl, kp⟩ := hw
    refine ⟨_, et_and (et_test (ev_op (ev_op (ev_var rfl) ev_c (rv_ixL (KL hs) (atI_nat (j := 1) rfl))) ev_c rv_I0)) fun _ => et_test (ev_neL (ys := []) (ev_op (ev_var rfl) ev_c (rv_ixL (KL hs) (atI_nat (j := 0) rfl))) (sq_of hd) (el_lst ea_nil (Nat.zero_le _))), fun hb H1 e1 => ?_, fun hb H1 e1 => ?_⟩
    · simp at hb
      obtain ⟨x, r, rfl⟩ : ∃ x r, ds = x :: r := by
        cases ds with
        | nil => exact absurd rfl hb.2
        | cons x r => exact ⟨x, r, rfl⟩
      refine ⟨fun σ2 H2 => ∃ a', σ2 = [some (.ref s), some (.int many), none, none] ∧ H2 s = some (.lst [.ref d, .int a', .int m, .int c]) ∧ H2 d = some (.lst (r.map V.int)) ∧ Kp s d H H2, fun σ2 H2 ⟨a', h1, h2, h3, h4⟩ => ⟨r.length, by simp, r, a', rfl, h1, h2, h3, by simp at hl; omega, h4⟩, ?_⟩
      have hd1 := e1 _ _ hd
      have hs1 := e1 _ _ hs
      refine ⟨.ref s, rfl, s, _, 0, .ref d, rfl, rfl, sq_of hs1, atI_nat (j := 0) rfl, .inl ⟨rfl, _, sq_of hd1⟩, d, _, 0, 0, .int x, rfl, rfl, hd1, by decide, by decide, (by unfold seqIndex?; simp), rfl, ?_⟩
      refine ⟨.ref s, rfl, s, _, 1, 1, rfl, rfl, (by rw [upd_ne hsd]; exact hs1), rfl, ?_⟩
      refine ⟨x, rfl, upd_same, by rw [upd_ne hsd.symm, upd_same]; rfl, fun b o h1 h2 h => ?_⟩
      rw [upd_ne h1, upd_ne h2]
      exact e1 _ _ (kp b o h1 h2 h)
    · have hs1 := e1 _ _ hs
      have hd1 := e1 _ _ hd
      have kp1 : Kp s d H H1 := kp.l e1
      refine f_seq (s_if (et_test (ev_op (ev_op (ev_var rfl) ev_c (rv_ixL (KL hs1) (atI_nat (j := 1) rfl))) ev_c rv_I0)) (fun hb H2 e2 => ?_) fun hb H2 e2 => ?_)
      · have hs2 := e2 _ _ hs1
        refine f_seq (s_asg (ev_op (ev_op (ev_var rfl) ev_c (rv_ixL (KL hs2) (atI_nat (j := 1) rfl))) (ev_var rfl) (rv_mod h0)) fun H3 e3 => ?_)
        have hs3 := e3 _ _ hs2
        refine f_seq (s_setL (j := 1) hs3 (ev_op (ev_op (ev_var rfl) ev_c (rv_ixL (KL hs3) (atI_nat (j := 1) rfl))) (ev_var rfl) (rv_I (wide_div (b := 200) h0 (by omega) (by decide) (by decide)))) (ev_var rfl) ev_c (by show 1 < 4; decide) fun H4 e4 => ?_)
        refine s_ret (ev_var rfl) fun H5 e5 => ?_
        refine q _ _ (Int.emod_nonneg _ (by omega)) (Int.emod_lt_of_pos _ h0) (Src.ex_ ⟨ds, a / many, m, c, upd_same, by rw [upd_ne hsd.symm]; exact (((e2.trans e3).trans e4) _ _ hd1), hl, m0, m1, c0, by omega⟩ e5) fun b o h1 h2 h => e5 _ _ ?_
        rw [upd_ne h1]
        exact ((e2.trans e3).trans e4) _ _ (kp1 b o h1 h2 h)
      · have hs2 := e2 _ _ hs1
        refine f_seq (s_setL (j := 3) hs2 (ev_op (ev_op (ev_var rfl) ev_c (rv_ixL (KL hs2) (atI_nat (j := 3) rfl))) ev_c rv_I0) (ev_var rfl) ev_c (by show 3 < 4; decide) fun H3 e3 => ?_)
        have hs3 : (upd H3 s (.lst [.ref d, .int a, .int m, .int (c + 1)])) s = some (.lst [.ref d, .int a, .int m, .int (c + 1)]) := upd_same
        have K3 : SqL K (upd H3 s (.lst [.ref d, .int a, .int m, .int (c + 1)])) s [.ref d, .int a, .int m, .int (c + 1)] := sq_of hs3
        show tSeq _ _ _ _ (upd H3 s (.lst [.ref d, .int a, .int m, .int (c + 1)]))
        refine f_seq (s_asg (ev_op (ev_op (ev_op (ev_var rfl) ev_c (rv_ixL K3 (atI_nat (j := 2) rfl))) ev_c rv_I0) (ev_op (ev_op (ev_op (ev_var rfl) ev_c (rv_ixL K3 (atI_nat (j := 3) rfl))) ev_c rv_I0) ev_c (rv_I (by unfold CPow; omega))) (rv_I (by unfold CMul; omega))) fun H4 e4 => ?_)
        refine f_seq (s_asg (ev_op (ev_op (ev_var rfl) (ev_op ev_c (ev_op (ev_var rfl) ev_c (rv_ixL (ex_l e4 K3) (atI_nat (j := 3) rfl))) (rv_I (wide_mul (a := 21) (b := 61) (by decide) (by omega) (by decide) (by decide) (by decide)))) rv_I0) (ev_op (ev_op ev_c ev_c (rv_I (by unfold CPow; decide))) ev_c rv_I0) (rv_I (by decide))) fun H5 e5 => ?_)
        generalize hx : ((m + 7) * (c + 1 + 3) ^ (3 : Int).toNat + 1000081 * (c + 1)) % (2 ^ (61 : Int).toNat - 1) = x
        have x0 : 0 ≤ x := by rw [← hx, pow61]; omega
        have x1 : x < 2 ^ 61 := by rw [← hx, pow61]; omega
        refine s_ret (ev_op (ev_op (ev_op (ev_op (ev_var rfl) ev_c (rv_I (by unfold CPow; omega))) (ev_op (ev_op ev_c ev_c (rv_I (by unfold CPow; decide))) ev_c rv_I0) (rv_I (by decide))) ev_c (rv_I (by unfold CDivW; decide))) (ev_var rfl) (rv_mod h0)) fun H6 e6 => ?_
        refine q _ _ (Int.emod_nonneg _ (by omega)) (Int.emod_lt_of_pos _ h0) (Src.ex_ ⟨ds, a, m, c + 1, hs3, by rw [upd_ne hsd.symm]; exact ((e2.trans e3) _ _ hd1), hl, m0, m1, by omega, by omega⟩ ((e4.trans e5).trans e6)) fun b o h1 h2 h => ((e4.trans e5).trans e6) _ _ ?_
        rw [upd_ne h1]
        exact (e2.trans e3) _ _ (kp1 b o h1 h2 h)

theorem ok_law_count (T : Top K mg) : FnOk P w K mg base CX0 2 T.f_law_count T.fd_law_count ["source"] spCount := by
  have G_law_draw : FnOk P w K mg base CX0 1 T.f_law_draw T.fd_law_draw ["source", "many"] spDraw := ok_law_draw T
  refine T.F_law_count.ok sc_law_count (fun vs H Q E h => ?_) (fun cdv A outer st H vs Q E hr h => ?_)
  · obtain ⟨s, d, B, rfl, _⟩ := h; rfl
  · obtain ⟨s, d, B, rfl, S, q⟩ := h
    refine ⟨_, (pss_cons (ps_set (i := 1) sc_law_count.nd rfl (Or.inl rfl) (pe_lst (pa_cons (pe_op op_sub (pe_call G_law_draw (hr.mono (by first | decide | omega)) (by rfl) T.g_law_draw T.F_law_draw.kp T.b_law_draw .nil pass0 (pa_cons (pv 0) (pa_cons pe_int pa_nil))) pe_int) (pa_cons (pe_op op_sub (pe_op op_mulW pe_int (pe_call G_law_draw (hr.mono (by first | decide | omega)) (by rfl) T.g_law_draw T.F_law_draw.kp T.b_law_draw .nil pass0 (pa_cons (pv 0) (pa_cons pe_int pa_nil)))) pe_int) (pa_cons (pe_op op_add pe_int (pe_call G_law_draw (hr.mono (by first | decide | omega)) (by rfl) T.g_law_draw T.F_law_draw.kp T.b_law_draw .nil pass0 (pa_cons (pv 0) (pa_cons pe_int pa_nil)))) pa_nil)))))
      (pss_cons (ps_set (i := 1) sc_law_count.nd rfl (Or.inl rfl) (pe_op op_cat (pv 1) (pe_lst (pa_cons (pe_op op_sub (pe_op op_add (pe_op op_mulW pe_int (pe_op op_sub (pe_call G_law_draw (hr.mono (by first | decide | omega)) (by rfl) T.g_law_draw T.F_law_draw.kp T.b_law_draw .nil pass0 (pa_cons (pv 0) (pa_cons pe_int pa_nil))) pe_int)) (pe_call G_law_draw (hr.mono (by first | decide | omega)) (by rfl) T.g_law_draw T.F_law_draw.kp T.b_law_draw .nil pass0 (pa_cons (pv 0) (pa_cons pe_int pa_nil)))) pe_int) pa_nil))))
      (pss_cons (ps_set (i := 2) sc_law_count.nd rfl (Or.inl rfl) (pe_op op_sub (pe_op op_sub (pe_op op_pow pe_int pe_int) pe_int) (pe_call G_law_draw (hr.mono (by first | decide | omega)) (by rfl) T.g_law_draw T.F_law_draw.kp T.b_law_draw .nil pass0 (pa_cons (pv 0) (pa_cons pe_int pa_nil)))))
      (pss_one (ps_ret (pe_ix (r := rIxL K) ix_list (pe_op op_cat (pv 1) (pe_lst (pa_cons (pv 2) (pa_cons (pe_op op_sub pe_int (pv 2)) pa_nil)))) (pe_call G_law_draw (hr.mono (by first | decide | omega)) (by rfl) T.g_law_draw T.F_law_draw.kp T.b_law_draw .nil pass0 (pa_cons (pv 0) (pa_cons pe_int pa_nil))) (fun _ _ => rfl))))))), ?_⟩
    walk_at "fw"
    refine f_draw S (by decide) (by decide) fun n1 H1 a1 b1 S1 k1 => ?_
    walk_at "fw"
    refine f_draw S1 (by decide) (by decide) fun n2 H2 a2 b2 S2 k2 => ?_
    walk_at "fw"
    refine f_draw S2 (by decide) (by decide) fun n3 H3 a3 b3 S3 k3 => ?_
    walk_at "fw"
    refine ⟨sz1000 (by simp), fun p hp => ?_⟩
    have fp := S3.free hp
    have e3 := Ex.new (o := .lst [.int (n1 - 20), .int (4 * n2 - 4000), .int (2000 + n3)]) hp
    have k3' : Kp s d H _ := ((k1.trans k2).trans k3).l e3
    walk_at "fw"
    refine f_draw (S3.ex_ e3) (by decide) (by decide) fun n4 H4 a4 b4 S4 k4 => ?_
    have hp4 := k4.at fp upd_same
    walk_at "fw"
    refine f_draw S4 (by decide) (by decide) fun n5 H5 a5 b5 S5 k5 => ?_
    have hp5 := k5.at fp hp4
    walk_at "fw"
    refine ⟨sz1000 (by simp), fun p2 hp2 => ?_⟩
    have e5 := Ex.new (o := .lst [.int (100 * (n4 - 30) + n5 - 4)]) hp2
    refine ⟨p, p2, _, _, rfl, rfl, e5 _ _ hp5, upd_same, sz1000 (by simp), fun p3 hp3 => ?_⟩
    have S6 := S5.ex_ e5
    have f3 := S6.free hp3
    have e6 := Ex.new (o := .lst ([.int (n1 - 20), .int (4 * n2 - 4000), .int (2000 + n3)] ++ [.int (100 * (n4 - 30) + n5 - 4)])) hp3
    walk_at "fw"
    refine f_draw (S6.ex_ e6) (by decide) (by decide) fun n7 H7 a7 b7 S7 k7 => ?_
    have hp7 := k7.at f3 upd_same
    walk_at "fw"
    refine ⟨sz1000 (by simp), fun p4 hp4 => ?_⟩
    have e7 := Ex.new (o := .lst [.int (10 ^ (30 : Int).toNat - 400 - n7), .int (0 - (10 ^ (30 : Int).toNat - 400 - n7))]) hp4
    refine ⟨p3, p4, _, _, rfl, rfl, e7 _ _ hp7, upd_same, sz1000 (by simp), fun p5 hp5 => ?_⟩
    have S8 := S7.ex_ e7
    have f5 := S8.free hp5
    have e8 := Ex.new (o := .lst ([.int (n1 - 20), .int (4 * n2 - 4000), .int (2000 + n3)] ++ [.int (100 * (n4 - 30) + n5 - 4)] ++ [.int (10 ^ (30 : Int).toNat - 400 - n7), .int (0 - (10 ^ (30 : Int).toNat - 400 - n7))])) hp5
    walk_at "fw"
    refine f_draw (S8.ex_ e8) (by decide) (by decide) fun n9 H9 a9 b9 S9 k9 => ?_
    have hp9 := k9.at f5 upd_same
    obtain ⟨z, hz, hat⟩ := at_ints (L := [n1 - 20, 4 * n2 - 4000, 2000 + n3, 100 * (n4 - 30) + n5 - 4, 10 ^ (30 : Int).toNat - 400 - n7, 0 - (10 ^ (30 : Int).toNat - 400 - n7)]) a9 b9
    refine ⟨p5, _, n9, _, rfl, rfl, sq_of hp9, hat, q z H9 ?_ S9 ?_⟩
    · simp at hz
      omega
    · exact (((((k3'.trans k4).trans k5).l e5).l e6).trans (k7.l e7)).trans ((Kp.of e8).trans k9)

theorem same_step (T : Top K mg) (n : Nat) (spR : Sp) (G_law_same : FnOk P w K mg base CX0 n T.f_law_same T.fd_law_same ["found", "wanted"] spR) (hR : ∀ m, n = m + 1 → spR = spSame K m) :
    FnOk P w K mg base CX0 (n + 1) T.f_law_same T.fd_law_same ["found", "wanted"] (spSame K n) := by
  refine T.F_law_same.ok sc_law_same (fun vs H Q E h => ?_) (fun cdv A outer s H vs Q E hr h => ?_)
  · obtain ⟨x, y, dt, rfl, _⟩ := h; rfl
  · obtain ⟨x, y, dt, rfl, hx, hy, ok, q⟩ := h
    refine ⟨_, (pss_cons (ps_if (pt_cmpR op_isN (pv 1) pe_non (nomark _)) (pss_one (ps_ret (pe_cmpR op_isN (pv 0) pe_non (nomark _)))) pss_nil)
      (pss_cons (ps_if (pt_val (pe_callB (r := rIsi K) call_isi (by rfl) T.z_isinstance (by decide +kernel) (pa_cons (pv 1) (pa_cons (pe_bltn (v := .ty "bool") (u := .type "bool") (by rfl) T.z_bool (by decide +kernel) rfl) pa_nil)))) (pss_one (ps_ret (pe_and (pe_callB (r := rIsi K) call_isi (by rfl) T.z_isinstance (by decide +kernel) (pa_cons (pv 0) (pa_cons (pe_bltn (v := .ty "bool") (u := .type "bool") (by rfl) T.z_bool (by decide +kernel) rfl) pa_nil))) (pe_one (pe_cmpR (r := rEqD K) (op_eqD hr.units) (pv 0) (pv 1) (nomark _)))))) pss_nil)
      (pss_cons (ps_if (pt_val (pe_callB (r := rIsi K) call_isi (by rfl) T.z_isinstance (by decide +kernel) (pa_cons (pv 1) (pa_cons (pe_bltn (v := .ty "int") (u := .type "int") (by rfl) T.z_int (by decide +kernel) rfl) pa_nil)))) (pss_one (ps_ret (pe_and (pe_callB (r := rIsi K) call_isi (by rfl) T.z_isinstance (by decide +kernel) (pa_cons (pv 0) (pa_cons (pe_bltn (v := .ty "int") (u := .type "int") (by rfl) T.z_int (by decide +kernel) rfl) pa_nil))) (pe_and (pe_not (pe_callB (r := rIsi K) call_isi (by rfl) T.z_isinstance (by decide +kernel) (pa_cons (pv 0) (pa_cons (pe_bltn (v := .ty "bool") (u := .type "bool") (by rfl) T.z_bool (by decide +kernel) rfl) pa_nil)))) (pe_one (pe_cmpR (r := rEqD K) (op_eqD hr.units) (pv 0) (pv 1) (nomark _))))))) pss_nil)
      (pss_cons (ps_if (pt_val (pe_callB (r := rIsi K) call_isi (by rfl) T.z_isinstance (by decide +kernel) (pa_cons (pv 1) (pa_cons (pe_bltn (v := .ty "str") (u := .type "str") (by rfl) T.z_str (by decide +kernel) rfl) pa_nil)))) (pss_one (ps_ret (pe_and (pe_callB (r := rIsi K) call_isi (by rfl) T.z_isinstance (by decide +kernel) (pa_cons (pv 0) (pa_cons (pe_bltn (v := .ty "str") (u := .type "str") (by rfl) T.z_str (by decide +kernel) rfl) pa_nil))) (pe_one (pe_cmpR (r := rEqD K) (op_eqD hr.units) (pv 0) (pv 1) (nomark _)))))) pss_nil)
      (pss_cons (ps_if (pt_cmpR op_ne (pe_callB (r := rIsi K) call_isi (by rfl) T.z_isinstance (by decide +kernel) (pa_cons (pv 0) (pa_cons (pe_bltn (v := .ty "list") (u := .type "list") (by rfl) T.z_list (by decide +kernel) rfl) pa_nil))) (pe_callB (r := rIsi K) call_isi (by rfl) T.z_isinstance (by decide +kernel) (pa_cons (pv 1) (pa_cons (pe_bltn (v := .ty "list") (u := .type "list") (by rfl) T.z_list (by decide +kernel) rfl) pa_nil))) (nomark _)) (pss_one (ps_ret pe_bl)) pss_nil)
      (pss_cons (ps_if (PW.pt (pw_or (pt_cmpR op_ne (pe_callB (r := rIsi K) call_isi (by rfl) T.z_isinstance (by decide +kernel) (pa_cons (pv 0) (pa_cons (pe_bltn (v := .ty "tuple") (u := .type "tuple") (by rfl) T.z_tuple (by decide +kernel) rfl) pa_nil))) (pe_callB (r := rIsi K) call_isi (by rfl) T.z_isinstance (by decide +kernel) (pa_cons (pv 1) (pa_cons (pe_bltn (v := .ty "tuple") (u := .type "tuple") (by rfl) T.z_tuple (by decide +kernel) rfl) pa_nil))) (nomark _)) (pw_or1 (pt_cmpR op_ne (pe_callB (r := rLenS K) call_len_seq (by rfl) T.z_len PySem.boot_len (pa_cons (pv 0) pa_nil)) (pe_callB (r := rLenS K) call_len_seq (by rfl) T.z_len PySem.boot_len (pa_cons (pv 1) pa_nil)) (nomark _))))) (pss_one (ps_ret pe_bl)) pss_nil)
      (pss_one (ps_ret (pe_cmpR (r := rEqD K) (op_eqD hr.units) (pe_lc (own := [("k", 2)]) (g := gName 2)  rfl sc_law_same.nd (pi_range1 (by rfl) T.z_range (pa_cons (pe_callB (r := rLenS K) call_len_seq (by rfl) T.z_len PySem.boot_len (pa_cons (pv 1) pa_nil)) pa_nil)) (blkOk_by (own := [("k", 2)]) (N := ["found", "wanted", "k"]) (sc := defScope s_law_same) (by decide +kernel)) (fun _ _ _ _ _ => (pg_name (i := 2) sc_law_same.nd rfl (Or.inl rfl))) (fun _ _ _ _ _ => (pts_one (pt_not (pt_val (pe_call G_law_same (hr.mono (by first | decide | omega)) (by rfl) T.g_law_same T.F_law_same.kp T.b_law_same .nil pass0 (pa_cons (pe_ix (r := rIx K) ix_seq (pv 0) (pv 2) (fun _ _ => rfl)) (pa_cons (pe_ix (r := rIx K) ix_seq (pv 1) (pv 2) (fun _ _ => rfl)) pa_nil))))))) (fun _ _ _ _ _ => (pv 2))) (pe_lst pa_nil) (nomark _)))))))))), ?_⟩
    have tx (H1 : Hp) (e : Ex H H1) : TyX K H1 x (.type (tyN dt)) := ty_dp (dp_ex e hx)
    have ty (H1 : Hp) (e : Ex H H1) : TyX K H1 y (.type (tyN dt)) := ty_dp (dp_ex e hy)
    have vx {H1 : Hp} : Ev (tVar 0) (L2.start ["found", "wanted", "k"] [x, y]) H1 x := ev_var rfl
    have vy {H1 : Hp} : Ev (tVar 1) (L2.start ["found", "wanted", "k"] [x, y]) H1 y := ev_var rfl
    refine f_seq (s_if (et_test (ev_op vy ev_c rv_isN)) (fun hb H1 e1 => ?_) fun hb H1 e1 => ?_)
    · have hy0 : y = .non := of_decide_eq_true hb
      subst hy0
      cases hy
      cases hx
      exact s_ret (ev_op vx ev_c rv_isN) fun H2 e2 => q H2 (e1.trans e2)
    have ny : y ≠ .non := of_decide_eq_false hb
    have isx : ∀ {n : String} {b : Bool} {H1 : Hp}, Ex H H1 → kitB (tyN dt) n = some b → Ev (tCB (rIsi K) (tCons (tVar 0) (tCons (tC (V.ty n)) tNil))) (L2.start ["found", "wanted", "k"] [x, y]) H1 (.bl b) := fun e kb => ev_isi vx (fun H2 e2 => tx H2 (e.trans e2)) kb
    have isy : ∀ {n : String} {b : Bool} {H1 : Hp}, Ex H H1 → kitB (tyN dt) n = some b → Ev (tCB (rIsi K) (tCons (tVar 1) (tCons (tC (V.ty n)) tNil))) (L2.start ["found", "wanted", "k"] [x, y]) H1 (.bl b) := fun e kb => ev_isi vy (fun H2 e2 => ty H2 (e.trans e2)) kb
    have eqd : ∀ {H1 : Hp}, Ex H H1 → SeqAt.shaped dt = true → Ev (tOp (rEqD K) (tVar 0) (tVar 1)) (L2.start ["found", "wanted", "k"] [x, y]) H1 (.bl true) := fun e sd => by
      have z := ev_op vx vy (rv_eqDp (dp_ex e hx) (dp_ex e hy) sd sd)
      rw [SeqAt.eqv_refl dt (SeqAt.canLay_of_shaped sd)] at z
      exact z
    match dt, hx, hy, ok, @isx, @isy, @eqd with
    | .none, hx, hy, _, _, _, _ => cases hy; exact absurd rfl ny
    | .bool b, hx, hy, _, isx, isy, eqd =>
      refine f_seq (s_if (et_B (isy e1 (b := true) (by dsimp only [tyN]; decide +kernel))) (fun _ H2 e2 => ?_) fun hb _ _ => nomatch hb)
      exact s_ret (ev_andV (isx (e1.trans e2) (b := true) (by dsimp only [tyN]; decide +kernel)) fun _ => eqd (e1.trans e2) rfl) fun H3 e3 => q H3 ((e1.trans e2).trans e3)
    | .int b, hx, hy, _, isx, isy, eqd =>
      refine f_seq (s_if (et_B (isy e1 (b := false) (by dsimp only [tyN]; decide +kernel))) (fun hb _ _ => nomatch hb) fun _ H2 e2 => ?_)
      refine f_seq (s_if (et_B (isy (e1.trans e2) (b := true) (by dsimp only [tyN]; decide +kernel))) (fun _ H3 e3 => ?_) fun hb _ _ => nomatch hb)
      have e := (e1.trans e2).trans e3
      exact s_ret (ev_andV (isx e (b := true) (by dsimp only [tyN]; decide +kernel)) fun _ => ev_andV (ev_notV (isx e (b := false) (by dsimp only [tyN]; decide +kernel))) fun _ => eqd e rfl) fun H4 e4 => q H4 (e.trans e4)
    | .str z, hx, hy, ok, isx, isy, eqd =>
      refine f_seq (s_if (et_B (isy e1 (b := false) (by dsimp only [tyN]; decide +kernel))) (fun hb _ _ => nomatch hb) fun _ H2 e2 => ?_)
      refine f_seq (s_if (et_B (isy (e1.trans e2) (b := false) (by dsimp only [tyN]; decide +kernel))) (fun hb _ _ => nomatch hb) fun _ H3 e3 => ?_)
      have e := (e1.trans e2).trans e3
      refine f_seq (s_if (et_B (isy e (b := true) (by dsimp only [tyN]; decide +kernel))) (fun _ H4 e4 => ?_) fun hb _ _ => nomatch hb)
      have e' := e.trans e4
      have ok' : PyData.canLay0 (.str z) = true := by cases n <;> exact ok
      exact s_ret (ev_andV (isx e' (b := true) (by dsimp only [tyN]; decide +kernel)) fun _ => eqd e' (shaped_str ok')) fun H5 e5 => q H5 (e'.trans e5)
    | .list ds, hx, hy, ok, isx, isy, eqd =>
      refine f_seq (s_if (et_B (isy e1 (b := false) (by dsimp only [tyN]; decide +kernel))) (fun hb _ _ => nomatch hb) fun _ H2 e2 => ?_)
      refine f_seq (s_if (et_B (isy (e1.trans e2) (b := false) (by dsimp only [tyN]; decide +kernel))) (fun hb _ _ => nomatch hb) fun _ H3 e3 => ?_)
      have e := (e1.trans e2).trans e3
      refine f_seq (s_if (et_B (isy e (b := false) (by dsimp only [tyN]; decide +kernel))) (fun hb _ _ => nomatch hb) fun _ H4 e4 => ?_)
      have e' := e.trans e4
      have len := fun {H1 : Hp} (e : Ex H H1) => True.intro
      obtain ⟨px, xs, hxx, ax, qx⟩ : ∃ (p : Addr) (xs : List V), x = .ref p ∧ DpAll K H xs ds ∧ (SqL K H p xs ∨ SqT K H p xs) := by cases hx with | lst h a => exact ⟨_, _, rfl, a, .inl h⟩
      obtain ⟨py, ys, hyy, ay, qy⟩ : ∃ (p : Addr) (xs : List V), y = .ref p ∧ DpAll K H xs ds ∧ (SqL K H p xs ∨ SqT K H p xs) := by cases hy with | lst h a => exact ⟨_, _, rfl, a, .inl h⟩
      subst hxx hyy
      obtain ⟨m, rfl, okl, okm⟩ : ∃ m, n = m + 1 ∧ ds.length ≤ 10000 ∧ ∀ d, d ∈ ds → okd m d := by
        cases n with
        | zero => exact ok.elim
        | succ m => exact ⟨m, rfl, ok.1, ok.2⟩
      have eR := hR m rfl
      subst eR
      have upx (H1 : Hp) (e : Ex H H1) : SqL K H1 px xs ∨ SqT K H1 px xs := qx.elim (fun h => .inl (ex_l e h)) (fun h => .inr (ex_t e h))
      have upy (H1 : Hp) (e : Ex H H1) : SqL K H1 py ys ∨ SqT K H1 py ys := qy.elim (fun h => .inl (ex_l e h)) (fun h => .inr (ex_t e h))
      have lx : xs.length = ds.length := dpa_len ax
      have ly : ys.length = ds.length := dpa_len ay
      refine f_seq (s_if (et_test (ev_op (isx e' (b := true) (by dsimp only [tyN]; decide +kernel)) (isy e' (b := true) (by dsimp only [tyN]; decide +kernel)) rv_neB)) (fun hb _ _ => nomatch hb) fun _ H5 e5 => ?_)
      have e6 := e'.trans e5
      refine f_seq (s_if (et_or (et_test (ev_op (isx e6 (b := false) (by dsimp only [tyN]; decide +kernel)) (isy e6 (b := false) (by dsimp only [tyN]; decide +kernel)) rv_neB)) fun _ => et_test (ev_op (ev_lenS vx (upx _ e6)) (ev_lenS vy (upy _ e6)) rv_neI)) (fun hb _ _ => ?_) fun _ H7 e7 => ?_)
      · rw [lx, ly] at hb; simp at hb
      have e8 := e6.trans e7
      have hcomp : EvL (tLc (iRng1 (tCons (tCB (rLenS K) (tCons (tVar 1) tNil)) tNil)) (gName 2) (tNot (tB (tCall (spSame K m) [] E0 (tCons (tOp (rIx K) (tVar 0) (tVar 2)) (tCons (tOp (rIx K) (tVar 1) (tVar 2)) tNil))))) (tVar 2) [2]) (L2.start ["found", "wanted", "k"] [.ref px, .ref py]) H7 [] := by
        have z := el_lcR1 (σ := L2.start ["found", "wanted", "k"] [.ref px, .ref py]) (H := H7) (j := 2) (vs := [2]) (n := (ys.length : Int)) (t := tNot (tB (tCall (spSame K m) [] E0 (tCons (tOp (rIx K) (tVar 0) (tVar 2)) (tCons (tOp (rIx K) (tVar 1) (tVar 2)) tNil))))) (te := tVar 2) (fun _ => false) (fun _ => .non) (ea_cons (ev_lenS vy (upy _ e8)) ea_nil) ⟨by omega, by omega⟩ (fun _ => rfl)
          (fun i H9 e9 hi => ?_) (fun i H9 e9 hi hf => nomatch hf)
        · rw [given_none (fun _ _ => rfl)] at z
          exact z
        · have e10 := e8.trans e9
          obtain ⟨u, d, g1, g2, g3, g4⟩ := dpa_get (i := i) ax (by omega)
          obtain ⟨u', d', k1, k2, k3, k4⟩ := dpa_get (i := i) ay (by omega)
          have ed : d' = d := Option.some.inj (k2.symm.trans g2)
          subst ed
          exact et_not (a := true) (et_B (ev_call (ea_cons (ev_op (ev_var rfl) (ev_var rfl) (rv_ixAny (upx _ e10) g1)) (ea_cons (ev_op (ev_var rfl) (ev_var rfl) (rv_ixAny (upy _ e10) k1)) ea_nil)) (z := .bl true) fun H11 e11 Q' q' E' =>
            ⟨u, u', d', rfl, dp_ex (e10.trans e11) g4, dp_ex (e10.trans e11) k4, okm _ g3, q'⟩))
      refine s_ret (ev_opLL (xs := []) (ys := []) hcomp (el_lst ea_nil (Nat.zero_le _)) fun p1 p2 H9 h1 h2 _ => rv_eqL (xs := []) (ys := []) (sq_of h1) (sq_of h2)) fun H9 e9 => ?_
      exact q _ (e8.trans e9)
    | .tuple ds, hx, hy, ok, isx, isy, eqd =>
      refine f_seq (s_if (et_B (isy e1 (b := false) (by dsimp only [tyN]; decide +kernel))) (fun hb _ _ => nomatch hb) fun _ H2 e2 => ?_)
      refine f_seq (s_if (et_B (isy (e1.trans e2) (b := false) (by dsimp only [tyN]; decide +kernel))) (fun hb _ _ => nomatch hb) fun _ H3 e3 => ?_)
      have e := (e1.trans e2).trans e3
      refine f_seq (s_if (et_B (isy e (b := false) (by dsimp only [tyN]; decide +kernel))) (fun hb _ _ => nomatch hb) fun _ H4 e4 => ?_)
      have e' := e.trans e4
      have len := fun {H1 : Hp} (e : Ex H H1) => True.intro
      obtain ⟨px, xs, hxx, ax, qx⟩ : ∃ (p : Addr) (xs : List V), x = .ref p ∧ DpAll K H xs ds ∧ (SqL K H p xs ∨ SqT K H p xs) := by cases hx with | tup h a => exact ⟨_, _, rfl, a, .inr h⟩
      obtain ⟨py, ys, hyy, ay, qy⟩ : ∃ (p : Addr) (xs : List V), y = .ref p ∧ DpAll K H xs ds ∧ (SqL K H p xs ∨ SqT K H p xs) := by cases hy with | tup h a => exact ⟨_, _, rfl, a, .inr h⟩
      subst hxx hyy
      obtain ⟨m, rfl, okl, okm⟩ : ∃ m, n = m + 1 ∧ ds.length ≤ 10000 ∧ ∀ d, d ∈ ds → okd m d := by
        cases n with
        | zero => exact ok.elim
        | succ m => exact ⟨m, rfl, ok.1, ok.2⟩
      have eR := hR m rfl
      subst eR
      have upx (H1 : Hp) (e : Ex H H1) : SqL K H1 px xs ∨ SqT K H1 px xs := qx.elim (fun h => .inl (ex_l e h)) (fun h => .inr (ex_t e h))
      have upy (H1 : Hp) (e : Ex H H1) : SqL K H1 py ys ∨ SqT K H1 py ys := qy.elim (fun h => .inl (ex_l e h)) (fun h => .inr (ex_t e h))
      have lx : xs.length = ds.length := dpa_len ax
      have ly : ys.length = ds.length := dpa_len ay
      refine f_seq (s_if (et_test (ev_op (isx e' (b := false) (by dsimp only [tyN]; decide +kernel)) (isy e' (b := false) (by dsimp only [tyN]; decide +kernel)) rv_neB)) (fun hb _ _ => nomatch hb) fun _ H5 e5 => ?_)
      have e6 := e'.trans e5
      refine f_seq (s_if (et_or (et_test (ev_op (isx e6 (b := true) (by dsimp only [tyN]; decide +kernel)) (isy e6 (b := true) (by dsimp only [tyN]; decide +kernel)) rv_neB)) fun _ => et_test (ev_op (ev_lenS vx (upx _ e6)) (ev_lenS vy (upy _ e6)) rv_neI)) (fun hb _ _ => ?_) fun _ H7 e7 => ?_)
      · rw [lx, ly] at hb; simp at hb
      have e8 := e6.trans e7
      have hcomp : EvL (tLc (iRng1 (tCons (tCB (rLenS K) (tCons (tVar 1) tNil)) tNil)) (gName 2) (tNot (tB (tCall (spSame K m) [] E0 (tCons (tOp (rIx K) (tVar 0) (tVar 2)) (tCons (tOp (rIx K) (tVar 1) (tVar 2)) tNil))))) (tVar 2) [2]) (L2.start ["found", "wanted", "k"] [.ref px, .ref py]) H7 [] := by
        have z := el_lcR1 (σ := L2.start ["found", "wanted", "k"] [.ref px, .ref py]) (H := H7) (j := 2) (vs := [2]) (n := (ys.length : Int)) (t := tNot (tB (tCall (spSame K m) [] E0 (tCons (tOp (rIx K) (tVar 0) (tVar 2)) (tCons (tOp (rIx K) (tVar 1) (tVar 2)) tNil))))) (te := tVar 2) (fun _ => false) (fun _ => .non) (ea_cons (ev_lenS vy (upy _ e8)) ea_nil) ⟨by omega, by omega⟩ (fun _ => rfl)
          (fun i H9 e9 hi => ?_) (fun i H9 e9 hi hf => nomatch hf)
        · rw [given_none (fun _ _ => rfl)] at z
          exact z
        · have e10 := e8.trans e9
          obtain ⟨u, d, g1, g2, g3, g4⟩ := dpa_get (i := i) ax (by omega)
          obtain ⟨u', d', k1, k2, k3, k4⟩ := dpa_get (i := i) ay (by omega)
          have ed : d' = d := Option.some.inj (k2.symm.trans g2)
          subst ed
          exact et_not (a := true) (et_B (ev_call (ea_cons (ev_op (ev_var rfl) (ev_var rfl) (rv_ixAny (upx _ e10) g1)) (ea_cons (ev_op (ev_var rfl) (ev_var rfl) (rv_ixAny (upy _ e10) k1)) ea_nil)) (z := .bl true) fun H11 e11 Q' q' E' =>
            ⟨u, u', d', rfl, dp_ex (e10.trans e11) g4, dp_ex (e10.trans e11) k4, okm _ g3, q'⟩))
      refine s_ret (ev_opLL (xs := []) (ys := []) hcomp (el_lst ea_nil (Nat.zero_le _)) fun p1 p2 H9 h1 h2 _ => rv_eqL (xs := []) (ys := []) (sq_of h1) (sq_of h2)) fun H9 e9 => ?_
      exact q _ (e8.trans e9)
theorem ok_law_same (T : Top K mg) : ∀ n : Nat, FnOk P w K mg base CX0 (n + 1) T.f_law_same T.fd_law_same ["found", "wanted"] (spSame K n)
  | 0 => same_step T 0 (fun _ _ _ _ => False) ⟨fun _ _ _ _ h => h.elim, fun _ _ _ _ _ _ _ _ _ _ _ _ _ h => h.elim⟩ (fun _ e => nomatch e)
  | n + 1 => same_step T (n + 1) _ (ok_law_same T n) (fun m e => by cases e; rfl)

def D_lengths (vs xs : List V) : Prop := ∃ y : Int, vs = [.int y] ∧ xs = (mlist y).map V.int
theorem ok_law_lengths (T : Top K mg) : FnOk P w K mg base CX0 2 T.f_law_lengths T.fd_law_lengths ["count"] (spNL D_lengths) := by
  have G_law_leap : FnOk P w K mg base CX0 1 T.f_law_leap T.fd_law_leap ["count"] (spF D_leap) := ok_law_leap T
  refine T.F_law_lengths.ok sc_law_lengths (fun vs H Q E h => ?_) (fun cdv A outer s H vs Q E hr h => ?_)
  · obtain ⟨z, ⟨y, rfl, _⟩, _⟩ := h; rfl
  · obtain ⟨z, ⟨y, rfl, rfl⟩, q⟩ := h
    refine ⟨_, (pss_one (ps_ret (pe_lst (pa_cons pe_int (pa_cons (pe_op op_add pe_int (pe_callTy call_int1 (by rfl) T.z_int (by decide +kernel) (pa_cons (pe_call G_law_leap (hr.mono (by first | decide | omega)) (by rfl) T.g_law_leap T.F_law_leap.kp T.b_law_leap .nil pass0 (pa_cons (pv 0) pa_nil)) pa_nil))) (pa_cons pe_int (pa_cons pe_int (pa_cons pe_int (pa_cons pe_int (pa_cons pe_int (pa_cons pe_int (pa_cons pe_int (pa_cons pe_int (pa_cons pe_int (pa_cons pe_int pa_nil))))))))))))))), ?_⟩
    exact s_retL (el_lst (ea_cons ev_c (ea_cons (ev_op ev_c (ev_intB (ev_call (ea_cons (ev_var rfl) ea_nil) (sv_F ⟨y, rfl, rfl⟩))) rv_I0)
      (ea_cons ev_c (ea_cons ev_c (ea_cons ev_c (ea_cons ev_c (ea_cons ev_c (ea_cons ev_c (ea_cons ev_c (ea_cons ev_c (ea_cons ev_c (ea_cons ev_c ea_nil)))))))))))) (by show 12 ≤ 100000; decide)) q

theorem leap_400 (y : Int) : leap (y + 400) = leap y := by
  unfold leap
  rw [show (y + 400) % 4 = y % 4 by omega, show (y + 400) % 100 = y % 100 by omega, show (y + 400) % 400 = y % 400 by omega]
theorem leap_m400 (y : Int) : leap (y - 400) = leap y := by
  have h := leap_400 (y - 400)
  rw [show y - 400 + 400 = y by omega] at h
  exact h.symm
theorem dlen_m400 (y m : Int) : dlen (y - 400) m = dlen y m := by
  unfold dlen mlist
  rw [leap_m400]
theorem dlen_list (y : Int) : (List.range 12).map (fun i : Nat => V.int (dlen y (1 + (i : Int)))) = (mlist y).map V.int := by
  simp [List.range_succ, dlen, mlist]
def ylen (y : Int) : Int := (mlist y).sum
theorem ylen_eq (y : Int) : ylen y = 365 + b2 (leap y) := by
  simp [ylen, mlist]
  omega
/-- the days of n years from y -/
def span (y : Int) : Nat → Int
  | 0 => 0
  | n + 1 => span y n + ylen (y + n)
theorem span_succ (y : Int) (n : Nat) : span (y + 1) n + ylen y = span y n + ylen (y + n) := by
  induction n with
  | zero => simp [span]
  | succ n ih =>
    simp only [span]
    rw [show y + 1 + (n : Int) = y + ((n + 1 : Nat) : Int) by omega]
    omega
theorem span_400 (y : Int) : span (y + 1) 400 = span y 400 := by
  have h := span_succ y 400
  have e : ylen (y + (400 : Nat)) = ylen y := by
    rw [ylen_eq, ylen_eq, show y + ((400 : Nat) : Int) = y + 400 from rfl, leap_400]
  omega
theorem span_all (y : Int) : span y 400 = 146097 := by
  have up (n : Nat) : span ((n : Int)) 400 = span 0 400 := by
    induction n with
    | zero => rfl
    | succ n ih => rw [show ((n + 1 : Nat) : Int) = (n : Int) + 1 by omega, span_400, ih]
  have down (n : Nat) : span (-(n : Int)) 400 = span 0 400 := by
    induction n with
    | zero => rfl
    | succ n ih => rw [← ih, ← span_400, show -((n + 1 : Nat) : Int) + 1 = -(n : Int) by omega]
  have e0 : span 0 400 = 146097 := by decide +kernel
  rcases Int.eq_nat_or_neg y with ⟨n, rfl | rfl⟩
  · rw [up, e0]
  · rw [down, e0]
theorem span_sum (y : Int) (n : Nat) : ((List.range n).map fun i : Nat => ylen (y + (i : Int))).sum = span y n := by
  induction n with
  | zero => rfl
  | succ n ih => rw [List.range_succ, List.map_append, List.sum_append, ih]; simp [span]
theorem ok_law (T : Top K mg) : FnOk P w K mg base CX0 5 T.f_law T.fd_law ["script"] (spLaw K) := by
  have G_is_leap : FnOk P w K mg base CX0 1 T.f_is_leap T.fd_is_leap ["year"] (spF D_leap) := ok_is_leap T
  have G_law_leap : FnOk P w K mg base CX0 1 T.f_law_leap T.fd_law_leap ["count"] (spF D_leap) := ok_law_leap T
  have G_days_in : FnOk P w K mg base CX0 2 T.f_days_in T.fd_days_in ["year", "month"] (spF D_days) := ok_days_in T
  have G_law_source : FnOk P w K mg base CX0 1 T.f_law_source T.fd_law_source ["script"] (spSource K) := ok_law_source T
  have G_law_count : FnOk P w K mg base CX0 2 T.f_law_count T.fd_law_count ["source"] spCount := ok_law_count T
  have G_law_lengths : FnOk P w K mg base CX0 2 T.f_law_lengths T.fd_law_lengths ["count"] (spNL D_lengths) := ok_law_lengths T
  have G_law_same : FnOk P w K mg base CX0 3 T.f_law_same T.fd_law_same ["found", "wanted"] (spSame K 2) := ok_law_same T 2
  refine T.F_law.ok sc_law (fun vs H Q E h => ?_) (fun cdv A outer st H vs Q E hr h => ?_)
  · obtain ⟨a, ns, rfl, _⟩ := h; rfl
  · obtain ⟨a, ns, rfl, hS, hlen, q⟩ := h
    refine ⟨_, (pss_cons (ps_set (i := 1) sc_law.nd rfl (Or.inl rfl) (pe_call G_law_source (hr.mono (by first | decide | omega)) (by rfl) T.g_law_source T.F_law_source.kp T.b_law_source .nil pass0 (pa_cons (pv 0) pa_nil)))
      (pss_cons (ps_for PassesOwn.never rfl (pi_range1 (by rfl) T.z_range (pa_cons (pe_op op_add pe_int (pe_callB (call_min2 rfl) (by rfl) T.z_min (by decide +kernel) (pa_cons pe_int (pa_cons (pe_callB (r := rLenS K) call_len_seq (by rfl) T.z_len PySem.boot_len (pa_cons (pv 0) pa_nil)) pa_nil)))) pa_nil)) (pg_name (i := 2) sc_law.nd rfl (Or.inl rfl)) (pss_one (ps_for PassesOwn.never rfl (pi_range1 (by rfl) T.z_range (pa_cons pe_int pa_nil)) (pg_name (i := 3) sc_law.nd rfl (Or.inl rfl)) (pss_cons (ps_set (i := 4) sc_law.nd rfl (Or.inr rfl) (pe_call G_law_count (hr.mono (by first | decide | omega)) (by rfl) T.g_law_count T.F_law_count.kp T.b_law_count .nil pass0 (pa_cons (pv 1) pa_nil)))
      (pss_cons (ps_set (i := 5) sc_law.nd rfl (Or.inl rfl) (pe_call G_law_leap (hr.mono (by first | decide | omega)) (by rfl) T.g_law_leap T.F_law_leap.kp T.b_law_leap .nil pass0 (pa_cons (pv 4) pa_nil)))
      (pss_cons (ps_if (pt_not (pt_val (pe_call G_law_same (hr.mono (by first | decide | omega)) (by rfl) T.g_law_same T.F_law_same.kp T.b_law_same .nil pass0 (pa_cons (pe_lst (pa_cons (pe_call G_is_leap (hr.mono (by first | decide | omega)) (by rfl) T.g_is_leap T.F_is_leap.kp T.b_is_leap .nil pass0 (pa_cons (pv 4) pa_nil)) (pa_cons (pe_callN0 G_is_leap (hr.mono (by first | decide | omega)) (by rfl) T.g_is_leap T.F_is_leap.kp (kb_is_leap_year T.F_is_leap) pass0 (pk_cons (pv 4) pk_nil)) (pa_cons (pe_call G_is_leap (hr.mono (by first | decide | omega)) (by rfl) T.g_is_leap T.F_is_leap.kp T.b_is_leap .nil pass0 (pa_cons (pe_op op_add (pv 4) pe_int) pa_nil)) pa_nil)))) (pa_cons (pe_op op_rep (pe_lst (pa_cons (pv 5) pa_nil)) pe_int) pa_nil))))) (pss_one (ps_ret pe_bl)) pss_nil)
      (pss_cons (ps_setLc (i := 6) (own := [("number", 12)]) (g := gName 12) (tt := tYes) rfl sc_law.nd rfl rfl (sw_true rfl rfl rfl (by decide +kernel)) (pi_range2 (by rfl) T.z_range (pa_cons pe_int (pa_cons pe_int pa_nil))) (blkOk_by (own := [("number", 12)]) (N := ["script", "source", "k", "turn", "count", "due", "told", "named", "first", "days", "some", "at", "number"]) (sc := defScope s_law) (by decide +kernel)) (fun _ _ _ _ _ => (pg_name (i := 12) sc_law.nd rfl (Or.inl rfl))) (fun _ _ _ _ _ => pts_nil) (fun _ _ _ _ _ => (pe_call G_days_in (hr.mono (by first | decide | omega)) (by rfl) T.g_days_in T.F_days_in.kp T.b_days_in .nil pass0 (pa_cons (pv 4) (pa_cons (pv 12) pa_nil)))))
      (pss_cons (ps_setLc (i := 7) (own := [("number", 12)]) (g := gName 12) (tt := tYes) rfl sc_law.nd rfl rfl (sw_true rfl rfl rfl (by decide +kernel)) (pi_range2 (by rfl) T.z_range (pa_cons pe_int (pa_cons pe_int pa_nil))) (blkOk_by (own := [("number", 12)]) (N := ["script", "source", "k", "turn", "count", "due", "told", "named", "first", "days", "some", "at", "number"]) (sc := defScope s_law) (by decide +kernel)) (fun _ _ _ _ _ => (pg_name (i := 12) sc_law.nd rfl (Or.inl rfl))) (fun _ _ _ _ _ => pts_nil) (fun _ _ _ _ _ => (pe_callN0 G_days_in (hr.mono (by first | decide | omega)) (by rfl) T.g_days_in T.F_days_in.kp (kb_days_in_month_year T.F_days_in) pass0 (pk_cons (pv 12) (pk_cons (pe_op op_sub (pv 4) pe_int) pk_nil)))))
      (pss_one (ps_if (pt_not (pt_val (pe_call G_law_same (hr.mono (by first | decide | omega)) (by rfl) T.g_law_same T.F_law_same.kp T.b_law_same .nil pass0 (pa_cons (pe_lst (pa_cons (pv 6) (pa_cons (pv 7) pa_nil))) (pa_cons (pe_op op_rep (pe_lst (pa_cons (pe_call G_law_lengths (hr.mono (by first | decide | omega)) (by rfl) T.g_law_lengths T.F_law_lengths.kp T.b_law_lengths .nil pass0 (pa_cons (pv 4) pa_nil)) pa_nil)) pe_int) pa_nil))))) (pss_one (ps_ret pe_bl)) pss_nil))))))))))
      (pss_cons (ps_set (i := 8) sc_law.nd rfl (Or.inr rfl) (pe_call G_law_count (hr.mono (by first | decide | omega)) (by rfl) T.g_law_count T.F_law_count.kp T.b_law_count .nil pass0 (pa_cons (pv 1) pa_nil)))
      (pss_cons (ps_set (i := 9) sc_law.nd rfl (Or.inl rfl) (pe_callB (r := rSum K) (cr_sum rfl) (by rfl) T.z_sum (by decide +kernel) (pa_cons (pe_lc (own := [("at", 11)]) (g := gName 11) (tt := tYes) rfl sc_law.nd (pi_range1 (by rfl) T.z_range (pa_cons pe_int pa_nil)) (blkOk_by (own := [("at", 11)]) (N := ["script", "source", "k", "turn", "count", "due", "told", "named", "first", "days", "some", "at", "number"]) (sc := defScope s_law) (by decide +kernel)) (fun _ _ _ _ _ => (pg_name (i := 11) sc_law.nd rfl (Or.inr rfl))) (fun _ _ _ _ _ => pts_nil) (fun _ _ _ _ _ => (pe_callB (r := rSum K) (cr_sum rfl) (by rfl) T.z_sum (by decide +kernel) (pa_cons (pe_lc (own := [("number", 12)]) (g := gName 12) (tt := tYes) rfl sc_law.nd (pi_range2 (by rfl) T.z_range (pa_cons pe_int (pa_cons pe_int pa_nil))) (blkOk_by (own := [("number", 12)]) (N := ["script", "source", "k", "turn", "count", "due", "told", "named", "first", "days", "some", "at", "number"]) (sc := { kind := .function, names := [(".0", .local), ("at", .cell), ("sum", .globalImplicit), ("range", .globalImplicit), ("first", .cell)], isGenerator := false, isCoroutine := false }) (by decide +kernel)) (fun _ _ _ _ _ => (pg_name (i := 12) sc_law.nd rfl (Or.inl rfl))) (fun _ _ _ _ _ => pts_nil) (fun _ _ _ _ _ => (pe_call G_days_in (hr.mono (by first | decide | omega)) (by rfl) T.g_days_in T.F_days_in.kp T.b_days_in .nil pass0 (pa_cons (pe_op op_add (pv 8) (pv 11)) (pa_cons (pv 12) pa_nil))))) pa_nil)))) pa_nil)))
      (pss_cons (ps_setLc (i := 10) (own := [("at", 11)]) (g := gName 11) (tt := tYes) rfl sc_law.nd rfl rfl (sw_true rfl rfl rfl (by decide +kernel)) (pi_list (pe_lst (pa_cons pe_int (pa_cons pe_int (pa_cons pe_int (pa_cons pe_int (pa_cons (pe_un un_neg pe_int) (pa_cons (pe_un un_neg pe_int) pa_nil)))))))) (blkOk_by (own := [("at", 11)]) (N := ["script", "source", "k", "turn", "count", "due", "told", "named", "first", "days", "some", "at", "number"]) (sc := defScope s_law) (by decide +kernel)) (fun _ _ _ _ _ => (pg_name (i := 11) sc_law.nd rfl (Or.inl rfl))) (fun _ _ _ _ _ => pts_nil) (fun _ _ _ _ _ => (pe_call G_is_leap (hr.mono (by first | decide | omega)) (by rfl) T.g_is_leap T.F_is_leap.kp T.b_is_leap .nil pass0 (pa_cons (pv 11) pa_nil))))
      (pss_one (ps_ret (pe_and (pe_cmpR op_eq (pv 9) pe_int (nomark _)) (pe_one (pe_cmpR (r := rEqD K) (op_eqD hr.units) (pv 10) (pe_lst (pa_cons pe_bl (pa_cons pe_bl (pa_cons pe_bl (pa_cons pe_bl (pa_cons pe_bl (pa_cons pe_bl pa_nil))))))) (nomark _))))))))))), ?_⟩
    walk_at "fw"
    refine ⟨a, ns, rfl, hS, hlen, fun s d H1 ns1 nd1 S1 e1 => ?_⟩
    walk_at "fw"
    have dn {y : Int} {i : Nat} (h1 : 1 + (i : Int) < 13) {vs : List V} (e : vs = [.int y, .int (1 + (i : Int))]) : D_days vs (.int (dlen y (1 + (i : Int)))) := ⟨y, 1 + (i : Int), e, by omega, by omega, rfl⟩
    refine s_forR1 (n := 3 + (if ((ns.map V.int).length : Int) < 8 then ((ns.map V.int).length : Int) else 8)) (ea_cons (ev_op ev_c (ev_cb (ea_cons ev_c (ea_cons (ev_lenS (ev_var rfl) (.inl (ex_l e1 hS))) ea_nil)) fun H2 _ Q' q' => ⟨_, _, rfl, q' H2 (Ex.refl H2)⟩) rv_I0) ea_nil) ⟨by split <;> omega, by split <;> omega⟩
      (fun i σ H' => ∃ v2 v3 v4 v5 v6 v7 : Option V, σ = [some (.ref a), some (.ref s), v2, v3, v4, v5, v6, v7, none, none, none, none, none] ∧ Src H' s d (2 ^ 59 - 42 * i)) (fun H2 e2 => ⟨_, _, _, _, _, _, rfl, S1.ex_ e2⟩) (fun i σ H' hi hp => ?_) (fun σ H' hp => ?_)
    · obtain ⟨v2, v3, v4, v5, v6, v7, rfl, S2⟩ := hp
      have hi11 : i < 11 := by split at hi <;> omega
      refine s_forR1 (n := 6) (ea_cons ev_c ea_nil) ⟨by decide, by decide⟩ (fun j σ H' => ∃ v2 v3 v4 v5 v6 v7 : Option V, σ = [some (.ref a), some (.ref s), v2, v3, v4, v5, v6, v7, none, none, none, none, none] ∧ Src H' s d (2 ^ 59 - 42 * i - 7 * j)) (fun H2 e2 => ⟨_, _, _, _, _, _, rfl, S2.ex_ e2⟩) (fun j σ H' hj hp => ?_) (fun σ H' hp => ?_)
      · obtain ⟨v2, v3, v4, v5, v6, v7, rfl, S3⟩ := hp
        walk_at "fw"
        refine ⟨s, d, 2 ^ 59 - 42 * i - 7 * (j + 1), rfl, S3.less (by omega), fun y H4 hy S4 k4 => ?_⟩
        walk_at "fw"
        refine ⟨_, ⟨y, rfl, rfl⟩, fun H5 e5 => ?_⟩
        walk_at "fs"
        refine f_call (f_cons (f_evL (el_lst (ea_cons (ev_call (ea_cons (ev_var rfl) ea_nil) (sv_F ⟨y, rfl, rfl⟩)) (ea_cons (ev_callK ea_nil (ea_cons (ev_var rfl) ea_nil) rfl rfl (sv_Fk ⟨y, rfl, rfl⟩)) (ea_cons (ev_call (ea_cons (ev_op (ev_var rfl) ev_c rv_I0) ea_nil) (sv_F ⟨y + 400, rfl, rfl⟩)) ea_nil))) (by show 3 ≤ 100000; decide)) fun p1 H6 _ e6 h6 => f_cons ?_))
        refine f_evL (el_rep (el_lst (ea_cons (ev_var rfl) ea_nil) (by show 1 ≤ 100000; decide)) (fun _ _ => ev_c) (by decide) (by show 1 ≤ 100; decide)) fun p2 H7 _ e7 h7 => ?_
        walk_at "fs"
        rw [leap_400] at h6
        refine ⟨_, _, .list ([leap y, leap y, leap y].map PyData.bool), rfl, dp_bools (ns := [leap y, leap y, leap y]) (sq_of (e7 _ _ h6)), dp_bools (ns := [leap y, leap y, leap y]) (sq_of h7), ⟨by simp, fun d hd => ?_⟩, fun H8 e8 => ?_⟩
        · simp at hd; subst hd; trivial
        walk_at "fs"
        refine f_iteB (fun hb => nomatch hb) (fun _ => ?_)
        walk_at "fs"
        refine f_evL (el_lcR2 (fun _ => true) (fun i => .int (dlen y (1 + (i : Int)))) (ea_cons ev_c (ea_cons ev_c ea_nil)) (by decide) (fun _ => rfl) (fun i H9 _ _ => et_yes rfl) (fun i H9 _ hi _ => ev_call (ea_cons (ev_var rfl) (ea_cons (ev_var rfl) ea_nil)) (sv_F (dn (by omega) rfl)))) fun p3 H9 _ e9 h9 => ?_
        rw [given_all] at h9
        walk_at "fs"
        refine f_evL (el_lcR2 (fun _ => true) (fun i => .int (dlen y (1 + (i : Int)))) (ea_cons ev_c (ea_cons ev_c ea_nil)) (by decide) (fun _ => rfl) (fun i H9 _ _ => et_yes rfl) (fun i H9 _ hi _ => ev_callK ea_nil (ea_cons (ev_var rfl) (ea_cons (ev_op (ev_var rfl) ev_c rv_I0) ea_nil)) rfl rfl (sv_Fk (by rw [← dlen_m400]; exact dn (by omega) rfl)))) fun p4 H10 _ e10 h10 => ?_
        rw [given_all] at h10
        walk_at "fs"
        refine f_call (f_cons (f_evL (el_lst (ea_cons (ev_var rfl) (ea_cons (ev_var rfl) ea_nil)) (by show 2 ≤ 100000; decide)) fun p5 H11 _ e11 h11 => f_cons (f_op (f_lst (f_cons ?_)))))
        refine f_evL (el_call (ea_cons (ev_var rfl) ea_nil) (sl_NL ⟨y, rfl, rfl⟩)) fun p6 H12 _ e12 h12 => ?_
        walk_at "fs"
        refine ⟨sz1000 (by simp), fun p7 np7 => ?_⟩
        have e13 := Ex.new (o := .lst [V.ref p6]) np7
        walk_at "fs"
        refine ⟨p7, 2, _, rfl, rfl, upd_same, by decide, by decide, sz1000 (by show 1 * 2 ≤ 1000; decide), fun p8 np8 => ?_⟩
        have e14 := Ex.new (o := .lst (List.replicate (2 : Int).toNat [V.ref p6]).flatten) np8
        walk_at "fs"
        have hm (k : Nat) (hk : k = (13 - 1 : Int).toNat) : (List.range k).map (fun i : Nat => V.int (dlen y (1 + (i : Int)))) = (mlist y).map V.int := by subst hk; exact dlen_list y
        rw [hm _ rfl] at h9 h10
        have g9 := (((e10.trans e11).trans e12).trans (e13.trans e14)) _ _ h9
        have g10 := ((e11.trans e12).trans (e13.trans e14)) _ _ h10
        have g12 := (e13.trans e14) _ _ h12
        have g11 := (e12.trans (e13.trans e14)) _ _ h11
        refine ⟨_, _, .list [.list ((mlist y).map PyData.int), .list ((mlist y).map PyData.int)], rfl, .lst (sq_of g11) (.cons (dp_ints (sq_of g9)) (.cons (dp_ints (sq_of g10)) .nil)), .lst (sq_of upd_same) (.cons (dp_ints (sq_of g12)) (.cons (dp_ints (sq_of g12)) .nil)), ⟨by simp, fun d hd => ?_⟩, fun H15 e15 => ?_⟩
        · simp at hd; subst hd
          refine ⟨by simp [mlist], fun d hd => ?_⟩
          obtain ⟨z, _, rfl⟩ := List.mem_map.mp hd
          trivial
        walk_at "fw"
        refine f_iteB (fun hb => nomatch hb) (fun _ => ?_)
        walk_at "fw"
        exact ⟨_, _, _, _, _, _, rfl, S4.ex_ (((((((((((e5.trans e6).trans e7).trans e8).trans e9).trans e10).trans e11).trans e12).trans e13).trans e14).trans e15))⟩
      · obtain ⟨v2, v3, v4, v5, v6, v7, rfl, S3⟩ := hp
        exact ⟨_, _, _, _, _, _, rfl, S3.less (by show 2 ^ 59 - 42 * (i + 1) ≤ 2 ^ 59 - 42 * i - 7 * 6; omega)⟩
    · obtain ⟨v2, v3, v4, v5, v6, v7, rfl, S2⟩ := hp
      have hi11 : (3 + (if ((ns.map V.int).length : Int) < 8 then ((ns.map V.int).length : Int) else 8)).toNat ≤ 11 := by split <;> omega
      walk_at "fw"
      refine ⟨s, d, 0, rfl, S2.less (by omega), fun y H4 hy S4 k4 => ?_⟩
      walk_at "fs"
      have hin (i : Nat) (H9 : Hp) : EvL (tLc (iRng2 (tCons (tC (.int 1)) (tCons (tC (.int 13)) tNil))) (gName 12) tYes (tCall (spF D_days) [] E0 (tCons (tOp (rI0 fun i j => .int (i + j)) (tVar 8) (tVar 11)) (tCons (tVar 12) tNil))) [12]) [some (.ref a), some (.ref s), v2, v3, v4, v5, v6, v7, some (.int y), none, none, some (.int (i : Int)), none] H9 ((mlist (y + i)).map V.int) := by
        have z := el_lcR2 (σ := [some (.ref a), some (.ref s), v2, v3, v4, v5, v6, v7, some (.int y), none, none, some (.int (i : Int)), none]) (H := H9) (ta := tCons (tC (.int 1)) (tCons (tC (.int 13)) tNil)) (j := 12) (vs := [12]) (t := tYes) (te := tCall (spF D_days) [] E0 (tCons (tOp (rI0 fun i j => .int (i + j)) (tVar 8) (tVar 11)) (tCons (tVar 12) tNil))) (fun _ => true) (fun j => .int (dlen (y + i) (1 + (j : Int)))) (ea_cons ev_c (ea_cons ev_c ea_nil)) (by decide) (fun _ => rfl) (fun i H9 _ _ => et_yes rfl) (fun j H9 _ hj _ => ev_call (ea_cons (ev_op (ev_var rfl) (ev_var rfl) rv_I0) (ea_cons (ev_var rfl) ea_nil)) (sv_F (dn (by omega) rfl)))
        rw [given_all, show (13 - 1 : Int).toNat = 12 from rfl, dlen_list] at z
        exact z
      refine f_ev (ev_sumL (ns := (List.range 400).map fun i : Nat => ylen (y + (i : Int))) ?_) fun H5 e5 => ?_
      · have z := el_lcR1 (σ := [some (.ref a), some (.ref s), v2, v3, v4, v5, v6, v7, some (.int y), none, none, none, none]) (H := H4) (ta := tCons (tC (.int 400)) tNil) (n := 400) (j := 11) (vs := [11]) (t := tYes)
          (te := tCB (rSum K) (tCons (tLc (iRng2 (tCons (tC (.int 1)) (tCons (tC (.int 13)) tNil))) (gName 12) tYes (tCall (spF D_days) [] E0 (tCons (tOp (rI0 fun i j => .int (i + j)) (tVar 8) (tVar 11)) (tCons (tVar 12) tNil))) [12]) tNil)) (fun _ => true) (fun j => .int (ylen (y + (j : Int)))) (ea_cons ev_c ea_nil) (by decide) (fun _ => rfl) (fun i H9 _ _ => et_yes rfl) (fun j H9 _ hj _ => ev_sumL (hin j H9))
        rw [given_all] at z
        rw [List.map_map]
        exact z
      rw [span_sum, span_all]
      walk_at "fs"
      refine f_evL (el_lcNL (xs := [.int 0, .int 4, .int 100, .int 400, .int (-4), .int (-100)]) (fun _ => true) (fun i => .bl (([true, true, false, true, true, false] : List Bool).getD i false)) (el_lst (ea_cons ev_c (ea_cons ev_c (ea_cons ev_c (ea_cons ev_c (ea_cons (ev_un ev_c ru_neg) (ea_cons (ev_un ev_c ru_neg) ea_nil)))))) (by show 6 ≤ 100000; decide)) (by show 6 ≤ 40000; decide) (fun _ => rfl) (fun i x H1 _ _ => et_yes rfl) (fun i x H1 _ hx _ => ?_)) fun p H6 _ e6 h6 => ?_
      · have hx' : i = 0 ∧ x = .int 0 ∨ i = 1 ∧ x = .int 4 ∨ i = 2 ∧ x = .int 100 ∨ i = 3 ∧ x = .int 400 ∨ i = 4 ∧ x = .int (-4) ∨ i = 5 ∧ x = .int (-100) := by
          match i, hx with
          | 0, h => simp at h; simp [h]
          | 1, h => simp at h; simp [h]
          | 2, h => simp at h; simp [h]
          | 3, h => simp at h; simp [h]
          | 4, h => simp at h; simp [h]
          | 5, h => simp at h; simp [h]
          | n + 6, h => simp at h
        rcases hx' with ⟨rfl, rfl⟩ | ⟨rfl, rfl⟩ | ⟨rfl, rfl⟩ | ⟨rfl, rfl⟩ | ⟨rfl, rfl⟩ | ⟨rfl, rfl⟩ <;> exact ev_call (ea_cons (ev_var rfl) ea_nil) (sv_F ⟨_, rfl, by decide⟩)
      walk_at "fs"
      have h6' : H6 p = some (.lst ([true, true, false, true, true, false].map V.bl)) := h6
      refine f_ev (ev_andV (a := true) (b := true) (ev_op (ev_var rfl) ev_c (rv_eqI (i := 146097) (j := 146097))) fun _ => ev_opL (xs := [true, true, false, true, true, false].map V.bl) (ev_var rfl) (el_lst (ea_cons ev_c (ea_cons ev_c (ea_cons ev_c (ea_cons ev_c (ea_cons ev_c (ea_cons ev_c ea_nil)))))) (by show 6 ≤ 100000; decide)) fun p' H7 h7 e7 => rv_eqDp (dp_bools (sq_of (e7 _ _ h6'))) (dp_bools (sq_of h7)) (by decide +kernel) (by decide +kernel)) fun H8 _ => ?_
      exact q _

end
theorem all_mk {l : PySem.W.OpenLaw} {w : World} {K : PySem.W.Frag} {h : Heap} {mg : Str → Option Value} {fa : Addr} (X : K.In h) (G : h.Ns mainGlobals mg) (hfa : mg "law" = some (.ref fa))
    {od_is_leap an_is_leap : Option Addr} {sl_is_leap : Array (Option Value)} {oc_is_leap kV_is_leap dc_is_leap pm_is_leap cd_is_leap ct_is_leap : Value} {f_is_leap : Addr}
    (a_is_leap : PySem.W.nsIn K mainGlobals "is_leap" = some (some (.ref f_is_leap)))
    (l_is_leap : K.lookup f_is_leap = some ⟨oc_is_leap, od_is_leap, .func (PySem.W.fnOf "is_leap" "is_leap" (defArgs s_is_leap) (defBody s_is_leap) (defScope s_is_leap) .none kV_is_leap dc_is_leap pm_is_leap an_is_leap cd_is_leap ct_is_leap), sl_is_leap⟩)
    (c_is_leap : PySem.W.codeIn K cd_is_leap "is_leap" = true)
    (k_is_leap : PySem.W.keepIn K (.ref f_is_leap) = true)
    {od_days_in an_days_in : Option Addr} {sl_days_in : Array (Option Value)} {oc_days_in kV_days_in dc_days_in pm_days_in cd_days_in ct_days_in : Value} {f_days_in : Addr}
    (a_days_in : PySem.W.nsIn K mainGlobals "days_in" = some (some (.ref f_days_in)))
    (l_days_in : K.lookup f_days_in = some ⟨oc_days_in, od_days_in, .func (PySem.W.fnOf "days_in" "days_in" (defArgs s_days_in) (defBody s_days_in) (defScope s_days_in) .none kV_days_in dc_days_in pm_days_in an_days_in cd_days_in ct_days_in), sl_days_in⟩)
    (c_days_in : PySem.W.codeIn K cd_days_in "days_in" = true)
    (k_days_in : PySem.W.keepIn K (.ref f_days_in) = true)
    {od_law_source an_law_source : Option Addr} {sl_law_source : Array (Option Value)} {oc_law_source kV_law_source dc_law_source pm_law_source cd_law_source ct_law_source : Value} {f_law_source : Addr}
    (a_law_source : PySem.W.nsIn K mainGlobals "_law_source" = some (some (.ref f_law_source)))
    (l_law_source : K.lookup f_law_source = some ⟨oc_law_source, od_law_source, .func (PySem.W.fnOf "_law_source" "_law_source" (defArgs s_law_source) (defBody s_law_source) (defScope s_law_source) .none kV_law_source dc_law_source pm_law_source an_law_source cd_law_source ct_law_source), sl_law_source⟩)
    (c_law_source : PySem.W.codeIn K cd_law_source "_law_source" = true)
    (k_law_source : PySem.W.keepIn K (.ref f_law_source) = true)
    {od_law_draw an_law_draw : Option Addr} {sl_law_draw : Array (Option Value)} {oc_law_draw kV_law_draw dc_law_draw pm_law_draw cd_law_draw ct_law_draw : Value} {f_law_draw : Addr}
    (a_law_draw : PySem.W.nsIn K mainGlobals "_law_draw" = some (some (.ref f_law_draw)))
    (l_law_draw : K.lookup f_law_draw = some ⟨oc_law_draw, od_law_draw, .func (PySem.W.fnOf "_law_draw" "_law_draw" (defArgs s_law_draw) (defBody s_law_draw) (defScope s_law_draw) .none kV_law_draw dc_law_draw pm_law_draw an_law_draw cd_law_draw ct_law_draw), sl_law_draw⟩)
    (c_law_draw : PySem.W.codeIn K cd_law_draw "_law_draw" = true)
    (k_law_draw : PySem.W.keepIn K (.ref f_law_draw) = true)
    {od_law_same an_law_same : Option Addr} {sl_law_same : Array (Option Value)} {oc_law_same kV_law_same dc_law_same pm_law_same cd_law_same ct_law_same : Value} {f_law_same : Addr}
    (a_law_same : PySem.W.nsIn K mainGlobals "_law_same" = some (some (.ref f_law_same)))
    (l_law_same : K.lookup f_law_same = some ⟨oc_law_same, od_law_same, .func (PySem.W.fnOf "_law_same" "_law_same" (defArgs s_law_same) (defBody s_law_same) (defScope s_law_same) .none kV_law_same dc_law_same pm_law_same an_law_same cd_law_same ct_law_same), sl_law_same⟩)
    (c_law_same : PySem.W.codeIn K cd_law_same "_law_same" = true)
    (k_law_same : PySem.W.keepIn K (.ref f_law_same) = true)
    {od_law_leap an_law_leap : Option Addr} {sl_law_leap : Array (Option Value)} {oc_law_leap kV_law_leap dc_law_leap pm_law_leap cd_law_leap ct_law_leap : Value} {f_law_leap : Addr}
    (a_law_leap : PySem.W.nsIn K mainGlobals "_law_leap" = some (some (.ref f_law_leap)))
    (l_law_leap : K.lookup f_law_leap = some ⟨oc_law_leap, od_law_leap, .func (PySem.W.fnOf "_law_leap" "_law_leap" (defArgs s_law_leap) (defBody s_law_leap) (defScope s_law_leap) .none kV_law_leap dc_law_leap pm_law_leap an_law_leap cd_law_leap ct_law_leap), sl_law_leap⟩)
    (c_law_leap : PySem.W.codeIn K cd_law_leap "_law_leap" = true)
    (k_law_leap : PySem.W.keepIn K (.ref f_law_leap) = true)
    {od_law_count an_law_count : Option Addr} {sl_law_count : Array (Option Value)} {oc_law_count kV_law_count dc_law_count pm_law_count cd_law_count ct_law_count : Value} {f_law_count : Addr}
    (a_law_count : PySem.W.nsIn K mainGlobals "_law_count" = some (some (.ref f_law_count)))
    (l_law_count : K.lookup f_law_count = some ⟨oc_law_count, od_law_count, .func (PySem.W.fnOf "_law_count" "_law_count" (defArgs s_law_count) (defBody s_law_count) (defScope s_law_count) .none kV_law_count dc_law_count pm_law_count an_law_count cd_law_count ct_law_count), sl_law_count⟩)
    (c_law_count : PySem.W.codeIn K cd_law_count "_law_count" = true)
    (k_law_count : PySem.W.keepIn K (.ref f_law_count) = true)
    {od_law_lengths an_law_lengths : Option Addr} {sl_law_lengths : Array (Option Value)} {oc_law_lengths kV_law_lengths dc_law_lengths pm_law_lengths cd_law_lengths ct_law_lengths : Value} {f_law_lengths : Addr}
    (a_law_lengths : PySem.W.nsIn K mainGlobals "_law_lengths" = some (some (.ref f_law_lengths)))
    (l_law_lengths : K.lookup f_law_lengths = some ⟨oc_law_lengths, od_law_lengths, .func (PySem.W.fnOf "_law_lengths" "_law_lengths" (defArgs s_law_lengths) (defBody s_law_lengths) (defScope s_law_lengths) .none kV_law_lengths dc_law_lengths pm_law_lengths an_law_lengths cd_law_lengths ct_law_lengths), sl_law_lengths⟩)
    (c_law_lengths : PySem.W.codeIn K cd_law_lengths "_law_lengths" = true)
    (k_law_lengths : PySem.W.keepIn K (.ref f_law_lengths) = true)
    {od_law an_law : Option Addr} {sl_law : Array (Option Value)} {oc_law kV_law dc_law pm_law cd_law ct_law : Value} {f_law : Addr}
    (a_law : PySem.W.nsIn K mainGlobals "law" = some (some (.ref f_law)))
    (l_law : K.lookup f_law = some ⟨oc_law, od_law, .func (PySem.W.fnOf "law" "law" (defArgs s_law) (defBody s_law) (defScope s_law) .none kV_law dc_law pm_law an_law cd_law ct_law), sl_law⟩)
    (c_law : PySem.W.codeIn K cd_law "law" = true)
    (k_law : PySem.W.keepIn K (.ref f_law) = true)
    (z_bool : PySem.W.nsIn K mainGlobals "bool" = some none)
    (z_int : PySem.W.nsIn K mainGlobals "int" = some none)
    (z_isinstance : PySem.W.nsIn K mainGlobals "isinstance" = some none)
    (z_len : PySem.W.nsIn K mainGlobals "len" = some none)
    (z_list : PySem.W.nsIn K mainGlobals "list" = some none)
    (z_max : PySem.W.nsIn K mainGlobals "max" = some none)
    (z_min : PySem.W.nsIn K mainGlobals "min" = some none)
    (z_range : PySem.W.nsIn K mainGlobals "range" = some none)
    (z_str : PySem.W.nsIn K mainGlobals "str" = some none)
    (z_sum : PySem.W.nsIn K mainGlobals "sum" = some none)
    (z_tuple : PySem.W.nsIn K mainGlobals "tuple" = some none)
    {ca_DAYS_IN_COMMON_YEAR : Addr} {cd_DAYS_IN_COMMON_YEAR : Option Addr} {cs_DAYS_IN_COMMON_YEAR : Array (Option Value)} {cn_DAYS_IN_COMMON_YEAR : Nat} {ct_DAYS_IN_COMMON_YEAR_0 ct_DAYS_IN_COMMON_YEAR_1 ct_DAYS_IN_COMMON_YEAR_2 ct_DAYS_IN_COMMON_YEAR_3 ct_DAYS_IN_COMMON_YEAR_4 ct_DAYS_IN_COMMON_YEAR_5 ct_DAYS_IN_COMMON_YEAR_6 ct_DAYS_IN_COMMON_YEAR_7 ct_DAYS_IN_COMMON_YEAR_8 ct_DAYS_IN_COMMON_YEAR_9 ct_DAYS_IN_COMMON_YEAR_10 ct_DAYS_IN_COMMON_YEAR_11 : Tok}
    (ga_DAYS_IN_COMMON_YEAR : PySem.W.nsIn K mainGlobals "_DAYS_IN_COMMON_YEAR" = some (some (.ref ca_DAYS_IN_COMMON_YEAR)))
    (gl_DAYS_IN_COMMON_YEAR : K.lookup ca_DAYS_IN_COMMON_YEAR = some ⟨.type "tuple", cd_DAYS_IN_COMMON_YEAR, .seq #[.int 31 ct_DAYS_IN_COMMON_YEAR_0, .int 28 ct_DAYS_IN_COMMON_YEAR_1, .int 31 ct_DAYS_IN_COMMON_YEAR_2, .int 30 ct_DAYS_IN_COMMON_YEAR_3, .int 31 ct_DAYS_IN_COMMON_YEAR_4, .int 30 ct_DAYS_IN_COMMON_YEAR_5, .int 31 ct_DAYS_IN_COMMON_YEAR_6, .int 31 ct_DAYS_IN_COMMON_YEAR_7, .int 30 ct_DAYS_IN_COMMON_YEAR_8, .int 31 ct_DAYS_IN_COMMON_YEAR_9, .int 30 ct_DAYS_IN_COMMON_YEAR_10, .int 31 ct_DAYS_IN_COMMON_YEAR_11] cn_DAYS_IN_COMMON_YEAR, cs_DAYS_IN_COMMON_YEAR⟩) :
    ∃ fd : FuncData, (∀ (s : Shared) (v : Value), BindsTo s fd ⟨[v], []⟩ [("script", v)]) ∧ ∀ base : Heap, K.In base → base.Ns mainGlobals mg → FnOk l.prog w K mg base CX0 5 fa fd ["script"] (spLaw K) := by
  have e := hfa.symm.trans (PySem.W.mg_of X G a_law)
  cases e
  have F_is_leap := fun_mk (st := s_is_leap) l_is_leap c_is_leap k_is_leap
  have F_days_in := fun_mk (st := s_days_in) l_days_in c_days_in k_days_in
  have F_law_source := fun_mk (st := s_law_source) l_law_source c_law_source k_law_source
  have F_law_draw := fun_mk (st := s_law_draw) l_law_draw c_law_draw k_law_draw
  have F_law_same := fun_mk (st := s_law_same) l_law_same c_law_same k_law_same
  have F_law_leap := fun_mk (st := s_law_leap) l_law_leap c_law_leap k_law_leap
  have F_law_count := fun_mk (st := s_law_count) l_law_count c_law_count k_law_count
  have F_law_lengths := fun_mk (st := s_law_lengths) l_law_lengths c_law_lengths k_law_lengths
  have F_law := fun_mk (st := s_law) l_law c_law k_law
  let T : Top K mg := {
    f_is_leap := f_is_leap
    fd_is_leap := _
    F_is_leap := F_is_leap
    g_is_leap := PySem.W.mg_of X G a_is_leap
    b_is_leap := (F_is_leap.binds (ps := ["year"]) fun _ _ _ _ _ _ us hl => match us, hl with | [_], _ => rfl)
    f_days_in := f_days_in
    fd_days_in := _
    F_days_in := F_days_in
    g_days_in := PySem.W.mg_of X G a_days_in
    b_days_in := (F_days_in.binds (ps := ["year", "month"]) fun _ _ _ _ _ _ us hl => match us, hl with | [_, _], _ => rfl)
    f_law_source := f_law_source
    fd_law_source := _
    F_law_source := F_law_source
    g_law_source := PySem.W.mg_of X G a_law_source
    b_law_source := (F_law_source.binds (ps := ["script"]) fun _ _ _ _ _ _ us hl => match us, hl with | [_], _ => rfl)
    f_law_draw := f_law_draw
    fd_law_draw := _
    F_law_draw := F_law_draw
    g_law_draw := PySem.W.mg_of X G a_law_draw
    b_law_draw := (F_law_draw.binds (ps := ["source", "many"]) fun _ _ _ _ _ _ us hl => match us, hl with | [_, _], _ => rfl)
    f_law_same := f_law_same
    fd_law_same := _
    F_law_same := F_law_same
    g_law_same := PySem.W.mg_of X G a_law_same
    b_law_same := (F_law_same.binds (ps := ["found", "wanted"]) fun _ _ _ _ _ _ us hl => match us, hl with | [_, _], _ => rfl)
    f_law_leap := f_law_leap
    fd_law_leap := _
    F_law_leap := F_law_leap
    g_law_leap := PySem.W.mg_of X G a_law_leap
    b_law_leap := (F_law_leap.binds (ps := ["count"]) fun _ _ _ _ _ _ us hl => match us, hl with | [_], _ => rfl)
    f_law_count := f_law_count
    fd_law_count := _
    F_law_count := F_law_count
    g_law_count := PySem.W.mg_of X G a_law_count
    b_law_count := (F_law_count.binds (ps := ["source"]) fun _ _ _ _ _ _ us hl => match us, hl with | [_], _ => rfl)
    f_law_lengths := f_law_lengths
    fd_law_lengths := _
    F_law_lengths := F_law_lengths
    g_law_lengths := PySem.W.mg_of X G a_law_lengths
    b_law_lengths := (F_law_lengths.binds (ps := ["count"]) fun _ _ _ _ _ _ us hl => match us, hl with | [_], _ => rfl)
    f_law := fa
    fd_law := _
    F_law := F_law
    g_law := PySem.W.mg_of X G a_law
    b_law := (F_law.binds (ps := ["script"]) fun _ _ _ _ _ _ us hl => match us, hl with | [_], _ => rfl)
    z_bool := PySem.W.mg_none_of X G z_bool
    z_int := PySem.W.mg_none_of X G z_int
    z_isinstance := PySem.W.mg_none_of X G z_isinstance
    z_len := PySem.W.mg_none_of X G z_len
    z_list := PySem.W.mg_none_of X G z_list
    z_max := PySem.W.mg_none_of X G z_max
    z_min := PySem.W.mg_none_of X G z_min
    z_range := PySem.W.mg_none_of X G z_range
    z_str := PySem.W.mg_none_of X G z_str
    z_sum := PySem.W.mg_none_of X G z_sum
    z_tuple := PySem.W.mg_none_of X G z_tuple
    a_DAYS_IN_COMMON_YEAR := ca_DAYS_IN_COMMON_YEAR
    g_DAYS_IN_COMMON_YEAR := PySem.W.mg_of X G ga_DAYS_IN_COMMON_YEAR
    q_DAYS_IN_COMMON_YEAR := fun H => Or.inr ⟨_, _, _, gl_DAYS_IN_COMMON_YEAR, rfl, rfl, (by show 12 ≤ sizeLine; decide), .cons ⟨_, rfl⟩ (.cons ⟨_, rfl⟩ (.cons ⟨_, rfl⟩ (.cons ⟨_, rfl⟩ (.cons ⟨_, rfl⟩ (.cons ⟨_, rfl⟩ (.cons ⟨_, rfl⟩ (.cons ⟨_, rfl⟩ (.cons ⟨_, rfl⟩ (.cons ⟨_, rfl⟩ (.cons ⟨_, rfl⟩ (.cons ⟨_, rfl⟩ .nil)))))))))))⟩ }
  exact ⟨_, fun s v => .of_eq rfl, fun base _ _ => ok_law T⟩
end Mk

open PySem PySem.W PyProof.Rows
set_option maxRecDepth 100000 in
set_option maxHeartbeats 0 in
theorem PySem.Challenge.cw_monthclamp_k01_leap_years_and_months_holds : PySem.Challenge.rw_monthclamp_k01_leap_years_and_months.Holds := by
  w_on; o_law; k_head; (case hw => w_witness2)
  k_fill
  refine L2.walk_of (l := PySem.Challenge.rw_monthclamp_k01_leap_years_and_months) (n := 63) (k := 5) (x := "script") (CX := fun _ => L2.CX0) (sp := fun w => Mk.spLaw _) rfl (by decide) rfl ⟨rfl, by decide, by decide⟩ (fun w h Y => PySem.W.kIn_of Y) ?F (fun _ _ a ns hl _ hS => ⟨a, ns, rfl, hS, hl, fun _ => rfl⟩) (fun _ _ _ _ _ h => h)
  case F =>
    intro w mg fa h KX G hmg
    refine' Mk.all_mk KX G hmg ?a_is_leap ?l_is_leap ?c_is_leap ?k_is_leap ?a_days_in ?l_days_in ?c_days_in ?k_days_in ?a_law_source ?l_law_source ?c_law_source ?k_law_source ?a_law_draw ?l_law_draw ?c_law_draw ?k_law_draw ?a_law_same ?l_law_same ?c_law_same ?k_law_same ?a_law_leap ?l_law_leap ?c_law_leap ?k_law_leap ?a_law_count ?l_law_count ?c_law_count ?k_law_count ?a_law_lengths ?l_law_lengths ?c_law_lengths ?k_law_lengths ?a_law ?l_law ?c_law ?k_law ?z_bool ?z_int ?z_isinstance ?z_len ?z_list ?z_max ?z_min ?z_range ?z_str ?z_sum ?z_tuple ?ga_DAYS_IN_COMMON_YEAR ?gl_DAYS_IN_COMMON_YEAR
    (case a_is_leap => k_is)
    (case l_is_leap => k_is)
    (case c_is_leap => k_is)
    (case k_is_leap => k_is)
    (case a_days_in => k_is)
    (case l_days_in => k_is)
    (case c_days_in => k_is)
    (case k_days_in => k_is)
    (case a_law_source => k_is)
    (case l_law_source => k_is)
    (case c_law_source => k_is)
    (case k_law_source => k_is)
    (case a_law_draw => k_is)
    (case l_law_draw => k_is)
    (case c_law_draw => k_is)
    (case k_law_draw => k_is)
    (case a_law_same => k_is)
    (case l_law_same => k_is)
    (case c_law_same => k_is)
    (case k_law_same => k_is)
    (case a_law_leap => k_is)
    (case l_law_leap => k_is)
    (case c_law_leap => k_is)
    (case k_law_leap => k_is)
    (case a_law_count => k_is)
    (case l_law_count => k_is)
    (case c_law_count => k_is)
    (case k_law_count => k_is)
    (case a_law_lengths => k_is)
    (case l_law_lengths => k_is)
    (case c_law_lengths => k_is)
    (case k_law_lengths => k_is)
    (case a_law => k_is)
    (case l_law => k_is)
    (case c_law => k_is)
    (case k_law => k_is)
    (case z_bool => k_is)
    (case z_int => k_is)
    (case z_isinstance => k_is)
    (case z_len => k_is)
    (case z_list => k_is)
    (case z_max => k_is)
    (case z_min => k_is)
    (case z_range => k_is)
    (case z_str => k_is)
    (case z_sum => k_is)
    (case z_tuple => k_is)
    (case ga_DAYS_IN_COMMON_YEAR => k_is)
    (case gl_DAYS_IN_COMMON_YEAR => k_is)
#print axioms PySem.Challenge.cw_monthclamp_k01_leap_years_and_months_holds
