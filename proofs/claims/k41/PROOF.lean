import PyProof.Rows.All
import Wide.All
import OpenK.AllK
import Wide.FinOn
import HandS.ForMost
import HandS.Wide
import HandS.IsInst
import HandS.Evl
import HandS.Defaults
import HandS.More
import HandS.Style
import HandS.Strs
import HandS.SetFor
import HandS.Zip
import PyProof.Rows.SortShellAny
import HandS.SetKeys
import HandS.Walk
import HandS.SetBool
import HandS.Dict
import HandS.DictComp
import HandS.StrMore
import HandS.FStr
import HandS.Conv
import HandS.Deep
import KE.KxField
import KE.KExcIs
import HandS.ExcInit
import HandS.ExcCtx
import HandS.ExcIs
import HandS.ExcField
import HandS.ExcValue
import HandS.HotCalls
import HandS.RaiseFrom
import HandS.SuiteRaise
import HandS.ExcInitHot
import PyProof.StrOps2
import PyProof.SliceStr2
import KE.KRevSl
import PySem.Challenge.RW_monthclamp_k41_dates_read
set_option Elab.async false
set_option linter.all false
set_option maxRecDepth 100000
set_option maxHeartbeats 4000000
namespace Mc
open PySem L2

/-! ### forward rules: one for each head of a reading -/
section
variable {K : PySem.W.Frag} {σ : L2.St} {H : Hp} {Q : VK} {ta tb te tc : TE} {t u c : TT} {t1 t2 : TS} {D : Ends} {i : Nat} {v x y : V} {r : R2}
theorem f_var (h : σ[i]? = some (some v)) (q : Q v H) : tVar i σ H Q := ⟨v, h, q⟩
theorem f_c (q : Q v H) : tC v σ H Q := q
theorem f_op (h : ta σ H fun x H1 => tb σ H1 fun y H2 => r x y H2 Q) : tOp r ta tb σ H Q := h
theorem f_un {r : V → Hp → VK → Prop} (h : ta σ H fun x H1 => r x H1 Q) : tUn r ta σ H Q := h
theorem f_I0 {g : Int → Int → V} {a b : Int} (q : Q (g a b) H) : rI0 g (.int a) (.int b) H Q := ⟨a, b, rfl, rfl, q⟩
theorem f_I {C : Int → Int → Prop} {g : Int → Int → V} {a b : Int} (hc : C a b) (q : Q (g a b) H) : rI C g (.int a) (.int b) H Q := ⟨a, b, rfl, rfl, hc, q⟩
theorem f_U {g : Int → V} {a : Int} (q : Q (g a) H) : rU g (.int a) H Q := ⟨a, rfl, q⟩
theorem dec_int (a b : Int) : decide (V.int a = V.int b) = decide (a = b) := by
  by_cases h : a = b
  · subst h; simp
  · rw [decide_eq_false h, decide_eq_false (fun e => h (V.int.inj e))]
theorem f_eqI {a b : Int} (q : Q (.bl (decide (a = b))) H) : rEq (.int a) (.int b) H Q := ⟨rfl, by rw [dec_int]; exact q⟩
theorem f_neI {a b : Int} (q : Q (.bl (!decide (a = b))) H) : rNe (.int a) (.int b) H Q := ⟨rfl, by rw [dec_int]; exact q⟩
theorem dec_bl (a b : Bool) : decide (V.bl a = V.bl b) = (a == b) := by cases a <;> cases b <;> decide
theorem f_eqB {a b : Bool} (q : Q (.bl (a == b)) H) : rEq (.bl a) (.bl b) H Q := ⟨rfl, by rw [dec_bl]; exact q⟩
theorem f_neB {a b : Bool} (q : Q (.bl (!(a == b))) H) : rNe (.bl a) (.bl b) H Q := ⟨rfl, by rw [dec_bl]; exact q⟩
theorem f_test {Q : Bool → Hp → Prop} (h : te σ H fun x H' => ∃ k, x = .bl k ∧ Q k H') : tTest te σ H Q := h
theorem f_B {Q : Bool → Hp → Prop} (h : te σ H fun x H' => ∃ k, x = .bl k ∧ Q k H') : tB te σ H Q := h
theorem f_bl {b : Bool} {R : Bool → Prop} (q : R b) : ∃ k, V.bl b = V.bl k ∧ R k := ⟨b, rfl, q⟩
theorem f_and {Q : Bool → Hp → Prop} (h : t σ H fun c H1 => if c = true then u σ H1 Q else Q false H1) : tAnd t u σ H Q := h
theorem f_or {Q : Bool → Hp → Prop} (h : t σ H fun c H1 => if c = true then Q true H1 else u σ H1 Q) : tOr t u σ H Q := h
theorem f_not {Q : Bool → Hp → Prop} (h : t σ H fun c H1 => Q (!c) H1) : tNot t σ H Q := h
theorem f_seq (h : t1 { D with nx := t2 D } σ H) : tSeq t1 t2 D σ H := h
theorem f_next (q : D.nx σ H) : tNext D σ H := q
theorem f_asg {g : TG} (h : te σ H fun x H1 => g x σ H1 D.nx) : tAsg te g D σ H := h
theorem f_gName {R : L2.St → Hp → Prop} (q : R (σ.set i (some v)) H) : gName i v σ H R := q
theorem f_ret (h : te σ H D.rt) : tRet te D σ H := h
theorem f_drop (h : te σ H fun _ H1 => D.nx σ H1) : tDrop te D σ H := h
theorem f_ifS (h : c σ H fun b H1 => if b = true then t1 D σ H1 else t2 D σ H1) : tIfS c t1 t2 D σ H := h
theorem f_if (h : c σ H fun b H1 => if b = true then ta σ H1 Q else tb σ H1 Q) : tIf c ta tb σ H Q := h
theorem f_ite {p : Prop} [Decidable p] {A B : Prop} (h1 : p → A) (h2 : ¬ p → B) : if decide p = true then A else B := by
  by_cases h : p
  · rw [if_pos (decide_eq_true h)]; exact h1 h
  · rw [if_neg (by rw [decide_eq_false h]; decide)]; exact h2 h
theorem f_iteB {b : Bool} {A B : Prop} (h1 : b = true → A) (h2 : b = false → B) : if b = true then A else B := by
  cases b with
  | true => rw [if_pos rfl]; exact h1 rfl
  | false => rw [if_neg Bool.false_ne_true]; exact h2 rfl
theorem f_call {sp : Sp} {dvs : List V} {E : XK} {ta : TA} (h : ta σ H fun vs H1 => sp (vs ++ dvs) H1 Q E) : tCall sp dvs E ta σ H Q := h
theorem f_nil {Q : List V → Hp → Prop} (q : Q [] H) : tNil σ H Q := q
theorem f_cons {tr : TA} {Q : List V → Hp → Prop} (h : ta σ H fun x H1 => tr σ H1 fun xs H2 => Q (x :: xs) H2) : tCons ta tr σ H Q := h
theorem f_tup {ta : TA} (h : ta σ H fun xs H1 => xs.length ≤ sizeLine ∧ ∀ p, H1 p = none → Q (.ref p) (upd H1 p (.tup xs))) : tTup ta σ H Q := h
theorem f_lst {ta : TA} (h : ta σ H fun xs H1 => xs.length ≤ sizeLine ∧ ∀ p, H1 p = none → Q (.ref p) (upd H1 p (.lst xs))) : tLst ta σ H Q := h
theorem f_cb {r : List V → Hp → VK → Prop} {ta : TA} (h : ta σ H fun vs H1 => r vs H1 Q) : tCB r ta σ H Q := h
end

/-! ### pure defs -/
open Evl
/-- a def that gives z of vs by D and leaves all as it was -/
def spF (D : List V → V → Prop) : Sp := fun vs H Q _ => ∃ z, D vs z ∧ ∀ H', Ex H H' → Q z H'
theorem f_spF {D : List V → V → Prop} {vs : List V} {H : Hp} {Q : VK} {E : XK} (z : V) (h : D vs z) (q : ∀ H', Ex H H' → Q z H') : spF D vs H Q E := ⟨z, h, q⟩
theorem sv_F {D : List V → V → Prop} {vs : List V} {H : Hp} {z : V} (h : D vs z) : SpV (spF D) (vs ++ []) H z := fun H1 e Q q E => ⟨z, by rw [List.append_nil]; exact h, q⟩
theorem rv_eqI {H : Hp} {i j : Int} : RV rEq (.int i) (.int j) H (.bl (decide (i = j))) := fun H1 _ _ q => ⟨rfl, by rw [dec_int]; exact q H1 (Ex.refl H1)⟩
theorem rv_neI {H : Hp} {i j : Int} : RV rNe (.int i) (.int j) H (.bl (!decide (i = j))) := fun H1 _ _ q => ⟨rfl, by rw [dec_int]; exact q H1 (Ex.refl H1)⟩
theorem rv_eqB {H : Hp} {i j : Bool} : RV rEq (.bl i) (.bl j) H (.bl (i == j)) := fun H1 _ _ q => ⟨rfl, by rw [dec_bl]; exact q H1 (Ex.refl H1)⟩
theorem rv_neB {H : Hp} {i j : Bool} : RV rNe (.bl i) (.bl j) H (.bl (!(i == j))) := fun H1 _ _ q => ⟨rfl, by rw [dec_bl]; exact q H1 (Ex.refl H1)⟩
theorem rv_mod {H : Hp} {i j : Int} (h : 0 < j) : RV (rI (fun _ j => 0 < j) fun i j => .int (i % j)) (.int i) (.int j) H (.int (i % j)) := rv_I (C := fun _ j => 0 < j) h
def b2 (b : Bool) : Int := if b then 1 else 0
theorem ev_intB {te : TE} {σ : L2.St} {H : Hp} {b : Bool} (h : Ev te σ H (.bl b)) : Ev (tCB (fun xs H Q => (∃ i, xs = [.int i] ∧ Q (.int i) H) ∨ ∃ k, xs = [.bl k] ∧ Q (.int (if k then 1 else 0)) H) (tCons te tNil)) σ H (.int (b2 b)) :=
  fun H1 e Q q => h H1 e _ fun H2 e2 => Or.inr ⟨b, rfl, q H2 e2⟩
/-- f(k = v, ..): keywords alone -/
theorem pe_callN0 {X : Cx} {CX : CXT} {k : Nat} {f : Addr} {fd : FuncData} {ps ks : List Str} {sp : Sp} {x : Str} {p pos : Pos} {kws : List Keyword} {tk : TA} {E : XK} {g : List Value → List Value → List Value} {gV : List V → List V → List V}
    (F : FnOk X.prog X.w X.K X.mg X.base CX k f fd ps sp) (hr : Room k X.A) (hg : Gl X x) (hm : X.mg x = some (.ref f)) (kp : PySem.W.keepIn X.K (.ref f) = true) (hb : KBn X.K fd ps 0 ks g gV) (hx : Passes CX X E)
    (hkw : PK X kws tk) (hsome : (backToKw pos (keywordEach kws X.env)).all (·.1.isSome) = true := by rfl) (hnames : (backToKw pos (keywordEach kws X.env)).filterMap (·.1) = ks := by rfl)
    (hdeb : (x == ("__debug__" : Str)) = false := by decide)
    (hplain : ((backTo pos (starEach [] X.env)).any (·.1) || (backToKw pos (keywordEach kws X.env)).any (·.1.isNone)) = false := by rfl) :
    PE X (.Call (.Name x p) [] kws pos) (tCallN 0 ks.length sp gV E tNil tk) := by
  refine ⟨fun pins s σ H Q I h => wpAny_Call_Name_kw (ld_glob I hg hm ?_ hdeb)⟩
  refine PySem.W.callWith_KW0 (h₀ := X.base) I.ok.mod.kin kp hsome (thn (hkw.run pos pins s σ H _ I h) fun us s1 ⟨vs, H1, I1, r, l1, l2, q⟩ => ⟨I1.kIn, ?_⟩) hplain
  rw [hnames]
  exact run_fnN (us := []) F hr hb hx I1 .nil r l1 l2 q
theorem vals_rev : ∀ {xs : List V} {us : List Value}, Vals xs us → Vals xs.reverse us.reverse
  | _, _, .nil => .nil
  | _, _, .cons r t => by
    rw [List.reverse_cons, List.reverse_cons]
    exact (vals_rev t).append (.cons r .nil)

/-! ### == of data -/
theorem eqv_ints (xs ys : List Int) : PyData.eqvAll (xs.map PyData.int) (ys.map PyData.int) = decide (xs = ys) := by
  induction xs generalizing ys with
  | nil => cases ys <;> simp [PyData.eqvAll]
  | cons x xs ih =>
    cases ys with
    | nil => simp [PyData.eqvAll]
    | cons y ys =>
      simp only [List.map_cons, PyData.eqvAll, ih, PyData.eqv, List.cons.injEq]
      by_cases h : x = y <;> by_cases g : xs = ys <;> simp [h, g]
theorem dpa_ints {K : PySem.W.Frag} {H : Hp} : ∀ ns : List Int, DpAll K H (ns.map V.int) (ns.map PyData.int)
  | [] => .nil
  | n :: ns => .cons (.int n) (dpa_ints ns)
theorem dp_ints {K : PySem.W.Frag} {H : Hp} {a : Addr} {ns : List Int} (h : SqL K H a (ns.map V.int)) : Dp K H (.ref a) (.list (ns.map PyData.int)) := .lst h (dpa_ints ns)
/-- two lists of ints compared -/
theorem rv_eqL {K : PySem.W.Frag} {H : Hp} {a b : Addr} {xs ys : List Int} (ha : SqL K H a (xs.map V.int)) (hb : SqL K H b (ys.map V.int)) : RV (rEqD K) (.ref a) (.ref b) H (.bl (decide (xs = ys))) := fun H1 e Q q =>
  ⟨_, _, dp_ints (ex_l e ha), dp_ints (ex_l e hb), PySem.W.ke_shaped_ints xs, PySem.W.ke_shaped_ints ys, by
    show Q (.bl (PyData.eqvAll (xs.map PyData.int) (ys.map PyData.int))) H1
    rw [eqv_ints]; exact q H1 (Ex.refl H1)⟩
theorem rv_neL {K : PySem.W.Frag} {H : Hp} {a b : Addr} {xs ys : List Int} (ha : SqL K H a (xs.map V.int)) (hb : SqL K H b (ys.map V.int)) : RV (rNeD K) (.ref a) (.ref b) H (.bl (!decide (xs = ys))) := fun H1 e Q q =>
  ⟨_, _, dp_ints (ex_l e ha), dp_ints (ex_l e hb), PySem.W.ke_shaped_ints xs, PySem.W.ke_shaped_ints ys, by
    show Q (.bl (!PyData.eqvAll (xs.map PyData.int) (ys.map PyData.int))) H1
    rw [eqv_ints]; exact q H1 (Ex.refl H1)⟩
theorem ev_neL {K : PySem.W.Frag} {σ : L2.St} {H : Hp} {ta tb : TE} {a : Addr} {xs ys : List Int} (ha : Ev ta σ H (.ref a)) (hx : SqL K H a (xs.map V.int)) (hb : EvL tb σ H (ys.map V.int)) : Ev (tOp (rNeD K) ta tb) σ H (.bl (!decide (xs = ys))) :=
  ev_opL ha hb fun _ _ h e => rv_neL (ex_l e hx) (sq_of h)
theorem ev_eqL {K : PySem.W.Frag} {σ : L2.St} {H : Hp} {ta tb : TE} {a : Addr} {xs ys : List Int} (ha : Ev ta σ H (.ref a)) (hx : SqL K H a (xs.map V.int)) (hb : EvL tb σ H (ys.map V.int)) : Ev (tOp (rEqD K) ta tb) σ H (.bl (decide (xs = ys))) :=
  ev_opL ha hb fun _ _ h e => rv_eqL (ex_l e hx) (sq_of h)

/-! ### the source of draws: [digits, held, mix, turn] at s, digits at d; B draws may still come -/
structure Src (H : Hp) (s d : Addr) (B : Nat) : Prop where
  ex : ∃ (ds : List Int) (a m c : Int), H s = some (.lst [.ref d, .int a, .int m, .int c]) ∧ H d = some (.lst (ds.map V.int)) ∧ ds.length ≤ 63 ∧ 0 ≤ m ∧ m < 2 ^ 61 ∧ 0 ≤ c ∧ c + B ≤ 2 ^ 60
theorem Src.ne {H : Hp} {s d : Addr} {B : Nat} (S : Src H s d B) : s ≠ d := fun e => by
  obtain ⟨ds, a, m, c, h1, h2, _⟩ := S.ex
  rw [e, h2] at h1
  cases ds with
  | nil => simp at h1
  | cons x r => simp at h1
theorem Src.less {H : Hp} {s d : Addr} {B B' : Nat} (S : Src H s d B) (h : B' ≤ B) : Src H s d B' := by
  obtain ⟨ds, a, m, c, h1, h2, h3, h4, h5, h6, h7⟩ := S.ex
  exact ⟨ds, a, m, c, h1, h2, h3, h4, h5, h6, by omega⟩
theorem Src.ex_ {H H' : Hp} {s d : Addr} {B : Nat} (S : Src H s d B) (e : Ex H H') : Src H' s d B := by
  obtain ⟨ds, a, m, c, h1, h2, h⟩ := S.ex
  exact ⟨ds, a, m, c, e _ _ h1, e _ _ h2, h⟩
theorem Src.free {H : Hp} {s d : Addr} {B : Nat} (S : Src H s d B) {p : Addr} (h : H p = none) : p ≠ s ∧ p ≠ d := by
  obtain ⟨ds, a, m, c, h1, h2, _⟩ := S.ex
  exact ⟨(ne_of_none h1 h).symm, (ne_of_none h2 h).symm⟩
/-- all but the source is kept -/
def Kp (s d : Addr) (H H' : Hp) : Prop := ∀ b o, b ≠ s → b ≠ d → H b = some o → H' b = some o
theorem Kp.refl {s d : Addr} {H : Hp} : Kp s d H H := fun _ _ _ _ h => h
theorem Kp.trans {s d : Addr} {H H1 H2 : Hp} (a : Kp s d H H1) (b : Kp s d H1 H2) : Kp s d H H2 := fun c o h1 h2 h => b c o h1 h2 (a c o h1 h2 h)
theorem Kp.of {s d : Addr} {H H' : Hp} (e : Ex H H') : Kp s d H H' := fun c o _ _ h => e c o h
theorem Kp.l {s d : Addr} {H H1 H2 : Hp} (a : Kp s d H H1) (b : Ex H1 H2) : Kp s d H H2 := a.trans (.of b)
def spDraw : Sp := fun vs H Q _ => ∃ (s d : Addr) (many : Int) (B : Nat), vs = [.ref s, .int many] ∧ 0 < many ∧ many ≤ 10 ^ 60 ∧ Src H s d (B + 1) ∧ ∀ n H', 0 ≤ n → n < many → Src H' s d B → Kp s d H H' → Q (.int n) H'
def spSource (K : PySem.W.Frag) : Sp := fun vs H Q _ => ∃ (a : Addr) (ns : List Int), vs = [.ref a] ∧ SqL K H a (ns.map V.int) ∧ ns.length ≤ 63 ∧ ∀ s d H', H s = none → H d = none → Src H' s d (2 ^ 59) → Ex H H' → Q (.ref s) H'
theorem sz1000 {n : Nat} (h : n ≤ 1000) : n ≤ sizeLine := Nat.le_trans h (by decide)
theorem f_draw {H : Hp} {s d : Addr} {B : Nat} {many : Int} {Q : VK} {E : XK} (S : Src H s d (B + 1)) (h0 : 0 < many) (hb : many ≤ 10 ^ 60) (q : ∀ n H', 0 ≤ n → n < many → Src H' s d B → Kp s d H H' → Q (.int n) H') :
    spDraw ([.ref s, .int many] ++ []) H Q E := ⟨s, d, many, B, rfl, h0, hb, S, q⟩
theorem at_ints {L : List Int} {n : Int} (h0 : 0 ≤ n) (h1 : n < L.length) : ∃ z, z ∈ L ∧ atI (L.map V.int) n = some (.int z) := by
  obtain ⟨j, rfl⟩ : ∃ j : Nat, n = (j : Int) := ⟨n.toNat, by omega⟩
  have hj : j < L.length := by omega
  exact ⟨L[j], List.getElem_mem hj, atI_nat (by rw [List.getElem?_map, List.getElem?_eq_getElem hj]; rfl)⟩
theorem Kp.at {s d p : Addr} {H H' : Hp} {o : HO} (k : Kp s d H H') (f : p ≠ s ∧ p ≠ d) (h : H p = some o) : H' p = some o := k p o f.1 f.2 h
theorem upd_old {H : Hp} {p q : Addr} {o u : HO} (h : H p = some o) (n : H q = none) : upd H q u p = some o := by
  rw [upd_ne (ne_of_none h n)]; exact h
def spCount : Sp := fun vs H Q _ => ∃ (s d : Addr) (B : Nat), vs = [.ref s] ∧ Src H s d (B + 7) ∧ ∀ y H', y.natAbs ≤ 10 ^ 31 → Src H' s d B → Kp s d H H' → Q (.int y) H'

/-! ### data: what _law_same compares -/
def tyN : PyData → String
  | .none => "NoneType" | .bool _ => "bool" | .int _ => "int" | .str _ => "str" | .list _ => "list" | .tuple _ => "tuple" | .dict _ => "dict"
theorem ty_dp {K : PySem.W.Frag} {H : Hp} {x : V} {d : PyData} (h : Dp K H x d) : TyX K H x (.type (tyN d)) := by
  cases h with
  | non => exact .base .non
  | bl b => exact .base (.bl b)
  | int i => exact .base (.int i)
  | str x => exact .base (.str x)
  | lst h _ =>
    rcases h with (h | ⟨o, h⟩) | ⟨o, its, n, h, c, _⟩
    · exact .base (.lst h)
    · exact .base (.frz h)
    · exact .kList h c
  | tup h _ =>
    rcases h with (h | ⟨o, h⟩) | ⟨o, its, n, h, c, _⟩
    · exact .base (.tup h)
    · exact .fTuple h
    · exact .kTuple h c
mutual
theorem dp_ex {K : PySem.W.Frag} {H H' : Hp} (e : Ex H H') : ∀ {d : PyData} {x : V}, Dp K H x d → Dp K H' x d
  | _, _, .non => .non
  | _, _, .bl b => .bl b
  | _, _, .int i => .int i
  | _, _, .str x => .str x
  | _, _, .lst h a => .lst (ex_l e h) (dpa_ex e a)
  | _, _, .tup h a => .tup (ex_t e h) (dpa_ex e a)
theorem dpa_ex {K : PySem.W.Frag} {H H' : Hp} (e : Ex H H') : ∀ {ds : List PyData} {xs : List V}, DpAll K H xs ds → DpAll K H' xs ds
  | _, _, .nil => .nil
  | _, _, .cons h a => .cons (dp_ex e h) (dpa_ex e a)
end
theorem dpa_len {K : PySem.W.Frag} {H : Hp} : ∀ {xs : List V} {ds : List PyData}, DpAll K H xs ds → xs.length = ds.length
  | _, _, .nil => rfl
  | _, _, .cons _ a => congrArg Nat.succ (dpa_len a)
theorem dpa_get {K : PySem.W.Frag} {H : Hp} : ∀ {xs : List V} {ds : List PyData} {i : Nat}, DpAll K H xs ds → i < ds.length → ∃ x d, xs[i]? = some x ∧ ds[i]? = some d ∧ d ∈ ds ∧ Dp K H x d
  | _, _, _, .nil, h => by simp at h
  | _, _, 0, .cons h _, _ => ⟨_, _, rfl, rfl, List.mem_cons_self .., h⟩
  | _, _, i + 1, .cons _ a, h => by
    obtain ⟨x, d, h1, h2, h3, h4⟩ := dpa_get (i := i) a (by simpa using h)
    exact ⟨x, d, h1, h2, List.mem_cons_of_mem _ h3, h4⟩
/-- data of depth n, lists and tuples of at most 10000 -/
def okd : Nat → PyData → Prop
  | _, .none => True
  | _, .bool _ => True
  | _, .int _ => True
  | _, .str x => PyData.canLay0 (.str x) = true
  | n + 1, .list xs => xs.length ≤ 10000 ∧ ∀ x, x ∈ xs → okd n x
  | n + 1, .tuple xs => xs.length ≤ 10000 ∧ ∀ x, x ∈ xs → okd n x
  | _, _ => False
theorem shaped_str {x : Str} (h : PyData.canLay0 (.str x) = true) : SeqAt.shaped (.str x) = true := by
  unfold SeqAt.shaped
  rw [h]; rfl
theorem ev_isi {K : PySem.W.Frag} {σ : L2.St} {H : Hp} {te : TE} {x : V} {t : String} {n : String} {b : Bool} (h : Ev te σ H x) (ty : ∀ H1, Ex H H1 → TyX K H1 x (.type t)) (kb : kitB t n = some b) :
    Ev (tCB (rIsi K) (tCons te (tCons (tC (.ty n)) tNil))) σ H (.bl b) := fun H1 e Q q => h H1 e _ fun H2 e2 => ⟨x, .ty n, _, _, b, rfl, .ty n, ty H2 (e.trans e2), kit_ty kb, q H2 e2⟩
theorem rv_isN {H : Hp} {x : V} : RV (fun x y H Q => y = .non ∧ Q (.bl (decide (x = .non))) H) x .non H (.bl (decide (x = .non))) := fun H1 _ _ q => ⟨rfl, q H1 (Ex.refl H1)⟩
theorem rv_eqDp {K : PySem.W.Frag} {H : Hp} {x y : V} {d e : PyData} (hx : Dp K H x d) (hy : Dp K H y e) (sd : SeqAt.shaped d = true) (se : SeqAt.shaped e = true) : RV (rEqD K) x y H (.bl (PyData.eqv d e)) := fun H1 x1 _ q =>
  ⟨d, e, dp_ex x1 hx, dp_ex x1 hy, sd, se, q H1 (Ex.refl H1)⟩
/-- found[k], of a list or a tuple -/
theorem rv_ixAny {K : PySem.W.Frag} {H : Hp} {p : Addr} {xs : List V} {j : Nat} {v : V} (h : SqL K H p xs ∨ SqT K H p xs) (ha : xs[j]? = some v) : RV (rIx K) (.ref p) (.int (j : Int)) H v := fun H1 e _ q => by
  rcases h with h | h
  · exact Or.inl ⟨p, xs, _, v, rfl, rfl, ex_l e h, atI_nat ha, q H1 (Ex.refl H1)⟩
  · exact Or.inr (Or.inl ⟨p, xs, _, v, rfl, rfl, ex_t e h, atI_nat ha, q H1 (Ex.refl H1)⟩)
theorem ev_lenS {K : PySem.W.Frag} {σ : L2.St} {H : Hp} {ta : TE} {p : Addr} {xs : List V} (ha : Ev ta σ H (.ref p)) (h : SqL K H p xs ∨ SqT K H p xs) : Ev (tCB (rLenS K) (tCons ta tNil)) σ H (.int (xs.length : Int)) := fun H1 e Q q =>
  ha H1 e _ fun H2 e2 => ⟨p, xs, rfl, h.elim (fun h => Or.inl (ex_l (e.trans e2) h)) (fun h => Or.inr (ex_t (e.trans e2) h)), q H2 e2⟩
def spSame (K : PySem.W.Frag) (n : Nat) : Sp := fun vs H Q _ => ∃ (x y : V) (dt : PyData), vs = [x, y] ∧ Dp K H x dt ∧ Dp K H y dt ∧ okd n dt ∧ ∀ H', Ex H H' → Q (.bl true) H'
theorem given_none {n : Nat} {f : Nat → Bool} {v : Nat → V} (h : ∀ i, i < n → f i = false) : given n f v = [] := by
  unfold given
  rw [List.filter_eq_nil_iff.mpr (fun i hi => by rw [h i (List.mem_range.mp hi)]; decide)]; rfl

/-! ### steps of a law's own text -/
section
variable {K : PySem.W.Frag} {σ : L2.St} {H : Hp} {Q : VK} {te : TE} {t : TT}
theorem f_evL {xs : List V} (h : EvL te σ H xs) (k : ∀ p H1, H p = none → Ex H H1 → H1 p = some (.lst xs) → Q (.ref p) H1) : te σ H Q := h H (Ex.refl H) Q k
theorem f_ev {v : V} (h : Ev te σ H v) (k : ∀ H1, Ex H H1 → Q v H1) : te σ H Q := h H (Ex.refl H) Q k
theorem ev_callK {sp : Sp} {gV : List V → List V → List V} {E : XK} {ta tk : TA} {vs zs : List V} {n m : Nat} {z : V} (h : EvA ta σ H vs) (hk : EvA tk σ H zs) (hn : vs.length = n) (hm : zs.length = m) (hs : SpV sp (gV vs zs) H z) : Ev (tCallN n m sp gV E ta tk) σ H z := fun H1 e Q q =>
  h H1 e _ fun H2 e2 => hk H2 (e.trans e2) _ fun H3 e3 => ⟨hn, hm, hs H3 ((e.trans e2).trans e3) Q (fun H4 e4 => q H4 ((e2.trans e3).trans e4)) E⟩
theorem sv_Fk {D : List V → V → Prop} {vs : List V} {H : Hp} {z : V} (h : D vs z) : SpV (spF D) vs H z := fun H1 e Q q E => ⟨z, h, q⟩
/-- a def that gives a new list -/
def spNL (D : List V → List V → Prop) : Sp := fun vs H Q _ => ∃ xs, D vs xs ∧ ∀ p H', H p = none → Ex H H' → H' p = some (.lst xs) → Q (.ref p) H'
theorem sl_NL {D : List V → List V → Prop} {vs : List V} {H : Hp} {xs : List V} (h : D vs xs) : SpL (spNL D) (vs ++ []) H xs := fun H1 e Q q E => ⟨xs, by rw [List.append_nil]; exact h, q⟩
theorem el_lcR2 {ta : TA} {j : Nat} {vs : List Nat} {lo n : Int} (f : Nat → Bool) (v : Nat → V) (h : EvA ta σ H [.int lo, .int n]) (hn : -100000 ≤ lo ∧ lo ≤ 100000 ∧ lo ≤ n ∧ n ≤ lo + 40000) (hw : ∀ x, wipe ((wipe σ vs).set j (some x)) vs = wipe σ vs)
    (ht : ∀ (i : Nat) H1, Ex H H1 → lo + (i : Int) < n → EvT t ((wipe σ vs).set j (some (.int (lo + (i : Int))))) H1 (f i)) (he : ∀ (i : Nat) H1, Ex H H1 → lo + (i : Int) < n → f i = true → Ev te ((wipe σ vs).set j (some (.int (lo + (i : Int))))) H1 (v i)) :
    EvL (tLc (iRng2 ta) (gName j) t te vs) σ H (given (n - lo).toNat f v) := fun H0 e Q q => h H0 e _ fun H1 e1 => ⟨lo, n, rfl, by omega, fun Dl hD =>
  lc_range (lo := lo) (n := (n - lo).toNat) (Cw H1 f v Dl) ⟨hD, Ex.new hD, upd_same⟩ (fun i H' hi p =>
    ⟨hw _, cw_turn p (by omega) (ht i H1 (e.trans e1) (by omega)) (fun hf => he i H1 (e.trans e1) (by omega) hf)⟩) (fun H' p => q Dl H' (fresh_back e1 p.1) (e1.trans p.2.1) p.2.2)⟩
theorem et_yes {b : Bool} (h : b = true) : EvT tYes σ H b := fun H1 _ _ q => by subst h; exact q H1 (Ex.refl H1)
theorem ev_sumL {ns : List Int} (h : EvL te σ H (ns.map V.int)) : Ev (tCB (rSum K) (tCons te tNil)) σ H (.int ns.sum) := fun H1 e Q q =>
  h H1 e _ fun p H2 _ e2 hp => ⟨p, ns, rfl, sq_of hp, q H2 e2⟩
theorem given_all {n : Nat} {v : Nat → V} : given n (fun _ => true) v = (List.range n).map v := by
  unfold given
  rw [List.filter_eq_self.mpr (fun _ _ => rfl)]
theorem el_rep {te tk : TE} {xs : List V} {k : Int} (h : EvL te σ H xs) (hk : ∀ H1, Ex H H1 → Ev tk σ H1 (.int k)) (h0 : 0 ≤ k ∧ k ≤ 100) (hz : xs.length ≤ 100) : EvL (tOp rRep te tk) σ H ((List.replicate k.toNat xs).flatten) := fun H1 e Q q =>
  h H1 e _ fun p H2 np e2 hp => hk H2 (e.trans e2) H2 (Ex.refl H2) _ fun H3 e3 => ⟨p, k, xs, rfl, rfl, e3 _ _ hp, by omega, by omega, Nat.le_trans (Nat.mul_le_mul hz (show k.toNat ≤ 100 by omega)) (by decide), fun l hl => q l _ (fresh_back (e2.trans e3) hl) ((e2.trans e3).trans (Ex.new hl)) upd_same⟩
/-- a list of bools compared -/
theorem eqv_bools (xs : List Bool) : PyData.eqvAll (xs.map PyData.bool) (xs.map PyData.bool) = true := by
  induction xs with
  | nil => simp [PyData.eqvAll]
  | cons x xs ih => simp [PyData.eqvAll, PyData.eqv, ih]
theorem dpa_bools {H : Hp} : ∀ ns : List Bool, DpAll K H (ns.map V.bl) (ns.map PyData.bool)
  | [] => .nil
  | n :: ns => .cons (.bl n) (dpa_bools ns)
theorem dp_bools {H : Hp} {a : Addr} {ns : List Bool} (h : SqL K H a (ns.map V.bl)) : Dp K H (.ref a) (.list (ns.map PyData.bool)) := .lst h (dpa_bools ns)
end
end Mc
namespace Mc
open PySem L2 Evl
/-! ### defs that are called where no repr is under way -/
structure FnG (P : Program) (w : World) (K : PySem.W.Frag) (mg : Str → Option Value) (base : Heap) (CX : CXT) (k : Nat) (f : Addr) (fd : FuncData) (ps : List Str) (sp : Sp) : Prop where
  len : ∀ vs H Q E, sp vs H Q E → vs.length = ps.length
  run : ∀ (A : Around) (outer : List Env) (s : Shared) (H : Hp) (args : Args) (us : List Value) (vs : List V) (Q : VK) (E : XK), A.guards = some [] → Room k A → Env0 P w K mg base A outer s H →
    BindsTo s fd args (ps.zip us) → Vals vs us → sp vs H Q E → codeAny (model P w) A (.call (.ref f) args) (CR CX outer P w H s Q E) s
section
variable {P : Program} {w : World} {K : PySem.W.Frag} {mg : Str → Option Value} {base : Heap} {CX : CXT} {k : Nat} {f : Addr} {fd : FuncData} {N ps : List Str} {sp : Sp}
theorem FnG.of (F : FnOk P w K mg base CX k f fd ps sp) : FnG P w K mg base CX k f fd ps sp := ⟨F.len, fun A outer s H args us vs Q E _ hr => F.run A outer s H args us vs Q E hr⟩
theorem okG {x qual : Str} {st : Stmt} (F : Fun K x qual st f fd) (S : FnScope N ps (defScope st)) (len : ∀ vs H Q E, sp vs H Q E → vs.length = ps.length)
    (body : ∀ (cdv : Value) (A : Around) (outer : List Env) (s : Shared) (H : Hp) (vs : List V) (Q : VK) (E : XK), A.guards = some [] → Room k (A.deeper (PyProof.Rows.envOfC qual (defScope st) s.heap.objs.size f cdv)) → sp vs H Q E →
      ∃ t, PSs (cxOf CX P w K mg base N qual (defScope st) f cdv A outer s H E).nox (defBody st) t ∧ t { nx := fun _ H' => Q .non H', rt := Q } (L2.start N vs) H) : FnG P w K mg base CX (k + 1) f fd ps sp := by
  obtain ⟨oc, od, kV, doc, pm, an, cdv, ct, osl, rfl, lk, hcd⟩ := F.ex
  refine ⟨len, fun A outer s H args us vs Q E hG hr e0 hb r hsp => ?_⟩
  have kept : ∀ b o, base.get? b = some o → s.heap.get? b = some o := fun b o e => (e0.bs b o e).1
  have inK : K.In s.heap := e0.mod.kin.keeps kept
  refine codeAny_call_function hr.depth (inK _ _ lk) rfl S.co S.gen rfl (PySem.W.codeRec_of inK hcd) (hb _ _ _ _ ?_)
  refine wpAny_newFunctionEnv_cells S.kind (fun q hq => (S.par q.1 (List.of_mem_zip (show (q.1, q.2) ∈ _ from hq)).1).imp id fun z => ⟨z, PySem.W.cellsFrom_some _ _ _ (.inl z)⟩) fun env he s1 x => ?_
  subst he
  refine ⟨(e0.mod.nolimit.keeps kept).keeps x.toInCall.keep, codeAny_func ?_⟩
  obtain ⟨t, ht, hq⟩ := body cdv A outer s H vs Q E hG (hr.deeper _) hsp
  have I0 := inv_start (CX := CX) (E := E) S hr.hd e0 (len _ _ _ _ hsp) r x
  refine wpAny_mono (ht.nox.run [] s1 _ H _ I0 hq) (fun fl s' hs => ?_) fun _ _ hs => hs
  match fl, hs with
  | .ret _, ⟨v, _, H', J, rv, q⟩ => exact ⟨v, H', J.os, J.bare, J.base, J.hok, rv, q⟩
  | .next, ⟨_, H', J, q⟩ => exact ⟨.non, H', J.os, J.bare, J.base, J.hok, rfl, q⟩
  | .brk, ⟨_, _, _, q⟩ => exact q.elim
  | .cont, ⟨_, _, _, q⟩ => exact q.elim
end
section
variable {X : Cx} {CX : CXT} {k : Nat} {f : Addr} {fd : FuncData} {ps : List Str} {sp : Sp} {dvs : List V} {ds : List Value} {E : XK} {x : Str} {p pos : Pos} {e : Expr} {es : List Expr} {t : TA}
theorem run_fnG {pins : List (Addr × Obj)} {σ : L2.St} {H : Hp} {s : Shared} {Q : VK} {us : List Value} {vs : List V} (hG : X.A.guards = some []) (F : FnG X.prog X.w X.K X.mg X.base CX k f fd ps sp) (hr : Room k X.A) (hb : Binds X.K fd ps ds) (hd : Vals dvs ds)
    (hx : Passes CX X E) (I : Inv X pins σ H s) (r : Vals vs us) (h : sp (vs ++ dvs) H Q E) : wpAny (model X.prog X.w) X.A (call (.ref f) us) (EP X pins σ Q) X.xe s := by
  have rr := r.append hd
  have ln := rr.length.symm.trans (F.len _ _ _ _ h)
  refine wpAny_call (codeAny_mono (F.run X.A X.stack s H ⟨us, []⟩ _ _ Q E hG hr I.env0 (hb s us I.kIn ln) rr h) fun out s' hq => ?_)
  match out, hq with
  | .error e, hq => exact hx pins σ H s e s' I hq
  | .ok (.ret u), hq => exact I.after hq
  | .ok .next, hq => exact hq.elim
  | .ok .brk, hq => exact hq.elim
  | .ok .cont, hq => exact hq.elim
/-- f(e, ..) of such a def -/
theorem pe_callG (hG : X.A.guards = some []) (F : FnG X.prog X.w X.K X.mg X.base CX k f fd ps sp) (hr : Room k X.A) (hg : Gl X x) (hm : X.mg x = some (.ref f)) (kp : PySem.W.keepIn X.K (.ref f) = true) (hb : Binds X.K fd ps ds) (hd : Vals dvs ds)
    (hx : Passes CX X E) (ha : PA X (e :: es) t) (hdeb : (x == ("__debug__" : Str)) = false := by decide) (hst : starEach (e :: es) X.env = (false, eval e X.env) :: starEach es X.env := by rfl) (hplain : (backTo pos (starEach es X.env)).any (·.1) = false := by rfl) :
    PE X (.Call (.Name x p) (e :: es) [] pos) (tCall sp dvs E t) :=
  ⟨fun pins s σ H Q I h => wpAny_Call_Name_kw (ld_glob I hg hm (PySem.W.callWith_K (h₀ := X.base) I.ok.mod.kin kp (thn (ha.run pos pins s σ H _ I h) fun _ _ ⟨_, _, I1, r, q⟩ => ⟨I1.kIn, run_fnG hG F hr hb hd hx I1 r q⟩) hst hplain) hdeb)⟩
/-! ### repr of data -/
/-- the text of data fits -/
structure Fits (d : PyData) : Prop where
  nodict : d.hasDict = false
  show_ : d.showable = true
  deep : d.depth ≤ 20
  size : d.shown.length ≤ sizeLine
def rRepr (K : PySem.W.Frag) : List V → Hp → VK → Prop := fun xs H Q => ∃ (a : Addr) (d : PyData), xs = [.ref a] ∧ Dp K H (.ref a) d ∧ Fits d ∧ ∀ H', Ex H H' → Q (.str d.shown) H'
theorem call_repr_data (hG : X.A.guards = some []) (hu : X.A.units + 64 < cLine) : CallR X (.builtin "repr") (rRepr X.K) := by
  intro pins s σ H xs us Q I r h
  obtain ⟨a, d, rfl, hd, hf, q⟩ := h
  obtain ⟨u, rfl, rx⟩ := vals1 r
  have rx' : u = .ref a := rx
  subst rx'
  obtain ⟨as, hr⟩ := Dp.reads I d (.ref a) (.ref a) hd rfl
  have hdp := hf.deep
  refine repr_of_reads' hr hf.show_ (fun z => by rw [hf.nodict] at z; cases z) hG (by omega) (fun _ _ e => e) (fun h' u tk hk => ?_) hf.size
  exact ⟨.str d.shown, H, I.kept (h' := h') (t' := tk) hk, ⟨u, rfl⟩, q H (Ex.refl H)⟩
end
theorem ev_repr {K : PySem.W.Frag} {σ : L2.St} {H : Hp} {te : TE} {a : Addr} {d : PyData} (h : Ev te σ H (.ref a)) (hd : Dp K H (.ref a) d) (hf : Fits d) : Ev (tCB (rRepr K) (tCons te tNil)) σ H (.str d.shown) := fun H1 e Q q =>
  h H1 e _ fun H2 e2 => ⟨a, d, rfl, dp_ex (e.trans e2) hd, hf, fun H3 e3 => q H3 (e2.trans e3)⟩
/-! ### a law's end over such a def -/
section
open PySem.W PyProof.Rows
/-- the abstract heap at a law's call: nothing but the script -/
theorem script_heap {P : Program} {w : World} {K : PySem.W.Frag} {h : Heap} {a : Addr} {vs : List Value} {ns : List Int} (KX : K.In h) (ha : h.get? a = some { cls := .type "list", data := .seq vs.toArray }) (hi : IntsAre vs ns) (hl : ns.length ≤ sizeLine) :
    ∃ H : Hp, Only H ∧ SqL K H a (ns.map V.int) ∧ HOk P w H h ∧ (∀ b, H b ≠ none → b = a) ∧ (H a ≠ none → K.lookup a = none) := by
  have rv := vals_ints hi
  have ln : vs.toArray.size ≤ sizeLine := by rw [List.size_toArray, hi.length]; exact hl
  rcases e : K.lookup a with _ | o
  · let H : Hp := fun b => if b = a then some (.frz { cls := .type "list", data := .seq vs.toArray } (.lst (ns.map V.int))) else none
    have at_ : H a = some (.frz { cls := .type "list", data := .seq vs.toArray } (.lst (ns.map V.int))) := if_pos rfl
    have off : ∀ b, b ≠ a → H b = none := fun b hb => if_neg hb
    refine ⟨H, fun b => ?_, .inl (.inr ⟨_, at_⟩), fun b u z => ?_, fun b z => Classical.byContradiction fun hb => z (off b hb), fun _ => rfl⟩
    · rcases Classical.em (b = a) with rfl | hb
      · exact .inr ⟨_, _, at_⟩
      · exact .inl (off b hb)
    · rcases Classical.em (b = a) with rfl | hb
      · rw [at_] at z
        cases z
        exact ⟨ha, by rw [List.length_map]; exact hl, vs, _, rv, ha⟩
      · rw [off b hb] at z
        cases z
  · have eo := (KX a o e).symm.trans ha
    cases eo
    exact ⟨fun _ => none, fun _ => .inl rfl, .inr ⟨_, _, _, e, rfl, rfl, rfl, ln, rv⟩, fun b u z => by simp at z, fun b z => absurd rfl z, fun z => absurd rfl z⟩
theorem law_callG {P : Program} {w : World} {K : PySem.W.Frag} {mg mb : Str → Option Value} {k : Nat} {fa a : Addr} {fd : FuncData} {x : Str} {sp : Sp} {s : Shared} {vs : List Value} {ns : List Int}
    (KX : K.In s.heap) (hns : s.heap.Ns mainGlobals mg) (hb : s.heap.Ns builtinsNs mb) (hbb : ∀ x : Str, x ≠ "__name__" → mb x = bootBuiltins x) (hlim : s.heap.NoLimit) (hg : s.gens = #[])
    (ha : s.heap.get? a = some { cls := .type "list", data := .seq vs.toArray }) (hi : IntsAre vs ns) (hl : ns.length ≤ sizeLine) (hr : Room k callerA)
    (F : ∀ base : Heap, K.In base → base.Ns mainGlobals mg → FnG P w K mg base CX0 k fa fd [x] sp) (hbind : ∀ (s : Shared) (u : Value), BindsTo s fd ⟨[u], []⟩ [(x, u)])
    (hsp : ∀ H : Hp, Only H → SqL K H a (ns.map V.int) → sp [.ref a] H (fun v _ => v = .bl true) fun _ _ _ => False) :
    codeAny (model P w) callerA (.call (.ref fa) ⟨[.ref a], []⟩) (fun r s' => r = .ok (.ret (.bool true)) ∧ OldK s.heap s'.heap ∧ s'.os = s.os ∧ AllBare s'.gens) s := by
  obtain ⟨H, hO, hS, hok, hA, hK⟩ := script_heap (P := P) (w := w) KX ha hi hl
  have free : ∀ {b : Addr} {o : Obj} {es : Array DictEntry} {ep : Nat}, s.heap.get? b = some o → o.data = .dict es ep → H b = none := fun {b o es ep} e d => by
    rcases q : H b with _ | u
    · rfl
    · have eb := hA b (by rw [q]; exact Option.some_ne_none u)
      subst eb
      rw [ha] at e
      cases e
      cases d
  have nsB : ∀ {b : Addr} {m : Str → Option Value}, s.heap.Ns b m → (hidT s.heap H).Ns b m := fun ⟨o, es, ep, e, d, r⟩ => ⟨o, es, ep, hidT_get e (free e d), d, r⟩
  have inB : K.In (hidT s.heap H) := fun b o e => hidT_get (KX b o e) (by
    rcases q : H b with _ | u
    · rfl
    · have ne : H b ≠ none := by rw [q]; exact Option.some_ne_none u
      have eb := hA b ne
      subst eb
      rw [hK ne] at e
      cases e)
  have mod : Mod K mg (hidT s.heap H) := ⟨inB, nsB hns, ⟨mb, nsB hb, hbb⟩, hlim.elim fun mc h => ⟨mc, nsB h.1, h.2⟩⟩
  have e0 : Env0 P w K mg (hidT s.heap H) callerA [] s H := ⟨rfl, mod, fun b o e => of_hidT e, Nat.le_of_eq (hidT_size _ _), trivial, (fun b hb => absurd hb (by simp [frs])), hok, .of_eq hg⟩
  refine codeAny_mono ((F _ inB (nsB hns)).run callerA [] s H ⟨[.ref a], []⟩ [.ref a] [.ref a] _ _ rfl hr e0 (hbind s (.ref a)) (.cons rfl .nil) (hsp H hO hS)) fun out s' h => ?_
  match out, h with
  | .error e, h => exact h.elim
  | .ok .next, h => exact h.elim
  | .ok .brk, h => exact h.elim
  | .ok .cont, h => exact h.elim
  | .ok (.ret u), ⟨v, H', os, bare, un, hok', rl, (q : v = .bl true)⟩ =>
    subst q
    obtain rfl : u = Value.bool true := rl
    refine ⟨rfl, OldK.of_keep fun b o e => ?_, os, bare⟩
    rcases q : H b with _ | u
    · exact un.keep b o e q (fun z => nomatch z) (by simp)
    · rcases hO b with z | ⟨ob, xs, z⟩
      · rw [q] at z
        cases z
      · have e1 := (hok b _ z).1
        have e2 := (hok' b _ (un.frzs b ob _ z)).1
        rw [e] at e1
        cases e1
        exact e2
theorem walk_ofG {l : PySem.W.OpenLaw} {n k : Nat} {q : Program} {loose : List Str} {XP : (Str → Option Value) → Heap → Prop} {YP : World → Heap → Prop} {d : DefRec} {K : Params → PySem.W.Frag} {sp : World → Sp} {x : Str}
    (hn : l.most = some n) (hn2 : n ≤ sizeLine) (hdf : d.params.defaults = []) (hr : Room k callerA) (hY : ∀ (w : World) (h : Heap), YP w h → (K w.params).In h)
    (F : ∀ (w : World) (mg : Str → Option Value) (fa : Addr) (h : Heap), (K w.params).In h → h.Ns mainGlobals mg → mg d.name = some (.ref fa) →
      ∃ fd : FuncData, (∀ (s : Shared) (u : Value), BindsTo s fd ⟨[u], []⟩ [(x, u)]) ∧ ∀ base : Heap, (K w.params).In base → base.Ns mainGlobals mg → FnG l.prog w (K w.params) mg base CX0 k fa fd [x] (sp w))
    (hsp : ∀ (w : World) (H : Hp) (a : Addr) (ns : List Int), ns.length ≤ n → Only H → SqL (K w.params) H a (ns.map V.int) → sp w [.ref a] H (fun v _ => v = .bl true) fun _ _ _ => False) :
    PySem.W.WalkO q loose XP YP l.row.toRowW d [] (fun f vs => PySem.call f vs) :=
  Att.attach_call hn hdf fun w s₀ s₁ mg mb fa o pm cd doc a vs ns G Y _ _ _ hmg hobj hints hlen hg => by
    have KX := hY w _ Y
    obtain ⟨fd, hb, hF⟩ := F w mg fa _ KX G.T.g hmg
    exact law_callG KX G.T.g G.T.b G.T.builtins G.T.nolimit hg hobj hints (Nat.le_trans hlen hn2) hr hF hb fun H hO hS => hsp w H a ns hlen hO hS
end
/-! ### more of expressions and statements -/
section
variable {K : PySem.W.Frag} {σ : L2.St} {H : Hp} {Q : VK} {te ta tb : TE} {D : Ends}
theorem rv_div {i j : Int} (h : 0 < j) (hb : j ≤ 10 ^ 60) : RV (rI CDivW fun i j => .int (i / j)) (.int i) (.int j) H (.int (i / j)) := rv_I (wide_div (b := 200) h (by omega) (by decide) (by decide))
theorem rv_mul {i j : Int} (h : i.natAbs ≤ 10 ^ 100) (hb : j.natAbs ≤ 10 ^ 100) : RV (rI CMulW fun i j => .int (i * j)) (.int i) (.int j) H (.int (i * j)) := rv_I (wide_mul (a := 400) (b := 400) (Nat.lt_of_le_of_lt h (by decide +kernel)) (Nat.lt_of_le_of_lt hb (by decide +kernel)) (by decide) (by decide) (by decide))
/-- a def that gives z of vs, as the heap says, and leaves all as it was -/
def spH (D : Hp → List V → V → Prop) : Sp := fun vs H Q _ => ∃ z, D H vs z ∧ ∀ H', Ex H H' → Q z H'
theorem sv_H {D : Hp → List V → V → Prop} {vs : List V} {z : V} (h : ∀ H1, Ex H H1 → D H1 vs z) : SpV (spH D) (vs ++ []) H z := fun H1 e Q q E => ⟨z, by rw [List.append_nil]; exact h H1 e, q⟩
/-- .. that gives a new tuple -/
def spU (D : Hp → List V → List V → Prop) : Sp := fun vs H Q _ => ∃ xs, D H vs xs ∧ ∀ p H', H p = none → Ex H H' → H' p = some (.tup xs) → Q (.ref p) H'
theorem eu_call {D : Hp → List V → List V → Prop} {vs xs : List V} {E : XK} {ta : TA} (h : EvA ta σ H vs) (hs : ∀ H1, Ex H H1 → D H1 vs xs) : EvU (tCall (spU D) [] E ta) σ H xs := fun H1 e Q q =>
  h H1 e _ fun H2 e2 => ⟨xs, by rw [List.append_nil]; exact hs H2 (e.trans e2), fun p H3 hp e3 h3 => q p H3 (fresh_back e2 hp) (e2.trans e3) h3⟩
theorem eu_callN {D : Hp → List V → List V → Prop} {gV : List V → List V → List V} {vs zs xs : List V} {n m : Nat} {E : XK} {ta tk : TA} (h : EvA ta σ H vs) (hk : EvA tk σ H zs) (hn : vs.length = n) (hm : zs.length = m) (hs : ∀ H1, Ex H H1 → D H1 (gV vs zs) xs) : EvU (tCallN n m (spU D) gV E ta tk) σ H xs := fun H1 e Q q =>
  h H1 e _ fun H2 e2 => hk H2 (e.trans e2) _ fun H3 e3 => ⟨hn, hm, xs, hs H3 ((e.trans e2).trans e3), fun p H4 hp e4 h4 => q p H4 (fresh_back (e2.trans e3) hp) ((e2.trans e3).trans e4) h4⟩
theorem f_evU {xs : List V} (h : EvU te σ H xs) (k : ∀ p H1, H p = none → Ex H H1 → H1 p = some (.tup xs) → Q (.ref p) H1) : te σ H Q := h H (Ex.refl H) Q k
/-- a, b, c = e -/
theorem s_un3 {i j l : Nat} {p : Addr} {a b c : V} (h : Ev te σ H (.ref p)) (hT : SqT K H p [a, b, c]) (k : ∀ H1, Ex H H1 → D.nx (((σ.set i (some a)).set j (some b)).set l (some c)) H1) :
    tAsg te (gTup K 3 (gCons (gName i) (gCons (gName j) (gCons (gName l) gNil)))) D σ H := h H (Ex.refl H) _ fun H1 e => ⟨p, [a, b, c], rfl, ex_t e hT, rfl, a, [b, c], rfl, b, [c], rfl, c, [], rfl, rfl, k H1 e⟩
theorem rv_ixTn {p : Addr} {xs : List V} {j : Nat} {v : V} (h : SqT K H p xs) (ha : xs[j]? = some v) : RV (rIxT K) (.ref p) (.int (j : Int)) H v := rv_ixT h (atI_nat ha)
theorem ev_min2 {i j : Int} (ha : Ev ta σ H (.int i)) (hb : Ev tb σ H (.int j)) : Ev (tCB (fun xs H Q => ∃ i j, xs = [.int i, .int j] ∧ Q (.int (if j < i then j else i)) H) (tCons ta (tCons tb tNil))) σ H (.int (min i j)) := fun H1 e Q q =>
  ha H1 e _ fun H2 e2 => hb H2 (e.trans e2) _ fun H3 e3 => ⟨i, j, rfl, by
    have e : (if j < i then j else i) = min i j := by split <;> omega
    rw [e]; exact q H3 (e2.trans e3)⟩
end
/-! ### draws among other steps -/
section
variable {K : PySem.W.Frag} {σ : L2.St} {H : Hp} {Q : VK} {te ta tb : TE} {D : Ends}
theorem f_par {i j : Nat} {ta : TA} (h : ta σ H fun vs H1 => ∃ v w, vs = [v, w] ∧ D.nx ((σ.set i (some v)).set j (some w)) H1) : tPar i j ta D σ H := h
theorem f_par2 {v w : V} {R : V → V → Prop} (q : R v w) : ∃ a b, [v, w] = [a, b] ∧ R a b := ⟨v, w, rfl, q⟩
/-- a list, a tuple is made in the midst of draws -/
theorem f_newL {s d : Addr} {B : Nat} {xs : List V} {R : Addr → Prop} (S : Src H s d B) (hz : xs.length ≤ 1000) (q : ∀ p, H p = none → p ≠ s ∧ p ≠ d → Src (upd H p (.lst xs)) s d B → Ex H (upd H p (.lst xs)) → (upd H p (.lst xs)) p = some (.lst xs) → R p) : xs.length ≤ sizeLine ∧ ∀ p, H p = none → R p :=
  ⟨sz1000 hz, fun p hp => q p hp (S.free hp) (S.ex_ (Ex.new hp)) (Ex.new hp) upd_same⟩
theorem f_newU {s d : Addr} {B : Nat} {xs : List V} {R : Addr → Prop} (S : Src H s d B) (hz : xs.length ≤ 1000) (q : ∀ p, H p = none → p ≠ s ∧ p ≠ d → Src (upd H p (.tup xs)) s d B → Ex H (upd H p (.tup xs)) → (upd H p (.tup xs)) p = some (.tup xs) → R p) : xs.length ≤ sizeLine ∧ ∀ p, H p = none → R p :=
  ⟨sz1000 hz, fun p hp => q p hp (S.free hp) (S.ex_ (Ex.new hp)) (Ex.new hp) upd_same⟩
theorem f_catL {s d : Addr} {B : Nat} {a b : Addr} {xs ys : List V} (S : Src H s d B) (ha : H a = some (.lst xs)) (hb : H b = some (.lst ys)) (hz : xs.length + ys.length ≤ 1000) (q : ∀ p H', H p = none → p ≠ s ∧ p ≠ d → Src H' s d B → Ex H H' → H' p = some (.lst (xs ++ ys)) → Q (.ref p) H') : rCat (.ref a) (.ref b) H Q :=
  ⟨a, b, xs, ys, rfl, rfl, ha, hb, sz1000 hz, fun p hp => q p _ hp (S.free hp) (S.ex_ (Ex.new hp)) (Ex.new hp) upd_same⟩
theorem Kp.new {s d p : Addr} {B : Nat} {H H' : Hp} (k : Kp s d H H') (S : Src H' s d B) (h : H' p = none) : H p = none := by
  have f := S.free h
  rcases e : H p with _ | o
  · rfl
  · rw [k.at f e] at h; cases h
/-- a new date, in the midst of draws -/
def spDate (ok : Int → Int → Int → Prop) : Sp := fun vs H Q _ => ∃ (s d : Addr) (B : Nat), vs = [.ref s] ∧ Src H s d (B + 12) ∧ ∀ (y m e : Int) (p : Addr) (H' : Hp), ok y m e → y.natAbs ≤ 10 ^ 31 → H p = none → p ≠ s ∧ p ≠ d → Src H' s d B → Kp s d H H' → H' p = some (.tup [.int y, .int m, .int e]) → Q (.ref p) H'
/-- a new list of at most `most` ints -/
def spJumps : Sp := fun vs H Q _ => ∃ (s d : Addr) (B : Nat) (most : Int), vs = [.ref s, .int most] ∧ 0 ≤ most ∧ most ≤ 60 ∧ Src H s d (B + 1000) ∧
  ∀ (ks : List Int) (p : Addr) (H' : Hp), (ks.length : Int) ≤ most → (∀ k, k ∈ ks → k.natAbs ≤ 10 ^ 28) → H p = none → p ≠ s ∧ p ≠ d → Src H' s d B → Kp s d H H' → H' p = some (.lst (ks.map V.int)) → Q (.ref p) H'
end
section
variable {K : PySem.W.Frag} {σ : L2.St} {H : Hp} {Q : VK} {te ta tb to : TE} {D : Ends} {tu : TS} {g : TG}
theorem f_forR1 {ta : TA} (h : ta σ H fun vs H1 => ∃ j : Int, vs = [.int j] ∧ -(2 ^ 62) ≤ j ∧ j < 2 ^ 62 ∧ ∃ W : Nat → Nat → L2.St → Hp → Prop, (∃ m, W 0 m σ H1) ∧ ∀ i m σ H, W i m σ H →
    ((Itr 0 j.toNat).stop i H ∧ D.nx σ H) ∨ ((Itr 0 j.toNat).go i H ∧ ∃ N : L2.St → Hp → Prop, (∀ σ' H', N σ' H' → ∃ m', m' < m ∧ W (i + 1) m' σ' H') ∧ ∀ x H', (Itr 0 j.toNat).yld i H x H' → g x σ H' fun σ2 H2 => tu { D with nx := N, ct := N, bk := D.nx } σ2 H2)) : tFor (iRng1 ta) g tu D σ H := h
theorem f_bm {T : String} {r : V → List V → Hp → VK → Prop} {t : TA} (h : to σ H fun x H1 => tyV K T x H1 ∧ t σ H1 fun xs H2 => r x xs H2 Q) : tBM K T r to t σ H Q := h
theorem f_tyL {p : Addr} {xs : List V} {R : Prop} (h : H p = some (.lst xs)) (q : R) : tyV K "list" (.ref p) H ∧ R := ⟨.inl ⟨rfl, _, sq_of h⟩, q⟩
theorem at_m2 {L : List Int} (h : 2 ≤ L.length) : ∃ z, z ∈ L ∧ atI (L.map V.int) (-2) = some (.int z) := by
  have e : ixN (L.map V.int).length (-2) = some (L.length - 2) := by
    unfold ixN
    rw [List.length_map, if_neg (by decide), if_pos (by omega)]
    exact congrArg some (by omega)
  have hj : L.length - 2 < L.length := by omega
  refine ⟨L[L.length - 2], List.getElem_mem hj, ?_⟩
  unfold atI
  rw [e]
  show (L.map V.int)[L.length - 2]? = _
  rw [List.getElem?_map, List.getElem?_eq_getElem hj]; rfl
theorem ixN_m1 {n : Nat} (h : 0 < n) : ixN n (-1) = some (n - 1) := by
  unfold ixN
  rw [if_neg (by decide), if_pos (by omega)]
  exact congrArg some (by omega)
end
/-! ### texts that fit -/
theorem fits_of {d : PyData} (h1 : d.hasDict = false) (h2 : d.showable = true) (h3 : d.depth ≤ 20) (h4 : d.leavesShort 110 = true) (h5 : d.weight ≤ 140000) : Fits d :=
  ⟨h1, h2, h3, Nat.le_trans (PyData.shown_le 110 (by decide) d h4) (Nat.le_trans (Nat.add_le_add_right (Nat.mul_le_mul_left 112 h5) 110) (by decide))⟩
theorem log_le {i : Int} (h : i.natAbs ≤ 10 ^ 100) : i.natAbs.log2 < 334 := PySem.Flt.log2_lt_of (by decide) (Nat.lt_of_le_of_lt h (by decide +kernel))
theorem shows_int {i : Int} (h : i.natAbs ≤ 10 ^ 100) : PyData.showable (.int i) = true ∧ PyData.leavesShort 110 (.int i) = true ∧ PyData.weight (.int i) ≤ 335 := by
  have hl := log_le h
  refine ⟨?_, ?_, ?_⟩
  · simp only [PyData.showable]; exact decide_eq_true (by omega)
  · simp only [PyData.leavesShort]
    refine decide_eq_true ?_
    have e := int_text_length_le10 (k := 101) (a := i) (by decide) (Nat.lt_of_le_of_lt h (by decide +kernel))
    show (Str.ofString (toString i)).length ≤ 110
    rw [ofString_length]; omega
  · simp only [PyData.weight]; split <;> omega
theorem shows_ints : ∀ (ks : List Int), (∀ k, k ∈ ks → k.natAbs ≤ 10 ^ 100) → PyData.showableAll (ks.map PyData.int) = true ∧ PyData.leavesShortAll 110 (ks.map PyData.int) = true ∧ PyData.weightAll (ks.map PyData.int) ≤ 336 * ks.length ∧ PyData.hasDictAll (ks.map PyData.int) = false ∧ PyData.depthAll (ks.map PyData.int) = 0
  | [], _ => by simp [PyData.showableAll, PyData.leavesShortAll, PyData.weightAll, PyData.hasDictAll, PyData.depthAll]
  | k :: ks, h => by
    obtain ⟨a, b, c⟩ := shows_int (h k (List.mem_cons_self ..))
    obtain ⟨a', b', c', d', e'⟩ := shows_ints ks fun x hx => h x (List.mem_cons_of_mem _ hx)
    refine ⟨?_, ?_, ?_, ?_, ?_⟩
    · simp only [List.map_cons, PyData.showableAll, a, a']; rfl
    · simp only [List.map_cons, PyData.leavesShortAll, b, b']; rfl
    · simp only [List.map_cons, PyData.weightAll, List.length_cons]; omega
    · simp only [List.map_cons, PyData.hasDictAll, PyData.hasDict, d']; rfl
    · simp only [List.map_cons, PyData.depthAll, PyData.depth, e']; rfl
/-- [date, list] -/
def pairD (y m e : Int) (ks : List Int) : PyData := .list [.tuple ([y, m, e].map PyData.int), .list (ks.map PyData.int)]
theorem fits_pair {y m e : Int} {ks : List Int} (h : ∀ k, k ∈ [y, m, e] → k.natAbs ≤ 10 ^ 100) (hk : ∀ k, k ∈ ks → k.natAbs ≤ 10 ^ 100) (hl : ks.length ≤ 200) : Fits (pairD y m e ks) := by
  obtain ⟨a, b, c, d, f⟩ := shows_ints [y, m, e] h
  obtain ⟨a', b', c', d', f'⟩ := shows_ints ks hk
  refine fits_of ?_ ?_ ?_ ?_ ?_
  · simp only [pairD, PyData.hasDict, PyData.hasDictAll, d, d']; rfl
  · simp only [pairD, PyData.showable, PyData.showableAll, a, a']; rfl
  · simp only [pairD, PyData.depth, PyData.depthAll, f, f']; decide
  · simp only [pairD, PyData.leavesShort, PyData.leavesShortAll, b, b']; rfl
  · simp only [pairD, PyData.weight, PyData.weightAll]
    have : [y, m, e].length = 3 := rfl
    omega
theorem ev_reprL {K : PySem.W.Frag} {σ : L2.St} {H : Hp} {te : TE} {xs : List V} {d : PyData} (h : EvL te σ H xs) (hd : ∀ p H1, Ex H H1 → H1 p = some (.lst xs) → Dp K H1 (.ref p) d) (hf : Fits d) : Ev (tCB (rRepr K) (tCons te tNil)) σ H (.str d.shown) := fun H1 e Q q =>
  h H1 e _ fun p H2 _ e2 h2 => ⟨p, d, rfl, hd p H2 (e.trans e2) h2, hf, fun H3 e3 => q H3 (e2.trans e3)⟩
theorem dp_date {K : PySem.W.Frag} {H : Hp} {p : Addr} {xs : List Int} (h : SqT K H p (xs.map V.int)) : Dp K H (.ref p) (.tuple (xs.map PyData.int)) := .tup h (dpa_ints xs)
theorem dp_pair {K : PySem.W.Frag} {H : Hp} {p a b : Addr} {y m e : Int} {ks : List Int} (h : H p = some (.lst [.ref a, .ref b])) (ha : SqT K H a [.int y, .int m, .int e]) (hb : SqL K H b (ks.map V.int)) : Dp K H (.ref p) (pairD y m e ks) :=
  .lst (sq_of h) (.cons (dp_date (xs := [y, m, e]) ha) (.cons (dp_ints hb) .nil))
theorem rv_eqS {H : Hp} {x : Str} : RV rEq (.str x) (.str x) H (.bl true) := fun H1 _ _ q => ⟨rfl, by rw [decide_eq_true rfl]; exact q H1 (Ex.refl H1)⟩
theorem rv_neS {H : Hp} {x : Str} : RV rNe (.str x) (.str x) H (.bl false) := fun H1 _ _ q => ⟨rfl, by rw [decide_eq_true rfl]; exact q H1 (Ex.refl H1)⟩
theorem okd_ints (n : Nat) (ks : List Int) : ∀ d, d ∈ ks.map PyData.int → okd n d := fun d hd => by
  obtain ⟨z, _, rfl⟩ := List.mem_map.mp hd
  cases n <;> trivial
theorem eqv_tints {n : Nat} (xs : List Int) : SeqAt.shaped (.tuple (xs.map PyData.int)) = true := PySem.W.ke_shaped_ints xs
/-- tuples of ints compared -/
theorem rv_neT {K : PySem.W.Frag} {H : Hp} {a b : Addr} {xs : List Int} (ha : SqT K H a (xs.map V.int)) (hb : SqT K H b (xs.map V.int)) : RV (rNeD K) (.ref a) (.ref b) H (.bl false) := fun H1 e Q q =>
  ⟨_, _, dp_date (ex_t e ha), dp_date (ex_t e hb), PySem.W.ke_shaped_ints xs, PySem.W.ke_shaped_ints xs, by
    show Q (.bl (!PyData.eqvAll (xs.map PyData.int) (xs.map PyData.int))) H1
    rw [eqv_ints, decide_eq_true rfl]; exact q H1 (Ex.refl H1)⟩
theorem rv_eqT {K : PySem.W.Frag} {H : Hp} {a b : Addr} {xs : List Int} (ha : SqT K H a (xs.map V.int)) (hb : SqT K H b (xs.map V.int)) : RV (rEqD K) (.ref a) (.ref b) H (.bl true) := fun H1 e Q q =>
  ⟨_, _, dp_date (ex_t e ha), dp_date (ex_t e hb), PySem.W.ke_shaped_ints xs, PySem.W.ke_shaped_ints xs, by
    show Q (.bl (PyData.eqvAll (xs.map PyData.int) (xs.map PyData.int))) H1
    rw [eqv_ints, decide_eq_true rfl]; exact q H1 (Ex.refl H1)⟩
/-! ### comprehensions that draw; slices -/
section
variable {K : PySem.W.Frag} {σ : L2.St} {H : Hp} {Q : VK} {te ta tb to : TE} {tt : TT} {g : TG}
/-- what a comprehension over range(n) asks -/
def LcR (n : Nat) (g : TG) (tt : TT) (te : TE) (vs : List Nat) (σ : L2.St) (H : Hp) (Q : VK) : Prop := ∀ D, H D = none → ∃ W : Nat → Nat → Hp → Prop, (∃ m, W 0 m (upd H D (.lst []))) ∧ ∀ i m H, W i m H →
  ((Itr 0 n).stop i H ∧ Q (.ref D) H) ∨ ((Itr 0 n).go i H ∧ ∃ Nx : Hp → Prop, (∀ H', Nx H' → ∃ m', m' < m ∧ W (i + 1) m' H') ∧ ∀ x H', (Itr 0 n).yld i H x H' → g x (wipe σ vs) H' fun σ2 H2 => wipe σ2 vs = wipe σ vs ∧ tt σ2 H2 fun b H3 =>
    if b = true then te σ2 H3 fun y H4 => ∃ acc, H4 D = some (.lst acc) ∧ acc.length < sizeLine ∧ Nx (upd H4 D (.lst (acc ++ [y]))) else Nx H3)
theorem f_lcR1 {ta : TA} {vs : List Nat} (h : ta σ H fun us H1 => ∃ n : Int, us = [.int n] ∧ -(2 ^ 62) ≤ n ∧ n < 2 ^ 62 ∧ LcR n.toNat g tt te vs σ H1 Q) : tLc (iRng1 ta) g tt te vs σ H Q := h
theorem f_yes {R : Bool → Hp → Prop} (h : R true H) : tYes σ H R := h
/-- n turns, each of at most c draws and an int with φ -/
theorem lc_draws {vs : List Nat} {j n : Nat} {s d : Addr} {B c : Nat} (φ : Int → Prop) (S : Src H s d (B + c * n)) (hn : n ≤ 1000) (hw : ∀ x, wipe ((wipe σ vs).set j (some x)) vs = wipe σ vs)
    (turn : ∀ (i : Nat) H' b, i < n → Kp s d H H' → Src H' s d (b + c) → ∀ R : VK, (∀ z H2, φ z → Kp s d H' H2 → Src H2 s d b → R (.int z) H2) → te ((wipe σ vs).set j (some (.int ((0 : Int) + (i : Int))))) H' R)
    (hd : ∀ (ks : List Int) (p : Addr) (H' : Hp), H p = none → p ≠ s ∧ p ≠ d → ks.length = n → (∀ k, k ∈ ks → φ k) → Src H' s d B → Kp s d H H' → H' p = some (.lst (ks.map V.int)) → Q (.ref p) H') :
    LcR n (gName j) tYes te vs σ H Q := fun D hD => by
  have fD := S.free hD
  refine lc_range (lo := 0) (n := n) (fun i H' => ∃ ks : List Int, ks.length = i ∧ (∀ k, k ∈ ks → φ k) ∧ H' D = some (.lst (ks.map V.int)) ∧ Src H' s d (B + c * (n - i)) ∧ Kp s d H H') ⟨[], rfl, (fun _ h => by simp at h), upd_same, S.ex_ (Ex.new hD), .of (Ex.new hD)⟩ (fun i H' hi ⟨ks, h1, h2, h3, h4, h5⟩ => ⟨hw _, ?_⟩) (fun H' ⟨ks, h1, h2, h3, h4, h5⟩ => hd ks D H' hD fD h1 h2 (h4.less (by omega)) h5 h3)
  have e : B + c * (n - i) = B + c * (n - (i + 1)) + c := by
    rw [show n - i = (n - (i + 1)) + 1 by omega, Nat.mul_add, Nat.mul_one]; omega
  rw [e] at h4
  refine f_yes ?_
  rw [if_pos rfl]
  refine turn i H' _ hi h5 h4 _ fun z H2 hz k2 S2 => ⟨_, k2.at fD h3, Nat.lt_of_le_of_lt (by rw [List.length_map]; omega : _ ≤ 1000) (by decide), ks ++ [z], by simp [h1], fun k hk => ?_, by rw [upd_same, List.map_append]; rfl, ?_, fun b o g1 g2 g => ?_⟩
  · rcases List.mem_append.mp hk with h | h
    · exact h2 k h
    · rw [List.mem_singleton.mp h]; exact hz
  · obtain ⟨ds, a, m, q, g1, g2, g3⟩ := S2.ex
    exact ⟨ds, a, m, q, by rw [upd_ne fD.1.symm]; exact g1, by rw [upd_ne fD.2.symm]; exact g2, g3⟩
  · rw [upd_ne (ne_of_none g hD)]
    exact k2 b o g1 g2 (h5 b o g1 g2 g)
theorem cutV_take {xs : List V} {n : Nat} : cutV xs none (some (n : Int)) = xs.take n := by
  unfold cutV
  rw [HT.sIx_none, HT.sIx_nat, List.drop_zero, Nat.sub_zero]
  rcases Nat.le_total n xs.length with h | h
  · rw [Nat.min_eq_left h]
  · rw [Nat.min_eq_right h, List.take_of_length_le (Nat.le_refl _), List.take_of_length_le h]
theorem cutV_drop {xs : List V} {n : Nat} : cutV xs (some (n : Int)) none = xs.drop n := by
  unfold cutV
  rw [HT.sIx_none, HT.sIx_nat]
  rcases Nat.le_total n xs.length with h | h
  · rw [Nat.min_eq_left h, List.take_of_length_le (by rw [List.length_drop]; exact Nat.le_refl _)]
  · rw [Nat.min_eq_right h, Nat.sub_self, List.take_zero, List.drop_eq_nil_of_le h]
theorem el_take {a : Addr} {ks : List Int} {n : Int} (h : Ev te σ H (.ref a)) (hn : Ev ta σ H (.int n)) (h0 : 0 ≤ n) (hs : SqL K H a (ks.map V.int)) : EvL (tSl (rSlL K) te tNoPart (tPart ta)) σ H ((ks.take n.toNat).map V.int) := by
  obtain ⟨m, rfl⟩ : ∃ m : Nat, n = (m : Int) := ⟨n.toNat, by omega⟩
  have z := el_sl h eo_none (eo_some hn) hs
  rw [cutV_take] at z
  rw [List.map_take]; exact z
theorem el_drop {a : Addr} {ks : List Int} {n : Int} (h : Ev te σ H (.ref a)) (hn : Ev ta σ H (.int n)) (h0 : 0 ≤ n) (hs : SqL K H a (ks.map V.int)) : EvL (tSl (rSlL K) te (tPart ta) tNoPart) σ H ((ks.drop n.toNat).map V.int) := by
  obtain ⟨m, rfl⟩ : ∃ m : Nat, n = (m : Int) := ⟨n.toNat, by omega⟩
  have z := el_sl h (eo_some hn) eo_none hs
  rw [cutV_drop] at z
  rw [List.map_drop]; exact z
theorem el_cat {xs ys : List V} (h : EvL ta σ H xs) (hb : EvL tb σ H ys) (hz : xs.length + ys.length ≤ 1000) : EvL (tOp rCat ta tb) σ H (xs ++ ys) := fun H1 e Q q =>
  h H1 e _ fun p H2 _ e2 h2 => hb H2 (e.trans e2) _ fun r H3 _ e3 h3 => ⟨p, r, xs, ys, rfl, rfl, e3 _ _ h2, h3, sz1000 hz, fun l hl => q l _ (fresh_back (e2.trans e3) hl) ((e2.trans e3).trans (Ex.new hl)) upd_same⟩
end
section
variable {K : PySem.W.Frag} {σ : L2.St} {H : Hp} {Q : VK} {te ta tb to : TE}
theorem f_andV (h : ta σ H fun x H1 => ∃ c, x = .bl c ∧ if c = true then tb σ H1 Q else Q (.bl false) H1) : tAndV ta tb σ H Q := h
theorem f_orV (h : ta σ H fun x H1 => ∃ c, x = .bl c ∧ if c = true then Q (.bl true) H1 else tb σ H1 Q) : tOrV ta tb σ H Q := h
theorem f_rv {r : R2} {x y z : V} (h : RV r x y H z) (k : ∀ H1, Ex H H1 → Q z H1) : r x y H Q := h H (Ex.refl H) Q k
theorem f_spU {D : Hp → List V → List V → Prop} {vs : List V} (xs : List V) {E : XK} (h : D H vs xs) (q : ∀ p H', H p = none → Ex H H' → H' p = some (.tup xs) → Q (.ref p) H') : spU D (vs ++ []) H Q E := ⟨xs, by rw [List.append_nil]; exact h, q⟩
end
section
variable {K : PySem.W.Frag} {σ : L2.St} {H : Hp} {Q : VK} {te ta tb to : TE}
theorem ev_opU1 {r : R2} {xs : List V} {y z : V} (ha : EvU ta σ H xs) (hb : ∀ H1, Ex H H1 → Ev tb σ H1 y) (hr : ∀ p H1, H1 p = some (.tup xs) → Ex H H1 → RV r (.ref p) y H1 z) : Ev (tOp r ta tb) σ H z := fun H1 e Q q =>
  ha H1 e _ fun p H2 _ e2 hp => hb H2 (e.trans e2) H2 (Ex.refl H2) _ fun H3 e3 => hr p H3 (e3 p _ hp) ((e.trans e2).trans e3) H3 (Ex.refl H3) Q fun H4 e4 => q H4 ((e2.trans e3).trans e4)
theorem eu_call2L {D : Hp → List V → List V → Prop} {v : V} {ys xs : List V} {E : XK} (ha : Ev ta σ H v) (hb : EvL tb σ H ys) (hs : ∀ p H1, Ex H H1 → H1 p = some (.lst ys) → D H1 [v, .ref p] xs) : EvU (tCall (spU D) [] E (tCons ta (tCons tb tNil))) σ H xs := fun H1 e Q q =>
  ha H1 e _ fun H2 e2 => hb H2 (e.trans e2) _ fun p H3 _ e3 h3 => ⟨xs, hs p H3 ((e.trans e2).trans e3) h3, fun p' H4 hp e4 h4 => q p' H4 (fresh_back (e2.trans e3) hp) ((e2.trans e3).trans e4) h4⟩
theorem eu_call2UL {D : Hp → List V → List V → Prop} {us ys xs : List V} {E : XK} (ha : EvU ta σ H us) (hb : EvL tb σ H ys) (hs : ∀ p r H1, Ex H H1 → H1 p = some (.tup us) → H1 r = some (.lst ys) → D H1 [.ref p, .ref r] xs) : EvU (tCall (spU D) [] E (tCons ta (tCons tb tNil))) σ H xs := fun H1 e Q q =>
  ha H1 e _ fun p H2 _ e2 h2 => hb H2 (e.trans e2) _ fun r H3 _ e3 h3 => ⟨xs, hs p r H3 ((e.trans e2).trans e3) (e3 _ _ h2) h3, fun p' H4 hp e4 h4 => q p' H4 (fresh_back (e2.trans e3) hp) ((e2.trans e3).trans e4) h4⟩
theorem f_par3 {D : Ends} {i j l : Nat} {ta : TA} (h : ta σ H fun vs H1 => ∃ u v w, vs = [u, v, w] ∧ D.nx (((σ.set i (some u)).set j (some v)).set l (some w)) H1) : tPar3 i j l ta D σ H := h
theorem f_par33 {u v w : V} {R : V → V → V → Prop} (q : R u v w) : ∃ a b c, [u, v, w] = [a, b, c] ∧ R a b c := ⟨u, v, w, rfl, q⟩
end
/-! ### lists of tuples of ints -/
/-- all tuples are kept -/
def KT (H H' : Hp) : Prop := ∀ q xs, H q = some (.tup xs) → H' q = some (.tup xs)
theorem KT.ex {H H' : Hp} (e : Ex H H') : KT H H' := fun q xs h => e q _ h
theorem KT.trans {H H1 H2 : Hp} (a : KT H H1) (b : KT H1 H2) : KT H H2 := fun q xs h => b q xs (a q xs h)
theorem KT.kp {H H' : Hp} {s d : Addr} {B : Nat} (S : Src H s d B) (k : Kp s d H H') : KT H H' := fun q xs h => by
  obtain ⟨ds, a, m, c, g1, g2, _⟩ := S.ex
  exact k q _ (ne_of h g1 (by intro z; cases z)) (ne_of h g2 (by intro z; cases z)) h
theorem KT.upd {H : Hp} {l : Addr} {xs ys : List V} (h : H l = some (.lst xs)) : KT H (upd H l (.lst ys)) := fun q zs g => by
  rw [upd_ne (ne_of g h (by intro z; cases z))]; exact g
def TupsAt (H : Hp) : List V → List (List Int) → Prop := Paired fun v xs => ∃ q, v = .ref q ∧ H q = some (.tup (xs.map V.int))
theorem TupsAt.kt {H H' : Hp} (k : KT H H') : ∀ {vs : List V} {xs : List (List Int)}, TupsAt H vs xs → TupsAt H' vs xs
  | _, _, .nil => .nil
  | _, _, .cons ⟨q, e, h⟩ t => .cons ⟨q, e, k q _ h⟩ (TupsAt.kt k t)
theorem TupsAt.snoc {H : Hp} {q : Addr} {ys : List Int} (h : H q = some (.tup (ys.map V.int))) : ∀ {vs : List V} {xs : List (List Int)}, TupsAt H vs xs → TupsAt H (vs ++ [.ref q]) (xs ++ [ys])
  | _, _, .nil => .cons ⟨q, rfl, h⟩ .nil
  | _, _, .cons a t => .cons a (TupsAt.snoc h t)
theorem TupsAt.dpa {K : PySem.W.Frag} {H : Hp} : ∀ {vs : List V} {xs : List (List Int)}, TupsAt H vs xs → DpAll K H vs (xs.map fun x => PyData.tuple (x.map PyData.int))
  | _, _, .nil => .nil
  | _, _, .cons ⟨q, e, h⟩ t => by subst e; exact .cons (dp_date (st_of h)) (TupsAt.dpa t)
theorem TupsAt.len {H : Hp} {vs : List V} {xs : List (List Int)} (h : TupsAt H vs xs) : vs.length = xs.length := Paired.length h
theorem Src.upd {H : Hp} {s d l : Addr} {B : Nat} {o : HO} (S : Src H s d B) (f : l ≠ s ∧ l ≠ d) : Src (upd H l o) s d B := by
  obtain ⟨ds, a, m, c, g1, g2, g3⟩ := S.ex
  exact ⟨ds, a, m, c, by rw [upd_ne f.1.symm]; exact g1, by rw [upd_ne f.2.symm]; exact g2, g3⟩
theorem okd_tups {n : Nat} {xs : List (List Int)} (hl : xs.length ≤ 10000) (h : ∀ x, x ∈ xs → x.length ≤ 10000) : okd (n + 2) (.list (xs.map fun x => PyData.tuple (x.map PyData.int))) := by
  refine ⟨by rw [List.length_map]; exact hl, fun d hd => ?_⟩
  obtain ⟨x, hx, rfl⟩ := List.mem_map.mp hd
  exact ⟨by rw [List.length_map]; exact h x hx, okd_ints _ _⟩
end Mc
namespace Mc
open PySem L2 Evl
/-! ### set(xs) of a list of ints -/
section
variable {P : Program} {w : World} {A : Around} {E : Value → Shared → Prop} {s : Shared}
/-- the new set, empty -/
def freshSet (w : World) : Obj := { cls := .type "set", dict := none, data := .set #[] 0 (.fresh 0 0 (!w.params.followText "set-order")) }
/-- the list's iterator at its start -/
def freshIt (l : Addr) : Obj := { cls := .type "list_iterator", data := .fields #[.ref l, .int 0 0] }
/-- the fill of the new set from the list -/
theorem fill_set {l : Addr} {items : Array Value} {ns : List Int} {R : Result → Shared → Prop} (hh : A.in1.handled = none) (hl : s.heap.IsList l items) (hit : PyProof.Rows.IntsAre items.toList ns) (hb : ns.length + 1 < scanBound)
    (h : ∀ (h' : Heap) (tk c : Nat), SetR w h' s.heap.objs.size (fun j => decide (j ∈ ns)) c → c ≤ ns.length → (∀ b o, s.heap.get? b = some o → h'.get? b = some o) → R (.ok (.ret .none)) { s with heap := h', toks := tk }) (t0 : Nat) :
    codeAny (model P w) A (.builtin "set.update.loop" ⟨[.ref s.heap.objs.size, .ref (s.heap.push (freshSet w)).objs.size], []⟩) R { s with heap := (s.heap.push (freshSet w)).push (freshIt l), toks := t0 } := by
  have sz : (s.heap.push (freshSet w)).objs.size = s.heap.objs.size + 1 := Heap.size_push ..
  have lt : l < s.heap.objs.size := by obtain ⟨o, ho, _⟩ := hl; exact Heap.lt_size ho
  have n1 : items.size = ns.length := by have q := hit.length; rwa [Array.length_toList] at q
  have hl1 : (s.heap.push (freshSet w)).IsList l items := hl.push _
  have val : ∀ (i : Nat) (v : Value), items[i]? = some v → ∃ k t, ns[i]? = some k ∧ v = .int k t := fun i v hv => by
    have hi : i < ns.length := n1 ▸ (Array.getElem?_eq_some_iff.mp hv).1
    obtain ⟨t, e⟩ := PyProof.Rows.IntsAre.int_at hit i v (by rw [Array.getElem?_toList, hv])
    exact ⟨ns[i], t, List.getElem?_eq_getElem hi, by rw [e, List.getD_eq_getElem?_getD, List.getElem?_eq_getElem hi]; rfl⟩
  have far : s.heap.objs.size ∉ [(s.heap.push (freshSet w)).objs.size, l] := by
    rw [sz]; simp only [List.mem_cons, List.mem_singleton, List.not_mem_nil, or_false, not_or]; exact ⟨Nat.ne_of_lt (Nat.lt_succ_self _), Nat.ne_of_gt lt⟩
  have old : ((s.heap.push (freshSet w)).push (freshIt l)).get? s.heap.objs.size = some (freshSet w) := Heap.get?_push_of_some _ (Heap.get?_push_size _ rfl)
  refine set_update_ints ((Walks.list hh _ l (by rw [sz]; exact Nat.ne_of_lt (Nat.lt_succ_of_lt lt)) items).toS) s.heap.objs.size far ns n1 hb val items.size 0 _ (by omega) (Nat.zero_le _) ⟨⟨_, Heap.get?_push_size _ rfl, rfl, rfl⟩, hl1.push _⟩ ⟨0, Nat.le_refl 0, setR_new_at old⟩ fun s' c hm hc hS => ?_
  obtain ⟨h', g', d', tk, os'⟩ := s'
  cases hm.gens
  cases hm.drawn
  cases hm.os
  refine h h' tk c hS (n1 ▸ hc) fun b o e => hm.heap b o ?_ (Heap.get?_push_of_some _ (Heap.get?_push_of_some _ e))
  have lb := Heap.lt_size e
  rw [sz]; simp only [List.mem_cons, List.mem_singleton, List.not_mem_nil, or_false, not_or]; exact ⟨Nat.ne_of_lt lb, Nat.ne_of_lt (Nat.lt_succ_of_lt lb)⟩
/-- the state in which the set was made -/
def withSet (w : World) (s : Shared) : Shared := { s with heap := s.heap.push (freshSet w) }
/-- what the fill leaves -/
def Filled (w : World) (s : Shared) (ns : List Int) (s2 : Shared) : Prop := ∃ (h' : Heap) (tk c : Nat), s2 = { s with heap := h', toks := tk } ∧ SetR w h' s.heap.objs.size (fun j => decide (j ∈ ns)) c ∧ c ≤ ns.length ∧ ∀ b o, s.heap.get? b = some o → h'.get? b = some o
set_option maxHeartbeats 1000000 in
theorem set_init_list {l : Addr} {items : Array Value} (ns : List Int) (hh : A.handled = none) (hl : s.heap.IsList l items) (hit : PyProof.Rows.IntsAre items.toList ns) (hb : ns.length + 1 < scanBound) :
    codeAny (model P w) A (.call (.builtin "set.__init__") ⟨[.ref s.heap.objs.size, .ref l], []⟩) (wants (fun r s2 => r = .none ∧ Filled w s ns s2) E) (withSet w s) := by
  have made : (withSet w s).heap.get? s.heap.objs.size = some (freshSet w) := Heap.get?_push_size _ rfl
  have tyS : (withSet w s).TypeIs (.ref s.heap.objs.size) "set" := ⟨_, made, rfl⟩
  have hl0 := hl
  obtain ⟨⟨cl, dd, da, sl⟩, g1, g2, nn, g3⟩ := hl
  simp only at g2 g3
  subst g2; subst g3
  have g4 : (withSet w s).heap.get? l = some { cls := .type "list", dict := dd, data := .seq items nn, slots := sl } := Heap.get?_push_of_some _ g1
  have u1 := PySem.F.sub_list_set
  have u2 := PySem.F.sub_list_frozenset
  have u3 : (Value.type "list" == Value.type "dict") = false := by decide
  refine codeAny_call_builtin PySem.F.called_set.init.plain PySem.F.entry_set_init (check_set_init_1 tyS ?_)
  unfold Builtin.«set.__init__» noKeywords Builtin.Frozenset.updateFrom
  generalize hg : pyIter = walker
  wp_walk
  subst hg
  refine wpAny_pyIter_list (hl0.push _) ?_
  refine wpAny_bind (wpAny_runValue ?_)
  refine fill_set (by simp [hh]) hl0 hit hb (fun h' tk c a b d => ?_) _
  show wpAny _ _ _ _ _ _
  refine wpAny_pure ?_
  show wpAny _ _ (ret Value.none) _ _ _
  exact wpAny_pure ⟨rfl, h', tk, c, rfl, a, b, d⟩
set_option maxHeartbeats 1000000 in
theorem set_of_list {l : Addr} {items : Array Value} (ns : List Int) {Q : Value → Shared → Prop} (hh : A.handled = none) (hl : s.heap.IsList l items) (hit : PyProof.Rows.IntsAre items.toList ns) (hb : ns.length + 1 < scanBound)
    (done : ∀ (h' : Heap) (tk c : Nat), SetR w h' s.heap.objs.size (fun j => decide (j ∈ ns)) c → c ≤ ns.length → (∀ b o, s.heap.get? b = some o → h'.get? b = some o) → Q (.ref s.heap.objs.size) { s with heap := h', toks := tk }) :
    wpAny (model P w) A (call (.type "set") [.ref l]) Q E s := by
  have m1 := PySem.F.called_set.made
  have m2 := PySem.F.called_set.sub
  have m3 := PySem.F.called_set.notType
  have m4 := PySem.F.called_set.canCreate
  have m5 := PySem.F.typeCall_set_1 (.ref l)
  have m6 := PySem.F.called_set.init.lookup
  have m7 := PySem.F.called_set.init.bind (.ref s.heap.objs.size)
  obtain ⟨c0, tl0, m8⟩ := PySem.F.called_set.mro
  refine wpAny_call (codeAny_of_tree ?_)
  show wpAny _ _ (callAny (Value.type "set") _) _ _ _
  refine wpAny_pure ⟨Code.quiet_builtin _ (by decide +kernel), codeAny_builtin PySem.F.entry_type_call ?_⟩
  rw [Around.under_plain (weight_type_call_type "set" [.ref l] []) rfl]
  repeat (any_goals (first | assumption | wp_step))
  have made : (withSet w s).heap.get? s.heap.objs.size = some (freshSet w) := Heap.get?_push_size _ rfl
  refine codeAny_mono (code_set_led1 (.ref l) (E := E) (Q₁ := fun obj s₁ => obj = .ref s.heap.objs.size ∧ s₁ = withSet w s) ⟨rfl, rfl⟩) fun r s₁ hr => ?_
  match r, hr with
  | .error e, hr => exact hr
  | .ok (.ret obj), hr =>
    obtain ⟨rfl, rfl⟩ := hr
    have tyS : (withSet w s).TypeIs (.ref s.heap.objs.size) "set" := ⟨_, made, rfl⟩
    repeat (any_goals (first | assumption | wp_step))
    refine codeAny_mono (set_init_list (E := E) ns (by simp [hh]) hl hit hb) fun r2 s2 h2 => ?_
    match r2, h2 with
    | .error e, h2 => exact h2
    | .ok (.ret v), h2 =>
      obtain ⟨rfl, h', tk, c, rfl, a, b, d⟩ := h2
      repeat (any_goals (first | assumption | wp_step))
      exact done h' tk c a b d
end
/-! ### sorted, of a set of any size -/
section
open PySem.Spec PyProof.Rows
variable {P : Program} {w : World} {A : Around} {E : Value → Shared → Prop} {s : Shared} {a : Addr}
theorem sortedA {S : Int → Bool} {n : Nat} {Q : Value → Shared → Prop} (R : SetR w s.heap a S n) (hh : A.handled = none) (h64 : n ≤ 100000)
    (q : ∀ s' p (out : Array Value) (c : Nat) (ns : List Int), (∀ b o, s.heap.get? b = some o → s'.heap.get? b = some o) → s'.gens = s.gens → s'.os = s.os → s.heap.objs.size ≤ p → s'.heap.get? p = some (seqObj "list" out c) → IntsAre out.toList ns → ns.Pairwise (· < ·) → (∀ k, k ∈ ns ↔ S k = true) → ns.length = n → Q (.ref p) s') : wpAny (model P w) A (call (.builtin "sorted") [.ref a]) Q E s := by
  obtain ⟨o, es, ep, t, r1, r2, r3, r4, r5, r6, r7, r8, r9, r10, r11⟩ := R
  have hL : n ≤ sizeLine := by rw [sizeLine_eq]; omega
  refine Calls.call_function_entry kind_sorted plain_sorted entry_sorted (args_sorted1 _) ?_
  show wpAny _ _ (Builtin.«sorted» _) _ _ _
  unfold Builtin.«sorted»
  refine wpAny_bind (m := checkCount "sorted" 1 1 _) (wpAny_pure (wpAny_bind (collect_set (A := A.in1) hh ⟨o, r1, r2.1, r3⟩ r8 r7 r10 r11 fun s1 vs k1 hz g1 o1 pm => ?_)))
  have el : vs.length = n := by rw [pm.length_eq, List.length_map, Array.length_toList, ← r9]
  have iv : IntsAre vs (vs.map Builtin.Re.reRawOf) := ints_of vs fun v hv => by
    obtain ⟨e, he, rfl⟩ := List.mem_map.mp (pm.mem_iff.mp hv)
    obtain ⟨k, tk, z, _⟩ := r4 e he
    exact ⟨k, tk, z⟩
  have pk : (vs.map Builtin.Re.reRawOf).Perm (es.toList.map keyOf) := List.map_map (f := Prod.snd) (g := Builtin.Re.reRawOf) ▸ pm.map Builtin.Re.reRawOf
  have at_ : (s1.heap.push (seqObj "list" vs.toArray 0)).get? s1.heap.objs.size = some (seqObj "list" vs.toArray 0) := Heap.get?_push_size _ rfl
  refine wpAny_bind (wpAny_newList (wpAny_bind (wpAny_holding (wpAny_call_entry slot_list_sort ⟨_, at_, rfl⟩ entry_list_sort (list_sort_treeAny at_ iv (el ▸ hL) fun out zs a1 a2 a3 => ⟨_, rfl, ?_⟩) (args_list_sort _)))) (el ▸ hL))
  obtain ⟨c, hc⟩ := sortedHeap_at (vs := vs) (out := out) at_
  have pz : zs.Perm (es.toList.map keyOf) := a2.trans pk
  refine wpAny_pure ⟨_, rfl, q _ s1.heap.objs.size out c zs (fun b u g => ?_) g1 o1 hz hc a1 (lt_of_le_nodup zs a3 (pz.nodup_iff.mpr r5)) (fun k => (pz.mem_iff).trans (r6 k).symm) (by rw [pz.length_eq, List.length_map, Array.length_toList, ← r9])⟩
  have g' := k1 b u g
  have bl := Heap.lt_size g'
  exact (sortedHeap_old (Nat.ne_of_lt bl) (by rw [size_push']; exact Nat.lt_succ_of_lt bl)).trans (Heap.get?_push_of_some _ g')
end
section
variable {X : Cx}
/-- sorted(found) -/
def rSortedA (w : World) : List V → Hp → VK → Prop := fun vs H Q => ∃ (a : Addr) (S : Int → Bool) (n : Nat), vs = [V.ref a] ∧ H a = some (SetO w a S n) ∧ n ≤ 4000 ∧ ∀ (ns : List Int) (p : Addr), ns.Pairwise (· < ·) → (∀ k : Int, k ∈ ns ↔ S k = true) → ns.length = n → H p = none → Q (.ref p) (upd H p (.lst (ns.map V.int)))
theorem cr_sortedA (hc : X.calm = true) : CallR X (.builtin "sorted") (rSortedA X.w) := by
  intro pins s σ H vs us Q I r h
  obtain ⟨a, S, n, rfl, ha, hn, q⟩ := h
  have R := setO_get I ha
  rw [Vals.ref1 r]
  refine sortedA R (I.ok.hd hc) (by omega) fun s' p out c ns k g o hp hg hi hs hm hl => ?_
  have hz : (ns.map V.int).length ≤ sizeLine := by rw [List.length_map, sizeLine_eq, hl]; omega
  have np : H p = none := I.hok.fresh hp
  obtain ⟨h1, h2, h3, h4⟩ : s'.os = s.os ∧ True ∧ True ∧ True := ⟨o, trivial, trivial, trivial⟩
  have J : Inv X pins σ (upd H p (.lst (ns.map V.int))) { s with heap := s'.heap, gens := s'.gens, drawn := s'.drawn, toks := s'.toks } := I.call (ch := []) (Un.laid k hp np) (I.hok.laid k hp ⟨hz, out.toList, c, vals_of_ints hi, hg⟩) (by rw [g]; exact I.bare) fun _ z => nomatch z
  have es : s' = { s with heap := s'.heap, gens := s'.gens, drawn := s'.drawn, toks := s'.toks } := by
    cases s'; cases s; cases o; rfl
  rw [es]
  exact ⟨.ref p, _, J, rfl, q ns p hs hm hl np⟩
/-- sorted(xs) of a list of ints -/
def rSortedLA (K : PySem.W.Frag) : List V → Hp → VK → Prop := fun vs H Q => ∃ (a : Addr) (xs : List Int), vs = [V.ref a] ∧ SqL K H a (xs.map V.int) ∧ xs.length ≤ 100000 ∧ ∀ (ns : List Int) (p : Addr), ns.Perm xs → ns.Pairwise (· ≤ ·) → H p = none → Q (.ref p) (upd H p (.lst (ns.map V.int)))
theorem cr_sortedLA : CallR X (.builtin "sorted") (rSortedLA X.K) := by
  intro pins s σ H vs us Q I r h
  obtain ⟨a, xs, rfl, hs, hz, q⟩ := h
  obtain ⟨its, rv, pl, _⟩ := I.list hs
  have iv := rv.ints
  have hL : xs.length ≤ sizeLine := by rw [sizeLine_eq]; omega
  rw [Vals.ref1 r]
  refine PyProof.Rows.sorted_intsAny pl.isList iv (by rw [iv.length]; exact hL) fun out ns h1 h2 h3 => ?_
  obtain ⟨ep, he⟩ := PyProof.Rows.sortedAll_at s.heap its out
  have nz : (ns.map V.int).length ≤ sizeLine := by rw [List.length_map, h2.length_eq]; exact hL
  exact ⟨.ref _, upd H (s.heap.objs.size + 1) (.lst (ns.map V.int)), I.laid (t' := s.toks) (fun _ _ => PyProof.Rows.sortedAll_old) (Nat.le_succ _) ⟨nz, out.toList, ep, vals_of_ints h1, he⟩, rfl, q ns _ h2 h3 (I.hok.fresh (Nat.le_succ _))⟩
end
end Mc
namespace Mc
open PySem L2 Evl
section
variable {X : Cx}
def rSetL (K : PySem.W.Frag) (w : World) : List V → Hp → VK → Prop := fun xs H Q => ∃ (l : Addr) (ns : List Int), xs = [.ref l] ∧ SqL K H l (ns.map V.int) ∧ ns.length ≤ 4000 ∧ ∀ p c, H p = none → c ≤ ns.length → Q (.ref p) (upd H p (SetO w p (fun j => decide (j ∈ ns)) c))
theorem cr_setL (hc : X.calm = true) : CallR X (.type "set") (rSetL X.K X.w) := by
  intro pins s σ H xs us Q I r h
  obtain ⟨l, ns, rfl, hS, hl, q⟩ := h
  obtain ⟨its, rv, pl, hz⟩ := I.list hS
  rw [Vals.ref1 r]
  refine set_of_list ns (I.ok.hd hc) pl.isList (by simpa using rv.ints) (by unfold scanBound; omega) fun h' tk c R hcn k => ?_
  exact ⟨.ref _, upd H s.heap.objs.size (SetO X.w s.heap.objs.size (fun j => decide (j ∈ ns)) c), I.laid (t' := tk) k (Nat.le_refl _) (setO_new R), rfl, q _ _ (I.hok.fresh (Nat.le_refl _)) hcn⟩
end
/-! ### the members of a list, ascending -/
def insI (k : Int) : List Int → List Int
  | [] => [k]
  | x :: r => if k < x then k :: x :: r else if k = x then x :: r else x :: insI k r
def srt (ns : List Int) : List Int := ns.foldr insI []
theorem mem_insI {k j : Int} : ∀ {ns : List Int}, j ∈ insI k ns ↔ j = k ∨ j ∈ ns
  | [] => by simp [insI]
  | x :: r => by
    have ih := mem_insI (k := k) (j := j) (ns := r)
    unfold insI
    split
    · simp
    · split
      · next h => subst h; simp
      · rw [List.mem_cons, ih, List.mem_cons]
        constructor
        · rintro (h | h | h)
          · exact .inr (.inl h)
          · exact .inl h
          · exact .inr (.inr h)
        · rintro (h | h | h)
          · exact .inr (.inl h)
          · exact .inl h
          · exact .inr (.inr h)
theorem pw_insI {k : Int} : ∀ {ns : List Int}, ns.Pairwise (· < ·) → (insI k ns).Pairwise (· < ·)
  | [], _ => by simp [insI]
  | x :: r, h => by
    have h1 := List.pairwise_cons.mp h
    unfold insI
    split
    · next hk => exact List.pairwise_cons.mpr ⟨fun y hy => by
        rcases List.mem_cons.mp hy with rfl | hy
        · exact hk
        · exact Int.lt_trans hk (h1.1 y hy), h⟩
    · split
      · exact h
      · next hk he => exact List.pairwise_cons.mpr ⟨fun y hy => by
          rcases mem_insI.mp hy with rfl | hy
          · omega
          · exact h1.1 y hy, pw_insI h1.2⟩
theorem mem_srt {j : Int} : ∀ {ns : List Int}, j ∈ srt ns ↔ j ∈ ns
  | [] => by simp [srt]
  | x :: r => by
    have ih := mem_srt (j := j) (ns := r)
    show j ∈ insI x (srt r) ↔ _
    rw [mem_insI, ih, List.mem_cons]
theorem pw_srt : ∀ (ns : List Int), (srt ns).Pairwise (· < ·)
  | [] => List.Pairwise.nil
  | x :: r => pw_insI (pw_srt r)
theorem asc_uniq : ∀ {as bs : List Int}, as.Pairwise (· < ·) → bs.Pairwise (· < ·) → (∀ k, k ∈ as ↔ k ∈ bs) → as = bs
  | [], [], _, _, _ => rfl
  | [], b :: bs, _, _, h => absurd ((h b).mpr (List.mem_cons_self ..)) (by simp)
  | a :: as, [], _, _, h => absurd ((h a).mp (List.mem_cons_self ..)) (by simp)
  | a :: as, b :: bs, ha, hb, h => by
    have a1 := List.pairwise_cons.mp ha
    have b1 := List.pairwise_cons.mp hb
    have e : a = b := by
      rcases List.mem_cons.mp ((h a).mp (List.mem_cons_self ..)) with e | e
      · exact e
      · rcases List.mem_cons.mp ((h b).mpr (List.mem_cons_self ..)) with e' | e'
        · exact e'.symm
        · have := b1.1 a e; have := a1.1 b e'; omega
    subst e
    rw [asc_uniq a1.2 b1.2 fun k => ⟨fun hk => ?_, fun hk => ?_⟩]
    · rcases List.mem_cons.mp ((h k).mp (List.mem_cons_of_mem _ hk)) with e | e
      · subst e; exact absurd (a1.1 k hk) (Int.lt_irrefl _)
      · exact e
    · rcases List.mem_cons.mp ((h k).mpr (List.mem_cons_of_mem _ hk)) with e | e
      · subst e; exact absurd (b1.1 k hk) (Int.lt_irrefl _)
      · exact e
theorem srt_eq {as bs : List Int} (h : ∀ k, k ∈ as ↔ k ∈ bs) : srt as = srt bs := asc_uniq (pw_srt as) (pw_srt bs) fun k => by rw [mem_srt, mem_srt]; exact h k
section
variable {K : PySem.W.Frag} {w : World} {σ : L2.St} {H : Hp} {te : TE}
theorem sorted_step {l : Addr} {ns : List Int} {H H1 H2 : Hp} {Q : VK} (e : Ex H H1) (e2 : Ex H1 H2) (hs : SqL K H2 l (ns.map V.int)) (hn : ns.length ≤ 4000) (q : ∀ p H3, H1 p = none → Ex H1 H3 → H3 p = some (.lst ((srt ns).map V.int)) → Q (.ref p) H3) :
    tCons (fun _ H Q => rSetL K w [.ref l] H Q) tNil σ H2 fun vs H3 => rSortedA w vs H3 Q :=
  ⟨l, ns, rfl, hs, by omega, fun p c hp hc => ⟨p, _, c, rfl, upd_same, by omega, fun ks p2 k1 k2 k3 hp2 => by
    have e3 : ks = srt ns := asc_uniq k1 (pw_srt ns) fun k => by rw [k2 k, mem_srt]; simp
    subst e3
    exact q p2 _ (fresh_back (e2.trans (Ex.new hp)) hp2) ((e2.trans (Ex.new hp)).trans (Ex.new hp2)) upd_same⟩⟩
theorem el_sorted {a : Addr} {ns : List Int} (h : Ev te σ H (.ref a)) (hs : SqL K H a (ns.map V.int)) (hn : ns.length ≤ 4000) : EvL (tCB (rSortedA w) (tCons (tCB (rSetL K w) (tCons te tNil)) tNil)) σ H ((srt ns).map V.int) := fun H1 e Q q =>
  h H1 e _ fun H2 e2 => sorted_step (σ := σ) e e2 (ex_l (e.trans e2) hs) hn q
theorem el_sortedL {ns : List Int} (h : EvL te σ H (ns.map V.int)) (hn : ns.length ≤ 4000) : EvL (tCB (rSortedA w) (tCons (tCB (rSetL K w) (tCons te tNil)) tNil)) σ H ((srt ns).map V.int) := fun H1 e Q q =>
  h H1 e _ fun p H2 _ e2 h2 => sorted_step (σ := σ) e e2 (sq_of h2) hn q
/-- a def that gives a new list, as the heap says -/
def spHL (D : Hp → List V → List V → Prop) : Sp := fun vs H Q _ => ∃ xs, D H vs xs ∧ ∀ p H', H p = none → Ex H H' → H' p = some (.lst xs) → Q (.ref p) H'
theorem el_callH {D : Hp → List V → List V → Prop} {vs xs : List V} {E : XK} {ta : TA} (h : EvA ta σ H vs) (hs : ∀ H1, Ex H H1 → D H1 vs xs) : EvL (tCall (spHL D) [] E ta) σ H xs := fun H1 e Q q =>
  h H1 e _ fun H2 e2 => ⟨xs, by rw [List.append_nil]; exact hs H2 (e.trans e2), fun p H3 hp e3 h3 => q p H3 (fresh_back e2 hp) (e2.trans e3) h3⟩
theorem el_callHL {D : Hp → List V → List V → Prop} {ys xs : List V} {E : XK} (h : EvL te σ H ys) (hs : ∀ p H1, Ex H H1 → H1 p = some (.lst ys) → D H1 [.ref p] xs) : EvL (tCall (spHL D) [] E (tCons te tNil)) σ H xs := fun H1 e Q q =>
  h H1 e _ fun p H2 _ e2 h2 => ⟨xs, hs p H2 (e.trans e2) h2, fun p' H3 hp e3 h3 => q p' H3 (fresh_back e2 hp) (e2.trans e3) h3⟩
theorem el_callHN {D : Hp → List V → List V → Prop} {gV : List V → List V → List V} {vs zs xs : List V} {n m : Nat} {E : XK} {ta tk : TA} (h : EvA ta σ H vs) (hk : EvA tk σ H zs) (hn : vs.length = n) (hm : zs.length = m) (hs : ∀ H1, Ex H H1 → D H1 (gV vs zs) xs) : EvL (tCallN n m (spHL D) gV E ta tk) σ H xs := fun H1 e Q q =>
  h H1 e _ fun H2 e2 => hk H2 (e.trans e2) _ fun H3 e3 => ⟨hn, hm, xs, hs H3 ((e.trans e2).trans e3), fun p H4 hp e4 h4 => q p H4 (fresh_back (e2.trans e3) hp) ((e2.trans e3).trans e4) h4⟩
end
/-! ### slices with draws, zip -/
section
variable {K : PySem.W.Frag} {σ : L2.St} {H : Hp} {Q : VK} {te : TE} {tt : TT} {g : TG}
theorem f_sl {r : V → Option Int → Option Int → Hp → VK → Prop} {tl th : TO} (h : te σ H fun x H1 => tl σ H1 fun l H2 => th σ H2 fun u H3 => r x l u H3 Q) : tSl r te tl th σ H Q := h
theorem f_nop {R : Option Int → Hp → Prop} (h : R none H) : tNoPart σ H R := h
theorem f_part {R : Option Int → Hp → Prop} (h : te σ H fun x H1 => ∃ i, x = .int i ∧ R (some i) H1) : tPart te σ H R := h
/-- what a comprehension asks of its walk -/
def LcJ (J : It) (g : TG) (tt : TT) (te : TE) (vs : List Nat) (σ : L2.St) (H : Hp) (Q : VK) : Prop := ∀ D, H D = none → ∃ W : Nat → Nat → Hp → Prop, (∃ m, W 0 m (upd H D (.lst []))) ∧ ∀ i m H, W i m H →
  (J.stop i H ∧ Q (.ref D) H) ∨ (J.go i H ∧ ∃ Nx : Hp → Prop, (∀ H', Nx H' → ∃ m', m' < m ∧ W (i + 1) m' H') ∧ ∀ x H', J.yld i H x H' → g x (wipe σ vs) H' fun σ2 H2 => wipe σ2 vs = wipe σ vs ∧ tt σ2 H2 fun b H3 =>
    if b = true then te σ2 H3 fun y H4 => ∃ acc, H4 D = some (.lst acc) ∧ acc.length < sizeLine ∧ Nx (upd H4 D (.lst (acc ++ [y]))) else Nx H3)
theorem f_lc {wi : TI} {vs : List Nat} (h : wi σ H fun J H1 => LcJ J g tt te vs σ H1 Q) : tLc wi g tt te vs σ H Q := h
theorem f_zipL {ta : TA} {R : It → Hp → Prop} (h : ta σ H fun us H1 => ∃ (a b : Addr) (xs ys : List V), us = [.ref a, .ref b] ∧ ((SqL K H1 a xs ∧ SqL K H1 b ys ∧ R (Itz K a b) H1) ∨ (SqT K H1 a xs ∧ SqT K H1 b ys ∧ R (RZ.ItzT K a b) H1))) : RZ.iZipA K ta σ H R := h
theorem lcz {a b : Addr} {xs ys : List Int} {i j : Nat} {vs : List Nat} (f : Int → Int → Int) (hx : SqL K H a (xs.map V.int)) (hy : SqL K H b (ys.map V.int)) (hn : ys.length ≤ xs.length) (hz : ys.length ≤ 1000)
    (hw : ∀ x y : V, wipe (((wipe σ vs).set i (some x)).set j (some y)) vs = wipe σ vs) (he : ∀ (x y : Int) (H1 : Hp), Ev te (((wipe σ vs).set i (some (.int x))).set j (some (.int y))) H1 (.int (f x y)))
    (q : ∀ p H', H p = none → Ex H H' → H' p = some (.lst ((List.zipWith f xs ys).map V.int)) → Q (.ref p) H') : LcJ (Itz K a b) (gTup K 2 (gCons (gName i) (gCons (gName j) gNil))) tYes te vs σ H Q := fun D hD => by
  have zl : (List.zipWith f xs ys).length = ys.length := by rw [List.length_zipWith]; omega
  refine ⟨fun t m H' => m = ys.length - t ∧ t ≤ ys.length ∧ Ex H H' ∧ H' D = some (.lst (((List.zipWith f xs ys).take t).map V.int)), ⟨ys.length, rfl, Nat.zero_le _, Ex.new hD, upd_same⟩, ?_⟩
  rintro t m H' ⟨rfl, ht, e, hp⟩
  by_cases hlt : t < ys.length
  · have h1 : (xs.map V.int)[t]? = some (.int (xs[t]'(by omega))) := by rw [List.getElem?_map, List.getElem?_eq_getElem (by omega)]; rfl
    have h2 : (ys.map V.int)[t]? = some (.int ys[t]) := by rw [List.getElem?_map, List.getElem?_eq_getElem hlt]; rfl
    refine .inr ⟨⟨_, _, _, _, ex_l e hx, ex_l e hy, h1, h2⟩, fun H'' => Ex H H'' ∧ H'' D = some (.lst (((List.zipWith f xs ys).take (t + 1)).map V.int)), fun H'' z => ⟨ys.length - (t + 1), by omega, rfl, hlt, z⟩, ?_⟩
    rintro v H'' ⟨T, x, y, rfl, hT, rfl, f1, f2⟩
    have ex : x = .int (xs[t]'(by omega)) := Option.some.inj ((f1 _ (ex_l e hx)).symm.trans h1)
    have ey : y = .int ys[t] := Option.some.inj ((f2 _ (ex_l e hy)).symm.trans h2)
    subst ex; subst ey
    refine ⟨T, _, rfl, st_of upd_same, rfl, _, _, rfl, _, _, rfl, rfl, hw _ _, f_yes ?_⟩
    rw [if_pos rfl]
    refine f_ev (he _ _ _) fun H4 e4 => ⟨_, e4 _ _ (Ex.new hT _ _ hp), ?_, fun b o g => ?_, ?_⟩
    · exact Nat.lt_of_le_of_lt (by rw [List.length_map, List.length_take]; omega : _ ≤ 1000) (by decide)
    · rw [upd_ne (ne_of_none g hD)]; exact e4 _ _ (Ex.new hT _ _ (e _ _ g))
    · rw [upd_same, List.take_add_one, List.getElem?_eq_getElem (by omega), List.map_append, List.getElem_zipWith]; rfl
  · have et : t = ys.length := by omega
    subst et
    rw [← zl, List.take_length] at hp
    exact .inl ⟨⟨_, _, ex_l e hx, ex_l e hy, .inr (by rw [List.length_map]; exact Nat.le_refl _)⟩, q D H' hD e hp⟩
end
end Mc
namespace Mc
open PySem L2 Evl
/-! ### powers of wider numbers -/
def CPowW (i j : Int) : Prop := 0 ≤ j ∧ j ≤ 100 ∧ i.natAbs.log2 < 9000
section
variable {X : Cx}
theorem op_powW : OpR X (binaryOp .Pow) (rI CPowW fun i j => .int (i ^ j.toNat)) := opI fun i j _ _ _ _ _ hc q => by
  refine PyProof.Rows.pow_int hc.1 ?_ q
  have b : Builtin.Int.intBits i ≤ i.natAbs.log2 + 1 := by
    unfold Builtin.Int.intBits
    split <;> omega
  obtain ⟨h0, h1, h2⟩ := hc
  have z : (Builtin.Int.intBits i : Int) * j ≤ 9000 * 100 := Int.mul_le_mul (by omega) h1 h0 (by decide)
  exact Int.le_trans z (by decide)
end
theorem powW {i j : Int} {b : Nat} (h0 : 0 ≤ j) (h1 : j ≤ 100) (hb : i.natAbs < 2 ^ b) (h2 : 0 < b) (h3 : b ≤ 9000) : CPowW i j := ⟨h0, h1, Nat.lt_of_lt_of_le (PySem.Flt.log2_lt_of h2 hb) h3⟩
/-! ### the other source of draws: [digits, seed, turn] at r; B draws may still come -/
structure Rg (H : Hp) (r : Addr) (B : Nat) : Prop where
  ex : ∃ dg sd t : Int, H r = some (.lst [.int dg, .int sd, .int t]) ∧ 0 ≤ dg ∧ 0 ≤ sd ∧ sd < 2 ^ 62 ∧ 0 ≤ t ∧ t + B ≤ 2 ^ 30
theorem Rg.less {H : Hp} {r : Addr} {B B' : Nat} (S : Rg H r B) (h : B' ≤ B) : Rg H r B' := by
  obtain ⟨a, b, c, h1, h2, h3, h4, h5, h6⟩ := S.ex
  exact ⟨a, b, c, h1, h2, h3, h4, h5, by omega⟩
theorem Rg.ex_ {H H' : Hp} {r : Addr} {B : Nat} (S : Rg H r B) (e : Ex H H') : Rg H' r B := by
  obtain ⟨a, b, c, h1, h⟩ := S.ex
  exact ⟨a, b, c, e _ _ h1, h⟩
theorem Rg.free {H : Hp} {r : Addr} {B : Nat} (S : Rg H r B) {p : Addr} (h : H p = none) : p ≠ r := by
  obtain ⟨a, b, c, h1, _⟩ := S.ex
  exact (ne_of_none h1 h).symm
theorem Rg.upd {H : Hp} {r l : Addr} {B : Nat} {o : HO} (S : Rg H r B) (f : l ≠ r) : Rg (upd H l o) r B := by
  obtain ⟨a, b, c, h1, h⟩ := S.ex
  exact ⟨a, b, c, by rw [upd_ne f.symm]; exact h1, h⟩
/-- all but the source is kept -/
def Kr (r : Addr) (H H' : Hp) : Prop := ∀ b o, b ≠ r → H b = some o → H' b = some o
theorem Kr.refl {r : Addr} {H : Hp} : Kr r H H := fun _ _ _ h => h
theorem Kr.trans {r : Addr} {H H1 H2 : Hp} (a : Kr r H H1) (b : Kr r H1 H2) : Kr r H H2 := fun c o h1 h => b c o h1 (a c o h1 h)
theorem Kr.of {r : Addr} {H H' : Hp} (e : Ex H H') : Kr r H H' := fun c o _ h => e c o h
theorem Kr.l {r : Addr} {H H1 H2 : Hp} (a : Kr r H H1) (b : Ex H1 H2) : Kr r H H2 := a.trans (.of b)
theorem Kr.at {r p : Addr} {H H' : Hp} {o : HO} (k : Kr r H H') (f : p ≠ r) (h : H p = some o) : H' p = some o := k p o f h
theorem Kr.new {r p : Addr} {B : Nat} {H H' : Hp} (k : Kr r H H') (S : Rg H' r B) (h : H' p = none) : H p = none := by
  have f := S.free h
  rcases e : H p with _ | o
  · rfl
  · rw [k.at f e] at h; cases h
def spRng (K : PySem.W.Frag) : Sp := fun vs H Q _ => ∃ (a : Addr) (ns : List Int), vs = [.ref a] ∧ SqL K H a (ns.map V.int) ∧ ns.length ≤ 63 ∧ ∀ r H', H r = none → Rg H' r (2 ^ 29) → Ex H H' → Q (.ref r) H'
def spRdraw : Sp := fun vs H Q _ => ∃ (r : Addr) (many : Int) (B : Nat), vs = [.ref r, .int many] ∧ 0 < many ∧ many ≤ 10 ^ 60 ∧ Rg H r (B + 1) ∧ ∀ n H', 0 ≤ n → n < many → Rg H' r B → Kr r H H' → Q (.int n) H'
theorem f_rdraw {H : Hp} {r : Addr} {B : Nat} {many : Int} {Q : VK} {E : XK} (S : Rg H r (B + 1)) (h0 : 0 < many) (hb : many ≤ 10 ^ 60) (q : ∀ n H', 0 ≤ n → n < many → Rg H' r B → Kr r H H' → Q (.int n) H') :
    spRdraw ([.ref r, .int many] ++ []) H Q E := ⟨r, many, B, rfl, h0, hb, S, q⟩
section
variable {K : PySem.W.Frag} {σ : L2.St} {H : Hp} {Q : VK} {te : TE}
theorem f_newLr {r : Addr} {B : Nat} {xs : List V} {R : Addr → Prop} (S : Rg H r B) (hz : xs.length ≤ 1000) (q : ∀ p, H p = none → p ≠ r → Rg (upd H p (.lst xs)) r B → Ex H (upd H p (.lst xs)) → (upd H p (.lst xs)) p = some (.lst xs) → R p) : xs.length ≤ sizeLine ∧ ∀ p, H p = none → R p :=
  ⟨sz1000 hz, fun p hp => q p hp (S.free hp) (S.ex_ (Ex.new hp)) (Ex.new hp) upd_same⟩
theorem f_catLr {r : Addr} {B : Nat} {a b : Addr} {xs ys : List V} (S : Rg H r B) (ha : H a = some (.lst xs)) (hb : H b = some (.lst ys)) (hz : xs.length + ys.length ≤ 1000) (q : ∀ p H', H p = none → p ≠ r → Rg H' r B → Ex H H' → H' p = some (.lst (xs ++ ys)) → Q (.ref p) H') : rCat (.ref a) (.ref b) H Q :=
  ⟨a, b, xs, ys, rfl, rfl, ha, hb, sz1000 hz, fun p hp => q p _ hp (S.free hp) (S.ex_ (Ex.new hp)) (Ex.new hp) upd_same⟩
/-- a, b = two values -/
theorem s_un2 {i j : Nat} {D : Ends} {a b : V} (h : EvU te σ H [a, b]) (k : ∀ H1, Ex H H1 → D.nx ((σ.set i (some a)).set j (some b)) H1) : tAsg te (gTup K 2 (gCons (gName i) (gCons (gName j) gNil))) D σ H :=
  h H (Ex.refl H) _ fun p H1 _ e hp => ⟨p, [a, b], rfl, st_of hp, rfl, a, [b], rfl, b, [], rfl, rfl, k H1 e⟩
/-- n turns, each of at most c draws and an int with φ -/
theorem lc_drawsR {vs : List Nat} {j n : Nat} {r : Addr} {B c : Nat} (φ : Int → Prop) (S : Rg H r (B + c * n)) (hn : n ≤ 1000) (hw : ∀ x, wipe ((wipe σ vs).set j (some x)) vs = wipe σ vs)
    (turn : ∀ (i : Nat) H' b, i < n → Kr r H H' → Rg H' r (b + c) → ∀ R : VK, (∀ z H2, φ z → Kr r H' H2 → Rg H2 r b → R (.int z) H2) → te ((wipe σ vs).set j (some (.int ((0 : Int) + (i : Int))))) H' R)
    (hd : ∀ (ks : List Int) (p : Addr) (H' : Hp), H p = none → p ≠ r → ks.length = n → (∀ k, k ∈ ks → φ k) → Rg H' r B → Kr r H H' → H' p = some (.lst (ks.map V.int)) → Q (.ref p) H') :
    LcR n (gName j) tYes te vs σ H Q := fun D hD => by
  have fD := S.free hD
  refine lc_range (lo := 0) (n := n) (fun i H' => ∃ ks : List Int, ks.length = i ∧ (∀ k, k ∈ ks → φ k) ∧ H' D = some (.lst (ks.map V.int)) ∧ Rg H' r (B + c * (n - i)) ∧ Kr r H H') ⟨[], rfl, (fun _ h => by simp at h), upd_same, S.ex_ (Ex.new hD), .of (Ex.new hD)⟩ (fun i H' hi ⟨ks, h1, h2, h3, h4, h5⟩ => ⟨hw _, ?_⟩) (fun H' ⟨ks, h1, h2, h3, h4, h5⟩ => hd ks D H' hD fD h1 h2 (h4.less (by omega)) h5 h3)
  have e : B + c * (n - i) = B + c * (n - (i + 1)) + c := by
    rw [show n - i = (n - (i + 1)) + 1 by omega, Nat.mul_add, Nat.mul_one]; omega
  rw [e] at h4
  refine f_yes ?_
  rw [if_pos rfl]
  refine turn i H' _ hi h5 h4 _ fun z H2 hz k2 S2 => ⟨_, k2.at fD h3, Nat.lt_of_le_of_lt (by rw [List.length_map]; omega : _ ≤ 1000) (by decide), ks ++ [z], by simp [h1], fun k hk => ?_, by rw [upd_same, List.map_append]; rfl, S2.upd fD, fun b o g1 g => ?_⟩
  · rcases List.mem_append.mp hk with h | h
    · exact h2 k h
    · rw [List.mem_singleton.mp h]; exact hz
  · rw [upd_ne (ne_of_none g hD)]
    exact k2 b o g1 (h5 b o g1 g)
end
end Mc
namespace Mc
open PySem L2 Evl
/-! ### a dict that is made and walked in one expression -/
section
variable {X : Cx}
/-- the value is locked from here on -/
def tFrz (te : TE) : TE := fun σ H Q => te σ H fun x H1 => ∃ (d : Addr) (u : HO), x = .ref d ∧ H1 d = some u ∧ Mut (some u) ∧ ∀ od, Q x (upd H1 d (.frz od u))
theorem pe_frz {e : Expr} {te : TE} (h : PE X e te) : PE X e (tFrz te) := ⟨fun pins s σ H Q I hw => thn (h.run pins s σ H _ I hw) fun v s1 ⟨x, H1, I1, r, d, u, ex, hd, mu, q⟩ => by
  obtain ⟨od, I2⟩ := I1.lock hd mu
  exact ⟨x, _, I2, r, q od⟩⟩
end
/-! ### numbers grouped -/
def putG : List (Int × List Int) → Int → Int → List (Int × List Int)
  | [], k, v => [(k, [v])]
  | (j, l) :: g, k, v => if j = k then (j, l ++ [v]) :: g else (j, l) :: putG g k v
def grp (d : Int) (ns : List Int) : List (Int × List Int) := ns.foldl (fun g n => putG g (n % d) (n / d)) []
theorem putG_len : ∀ (g : List (Int × List Int)) (k v : Int), (putG g k v).length ≤ g.length + 1
  | [], _, _ => Nat.le_refl _
  | (j, l) :: g, k, v => by
    have ih := putG_len g k v
    unfold putG
    split <;> simp <;> omega
/-- the groups as they stand in a dict's entries, in lists that are new since H0 -/
inductive GAt (H0 H : Hp) : List (Key × V) → List (Int × List Int) → Prop
  | nil : GAt H0 H [] []
  | cons {k : Int} {p : Addr} {l : List Int} {kvs : List (Key × V)} {gs : List (Int × List Int)} (n : H0 p = none) (h : H p = some (.lst (l.map V.int))) (d : ∀ kv, kv ∈ kvs → kv.2 ≠ .ref p) (t : GAt H0 H kvs gs) : GAt H0 H ((.inl k, .ref p) :: kvs) ((k, l) :: gs)
theorem GAt.len {H0 H : Hp} : ∀ {kvs : List (Key × V)} {gs : List (Int × List Int)}, GAt H0 H kvs gs → kvs.length = gs.length
  | _, _, .nil => rfl
  | _, _, .cons _ _ _ t => congrArg Nat.succ t.len
/-- kept if its lists are -/
theorem GAt.keep {H0 H H' : Hp} : ∀ {kvs : List (Key × V)} {gs : List (Int × List Int)}, GAt H0 H kvs gs → (∀ kv, kv ∈ kvs → ∀ p xs, kv.2 = .ref p → H p = some (.lst xs) → H' p = some (.lst xs)) → GAt H0 H' kvs gs
  | _, _, .nil, _ => .nil
  | _, _, .cons n h d t, k => .cons n (k _ (List.mem_cons_self ..) _ _ rfl h) d (t.keep fun kv hkv => k kv (List.mem_cons_of_mem _ hkv))
theorem GAt.ex_ {H0 H H' : Hp} {kvs : List (Key × V)} {gs : List (Int × List Int)} (g : GAt H0 H kvs gs) (e : Ex H H') : GAt H0 H' kvs gs := g.keep fun _ _ _ _ _ h => e _ _ h
theorem GAt.hit {H0 H : Hp} {k : Int} {x : V} : ∀ {kvs : List (Key × V)} {gs : List (Int × List Int)}, GAt H0 H kvs gs → valV kvs (.inl k : Key) = some x →
    ∃ (p : Addr) (l : List Int), x = .ref p ∧ H0 p = none ∧ H p = some (.lst (l.map V.int)) ∧ (k, l) ∈ gs ∧ ∀ v : Int, GAt H0 (upd H p (.lst ((l ++ [v]).map V.int))) kvs (putG gs k v)
  | _, _, .nil, h => by simp [valV_nil] at h
  | _, _, .cons (k := j) (p := p) (l := l) (kvs := kvs) (gs := gs) n h d t, hv => by
    by_cases e : j = k
    · subst e
      rw [valV_pos rfl] at hv
      refine ⟨p, l, (Option.some.inj hv).symm, n, h, List.mem_cons_self .., fun v => ?_⟩
      unfold putG
      rw [if_pos rfl]
      exact .cons n upd_same d (t.keep fun kv hkv q xs e h' => by
        rw [upd_ne (fun z => d kv hkv (by rw [e, z]))]; exact h')
    · rw [valV_neg (show ¬ (Sum.inl j : Key) = Sum.inl k from fun z => e (Sum.inl.inj z))] at hv
      obtain ⟨q, m, rfl, n', h', hm', f⟩ := t.hit hv
      have hm : ∃ kv, kv ∈ kvs ∧ kv.2 = V.ref q := by
        unfold valV at hv
        cases z : kvs.find? (fun kv => decide (kv.1 = (Sum.inl k : Key))) with
        | none => rw [z] at hv; cases hv
        | some kv => rw [z] at hv; exact ⟨kv, List.mem_of_find?_eq_some z, Option.some.inj hv⟩
      obtain ⟨kv, hkv, ek⟩ := hm
      refine ⟨q, m, rfl, n', h', List.mem_cons_of_mem _ hm', fun v => ?_⟩
      unfold putG
      rw [if_neg e]
      exact .cons n (by rw [upd_ne (fun z => d kv hkv (by rw [ek, z]))]; exact h) d (f v)
theorem GAt.miss {H0 H : Hp} {k v : Int} {p : Addr} (n : H0 p = none) (hp : H p = some (.lst ([v].map V.int))) : ∀ {kvs : List (Key × V)} {gs : List (Int × List Int)}, GAt H0 H kvs gs → (∀ kv, kv ∈ kvs → kv.2 ≠ .ref p) → valV kvs (.inl k : Key) = none → GAt H0 H (kvs ++ [(.inl k, .ref p)]) (putG gs k v)
  | _, _, .nil, _, _ => .cons n hp (fun _ h => by simp at h) .nil
  | _, _, .cons (k := j) (p := q) (l := l) (kvs := kvs) (gs := gs) n' h d t, hn, hv => by
    have e : ¬ j = k := fun e => by
      subst e
      rw [valV_pos rfl] at hv; cases hv
    rw [valV_neg (show ¬ (Sum.inl j : Key) = Sum.inl k from fun z => e (Sum.inl.inj z))] at hv
    unfold putG
    rw [if_neg e]
    refine .cons n' h (fun kv hkv => ?_) (t.miss n hp (fun kv hkv => hn kv (List.mem_cons_of_mem _ hkv)) hv)
    rcases List.mem_append.mp hkv with h1 | h1
    · exact d kv h1
    · rw [List.mem_singleton.mp h1]
      exact fun z => hn _ (List.mem_cons_self ..) z.symm
theorem GAt.news {H0 H : Hp} : ∀ {kvs : List (Key × V)} {gs : List (Int × List Int)}, GAt H0 H kvs gs → ∀ kv, kv ∈ kvs → ∃ (p : Addr) (l : List Int), kv.2 = .ref p ∧ H p = some (.lst (l.map V.int))
  | _, _, .nil, _, h => by simp at h
  | _, _, .cons n h d t, kv, hkv => by
    rcases List.mem_cons.mp hkv with rfl | h1
    · exact ⟨_, _, rfl, h⟩
    · exact t.news kv h1
theorem grp_take {d : Int} {ns : List Int} {i : Nat} {n : Int} (h : ns[i]? = some n) : grp d (ns.take (i + 1)) = putG (grp d (ns.take i)) (n % d) (n / d) := by
  unfold grp
  rw [List.take_add_one, h, List.foldl_append]; rfl
theorem grp_len (d : Int) (ns : List Int) : ∀ i, (grp d (ns.take i)).length ≤ i
  | 0 => Nat.le_refl _
  | i + 1 => by
    have ih := grp_len d ns i
    cases h : ns[i]? with
    | some n => rw [grp_take h]; exact Nat.le_trans (putG_len _ _ _) (by omega)
    | none => rw [List.take_add_one, h, Option.toList_none, List.append_nil]; omega
theorem putG_short {k v : Int} {b : Nat} : ∀ {g : List (Int × List Int)}, (∀ x, x ∈ g → x.2.length ≤ b) → ∀ x, x ∈ putG g k v → x.2.length ≤ b + 1
  | [], _, x, hx => by
    rw [List.mem_singleton.mp hx]
    show 1 ≤ b + 1
    omega
  | (j, l) :: g, h, x, hx => by
    unfold putG at hx
    split at hx
    · rcases List.mem_cons.mp hx with rfl | hx
      · have := h (j, l) (List.mem_cons_self ..)
        show (l ++ [v]).length ≤ _
        rw [List.length_append]; exact Nat.succ_le_succ this
      · exact Nat.le_succ_of_le (h x (List.mem_cons_of_mem _ hx))
    · rcases List.mem_cons.mp hx with rfl | hx
      · exact Nat.le_succ_of_le (h _ (List.mem_cons_self ..))
      · exact putG_short (fun y hy => h y (List.mem_cons_of_mem _ hy)) x hx
theorem grp_short (d : Int) (ns : List Int) : ∀ i x, x ∈ grp d (ns.take i) → x.2.length ≤ i
  | 0, x, hx => by simp [grp] at hx
  | i + 1, x, hx => by
    have ih := grp_short d ns i
    cases h : ns[i]? with
    | some n => rw [grp_take h] at hx; exact putG_short ih x hx
    | none => rw [List.take_add_one, h, Option.toList_none, List.append_nil] at hx; exact Nat.le_succ_of_le (ih x hx)
def spSplit (K : PySem.W.Frag) : Sp := fun vs H Q _ => ∃ (l : Addr) (ns : List Int) (d : Int), vs = [.ref l, .int d] ∧ SqL K H l (ns.map V.int) ∧ 0 < d ∧ d ≤ 10 ^ 60 ∧ ns.length ≤ 1000 ∧
  ∀ (a : Addr) (kvs : List (Key × V)) (H' : Hp), H a = none → Ex H H' → H' a = some (.dK kvs) → GAt H H' kvs (grp d ns) → Q (.ref a) H'
section
variable {K : PySem.W.Frag} {σ : L2.St} {H : Hp} {Q : VK} {te td ty tx : TE}
theorem f_dnew (q : ∀ p, H p = none → Q (.ref p) (upd H p (.dK []))) : tDNewK σ H Q := q
theorem f_dsetd (h : td σ H fun x H1 => ∃ a, x = .ref a ∧ IsD H1 a ∧ ty σ H1 fun y H2 => tx σ H2 fun z H3 => ∃ (kvs : List (Key × V)) (k : Key), H3 a = some (.dK kvs) ∧ y = kV k ∧ kvs.length < sizeLine ∧
  (∀ v, valV kvs k = some v → Q v H3) ∧ (valV kvs k = none → Q z (upd H3 a (.dK (putK kvs k z))))) : tDSetd td ty tx σ H Q := h
end
end Mc
namespace Mc
open PySem L2 Evl
/-! ### a set of ints, by a comprehension -/
section
variable {X : Cx}
/-- {elt for target in iter if ..}, elt an int -/
def tScI (w : World) (wi : TI) (g : TG) (tt : TT) (te : TE) (vs : List Nat) : TE := fun σ H Q => wi σ H fun J G => ∀ D, G D = none → ∃ W : Nat → Nat → Hp → Prop, (∃ m, W 0 m (upd G D (SetO w D (fun _ => false) 0))) ∧ ∀ i m H', W i m H' →
  (J.stop i H' ∧ Q (.ref D) H') ∨ (J.go i H' ∧ ∃ Z : Hp → Prop, (∀ U, Z U → ∃ m', m' < m ∧ W (i + 1) m' U) ∧ ∀ x U, J.yld i H' x U → g x (wipe σ vs) U fun σ2 U2 => wipe σ2 vs = wipe σ vs ∧ tt σ2 U2 fun b U3 =>
    if b = true then te σ2 U3 fun y U4 => ∃ (k : Int) (S : Int → Bool) (n : Nat), y = .int k ∧ U4 D = some (SetO w D S n) ∧ n + 1 < scanBound ∧ Z (upd U4 D (SetO w D (fun j => S j || decide (j = k)) (if S k = true then n else n + 1))) else Z U3)
theorem set_zero {w : World} {h : Heap} : SetR w (h.push (freshSet w)) h.objs.size (fun _ => false) 0 := (setR_new_at (ns := []) (Heap.get?_push_size _ rfl)).congr fun j => by simp
/-- found.add of a tracked set -/
theorem add_int {pins : List (Addr × Obj)} {σ : L2.St} {H : Hp} {s : Shared} {E : Value → Shared → Prop} {D : Addr} {S : Int → Bool} {n : Nat} {k : Int} {v : Value} {R : Value → Shared → Prop} (I : Inv X pins σ H s) (hD : H D = some (SetO X.w D S n)) (room : n + 1 < scanBound) (r : RelV (.int k) v)
    (next : ∀ u s2, Inv X pins σ (upd H D (SetO X.w D (fun j => S j || decide (j = k)) (if S k = true then n else n + 1))) s2 → R u s2) : wpAny (model X.prog X.w) X.A (call (.builtin "set.add") [.ref D, v]) R E s := by
  obtain ⟨tk, rfl⟩ := r
  refine setR_add (setO_get I hD) room fun h' sb new => next _ _ ?_
  exact I.write (t' := s.toks + 1) (by rw [hD]; trivial) (.inl rfl) (fun b u hb hu => (sb.2 b hb).trans hu) (by obtain ⟨o, _, _, _, ho, _⟩ := new; exact ⟨o, ho⟩) (setO_new new)
/-- such a comprehension as a value -/
theorem pe_scI {elt tg iter : Expr} {ifs : List Expr} {scope : Scope} {own : List (Str × Nat)} {pos : Pos} {wi : TI} {g : TG} {tt : TT} {te : TE} (hc : X.calm = true) (hN : X.N.Nodup) (hi : PI X tg iter wi) (ok : BlkOk X.N X.env.scope scope own)
    (hg : ∀ (t : Shared) (G : Hp) (C : Addr) (cl : List (Str × Addr)) (fp : List Addr), PG (X.blk t G scope (compEnvC scope cl C X.env) fp) tg g)
    (ht : ∀ (t : Shared) (G : Hp) (C : Addr) (cl : List (Str × Addr)) (fp : List Addr), PTs (X.blk t G scope (compEnvC scope cl C X.env) fp) ifs tt)
    (he : ∀ (t : Shared) (G : Hp) (C : Addr) (cl : List (Str × Addr)) (fp : List Addr), PE (X.blk t G scope (compEnvC scope cl C X.env) fp) elt te) (hs : ∀ x, foldedSetIterable iter X.env x = pure x := by intro _; rfl) :
    PE X (.SetComp elt [⟨tg, iter, ifs, 0⟩] scope pos) (tScI X.w wi g tt te (own.map (·.2))) := by
  refine ⟨fun pins s σ H Q I h => ?_⟩
  rw [PpSet.eval_SetComp]
  have reach : ∀ y ∈ scope.names, y.2 = .free → ∃ c, X.env.cells.lookup y.1 = some c := fun y hy e => (ok.free y hy e).elim (fun k => I.ok.has _ (.inl k)) fun k => I.ok.has _ (.inr k)
  refine wpAny_comprehension_free (use := none) rfl hs (closure_ok reach) ok.kind (fun y hy e => by rw [ok.uniq y hy, e]) (thn (hi.run pins s σ H _ I h) fun _ _ a1 => thn a1 fun iv t2 a2 => ?_)
  obtain ⟨it, fp, tn, J, G2, rfl, J2, T, now2, far2, q⟩ := a2
  refine PpSet.newSet_ok (newEnv_comp ?_)
  have nD : G2 t2.heap.objs.size = none := J2.hok.fresh (Nat.le_refl _)
  have old : ∀ b, b ∈ fp → b < t2.heap.objs.size := fun b hb => by
    obtain ⟨o, e, _⟩ := T.obj _ _ now2 b hb
    exact Heap.lt_size e
  generalize hD : t2.heap.objs.size = D at nD old
  obtain ⟨W, ⟨m0, w0⟩, turn⟩ := q D nD
  have J3 : Inv X pins σ (upd G2 D (SetO X.w D (fun _ => false) 0)) { t2 with heap := t2.heap.push (freshSet X.w) } := by
    subst hD
    exact J2.laid (t' := t2.toks) (fun b o e => Heap.get?_push_of_some _ e) (Nat.le_refl _) (setO_new set_zero)
  have now3 : tn 0 (t2.heap.push (freshSet X.w)) := T.keep _ _ _ now2 fun b _ o e => Heap.get?_push_of_some _ e
  have far3 : ∀ b ∈ fp, FpOk X pins (upd G2 D (SetO X.w D (fun _ => false) 0)) b ∧ b < (t2.heap.push (freshSet X.w)).objs.size := fun b hb =>
    ⟨⟨by rw [upd_ne (Nat.ne_of_lt (old b hb))]; exact (far2 b hb).1, (far2 b hb).2⟩, by rw [Heap.size_push, hD]; exact Nat.lt_succ_of_lt (old b hb)⟩
  generalize ht3 : ({ t2 with heap := t2.heap.push (freshSet X.w) } : Shared) = t3 at J3
  have hh3 : t3.heap = t2.heap.push (freshSet X.w) := by rw [← ht3]
  rw [← hh3] at now3 far3
  generalize upd G2 D (SetO X.w D (fun _ => false) 0) = G3 at J3 far3 w0
  show codeAny _ _ (.compStart (.SetComp elt [⟨tg, iter, ifs, 0⟩] scope pos) 0 (.ref it) (.ref D) (compEnvC scope (cellsFrom (({ t2 with heap := t2.heap.push (freshSet X.w) } : Shared).heap.objs.size + 1) scope.names (cloFrom X.env.cells scope.names [])) ({ t2 with heap := t2.heap.push (freshSet X.w) } : Shared).heap.objs.size X.env))
    (compPost (model X.prog X.w) X.A X.xe none (EP X pins σ Q) (.ref D) ({ t2 with heap := t2.heap.push (freshSet X.w) } : Shared).heap.objs.size) { ({ t2 with heap := t2.heap.push (freshSet X.w) } : Shared) with heap := pushCells ((({ t2 with heap := t2.heap.push (freshSet X.w) } : Shared).heap).push { cls := .type "dict", data := .dict #[] }) scope.names }
  rw [ht3]
  have J4 := block_start J3 ok hN far3
  have rg := hg t3 G3 t3.heap.objs.size (cellsFrom (t3.heap.objs.size + 1) scope.names (cloFrom X.env.cells scope.names [])) fp
  have rt := ht t3 G3 t3.heap.objs.size (cellsFrom (t3.heap.objs.size + 1) scope.names (cloFrom X.env.cells scope.names [])) fp
  have re := he t3 G3 t3.heap.objs.size (cellsFrom (t3.heap.objs.size + 1) scope.names (cloFrom X.env.cells scope.names [])) fp
  generalize hE : compEnvC scope (cellsFrom (t3.heap.objs.size + 1) scope.names (cloFrom X.env.cells scope.names [])) t3.heap.objs.size X.env = env at J4 rg rt re ⊢
  have own_at : env.locals = t3.heap.objs.size := by rw [← hE]; rfl
  generalize ht4 : ({ t3 with heap := pushCells (t3.heap.push { cls := .type "dict", data := .dict #[] }) scope.names } : Shared) = t4 at J4 ⊢
  have now4 : tn 0 t4.heap := T.keep _ _ _ now3 fun b _ o e => by rw [← ht4]; exact pushCells_keeps _ _ _ _ (Heap.get?_push_of_some _ e)
  have apart : ∀ {τ : L2.St} {U : Hp} {u : Shared}, Inv (X.blk t3 G3 scope env fp) [] τ U u → (∀ b ∈ fp, U b = none) → ∀ b ∈ fp, FpOk (X.blk t3 G3 scope env fp) [] U b := fun {τ U u} K hn b hb =>
    ⟨hn b hb, (K.ok.exf b hb).1, K.ok.exfs b hb, .inl hb, fun x c e => (K.ok.exf b hb).2 x c e, fun p hp => absurd (show p ∈ ([] : List (Addr × Obj)) ++ [] from hp) (by simp)⟩
  have go : codeAny (model X.prog X.w) X.A (.compLoop (.SetComp elt [⟨tg, iter, ifs, 0⟩] scope pos) 0 (.ref it) (.ref D) env) (compPost (model X.prog X.w) X.A X.xe none (EP X pins σ Q) (.ref D) t3.heap.objs.size) t4 := by
    refine PpSet.compLoopS_any (fun n u => ∃ i U, Inv (X.blk t3 G3 scope env fp) [] (wipe σ (own.map (·.2))) U u ∧ tn i u.heap ∧ (∀ b ∈ fp, U b = none) ∧ W i n U) ?_ m0 ⟨0, G3, J4, now4, fun b hb => (far3 b hb).1.1, w0⟩
    rintro n u5 ⟨i, U5, K5, now5, free5, w5⟩
    rcases turn i n U5 w5 with ⟨stop, last⟩ | ⟨more, Z, hZ, step⟩
    · refine thnF (T.done (X.blk t3 G3 scope env fp) rfl rfl rfl hc i [] u5 _ U5 (fun _ _ => False) K5 (apart K5 free5) now5 stop) fun r u6 ⟨hr, K6⟩ => ?_
      subst hr
      have K7 : Inv X pins σ U5 u6 := J3.call' (ch := fp) K6.os K6.base K6.hok K6.bare fun b hb => by
        obtain ⟨⟨_, z1, z2, z3, z4, z5⟩, _⟩ := far3 b hb
        exact ⟨z3, z1, z4, z5⟩
      have none5 : U5 t3.heap.objs.size = none := own_at ▸ (show U5 env.locals = none from K6.free)
      obtain ⟨m, hm, _⟩ := K6.loc
      have hm' : u6.heap.Ns t3.heap.objs.size m := own_at ▸ (show u6.heap.Ns env.locals m from hm)
      obtain ⟨f0, f1, f2, f3, f4, f5⟩ := J3.fpOk (Nat.le_refl _) none5
      exact ⟨m, hm', fun h'' sb => ⟨.ref D, U5, K7.turned (t' := u6.toks) (fun b o hb e => (sb.2 b hb).trans e) f0 f1 f3 f4 f5, rfl, last⟩⟩
    · refine thnF (T.item (X.blk t3 G3 scope env fp) rfl rfl rfl hc i [] u5 _ U5 (fun _ _ => False) K5 (apart K5 free5) now5 more) fun r u6 ⟨v, hr, a6⟩ => ?_
      subst hr
      refine thnF a6 fun _ u7 ⟨x, U7, K7, r7, y7, now7, free7⟩ => ?_
      have objs := T.obj _ _ now7
      refine thnF (rg.run _ u7 _ U7 x v _ (K7.pinned (apart K7 free7) objs) r7 (step x U7 y7)) fun _ u8 ⟨τ, U8, K8, back, q8⟩ => ?_
      refine thnF (rt.run _ u8 τ U8 _ K8 q8) fun b u9 ⟨U9, K9, q9⟩ => ?_
      have over : ∀ {u : Shared} {U : Hp}, Inv (X.blk t3 G3 scope env fp) ([] ++ pinsAt fp u7.heap) τ U u → Z U → ∃ m, m < n ∧ ∃ i U, Inv (X.blk t3 G3 scope env fp) [] (wipe σ (own.map (·.2))) U u ∧ tn i u.heap ∧ (∀ b ∈ fp, U b = none) ∧ W i m U := fun {u U} K z => by
        obtain ⟨m', lt, w'⟩ := hZ U z
        have held : ∀ b ∈ fp, ∀ o, u7.heap.get? b = some o → u.heap.get? b = some o ∧ U b = none := fun b hb o e => by
          obtain ⟨z1, z2, _⟩ := K.pin (b, o) (List.mem_append_right _ (List.mem_append_right _ (mem_pinsAt hb e)))
          exact ⟨z1, z2⟩
        refine ⟨m', lt, i + 1, U, (K.unpinned (pins := [])).weak (by rw [← back, wipe_length]) (fun j v e => (wipe_some (back ▸ e)).1), T.keep _ _ _ now7 fun b hb o e => (held b hb o e).1, fun b hb => ?_, w'⟩
        obtain ⟨o, e, _⟩ := objs b hb
        exact (held b hb o e).2
      match b, q9 with
      | false, q9 => exact over K9 q9
      | true, q9 =>
        refine thnF (re.run _ u9 τ U9 _ K9 q9) fun z u10 ⟨_, U10, K10, r10, k, S, c, ey, at10, room, nx⟩ => ?_
        subst ey
        exact add_int (X := X.blk t3 G3 scope env fp) K10 at10 room r10 fun _ u11 K11 => over K11 nx
  exact PpSet.codeAny_compStart_set go (T.self X.A 0 _ _ _ now4 go)
end
section
variable {K : PySem.W.Frag} {w : World} {σ : L2.St} {H : Hp} {tl te : TE}
theorem el_sortedSc {a : Addr} {ns : List Int} {j : Nat} {vs : List Nat} (f : Int → Int) (h : Ev tl σ H (.ref a)) (hx : SqL K H a (ns.map V.int)) (hz : ns.length ≤ 1000) (hw : ∀ x, wipe ((wipe σ vs).set j (some x)) vs = wipe σ vs)
    (he : ∀ (x : Int) (H1 : Hp), Ev te ((wipe σ vs).set j (some (.int x))) H1 (.int (f x))) : EvL (tCB (rSortedA w) (tCons (tScI w (iList K tl) (gName j) tYes te vs) tNil)) σ H ((srt (ns.map f)).map V.int) := fun H1 e Q q =>
  h H1 e _ fun H2 e2 => ⟨a, rfl, ⟨_, ex_l (e.trans e2) hx⟩, fun D hD => by
    have hx2 := ex_l (e.trans e2) hx
    have z0 : (fun _ : Int => false) = fun y => decide (y ∈ ([] : List Int)) := by funext y; simp
    refine ⟨fun t m U => m = ns.length - t ∧ t ≤ ns.length ∧ Ex H2 U ∧ ∃ c, c ≤ t ∧ U D = some (SetO w D (fun y => decide (y ∈ (ns.take t).map f)) c), ⟨ns.length, rfl, Nat.zero_le _, Ex.new hD, 0, Nat.le_refl _, by rw [upd_same, z0]; rfl⟩, ?_⟩
    rintro t m U ⟨rfl, ht, eU, c, hc, hU⟩
    have q2 := ex_l eU hx2
    by_cases hlt : t < ns.length
    · have hat : (ns.map V.int)[t]? = some (.int ns[t]) := by rw [List.getElem?_map, List.getElem?_eq_getElem hlt]; rfl
      refine .inr ⟨⟨_, _, q2, hat⟩, fun U' => Ex H2 U' ∧ ∃ c, c ≤ t + 1 ∧ U' D = some (SetO w D (fun y => decide (y ∈ (ns.take (t + 1)).map f)) c), fun U' z => ⟨ns.length - (t + 1), by omega, rfl, hlt, z⟩, fun x U' y => ?_⟩
      obtain ⟨rfl, y⟩ := y
      have ex : x = .int ns[t] := Option.some.inj ((y _ q2).symm.trans hat)
      subst ex
      refine ⟨hw _, f_yes ?_⟩
      rw [if_pos rfl]
      refine f_ev (he _ _) fun U4 e4 => ⟨f ns[t], _, c, rfl, e4 _ _ hU, Nat.lt_of_le_of_lt (show c + 1 ≤ 1001 by omega) (by decide), fun b o g => ?_, ?_⟩
      · rw [upd_ne (ne_of_none g hD)]; exact e4 _ _ (eU _ _ g)
      · refine ⟨_, ?_, by rw [upd_same]; congr 2; funext y; rw [List.take_add_one, List.getElem?_eq_getElem hlt, List.map_append]; simp [List.mem_append]⟩
        split <;> omega
    · have et : t = ns.length := by omega
      subst et
      rw [List.take_length] at hU
      refine .inl ⟨⟨_, q2, by rw [List.length_map]; exact Nat.le_refl _⟩, f_nil ⟨D, _, c, rfl, hU, by omega, fun ks p k1 k2 k3 hp => ?_⟩⟩
      have e3 : ks = srt (ns.map f) := asc_uniq k1 (pw_srt _) fun k => by rw [k2 k, mem_srt]; simp
      subst e3
      exact q p _ (fresh_back (e2.trans eU) hp) ((e2.trans eU).trans (Ex.new hp)) upd_same⟩
end
/-! ### groups: what lies in them, and a walk over them -/
theorem putG_mem {k v : Int} : ∀ {g : List (Int × List Int)} {x : Int × List Int} {u : Int}, x ∈ putG g k v → u ∈ x.2 → (x.1 = k ∧ u = v) ∨ ∃ y, y ∈ g ∧ y.1 = x.1 ∧ u ∈ y.2
  | [], x, u, hx, hu => by
    rw [List.mem_singleton.mp hx] at hu ⊢
    exact .inl ⟨rfl, List.mem_singleton.mp hu⟩
  | (j, l) :: g, x, u, hx, hu => by
    unfold putG at hx
    split at hx
    · next e =>
      rcases List.mem_cons.mp hx with rfl | hx
      · rcases List.mem_append.mp hu with h | h
        · exact .inr ⟨(j, l), List.mem_cons_self .., rfl, h⟩
        · exact .inl ⟨e, List.mem_singleton.mp h⟩
      · exact .inr ⟨x, List.mem_cons_of_mem _ hx, rfl, hu⟩
    · rcases List.mem_cons.mp hx with rfl | hx
      · exact .inr ⟨_, List.mem_cons_self .., rfl, hu⟩
      · rcases putG_mem hx hu with h | ⟨y, h1, h2⟩
        · exact .inl h
        · exact .inr ⟨y, List.mem_cons_of_mem _ h1, h2⟩
theorem grp_mem_take (d : Int) (ns : List Int) : ∀ (i : Nat) (x : Int × List Int) (u : Int), x ∈ grp d (ns.take i) → u ∈ x.2 → ∃ n, n ∈ ns ∧ n % d = x.1 ∧ n / d = u
  | 0, x, u, hx, _ => by simp [grp] at hx
  | i + 1, x, u, hx, hu => by
    have ih := grp_mem_take d ns i
    cases h : ns[i]? with
    | some n =>
      rw [grp_take h] at hx
      rcases putG_mem hx hu with ⟨h1, h2⟩ | ⟨y, h1, h2, h3⟩
      · exact ⟨n, List.mem_of_getElem? h, h1.symm, h2.symm⟩
      · obtain ⟨m, m1, m2, m3⟩ := ih y u h1 h3
        exact ⟨m, m1, by rw [m2, h2], m3⟩
    | none => rw [List.take_add_one, h, Option.toList_none, List.append_nil] at hx; exact ih x u hx hu
theorem grp_mem {d : Int} {ns : List Int} {x : Int × List Int} {u : Int} (hx : x ∈ grp d ns) (hu : u ∈ x.2) : ∃ n, n ∈ ns ∧ n % d = x.1 ∧ n / d = u := grp_mem_take d ns ns.length x u (by rw [List.take_length]; exact hx) hu
theorem putG_ne {k v : Int} : ∀ {g : List (Int × List Int)}, (∀ x, x ∈ g → x.2 ≠ []) → ∀ x, x ∈ putG g k v → x.2 ≠ []
  | [], _, x, hx => by rw [List.mem_singleton.mp hx]; simp
  | (j, l) :: g, h, x, hx => by
    unfold putG at hx
    split at hx
    · rcases List.mem_cons.mp hx with rfl | hx
      · simp
      · exact h x (List.mem_cons_of_mem _ hx)
    · rcases List.mem_cons.mp hx with rfl | hx
      · exact h _ (List.mem_cons_self ..)
      · exact putG_ne (fun y hy => h y (List.mem_cons_of_mem _ hy)) x hx
theorem grp_ne (d : Int) (ns : List Int) : ∀ x, x ∈ grp d ns → x.2 ≠ [] := by
  have key : ∀ i x, x ∈ grp d (ns.take i) → x.2 ≠ [] := fun i => by
    induction i with
    | zero => intro x hx; simp [grp] at hx
    | succ i ih =>
      intro x hx
      cases h : ns[i]? with
      | some n => rw [grp_take h] at hx; exact putG_ne ih x hx
      | none => rw [List.take_add_one, h, Option.toList_none, List.append_nil] at hx; exact ih x hx
  intro x hx
  exact key ns.length x (by rw [List.take_length]; exact hx)
theorem GAt.get {H0 H : Hp} : ∀ {kvs : List (Key × V)} {gs : List (Int × List Int)} {n : Nat} {x : Int × List Int}, GAt H0 H kvs gs → gs[n]? = some x → ∃ p, kvs[n]? = some (.inl x.1, .ref p) ∧ H0 p = none ∧ H p = some (.lst (x.2.map V.int))
  | _, _, _, _, .nil, h => by simp at h
  | _, _, 0, _, .cons (p := p) m h d t, e => by
    cases Option.some.inj e
    exact ⟨p, rfl, m, h⟩
  | _, _, n + 1, _, .cons m h d t, e => t.get (n := n) e
theorem GAt.fresh {H0 H : Hp} : ∀ {kvs : List (Key × V)} {gs : List (Int × List Int)}, GAt H0 H kvs gs → ∀ kv, kv ∈ kvs → ∀ p, kv.2 = .ref p → H0 p = none
  | _, _, .nil, _, h, _, _ => by simp at h
  | _, _, .cons m h d t, kv, hkv, p, e => by
    rcases List.mem_cons.mp hkv with rfl | h1
    · cases e; exact m
    · exact t.fresh kv h1 p e
/-- for a, b in f(..).items(), where the list at k, older than the groups, is written meanwhile -/
theorem f_forItems {td : TE} {g : TG} {tu : TS} {D : Ends} {σ : L2.St} {H : Hp} (h : iItems td σ H fun J H1 => ∃ W : Nat → Nat → L2.St → Hp → Prop, (∃ m, W 0 m σ H1) ∧ ∀ i m σ H, W i m σ H →
    (J.stop i H ∧ D.nx σ H) ∨ (J.go i H ∧ ∃ N : L2.St → Hp → Prop, (∀ σ' H', N σ' H' → ∃ m', m' < m ∧ W (i + 1) m' σ' H') ∧ ∀ x H', J.yld i H x H' → g x σ H' fun σ2 H2 => tu { D with nx := N, ct := N, bk := D.nx } σ2 H2)) : tFor (iItems td) g tu D σ H := h
theorem for_grp {K : PySem.W.Frag} {a k : Addr} {o : Obj} {kvs : List (Key × V)} {gs : List (Int × List Int)} {H0 G : Hp} {i j : Nat} {tu : TS} {D : Ends} {σ : L2.St} (ha : G a = some (.frz o (.dK kvs))) (hg : GAt H0 G kvs gs) (hk : ∃ u, H0 k = some u) (hak : a ≠ k)
    (P : Nat → L2.St → Hp → Prop) (h0 : P 0 σ G) (hs : ∀ (n : Nat) (x : Int × List Int) (p : Addr) (τ : L2.St) (U : Hp), gs[n]? = some x → P n τ U → Kr k G U → U p = some (.lst (x.2.map V.int)) → ∀ T, U T = none →
      tu { D with nx := fun τ' U' => P (n + 1) τ' U' ∧ Kr k G U', ct := fun τ' U' => P (n + 1) τ' U' ∧ Kr k G U', bk := D.nx } ((τ.set i (some (.int x.1))).set j (some (.ref p))) (upd U T (.tup [.int x.1, .ref p])))
    (hd : ∀ τ U, P gs.length τ U → Kr k G U → D.nx τ U) :
    ∃ W : Nat → Nat → L2.St → Hp → Prop, (∃ m, W 0 m σ G) ∧ ∀ n m τ U, W n m τ U →
      ((Iti a o kvs).stop n U ∧ D.nx τ U) ∨ ((Iti a o kvs).go n U ∧ ∃ N : L2.St → Hp → Prop, (∀ τ' U', N τ' U' → ∃ m', m' < m ∧ W (n + 1) m' τ' U') ∧ ∀ x U', (Iti a o kvs).yld n U x U' → gTup K 2 (gCons (gName i) (gCons (gName j) gNil)) x τ U' fun τ2 U2 => tu { D with nx := N, ct := N, bk := D.nx } τ2 U2) := by
  have hl := hg.len
  refine ⟨fun n m τ U => m = kvs.length - n ∧ n ≤ kvs.length ∧ P n τ U ∧ Kr k G U, ⟨_, rfl, Nat.zero_le _, h0, Kr.refl⟩, ?_⟩
  rintro n m τ U ⟨rfl, hn, hp, kr⟩
  have haU : U a = some (.frz o (.dK kvs)) := kr.at hak ha
  by_cases hlt : n < kvs.length
  · refine .inr ⟨⟨haU, hlt⟩, fun τ' U' => P (n + 1) τ' U' ∧ Kr k G U', fun τ' U' z => ⟨kvs.length - (n + 1), by omega, rfl, hlt, z⟩, ?_⟩
    rintro x U' ⟨T, y, v, h1, rfl, hT, rfl⟩
    have hx : gs[n]? = some gs[n] := List.getElem?_eq_getElem (hl ▸ hlt)
    obtain ⟨p, h2, h3, h4⟩ := hg.get hx
    rw [h1] at h2
    cases h2
    have hpk : p ≠ k := fun z => by
      obtain ⟨u, hu⟩ := hk
      rw [z, hu] at h3; cases h3
    exact ⟨T, _, rfl, st_of upd_same, rfl, _, _, rfl, _, _, rfl, rfl, hs n _ p τ U hx hp kr (kr.at hpk h4) T hT⟩
  · have e : n = kvs.length := by omega
    subst e
    exact .inl ⟨⟨haU, Nat.le_refl _⟩, hd τ U (hl ▸ hp) kr⟩
theorem insI_len (x : Int) : ∀ l : List Int, (insI x l).length ≤ l.length + 1
  | [] => by simp [insI]
  | y :: l => by
    have ih := insI_len x l
    unfold insI
    split <;> (try split) <;> simp <;> omega
theorem srt_len' : ∀ ns : List Int, (srt ns).length ≤ ns.length
  | [] => Nat.le_refl _
  | x :: r => by
    have ih := srt_len' r
    have := insI_len x (srt r)
    show (insI x (srt r)).length ≤ r.length + 1
    omega
theorem range_map {α : Type} (v : Int → α) (L : List Int) : (List.range L.length).map (fun i => v (L.getD i 0)) = L.map v := by
  refine List.ext_getElem? fun i => ?_
  rw [List.getElem?_map, List.getElem?_map]
  by_cases h : i < L.length
  · rw [List.getElem?_range h, List.getElem?_eq_getElem h]
    show some (v (L.getD i 0)) = some (v L[i])
    rw [List.getD_eq_getElem?_getD, List.getElem?_eq_getElem h]; rfl
  · rw [List.getElem?_eq_none (by rw [List.length_range]; omega), List.getElem?_eq_none (by omega)]; rfl
/-- [f(x) for x in ns] -/
theorem el_lcI {K : PySem.W.Frag} {σ : L2.St} {H : Hp} {tl te : TE} {a : Addr} {ns : List Int} {j : Nat} {vs : List Nat} (v : Int → V) (h : Ev tl σ H (.ref a)) (hx : SqL K H a (ns.map V.int)) (hz : ns.length ≤ 40000) (hw : ∀ x, wipe ((wipe σ vs).set j (some x)) vs = wipe σ vs)
    (he : ∀ (x : Int) H1, Ex H H1 → x ∈ ns → Ev te ((wipe σ vs).set j (some (.int x))) H1 (v x)) : EvL (tLc (iList K tl) (gName j) tYes te vs) σ H (ns.map v) := by
  have z := el_lcL (t := tYes) (te := te) (j := j) (vs := vs) (fun _ => true) (fun i => v (ns.getD i 0)) h hx (by rw [List.length_map]; exact hz) hw (fun i x H1 _ _ => et_yes rfl) fun i x H1 e hi _ => by
    rw [List.getElem?_map] at hi
    obtain ⟨n, hn, rfl⟩ := Option.map_eq_some_iff.mp hi
    have e2 : ns.getD i 0 = n := by rw [List.getD_eq_getElem?_getD, hn]; rfl
    rw [e2]
    exact he n H1 e (List.mem_of_getElem? hn)
  rw [given_all, List.length_map, range_map v ns] at z
  exact z
theorem el_listT {K : PySem.W.Frag} {σ : L2.St} {H : Hp} {ta : TE} {p : Addr} {xs : List V} (ha : Ev ta σ H (.ref p)) (h : ∀ H1, SqT K H1 p xs) : EvL (tCB (rListS K) (tCons ta tNil)) σ H xs := fun H1 e Q q =>
  ha H1 e _ fun H2 e2 => ⟨p, xs, rfl, .inr (h H2), fun l hl => q l _ (fresh_back e2 hl) (e2.trans (Ex.new hl)) upd_same⟩
theorem ev_anyL {K : PySem.W.Frag} {σ : L2.St} {H : Hp} {te : TE} {bs : List Bool} (h : EvL te σ H (bs.map V.bl)) : Ev (tCB (rAny K) (tCons te tNil)) σ H (.bl (bs.any id)) := fun H1 e Q q =>
  h H1 e _ fun p H2 _ e2 h2 => ⟨p, bs, rfl, sq_of h2, q H2 e2⟩
theorem ev_anyM {K : PySem.W.Frag} {σ : L2.St} {H : Hp} {te : TE} {ns : List Int} (f : Int → Bool) (h : EvL te σ H (ns.map fun y => V.bl (f y))) : Ev (tCB (rAny K) (tCons te tNil)) σ H (.bl ((ns.map f).any id)) := ev_anyL (bs := ns.map f) (by rw [List.map_map]; exact h)
theorem range_filter {α : Type} (v : Int → α) (φ : Int → Bool) (L : List Int) : ((List.range L.length).filter (fun i => φ (L.getD i 0))).map (fun i => v (L.getD i 0)) = (L.filter φ).map v := by
  have e : (List.range L.length).map (fun i => L.getD i 0) = L := by rw [range_map (fun x => x) L]; exact List.map_id' L
  have z : (L.filter φ).map v = (((List.range L.length).map (fun i => L.getD i 0)).filter φ).map v := by rw [e]
  rw [z, List.filter_map, List.map_map]
  rfl
/-- [v(x) for x in ns if φ(x)] -/
theorem el_lcF {K : PySem.W.Frag} {σ : L2.St} {H : Hp} {tl te : TE} {tt : TT} {a : Addr} {ns : List Int} {j : Nat} {vs : List Nat} (φ : Int → Bool) (v : Int → V) (h : Ev tl σ H (.ref a)) (hx : SqL K H a (ns.map V.int)) (hz : ns.length ≤ 40000) (hw : ∀ x, wipe ((wipe σ vs).set j (some x)) vs = wipe σ vs)
    (ht : ∀ (x : Int) H1, Ex H H1 → x ∈ ns → EvT tt ((wipe σ vs).set j (some (.int x))) H1 (φ x)) (he : ∀ (x : Int) H1, Ex H H1 → x ∈ ns → Ev te ((wipe σ vs).set j (some (.int x))) H1 (v x)) : EvL (tLc (iList K tl) (gName j) tt te vs) σ H ((ns.filter φ).map v) := by
  have at_ {i : Nat} {x : V} (hi : (ns.map V.int)[i]? = some x) : ∃ n, x = .int n ∧ n ∈ ns ∧ ns.getD i 0 = n := by
    rw [List.getElem?_map] at hi
    obtain ⟨n, hn, rfl⟩ := Option.map_eq_some_iff.mp hi
    exact ⟨n, rfl, List.mem_of_getElem? hn, by rw [List.getD_eq_getElem?_getD, hn]; rfl⟩
  have z := el_lcL (t := tt) (te := te) (j := j) (vs := vs) (fun i => φ (ns.getD i 0)) (fun i => v (ns.getD i 0)) h hx (by rw [List.length_map]; exact hz) hw (fun i x H1 e hi => by
    obtain ⟨n, rfl, hn, e2⟩ := at_ hi
    rw [e2]; exact ht n H1 e hn) fun i x H1 e hi _ => by
    obtain ⟨n, rfl, hn, e2⟩ := at_ hi
    rw [e2]; exact he n H1 e hn
  have g : given (ns.map V.int).length (fun i => φ (ns.getD i 0)) (fun i => v (ns.getD i 0)) = (ns.filter φ).map v := by
    rw [List.length_map]
    exact range_filter v φ ns
  rw [g] at z
  exact z
end Mc
namespace Mc
open PySem L2 Evl
section
variable {K : PySem.W.Frag} {σ : L2.St} {H : Hp} {Q : VK} {te ta tb tk to : TE}
/-! ### longer lists -/
theorem el_repW {xs : List V} {k : Int} (h : EvL te σ H xs) (hk : ∀ H1, Ex H H1 → Ev tk σ H1 (.int k)) (h0 : 0 ≤ k ∧ k ≤ 10000) (hz : xs.length ≤ 100) : EvL (tOp rRep te tk) σ H ((List.replicate k.toNat xs).flatten) := fun H1 e Q q =>
  h H1 e _ fun p H2 np e2 hp => hk H2 (e.trans e2) H2 (Ex.refl H2) _ fun H3 e3 => ⟨p, k, xs, rfl, rfl, e3 _ _ hp, by omega, by omega, Nat.le_trans (Nat.mul_le_mul hz (show k.toNat ≤ 10000 by omega)) (by decide), fun l hl => q l _ (fresh_back (e2.trans e3) hl) ((e2.trans e3).trans (Ex.new hl)) upd_same⟩
theorem el_catW {xs ys : List V} (h : EvL ta σ H xs) (hb : EvL tb σ H ys) (hz : xs.length + ys.length ≤ 100000) : EvL (tOp rCat ta tb) σ H (xs ++ ys) := fun H1 e Q q =>
  h H1 e _ fun p H2 _ e2 h2 => hb H2 (e.trans e2) _ fun r H3 _ e3 h3 => ⟨p, r, xs, ys, rfl, rfl, e3 _ _ h2, h3, sz_of hz, fun l hl => q l _ (fresh_back (e2.trans e3) hl) ((e2.trans e3).trans (Ex.new hl)) upd_same⟩
theorem EvL.is {xs ys : List V} (h : EvL te σ H xs) (e : xs = ys) : EvL te σ H ys := e ▸ h
theorem flat_one (k : Nat) (x : V) : (List.replicate k [x]).flatten = List.replicate k x := by
  induction k with
  | zero => rfl
  | succ k ih => rw [List.replicate_succ, List.flatten_cons, ih]; rfl
/-! ### data compared -/
theorem rv_neDp {x y : V} {d e : PyData} (hx : Dp K H x d) (hy : Dp K H y e) (sd : SeqAt.shaped d = true) (se : SeqAt.shaped e = true) : RV (rNeD K) x y H (.bl (!PyData.eqv d e)) := fun H1 x1 _ q =>
  ⟨d, e, dp_ex x1 hx, dp_ex x1 hy, sd, se, q H1 (Ex.refl H1)⟩
theorem rv_neSame {x y : V} {d : PyData} (hx : Dp K H x d) (hy : Dp K H y d) (sd : SeqAt.shaped d = true) : RV (rNeD K) x y H (.bl false) := by
  have z := rv_neDp hx hy sd sd
  rw [SeqAt.eqv_refl d (SeqAt.canLay_of_shaped sd)] at z
  exact z
theorem rv_eqSame {x y : V} {d : PyData} (hx : Dp K H x d) (hy : Dp K H y d) (sd : SeqAt.shaped d = true) : RV (rEqD K) x y H (.bl true) := by
  have z := rv_eqDp hx hy sd sd
  rw [SeqAt.eqv_refl d (SeqAt.canLay_of_shaped sd)] at z
  exact z
/-- a list of tuples of ints -/
def tupsD (xs : List (List Int)) : PyData := .list (xs.map fun x => .tuple (x.map PyData.int))
theorem shaped_tups (xs : List (List Int)) : SeqAt.shaped (tupsD xs) = true := by
  have h : ∀ xs : List (List Int), PyData.canLayAll0 (xs.map fun x => PyData.tuple (x.map PyData.int)) = true ∧ PyData.depthAll (xs.map fun x => PyData.tuple (x.map PyData.int)) ≤ 1 := by
    intro xs
    induction xs with
    | nil => exact ⟨rfl, by decide⟩
    | cons x xs ih =>
      obtain ⟨a, b⟩ := ih
      have c : PyData.canLayAll0 (x.map PyData.int) = true := PySem.W.ke_canLayAll0 x
      have d : PyData.depthAll (x.map PyData.int) = 0 := PySem.W.ke_depthAll x
      refine ⟨?_, ?_⟩
      · simp only [List.map_cons, PyData.canLayAll0, PyData.canLay0, c, a]; rfl
      · simp only [List.map_cons, PyData.depthAll, PyData.depth, d]; omega
  obtain ⟨a, b⟩ := h xs
  have c : PyData.canLay0 (tupsD xs) = true := by simp only [tupsD, PyData.canLay0]; exact a
  have d : PyData.depth (tupsD xs) ≤ 64 := by simp only [tupsD, PyData.depth]; omega
  unfold SeqAt.shaped
  rw [c, decide_eq_true d]; rfl
/-! ### what evaluates to data -/
def EvD (K : PySem.W.Frag) (te : TE) (σ : L2.St) (H : Hp) (d : PyData) : Prop := ∀ H1, Ex H H1 → ∀ Q : VK, (∀ x H2, Ex H1 H2 → Dp K H2 x d → Q x H2) → te σ H1 Q
def EvDs (K : PySem.W.Frag) (ta : TA) (σ : L2.St) (H : Hp) (ds : List PyData) : Prop := ∀ H1, Ex H H1 → ∀ Q : List V → Hp → Prop, (∀ xs H2, Ex H1 H2 → DpAll K H2 xs ds → Q xs H2) → ta σ H1 Q
/-- a new list of data -/
def EvDL (K : PySem.W.Frag) (te : TE) (σ : L2.St) (H : Hp) (ds : List PyData) : Prop := ∀ H1, Ex H H1 → ∀ Q : VK, (∀ p xs H2, H1 p = none → Ex H1 H2 → H2 p = some (.lst xs) → DpAll K H2 xs ds → Q (.ref p) H2) → te σ H1 Q
def dI (xs : List Int) : PyData := .tuple (xs.map PyData.int)
def dL (xs : List Int) : PyData := .list (xs.map PyData.int)
theorem ed_val {x : V} {d : PyData} (h : Ev te σ H x) (hd : ∀ H1, Ex H H1 → Dp K H1 x d) : EvD K te σ H d := fun H1 e Q q => h H1 e _ fun H2 e2 => q x H2 e2 (hd H2 (e.trans e2))
theorem ed_valH {x : V} {d : PyData} (h : Ev te σ H x) (hd : Dp K H x d) : EvD K te σ H d := ed_val h fun _ e => dp_ex e hd
theorem ed_int {i : Int} (h : Ev te σ H (.int i)) : EvD K te σ H (.int i) := ed_val h fun _ _ => .int i
theorem ed_bl {i : Bool} (h : Ev te σ H (.bl i)) : EvD K te σ H (.bool i) := ed_val h fun _ _ => .bl i
theorem ed_non (h : Ev te σ H .non) : EvD K te σ H .none := ed_val h fun _ _ => .non
theorem ed_str {s : Str} (h : Ev te σ H (.str s)) : EvD K te σ H (.str s) := ed_val h fun _ _ => .str s
theorem ed_U {xs : List Int} (h : EvU te σ H (xs.map V.int)) : EvD K te σ H (dI xs) := fun H1 e Q q => h H1 e _ fun p H2 _ e2 h2 => q (.ref p) H2 e2 (dp_date (st_of h2))
theorem ed_L {xs : List Int} (h : EvL te σ H (xs.map V.int)) : EvD K te σ H (dL xs) := fun H1 e Q q => h H1 e _ fun p H2 _ e2 h2 => q (.ref p) H2 e2 (dp_ints (sq_of h2))
theorem eds_nil : EvDs K tNil σ H [] := fun H1 _ _ q => q [] H1 (Ex.refl H1) .nil
theorem eds_cons {tr : TA} {d : PyData} {ds : List PyData} (h : EvD K te σ H d) (hr : EvDs K tr σ H ds) : EvDs K (tCons te tr) σ H (d :: ds) := fun H1 e Q q =>
  h H1 e _ fun x H2 e2 hx => hr H2 (e.trans e2) _ fun xs H3 e3 hxs => q (x :: xs) H3 (e2.trans e3) (.cons (dp_ex e3 hx) hxs)
theorem edl_lst {ta : TA} {ds : List PyData} (h : EvDs K ta σ H ds) (hl : ds.length ≤ 100000) : EvDL K (tLst ta) σ H ds := fun H1 e Q q =>
  h H1 e _ fun xs H2 e2 hx => ⟨sz_of (by rw [dpa_len hx]; exact hl), fun p hp => q p xs _ (fresh_back e2 hp) (e2.trans (Ex.new hp)) upd_same (dpa_ex (Ex.new hp) hx)⟩
theorem ed_DL {ds : List PyData} (h : EvDL K te σ H ds) : EvD K te σ H (.list ds) := fun H1 e Q q => h H1 e _ fun p xs H2 _ e2 h2 hd => q (.ref p) H2 e2 (.lst (sq_of h2) hd)
theorem ed_lst {ta : TA} {ds : List PyData} (h : EvDs K ta σ H ds) (hl : ds.length ≤ 100000) : EvD K (tLst ta) σ H (.list ds) := ed_DL (edl_lst h hl)
theorem ed_tup {ta : TA} {ds : List PyData} (h : EvDs K ta σ H ds) (hl : ds.length ≤ 100000) : EvD K (tTup ta) σ H (.tuple ds) := fun H1 e Q q =>
  h H1 e _ fun xs H2 e2 hx => ⟨sz_of (by rw [dpa_len hx]; exact hl), fun p hp => q (.ref p) _ (e2.trans (Ex.new hp)) (.tup (st_of upd_same) (dpa_ex (Ex.new hp) hx))⟩
theorem dpa_app : ∀ {xs ys : List V} {ds es : List PyData}, DpAll K H xs ds → DpAll K H ys es → DpAll K H (xs ++ ys) (ds ++ es)
  | _, _, _, _, .nil, h => h
  | _, _, _, _, .cons a t, h => .cons a (dpa_app t h)
theorem dpa_rep {xs : List V} {ds : List PyData} (h : DpAll K H xs ds) : ∀ k : Nat, DpAll K H (List.replicate k xs).flatten (List.replicate k ds).flatten
  | 0 => .nil
  | k + 1 => by
    rw [List.replicate_succ, List.replicate_succ, List.flatten_cons, List.flatten_cons]
    exact dpa_app h (dpa_rep h k)
theorem edl_rep {ds : List PyData} {k : Int} (h : EvDL K te σ H ds) (hk : ∀ H1, Ex H H1 → Ev tk σ H1 (.int k)) (h0 : 0 ≤ k ∧ k ≤ 10000) (hz : ds.length ≤ 100) : EvDL K (tOp rRep te tk) σ H ((List.replicate k.toNat ds).flatten) := fun H1 e Q q =>
  h H1 e _ fun p xs H2 np e2 hp hd => hk H2 (e.trans e2) H2 (Ex.refl H2) _ fun H3 e3 => ⟨p, k, xs, rfl, rfl, e3 _ _ hp, by omega, by omega, Nat.le_trans (Nat.mul_le_mul (by rw [dpa_len hd]; exact hz : xs.length ≤ 100) (show k.toNat ≤ 10000 by omega)) (by decide), fun l hl => q l _ _ (fresh_back (e2.trans e3) hl) ((e2.trans e3).trans (Ex.new hl)) upd_same (dpa_rep (dpa_ex (e3.trans (Ex.new hl)) hd) _)⟩
theorem edl_cat {ds es : List PyData} (h : EvDL K ta σ H ds) (hb : EvDL K tb σ H es) (hz : ds.length + es.length ≤ 100000) : EvDL K (tOp rCat ta tb) σ H (ds ++ es) := fun H1 e Q q =>
  h H1 e _ fun p xs H2 _ e2 h2 hd => hb H2 (e.trans e2) _ fun r ys H3 _ e3 h3 he => ⟨p, r, xs, ys, rfl, rfl, e3 _ _ h2, h3, sz_of (by rw [dpa_len hd, dpa_len he]; exact hz), fun l hl => q l _ _ (fresh_back (e2.trans e3) hl) ((e2.trans e3).trans (Ex.new hl)) upd_same (dpa_app (dpa_ex (e3.trans (Ex.new hl)) hd) (dpa_ex (Ex.new hl) he))⟩
theorem ev_neD {d : PyData} (h : EvD K ta σ H d) (hb : EvD K tb σ H d) (sd : SeqAt.shaped d = true) : Ev (tOp (rNeD K) ta tb) σ H (.bl false) := fun H1 e Q q =>
  h H1 e _ fun x H2 e2 hx => hb H2 (e.trans e2) _ fun y H3 e3 hy => rv_neSame (dp_ex e3 hx) hy sd H3 (Ex.refl H3) Q fun H4 e4 => q H4 ((e2.trans e3).trans e4)
theorem ev_eqD {d : PyData} (h : EvD K ta σ H d) (hb : EvD K tb σ H d) (sd : SeqAt.shaped d = true) : Ev (tOp (rEqD K) ta tb) σ H (.bl true) := fun H1 e Q q =>
  h H1 e _ fun x H2 e2 hx => hb H2 (e.trans e2) _ fun y H3 e3 hy => rv_eqSame (dp_ex e3 hx) hy sd H3 (Ex.refl H3) Q fun H4 e4 => q H4 ((e2.trans e3).trans e4)
theorem ev_sameD {n : Nat} {E : XK} {d : PyData} (h : EvD K ta σ H d) (hb : EvD K tb σ H d) (ok : okd n d) : Ev (tCall (spSame K n) [] E (tCons ta (tCons tb tNil))) σ H (.bl true) := fun H1 e Q q =>
  h H1 e _ fun x H2 e2 hx => hb H2 (e.trans e2) _ fun y H3 e3 hy => ⟨x, y, d, rfl, dp_ex e3 hx, hy, ok, fun H4 e4 => q H4 ((e2.trans e3).trans e4)⟩
theorem shaped_I (xs : List Int) : SeqAt.shaped (dI xs) = true := PySem.W.ke_shaped_ints xs
theorem shaped_L (xs : List Int) : SeqAt.shaped (dL xs) = true := PySem.W.ke_shaped_ints xs
theorem tups_cons (x : List Int) (xs : List (List Int)) : PyData.list (dI x :: xs.map fun x => PyData.tuple (x.map PyData.int)) = tupsD (x :: xs) := rfl
/-! ### new lists of new tuples of ints -/
def EvTs (ta : TA) (σ : L2.St) (H : Hp) (xss : List (List Int)) : Prop := ∀ H1, Ex H H1 → ∀ Q : List V → Hp → Prop, (∀ vs H2, Ex H1 H2 → TupsAt H2 vs xss → Q vs H2) → ta σ H1 Q
def EvTL (te : TE) (σ : L2.St) (H : Hp) (xss : List (List Int)) : Prop := ∀ H1, Ex H H1 → ∀ Q : VK, (∀ p vs H2, H1 p = none → Ex H1 H2 → H2 p = some (.lst vs) → TupsAt H2 vs xss → Q (.ref p) H2) → te σ H1 Q
theorem ets_nil : EvTs tNil σ H [] := fun H1 _ _ q => q [] H1 (Ex.refl H1) .nil
theorem ets_cons {tr : TA} {xs : List Int} {xss : List (List Int)} (h : EvU te σ H (xs.map V.int)) (hr : EvTs tr σ H xss) : EvTs (tCons te tr) σ H (xs :: xss) := fun H1 e Q q =>
  h H1 e _ fun p H2 _ e2 h2 => hr H2 (e.trans e2) _ fun vs H3 e3 t => q _ H3 (e2.trans e3) (.cons ⟨p, rfl, e3 _ _ h2⟩ t)
theorem etl_lst {ta : TA} {xss : List (List Int)} (h : EvTs ta σ H xss) (hl : xss.length ≤ 100000) : EvTL (tLst ta) σ H xss := fun H1 e Q q =>
  h H1 e _ fun vs H2 e2 t => ⟨sz_of (by rw [t.len]; exact hl), fun p hp => q p vs _ (fresh_back e2 hp) (e2.trans (Ex.new hp)) upd_same (t.kt (KT.ex (Ex.new hp)))⟩
theorem TupsAt.app {H : Hp} : ∀ {vs ws : List V} {xs ys : List (List Int)}, TupsAt H vs xs → TupsAt H ws ys → TupsAt H (vs ++ ws) (xs ++ ys)
  | _, _, _, _, .nil, h => h
  | _, _, _, _, .cons a t, h => .cons a (TupsAt.app t h)
theorem TupsAt.at_ {H : Hp} {vs : List V} {xs : List (List Int)} (h : TupsAt H vs xs) {n : Int} (h0 : 0 ≤ n) (h1 : n < xs.length) : ∃ (q : Addr) (x : List Int), x ∈ xs ∧ atI vs n = some (.ref q) ∧ H q = some (.tup (x.map V.int)) := by
  obtain ⟨j, rfl⟩ : ∃ j : Nat, n = (j : Int) := ⟨n.toNat, by omega⟩
  have key : ∀ {vs : List V} {xs : List (List Int)} (j : Nat), TupsAt H vs xs → j < xs.length → ∃ (q : Addr) (x : List Int), x ∈ xs ∧ vs[j]? = some (.ref q) ∧ H q = some (.tup (x.map V.int)) := by
    intro vs xs j t
    induction t generalizing j with
    | nil => intro h; simp at h
    | @cons v x vs xs a t ih =>
      intro h
      obtain ⟨q, rfl, hq⟩ := a
      match j with
      | 0 => exact ⟨q, x, List.mem_cons_self .., rfl, hq⟩
      | j + 1 =>
        obtain ⟨q, y, a, b, c⟩ := ih j (by simpa using h)
        exact ⟨q, y, List.mem_cons_of_mem _ a, b, c⟩
  obtain ⟨q, x, a, b, c⟩ := key j h (by omega)
  exact ⟨q, x, a, atI_nat b, c⟩
theorem f_evTL {xss : List (List Int)} (h : EvTL te σ H xss) (k : ∀ p vs H1, H p = none → Ex H H1 → H1 p = some (.lst vs) → TupsAt H1 vs xss → Q (.ref p) H1) : te σ H Q := h H (Ex.refl H) Q k
theorem f_lcR2 {ta : TA} {g : TG} {tt : TT} {vs : List Nat} (h : ta σ H fun us H1 => ∃ i j : Int, us = [.int i, .int j] ∧ (-(2 ^ 62) ≤ i ∧ i < 2 ^ 62 ∧ -(2 ^ 62) ≤ j ∧ j < 2 ^ 62) ∧ ∀ D, H1 D = none → ∃ W : Nat → Nat → Hp → Prop, (∃ m, W 0 m (upd H1 D (.lst []))) ∧ ∀ k m H, W k m H →
    ((Itr i (j - i).toNat).stop k H ∧ Q (.ref D) H) ∨ ((Itr i (j - i).toNat).go k H ∧ ∃ Nx : Hp → Prop, (∀ H', Nx H' → ∃ m', m' < m ∧ W (k + 1) m' H') ∧ ∀ x H', (Itr i (j - i).toNat).yld k H x H' → g x (wipe σ vs) H' fun σ2 H2 => wipe σ2 vs = wipe σ vs ∧ tt σ2 H2 fun b H3 =>
      if b = true then te σ2 H3 fun y H4 => ∃ acc, H4 D = some (.lst acc) ∧ acc.length < sizeLine ∧ Nx (upd H4 D (.lst (acc ++ [y]))) else Nx H3)) : tLc (iRng2 ta) g tt te vs σ H Q := h
/-- a < b < c, as a value -/
theorem ev_chain {ra rb : R2} {tc : TE} {x y z : V} {a b : Bool} (h1 : Ev ta σ H x) (h2 : Ev tb σ H y) (hr : RV ra x y H (.bl a)) (h3 : a = true → Ev tc σ H z) (hs : a = true → RV rb y z H (.bl b)) : Ev (tChain ra rb ta tb tc) σ H (.bl (a && b)) := fun H1 e Q q =>
  h1 H1 e _ fun H2 e2 => h2 H2 (e.trans e2) _ fun H3 e3 => hr H3 ((e.trans e2).trans e3) _ fun H4 e4 => ⟨a, rfl, by
    have x4 := ((e.trans e2).trans e3).trans e4
    have y4 := (e2.trans e3).trans e4
    cases a with
    | true => exact h3 rfl H4 x4 _ fun H5 e5 => hs rfl H5 (x4.trans e5) Q fun H6 e6 => q H6 ((y4.trans e5).trans e6)
    | false => exact q H4 y4⟩
/-! ### going on from what is known -/
theorem f_cont {F : VK → Prop} {φ : V → Hp → Prop} {Q : VK} (h : ∀ R : VK, (∀ v H, φ v H → R v H) → F R) (q : ∀ v H, φ v H → Q v H) : F Q := h Q q
theorem f_seqX {t1 t2 : TS} {D : Ends} (h : ∀ N : L2.St → Hp → Prop, (∀ H', Ex H H' → N σ H') → t1 { D with nx := N } σ H) (k : ∀ H', Ex H H' → t2 D σ H') : tSeq t1 t2 D σ H := h _ k
theorem f_seqC {t1 t2 : TS} {D : Ends} (φ : L2.St → Hp → Prop) (h : ∀ N : L2.St → Hp → Prop, (∀ σ' H', φ σ' H' → N σ' H') → t1 { D with nx := N } σ H) (k : ∀ σ' H', φ σ' H' → t2 D σ' H') : tSeq t1 t2 D σ H := h _ k
/-- a tuple, new or not -/
def EvU0 (te : TE) (σ : L2.St) (H : Hp) (xs : List V) : Prop := ∀ H1, Ex H H1 → ∀ Q : VK, (∀ p H2, Ex H1 H2 → H2 p = some (.tup xs) → Q (.ref p) H2) → te σ H1 Q
theorem EvU0.is {xs ys : List V} (h : EvU0 te σ H xs) (e : xs = ys) : EvU0 te σ H ys := e ▸ h
theorem EvU.is {xs ys : List V} (h : EvU te σ H xs) (e : xs = ys) : EvU te σ H ys := e ▸ h
theorem EvU.u0 {xs : List V} (h : EvU te σ H xs) : EvU0 te σ H xs := fun H1 e Q q => h H1 e Q fun p H2 _ e2 h2 => q p H2 e2 h2
theorem ed_U0 {xs : List Int} (h : EvU0 te σ H (xs.map V.int)) : EvD K te σ H (dI xs) := fun H1 e Q q => h H1 e _ fun p H2 e2 h2 => q (.ref p) H2 e2 (dp_date (st_of h2))
theorem f_evU0 {xs : List V} (h : EvU0 te σ H xs) (k : ∀ p H1, Ex H H1 → H1 p = some (.tup xs) → Q (.ref p) H1) : te σ H Q := h H (Ex.refl H) Q k
theorem s_asgU0 {i : Nat} {D : Ends} {xs : List V} (h : EvU0 te σ H xs) (k : ∀ p H1, Ex H H1 → H1 p = some (.tup xs) → D.nx (σ.set i (some (.ref p))) H1) : tAsg te (gName i) D σ H := h H (Ex.refl H) _ fun p H1 e h1 => k p H1 e h1
/-- a slice of a tuple -/
theorem eu_take {tk : TE} {a : Addr} {xs : List V} {n : Nat} (h : Ev te σ H (.ref a)) (hn : Ev tk σ H (.int (n : Int))) (hs : SqT K H a xs) (hl : n < xs.length) : EvU0 (tSl (rSlT K) te tNoPart (tPart tk)) σ H (xs.take n) := by
  intro H1 e Q q
  refine h H1 e _ fun H2 e2 => eo_none H2 (e.trans e2) _ fun H3 e3 => eo_some hn H3 ((e.trans e2).trans e3) _ fun H4 e4 => ⟨a, xs, rfl, ex_t (((e.trans e2).trans e3).trans e4) hs, fun z => ?_, fun p hp => q p _ (((e2.trans e3).trans e4).trans (Ex.new hp)) ?_⟩
  · have z2 := z.2
    rw [HT.sIx_nat] at z2; omega
  · rw [upd_same, cutV_take]
/-- the script, kept by draws from a source that is new -/
theorem sq_kr {H H1 H' : Hp} {r a : Addr} {xs : List V} (hS : SqL K H a xs) (hn : H r = none) (e : Ex H H1) (k : Kr r H1 H') : SqL K H' a xs := by
  rcases hS with (h | ⟨o, h⟩) | h
  · exact .inl (.inl (k _ _ (ne_of_none h hn) (e _ _ h)))
  · exact .inl (.inr ⟨o, k _ _ (ne_of_none h hn) (e _ _ h)⟩)
  · exact .inr h
/-! ### more of the second source -/
theorem KT.kr {H H' : Hp} {r : Addr} {B : Nat} (S : Rg H r B) (k : Kr r H H') : KT H H' := fun q xs h => by
  obtain ⟨a, b, c, g1, _⟩ := S.ex
  exact k q _ (ne_of h g1 (by intro z; cases z)) h
/-- a new tuple is made in the midst of draws -/
theorem f_newUr {r : Addr} {B : Nat} {xs : List V} {R : Addr → Prop} (S : Rg H r B) (hz : xs.length ≤ 1000) (q : ∀ p, H p = none → p ≠ r → Rg (upd H p (.tup xs)) r B → Ex H (upd H p (.tup xs)) → (upd H p (.tup xs)) p = some (.tup xs) → R p) : xs.length ≤ sizeLine ∧ ∀ p, H p = none → R p :=
  ⟨sz1000 hz, fun p hp => q p hp (S.free hp) (S.ex_ (Ex.new hp)) (Ex.new hp) upd_same⟩
/-- [a, b, ..][draw], the list made ahead -/
theorem f_ixL {p : Addr} {xs : List V} {n : Int} {v : V} (h : H p = some (.lst xs)) (ha : atI xs n = some v) (q : Q v H) : rIxL K (.ref p) (.int n) H Q := ⟨p, xs, n, v, rfl, rfl, sq_of h, ha, q⟩
end
/-! ### a bag of draws: a dict of a list, what is left, the turn, a fold -/
section
variable {K : PySem.W.Frag} {σ : L2.St} {H : Hp} {Q : VK} {te ta tb tk td ty : TE}
def bagK (g : Addr) (l t f : Int) : List (Key × V) := [(.inr "great", .ref g), (.inr "left", .int l), (.inr "turn", .int t), (.inr "fold", .int f)]
structure Bg (H : Hp) (d g : Addr) (B : Nat) : Prop where
  ex : ∃ (gs : List Int) (l t f : Int), H d = some (.dK (bagK g l t f)) ∧ H g = some (.lst (gs.map V.int)) ∧ gs.length ≤ 63 ∧ 0 ≤ t ∧ t + B ≤ 2 ^ 30 ∧ 0 ≤ f ∧ f < 2 ^ 61
theorem Bg.less {H : Hp} {d g : Addr} {B B' : Nat} (S : Bg H d g B) (h : B' ≤ B) : Bg H d g B' := by
  obtain ⟨gs, l, t, f, h1, h2, h3, h4, h5, h6⟩ := S.ex
  exact ⟨gs, l, t, f, h1, h2, h3, h4, by omega, h6⟩
theorem Bg.ex_ {H H' : Hp} {d g : Addr} {B : Nat} (S : Bg H d g B) (e : Ex H H') : Bg H' d g B := by
  obtain ⟨gs, l, t, f, h1, h2, h⟩ := S.ex
  exact ⟨gs, l, t, f, e _ _ h1, e _ _ h2, h⟩
theorem Bg.free {H : Hp} {d g : Addr} {B : Nat} (S : Bg H d g B) {p : Addr} (h : H p = none) : p ≠ d ∧ p ≠ g := by
  obtain ⟨gs, l, t, f, h1, h2, _⟩ := S.ex
  exact ⟨(ne_of_none h1 h).symm, (ne_of_none h2 h).symm⟩
theorem Bg.upd {H : Hp} {d g l : Addr} {B : Nat} {o : HO} (S : Bg H d g B) (f : l ≠ d ∧ l ≠ g) : Bg (upd H l o) d g B := by
  obtain ⟨gs, l', t, fo, h1, h2, h⟩ := S.ex
  exact ⟨gs, l', t, fo, by rw [upd_ne f.1.symm]; exact h1, by rw [upd_ne f.2.symm]; exact h2, h⟩
theorem Kp.newB {d g p : Addr} {B : Nat} {H H' : Hp} (k : Kp d g H H') (S : Bg H' d g B) (h : H' p = none) : H p = none := by
  have f := S.free h
  rcases e : H p with _ | o
  · rfl
  · rw [k.at f e] at h; cases h
def spBag (K : PySem.W.Frag) : Sp := fun vs H Q _ => ∃ (a : Addr) (ns : List Int), vs = [.ref a] ∧ SqL K H a (ns.map V.int) ∧ ns.length ≤ 63 ∧ ∀ d g H', H d = none → H g = none → Bg H' d g (2 ^ 29) → Ex H H' → Q (.ref d) H'
def spBdraw : Sp := fun vs H Q _ => ∃ (d g : Addr) (many : Int) (B : Nat), vs = [.ref d, .int many] ∧ 0 < many ∧ many ≤ 10 ^ 60 ∧ Bg H d g (B + 1) ∧ ∀ n H', 0 ≤ n → n < many → Bg H' d g B → Kp d g H H' → Q (.int n) H'
theorem KT.kb {H H' : Hp} {d g : Addr} {B : Nat} (S : Bg H d g B) (k : Kp d g H H') : KT H H' := fun q xs h => by
  obtain ⟨gs, l, t, f, h1, h2, _⟩ := S.ex
  exact k q _ (ne_of h h1 (by intro z; cases z)) (ne_of h h2 (by intro z; cases z)) h
theorem f_bdraw {d g : Addr} {B : Nat} {many : Int} {E : XK} (S : Bg H d g (B + 1)) (h0 : 0 < many) (hb : many ≤ 10 ^ 60) (q : ∀ n H', 0 ≤ n → n < many → Bg H' d g B → Kp d g H H' → Q (.int n) H') :
    spBdraw ([.ref d, .int many] ++ []) H Q E := ⟨d, g, many, B, rfl, h0, hb, S, q⟩
theorem f_newLb {d g : Addr} {B : Nat} {xs : List V} {R : Addr → Prop} (S : Bg H d g B) (hz : xs.length ≤ 1000) (q : ∀ p, H p = none → p ≠ d ∧ p ≠ g → Bg (upd H p (.lst xs)) d g B → Ex H (upd H p (.lst xs)) → (upd H p (.lst xs)) p = some (.lst xs) → R p) : xs.length ≤ sizeLine ∧ ∀ p, H p = none → R p :=
  ⟨sz1000 hz, fun p hp => q p hp (S.free hp) (S.ex_ (Ex.new hp)) (Ex.new hp) upd_same⟩
theorem f_newUb {d g : Addr} {B : Nat} {xs : List V} {R : Addr → Prop} (S : Bg H d g B) (hz : xs.length ≤ 1000) (q : ∀ p, H p = none → p ≠ d ∧ p ≠ g → Bg (upd H p (.tup xs)) d g B → Ex H (upd H p (.tup xs)) → (upd H p (.tup xs)) p = some (.tup xs) → R p) : xs.length ≤ sizeLine ∧ ∀ p, H p = none → R p :=
  ⟨sz1000 hz, fun p hp => q p hp (S.free hp) (S.ex_ (Ex.new hp)) (Ex.new hp) upd_same⟩
theorem f_ixT {p : Addr} {xs : List V} {n : Int} {v : V} (h : H p = some (.tup xs)) (ha : atI xs n = some v) (q : Q v H) : rIxT K (.ref p) (.int n) H Q := ⟨p, xs, n, v, rfl, rfl, st_of h, ha, q⟩
/-- d["k"] -/
theorem ev_dg {d : Addr} {kvs : List (Key × V)} {k : Str} {v : V} (h : Ev td σ H (.ref d)) (hk : Ev ty σ H (.str k)) (hd : H d = some (.dK kvs)) (hv : valV kvs (.inr k) = some v) : Ev (tDGet td ty) σ H v := fun H1 e Q q =>
  h H1 e _ fun H2 e2 => hk H2 (e.trans e2) _ fun H3 e3 => ⟨d, v, rfl, by rw [← hv]; exact DGet.k (k := .inr k) (e3 _ _ (e2 _ _ (e _ _ hd))), q H3 (e2.trans e3)⟩
/-- d["k"] = e -/
theorem s_dput {D : Ends} {d : Addr} {kvs : List (Key × V)} {k : Str} {v : V} (hd : H d = some (.dK kvs)) (hz : kvs.length ≤ 1000) (h : Ev te σ H v) (ho : Ev td σ H (.ref d)) (hk : Ev ty σ H (.str k)) (q : ∀ H1, Ex H H1 → D.nx σ (upd H1 d (.dK (putK kvs (.inr k) v)))) : sDPut td ty te D σ H :=
  h H (Ex.refl H) _ fun H1 e1 => ho H1 e1 _ fun H2 e2 => hk H2 (e1.trans e2) _ fun H3 e3 => ⟨d, _, rfl, DPut.k (k := .inr k) (((e1.trans e2).trans e3) _ _ hd) (Nat.lt_of_le_of_lt hz (by decide)), q H3 ((e1.trans e2).trans e3)⟩
/-- n turns, each of at most c draws and an int with φ -/
theorem lc_drawsB {vs : List Nat} {j n : Nat} {d g : Addr} {B c : Nat} (φ : Int → Prop) (S : Bg H d g (B + c * n)) (hn : n ≤ 1000) (hw : ∀ x, wipe ((wipe σ vs).set j (some x)) vs = wipe σ vs)
    (turn : ∀ (i : Nat) H' b, i < n → Kp d g H H' → Bg H' d g (b + c) → ∀ R : VK, (∀ z H2, φ z → Kp d g H' H2 → Bg H2 d g b → R (.int z) H2) → te ((wipe σ vs).set j (some (.int ((0 : Int) + (i : Int))))) H' R)
    (hd : ∀ (ks : List Int) (p : Addr) (H' : Hp), H p = none → p ≠ d ∧ p ≠ g → ks.length = n → (∀ k, k ∈ ks → φ k) → Bg H' d g B → Kp d g H H' → H' p = some (.lst (ks.map V.int)) → Q (.ref p) H') :
    LcR n (gName j) tYes te vs σ H Q := fun D hD => by
  have fD := S.free hD
  refine lc_range (lo := 0) (n := n) (fun i H' => ∃ ks : List Int, ks.length = i ∧ (∀ k, k ∈ ks → φ k) ∧ H' D = some (.lst (ks.map V.int)) ∧ Bg H' d g (B + c * (n - i)) ∧ Kp d g H H') ⟨[], rfl, (fun _ h => by simp at h), upd_same, S.ex_ (Ex.new hD), .of (Ex.new hD)⟩ (fun i H' hi ⟨ks, h1, h2, h3, h4, h5⟩ => ⟨hw _, ?_⟩) (fun H' ⟨ks, h1, h2, h3, h4, h5⟩ => hd ks D H' hD fD h1 h2 (h4.less (by omega)) h5 h3)
  have e : B + c * (n - i) = B + c * (n - (i + 1)) + c := by
    rw [show n - i = (n - (i + 1)) + 1 by omega, Nat.mul_add, Nat.mul_one]; omega
  rw [e] at h4
  refine f_yes ?_
  rw [if_pos rfl]
  refine turn i H' _ hi h5 h4 _ fun z H2 hz k2 S2 => ⟨_, k2.at fD h3, Nat.lt_of_le_of_lt (by rw [List.length_map]; omega : _ ≤ 1000) (by decide), ks ++ [z], by simp [h1], fun k hk => ?_, by rw [upd_same, List.map_append]; rfl, S2.upd fD, fun b o g1 g2 g => ?_⟩
  · rcases List.mem_append.mp hk with h | h
    · exact h2 k h
    · rw [List.mem_singleton.mp h]; exact hz
  · rw [upd_ne (ne_of_none g hD)]
    exact k2 b o g1 g2 (h5 b o g1 g2 g)
end
end Mc
namespace Mc
open PySem L2 Evl
/-! ### groups: their keys; a dict made by a comprehension -/
theorem putG_keys (k v : Int) : ∀ g : List (Int × List Int), (putG g k v).map Prod.fst = if k ∈ g.map Prod.fst then g.map Prod.fst else g.map Prod.fst ++ [k]
  | [] => rfl
  | (j, l) :: g => by
    have ih := putG_keys k v g
    unfold putG
    by_cases e : j = k
    · subst e
      rw [if_pos rfl, if_pos (by simp)]; rfl
    · have e2 : (k ∈ ((j, l) :: g).map Prod.fst) ↔ k ∈ g.map Prod.fst := by
        rw [List.map_cons, List.mem_cons]
        exact ⟨fun h => h.elim (fun z => absurd z.symm e) id, .inr⟩
      rw [if_neg e, List.map_cons, ih]
      by_cases h : k ∈ g.map Prod.fst
      · rw [if_pos h, if_pos (e2.mpr h)]; rfl
      · rw [if_neg h, if_neg (fun z => h (e2.mp z))]; rfl
theorem grp_nodup (d : Int) (ns : List Int) : ((grp d ns).map Prod.fst).Nodup := by
  have key : ∀ i, ((grp d (ns.take i)).map Prod.fst).Nodup := fun i => by
    induction i with
    | zero => exact List.nodup_nil
    | succ i ih =>
      cases h : ns[i]? with
      | none => rw [List.take_add_one, h, Option.toList_none, List.append_nil]; exact ih
      | some n =>
        rw [grp_take h, putG_keys]
        split
        · exact ih
        · next hn => exact List.nodup_append.mpr ⟨ih, (by simp), fun a ha b hb => by
            rw [List.mem_singleton.mp hb]
            exact fun z => hn (z ▸ ha)⟩
  have z := key ns.length
  rw [List.take_length] at z
  exact z
/-- one more group -/
theorem GAt.snoc {H0 H : Hp} {k : Int} {p : Addr} {l : List Int} (n : H0 p = none) (h : H p = some (.lst (l.map V.int))) : ∀ {kvs : List (Key × V)} {gs : List (Int × List Int)}, GAt H0 H kvs gs → (∀ kv, kv ∈ kvs → kv.2 ≠ .ref p) → GAt H0 H (kvs ++ [(.inl k, .ref p)]) (gs ++ [(k, l)])
  | _, _, .nil, _ => .cons n h (fun _ h => by simp at h) .nil
  | _, _, .cons (p := q) m h1 d t, far => .cons m h1 (fun kv hkv => by
      rcases List.mem_append.mp hkv with h2 | h2
      · exact d kv h2
      · rw [List.mem_singleton.mp h2]
        exact fun z => far _ (List.mem_cons_self ..) z.symm) (t.snoc n h fun kv hkv => far kv (List.mem_cons_of_mem _ hkv))
theorem GAt.none_ {H0 H : Hp} {k : Int} : ∀ {kvs : List (Key × V)} {gs : List (Int × List Int)}, GAt H0 H kvs gs → k ∉ gs.map Prod.fst → valV kvs (.inl k : Key) = none
  | _, _, .nil, _ => valV_nil
  | _, _, .cons (k := j) n h d t, hk => by
    rw [List.map_cons, List.mem_cons] at hk
    rw [valV_neg (show ¬ (Sum.inl j : Key) = Sum.inl k from fun z => hk (.inl (Sum.inl.inj z).symm))]
    exact t.none_ fun z => hk (.inr z)
theorem GAt.some_ {H0 H : Hp} : ∀ {kvs : List (Key × V)} {gs : List (Int × List Int)} {i : Nat} {x : Int × List Int}, GAt H0 H kvs gs → (gs.map Prod.fst).Nodup → gs[i]? = some x → ∃ p, kvs[i]? = some (.inl x.1, .ref p) ∧ valV kvs (.inl x.1 : Key) = some (.ref p) ∧ H0 p = none ∧ H p = some (.lst (x.2.map V.int))
  | _, _, _, _, .nil, _, h => by simp at h
  | _, _, 0, _, .cons (p := p) m h d t, _, e => by
    cases Option.some.inj e
    exact ⟨p, rfl, valV_pos rfl, m, h⟩
  | _, _, i + 1, x, .cons (k := j) (gs := gs) m h d t, nd, e => by
    rw [List.map_cons] at nd
    have e : gs[i]? = some x := e
    have nd2 := List.nodup_cons.mp nd
    obtain ⟨p, a, b, c⟩ := t.some_ (i := i) nd2.2 e
    have hx : x.1 ≠ j := fun z => nd2.1 (List.mem_map.mpr ⟨x, List.mem_of_getElem? e, z⟩)
    exact ⟨p, a, by rw [valV_neg (show ¬ (Sum.inl j : Key) = Sum.inl x.1 from fun z => hx (Sum.inl.inj z).symm)]; exact b, c⟩
theorem GAt.far {H0 H : Hp} {p : Addr} {o : Option HO} (np : H p = o) (hn : ∀ xs, o ≠ some (.lst xs)) : ∀ {kvs : List (Key × V)} {gs : List (Int × List Int)}, GAt H0 H kvs gs → ∀ kv, kv ∈ kvs → kv.2 ≠ .ref p
  | _, _, g, kv, hkv, z => by
    obtain ⟨q, l, e, h⟩ := g.news kv hkv
    rw [e] at z
    cases z
    rw [np] at h
    exact hn _ h
theorem f_dc {wi : TI} {g : TG} {tt : TT} {tk tv : TE} {vs : List Nat} {σ : L2.St} {H : Hp} {Q : VK} (h : wi σ H fun J H1 => ∀ D, H1 D = none → ∃ W : Nat → Nat → Hp → Prop, (∃ m, W 0 m (upd H1 D (.dK []))) ∧ ∀ i m H, W i m H →
    (J.stop i H ∧ Q (.ref D) H) ∨ (J.go i H ∧ ∃ Nx : Hp → Prop, (∀ H', Nx H' → ∃ m', m' < m ∧ W (i + 1) m' H') ∧ ∀ x H', J.yld i H x H' → g x (wipe σ vs) H' fun σ2 H2 => wipe σ2 vs = wipe σ vs ∧ tt σ2 H2 fun b H3 =>
      if b = true then tk σ2 H3 fun y H4 => tv σ2 H4 fun z H5 => ∃ kvs k, y = kV k ∧ H5 D = some (.dK kvs) ∧ kvs.length < sizeLine ∧ Nx (upd H5 D (.dK (putK kvs k z))) else Nx H3)) : tDc wi g tt tk tv vs σ H Q := h
theorem f_keys {td : TE} {σ : L2.St} {H : Hp} {R : It → Hp → Prop} (h : td σ H fun x H1 => ∃ d o, x = .ref d ∧ ((∃ kvs, H1 d = some (.frz o (.dK kvs)) ∧ R (Itk d o kvs) H1) ∨ ∃ kvs, H1 d = some (.frz o (.dT kvs)) ∧ R (Itkt d o kvs) H1)) : iKeys td σ H R := h
theorem f_frz {te : TE} {σ : L2.St} {H : Hp} {Q : VK} (h : te σ H fun x H1 => ∃ (d : Addr) (u : HO), x = .ref d ∧ H1 d = some u ∧ Mut (some u) ∧ ∀ od, Q x (upd H1 d (.frz od u))) : tFrz te σ H Q := h
theorem for_grp2 {K : PySem.W.Frag} {a k : Addr} {o : Obj} {kvs : List (Key × V)} {gs : List (Int × List Int)} {H0 G : Hp} {i j : Nat} {tu : TS} {D : Ends} {σ : L2.St} (ha : G a = some (.frz o (.dK kvs))) (hg : GAt H0 G kvs gs) (hk : ∃ u, H0 k = some u) (hak : a ≠ k)
    (P : Nat → L2.St → Hp → Prop) (h0 : P 0 σ G) (hs : ∀ (n : Nat) (x : Int × List Int) (p : Addr) (τ : L2.St) (U : Hp), gs[n]? = some x → P n τ U → Kr k G U → p ≠ k → U p = some (.lst (x.2.map V.int)) → ∀ T, U T = none →
      tu { D with nx := fun τ' U' => P (n + 1) τ' U' ∧ Kr k G U', ct := fun τ' U' => P (n + 1) τ' U' ∧ Kr k G U', bk := D.nx } ((τ.set i (some (.int x.1))).set j (some (.ref p))) (upd U T (.tup [.int x.1, .ref p])))
    (hd : ∀ τ U, P gs.length τ U → Kr k G U → D.nx τ U) :
    ∃ W : Nat → Nat → L2.St → Hp → Prop, (∃ m, W 0 m σ G) ∧ ∀ n m τ U, W n m τ U →
      ((Iti a o kvs).stop n U ∧ D.nx τ U) ∨ ((Iti a o kvs).go n U ∧ ∃ N : L2.St → Hp → Prop, (∀ τ' U', N τ' U' → ∃ m', m' < m ∧ W (n + 1) m' τ' U') ∧ ∀ x U', (Iti a o kvs).yld n U x U' → gTup K 2 (gCons (gName i) (gCons (gName j) gNil)) x τ U' fun τ2 U2 => tu { D with nx := N, ct := N, bk := D.nx } τ2 U2) := by
  have hl := hg.len
  refine ⟨fun n m τ U => m = kvs.length - n ∧ n ≤ kvs.length ∧ P n τ U ∧ Kr k G U, ⟨_, rfl, Nat.zero_le _, h0, Kr.refl⟩, ?_⟩
  rintro n m τ U ⟨rfl, hn, hp, kr⟩
  have haU : U a = some (.frz o (.dK kvs)) := kr.at hak ha
  by_cases hlt : n < kvs.length
  · refine .inr ⟨⟨haU, hlt⟩, fun τ' U' => P (n + 1) τ' U' ∧ Kr k G U', fun τ' U' z => ⟨kvs.length - (n + 1), by omega, rfl, hlt, z⟩, ?_⟩
    rintro x U' ⟨T, y, v, h1, rfl, hT, rfl⟩
    have hx : gs[n]? = some gs[n] := List.getElem?_eq_getElem (hl ▸ hlt)
    obtain ⟨p, h2, h3, h4⟩ := hg.get hx
    rw [h1] at h2
    cases h2
    have hpk : p ≠ k := fun z => by
      obtain ⟨u, hu⟩ := hk
      rw [z, hu] at h3; cases h3
    exact ⟨T, _, rfl, st_of upd_same, rfl, _, _, rfl, _, _, rfl, rfl, hs n _ p τ U hx hp kr hpk (kr.at hpk h4) T hT⟩
  · have e : n = kvs.length := by omega
    subst e
    exact .inl ⟨⟨haU, Nat.le_refl _⟩, hd τ U (hl ▸ hp) kr⟩
/-- [v(x) for x in a new list of ints] -/
theorem el_lcNI {K : PySem.W.Frag} {σ : L2.St} {H : Hp} {tl te : TE} {ns : List Int} {j : Nat} {vs : List Nat} (v : Int → V) (h : EvL tl σ H (ns.map V.int)) (hz : ns.length ≤ 40000) (hw : ∀ x, wipe ((wipe σ vs).set j (some x)) vs = wipe σ vs)
    (he : ∀ (x : Int) H1, Ex H H1 → x ∈ ns → Ev te ((wipe σ vs).set j (some (.int x))) H1 (v x)) : EvL (tLc (iList K tl) (gName j) tYes te vs) σ H (ns.map v) := by
  have z := el_lcNL (K := K) (t := tYes) (te := te) (j := j) (vs := vs) (fun _ => true) (fun i => v (ns.getD i 0)) h (by rw [List.length_map]; exact hz) hw (fun i x H1 _ _ => et_yes rfl) fun i x H1 e hi _ => by
    rw [List.getElem?_map] at hi
    obtain ⟨n, hn, rfl⟩ := Option.map_eq_some_iff.mp hi
    have e2 : ns.getD i 0 = n := by rw [List.getD_eq_getElem?_getD, hn]; rfl
    rw [e2]
    exact he n H1 e (List.mem_of_getElem? hn)
  rw [given_all, List.length_map, range_map v ns] at z
  exact z
section
variable {K : PySem.W.Frag} {σ : L2.St} {H : Hp} {Q : VK}
theorem f_callN {n m : Nat} {sp : Sp} {gV : List V → List V → List V} {E : XK} {ta tk : TA} (h : ta σ H fun vs H1 => tk σ H1 fun zs H2 => vs.length = n ∧ zs.length = m ∧ sp (gV vs zs) H2 Q E) : tCallN n m sp gV E ta tk σ H Q := h
/-- for x in a list, told as it comes -/
theorem f_forN {tl : TE} {g : TG} {tu : TS} {D : Ends} (h : tl σ H fun x H1 => ∃ a, x = .ref a ∧ (∃ xs, SqL K H1 a xs) ∧ ∃ W : Nat → Nat → L2.St → Hp → Prop, (∃ m, W 0 m σ H1) ∧ ∀ i m σ H, W i m σ H →
    ((Itl K a).stop i H ∧ D.nx σ H) ∨ ((Itl K a).go i H ∧ ∃ N : L2.St → Hp → Prop, (∀ σ' H', N σ' H' → ∃ m', m' < m ∧ W (i + 1) m' σ' H') ∧ ∀ x H', (Itl K a).yld i H x H' → g x σ H' fun σ2 H2 => tu { D with nx := N, ct := N, bk := D.nx } σ2 H2)) : tFor (iList K tl) g tu D σ H := h
end
section
variable {K : PySem.W.Frag} {w : World} {σ : L2.St} {H : Hp} {ta tb te tl : TE} {t tt : TT}
theorem eu_if {b : Bool} {xs : List V} (h : EvT t σ H b) (h1 : b = true → EvU ta σ H xs) (h2 : b = false → EvU tb σ H xs) : EvU (tIf t ta tb) σ H xs := fun H1 e Q q => h H1 e _ fun H2 e2 => by
  cases b with
  | true =>
    show ta σ H2 Q
    exact h1 rfl H2 (e.trans e2) Q fun p H3 np e3 h3 => q p H3 (fresh_back e2 np) (e2.trans e3) h3
  | false =>
    show tb σ H2 Q
    exact h2 rfl H2 (e.trans e2) Q fun p H3 np e3 h3 => q p H3 (fresh_back e2 np) (e2.trans e3) h3
theorem inV_ints (z : Int) : ∀ ks : List Int, inV (.int z) (ks.map V.int) = decide (z ∈ ks)
  | [] => by simp [inV]
  | k :: ks => by
    have ih := inV_ints z ks
    unfold inV at ih ⊢
    rw [List.map_cons, List.any_cons, ih]
    by_cases h : k = z
    · subst h
      rw [decide_eq_true (List.mem_cons_self ..)]
      have e : eqV (V.int k) (V.int k) = true := by simp [eqV]
      rw [e]; rfl
    · have e : eqV (V.int k) (V.int z) = false := by simp [eqV]; exact h
      rw [e, Bool.false_or]
      exact decide_eq_decide.mpr ⟨fun q => List.mem_cons_of_mem _ q, fun q => (List.mem_cons.mp q).elim (fun e => absurd e.symm h) id⟩
theorem flat_ints (ks : List Int) : (ks.map V.int).all flatV = true := by
  rw [List.all_map, List.all_eq_true]
  intro x _
  rfl
/-- sorted({f(x) for x in ns if φ(x)}) -/
theorem el_sortedScF {a : Addr} {ns : List Int} {j : Nat} {vs : List Nat} (φ : Int → Bool) (f : Int → Int) (h : Ev tl σ H (.ref a)) (hx : SqL K H a (ns.map V.int)) (hz : ns.length ≤ 1000) (hw : ∀ x, wipe ((wipe σ vs).set j (some x)) vs = wipe σ vs)
    (ht : ∀ (x : Int) (H1 : Hp), Ex H H1 → EvT tt ((wipe σ vs).set j (some (.int x))) H1 (φ x)) (he : ∀ (x : Int) (H1 : Hp), Ex H H1 → Ev te ((wipe σ vs).set j (some (.int x))) H1 (.int (f x))) : EvL (tCB (rSortedA w) (tCons (tScI w (iList K tl) (gName j) tt te vs) tNil)) σ H ((srt ((ns.filter φ).map f)).map V.int) := fun H1 e Q q =>
  h H1 e _ fun H2 e2 => ⟨a, rfl, ⟨_, ex_l (e.trans e2) hx⟩, fun D hD => by
    have hx2 := ex_l (e.trans e2) hx
    have z0 : (fun _ : Int => false) = fun y => decide (y ∈ ([] : List Int)) := by funext y; simp
    refine ⟨fun t m U => m = ns.length - t ∧ t ≤ ns.length ∧ Ex H2 U ∧ ∃ c, c ≤ t ∧ U D = some (SetO w D (fun y => decide (y ∈ ((ns.take t).filter φ).map f)) c), ⟨ns.length, rfl, Nat.zero_le _, Ex.new hD, 0, Nat.le_refl _, by rw [upd_same, z0]; rfl⟩, ?_⟩
    rintro t m U ⟨rfl, hlt', eU, c, hc, hU⟩
    have q2 := ex_l eU hx2
    have x2 := (e.trans e2).trans eU
    by_cases hlt : t < ns.length
    · have hat : (ns.map V.int)[t]? = some (.int ns[t]) := by rw [List.getElem?_map, List.getElem?_eq_getElem hlt]; rfl
      have htk : ns.take (t + 1) = ns.take t ++ [ns[t]] := by rw [List.take_add_one, List.getElem?_eq_getElem hlt]; rfl
      refine .inr ⟨⟨_, _, q2, hat⟩, fun U' => Ex H2 U' ∧ ∃ c, c ≤ t + 1 ∧ U' D = some (SetO w D (fun y => decide (y ∈ ((ns.take (t + 1)).filter φ).map f)) c), fun U' z => ⟨ns.length - (t + 1), by omega, rfl, hlt, z⟩, fun x U' y => ?_⟩
      obtain ⟨rfl, y⟩ := y
      have ex : x = .int ns[t] := Option.some.inj ((y _ q2).symm.trans hat)
      subst ex
      refine ⟨hw _, ht _ _ x2 _ (Ex.refl _) _ fun U3 e3 => ?_⟩
      rw [htk, List.filter_append, List.map_append]
      cases hφ : φ ns[t] with
      | true =>
        rw [if_pos rfl, List.filter_cons_of_pos hφ]
        refine f_ev (he _ _ (x2.trans e3)) fun U4 e4 => ⟨f ns[t], _, c, rfl, e4 _ _ (e3 _ _ hU), Nat.lt_of_le_of_lt (show c + 1 ≤ 1001 by omega) (by decide), fun b o g => ?_, ?_⟩
        · rw [upd_ne (ne_of_none g hD)]; exact e4 _ _ (e3 _ _ (eU _ _ g))
        · refine ⟨_, ?_, by rw [upd_same]; congr 2; funext y; simp only [List.filter_nil, List.map_cons, List.map_nil, List.mem_append, List.mem_singleton, Bool.decide_or]⟩
          split <;> omega
      | false =>
        rw [if_neg (fun z => nomatch z), List.filter_cons_of_neg (by rw [hφ]; decide)]
        refine ⟨fun b o g => e3 _ _ (eU _ _ g), c, by omega, ?_⟩
        rw [e3 _ _ hU, List.filter_nil, List.map_nil, List.append_nil]
    · have et : t = ns.length := by omega
      subst et
      rw [List.take_length] at hU
      refine .inl ⟨⟨_, q2, by rw [List.length_map]; exact Nat.le_refl _⟩, f_nil ⟨D, _, c, rfl, hU, by omega, fun ks p k1 k2 k3 hp => ?_⟩⟩
      have e3 : ks = srt ((ns.filter φ).map f) := asc_uniq k1 (pw_srt _) fun k => by rw [k2 k, mem_srt]; simp
      subst e3
      exact q p _ (fresh_back (e2.trans eU) hp) ((e2.trans eU).trans (Ex.new hp)) upd_same⟩
end
/-- what a dict of groups holds at a key -/
theorem GAt.at_ {H0 H : Hp} {r : Int} : ∀ {kvs : List (Key × V)} {gs : List (Int × List Int)}, GAt H0 H kvs gs → (valV kvs (.inl r : Key) = none ∧ r ∉ gs.map Prod.fst) ∨ ∃ p l, valV kvs (.inl r : Key) = some (.ref p) ∧ H p = some (.lst (l.map V.int)) ∧ gs.find? (fun x => decide (x.1 = r)) = some (r, l)
  | _, _, .nil => .inl ⟨valV_nil, by simp⟩
  | _, _, .cons (k := j) (p := p) (l := l) n h d t => by
    by_cases e : j = r
    · subst e
      exact .inr ⟨p, l, valV_pos rfl, h, by rw [List.find?_cons_of_pos (by simp)]⟩
    · have e1 : ¬ (Sum.inl j : Key) = Sum.inl r := fun z => e (Sum.inl.inj z)
      rcases t.at_ (r := r) with ⟨a, b⟩ | ⟨p', l', a, b, c⟩
      · exact .inl ⟨by rw [valV_neg e1]; exact a, by rw [List.map_cons, List.mem_cons]; exact fun z => z.elim (fun q => e q.symm) b⟩
      · exact .inr ⟨p', l', by rw [valV_neg e1]; exact a, b, by rw [List.find?_cons_of_neg (by simp [e])]; exact c⟩
section
variable {K : PySem.W.Frag} {σ : L2.St} {H : Hp} {ta tb : TE}
/-- a list of a name, and a new one behind it -/
theorem el_catV {a : Addr} {xs ys : List V} (h : Ev ta σ H (.ref a)) (hs : H a = some (.lst xs)) (hb : EvL tb σ H ys) (hz : xs.length + ys.length ≤ 100000) : EvL (tOp rCat ta tb) σ H (xs ++ ys) := fun H1 e Q q =>
  h H1 e _ fun H2 e2 => hb H2 (e.trans e2) _ fun r H3 _ e3 h3 => ⟨a, r, xs, ys, rfl, rfl, ((e.trans e2).trans e3) _ _ hs, h3, sz_of hz, fun l hl => q l _ (fresh_back (e2.trans e3) hl) ((e2.trans e3).trans (Ex.new hl)) upd_same⟩
theorem el_catVV {a b : Addr} {xs ys : List V} (h : Ev ta σ H (.ref a)) (hs : H a = some (.lst xs)) (h2 : Ev tb σ H (.ref b)) (hs2 : H b = some (.lst ys)) (hz : xs.length + ys.length ≤ 100000) : EvL (tOp rCat ta tb) σ H (xs ++ ys) := fun H1 e Q q =>
  h H1 e _ fun H2 e2 => h2 H2 (e.trans e2) _ fun H3 e3 => ⟨a, b, xs, ys, rfl, rfl, ((e.trans e2).trans e3) _ _ hs, ((e.trans e2).trans e3) _ _ hs2, sz_of hz, fun l hl => q l _ (fresh_back (e2.trans e3) hl) ((e2.trans e3).trans (Ex.new hl)) upd_same⟩
/-- a list's truth -/
theorem et_truL {a : Addr} {xs : List V} (h : Ev ta σ H (.ref a)) (hs : SqL K H a xs) : EvT (fun σ H Q => ta σ H fun x H' => ∃ k, TruV K x H' k ∧ Q k H') σ H (!xs.isEmpty) := fun H1 e Q q =>
  h H1 e _ fun H2 e2 => ⟨!xs.isEmpty, .inl ⟨xs, ex_l (e.trans e2) hs, rfl⟩, q H2 e2⟩
theorem ev_sumV {a : Addr} {ks : List Int} (h : Ev ta σ H (.ref a)) (hs : SqL K H a (ks.map V.int)) : Ev (tCB (rSum K) (tCons ta tNil)) σ H (.int ks.sum) := ev_cb (ea_cons h ea_nil) fun H2 e2 Q' q' => ⟨a, ks, rfl, ex_l e2 hs, q' H2 (Ex.refl H2)⟩
end
/-! ### repr of a bool, of an int -/
section
variable {X : Cx}
def rReprB : List V → Hp → VK → Prop := fun xs H Q => ∃ b : Bool, xs = [.bl b] ∧ Q (.str (if b then "True" else "False")) H
theorem cr_reprB : CallR X (.builtin "repr") rReprB := by
  intro pins s σ H xs us Q I r h
  obtain ⟨b, rfl, q⟩ := h
  obtain ⟨u, rfl, rfl⟩ := vals1 r
  exact PySem.P.repr_of_bool ⟨.str _, H, I.tok _, ⟨_, rfl⟩, q⟩
def rReprI : List V → Hp → VK → Prop := fun xs H Q => ∃ i : Int, xs = [.int i] ∧ i.natAbs.log2 < 1920 ∧ Q (.str (toString i)) H
theorem cr_reprI : CallR X (.builtin "repr") rReprI := by
  intro pins s σ H xs us Q I r h
  obtain ⟨i, rfl, hz, q⟩ := h
  obtain ⟨u, rfl, t, rfl⟩ := vals1 r
  exact PySem.P.repr_of_int hz ⟨.str _, H, I.tok _, ⟨_, rfl⟩, q⟩
end
section
variable {σ : L2.St} {H : Hp} {te : TE}
theorem ev_reprB {b : Bool} (h : Ev te σ H (.bl b)) : Ev (tCB rReprB (tCons te tNil)) σ H (.str (if b then "True" else "False")) := ev_cb (ea_cons h ea_nil) fun H2 e2 Q' q' => ⟨b, rfl, q' H2 (Ex.refl H2)⟩
theorem ev_reprI {i : Int} (h : Ev te σ H (.int i)) (hi : i.natAbs.log2 < 1920) : Ev (tCB rReprI (tCons te tNil)) σ H (.str (toString i)) := ev_cb (ea_cons h ea_nil) fun H2 e2 Q' q' => ⟨i, rfl, hi, q' H2 (Ex.refl H2)⟩
end
end Mc
namespace Mc
open PySem L2 Evl TL
/-! ### words of numbers: how they are written -/
/-- the signs of an int -/
def intL (k : Int) : List Nat := (if k < 0 then [45] else []) ++ numL k.natAbs
theorem tl_int (k : Int) : tl (Str.ofString (toString k)) = intL k := by
  unfold intL
  by_cases h : k < 0
  · rw [if_pos h, tl_ofString]
    obtain ⟨m, rfl⟩ := Int.eq_negSucc_of_lt_zero h
    show (String.append "-" (Nat.repr (m + 1))).toList.map Char.toNat = _
    rw [show (String.append "-" (Nat.repr (m + 1))).toList = '-' :: (Nat.repr (m + 1)).toList from String.toList_append, Nat.toList_repr]
    rfl
  · obtain ⟨m, rfl⟩ := Int.eq_ofNat_of_zero_le (Int.not_lt.mp h)
    rw [if_neg h]
    exact tl_num m
theorem numL_head : ∀ (n : Nat), 0 < n → ∃ c r, numL n = c :: r ∧ c ≠ 48 := by
  intro n
  induction n using Nat.strongRecOn with
  | _ n ih =>
    intro h0
    by_cases h : n < 10
    · exact ⟨48 + n, [], numL_lt h, by omega⟩
    · obtain ⟨c, r, e, hc⟩ := ih (n / 10) (by omega) (by omega)
      exact ⟨c, r ++ [48 + n % 10], by rw [numL_step (by omega), e]; rfl, hc⟩
/-- a word of a list of steps -/
def plusL (k : Int) : List Nat := if k = 0 then [48] else (if k < 0 then [45] else [43]) ++ numL k.natAbs
theorem len_le_of {k : Int} {n : Nat} (hn : 0 < n) (h : k.natAbs < 10 ^ n) : (numL k.natAbs).length ≤ n := numL_len hn h
/-! ### words of numbers: how they are read -/
/-- a positive number of at most sixty digits -/
def posL (l : List Nat) : Bool := decide (l.length ≤ 60) && !(l.head? == some 48) && decide (0 < l.length) && l.all fun c => decide (48 ≤ c) && decide (c ≤ 57)
theorem digit_sign : ∀ c : Nat, c < 128 → Unicode.isDigit c = (decide (48 ≤ c) && decide (c ≤ 57)) := by decide +kernel
theorem sw_one {x y : Str} {c : Nat} (ey : tl y = [c]) : Txt.startswith x y = ((tl x).head? == some c) := by
  have hy : tl y ≠ [] := by rw [ey]; simp
  have hl : y.length = 1 := by rw [len_tl, ey]; rfl
  have hx := len_tl x
  unfold Txt.startswith
  rw [StrLaws.subAt_eq, show y.cps.toList = [c] from ey, hl, List.drop_zero]
  show (decide (0 + 1 ≤ x.length) && (List.take 1 (tl x) == [c])) = _
  cases e : tl x with
  | nil =>
    rw [e] at hx
    rw [hx]; rfl
  | cons d r =>
    rw [e] at hx
    rw [show decide (0 + 1 ≤ x.length) = true from decide_eq_true (by rw [hx, List.length_cons]; omega), Bool.true_and]
    show ([d] == [c]) = (some d == some c)
    by_cases h : d = c
    · subst h; simp
    · rw [show ([d] == [c]) = false from by simpa using h, show (some d == some c) = false from by simpa using h]
theorem sw_nil {x y : Str} (ey : tl y = []) : Txt.startswith x y = true := by
  have hl : y.length = 0 := by rw [len_tl, ey]; rfl
  unfold Txt.startswith
  rw [StrLaws.subAt_eq, show y.cps.toList = [] from ey, hl]
  simp
theorem tl_cut {x : Str} {n : Nat} : tl (cutS x (some (n : Int)) none) = (tl x).drop n := by
  show (((x.cps.toList.drop (HT.sIx x.length 0 (some (n : Int)))).take (HT.sIx x.length x.length none - HT.sIx x.length 0 (some (n : Int)))).toArray).toList = _
  rw [HT.sIx_none, HT.sIx_nat]
  have hx : x.length = (tl x).length := len_tl x
  show ((tl x).drop (min n x.length)).take (x.length - min n x.length) = _
  rw [hx, List.take_of_length_le (by rw [List.length_drop]; exact Nat.le_refl _)]
  rcases Nat.le_total n (tl x).length with h | h
  · rw [Nat.min_eq_left h]
  · rw [Nat.min_eq_right h, List.drop_length, List.drop_eq_nil_of_le h]
theorem pos_is (d : Str) : (if (decide ((d.length : Int) > 60) || Txt.startswith d "0") = true then false else (Txt.isascii d && Txt.isdigit d)) = posL (tl d) := by
  have hl := len_tl d
  rw [sw_one (y := "0") (c := 48) (by decide +kernel)]
  unfold posL Txt.isascii Txt.isdigit
  rw [← Array.all_toList, ← Array.all_toList, show d.cps.toList = tl d from rfl, hl]
  by_cases h1 : (tl d).length ≤ 60
  · rw [show decide (((tl d).length : Int) > 60) = false from decide_eq_false (by omega), decide_eq_true h1, Bool.false_or, Bool.true_and]
    cases h2 : (tl d).head? == some 48 with
    | true => rfl
    | false =>
      rw [if_neg (fun z => nomatch z), Bool.not_false, Bool.true_and]
      have key : ∀ l : List Nat, (l.all (fun c => decide (c < 128)) && l.all Unicode.isDigit) = l.all fun c => decide (48 ≤ c) && decide (c ≤ 57) := fun l => by
        induction l with
        | nil => rfl
        | cons c r ih =>
          rw [List.all_cons, List.all_cons, List.all_cons, ← ih]
          by_cases hc : c < 128
          · rw [decide_eq_true hc, digit_sign c hc]
            cases (decide (48 ≤ c) && decide (c ≤ 57)) <;> cases r.all (fun c => decide (c < 128)) <;> rfl
          · rw [decide_eq_false hc, show decide (c ≤ 57) = false from decide_eq_false (by omega)]
            simp
      rw [← key]
      cases (tl d).all (fun c => decide (c < 128)) <;> cases (tl d).all Unicode.isDigit <;> simp
  · rw [show decide (((tl d).length : Int) > 60) = true from decide_eq_true (by omega), decide_eq_false h1]
    rfl
/-- the integer of a word, in which positive ones begin with this sign -/
def readL (w p : List Nat) : Option Int :=
  if w = [48] then some 0 else
  if w.head? = some 45 then (if posL w.tail = true then some (-(NumText.digitsVal w.tail : Nat)) else none) else
  if p = [] then (if posL w = true then some (NumText.digitsVal w : Nat) else none) else
  if w.head? = p.head? then (if posL (w.drop 1) = true then some (NumText.digitsVal (w.drop 1) : Nat) else none) else none
theorem posL_digits {l : List Nat} (h : posL l = true) : NumText.AllDigits l ∧ l ≠ [] ∧ l.length ≤ 60 := by
  unfold posL at h
  simp only [Bool.and_eq_true, decide_eq_true_eq, List.all_eq_true] at h
  obtain ⟨⟨⟨h1, h2⟩, h3⟩, h4⟩ := h
  exact ⟨fun c hc => h4 c hc, List.length_pos_iff.mp h3, h1⟩
theorem posL_int {d : Str} (h : posL (tl d) = true) : PySem.intText? d = some ((NumText.digitsVal (tl d) : Nat) : Int) ∧ d.length ≤ 640 := by
  obtain ⟨a, b, c⟩ := posL_digits h
  have hl := len_tl d
  exact ⟨intText_digits a b (by omega), by omega⟩
theorem posL_num {n : Nat} (h0 : 0 < n) (h : n < 10 ^ 60) : posL (numL n) = true := by
  obtain ⟨c, r, e, hc⟩ := numL_head n h0
  have hd := numL_digits n
  have hl := numL_len (n := n) (k := 60) (by decide) h
  unfold posL
  simp only [Bool.and_eq_true, decide_eq_true_eq, List.all_eq_true]
  refine ⟨⟨⟨hl, ?_⟩, ?_⟩, fun c hc => hd c hc⟩
  · rw [e]; simpa using hc
  · rw [e]; simp
/-- what is written is read -/
theorem read_neg {l p : List Nat} : readL (45 :: l) p = if posL l = true then some (-((NumText.digitsVal l : Nat) : Int)) else none := by
  unfold readL
  rw [if_neg (show ¬ (45 :: l) = [48] by simp), if_pos (show (45 :: l).head? = some 45 from rfl)]; rfl
theorem read_pos {l : List Nat} : readL (43 :: l) [43] = if posL l = true then some ((NumText.digitsVal l : Nat) : Int) else none := by
  unfold readL
  rw [if_neg (show ¬ (43 :: l) = [48] by simp), if_neg (show ¬ (43 :: l).head? = some 45 by simp), if_neg (show ¬ ([43] : List Nat) = [] by simp), if_pos (show (43 :: l).head? = [43].head? from rfl)]; rfl
theorem read_plain {l : List Nat} (h0 : l ≠ [48]) (h1 : l.head? ≠ some 45) : readL l [] = if posL l = true then some ((NumText.digitsVal l : Nat) : Int) else none := by
  unfold readL
  rw [if_neg h0, if_neg h1, if_pos rfl]
theorem nat_neg {k : Int} (h : k < 0) : -((k.natAbs : Nat) : Int) = k := by omega
theorem nat_pos {k : Int} (h : ¬ k < 0) : ((k.natAbs : Nat) : Int) = k := by omega
theorem read_plus {k : Int} (h : k.natAbs < 10 ^ 60) : readL (plusL k) [43] = some k := by
  unfold plusL
  by_cases h0 : k = 0
  · subst h0; rfl
  rw [if_neg h0]
  have hz := posL_num (show 0 < k.natAbs by omega) h
  have hv := numL_val k.natAbs
  by_cases hn : k < 0
  · rw [if_pos hn]
    show readL (45 :: numL k.natAbs) [43] = _
    rw [read_neg, if_pos hz, hv, nat_neg hn]
  · rw [if_neg hn]
    show readL (43 :: numL k.natAbs) [43] = _
    rw [read_pos, if_pos hz, hv, nat_pos hn]
theorem read_int {k : Int} (h : k.natAbs < 10 ^ 60) : readL (intL k) [] = some k := by
  unfold intL
  by_cases h0 : k = 0
  · subst h0; rfl
  have hp : 0 < k.natAbs := by omega
  have hz := posL_num hp h
  have hv := numL_val k.natAbs
  by_cases hn : k < 0
  · rw [if_pos hn]
    show readL (45 :: numL k.natAbs) [] = _
    rw [read_neg, if_pos hz, hv, nat_neg hn]
  · rw [if_neg hn, List.nil_append]
    obtain ⟨c, r, e, hc⟩ := numL_head _ hp
    have hd := numL_digits k.natAbs c (by rw [e]; exact List.mem_cons_self ..)
    rw [read_plain (by rw [e]; intro z; exact hc (List.cons.inj z).1) (by rw [e]; intro z; have := Option.some.inj z; omega), if_pos hz, hv, nat_pos hn]
/-! ### f"{k:+d}" -/
end Mc
namespace Mc
open PySem PySem.Builtin PySem.Builtin.Float L2 Evl TL PyProof.Rows
def signedL (k : Int) : List Nat := (if k < 0 then [45] else [43]) ++ numL k.natAbs
def signedText (k : Int) : Str := ⟨(signedL k).toArray⟩
/-- what the spec +d says -/
def plusF : FormatSpec := { fill := 32, align := 62, sign := some 43, type := some 100 }
theorem plus_read : ∀ name, parseFormatSpec (Str.ofString "+d").cps.toList name 62 = .ok plusF := fun name => by
  rfl
theorem plus_text (neg : Bool) {ds : List Nat} (h : ds ≠ []) : intField' plusF neg [] ds [] 3 = ⟨((if neg = true then [45] else [43]) ++ ds).toArray⟩ := by
  have he : ds.isEmpty = false := by cases ds with | nil => exact absurd rfl h | cons _ _ => rfl
  have z : ((-1 : Int) - ((1 : Nat) + (0 : Nat) + (0 : Nat)) - (ds.length : Nat)).toNat = 0 := by omega
  cases neg <;> (unfold intField' plusF; simp [he, z])
theorem numL_log {i : Int} (h : i.natAbs.log2 < 1920) : (numL i.natAbs).length ≤ 1000 := numL_len (by decide) (Nat.lt_of_lt_of_le (Nat.lt_of_lt_of_le (Nat.lt_log2_self) (Nat.pow_le_pow_right (by decide) h)) (by decide +kernel))
section
variable {M : Model} {A : Around} {E : Value → Shared → Prop} {s : Shared} {α : Type} {Q : α → Shared → Prop} {c : Prop} [Decidable c] {a b : Sem α}
theorem wp_no (hc : ¬ c) (h : wpAny M A b Q E s) : wpAny M A (if c then a else b) Q E s := by rw [if_neg hc]; exact h
theorem wp_yes (hc : c) (h : wpAny M A a Q E s) : wpAny M A (if c then a else b) Q E s := by rw [if_pos hc]; exact h
end
theorem plus_meets (i : Int) (t : Tok) (hz : i.natAbs.log2 < 1920) : ∀ u, Meets (Builtin.«int.__format__» ⟨[.int i t, .str (Str.ofString "+d") u], []⟩) (fun _ R s => ∀ t' k, R (.ok (.ret (.str (signedText i) t'))) { s with toks := k }) := by
  intro u
  refine PySem.W.KPc.meets_of fun prog w A s Q E done => ?_
  unfold Builtin.«int.__format__»
  refine wpAny_bind (wpAny_of_eq (a := (_, _)) rfl ?_)
  refine wpAny_bind (wpAny_of_eq (a := _) rfl ?_)
  refine wpAny_ite (PySem.W.KPc.ite_no (fun z => Bool.false_ne_true z) ?_)
  refine wpAny_bind (wpAny_typeNameOf (T := "str") (typeIs_str _ _ _) (by decide) fun _ => ?_)
  refine wpAny_bind (wpAny_of_eq (a := some _) rfl ?_)
  refine wpAny_ite (PySem.W.KPc.ite_no (by decide +kernel) ?_)
  refine wpAny_ite (PySem.W.KPc.ite_no (fun z => Bool.false_ne_true z) ?_)
  refine wpAny_bind (wpAny_typeNameOfCut_int ?_)
  rw [plus_read]
  show wpAny _ _ (if _ then _ else _) _ _ _
  refine wp_yes (by decide +kernel) ?_
  show wpAny _ _ (overDigitLimit? i >>= _) _ _ _
  refine wpAny_bind (wpAny_of_eq (PyProof.Rows.overDigitLimit_small hz) ?_)
  have hd : (Nat.toDigits 10 i.natAbs).map (fun c => (if ((100 : Nat) == 88) = true then c.toUpper else c).toNat) = numL i.natAbs := rfl
  refine PySem.W.KXf.ret_text (T := signedText i) ?_ ?_ done
  · show intField' plusF (decide (i < 0)) [] (numL i.natAbs) [] 3 = signedText i
    rw [plus_text _ (numL_ne _)]
    unfold signedText signedL
    by_cases h : i < 0
    · rw [decide_eq_true h, if_pos rfl, if_pos h]
    · rw [decide_eq_false h, if_neg (fun z => nomatch z), if_neg h]
  · show (intField' plusF (decide (i < 0)) [] (numL i.natAbs) [] 3).length ≤ sizeLine
    rw [plus_text _ (numL_ne _)]
    have e := numL_log hz
    show (((if decide (i < 0) = true then [45] else [43]) ++ numL i.natAbs).toArray).size ≤ sizeLine
    rw [List.size_toArray, List.length_append, sizeLine_eq]
    split <;> (simp; omega)
section
variable {X : Cx}
/-- {k:+d}, of an int -/
def tFmtP (te : TE) : TE := fun σ H Q => te σ H fun x H1 => ∃ i : Int, x = .int i ∧ i.natAbs.log2 < 1920 ∧ Q (.str (signedText i)) H1
theorem pe_fmtP {e : Expr} {te : TE} {p1 p2 p3 : Pos} (he : PE X e te) : PE X (.FormattedValue e (-1) (some (.JoinedStr [.Constant (.str "+d") 0 p1] p2)) p3) (tFmtP te) := by
  refine ⟨fun pins s σ H Q I h => wpAny_FormattedValue_spec (thn (he.run pins s σ H _ I h) fun v s1 ⟨x, H1, I1, r1, i, ex, hz, q⟩ => ?_)⟩
  subst ex
  obtain ⟨t, rfl⟩ := r1
  refine thn ((pe_joined1 (pos := p2) (pe_str (X := X) (x := "+d") (j := 0) (pos := p1))).run pins s1 σ H1 (fun y H2 => y = .str "+d" ∧ H2 = H1) I1 ⟨rfl, rfl⟩) fun u s2 ⟨y, H2, I2, r2, ey, eH⟩ => ?_
  subst ey
  subst eH
  obtain ⟨t2, rfl⟩ := r2
  exact ⟨_, t2, rfl, PySem.W.KXf.field_int rfl (by decide) (by decide) (plus_meets i t hz) fun t' k => ⟨.str (signedText i), H2, I2.tok k, ⟨t', rfl⟩, q⟩⟩
end
end Mc
namespace Mc
open PySem L2 Evl TL
/-! ### readings of texts -/
section
variable {K : PySem.W.Frag} {σ : L2.St} {H : Hp} {Q : VK} {te to ta tb tk : TE}
abbrev rSw : V → List V → Hp → VK → Prop := fun x xs H Q => ∃ a b, x = .str a ∧ xs = [.str b] ∧ Q (.bl (Txt.startswith a b)) H
theorem ev_sw {a b : Str} (h : Ev to σ H (.str a)) (hb : Ev te σ H (.str b)) : Ev (tM1 rSw to te) σ H (.bl (Txt.startswith a b)) := fun H1 e Q q =>
  h H1 e _ fun H2 e2 => ⟨⟨a, rfl⟩, hb H2 (e.trans e2) _ fun H3 e3 => ⟨a, b, rfl, rfl, q H3 (e2.trans e3)⟩⟩
theorem ev_m0 {a : Str} {g : Str → Bool} (h : Ev to σ H (.str a)) : Ev (tM0 (fun x xs H Q => ∃ a, x = .str a ∧ xs = [] ∧ True ∧ Q (.bl (g a)) H) to) σ H (.bl (g a)) := fun H1 e Q q =>
  h H1 e _ fun H2 e2 => ⟨⟨a, rfl⟩, a, rfl, rfl, trivial, q H2 e2⟩
theorem ev_lenT {a : Str} (h : Ev te σ H (.str a)) (hz : a.length ≤ 1000000) : Ev (tCB (fun xs H Q => ∃ z, xs = [.str z] ∧ z.length ≤ sizeLine ∧ Q (.int z.length) H) (tCons te tNil)) σ H (.int (a.length : Int)) :=
  ev_cb (ea_cons h ea_nil) fun H2 e2 Q' q' => ⟨a, rfl, Nat.le_trans hz (by decide), q' H2 (Ex.refl H2)⟩
theorem ev_from {a : Str} {n : Int} (h : Ev te σ H (.str a)) (hn : Ev tk σ H (.int n)) (hz : a.length ≤ 1000000) : Ev (tSl rSlS te (tPart tk) tNoPart) σ H (.str (cutS a (some n) none)) := fun H1 e Q q =>
  h H1 e _ fun H2 e2 => eo_some hn H2 (e.trans e2) _ fun H3 e3 => eo_none H3 ((e.trans e2).trans e3) _ fun H4 e4 => ⟨a, rfl, Nat.le_trans hz (by decide), q H4 ((e2.trans e3).trans e4)⟩
theorem ev_intT {a : Str} {n : Int} (h : Ev te σ H (.str a)) (hn : PySem.intText? a = some n) (hz : a.length ≤ 640) : Ev (tCB (fun xs H Q => ∃ a n, xs = [.str a] ∧ PySem.intText? a = some n ∧ a.length ≤ 640 ∧ Q (.int n) H) (tCons te tNil)) σ H (.int n) :=
  ev_cb (ea_cons h ea_nil) fun H2 e2 Q' q' => ⟨a, n, rfl, hn, hz, q' H2 (Ex.refl H2)⟩
abbrev rAddS : R2 := fun x y H Q => ∃ i j : Str, x = .str i ∧ y = .str j ∧ i.length + j.length ≤ sizeLine ∧ Q (.str (i ++ j)) H
theorem ev_addS {a b : Str} (h : Ev ta σ H (.str a)) (hb : Ev tb σ H (.str b)) (hz : a.length + b.length ≤ 1000000) : Ev (tOp rAddS ta tb) σ H (.str (a ++ b)) :=
  ev_op h hb fun H1 _ Q q => ⟨_, _, rfl, rfl, Nat.le_trans hz (by decide), q H1 (Ex.refl H1)⟩
theorem ev_strI {i : Int} (h : Ev te σ H (.int i)) (hi : i.natAbs ≤ 10 ^ 100) : Ev (tCB (fun xs H Q => ∃ i : Int, xs = [.int i] ∧ i.natAbs.log2 < 1920 ∧ Q (.str (toString i)) H) (tCons te tNil)) σ H (.str (Str.ofString (toString i))) :=
  ev_cb (ea_cons h ea_nil) fun H2 e2 Q' q' => ⟨i, rfl, Nat.lt_of_lt_of_le (log_le hi) (by decide), q' H2 (Ex.refl H2)⟩
theorem rv_eqT2 {x y : Str} : RV rEq (.str x) (.str y) H (.bl (decide (x = y))) := fun H1 _ _ q => ⟨rfl, by
  have e : decide (V.str x = V.str y) = decide (x = y) := by
    by_cases h : x = y
    · subst h; simp
    · rw [decide_eq_false h, decide_eq_false (fun e => h (V.str.inj e))]
  rw [e]; exact q H1 (Ex.refl H1)⟩
theorem ev_fmtI {i : Int} (h : Ev te σ H (.int i)) (hi : i.natAbs ≤ 10 ^ 100) : Ev (tFmt te) σ H (.str (Str.ofString (toString i))) := fun H1 e Q q =>
  h H1 e _ fun H2 e2 => .inr ⟨i, rfl, Nat.lt_of_lt_of_le (log_le hi) (by decide), q H2 e2⟩
theorem ev_fmtP {i : Int} (h : Ev te σ H (.int i)) (hi : i.natAbs ≤ 10 ^ 100) : Ev (tFmtP te) σ H (.str (signedText i)) := fun H1 e Q q =>
  h H1 e _ fun H2 e2 => ⟨i, rfl, Nat.lt_of_lt_of_le (log_le hi) (by decide), q H2 e2⟩
theorem ev_if' {b : Bool} {v1 v2 : V} {t : TT} (h : EvT t σ H b) (h1 : b = true → Ev ta σ H v1) (h2 : b = false → Ev tb σ H v2) : Ev (tIf t ta tb) σ H (if b = true then v1 else v2) := by
  refine ev_if h (fun e => ?_) (fun e => ?_)
  · subst e; exact h1 rfl
  · subst e; exact h2 rfl
/-- a new list of texts, split -/
theorem el_split {a b : Str} (h : Ev to σ H (.str a)) (hb : Ev te σ H (.str b)) (hn : (b.length == 0) = false) (hz : a.length ≤ 1000000) :
    EvL (tM1 (fun x xs H Q => ∃ a b, x = .str a ∧ xs = [.str b] ∧ (b.length == 0) = false ∧ a.length + 2 ≤ sizeLine ∧ rNewStrs (Txt.split a b) H Q) to te) σ H ((Txt.split a b).map V.str) := fun H1 e Q q =>
  h H1 e _ fun H2 e2 => ⟨⟨a, rfl⟩, hb H2 (e.trans e2) _ fun H3 e3 => ⟨a, b, rfl, rfl, hn, Nat.le_trans (Nat.add_le_add_right hz 2) (by decide), fun p hp => q p _ (fresh_back (e2.trans e3) hp) ((e2.trans e3).trans (Ex.new hp)) upd_same⟩⟩
/-- joined -/
theorem ev_joinV {a : Str} {p : Addr} {ys : List Str} (h : Ev to σ H (.str a)) (hp : Ev te σ H (.ref p)) (hs : SqL K H p (ys.map V.str)) (hz : (ys.map (·.length)).sum + ys.length * a.length ≤ 1000000) :
    Ev (tM1 (fun x xs H Q => ∃ a p, ∃ ys : List Str, x = .str a ∧ xs = [.ref p] ∧ (SqL K H p (ys.map V.str) ∨ SqT K H p (ys.map V.str)) ∧ (ys.map (·.length)).sum + ys.length * a.length ≤ 16777216 ∧ Q (.str (Txt.join a ys)) H) to te) σ H (.str (Txt.join a ys)) := fun H1 e Q q =>
  h H1 e _ fun H2 e2 => ⟨⟨a, rfl⟩, hp H2 (e.trans e2) _ fun H3 e3 => ⟨a, p, ys, rfl, rfl, .inl (ex_l ((e.trans e2).trans e3) hs), Nat.le_trans hz (by decide), q H3 (e2.trans e3)⟩⟩
theorem ev_joinL {a : Str} {ys : List Str} (h : Ev to σ H (.str a)) (hp : EvL te σ H (ys.map V.str)) (hz : (ys.map (·.length)).sum + ys.length * a.length ≤ 1000000) :
    Ev (tM1 (fun x xs H Q => ∃ a p, ∃ ys : List Str, x = .str a ∧ xs = [.ref p] ∧ (SqL K H p (ys.map V.str) ∨ SqT K H p (ys.map V.str)) ∧ (ys.map (·.length)).sum + ys.length * a.length ≤ 16777216 ∧ Q (.str (Txt.join a ys)) H) to te) σ H (.str (Txt.join a ys)) := fun H1 e Q q =>
  h H1 e _ fun H2 e2 => ⟨⟨a, rfl⟩, hp H2 (e.trans e2) _ fun p H3 _ e3 h3 => ⟨a, p, ys, rfl, rfl, .inl (sq_of h3), Nat.le_trans hz (by decide), q H3 (e2.trans e3)⟩⟩
/-- [f(z) for z in a list of texts] -/
theorem el_lcS {tl : TE} {zs : List Str} {j : Nat} {vs : List Nat} (v : Str → V) (h : EvL tl σ H (zs.map V.str)) (hz : zs.length ≤ 40000) (hw : ∀ x, wipe ((wipe σ vs).set j (some x)) vs = wipe σ vs)
    (he : ∀ (z : Str) H1, Ex H H1 → z ∈ zs → Ev te ((wipe σ vs).set j (some (.str z))) H1 (v z)) : EvL (tLc (iList K tl) (gName j) tYes te vs) σ H (zs.map v) := by
  have z := el_lcNL (K := K) (t := tYes) (te := te) (j := j) (vs := vs) (fun _ => true) (fun i => v (zs.getD i Str.empty)) h (by rw [List.length_map]; exact hz) hw (fun i x H1 _ _ => et_yes rfl) fun i x H1 e hi _ => by
    rw [List.getElem?_map] at hi
    obtain ⟨n, hn, rfl⟩ := Option.map_eq_some_iff.mp hi
    have e2 : zs.getD i Str.empty = n := by rw [List.getD_eq_getElem?_getD, hn]; rfl
    rw [e2]
    exact he n H1 e (List.mem_of_getElem? hn)
  rw [given_all, List.length_map] at z
  have e3 : (List.range zs.length).map (fun i => v (zs.getD i Str.empty)) = zs.map v := by
    refine List.ext_getElem (by simp) fun i h1 h2 => ?_
    simp at h1 h2
    simp [List.getElem?_eq_getElem h1]
  rw [e3] at z
  exact z
end
/-- None, or an int -/
def oV : Option Int → V
  | none => .non
  | some k => .int k
theorem inV_none (os : List (Option Int)) : inV .non (os.map oV) = os.any Option.isNone := by
  induction os with
  | nil => rfl
  | cons o os ih =>
    unfold inV at ih ⊢
    rw [List.map_cons, List.any_cons, ih, List.any_cons]
    cases o <;> rfl
theorem flat_oV (os : List (Option Int)) : (os.map oV).all flatV = true := by
  rw [List.all_map, List.all_eq_true]
  intro x _
  cases x <;> rfl
theorem sv_Hk {D : Hp → List V → V → Prop} {H : Hp} {vs : List V} {z : V} (h : ∀ H1, Ex H H1 → D H1 vs z) : SpV (spH D) vs H z := fun H1 e Q q E => ⟨z, h H1 e, q⟩
theorem eu_tupleL {K : PySem.W.Frag} {σ : L2.St} {H : Hp} {te : TE} {xs : List V} (h : EvL te σ H xs) : EvU (tCB (fun xs H Q => ∃ p ys, xs = [.ref p] ∧ ((SqL K H p ys ∧ ∀ l, H l = none → Q (.ref l) (upd H l (.tup ys))) ∨ (SqT K H p ys ∧ Q (.ref p) H))) (tCons te tNil)) σ H xs := fun H1 e Q q =>
  h H1 e _ fun p H2 _ e2 h2 => ⟨p, _, rfl, .inl ⟨sq_of h2, fun l hl => q l _ (fresh_back e2 hl) (e2.trans (Ex.new hl)) upd_same⟩⟩
/-! ### how many members a set has -/
theorem insI_new {k : Int} : ∀ {ns : List Int}, k ∉ ns → (insI k ns).length = ns.length + 1
  | [], _ => rfl
  | x :: r, h => by
    have ih := insI_new (k := k) (ns := r) fun z => h (List.mem_cons_of_mem _ z)
    unfold insI
    split
    · rfl
    · split
      · next e => exact absurd (e ▸ List.mem_cons_self ..) h
      · rw [List.length_cons, ih, List.length_cons]
theorem srt_nodup : ∀ {ns : List Int}, ns.Nodup → (srt ns).length = ns.length
  | [], _ => rfl
  | x :: r, h => by
    have hd := List.nodup_cons.mp h
    show (insI x (srt r)).length = _
    rw [insI_new (fun z => hd.1 (mem_srt.mp z)), srt_nodup hd.2, List.length_cons]
section
open PySem.Spec PyProof.Rows
variable {X : Cx}
/-- len of a set of ints -/
def rLenSet (w : World) : List V → Hp → VK → Prop := fun xs H Q => ∃ (a : Addr) (ns : List Int) (c : Nat), xs = [.ref a] ∧ H a = some (SetO w a (fun j => decide (j ∈ ns)) c) ∧ Q (.int ((srt ns).length : Nat)) H
theorem cr_lenSet (hc : X.calm = true) : CallR X (.builtin "len") (rLenSet X.w) := by
  intro pins s σ H xs us Q I r h
  obtain ⟨a, ns, c, rfl, ha, q⟩ := h
  have R := setO_get I ha
  rw [Vals.ref1 r]
  obtain ⟨o, es, ep, t, ho, hex, hd, _, hnd, hm, hs, hf, _⟩ := R
  have e1 : srt (es.toList.map keyOf) = srt ns := asc_uniq (pw_srt _) (pw_srt _) fun k => by
    rw [mem_srt, mem_srt, ← hm k]
    exact decide_eq_true_iff
  have e2 : (srt ns).length = es.size := by
    rw [← e1, srt_nodup hnd, List.length_map]
    exact Array.length_toList
  rw [e2] at q
  refine call_len_set ho hex hd hf ?_ ⟨.int es.size, H, I.tok _, ⟨_, rfl⟩, q⟩
  unfold scanBound at hs
  omega
end
section
variable {K : PySem.W.Frag} {w : World} {σ : L2.St} {H : Hp} {te : TE}
theorem ev_lenSetL {ns : List Int} (h : EvL te σ H (ns.map V.int)) (hn : ns.length ≤ 1000) : Ev (tCB (rLenSet w) (tCons (tCB (rSetL K w) (tCons te tNil)) tNil)) σ H (.int ((srt ns).length : Nat)) := fun H1 e Q q =>
  f_cb (f_cons (f_cb (f_cons (h H1 e _ fun p H2 _ e2 h2 => f_nil ⟨p, ns, rfl, sq_of h2, Nat.le_trans hn (by decide), fun r c nr _ => f_nil ⟨r, ns, c, rfl, upd_same, q _ (e2.trans (Ex.new nr))⟩⟩))))
end
/-! ### comprehensions over a new tuple -/
theorem el_lcNU {K : PySem.W.Frag} {σ : L2.St} {H : Hp} {t : TT} {te : TE} {xs : List V} {tl : TE} {j : Nat} {vs : List Nat} (f : Nat → Bool) (v : Nat → V) (h : EvU tl σ H xs) (hz : xs.length ≤ 40000) (hw : ∀ x, wipe ((wipe σ vs).set j (some x)) vs = wipe σ vs)
    (ht : ∀ (i : Nat) (x : V) H1, Ex H H1 → xs[i]? = some x → EvT t ((wipe σ vs).set j (some x)) H1 (f i)) (he : ∀ (i : Nat) (x : V) H1, Ex H H1 → xs[i]? = some x → f i = true → Ev te ((wipe σ vs).set j (some x)) H1 (v i)) :
    EvL (tLc (iTup K tl) (gName j) t te vs) σ H (given xs.length f v) := fun H0 e Q q => h H0 e _ fun a H1 ha e1 hx => ⟨a, rfl, ⟨xs, st_of hx⟩, fun Dl hD =>
  lc_tup (xs := xs) (Cw H1 f v Dl) ⟨hD, Ex.new hD, upd_same⟩ (fun i H' _ p => st_of (p.2.1 a _ hx)) (fun i x H' hi p => ⟨hw x, cw_turn p (by have := (List.getElem?_eq_some_iff.mp hi).1; omega) (ht i x H1 (e.trans e1) hi) (fun hf => he i x H1 (e.trans e1) hi hf)⟩)
    (fun H' p => q Dl H' (fresh_back e1 p.1) (e1.trans p.2.1) p.2.2)⟩
theorem el_lcUF {K : PySem.W.Frag} {σ : L2.St} {H : Hp} {tl te : TE} {tt : TT} {ns : List Int} {j : Nat} {vs : List Nat} (φ : Int → Bool) (v : Int → V) (h : EvU tl σ H (ns.map V.int)) (hz : ns.length ≤ 40000) (hw : ∀ x, wipe ((wipe σ vs).set j (some x)) vs = wipe σ vs)
    (ht : ∀ (x : Int) H1, Ex H H1 → x ∈ ns → EvT tt ((wipe σ vs).set j (some (.int x))) H1 (φ x)) (he : ∀ (x : Int) H1, Ex H H1 → x ∈ ns → Ev te ((wipe σ vs).set j (some (.int x))) H1 (v x)) : EvL (tLc (iTup K tl) (gName j) tt te vs) σ H ((ns.filter φ).map v) := by
  have at_ {i : Nat} {x : V} (hi : (ns.map V.int)[i]? = some x) : ∃ n, x = .int n ∧ n ∈ ns ∧ ns.getD i 0 = n := by
    rw [List.getElem?_map] at hi
    obtain ⟨n, hn, rfl⟩ := Option.map_eq_some_iff.mp hi
    exact ⟨n, rfl, List.mem_of_getElem? hn, by rw [List.getD_eq_getElem?_getD, hn]; rfl⟩
  have z := el_lcNU (K := K) (t := tt) (te := te) (j := j) (vs := vs) (fun i => φ (ns.getD i 0)) (fun i => v (ns.getD i 0)) h (by rw [List.length_map]; exact hz) hw (fun i x H1 e hi => by
    obtain ⟨n, rfl, hn, e2⟩ := at_ hi
    rw [e2]; exact ht n H1 e hn) fun i x H1 e hi _ => by
    obtain ⟨n, rfl, hn, e2⟩ := at_ hi
    rw [e2]; exact he n H1 e hn
  rw [List.length_map] at z
  have g : given ns.length (fun i => φ (ns.getD i 0)) (fun i => v (ns.getD i 0)) = (ns.filter φ).map v := range_filter v φ ns
  rw [g] at z
  exact z
theorem ev_sumL_at {K : PySem.W.Frag} {σ : L2.St} {H : Hp} {ta : TE} {a : Addr} {ks : List Int} (h : Ev ta σ H (.ref a)) (hs : SqL K H a (ks.map V.int)) : Ev (tCB (rSum K) (tCons ta tNil)) σ H (.int ks.sum) := ev_sumV h hs
theorem room65 {k : Nat} {A : Around} (r : Room k A) : A.units + 65 < cLine := by have := r.un; omega
/-! ### joined texts -/
theorem joinL_len (S : List Nat) : ∀ ps : List (List Nat), (joinL S ps).length ≤ (ps.map List.length).sum + ps.length * S.length
  | [] => Nat.zero_le _
  | [p] => by show p.length ≤ _; simp
  | p :: q :: r => by
    have ih := joinL_len S (q :: r)
    show (p ++ (S ++ joinL S (q :: r))).length ≤ _
    rw [List.length_append, List.length_append, List.map_cons, List.sum_cons, List.length_cons (as := q :: r), Nat.succ_mul]
    omega
theorem tl_space : tl (" " : Str) = [32] := by decide +kernel
theorem joinT_len (s : Str) (ys : List Str) : (Txt.join s ys).length ≤ (ys.map (·.length)).sum + ys.length * s.length := by
  have h := joinL_len (tl s) (ys.map tl)
  rw [List.length_map, List.map_map, ← len_tl s] at h
  rw [len_tl, join_eq, tl_join]
  refine Nat.le_trans h (Nat.le_of_eq ?_)
  rw [show ys.map (List.length ∘ tl) = ys.map (·.length) from List.map_congr_left fun z _ => (len_tl z).symm]
/-- none of a word's signs is a blank or a slash -/
theorem plusL_free {k : Int} {s : Nat} (h : s < 43 ∨ 57 < s ∨ s = 47 ∨ s = 46 ∨ s = 44) : s ∉ plusL k := fun hm => by
  unfold plusL at hm
  split at hm
  · have := List.mem_singleton.mp hm; omega
  · rcases List.mem_append.mp hm with hm | hm
    · split at hm <;> (have := List.mem_singleton.mp hm; omega)
    · have := numL_digits _ s hm; omega
theorem plusL_head (k : Int) : ∃ c r, plusL k = c :: r ∧ c < 58 := by
  unfold plusL
  split
  · exact ⟨48, [], rfl, by decide⟩
  · split
    · exact ⟨45, _, rfl, by decide⟩
    · exact ⟨43, _, rfl, by decide⟩
theorem join_head {S : List Nat} : ∀ {ps : List (List Nat)} {c : Nat} {r : List Nat}, ps.head? = some (c :: r) → ∃ r', joinL S ps = c :: r'
  | [p], c, r, h => by cases h; exact ⟨r, rfl⟩
  | p :: q :: t, c, r, h => by cases h; exact ⟨r ++ (S ++ joinL S (q :: t)), rfl⟩
/-! ### f-strings of several parts; texts as data -/
def cats : Str → List Str → Str
  | acc, [] => acc
  | acc, y :: ys => cats (acc ++ y) ys
theorem js_ev {σ : L2.St} {H : Hp} : ∀ {ts : List TE} {ys : List Str} (acc : Str), Paired (fun t y => Ev t σ H (.str y)) ts ys → acc.length + (ys.map (·.length)).sum ≤ 1000000 → ∀ H1, Ex H H1 → ∀ Q : Str → Hp → Prop, (∀ H2, Ex H1 H2 → Q (cats acc ys) H2) → tJs ts acc σ H1 Q
  | _, _, acc, .nil, _, H1, _, Q, q => q H1 (Ex.refl H1)
  | _, _, acc, .cons (b := y) h t, hz, H1, e, Q, q => h H1 e _ fun H2 e2 => ⟨y, rfl, by
      rw [List.map_cons, List.sum_cons] at hz
      rw [Str.length_append]
      exact Nat.le_trans (by omega) (show 1000000 ≤ sizeLine by decide), js_ev (acc ++ y) t (by
      rw [List.map_cons, List.sum_cons] at hz
      rw [Str.length_append]; omega) H2 (e.trans e2) Q fun H3 e3 => q H3 (e2.trans e3)⟩
theorem dpa_strs {K : PySem.W.Frag} {H : Hp} : ∀ zs : List Str, DpAll K H (zs.map V.str) (zs.map PyData.str)
  | [] => .nil
  | z :: zs => .cons (.str z) (dpa_strs zs)
theorem lay_strs : ∀ zs : List Str, (∀ z, z ∈ zs → ∀ c, c ∈ tl z → c < 128) → PyData.canLayAll0 (zs.map PyData.str) = true ∧ PyData.depthAll (zs.map PyData.str) = 0
  | [], _ => ⟨rfl, rfl⟩
  | z :: zs, h => by
    obtain ⟨a, b⟩ := lay_strs zs fun x hx => h x (List.mem_cons_of_mem _ hx)
    have e : PyData.strOk z = true := by
      unfold PyData.strOk
      rw [← Array.all_toList, List.all_eq_true]
      intro c hc
      exact decide_eq_true (Nat.lt_trans (h z (List.mem_cons_self ..) c hc) (by decide))
    constructor
    · show (PyData.strOk z && PyData.canLayAll0 (zs.map PyData.str)) = true
      rw [e, a]; rfl
    · show max (PyData.depth (.str z)) (PyData.depthAll (zs.map PyData.str)) = 0
      rw [b]; rfl
theorem shaped_strs {zs : List Str} (h : ∀ z, z ∈ zs → ∀ c, c ∈ tl z → c < 128) : SeqAt.shaped (.list (zs.map PyData.str)) = true := by
  obtain ⟨a, b⟩ := lay_strs zs h
  show (PyData.canLayAll0 (zs.map PyData.str) && decide (PyData.depthAll (zs.map PyData.str) + 1 ≤ 64)) = true
  rw [a, b]; rfl
end Mc
namespace Mc
open PySem PySem.Spec PyProof.Rows L2 Evl
/-! ### exceptions that are held as values -/
/-- the very object at a -/
def Pin (a : Addr) (oe : Obj) : HO := .ext fun h => h.get? a = some oe
theorem pin_ok {P : Program} {w : World} {H : Hp} {h : Heap} {a : Addr} {oe : Obj} (e : h.get? a = some oe) : ObjOk P w H h a (Pin a oe) := ⟨e, ⟨oe, e⟩, fun _ _ z k => k _ z⟩
theorem pin_at {P : Program} {w : World} {H : Hp} {h : Heap} {a : Addr} {oe : Obj} (ok : HOk P w H h) (e : H a = some (Pin a oe)) : h.get? a = some oe := by
  have z : ObjOk P w H h a (.ext fun h => h.get? a = some oe) := ok a _ e
  exact z.1
theorem pin_ne {a : Addr} {oe : Obj} {xs : List V} : Pin a oe ≠ .lst xs := fun z => by
  have z' : HO.ext _ = HO.lst xs := z
  cases z'
/-- an exception of the class at C stands at a, its dict at d -/
structure Exc (H : Hp) (a C d : Addr) (fs : List (Str × V)) : Prop where
  ob : ∃ (oe : Obj) (vs : Array Value), H a = some (Pin a oe) ∧ oe.cls = .ref C ∧ oe.dict = some d ∧ oe.data = .fields vs ∧ vs[2]? = some .none
  di : H d = some (.xd fs)
theorem Exc.ex_ {H H' : Hp} {a C d : Addr} {fs : List (Str × V)} (x : Exc H a C d fs) (e : Ex H H') : Exc H' a C d fs := by
  obtain ⟨⟨oe, vs, h, r⟩, k⟩ := x
  exact ⟨⟨oe, vs, e _ _ h, r⟩, e _ _ k⟩
/-- what is asked of an own exception class for isinstance and the field "value" -/
structure XCls (K : PySem.W.Frag) (C : Addr) : Prop where
  cl : (PySem.W.clsIn K C).isSome = true
  ga : PySem.W.findIn K (.ref C) "__getattribute__" = some (some (.builtin "BaseException.__getattribute__"))
  gg : PySem.W.findIn K (.ref C) "__getattr__" = some none
  sb : PySem.W.subIn K (.ref C) (.type "BaseException") = some true
  hd : PySem.W.hasDictIn K C = true
  ca : PySem.W.findIn K (.ref C) "__class__" = some (some (.builtin "object.__class__"))
  sg : PySem.W.specialIn K (.builtin "object.__class__") "__get__" = some (some (.builtin "getset_descriptor.__get__"))
  tk : PySem.W.takesIn K (.builtin "object.__class__") = some true
  mo : PySem.W.mroIn K C (.type "object") = some true
  nv : PySem.W.findIn K (.ref C) "value" = some none
section
variable {X : Cx} {pins : List (Addr × Obj)} {σ : L2.St} {H : Hp} {s : Shared}
theorem Exc.inst {a C d : Addr} {fs : List (Str × V)} (x : Exc H a C d fs) (I : Inv X pins σ H s) : ∃ ox od mA, PySem.W.InstAt s.heap a ox C (some od) ∧ s.heap.get? d = some od ∧ s.heap.Ns1 d mA ∧ ∀ f, RelO (fs.lookup f) (mA f) := by
  obtain ⟨⟨oe, vs, h, hc, hd, hf, _⟩, di⟩ := x
  have g := pin_at I.hok h
  obtain ⟨mA, hn, hr⟩ := (show ∃ mA, s.heap.Ns1 d mA ∧ ∀ f, RelO (fs.lookup f) (mA f) from I.hok d _ di)
  obtain ⟨od, es, ep, ho, r⟩ := hn
  refine ⟨oe, od, mA, ⟨g, hc, ?_, ?_⟩, ho, ⟨od, es, ep, ho, r⟩, hr⟩
  · unfold PySem.W.notCls; rw [hf]
  · rw [hd]; exact ho
/-- isinstance(e, c) of such an exception -/
def rIsX (K : PySem.W.Frag) : List V → Hp → VK → Prop := fun xs H Q => ∃ (a C d : Addr) (fs : List (Str × V)) (c : V) (u : Value) (b : Bool), xs = [.ref a, c] ∧ Exc H a C d fs ∧ XCls K C ∧ ClsV c u ∧ PySem.W.kitOne K (.ref C) u = some b ∧ Q (.bl b) H
theorem call_isX : CallR X (.builtin "isinstance") (rIsX X.K) := by
  intro pins s σ H xs us Q I r h
  obtain ⟨a, C, d, fs, c, u, b, rfl, x, k, cv, e, q⟩ := h
  obtain ⟨u1, u2, rfl, r1, r2⟩ := vals2 r
  have e2 := cv.eq r2
  subst e2
  obtain rfl : u1 = Value.ref a := r1
  obtain ⟨ox, od, mA, J, _⟩ := x.inst I
  exact PySem.W.kia_one (PySem.W.kitx_exc k.cl k.ga k.gg k.sb k.ca k.sg k.tk k.mo) I.kIn J e (fun z => nomatch z) fun t => ⟨.bl b, H, I.tok t, rfl, q⟩
/-- isinstance(e, (c1, c2, ..)) -/
def rIsXT (K : PySem.W.Frag) : List V → Hp → VK → Prop := fun xs H Q => ∃ (a C d : Addr) (fs : List (Str × V)) (tp : Addr) (cs : List V) (us : List Value) (b : Bool), xs = [.ref a, .ref tp] ∧ Exc H a C d fs ∧ XCls K C ∧ H tp = some (.tup cs) ∧ Paired ClsV cs us ∧ PySem.W.kitAny K (.ref C) us = some b ∧ Q (.bl b) H
theorem call_isXT : CallR X (.builtin "isinstance") (rIsXT X.K) := by
  intro pins s σ H xs us Q I r h
  obtain ⟨a, C, d, fs, tp, cs, ws, b, rfl, x, k, hT, cv, e, q⟩ := h
  obtain ⟨u1, u2, rfl, r1, r2⟩ := vals2 r
  obtain rfl : u2 = Value.ref tp := r2
  obtain rfl : u1 = Value.ref a := r1
  obtain ⟨ox, od, mA, J, _⟩ := x.inst I
  have tup := I.hok tp _ hT
  obtain ⟨_, its, rv, o, h1, h2, n, h3⟩ := (show ObjOk X.prog X.w H s.heap tp (.tup cs) from tup)
  obtain rfl := ClsV.all cv rv
  obtain ⟨oc, od', dt, sl⟩ := o
  dsimp only at h2 h3
  subst h2; subst h3
  exact PySem.W.kia_tup (PySem.W.kitx_exc k.cl k.ga k.gg k.sb k.ca k.sg k.tk k.mo) I.kIn J h1 e (fun z => nomatch z) fun t => ⟨.bl b, H, I.tok t, rfl, q⟩
/-- e.value -/
def tXv (K : PySem.W.Frag) (te : TE) : TE := fun σ H Q => te σ H fun x H1 => ∃ (a C d : Addr) (fs : List (Str × V)) (v : V), x = .ref a ∧ Exc H1 a C d fs ∧ XCls K C ∧ fs.lookup ("value" : Str) = some v ∧ Q v H1
theorem pe_xv {e : Expr} {te : TE} {pos : Pos} (he : PE X e te) (hb : attributeBase e "value" X.env (eval e X.env) = eval e X.env := by rfl) : PE X (.Attribute e "value" pos) (tXv X.K te) := by
  refine ⟨fun pins s σ H Q I h => attr_of hb (thn (he.run pins s σ H _ I h) fun u s1 ⟨x, H1, I1, rx, a, C, d, fs, v, ex, xc, k, l, q⟩ => ?_)⟩
  subst ex
  obtain rfl : u = Value.ref a := rx
  obtain ⟨ox, od, mA, J, ho, hns, hr⟩ := xc.inst I1
  obtain ⟨od', ho', hl⟩ := lookIn_ns hns
  obtain rfl : od' = od := Option.some.inj (ho'.symm.trans ho)
  obtain ⟨u, hu, ru⟩ := RelO.some_of (v := v) (o := mA "value") (by rw [← l]; exact hr "value")
  exact HandSPX.exc_get I1.kIn J k.ga k.gg k.sb (PySem.W.findObj_own k.hd k.nv rfl (by rw [hl, hu])) (handed_of ru) ⟨v, H1, I1.tok _, ru, q⟩
/-- an object that came into being on the way is tracked from now on -/
theorem Inv.track {a : Addr} {o : HO} (I : Inv X pins σ H s) (n0 : X.s_0.heap.get? a = none) (hn : H a = none) (new : ObjOk X.prog X.w (upd H a o) s.heap a o) (nL : a ≠ X.env.locals) (nC : ∀ x c, X.env.cells.lookup x = some c → c ≠ a) (nP : ∀ p ∈ X.pn ++ pins, p.1 ≠ a) :
    Inv X pins σ (upd H a o) s where
  ok := I.ok
  os := I.os
  bare := I.bare
  base := { keep := I.base.keep, slot := I.base.slot, there := I.base.there
            free := fun b u e n hx => by rw [upd_ne (fun z => by rw [z, n0] at e; cases e)]; exact I.base.free b u e n hx
            tups := fun b xs e => by rw [upd_ne (ne_of_none (I.base.tups b xs e) hn)]; exact I.base.tups b xs e
            frzs := fun b u xs e => by rw [upd_ne (ne_of_none (I.base.frzs b u xs e) hn)]; exact I.base.frzs b u xs e
            tbls := fun b ps e => by
              obtain ⟨m, z⟩ := I.base.tbls b ps e
              exact ⟨m, by rw [upd_ne (ne_of_none z hn)]; exact z⟩ }
  loc := I.loc
  cell := I.cell
  free := by rw [upd_ne (Ne.symm nL)]; exact I.free
  freeC := fun x c e => by rw [upd_ne (nC x c e)]; exact I.freeC x c e
  pin := fun p hp => by
    obtain ⟨h1, h2, h3⟩ := I.pin p hp
    exact ⟨h1, by rw [upd_ne (nP p hp)]; exact h2, h3⟩
  hok := I.hok.laidN (fun _ _ z => z) hn new
  len := I.len
/-- what 'except x as n' wishes: the exception is held as a value from then on -/
def wKp (K : PySem.W.Frag) (c : Value) (i : Nat) (ts : Addr → TS) (Wout : WX) (D : Ends) : WX := fun cls d σ H => ∃ b, PySem.W.exmOne K cls c = some b ∧ (b = false → Wout cls d σ H) ∧
  (b = true → ∀ (a : Addr) (oe : Obj) (vs : Array Value), H a = none → oe.cls = cls → oe.dict = d → oe.data = .fields vs → vs[2]? = some .none → ts a { rt := D.rt, nx := fun σ' H' => D.nx (σ'.set i none) H', bk := fun σ' H' => D.bk (σ'.set i none) H', ct := fun σ' H' => D.ct (σ'.set i none) H' } (σ.set i (some (.ref a))) (upd H a (Pin a oe)))
theorem Inv.inSuite (I : Inv X pins σ H s) (a : Addr) : Inv (X.suite a (X.pn ++ pins)) [] σ H s := { I with ok := I.ok.suite _ _, pin := fun p hp => I.pin p (by rw [List.append_nil] at hp; exact hp) }
theorem Inv.outSuite {a : Addr} {pn' : List (Addr × Obj)} (I : Inv (X.suite a (X.pn ++ pins)) pn' σ H s) (ok : X.Ok) : Inv X pins σ H s := { I with ok := ok, pin := fun p hp => I.pin p (List.mem_append_left _ hp) }
end
section
variable {X : Cx} {x n : Str} {c : Value} {i : Nat} {body suite : List Stmt} {st0 : Stmt} {np pos pos' : Pos} {tb : WX → TS} {ts : Addr → TS} {Wout : WX}
/-- where a body's exception lands: the state of the clauses -/
theorem land_catch {pins : List (Addr × Obj)} {D : Ends} (hs : X.stack = X.env :: X.outer) (hf : X.env.frame = some X.env.locals) (hex : X.ex = []) (hN : X.N.Nodup) (hi : X.N[i]? = some n) (hln : X.env.kindOf n = some .local) (hc : Names X x c) (tk : L2N.Takes X Wout)
    (hsu : ∀ (a : Addr) (pn : List (Addr × Obj)), PSs (X.suite a pn) (st0 :: suite) (ts a)) (ok : X.Ok) {u : Value} {s' : Shared} {xe : Value → Shared → Prop} {pn : List (Addr × Obj)} (hpn : pn = X.pn ++ pins) (air : L2N.XE (X.tr pn xe) (wKp X.K c i ts Wout D) u s') :
    wpAny (model X.prog X.w) X.A (noteFrame u X.env) (fun _ s₂ => wpAny (model X.prog X.w) X.A (setFlight u none) (fun _ s₃ =>
      wpAny (model X.prog X.w) X.A (handleBy u X.env [.ExceptHandler (some (.Name x np)) (some n) (st0 :: suite) pos']) (SP X pins D) X.xe s₃) X.xe s₂) X.xe s' := by
  subst hpn
  obtain ⟨a, B, sI, pins', σ', H', cls, d, eu, J0, nb, up, sky, na, hos, hag, b, hb1, hno, hyes⟩ := air
  subst eu
  have frames : X.A.frames = some (X.env :: X.outer) := ok.frames.trans (congrArg some hs)
  have J : Inv X pins σ' H' sI := J0.ofTry ok
  refine L2N.Sky.land L2N.Zn.steady frames hf (hs ▸ sky) fun g fl upg => ?_
  have Jg : Inv X pins σ' H' { s' with heap := g } := J.landed nb fl.1 (up.trans upg) hos hag
  obtain ⟨og, vg, eg, zg, dg⟩ := fl.there
  -- the exception is no frame, no cell, no pin, and new
  have noFrame : a ∉ frs (X.env :: X.outer) := fun hm => by
    obtain ⟨_, o2, e2, hnf⟩ := fl.2.2.1.mem hm
    cases Option.some.inj (e2.symm.trans eg)
    exact hnf _ dg
  have nLoc : a ≠ X.env.locals := fun z => noFrame (List.mem_filterMap.mpr ⟨X.env, List.mem_cons_self .., by rw [hf, z]⟩)
  have nI : sI.heap.get? a = none := by
    rcases e : sI.heap.get? a with _ | o2
    · rfl
    · have z := nb a o2 e (by rw [hs]; exact noFrame)
      rw [fl.2.1] at z
      cases z
  have n0 : X.s_0.heap.get? a = none := by
    rcases e : X.s_0.heap.get? a with _ | o2
    · rfl
    · obtain ⟨o3, e3⟩ := J.base.there a o2 e (by rw [hex]; exact fun z => nomatch z)
      rw [nI] at e3
      cases e3
  have nCell : ∀ y c', X.env.cells.lookup y = some c' → c' ≠ a := fun y c' e z => by
    obtain ⟨v, o2, e2, _⟩ := J.cell y c' e
    rw [z, nI] at e2
    cases e2
  have nPin : ∀ p ∈ X.pn ++ pins, p.1 ≠ a := fun p hp z => by
    have e2 := (J.pin p hp).1
    rw [z, nI] at e2
    cases e2
  have known : PySem.W.Looks (model X.prog X.w) g (typeOf (.ref a)) cls := fun _ _ _ _ k q => wpAny_typeOf_ref (k _ _ eg) (by rw [zg.1]; exact q)
  have told := PySem.W.exm_one (M := model X.prog X.w) Jg.kIn known hb1
  have named : ∀ {Q : Value → Shared → Prop} {E : Value → Shared → Prop}, Q c { s' with heap := g } → wpAny (model X.prog X.w) (X.A.mark (some (.ref a))) (eval (.Name x np) X.env) Q E { s' with heap := g } := fun {Q E} q => by
    obtain ⟨hg, hdb, hm⟩ := hc
    rcases hm with hm | ⟨hm, hv, hne⟩
    · exact ld_glob (X := X.suite a (X.pn ++ pins)) (Inv.inSuite Jg a) hg hm q hdb
    · exact ld_blt (X := X.suite a (X.pn ++ pins)) (Inv.inSuite Jg a) hg hm hv q hne hdb
  refine wpAny_handleBy_cons (codeAny_handlers_test (named (told.here ?_))) (fun q => nomatch q)
  match b, hno, hyes with
  | true, _, hyes =>
    refine codeAny_handlers_suite_as (HandSPX.lands_againZ fl fun g2 fl2 up2 => ?_)
    have J2 : Inv X pins σ' H' { s' with heap := g2 } := J.landed nb fl2.1 ((up.trans upg).trans up2) hos hag
    obtain ⟨o2, v2, e2, z2, d2⟩ := fl2.there
    have T2 := Inv.inSuite (Inv.track (o := Pin a o2) J2 n0 na (pin_ok e2) nLoc nCell nPin) a
    refine store_ok (X := X.suite a (X.pn ++ pins)) (v := .ref a) T2 hN hi (.inl hln) rfl (fun s5 T5 => ?_) (.inr hln)
    refine wpAny_mono ((hsu a (X.pn ++ pins)).run [] s5 _ _ _ T5 (hyes rfl a o2 v2 na z2.1 z2.2.1 d2 (z2.2.2 _ d2))) (fun f s6 q6 => ?_) fun _ _ z => z.elim
    have close : ∀ {σ6 : L2.St} {H6 : Hp} {R : Shared → Prop}, Inv (X.suite a (X.pn ++ pins)) [] σ6 H6 s6 → (∀ s7, Inv X pins (σ6.set i none) H6 s7 → R s7) → wpAny (model X.prog X.w) X.A (do bindName X.env n .none; unbindBehindTheSuite X.env n pos') (fun _ s7 => R s7) X.xe s6 :=
      fun {_ _ _} T6 k => gone_ok (Inv.outSuite T6 ok) hN hi hln k
    match f, q6 with
    | .next, ⟨_, _, T6, r6⟩ => exact close T6 fun _ J7 => ⟨_, _, J7, r6⟩
    | .brk, ⟨_, _, T6, r6⟩ => exact close T6 fun _ J7 => ⟨_, _, J7, r6⟩
    | .cont, ⟨_, _, T6, r6⟩ => exact close T6 fun _ J7 => ⟨_, _, J7, r6⟩
    | .ret _, ⟨_, _, _, T6, v6, r6⟩ => exact close T6 fun _ J7 => ⟨_, _, _, J7, v6, r6⟩
  | false, hno, _ =>
    refine wpAny_handleBy_nil ?_
    obtain ⟨_, _, _, o3, v3, T3, oT, ts', e3, _, d3, t3, _⟩ := id fl
    unfold PySem.passOn
    refine wpAny_bind (wpAny_field e3 d3 t3 ?_)
    rw [if_neg (fun z => by simp at z)]
    have away : wpAny (model X.prog X.w) X.A (setFlight (.ref a) X.env.frame) (fun _ s4 => wpAny (model X.prog X.w) X.A (throw (.ref a) : Sem Flow) (SP X pins D) X.xe s4) X.xe { s' with heap := g } := by
      rw [hf]
      exact HandSPX.setFlight_upZ fl fun g2 held up2 => wpAny_throw (tk _ _ ⟨a, B, sI, pins, σ', H', cls, d, rfl, J, nb, (up.trans upg).trans up2, .inr (.inr (hs ▸ held)), na, hos, hag, hno rfl⟩)
    first
      | exact wpAny_bind away
      | exact wpAny_bind (wpAny_pure (wpAny_bind away))
/-- try: body, except x as n: suite; the exception stays a value -/
theorem ps_try_kept (hs : X.stack = X.env :: X.outer) (hf : X.env.frame = some X.env.locals) (hex : X.ex = []) (hN : X.N.Nodup) (hi : X.N[i]? = some n) (hln : X.env.kindOf n = some .local) (hc : Names X x c) (tk : L2N.Takes X Wout)
    (hb : ∀ (W : WX) (pn : List (Addr × Obj)) (xe : Value → Shared → Prop), L2N.Takes (X.tr pn xe) W → PassesOwn (model X.prog X.w) X.A X.env xe → PSs (X.tr pn xe) body (tb W)) (hsu : ∀ (a : Addr) (pn : List (Addr × Obj)), PSs (X.suite a pn) (st0 :: suite) (ts a)) :
    PS X (.Try body [.ExceptHandler (some (.Name x np)) (some n) (st0 :: suite) pos'] [] [] pos) (fun D σ H => tb (wKp X.K c i ts Wout D) D σ H) :=
  ⟨fun pins s σ H D I h => wpAny_Try_except (wpAny_mono ((hb (wKp X.K c i ts Wout D) (X.pn ++ pins) _ (fun _ _ air => land_catch (pins := pins) hs hf hex hN hi hln hc tk hsu I.ok rfl air) PassesOwn.looking).run [] s σ H D (I.toTry _) h)
    (fun f s1 q => by
      match f, q with
      | .next, ⟨_, _, J, r⟩ => exact wpAny_execs_nil ⟨_, _, J.ofTry I.ok, r⟩
      | .brk, ⟨_, _, J, r⟩ => exact ⟨_, _, J.ofTry I.ok, r⟩
      | .cont, ⟨_, _, J, r⟩ => exact ⟨_, _, J.ofTry I.ok, r⟩
      | .ret _, ⟨_, _, _, J, v, r⟩ => exact ⟨_, _, _, J.ofTry I.ok, v, r⟩) fun _ _ z => z)⟩
end
/-! ### own exceptions are made -/
/-- what __init__(self, value) does -/
def spIni (K : PySem.W.Frag) : Sp := fun vs H Q _ => ∃ (a C : Addr) (v : V), vs = [.ref a, v] ∧ OexC K C ∧ PySem.W.findIn K (.ref C) "value" = some none ∧ H a = some (exo a C none) ∧ ∀ d, H d = none → d ≠ a → Q .non (upd (upd H d (exd d [("value", v)])) a (exo a C (some d)))
theorem ini_ok {P : Program} {w : World} {K : PySem.W.Frag} {mg : Str → Option Value} {base : Heap} {qual : Str} {st : Stmt} {f : Addr} {fd : FuncData} (F : Fun K "__init__" qual st f fd) (S : FnScope ["self", "value"] ["self", "value"] (defScope st))
    (body : ∀ (cdv : Value) (A : Around) (outer : List Env) (s : Shared) (H : Hp) (E : XK), PSs (cxOf CX0 P w K mg base ["self", "value"] qual (defScope st) f cdv A outer s H E).nox (defBody st) (tOst K "value" (tVar 0) (tVar 1))) : FnOk P w K mg base CX0 1 f fd ["self", "value"] (spIni K) := by
  refine F.ok S (fun vs H Q E h => ?_) fun cdv A outer s H vs Q E hr h => ?_
  · obtain ⟨a, C, v, rfl, _⟩ := h; rfl
  · obtain ⟨a, C, v, rfl, T, nv, ha, q⟩ := h
    refine ⟨_, body _ _ _ _ _ _, ?_⟩
    exact ⟨v, rfl, .ref a, rfl, a, C, rfl, T, nv, .inl ⟨ha, fun dx n ne => q dx n ne⟩⟩
/-- what is asked of a class that is made -/
structure XMk (K : PySem.W.Frag) (C fI : Addr) (fd : FuncData) : Prop where
  o : OexC K C
  ini : PySem.W.findIn K (.ref C) "__init__" = some (some (.ref fI))
  ty : PySem.W.typeIn K (.ref fI) = some (.type "function")
  bi : Binds K fd ["self", "value"] []
  nv : PySem.W.findIn K (.ref C) "value" = some none
section
variable {X : Cx} {pins : List (Addr × Obj)} {σ : L2.St} {H : Hp} {s : Shared} {C fI : Addr} {fd : FuncData} {k : Nat} {v : V}
theorem made_x {u : Value} {R : Value → Shared → Prop} (M : XMk X.K C fI fd) (F : FnOk X.prog X.w X.K X.mg X.base CX0 k fI fd ["self", "value"] (spIni X.K)) (hr : Room (k + 1) X.A) (I : Inv X pins σ H s) (rv : RelV v u)
    (q : ∀ (a d t : Addr) (sI s2 : Shared), Inv X pins σ (upd H d (.xd [("value", v)])) sI → (∀ b o, sI.heap.get? b = some o → s2.heap.get? b = some o) → sI.heap.get? a = none → H a = none → H d = none → d ≠ a →
      s2.heap.get? a = some { cls := .ref C, dict := some d, data := .fields #[.ref t, .none, .none, .none, .bool false, .none] } → s2 = { sI with heap := s2.heap } → R (.ref a) s2) : wpAny (model X.prog X.w) X.A (call (.ref C) [u]) R X.xe s := by
  obtain ⟨nm, qn, N, bs, bm, sn, sub, ab, col, dd, k0, k1, k2, k3, k5, hC, hbm⟩ := M.o.cls
  obtain ⟨hp, g, dr, tk, os⟩ := s
  have big : hp.objs.size ≤ hp.objs.size + 1 := Nat.le_succ _
  have fresh : H (hp.objs.size + 1) = none := I.hok.fresh big
  generalize ea : hp.objs.size + 1 = a at big fresh
  have keep : ∀ b o, hp.get? b = some o → ((hp.push (PySem.W.kdv_tup [u])).push (PySem.HandSPX.excO C hp.objs.size)).get? b = some o := fun b o e => Heap.get?_push_of_some _ (Heap.get?_push_of_some _ e)
  have there : ((hp.push (PySem.W.kdv_tup [u])).push (PySem.HandSPX.excO C hp.objs.size)).get? a = some (PySem.HandSPX.excO C hp.objs.size) := by subst ea; heap_get
  have I2 : Inv X pins σ (upd H a (exo a C none)) ⟨(hp.push (PySem.W.kdv_tup [u])).push (PySem.HandSPX.excO C hp.objs.size), g, dr, tk, os⟩ := I.laid (t' := tk) keep big (exo_ok there)
  have r2 : Vals [V.ref a, v] [Value.ref a, u] := .cons rfl (.cons rv .nil)
  have want : spIni X.K [.ref a, v] (upd H a (exo a C none)) (fun z H2 => z = .non ∧ ∃ d, d ≠ a ∧ H d = none ∧ H2 = upd (upd (upd H a (exo a C none)) d (exd d [("value", v)])) a (exo a C (some d))) (fun _ _ _ => False) :=
    ⟨a, C, v, rfl, M.o, M.nv, upd_same, fun d n ne => ⟨rfl, d, ne, by rw [upd_ne ne] at n; exact n, rfl⟩⟩
  have bnd := M.bi ⟨(hp.push (PySem.W.kdv_tup [u])).push (PySem.HandSPX.excO C hp.objs.size), g, dr, tk, os⟩ [.ref a, u] I2.kIn rfl
  subst ea
  refine wpAny_call (PySem.HandSPX.call_own PySem.F.excBase_ValueError (fun Y => PySem.HandSPX.refsVE_contains Y bm hbm) (I.kIn _ _ hC) (PySem.W.looks_findIn I.kIn M.ini) (fun self => PySem.W.bind_fn I.kIn self M.ty) (rest := [u]) (by show 1 ≤ sizeLine; rw [sizeLine_eq]; omega)
    (codeAny_mono (F.run _ X.stack ⟨(hp.push (PySem.W.kdv_tup [u])).push (PySem.HandSPX.excO C hp.objs.size), g, dr, tk, os⟩ (upd H (hp.objs.size + 1) (exo (hp.objs.size + 1) C none)) ⟨[.ref (hp.objs.size + 1), u], []⟩ [.ref (hp.objs.size + 1), u] _ _ (fun _ _ _ => False) (hr.make C [u] []) (I2.env0.make C [u] []) bnd r2 want) fun out s2 hq => ?_))
  match out, hq with
  | .error _, hq => exact hq.elim
  | .ok .next, hq => exact hq.elim
  | .ok .brk, hq => exact hq.elim
  | .ok .cont, hq => exact hq.elim
  | .ok (.ret u2), ⟨z, H2, os2, bare2, un2, ok2, rz, ez, d, nda, hd, eH⟩ =>
    subst ez
    obtain ⟨h2, g2, d2, t2, os'⟩ := s2
    have ed : H2 d = some (exd d [("value", v)]) := by rw [eH, upd_ne nda, upd_same]
    have ee : H2 (hp.objs.size + 1) = some (exo (hp.objs.size + 1) C (some d)) := by rw [eH, upd_same]
    obtain ⟨t0, G, J, kG, gone, obj, na⟩ := mk_end0 (d2 := d2) (t2 := t2) I big keep un2 ok2 os2 bare2 ee ed hd
    have eq : upd (del H2 (hp.objs.size + 1)) d (.xd [("value", v)]) = upd H d (.xd [("value", v)]) := by
      funext b
      by_cases hb : b = d
      · rw [hb, upd_same, upd_same]
      · rw [upd_ne hb, upd_ne hb]
        by_cases hba : b = hp.objs.size + 1
        · rw [hba, del_same, fresh]
        · rw [del_ne hba, eH, upd_ne hba, upd_ne hb, upd_ne hba]
    rw [eq] at J
    exact ⟨rz, q _ d t0 _ _ J kG gone fresh hd nda obj rfl⟩
/-- C(e), to be raised -/
theorem pmk_val {x : Str} {e : Expr} {te : TE} {p pos : Pos} (M : XMk X.K C fI fd) (F : FnOk X.prog X.w X.K X.mg X.base CX0 k fI fd ["self", "value"] (spIni X.K)) (hr : Room (k + 1) X.A) (hg : Gl X x) (hm : X.mg x = some (.ref C)) (he : PE X e te)
    (hs : starEach [e] X.env = (false, eval e X.env) :: starEach [] X.env := by rfl) (hdb : (x == ("__debug__" : Str)) = false := by decide) :
    L2N.PMk X (.Call (.Name x p) [e] [] pos) (fun σ H Q => te σ H fun v H1 => ∀ d, H1 d = none → Q (.ref C) (some d) (upd H1 d (.xd [("value", v)]))) := by
  intro pins s σ H Q I h
  refine wpAny_Call_Name_kw (ld_glob I hg hm ?_ hdb)
  refine PySem.W.callWith_K (h₀ := X.base) I.ok.mod.kin M.o.kC ?_ hs (by rfl)
  rw [hs]
  refine Calls.spliced_cons (thn (he.run pins s σ H _ I h) fun u s1 ⟨v, H1, I1, r1, q1⟩ => Calls.spliced_nil ⟨I1.kIn, ?_⟩)
  refine made_x M F hr I1 r1 fun a d t sI s2 J kG gone na nd nda ob es => ?_
  exact ⟨a, _, _, sI, _, .ref C, some d, rfl, J, kG, gone, ob, ⟨rfl, rfl, fun vs hv => by cases hv; rfl⟩, rfl, rfl, by rw [upd_ne (Ne.symm nda)]; exact na, by rw [es], by rw [es]; exact J.bare, raises_own M.o.exC M.o.tyC, q1 d nd⟩
/-- C(e) as a value -/
theorem pe_mkV {x : Str} {e : Expr} {te : TE} {p pos : Pos} (M : XMk X.K C fI fd) (F : FnOk X.prog X.w X.K X.mg X.base CX0 k fI fd ["self", "value"] (spIni X.K)) (hr : Room (k + 1) X.A) (hg : Gl X x) (hm : X.mg x = some (.ref C)) (he : PE X e te)
    (hs : starEach [e] X.env = (false, eval e X.env) :: starEach [] X.env := by rfl) (hdb : (x == ("__debug__" : Str)) = false := by decide) :
    PE X (.Call (.Name x p) [e] [] pos) (fun σ H Q => te σ H fun v H1 => ∀ a d H2, H1 a = none → H1 d = none → Ex H1 H2 → Exc H2 a C d [("value", v)] → Q (.ref a) H2) := by
  refine ⟨fun pins s σ H Q I h => ?_⟩
  refine wpAny_Call_Name_kw (ld_glob I hg hm ?_ hdb)
  refine PySem.W.callWith_K (h₀ := X.base) I.ok.mod.kin M.o.kC ?_ hs (by rfl)
  rw [hs]
  refine Calls.spliced_cons (thn (he.run pins s σ H _ I h) fun u s1 ⟨v, H1, I1, r1, q1⟩ => Calls.spliced_nil ⟨I1.kIn, ?_⟩)
  refine made_x M F hr I1 r1 fun a d t sI s2 J kG gone na nd nda ob es => ?_
  have nu : (upd H1 d (.xd [("value", v)])) a = none := by rw [upd_ne (Ne.symm nda)]; exact na
  have J2 := J.laidN (h' := s2.heap) (t' := sI.toks) (o := Pin a _) kG gone nu (pin_ok ob)
  have es2 : ({ sI with heap := s2.heap, toks := sI.toks } : Shared) = s2 := by rw [es]
  rw [es2] at J2
  exact ⟨.ref a, _, J2, rfl, q1 a d _ na nd ((Ex.new nd).trans (Ex.new nu)) ⟨⟨_, _, upd_same, rfl, rfl, rfl, rfl⟩, by rw [upd_ne nda, upd_same]⟩⟩
theorem takesN0 : L2N.Takes X (fun _ _ _ _ => False) := fun _ _ x => by
  obtain ⟨_, _, _, _, _, _, _, _, _, _, _, _, _, _, _, _, z⟩ := x
  exact z.elim
/-- what a def lets out goes on -/
abbrev passN {E : XK} (tk : L2N.Takes X (fun cls d _ H => E cls d H)) : Passes (L2N.CX X.prog X.w) X E := L2N.passes_call tk fun _ _ _ _ h => h
end
section
variable {P : Program} {w : World} {K : PySem.W.Frag} {mg : Str → Option Value} {base : Heap}
/-- a def that may raise -/
theorem okN {x qual : Str} {st : Stmt} {f : Addr} {fd : FuncData} {N ps : List Str} {k : Nat} {sp : Sp} (F : Fun K x qual st f fd) (S : FnScope N ps (defScope st)) (len : ∀ vs H Q E, sp vs H Q E → vs.length = ps.length)
    (body : ∀ (cdv : Value) (A : Around) (outer : List Env) (s : Shared) (H : Hp) (vs : List V) (Q : VK) (E : XK), Room k (A.deeper (envOfC qual (defScope st) s.heap.objs.size f cdv)) → sp vs H Q E →
      ∃ t, PSs (cxOf (L2N.CX P w) P w K mg base N qual (defScope st) f cdv A outer s H E) (defBody st) t ∧ t { rt := Q, nx := fun _ H' => Q .non H' } (L2.start N vs) H) : FnOk P w K mg base (L2N.CX P w) (k + 1) f fd ps sp := by
  obtain ⟨oc, od, kV, doc, pm, an, cdv, ct, osl, rfl, lk, hcd⟩ := F.ex
  exact fn_of lk hcd S len fun A outer s H vs Q E => body cdv A outer s H vs Q E
end
theorem clsOf {K : PySem.W.Frag} {C : Addr} (h : PySem.W.hasDictIn K C = true) : (PySem.W.clsIn K C).isSome = true := by
  obtain ⟨cd, hc, _⟩ := PySem.W.any_some h
  rw [hc]; rfl
/-- the statements of a class -/
def clsBody : Stmt → List Stmt
  | .ClassDef (body := b) .. => b
  | _ => []
def tRz (te : TE) (C : Addr) (W : WX) : TS := fun _ σ H => te σ H fun v H1 => ∀ d, H1 d = none → W (.ref C) (some d) σ (upd H1 d (.xd [("value", v)]))
end Mc
namespace Mc
open PySem PySem.Spec PyProof.Rows L2 Evl
/-! ### raising while an exception with a context is handled -/
section
variable {prog : Program} {w : World} {A : Around} {E : Value → Shared → Prop} {s : Shared}
theorem unchain_two {y b t : Addr} {oy ob : Obj} {vy vb : Array Value} {Q : Value → Shared → Prop} (gy : s.heap.get? y = some oy) (dy : oy.data = .fields vy) (cy : vy[2]? = some (.ref b)) (gb : s.heap.get? b = some ob) (db : ob.data = .fields vb) (cb : vb[2]? = some .none) (nbt : b ≠ t) (nby : b ≠ y) (q : Q .none s) :
    wpAny (model prog w) A (holding [Value.ref t] (runValue (.builtin "proto.unchain" ⟨[.ref t, .ref y, .ref y, .bool false], []⟩))) Q E s := by
  have n0 : ¬ (Value.ref b == Value.none) = true := by simp
  have n1 : ¬ (Value.ref b == Value.ref t) = true := by simpa using nbt
  have n2 : ¬ (Value.ref b == Value.ref y) = true := by simpa using nby
  refine wpAny_holding (wpAny_runValue (codeAny_builtin HotX.entry_unchain (show wpAny _ _ (field (.ref y) 2 >>= _) _ _ s from wpAny_bind (wpAny_field gy dy cy ?_))))
  rw [if_neg n0, if_neg n1, if_neg n2]
  dsimp only
  rw [if_neg Bool.false_ne_true]
  refine wpAny_bind (wpAny_pure (wpAny_pure ⟨Code.quiet_builtin _ (by decide +kernel), codeAny_builtin HotX.entry_unchain (show wpAny _ _ (field (.ref b) 2 >>= _) _ _ s from wpAny_bind (wpAny_field gb db cb ?_))⟩))
  first | (rw [if_pos (show (Value.none == Value.none) = true from rfl)]; exact wpAny_pure q) | (rw [if_pos (show (Value.none == Value.none) = true from rfl)]; exact wpAny_bind (wpAny_pure (wpAny_pure q)))
/-- the exception at x1 is handled; its context is None, or the exception at b, whose context is None -/
structure HotG (A : Around) (x1 : Addr) (c : Option Addr) (h : Heap) : Prop where
  hd : A.handled = some (.ref x1)
  ob : ∃ (o : Obj) (vs : Array Value), h.get? x1 = some o ∧ o.data = .fields vs ∧ vs[2]? = some (match c with | none => .none | some b => .ref b)
  cx : ∀ b, c = some b → b ≠ x1 ∧ ∃ (o : Obj) (vs : Array Value), h.get? b = some o ∧ o.data = .fields vs ∧ vs[2]? = some .none
/-- neither the exception nor its context -/
def Far (x1 : Addr) (c : Option Addr) (t : Addr) : Prop := x1 ≠ t ∧ ∀ b, c = some b → b ≠ t
theorem hot_on {h h' : Heap} {x1 : Addr} {c : Option Addr} (hot : HotG A x1 c h) (k : ∀ b o, (b = x1 ∨ c = some b) → h.get? b = some o → h'.get? b = some o) : HotG A x1 c h' := by
  obtain ⟨a, ⟨o, vs, g, r⟩, cx⟩ := hot
  exact ⟨a, ⟨o, vs, k x1 o (.inl rfl) g, r⟩, fun b e => by
    obtain ⟨n, ob, vb, g2, r2⟩ := cx b e
    exact ⟨n, ob, vb, k b ob (.inr e) g2, r2⟩⟩
theorem hot_far {h : Heap} {x1 : Addr} {c : Option Addr} (hot : HotG A x1 c h) {t : Addr} (n : h.objs.size ≤ t) : Far x1 c t := by
  obtain ⟨_, ⟨o, _, g, _⟩, cx⟩ := hot
  refine ⟨Nat.ne_of_lt (Nat.lt_of_lt_of_le (Heap.lt_size g) n), fun b e => ?_⟩
  obtain ⟨_, ob, _, g2, _⟩ := cx b e
  exact Nat.ne_of_lt (Nat.lt_of_lt_of_le (Heap.lt_size g2) n)
theorem raiseNew_g {α : Type} {t y : Addr} {c : Option Addr} {ot : Obj} {vt : Array Value} {Q : α → Shared → Prop} (hot : HotG A y c s.heap) (far : Far y c t) (gt : s.heap.get? t = some ot) (dt : ot.data = .fields vt) (lt : 2 < vt.size)
    (out : E (.ref t) { s with heap := s.heap.update t (Obj.mapFields (·.setIfInBounds 2 (.ref y))) }) : wpAny (model prog w) A (raiseNew (.ref t) : Sem α) Q E s := by
  obtain ⟨hh, ⟨oy, vy, gy, dy, cy⟩, cx⟩ := hot
  have away : wpAny (model prog w) A (holding [Value.ref t] (runValue (.builtin "proto.unchain" ⟨[.ref t, .ref y, .ref y, .bool false], []⟩))) (fun _ s' => wpAny (model prog w) A (updateField t 2 (.ref y)) (fun _ s'' => wpAny (model prog w) A (throw (.ref t) : Sem α) Q E s'') E s') E s := by
    cases c with
    | none => exact HotX.unchained gy dy cy (HotX.chained gt dt lt (wpAny_throw out))
    | some b =>
      obtain ⟨nb, ob, vb, gb, db, cb⟩ := cx b rfl
      exact unchain_two gy dy cy gb db cb (far.2 b rfl) nb (HotX.chained gt dt lt (wpAny_throw out))
  have ne : (Value.ref y != Value.ref t) = true := HotX.ref_bne far.1
  have both : wpAny (model prog w) A (do let _ ← holding [Value.ref t] (runValue (.builtin "proto.unchain" ⟨[.ref t, .ref y, .ref y, .bool false], []⟩)); updateField t 2 (.ref y); (throw (.ref t) : Sem α)) Q E s := wpAny_bind (wpAny_mono away (fun _ _ h => wpAny_bind h) fun _ _ x => x)
  unfold raiseNew
  refine wpAny_bind (wpAny_handled (hh.symm ▸ ?_))
  first
  | (show wpAny _ _ (if (Value.ref y != Value.ref t) = true then _ else _) _ _ _; rw [if_pos ne]; first | exact both | exact wpAny_bind (wpAny_bind away))
  | (refine wpAny_bind ?_; show wpAny _ _ (if (Value.ref y != Value.ref t) = true then _ else _) _ _ _; rw [if_pos ne]; exact wpAny_bind away)
end
/-! ### walking while an exception is handled -/
section
variable {prog : Program} {w : World} {A : Around} {E : Value → Shared → Prop} {s : Shared} {x1 it l : Addr} {i : Nat} {items : Array Value} {c : Option Addr}
/-- a list's iterator at its end -/
theorem end_list_hot {Q : Option Value → Shared → Prop} (hot : HotG A x1 c s.heap) (nx : Far x1 c it) (at_ : s.heap.IsListIter it l i) (ls : s.heap.IsList l items) (none_ : items[i]? = none) (q : ∀ h', Heap.ExtBut it s.heap h' → Q none { s with heap := h' }) :
    wpAny (model prog w) A (pyNext (.ref it)) Q E s := by
  obtain ⟨o, ho, hc, hd⟩ := id at_
  obtain ⟨ol, hol, _, nl, hdl⟩ := ls
  unfold pyNext
  refine wpAny_bind (wpAny_attempt (wpAny_callSpecial?_slot (name := Str.ofString "__next__") at_.typeIs slot_listiter_next (wpAny_call_entry slot_listiter_next at_.typeIs entry_listiter_next ?_ (args_listiter_next _))))
  show wpAny _ _ (field (.ref it) 0 >>= _) _ _ s
  refine wpAny_bind (wpAny_field ho hd (x := .ref l) rfl ?_)
  show wpAny _ _ (if (Value.ref l == Value.none) = true then _ else _) _ _ s
  rw [if_neg (fun z : (Value.ref l == Value.none) = true => Bool.false_ne_true z)]
  show wpAny _ _ (field (.ref it) 1 >>= _) _ _ s
  refine wpAny_bind (wpAny_field ho hd (x := .int i 0) rfl ?_)
  show wpAny _ _ (seqItems? (.ref l) >>= _) _ _ s
  refine wpAny_bind (wpAny_seqItems hol hdl ?_)
  simp only [Int.toNat_natCast, none_]
  refine wpAny_bind (wpAny_rule (wpAny_bind (wpAny_setField ho hd (by simp) (show wpAny _ _ (newExc (.type "StopIteration") [] >>= _) _ _ _ from wpAny_bind ?_))))
  simp only [newExc, newTuple]
  (refine wpAny_bind (wpAny_newObj_type ?tp (by size_fits)); refine wpAny_bind (m := firstArgMember _ _) (wpAny_of_eq (a := Value.none) (by first | rfl | (simp only [firstArgMember]; rfl)) ?mk); refine wpAny_newObj_type ?up (by size_fits))
  have k : ∀ b u, b ≠ it → s.heap.get? b = some u → (s.heap.update it (Obj.mapFields (·.setIfInBounds 0 Value.none))).get? b = some u := fun b u hb e => by rw [Heap.get?_update_other _ _ (Ne.symm hb)]; exact e
  have hot2 := hot_on (h' := s.heap.update it (Obj.mapFields (·.setIfInBounds 0 Value.none))) hot fun b u hb e => k b u (hb.elim (fun z => z ▸ nx.1) fun z => nx.2 b z) e
  have hot3 : HotG A.in1 x1 c (s.heap.update it (Obj.mapFields (·.setIfInBounds 0 Value.none))) := ⟨hot2.hd, hot2.ob, hot2.cx⟩
  refine raiseNew_g (hot_on hot3 fun b u _ e => Heap.get?_push_of_some _ (Heap.get?_push_of_some _ e)) (hot_far (hot_on hot3 fun b u _ e => Heap.get?_push_of_some _ e) (Nat.le_refl _)) (Heap.get?_push_size _ rfl) rfl (by first | (simp; done) | (simp; omega)) ?_
  refine wpAny_bind (wpAny_isInstance (T := "StopIteration") (b := true) ⟨_, Heap.get?_update_self _ (Heap.get?_push_size _ rfl) rfl, rfl⟩ isSubtype_stop (wpAny_pure (q _ fun b u hb e => ?_)))
  have e2 := Heap.get?_push_of_some { cls := .type "tuple", data := .seq #[] } (k b u hb e)
  rw [Heap.get?_update_other _ _ (Nat.ne_of_gt (Heap.lt_size e2))]
  exact Heap.get?_push_of_some _ e2
/-- a tuple's iterator at its end -/
theorem end_tuple_hot {Q : Option Value → Shared → Prop} (hot : HotG A x1 c s.heap) (nx : Far x1 c it) (at_ : IsTupIter s.heap it l i) (ls : IsTup s.heap l items) (none_ : items[i]? = none) (q : ∀ h', Heap.ExtBut it s.heap h' → Q none { s with heap := h' }) :
    wpAny (model prog w) A (pyNext (.ref it)) Q E s := by
  obtain ⟨o, ho, hc, hd⟩ := id at_
  obtain ⟨ol, hol, _, nl, hdl⟩ := ls
  unfold pyNext
  refine wpAny_bind (wpAny_attempt (wpAny_callSpecial?_slot (name := Str.ofString "__next__") at_.typeIs slot_tupleiter_next (wpAny_call_entry slot_tupleiter_next at_.typeIs entry_tupleiter_next ?_ (args_tupleiter_next _))))
  show wpAny _ _ (field (.ref it) 0 >>= _) _ _ s
  refine wpAny_bind (wpAny_field ho hd (x := .ref l) rfl ?_)
  show wpAny _ _ (if (Value.ref l == Value.none) = true then _ else _) _ _ s
  rw [if_neg (fun z : (Value.ref l == Value.none) = true => Bool.false_ne_true z)]
  show wpAny _ _ (field (.ref it) 1 >>= _) _ _ s
  refine wpAny_bind (wpAny_field ho hd (x := .int i 0) rfl ?_)
  show wpAny _ _ (seqItems? (.ref l) >>= _) _ _ s
  refine wpAny_bind (wpAny_seqItems hol hdl ?_)
  simp only [Int.toNat_natCast, none_]
  refine wpAny_bind (wpAny_rule (wpAny_bind (wpAny_setField ho hd (by simp) (show wpAny _ _ (newExc (.type "StopIteration") [] >>= _) _ _ _ from wpAny_bind ?_))))
  simp only [newExc, newTuple]
  (refine wpAny_bind (wpAny_newObj_type ?tp (by size_fits)); refine wpAny_bind (m := firstArgMember _ _) (wpAny_of_eq (a := Value.none) (by first | rfl | (simp only [firstArgMember]; rfl)) ?mk); refine wpAny_newObj_type ?up (by size_fits))
  have k : ∀ b u, b ≠ it → s.heap.get? b = some u → (s.heap.update it (Obj.mapFields (·.setIfInBounds 0 Value.none))).get? b = some u := fun b u hb e => by rw [Heap.get?_update_other _ _ (Ne.symm hb)]; exact e
  have hot2 := hot_on (h' := s.heap.update it (Obj.mapFields (·.setIfInBounds 0 Value.none))) hot fun b u hb e => k b u (hb.elim (fun z => z ▸ nx.1) fun z => nx.2 b z) e
  have hot3 : HotG A.in1 x1 c (s.heap.update it (Obj.mapFields (·.setIfInBounds 0 Value.none))) := ⟨hot2.hd, hot2.ob, hot2.cx⟩
  refine raiseNew_g (hot_on hot3 fun b u _ e => Heap.get?_push_of_some _ (Heap.get?_push_of_some _ e)) (hot_far (hot_on hot3 fun b u _ e => Heap.get?_push_of_some _ e) (Nat.le_refl _)) (Heap.get?_push_size _ rfl) rfl (by first | (simp; done) | (simp; omega)) ?_
  refine wpAny_bind (wpAny_isInstance (T := "StopIteration") (b := true) ⟨_, Heap.get?_update_self _ (Heap.get?_push_size _ rfl) rfl, rfl⟩ isSubtype_stop (wpAny_pure (q _ fun b u hb e => ?_)))
  have e2 := Heap.get?_push_of_some { cls := .type "tuple", data := .seq #[] } (k b u hb e)
  rw [Heap.get?_update_other _ _ (Nat.ne_of_gt (Heap.lt_size e2))]
  exact Heap.get?_push_of_some _ e2
/-- a tuple is taken apart -/
theorem unpack_hot {t : Addr} {targets : List (Bool × (Value → Sem Unit))} {Q : Unit → Shared → Prop} (hot : HotG A x1 c s.heap) (ht : IsTup s.heap t items) (hn : targets.length = items.size) (hstar : targets.findIdx? (·.1) = none)
    (q : ∀ h', Heap.ExtBut s.heap.objs.size s.heap h' → wpAny (model prog w) A (assignInOrder (targets.map (·.2)) items.toList) Q E { s with heap := h' }) : wpAny (model prog w) A (unpack (.ref t) targets) Q E s := by
  have far : ∀ {b : Addr} {o : Obj}, s.heap.get? b = some o → b ≠ s.heap.objs.size := fun e => Nat.ne_of_lt (Heap.lt_size e)
  have nt : t ≠ s.heap.objs.size := by obtain ⟨o, ho, _⟩ := ht; exact far ho
  unfold unpack
  rw [hn, hstar]
  refine wpAny_bind (wpAny_holding ?_)
  unfold unpackItems notIterableAtAll
  refine wpAny_bind (wpAny_bind (wpAny_specialOf ht.typeIs slot_tuple_iter.lookup (wpAny_pure ?_)))
  simp only [Bool.false_eq_true, if_false]
  refine wpAny_bind (wpAny_holding (iter_tuple ht (wpAny_bind (wpAny_holding (draw_tuple nt items.size 0 _ _ ⟨_, Heap.get?_push_size _ rfl, rfl, rfl⟩ (ht.push _) (by omega) fun h1 it1 sb1 => ?_)))))
  rw [List.drop_zero, List.take_of_length_le (by simp), if_neg (by simp)]
  have hot1 : HotG A x1 c h1 := hot_on hot fun b o _ e => sb1.extBut _ _ (far e) (Heap.get?_push_of_some _ e)
  refine wpAny_bind (wpAny_holding (end_tuple_hot (s := { s with heap := h1 }) hot1 (hot_far hot (Nat.le_refl _)) it1 ((ht.push _).extBut sb1.extBut nt) (by simp) fun h2 eb2 => ?_))
  simp only [Option.isSome_none, Bool.false_eq_true, if_false]
  exact wpAny_pure (q h2 fun b o hb e => eb2 b o hb (sb1.extBut b o hb (Heap.get?_push_of_some _ e)))
end
/-- the exception at a is held as a value; so is its context, if it has one -/
def HotC2 (H : Hp) (a : Addr) (c : Option Addr) : Prop := (∃ (oe : Obj) (vs : Array Value), H a = some (Pin a oe) ∧ oe.data = .fields vs ∧ vs[2]? = some (match c with | none => .none | some b => .ref b)) ∧ ∀ b, c = some b → b ≠ a ∧ ∃ (oe : Obj) (vs : Array Value), H b = some (Pin b oe) ∧ oe.data = .fields vs ∧ vs[2]? = some .none
def HotV (H : Hp) (a : Addr) : Prop := ∃ c, HotC2 H a c
theorem HotC2.ex_ {H H' : Hp} {a : Addr} {c : Option Addr} (v : HotC2 H a c) (e : Ex H H') : HotC2 H' a c := by
  obtain ⟨⟨oe, vs, h, r⟩, k⟩ := v
  exact ⟨⟨oe, vs, e _ _ h, r⟩, fun b z => by
    obtain ⟨n, ob, vb, g, r2⟩ := k b z
    exact ⟨n, ob, vb, e _ _ g, r2⟩⟩
theorem HotV.ex_ {H H' : Hp} {a : Addr} (v : HotV H a) (e : Ex H H') : HotV H' a := v.elim fun c k => ⟨c, k.ex_ e⟩
theorem HotC2.far {H : Hp} {a t : Addr} {c : Option Addr} (v : HotC2 H a c) (n : H t = none) : Far a c t := by
  obtain ⟨⟨oe, vs, h, _⟩, k⟩ := v
  refine ⟨fun z => ?_, fun b z => ?_⟩
  · rw [z, n] at h; cases h
  · obtain ⟨_, ob, vb, g, _⟩ := k b z
    exact fun y => by rw [y, n] at g; cases g
theorem HotV.ne {H : Hp} {a b : Addr} (v : HotV H a) (n : H b = none) : a ≠ b := v.elim fun _ k => (k.far n).1
theorem Exc.hot {H : Hp} {a C d : Addr} {fs : List (Str × V)} (x : Exc H a C d fs) : HotV H a := by
  obtain ⟨⟨oe, vs, h, _, _, r⟩, _⟩ := x
  exact ⟨none, ⟨oe, vs, h, r⟩, fun b z => nomatch z⟩
section
variable {X : Cx} {a : Addr}
theorem HotC2.at_ {pins : List (Addr × Obj)} {σ : L2.St} {H : Hp} {s : Shared} {c : Option Addr} (v : HotC2 H a c) (hh : X.A.handled = some (.ref a)) (I : Inv X pins σ H s) : HotG X.A a c s.heap := by
  obtain ⟨⟨oe, vs, h, r1, r2⟩, k⟩ := v
  exact ⟨hh, ⟨oe, vs, pin_at I.hok h, r1, r2⟩, fun b z => by
    obtain ⟨n, ob, vb, g, d1, d2⟩ := k b z
    exact ⟨n, ob, vb, pin_at I.hok g, d1, d2⟩⟩
/-- (x, y, ..) = a tuple, where the exception at a is handled -/
def gTupX (K : PySem.W.Frag) (a : Addr) (n : Nat) (t : TGs) : TG := fun x σ H Q => HotV H a ∧ gTup K n t x σ H Q
theorem pg_tupX {es : List Expr} {k : Nat} {t : TGs} {n : Nat} {pos : Pos} (hh : X.A.handled = some (.ref a)) (h : PGs X es t) (hn : (assignEach es X.env).length = n := by rfl) (hst : (assignEach es X.env).findIdx? (·.1) = none := by rfl) : PG X (.Tuple es k pos) (gTupX X.K a n t) := by
  refine ⟨fun pins s σ H v u Q I r ⟨⟨c, hot⟩, t1, xs, ev, hq, hl, hw⟩ => ?_⟩
  subst ev
  obtain rfl : u = Value.ref t1 := r
  obtain ⟨its, rv, ht, hz⟩ := I.tuple hq
  rw [assign_Tuple]
  refine wpAny_bind (wpAny_standAt (unpack_hot (hot.at_ hh I) ht (by simp [hn, ← hl, rv.length]) hst fun h' hx => ?_))
  exact h.run pins _ σ H xs _ Q (I.kept (t' := s.toks) fun b o e => hx b o (Nat.ne_of_lt (Heap.lt_size e)) e) (by simpa using rv) hw
end
/-! ### a list comprehension there -/
/-- [elt for target in (a list) if ..]: P by the turn -/
def tLcH (K : PySem.W.Frag) (a : Addr) (tl : TE) (g : TG) (tt : TT) (te : TE) (vs : List Nat) : TE := fun σ H Q => tl σ H fun x H1 => ∃ (l : Addr) (xs : List V), x = .ref l ∧ SqL K H1 l xs ∧ ∀ D, H1 D = none → ∃ P : Nat → Hp → Prop, P 0 (upd H1 D (.lst [])) ∧ (∀ i H', P i H' → SqL K H' l xs ∧ HotV H' a) ∧
  (∀ i y H', xs[i]? = some y → P i H' → g y (wipe σ vs) H' fun σ2 H2 => wipe σ2 vs = wipe σ vs ∧ tt σ2 H2 fun b H3 => if b = true then te σ2 H3 fun z H4 => ∃ acc, H4 D = some (.lst acc) ∧ acc.length < sizeLine ∧ P (i + 1) (upd H4 D (.lst (acc ++ [z]))) else P (i + 1) H3) ∧ ∀ H', P xs.length H' → Q (.ref D) H'
section
variable {X : Cx} {pins : List (Addr × Obj)} {s : Shared} {σ : L2.St} {H : Hp} {Q : VK} {elt tg iter : Expr} {ifs : List Expr} {scope : Scope} {own : List (Str × Nat)} {pos pos' : Pos} {tl : TE} {g : TG} {tt : TT} {te : TE}
theorem lc_hot {use : Option (Value → Sem Unit)} {Qf : Value → Shared → Prop} {a : Addr} (hh : X.A.handled = some (.ref a)) (hN : X.N.Nodup) (I : Inv X pins σ H s) (hl : PE X iter tl) (ok : BlkOk X.N X.env.scope scope own)
    (hg : ∀ (sB : Shared) (HB : Hp) (C : Addr) (cl : List (Str × Addr)) (fp : List Addr), PG (X.blk sB HB scope (compEnvC scope cl C X.env) fp) tg g)
    (ht : ∀ (sB : Shared) (HB : Hp) (C : Addr) (cl : List (Str × Addr)) (fp : List Addr), PTs (X.blk sB HB scope (compEnvC scope cl C X.env) fp) ifs tt) (he : ∀ (sB : Shared) (HB : Hp) (C : Addr) (cl : List (Str × Addr)) (fp : List Addr), PE (X.blk sB HB scope (compEnvC scope cl C X.env) fp) elt te)
    (hs : ∀ x, foldedSetIterable iter X.env x = pure x) (h : tLcH X.K a tl g tt te (own.map (·.2)) σ H Q)
    (fin : ∀ D C s' m H', Inv X pins σ H' s' → Q (.ref D) H' → s'.heap.Ns C m → FpOk X pins H' C → compPost (model X.prog X.w) X.A X.xe use Qf (.ref D) C (.ok .next) s') :
    wpAny (model X.prog X.w) X.A (comprehension (.ListComp elt [⟨tg, iter, ifs, 0⟩] scope pos) scope X.env pos' (newList []) false (eval iter X.env) use) Qf X.xe s := by
  refine wpAny_comprehension_free (use := use) rfl hs (closure_ok fun y hy e => (ok.free y hy e).elim (fun k => I.ok.has _ (.inl k)) fun k => I.ok.has _ (.inr k)) ok.kind (fun y hy e => (ok.uniq y hy).trans (congrArg some e)) (thn (hl.run pins s σ H _ I h) fun v sa ⟨x, Ha, Ia, rx, l, xs, ex, hq, q⟩ => ?_)
  subst ex
  obtain rfl : v = Value.ref l := rx
  obtain ⟨its, rv, pl, hz⟩ := Ia.list hq
  refine wpAny_pyIter_list pl.isList (wpAny_newObj_type (newEnv_comp ?_) (by show 0 ≤ sizeLine; decide))
  have lenI := rv.length
  -- the iterator, the new list
  generalize eit : sa.heap.objs.size = it
  generalize esb : ({ sa with heap := sa.heap.push { cls := .type "list_iterator", data := .fields #[.ref l, .int 0 0] } } : Shared) = sb
  have hb : sb.heap = sa.heap.push { cls := .type "list_iterator", data := .fields #[.ref l, .int 0 0] } := by rw [← esb]
  have Ib : Inv X pins σ Ha sb := by rw [← esb]; exact Ia.kept (t' := sa.toks) fun b o e => Heap.get?_push_of_some _ e
  have stb : sb.heap.IsListIter it l 0 := by rw [hb, ← eit]; exact ⟨_, Heap.get?_push_size _ rfl, rfl, rfl⟩
  have fb : FpOk X pins Ha it := by rw [← eit]; exact Ia.fpOk (Nat.le_refl _) (Ia.hok.fresh (Nat.le_refl _))
  have big : sa.heap.objs.size ≤ it := Nat.le_of_eq eit
  show codeAny _ _ _ (compPost _ _ _ use Qf _ _) ({ sb with heap := pushCells ((sb.heap.push { cls := .type "list", data := .seq ([] : List Value).toArray }).push { cls := .type "dict", data := .dict #[] }) scope.names } : Shared)
  generalize eD : sb.heap.objs.size = D
  have nD : Ha D = none := Ib.hok.fresh (Nat.le_of_eq eD)
  have itD : it < D := by rw [← eD, hb, Heap.size_push, ← eit]; exact Nat.lt_succ_self _
  obtain ⟨P, P0, Pl, Pt, Pe⟩ := q D nD
  generalize esc : ({ sb with heap := sb.heap.push { cls := .type "list", data := .seq ([] : List Value).toArray } } : Shared) = sc
  have hc : sc.heap = sb.heap.push { cls := .type "list", data := .seq ([] : List Value).toArray } := by rw [← esc]
  have Ic : Inv X pins σ (upd Ha D (.lst [])) sc := by
    rw [← esc]
    exact Ib.laid (t' := sb.toks) (fun b o e => Heap.get?_push_of_some _ e) (Nat.le_of_eq eD) ⟨Nat.zero_le _, [], 0, .nil, by rw [← eD]; exact Heap.get?_push_size _ rfl⟩
  have fc : FpOk X pins (upd Ha D (.lst [])) it := ⟨by rw [upd_ne (Nat.ne_of_lt itD)]; exact fb.1, fb.2⟩
  have ltc : it < sc.heap.objs.size := by rw [hc, Heap.size_push, eD]; exact Nat.lt_succ_of_lt itD
  have farI : ∀ b ∈ [it], FpOk X pins (upd Ha D (.lst [])) b ∧ b < sc.heap.objs.size := by
    intro b hb'
    obtain rfl : b = it := by simpa using hb'
    exact ⟨fc, ltc⟩
  have stc : sc.heap.IsListIter it l 0 := stb.at fun o e => by rw [hc]; exact Heap.get?_push_of_some _ e
  have es : ({ sb with heap := pushCells ((sb.heap.push { cls := .type "list", data := .seq ([] : List Value).toArray }).push { cls := .type "dict", data := .dict #[] }) scope.names } : Shared) = { sc with heap := pushCells (sc.heap.push { cls := .type "dict", data := .dict #[] }) scope.names } := by rw [← esc]
  show codeAny (model X.prog X.w) X.A (.compStart (.ListComp elt [⟨tg, iter, ifs, 0⟩] scope pos) 0 (.ref it) (.ref D) (compEnvC scope (cellsFrom (sc.heap.objs.size + 1) scope.names (cloFrom X.env.cells scope.names [])) sc.heap.objs.size X.env))
    (compPost (model X.prog X.w) X.A X.xe use Qf (.ref D) sc.heap.objs.size) ({ sb with heap := pushCells ((sb.heap.push { cls := .type "list", data := .seq ([] : List Value).toArray }).push { cls := .type "dict", data := .dict #[] }) scope.names } : Shared)
  rw [es]
  have Id := block_start Ic ok hN farI
  have rg := hg sc (upd Ha D (.lst [])) sc.heap.objs.size (cellsFrom (sc.heap.objs.size + 1) scope.names (cloFrom X.env.cells scope.names [])) [it]
  have rt := ht sc (upd Ha D (.lst [])) sc.heap.objs.size (cellsFrom (sc.heap.objs.size + 1) scope.names (cloFrom X.env.cells scope.names [])) [it]
  have re := he sc (upd Ha D (.lst [])) sc.heap.objs.size (cellsFrom (sc.heap.objs.size + 1) scope.names (cloFrom X.env.cells scope.names [])) [it]
  generalize hE : compEnvC scope (cellsFrom (sc.heap.objs.size + 1) scope.names (cloFrom X.env.cells scope.names [])) sc.heap.objs.size X.env = env at Id rg rt re ⊢
  have own_at : env.locals = sc.heap.objs.size := by rw [← hE]; rfl
  generalize hd0 : ({ sc with heap := pushCells (sc.heap.push { cls := .type "dict", data := .dict #[] }) scope.names } : Shared) = sd at Id ⊢
  have std : sd.heap.IsListIter it l 0 := stc.at fun o e => by rw [← hd0]; exact pushCells_keeps _ _ _ _ (Heap.get?_push_of_some _ e)
  have itOk : ∀ {τ : L2.St} {U : Hp} {u : Shared}, Inv (X.blk sc (upd Ha D (.lst [])) scope env [it]) [] τ U u → U it = none → FpOk (X.blk sc (upd Ha D (.lst [])) scope env [it]) [] U it := fun {τ U u} J n =>
    ⟨n, (J.ok.exf it (List.mem_singleton.mpr rfl)).1, J.ok.exfs it (List.mem_singleton.mpr rfl), .inl (List.mem_singleton.mpr rfl), fun x c e => (J.ok.exf it (List.mem_singleton.mpr rfl)).2 x c e, fun q hq => absurd (show q ∈ ([] : List (Addr × Obj)) ++ [] from hq) (by simp)⟩
  have go : codeAny (model X.prog X.w) X.A (.compLoop (.ListComp elt [⟨tg, iter, ifs, 0⟩] scope pos) 0 (.ref it) (.ref D) env) (compPost (model X.prog X.w) X.A X.xe use Qf (.ref D) sc.heap.objs.size) sd := by
    refine compLoop_any (fun m u => ∃ i U, m = xs.length - i ∧ i ≤ xs.length ∧ Inv (X.blk sc (upd Ha D (.lst [])) scope env [it]) [] (wipe σ (own.map (·.2))) U u ∧ u.heap.IsListIter it l i ∧ U it = none ∧ P i U) ?_ _ ⟨0, _, rfl, Nat.zero_le _, Id, std, fc.1, P0⟩
    rintro m u ⟨i, U, rfl, hi, J, st, no, pi⟩
    obtain ⟨f0, f1, f2, f3, f4, f5⟩ := itOk J no
    obtain ⟨lU, hotU⟩ := Pl i U pi
    obtain ⟨itv, rvU, pl2, _⟩ := J.list lU
    have lenU := rvU.length
    rcases Nat.lt_or_ge i xs.length with lt | ge
    · obtain ⟨y, ey⟩ : ∃ y, xs[i]? = some y := ⟨_, List.getElem?_eq_getElem lt⟩
      obtain ⟨v, ev, ry⟩ := rvU.get ey
      refine wpAny_pyNext_list_item st pl2.isList (x := v) (by simpa using ev) fun h1 st1 sb1 => ?_
      have J1 := J.turned (h' := h1) (t' := u.toks) (fun b o hb e => (sb1.2 b hb).trans e) f0 f1 f3 f4 f5
      obtain ⟨oi, e1, c1, d1⟩ := id st1
      refine go_of (s := { u with heap := h1 }) e1 c1 d1 (by decide) ?_
      have fit : ∀ b ∈ [it], FpOk (X.blk sc (upd Ha D (.lst [])) scope env [it]) [] U b := by
        intro b hb
        obtain rfl : b = it := by simpa using hb
        exact itOk J no
      have objs : ∀ b ∈ [it], ∃ o, h1.get? b = some o ∧ ∀ v, o.data ≠ .cell v := by
        intro b hb
        obtain rfl : b = it := by simpa using hb
        exact ⟨oi, e1, fun v z => by rw [d1] at z; cases z⟩
      refine thnF (rg.run _ _ _ U y v _ (J1.pinned fit objs) ry (Pt i y U ey pi)) fun _ u2 ⟨τ, U2, J2, back, q2⟩ => ?_
      refine thnF (rt.run _ u2 τ U2 _ J2 q2) fun b u3 ⟨U3, J3, q3⟩ => ?_
      have next : ∀ {u' : Shared} {U' : Hp}, Inv (X.blk sc (upd Ha D (.lst [])) scope env [it]) ([] ++ pinsAt [it] h1) τ U' u' → P (i + 1) U' → ∃ m', m' < xs.length - i ∧ ∃ j V, m' = xs.length - j ∧ j ≤ xs.length ∧ Inv (X.blk sc (upd Ha D (.lst [])) scope env [it]) [] (wipe σ (own.map (·.2))) V u' ∧ u'.heap.IsListIter it l j ∧ V it = none ∧ P j V := fun {u' U'} J' p' => by
        obtain ⟨k1, k2, _⟩ := J'.pin (it, oi) (List.mem_append_right _ (List.mem_append_right _ (mem_pinsAt (List.mem_singleton.mpr rfl) e1)))
        exact ⟨xs.length - (i + 1), by omega, i + 1, U', rfl, lt, (J'.unpinned (pins := [])).weak (by rw [← back, wipe_length]) (fun j v e => (wipe_some (back ▸ e)).1), ⟨oi, k1, c1, d1⟩, k2, p'⟩
      match b, q3 with
      | false, q3 => exact next J3 q3
      | true, q3 =>
        refine thnF (re.run _ u3 τ U3 _ J3 q3) fun z u4 ⟨x4, U4, J4, r4, acc, at4, room, q4⟩ => ?_
        exact app_ok (X := X.blk sc (upd Ha D (.lst [])) scope env [it]) J4 at4 room r4 fun u5 J5 => next J5 q4
    · have ei : i = xs.length := Nat.le_antisymm hi ge
      obtain ⟨cU, hotC⟩ := hotU
      refine end_list_hot (hotC.at_ (X := X.blk sc (upd Ha D (.lst [])) scope env [it]) hh J) (hotC.far no) st pl2.isList ?_ fun h1 eb => ?_
      · simp; omega
      have J1 := J.turned (h' := h1) (t' := u.toks) (fun b o hb e => eb b o hb e) f0 f1 f3 f4 f5
      have J2 : Inv X pins σ U { u with heap := h1 } := Ic.call' (ch := [it]) J1.os J1.base J1.hok J1.bare fun b hb => by
        obtain ⟨⟨_, z1, z2, z3, z4, z5⟩, _⟩ := farI b hb
        exact ⟨z3, z1, z4, z5⟩
      have noC : U sc.heap.objs.size = none := own_at ▸ (show U env.locals = none from J1.free)
      obtain ⟨mm, hm, _⟩ := J1.loc
      have hm' : h1.Ns sc.heap.objs.size mm := own_at ▸ (show h1.Ns env.locals mm from hm)
      exact fin D sc.heap.objs.size _ mm U J2 (Pe U (ei ▸ pi)) hm' (Ic.fpOk (Nat.le_refl _) noC)
  exact codeAny_compStart_list go (wpAny_pyIter_listiter std go)
theorem pe_lcX {a : Addr} (hh : X.A.handled = some (.ref a)) (hN : X.N.Nodup) (hl : PE X iter tl) (ok : BlkOk X.N X.env.scope scope own)
    (hg : ∀ (sB : Shared) (HB : Hp) (C : Addr) (cl : List (Str × Addr)) (fp : List Addr), PG (X.blk sB HB scope (compEnvC scope cl C X.env) fp) tg g)
    (ht : ∀ (sB : Shared) (HB : Hp) (C : Addr) (cl : List (Str × Addr)) (fp : List Addr), PTs (X.blk sB HB scope (compEnvC scope cl C X.env) fp) ifs tt)
    (he : ∀ (sB : Shared) (HB : Hp) (C : Addr) (cl : List (Str × Addr)) (fp : List Addr), PE (X.blk sB HB scope (compEnvC scope cl C X.env) fp) elt te) (hs : ∀ x, foldedSetIterable iter X.env x = pure x := by intro _; rfl) :
    PE X (.ListComp elt [⟨tg, iter, ifs, 0⟩] scope pos) (tLcH X.K a tl g tt te (own.map (·.2))) := by
  refine ⟨fun pins s σ H Q I h => (eval_ListComp ..).symm ▸ ?_⟩
  refine lc_hot hh hN I hl ok hg ht he hs h fun D C u m U J q ns at_ => ⟨m, ns, fun h'' sb => ⟨.ref D, U, ?_, rfl, q⟩⟩
  exact J.turned (t' := u.toks) (fun b o nb e => (sb.2 b nb).trans e) at_.1 at_.2.1 at_.2.2.2.1 at_.2.2.2.2.1 at_.2.2.2.2.2
/-- y = [..] on one line, y a local -/
theorem ps_setLcX {a : Addr} {i : Nat} {y : Str} {py spos : Pos} (hh : X.A.handled = some (.ref a)) (hN : X.N.Nodup) (hy : X.N[i]? = some y) (hyl : X.env.scope.names.lookup y = some .local)
    (hsw : swapsWith (.ListComp elt [⟨tg, iter, ifs, 0⟩] scope pos) (some (.Name y py)) spos.line X.env = pure true) (hl : PE X iter tl) (ok : BlkOk X.N X.env.scope scope own)
    (hg : ∀ (sB : Shared) (HB : Hp) (C : Addr) (cl : List (Str × Addr)) (fp : List Addr), PG (X.blk sB HB scope (compEnvC scope cl C X.env) fp) tg g)
    (ht : ∀ (sB : Shared) (HB : Hp) (C : Addr) (cl : List (Str × Addr)) (fp : List Addr), PTs (X.blk sB HB scope (compEnvC scope cl C X.env) fp) ifs tt)
    (he : ∀ (sB : Shared) (HB : Hp) (C : Addr) (cl : List (Str × Addr)) (fp : List Addr), PE (X.blk sB HB scope (compEnvC scope cl C X.env) fp) elt te) (hs : ∀ x, foldedSetIterable iter X.env x = pure x := by intro _; rfl) :
    PS X (.Assign [.Name y py] (.ListComp elt [⟨tg, iter, ifs, 0⟩] scope pos) spos) (tAsg (tLcH X.K a tl g tt te (own.map (·.2))) (gName i)) := by
  refine ⟨fun pins s σ H D I h => (exec_Assign_Name_used _ _ _ _ hsw).symm ▸ wpAny_bind (wpAny_standAt (wpAny_bind ?_))⟩
  have key : wpAny (model X.prog X.w) X.A (comprehension (.ListComp elt [⟨tg, iter, ifs, 0⟩] scope pos) scope X.env (firstIterPos [⟨tg, iter, ifs, 0⟩] pos) (newList []) false (eval iter X.env) (some (assign (.Name y py) X.env))) (fun _ u => SP X pins D .next u) X.xe s := by
    refine lc_hot (Q := fun x U => gName i x σ U D.nx) hh hN I hl ok hg ht he hs h fun L C u m U J q ns at_ => ?_
    refine wpAny_assign_Name (store_ok2 (v := V.ref L) J hN hy (.inl hyl) rfl (fun u2 J2 ⟨c, sb, hc⟩ => ?_) (.inr hyl))
    have apart : C ≠ c := hc.elim (fun z => z ▸ at_.2.1) fun z w => at_.2.2.2.2.1 y c z w.symm
    exact ⟨m, ns.sameBut sb apart, fun h3 sb3 => ⟨_, U, J2.turned (t' := u2.toks) (fun b o nb e => (sb3.2 b nb).trans e) at_.1 at_.2.1 at_.2.2.2.1 at_.2.2.2.2.1 at_.2.2.2.2.2, q⟩⟩
  exact wpAny_bind (thn key fun _ _ q => wpAny_pure (wpAny_pure q))
end
/-! ### a def that is called with the exception that is handled -/
structure FnT (P : Program) (w : World) (K : PySem.W.Frag) (mg : Str → Option Value) (base : Heap) (k : Nat) (f : Addr) (fd : FuncData) (ps : List Str) (sp : Addr → Sp) : Prop where
  len : ∀ a vs H Q E, sp a vs H Q E → vs.length = ps.length
  run : ∀ (a : Addr) (A : Around) (outer : List Env) (s : Shared) (H : Hp) (args : Args) (us : List Value) (vs : List V) (Q : VK) (E : XK), L2H.RoomH k A → A.handled = some (.ref a) → Env0 P w K mg base A outer s H → BindsTo s fd args (ps.zip us) → Vals vs us → sp a vs H Q E →
    codeAny (model P w) A (.call (.ref f) args) (CR CX0 outer P w H s Q E) s
theorem fnT {P : Program} {w : World} {K : PySem.W.Frag} {mg : Str → Option Value} {base : Heap} {x qual : Str} {st : Stmt} {f : Addr} {fd : FuncData} {N ps : List Str} {k : Nat} {sp : Addr → Sp} (F : Fun K x qual st f fd) (S : FnScope N ps (defScope st)) (len : ∀ a vs H Q E, sp a vs H Q E → vs.length = ps.length)
    (body : ∀ (cdv : Value) (a : Addr) (A : Around) (outer : List Env) (s : Shared) (H : Hp) (vs : List V) (Q : VK) (E : XK) (p : Addr × Obj), A.handled = some (.ref a) → L2H.RoomH k (A.deeper (envOfC qual (defScope st) s.heap.objs.size f cdv)) → sp a vs H Q E →
      ∃ t, PSs (L2H.cxH CX0 P w K mg base N qual (defScope st) f cdv A outer s H E p) (defBody st) t ∧ t { rt := Q, nx := fun _ H' => Q .non H' } (L2.start N vs) H) : FnT P w K mg base (k + 1) f fd ps sp := by
  obtain ⟨oc, od, kV, doc, pm, an, cdv, ct, osl, rfl, lk, hcd⟩ := F.ex
  refine ⟨len, fun a A outer s H args us vs Q E room hh e0 bnd rv want => ?_⟩
  have stays : ∀ b o, base.get? b = some o → s.heap.get? b = some o := fun b o e => (e0.bs b o e).1
  have kin := e0.mod.kin.keeps stays
  have fb := e0.mod.kin _ _ lk
  have pin : L2H.PinOk outer H s (f, ⟨oc, od, .func (PySem.W.fnOf x qual (defArgs st) (defBody st) (defScope st) .none kV doc pm an cdv ct), osl⟩) :=
    { get := kin _ _ lk, free := (e0.bs _ _ fb).2, nocell := fun v z => (nomatch z), nofs := fun m => by have z := (e0.funs.mem m).1; rw [fb] at z; cases z }
  have names : ∀ y ∈ ps.zip us, (defScope st).names.lookup y.1 = some .local ∨ ((defScope st).names.lookup y.1 = some .cell ∧ ((cellsFrom (s.heap.objs.size + 1) (defScope st).names []).lookup y.1).isSome = true) := fun y hy =>
    (S.par y.1 (List.of_mem_zip hy).1).imp id fun z => ⟨z, PySem.W.cellsFrom_some _ _ _ (.inl z)⟩
  refine codeAny_call_function room.depth (kin _ _ lk) rfl S.co S.gen rfl (PySem.W.codeRec_of kin hcd) (bnd _ _ _ _ (wpAny_newFunctionEnv_cells S.kind names fun env he s1 opened => ?_))
  subst he
  obtain ⟨t, ht, q⟩ := body cdv a A outer s H vs Q E _ hh (room.deeper _) want
  refine ⟨(e0.mod.nolimit.keeps stays).keeps opened.toInCall.keep, codeAny_func (wpAny_mono (ht.run [] s1 _ H _ (L2H.inv_startH S pin e0 (len _ _ _ _ _ want) rv opened) q) (fun r s2 z => ?_) fun _ _ z => z)⟩
  match r, z with
  | .ret _, ⟨v, _, U, J, rr, qq⟩ => exact ⟨v, U, J.os, J.bare, J.base, J.hok, rr, qq⟩
  | .next, ⟨_, U, J, qq⟩ => exact ⟨V.non, U, J.os, J.bare, J.base, J.hok, rfl, qq⟩
  | .brk, ⟨_, _, _, qq⟩ => exact qq.elim
  | .cont, ⟨_, _, _, qq⟩ => exact qq.elim
theorem roomT {A : Around} {k : Nat} {v : Option Value} (r : Room k A) : L2H.RoomH k (A.mark v) := ⟨r.dp, r.un⟩
section
variable {X : Cx}
def tCallT (a : Addr) (sp : Addr → Sp) (E : XK) (t : TA) : TE := fun σ H Q => t σ H fun vs H1 => sp a vs H1 Q E
theorem pe_callT {k : Nat} {f a : Addr} {fd : FuncData} {ps : List Str} {sp : Addr → Sp} {x : Str} {q pos : Pos} {E : XK} {e : Expr} {es : List Expr} {ta : TA} (F : FnT X.prog X.w X.K X.mg X.base k f fd ps sp) (hh : X.A.handled = some (.ref a)) (hr : L2H.RoomH k X.A) (hg : Gl X x) (hm : X.mg x = some (.ref f)) (kp : PySem.W.keepIn X.K (.ref f) = true) (hb : Binds X.K fd ps [])
    (ha : PA X (e :: es) ta) (hdb : (x == ("__debug__" : Str)) = false := by decide) (he : starEach (e :: es) X.env = (false, eval e X.env) :: starEach es X.env := by rfl) (hpl : (backTo pos (starEach es X.env)).any (·.1) = false := by rfl) : PE X (.Call (.Name x q) (e :: es) [] pos) (tCallT a sp E ta) := by
  refine ⟨fun pins s σ H Q I h => wpAny_Call_Name_kw (ld_glob I hg hm ?_ hdb)⟩
  refine PySem.W.callWith_K (h₀ := X.base) I.ok.mod.kin kp (thn (ha.run pos pins s σ H _ I h) fun us s1 ⟨vs, H1, I1, r, want⟩ => ⟨I1.kIn, ?_⟩) he hpl
  have bd := hb s1 us I1.kIn ((List.append_nil us).symm ▸ r.length.symm.trans (F.len _ _ _ _ _ want))
  rw [List.append_nil] at bd
  refine wpAny_call (codeAny_mono (F.run a X.A X.stack s1 H1 ⟨us, []⟩ us vs Q E hr hh I1.env0 bd r want) fun out s2 z => ?_)
  match out, z with
  | .ok (.ret _), z => exact I1.after z
  | .ok .next, z => exact False.elim z
  | .ok .brk, z => exact False.elim z
  | .ok .cont, z => exact False.elim z
  | .error _, z => exact False.elim z
end
end Mc
namespace Mc
open PySem PySem.Spec PyProof.Rows L2 Evl
/-! ### exceptions of which more is known than class and dict -/
theorem steady_at (x : Value) : PXN.Steady1 fun o : Obj => ∀ vs : Array Value, o.data = .fields vs → vs[2]? = some x := fun o v k => by
  obtain ⟨oc, od, dt, sl⟩ := o
  cases dt with
  | fields ws =>
    intro vs e
    obtain rfl : ws.setIfInBounds 1 v = vs := Data.fields.inj e
    rw [HotX.set_other (i := 1) (j := 2) (y := x) (by decide) (k ws rfl)]
  | _ => intro vs e; first | exact Data.noConfusion e | cases e
/-- class, dict, and the context: None, or an exception that is tracked and has none -/
def Z2 (H : Hp) (cls : Value) (d : Option Addr) (o : Obj) : Prop := ∃ c : Option Addr, (o.cls = cls ∧ o.dict = d ∧ ∀ vs : Array Value, o.data = .fields vs → vs[2]? = some (match c with | none => .none | some b => .ref b)) ∧ ∀ b, c = some b → ∃ (ob : Obj) (vb : Array Value), H b = some (Pin b ob) ∧ ob.data = .fields vb ∧ vb[2]? = some .none
theorem z2_steady {H : Hp} {cls : Value} {d : Option Addr} : PXN.Steady1 (Z2 H cls d) := fun o v ⟨c, ⟨k1, k2, k3⟩, k4⟩ => ⟨c, ⟨PXN.steady_cls o v k1, PXN.steady_dict o v k2, steady_at _ o v k3⟩, k4⟩
theorem z2_of {H : Hp} {cls : Value} {d : Option Addr} {o : Obj} (z : L2N.Zn cls d o) : Z2 H cls d o := ⟨none, ⟨z.1, z.2.1, z.2.2⟩, fun b e => nomatch e⟩
theorem traced_of {h B : Heap} {a : Addr} {Y Z : Obj → Prop} {fl : Value} (k : ∀ o, Y o → Z o) (x : HandSPX.TracedZ h B a Y fl) : HandSPX.TracedZ h B a Z fl := x.elim fun oe ⟨vs, t, ot, ts, g, y, r⟩ => ⟨oe, vs, t, ot, ts, g, k oe y, r⟩
theorem sky_of {h B : Heap} {l : List Env} {a L : Addr} {Y Z : Obj → Prop} (k : ∀ o, Y o → Z o) (x : Sky B l a Y L h) : Sky B l a Z L h := by
  rcases x with ⟨s1, s2, s3, oe, vs, g, y, r⟩ | ⟨s1, s2, s3, t⟩ | ⟨s1, s2, s3, t⟩
  · exact .inl ⟨s1, s2, s3, oe, vs, g, k oe y, r⟩
  · exact .inr (.inl ⟨s1, s2, s3, traced_of k t⟩)
  · exact .inr (.inr ⟨s1, s2, s3, traced_of k t⟩)
/-- in the air of X -/
def Air (X : Cx) (W : WX) (u : Value) (s' : Shared) : Prop := ∃ (a : Addr) (B : Heap) (sI : Shared) (pins : List (Addr × Obj)) (τ : L2.St) (U : Hp) (cls : Value) (d : Option Addr), u = .ref a ∧ Inv X pins τ U sI ∧ (∀ b o, sI.heap.get? b = some o → b ∉ frs X.stack → B.get? b = some o) ∧ sI.heap.UpToSlots s'.heap ∧ Sky B X.stack a (Z2 U cls d) X.env.locals s'.heap ∧ U a = none ∧ s'.os = sI.os ∧ AllBare s'.gens ∧ W cls d τ U
def Tk (X : Cx) (W : WX) : Prop := ∀ u s', Air X W u s' → X.xe u s'
theorem air_n {X : Cx} {W : WX} {u : Value} {s' : Shared} (x : L2N.XE X W u s') : Air X W u s' := by
  obtain ⟨a, B, sI, pins, τ, U, cls, d, e1, e2, e3, e4, sky, r⟩ := x
  exact ⟨a, B, sI, pins, τ, U, cls, d, e1, e2, e3, e4, sky_of (fun _ => z2_of) sky, r⟩
theorem Tk.n {X : Cx} {W : WX} (t : Tk X W) : L2N.Takes X W := fun u s' x => t u s' (air_n x)
/-- behind a call -/
def CY (P : Program) (w : World) (outer : List Env) (H : Hp) (s : Shared) (E : XK) (u : Value) (s' : Shared) : Prop := ∃ (a : Addr) (B : Heap) (U : Hp) (cls : Value) (d : Option Addr), u = .ref a ∧ HandSPX.FlyingZ B outer a (Z2 U cls d) s'.heap ∧ HOk P w U B ∧ UB (frs outer) H U s.heap B s'.heap ∧ U a = none ∧ s'.os = s.os ∧ AllBare s'.gens ∧ E cls d U
section
variable {X : Cx} {pins : List (Addr × Obj)} {τ : L2.St} {H : Hp} {s s' : Shared} {W : WX} {E : XK}
theorem air_call (I : Inv X pins τ H s) (k : ∀ cls d U, E cls d U → W cls d τ U) {u : Value} (x : CY X.prog X.w X.stack H s E u s') : Air X W u s' := by
  obtain ⟨a, B, U, cls, d, rfl, fly, ok, ub, nU, os, bare, out⟩ := x
  -- what stands behind: the ground and the frames
  obtain ⟨G, in_, off⟩ := restrict s'.heap fun b => (B.get? b).isSome || decide (b ∈ frs X.stack)
  have ground : ∀ b o, B.get? b = some o → G.get? b = some o := fun b o e => (in_ b (by simp [e])).trans (fly.1 b o e)
  have frame : ∀ b, b ∈ frs X.stack → G.get? b = s'.heap.get? b := fun b m => in_ b (by simp [m])
  have back : ∀ b o, G.get? b = some o → s'.heap.get? b = some o ∧ ((B.get? b).isSome = true ∨ b ∈ frs X.stack) := fun b o e => by
    rcases z : ((B.get? b).isSome || decide (b ∈ frs X.stack)) with _ | _
    · rw [off b z] at e; exact nomatch e
    · exact ⟨(in_ b z).symm.trans e, by simpa [Bool.or_eq_true] using z⟩
  have J : Inv X pins τ U { s with heap := G, gens := s'.gens, drawn := s'.drawn, toks := s'.toks } := by
    refine I.call (ch := []) ⟨fun b o e n m _ => ground b o (ub.keep b o e n m), fun b o e n m _ => ?_, fun b o e n _ => ub.free b o e n, fun b o e _ => ?_, ub.tups, ub.frzs, ub.tbls⟩ (ok.kept ground) bare (fun _ z => nomatch z)
    · exact (ub.slot b o e m).imp fun sl z => (frame b m).trans z
    · by_cases m : b ∈ frs X.stack
      · exact (ub.slot b o e m).elim fun sl z => ⟨_, (frame b m).trans z⟩
      · exact (ub.there b o e m).imp fun o' z => ground b o' z
  refine ⟨a, B, _, pins, τ, U, cls, d, rfl, J, fun b o e m => ?_, Heap.UpToSlots.of_keeps fun b o e => (back b o e).1, .inr (.inl fly), nU, os, bare, k _ _ _ out⟩
  obtain ⟨e2, h⟩ := back b o e
  rcases h with h | h
  · obtain ⟨o2, z⟩ := Option.isSome_iff_exists.mp h
    rw [z]; exact (fly.1 b o2 z).symm.trans e2
  · exact absurd h m
theorem passY (t : Tk X W) (τ : L2.St) : PassesAt (CY X.prog X.w) X τ (WE W τ) := fun _ _ _ e s' I x => t e s' (air_call I (fun _ _ _ h => h) x)
/-- out of the def -/
theorem air_out (hs : X.stack = X.env :: X.outer) (hf : X.env.frame = some X.env.locals) (hex : X.ex = []) {E₁ : Value → Shared → Prop} (k : ∀ cls d τ U, W cls d τ U → E cls d U) {u : Value} (x : Air X W u s') :
    wpAny (model X.prog X.w) X.A (leaving X.env u) (fun _ s'' => CY X.prog X.w X.outer X.H_0 X.s_0 E u s'') E₁ s' := by
  obtain ⟨a, B, sI, pins, τ, U, cls, d, rfl, I, nb, up, sky, nU, os, bare, out⟩ := x
  have frames : X.A.frames = some (X.env :: X.outer) := I.ok.frames.trans (congrArg some hs)
  have old : ∀ b o, X.s_0.heap.get? b = some o → b ∉ X.fs → b ∉ frs X.stack := fun b o e m hm => by
    rcases List.mem_cons.mp (I.stkSub b hm) with z | z
    · have l1 := Heap.lt_size e
      rw [z] at l1
      exact Nat.lt_irrefl _ (Nat.lt_of_lt_of_le l1 I.ok.above)
    · exact m z
  have nex : ∀ b, b ∉ X.ex := fun b m => by rw [hex] at m; exact nomatch m
  have away : ∀ g, HandSPX.FlyingZ B X.outer a (Z2 U cls d) g → s'.heap.UpToSlots g → CY X.prog X.w X.outer X.H_0 X.s_0 E (.ref a) { s' with heap := g } := fun g fly up2 => by
    refine ⟨a, B, U, cls, d, rfl, fly, I.inGround nb, ⟨fun b o e n m => nb b o (I.base.keep b o e n m (nex b)) (old b o e m), fun b o e m => ?_, fun b o e n => I.base.free b o e n (nex b), fun b o e m => ?_, I.base.tups, I.base.frzs, I.base.tbls⟩, nU, os.trans I.os, bare, k _ _ _ _ out⟩
    · obtain ⟨_, o2, e2, nd⟩ := I.ok.funs.mem m
      obtain rfl : o = o2 := Option.some.inj (e.symm.trans e2)
      obtain ⟨_, y1⟩ := I.base.slot b o e (I.ok.frf b m) m (nex b)
      obtain ⟨_, y2⟩ := up b _ y1 nd
      obtain ⟨w3, y3⟩ := up2 b _ y2 nd
      exact ⟨w3, y3⟩
    · exact (I.base.there b o e (nex b)).imp fun o2 y => nb b o2 y (old b o e m)
  rw [hs] at sky
  rcases sky with ⟨c1, c2, c3, oe, vs, g, z, dd, v1⟩ | fly | held
  · exact PXN.leaving_firstZ z2_steady frames c3 hf g c1 c2 dd v1 z away
  · exact PXN.leaves_onZ z2_steady frames hf fly away
  · exact HandSPX.leaves_heldZ hf held away
theorem tk_of (hs : X.stack = X.env :: X.outer) (hf : X.env.frame = some X.env.locals) (hex : X.ex = []) {E₁ : Value → Shared → Prop} (hx : X.xe = fun e s' => wpAny (model X.prog X.w) X.A (leaving X.env e) (fun _ s'' => CY X.prog X.w X.outer X.H_0 X.s_0 E e s'') E₁ s') : Tk X (fun cls d _ U => E cls d U) := fun u s' x => by
  rw [hx]; exact air_out (W := fun cls d _ U => E cls d U) (E := E) hs hf hex (fun _ _ _ _ h => h) x
end
/-- a def that lets such an exception out -/
theorem okY {P : Program} {w : World} {K : PySem.W.Frag} {mg : Str → Option Value} {base : Heap} {x qual : Str} {st : Stmt} {f : Addr} {fd : FuncData} {N ps : List Str} {k : Nat} {sp : Sp} (F : Fun K x qual st f fd) (S : FnScope N ps (defScope st)) (len : ∀ vs H Q E, sp vs H Q E → vs.length = ps.length)
    (body : ∀ (cdv : Value) (A : Around) (outer : List Env) (s : Shared) (H : Hp) (vs : List V) (Q : VK) (E : XK), Room k (A.deeper (envOfC qual (defScope st) s.heap.objs.size f cdv)) → sp vs H Q E →
      ∃ t, PSs (cxOf (CY P w) P w K mg base N qual (defScope st) f cdv A outer s H E) (defBody st) t ∧ t { rt := Q, nx := fun _ H' => Q .non H' } (L2.start N vs) H) : FnOk P w K mg base (CY P w) (k + 1) f fd ps sp := by
  obtain ⟨oc, od, kV, doc, pm, an, cdv, ct, osl, rfl, lk, hcd⟩ := F.ex
  exact fn_of lk hcd S len fun A outer s H vs Q E => body cdv A outer s H vs Q E
end Mc
namespace Mc
open PySem PySem.Spec PyProof.Rows L2 Evl
/-! ### raise .. from None in a suite -/
section
variable {X : Cx} {pins : List (Addr × Obj)} {τ : L2.St} {U : Hp} {sI s' : Shared} {W : WX}
theorem air_new {a : Addr} {oa : Obj} {va : Array Value} {cls : Value} {d : Option Addr} (I : Inv X pins τ U sI) (keep : ∀ b o, sI.heap.get? b = some o → s'.heap.get? b = some o) (new : sI.heap.get? a = none) (ga : s'.heap.get? a = some oa)
    (z : Z2 U cls d oa) (da : oa.data = .fields va) (tb : va[1]? = some .none) (nU : U a = none) (os : s'.os = sI.os) (bare : AllBare s'.gens) (out : W cls d τ U) : Air X W (.ref a) s' := by
  have hid : (PySem.W.hideAll sI.heap (frs X.stack)).get? a = none := by
    rcases q : (PySem.W.hideAll sI.heap (frs X.stack)).get? a with _ | o
    · rfl
    · exact nomatch new.symm.trans (PySem.W.of_hideAll _ q)
  exact ⟨a, PySem.W.hideAll sI.heap (frs X.stack), sI, pins, τ, U, cls, d, rfl, I, fun b o g m => PySem.W.hideAll_get _ g m, Heap.UpToSlots.of_keeps keep,
    .inl ⟨fun b o g => keep b o (PySem.W.of_hideAll _ g), hid, Heap.FunFrames.of_keeps (fun b o g _ => ⟨o, keep b o g, rfl⟩) (funFrames_none I.stack fun b m => PySem.W.hideAll_none _ m), oa, va, ga, z, da, tb⟩, nU, os, bare, out⟩
/-- what such a raise wishes of the heap: what is handled is tracked and has no context -/
def Held0 (x0 : Addr) (U : Hp) : Prop := ∃ (o : Obj) (vs : Array Value), U x0 = some (Pin x0 o) ∧ o.data = .fields vs ∧ vs[2]? = some .none
theorem ps_raiseHY {e : Expr} {t : L2.St → Hp → XK → Prop} {j : Nat} {cpos pos : Pos} {x0 : Addr} (hh : X.A.handled = some (.ref x0)) (tk : Tk X W) (mk : L2H.PMk5 X e t) :
    PS X (.Raise (some e) (some (.Constant .none j cpos)) pos) (fun _ τ H => t τ H fun cls d U => Held0 x0 U ∧ W cls d τ U) := by
  constructor
  intro pins s τ H D I h
  have cause : ∀ (s2 : Shared) (Q2 : Value → Shared → Prop), Q2 .none s2 → wpAny (model X.prog X.w) X.A (do let v ← eval (.Constant .none j cpos) X.env; standAt pos; pure v) Q2 X.xe s2 := fun s2 Q2 q2 => wpAny_bind (Constant_none (wpAny_bind (wpAny_standAt (wpAny_pure q2))))
  refine wpAny_bind (wpAny_standAt (HotX.raise_made_hotN (x1 := x0) cause (wpAny_bind (wpAny_mono (mk pins s τ H _ I h) (fun u s1 made => wpAny_bind (wpAny_standAt (wpAny_pure ?_))) fun _ _ x => x))))
  obtain ⟨⟨a, oa, va, sI, U, cls, d, rfl, J, keep, new, ga, zn, da, tb, nU, os, bare, rz, ⟨⟨o0, v0, p0, d0, c0⟩, out⟩⟩, six⟩ := made
  have room : 4 < va.size := six a oa va rfl ga da
  have g0 : sI.heap.get? x0 = some o0 := pin_at J.hok p0
  have ne : x0 ≠ a := fun z => by rw [z, new] at g0; cases g0
  have apart : ∀ b u, sI.heap.get? b = some u → a ≠ b := fun b u g z => by rw [← z, new] at g; cases g
  have keep2 : ∀ b u, sI.heap.get? b = some u → (HotX.noneFrom s1.heap a).get? b = some u := fun b u g => (HotX.noneFrom_other (apart b u g)).trans (keep b u g)
  obtain ⟨ga2, da2⟩ := HotX.noneFrom_at ga da
  have upd3 := Heap.get?_update_self (Obj.mapFields (·.setIfInBounds 2 (.ref x0))) ga2 (Obj.isFreed_of_fields (Obj.data_mapFields da2 _))
  have tb2 : (((va.setIfInBounds 3 Value.none).setIfInBounds 4 (Value.bool true)).setIfInBounds 2 (Value.ref x0))[1]? = some Value.none := HotX.set_other (by decide) (HotX.set_other (by decide) (HotX.set_other (by decide) tb))
  have here : 2 < ((va.setIfInBounds 3 Value.none).setIfInBounds 4 (Value.bool true)).size := by rw [HotX.set_size, HotX.set_size]; omega
  have ctx : (((va.setIfInBounds 3 Value.none).setIfInBounds 4 (Value.bool true)).setIfInBounds 2 (Value.ref x0))[2]? = some (Value.ref x0) := by
    simp [Array.getElem?_setIfInBounds, room]
    omega
  refine ⟨a, oa, va, cls, rfl, ga, zn.1, da, tb, room, ne, ⟨hh, o0, v0, keep _ _ g0, d0, c0⟩, (rz _ s1.heap (J.kIn.keeps keep)).1, (rz _ (HotX.noneFrom s1.heap a) (J.kIn.keeps keep2)).2, tk _ _ (air_new J (fun b u g => ?_) new upd3 ⟨some x0, ⟨?_, ?_, fun vs e => ?_⟩, fun b e => ?_⟩ (Obj.data_mapFields da2 _) tb2 nU os bare out)⟩
  · exact (Heap.get?_update_other _ _ (apart b u g)).trans (keep2 b u g)
  · rw [Obj.cls_mapFields, Obj.cls_mapFields, Obj.cls_mapFields]; exact zn.1
  · rw [HandSPX.dict_mapFields, HandSPX.dict_mapFields, HandSPX.dict_mapFields]; exact zn.2.1
  · have e2 := Data.fields.inj ((Obj.data_mapFields da2 _).symm.trans e)
    rw [← e2]; exact ctx
  · obtain rfl : x0 = b := Option.some.inj e
    exact ⟨o0, v0, p0, d0, c0⟩
end
/-! ### try: body, except x: suite; the suite may raise, what is caught is tracked -/
def wBare (K : PySem.W.Frag) (c : Value) (ts : Addr → TS) (Wout : WX) (D : Ends) : WX := fun cls d τ U => ∃ b, PySem.W.exmOne K cls c = some b ∧ (b = false → Wout cls d τ U) ∧ (b = true → ∀ (a : Addr) (oe : Obj) (vs : Array Value), U a = none → oe.cls = cls → oe.dict = d → oe.data = .fields vs → vs[2]? = some .none → ts a D τ (upd U a (Pin a oe)))
section
variable {X : Cx} {x : Str} {c : Value} {body suite : List Stmt} {st0 : Stmt} {np pos pos' : Pos} {tb : WX → TS} {ts : Addr → TS} {Wout : WX}
theorem outSuiteX {a : Addr} {pins pn' : List (Addr × Obj)} {τ : L2.St} {U : Hp} {s : Shared} (I : Inv (L2H.suiteX X a (X.pn ++ pins)) pn' τ U s) (ok : X.Ok) : Inv X pins τ U s := Inv.outSuite (a := a) (show Inv (X.suite a (X.pn ++ pins)) pn' τ U s from I.wish fun _ _ => False) ok
theorem tkSuite {a : Addr} {pins : List (Addr × Obj)} (ok : X.Ok) (tk : Tk X Wout) : Tk (L2H.suiteX X a (X.pn ++ pins)) Wout := fun u s' ⟨b, B, sI, _, τ, U, cls, d, e1, I, e3, e4, e5, r⟩ => tk u s' ⟨b, B, sI, pins, τ, U, cls, d, e1, outSuiteX I ok, e3, e4, e5, r⟩
theorem land_bare {pins : List (Addr × Obj)} {D : Ends} (hs : X.stack = X.env :: X.outer) (hf : X.env.frame = some X.env.locals) (hex : X.ex = []) (hc : Names X x c) (out : ∀ hd : Option Value, PassesOwnAt (model X.prog X.w) (X.A.mark hd) X.A X.env X.xe) (tk : Tk X Wout)
    (hsu : ∀ (a : Addr) (pn : List (Addr × Obj)), Tk (L2H.suiteX X a pn) Wout → PSs (L2H.suiteX X a pn) (st0 :: suite) (ts a)) (ok : X.Ok) {u : Value} {s' : Shared} {xe : Value → Shared → Prop} {pn : List (Addr × Obj)} (hpn : pn = X.pn ++ pins) (air : L2N.XE (X.tr pn xe) (wBare X.K c ts Wout D) u s') :
    wpAny (model X.prog X.w) X.A (noteFrame u X.env) (fun _ s₂ => wpAny (model X.prog X.w) X.A (setFlight u none) (fun _ s₃ =>
      wpAny (model X.prog X.w) X.A (handleBy u X.env [.ExceptHandler (some (.Name x np)) none (st0 :: suite) pos']) (SP X pins D) X.xe s₃) X.xe s₂) X.xe s' := by
  subst hpn
  obtain ⟨a, B, sI, pins', τ, U, cls, d, eu, J0, nb, up, sky, nU, hos, hag, b, hb1, hno, hyes⟩ := air
  subst eu
  have frames : X.A.frames = some (X.env :: X.outer) := ok.frames.trans (congrArg some hs)
  have J : Inv X pins τ U sI := J0.ofTry ok
  refine L2N.Sky.land L2N.Zn.steady frames hf (hs ▸ sky) fun g fl upg => ?_
  have Jg : Inv X pins τ U { s' with heap := g } := J.landed nb fl.1 (up.trans upg) hos hag
  obtain ⟨og, vg, eg, zg, dg⟩ := fl.there
  have noFrame : a ∉ frs (X.env :: X.outer) := fun hm => by
    obtain ⟨_, o2, e2, hnf⟩ := fl.2.2.1.mem hm
    cases Option.some.inj (e2.symm.trans eg)
    exact hnf _ dg
  have nLoc : a ≠ X.env.locals := fun z => noFrame (List.mem_filterMap.mpr ⟨X.env, List.mem_cons_self .., by rw [hf, z]⟩)
  have nI : sI.heap.get? a = none := by
    rcases e : sI.heap.get? a with _ | o2
    · rfl
    · have z := nb a o2 e (by rw [hs]; exact noFrame)
      rw [fl.2.1] at z
      cases z
  have n0 : X.s_0.heap.get? a = none := by
    rcases e : X.s_0.heap.get? a with _ | o2
    · rfl
    · obtain ⟨o3, e3⟩ := J.base.there a o2 e (by rw [hex]; exact fun z => nomatch z)
      rw [nI] at e3
      cases e3
  have nCell : ∀ y c', X.env.cells.lookup y = some c' → c' ≠ a := fun y c' e z => by
    obtain ⟨v, o2, e2, _⟩ := J.cell y c' e
    rw [z, nI] at e2
    cases e2
  have nPin : ∀ p ∈ X.pn ++ pins, p.1 ≠ a := fun p hp z => by
    have e2 := (J.pin p hp).1
    rw [z, nI] at e2
    cases e2
  have known : PySem.W.Looks (model X.prog X.w) g (typeOf (.ref a)) cls := fun _ _ _ _ k q => wpAny_typeOf_ref (k _ _ eg) (by rw [zg.1]; exact q)
  have told := PySem.W.exm_one (M := model X.prog X.w) Jg.kIn known hb1
  have named : ∀ {Q : Value → Shared → Prop} {E : Value → Shared → Prop}, Q c { s' with heap := g } → wpAny (model X.prog X.w) (X.A.mark (some (.ref a))) (eval (.Name x np) X.env) Q E { s' with heap := g } := fun {Q E} q => by
    obtain ⟨hg, hdb, hm⟩ := hc
    rcases hm with hm | ⟨hm, hv, hne⟩
    · exact ld_glob (X := X.suite a (X.pn ++ pins)) (Inv.inSuite Jg a) hg hm q hdb
    · exact ld_blt (X := X.suite a (X.pn ++ pins)) (Inv.inSuite Jg a) hg hm hv q hne hdb
  refine wpAny_handleBy_cons (codeAny_handlers_test (named (told.here ?_))) (fun q => nomatch q)
  match b, hno, hyes with
  | true, _, hyes =>
    refine codeAny_handlers_suite (HandSPX.lands_againZ fl fun g2 fl2 up2 => ?_)
    have J2 : Inv X pins τ U { s' with heap := g2 } := J.landed nb fl2.1 ((up.trans upg).trans up2) hos hag
    obtain ⟨o2, v2, e2, z2, d2⟩ := fl2.there
    have T2 := L2H.suiteX_of (Inv.inSuite (Inv.track (o := Pin a o2) J2 n0 nU (pin_ok e2) nLoc nCell nPin) a)
    refine wpAny_mono ((hsu a (X.pn ++ pins) (tkSuite ok tk)).run [] _ _ _ _ T2 (hyes rfl a o2 v2 nU z2.1 z2.2.1 d2 (z2.2.2 _ d2))) (fun f s6 q6 => ?_) fun e6 s6 z => out (some (.ref a)) e6 s6 z
    match f, q6 with
    | .next, ⟨_, _, T6, r6⟩ => exact ⟨_, _, outSuiteX T6 ok, r6⟩
    | .brk, ⟨_, _, T6, r6⟩ => exact ⟨_, _, outSuiteX T6 ok, r6⟩
    | .cont, ⟨_, _, T6, r6⟩ => exact ⟨_, _, outSuiteX T6 ok, r6⟩
    | .ret _, ⟨_, _, _, T6, v6, r6⟩ => exact ⟨_, _, _, outSuiteX T6 ok, v6, r6⟩
  | false, hno, _ =>
    refine wpAny_handleBy_nil ?_
    obtain ⟨_, _, _, o3, v3, T3, oT, ts', e3, _, d3, t3, _⟩ := id fl
    unfold PySem.passOn
    refine wpAny_bind (wpAny_field e3 d3 t3 ?_)
    rw [if_neg (fun z => by simp at z)]
    have away : wpAny (model X.prog X.w) X.A (setFlight (.ref a) X.env.frame) (fun _ s4 => wpAny (model X.prog X.w) X.A (throw (.ref a) : Sem Flow) (SP X pins D) X.xe s4) X.xe { s' with heap := g } := by
      rw [hf]
      exact HandSPX.setFlight_upZ fl fun g2 held up2 => wpAny_throw (tk.n _ _ ⟨a, B, sI, pins, τ, U, cls, d, rfl, J, nb, (up.trans upg).trans up2, .inr (.inr (hs ▸ held)), nU, hos, hag, hno rfl⟩)
    first
      | exact wpAny_bind away
      | exact wpAny_bind (wpAny_pure (wpAny_bind away))
theorem ps_try_bare (hs : X.stack = X.env :: X.outer) (hf : X.env.frame = some X.env.locals) (hex : X.ex = []) (hc : Names X x c) (out : ∀ hd : Option Value, PassesOwnAt (model X.prog X.w) (X.A.mark hd) X.A X.env X.xe) (tk : Tk X Wout)
    (hb : ∀ (W : WX) (pn : List (Addr × Obj)) (xe : Value → Shared → Prop), L2N.Takes (X.tr pn xe) W → PassesOwn (model X.prog X.w) X.A X.env xe → PSs (X.tr pn xe) body (tb W)) (hsu : ∀ (a : Addr) (pn : List (Addr × Obj)), Tk (L2H.suiteX X a pn) Wout → PSs (L2H.suiteX X a pn) (st0 :: suite) (ts a)) :
    PS X (.Try body [.ExceptHandler (some (.Name x np)) none (st0 :: suite) pos'] [] [] pos) (fun D τ H => tb (wBare X.K c ts Wout D) D τ H) :=
  ⟨fun pins s τ H D I h => wpAny_Try_except (wpAny_mono ((hb (wBare X.K c ts Wout D) (X.pn ++ pins) _ (fun _ _ air => land_bare (pins := pins) hs hf hex hc out tk hsu I.ok rfl air) PassesOwn.looking).run [] s τ H D (I.toTry _) h)
    (fun f s1 q => by
      match f, q with
      | .next, ⟨_, _, J, r⟩ => exact wpAny_execs_nil ⟨_, _, J.ofTry I.ok, r⟩
      | .brk, ⟨_, _, J, r⟩ => exact ⟨_, _, J.ofTry I.ok, r⟩
      | .cont, ⟨_, _, J, r⟩ => exact ⟨_, _, J.ofTry I.ok, r⟩
      | .ret _, ⟨_, _, _, J, v, r⟩ => exact ⟨_, _, _, J.ofTry I.ok, v, r⟩) fun _ _ z => z)⟩
end
/-! ### try: body, except x as n: suite, of such an exception; it stays a value -/
theorem z2_cls {H : Hp} {cls : Value} {d : Option Addr} {o : Obj} (z : Z2 H cls d o) : o.cls = cls := z.elim fun _ k => k.1.1
/-- what 'except x as n' wishes here -/
def wKpY (K : PySem.W.Frag) (c : Value) (i : Nat) (ts : Addr → TS) (Wout : WX) (D : Ends) : WX := fun cls d σ H => ∃ b, PySem.W.exmOne K cls c = some b ∧ (b = false → Wout cls d σ H) ∧
  (b = true → ∀ (a : Addr) (oe : Obj) (vs : Array Value), H a = none → Z2 H cls d oe → oe.data = .fields vs → ts a { rt := D.rt, nx := fun σ' H' => D.nx (σ'.set i none) H', bk := fun σ' H' => D.bk (σ'.set i none) H', ct := fun σ' H' => D.ct (σ'.set i none) H' } (σ.set i (some (.ref a))) (upd H a (Pin a oe)))
section
variable {X : Cx} {x n : Str} {c : Value} {i : Nat} {body suite : List Stmt} {st0 : Stmt} {np pos pos' : Pos} {tb : WX → TS} {ts : Addr → TS} {Wout : WX}
theorem land_catchY {pins : List (Addr × Obj)} {D : Ends} (hs : X.stack = X.env :: X.outer) (hf : X.env.frame = some X.env.locals) (hex : X.ex = []) (hN : X.N.Nodup) (hi : X.N[i]? = some n) (hln : X.env.kindOf n = some .local) (hc : Names X x c) (tk : Tk X Wout)
    (hsu : ∀ (a : Addr) (pn : List (Addr × Obj)), PSs (X.suite a pn) (st0 :: suite) (ts a)) (ok : X.Ok) {u : Value} {s' : Shared} {xe : Value → Shared → Prop} {pn : List (Addr × Obj)} (hpn : pn = X.pn ++ pins) (air : Air (X.tr pn xe) (wKpY X.K c i ts Wout D) u s') :
    wpAny (model X.prog X.w) X.A (noteFrame u X.env) (fun _ s₂ => wpAny (model X.prog X.w) X.A (setFlight u none) (fun _ s₃ =>
      wpAny (model X.prog X.w) X.A (handleBy u X.env [.ExceptHandler (some (.Name x np)) (some n) (st0 :: suite) pos']) (SP X pins D) X.xe s₃) X.xe s₂) X.xe s' := by
  subst hpn
  obtain ⟨a, B, sI, pins', σ', H', cls, d, eu, J0, nb, up, sky, na, hos, hag, b, hb1, hno, hyes⟩ := air
  subst eu
  have frames : X.A.frames = some (X.env :: X.outer) := ok.frames.trans (congrArg some hs)
  have J : Inv X pins σ' H' sI := J0.ofTry ok
  refine L2N.Sky.land z2_steady frames hf (hs ▸ sky) fun g fl upg => ?_
  have Jg : Inv X pins σ' H' { s' with heap := g } := J.landed nb fl.1 (up.trans upg) hos hag
  obtain ⟨og, vg, eg, zg, dg⟩ := fl.there
  -- the exception is no frame, no cell, no pin, and new
  have noFrame : a ∉ frs (X.env :: X.outer) := fun hm => by
    obtain ⟨_, o2, e2, hnf⟩ := fl.2.2.1.mem hm
    cases Option.some.inj (e2.symm.trans eg)
    exact hnf _ dg
  have nLoc : a ≠ X.env.locals := fun z => noFrame (List.mem_filterMap.mpr ⟨X.env, List.mem_cons_self .., by rw [hf, z]⟩)
  have nI : sI.heap.get? a = none := by
    rcases e : sI.heap.get? a with _ | o2
    · rfl
    · have z := nb a o2 e (by rw [hs]; exact noFrame)
      rw [fl.2.1] at z
      cases z
  have n0 : X.s_0.heap.get? a = none := by
    rcases e : X.s_0.heap.get? a with _ | o2
    · rfl
    · obtain ⟨o3, e3⟩ := J.base.there a o2 e (by rw [hex]; exact fun z => nomatch z)
      rw [nI] at e3
      cases e3
  have nCell : ∀ y c', X.env.cells.lookup y = some c' → c' ≠ a := fun y c' e z => by
    obtain ⟨v, o2, e2, _⟩ := J.cell y c' e
    rw [z, nI] at e2
    cases e2
  have nPin : ∀ p ∈ X.pn ++ pins, p.1 ≠ a := fun p hp z => by
    have e2 := (J.pin p hp).1
    rw [z, nI] at e2
    cases e2
  have known : PySem.W.Looks (model X.prog X.w) g (typeOf (.ref a)) cls := fun _ _ _ _ k q => wpAny_typeOf_ref (k _ _ eg) (by rw [z2_cls zg]; exact q)
  have told := PySem.W.exm_one (M := model X.prog X.w) Jg.kIn known hb1
  have named : ∀ {Q : Value → Shared → Prop} {E : Value → Shared → Prop}, Q c { s' with heap := g } → wpAny (model X.prog X.w) (X.A.mark (some (.ref a))) (eval (.Name x np) X.env) Q E { s' with heap := g } := fun {Q E} q => by
    obtain ⟨hg, hdb, hm⟩ := hc
    rcases hm with hm | ⟨hm, hv, hne⟩
    · exact ld_glob (X := X.suite a (X.pn ++ pins)) (Inv.inSuite Jg a) hg hm q hdb
    · exact ld_blt (X := X.suite a (X.pn ++ pins)) (Inv.inSuite Jg a) hg hm hv q hne hdb
  refine wpAny_handleBy_cons (codeAny_handlers_test (named (told.here ?_))) (fun q => nomatch q)
  match b, hno, hyes with
  | true, _, hyes =>
    refine codeAny_handlers_suite_as (HandSPX.lands_againZ fl fun g2 fl2 up2 => ?_)
    have J2 : Inv X pins σ' H' { s' with heap := g2 } := J.landed nb fl2.1 ((up.trans upg).trans up2) hos hag
    obtain ⟨o2, v2, e2, z2, d2⟩ := fl2.there
    have T2 := Inv.inSuite (Inv.track (o := Pin a o2) J2 n0 na (pin_ok e2) nLoc nCell nPin) a
    refine store_ok (X := X.suite a (X.pn ++ pins)) (v := .ref a) T2 hN hi (.inl hln) rfl (fun s5 T5 => ?_) (.inr hln)
    refine wpAny_mono ((hsu a (X.pn ++ pins)).run [] s5 _ _ _ T5 (hyes rfl a o2 v2 na z2 d2)) (fun f s6 q6 => ?_) fun _ _ z => z.elim
    have close : ∀ {σ6 : L2.St} {H6 : Hp} {R : Shared → Prop}, Inv (X.suite a (X.pn ++ pins)) [] σ6 H6 s6 → (∀ s7, Inv X pins (σ6.set i none) H6 s7 → R s7) → wpAny (model X.prog X.w) X.A (do bindName X.env n .none; unbindBehindTheSuite X.env n pos') (fun _ s7 => R s7) X.xe s6 :=
      fun {_ _ _} T6 k => gone_ok (Inv.outSuite T6 ok) hN hi hln k
    match f, q6 with
    | .next, ⟨_, _, T6, r6⟩ => exact close T6 fun _ J7 => ⟨_, _, J7, r6⟩
    | .brk, ⟨_, _, T6, r6⟩ => exact close T6 fun _ J7 => ⟨_, _, J7, r6⟩
    | .cont, ⟨_, _, T6, r6⟩ => exact close T6 fun _ J7 => ⟨_, _, J7, r6⟩
    | .ret _, ⟨_, _, _, T6, v6, r6⟩ => exact close T6 fun _ J7 => ⟨_, _, _, J7, v6, r6⟩
  | false, hno, _ =>
    refine wpAny_handleBy_nil ?_
    obtain ⟨_, _, _, o3, v3, T3, oT, ts', e3, _, d3, t3, _⟩ := id fl
    unfold PySem.passOn
    refine wpAny_bind (wpAny_field e3 d3 t3 ?_)
    rw [if_neg (fun z => by simp at z)]
    have away : wpAny (model X.prog X.w) X.A (setFlight (.ref a) X.env.frame) (fun _ s4 => wpAny (model X.prog X.w) X.A (throw (.ref a) : Sem Flow) (SP X pins D) X.xe s4) X.xe { s' with heap := g } := by
      rw [hf]
      exact HandSPX.setFlight_upZ fl fun g2 held up2 => wpAny_throw (tk _ _ ⟨a, B, sI, pins, σ', H', cls, d, rfl, J, nb, (up.trans upg).trans up2, .inr (.inr (hs ▸ held)), na, hos, hag, hno rfl⟩)
    first
      | exact wpAny_bind away
      | exact wpAny_bind (wpAny_pure (wpAny_bind away))
/-- try: body, except x as n: suite; the exception stays a value -/
theorem ps_try_keptY (hs : X.stack = X.env :: X.outer) (hf : X.env.frame = some X.env.locals) (hex : X.ex = []) (hN : X.N.Nodup) (hi : X.N[i]? = some n) (hln : X.env.kindOf n = some .local) (hc : Names X x c) (tk : Tk X Wout)
    (hb : ∀ (W : WX) (pn : List (Addr × Obj)) (xe : Value → Shared → Prop), Tk (X.tr pn xe) W → PassesOwn (model X.prog X.w) X.A X.env xe → PSs (X.tr pn xe) body (tb W)) (hsu : ∀ (a : Addr) (pn : List (Addr × Obj)), PSs (X.suite a pn) (st0 :: suite) (ts a)) :
    PS X (.Try body [.ExceptHandler (some (.Name x np)) (some n) (st0 :: suite) pos'] [] [] pos) (fun D σ H => tb (wKpY X.K c i ts Wout D) D σ H) :=
  ⟨fun pins s σ H D I h => wpAny_Try_except (wpAny_mono ((hb (wKpY X.K c i ts Wout D) (X.pn ++ pins) _ (fun _ _ air => land_catchY (pins := pins) hs hf hex hN hi hln hc tk hsu I.ok rfl air) PassesOwn.looking).run [] s σ H D (I.toTry _) h)
    (fun f s1 q => by
      match f, q with
      | .next, ⟨_, _, J, r⟩ => exact wpAny_execs_nil ⟨_, _, J.ofTry I.ok, r⟩
      | .brk, ⟨_, _, J, r⟩ => exact ⟨_, _, J.ofTry I.ok, r⟩
      | .cont, ⟨_, _, J, r⟩ => exact ⟨_, _, J.ofTry I.ok, r⟩
      | .ret _, ⟨_, _, _, J, v, r⟩ => exact ⟨_, _, _, J.ofTry I.ok, v, r⟩) fun _ _ z => z)⟩
end
end Mc
namespace Mc
open PySem PySem.Spec PyProof.Rows L2 Evl
/-! ### an exception as a value, whatever its context -/
structure Exd (H : Hp) (a C d : Addr) (fs : List (Str × V)) : Prop where
  ob : ∃ (oe : Obj) (vs : Array Value), H a = some (Pin a oe) ∧ oe.cls = .ref C ∧ oe.dict = some d ∧ oe.data = .fields vs
  di : H d = some (.xd fs)
theorem Exd.ex_ {H H' : Hp} {a C d : Addr} {fs : List (Str × V)} (x : Exd H a C d fs) (e : Ex H H') : Exd H' a C d fs := by
  obtain ⟨⟨oe, vs, h, r⟩, k⟩ := x
  exact ⟨⟨oe, vs, e _ _ h, r⟩, e _ _ k⟩
section
variable {X : Cx} {pins : List (Addr × Obj)} {σ : L2.St} {H : Hp} {s : Shared}
theorem Exd.at_ {a C d : Addr} {fs : List (Str × V)} (x : Exd H a C d fs) (I : Inv X pins σ H s) : ∃ ox od mA, PySem.W.InstAt s.heap a ox C (some od) ∧ s.heap.get? d = some od ∧ s.heap.Ns1 d mA ∧ ∀ f, RelO (fs.lookup f) (mA f) := by
  obtain ⟨⟨oe, vs, h, hc, hd, hf⟩, di⟩ := x
  have g := pin_at I.hok h
  obtain ⟨mA, hn, hr⟩ := (show ∃ mA, s.heap.Ns1 d mA ∧ ∀ f, RelO (fs.lookup f) (mA f) from I.hok d _ di)
  obtain ⟨od, es, ep, ho, r⟩ := hn
  refine ⟨oe, od, mA, ⟨g, hc, ?_, ?_⟩, ho, ⟨od, es, ep, ho, r⟩, hr⟩
  · unfold PySem.W.notCls; rw [hf]
  · rw [hd]; exact ho
/-- isinstance(e, c) -/
def rIsD (K : PySem.W.Frag) : List V → Hp → VK → Prop := fun xs H Q => ∃ (a C d : Addr) (fs : List (Str × V)) (c : V) (u : Value) (b : Bool), xs = [.ref a, c] ∧ Exd H a C d fs ∧ XCls K C ∧ ClsV c u ∧ PySem.W.kitOne K (.ref C) u = some b ∧ Q (.bl b) H
theorem call_isD : CallR X (.builtin "isinstance") (rIsD X.K) := by
  intro pins s σ H xs us Q I r h
  obtain ⟨a, C, d, fs, c, u, b, rfl, x, k, cv, e, q⟩ := h
  obtain ⟨u1, u2, rfl, r1, r2⟩ := vals2 r
  have e2 := cv.eq r2
  subst e2
  obtain rfl : u1 = Value.ref a := r1
  obtain ⟨ox, od, mA, J, _⟩ := x.at_ I
  exact PySem.W.kia_one (PySem.W.kitx_exc k.cl k.ga k.gg k.sb k.ca k.sg k.tk k.mo) I.kIn J e (fun z => nomatch z) fun t => ⟨.bl b, H, I.tok t, rfl, q⟩
/-- e.value -/
def tXd (K : PySem.W.Frag) (te : TE) : TE := fun σ H Q => te σ H fun x H1 => ∃ (a C d : Addr) (fs : List (Str × V)) (v : V), x = .ref a ∧ Exd H1 a C d fs ∧ XCls K C ∧ fs.lookup ("value" : Str) = some v ∧ Q v H1
theorem pe_xd {e : Expr} {te : TE} {pos : Pos} (he : PE X e te) (hb : attributeBase e "value" X.env (eval e X.env) = eval e X.env := by rfl) : PE X (.Attribute e "value" pos) (tXd X.K te) := by
  refine ⟨fun pins s σ H Q I h => attr_of hb (thn (he.run pins s σ H _ I h) fun u s1 ⟨x, H1, I1, rx, a, C, d, fs, v, ex, xc, k, l, q⟩ => ?_)⟩
  subst ex
  obtain rfl : u = Value.ref a := rx
  obtain ⟨ox, od, mA, J, ho, hns, hr⟩ := xc.at_ I1
  obtain ⟨od', ho', hl⟩ := lookIn_ns hns
  obtain rfl : od' = od := Option.some.inj (ho'.symm.trans ho)
  obtain ⟨u, hu, ru⟩ := RelO.some_of (v := v) (o := mA "value") (by rw [← l]; exact hr "value")
  exact HandSPX.exc_get I1.kIn J k.ga k.gg k.sb (PySem.W.findObj_own k.hd k.nv rfl (by rw [hl, hu])) (handed_of ru) ⟨v, H1, I1.tok _, ru, q⟩
end
/-- what is caught of such an exception: the value, its class, and that it may be worked with while it is handled -/
theorem caughtY {H : Hp} {a C dd : Addr} {v : V} {oe : Obj} {vs : Array Value} (na : H a = none) (z : Z2 H (.ref C) (some dd) oe) (hd : oe.data = .fields vs) (hdd : H dd = some (.xd [("value", v)])) : Exd (upd H a (Pin a oe)) a C dd [("value", v)] ∧ HotV (upd H a (Pin a oe)) a := by
  obtain ⟨c, ⟨k1, k2, k3⟩, k4⟩ := z
  have nda : dd ≠ a := ne_of_none hdd na
  refine ⟨⟨⟨oe, vs, upd_same, k1, k2, hd⟩, by rw [upd_ne nda]; exact hdd⟩, c, ⟨oe, vs, upd_same, hd, k3 vs hd⟩, fun b e => ?_⟩
  obtain ⟨ob, vb, p, d1, d2⟩ := k4 b e
  have nba : b ≠ a := ne_of_none p na
  exact ⟨nba, ob, vb, by rw [upd_ne nba]; exact p, d1, d2⟩
/-! ### own exceptions are made while one is handled -/
theorem ini_okT {P : Program} {w : World} {K : PySem.W.Frag} {mg : Str → Option Value} {base : Heap} {qual : Str} {st : Stmt} {f : Addr} {fd : FuncData} (F : Fun K "__init__" qual st f fd) (S : FnScope ["self", "value"] ["self", "value"] (defScope st))
    (body : ∀ (cdv : Value) (A : Around) (outer : List Env) (s : Shared) (H : Hp) (E : XK) (p : Addr × Obj), PSs (L2H.cxH CX0 P w K mg base ["self", "value"] qual (defScope st) f cdv A outer s H E p) (defBody st) (tOst K "value" (tVar 0) (tVar 1))) : FnT P w K mg base 1 f fd ["self", "value"] (fun _ => spIni K) := by
  refine fnT F S (fun _ vs H Q E h => ?_) fun cdv _ A outer s H vs Q E p _ _ h => ?_
  · obtain ⟨a, C, v, rfl, _⟩ := h; rfl
  · obtain ⟨a, C, v, rfl, T, nv, ha, q⟩ := h
    refine ⟨_, body _ _ _ _ _ _ _, ?_⟩
    exact ⟨v, rfl, .ref a, rfl, a, C, rfl, T, nv, .inl ⟨ha, fun dx n ne => q dx n ne⟩⟩
section
variable {X : Cx} {pins : List (Addr × Obj)} {σ : L2.St} {H : Hp} {s : Shared} {C fI : Addr} {fd : FuncData} {k : Nat} {v : V}
theorem made_xT {x0 : Addr} {u : Value} {R : Value → Shared → Prop} (M : XMk X.K C fI fd) (F : FnT X.prog X.w X.K X.mg X.base k fI fd ["self", "value"] (fun _ => spIni X.K)) (hh : X.A.handled = some (.ref x0)) (hr : L2H.RoomH (k + 1) X.A) (I : Inv X pins σ H s) (rv : RelV v u)
    (q : ∀ (a d t : Addr) (sI s2 : Shared), Inv X pins σ (upd H d (.xd [("value", v)])) sI → (∀ b o, sI.heap.get? b = some o → s2.heap.get? b = some o) → sI.heap.get? a = none → H a = none → H d = none → d ≠ a →
      s2.heap.get? a = some { cls := .ref C, dict := some d, data := .fields #[.ref t, .none, .none, .none, .bool false, .none] } → s2 = { sI with heap := s2.heap } → R (.ref a) s2) : wpAny (model X.prog X.w) X.A (call (.ref C) [u]) R X.xe s := by
  obtain ⟨nm, qn, N, bs, bm, sn, sub, ab, col, dd, k0, k1, k2, k3, k5, hC, hbm⟩ := M.o.cls
  obtain ⟨hp, g, dr, tk, os⟩ := s
  have big : hp.objs.size ≤ hp.objs.size + 1 := Nat.le_succ _
  have fresh : H (hp.objs.size + 1) = none := I.hok.fresh big
  generalize ea : hp.objs.size + 1 = a at big fresh
  have keep : ∀ b o, hp.get? b = some o → ((hp.push (PySem.W.kdv_tup [u])).push (PySem.HandSPX.excO C hp.objs.size)).get? b = some o := fun b o e => Heap.get?_push_of_some _ (Heap.get?_push_of_some _ e)
  have there : ((hp.push (PySem.W.kdv_tup [u])).push (PySem.HandSPX.excO C hp.objs.size)).get? a = some (PySem.HandSPX.excO C hp.objs.size) := by subst ea; heap_get
  have I2 : Inv X pins σ (upd H a (exo a C none)) ⟨(hp.push (PySem.W.kdv_tup [u])).push (PySem.HandSPX.excO C hp.objs.size), g, dr, tk, os⟩ := I.laid (t' := tk) keep big (exo_ok there)
  have r2 : Vals [V.ref a, v] [Value.ref a, u] := .cons rfl (.cons rv .nil)
  have want : spIni X.K [.ref a, v] (upd H a (exo a C none)) (fun z H2 => z = .non ∧ ∃ d, d ≠ a ∧ H d = none ∧ H2 = upd (upd (upd H a (exo a C none)) d (exd d [("value", v)])) a (exo a C (some d))) (fun _ _ _ => False) :=
    ⟨a, C, v, rfl, M.o, M.nv, upd_same, fun d n ne => ⟨rfl, d, ne, by rw [upd_ne ne] at n; exact n, rfl⟩⟩
  have bnd := M.bi ⟨(hp.push (PySem.W.kdv_tup [u])).push (PySem.HandSPX.excO C hp.objs.size), g, dr, tk, os⟩ [.ref a, u] I2.kIn rfl
  subst ea
  refine wpAny_call (PySem.HandSPX.call_own PySem.F.excBase_ValueError (fun Y => PySem.HandSPX.refsVE_contains Y bm hbm) (I.kIn _ _ hC) (PySem.W.looks_findIn I.kIn M.ini) (fun self => PySem.W.bind_fn I.kIn self M.ty) (rest := [u]) (by show 1 ≤ sizeLine; rw [sizeLine_eq]; omega)
    (codeAny_mono (F.run x0 _ X.stack ⟨(hp.push (PySem.W.kdv_tup [u])).push (PySem.HandSPX.excO C hp.objs.size), g, dr, tk, os⟩ (upd H (hp.objs.size + 1) (exo (hp.objs.size + 1) C none)) ⟨[.ref (hp.objs.size + 1), u], []⟩ [.ref (hp.objs.size + 1), u] _ _ (fun _ _ _ => False) (hr.make C [u] []) hh (I2.env0.make C [u] []) bnd r2 want) fun out s2 hq => ?_))
  match out, hq with
  | .error _, hq => exact hq.elim
  | .ok .next, hq => exact hq.elim
  | .ok .brk, hq => exact hq.elim
  | .ok .cont, hq => exact hq.elim
  | .ok (.ret u2), ⟨z, H2, os2, bare2, un2, ok2, rz, ez, d, nda, hd, eH⟩ =>
    subst ez
    obtain ⟨h2, g2, d2, t2, os'⟩ := s2
    have ed : H2 d = some (exd d [("value", v)]) := by rw [eH, upd_ne nda, upd_same]
    have ee : H2 (hp.objs.size + 1) = some (exo (hp.objs.size + 1) C (some d)) := by rw [eH, upd_same]
    obtain ⟨t0, G, J, kG, gone, obj, na⟩ := mk_end0 (d2 := d2) (t2 := t2) I big keep un2 ok2 os2 bare2 ee ed hd
    have eq : upd (del H2 (hp.objs.size + 1)) d (.xd [("value", v)]) = upd H d (.xd [("value", v)]) := by
      funext b
      by_cases hb : b = d
      · rw [hb, upd_same, upd_same]
      · rw [upd_ne hb, upd_ne hb]
        by_cases hba : b = hp.objs.size + 1
        · rw [hba, del_same, fresh]
        · rw [del_ne hba, eH, upd_ne hba, upd_ne hb, upd_ne hba]
    rw [eq] at J
    exact ⟨rz, q _ d t0 _ _ J kG gone fresh hd nda obj rfl⟩
theorem pmk_valT {x0 : Addr} {x : Str} {e : Expr} {te : TE} {p pos : Pos} (M : XMk X.K C fI fd) (F : FnT X.prog X.w X.K X.mg X.base k fI fd ["self", "value"] (fun _ => spIni X.K)) (hh : X.A.handled = some (.ref x0)) (hr : L2H.RoomH (k + 1) X.A) (hg : Gl X x) (hm : X.mg x = some (.ref C)) (he : PE X e te)
    (hs : starEach [e] X.env = (false, eval e X.env) :: starEach [] X.env := by rfl) (hdb : (x == ("__debug__" : Str)) = false := by decide) :
    L2H.PMk5 X (.Call (.Name x p) [e] [] pos) (fun σ H Q => te σ H fun v H1 => ∀ d, H1 d = none → Q (.ref C) (some d) (upd H1 d (.xd [("value", v)]))) := by
  intro pins s σ H Q I h
  refine wpAny_Call_Name_kw (ld_glob I hg hm ?_ hdb)
  refine PySem.W.callWith_K (h₀ := X.base) I.ok.mod.kin M.o.kC ?_ hs (by rfl)
  rw [hs]
  refine Calls.spliced_cons (thn (he.run pins s σ H _ I h) fun u s1 ⟨v, H1, I1, r1, q1⟩ => Calls.spliced_nil ⟨I1.kIn, ?_⟩)
  refine made_xT M F hh hr I1 r1 fun a d t sI s2 J kG gone na nd nda ob es => ?_
  refine ⟨⟨a, _, _, sI, _, .ref C, some d, rfl, J, kG, gone, ob, ⟨rfl, rfl, fun vs hv => by cases hv; rfl⟩, rfl, rfl, by rw [upd_ne (Ne.symm nda)]; exact na, by rw [es], by rw [es]; exact J.bare, raises_own M.o.exC M.o.tyC, q1 d nd⟩, fun a2 oe vs ea ga da => ?_⟩
  cases ea
  have o2 := Option.some.inj (ga.symm.trans ob)
  subst o2
  cases da
  show (4 : Nat) < 6
  decide
end
theorem takesY0 {X : Cx} : Tk X (fun _ _ _ _ => False) := fun _ _ ⟨_, _, _, _, _, _, _, _, _, _, _, _, _, _, _, _, z⟩ => z.elim
end Mc
namespace Mc
open PySem PySem.Spec PyProof.Rows L2 Evl TL
/-! ### text[::-1] -/
def revS (z : Str) : Str := ⟨z.cps.toList.reverse.toArray⟩
def tRevS (te : TE) : TE := fun σ H Q => te σ H fun x H1 => ∃ z : Str, x = .str z ∧ z.length ≤ 1000000 ∧ Q (.str (revS z)) H1
theorem made_rev {z : Str} {t : Tok} {l u st : Option (Int × Tok)} (hl : l.map (·.1) = none) (hu : u.map (·.1) = none) (hs : st.map (·.1) = some (-1)) : sliceMade z t l u st = Made.str (revS z) := by
  have e : slicePicked z l u st = (List.range z.cps.size).reverse := by
    unfold slicePicked
    rw [hl, hu, hs]
    show Builtin.Str.strSliceIndices none none (-1) z.cps.size = _
    rw [← PySem.W.krv_range, ← PySem.W.krv_sliceRange]
    rfl
  unfold sliceMade
  rw [e, hs]
  rw [List.filterMap_reverse, PySem.W.krv_all]
  rfl
theorem pe_revS {X : Cx} {te : TE} {e : Expr} {k : Nat} {p1 p2 p3 pos : Pos} (he : PE X e te) : PE X (.Subscript e (.Slice none none (some (.UnaryOp .USub (.Constant (.int 1) k p1) p2)) p3) pos) (tRevS te) := by
  refine ⟨fun pins s σ H Q I h => ?_⟩
  refine Subscript_ (thn (he.run pins s σ H _ I h) fun v s1 ⟨x, H1, I1, r1, q1⟩ => ?_)
  obtain ⟨z, ex, hz, q⟩ := q1
  subst ex
  obtain ⟨t, rfl⟩ := r1
  have hst : PO X (some (.UnaryOp .USub (.Constant (.int 1) k p1) p2)) (tPart (tUn (rU fun i => .int (-i)) (tC (.int 1)))) := po_some (pe_un un_neg pe_int)
  refine wpAny_Slice (thn (po_none.run pins s1 σ H1 (fun o H2 => o = none ∧ H2 = H1) I1 ⟨rfl, rfl⟩) fun vl s2 ⟨l, H2, I2, pl, el, e2⟩ => ?_)
  subst el e2
  refine thn (po_none.run pins s2 σ H2 (fun o H3 => o = none ∧ H3 = H2) I2 ⟨rfl, rfl⟩) fun vu s3 ⟨u, H3, I3, pu, eu, e3⟩ => ?_
  subst eu e3
  refine thn (hst.run pins s3 σ H3 (fun o H4 => o = some (-1) ∧ H4 = H3) I3 ⟨1, rfl, -1, rfl, rfl, rfl⟩) fun vs s4 ⟨o, H4, I4, ps, eo, e4⟩ => ?_
  subst eo e4
  have I5 : Inv X pins σ H4 { s4 with heap := s4.heap.push { cls := .type "slice", data := .fields #[vl, vu, vs] } } := I4.kept (t' := s4.toks) fun b ob q => Heap.get?_push_of_some _ q
  show wpAny (model X.prog X.w) X.A (subscriptTail e (.Slice none none (some (.UnaryOp .USub (.Constant (.int 1) k p1) p2)) p3) (.str z t) (.ref s4.heap.objs.size)) (EP X pins σ Q) X.xe { s4 with heap := s4.heap.push { cls := .type "slice", data := .fields #[vl, vu, vs] } }
  refine tail_any (ops := [.ref s4.heap.objs.size, .str z t]) (typeIs_str _ z t) (F.slot_str_getitem.lookup) ?_ (by with_unfolding_all rfl)
  obtain ⟨l, rfl, hl⟩ := IsPart.raw pl
  obtain ⟨u, rfl, hu⟩ := IsPart.raw pu
  obtain ⟨o, rfl, hs⟩ := IsPart.raw ps
  refine wpAny_getItem_str_slice (l := l) (u := u) (st := o) ⟨_, Heap.get?_push_size _ rfl, rfl, rfl⟩ (by rw [hs]; rfl) ?_
  rw [made_rev hl hu hs]
  refine ⟨?_, .str _, H4, I5.tok _, ⟨_, rfl⟩, q⟩
  show (revS z).length ≤ sizeLine
  refine Nat.le_trans (Nat.le_trans (Nat.le_of_eq ?_) hz) (show 1000000 ≤ sizeLine by decide)
  show (z.cps.toList.reverse.toArray).size = z.cps.size
  rw [List.size_toArray, List.length_reverse, Array.length_toList]
/-! ### text * n -/
def repS (z : Str) (n : Nat) : Str := ⟨(List.replicate n z.cps).foldl (· ++ ·) #[]⟩
theorem fold_app (a : Array Nat) : ∀ (n : Nat) (b : Array Nat), ((List.replicate n a).foldl (· ++ ·) b).toList = b.toList ++ (List.replicate n a.toList).flatten
  | 0, b => by simp
  | n + 1, b => by
    rw [List.replicate_succ, List.foldl_cons, fold_app a n, Array.toList_append, List.replicate_succ, List.flatten_cons, List.append_assoc]
theorem tl_rep (z : Str) (n : Nat) : tl (repS z n) = (List.replicate n (tl z)).flatten := by
  show ((List.replicate n z.cps).foldl (· ++ ·) #[]).toList = _
  rw [fold_app]; rfl
theorem repS_len (z : Str) (n : Nat) : (repS z n).length = z.length * n := by
  rw [len_tl, tl_rep, len_tl z]
  induction n with
  | zero => simp
  | succ n ih => rw [List.replicate_succ, List.flatten_cons, List.length_append, ih, Nat.mul_succ, Nat.add_comm]
def rMulS : R2 := fun x y H Q => ∃ (z : Str) (n : Nat), x = .str z ∧ y = .int (n : Int) ∧ 0 < z.length ∧ z.length * n ≤ 1000000 ∧ Q (.str (repS z n)) H
theorem op_mulS {X : Cx} : OpR X (binaryOp .Mult) rMulS := by
  intro pins s σ H x y v u Q I rx ry h
  obtain ⟨z, n, rfl, rfl, h0, hz, q⟩ := h
  obtain ⟨t, rfl⟩ := rx
  obtain ⟨t', rfl⟩ := ry
  have hn : n ≤ 1000000 := Nat.le_trans (Nat.le_mul_of_pos_left n h0) hz
  have hzl : n ≠ 0 → z.length ≤ 1000000 := fun z0 => Nat.le_trans (Nat.le_mul_of_pos_right z.length (by omega)) hz
  have one : repS z 1 = z := by
    show (⟨#[] ++ z.cps⟩ : Str) = z
    rw [Array.empty_append]
  refine PySem.P.mul_str (by rw [decide_eq_false (by omega), decide_eq_false (by omega)]; rfl) (fun h1 h2 => ?_) (fun _ _ => ?_) ?_
  · intro h3
    have h4 := Int.mul_le_of_le_ediv (by omega : (0 : Int) < (n : Int)) (Int.le_refl ((2 ^ 63 - 1) / (n : Int)))
    have h5 : (2 ^ 63 - 1) / (n : Int) ≥ 1000000 := (Int.le_ediv_iff_mul_le (by omega)).mpr (by
      have : (n : Int) ≤ 1000000 := by omega
      omega)
    have := hzl (by omega)
    omega
  · rw [Int.toNat_natCast]
    exact decide_eq_false (by have : (1000000 : Nat) ≤ sizeLine := by decide
                              omega)
  · by_cases c1 : (n : Int) < 1
    · rw [if_pos c1]
      obtain rfl : n = 0 := by omega
      exact ⟨by decide, .str _, H, I.tok _, ⟨_, rfl⟩, q⟩
    · rw [if_neg c1]
      by_cases c2 : ((n : Int) == 1 || z.length == 0) = true
      · rw [if_pos c2]
        have e1 : n = 1 := by
          have : ¬ z.length = 0 := by omega
          simp at c2
          omega
        subst e1
        rw [one] at q
        exact ⟨.str z, H, I, ⟨t, rfl⟩, q⟩
      · rw [if_neg c2, Int.toNat_natCast]
        refine ⟨?_, .str _, H, I.tok _, ⟨_, rfl⟩, q⟩
        have := repS_len z n
        show (repS z n).length ≤ sizeLine
        rw [this]
        exact Nat.le_trans hz (by decide)
/-! ### a call by name, within a try -/
def tCallN0S (m : Nat) (sp : Sp) (gV : List V → List V → List V) (E : L2.St → XK) (tk : TA) : TE := fun σ H Q => tk σ H fun zs H2 => zs.length = m ∧ sp (gV [] zs) H2 Q (E σ)
section
variable {X : Cx} {CX : CXT} {k n : Nat} {f : Addr} {fd : FuncData} {ps ks : List Str} {sp : Sp} {E : L2.St → XK} {x : Str} {p pos : Pos} {kws : List Keyword} {tk : TA} {g : List Value → List Value → List Value} {gV : List V → List V → List V}
theorem run_fnNS {pins : List (Addr × Obj)} {σ : L2.St} {H : Hp} {s : Shared} {Q : VK} {us ws : List Value} {vs zs : List V} (F : FnOk X.prog X.w X.K X.mg X.base CX k f fd ps sp) (hr : Room k X.A) (hb : KBn X.K fd ps n ks g gV) (hx : PassesAt CX X σ (E σ))
    (I : Inv X pins σ H s) (r : Vals vs us) (rz : Vals zs ws) (l1 : vs.length = n) (l2 : zs.length = ks.length) (h : sp (gV vs zs) H Q (E σ)) : wpAny (model X.prog X.w) X.A (call (.ref f) us (ks.zip ws)) (EP X pins σ Q) X.xe s := by
  have r2 := hb.rel r rz
  refine wpAny_call (codeAny_mono (F.run X.A X.stack s H ⟨us, ks.zip ws⟩ (g us ws) (gV vs zs) Q (E σ) hr I.env0 (hb.to s us ws I.kIn (r.length.symm.trans l1) (rz.length.symm.trans l2)) r2 h) fun r s' hq => ?_)
  cases r with
  | error e => exact hx pins H s e s' I hq
  | ok fl =>
    cases fl with
    | ret u => exact I.after hq
    | next => exact False.elim hq
    | brk => exact False.elim hq
    | cont => exact False.elim hq
theorem pe_callN0S (F : FnOk X.prog X.w X.K X.mg X.base CX k f fd ps sp) (hr : Room k X.A) (hg : Gl X x) (hm : X.mg x = some (.ref f)) (kp : PySem.W.keepIn X.K (.ref f) = true) (hb : KBn X.K fd ps 0 ks g gV) (hx : ∀ σ, PassesAt CX X σ (E σ))
    (hkw : PK X kws tk) (hsome : (backToKw pos (keywordEach kws X.env)).all (·.1.isSome) = true := by rfl) (hnames : (backToKw pos (keywordEach kws X.env)).filterMap (·.1) = ks := by rfl)
    (hdeb : (x == ("__debug__" : Str)) = false := by decide)
    (hplain : ((backTo pos (starEach [] X.env)).any (·.1) || (backToKw pos (keywordEach kws X.env)).any (·.1.isNone)) = false := by rfl) :
    PE X (.Call (.Name x p) [] kws pos) (tCallN0S ks.length sp gV E tk) := by
  refine ⟨fun pins s σ H Q I h => wpAny_Call_Name_kw (ld_glob I hg hm ?_ hdeb)⟩
  refine PySem.W.callWith_KW0 (h₀ := X.base) I.ok.mod.kin kp hsome (thn (hkw.run pos pins s σ H _ I h) fun us s1 ⟨vs, H1, I1, r, l2, q⟩ => ⟨I1.kIn, ?_⟩) hplain
  rw [hnames]
  exact run_fnNS (us := []) F hr hb (hx σ) I1 .nil r rfl l2 q
end
/-! ### reckoning with texts -/
section
variable {K : PySem.W.Frag} {σ : L2.St} {H : Hp} {te ta tb tk tl : TE}
theorem ev_revS {a : Str} (h : Ev te σ H (.str a)) (hz : a.length ≤ 1000000) : Ev (tRevS te) σ H (.str (revS a)) := fun H1 e Q q => h H1 e _ fun H2 e2 => ⟨a, rfl, hz, q H2 e2⟩
theorem ev_cut {a : Str} {i j : Int} (h : Ev te σ H (.str a)) (hi : Ev ta σ H (.int i)) (hj : Ev tb σ H (.int j)) (hz : a.length ≤ 1000000) : Ev (tSl rSlS te (tPart ta) (tPart tb)) σ H (.str (cutS a (some i) (some j))) := fun H1 e Q q =>
  h H1 e _ fun H2 e2 => eo_some hi H2 (e.trans e2) _ fun H3 e3 => eo_some hj H3 ((e.trans e2).trans e3) _ fun H4 e4 => ⟨a, rfl, Nat.le_trans hz (by decide), q H4 ((e2.trans e3).trans e4)⟩
theorem ev_upto {a : Str} {j : Int} (h : Ev te σ H (.str a)) (hj : Ev tb σ H (.int j)) (hz : a.length ≤ 1000000) : Ev (tSl rSlS te tNoPart (tPart tb)) σ H (.str (cutS a none (some j))) := fun H1 e Q q =>
  h H1 e _ fun H2 e2 => eo_none H2 (e.trans e2) _ fun H3 e3 => eo_some hj H3 ((e.trans e2).trans e3) _ fun H4 e4 => ⟨a, rfl, Nat.le_trans hz (by decide), q H4 ((e2.trans e3).trans e4)⟩
theorem ev_mulS {z : Str} {n : Nat} {i : Int} (h : Ev ta σ H (.str z)) (hn : Ev tb σ H (.int i)) (e : i = (n : Int)) (h0 : 0 < z.length) (hz : z.length * n ≤ 1000000) : Ev (tOp rMulS ta tb) σ H (.str (repS z n)) := by
  subst e
  exact ev_op h hn fun H1 _ Q q => ⟨z, n, rfl, rfl, h0, hz, q H1 (Ex.refl H1)⟩
def rNis : R2 := fun x y H Q => ∃ (c : Nat) (z : Str), x = .str ⟨#[c]⟩ ∧ y = .str z ∧ Q (.bl (!decide (c ∈ z.cps.toList))) H
theorem op_niS {X : Cx} : OpR X (compareOp .NotIn) rNis := op_notIn_sign
theorem rv_niS {c : Nat} {z : Str} : RV rNis (.str ⟨#[c]⟩) (.str z) H (.bl (!decide (c ∈ TL.tl z))) := fun H1 _ _ q => ⟨c, z, rfl, rfl, q H1 (Ex.refl H1)⟩
/-- [.. for c in text if ..] -/
theorem el_lcT {tt : TT} {z : Str} {j : Nat} {vs : List Nat} (φ : Nat → Bool) (v : Nat → V) (h : Ev tl σ H (.str z)) (hz : z.length ≤ 40000) (hw : ∀ x, wipe ((wipe σ vs).set j (some x)) vs = wipe σ vs)
    (ht : ∀ (c : Nat) H1, Ex H H1 → c ∈ TL.tl z → EvT tt ((wipe σ vs).set j (some (.str ⟨#[c]⟩))) H1 (φ c)) (he : ∀ (c : Nat) H1, Ex H H1 → c ∈ TL.tl z → Ev te ((wipe σ vs).set j (some (.str ⟨#[c]⟩))) H1 (v c)) : EvL (tLc (iStr tl) (gName j) tt te vs) σ H (((TL.tl z).filter φ).map v) := fun H0 e Q q => h H0 e _ fun H1 e1 => ⟨z, rfl, fun D nD => by
  have at_ {i : Nat} {c : Nat} (hi : z.cps[i]? = some c) : c ∈ TL.tl z ∧ (TL.tl z).getD i 0 = c := by
    have h2 : (TL.tl z)[i]? = some c := by rw [← hi]; exact Array.getElem?_toList
    exact ⟨List.mem_of_getElem? h2, by rw [List.getD_eq_getElem?_getD, h2]; rfl⟩
  have hl : z.cps.size = (TL.tl z).length := len_tl z
  refine ⟨fun i m U => m = z.cps.size - i ∧ i ≤ z.cps.size ∧ Cw H1 (fun i => φ ((TL.tl z).getD i 0)) (fun i => v ((TL.tl z).getD i 0)) D i U, ⟨_, rfl, Nat.zero_le _, nD, Ex.new nD, upd_same⟩, ?_⟩
  rintro i m U ⟨rfl, hi, p⟩
  have hz2 : z.cps.size ≤ 40000 := hz
  by_cases hlt : i < z.cps.size
  · refine .inr ⟨hlt, fun U' => Cw H1 (fun i => φ ((TL.tl z).getD i 0)) (fun i => v ((TL.tl z).getD i 0)) D (i + 1) U', fun U' zz => ⟨z.cps.size - (i + 1), by omega, rfl, hlt, zz⟩, ?_⟩
    rintro x U' ⟨rfl, c, hc, rfl⟩
    obtain ⟨hm, hd⟩ := at_ hc
    exact ⟨hw _, cw_turn p (by omega) (by rw [hd]; exact ht c H1 (e.trans e1) hm) (fun _ => by rw [hd]; exact he c H1 (e.trans e1) hm)⟩
  · have ei : i = z.cps.size := by omega
    subst ei
    refine .inl ⟨Nat.le_refl _, q D U (fresh_back e1 p.1) (e1.trans p.2.1) ?_⟩
    have hp := p.2.2
    rw [hl] at hp
    have g : given (TL.tl z).length (fun i => φ ((TL.tl z).getD i 0)) (fun i => v ((TL.tl z).getD i 0)) = ((TL.tl z).filter φ).map v := by
      generalize TL.tl z = l
      unfold given
      have key : (List.range l.length).map (fun i => l.getD i 0) = l := by
        refine List.ext_getElem (by simp) fun i h1 h2 => ?_
        rw [List.getElem_map, List.getElem_range, List.getD_eq_getElem?_getD, List.getElem?_eq_getElem h2]; rfl
      have : ((List.range l.length).filter (fun i => φ (l.getD i 0))).map (fun i => v (l.getD i 0)) = (((List.range l.length).map fun i => l.getD i 0).filter φ).map v := by
        rw [List.filter_map, List.map_map]; rfl
      rw [this, key]
    rw [g] at hp
    exact hp⟩
/-- a list of single signs != [] -/
theorem ev_neNil {cs : List Nat} (h : EvL ta σ H (cs.map fun c => V.str ⟨#[c]⟩)) (hb : EvL tb σ H []) (ha : ∀ c, c ∈ cs → c < 128) : Ev (tOp (rNeD K) ta tb) σ H (.bl (decide (cs ≠ []))) := fun H1 e Q q =>
  h H1 e _ fun p H2 _ e2 hp => hb H2 (e.trans e2) _ fun p2 H3 _ e3 hp2 => by
    have d1 : Dp K H3 (.ref p) (.list ((cs.map fun c => (⟨#[c]⟩ : Str)).map PyData.str)) := .lst (sq_of (e3 _ _ hp)) (by
      rw [show (cs.map fun c => V.str ⟨#[c]⟩) = (cs.map fun c => (⟨#[c]⟩ : Str)).map V.str from by rw [List.map_map]; rfl]
      exact dpa_strs _)
    have d2 : Dp K H3 (.ref p2) (.list []) := .lst (sq_of hp2) .nil
    refine ⟨_, _, d1, d2, shaped_strs (fun z hz c hc => ?_), (by decide +kernel), ?_⟩
    · obtain ⟨y, hy, rfl⟩ := List.mem_map.mp hz
      have : c = y := by simpa using (show c ∈ [y] from hc)
      exact this ▸ ha y hy
    · have e4 : (!PyData.eqv (.list ((cs.map fun c => (⟨#[c]⟩ : Str)).map PyData.str)) (.list [])) = decide (cs ≠ []) := by
        cases cs with
        | nil => rfl
        | cons c cs => simp [PyData.eqv, PyData.eqvAll]
      rw [e4]
      exact q H3 (e2.trans e3)
end
/-- a sign in a list of texts -/
theorem inV_strs (x : Str) (ys : List Str) : inV (.str x) (ys.map V.str) = decide (x ∈ ys) := by
  induction ys with
  | nil => rfl
  | cons y ys ih =>
    unfold inV at ih ⊢
    rw [List.map_cons, List.any_cons, ih]
    have e : eqV (.str y) (.str x) = decide (y = x) := by
      show eqV (.str y) (.str x) = decide (y = x)
      unfold eqV
      by_cases h : y = x
      · subst h; simp
      · simp [h]
    rw [e]
    by_cases h1 : y = x
    · subst h1; simp
    · by_cases h2 : x ∈ ys
      · simp [h1, h2]
      · have h3 : ¬ x = y := fun z => h1 z.symm
        simp [h1, h2, h3]
theorem flat_strs (ys : List Str) : (ys.map V.str).all flatV = true := by
  rw [List.all_map, List.all_eq_true]
  intro x _
  rfl
/-! ### tuple(xs) where an exception is handled -/
def rTupOf (K : PySem.W.Frag) : List V → Hp → VK → Prop := fun xs H Q => ∃ p ys, xs = [.ref p] ∧ ((SqL K H p ys ∧ ∀ l, H l = none → Q (.ref l) (upd H l (.tup ys))) ∨ (SqT K H p ys ∧ Q (.ref p) H))
theorem cr_tupOf {X : Cx} : CallR X (.type "tuple") (rTupOf X.K) := call_tuple_of
end Mc
namespace Mk
open PySem L2 Mc Evl
def topS (i : Nat) : Stmt := PySem.Challenge.pw_monthclamp_k41_dates_read.main.body.getD i (.Pass ⟨0, 0, 0, 0⟩)
abbrev s_is_leap : Stmt := topS 8
theorem sc_is_leap : FnScope ["year"] ["year"] (defScope s_is_leap) := ⟨rfl, rfl, rfl, by decide +kernel, rfl, by decide +kernel, by decide +kernel⟩
abbrev s_days_in : Stmt := topS 9
theorem sc_days_in : FnScope ["year", "month"] ["year", "month"] (defScope s_days_in) := ⟨rfl, rfl, rfl, by decide +kernel, rfl, by decide +kernel, by decide +kernel⟩
abbrev s_check_date : Stmt := topS 11
theorem sc_check_date : FnScope ["date", "year", "month", "day"] ["date"] (defScope s_check_date) := ⟨rfl, rfl, rfl, by decide +kernel, rfl, by decide +kernel, by decide +kernel⟩
abbrev s_read_date : Stmt := topS 14
theorem sc_read_date : FnScope ["text", "date", "word"] ["text"] (defScope s_read_date) := ⟨rfl, rfl, rfl, by decide +kernel, rfl, by decide +kernel, by decide +kernel⟩
abbrev s_integer : Stmt := topS 15
theorem sc_integer : FnScope ["word", "plus", "sign", "digits"] ["word", "plus"] (defScope s_integer) := ⟨rfl, rfl, rfl, by decide +kernel, rfl, by decide +kernel, by decide +kernel⟩
abbrev s_is_positive : Stmt := topS 16
theorem sc_is_positive : FnScope ["digits"] ["digits"] (defScope s_is_positive) := ⟨rfl, rfl, rfl, by decide +kernel, rfl, by decide +kernel, by decide +kernel⟩
abbrev s_law_source : Stmt := topS 18
theorem sc_law_source : FnScope ["script", "mix", "digits", "cell", "size"] ["script"] (defScope s_law_source) := ⟨rfl, rfl, rfl, by decide +kernel, rfl, by decide +kernel, by decide +kernel⟩
abbrev s_law_draw : Stmt := topS 19
theorem sc_law_draw : FnScope ["source", "many", "drawn", "mixed"] ["source", "many"] (defScope s_law_draw) := ⟨rfl, rfl, rfl, by decide +kernel, rfl, by decide +kernel, by decide +kernel⟩
abbrev s_law_same : Stmt := topS 20
theorem sc_law_same : FnScope ["found", "wanted", "k"] ["found", "wanted"] (defScope s_law_same) := ⟨rfl, rfl, rfl, by decide +kernel, rfl, by decide +kernel, by decide +kernel⟩
abbrev s_law_leap : Stmt := topS 21
theorem sc_law_leap : FnScope ["count"] ["count"] (defScope s_law_leap) := ⟨rfl, rfl, rfl, by decide +kernel, rfl, by decide +kernel, by decide +kernel⟩
abbrev s_law_length : Stmt := topS 22
theorem sc_law_length : FnScope ["number", "place"] ["number"] (defScope s_law_length) := ⟨rfl, rfl, rfl, by decide +kernel, rfl, by decide +kernel, by decide +kernel⟩
abbrev s_law_count : Stmt := topS 23
theorem sc_law_count : FnScope ["source", "some", "far"] ["source"] (defScope s_law_count) := ⟨rfl, rfl, rfl, by decide +kernel, rfl, by decide +kernel, by decide +kernel⟩
abbrev s_law_date : Stmt := topS 24
theorem sc_law_date : FnScope ["source", "count", "place", "last", "days"] ["source"] (defScope s_law_date) := ⟨rfl, rfl, rfl, by decide +kernel, rfl, by decide +kernel, by decide +kernel⟩
abbrev s_law_text : Stmt := topS 25
theorem sc_law_text : FnScope ["begin"] ["begin"] (defScope s_law_text) := ⟨rfl, rfl, rfl, by decide +kernel, rfl, by decide +kernel, by decide +kernel⟩
abbrev s_law_row : Stmt := topS 26
theorem sc_law_row : FnScope ["jumps", "words", "one"] ["jumps"] (defScope s_law_row) := ⟨rfl, rfl, rfl, by decide +kernel, rfl, by decide +kernel, by decide +kernel⟩
abbrev s_law_number : Stmt := topS 27
theorem sc_law_number : FnScope ["word", "signs", "plain", "number", "sign"] ["word", "signs"] (defScope s_law_number) := ⟨rfl, rfl, rfl, by decide +kernel, rfl, by decide +kernel, by decide +kernel⟩
abbrev s_law_date_in : Stmt := topS 28
theorem sc_law_date_in : FnScope ["line", "words", "found"] ["line"] (defScope s_law_date_in) := ⟨rfl, rfl, rfl, by decide +kernel, rfl, by decide +kernel, by decide +kernel⟩
abbrev s_law_jumps_in : Stmt := topS 29
theorem sc_law_jumps_in : FnScope ["line", "found", "word", "number"] ["line"] (defScope s_law_jumps_in) := ⟨rfl, rfl, rfl, by decide +kernel, rfl, by decide +kernel, by decide +kernel⟩
abbrev s_law_bent : Stmt := topS 30
theorem sc_law_bent : FnScope ["source", "line", "time", "at", "sign", "some"] ["source", "line"] (defScope s_law_bent) := ⟨rfl, rfl, rfl, by decide +kernel, rfl, by decide +kernel, by decide +kernel⟩
abbrev s_law_error : Stmt := topS 31
theorem sc_law_error : FnScope ["e", "held", "names", "name", "is_one"] ["e"] (defScope s_law_error) := ⟨rfl, rfl, rfl, by decide +kernel, rfl, by decide +kernel, by decide +kernel⟩
abbrev s_law_told : Stmt := topS 32
theorem sc_law_told : FnScope ["line", "by_name", "e"] ["line", "by_name"] (defScope s_law_told) := ⟨rfl, rfl, rfl, by decide +kernel, rfl, by decide +kernel, by decide +kernel⟩
abbrev s_law_right : Stmt := topS 33
theorem sc_law_right : FnScope ["line", "due"] ["line"] (defScope s_law_right) := ⟨rfl, rfl, rfl, by decide +kernel, rfl, by decide +kernel, by decide +kernel⟩
abbrev s_law : Stmt := topS 34
theorem sc_law : FnScope ["script", "source", "k", "turn", "begin", "line", "days", "odd", "some", "day", "one"] ["script"] (defScope s_law) := ⟨rfl, rfl, rfl, by decide +kernel, rfl, by decide +kernel, by decide +kernel⟩
abbrev m_InvalidDate : Stmt := (clsBody (topS 2)).getD 0 (.Pass ⟨0, 0, 0, 0⟩)
theorem sc_m_InvalidDate : FnScope ["self", "value"] ["self", "value"] (defScope m_InvalidDate) := ⟨rfl, rfl, rfl, by decide +kernel, rfl, by decide +kernel, by decide +kernel⟩
abbrev m_InvalidNumber : Stmt := (clsBody (topS 3)).getD 0 (.Pass ⟨0, 0, 0, 0⟩)
theorem sc_m_InvalidNumber : FnScope ["self", "value"] ["self", "value"] (defScope m_InvalidNumber) := ⟨rfl, rfl, rfl, by decide +kernel, rfl, by decide +kernel, by decide +kernel⟩
abbrev m_NothingToUndo : Stmt := (clsBody (topS 4)).getD 0 (.Pass ⟨0, 0, 0, 0⟩)
theorem sc_m_NothingToUndo : FnScope ["self", "value"] ["self", "value"] (defScope m_NothingToUndo) := ⟨rfl, rfl, rfl, by decide +kernel, rfl, by decide +kernel, by decide +kernel⟩
abbrev m_Unreadable : Stmt := (clsBody (topS 5)).getD 0 (.Pass ⟨0, 0, 0, 0⟩)
theorem sc_m_Unreadable : FnScope ["self", "value"] ["self", "value"] (defScope m_Unreadable) := ⟨rfl, rfl, rfl, by decide +kernel, rfl, by decide +kernel, by decide +kernel⟩
structure Top (K : PySem.W.Frag) (mg : Str → Option Value) where
  f_is_leap : Addr
  fd_is_leap : FuncData
  F_is_leap : Fun K "is_leap" "is_leap" s_is_leap f_is_leap fd_is_leap
  g_is_leap : mg "is_leap" = some (.ref f_is_leap)
  b_is_leap : Binds K fd_is_leap ["year"] []
  f_days_in : Addr
  fd_days_in : FuncData
  F_days_in : Fun K "days_in" "days_in" s_days_in f_days_in fd_days_in
  g_days_in : mg "days_in" = some (.ref f_days_in)
  b_days_in : Binds K fd_days_in ["year", "month"] []
  f_check_date : Addr
  fd_check_date : FuncData
  F_check_date : Fun K "check_date" "check_date" s_check_date f_check_date fd_check_date
  g_check_date : mg "check_date" = some (.ref f_check_date)
  b_check_date : Binds K fd_check_date ["date"] []
  f_read_date : Addr
  fd_read_date : FuncData
  F_read_date : Fun K "read_date" "read_date" s_read_date f_read_date fd_read_date
  g_read_date : mg "read_date" = some (.ref f_read_date)
  b_read_date : Binds K fd_read_date ["text"] []
  f_integer : Addr
  fd_integer : FuncData
  F_integer : Fun K "_integer" "_integer" s_integer f_integer fd_integer
  g_integer : mg "_integer" = some (.ref f_integer)
  b_integer : Binds K fd_integer ["word", "plus"] []
  f_is_positive : Addr
  fd_is_positive : FuncData
  F_is_positive : Fun K "_is_positive" "_is_positive" s_is_positive f_is_positive fd_is_positive
  g_is_positive : mg "_is_positive" = some (.ref f_is_positive)
  b_is_positive : Binds K fd_is_positive ["digits"] []
  f_law_source : Addr
  fd_law_source : FuncData
  F_law_source : Fun K "_law_source" "_law_source" s_law_source f_law_source fd_law_source
  g_law_source : mg "_law_source" = some (.ref f_law_source)
  b_law_source : Binds K fd_law_source ["script"] []
  f_law_draw : Addr
  fd_law_draw : FuncData
  F_law_draw : Fun K "_law_draw" "_law_draw" s_law_draw f_law_draw fd_law_draw
  g_law_draw : mg "_law_draw" = some (.ref f_law_draw)
  b_law_draw : Binds K fd_law_draw ["source", "many"] []
  f_law_same : Addr
  fd_law_same : FuncData
  F_law_same : Fun K "_law_same" "_law_same" s_law_same f_law_same fd_law_same
  g_law_same : mg "_law_same" = some (.ref f_law_same)
  b_law_same : Binds K fd_law_same ["found", "wanted"] []
  f_law_leap : Addr
  fd_law_leap : FuncData
  F_law_leap : Fun K "_law_leap" "_law_leap" s_law_leap f_law_leap fd_law_leap
  g_law_leap : mg "_law_leap" = some (.ref f_law_leap)
  b_law_leap : Binds K fd_law_leap ["count"] []
  f_law_length : Addr
  fd_law_length : FuncData
  F_law_length : Fun K "_law_length" "_law_length" s_law_length f_law_length fd_law_length
  g_law_length : mg "_law_length" = some (.ref f_law_length)
  b_law_length : Binds K fd_law_length ["number"] []
  f_law_count : Addr
  fd_law_count : FuncData
  F_law_count : Fun K "_law_count" "_law_count" s_law_count f_law_count fd_law_count
  g_law_count : mg "_law_count" = some (.ref f_law_count)
  b_law_count : Binds K fd_law_count ["source"] []
  f_law_date : Addr
  fd_law_date : FuncData
  F_law_date : Fun K "_law_date" "_law_date" s_law_date f_law_date fd_law_date
  g_law_date : mg "_law_date" = some (.ref f_law_date)
  b_law_date : Binds K fd_law_date ["source"] []
  f_law_text : Addr
  fd_law_text : FuncData
  F_law_text : Fun K "_law_text" "_law_text" s_law_text f_law_text fd_law_text
  g_law_text : mg "_law_text" = some (.ref f_law_text)
  b_law_text : Binds K fd_law_text ["begin"] []
  f_law_number : Addr
  fd_law_number : FuncData
  F_law_number : Fun K "_law_number" "_law_number" s_law_number f_law_number fd_law_number
  g_law_number : mg "_law_number" = some (.ref f_law_number)
  b_law_number : Binds K fd_law_number ["word", "signs"] []
  f_law_date_in : Addr
  fd_law_date_in : FuncData
  F_law_date_in : Fun K "_law_date_in" "_law_date_in" s_law_date_in f_law_date_in fd_law_date_in
  g_law_date_in : mg "_law_date_in" = some (.ref f_law_date_in)
  b_law_date_in : Binds K fd_law_date_in ["line"] []
  f_law_bent : Addr
  fd_law_bent : FuncData
  F_law_bent : Fun K "_law_bent" "_law_bent" s_law_bent f_law_bent fd_law_bent
  g_law_bent : mg "_law_bent" = some (.ref f_law_bent)
  b_law_bent : Binds K fd_law_bent ["source", "line"] []
  f_law_error : Addr
  fd_law_error : FuncData
  F_law_error : Fun K "_law_error" "_law_error" s_law_error f_law_error fd_law_error
  g_law_error : mg "_law_error" = some (.ref f_law_error)
  b_law_error : Binds K fd_law_error ["e"] []
  f_law_told : Addr
  fd_law_told : FuncData
  F_law_told : Fun K "_law_told" "_law_told" s_law_told f_law_told fd_law_told
  g_law_told : mg "_law_told" = some (.ref f_law_told)
  b_law_told : Binds K fd_law_told ["line", "by_name"] []
  f_law_right : Addr
  fd_law_right : FuncData
  F_law_right : Fun K "_law_right" "_law_right" s_law_right f_law_right fd_law_right
  g_law_right : mg "_law_right" = some (.ref f_law_right)
  b_law_right : Binds K fd_law_right ["line"] []
  f_law : Addr
  fd_law : FuncData
  F_law : Fun K "law" "law" s_law f_law fd_law
  g_law : mg "law" = some (.ref f_law)
  b_law : Binds K fd_law ["script"] []
  z_ValueError : mg "ValueError" = none
  z_bool : mg "bool" = none
  z_int : mg "int" = none
  z_isinstance : mg "isinstance" = none
  z_len : mg "len" = none
  z_list : mg "list" = none
  z_max : mg "max" = none
  z_min : mg "min" = none
  z_range : mg "range" = none
  z_str : mg "str" = none
  z_tuple : mg "tuple" = none
  C_DateError : Addr
  gC_DateError : mg "DateError" = some (.ref C_DateError)
  C_InvalidDate : Addr
  gC_InvalidDate : mg "InvalidDate" = some (.ref C_InvalidDate)
  fI_InvalidDate : Addr
  fdI_InvalidDate : FuncData
  xc_InvalidDate : XCls K C_InvalidDate
  mk_InvalidDate : XMk K C_InvalidDate fI_InvalidDate fdI_InvalidDate
  FI_InvalidDate : Fun K "__init__" "InvalidDate.__init__" m_InvalidDate fI_InvalidDate fdI_InvalidDate
  C_InvalidNumber : Addr
  gC_InvalidNumber : mg "InvalidNumber" = some (.ref C_InvalidNumber)
  fI_InvalidNumber : Addr
  fdI_InvalidNumber : FuncData
  xc_InvalidNumber : XCls K C_InvalidNumber
  mk_InvalidNumber : XMk K C_InvalidNumber fI_InvalidNumber fdI_InvalidNumber
  FI_InvalidNumber : Fun K "__init__" "InvalidNumber.__init__" m_InvalidNumber fI_InvalidNumber fdI_InvalidNumber
  C_NothingToUndo : Addr
  gC_NothingToUndo : mg "NothingToUndo" = some (.ref C_NothingToUndo)
  fI_NothingToUndo : Addr
  fdI_NothingToUndo : FuncData
  xc_NothingToUndo : XCls K C_NothingToUndo
  mk_NothingToUndo : XMk K C_NothingToUndo fI_NothingToUndo fdI_NothingToUndo
  FI_NothingToUndo : Fun K "__init__" "NothingToUndo.__init__" m_NothingToUndo fI_NothingToUndo fdI_NothingToUndo
  C_Unreadable : Addr
  gC_Unreadable : mg "Unreadable" = some (.ref C_Unreadable)
  fI_Unreadable : Addr
  fdI_Unreadable : FuncData
  xc_Unreadable : XCls K C_Unreadable
  mk_Unreadable : XMk K C_Unreadable fI_Unreadable fdI_Unreadable
  FI_Unreadable : Fun K "__init__" "Unreadable.__init__" m_Unreadable fI_Unreadable fdI_Unreadable
  ex_InvalidDate : PySem.W.exmOne K (.ref C_InvalidDate) (.ref C_DateError) = some true
  iv_InvalidDate : PySem.W.kitOne K (.ref C_InvalidDate) (.type "ValueError") = some true
  es_InvalidDate : PySem.W.exmOne K (.ref C_InvalidDate) (.ref C_InvalidDate) = some true
  is_InvalidDate_DateError : PySem.W.kitOne K (.ref C_InvalidDate) (.ref C_DateError) = some true
  is_InvalidDate_InvalidDate : PySem.W.kitOne K (.ref C_InvalidDate) (.ref C_InvalidDate) = some true
  is_InvalidDate_InvalidNumber : PySem.W.kitOne K (.ref C_InvalidDate) (.ref C_InvalidNumber) = some false
  is_InvalidDate_NothingToUndo : PySem.W.kitOne K (.ref C_InvalidDate) (.ref C_NothingToUndo) = some false
  is_InvalidDate_Unreadable : PySem.W.kitOne K (.ref C_InvalidDate) (.ref C_Unreadable) = some false
  ex_InvalidNumber : PySem.W.exmOne K (.ref C_InvalidNumber) (.ref C_DateError) = some true
  iv_InvalidNumber : PySem.W.kitOne K (.ref C_InvalidNumber) (.type "ValueError") = some true
  es_InvalidNumber : PySem.W.exmOne K (.ref C_InvalidNumber) (.ref C_InvalidNumber) = some true
  is_InvalidNumber_DateError : PySem.W.kitOne K (.ref C_InvalidNumber) (.ref C_DateError) = some true
  is_InvalidNumber_InvalidDate : PySem.W.kitOne K (.ref C_InvalidNumber) (.ref C_InvalidDate) = some false
  is_InvalidNumber_InvalidNumber : PySem.W.kitOne K (.ref C_InvalidNumber) (.ref C_InvalidNumber) = some true
  is_InvalidNumber_NothingToUndo : PySem.W.kitOne K (.ref C_InvalidNumber) (.ref C_NothingToUndo) = some false
  is_InvalidNumber_Unreadable : PySem.W.kitOne K (.ref C_InvalidNumber) (.ref C_Unreadable) = some false
  ex_NothingToUndo : PySem.W.exmOne K (.ref C_NothingToUndo) (.ref C_DateError) = some true
  iv_NothingToUndo : PySem.W.kitOne K (.ref C_NothingToUndo) (.type "ValueError") = some true
  es_NothingToUndo : PySem.W.exmOne K (.ref C_NothingToUndo) (.ref C_NothingToUndo) = some true
  is_NothingToUndo_DateError : PySem.W.kitOne K (.ref C_NothingToUndo) (.ref C_DateError) = some true
  is_NothingToUndo_InvalidDate : PySem.W.kitOne K (.ref C_NothingToUndo) (.ref C_InvalidDate) = some false
  is_NothingToUndo_InvalidNumber : PySem.W.kitOne K (.ref C_NothingToUndo) (.ref C_InvalidNumber) = some false
  is_NothingToUndo_NothingToUndo : PySem.W.kitOne K (.ref C_NothingToUndo) (.ref C_NothingToUndo) = some true
  is_NothingToUndo_Unreadable : PySem.W.kitOne K (.ref C_NothingToUndo) (.ref C_Unreadable) = some false
  ex_Unreadable : PySem.W.exmOne K (.ref C_Unreadable) (.ref C_DateError) = some true
  iv_Unreadable : PySem.W.kitOne K (.ref C_Unreadable) (.type "ValueError") = some true
  es_Unreadable : PySem.W.exmOne K (.ref C_Unreadable) (.ref C_Unreadable) = some true
  is_Unreadable_DateError : PySem.W.kitOne K (.ref C_Unreadable) (.ref C_DateError) = some true
  is_Unreadable_InvalidDate : PySem.W.kitOne K (.ref C_Unreadable) (.ref C_InvalidDate) = some false
  is_Unreadable_InvalidNumber : PySem.W.kitOne K (.ref C_Unreadable) (.ref C_InvalidNumber) = some false
  is_Unreadable_NothingToUndo : PySem.W.kitOne K (.ref C_Unreadable) (.ref C_NothingToUndo) = some false
  is_Unreadable_Unreadable : PySem.W.kitOne K (.ref C_Unreadable) (.ref C_Unreadable) = some true
  a_DAYS_IN_COMMON_YEAR : Addr
  g_DAYS_IN_COMMON_YEAR : mg "_DAYS_IN_COMMON_YEAR" = some (.ref a_DAYS_IN_COMMON_YEAR)
  q_DAYS_IN_COMMON_YEAR : ∀ H : Hp, SqT K H a_DAYS_IN_COMMON_YEAR [.int 31, .int 28, .int 31, .int 30, .int 31, .int 30, .int 31, .int 31, .int 30, .int 31, .int 30, .int 31]
  t_MOST_DIGITS : Tok
  g_MOST_DIGITS : mg "_MOST_DIGITS" = some (.int 60 t_MOST_DIGITS)
def spLaw (K : PySem.W.Frag) : Sp := fun vs H Q _ => ∃ (a : Addr) (ns : List Int), vs = [.ref a] ∧ SqL K H a (ns.map V.int) ∧ ns.length ≤ 63 ∧ ∀ H', Q (.bl true) H'
section
variable {P : Program} {w : World} {K : PySem.W.Frag} {mg : Str → Option Value} {base : Heap}
def kg_read_date_text {α : Type} : List α → List α → List α := fun us ws => us ++ ws
theorem kb_read_date_text {K : PySem.W.Frag} {f : Addr} {fd : FuncData} (F : Fun K "read_date" "read_date" s_read_date f fd) : KBn K fd ["text"] 0 ["text"] kg_read_date_text kg_read_date_text := by
  obtain ⟨oc, od, kV, doc, pm, an, cdv, ct, osl, rfl, lk, hcd⟩ := F.ex
  refine ⟨fun s us ws _ hl hm => ?_, fun {vs us zs ws} r rz => r.append rz⟩
  match us, ws, hl, hm with
  | [], [w0], _, _ => exact .of_eq rfl
local macro_rules | `(tactic| walk_at "fw") => `(tactic| repeat (first
  | with_reducible refine f_seq ?_
  | with_reducible refine f_asg ?_
  | with_reducible refine f_gName ?_
  | with_reducible refine f_ret ?_
  | with_reducible refine f_op ?_
  | with_reducible refine f_un ?_
  | with_reducible refine f_c ?_
  | ((with_reducible apply f_var); exact rfl)
  | with_reducible refine f_I0 ?_
  | with_reducible refine f_U ?_
  | ((with_reducible refine f_I ?fwh ?_); case fwh => first | assumption | (unfold CPow; omega) | (unfold CDivW; omega) | (unfold CDiv; omega) | (exact wide_mul (a := 20) (b := 64) (by omega) (by omega) (by decide) (by decide) (by decide)) | (exact wide_mul (a := 64) (b := 20) (by omega) (by omega) (by decide) (by decide) (by decide)) | (exact wide_mul (a := 160) (b := 160) (by omega) (by omega) (by decide) (by decide) (by decide)) | decide | omega)
  | with_reducible refine f_eqI ?_
  | with_reducible refine f_neI ?_
  | with_reducible refine f_test ?_
  | with_reducible refine f_B ?_
  | with_reducible refine f_bl ?_
  | with_reducible refine f_and ?_
  | with_reducible refine f_or ?_
  | with_reducible refine f_not ?_
  | with_reducible refine f_next ?_
  | with_reducible refine f_drop ?_
  | with_reducible refine f_ifS ?_
  | with_reducible refine f_if ?_
  | with_reducible refine f_call ?_
  | with_reducible refine f_nil ?_
  | with_reducible refine f_cons ?_
  | with_reducible refine f_tup ?_
  | with_reducible refine f_lst ?_
  | with_reducible refine f_cb ?_))

local macro_rules | `(tactic| walk_at "fs") => `(tactic| repeat (first
  | with_reducible refine f_seq ?_
  | with_reducible refine f_asg ?_
  | with_reducible refine f_gName ?_
  | with_reducible refine f_ret ?_
  | with_reducible refine f_c ?_
  | ((with_reducible apply f_var); exact rfl)
  | with_reducible refine f_test ?_
  | with_reducible refine f_B ?_
  | with_reducible refine f_bl ?_
  | with_reducible refine f_and ?_
  | with_reducible refine f_or ?_
  | with_reducible refine f_not ?_
  | with_reducible refine f_next ?_
  | with_reducible refine f_drop ?_
  | with_reducible refine f_nil ?_
  | with_reducible refine f_ifS ?_))

def leap (y : Int) : Bool := decide (y % 4 = 0) && (!decide (y % 100 = 0) || decide (y % 400 = 0))
def D_leap (vs : List V) (z : V) : Prop := ∃ y : Int, vs = [.int y] ∧ z = .bl (leap y)
theorem ok_is_leap (T : Top K mg) : FnOk P w K mg base CX0 1 T.f_is_leap T.fd_is_leap ["year"] (spF D_leap) := by
  refine T.F_is_leap.ok sc_is_leap (fun vs H Q E h => ?_) (fun cdv A outer s H vs Q E hr h => ?_)
  · obtain ⟨z, ⟨y, rfl, _⟩, _⟩ := h; rfl
  · obtain ⟨z, ⟨y, rfl, rfl⟩, q⟩ := h
    refine ⟨_, (pss_one (ps_ret (pe_and (pe_cmpR op_eq (pe_op op_mod (pv 0) pe_int) pe_int (nomark _)) (pe_one (pe_or (pe_cmpR op_ne (pe_op op_mod (pv 0) pe_int) pe_int (nomark _)) (pe_one (pe_cmpR op_eq (pe_op op_mod (pv 0) pe_int) pe_int (nomark _)))))))), ?_⟩
    exact s_ret (ev_andV (ev_op (ev_op (ev_var rfl) ev_c (rv_I (by decide))) ev_c rv_eqI) fun _ => ev_orV (ev_op (ev_op (ev_var rfl) ev_c (rv_I (by decide))) ev_c rv_neI) fun _ => ev_op (ev_op (ev_var rfl) ev_c (rv_I (by decide))) ev_c rv_eqI) q
def lleap (y : Int) : Bool := decide (y % 400 = 0) || (decide (y % 4 = 0) && !decide (y % 100 = 0))
theorem lleap_eq (y : Int) : lleap y = leap y := by
  unfold lleap leap
  by_cases h4 : y % 400 = 0
  · have a : y % 4 = 0 := by omega
    have b : y % 100 = 0 := by omega
    simp [h4, a, b]
  · simp [h4]
theorem ok_law_leap (T : Top K mg) : FnOk P w K mg base CX0 1 T.f_law_leap T.fd_law_leap ["count"] (spF D_leap) := by
  refine T.F_law_leap.ok sc_law_leap (fun vs H Q E h => ?_) (fun cdv A outer s H vs Q E hr h => ?_)
  · obtain ⟨z, ⟨y, rfl, _⟩, _⟩ := h; rfl
  · obtain ⟨z, ⟨y, rfl, rfl⟩, q⟩ := h
    rw [← lleap_eq] at q
    refine ⟨_, (pss_one (ps_ret (pe_or (pe_cmpR op_eq (pe_op op_mod (pv 0) pe_int) pe_int (nomark _)) (pe_one (pe_and (pe_cmpR op_eq (pe_op op_mod (pv 0) pe_int) pe_int (nomark _)) (pe_one (pe_cmpR op_ne (pe_op op_mod (pv 0) pe_int) pe_int (nomark _)))))))), ?_⟩
    exact s_ret (ev_orV (ev_op (ev_op (ev_var rfl) ev_c (rv_I (by decide))) ev_c rv_eqI) fun _ => ev_andV (ev_op (ev_op (ev_var rfl) ev_c (rv_I (by decide))) ev_c rv_eqI) fun _ => ev_op (ev_op (ev_var rfl) ev_c (rv_I (by decide))) ev_c rv_neI) q


/-! the lengths of months -/
def mlist (y : Int) : List Int := [31, 28 + b2 (leap y), 31, 30, 31, 30, 31, 31, 30, 31, 30, 31]
def dlen (y m : Int) : Int := (mlist y).getD (m - 1).toNat 0
def D_days (vs : List V) (z : V) : Prop := ∃ y m : Int, vs = [.int y, .int m] ∧ 1 ≤ m ∧ m ≤ 12 ∧ z = .int (dlen y m)
theorem ok_days_in (T : Top K mg) : FnOk P w K mg base CX0 2 T.f_days_in T.fd_days_in ["year", "month"] (spF D_days) := by
  have G_is_leap : FnOk P w K mg base CX0 1 T.f_is_leap T.fd_is_leap ["year"] (spF D_leap) := ok_is_leap T
  refine T.F_days_in.ok sc_days_in (fun vs H Q E h => ?_) (fun cdv A outer s H vs Q E hr h => ?_)
  · obtain ⟨z, ⟨y, m, rfl, _⟩, _⟩ := h; rfl
  · obtain ⟨z, ⟨y, m, rfl, h1, h12, rfl⟩, q⟩ := h
    refine ⟨_, (pss_cons (ps_if (PW.pt (pw_or (pt_cmpR op_lt (pv 1) pe_int (nomark _)) (pw_or1 (pt_cmpR op_gt (pv 1) pe_int (nomark _))))) (pss_one ps_never) pss_nil)
      (pss_cons (ps_if (PW.pt (pw_and (pt_cmpR op_eq (pv 1) pe_int (nomark _)) (pw_and1 (pt_val (pe_call G_is_leap (hr.mono (by first | decide | omega)) (by rfl) T.g_is_leap T.F_is_leap.kp T.b_is_leap .nil pass0 (pa_cons (pv 0) pa_nil)))))) (pss_one (ps_ret pe_int)) pss_nil)
      (pss_one (ps_ret (pe_ix (r := rIxT K) ix_tup (pe_glob (v := .ref T.a_DAYS_IN_COMMON_YEAR) (by rfl) T.g_DAYS_IN_COMMON_YEAR rfl) (pe_op op_sub (pv 1) pe_int) (fun _ _ => rfl)))))), ?_⟩
    refine f_seq (s_if (et_or (et_test (ev_op (ev_var rfl) ev_c rv_I0)) fun _ => et_test (ev_op (ev_var rfl) ev_c rv_I0)) (fun h => ?_) fun _ H1 e1 => ?_)
    · simp at h; omega
    refine f_seq (s_if (et_and (et_test (ev_op (ev_var rfl) ev_c rv_eqI)) fun _ => et_B (ev_call (ea_cons (ev_var rfl) ea_nil) (sv_F ⟨y, rfl, rfl⟩))) (fun h H2 e2 => ?_) fun h H2 e2 => ?_)
    · simp at h
      obtain ⟨rfl, h⟩ := h
      refine s_ret ev_c fun H3 e3 => ?_
      have e : dlen y 2 = 29 := by simp [dlen, mlist, h, b2]
      rw [e] at q
      exact q _ ((e1.trans e2).trans e3)
    · have hm : m = 1 ∨ m = 2 ∨ m = 3 ∨ m = 4 ∨ m = 5 ∨ m = 6 ∨ m = 7 ∨ m = 8 ∨ m = 9 ∨ m = 10 ∨ m = 11 ∨ m = 12 := by omega
      have hq : atI ([.int 31, .int 28, .int 31, .int 30, .int 31, .int 30, .int 31, .int 31, .int 30, .int 31, .int 30, .int 31] : List V) (m - 1) = some (.int (dlen y m)) := by
        rcases hm with rfl | rfl | rfl | rfl | rfl | rfl | rfl | rfl | rfl | rfl | rfl | rfl
        case inr.inl =>
          simp at h
          have e : dlen y 2 = 28 := by simp [dlen, mlist, h, b2]
          rw [e]; exact atI_nat (j := 1) rfl
        all_goals (first | exact atI_nat (j := 0) rfl | exact atI_nat (j := 2) rfl | exact atI_nat (j := 3) rfl | exact atI_nat (j := 4) rfl | exact atI_nat (j := 5) rfl | exact atI_nat (j := 6) rfl | exact atI_nat (j := 7) rfl | exact atI_nat (j := 8) rfl | exact atI_nat (j := 9) rfl | exact atI_nat (j := 10) rfl | exact atI_nat (j := 11) rfl)
      exact s_ret (ev_op ev_c (ev_op (ev_var rfl) ev_c rv_I0) (rv_ixT (T.q_DAYS_IN_COMMON_YEAR _) hq)) fun H3 e3 => q _ ((e1.trans e2).trans e3)

/-- the length of the month with a number, months counted on from January of year 0 -/
def mlen (n : Int) : Int := dlen (n / 12) (n % 12 + 1)
theorem dlen_bounds (y m : Int) (h1 : 1 ≤ m) (h2 : m ≤ 12) : 28 ≤ dlen y m ∧ dlen y m ≤ 31 := by
  have hm : m = 1 ∨ m = 2 ∨ m = 3 ∨ m = 4 ∨ m = 5 ∨ m = 6 ∨ m = 7 ∨ m = 8 ∨ m = 9 ∨ m = 10 ∨ m = 11 ∨ m = 12 := by omega
  have hb : b2 (leap y) = 0 ∨ b2 (leap y) = 1 := by unfold b2; split <;> simp
  rcases hm with rfl | rfl | rfl | rfl | rfl | rfl | rfl | rfl | rfl | rfl | rfl | rfl <;> simp [dlen, mlist] <;> omega
theorem mlen_bounds (n : Int) : 28 ≤ mlen n ∧ mlen n ≤ 31 := dlen_bounds _ _ (by omega) (by omega)
def D_mlen (vs : List V) (z : V) : Prop := ∃ n : Int, vs = [.int n] ∧ z = .int (mlen n)
theorem ok_law_length (T : Top K mg) : FnOk P w K mg base CX0 2 T.f_law_length T.fd_law_length ["number"] (spF D_mlen) := by
  have G_law_leap : FnOk P w K mg base CX0 1 T.f_law_leap T.fd_law_leap ["count"] (spF D_leap) := ok_law_leap T
  refine T.F_law_length.ok sc_law_length (fun vs H Q E h => ?_) (fun cdv A outer s H vs Q E hr h => ?_)
  · obtain ⟨z, ⟨y, rfl, _⟩, _⟩ := h; rfl
  · obtain ⟨z, ⟨n, rfl, rfl⟩, q⟩ := h
    refine ⟨_, (pss_cons (ps_set (i := 1) sc_law_length.nd rfl (Or.inl rfl) (pe_op op_mod (pv 0) pe_int))
      (pss_cons (ps_if (pt_cmpR op_eq (pv 1) pe_int (nomark _)) (pss_one (ps_ret (pe_op op_add pe_int (pe_callTy call_int1 (by rfl) T.z_int (by decide +kernel) (pa_cons (pe_call G_law_leap (hr.mono (by first | decide | omega)) (by rfl) T.g_law_leap T.F_law_leap.kp T.b_law_leap .nil pass0 (pa_cons (pe_op op_fdivW (pv 0) pe_int) pa_nil)) pa_nil))))) pss_nil)
      (pss_one (ps_ret (pe_op op_sub pe_int (pe_callTy call_int1 (by rfl) T.z_int (by decide +kernel) (pa_cons (pe_cmpR (r := rIn K false) op_in_seq (pv 1) (pe_lst (pa_cons pe_int (pa_cons pe_int (pa_cons pe_int (pa_cons pe_int pa_nil))))) (by rfl)) pa_nil))))))), ?_⟩
    refine f_seq (s_asg (ev_op (ev_var rfl) ev_c (rv_mod (by decide))) fun H1 e1 => ?_)
    refine f_seq (s_if (et_test (ev_op (ev_var rfl) ev_c rv_eqI)) (fun hb H2 e2 => ?_) fun hb H2 e2 => ?_)
    · have hn : n % 12 = 1 := of_decide_eq_true hb
      have e : mlen n = 28 + b2 (leap (n / 12)) := by simp [mlen, hn, dlen, mlist]
      rw [e] at q
      exact s_ret (ev_op ev_c (ev_intB (ev_call (ea_cons (ev_op (ev_var rfl) ev_c (rv_div (by decide) (by decide))) ea_nil) (sv_F ⟨_, rfl, rfl⟩))) rv_I0) fun H3 e3 => q H3 ((e1.trans e2).trans e3)
    · have hn : ¬ n % 12 = 1 := of_decide_eq_false hb
      have e : mlen n = 31 - b2 (inV (.int (n % 12)) [.int 3, .int 5, .int 8, .int 10]) := by
        have hc : n % 12 = 0 ∨ n % 12 = 2 ∨ n % 12 = 3 ∨ n % 12 = 4 ∨ n % 12 = 5 ∨ n % 12 = 6 ∨ n % 12 = 7 ∨ n % 12 = 8 ∨ n % 12 = 9 ∨ n % 12 = 10 ∨ n % 12 = 11 := by omega
        unfold mlen dlen mlist
        rcases hc with h | h | h | h | h | h | h | h | h | h | h <;> rw [h] <;> rfl
      rw [e] at q
      exact s_ret (ev_op ev_c (ev_intB (ev_opL (ev_var rfl) (el_lst (ea_cons ev_c (ea_cons ev_c (ea_cons ev_c (ea_cons ev_c ea_nil)))) (by show 4 ≤ 100000; decide)) fun p H1 hp _ => rv_isL (sq_of hp) rfl rfl)) rv_I0) fun H3 e3 => q H3 ((e1.trans e2).trans e3)
/-- a date stands at p -/
def DateAt (K : PySem.W.Frag) (H : Hp) (p : Addr) (y m d : Int) : Prop := SqT K H p [.int y, .int m, .int d]
/-- it exists -/
def Exists_ (y m d : Int) : Prop := 1 ≤ m ∧ m ≤ 12 ∧ 1 ≤ d ∧ d ≤ dlen y m
def D_check (K : PySem.W.Frag) (H : Hp) (vs : List V) (z : V) : Prop := ∃ (p : Addr) (y m d : Int), vs = [.ref p] ∧ DateAt K H p y m d ∧ Exists_ y m d ∧ z = .non
theorem ok_check_date (T : Top K mg) : FnOk P w K mg base CX0 3 T.f_check_date T.fd_check_date ["date"] (spH (D_check K)) := by
  have G_days_in : FnOk P w K mg base CX0 2 T.f_days_in T.fd_days_in ["year", "month"] (spF D_days) := ok_days_in T
  refine T.F_check_date.ok sc_check_date (fun vs H Q E h => ?_) (fun cdv A outer s H vs Q E hr h => ?_)
  · obtain ⟨z, ⟨p, y, m, d, rfl, _⟩, _⟩ := h; rfl
  · obtain ⟨z, ⟨p, y, m, d, rfl, hD, ⟨h1, h2, h3, h4⟩, rfl⟩, q⟩ := h
    refine ⟨_, (pss_cons (ps_asg (pv 0) (pg_tup rfl (pgs_cons (pg_name (i := 1) sc_check_date.nd rfl (Or.inl rfl)) (pgs_cons (pg_name (i := 2) sc_check_date.nd rfl (Or.inl rfl)) (pgs_cons (pg_name (i := 3) sc_check_date.nd rfl (Or.inl rfl)) pgs_nil)))))
      (pss_cons (ps_if (PW.pt (pw_or (pt_cmpR op_lt (pv 2) pe_int (nomark _)) (pw_or1 (pt_cmpR op_gt (pv 2) pe_int (nomark _))))) (pss_one ps_never) pss_nil)
      (pss_one (ps_if (PW.pt (pw_or (pt_cmpR op_lt (pv 3) pe_int (nomark _)) (pw_or1 (pt_cmpR op_gt (pv 3) (pe_call G_days_in (hr.mono (by first | decide | omega)) (by rfl) T.g_days_in T.F_days_in.kp T.b_days_in .nil pass0 (pa_cons (pv 1) (pa_cons (pv 2) pa_nil))) (nomark _))))) (pss_one ps_never) pss_nil)))), ?_⟩
    refine f_seq (s_un3 (ev_var rfl) hD fun H1 e1 => ?_)
    refine f_seq (s_if (et_or (et_test (ev_op (ev_var rfl) ev_c rv_I0)) fun _ => et_test (ev_op (ev_var rfl) ev_c rv_I0)) (fun hb _ _ => ?_) fun _ H2 e2 => ?_)
    · simp at hb; omega
    refine s_if (et_or (et_test (ev_op (ev_var rfl) ev_c rv_I0)) fun _ => et_test (ev_op (ev_var rfl) (ev_call (ea_cons (ev_var rfl) (ea_cons (ev_var rfl) ea_nil)) (sv_F ⟨y, m, rfl, h1, h2, rfl⟩)) rv_I0)) (fun hb _ _ => ?_) fun _ H3 e3 => ?_
    · simp at hb; omega
    exact q H3 ((e1.trans e2).trans e3)
def mvs (st : Int × Int) (k : Int) : Int × Int := (st.1 + k, min st.2 (mlen (st.1 + k)))
def mrun (st : Int × Int) (ks : List Int) : Int × Int := ks.foldl mvs st
/-- the date at a place -/
def tupD (st : Int × Int) : List V := [.int (st.1 / 12), .int (st.1 % 12 + 1), .int st.2]
theorem mrun_take {st : Int × Int} {ks : List Int} {i : Nat} {k : Int} (h : ks[i]? = some k) : mrun st (ks.take (i + 1)) = mvs (mrun st (ks.take i)) k := by
  unfold mrun
  rw [List.take_add_one, h, List.foldl_append]
  rfl
def D_move (K : PySem.W.Frag) (H : Hp) (vs xs : List V) : Prop := ∃ (p l : Addr) (y m d : Int) (ks : List Int), vs = [.ref p, .ref l] ∧ DateAt K H p y m d ∧ Exists_ y m d ∧ SqL K H l (ks.map V.int) ∧ xs = tupD (mrun (12 * y + m - 1, d) ks) ∧ y.natAbs ≤ 10 ^ 100
theorem int_of_map {ns : List Int} {i : Nat} {x : V} (h : (ns.map V.int)[i]? = some x) : ∃ z, x = V.int z ∧ ns[i]? = some z := by
  rw [List.getElem?_map] at h
  cases e : ns[i]? with
  | none => rw [e] at h; cases h
  | some z => rw [e] at h; exact ⟨z, (Option.some.inj h).symm, rfl⟩

/-! the law's own reading of a number -/
def digB (c : Nat) : Bool := decide (48 ≤ c) && decide (c ≤ 57)
def plainOf (sg : List Nat) : List Nat → List Nat
  | [] => []
  | c :: r => if c ∈ sg then r else c :: r
theorem plain_cons (sg : List Nat) (c : Nat) (r : List Nat) : plainOf sg (c :: r) = if c ∈ sg then r else c :: r := rfl
def lawN (sg w : List Nat) : Option Int :=
  if (decide (1 ≤ (plainOf sg w).length) && decide ((plainOf sg w).length ≤ 60) && (plainOf sg w).all digB) = false then none
  else if (plainOf sg w).head? = some 48 ∧ w ≠ [48] then none
  else some (if w.head? = some 45 then -((NumText.digitsVal (plainOf sg w) : Nat) : Int) else ((NumText.digitsVal (plainOf sg w) : Nat) : Int))
theorem tl_upto {x : Str} {n : Nat} : TL.tl (cutS x none (some (n : Int))) = (TL.tl x).take n := by
  show (((x.cps.toList.drop (HT.sIx x.length 0 none)).take (HT.sIx x.length x.length (some (n : Int)) - HT.sIx x.length 0 none)).toArray).toList = _
  rw [HT.sIx_none, HT.sIx_nat]
  have hx : x.length = (TL.tl x).length := TL.len_tl x
  show ((TL.tl x).drop 0).take (min n x.length - 0) = _
  rw [hx, List.drop_zero, Nat.sub_zero]
  rcases Nat.le_total n (TL.tl x).length with h | h
  · rw [Nat.min_eq_left h]
  · rw [Nat.min_eq_right h, List.take_length, List.take_of_length_le h]
theorem rv_neT {H : Hp} {x y : Str} : RV rNe (.str x) (.str y) H (.bl (!decide (x = y))) := fun H1 _ _ q => ⟨rfl, by
  have e : decide (V.str x = V.str y) = decide (x = y) := by
    by_cases h : x = y
    · subst h; simp
    · rw [decide_eq_false h, decide_eq_false (fun z => h (V.str.inj z))]
  rw [e]; exact q H1 (Ex.refl H1)⟩
def oneS (c : Nat) : Str := ⟨#[c]⟩
theorem tl_oneS (c : Nat) : TL.tl (oneS c) = [c] := rfl
theorem mem_ones {x : Str} {sg : List Nat} : x ∈ sg.map oneS ↔ ∃ c, c ∈ sg ∧ TL.tl x = [c] := by
  rw [List.mem_map]
  constructor
  · rintro ⟨c, hc, rfl⟩; exact ⟨c, hc, rfl⟩
  · rintro ⟨c, hc, e⟩; exact ⟨c, hc, TL.ext_tl (by rw [e]; rfl)⟩
def D_lawN (K : PySem.W.Frag) (H : Hp) (vs : List V) (z : V) : Prop := ∃ (w : Str) (l : Addr) (sg : List Nat), vs = [.str w, .ref l] ∧ SqL K H l ((sg.map oneS).map V.str) ∧ w.length ≤ 20000 ∧ (∀ c, c ∈ TL.tl w → c < 128) ∧ z = oV (lawN sg (TL.tl w))
theorem nums09 : TL.tl ("0123456789" : Str) = [48, 49, 50, 51, 52, 53, 54, 55, 56, 57] := by decide +kernel
theorem dig_mem (c : Nat) : (!decide (c ∈ TL.tl ("0123456789" : Str))) = !digB c := by
  rw [nums09]
  congr 1
  unfold digB
  rw [← Bool.decide_and, decide_eq_decide]
  simp
  omega
theorem plain_len (sg w : List Nat) : (plainOf sg w).length ≤ w.length := by
  cases w with
  | nil => exact Nat.le_refl _
  | cons c r => rw [plain_cons]; split <;> simp
theorem plain_mem {sg w : List Nat} {c : Nat} (h : c ∈ plainOf sg w) : c ∈ w := by
  cases w with
  | nil => exact h
  | cons d r =>
    rw [plain_cons] at h
    split at h
    · exact List.mem_cons_of_mem _ h
    · exact h
theorem filt_nil {l : List Nat} : decide ((l.filter fun c => !digB c) ≠ []) = !(l.all digB) := by
  cases h : l.all digB with
  | true =>
    rw [List.all_eq_true] at h
    have : (l.filter fun c => !digB c) = [] := List.filter_eq_nil_iff.mpr fun c hc => by rw [h c hc]; decide
    rw [this]; rfl
  | false =>
    obtain ⟨c, hc, hd⟩ := List.all_eq_false.mp h
    have : (l.filter fun c => !digB c) ≠ [] := fun z => by
      have := List.filter_eq_nil_iff.mp z c hc
      cases h : digB c
      · rw [h] at this; simp at this
      · exact hd h
    rw [decide_eq_true this]; rfl
theorem at_zero {c : Nat} {r : List Nat} {x : Str} (h : TL.tl x = c :: r) : atI x.cps.toList 0 = some c := by
  show atI (TL.tl x) 0 = some c
  rw [h]; exact atI_nat (j := 0) rfl
theorem eq_tl2 {x y : Str} : x = y ↔ TL.tl x = TL.tl y := ⟨fun h => h ▸ rfl, TL.ext_tl⟩
theorem one_is (c d : Nat) (y : Str) (hy : TL.tl y = [d]) : decide ((⟨#[c]⟩ : Str) = y) = decide (c = d) := by
  rw [decide_eq_decide, eq_tl2, hy]
  show [c] = [d] ↔ _
  simp
theorem ok_law_number (T : Top K mg) : FnOk P w K mg base CX0 1 T.f_law_number T.fd_law_number ["word", "signs"] (spH (D_lawN K)) := by
  refine T.F_law_number.ok sc_law_number (fun vs H Q E h => ?_) (fun cdv A outer s H vs Q E hr h => ?_)
  · obtain ⟨z, ⟨w, l, sg, rfl, _⟩, _⟩ := h; rfl
  · obtain ⟨z, ⟨w, l, sg, rfl, hL, hz, ha, rfl⟩, q⟩ := h
    refine ⟨_, (pss_cons (ps_set (i := 2) sc_law_number.nd rfl (Or.inl rfl) (pe_ifExp (PW.pt (pw_and (pt_cmpR (r := rIn K false) op_in_seq (pe_slice sl_str (pv 0) po_none (po_some pe_int)) (pv 1) (by rfl)) (pw_and1 (pt_cmpR op_ne (pv 0) pe_str (nomark _))))) (pe_slice sl_str (pv 0) (po_some pe_int) po_none) (pv 0)))
      (pss_cons (ps_if (PW.pt (pw_or (pt_not (pt_chain op_le op_le pe_int (pe_callB call_len_str (by rfl) T.z_len PySem.boot_len (pa_cons (pv 2) pa_nil)) pe_int)) (pw_or1 (pt_cmpR (r := rNeD K) (op_neD hr.units) (pe_lc (own := [("sign", 4)]) (g := gName 4)  rfl sc_law_number.nd (pi_str (pv 2)) (blkOk_by (own := [("sign", 4)]) (N := ["word", "signs", "plain", "number", "sign"]) (sc := defScope s_law_number) (by decide +kernel)) (fun _ _ _ _ _ => (pg_name (i := 4) sc_law_number.nd rfl (Or.inl rfl))) (fun _ _ _ _ _ => (pts_one (pt_cmpR (r := rNis) op_niS (pv 4) pe_str (by rfl)))) (fun _ _ _ _ _ => (pv 4))) (pe_lst pa_nil) (nomark _))))) (pss_one (ps_ret pe_non)) pss_nil)
      (pss_cons (ps_if (PW.pt (pw_and (pt_cmpR op_eq (pe_ix ix_str (pv 2) pe_int (fun _ _ => rfl)) pe_str (nomark _)) (pw_and1 (pt_cmpR op_ne (pv 0) pe_str (nomark _))))) (pss_one (ps_ret pe_non)) pss_nil)
      (pss_cons (ps_set (i := 3) sc_law_number.nd rfl (Or.inl rfl) (pe_callTy call_int_str (by rfl) T.z_int (by decide +kernel) (pa_cons (pv 2) pa_nil)))
      (pss_one (ps_ret (pe_ifExp (pt_cmpR op_eq (pe_ix ix_str (pv 0) pe_int (fun _ _ => rfl)) pe_str (nomark _)) (pe_op op_sub pe_int (pv 3)) (pv 3)))))))), ?_⟩
    have m45 : TL.tl ("-" : Str) = [45] := by decide +kernel
    have m48 : TL.tl ("0" : Str) = [48] := by decide +kernel
    have wl := TL.len_tl w
    -- plain
    obtain ⟨pl, hpl, hval⟩ : ∃ pl : Str, TL.tl pl = plainOf sg (TL.tl w) ∧ (if (decide (cutS w none (some ((1 : Nat) : Int)) ∈ sg.map oneS) && !decide (w = "")) = true then V.str (cutS w (some ((1 : Nat) : Int)) none) else V.str w) = V.str pl := by
      have e0 : TL.tl ("" : Str) = [] := by decide +kernel
      by_cases h : (decide (cutS w none (some ((1 : Nat) : Int)) ∈ sg.map oneS) && !decide (w = "")) = true
      · refine ⟨cutS w (some ((1 : Nat) : Int)) none, ?_, if_pos h⟩
        rw [tl_cut]
        simp only [Bool.and_eq_true, decide_eq_true_eq] at h
        obtain ⟨c, hc, e⟩ := mem_ones.mp h.1
        rw [tl_upto] at e
        cases ew : TL.tl w with
        | nil => rw [ew] at e; cases e
        | cons d r =>
          rw [ew] at e
          obtain rfl : d = c := by simpa using e
          rw [plain_cons]
          rw [if_pos hc]; rfl
      · refine ⟨w, ?_, if_neg h⟩
        cases ew : TL.tl w with
        | nil => rfl
        | cons d r =>
          rw [plain_cons]
          by_cases hc : d ∈ sg
          · refine absurd ?_ h
            simp only [Bool.and_eq_true, decide_eq_true_eq]
            refine ⟨mem_ones.mpr ⟨d, hc, by rw [tl_upto, ew]; rfl⟩, ?_⟩
            rw [decide_eq_false (fun z => by rw [z, e0] at ew; cases ew)]; rfl
          · rw [if_neg hc]
    have pll := TL.len_tl pl
    rw [hpl] at pll
    have ple := plain_len sg (TL.tl w)
    have pla : ∀ c, c ∈ plainOf sg (TL.tl w) → c < 128 := fun c hc => ha c (plain_mem hc)
    have plz : pl.length ≤ 20000 := by omega
    with_reducible refine f_seq ?_
    refine s_asg (v := .str pl) (ev_is (ev_if' (et_and (et_test (ev_op (ev_upto (ev_var rfl) ev_c (by omega)) (ev_var rfl) (rv_isL hL rfl (Mc.flat_strs _)))) fun _ => et_test (ev_op (ev_var rfl) ev_c rv_neT)) (fun _ => ev_from (ev_var rfl) ev_c (by omega)) fun _ => ev_var rfl) (by rw [inV_strs]; exact hval)) fun H1 e1 => ?_
    with_reducible refine f_seq ?_
    refine s_if (b := !((decide (1 ≤ (plainOf sg (TL.tl w)).length) && decide ((plainOf sg (TL.tl w)).length ≤ 60)) && (plainOf sg (TL.tl w)).all digB)) (et_is (et_or (et_not (et_test (ev_chain ev_c (ev_lenT (a := pl) (ev_var rfl) (by omega)) rv_I0 (fun _ => ev_c) fun _ => rv_I0))) fun _ => et_test (ev_neNil (cs := (plainOf sg (TL.tl w)).filter fun c => !digB c) (EvL.is (el_lcT (z := pl) (fun c => !digB c) (fun c => .str ⟨#[c]⟩) (ev_var rfl) (by omega) (fun _ => rfl) (fun c U _ _ => et_is (et_test (ev_op (ev_var rfl) ev_c rv_niS)) (dig_mem c)) fun c U _ _ => ev_var rfl) (by rw [hpl])) (el_lst ea_nil (Nat.zero_le _)) (fun c hc => pla c (List.mem_filter.mp hc).1))) ?_) (fun hb H2 e2 => ?_) fun hb H2 e2 => f_next ?_
    · rw [filt_nil, pll]
      have c1 : decide ((1 : Int) ≤ (((plainOf sg (TL.tl w)).length : Nat) : Int)) = decide (1 ≤ (plainOf sg (TL.tl w)).length) := by rw [decide_eq_decide]; omega
      have c2 : decide ((((plainOf sg (TL.tl w)).length : Nat) : Int) ≤ 60) = decide ((plainOf sg (TL.tl w)).length ≤ 60) := by rw [decide_eq_decide]; omega
      rw [c1, c2]
      cases decide (1 ≤ (plainOf sg (TL.tl w)).length) <;> cases decide ((plainOf sg (TL.tl w)).length ≤ 60) <;> cases (plainOf sg (TL.tl w)).all digB <;> rfl
    · refine s_ret ev_c fun H3 e3 => ?_
      have e : lawN sg (TL.tl w) = none := by
        unfold lawN
        rw [if_pos ((Bool.not_eq_true' _).mp hb)]
      rw [e] at q
      exact q H3 ((e1.trans e2).trans e3)
    have hb2 : (decide (1 ≤ (plainOf sg (TL.tl w)).length) && decide ((plainOf sg (TL.tl w)).length ≤ 60) && (plainOf sg (TL.tl w)).all digB) = true := by
      cases h : (decide (1 ≤ (plainOf sg (TL.tl w)).length) && decide ((plainOf sg (TL.tl w)).length ≤ 60) && (plainOf sg (TL.tl w)).all digB)
      · rw [h] at hb; cases hb
      · rfl
    have hb3 := hb2
    simp only [Bool.and_eq_true, decide_eq_true_eq, List.all_eq_true] at hb3
    obtain ⟨⟨p1, p60⟩, pd⟩ := hb3
    obtain ⟨c, r, ep⟩ : ∃ c r, plainOf sg (TL.tl w) = c :: r := by
      cases h : plainOf sg (TL.tl w) with
      | nil => rw [h] at p1; simp at p1
      | cons c r => exact ⟨c, r, rfl⟩
    obtain ⟨d, s, ew⟩ : ∃ d s, TL.tl w = d :: s := by
      cases h : TL.tl w with
      | nil => rw [h] at ep; cases ep
      | cons d s => exact ⟨d, s, rfl⟩
    unfold lawN at q
    rw [if_neg (by rw [hb2]; exact fun z => nomatch z)] at q
    with_reducible refine f_seq ?_
    refine s_if (et_and (et_test (ev_op (ev_op (ev_var rfl) ev_c (rv_ixS (by omega) (at_zero (hpl.trans ep)))) ev_c rv_eqT2)) fun _ => et_test (ev_op (ev_var rfl) ev_c rv_neT)) (fun hb H3 e3 => ?_) fun hb H3 e3 => f_next ?_
    · rw [one_is _ _ _ m48] at hb
      have hc : (plainOf sg (TL.tl w)).head? = some 48 ∧ TL.tl w ≠ [48] := by
        simp only [Bool.and_eq_true, decide_eq_true_eq, Bool.not_eq_true', decide_eq_false_iff_not] at hb
        exact ⟨by rw [ep, hb.1]; rfl, fun z => hb.2 (eq_tl2.mpr (z.trans m48.symm))⟩
      rw [if_pos hc] at q
      exact s_ret ev_c fun H4 e4 => q H4 (((e1.trans e2).trans e3).trans e4)
    · rw [one_is _ _ _ m48] at hb
      have hc : ¬ ((plainOf sg (TL.tl w)).head? = some 48 ∧ TL.tl w ≠ [48]) := fun ⟨z1, z2⟩ => by
        have hc48 : c = 48 := by rw [ep] at z1; simpa using z1
        rw [decide_eq_true hc48, decide_eq_false (fun z => z2 ((eq_tl2.mp z).trans m48))] at hb
        exact nomatch hb
      rw [if_neg hc] at q
      have hi : PySem.intText? pl = some ((NumText.digitsVal (plainOf sg (TL.tl w)) : Nat) : Int) := by
        have z := intText_digits (x := pl) (by
          rw [show pl.cps.toList = plainOf sg (TL.tl w) from hpl]
          intro c hc
          have := pd c hc
          unfold digB at this
          simpa using this) (by rw [show pl.cps.toList = plainOf sg (TL.tl w) from hpl, ep]; simp) (by omega)
        rw [show pl.cps.toList = plainOf sg (TL.tl w) from hpl] at z
        exact z
      with_reducible refine f_seq ?_
      refine s_asg (ev_intT (ev_var rfl) hi (by omega)) fun H4 e4 => ?_
      refine s_ret (ev_if' (et_test (ev_op (ev_op (ev_var rfl) ev_c (rv_ixS (by omega) (at_zero ew))) ev_c rv_eqT2)) (fun _ => ev_op ev_c (ev_var rfl) rv_I0) fun _ => ev_var rfl) fun H5 e5 => ?_
      have x5 := (((e1.trans e2).trans e3).trans e4).trans e5
      rw [one_is _ _ _ m45]
      by_cases h : d = 45
      · rw [decide_eq_true h, if_pos rfl]
        rw [if_pos (by rw [ew, h]; rfl)] at q
        rw [show ((0 : Int) - ((NumText.digitsVal (plainOf sg (TL.tl w)) : Nat) : Int)) = -((NumText.digitsVal (plainOf sg (TL.tl w)) : Nat) : Int) by omega]
        exact q H5 x5
      · rw [decide_eq_false h, if_neg (fun z => nomatch z)]
        rw [if_neg (by rw [ew]; simpa using h)] at q
        exact q H5 x5

/-! what a line tells -/
def Asc (z : Str) (n : Nat) : Prop := z.length ≤ n ∧ ∀ c, c ∈ TL.tl z → c < 128
theorem spl_sub (S : List Nat) : ∀ (l : List Nat) (k : Nat) (acc : List Nat), (TL.spl S k acc l).length ≤ l.length + 1 ∧ ∀ p, p ∈ TL.spl S k acc l → p.length ≤ acc.length + l.length ∧ ∀ c, c ∈ p → c ∈ acc ∨ c ∈ l
  | [], k, acc => by
    rw [TL.spl_nil]
    refine ⟨Nat.le_refl _, fun p hp => ?_⟩
    rw [List.mem_singleton.mp hp]
    exact ⟨Nat.le_refl _, fun c hc => .inl hc⟩
  | c :: r, k + 1, acc => by
    obtain ⟨a, b⟩ := spl_sub S r k acc
    have e : TL.spl S (k + 1) acc (c :: r) = TL.spl S k acc r := rfl
    rw [e, List.length_cons]
    refine ⟨by omega, fun p hp => ?_⟩
    obtain ⟨b1, b2⟩ := b p hp
    exact ⟨by omega, fun x hx => (b2 x hx).imp_right (List.mem_cons_of_mem _)⟩
  | c :: r, 0, acc => by
    cases h : TL.pre S (c :: r) with
    | true =>
      obtain ⟨a, b⟩ := spl_sub S r (S.length - 1) []
      rw [TL.spl_hit h, List.length_cons, List.length_cons]
      refine ⟨by omega, fun p hp => ?_⟩
      rcases List.mem_cons.mp hp with rfl | hp
      · exact ⟨Nat.le_add_right _ _, fun x hx => .inl hx⟩
      · obtain ⟨b1, b2⟩ := b p hp
        rw [List.length_nil] at b1
        exact ⟨by omega, fun x hx => (b2 x hx).elim (fun z => by simp at z) fun z => .inr (List.mem_cons_of_mem _ z)⟩
    | false =>
      obtain ⟨a, b⟩ := spl_sub S r 0 (acc ++ [c])
      rw [TL.spl_miss h, List.length_cons]
      refine ⟨by omega, fun p hp => ?_⟩
      obtain ⟨b1, b2⟩ := b p hp
      rw [List.length_append, List.length_singleton] at b1
      refine ⟨by omega, fun x hx => ?_⟩
      rcases b2 x hx with z | z
      · rcases List.mem_append.mp z with z | z
        · exact .inl z
        · exact .inr (List.mem_singleton.mp z ▸ List.mem_cons_self ..)
      · exact .inr (List.mem_cons_of_mem _ z)
theorem split_asc {z s : Str} {n : Nat} (hs : TL.tl s ≠ []) (hk : s.cps.all (· < 256) = true) (h : Asc z n) : (Txt.split z s).length ≤ n + 1 ∧ ∀ w, w ∈ Txt.split z s → Asc w n := by
  have e := TL.split_spl z s hs (TL.kind_ok hk)
  obtain ⟨a, b⟩ := spl_sub (TL.tl s) (TL.tl z) 0 []
  rw [← e] at a b
  rw [List.length_map] at a
  have hl := TL.len_tl z
  have h1 := h.1
  refine ⟨by omega, fun w hw => ?_⟩
  obtain ⟨b1, b2⟩ := b (TL.tl w) (List.mem_map.mpr ⟨w, hw, rfl⟩)
  have hlw := TL.len_tl w
  rw [List.length_nil] at b1
  exact ⟨by omega, fun c hc => (b2 c hc).elim (fun z => by simp at z) (h.2 c)⟩
def wordsOf (z : Str) : List (Option Int) := (Txt.split z " ").map fun w => readL (TL.tl w) [43]
def lineOf (z : Str) : Option (List Int) := if z = "none" then some [] else if (wordsOf z).any Option.isNone = true then none else some ((wordsOf z).map fun o => o.getD 0)
theorem digits_pos : ∀ {l : List Nat} {c : Nat} {r : List Nat}, l = c :: r → digB c = true → c ≠ 48 → 0 < NumText.digitsVal l := by
  have grow : ∀ (r : List Nat) (a : Nat), 0 < a → 0 < r.foldl (fun acc c => acc * 10 + (c - 48)) a := fun r => by
    induction r with
    | nil => intro a h; exact h
    | cons c r ih => intro a h; exact ih _ (by show 0 < a * 10 + (c - 48); omega)
  intro l c r e hd hc
  subst e
  unfold NumText.digitsVal
  rw [List.foldl_cons]
  refine grow r _ ?_
  unfold digB at hd
  simp at hd
  show 0 < 0 * 10 + (c - 48)
  omega
theorem posL_is (l : List Nat) : posL l = ((decide (1 ≤ l.length) && decide (l.length ≤ 60) && l.all digB) && !(l.head? == some 48)) := by
  unfold posL
  have e : (l.all fun c => decide (48 ≤ c) && decide (c ≤ 57)) = l.all digB := rfl
  rw [e]
  have e2 : decide (0 < l.length) = decide (1 ≤ l.length) := rfl
  rw [e2]
  cases decide (l.length ≤ 60) <;> cases decide (1 ≤ l.length) <;> cases l.all digB <;> cases (l.head? == some 48) <;> rfl
/-- the law's number of a word, if it may stand in a list of steps -/
def stepW (w : List Nat) : Option Int :=
  match lawN [43, 45] w with
  | none => none
  | some n => if 0 < n ∧ w.head? ≠ some 43 then none else some n
theorem step_word (w : List Nat) : stepW w = readL w [43] := by
  unfold stepW
  by_cases h0 : w = [48]
  · subst h0; decide +kernel
  cases w with
  | nil => decide +kernel
  | cons c r =>
    have g {p : List Nat} : ((decide (1 ≤ p.length) && decide (p.length ≤ 60) && p.all digB) = false ∨ p.head? = some 48) ↔ posL p = false := by
      rw [posL_is]
      cases (decide (1 ≤ p.length) && decide (p.length ≤ 60) && p.all digB)
      · simp
      · simp
    unfold lawN readL
    rw [if_neg h0]
    have key : ∀ p, plainOf [43, 45] (c :: r) = p → (if (decide (1 ≤ p.length) && decide (p.length ≤ 60) && p.all digB) = false then (none : Option Int) else if p.head? = some 48 ∧ (c :: r) ≠ [48] then none else some (if (c :: r).head? = some 45 then -((NumText.digitsVal p : Nat) : Int) else ((NumText.digitsVal p : Nat) : Int))) = if posL p = true then some (if (c :: r).head? = some 45 then -((NumText.digitsVal p : Nat) : Int) else ((NumText.digitsVal p : Nat) : Int)) else none := fun p _ => by
      cases hp : posL p with
      | true =>
        have n := (not_congr (g (p := p))).mpr (by rw [hp]; simp)
        rw [if_neg (fun z => n (.inl z)), if_neg (fun z => n (.inr z.1)), if_pos rfl]
      | false =>
        refine Eq.trans ?_ (if_neg (fun z => nomatch z)).symm
        rcases g.mpr hp with z | z
        · rw [if_pos z]
        · by_cases z2 : (decide (1 ≤ p.length) && decide (p.length ≤ 60) && p.all digB) = false
          · rw [if_pos z2]
          · rw [if_neg z2, if_pos ⟨z, h0⟩]
    rw [key _ rfl]
    have pos {l : List Nat} (h : posL l = true) : 0 < NumText.digitsVal l := by
      rw [posL_is] at h
      simp only [Bool.and_eq_true, decide_eq_true_eq, List.all_eq_true] at h
      obtain ⟨⟨⟨a, _⟩, b⟩, d⟩ := h
      cases l with
      | nil => simp at a
      | cons x l => exact digits_pos rfl (b x (List.mem_cons_self ..)) (fun z => by rw [z] at d; simp at d)
    rw [plain_cons]
    by_cases h45 : c = 45
    · subst h45
      rw [if_pos (show (45 : Nat) ∈ [43, 45] by simp), if_pos (show (45 :: r).head? = some 45 from rfl), if_pos (show (45 :: r).head? = some 45 from rfl)]
      show (match (if posL r = true then some (-((NumText.digitsVal r : Nat) : Int)) else none) with | none => none | some n => if 0 < n ∧ (45 :: r).head? ≠ some 43 then none else some n) = if posL r = true then some (-((NumText.digitsVal r : Nat) : Int)) else none
      cases hp : posL r with
      | true =>
        rw [if_pos rfl]
        show (if 0 < -((NumText.digitsVal r : Nat) : Int) ∧ (45 :: r).head? ≠ some 43 then none else some (-((NumText.digitsVal r : Nat) : Int))) = _
        rw [if_neg (fun z => by omega)]
      | false => rfl
    · have hn45 : ¬ (c :: r).head? = some 45 := fun z => h45 (by simpa using z)
      rw [if_neg hn45, if_neg hn45, if_neg (show ¬ ([43] : List Nat) = [] by simp)]
      by_cases h43 : c = 43
      · subst h43
        rw [if_pos (show (43 : Nat) ∈ [43, 45] by simp), if_pos (show (43 :: r).head? = [43].head? from rfl)]
        show (match (if posL r = true then some ((NumText.digitsVal r : Nat) : Int) else none) with | none => none | some n => if 0 < n ∧ (43 :: r).head? ≠ some 43 then none else some n) = if posL r = true then some ((NumText.digitsVal r : Nat) : Int) else none
        cases hp : posL r with
        | true =>
          rw [if_pos rfl]
          show (if 0 < ((NumText.digitsVal r : Nat) : Int) ∧ (43 :: r).head? ≠ some 43 then none else some ((NumText.digitsVal r : Nat) : Int)) = _
          rw [if_neg (fun z => z.2 rfl)]
        | false => rfl
      · have hn43 : ¬ (c :: r).head? = some 43 := fun z => h43 (by simpa using z)
        rw [if_neg (show ¬ c ∈ [43, 45] by simp [h43, h45]), if_neg (show ¬ (c :: r).head? = [43].head? from hn43)]
        cases hp : posL (c :: r) with
        | true =>
          rw [if_pos rfl]
          have := pos hp
          show (if 0 < ((NumText.digitsVal (c :: r) : Nat) : Int) ∧ (c :: r).head? ≠ some 43 then none else some ((NumText.digitsVal (c :: r) : Nat) : Int)) = _
          rw [if_pos ⟨by omega, hn43⟩]
        | false => rfl

/-! the reader of lists of steps -/
def D_pos (vs : List V) (z : V) : Prop := ∃ d : Str, vs = [.str d] ∧ d.length ≤ 1000000 ∧ z = .bl (posL (TL.tl d))
theorem ok_is_positive (T : Top K mg) : FnOk P w K mg base CX0 1 T.f_is_positive T.fd_is_positive ["digits"] (spF D_pos) := by
  refine T.F_is_positive.ok sc_is_positive (fun vs H Q E h => ?_) (fun cdv A outer s H vs Q E hr h => ?_)
  · obtain ⟨z, ⟨d, rfl, _⟩, _⟩ := h; rfl
  · obtain ⟨z, ⟨d, rfl, hz, rfl⟩, q⟩ := h
    refine ⟨_, (pss_cons (ps_if (PW.pt (pw_or (pt_cmpR op_gt (pe_callB call_len_str (by rfl) T.z_len PySem.boot_len (pa_cons (pv 0) pa_nil)) (pe_glob (v := .int 60) (by rfl) T.g_MOST_DIGITS ⟨_, rfl⟩) (nomark _)) (pw_or1 (pt_val (pe_m1 PySem.F.slot_str_startswith PySem.F.type_str_startswith mt_startswith (pv 0) pe_str))))) (pss_one (ps_ret pe_bl)) pss_nil)
      (pss_one (ps_ret (pe_and (pe_m0 PySem.F.slot_str_isascii PySem.F.type_str_isascii mt_isascii (pv 0)) (pe_one (pe_m0 PySem.F.slot_str_isdigit PySem.F.type_str_isdigit mt_isdigit (pv 0))))))), ?_⟩
    have e := pos_is d
    with_reducible refine f_seq ?_
    refine s_if (et_or (et_test (ev_op (ev_lenT (ev_var rfl) hz) ev_c rv_I0)) fun _ => et_B (ev_sw (ev_var rfl) ev_c)) (fun hb H1 e1 => ?_) fun hb H1 e1 => ?_
    · rw [if_pos hb] at e
      refine s_ret ev_c fun H2 e2 => ?_
      rw [e]
      exact q H2 (e1.trans e2)
    · rw [if_neg (by rw [hb]; exact fun z => nomatch z)] at e
      refine f_next ?_
      refine s_ret (ev_andV (ev_m0 (g := Txt.isascii) (ev_var rfl)) fun _ => ev_m0 (g := Txt.isdigit) (ev_var rfl)) fun H2 e2 => ?_
      rw [e]
      exact q H2 (e1.trans e2)
def D_int (vs : List V) (z : V) : Prop := ∃ w p : Str, vs = [.str w, .str p] ∧ w.length ≤ 1000000 ∧ (TL.tl p = [] ∨ TL.tl p = [43]) ∧ z = oV (readL (TL.tl w) (TL.tl p))
theorem eq_tl {x y : Str} : x = y ↔ TL.tl x = TL.tl y := ⟨fun h => h ▸ rfl, TL.ext_tl⟩
theorem ok_integer (T : Top K mg) : FnOk P w K mg base CX0 2 T.f_integer T.fd_integer ["word", "plus"] (spF D_int) := by
  have G_is_positive : FnOk P w K mg base CX0 1 T.f_is_positive T.fd_is_positive ["digits"] (spF D_pos) := ok_is_positive T
  refine T.F_integer.ok sc_integer (fun vs H Q E h => ?_) (fun cdv A outer s H vs Q E hr h => ?_)
  · obtain ⟨z, ⟨w, p, rfl, _⟩, _⟩ := h; rfl
  · obtain ⟨z, ⟨w, p, rfl, hz, hp, rfl⟩, q⟩ := h
    refine ⟨_, (pss_cons (ps_if (pt_cmpR op_eq (pv 0) pe_str (nomark _)) (pss_one (ps_ret pe_int)) pss_nil)
      (pss_cons (ps_set (i := 2) sc_integer.nd rfl (Or.inl rfl) (pe_ifExp (pt_val (pe_m1 PySem.F.slot_str_startswith PySem.F.type_str_startswith mt_startswith (pv 0) pe_str)) pe_str (pv 1)))
      (pss_cons (ps_set (i := 3) sc_integer.nd rfl (Or.inl rfl) (pe_slice sl_str (pv 0) (po_some (pe_callB call_len_str (by rfl) T.z_len PySem.boot_len (pa_cons (pv 2) pa_nil))) po_none))
      (pss_cons (ps_if (PW.pt (pw_or (pt_not (pt_val (pe_m1 PySem.F.slot_str_startswith PySem.F.type_str_startswith mt_startswith (pv 0) (pv 2)))) (pw_or1 (pt_not (pt_val (pe_call G_is_positive (hr.mono (by first | decide | omega)) (by rfl) T.g_is_positive T.F_is_positive.kp T.b_is_positive .nil pass0 (pa_cons (pv 3) pa_nil))))))) (pss_one (ps_ret pe_non)) pss_nil)
      (pss_one (ps_ret (pe_ifExp (pt_cmpR op_eq (pv 2) pe_str (nomark _)) (pe_un un_neg (pe_callTy call_int_str (by rfl) T.z_int (by decide +kernel) (pa_cons (pv 3) pa_nil))) (pe_callTy call_int_str (by rfl) T.z_int (by decide +kernel) (pa_cons (pv 3) pa_nil))))))))), ?_⟩
    have m45 : TL.tl ("-" : Str) = [45] := by decide +kernel
    have m48 : TL.tl ("0" : Str) = [48] := by decide +kernel
    with_reducible refine f_seq ?_
    refine s_if (et_test (ev_op (ev_var rfl) ev_c rv_eqT2)) (fun hb H1 e1 => ?_) fun hb H1 e1 => ?_
    · refine s_ret ev_c fun H2 e2 => ?_
      have e0 : readL (TL.tl w) (TL.tl p) = some 0 := by
        unfold readL
        rw [if_pos (by rw [of_decide_eq_true hb]; exact m48)]
      rw [e0] at q
      exact q H2 (e1.trans e2)
    have n0 : TL.tl w ≠ [48] := fun z => of_decide_eq_false hb (eq_tl.mpr (z.trans m48.symm))
    refine f_next ?_
    with_reducible refine f_seq ?_
    refine s_asg (ev_if' (v1 := .str "-") (v2 := .str p) (et_B (ev_sw (ev_var rfl) ev_c)) (fun _ => ev_c) fun _ => ev_var rfl) fun H2 e2 => ?_
    rw [sw_one m45]
    -- the sign and what is behind it
    have key : ∀ (sg : Str) (n : Nat), sg.length = n → n ≤ 1 → (oV (readL (TL.tl w) (TL.tl p)) = if (Txt.startswith w sg && posL ((TL.tl w).drop n)) = true then (if sg = "-" then V.int (-(NumText.digitsVal ((TL.tl w).drop n) : Nat)) else V.int (NumText.digitsVal ((TL.tl w).drop n) : Nat)) else .non) →
        tSeq (tAsg (tSl rSlS (tVar 0) (tPart (tCB (fun xs H Q => ∃ z, xs = [.str z] ∧ z.length ≤ sizeLine ∧ Q (.int z.length) H) (tCons (tVar 2) tNil))) tNoPart) (gName 3)) (tSeq (tIfS (tOr (tNot (tB (tM1 rSw (tVar 0) (tVar 2)))) (tNot (tB (tCall (spF D_pos) [] E0 (tCons (tVar 3) tNil))))) (tRet (tC .non)) tNext) (tRet (tIf (tTest (tOp rEq (tVar 2) (tC (.str "-")))) (tUn (rU fun i => .int (-i)) (tCB (fun xs H Q => ∃ a n, xs = [.str a] ∧ PySem.intText? a = some n ∧ a.length ≤ 640 ∧ Q (.int n) H) (tCons (tVar 3) tNil))) (tCB (fun xs H Q => ∃ a n, xs = [.str a] ∧ PySem.intText? a = some n ∧ a.length ≤ 640 ∧ Q (.int n) H) (tCons (tVar 3) tNil)))))
          { rt := Q, nx := fun _ H' => Q .non H' } [some (.str w), some (.str p), some (.str sg), none] H2 := fun sg n hn h1 hv => by
      have hl : (cutS w (some (n : Int)) none).length ≤ 1000000 := Nat.le_trans (cutS_length _ _ _) hz
      with_reducible refine f_seq ?_
      refine s_asg (ev_from (ev_var rfl) (hn ▸ ev_lenT (ev_var rfl) (by omega)) hz) fun H3 e3 => ?_
      with_reducible refine f_seq ?_
      have ht := tl_cut (x := w) (n := n)
      refine s_if (et_or (et_not (et_B (ev_sw (ev_var rfl) (ev_var rfl)))) fun _ => et_not (et_B (ev_call (ea_cons (ev_var rfl) ea_nil) (sv_F ⟨_, rfl, hl, rfl⟩)))) (fun hb H4 e4 => ?_) fun hb H4 e4 => ?_
      · refine s_ret ev_c fun H5 e5 => ?_
        rw [ht] at hb
        rw [hv, if_neg (by cases h : Txt.startswith w sg <;> cases h' : posL ((TL.tl w).drop n) <;> simp_all)] at q
        exact q H5 ((((e1.trans e2).trans e3).trans e4).trans e5)
      · rw [ht] at hb
        have hs : Txt.startswith w sg = true := by cases h : Txt.startswith w sg <;> simp_all
        have hpz : posL ((TL.tl w).drop n) = true := by cases h' : posL ((TL.tl w).drop n) <;> simp_all
        rw [hv, hs, hpz, if_pos (show (true && true) = true from rfl)] at q
        have hi := posL_int (d := cutS w (some (n : Int)) none) (by rw [ht]; exact hpz)
        rw [ht] at hi
        refine f_next ?_
        refine s_ret (ev_is (ev_if' (v1 := .int (-(NumText.digitsVal ((TL.tl w).drop n) : Nat))) (v2 := .int (NumText.digitsVal ((TL.tl w).drop n) : Nat)) (et_test (ev_op (ev_var rfl) ev_c rv_eqT2)) (fun _ => ev_un (ev_intT (ev_var rfl) hi.1 hi.2) ru_neg) fun _ => ev_intT (ev_var rfl) hi.1 hi.2) ?_) fun H5 e5 => q H5 ((((e1.trans e2).trans e3).trans e4).trans e5)
        by_cases h : sg = "-" <;> simp [h]
    cases h45 : ((TL.tl w).head? == some 45) with
    | true =>
      obtain ⟨r, hw⟩ : ∃ r, TL.tl w = 45 :: r := by
        cases e : TL.tl w with
        | nil => rw [e] at h45; cases h45
        | cons c r => rw [e] at h45; exact ⟨r, by have := eq_of_beq h45; simp at this; rw [this]⟩
      refine key "-" 1 rfl (Nat.le_refl _) ?_
      rw [hw, read_neg, sw_one m45, hw]
      show oV (if posL r = true then _ else _) = if (true && posL r) = true then _ else _
      cases posL r <;> rfl
    | false =>
      have hne : (TL.tl w).head? ≠ some 45 := fun z => by rw [z] at h45; exact nomatch h45
      have hlp := TL.len_tl p
      have hp45 : p ≠ "-" := fun z => by
        rw [z, m45] at hp
        rcases hp with h | h <;> exact nomatch h
      show tSeq _ _ _ [some (.str w), some (.str p), some (.str p), none] H2
      rcases hp with hp | hp
      · refine key p 0 (by rw [hlp, hp]; rfl) (Nat.zero_le _) ?_
        rw [hp, read_plain n0 hne, sw_nil hp, List.drop_zero, if_neg hp45]
        cases posL (TL.tl w) <;> rfl
      · refine key p 1 (by rw [hlp, hp]; rfl) (Nat.le_refl _) ?_
        rw [hp, sw_one hp, if_neg hp45]
        unfold readL
        rw [if_neg n0, if_neg hne, if_neg (show ¬ ([43] : List Nat) = [] by simp)]
        by_cases h : (TL.tl w).head? = some 43
        · rw [if_pos (show (TL.tl w).head? = [43].head? from h), h]
          show oV (if posL ((TL.tl w).drop 1) = true then _ else _) = if (true && posL ((TL.tl w).drop 1)) = true then _ else _
          cases posL ((TL.tl w).drop 1) <;> rfl
        · rw [if_neg (show ¬ (TL.tl w).head? = [43].head? from h), show ((TL.tl w).head? == some 43) = false by simpa using h]; rfl

/-! the text of a list of steps, as the law writes it -/
def signText (k : Int) : Str := if decide (k > 0) = true then "+" else ""
def stepText (k : Int) : Str := signText k ++ Str.ofString (toString k)
def textOf (ks : List Int) : Str := Txt.join " " (ks.map stepText)
theorem text_len {k : Int} (h : k.natAbs < 10 ^ 60) : (signText k).length ≤ 1 ∧ (Str.ofString (toString k)).length ≤ 70 := by
  refine ⟨?_, ?_⟩
  · unfold signText; split <;> decide
  · have e := int_text_length_le10 (k := 60) (a := k) (by decide) h
    rw [ofString_length]; omega
theorem texts_len : ∀ {ks : List Int}, (∀ k, k ∈ ks → k.natAbs < 10 ^ 60) → ((ks.map stepText).map (·.length)).sum ≤ 71 * ks.length
  | [], _ => Nat.le_refl _
  | k :: ks, h => by
    have ih := texts_len fun x hx => h x (List.mem_cons_of_mem _ hx)
    obtain ⟨a, b⟩ := text_len (h k (List.mem_cons_self ..))
    have e : (stepText k).length = (signText k).length + (Str.ofString (toString k)).length := Str.length_append _ _
    rw [List.map_cons, List.map_cons, List.sum_cons, List.length_cons, e]
    omega
theorem tl_step (k : Int) : TL.tl (stepText k) = plusL k := by
  have e1 : TL.tl ("+" : Str) = [43] := by decide +kernel
  have e2 : TL.tl ("" : Str) = [] := by decide +kernel
  unfold stepText signText
  rw [TL.tl_append, tl_int]
  unfold intL plusL
  by_cases h0 : k = 0
  · subst h0
    rw [if_neg (by decide), e2]
    decide +kernel
  rw [if_neg h0]
  by_cases h : k < 0
  · rw [if_neg (by simp; omega), e2, if_pos h, if_pos h]; rfl
  · rw [if_pos (by simp; omega), e1, if_neg h, if_neg h]; rfl
theorem tl_text (ks : List Int) : TL.tl (textOf ks) = TL.joinL [32] (ks.map plusL) := by
  unfold textOf
  rw [TL.join_eq, TL.tl_join, tl_space, List.map_map]
  congr 1
  exact List.map_congr_left fun k _ => tl_step k
theorem split_text {ks : List Int} (h : ks ≠ []) : Txt.split (textOf ks) " " = ks.map stepText :=
  TL.split_join (s := 32) (S := []) tl_space (by decide +kernel) (fun z => h (List.map_eq_nil_iff.mp z)) fun p hp => by
    obtain ⟨k, _, rfl⟩ := List.mem_map.mp hp
    rw [tl_step]
    exact plusL_free (.inl (by decide))
theorem text_none {ks : List Int} (h : ks ≠ []) : textOf ks ≠ "none" := fun z => by
  have e := congrArg TL.tl z
  rw [tl_text, show TL.tl ("none" : Str) = [110, 111, 110, 101] by decide +kernel] at e
  match ks, h with
  | k :: ks, _ =>
    obtain ⟨c, r, hc, hl⟩ := plusL_head k
    obtain ⟨r', hr⟩ := join_head (S := [32]) (ps := (k :: ks).map plusL) (c := c) (r := r) (by rw [List.map_cons, List.head?_cons, hc])
    rw [hr] at e
    have := (List.cons.inj e).1
    omega
theorem textOf_len {ks : List Int} (hb : ∀ k, k ∈ ks → k.natAbs < 10 ^ 60) : (textOf ks).length ≤ 72 * ks.length := by
  have h1 := joinT_len " " (ks.map stepText)
  have h2 := texts_len hb
  rw [List.length_map] at h1
  have h3 : (" " : Str).length = 1 := rfl
  rw [h3] at h1
  unfold textOf
  omega
def dateText (y m d : Int) : Str := Str.ofString (toString y) ++ "/" ++ Str.ofString (toString m) ++ "/" ++ Str.ofString (toString d)
def rowOf (ks : List Int) : Str := if ks = [] then "none" else textOf ks
theorem num_len {k : Int} (h : k.natAbs ≤ 10 ^ 100) : (Str.ofString (toString k)).length ≤ 110 := by
  have e := int_text_length_le10 (k := 101) (a := k) (by decide) (Nat.lt_of_le_of_lt h (by decide +kernel))
  rw [ofString_length]; omega
theorem dateText_len {y m d : Int} (hy : y.natAbs ≤ 10 ^ 100) (hm : m.natAbs ≤ 10 ^ 100) (hd : d.natAbs ≤ 10 ^ 100) : (dateText y m d).length ≤ 400 := by
  have a := num_len hy; have b := num_len hm; have c := num_len hd
  have z : ("/" : Str).length = 1 := rfl
  unfold dateText
  rw [Str.length_append, Str.length_append, Str.length_append, Str.length_append, z]
  omega
theorem rowOf_len {ks : List Int} (hb : ∀ k, k ∈ ks → k.natAbs < 10 ^ 60) : (rowOf ks).length ≤ 72 * ks.length + 4 := by
  have h := textOf_len hb
  unfold rowOf
  split
  · exact Nat.le_add_left _ _
  · omega
/-- all signs of these texts are plain -/
theorem plain_lay {x : Str} (h : ∀ c, c ∈ TL.tl x → c < 128) : PyData.canLay0 (.str x) = true := by
  show PyData.strOk x = true
  unfold PyData.strOk
  rw [← Array.all_toList, List.all_eq_true]
  intro c hc
  exact decide_eq_true (Nat.lt_trans (h c hc) (by decide))
theorem intL_plain (k : Int) : ∀ c, c ∈ intL k → c < 128 := fun c hc => by
  unfold intL at hc
  rcases List.mem_append.mp hc with h | h
  · split at h
    · have := List.mem_singleton.mp h; omega
    · simp at h
  · have := TL.numL_digits _ c h; omega
theorem plusL_plain (k : Int) : ∀ c, c ∈ plusL k → c < 128 := fun c hc => by
  unfold plusL at hc
  split at hc
  · have := List.mem_singleton.mp hc; omega
  · rcases List.mem_append.mp hc with h | h
    · split at h <;> (have := List.mem_singleton.mp h; omega)
    · have := TL.numL_digits _ c h; omega
theorem tl_slash : TL.tl ("/" : Str) = [47] := by decide +kernel
theorem tl_dateText (y m d : Int) : TL.tl (dateText y m d) = intL y ++ [47] ++ intL m ++ [47] ++ intL d := by
  unfold dateText
  rw [TL.tl_append, TL.tl_append, TL.tl_append, TL.tl_append, tl_int, tl_int, tl_int, tl_slash]
theorem date_plain (y m d : Int) : ∀ c, c ∈ TL.tl (dateText y m d) → c < 128 := fun c hc => by
  rw [tl_dateText] at hc
  simp only [List.mem_append, List.mem_singleton] at hc
  rcases hc with (((h | h) | h) | h) | h
  · exact intL_plain _ c h
  · omega
  · exact intL_plain _ c h
  · omega
  · exact intL_plain _ c h
theorem mem_joinL {S : List Nat} {c : Nat} : ∀ {ps : List (List Nat)}, c ∈ TL.joinL S ps → c ∈ S ∨ ∃ p, p ∈ ps ∧ c ∈ p
  | [], h => by simp [TL.joinL] at h
  | [p], h => .inr ⟨p, List.mem_singleton.mpr rfl, h⟩
  | p :: q :: r, h => by
    rcases List.mem_append.mp (show c ∈ p ++ (S ++ TL.joinL S (q :: r)) from h) with h | h
    · exact .inr ⟨p, List.mem_cons_self .., h⟩
    · rcases List.mem_append.mp h with h | h
      · exact .inl h
      · rcases mem_joinL h with h | ⟨z, hz, hc⟩
        · exact .inl h
        · exact .inr ⟨z, List.mem_cons_of_mem _ hz, hc⟩
theorem text_plain (ks : List Int) : ∀ c, c ∈ TL.tl (textOf ks) → c < 128 := fun c hc => by
  rw [tl_text] at hc
  rcases mem_joinL hc with h | ⟨p, hp, hc⟩
  · have := List.mem_singleton.mp h; omega
  · obtain ⟨k, _, rfl⟩ := List.mem_map.mp hp
    exact plusL_plain k c hc
theorem row_plain (ks : List Int) : ∀ c, c ∈ TL.tl (rowOf ks) → c < 128 := by
  unfold rowOf
  split
  · rw [show TL.tl ("none" : Str) = [110, 111, 110, 101] by decide +kernel]
    intro c hc
    simp at hc; omega
  · exact text_plain ks
theorem ev_signed {σ : L2.St} {U : Hp} {j : Nat} {k : Int} (hb : k.natAbs < 10 ^ 60) (g : σ[j]? = some (some (.int k))) : Ev (tOp (fun x y H Q => ∃ i j : Str, x = .str i ∧ y = .str j ∧ i.length + j.length ≤ sizeLine ∧ Q (.str (i ++ j)) H) (tOp (rIxL K) (tLst (tCons (tC (.str "")) (tCons (tC (.str "+")) tNil))) (tCB (fun xs H Q => (∃ i, xs = [.int i] ∧ Q (.int i) H) ∨ ∃ k, xs = [.bl k] ∧ Q (.int (if k then 1 else 0)) H) (tCons (tOp (rI0 fun i j => .bl (decide (i > j))) (tVar j) (tC (.int 0))) tNil)))
        (tCB (fun xs H Q => ∃ i : Int, xs = [.int i] ∧ i.natAbs.log2 < 1920 ∧ Q (.str (toString i)) H) (tCons (tVar j) tNil))) σ U (.str (stepText k)) := by
  obtain ⟨a, b⟩ := text_len hb
  have sign : Ev (tOp (rIxL K) (tLst (tCons (tC (.str "")) (tCons (tC (.str "+")) tNil))) (tCB (fun xs H Q => (∃ i, xs = [.int i] ∧ Q (.int i) H) ∨ ∃ k, xs = [.bl k] ∧ Q (.int (if k then 1 else 0)) H) (tCons (tOp (rI0 fun i j => .bl (decide (i > j))) (tVar j) (tC (.int 0))) tNil))) σ U (.str (signText k)) := fun U1 x Q1 q1 => by
    have hat : atI ([.str "", .str "+"] : List V) (b2 (decide (k > 0))) = some (.str (signText k)) := by
      unfold signText
      cases decide (k > 0)
      · exact atI_nat (j := 0) rfl
      · exact atI_nat (j := 1) rfl
    exact f_op (f_evL (el_lst (ea_cons ev_c (ea_cons ev_c ea_nil)) (by show 2 ≤ 100000; decide)) fun p U2 np x2 g2 => f_ev (ev_intB (ev_op (ev_var g) ev_c rv_I0)) fun U3 x3 => f_ixL (x3 _ _ g2) hat (q1 U3 (x2.trans x3)))
  exact ev_addS sign (ev_strI (ev_var g) (Nat.le_trans (Nat.le_of_lt hb) (by decide +kernel))) (by omega)

/-! the names of an exception's classes -/
def errH (b0 b1 b2 b3 : Bool) : List (Str × Bool) := [("InvalidDate", b0), ("InvalidNumber", b1), ("NothingToUndo", b2), ("Unreadable", b3)]
def pick (hs : List (Str × Bool)) : List V := (hs.filter (·.2)).map fun x => V.str x.1
def errT (x : Str × Bool) : PyData := .tuple [.str x.1, .bool x.2]
structure ErrOf (T : Top K mg) (C : Addr) (b0 b1 b2 b3 : Bool) : Prop where
  xc : XCls K C
  k0 : PySem.W.kitOne K (.ref C) (.ref T.C_InvalidDate) = some b0
  k1 : PySem.W.kitOne K (.ref C) (.ref T.C_InvalidNumber) = some b1
  k2 : PySem.W.kitOne K (.ref C) (.ref T.C_NothingToUndo) = some b2
  k3 : PySem.W.kitOne K (.ref C) (.ref T.C_Unreadable) = some b3
  kd : PySem.W.kitOne K (.ref C) (.ref T.C_DateError) = some true
  kv : PySem.W.kitOne K (.ref C) (.type "ValueError") = some true
def spErr (T : Top K mg) (a : Addr) : Sp := fun vs H Q _ => ∃ (C d : Addr) (v : V) (b0 b1 b2 b3 : Bool), vs = [.ref a] ∧ Exd H a C d [("value", v)] ∧ HotV H a ∧ ErrOf T C b0 b1 b2 b3 ∧
  ∀ r H', H r = none → Ex H H' → H' r = some (.lst (pick (errH b0 b1 b2 b3) ++ [v, .bl true])) → Q (.ref r) H'
theorem pick_take {hs : List (Str × Bool)} {i : Nat} {s : Str} {b : Bool} (h : hs[i]? = some (s, b)) : pick (hs.take (i + 1)) = pick (hs.take i) ++ (if b = true then [V.str s] else []) := by
  unfold pick
  rw [List.take_add_one, h, List.filter_append, List.map_append]
  cases b <;> rfl
theorem pick_len (hs : List (Str × Bool)) : (pick hs).length ≤ hs.length := by
  unfold pick
  rw [List.length_map]
  exact List.length_filter_le ..
theorem okt_law_error (T : Top K mg) : FnT P w K mg base 1 T.f_law_error T.fd_law_error ["e"] (spErr T) := by
  refine fnT T.F_law_error sc_law_error (fun a vs H Q E h => ?_) (fun cdv a A outer s H vs Q E p hh hr want => ?_)
  · obtain ⟨C, d, v, b0, b1, b2, b3, rfl, _⟩ := h; rfl
  · obtain ⟨C, d, v, b0, b1, b2, b3, rfl, x, hv, k, q⟩ := want
    refine ⟨_, (pss_cons (ps_set (i := 1) sc_law_error.nd rfl (Or.inl rfl) (pe_lst (pa_cons (pe_tup (pa_cons pe_str (pa_cons (pe_callB (r := rIsD K) call_isD (by rfl) T.z_isinstance (by decide +kernel) (pa_cons (pv 0) (pa_cons (pe_glob (v := .ref T.C_InvalidDate) (by rfl) T.gC_InvalidDate rfl) pa_nil))) pa_nil))) (pa_cons (pe_tup (pa_cons pe_str (pa_cons (pe_callB (r := rIsD K) call_isD (by rfl) T.z_isinstance (by decide +kernel) (pa_cons (pv 0) (pa_cons (pe_glob (v := .ref T.C_InvalidNumber) (by rfl) T.gC_InvalidNumber rfl) pa_nil))) pa_nil))) pa_nil))))
      (pss_cons (ps_set (i := 1) sc_law_error.nd rfl (Or.inl rfl) (pe_op op_cat (pv 1) (pe_lst (pa_cons (pe_tup (pa_cons pe_str (pa_cons (pe_callB (r := rIsD K) call_isD (by rfl) T.z_isinstance (by decide +kernel) (pa_cons (pv 0) (pa_cons (pe_glob (v := .ref T.C_NothingToUndo) (by rfl) T.gC_NothingToUndo rfl) pa_nil))) pa_nil))) (pa_cons (pe_tup (pa_cons pe_str (pa_cons (pe_callB (r := rIsD K) call_isD (by rfl) T.z_isinstance (by decide +kernel) (pa_cons (pv 0) (pa_cons (pe_glob (v := .ref T.C_Unreadable) (by rfl) T.gC_Unreadable rfl) pa_nil))) pa_nil))) pa_nil)))))
      (pss_cons (ps_setLcX (a := a) (i := 2) (own := [("name", 3), ("is_one", 4)]) (g := gTupX K a 2 (gCons (gName 3) (gCons (gName 4) (gNil))))  hh sc_law_error.nd rfl rfl (sw_true rfl rfl rfl (by decide +kernel)) (pv 1) (blkOk_by (own := [("name", 3), ("is_one", 4)]) (N := ["e", "held", "names", "name", "is_one"]) (sc := defScope s_law_error) (by decide +kernel)) (fun _ _ _ _ _ => (pg_tupX hh (pgs_cons (pg_name (i := 3) sc_law_error.nd rfl (Or.inl rfl)) (pgs_cons (pg_name (i := 4) sc_law_error.nd rfl (Or.inl rfl)) pgs_nil)))) (fun _ _ _ _ _ => (pts_one (pt_val (pv 4)))) (fun _ _ _ _ _ => (pv 3)))
      (pss_one (ps_ret (pe_op op_cat (pv 2) (pe_lst (pa_cons (show PE _ _ (tXd K _) from pe_xd (pv 0)) (pa_cons (pe_and (pe_callB (r := rIsD K) call_isD (by rfl) T.z_isinstance (by decide +kernel) (pa_cons (pv 0) (pa_cons (pe_glob (v := .ref T.C_DateError) (by rfl) T.gC_DateError rfl) pa_nil))) (pe_one (pe_callB (r := rIsD K) call_isD (by rfl) T.z_isinstance (by decide +kernel) (pa_cons (pv 0) (pa_cons (pe_bltn (v := .ty "ValueError") (u := .type "ValueError") (by rfl) T.z_ValueError (by decide +kernel) rfl) pa_nil))))) pa_nil))))))))), ?_⟩
    have cls {te : TE} {c : V} {u : Value} {σ : L2.St} {H4 : Hp} {b : Bool} (y : Ex H H4) (h : Ev te σ H4 c) (cv : ClsV c u) (kt : PySem.W.kitOne K (.ref C) u = some b) (hs : σ[0]? = some (some (.ref a))) : Ev (tCB (rIsD K) (tCons (tVar 0) (tCons te tNil))) σ H4 (.bl b) :=
      ev_cb (ea_cons (ev_var hs) (ea_cons h ea_nil)) fun H5 e5 Q' q' => ⟨a, C, d, _, c, u, b, rfl, x.ex_ (y.trans e5), k.xc, cv, kt, q' H5 (Ex.refl H5)⟩
    have xv {σ : L2.St} {H4 : Hp} (y : Ex H H4) (hs : σ[0]? = some (some (.ref a))) : Ev (tXd K (tVar 0)) σ H4 v := fun H5 e5 Q' q' => f_var hs ⟨a, C, d, _, v, rfl, x.ex_ (y.trans e5), k.xc, rfl, q' H5 (Ex.refl H5)⟩
    have two {σ : L2.St} {H4 : Hp} {ta tb : TE} {n : Str} {b : Bool} (h : Ev ta σ H4 (.str n)) (h2 : Ev tb σ H4 (.bl b)) : EvD K (tTup (tCons ta (tCons tb tNil))) σ H4 (errT (n, b)) := ed_tup (eds_cons (ed_str h) (eds_cons (ed_bl h2) eds_nil)) (by show 2 ≤ 100000; decide)
    with_reducible refine f_seq ?_
    with_reducible refine f_asg ?_
    refine edl_lst (ds := [errT ("InvalidDate", b0), errT ("InvalidNumber", b1)]) (eds_cons (two ev_c (cls (Ex.refl H) ev_c (.own _) k.k0 rfl)) (eds_cons (two ev_c (cls (Ex.refl H) ev_c (.own _) k.k1 rfl)) eds_nil)) (by show 2 ≤ 100000; decide) H (Ex.refl H) _ fun l xs H1 nl e1 h1 d1 => ?_
    with_reducible refine f_gName ?_
    with_reducible refine f_seq ?_
    with_reducible refine f_asg ?_
    refine f_op (f_var rfl ?_)
    refine edl_lst (ds := [errT ("NothingToUndo", b2), errT ("Unreadable", b3)]) (eds_cons (two ev_c (cls e1 ev_c (.own _) k.k2 rfl)) (eds_cons (two ev_c (cls e1 ev_c (.own _) k.k3 rfl)) eds_nil)) (by show 2 ≤ 100000; decide) H1 (Ex.refl H1) _ fun l2 ys H2 nl2 e2 h2 d2 => ?_
    refine ⟨l, l2, xs, ys, rfl, rfl, e2 _ _ h1, h2, sz1000 (by rw [dpa_len d1, dpa_len d2]; show 2 + 2 ≤ 1000; decide), fun p np => ?_⟩
    have e3 := Ex.new (o := .lst (xs ++ ys)) np
    have d3 : DpAll K (upd H2 p (.lst (xs ++ ys))) (xs ++ ys) ((errH b0 b1 b2 b3).map errT) := dpa_app (dpa_ex (e2.trans e3) d1) (dpa_ex e3 d2)
    have h3 : (upd H2 p (.lst (xs ++ ys))) p = some (.lst (xs ++ ys)) := upd_same
    have x3 := (e1.trans e2).trans e3
    generalize upd H2 p (.lst (xs ++ ys)) = H3 at d3 h3 x3
    generalize xs ++ ys = zs at d3 h3
    have hotz {U : Hp} (y : Ex H U) : HotV U a := hv.ex_ y
    with_reducible refine f_gName ?_
    with_reducible refine f_seq ?_
    with_reducible refine f_asg ?_
    have four : zs.length = 4 := dpa_len d3
    refine f_var rfl ⟨p, zs, rfl, sq_of h3, fun D nD => ⟨fun i U => U D = some (.lst (pick ((errH b0 b1 b2 b3).take i))) ∧ Ex H3 U, ⟨upd_same, Ex.new nD⟩, fun i U ⟨_, y⟩ => ⟨sq_of (y _ _ h3), hotz (x3.trans y)⟩, fun i y U hy ⟨hD, eU⟩ => ?_, fun U ⟨hD, eU⟩ => ?_⟩⟩
    · have hi : i < 4 := four ▸ (List.getElem?_eq_some_iff.mp hy).1
      obtain ⟨y', dt, hy', hdt, _, hd⟩ := dpa_get d3 (i := i) (by rw [List.length_map]; exact hi)
      obtain rfl : y' = y := Option.some.inj (hy'.symm.trans hy)
      rw [List.getElem?_map] at hdt
      rcases e : (errH b0 b1 b2 b3)[i]? with _ | ⟨n, b⟩
      · rw [e] at hdt; cases hdt
      rw [e] at hdt
      obtain rfl : errT (n, b) = dt := Option.some.inj hdt
      have pt := pick_take e
      obtain ⟨t, vs, rfl, ht, hvs⟩ : ∃ (t : Addr) (vs : List V), y' = .ref t ∧ SqT K H3 t vs ∧ DpAll K H3 vs [.str n, .bool b] := by cases hd with | tup h g => exact ⟨_, _, rfl, h, g⟩
      obtain rfl : vs = [.str n, .bl b] := by
        cases hvs with
        | cons u w => cases u; cases w with
          | cons u w => cases u; cases w; rfl
      refine ⟨hotz (x3.trans eU), t, _, rfl, ex_t eU ht, rfl, _, _, rfl, _, _, rfl, rfl, rfl, f_var rfl ⟨b, rfl, ?_⟩⟩
      cases b with
      | true =>
        rw [if_pos rfl]
        exact f_var rfl ⟨_, hD, Nat.lt_of_le_of_lt (Nat.le_trans (pick_len _) (List.length_take_le i _)) (Nat.lt_of_lt_of_le hi (by decide)), by rw [upd_same, pt]; rfl, fun b o g => by rw [upd_ne (ne_of_none g nD)]; exact eU b o g⟩
      | false =>
        rw [if_neg (fun z => nomatch z)]
        exact ⟨by rw [hD, pt]; simp, eU⟩
    · rw [four, show (errH b0 b1 b2 b3).take 4 = errH b0 b1 b2 b3 from rfl] at hD
      have x4 := x3.trans eU
      with_reducible refine f_gName ?_
      with_reducible refine f_ret ?_
      refine f_op (f_var rfl (f_evL (el_lst (ea_cons (xv x4 rfl) (ea_cons (ev_andV (cls x4 ev_c (.own _) k.kd rfl) fun _ => cls x4 ev_c (.ty _) k.kv rfl) ea_nil)) (by show 2 ≤ 100000; decide)) fun r H5 nr e5 h5 => ⟨D, r, _, _, rfl, rfl, e5 _ _ hD, h5, ?_, fun z nz => ?_⟩))
      · refine sz1000 ?_
        have z : (pick (errH b0 b1 b2 b3)).length ≤ 4 := pick_len _
        show (pick (errH b0 b1 b2 b3)).length + 2 ≤ 1000
        omega
      · exact q z _ (fresh_back (x4.trans e5) nz) ((x4.trans e5).trans (Ex.new nz)) upd_same

/-! the date check that raises -/
theorem ini_InvalidDate (T : Top K mg) : FnOk P w K mg base CX0 1 T.fI_InvalidDate T.fdI_InvalidDate ["self", "value"] (spIni K) := ini_ok T.FI_InvalidDate sc_m_InvalidDate fun _ _ _ _ _ _ => pss_one (ps_ost (pv 0) (pv 1))
instance (y m d : Int) : Decidable (Exists_ y m d) := by unfold Exists_; infer_instance
/-- what is raised of a value -/
def Out (C : Addr) (v : V) (H : Hp) (E : XK) : Prop := ∀ (dd : Addr) (H' : Hp), Ex H H' → H' dd = some (.xd [("value", v)]) → E (.ref C) (some dd) H'
def spXchk (K : PySem.W.Frag) (C : Addr) : Sp := fun vs H Q E => ∃ (p : Addr) (y m d : Int), vs = [.ref p] ∧ DateAt K H p y m d ∧ (Exists_ y m d → ∀ H', Ex H H' → Q .non H') ∧ (¬ Exists_ y m d → Out C (.ref p) H E)
theorem okx_check_date (T : Top K mg) : FnOk P w K mg base (L2N.CX P w) 3 T.f_check_date T.fd_check_date ["date"] (spXchk K T.C_InvalidDate) := by
  have G_days_in : FnOk P w K mg base CX0 2 T.f_days_in T.fd_days_in ["year", "month"] (spF D_days) := ok_days_in T
  have G_ini_InvalidDate : FnOk P w K mg base CX0 1 T.fI_InvalidDate T.fdI_InvalidDate ["self", "value"] (spIni K) := ini_InvalidDate T
  refine okN T.F_check_date sc_check_date (fun vs H Q E h => ?_) (fun cdv A outer s H vs Q E hr h => ?_)
  · obtain ⟨p, y, m, d, rfl, _⟩ := h; rfl
  · obtain ⟨p, y, m, d, rfl, hD, hq, hn⟩ := h
    refine ⟨_, (pss_cons (ps_asg (pv 0) (pg_tup rfl (pgs_cons (pg_name (i := 1) sc_check_date.nd rfl (Or.inl rfl)) (pgs_cons (pg_name (i := 2) sc_check_date.nd rfl (Or.inl rfl)) (pgs_cons (pg_name (i := 3) sc_check_date.nd rfl (Or.inl rfl)) pgs_nil)))))
      (pss_cons (ps_if (PW.pt (pw_or (pt_cmpR op_lt (pv 2) pe_int (nomark _)) (pw_or1 (pt_cmpR op_gt (pv 2) pe_int (nomark _))))) (pss_one (L2N.ps_raise rfl (L2N.takes_of rfl rfl rfl rfl) (pmk_val T.mk_InvalidDate G_ini_InvalidDate (hr.mono (by first | decide | omega)) (by rfl) T.gC_InvalidDate (pv 0)))) pss_nil)
      (pss_one (ps_if (PW.pt (pw_or (pt_cmpR op_lt (pv 3) pe_int (nomark _)) (pw_or1 (pt_cmpR op_gt (pv 3) (pe_call G_days_in (hr.mono (by first | decide | omega)) (by rfl) T.g_days_in T.F_days_in.kp T.b_days_in .nil pass0 (pa_cons (pv 1) (pa_cons (pv 2) pa_nil))) (nomark _))))) (pss_one (L2N.ps_raise rfl (L2N.takes_of rfl rfl rfl rfl) (pmk_val T.mk_InvalidDate G_ini_InvalidDate (hr.mono (by first | decide | omega)) (by rfl) T.gC_InvalidDate (pv 0)))) pss_nil)))), ?_⟩
    refine f_seq (s_un3 (ev_var rfl) hD fun H1 e1 => ?_)
    with_reducible refine f_seq ?_
    refine s_if (et_or (et_test (ev_op (ev_var rfl) ev_c rv_I0)) fun _ => et_test (ev_op (ev_var rfl) ev_c rv_I0)) (fun hb H2 e2 => ?_) fun hb H2 e2 => ?_
    · refine f_var rfl fun dd nd => hn (fun z => ?_) dd _ ((e1.trans e2).trans (Ex.new nd)) upd_same
      obtain ⟨h1, h2, _⟩ := z
      simp at hb; omega
    have h12 : 1 ≤ m ∧ m ≤ 12 := by simp at hb; omega
    with_reducible refine f_next ?_
    with_reducible refine f_ifS ?_
    refine (et_or (et_test (ev_op (ev_var rfl) ev_c rv_I0)) fun _ => et_test (ev_op (ev_var rfl) (ev_call (ea_cons (ev_var rfl) (ea_cons (ev_var rfl) ea_nil)) (sv_F ⟨y, m, rfl, h12.1, h12.2, rfl⟩)) rv_I0)) H2 (Ex.refl H2) _ fun H3 e3 => f_iteB (fun hb => ?_) fun hb => ?_
    · refine f_var rfl fun dd nd => hn (fun z => ?_) dd _ (((e1.trans e2).trans e3).trans (Ex.new nd)) upd_same
      obtain ⟨_, _, h3, h4⟩ := z
      simp at hb; omega
    · exact hq ⟨h12.1, h12.2, by simp at hb; omega, by simp at hb; omega⟩ H3 ((e1.trans e2).trans e3)

/-! the reader of dates that raises -/
def partsOf (z : Str) : List (Option Int) := (Txt.split z "/").map fun w => readL (TL.tl w) []
def dateOf (z : Str) : Option (Int × Int × Int) := match partsOf z with
  | [some y, some m, some d] => if Exists_ y m d then some (y, m, d) else none
  | _ => none
def spXreadd (C : Addr) : Sp := fun vs H Q E => ∃ z : Str, vs = [.str z] ∧ Asc z 20000 ∧ (dateOf z = none → Out C (.str z) H E) ∧ ∀ y m d, dateOf z = some (y, m, d) → ∀ (p : Addr) (H' : Hp), H p = none → Ex H H' → H' p = some (.tup [.int y, .int m, .int d]) → Q (.ref p) H'
theorem ini_Unreadable (T : Top K mg) : FnOk P w K mg base CX0 1 T.fI_Unreadable T.fdI_Unreadable ["self", "value"] (spIni K) := ini_ok T.FI_Unreadable sc_m_Unreadable fun _ _ _ _ _ _ => pss_one (ps_ost (pv 0) (pv 1))
theorem ini_UnreadableT (T : Top K mg) : FnT P w K mg base 1 T.fI_Unreadable T.fdI_Unreadable ["self", "value"] (fun _ => spIni K) := ini_okT T.FI_Unreadable sc_m_Unreadable fun _ _ _ _ _ _ _ => pss_one (ps_ost (pv 0) (pv 1))
theorem okx_read_date (T : Top K mg) : FnOk P w K mg base (CY P w) 4 T.f_read_date T.fd_read_date ["text"] (spXreadd T.C_Unreadable) := by
  have G_integer : FnOk P w K mg base CX0 2 T.f_integer T.fd_integer ["word", "plus"] (spF D_int) := ok_integer T
  have G_check_date : FnOk P w K mg base (L2N.CX P w) 3 T.f_check_date T.fd_check_date ["date"] (spXchk K T.C_InvalidDate) := okx_check_date T
  have G_ini_Unreadable : FnOk P w K mg base CX0 1 T.fI_Unreadable T.fdI_Unreadable ["self", "value"] (spIni K) := ini_Unreadable T
  have G_ini_UnreadableT : FnT P w K mg base 1 T.fI_Unreadable T.fdI_Unreadable ["self", "value"] (fun _ => spIni K) := ini_UnreadableT T
  refine okY T.F_read_date sc_read_date (fun vs H Q E h => ?_) (fun cdv A outer s H vs Q E hr h => ?_)
  · obtain ⟨z, rfl, _⟩ := h; rfl
  · obtain ⟨z, rfl, ha, hn, hq⟩ := h
    refine ⟨_, (pss_cons (ps_set (i := 1) sc_read_date.nd rfl (Or.inl rfl) (pe_callTy call_tuple_of (by rfl) T.z_tuple (by decide +kernel) (pa_cons (pe_lc (own := [("word", 2)]) (g := gName 2) (tt := tYes) rfl sc_read_date.nd (pi_list (pe_split (pv 0) pe_str)) (blkOk_by (own := [("word", 2)]) (N := ["text", "date", "word"]) (sc := defScope s_read_date) (by decide +kernel)) (fun _ _ _ _ _ => (pg_name (i := 2) sc_read_date.nd rfl (Or.inl rfl))) (fun _ _ _ _ _ => pts_nil) (fun _ _ _ _ _ => (pe_call G_integer (hr.mono (by first | decide | omega)) (by rfl) T.g_integer T.F_integer.kp T.b_integer .nil pass0 (pa_cons (pv 2) (pa_cons pe_str pa_nil))))) pa_nil)))
      (pss_cons (ps_if (PW.pt (pw_or (pt_cmpR op_ne (pe_callB (r := rLenS K) call_len_seq (by rfl) T.z_len PySem.boot_len (pa_cons (pv 1) pa_nil)) pe_int (nomark _)) (pw_or1 (pt_cmpR (r := rIn K false) op_in_seq pe_non (pv 1) (by rfl))))) (pss_one (L2N.ps_raise rfl (Tk.n (tk_of rfl rfl rfl rfl)) (pmk_val T.mk_Unreadable G_ini_Unreadable (hr.mono (by first | decide | omega)) (by rfl) T.gC_Unreadable (pv 0)))) pss_nil)
      (pss_cons (ps_try_bare rfl rfl rfl ⟨by rfl, by decide, .inl T.gC_InvalidDate⟩ (L2H.passesAt_of rfl) (tk_of rfl rfl rfl rfl) (fun W pn xe tk _ => (pss_one (ps_expr (pe_callS G_check_date (hr.mono (by first | decide | omega)) (by rfl) T.g_check_date T.F_check_date.kp T.b_check_date (fun σ => L2N.passAt tk σ) (pa_cons (pv 1) pa_nil))))) (fun a pn tkS => (pss_one (ps_raiseHY rfl tkS (pmk_valT T.mk_Unreadable G_ini_UnreadableT rfl (roomT (hr.mono (by first | decide | omega))) (by rfl) T.gC_Unreadable (pv 0))))))
      (pss_one (ps_ret (pv 1)))))), ?_⟩
    have sl : TL.tl ("/" : Str) = [47] := by decide +kernel
    have em : TL.tl ("" : Str) = [] := by decide +kernel
    obtain ⟨sn, sw⟩ := split_asc (s := "/") (by rw [sl]; simp) (by decide +kernel) ha
    with_reducible refine f_seq ?_
    refine s_asgU (xs := (partsOf z).map oV) (eu_tupleL (EvL.is (el_lcS (fun z => oV (readL (TL.tl z) [])) (el_split (ev_var rfl) ev_c rfl (Nat.le_trans ha.1 (by decide))) (by omega) (fun _ => rfl) fun wd H2 e2 hm => ev_call (ea_cons (ev_var rfl) (ea_cons ev_c ea_nil)) (sv_F ⟨wd, "", rfl, Nat.le_trans (sw wd hm).1 (by decide), .inl em, by rw [em]⟩)) (by unfold partsOf; rw [List.map_map]; rfl))) fun p H2 np e2 h2 => ?_
    with_reducible refine f_seq ?_
    have flat : ((partsOf z).map oV).all flatV = true := by rw [List.all_map, List.all_eq_true]; intro o _; cases o <;> rfl
    refine s_if (b := decide (((partsOf z).length : Int) ≠ 3) || (partsOf z).any Option.isNone) (et_is (et_or (et_test (ev_op (ev_lenS (ev_var rfl) (.inr (st_of h2))) ev_c rv_neI)) fun _ => et_test (ev_op ev_c (ev_var rfl) (rv_isT (st_of h2) rfl flat))) (by rw [inV_none, List.length_map]; simp)) (fun hb H3 e3 => ?_) fun hb H3 e3 => f_next ?_
    · have hl : dateOf z = none := by
        unfold dateOf
        split
        · next y m d e => rw [e] at hb; simp at hb
        · rfl
      exact f_var rfl fun dd nd => hn hl dd _ ((e2.trans e3).trans (Ex.new nd)) upd_same
    obtain ⟨y, m, d, hp⟩ : ∃ y m d, partsOf z = [some y, some m, some d] := by
      have h3 : (partsOf z).length = 3 := by
        have := (Bool.or_eq_false_iff.mp hb).1
        simp at this
        omega
      have h4 := (Bool.or_eq_false_iff.mp hb).2
      match e : partsOf z, h3 with
      | [a, b, c], _ =>
        rw [e] at h4
        cases a <;> cases b <;> cases c <;> first | exact ⟨_, _, _, rfl⟩ | simp at h4
    rw [hp] at h2
    have h3 := e3 _ _ h2
    have x3 := e2.trans e3
    with_reducible refine f_seq ?_
    with_reducible refine f_drop ?_
    refine f_cons (f_var rfl (f_nil ⟨p, y, m, d, rfl, st_of h3, fun hE H4 e4 => ?_, fun hne dd H4 e4 hdd => ?_⟩))
    · have hl : dateOf z = some (y, m, d) := by unfold dateOf; rw [hp]; exact if_pos hE
      exact s_ret (ev_var rfl) fun H5 e5 => hq y m d hl p H5 np ((x3.trans e4).trans e5) ((e4.trans e5) _ _ h3)
    · have hl : dateOf z = none := by unfold dateOf; rw [hp]; exact if_neg hne
      refine ⟨true, T.es_InvalidDate, (fun z => nomatch z), fun _ a oe vs na hc hd hf hx => ?_⟩
      refine f_var rfl fun d2 nd2 => ⟨⟨oe, vs, ?_, hf, hx⟩, hn hl d2 _ (((x3.trans e4).trans (Ex.new na)).trans (Ex.new nd2)) upd_same⟩
      rw [upd_ne (fun z => by rw [← z, upd_same] at nd2; cases nd2)]
      exact upd_same

theorem err_text (T : Top K mg) : ErrOf T T.C_Unreadable false false false true := ⟨T.xc_Unreadable, T.is_Unreadable_InvalidDate, T.is_Unreadable_InvalidNumber, T.is_Unreadable_NothingToUndo, T.is_Unreadable_Unreadable, T.is_Unreadable_DateError, T.iv_Unreadable⟩
/-- what a line tells, or what is caught of it -/
def spTold41 : Sp := fun vs H Q _ => ∃ (z : Str) (b : Bool), vs = [.str z, .bl b] ∧ Asc z 20000 ∧ (dateOf z = none → ∀ (p : Addr) (H' : Hp), H p = none → Ex H H' → H' p = some (.lst [.str "Unreadable", .str z, .bl true]) → Q (.ref p) H') ∧ ∀ y m d, dateOf z = some (y, m, d) → ∀ (p : Addr) (H' : Hp), H p = none → Ex H H' → H' p = some (.tup [.int y, .int m, .int d]) → Q (.ref p) H'
theorem ok_law_told (T : Top K mg) : FnOk P w K mg base CX0 5 T.f_law_told T.fd_law_told ["line", "by_name"] spTold41 := by
  have G_read_date : FnOk P w K mg base (CY P w) 4 T.f_read_date T.fd_read_date ["text"] (spXreadd T.C_Unreadable) := okx_read_date T
  have G_law_errorT : FnT P w K mg base 1 T.f_law_error T.fd_law_error ["e"] (spErr T) := okt_law_error T
  refine T.F_law_told.ok sc_law_told (fun vs H Q E h => ?_) (fun cdv A outer s H vs Q E hr h => ?_)
  · obtain ⟨z, b, rfl, _⟩ := h; rfl
  · obtain ⟨z, b, rfl, ha, qn, qs⟩ := h
    refine ⟨_, (pss_one (ps_try_keptY (i := 2) rfl rfl rfl sc_law_told.nd rfl rfl ⟨by rfl, by decide, .inl T.gC_DateError⟩ takesY0 (fun W pn xe tk _ => (pss_one (ps_ret (pe_ifExp (pt_val (pv 1)) (pe_callN0S G_read_date (hr.mono (by first | decide | omega)) (by rfl) T.g_read_date T.F_read_date.kp (kb_read_date_text T.F_read_date) (fun σ => passY tk σ) (pk_cons (pv 0) pk_nil)) (pe_callS G_read_date (hr.mono (by first | decide | omega)) (by rfl) T.g_read_date T.F_read_date.kp T.b_read_date (fun σ => passY tk σ) (pa_cons (pv 0) pa_nil)))))) (fun a pn => (pss_one (ps_ret (pe_callT (E := fun _ _ _ => False) G_law_errorT rfl (roomT (hr.mono (by first | decide | omega))) (by rfl) T.g_law_error T.F_law_error.kp T.b_law_error (pa_cons (pv 2) pa_nil))))))), ?_⟩
    with_reducible refine f_ret ?_
    refine f_if (f_B (f_var rfl (f_bl ?_)))
    cases b
    case' false =>
      rw [if_neg (fun z => nomatch z)]
      refine f_cons (f_var rfl (f_nil ⟨z, rfl, ha, fun hl dd H1 e1 hdd => ?_, fun y m d hl p H1 np e1 h1 => qs y m d hl p H1 np e1 h1⟩))
    case' true =>
      rw [if_pos rfl]
      refine f_cons (f_var rfl (f_nil ⟨rfl, z, rfl, ha, fun hl dd H1 e1 hdd => ?_, fun y m d hl p H1 np e1 h1 => qs y m d hl p H1 np e1 h1⟩))
    all_goals
      refine ⟨true, T.ex_Unreadable, (fun z => nomatch z), fun _ a oe vs na zz hf => ?_⟩
      obtain ⟨X1, V1⟩ := caughtY na zz hf hdd
      have x2 : Ex H (upd H1 a (Pin a oe)) := e1.trans (Ex.new na)
      generalize upd H1 a (Pin a oe) = H2 at X1 V1 x2
      with_reducible refine f_ret ?_
      refine f_cons (f_var rfl (f_nil ⟨T.C_Unreadable, dd, .str z, false, false, false, true, rfl, X1, V1, err_text T, fun r H3 nr e3 h3 => ?_⟩))
      exact qn hl r H3 (fresh_back x2 nr) (x2.trans e3) h3

theorem pow61 : (2 : Int) ^ (61 : Int).toNat - 1 = 2305843009213693951 := by decide
theorem ok_law_source (T : Top K mg) : FnOk P w K mg base CX0 1 T.f_law_source T.fd_law_source ["script"] (spSource K) := by
  refine T.F_law_source.ok sc_law_source (fun vs H Q E h => ?_) (fun cdv A outer s H vs Q E hr h => ?_)
  · obtain ⟨a, ns, rfl, _⟩ := h; rfl
  · obtain ⟨a, ns, rfl, hS, hlen, q⟩ := h
    refine ⟨_, (pss_cons (ps_set (i := 1) sc_law_source.nd rfl (Or.inl rfl) pe_int)
      (pss_cons (ps_set (i := 2) sc_law_source.nd rfl (Or.inl rfl) (pe_lst pa_nil))
      (pss_cons (ps_for PassesOwn.never rfl (pi_list (pv 0)) (pg_name (i := 3) sc_law_source.nd rfl (Or.inl rfl)) (pss_cons (ps_set (i := 1) sc_law_source.nd rfl (Or.inl rfl) (pe_op op_mod (pe_op op_add (pe_op op_mulW (pv 1) pe_int) (pv 3)) (pe_op op_sub (pe_op op_pow pe_int pe_int) pe_int)))
      (pss_cons (ps_set (i := 4) sc_law_source.nd rfl (Or.inl rfl) (pe_callB (call_max2 rfl) (by rfl) T.z_max (by decide +kernel) (pa_cons (pv 3) (pa_cons (pe_op op_sub pe_int (pv 3)) pa_nil))))
      (pss_one (ps_if (pt_cmpR op_ge (pv 4) (pe_op op_pow pe_int pe_int) (nomark _)) (pss_one (ps_expr (pe_bm PySem.F.plainAttrs_list PySem.F.slot_list_append PySem.F.type_list_append mt_append (pv 2) (pa_cons (pe_op op_sub (pv 4) (pe_op op_pow pe_int pe_int)) pa_nil)))) pss_nil)))))
      (pss_one (ps_ret (pe_lst (pa_cons (pv 2) (pa_cons pe_int (pa_cons (pv 1) (pa_cons pe_int pa_nil)))))))))), ?_⟩
    refine f_seq (s_asg ev_c fun H1 e1 => ?_)
    refine f_seq (s_asgL (el_lst ea_nil (Nat.zero_le _)) fun dd H2 nd e2 hd => ?_)
    refine f_seq (s_forL (xs := ns.map V.int) (ev_var rfl) (ex_l (e1.trans e2) hS) (fun i σ H' => ∃ (m : Int) (ds : List Int) (v3 v4 : Option V), σ = [some (.ref a), some (.int m), some (.ref dd), v3, v4] ∧ Ex H H' ∧ H' dd = some (.lst (ds.map V.int)) ∧ ds.length ≤ i ∧ 0 ≤ m ∧ m < 2 ^ 61)
      (fun H3 e3 => ⟨271828182845904, [], none, none, rfl, (e1.trans e2).trans e3, e3 _ _ hd, Nat.le_refl _, by decide, by decide⟩) (fun i σ H' _ ⟨_, _, _, _, _, e, _⟩ => ex_l e hS) (fun i x σ H' hx hp => ?_) fun σ H' hp => ?_)
    · obtain ⟨m, ds, v3, v4, rfl, e, hD, hl, m0, m1⟩ := hp
      obtain ⟨cell, rfl⟩ : ∃ cell, x = V.int cell := by
        rw [List.getElem?_map] at hx
        cases h : ns[i]? with
        | none => rw [h] at hx; cases hx
        | some z => rw [h] at hx; exact ⟨z, (Option.some.inj hx).symm⟩
      have hi : i < 63 := by
        have z := (List.getElem?_eq_some_iff.mp hx).1
        rw [List.length_map] at z; omega
      have hne : H dd = none := fresh_back e1 nd
      refine f_gName (f_seq (s_asg (ev_op (ev_op (ev_op (ev_var rfl) ev_c (rv_I (wide_mul (a := 61) (b := 20) (by omega) (by decide) (by decide) (by decide) (by decide)))) (ev_var rfl) rv_I0) (ev_op (ev_op ev_c ev_c (rv_I (by unfold CPow; decide))) ev_c rv_I0) (rv_I (by decide))) fun H4 e4 => ?_))
      refine f_seq (s_asg (ev_max2 (ev_var rfl) (ev_op ev_c (ev_var rfl) rv_I0)) fun H5 e5 => ?_)
      have m2 : 0 ≤ (m * 1000033 + cell) % (2 ^ (61 : Int).toNat - 1) := by rw [pow61]; omega
      have m3 : (m * 1000033 + cell) % (2 ^ (61 : Int).toNat - 1) < 2 ^ 61 := by rw [pow61]; omega
      refine s_if (et_test (ev_op (ev_var rfl) (ev_op ev_c ev_c (rv_I (by unfold CPow; decide))) rv_I0)) (fun _ H6 e6 => ?_) (fun _ H6 e6 => ?_)
      · refine s_app (((e4.trans e5).trans e6) _ _ hD) (ev_var rfl) (ev_op (ev_var rfl) (ev_op ev_c ev_c (rv_I (by unfold CPow; decide))) rv_I0) (by rw [List.length_map]; omega) fun H7 e7 => ?_
        refine ⟨_, ds ++ [(if 0 - cell > cell then 0 - cell else cell) - 10 ^ (18 : Int).toNat], _, _, rfl, ?_, ?_, ?_, m2, m3⟩
        · exact ((((e.trans e4).trans e5).trans e6).trans e7).mut hne
        · rw [upd_same, List.map_append]; rfl
        · rw [List.length_append, List.length_singleton]; omega
      · exact ⟨_, ds, _, _, rfl, ((e.trans e4).trans e5).trans e6, ((e4.trans e5).trans e6) _ _ hD, by omega, m2, m3⟩
    · obtain ⟨m, ds, v3, v4, rfl, e, hD, hl, m0, m1⟩ := hp
      refine s_retL (el_lst (ea_cons (ev_var rfl) (ea_cons ev_c (ea_cons (ev_var rfl) (ea_cons ev_c ea_nil)))) (by show 4 ≤ 100000; decide)) fun p H4 hp e4 h4 => ?_
      refine q p dd _ (fresh_back e hp) (fresh_back e1 nd) ⟨ds, 0, m, 0, h4, e4 _ _ hD, by rw [List.length_map] at hl; omega, m0, m1, by decide, by decide⟩ (e.trans e4)

theorem sq_upd {K : PySem.W.Frag} {H : Hp} {a : Addr} {xs : List V} : SqL K (upd H a (.lst xs)) a xs := Or.inl (Or.inl upd_same)
theorem src_set {H : Hp} {s d : Addr} {o u : HO} (h : s ≠ d) (hs : H s = some o) (hd : H d = some u) : True := trivial
theorem ok_law_draw (T : Top K mg) : FnOk P w K mg base CX0 1 T.f_law_draw T.fd_law_draw ["source", "many"] spDraw := by
  refine T.F_law_draw.ok sc_law_draw (fun vs H Q E h => ?_) (fun cdv A outer s H vs Q E hr h => ?_)
  · obtain ⟨s, d, many, B, rfl, _⟩ := h; rfl
  · obtain ⟨s, d, many, B, rfl, h0, hbig, S, q⟩ := h
    have hsd : s ≠ d := S.ne
    obtain ⟨ds, a, m, c, hs, hd, hl, m0, m1, c0, c1⟩ := S.ex
    refine ⟨_, (pss_cons (ps_while PassesOwn.never (PW.pt (pw_and (pt_cmpR op_lt (pe_ix (r := rIxL K) ix_list (pv 0) pe_int (fun _ _ => rfl)) pe_int (nomark _)) (pw_and1 (pt_cmpR (r := rNeD K) (op_neD hr.units) (pe_ix (r := rIxL K) ix_list (pv 0) pe_int (fun _ _ => rfl)) (pe_lst pa_nil) (nomark _))))) (pss_one (ps_asg (pe_bm PySem.F.plainAttrs_list PySem.F.slot_list_pop PySem.F.type_list_pop mt_popAt (pe_ix (r := rIxL K) ix_list (pv 0) pe_int (fun _ _ => rfl)) (pa_cons pe_int pa_nil)) (pg_sub (pv 0) pe_int set_list))))
      (pss_cons (ps_if (pt_cmpR op_ge (pe_ix (r := rIxL K) ix_list (pv 0) pe_int (fun _ _ => rfl)) pe_int (nomark _)) (pss_cons (ps_set (i := 2) sc_law_draw.nd rfl (Or.inl rfl) (pe_op op_mod (pe_ix (r := rIxL K) ix_list (pv 0) pe_int (fun _ _ => rfl)) (pv 1)))
      (pss_cons (ps_asg (pe_op op_fdivW (pe_ix (r := rIxL K) ix_list (pv 0) pe_int (fun _ _ => rfl)) (pv 1)) (pg_sub (pv 0) pe_int set_list))
      (pss_one (ps_ret (pv 2))))) pss_nil)
      (pss_cons (ps_asg (pe_op op_add (pe_ix (r := rIxL K) ix_list (pv 0) pe_int (fun _ _ => rfl)) pe_int) (pg_sub (pv 0) pe_int set_list))
      (pss_cons (ps_set (i := 3) sc_law_draw.nd rfl (Or.inl rfl) (pe_op op_mul (pe_op op_add (pe_ix (r := rIxL K) ix_list (pv 0) pe_int (fun _ _ => rfl)) pe_int) (pe_op op_pow (pe_op op_add (pe_ix (r := rIxL K) ix_list (pv 0) pe_int (fun _ _ => rfl)) pe_int) pe_int)))
      (pss_cons (ps_set (i := 3) sc_law_draw.nd rfl (Or.inl rfl) (pe_op op_mod (pe_op op_add (pv 3) (pe_op op_mulW pe_int (pe_ix (r := rIxL K) ix_list (pv 0) pe_int (fun _ _ => rfl)))) (pe_op op_sub (pe_op op_pow pe_int pe_int) pe_int)))
      (pss_one (ps_ret (pe_op op_mod (pe_op op_fdivW (pe_op op_mod (pe_op op_pow (pv 3) pe_int) (pe_op op_add (pe_op op_pow pe_int pe_int) pe_int)) pe_int) (pv 1))))))))), ?_⟩
    have KL {H' : Hp} {a : Int} (hs : H' s = some (.lst [.ref d, .int a, .int m, .int c])) : SqL K H' s [.ref d, .int a, .int m, .int c] := sq_of hs
    refine f_seq (s_while (fun n σ H' => ∃ (ds : List Int) (a : Int), n = ds.length ∧ σ = [some (.ref s), some (.int many), none, none] ∧ H' s = some (.lst [.ref d, .int a, .int m, .int c]) ∧ H' d = some (.lst (ds.map V.int)) ∧ ds.length ≤ 63 ∧ Kp s d H H')
      ds.length ⟨ds, a, rfl, rfl, hs, hd, hl, .refl⟩ fun n σ H' hw => ?_)
    obtain ⟨ds, a, rfl, rfl, hs, hd, hl, kp⟩ := hw
    refine ⟨_, et_and (et_test (ev_op (ev_op (ev_var rfl) ev_c (rv_ixL (KL hs) (atI_nat (j := 1) rfl))) ev_c rv_I0)) fun _ => et_test (ev_neL (ys := []) (ev_op (ev_var rfl) ev_c (rv_ixL (KL hs) (atI_nat (j := 0) rfl))) (sq_of hd) (el_lst ea_nil (Nat.zero_le _))), fun hb H1 e1 => ?_, fun hb H1 e1 => ?_⟩
    · simp at hb
      obtain ⟨x, r, rfl⟩ : ∃ x r, ds = x :: r := by
        cases ds with
        | nil => exact absurd rfl hb.2
        | cons x r => exact ⟨x, r, rfl⟩
      refine ⟨fun σ2 H2 => ∃ a', σ2 = [some (.ref s), some (.int many), none, none] ∧ H2 s = some (.lst [.ref d, .int a', .int m, .int c]) ∧ H2 d = some (.lst (r.map V.int)) ∧ Kp s d H H2, fun σ2 H2 ⟨a', h1, h2, h3, h4⟩ => ⟨r.length, by simp, r, a', rfl, h1, h2, h3, by simp at hl; omega, h4⟩, ?_⟩
      have hd1 := e1 _ _ hd
      have hs1 := e1 _ _ hs
      refine ⟨.ref s, rfl, s, _, 0, .ref d, rfl, rfl, sq_of hs1, atI_nat (j := 0) rfl, .inl ⟨rfl, _, sq_of hd1⟩, d, _, 0, 0, .int x, rfl, rfl, hd1, by decide, by decide, (by unfold seqIndex?; simp), rfl, ?_⟩
      refine ⟨.ref s, rfl, s, _, 1, 1, rfl, rfl, (by rw [upd_ne hsd]; exact hs1), rfl, ?_⟩
      refine ⟨x, rfl, upd_same, by rw [upd_ne hsd.symm, upd_same]; rfl, fun b o h1 h2 h => ?_⟩
      rw [upd_ne h1, upd_ne h2]
      exact e1 _ _ (kp b o h1 h2 h)
    · have hs1 := e1 _ _ hs
      have hd1 := e1 _ _ hd
      have kp1 : Kp s d H H1 := kp.l e1
      refine f_seq (s_if (et_test (ev_op (ev_op (ev_var rfl) ev_c (rv_ixL (KL hs1) (atI_nat (j := 1) rfl))) ev_c rv_I0)) (fun hb H2 e2 => ?_) fun hb H2 e2 => ?_)
      · have hs2 := e2 _ _ hs1
        refine f_seq (s_asg (ev_op (ev_op (ev_var rfl) ev_c (rv_ixL (KL hs2) (atI_nat (j := 1) rfl))) (ev_var rfl) (rv_mod h0)) fun H3 e3 => ?_)
        have hs3 := e3 _ _ hs2
        refine f_seq (s_setL (j := 1) hs3 (ev_op (ev_op (ev_var rfl) ev_c (rv_ixL (KL hs3) (atI_nat (j := 1) rfl))) (ev_var rfl) (rv_I (wide_div (b := 200) h0 (by omega) (by decide) (by decide)))) (ev_var rfl) ev_c (by show 1 < 4; decide) fun H4 e4 => ?_)
        refine s_ret (ev_var rfl) fun H5 e5 => ?_
        refine q _ _ (Int.emod_nonneg _ (by omega)) (Int.emod_lt_of_pos _ h0) (Src.ex_ ⟨ds, a / many, m, c, upd_same, by rw [upd_ne hsd.symm]; exact (((e2.trans e3).trans e4) _ _ hd1), hl, m0, m1, c0, by omega⟩ e5) fun b o h1 h2 h => e5 _ _ ?_
        rw [upd_ne h1]
        exact ((e2.trans e3).trans e4) _ _ (kp1 b o h1 h2 h)
      · have hs2 := e2 _ _ hs1
        refine f_seq (s_setL (j := 3) hs2 (ev_op (ev_op (ev_var rfl) ev_c (rv_ixL (KL hs2) (atI_nat (j := 3) rfl))) ev_c rv_I0) (ev_var rfl) ev_c (by show 3 < 4; decide) fun H3 e3 => ?_)
        have hs3 : (upd H3 s (.lst [.ref d, .int a, .int m, .int (c + 1)])) s = some (.lst [.ref d, .int a, .int m, .int (c + 1)]) := upd_same
        have K3 : SqL K (upd H3 s (.lst [.ref d, .int a, .int m, .int (c + 1)])) s [.ref d, .int a, .int m, .int (c + 1)] := sq_of hs3
        show tSeq _ _ _ _ (upd H3 s (.lst [.ref d, .int a, .int m, .int (c + 1)]))
        refine f_seq (s_asg (ev_op (ev_op (ev_op (ev_var rfl) ev_c (rv_ixL K3 (atI_nat (j := 2) rfl))) ev_c rv_I0) (ev_op (ev_op (ev_op (ev_var rfl) ev_c (rv_ixL K3 (atI_nat (j := 3) rfl))) ev_c rv_I0) ev_c (rv_I (by unfold CPow; omega))) (rv_I (by unfold CMul; omega))) fun H4 e4 => ?_)
        refine f_seq (s_asg (ev_op (ev_op (ev_var rfl) (ev_op ev_c (ev_op (ev_var rfl) ev_c (rv_ixL (ex_l e4 K3) (atI_nat (j := 3) rfl))) (rv_I (wide_mul (a := 21) (b := 61) (by decide) (by omega) (by decide) (by decide) (by decide)))) rv_I0) (ev_op (ev_op ev_c ev_c (rv_I (by unfold CPow; decide))) ev_c rv_I0) (rv_I (by decide))) fun H5 e5 => ?_)
        generalize hx : ((m + 7) * (c + 1 + 3) ^ (3 : Int).toNat + 1000081 * (c + 1)) % (2 ^ (61 : Int).toNat - 1) = x
        have x0 : 0 ≤ x := by rw [← hx, pow61]; omega
        have x1 : x < 2 ^ 61 := by rw [← hx, pow61]; omega
        refine s_ret (ev_op (ev_op (ev_op (ev_op (ev_var rfl) ev_c (rv_I (by unfold CPow; omega))) (ev_op (ev_op ev_c ev_c (rv_I (by unfold CPow; decide))) ev_c rv_I0) (rv_I (by decide))) ev_c (rv_I (by unfold CDivW; decide))) (ev_var rfl) (rv_mod h0)) fun H6 e6 => ?_
        refine q _ _ (Int.emod_nonneg _ (by omega)) (Int.emod_lt_of_pos _ h0) (Src.ex_ ⟨ds, a, m, c + 1, hs3, by rw [upd_ne hsd.symm]; exact ((e2.trans e3) _ _ hd1), hl, m0, m1, by omega, by omega⟩ ((e4.trans e5).trans e6)) fun b o h1 h2 h => ((e4.trans e5).trans e6) _ _ ?_
        rw [upd_ne h1]
        exact (e2.trans e3) _ _ (kp1 b o h1 h2 h)

theorem ok_law_count (T : Top K mg) : FnOk P w K mg base CX0 2 T.f_law_count T.fd_law_count ["source"] spCount := by
  have G_law_draw : FnOk P w K mg base CX0 1 T.f_law_draw T.fd_law_draw ["source", "many"] spDraw := ok_law_draw T
  refine T.F_law_count.ok sc_law_count (fun vs H Q E h => ?_) (fun cdv A outer st H vs Q E hr h => ?_)
  · obtain ⟨s, d, B, rfl, _⟩ := h; rfl
  · obtain ⟨s, d, B, rfl, S, q⟩ := h
    refine ⟨_, (pss_cons (ps_set (i := 1) sc_law_count.nd rfl (Or.inl rfl) (pe_lst (pa_cons (pe_op op_sub (pe_call G_law_draw (hr.mono (by first | decide | omega)) (by rfl) T.g_law_draw T.F_law_draw.kp T.b_law_draw .nil pass0 (pa_cons (pv 0) (pa_cons pe_int pa_nil))) pe_int) (pa_cons (pe_op op_sub (pe_op op_mulW pe_int (pe_call G_law_draw (hr.mono (by first | decide | omega)) (by rfl) T.g_law_draw T.F_law_draw.kp T.b_law_draw .nil pass0 (pa_cons (pv 0) (pa_cons pe_int pa_nil)))) pe_int) (pa_cons (pe_op op_add pe_int (pe_call G_law_draw (hr.mono (by first | decide | omega)) (by rfl) T.g_law_draw T.F_law_draw.kp T.b_law_draw .nil pass0 (pa_cons (pv 0) (pa_cons pe_int pa_nil)))) pa_nil)))))
      (pss_cons (ps_set (i := 1) sc_law_count.nd rfl (Or.inl rfl) (pe_op op_cat (pv 1) (pe_lst (pa_cons (pe_op op_sub (pe_op op_add (pe_op op_mulW pe_int (pe_op op_sub (pe_call G_law_draw (hr.mono (by first | decide | omega)) (by rfl) T.g_law_draw T.F_law_draw.kp T.b_law_draw .nil pass0 (pa_cons (pv 0) (pa_cons pe_int pa_nil))) pe_int)) (pe_call G_law_draw (hr.mono (by first | decide | omega)) (by rfl) T.g_law_draw T.F_law_draw.kp T.b_law_draw .nil pass0 (pa_cons (pv 0) (pa_cons pe_int pa_nil)))) pe_int) pa_nil))))
      (pss_cons (ps_set (i := 2) sc_law_count.nd rfl (Or.inl rfl) (pe_op op_sub (pe_op op_sub (pe_op op_pow pe_int pe_int) pe_int) (pe_call G_law_draw (hr.mono (by first | decide | omega)) (by rfl) T.g_law_draw T.F_law_draw.kp T.b_law_draw .nil pass0 (pa_cons (pv 0) (pa_cons pe_int pa_nil)))))
      (pss_one (ps_ret (pe_ix (r := rIxL K) ix_list (pe_op op_cat (pv 1) (pe_lst (pa_cons (pv 2) (pa_cons (pe_op op_sub pe_int (pv 2)) pa_nil)))) (pe_call G_law_draw (hr.mono (by first | decide | omega)) (by rfl) T.g_law_draw T.F_law_draw.kp T.b_law_draw .nil pass0 (pa_cons (pv 0) (pa_cons pe_int pa_nil))) (fun _ _ => rfl))))))), ?_⟩
    walk_at "fw"
    refine f_draw S (by decide) (by decide) fun n1 H1 a1 b1 S1 k1 => ?_
    walk_at "fw"
    refine f_draw S1 (by decide) (by decide) fun n2 H2 a2 b2 S2 k2 => ?_
    walk_at "fw"
    refine f_draw S2 (by decide) (by decide) fun n3 H3 a3 b3 S3 k3 => ?_
    walk_at "fw"
    refine ⟨sz1000 (by simp), fun p hp => ?_⟩
    have fp := S3.free hp
    have e3 := Ex.new (o := .lst [.int (n1 - 20), .int (4 * n2 - 4000), .int (2000 + n3)]) hp
    have k3' : Kp s d H _ := ((k1.trans k2).trans k3).l e3
    walk_at "fw"
    refine f_draw (S3.ex_ e3) (by decide) (by decide) fun n4 H4 a4 b4 S4 k4 => ?_
    have hp4 := k4.at fp upd_same
    walk_at "fw"
    refine f_draw S4 (by decide) (by decide) fun n5 H5 a5 b5 S5 k5 => ?_
    have hp5 := k5.at fp hp4
    walk_at "fw"
    refine ⟨sz1000 (by simp), fun p2 hp2 => ?_⟩
    have e5 := Ex.new (o := .lst [.int (100 * (n4 - 30) + n5 - 4)]) hp2
    refine ⟨p, p2, _, _, rfl, rfl, e5 _ _ hp5, upd_same, sz1000 (by simp), fun p3 hp3 => ?_⟩
    have S6 := S5.ex_ e5
    have f3 := S6.free hp3
    have e6 := Ex.new (o := .lst ([.int (n1 - 20), .int (4 * n2 - 4000), .int (2000 + n3)] ++ [.int (100 * (n4 - 30) + n5 - 4)])) hp3
    walk_at "fw"
    refine f_draw (S6.ex_ e6) (by decide) (by decide) fun n7 H7 a7 b7 S7 k7 => ?_
    have hp7 := k7.at f3 upd_same
    walk_at "fw"
    refine ⟨sz1000 (by simp), fun p4 hp4 => ?_⟩
    have e7 := Ex.new (o := .lst [.int (10 ^ (30 : Int).toNat - 400 - n7), .int (0 - (10 ^ (30 : Int).toNat - 400 - n7))]) hp4
    refine ⟨p3, p4, _, _, rfl, rfl, e7 _ _ hp7, upd_same, sz1000 (by simp), fun p5 hp5 => ?_⟩
    have S8 := S7.ex_ e7
    have f5 := S8.free hp5
    have e8 := Ex.new (o := .lst ([.int (n1 - 20), .int (4 * n2 - 4000), .int (2000 + n3)] ++ [.int (100 * (n4 - 30) + n5 - 4)] ++ [.int (10 ^ (30 : Int).toNat - 400 - n7), .int (0 - (10 ^ (30 : Int).toNat - 400 - n7))])) hp5
    walk_at "fw"
    refine f_draw (S8.ex_ e8) (by decide) (by decide) fun n9 H9 a9 b9 S9 k9 => ?_
    have hp9 := k9.at f5 upd_same
    obtain ⟨z, hz, hat⟩ := at_ints (L := [n1 - 20, 4 * n2 - 4000, 2000 + n3, 100 * (n4 - 30) + n5 - 4, 10 ^ (30 : Int).toNat - 400 - n7, 0 - (10 ^ (30 : Int).toNat - 400 - n7)]) a9 b9
    refine ⟨p5, _, n9, _, rfl, rfl, sq_of hp9, hat, q z H9 ?_ S9 ?_⟩
    · simp at hz
      omega
    · exact (((((k3'.trans k4).trans k5).l e5).l e6).trans (k7.l e7)).trans ((Kp.of e8).trans k9)

/-! the law reads a date -/
theorem minus_one : ("-" : Str) = oneS 45 := TL.ext_tl (by decide +kernel)
theorem lawN_eq {sg : List Nat} {c : Nat} {r : List Nat} (h0 : (c :: r) ≠ [48]) : lawN sg (c :: r) = if posL (plainOf sg (c :: r)) = true then some (if (c :: r).head? = some 45 then -((NumText.digitsVal (plainOf sg (c :: r)) : Nat) : Int) else ((NumText.digitsVal (plainOf sg (c :: r)) : Nat) : Int)) else none := by
  unfold lawN
  generalize plainOf sg (c :: r) = p
  have g : ((decide (1 ≤ p.length) && decide (p.length ≤ 60) && p.all digB) = false ∨ p.head? = some 48) ↔ posL p = false := by
    rw [posL_is]
    cases (decide (1 ≤ p.length) && decide (p.length ≤ 60) && p.all digB)
    · simp
    · simp
  cases hp : posL p with
  | true =>
    have n := (not_congr g).mpr (by rw [hp]; simp)
    rw [if_neg (fun z => n (.inl z)), if_neg (fun z => n (.inr z.1)), if_pos rfl]
  | false =>
    refine Eq.trans ?_ (if_neg (fun z => nomatch z)).symm
    by_cases z2 : (decide (1 ≤ p.length) && decide (p.length ≤ 60) && p.all digB) = false
    · rw [if_pos z2]
    · rw [if_neg z2, if_pos ⟨(g.mpr hp).resolve_left z2, h0⟩]
theorem posL_pos {l : List Nat} (h : posL l = true) : 0 < NumText.digitsVal l := by
  rw [posL_is] at h
  simp only [Bool.and_eq_true, decide_eq_true_eq, List.all_eq_true] at h
  obtain ⟨⟨⟨a, _⟩, b⟩, d⟩ := h
  cases l with
  | nil => simp at a
  | cons x l => exact digits_pos rfl (b x (List.mem_cons_self ..)) (fun z => by rw [z] at d; simp at d)
theorem num_neg (w : List Nat) : lawN [45] w = readL w [] := by
  by_cases h0 : w = [48]
  · subst h0; decide +kernel
  cases w with
  | nil => decide +kernel
  | cons c r =>
    rw [lawN_eq h0, plain_cons]
    by_cases h45 : c = 45
    · subst h45
      rw [read_neg, if_pos (show (45 : Nat) ∈ [45] by simp), if_pos (show (45 :: r).head? = some 45 from rfl)]
    · rw [read_plain h0 (fun z => h45 (by simpa using z)), if_neg (show ¬ c ∈ [45] by simp [h45]), if_neg (show ¬ (c :: r).head? = some 45 from fun z => h45 (by simpa using z))]
theorem num_plain (w : List Nat) : lawN [] w = (readL w []).bind fun n => if n < 0 then none else some n := by
  by_cases h0 : w = [48]
  · subst h0; decide +kernel
  cases w with
  | nil => decide +kernel
  | cons c r =>
    rw [lawN_eq h0, plain_cons, if_neg (show ¬ c ∈ ([] : List Nat) by simp)]
    by_cases h45 : c = 45
    · subst h45
      have np : posL (45 :: r) = false := by
        rw [posL_is]
        have : (45 :: r).all digB = false := by rw [List.all_cons]; rfl
        rw [this]; simp
      rw [np, read_neg]
      cases hp : posL r with
      | true =>
        have := posL_pos hp
        rw [if_pos rfl]
        refine Eq.trans (if_neg (fun z => nomatch z)) ?_
        show none = if -((NumText.digitsVal r : Nat) : Int) < 0 then none else _
        rw [if_pos (by omega)]
      | false => rfl
    · rw [read_plain h0 (fun z => h45 (by simpa using z)), if_neg (show ¬ (c :: r).head? = some 45 from fun z => h45 (by simpa using z))]
      cases hp : posL (c :: r) with
      | true =>
        rw [if_pos rfl]
        exact (if_neg (α := Option Int) (t := none) (show ¬ ((NumText.digitsVal (c :: r) : Nat) : Int) < 0 by omega)).symm
      | false => rfl
def spDin : Sp := fun vs H Q _ => ∃ z : Str, vs = [.str z] ∧ Asc z 20000 ∧ (dateOf z = none → ∀ H', Ex H H' → Q .non H') ∧ ∀ y m d, dateOf z = some (y, m, d) → ∀ (p : Addr) (H' : Hp), H p = none → Ex H H' → H' p = some (.tup [.int y, .int m, .int d]) → Q (.ref p) H'

theorem dig_bound : ∀ (l : List Nat) (a : Nat), NumText.AllDigits l → l.foldl (fun acc c => acc * 10 + (c - 48)) a < (a + 1) * 10 ^ l.length
  | [], a, _ => by simp
  | c :: r, a, h => by
    have h1 := h c (List.mem_cons_self ..)
    have ih := dig_bound r (a * 10 + (c - 48)) fun x hx => h x (List.mem_cons_of_mem _ hx)
    rw [List.foldl_cons, List.length_cons, Nat.pow_succ]
    refine Nat.lt_of_lt_of_le ih ?_
    have : (a * 10 + (c - 48) + 1) * 10 ^ r.length ≤ ((a + 1) * 10) * 10 ^ r.length := Nat.mul_le_mul_right _ (by omega)
    refine Nat.le_trans this (Nat.le_of_eq ?_)
    rw [Nat.mul_assoc, Nat.mul_comm 10]
theorem posL_small {l : List Nat} (h : posL l = true) : NumText.digitsVal l < 10 ^ 60 := by
  obtain ⟨a, _, c⟩ := posL_digits h
  have b := dig_bound l 0 a
  rw [Nat.zero_add, Nat.one_mul] at b
  exact Nat.lt_of_lt_of_le b (Nat.pow_le_pow_right (by decide) c)
theorem read_small {w : List Nat} {y : Int} (h : readL w [] = some y) : y.natAbs < 10 ^ 60 := by
  unfold readL at h
  split at h
  · cases Option.some.inj h; decide
  · split at h
    · split at h
      · next hp =>
        have := posL_small hp
        cases Option.some.inj h
        rw [Int.natAbs_neg]; exact this
      · cases h
    · split at h
      · split at h
        · next hp => cases Option.some.inj h; exact posL_small hp
        · cases h
      · next hn => exact absurd rfl hn
theorem ok_law_date_in (T : Top K mg) : FnOk P w K mg base CX0 3 T.f_law_date_in T.fd_law_date_in ["line"] spDin := by
  have G_law_number : FnOk P w K mg base CX0 1 T.f_law_number T.fd_law_number ["word", "signs"] (spH (D_lawN K)) := ok_law_number T
  have G_law_length : FnOk P w K mg base CX0 2 T.f_law_length T.fd_law_length ["number"] (spF D_mlen) := ok_law_length T
  refine T.F_law_date_in.ok sc_law_date_in (fun vs H Q E h => ?_) (fun cdv A outer s H vs Q E hr h => ?_)
  · obtain ⟨z, rfl, _⟩ := h; rfl
  · obtain ⟨z, rfl, ha, qn, qs⟩ := h
    refine ⟨_, (pss_cons (ps_set (i := 1) sc_law_date_in.nd rfl (Or.inl rfl) (pe_split (pv 0) pe_str))
      (pss_cons (ps_if (pt_cmpR op_ne (pe_callB (r := rLenS K) call_len_seq (by rfl) T.z_len PySem.boot_len (pa_cons (pv 1) pa_nil)) pe_int (nomark _)) (pss_one (ps_ret pe_non)) pss_nil)
      (pss_cons (ps_set (i := 2) sc_law_date_in.nd rfl (Or.inl rfl) (pe_tup (pa_cons (pe_call G_law_number (hr.mono (by first | decide | omega)) (by rfl) T.g_law_number T.F_law_number.kp T.b_law_number .nil pass0 (pa_cons (pe_ix (r := rIxL K) ix_list (pv 1) pe_int (fun _ _ => rfl)) (pa_cons (pe_lst (pa_cons pe_str pa_nil)) pa_nil))) (pa_cons (pe_call G_law_number (hr.mono (by first | decide | omega)) (by rfl) T.g_law_number T.F_law_number.kp T.b_law_number .nil pass0 (pa_cons (pe_ix (r := rIxL K) ix_list (pv 1) pe_int (fun _ _ => rfl)) (pa_cons (pe_lst pa_nil) pa_nil))) (pa_cons (pe_call G_law_number (hr.mono (by first | decide | omega)) (by rfl) T.g_law_number T.F_law_number.kp T.b_law_number .nil pass0 (pa_cons (pe_ix (r := rIxL K) ix_list (pv 1) pe_int (fun _ _ => rfl)) (pa_cons (pe_lst pa_nil) pa_nil))) pa_nil)))))
      (pss_cons (ps_if (PW.pt (pw_or (pt_cmpR (r := rIn K false) op_in_seq pe_non (pv 2) (by rfl)) (pw_or1 (pt_not (pt_chain op_le op_le pe_int (pe_ix (r := rIxT K) ix_tup (pv 2) pe_int (fun _ _ => rfl)) pe_int))))) (pss_one (ps_ret pe_non)) pss_nil)
      (pss_one (ps_ret (pe_ifExp (pt_chain op_le op_le pe_int (pe_ix (r := rIxT K) ix_tup (pv 2) pe_int (fun _ _ => rfl)) (pe_call G_law_length (hr.mono (by first | decide | omega)) (by rfl) T.g_law_length T.F_law_length.kp T.b_law_length .nil pass0 (pa_cons (pe_op op_sub (pe_op op_add (pe_op op_mulW pe_int (pe_ix (r := rIxT K) ix_tup (pv 2) pe_int (fun _ _ => rfl))) (pe_ix (r := rIxT K) ix_tup (pv 2) pe_int (fun _ _ => rfl))) pe_int) pa_nil))) (pv 2) pe_non))))))), ?_⟩
    have sl : TL.tl ("/" : Str) = [47] := by decide +kernel
    obtain ⟨sn, sw⟩ := split_asc (s := "/") (by rw [sl]; simp) (by decide +kernel) ha
    have len : (partsOf z).length = (Txt.split z "/").length := by unfold partsOf; rw [List.length_map]
    with_reducible refine f_seq ?_
    refine s_asgL (el_split (ev_var rfl) ev_c rfl (Nat.le_trans ha.1 (by decide))) fun p H1 np e1 h1 => ?_
    with_reducible refine f_seq ?_
    refine s_if (et_test (ev_op (ev_lenS (ev_var rfl) (.inl (sq_of h1))) ev_c rv_neI)) (fun hb H2 e2 => ?_) fun hb H2 e2 => f_next ?_
    · have hl : dateOf z = none := by
        unfold dateOf
        split
        · next y m d e => rw [List.length_map] at hb; rw [← len, e] at hb; simp at hb
        · rfl
      exact s_ret ev_c fun H3 e3 => qn hl H3 ((e1.trans e2).trans e3)
    rw [List.length_map] at hb
    obtain ⟨a, b, c, hw⟩ : ∃ a b c, Txt.split z "/" = [a, b, c] := by
      have h3 : (Txt.split z "/").length = 3 := by simp at hb; omega
      match e : Txt.split z "/", h3 with
      | [a, b, c], _ => exact ⟨a, b, c, rfl⟩
    rw [hw] at h1 sw
    have h2 := e2 _ _ h1
    have nm {te tl : TE} {σ : L2.St} {U : Hp} {w : Str} {sg : List Nat} (h : Ev te σ U (.str w)) (hl : EvL tl σ U ((sg.map oneS).map V.str)) (hw : w ∈ [a, b, c]) : Ev (tCall (spH (D_lawN K)) [] E0 (tCons te (tCons tl tNil))) σ U (oV (lawN sg (TL.tl w))) := fun U1 x1 Q1 q1 =>
      f_call (f_cons (h U1 x1 _ fun U2 x2 => f_cons (hl U2 (x1.trans x2) _ fun r U3 nr x3 g3 => f_nil ⟨_, ⟨w, r, sg, rfl, sq_of g3, (sw w hw).1, (sw w hw).2, rfl⟩, fun U4 x4 => q1 U4 ((x2.trans x3).trans x4)⟩)))
    have wd {σ : L2.St} {U : Hp} {j : Nat} {w : Str} (x : Ex H2 U) (hσ : σ[1]? = some (some (.ref p))) (hj : ([a, b, c] : List Str)[j]? = some w) : Ev (tOp (rIxL K) (tVar 1) (tC (.int (j : Int)))) σ U (.str w) := ev_op (ev_var hσ) ev_c (rv_ixL (sq_of (x _ _ h2)) (atI_nat (j := j) (by rw [List.getElem?_map, hj]; rfl)))
    have hpo : partsOf z = [readL (TL.tl a) [], readL (TL.tl b) [], readL (TL.tl c) []] := by unfold partsOf; rw [hw]; rfl
    with_reducible refine f_seq ?_
    refine s_asgU (xs := [oV (lawN [45] (TL.tl a)), oV (lawN [] (TL.tl b)), oV (lawN [] (TL.tl c))]) (eu_tup (ea_cons (nm (sg := [45]) (wd (j := 0) (Ex.refl H2) rfl rfl) (EvL.is (el_lst (ea_cons ev_c ea_nil) (by show 1 ≤ 100000; decide)) (by rw [minus_one]; rfl)) (by simp)) (ea_cons (nm (sg := []) (wd (j := 1) (Ex.refl H2) rfl rfl) (el_lst ea_nil (Nat.zero_le _)) (by simp)) (ea_cons (nm (sg := []) (wd (j := 2) (Ex.refl H2) rfl rfl) (el_lst ea_nil (Nat.zero_le _)) (by simp)) ea_nil))) (by show 3 ≤ 100000; decide)) fun pf H3 npf e3 h3 => ?_
    have x3 := (e1.trans e2).trans e3
    rw [num_neg, num_plain, num_plain] at h3
    have flat : ∀ o1 o2 o3 : Option Int, ([oV o1, oV o2, oV o3] : List V).all flatV = true := fun o1 o2 o3 => by cases o1 <;> cases o2 <;> cases o3 <;> rfl
    generalize ea : readL (TL.tl a) [] = ra at h3 hpo
    generalize eb : readL (TL.tl b) [] = rb at h3 hpo
    generalize ec : readL (TL.tl c) [] = rc at h3 hpo
    generalize e2' : (rb.bind fun n => if n < 0 then none else some n) = o2 at h3
    generalize e3' : (rc.bind fun n => if n < 0 then none else some n) = o3 at h3
    have inE {σ : L2.St} {U : Hp} (x : Ex H3 U) (hσ : σ[2]? = some (some (.ref pf))) : Ev (tOp (rIn K false) (tC .non) (tVar 2)) σ U (.bl (inV .non [oV ra, oV o2, oV o3])) := ev_op ev_c (ev_var hσ) (rv_isT (st_of (x _ _ h3)) rfl (flat _ _ _))
    have inB : inV .non [oV ra, oV o2, oV o3] = [ra, o2, o3].any Option.isNone := inV_none [ra, o2, o3]
    have back : ∀ {r o : Option Int} {n : Int}, (r.bind fun n => if n < 0 then none else some n) = o → o = some n → r = some n ∧ 0 ≤ n := fun {r o n} h1 h2 => by
      subst h2
      cases r with
      | none => cases h1
      | some k =>
        have h1 : (if k < 0 then none else some k) = some n := h1
        split at h1
        · cases h1
        · next hk => cases Option.some.inj h1; exact ⟨rfl, by omega⟩
    by_cases hn : [ra, o2, o3].any Option.isNone = true
    · have hl : dateOf z = none := by
        unfold dateOf
        split
        · next y m d e =>
          rw [hpo] at e
          injection e with g1 e
          injection e with g2 e
          injection e with g3 e
          subst g1 g2 g3
          refine if_neg fun hE => ?_
          have hm : ¬ m < 0 := by have := hE.1; omega
          have hd : ¬ d < 0 := by have := hE.2.2.1; omega
          have q2 : o2 = some m := by rw [← e2']; show (if m < 0 then none else some m) = some m; rw [if_neg hm]
          have q3 : o3 = some d := by rw [← e3']; show (if d < 0 then none else some d) = some d; rw [if_neg hd]
          rw [q2, q3] at hn
          simp at hn
        · rfl
      with_reducible refine f_seq ?_
      refine s_if (b := true) (et_or (b := true) (a := true) (et_is (et_test (inE (Ex.refl H3) rfl)) (inB.trans hn)) fun hb => nomatch hb) (fun _ H4 e4 => ?_) fun hb => nomatch hb
      exact s_ret ev_c fun H5 e5 => qn hl H5 ((x3.trans e4).trans e5)
    · obtain ⟨y, hy⟩ : ∃ y, ra = some y := by cases ra with | none => exact absurd rfl hn | some y => exact ⟨y, rfl⟩
      obtain ⟨m, hm⟩ : ∃ m, o2 = some m := by cases o2 with | none => exact absurd (by simp) hn | some y => exact ⟨y, rfl⟩
      obtain ⟨d, hd⟩ : ∃ d, o3 = some d := by cases o3 with | none => exact absurd (by simp) hn | some y => exact ⟨y, rfl⟩
      obtain ⟨rbm, m0⟩ := back e2' hm
      obtain ⟨rcd, d0⟩ := back e3' hd
      have ys := read_small (ea.trans hy)
      rw [hy, rbm, rcd] at hpo
      have hdat : dateOf z = if Exists_ y m d then some (y, m, d) else none := by unfold dateOf; rw [hpo]
      rw [hy, hm, hd] at h3 inE inB
      have nf : inV .non [oV (some y), oV (some m), oV (some d)] = false := rfl
      have ix {σ : L2.St} {U : Hp} {j : Nat} {k : Int} (x : Ex H3 U) (hσ : σ[2]? = some (some (.ref pf))) (hj : ([.int y, .int m, .int d] : List V)[j]? = some (.int k)) : Ev (tOp (rIxT K) (tVar 2) (tC (.int (j : Int)))) σ U (.int k) := ev_op (ev_var hσ) ev_c (rv_ixT (st_of (x _ _ h3)) (atI_nat (j := j) hj))
      with_reducible refine f_seq ?_
      refine s_if (b := !(decide (1 ≤ m) && decide (m ≤ 12))) (et_is (et_or (a := false) (et_is (et_test (inE (Ex.refl H3) rfl)) nf) fun _ => et_not (et_test (ev_chain ev_c (ix (j := 1) (Ex.refl H3) rfl rfl) rv_I0 (fun _ => ev_c) fun _ => rv_I0))) rfl) (fun hb H4 e4 => ?_) fun hb H4 e4 => f_next ?_
      · have hl : dateOf z = none := by
          rw [hdat]
          refine if_neg fun hE => ?_
          rw [decide_eq_true hE.1, decide_eq_true hE.2.1] at hb
          exact nomatch hb
        exact s_ret ev_c fun H5 e5 => qn hl H5 ((x3.trans e4).trans e5)
      have hm12 : 1 ≤ m ∧ m ≤ 12 := by
        simp at hb
        exact hb
      have em : mlen (12 * y + m - 1) = dlen y m := by
        unfold mlen
        rw [show (12 * y + m - 1) / 12 = y by omega, show (12 * y + m - 1) % 12 + 1 = m by omega]
      with_reducible refine f_ret ?_
      refine f_if ((et_test (ev_chain ev_c (ix (j := 2) e4 rfl rfl) rv_I0 (fun _ => ev_call (ea_cons (ev_op (ev_op (ev_op ev_c (ix (j := 0) e4 rfl rfl) (rv_mul (by decide) (Nat.le_trans (Nat.le_of_lt ys) (by decide +kernel)))) (ix (j := 1) e4 rfl rfl) rv_I0) ev_c rv_I0) ea_nil) (sv_F ⟨_, rfl, rfl⟩)) fun _ => rv_I0)) H4 (Ex.refl H4) _ fun H5 e5 => ?_)
      rw [em]
      refine f_iteB (fun hb2 => ?_) fun hb2 => ?_
      · have hE : Exists_ y m d := by
          simp at hb2
          exact ⟨hm12.1, hm12.2, hb2.1, hb2.2⟩
        have hl : dateOf z = some (y, m, d) := by rw [hdat]; exact if_pos hE
        exact f_var rfl (qs y m d hl pf H5 (fresh_back (e1.trans e2) npf) ((x3.trans e4).trans e5) ((e4.trans e5) _ _ h3))
      · have hl : dateOf z = none := by
          rw [hdat]
          refine if_neg fun hE => ?_
          rw [decide_eq_true hE.2.2.1, decide_eq_true hE.2.2.2] at hb2
          exact nomatch hb2
        exact f_c (qn hl H5 ((x3.trans e4).trans e5))

/-! texts with signs changed -/
theorem asc_cut {z : Str} {n : Nat} (lo hi : Option Int) (h : Asc z n) : Asc (cutS z lo hi) n := by
  refine ⟨Nat.le_trans (cutS_length _ _ _) h.1, fun c hc => h.2 c ?_⟩
  have e : TL.tl (cutS z lo hi) = (z.cps.toList.drop (HT.sIx z.length 0 lo)).take (HT.sIx z.length z.length hi - HT.sIx z.length 0 lo) := rfl
  rw [e] at hc
  exact List.mem_of_mem_drop (List.mem_of_mem_take hc)
theorem asc_rev {z : Str} {n : Nat} (h : Asc z n) : Asc (revS z) n := by
  refine ⟨?_, fun c hc => h.2 c ?_⟩
  · have : (revS z).length = z.length := by
      show (z.cps.toList.reverse.toArray).size = z.cps.size
      rw [List.size_toArray, List.length_reverse, Array.length_toList]
    rw [this]; exact h.1
  · have e : TL.tl (revS z) = (TL.tl z).reverse := rfl
    rw [e] at hc
    exact List.mem_reverse.mp hc
theorem asc_app {a b : Str} {n m : Nat} (ha : Asc a n) (hb : Asc b m) : Asc (a ++ b) (n + m) := by
  refine ⟨?_, fun c hc => ?_⟩
  · rw [Str.length_append]; exact Nat.add_le_add ha.1 hb.1
  · rw [TL.tl_append] at hc
    exact (List.mem_append.mp hc).elim (ha.2 c) (hb.2 c)
theorem Asc.le {z : Str} {n m : Nat} (h : Asc z n) (hm : n ≤ m) : Asc z m := ⟨Nat.le_trans h.1 hm, h.2⟩
theorem asc_one {c : Nat} (h : c < 128) : Asc ⟨#[c]⟩ 1 := ⟨Nat.le_refl _, fun x hx => by
  have : x ∈ [c] := hx
  rw [List.mem_singleton.mp this]; exact h⟩
theorem len_upto {z : Str} {k : Nat} : (cutS z none (some (k : Int))).length ≤ k := by
  rw [TL.len_tl, tl_upto, List.length_take]; exact Nat.min_le_left _ _
theorem len_from {z : Str} {k : Nat} : (cutS z (some (k : Int)) none).length = z.length - k := by
  rw [TL.len_tl, tl_cut, List.length_drop, ← TL.len_tl]
def spBentS : Sp := fun vs H Q _ => ∃ (s d : Addr) (B : Nat) (z : Str) (n : Nat), vs = [.ref s, .str z] ∧ Asc z n ∧ n ≤ 4500 ∧ Src H s d (B + 10) ∧ ∀ y H', Asc y (4 * n + 6) → Src H' s d B → Kp s d H H' → Q (.str y) H'
def bd (n : Nat) : Nat → Nat
  | 0 => n
  | i + 1 => 2 * bd n i + 2
theorem at_strs {L : List Str} {n : Int} (h0 : 0 ≤ n) (h1 : n < L.length) : ∃ z, z ∈ L ∧ atI (L.map V.str) n = some (.str z) := by
  obtain ⟨j, rfl⟩ : ∃ j : Nat, n = (j : Int) := ⟨n.toNat, by omega⟩
  have hj : j < L.length := by omega
  exact ⟨L[j], List.getElem_mem hj, atI_nat (by rw [List.getElem?_map, List.getElem?_eq_getElem hj]; rfl)⟩
theorem signs_at {k : Int} (h0 : 0 ≤ k) (h1 : k < 23) : ∃ c : Nat, c < 128 ∧ atI ("0123456789+-/ none.x_,~" : Str).cps.toList k = some c := by
  have e : TL.tl ("0123456789+-/ none.x_,~" : Str) = [48, 49, 50, 51, 52, 53, 54, 55, 56, 57, 43, 45, 47, 32, 110, 111, 110, 101, 46, 120, 95, 44, 126] := by decide +kernel
  obtain ⟨j, rfl⟩ : ∃ j : Nat, k = (j : Int) := ⟨k.toNat, by omega⟩
  have hj : j < (TL.tl ("0123456789+-/ none.x_,~" : Str)).length := by rw [e]; show j < 23; omega
  refine ⟨(TL.tl ("0123456789+-/ none.x_,~" : Str))[j], ?_, atI_nat (List.getElem?_eq_getElem hj)⟩
  have hm : (TL.tl ("0123456789+-/ none.x_,~" : Str))[j] ∈ TL.tl ("0123456789+-/ none.x_,~" : Str) := List.getElem_mem hj
  have all : ∀ c, c ∈ TL.tl ("0123456789+-/ none.x_,~" : Str) → c < 128 := by rw [e]; decide
  exact all _ hm
theorem ok_law_bent (T : Top K mg) : FnOk P w K mg base CX0 2 T.f_law_bent T.fd_law_bent ["source", "line"] spBentS := by
  have G_law_draw : FnOk P w K mg base CX0 1 T.f_law_draw T.fd_law_draw ["source", "many"] spDraw := ok_law_draw T
  refine T.F_law_bent.ok sc_law_bent (fun vs H Q E h => ?_) (fun cdv A outer st H vs Q E hr h => ?_)
  · obtain ⟨s, d, B, z, n, rfl, _⟩ := h; rfl
  · obtain ⟨s, d, B, z, n, rfl, hz, hn, S, q⟩ := h
    refine ⟨_, (pss_cons (ps_for PassesOwn.never rfl (pi_range1 (by rfl) T.z_range (pa_cons (pe_op op_add pe_int (pe_call G_law_draw (hr.mono (by first | decide | omega)) (by rfl) T.g_law_draw T.F_law_draw.kp T.b_law_draw .nil pass0 (pa_cons (pv 0) (pa_cons pe_int pa_nil)))) pa_nil)) (pg_name (i := 2) sc_law_bent.nd rfl (Or.inl rfl)) (pss_cons (ps_set (i := 3) sc_law_bent.nd rfl (Or.inl rfl) (pe_call G_law_draw (hr.mono (by first | decide | omega)) (by rfl) T.g_law_draw T.F_law_draw.kp T.b_law_draw .nil pass0 (pa_cons (pv 0) (pa_cons (pe_op op_add (pe_callB call_len_str (by rfl) T.z_len PySem.boot_len (pa_cons (pv 1) pa_nil)) pe_int) pa_nil))))
      (pss_cons (ps_set (i := 4) sc_law_bent.nd rfl (Or.inl rfl) (pe_ix ix_str pe_str (pe_call G_law_draw (hr.mono (by first | decide | omega)) (by rfl) T.g_law_draw T.F_law_draw.kp T.b_law_draw .nil pass0 (pa_cons (pv 0) (pa_cons pe_int pa_nil))) (fun _ _ => rfl)))
      (pss_cons (ps_set (i := 5) sc_law_bent.nd rfl (Or.inl rfl) (pe_lst (pa_cons (pe_op op_add_str (pe_op op_add_str (pe_slice sl_str (pv 1) po_none (po_some (pv 3))) (pv 4)) (pe_slice sl_str (pv 1) (po_some (pv 3)) po_none)) (pa_cons (pe_op op_add_str (pe_slice sl_str (pv 1) po_none (po_some (pv 3))) (pe_slice sl_str (pv 1) (po_some (pe_op op_add (pv 3) pe_int)) po_none)) (pa_cons (pe_op op_add_str (pe_op op_add_str (pe_slice sl_str (pv 1) po_none (po_some (pv 3))) (pv 4)) (pe_slice sl_str (pv 1) (po_some (pe_op op_add (pv 3) pe_int)) po_none)) pa_nil)))))
      (pss_cons (ps_set (i := 5) sc_law_bent.nd rfl (Or.inl rfl) (pe_op op_cat (pv 5) (pe_lst (pa_cons (pe_op op_add_str (pe_slice sl_str (pv 1) po_none (po_some (pv 3))) (pe_slice sl_str (pv 1) (po_some (pe_callB (call_max2 rfl) (by rfl) T.z_max (by decide +kernel) (pa_cons pe_int (pa_cons (pe_op op_sub (pv 3) pe_int) pa_nil)))) po_none)) (pa_cons (pe_op op_add_str (pe_op op_add_str (pe_slice sl_str (pv 1) po_none (po_some (pv 3))) (pe_revS (pe_slice sl_str (pv 1) (po_some (pv 3)) (po_some (pe_op op_add (pv 3) pe_int))))) (pe_slice sl_str (pv 1) (po_some (pe_op op_add (pv 3) pe_int)) po_none)) pa_nil)))))
      (pss_one (ps_set (i := 1) sc_law_bent.nd rfl (Or.inl rfl) (pe_ix (r := rIxL K) ix_list (pv 5) (pe_call G_law_draw (hr.mono (by first | decide | omega)) (by rfl) T.g_law_draw T.F_law_draw.kp T.b_law_draw .nil pass0 (pa_cons (pv 0) (pa_cons pe_int pa_nil))) (fun _ _ => rfl)))))))))
      (pss_one (ps_ret (pv 1)))), ?_⟩
    with_reducible refine f_seq ?_
    refine f_forR1 ?_
    refine f_cons (f_op (f_c (f_call (f_cons (f_var rfl (f_cons (f_c (f_nil ?_)))))))) 
    refine f_draw (B := B + 9) S (by decide) (by decide) fun t H1 a1 b1 S1 k1 => f_I0 (f_nil ?_)
    refine ⟨1 + t, rfl, by omega, by omega, for_range (lo := 0) (n := (1 + t).toNat) (fun i τ U => ∃ (y : Str) (v2 v3 v4 v5 : Option V), τ = [some (.ref s), some (.str y), v2, v3, v4, v5] ∧ Asc y (bd n i) ∧ Src U s d (B + 9 - 3 * i) ∧ Kp s d H U) ⟨z, none, none, none, none, rfl, hz, S1, k1⟩ (fun i τ U hi hp => ?_) fun τ U hp => ?_⟩
    · obtain ⟨y, v2, v3, v4, v5, rfl, hy, S2, kk⟩ := hp
      have hi2 : i < 2 := by omega
      have S2 : Src U s d (B + 9 - 3 * (i + 1) + 3) := S2.less (by omega)
      have hN : bd n i ≤ 9002 := by
        have c : i = 0 ∨ i = 1 := by omega
        rcases c with rfl | rfl
        · show n ≤ 9002; omega
        · show 2 * n + 2 ≤ 9002; omega
      have hN2 : bd n (i + 1) = 2 * bd n i + 2 := rfl
      generalize bd n i = w at hy hN hN2
      generalize B + 9 - 3 * (i + 1) = b at S2
      with_reducible refine f_gName ?_
      with_reducible refine f_seq ?_
      with_reducible refine f_asg ?_
      refine f_call (f_cons (f_var rfl (f_cons (f_ev (ev_op (ev_lenT (ev_var rfl) (by have := hy.1; omega)) ev_c rv_I0) fun U1 x1 => f_nil ?_))))
      refine f_draw (B := b + 2) (S2.ex_ x1) (by omega) (by have := hy.1; omega) fun at_ U2 a2 b2 S3 k3 => ?_
      obtain ⟨k, rfl⟩ : ∃ k : Nat, at_ = (k : Int) := ⟨at_.toNat, by omega⟩
      with_reducible refine f_gName ?_
      with_reducible refine f_seq ?_
      with_reducible refine f_asg ?_
      refine f_op (f_c (f_call (f_cons (f_var rfl (f_cons (f_c (f_nil ?_)))))))
      refine f_draw (B := b + 1) S3 (by decide) (by decide) fun m U3 a3 b3 S4 k4 => ?_
      obtain ⟨c, hc, hat⟩ := signs_at a3 b3
      refine ⟨_, m, c, rfl, rfl, by decide +kernel, hat, ?_⟩
      with_reducible refine f_gName ?_
      have kk4 := ((kk.l x1).trans k3).trans k4
      -- the five texts
      have up (σ : L2.St) (U : Hp) (h1 : σ[1]? = some (some (.str y))) (h3 : σ[3]? = some (some (.int (k : Int)))) : Ev (tSl rSlS (tVar 1) tNoPart (tPart (tVar 3))) σ U (.str (cutS y none (some (k : Int)))) := ev_upto (ev_var h1) (ev_var h3) (by have := hy.1; omega)
      have fr0 (σ : L2.St) (U : Hp) (h1 : σ[1]? = some (some (.str y))) (h3 : σ[3]? = some (some (.int (k : Int)))) : Ev (tSl rSlS (tVar 1) (tPart (tVar 3)) tNoPart) σ U (.str (cutS y (some (k : Int)) none)) := ev_from (ev_var h1) (ev_var h3) (by have := hy.1; omega)
      have au : Asc (cutS y none (some (k : Int))) w := asc_cut _ _ hy
      have af (o : Int) : Asc (cutS y (some o) none) w := asc_cut _ _ hy
      have ac : Asc ⟨#[c]⟩ 1 := asc_one hc
      have cat {x1 x2 : Str} {n1 n2 : Nat} {σ : L2.St} {U : Hp} {ta tb : TE} (h1 : Ev ta σ U (.str x1)) (h2 : Ev tb σ U (.str x2)) (g1 : Asc x1 n1) (g2 : Asc x2 n2) (hb : n1 + n2 ≤ 1000000) : Ev (tOp rAddS ta tb) σ U (.str (x1 ++ x2)) := ev_addS h1 h2 (Nat.le_trans (Nat.add_le_add g1.1 g2.1) hb)
      with_reducible refine f_seq ?_
      refine s_asgL (xs := ([cutS y none (some (k : Int)) ++ ⟨#[c]⟩ ++ cutS y (some (k : Int)) none, cutS y none (some (k : Int)) ++ cutS y (some ((k : Int) + 1)) none, cutS y none (some (k : Int)) ++ ⟨#[c]⟩ ++ cutS y (some ((k : Int) + 1)) none] : List Str).map V.str) (el_lst (ea_cons (cat (cat (up _ _ rfl rfl) (ev_var rfl) au ac (by omega)) (fr0 _ _ rfl rfl) (asc_app au ac) (af _) (by omega)) (ea_cons (cat (up _ _ rfl rfl) (ev_from (ev_var rfl) (ev_op (ev_var rfl) ev_c rv_I0) (by have := hy.1; omega)) au (af _) (by omega)) (ea_cons (cat (cat (up _ _ rfl rfl) (ev_var rfl) au ac (by omega)) (ev_from (ev_var rfl) (ev_op (ev_var rfl) ev_c rv_I0) (by have := hy.1; omega)) (asc_app au ac) (af _) (by omega)) ea_nil))) (by show 3 ≤ 100000; decide)) fun p U4 np4 e4 h4 => ?_
      with_reducible refine f_seq ?_
      have mx {σ : L2.St} {U : Hp} (h3 : σ[3]? = some (some (.int (k : Int)))) : Ev (tCB (fun xs H Q => ∃ i j, xs = [.int i, .int j] ∧ Q (.int (if i < j then j else i)) H) (tCons (tC (.int 0)) (tCons (tOp (rI0 fun i j => .int (i - j)) (tVar 3) (tC (.int 1))) tNil))) σ U (.int (if (0 : Int) < (k : Int) - 1 then (k : Int) - 1 else 0)) := ev_cb (ea_cons ev_c (ea_cons (ev_op (ev_var h3) ev_c rv_I0) ea_nil)) fun H6 e6 Q' q' => ⟨_, _, rfl, q' H6 (Ex.refl H6)⟩
      have rv {σ : L2.St} {U : Hp} (h1 : σ[1]? = some (some (.str y))) (h3 : σ[3]? = some (some (.int (k : Int)))) : Ev (tRevS (tSl rSlS (tVar 1) (tPart (tVar 3)) (tPart (tOp (rI0 fun i j => .int (i + j)) (tVar 3) (tC (.int 2)))))) σ U (.str (revS (cutS y (some (k : Int)) (some ((k : Int) + 2))))) := ev_revS (ev_cut (ev_var h1) (ev_var h3) (ev_op (ev_var h3) ev_c rv_I0) (by have := hy.1; omega)) (by have := (asc_cut (some (k : Int)) (some ((k : Int) + 2)) hy).1; omega)
      have ar : Asc (revS (cutS y (some (k : Int)) (some ((k : Int) + 2)))) w := asc_rev (asc_cut _ _ hy)
      with_reducible refine f_asg ?_
      refine f_op (f_var rfl (f_evL (xs := ([cutS y none (some (k : Int)) ++ cutS y (some (if (0 : Int) < (k : Int) - 1 then (k : Int) - 1 else 0)) none, cutS y none (some (k : Int)) ++ revS (cutS y (some (k : Int)) (some ((k : Int) + 2))) ++ cutS y (some ((k : Int) + 2)) none] : List Str).map V.str) (el_lst (ea_cons (cat (up _ _ rfl rfl) (ev_from (ev_var rfl) (mx rfl) (by have := hy.1; omega)) au (af _) (by omega)) (ea_cons (cat (cat (up _ _ rfl rfl) (rv rfl rfl) au ar (by omega)) (ev_from (ev_var rfl) (ev_op (ev_var rfl) ev_c rv_I0) (by have := hy.1; omega)) (asc_app au ar) (af _) (by omega)) ea_nil)) (by show 2 ≤ 100000; decide)) fun p2 U5 np5 e5 h5 => ?_))
      have h4 := e5 _ _ h4
      have five : Asc (cutS y none (some (k : Int)) ++ revS (cutS y (some (k : Int)) (some ((k : Int) + 2))) ++ cutS y (some ((k : Int) + 2)) none) (2 * w + 2) := by
        refine ⟨?_, (asc_app (asc_app au ar) (af _)).2⟩
        rw [Str.length_append, Str.length_append]
        have l1 := len_upto (z := y) (k := k)
        have l2 := ar.1
        have l3 := len_from (z := y) (k := k + 2)
        rw [show (((k + 2 : Nat)) : Int) = (k : Int) + 2 by omega] at l3
        have l4 := hy.1
        have l5 := au.1
        omega
      have A1 : ∀ t, t ∈ [cutS y none (some (k : Int)) ++ ⟨#[c]⟩ ++ cutS y (some (k : Int)) none, cutS y none (some (k : Int)) ++ cutS y (some ((k : Int) + 1)) none, cutS y none (some (k : Int)) ++ ⟨#[c]⟩ ++ cutS y (some ((k : Int) + 1)) none] → Asc t (2 * w + 2) := fun t ht => by
        simp only [List.mem_cons, List.not_mem_nil, or_false] at ht
        rcases ht with rfl | rfl | rfl
        · exact (asc_app (asc_app au ac) (af _)).le (by omega)
        · exact (asc_app au (af _)).le (by omega)
        · exact (asc_app (asc_app au ac) (af _)).le (by omega)
      have A2 : ∀ t, t ∈ [cutS y none (some (k : Int)) ++ cutS y (some (if (0 : Int) < (k : Int) - 1 then (k : Int) - 1 else 0)) none, cutS y none (some (k : Int)) ++ revS (cutS y (some (k : Int)) (some ((k : Int) + 2))) ++ cutS y (some ((k : Int) + 2)) none] → Asc t (2 * w + 2) := fun t ht => by
        simp only [List.mem_cons, List.not_mem_nil, or_false] at ht
        rcases ht with rfl | rfl
        · exact (asc_app au (af _)).le (by omega)
        · exact five
      obtain ⟨L1, hL1, B1⟩ : ∃ L1 : List Str, L1.length = 3 ∧ L1 = [cutS y none (some (k : Int)) ++ ⟨#[c]⟩ ++ cutS y (some (k : Int)) none, cutS y none (some (k : Int)) ++ cutS y (some ((k : Int) + 1)) none, cutS y none (some (k : Int)) ++ ⟨#[c]⟩ ++ cutS y (some ((k : Int) + 1)) none] := ⟨_, rfl, rfl⟩
      obtain ⟨L2, hL2, B2⟩ : ∃ L2 : List Str, L2.length = 2 ∧ L2 = [cutS y none (some (k : Int)) ++ cutS y (some (if (0 : Int) < (k : Int) - 1 then (k : Int) - 1 else 0)) none, cutS y none (some (k : Int)) ++ revS (cutS y (some (k : Int)) (some ((k : Int) + 2))) ++ cutS y (some ((k : Int) + 2)) none] := ⟨_, rfl, rfl⟩
      rw [← B1] at h4 A1
      rw [← B2] at h5 A2
      clear B1 B2
      refine ⟨p, p2, _, _, rfl, rfl, h4, h5, sz1000 (by rw [List.length_map, List.length_map]; omega), fun p6 np6 => ?_⟩
      have e6 := Ex.new (o := .lst (L1.map V.str ++ L2.map V.str)) np6
      have S6 := (S4.ex_ (e4.trans e5)).ex_ e6
      have kk6 := kk4.l ((e4.trans e5).trans e6)
      have fp6 := (S4.ex_ (e4.trans e5)).free np6
      have h6 : (upd U5 p6 (.lst (L1.map V.str ++ L2.map V.str))) p6 = some (.lst ((L1 ++ L2).map V.str)) := by rw [upd_same, List.map_append]
      generalize upd U5 p6 (.lst (L1.map V.str ++ L2.map V.str)) = U6 at e6 S6 kk6 h6
      with_reducible refine f_gName ?_
      with_reducible refine f_asg ?_
      refine f_op (f_var rfl (f_call (f_cons (f_var rfl (f_cons (f_c (f_nil ?_)))))))
      refine f_draw (B := b) S6 (by decide) (by decide) fun j U7 a7 b7 S7 k7 => ?_
      have h7 := k7.at fp6 h6
      obtain ⟨y2, hm2, hat2⟩ := at_strs (L := L1 ++ L2) a7 (by rw [List.length_append]; omega)
      have hy2 : Asc y2 (2 * w + 2) := (List.mem_append.mp hm2).elim (A1 y2) (A2 y2)
      refine ⟨p6, _, j, .str y2, rfl, rfl, sq_of h7, hat2, ?_⟩
      with_reducible refine f_gName ?_
      exact ⟨y2, _, _, _, _, rfl, hN2 ▸ hy2, S7, kk6.trans k7⟩
    · obtain ⟨y, v2, v3, v4, v5, rfl, hy, S2, kk⟩ := hp
      have ht2 : (1 + t).toNat = 1 ∨ (1 + t).toNat = 2 := by omega
      refine s_ret (ev_var rfl) fun U1 x1 => q y U1 (hy.le ?_) ((S2.ex_ x1).less (by omega)) (kk.l x1)
      rcases ht2 with h | h <;> rw [h]
      · show 2 * n + 2 ≤ _; omega
      · show 2 * (2 * n + 2) + 2 ≤ _; omega

theorem same_step (T : Top K mg) (n : Nat) (spR : Sp) (G_law_same : FnOk P w K mg base CX0 n T.f_law_same T.fd_law_same ["found", "wanted"] spR) (hR : ∀ m, n = m + 1 → spR = spSame K m) :
    FnOk P w K mg base CX0 (n + 1) T.f_law_same T.fd_law_same ["found", "wanted"] (spSame K n) := by
  refine T.F_law_same.ok sc_law_same (fun vs H Q E h => ?_) (fun cdv A outer s H vs Q E hr h => ?_)
  · obtain ⟨x, y, dt, rfl, _⟩ := h; rfl
  · obtain ⟨x, y, dt, rfl, hx, hy, ok, q⟩ := h
    refine ⟨_, (pss_cons (ps_if (pt_cmpR op_isN (pv 1) pe_non (nomark _)) (pss_one (ps_ret (pe_cmpR op_isN (pv 0) pe_non (nomark _)))) pss_nil)
      (pss_cons (ps_if (pt_val (pe_callB (r := rIsi K) call_isi (by rfl) T.z_isinstance (by decide +kernel) (pa_cons (pv 1) (pa_cons (pe_bltn (v := .ty "bool") (u := .type "bool") (by rfl) T.z_bool (by decide +kernel) rfl) pa_nil)))) (pss_one (ps_ret (pe_and (pe_callB (r := rIsi K) call_isi (by rfl) T.z_isinstance (by decide +kernel) (pa_cons (pv 0) (pa_cons (pe_bltn (v := .ty "bool") (u := .type "bool") (by rfl) T.z_bool (by decide +kernel) rfl) pa_nil))) (pe_one (pe_cmpR (r := rEqD K) (op_eqD hr.units) (pv 0) (pv 1) (nomark _)))))) pss_nil)
      (pss_cons (ps_if (pt_val (pe_callB (r := rIsi K) call_isi (by rfl) T.z_isinstance (by decide +kernel) (pa_cons (pv 1) (pa_cons (pe_bltn (v := .ty "int") (u := .type "int") (by rfl) T.z_int (by decide +kernel) rfl) pa_nil)))) (pss_one (ps_ret (pe_and (pe_callB (r := rIsi K) call_isi (by rfl) T.z_isinstance (by decide +kernel) (pa_cons (pv 0) (pa_cons (pe_bltn (v := .ty "int") (u := .type "int") (by rfl) T.z_int (by decide +kernel) rfl) pa_nil))) (pe_and (pe_not (pe_callB (r := rIsi K) call_isi (by rfl) T.z_isinstance (by decide +kernel) (pa_cons (pv 0) (pa_cons (pe_bltn (v := .ty "bool") (u := .type "bool") (by rfl) T.z_bool (by decide +kernel) rfl) pa_nil)))) (pe_one (pe_cmpR (r := rEqD K) (op_eqD hr.units) (pv 0) (pv 1) (nomark _))))))) pss_nil)
      (pss_cons (ps_if (pt_val (pe_callB (r := rIsi K) call_isi (by rfl) T.z_isinstance (by decide +kernel) (pa_cons (pv 1) (pa_cons (pe_bltn (v := .ty "str") (u := .type "str") (by rfl) T.z_str (by decide +kernel) rfl) pa_nil)))) (pss_one (ps_ret (pe_and (pe_callB (r := rIsi K) call_isi (by rfl) T.z_isinstance (by decide +kernel) (pa_cons (pv 0) (pa_cons (pe_bltn (v := .ty "str") (u := .type "str") (by rfl) T.z_str (by decide +kernel) rfl) pa_nil))) (pe_one (pe_cmpR (r := rEqD K) (op_eqD hr.units) (pv 0) (pv 1) (nomark _)))))) pss_nil)
      (pss_cons (ps_if (pt_cmpR op_ne (pe_callB (r := rIsi K) call_isi (by rfl) T.z_isinstance (by decide +kernel) (pa_cons (pv 0) (pa_cons (pe_bltn (v := .ty "list") (u := .type "list") (by rfl) T.z_list (by decide +kernel) rfl) pa_nil))) (pe_callB (r := rIsi K) call_isi (by rfl) T.z_isinstance (by decide +kernel) (pa_cons (pv 1) (pa_cons (pe_bltn (v := .ty "list") (u := .type "list") (by rfl) T.z_list (by decide +kernel) rfl) pa_nil))) (nomark _)) (pss_one (ps_ret pe_bl)) pss_nil)
      (pss_cons (ps_if (PW.pt (pw_or (pt_cmpR op_ne (pe_callB (r := rIsi K) call_isi (by rfl) T.z_isinstance (by decide +kernel) (pa_cons (pv 0) (pa_cons (pe_bltn (v := .ty "tuple") (u := .type "tuple") (by rfl) T.z_tuple (by decide +kernel) rfl) pa_nil))) (pe_callB (r := rIsi K) call_isi (by rfl) T.z_isinstance (by decide +kernel) (pa_cons (pv 1) (pa_cons (pe_bltn (v := .ty "tuple") (u := .type "tuple") (by rfl) T.z_tuple (by decide +kernel) rfl) pa_nil))) (nomark _)) (pw_or1 (pt_cmpR op_ne (pe_callB (r := rLenS K) call_len_seq (by rfl) T.z_len PySem.boot_len (pa_cons (pv 0) pa_nil)) (pe_callB (r := rLenS K) call_len_seq (by rfl) T.z_len PySem.boot_len (pa_cons (pv 1) pa_nil)) (nomark _))))) (pss_one (ps_ret pe_bl)) pss_nil)
      (pss_one (ps_ret (pe_cmpR (r := rEqD K) (op_eqD hr.units) (pe_lc (own := [("k", 2)]) (g := gName 2)  rfl sc_law_same.nd (pi_range1 (by rfl) T.z_range (pa_cons (pe_callB (r := rLenS K) call_len_seq (by rfl) T.z_len PySem.boot_len (pa_cons (pv 1) pa_nil)) pa_nil)) (blkOk_by (own := [("k", 2)]) (N := ["found", "wanted", "k"]) (sc := defScope s_law_same) (by decide +kernel)) (fun _ _ _ _ _ => (pg_name (i := 2) sc_law_same.nd rfl (Or.inl rfl))) (fun _ _ _ _ _ => (pts_one (pt_not (pt_val (pe_call G_law_same (hr.mono (by first | decide | omega)) (by rfl) T.g_law_same T.F_law_same.kp T.b_law_same .nil pass0 (pa_cons (pe_ix (r := rIx K) ix_seq (pv 0) (pv 2) (fun _ _ => rfl)) (pa_cons (pe_ix (r := rIx K) ix_seq (pv 1) (pv 2) (fun _ _ => rfl)) pa_nil))))))) (fun _ _ _ _ _ => (pv 2))) (pe_lst pa_nil) (nomark _)))))))))), ?_⟩
    have tx (H1 : Hp) (e : Ex H H1) : TyX K H1 x (.type (tyN dt)) := ty_dp (dp_ex e hx)
    have ty (H1 : Hp) (e : Ex H H1) : TyX K H1 y (.type (tyN dt)) := ty_dp (dp_ex e hy)
    have vx {H1 : Hp} : Ev (tVar 0) (L2.start ["found", "wanted", "k"] [x, y]) H1 x := ev_var rfl
    have vy {H1 : Hp} : Ev (tVar 1) (L2.start ["found", "wanted", "k"] [x, y]) H1 y := ev_var rfl
    refine f_seq (s_if (et_test (ev_op vy ev_c rv_isN)) (fun hb H1 e1 => ?_) fun hb H1 e1 => ?_)
    · have hy0 : y = .non := of_decide_eq_true hb
      subst hy0
      cases hy
      cases hx
      exact s_ret (ev_op vx ev_c rv_isN) fun H2 e2 => q H2 (e1.trans e2)
    have ny : y ≠ .non := of_decide_eq_false hb
    have isx : ∀ {n : String} {b : Bool} {H1 : Hp}, Ex H H1 → kitB (tyN dt) n = some b → Ev (tCB (rIsi K) (tCons (tVar 0) (tCons (tC (V.ty n)) tNil))) (L2.start ["found", "wanted", "k"] [x, y]) H1 (.bl b) := fun e kb => ev_isi vx (fun H2 e2 => tx H2 (e.trans e2)) kb
    have isy : ∀ {n : String} {b : Bool} {H1 : Hp}, Ex H H1 → kitB (tyN dt) n = some b → Ev (tCB (rIsi K) (tCons (tVar 1) (tCons (tC (V.ty n)) tNil))) (L2.start ["found", "wanted", "k"] [x, y]) H1 (.bl b) := fun e kb => ev_isi vy (fun H2 e2 => ty H2 (e.trans e2)) kb
    have eqd : ∀ {H1 : Hp}, Ex H H1 → SeqAt.shaped dt = true → Ev (tOp (rEqD K) (tVar 0) (tVar 1)) (L2.start ["found", "wanted", "k"] [x, y]) H1 (.bl true) := fun e sd => by
      have z := ev_op vx vy (rv_eqDp (dp_ex e hx) (dp_ex e hy) sd sd)
      rw [SeqAt.eqv_refl dt (SeqAt.canLay_of_shaped sd)] at z
      exact z
    match dt, hx, hy, ok, @isx, @isy, @eqd with
    | .none, hx, hy, _, _, _, _ => cases hy; exact absurd rfl ny
    | .bool b, hx, hy, _, isx, isy, eqd =>
      refine f_seq (s_if (et_B (isy e1 (b := true) (by dsimp only [tyN]; decide +kernel))) (fun _ H2 e2 => ?_) fun hb _ _ => nomatch hb)
      exact s_ret (ev_andV (isx (e1.trans e2) (b := true) (by dsimp only [tyN]; decide +kernel)) fun _ => eqd (e1.trans e2) rfl) fun H3 e3 => q H3 ((e1.trans e2).trans e3)
    | .int b, hx, hy, _, isx, isy, eqd =>
      refine f_seq (s_if (et_B (isy e1 (b := false) (by dsimp only [tyN]; decide +kernel))) (fun hb _ _ => nomatch hb) fun _ H2 e2 => ?_)
      refine f_seq (s_if (et_B (isy (e1.trans e2) (b := true) (by dsimp only [tyN]; decide +kernel))) (fun _ H3 e3 => ?_) fun hb _ _ => nomatch hb)
      have e := (e1.trans e2).trans e3
      exact s_ret (ev_andV (isx e (b := true) (by dsimp only [tyN]; decide +kernel)) fun _ => ev_andV (ev_notV (isx e (b := false) (by dsimp only [tyN]; decide +kernel))) fun _ => eqd e rfl) fun H4 e4 => q H4 (e.trans e4)
    | .str z, hx, hy, ok, isx, isy, eqd =>
      refine f_seq (s_if (et_B (isy e1 (b := false) (by dsimp only [tyN]; decide +kernel))) (fun hb _ _ => nomatch hb) fun _ H2 e2 => ?_)
      refine f_seq (s_if (et_B (isy (e1.trans e2) (b := false) (by dsimp only [tyN]; decide +kernel))) (fun hb _ _ => nomatch hb) fun _ H3 e3 => ?_)
      have e := (e1.trans e2).trans e3
      refine f_seq (s_if (et_B (isy e (b := true) (by dsimp only [tyN]; decide +kernel))) (fun _ H4 e4 => ?_) fun hb _ _ => nomatch hb)
      have e' := e.trans e4
      have ok' : PyData.canLay0 (.str z) = true := by cases n <;> exact ok
      exact s_ret (ev_andV (isx e' (b := true) (by dsimp only [tyN]; decide +kernel)) fun _ => eqd e' (shaped_str ok')) fun H5 e5 => q H5 (e'.trans e5)
    | .list ds, hx, hy, ok, isx, isy, eqd =>
      refine f_seq (s_if (et_B (isy e1 (b := false) (by dsimp only [tyN]; decide +kernel))) (fun hb _ _ => nomatch hb) fun _ H2 e2 => ?_)
      refine f_seq (s_if (et_B (isy (e1.trans e2) (b := false) (by dsimp only [tyN]; decide +kernel))) (fun hb _ _ => nomatch hb) fun _ H3 e3 => ?_)
      have e := (e1.trans e2).trans e3
      refine f_seq (s_if (et_B (isy e (b := false) (by dsimp only [tyN]; decide +kernel))) (fun hb _ _ => nomatch hb) fun _ H4 e4 => ?_)
      have e' := e.trans e4
      have len := fun {H1 : Hp} (e : Ex H H1) => True.intro
      obtain ⟨px, xs, hxx, ax, qx⟩ : ∃ (p : Addr) (xs : List V), x = .ref p ∧ DpAll K H xs ds ∧ (SqL K H p xs ∨ SqT K H p xs) := by cases hx with | lst h a => exact ⟨_, _, rfl, a, .inl h⟩
      obtain ⟨py, ys, hyy, ay, qy⟩ : ∃ (p : Addr) (xs : List V), y = .ref p ∧ DpAll K H xs ds ∧ (SqL K H p xs ∨ SqT K H p xs) := by cases hy with | lst h a => exact ⟨_, _, rfl, a, .inl h⟩
      subst hxx hyy
      obtain ⟨m, rfl, okl, okm⟩ : ∃ m, n = m + 1 ∧ ds.length ≤ 10000 ∧ ∀ d, d ∈ ds → okd m d := by
        cases n with
        | zero => exact ok.elim
        | succ m => exact ⟨m, rfl, ok.1, ok.2⟩
      have eR := hR m rfl
      subst eR
      have upx (H1 : Hp) (e : Ex H H1) : SqL K H1 px xs ∨ SqT K H1 px xs := qx.elim (fun h => .inl (ex_l e h)) (fun h => .inr (ex_t e h))
      have upy (H1 : Hp) (e : Ex H H1) : SqL K H1 py ys ∨ SqT K H1 py ys := qy.elim (fun h => .inl (ex_l e h)) (fun h => .inr (ex_t e h))
      have lx : xs.length = ds.length := dpa_len ax
      have ly : ys.length = ds.length := dpa_len ay
      refine f_seq (s_if (et_test (ev_op (isx e' (b := true) (by dsimp only [tyN]; decide +kernel)) (isy e' (b := true) (by dsimp only [tyN]; decide +kernel)) rv_neB)) (fun hb _ _ => nomatch hb) fun _ H5 e5 => ?_)
      have e6 := e'.trans e5
      refine f_seq (s_if (et_or (et_test (ev_op (isx e6 (b := false) (by dsimp only [tyN]; decide +kernel)) (isy e6 (b := false) (by dsimp only [tyN]; decide +kernel)) rv_neB)) fun _ => et_test (ev_op (ev_lenS vx (upx _ e6)) (ev_lenS vy (upy _ e6)) rv_neI)) (fun hb _ _ => ?_) fun _ H7 e7 => ?_)
      · rw [lx, ly] at hb; simp at hb
      have e8 := e6.trans e7
      have hcomp : EvL (tLc (iRng1 (tCons (tCB (rLenS K) (tCons (tVar 1) tNil)) tNil)) (gName 2) (tNot (tB (tCall (spSame K m) [] E0 (tCons (tOp (rIx K) (tVar 0) (tVar 2)) (tCons (tOp (rIx K) (tVar 1) (tVar 2)) tNil))))) (tVar 2) [2]) (L2.start ["found", "wanted", "k"] [.ref px, .ref py]) H7 [] := by
        have z := el_lcR1 (σ := L2.start ["found", "wanted", "k"] [.ref px, .ref py]) (H := H7) (j := 2) (vs := [2]) (n := (ys.length : Int)) (t := tNot (tB (tCall (spSame K m) [] E0 (tCons (tOp (rIx K) (tVar 0) (tVar 2)) (tCons (tOp (rIx K) (tVar 1) (tVar 2)) tNil))))) (te := tVar 2) (fun _ => false) (fun _ => .non) (ea_cons (ev_lenS vy (upy _ e8)) ea_nil) ⟨by omega, by omega⟩ (fun _ => rfl)
          (fun i H9 e9 hi => ?_) (fun i H9 e9 hi hf => nomatch hf)
        · rw [given_none (fun _ _ => rfl)] at z
          exact z
        · have e10 := e8.trans e9
          obtain ⟨u, d, g1, g2, g3, g4⟩ := dpa_get (i := i) ax (by omega)
          obtain ⟨u', d', k1, k2, k3, k4⟩ := dpa_get (i := i) ay (by omega)
          have ed : d' = d := Option.some.inj (k2.symm.trans g2)
          subst ed
          exact et_not (a := true) (et_B (ev_call (ea_cons (ev_op (ev_var rfl) (ev_var rfl) (rv_ixAny (upx _ e10) g1)) (ea_cons (ev_op (ev_var rfl) (ev_var rfl) (rv_ixAny (upy _ e10) k1)) ea_nil)) (z := .bl true) fun H11 e11 Q' q' E' =>
            ⟨u, u', d', rfl, dp_ex (e10.trans e11) g4, dp_ex (e10.trans e11) k4, okm _ g3, q'⟩))
      refine s_ret (ev_opLL (xs := []) (ys := []) hcomp (el_lst ea_nil (Nat.zero_le _)) fun p1 p2 H9 h1 h2 _ => rv_eqL (xs := []) (ys := []) (sq_of h1) (sq_of h2)) fun H9 e9 => ?_
      exact q _ (e8.trans e9)
    | .tuple ds, hx, hy, ok, isx, isy, eqd =>
      refine f_seq (s_if (et_B (isy e1 (b := false) (by dsimp only [tyN]; decide +kernel))) (fun hb _ _ => nomatch hb) fun _ H2 e2 => ?_)
      refine f_seq (s_if (et_B (isy (e1.trans e2) (b := false) (by dsimp only [tyN]; decide +kernel))) (fun hb _ _ => nomatch hb) fun _ H3 e3 => ?_)
      have e := (e1.trans e2).trans e3
      refine f_seq (s_if (et_B (isy e (b := false) (by dsimp only [tyN]; decide +kernel))) (fun hb _ _ => nomatch hb) fun _ H4 e4 => ?_)
      have e' := e.trans e4
      have len := fun {H1 : Hp} (e : Ex H H1) => True.intro
      obtain ⟨px, xs, hxx, ax, qx⟩ : ∃ (p : Addr) (xs : List V), x = .ref p ∧ DpAll K H xs ds ∧ (SqL K H p xs ∨ SqT K H p xs) := by cases hx with | tup h a => exact ⟨_, _, rfl, a, .inr h⟩
      obtain ⟨py, ys, hyy, ay, qy⟩ : ∃ (p : Addr) (xs : List V), y = .ref p ∧ DpAll K H xs ds ∧ (SqL K H p xs ∨ SqT K H p xs) := by cases hy with | tup h a => exact ⟨_, _, rfl, a, .inr h⟩
      subst hxx hyy
      obtain ⟨m, rfl, okl, okm⟩ : ∃ m, n = m + 1 ∧ ds.length ≤ 10000 ∧ ∀ d, d ∈ ds → okd m d := by
        cases n with
        | zero => exact ok.elim
        | succ m => exact ⟨m, rfl, ok.1, ok.2⟩
      have eR := hR m rfl
      subst eR
      have upx (H1 : Hp) (e : Ex H H1) : SqL K H1 px xs ∨ SqT K H1 px xs := qx.elim (fun h => .inl (ex_l e h)) (fun h => .inr (ex_t e h))
      have upy (H1 : Hp) (e : Ex H H1) : SqL K H1 py ys ∨ SqT K H1 py ys := qy.elim (fun h => .inl (ex_l e h)) (fun h => .inr (ex_t e h))
      have lx : xs.length = ds.length := dpa_len ax
      have ly : ys.length = ds.length := dpa_len ay
      refine f_seq (s_if (et_test (ev_op (isx e' (b := false) (by dsimp only [tyN]; decide +kernel)) (isy e' (b := false) (by dsimp only [tyN]; decide +kernel)) rv_neB)) (fun hb _ _ => nomatch hb) fun _ H5 e5 => ?_)
      have e6 := e'.trans e5
      refine f_seq (s_if (et_or (et_test (ev_op (isx e6 (b := true) (by dsimp only [tyN]; decide +kernel)) (isy e6 (b := true) (by dsimp only [tyN]; decide +kernel)) rv_neB)) fun _ => et_test (ev_op (ev_lenS vx (upx _ e6)) (ev_lenS vy (upy _ e6)) rv_neI)) (fun hb _ _ => ?_) fun _ H7 e7 => ?_)
      · rw [lx, ly] at hb; simp at hb
      have e8 := e6.trans e7
      have hcomp : EvL (tLc (iRng1 (tCons (tCB (rLenS K) (tCons (tVar 1) tNil)) tNil)) (gName 2) (tNot (tB (tCall (spSame K m) [] E0 (tCons (tOp (rIx K) (tVar 0) (tVar 2)) (tCons (tOp (rIx K) (tVar 1) (tVar 2)) tNil))))) (tVar 2) [2]) (L2.start ["found", "wanted", "k"] [.ref px, .ref py]) H7 [] := by
        have z := el_lcR1 (σ := L2.start ["found", "wanted", "k"] [.ref px, .ref py]) (H := H7) (j := 2) (vs := [2]) (n := (ys.length : Int)) (t := tNot (tB (tCall (spSame K m) [] E0 (tCons (tOp (rIx K) (tVar 0) (tVar 2)) (tCons (tOp (rIx K) (tVar 1) (tVar 2)) tNil))))) (te := tVar 2) (fun _ => false) (fun _ => .non) (ea_cons (ev_lenS vy (upy _ e8)) ea_nil) ⟨by omega, by omega⟩ (fun _ => rfl)
          (fun i H9 e9 hi => ?_) (fun i H9 e9 hi hf => nomatch hf)
        · rw [given_none (fun _ _ => rfl)] at z
          exact z
        · have e10 := e8.trans e9
          obtain ⟨u, d, g1, g2, g3, g4⟩ := dpa_get (i := i) ax (by omega)
          obtain ⟨u', d', k1, k2, k3, k4⟩ := dpa_get (i := i) ay (by omega)
          have ed : d' = d := Option.some.inj (k2.symm.trans g2)
          subst ed
          exact et_not (a := true) (et_B (ev_call (ea_cons (ev_op (ev_var rfl) (ev_var rfl) (rv_ixAny (upx _ e10) g1)) (ea_cons (ev_op (ev_var rfl) (ev_var rfl) (rv_ixAny (upy _ e10) k1)) ea_nil)) (z := .bl true) fun H11 e11 Q' q' E' =>
            ⟨u, u', d', rfl, dp_ex (e10.trans e11) g4, dp_ex (e10.trans e11) k4, okm _ g3, q'⟩))
      refine s_ret (ev_opLL (xs := []) (ys := []) hcomp (el_lst ea_nil (Nat.zero_le _)) fun p1 p2 H9 h1 h2 _ => rv_eqL (xs := []) (ys := []) (sq_of h1) (sq_of h2)) fun H9 e9 => ?_
      exact q _ (e8.trans e9)
theorem ok_law_same (T : Top K mg) : ∀ n : Nat, FnOk P w K mg base CX0 (n + 1) T.f_law_same T.fd_law_same ["found", "wanted"] (spSame K n)
  | 0 => same_step T 0 (fun _ _ _ _ => False) ⟨fun _ _ _ _ h => h.elim, fun _ _ _ _ _ _ _ _ _ _ _ _ _ h => h.elim⟩ (fun _ e => nomatch e)
  | n + 1 => same_step T (n + 1) _ (ok_law_same T n) (fun m e => by cases e; rfl)

/-! a line is read as due -/
theorem okd_plain {n : Nat} {x : Str} (h : ∀ c, c ∈ TL.tl x → c < 128) : okd n (.str x) := by
  cases n <;> exact plain_lay h
def dueD (z : Str) : PyData := match dateOf z with
  | none => .list [.str "Unreadable", .str z, .bool true]
  | some (y, m, d) => dI [y, m, d]
theorem due_none {z : Str} (h : dateOf z = none) : dueD z = .list [.str "Unreadable", .str z, .bool true] := by unfold dueD; rw [h]
theorem due_some {z : Str} {y m d : Int} (h : dateOf z = some (y, m, d)) : dueD z = dI [y, m, d] := by unfold dueD; rw [h]
theorem okd_two {z : Str} (ha : Asc z 9000) : okd 2 (.list [dueD z, dueD z]) := by
  have one : okd 1 (dueD z) := by
    cases hl : dateOf z with
    | none =>
      rw [due_none hl]
      refine ⟨by simp, fun x hx => ?_⟩
      simp at hx
      rcases hx with rfl | rfl | rfl
      · exact okd_plain (by decide +kernel)
      · exact okd_plain ha.2
      · trivial
    | some q =>
      obtain ⟨y, m, d⟩ := q
      rw [due_some hl]
      exact ⟨by simp, okd_ints 0 _⟩
  refine ⟨by simp, fun x hx => ?_⟩
  simp at hx
  rcases hx with rfl | rfl <;> exact one
def spRightS : Sp := fun vs H Q _ => ∃ z : Str, vs = [.str z] ∧ Asc z 9000 ∧ ∀ H', Ex H H' → Q (.bl true) H'
theorem dp_strsL {K : PySem.W.Frag} {H : Hp} {p : Addr} {a b : Str} {c : Bool} (h : H p = some (.lst [.str a, .str b, .bl c])) : Dp K H (.ref p) (.list [.str a, .str b, .bool c]) := .lst (sq_of h) (.cons (.str _) (.cons (.str _) (.cons (.bl _) .nil)))
theorem ok_law_right (T : Top K mg) : FnOk P w K mg base CX0 6 T.f_law_right T.fd_law_right ["line"] spRightS := by
  have G_law_date_in : FnOk P w K mg base CX0 3 T.f_law_date_in T.fd_law_date_in ["line"] spDin := ok_law_date_in T
  have G_law_told : FnOk P w K mg base CX0 5 T.f_law_told T.fd_law_told ["line", "by_name"] spTold41 := ok_law_told T
  have G_law_same : FnOk P w K mg base CX0 3 T.f_law_same T.fd_law_same ["found", "wanted"] (spSame K 2) := ok_law_same T 2
  refine T.F_law_right.ok sc_law_right (fun vs H Q E h => ?_) (fun cdv A outer s H vs Q E hr h => ?_)
  · obtain ⟨z, rfl, _⟩ := h; rfl
  · obtain ⟨z, rfl, ha, q⟩ := h
    refine ⟨_, (pss_cons (ps_set (i := 1) sc_law_right.nd rfl (Or.inl rfl) (pe_call G_law_date_in (hr.mono (by first | decide | omega)) (by rfl) T.g_law_date_in T.F_law_date_in.kp T.b_law_date_in .nil pass0 (pa_cons (pv 0) pa_nil)))
      (pss_cons (ps_set (i := 1) sc_law_right.nd rfl (Or.inl rfl) (pe_ifExp (pt_cmpR op_isN (pv 1) pe_non (nomark _)) (pe_lst (pa_cons pe_str (pa_cons (pv 0) (pa_cons pe_bl pa_nil)))) (pv 1)))
      (pss_one (ps_ret (pe_call G_law_same (hr.mono (by first | decide | omega)) (by rfl) T.g_law_same T.F_law_same.kp T.b_law_same .nil pass0 (pa_cons (pe_lst (pa_cons (pe_call G_law_told (hr.mono (by first | decide | omega)) (by rfl) T.g_law_told T.F_law_told.kp T.b_law_told .nil pass0 (pa_cons (pv 0) (pa_cons pe_bl pa_nil))) (pa_cons (pe_call G_law_told (hr.mono (by first | decide | omega)) (by rfl) T.g_law_told T.F_law_told.kp T.b_law_told .nil pass0 (pa_cons (pv 0) (pa_cons pe_bl pa_nil))) pa_nil))) (pa_cons (pe_lst (pa_cons (pv 1) (pa_cons (pv 1) pa_nil))) pa_nil))))))), ?_⟩
    have ha2 : Asc z 20000 := ha.le (by decide)
    with_reducible refine f_seqC (fun σ' U => ∃ x : V, σ' = [some (.str z), some x] ∧ Ex H U ∧ ((x = .non ∧ dateOf z = none) ∨ ∃ (y m d : Int) (p : Addr), x = .ref p ∧ dateOf z = some (y, m, d) ∧ U p = some (.tup [.int y, .int m, .int d]))) (fun N hN => ?_) fun σ' U hU => ?_
    · with_reducible refine f_asg ?_
      exact f_call (f_cons (f_var rfl (f_nil ⟨z, rfl, ha2, fun hl H1 e1 => f_gName (hN _ _ ⟨_, rfl, e1, .inl ⟨rfl, hl⟩⟩), fun y m d hl p H1 np e1 h1 => f_gName (hN _ _ ⟨_, rfl, e1, .inr ⟨y, m, d, p, rfl, hl, h1⟩⟩)⟩)))
    obtain ⟨x, rfl, eU, hx⟩ := hU
    with_reducible refine f_seqC (fun σ' U => ∃ pd : Addr, σ' = [some (.str z), some (.ref pd)] ∧ Ex H U ∧ Dp K U (.ref pd) (dueD z)) (fun N hN => ?_) fun σ' U2 hU => ?_
    · with_reducible refine f_asg ?_
      rcases hx with ⟨rfl, hl⟩ | ⟨y, m, d, p, rfl, hl, hp⟩
      · refine f_if ((et_is (et_test (ev_op (ev_var rfl) ev_c rv_isN)) (decide_eq_true rfl) : EvT _ _ _ true) U (Ex.refl U) _ fun H2 e2 => ?_)
        rw [if_pos rfl]
        refine f_evL (el_lst (ea_cons ev_c (ea_cons (ev_var rfl) (ea_cons ev_c ea_nil))) (by show 3 ≤ 100000; decide)) fun p H3 np e3 h3 => ?_
        exact f_gName (hN _ _ ⟨p, rfl, (eU.trans e2).trans e3, by rw [due_none hl]; exact dp_strsL h3⟩)
      · refine f_if ((et_is (et_test (ev_op (ev_var rfl) ev_c rv_isN)) (decide_eq_false (fun z => by cases z)) : EvT _ _ _ false) U (Ex.refl U) _ fun H2 e2 => ?_)
        rw [if_neg (fun z => nomatch z)]
        refine f_var rfl ?_
        exact f_gName (hN _ _ ⟨p, rfl, eU.trans e2, by rw [due_some hl]; exact dp_date (xs := [y, m, d]) (st_of (e2 _ _ hp))⟩)
    obtain ⟨pd, rfl, eU2, hD⟩ := hU
    have tld {te tb : TE} {b : Bool} {σ : L2.St} {U3 : Hp} (h1 : Ev te σ U3 (.str z)) (h2 : ∀ U, Ex U3 U → Ev tb σ U (.bl b)) : EvD K (tCall spTold41 [] E0 (tCons te (tCons tb tNil))) σ U3 (dueD z) := fun U4 x4 Q1 q1 =>
      f_call (f_cons (f_ev (fun U5 x5 Q5 q5 => h1 U5 (x4.trans x5) Q5 q5) fun U5 x5 => f_cons (f_ev (h2 U5 (x4.trans x5)) fun U6 x6 => f_nil ⟨z, b, rfl, ha2, fun hl p H' np e' h' => q1 (.ref p) H' ((x5.trans x6).trans e') (by rw [due_none hl]; exact dp_strsL h'), fun y m d hl p H' np e' h' => q1 (.ref p) H' ((x5.trans x6).trans e') (by rw [due_some hl]; exact dp_date (xs := [y, m, d]) (st_of h'))⟩)))
    refine s_ret (ev_sameD (d := .list [dueD z, dueD z]) (ed_lst (eds_cons (tld (ev_var rfl) fun _ _ => ev_c) (eds_cons (tld (ev_var rfl) fun _ _ => ev_c) eds_nil)) (by show 2 ≤ 100000; decide)) (ed_lst (eds_cons (ed_valH (ev_var rfl) hD) (eds_cons (ed_valH (ev_var rfl) hD) eds_nil)) (by show 2 ≤ 100000; decide)) (okd_two ha)) fun H6 e6 => q H6 (eU2.trans e6)

theorem ok_law_date (T : Top K mg) : FnOk P w K mg base CX0 3 T.f_law_date T.fd_law_date ["source"] (spDate Exists_) := by
  have G_law_draw : FnOk P w K mg base CX0 1 T.f_law_draw T.fd_law_draw ["source", "many"] spDraw := ok_law_draw T
  have G_law_count : FnOk P w K mg base CX0 2 T.f_law_count T.fd_law_count ["source"] spCount := ok_law_count T
  have G_law_length : FnOk P w K mg base CX0 2 T.f_law_length T.fd_law_length ["number"] (spF D_mlen) := ok_law_length T
  refine T.F_law_date.ok sc_law_date (fun vs H Q E h => ?_) (fun cdv A outer st H vs Q E hr h => ?_)
  · obtain ⟨s, d, B, rfl, _⟩ := h; rfl
  · obtain ⟨s, d, B, rfl, S, q⟩ := h
    refine ⟨_, (pss_cons (ps_par (i := 1) (j := 2) (by rfl) sc_law_date.nd rfl rfl (by decide) rfl rfl (pa_cons (pe_call G_law_count (hr.mono (by first | decide | omega)) (by rfl) T.g_law_count T.F_law_count.kp T.b_law_count .nil pass0 (pa_cons (pv 0) pa_nil)) (pa_cons (pe_call G_law_draw (hr.mono (by first | decide | omega)) (by rfl) T.g_law_draw T.F_law_draw.kp T.b_law_draw .nil pass0 (pa_cons (pv 0) (pa_cons pe_int pa_nil))) pa_nil)) (by rfl))
      (pss_cons (ps_set (i := 3) sc_law_date.nd rfl (Or.inl rfl) (pe_call G_law_length (hr.mono (by first | decide | omega)) (by rfl) T.g_law_length T.F_law_length.kp T.b_law_length .nil pass0 (pa_cons (pe_op op_add (pe_op op_mulW pe_int (pv 1)) (pv 2)) pa_nil)))
      (pss_cons (ps_set (i := 4) sc_law_date.nd rfl (Or.inl rfl) (pe_lst (pa_cons (pe_op op_add pe_int (pe_call G_law_draw (hr.mono (by first | decide | omega)) (by rfl) T.g_law_draw T.F_law_draw.kp T.b_law_draw .nil pass0 (pa_cons (pv 0) (pa_cons (pv 3) pa_nil)))) (pa_cons (pv 3) (pa_cons (pe_callB (call_max2 rfl) (by rfl) T.z_max (by decide +kernel) (pa_cons pe_int (pa_cons (pe_op op_sub (pv 3) (pe_call G_law_draw (hr.mono (by first | decide | omega)) (by rfl) T.g_law_draw T.F_law_draw.kp T.b_law_draw .nil pass0 (pa_cons (pv 0) (pa_cons pe_int pa_nil)))) pa_nil))) (pa_cons (pe_op op_add pe_int (pe_call G_law_draw (hr.mono (by first | decide | omega)) (by rfl) T.g_law_draw T.F_law_draw.kp T.b_law_draw .nil pass0 (pa_cons (pv 0) (pa_cons pe_int pa_nil)))) pa_nil))))))
      (pss_one (ps_ret (pe_tup (pa_cons (pv 1) (pa_cons (pe_op op_add (pv 2) pe_int) (pa_cons (pe_ix (r := rIxL K) ix_list (pv 4) (pe_call G_law_draw (hr.mono (by first | decide | omega)) (by rfl) T.g_law_draw T.F_law_draw.kp T.b_law_draw .nil pass0 (pa_cons (pv 0) (pa_cons pe_int pa_nil))) (fun _ _ => rfl)) pa_nil))))))))), ?_⟩
    refine f_seq (f_par ?_)
    walk_at "fw"
    refine ⟨s, d, B + 5, rfl, S, fun y H1 hy S1 k1 => ?_⟩
    walk_at "fw"
    refine f_draw S1 (by decide) (by decide) fun n2 H2 a2 b2 S2 k2 => ?_
    walk_at "fw"
    refine f_par2 ?_
    walk_at "fs"
    refine f_ev (ev_call (ea_cons (ev_op (ev_op ev_c (ev_var rfl) (rv_mul (by decide) (by omega))) (ev_var rfl) rv_I0) ea_nil) (sv_F ⟨_, rfl, rfl⟩)) fun H3 e3 => ?_
    have em : mlen (12 * y + n2) = dlen y (n2 + 1) := by
      unfold mlen
      rw [show (12 * y + n2) / 12 = y by omega, show (12 * y + n2) % 12 = n2 by omega]
    rw [em]
    obtain ⟨l28, l31⟩ := dlen_bounds y (n2 + 1) (by omega) (by omega)
    generalize hl : dlen y (n2 + 1) = last at l28 l31
    walk_at "fw"
    refine f_draw (S2.ex_ e3) (by omega) (by omega) fun n3 H4 a4 b4 S4 k4 => ?_
    walk_at "fw"
    refine f_draw S4 (by decide) (by decide) fun n4 H5 a5 b5 S5 k5 => ?_
    walk_at "fw"
    refine ⟨_, _, rfl, ?_⟩
    rw [show (if last - n4 > 28 then last - n4 else 28) = max 28 (last - n4) by split <;> omega]
    walk_at "fw"
    refine f_draw S5 (by decide) (by decide) fun n6 H6 a6 b6 S6 k6 => ?_
    walk_at "fw"
    refine f_newL S6 (by simp) fun p np fp S7 e7 h7 => ?_
    walk_at "fw"
    refine f_draw S7 (by decide) (by decide) fun n8 H8 a8 b8 S8 k8 => ?_
    have h8 := k8.at fp h7
    obtain ⟨z, hz, hat⟩ := at_ints (L := [1 + n3, last, max 28 (last - n4), 1 + n6]) a8 b8
    refine ⟨p, _, n8, _, rfl, rfl, sq_of h8, hat, ?_⟩
    walk_at "fw"
    have kk : Kp s d H H8 := (((((k1.trans k2).l e3).trans k4).trans k5).trans k6).trans ((Kp.of e7).trans k8)
    refine f_newU S8 (by simp) fun p9 np9 fp9 S9 e9 h9 => ?_
    refine q y (n2 + 1) z p9 _ ⟨by omega, by omega, ?_, ?_⟩ hy (kk.new S8 np9) fp9 (S9.less (by omega)) (kk.l e9) h9
    · simp at hz; omega
    · simp at hz; omega

/-! texts are shown -/
def D_shown1 (vs : List V) (z : V) : Prop := ∃ k : Int, vs = [.int k] ∧ k.natAbs < 10 ^ 60 ∧ z = .str (stepText k)
theorem le100 {k : Int} (h : k.natAbs < 10 ^ 60) : k.natAbs ≤ 10 ^ 100 := Nat.le_trans (Nat.le_of_lt h) (by decide +kernel)
def D_shows (K : PySem.W.Frag) (H : Hp) (vs : List V) (z : V) : Prop := ∃ (l : Addr) (ks : List Int), vs = [.ref l] ∧ SqL K H l (ks.map V.int) ∧ ks.length ≤ 4000 ∧ (∀ k, k ∈ ks → k.natAbs < 10 ^ 60) ∧ z = .str (rowOf ks)
def D_showd (K : PySem.W.Frag) (H : Hp) (vs : List V) (z : V) : Prop := ∃ (p : Addr) (y m d : Int), vs = [.ref p] ∧ SqT K H p [.int y, .int m, .int d] ∧ y.natAbs ≤ 10 ^ 100 ∧ m.natAbs ≤ 10 ^ 100 ∧ d.natAbs ≤ 10 ^ 100 ∧ z = .str (dateText y m d)

/-! the law's own texts -/
def D_row (K : PySem.W.Frag) (H : Hp) (vs : List V) (z : V) : Prop := D_shows K H vs z
theorem ok_law_text (T : Top K mg) : FnOk P w K mg base CX0 1 T.f_law_text T.fd_law_text ["begin"] (spH (D_showd K)) := by
  refine T.F_law_text.ok sc_law_text (fun vs H Q E h => ?_) (fun cdv A outer s H vs Q E hr h => ?_)
  · obtain ⟨z, ⟨p, y, m, d, rfl, _⟩, _⟩ := h; rfl
  · obtain ⟨z, ⟨p, y, m, d, rfl, hD, hy, hm, hd, rfl⟩, q⟩ := h
    refine ⟨_, (pss_one (ps_ret (pe_op op_add_str (pe_op op_add_str (pe_op op_add_str (pe_op op_add_str (pe_callTy call_str_int (by rfl) T.z_str (by decide +kernel) (pa_cons (pe_ix (r := rIxT K) ix_tup (pv 0) pe_int (fun _ _ => rfl)) pa_nil)) pe_str) (pe_callTy call_str_int (by rfl) T.z_str (by decide +kernel) (pa_cons (pe_ix (r := rIxT K) ix_tup (pv 0) pe_int (fun _ _ => rfl)) pa_nil))) pe_str) (pe_callTy call_str_int (by rfl) T.z_str (by decide +kernel) (pa_cons (pe_ix (r := rIxT K) ix_tup (pv 0) pe_int (fun _ _ => rfl)) pa_nil))))), ?_⟩
    have a := num_len hy; have b := num_len hm; have c := num_len hd
    have zz : ("/" : Str).length = 1 := rfl
    have num {j : Nat} {k : Int} (hk : ([.int y, .int m, .int d] : List V)[j]? = some (.int k)) (h1 : k.natAbs ≤ 10 ^ 100) : Ev (tCB (fun xs H Q => ∃ i : Int, xs = [.int i] ∧ i.natAbs.log2 < 1920 ∧ Q (.str (toString i)) H) (tCons (tOp (rIxT K) (tVar 0) (tC (.int (j : Int)))) tNil)) [some (.ref p)] H (.str (Str.ofString (toString k))) := ev_strI (ev_op (ev_var rfl) ev_c (rv_ixTn (j := j) hD hk)) h1
    refine s_ret (ev_addS (ev_addS (ev_addS (ev_addS (num (j := 0) rfl hy) ev_c ?_) (num (j := 1) rfl hm) ?_) ev_c ?_) (num (j := 2) rfl hd) ?_) fun H1 e1 => q H1 e1 <;> (simp only [Str.length_append, zz]; omega)

/-! the law -/
theorem f_lcC {K : PySem.W.Frag} {σ : L2.St} {H : Hp} {Q : VK} {tl te : TE} {tt : TT} {g : TG} {vs : List Nat} (h : tl σ H fun x H1 => tLc (iList K (tC x)) g tt te vs σ H1 Q) : tLc (iList K tl) g tt te vs σ H Q := h
theorem el_catR {K : PySem.W.Frag} {σ : L2.St} {H : Hp} {ta tb : TE} {b : Addr} {xs ys : List V} (h : EvL ta σ H xs) (hb : Ev tb σ H (.ref b)) (hs : H b = some (.lst ys)) (hz : xs.length + ys.length ≤ 100000) : EvL (tOp rCat ta tb) σ H (xs ++ ys) := fun H1 e Q q =>
  h H1 e _ fun p H2 np e2 h2 => hb H2 (e.trans e2) _ fun H3 e3 => ⟨p, b, xs, ys, rfl, rfl, e3 _ _ h2, ((e.trans e2).trans e3) _ _ hs, sz_of hz, fun l hl => q l _ (fresh_back (e2.trans e3) hl) ((e2.trans e3).trans (Ex.new hl)) upd_same⟩
theorem asc_rep {z : Str} {n k : Nat} (h : Asc z n) : Asc (repS z k) (n * k) := ⟨by rw [repS_len]; exact Nat.mul_le_mul_right _ h.1, fun c hc => by
  rw [tl_rep] at hc
  obtain ⟨r, hr, hcr⟩ := List.mem_flatten.mp hc
  rw [(List.mem_replicate.mp hr).2] at hcr
  exact h.2 c hcr⟩
instance (z : Str) (n : Nat) : Decidable (Asc z n) := by unfold Asc; infer_instance
theorem sv_right {z : Str} {H : Hp} (h : Asc z 9000) : SpV spRightS ([.str z] ++ []) H (.bl true) := fun H1 e Q q E => ⟨z, rfl, h, q⟩
theorem date_asc {y m d : Int} (hy : y.natAbs ≤ 10 ^ 100) (hm : m.natAbs ≤ 10 ^ 100) (hd : d.natAbs ≤ 10 ^ 100) : Asc (dateText y m d) 400 := ⟨dateText_len hy hm hd, date_plain y m d⟩
def oddB : List Str := ["1//1", "1/01/1", "1/1/01", "0/1/1", "1/13/1", "1/0/1", "-4/2/29", "-100/2/29", "1/-1/1"]
theorem oddB_asc : ∀ t, t ∈ oddB → Asc t 9000 := by decide +kernel
def oddA (z : Str) : List Str := ["0" ++ z, "-0/1/1", "+" ++ z, z ++ "/1", z ++ " ", " " ++ z, "", "none", "/", "1/1"]
theorem oddA_asc {z : Str} (h : Asc z 400) : ∀ t, t ∈ oddA z → Asc t 9000 := fun t ht => by
  have c0 : Asc ("0" : Str) 2 := by decide +kernel
  have c1 : Asc ("+" : Str) 2 := by decide +kernel
  have c2 : Asc ("/1" : Str) 2 := by decide +kernel
  have c3 : Asc (" " : Str) 2 := by decide +kernel
  unfold oddA at ht
  simp only [List.mem_cons, List.not_mem_nil, or_false] at ht
  rcases ht with rfl | rfl | rfl | rfl | rfl | rfl | rfl | rfl | rfl | rfl
  · exact (asc_app c0 h).le (by decide)
  · decide +kernel
  · exact (asc_app c1 h).le (by decide)
  · exact (asc_app h c2).le (by decide)
  · exact (asc_app h c3).le (by decide)
  · exact (asc_app c3 h).le (by decide)
  all_goals decide +kernel
theorem ok_law (T : Top K mg) : FnOk P w K mg base CX0 7 T.f_law T.fd_law ["script"] (spLaw K) := by
  have G_law_source : FnOk P w K mg base CX0 1 T.f_law_source T.fd_law_source ["script"] (spSource K) := ok_law_source T
  have G_law_draw : FnOk P w K mg base CX0 1 T.f_law_draw T.fd_law_draw ["source", "many"] spDraw := ok_law_draw T
  have G_law_date : FnOk P w K mg base CX0 3 T.f_law_date T.fd_law_date ["source"] (spDate Exists_) := ok_law_date T
  have G_law_text : FnOk P w K mg base CX0 1 T.f_law_text T.fd_law_text ["begin"] (spH (D_showd K)) := ok_law_text T
  have G_law_bent : FnOk P w K mg base CX0 2 T.f_law_bent T.fd_law_bent ["source", "line"] spBentS := ok_law_bent T
  have G_law_right : FnOk P w K mg base CX0 6 T.f_law_right T.fd_law_right ["line"] spRightS := ok_law_right T
  refine T.F_law.ok sc_law (fun vs H Q E h => ?_) (fun cdv A outer st H vs Q E hr h => ?_)
  · obtain ⟨a, ns, rfl, _⟩ := h; rfl
  · obtain ⟨a, ns, rfl, hS, hlen, q⟩ := h
    refine ⟨_, (pss_cons (ps_set (i := 1) sc_law.nd rfl (Or.inl rfl) (pe_call G_law_source (hr.mono (by first | decide | omega)) (by rfl) T.g_law_source T.F_law_source.kp T.b_law_source .nil pass0 (pa_cons (pv 0) pa_nil)))
      (pss_cons (ps_for PassesOwn.never rfl (pi_range1 (by rfl) T.z_range (pa_cons (pe_op op_add pe_int (pe_callB (call_min2 rfl) (by rfl) T.z_min (by decide +kernel) (pa_cons pe_int (pa_cons (pe_callB (r := rLenS K) call_len_seq (by rfl) T.z_len PySem.boot_len (pa_cons (pv 0) pa_nil)) pa_nil)))) pa_nil)) (pg_name (i := 2) sc_law.nd rfl (Or.inl rfl)) (pss_one (ps_for PassesOwn.never rfl (pi_range1 (by rfl) T.z_range (pa_cons pe_int pa_nil)) (pg_name (i := 3) sc_law.nd rfl (Or.inl rfl)) (pss_cons (ps_set (i := 4) sc_law.nd rfl (Or.inr rfl) (pe_call G_law_date (hr.mono (by first | decide | omega)) (by rfl) T.g_law_date T.F_law_date.kp T.b_law_date .nil pass0 (pa_cons (pv 1) pa_nil)))
      (pss_cons (ps_set (i := 5) sc_law.nd rfl (Or.inl rfl) (pe_call G_law_text (hr.mono (by first | decide | omega)) (by rfl) T.g_law_text T.F_law_text.kp T.b_law_text .nil pass0 (pa_cons (pv 4) pa_nil)))
      (pss_cons (ps_setLc (i := 6) (own := [("day", 9)]) (g := gName 9) (tt := tYes) rfl sc_law.nd rfl rfl (sw_true rfl rfl rfl (by decide +kernel)) (pi_list (pe_lst (pa_cons pe_int (pa_cons (pe_op op_add pe_int (pe_call G_law_draw (hr.mono (by first | decide | omega)) (by rfl) T.g_law_draw T.F_law_draw.kp T.b_law_draw .nil pass0 (pa_cons (pv 1) (pa_cons pe_int pa_nil)))) pa_nil)))) (blkOk_by (own := [("day", 9)]) (N := ["script", "source", "k", "turn", "begin", "line", "days", "odd", "some", "day", "one"]) (sc := defScope s_law) (by decide +kernel)) (fun _ _ _ _ _ => (pg_name (i := 9) sc_law.nd rfl (Or.inl rfl))) (fun _ _ _ _ _ => pts_nil) (fun _ _ _ _ _ => (pe_call G_law_text (hr.mono (by first | decide | omega)) (by rfl) T.g_law_text T.F_law_text.kp T.b_law_text .nil pass0 (pa_cons (pe_tup (pa_cons (pe_ix (r := rIxT K) ix_tup (pv 4) pe_int (fun _ _ => rfl)) (pa_cons (pe_ix (r := rIxT K) ix_tup (pv 4) pe_int (fun _ _ => rfl)) (pa_cons (pv 9) pa_nil)))) pa_nil))))
      (pss_cons (ps_set (i := 7) sc_law.nd rfl (Or.inl rfl) (pe_lst (pa_cons (pe_op op_add_str pe_str (pv 5)) (pa_cons pe_str (pa_cons (pe_op op_add_str pe_str (pv 5)) (pa_cons (pe_op op_add_str (pv 5) pe_str) (pa_cons (pe_op op_add_str (pv 5) pe_str) (pa_cons (pe_op op_add_str pe_str (pv 5)) (pa_cons pe_str (pa_cons pe_str (pa_cons pe_str (pa_cons pe_str pa_nil))))))))))))
      (pss_cons (ps_set (i := 7) sc_law.nd rfl (Or.inl rfl) (pe_op op_cat (pv 7) (pe_lst (pa_cons pe_str (pa_cons pe_str (pa_cons pe_str (pa_cons pe_str (pa_cons pe_str (pa_cons pe_str (pa_cons pe_str (pa_cons pe_str (pa_cons pe_str pa_nil))))))))))))
      (pss_cons (ps_set (i := 8) sc_law.nd rfl (Or.inl rfl) (pe_op op_cat (pv 6) (pe_lst (pa_cons (pe_ix (r := rIxL K) ix_list (pv 7) (pe_call G_law_draw (hr.mono (by first | decide | omega)) (by rfl) T.g_law_draw T.F_law_draw.kp T.b_law_draw .nil pass0 (pa_cons (pv 1) (pa_cons pe_int pa_nil))) (fun _ _ => rfl)) (pa_cons (pe_ix (r := rIxL K) ix_list (pv 7) (pe_call G_law_draw (hr.mono (by first | decide | omega)) (by rfl) T.g_law_draw T.F_law_draw.kp T.b_law_draw .nil pass0 (pa_cons (pv 1) (pa_cons pe_int pa_nil))) (fun _ _ => rfl)) (pa_cons (pe_call G_law_bent (hr.mono (by first | decide | omega)) (by rfl) T.g_law_bent T.F_law_bent.kp T.b_law_bent .nil pass0 (pa_cons (pv 1) (pa_cons (pv 5) pa_nil))) pa_nil))))))
      (pss_cons (ps_set (i := 8) sc_law.nd rfl (Or.inl rfl) (pe_op op_cat (pv 8) (pe_lst (pa_cons (pe_call G_law_bent (hr.mono (by first | decide | omega)) (by rfl) T.g_law_bent T.F_law_bent.kp T.b_law_bent .nil pass0 (pa_cons (pv 1) (pa_cons (pv 5) pa_nil))) (pa_cons (pe_op op_add_str (pe_op op_add_str (pe_op op_add_str (pe_op op_add_str (pe_callTy call_str_int (by rfl) T.z_str (by decide +kernel) (pa_cons (pe_ix (r := rIxT K) ix_tup (pv 4) pe_int (fun _ _ => rfl)) pa_nil)) pe_str) (pe_callTy call_str_int (by rfl) T.z_str (by decide +kernel) (pa_cons (pe_ix (r := rIxT K) ix_tup (pv 4) pe_int (fun _ _ => rfl)) pa_nil))) pe_str) (pe_callTy call_str_int (by rfl) T.z_str (by decide +kernel) (pa_cons (pe_ix (r := rIxT K) ix_tup (pv 4) pe_int (fun _ _ => rfl)) pa_nil))) pa_nil)))))
      (pss_cons (ps_set (i := 8) sc_law.nd rfl (Or.inl rfl) (pe_op op_cat (pv 8) (pe_lst (pa_cons (pe_op op_add_str (pe_op op_add_str (pe_ix (r := rIxL K) ix_list (pe_lst (pa_cons pe_str (pa_cons pe_str pa_nil))) (pe_call G_law_draw (hr.mono (by first | decide | omega)) (by rfl) T.g_law_draw T.F_law_draw.kp T.b_law_draw .nil pass0 (pa_cons (pv 1) (pa_cons pe_int pa_nil))) (fun _ _ => rfl)) (pe_op op_mulS pe_str (pe_op op_add pe_int (pe_call G_law_draw (hr.mono (by first | decide | omega)) (by rfl) T.g_law_draw T.F_law_draw.kp T.b_law_draw .nil pass0 (pa_cons (pv 1) (pa_cons pe_int pa_nil)))))) pe_str) pa_nil))))
      (pss_one (ps_if (pt_cmpR (r := rNeD K) (op_neD hr.units) (pe_lc (own := [("one", 10)]) (g := gName 10)  rfl sc_law.nd (pi_list (pe_op op_cat (pe_lst (pa_cons (pv 5) pa_nil)) (pv 8))) (blkOk_by (own := [("one", 10)]) (N := ["script", "source", "k", "turn", "begin", "line", "days", "odd", "some", "day", "one"]) (sc := defScope s_law) (by decide +kernel)) (fun _ _ _ _ _ => (pg_name (i := 10) sc_law.nd rfl (Or.inl rfl))) (fun _ _ _ _ _ => (pts_one (pt_not (pt_val (pe_call G_law_right (hr.mono (by first | decide | omega)) (by rfl) T.g_law_right T.F_law_right.kp T.b_law_right .nil pass0 (pa_cons (pv 10) pa_nil)))))) (fun _ _ _ _ _ => (pv 10))) (pe_lst pa_nil) (nomark _)) (pss_one (ps_ret pe_bl)) pss_nil)))))))))))))
      (pss_cons (ps_if (PW.pt (pw_or (pt_not (pt_val (pe_call G_law_right (hr.mono (by first | decide | omega)) (by rfl) T.g_law_right T.F_law_right.kp T.b_law_right .nil pass0 (pa_cons (pe_op op_add_str (pe_op op_mulS pe_str pe_int) pe_str) pa_nil)))) (pw_or1 (pt_not (pt_val (pe_call G_law_right (hr.mono (by first | decide | omega)) (by rfl) T.g_law_right T.F_law_right.kp T.b_law_right .nil pass0 (pa_cons (pe_op op_add_str pe_str (pe_op op_mulS pe_str pe_int)) pa_nil))))))) (pss_one (ps_ret pe_bl)) pss_nil)
      (pss_one (ps_ret (pe_and (pe_call G_law_right (hr.mono (by first | decide | omega)) (by rfl) T.g_law_right T.F_law_right.kp T.b_law_right .nil pass0 (pa_cons (pe_op op_add_str (pe_op op_mulS pe_str pe_int) pe_str) pa_nil)) (pe_and (pe_call G_law_right (hr.mono (by first | decide | omega)) (by rfl) T.g_law_right T.F_law_right.kp T.b_law_right .nil pass0 (pa_cons (pe_op op_add_str (pe_op op_add_str pe_str (pe_op op_mulS pe_str pe_int)) pe_str) pa_nil)) (pe_one (pe_call G_law_right (hr.mono (by first | decide | omega)) (by rfl) T.g_law_right T.F_law_right.kp T.b_law_right .nil pass0 (pa_cons pe_str pa_nil)))))))))), ?_⟩
    with_reducible refine f_seq ?_
    with_reducible refine f_asg ?_
    refine f_call (f_cons (f_var rfl (f_nil ⟨a, ns, rfl, hS, hlen, fun s d H1 ns1 nd1 S1 e1 => ?_⟩)))
    with_reducible refine f_gName ?_
    with_reducible refine f_seq ?_
    refine s_forR1 (n := 3 + (if ((ns.map V.int).length : Int) < 8 then ((ns.map V.int).length : Int) else 8)) (ea_cons (ev_op ev_c (ev_cb (ea_cons ev_c (ea_cons (ev_lenS (ev_var rfl) (.inl (ex_l e1 hS))) ea_nil)) fun H2 _ Q' q' => ⟨_, _, rfl, q' H2 (Ex.refl H2)⟩) rv_I0) ea_nil) ⟨by split <;> omega, by split <;> omega⟩
      (fun i σ H' => ∃ v2 v3 v4 v5 v6 v7 v8 : Option V, σ = [some (.ref a), some (.ref s), v2, v3, v4, v5, v6, v7, v8, none, none] ∧ Src H' s d (2 ^ 59 - 30000 * i)) (fun H2 e2 => ⟨_, _, _, _, _, _, _, rfl, S1.ex_ e2⟩) (fun i σ H' hi hp => ?_) (fun σ H' hp => ?_)
    · obtain ⟨v2, v3, v4, v5, v6, v7, v8, rfl, S2⟩ := hp
      have hi11 : i < 11 := by split at hi <;> omega
      refine s_forR1 (n := 8) (ea_cons ev_c ea_nil) ⟨by decide, by decide⟩ (fun j σ H' => ∃ v2 v3 v4 v5 v6 v7 v8 : Option V, σ = [some (.ref a), some (.ref s), v2, v3, v4, v5, v6, v7, v8, none, none] ∧ Src H' s d (2 ^ 59 - 30000 * i - 3000 * j)) (fun H2 e2 => ⟨_, _, _, _, _, _, _, rfl, S2.ex_ e2⟩) (fun j σ H' hj hp => ?_) (fun σ H' hp => ?_)
      · obtain ⟨v2, v3, v4, v5, v6, v7, v8, rfl, S3⟩ := hp
        have S3 : Src H' s d (2 ^ 59 - 30000 * i - 3000 * (j + 1) + 1 + 1 + 10 + 10 + 1 + 1 + 1 + 12) := S3.less (by omega)
        generalize hB : 2 ^ 59 - 30000 * i - 3000 * (j + 1) = B at S3
        -- begin, line
        with_reducible refine f_seq ?_
        with_reducible refine f_asg ?_
        refine f_call (f_cons (f_var rfl (f_nil ⟨s, d, B + 1 + 1 + 10 + 10 + 1 + 1 + 1, rfl, S3, fun y m e p4 H4 hE hy np4 fp4 S4 k4 h4 => ?_⟩)))
        with_reducible refine f_gName ?_
        have hy100 : y.natAbs ≤ 10 ^ 100 := Nat.le_trans hy (by decide +kernel)
        have hdl := dlen_bounds y m hE.1 hE.2.1
        have hm100 : m.natAbs ≤ 10 ^ 100 := by
          have he := hE.1; have he1 := hE.2.1
          exact Nat.le_trans (by omega : _ ≤ 12) (by decide +kernel)
        have he100 : e.natAbs ≤ 10 ^ 100 := by
          have he2 := hE.2.2.1; have hd31 := hE.2.2.2
          exact Nat.le_trans (by omega : _ ≤ 31) (by decide +kernel)
        with_reducible refine f_seq ?_
        with_reducible refine f_asg ?_
        refine f_call (f_cons (f_var rfl (f_nil ⟨_, ⟨p4, y, m, e, rfl, st_of h4, hy100, hm100, he100, rfl⟩, fun H5 e5 => ?_⟩)))
        with_reducible refine f_gName ?_
        have hA : Asc (dateText y m e) 400 := date_asc hy100 hm100 he100
        have hA' : Asc (dateText m e y) 400 := date_asc hm100 he100 hy100
        have S5 := S4.ex_ e5
        have h5 := e5 _ _ h4
        clear h4 S4 S3 k4
        -- days
        with_reducible refine f_seq ?_
        with_reducible refine f_asg ?_
        refine f_lcC (f_lst (f_cons (f_c (f_cons (f_op (f_c (f_call (f_cons (f_var rfl (f_cons (f_c (f_nil ?_))))))))))))
        refine f_draw S5 (by decide) (by decide) fun n6 H6 a6 b6 S6 k6 => f_I0 (f_nil ?_)
        refine f_newL S6 (by simp) fun p6 np6 fp6 S6 e6 h6 => ?_
        have h5 := e6 _ _ (k6.at fp4 h5)
        refine f_evL (EvL.is (el_lcI (ns := [0, 28 + n6]) (fun k => .str (dateText y m k)) ev_c (sq_of h6) (by show 2 ≤ 40000; decide) (fun _ => rfl) fun k U x hk => ?_) (List.map_map (f := dateText y m) (g := V.str)).symm) fun p7 H7 np7 e7 h7 => ?_
        · have ix {σ : L2.St} {U' : Hp} {j : Nat} {k : Int} (x' : Ex U U') (hσ : σ[4]? = some (some (.ref p4))) (hj : ([.int y, .int m, .int e] : List V)[j]? = some (.int k)) : Ev (tOp (rIxT K) (tVar 4) (tC (.int (j : Int)))) σ U' (.int k) := ev_op (ev_var hσ) ev_c (rv_ixT (st_of (x' _ _ (x _ _ h5))) (atI_nat (j := j) hj))
          have hk100 : k.natAbs ≤ 10 ^ 100 := by
            simp at hk
            exact Nat.le_trans (by omega : _ ≤ 40) (by decide +kernel)
          exact fun U1 x1 Q1 q1 => f_call (f_cons (f_evU (eu_tup (ea_cons (ix (j := 0) (k := y) x1 rfl rfl) (ea_cons (ix (j := 1) (k := m) x1 rfl rfl) (ea_cons (ev_var rfl) ea_nil))) (by show 3 ≤ 100000; decide)) fun r U2 nr x2 hr2 => f_nil ⟨_, ⟨r, y, m, k, rfl, st_of hr2, hy100, hm100, hk100, rfl⟩, fun U3 x3 => q1 U3 (x2.trans x3)⟩))
        have S7 := S6.ex_ e7
        have fp7 := S6.free np7
        have h5 := e7 _ _ h5
        have A7 : ∀ t, t ∈ [0, 28 + n6].map (dateText y m) → Asc t 9000 := fun t ht => by
          obtain ⟨k, hk, rfl⟩ := List.mem_map.mp ht
          refine (date_asc hy100 hm100 ?_).le (by decide)
          simp at hk
          exact Nat.le_trans (by omega : _ ≤ 40) (by decide +kernel)
        have l7 : ([0, 28 + n6].map (dateText y m)).length = 2 := rfl
        generalize [0, 28 + n6].map (dateText y m) = D7 at h7 A7 l7
        with_reducible refine f_gName ?_
        -- odd
        have hA2 := hA.1
        with_reducible refine f_seq ?_
        refine s_asgL (xs := (oddA (dateText y m e)).map V.str) (el_lst (ea_cons (ev_addS ev_c (ev_var rfl) (Nat.le_trans (Nat.add_le_add (by decide : _ ≤ 2) hA2) (by decide))) (ea_cons ev_c (ea_cons (ev_addS ev_c (ev_var rfl) (Nat.le_trans (Nat.add_le_add (by decide : _ ≤ 2) hA2) (by decide))) (ea_cons (ev_addS (ev_var rfl) ev_c (Nat.le_trans (Nat.add_le_add hA2 (by decide : _ ≤ 2)) (by decide))) (ea_cons (ev_addS (ev_var rfl) ev_c (Nat.le_trans (Nat.add_le_add hA2 (by decide : _ ≤ 2)) (by decide))) (ea_cons (ev_addS ev_c (ev_var rfl) (Nat.le_trans (Nat.add_le_add (by decide : _ ≤ 2) hA2) (by decide))) (ea_cons ev_c (ea_cons ev_c (ea_cons ev_c (ea_cons ev_c ea_nil)))))))))) (by show 10 ≤ 100000; decide)) fun p8 H8 np8 e8 h8 => ?_
        with_reducible refine f_seq ?_
        refine s_asgL (xs := (oddA (dateText y m e)).map V.str ++ oddB.map V.str) (el_catV (ev_var rfl) h8 (el_lst (ea_cons ev_c (ea_cons ev_c (ea_cons ev_c (ea_cons ev_c (ea_cons ev_c (ea_cons ev_c (ea_cons ev_c (ea_cons ev_c (ea_cons ev_c ea_nil))))))))) (by show 9 ≤ 100000; decide)) (by show 19 ≤ 100000; decide)) fun p9 H9 np9 e9 h9 => ?_
        have A9 : ∀ t, t ∈ oddA (dateText y m e) ++ oddB → Asc t 9000 := fun t ht => (List.mem_append.mp ht).elim (oddA_asc hA t) (oddB_asc t)
        have l9 : (oddA (dateText y m e) ++ oddB).length = 19 := rfl
        rw [← List.map_append] at h9
        generalize oddA (dateText y m e) ++ oddB = L at h9 A9 l9
        have S9 := (S7.ex_ e8).ex_ e9
        have fp9 := (S7.ex_ e8).free np9
        have h5 := e9 _ _ (e8 _ _ h5)
        have h7 := e9 _ _ (e8 _ _ h7)
        clear h8 S7 S6 e6 k6 h6 S5 np4
        -- some
        with_reducible refine f_seq ?_
        with_reducible refine f_asg ?_
        refine f_op (f_var rfl (f_lst (f_cons (f_op (f_var rfl (f_call (f_cons (f_var rfl (f_cons (f_c (f_nil ?_))))))))))) 
        refine f_draw S9 (by decide) (by decide) fun n10 H10 a10 b10 S10 k10 => ?_
        obtain ⟨o1, ho1, hat1⟩ := at_strs (L := L) a10 (by omega)
        have h9 := k10.at fp9 h9
        refine ⟨p9, _, n10, .str o1, rfl, rfl, sq_of h9, hat1, ?_⟩
        refine f_cons (f_op (f_var rfl (f_call (f_cons (f_var rfl (f_cons (f_c (f_nil ?_))))))))
        refine f_draw S10 (by decide) (by decide) fun n11 H11 a11 b11 S11 k11 => ?_
        obtain ⟨o2, ho2, hat2⟩ := at_strs (L := L) a11 (by omega)
        have h9 := k11.at fp9 h9
        refine ⟨p9, _, n11, .str o2, rfl, rfl, sq_of h9, hat2, ?_⟩
        refine f_cons (f_call (f_cons (f_var rfl (f_cons (f_var rfl (f_nil ⟨s, d, B + 1 + 1 + 10, dateText y m e, 400, rfl, hA, by decide, S11, fun b1 H12 hb1 S12 k12 => f_nil ?_⟩))))))
        have h5 := k12.at fp4 (k11.at fp4 (k10.at fp4 h5))
        have h7 := k12.at fp7 (k11.at fp7 (k10.at fp7 h7))
        refine f_newL S12 (by simp) fun p13 np13 fp13 S13 e13 h13 => ?_
        have h13 : (upd H12 p13 (.lst [.str o1, .str o2, .str b1])) p13 = some (.lst (([o1, o2, b1] : List Str).map V.str)) := h13
        have h5 := e13 _ _ h5
        have h7 := e13 _ _ h7
        generalize upd H12 p13 (.lst [.str o1, .str o2, .str b1]) = H13 at S13 e13 h13 h5 h7 ⊢
        refine ⟨p7, p13, _, _, rfl, rfl, h7, h13, sz1000 (by rw [List.length_map, l7]; show 5 ≤ 1000; decide), fun p14 np14 => ?_⟩
        have e14 := Ex.new (o := .lst (D7.map V.str ++ ([o1, o2, b1] : List Str).map V.str)) np14
        have S14 := S13.ex_ e14
        have fp14 := S13.free np14
        have h5 := e14 _ _ h5
        have h14 : (upd H13 p14 (.lst (D7.map V.str ++ ([o1, o2, b1] : List Str).map V.str))) p14 = some (.lst ((D7 ++ [o1, o2, b1]).map V.str)) := by rw [upd_same, List.map_append]
        generalize upd H13 p14 (.lst (D7.map V.str ++ ([o1, o2, b1] : List Str).map V.str)) = H14 at S14 h14 h5
        have A14 : ∀ t, t ∈ D7 ++ [o1, o2, b1] → Asc t 9000 := fun t ht => by
          rcases List.mem_append.mp ht with h | h
          · exact A7 t h
          · simp only [List.mem_cons, List.not_mem_nil, or_false] at h
            rcases h with rfl | rfl | rfl
            · exact A9 _ ho1
            · exact A9 _ ho2
            · exact hb1.le (by decide)
        have l14 : (D7 ++ [o1, o2, b1]).length = 5 := by rw [List.length_append, l7]; rfl
        generalize D7 ++ [o1, o2, b1] = D14 at h14 A14 l14
        clear h7 h13 h9 S13 S12 S11 S10 S9 e13 A7 A9 ho1 ho2 hat1 hat2
        with_reducible refine f_gName ?_
        with_reducible refine f_seq ?_
        with_reducible refine f_asg ?_
        refine f_op (f_var rfl (f_lst (f_cons (f_call (f_cons (f_var rfl (f_cons (f_var rfl (f_nil ⟨s, d, B + 1 + 1, dateText y m e, 400, rfl, hA, by decide, S14, fun b2 H15 hb2 S15 k15 => ?_⟩)))))))))
        have h5 := k15.at fp4 h5
        have h14 := k15.at fp14 h14
        have num {σ : L2.St} {j : Nat} {k : Int} (hσ : σ[4]? = some (some (.ref p4))) (hk : ([.int y, .int m, .int e] : List V)[j]? = some (.int k)) (h1 : k.natAbs ≤ 10 ^ 100) : Ev (tCB (fun xs H Q => ∃ i : Int, xs = [.int i] ∧ i.natAbs.log2 < 1920 ∧ Q (.str (toString i)) H) (tCons (tOp (rIxT K) (tVar 4) (tC (.int (j : Int)))) tNil)) σ H15 (.str (Str.ofString (toString k))) := ev_strI (ev_op (ev_var hσ) ev_c (rv_ixTn (j := j) (st_of h5) hk)) h1
        have sp1 : ("/" : Str).length = 1 := rfl
        have len_y := num_len hy100; have len_m := num_len hm100; have len_e := num_len he100
        refine f_cons (f_ev (v := .str (dateText m e y)) (ev_is (ev_addS (ev_addS (ev_addS (ev_addS (num (j := 1) rfl rfl hm100) ev_c ?_) (num (j := 2) rfl rfl he100) ?_) ev_c ?_) (num (j := 0) rfl rfl hy100) ?_) rfl) fun H16 e16 => f_nil ?_)
        iterate 4 (simp only [Str.length_append, sp1]; omega)
        have S16 := S15.ex_ e16
        have h5 := e16 _ _ h5
        have h14 := e16 _ _ h14
        refine f_newL S16 (by simp) fun p17 np17 fp17 S17 e17 h17 => ?_
        have h17 : (upd H16 p17 (.lst [.str b2, .str (dateText m e y)])) p17 = some (.lst (([b2, dateText m e y] : List Str).map V.str)) := h17
        have h14 := e17 _ _ h14
        generalize upd H16 p17 (.lst [.str b2, .str (dateText m e y)]) = H17 at S17 e17 h17 h14 ⊢
        refine ⟨p14, p17, _, _, rfl, rfl, h14, h17, sz1000 (by rw [List.length_map, l14]; show 7 ≤ 1000; decide), fun p18 np18 => ?_⟩
        have e18 := Ex.new (o := .lst (D14.map V.str ++ ([b2, dateText m e y] : List Str).map V.str)) np18
        have S18 := S17.ex_ e18
        have fp18 := S17.free np18
        have h18 : (upd H17 p18 (.lst (D14.map V.str ++ ([b2, dateText m e y] : List Str).map V.str))) p18 = some (.lst ((D14 ++ [b2, dateText m e y]).map V.str)) := by rw [upd_same, List.map_append]
        generalize upd H17 p18 (.lst (D14.map V.str ++ ([b2, dateText m e y] : List Str).map V.str)) = H18 at S18 h18
        have A18 : ∀ t, t ∈ D14 ++ [b2, dateText m e y] → Asc t 9000 := fun t ht => by
          rcases List.mem_append.mp ht with h | h
          · exact A14 t h
          · simp only [List.mem_cons, List.not_mem_nil, or_false] at h
            rcases h with rfl | rfl
            · exact hb2.le (by decide)
            · exact hA'.le (by decide)
        have l18 : (D14 ++ [b2, dateText m e y]).length = 7 := by rw [List.length_append, l14]; rfl
        generalize D14 ++ [b2, dateText m e y] = D18 at h18 A18 l18
        clear h14 h17 S17 S16 S15 S14 e17 A14
        with_reducible refine f_gName ?_
        with_reducible refine f_seq ?_
        with_reducible refine f_asg ?_
        refine f_op (f_var rfl (f_lst (f_cons (f_op (f_op (f_op (f_lst (f_cons (f_c (f_cons (f_c (f_nil ?_)))))))))))) 
        refine f_newL S18 (by simp) fun p19 np19 fp19 S19 e19 h19 => ?_
        have h18 := e19 _ _ h18
        refine f_call (f_cons (f_var rfl (f_cons (f_c (f_nil ?_)))))
        refine f_draw (B := B + 1) S19 (by decide) (by decide) fun n20 H20 a20 b20 S20 k20 => ?_
        obtain ⟨sg, hsg, hat⟩ := at_strs (L := ["", "-"]) a20 b20
        have h18 := k20.at fp18 h18
        refine ⟨p19, _, n20, .str sg, rfl, rfl, sq_of (k20.at fp19 h19), hat, ?_⟩
        have hsgA : Asc sg 1 := by
          simp only [List.mem_cons, List.not_mem_nil, or_false] at hsg
          rcases hsg with rfl | rfl <;> decide +kernel
        refine f_op (f_c (f_op (f_c (f_call (f_cons (f_var rfl (f_cons (f_c (f_nil ?_)))))))))
        refine f_draw (B := B) S20 (by decide) (by decide) fun n21 H21 a21 b21 S21 k21 => f_I0 ?_
        have h18 := k21.at fp18 h18
        obtain ⟨m21, hm21⟩ : ∃ m : Nat, 59 + n21 = (m : Int) := ⟨(59 + n21).toNat, by omega⟩
        rw [hm21]
        refine ⟨_, m21, rfl, rfl, by decide, by show 1 * m21 ≤ 1000000; omega, ?_⟩
        have n9 : Asc ("9" : Str) 1 := by decide +kernel
        have h9 : Asc (repS "9" m21) 100 := (asc_rep (k := m21) n9).le (by omega)
        refine ⟨_, _, rfl, rfl, Nat.le_trans (Nat.add_le_add hsgA.1 h9.1) (by decide), ?_⟩
        have tail : Asc ("/12/31" : Str) 6 := by decide +kernel
        refine f_c ⟨_, _, rfl, rfl, Nat.le_trans (Nat.add_le_add (asc_app hsgA h9).1 tail.1) (by decide), ?_⟩
        have hX : Asc (sg ++ repS "9" m21 ++ "/12/31") 9000 := (asc_app (asc_app hsgA h9) tail).le (by decide)
        generalize sg ++ repS "9" m21 ++ "/12/31" = X at hX
        refine f_nil ?_
        refine f_newL S21 (by simp) fun p22 np22 fp22 S22 e22 h22 => ?_
        have h22 : (upd H21 p22 (.lst [.str X])) p22 = some (.lst (([X] : List Str).map V.str)) := h22
        have h18 := e22 _ _ h18
        generalize upd H21 p22 (.lst [.str X]) = H22 at S22 e22 h22 h18 ⊢
        refine ⟨p18, p22, _, _, rfl, rfl, h18, h22, sz1000 (by rw [List.length_map, l18]; show 8 ≤ 1000; decide), fun p23 np23 => ?_⟩
        have e23 := Ex.new (o := .lst (D18.map V.str ++ ([X] : List Str).map V.str)) np23
        have S23 := S22.ex_ e23
        have h23 : (upd H22 p23 (.lst (D18.map V.str ++ ([X] : List Str).map V.str))) p23 = some (.lst ((D18 ++ [X]).map V.str)) := by rw [upd_same, List.map_append]
        generalize upd H22 p23 (.lst (D18.map V.str ++ ([X] : List Str).map V.str)) = H23 at S23 h23
        have A23 : ∀ t, t ∈ [dateText y m e] ++ (D18 ++ [X]) → Asc t 9000 := fun t ht => by
          rcases List.mem_append.mp ht with h | h
          · rw [List.mem_singleton.mp h]; exact hA.le (by decide)
          · rcases List.mem_append.mp h with h | h
            · exact A18 t h
            · rw [List.mem_singleton.mp h]; exact hX
        have l23 : ([dateText y m e] ++ (D18 ++ [X])).length = 9 := by rw [List.length_append, List.length_append, l18]; rfl
        clear h18 h22 S22 S21 S20 S19 S18 e22 A18
        with_reducible refine f_gName ?_
        -- all are right
        have none_ : EvL (tLc (iList K (tOp rCat (tLst (tCons (tVar 5) tNil)) (tVar 8))) (gName 10) (tNot (tB (tCall spRightS [] E0 (tCons (tVar 10) tNil)))) (tVar 10) [10]) [some (.ref a), some (.ref s), v2, some (.int (j : Int)), some (.ref p4), some (.str (dateText y m e)), some (.ref p7), some (.ref p9), some (.ref p23), none, none] H23 [] := by
          have z := el_lcNL (K := K) (t := tNot (tB (tCall spRightS [] E0 (tCons (tVar 10) tNil)))) (te := tVar 10) (j := 10) (vs := [10]) (σ := [some (.ref a), some (.ref s), v2, some (.int (j : Int)), some (.ref p4), some (.str (dateText y m e)), some (.ref p7), some (.ref p9), some (.ref p23), none, none]) (H := H23) (tl := tOp rCat (tLst (tCons (tVar 5) tNil)) (tVar 8)) (xs := ([dateText y m e] ++ (D18 ++ [X])).map V.str) (fun _ => false) (fun _ => V.non)
            (EvL.is (el_catR (K := K) (xs := [.str (dateText y m e)]) (el_lst (ea_cons (ev_var rfl) ea_nil) (by show 1 ≤ 100000; decide)) (ev_var rfl) h23 (by rw [List.length_map, List.length_append, l18]; show 1 + 8 ≤ 100000; decide)) (by rw [List.map_append (l₁ := [dateText y m e])]; rfl))
            (by rw [List.length_map, l23]; decide) (fun _ => rfl) (fun k x U hU hx => by
            rw [List.getElem?_map] at hx
            obtain ⟨y, hy, rfl⟩ := Option.map_eq_some_iff.mp hx
            exact et_is (et_not (et_B (ev_call (ea_cons (ev_var rfl) ea_nil) (sv_right (A23 y (List.mem_of_getElem? hy)))))) rfl) (fun k x U hU hx hf => nomatch hf)
          exact EvL.is z (by unfold given; rw [List.filter_eq_nil_iff.mpr (by simp)]; rfl)
        refine s_if (b := false) (et_test (ev_neD (d := dL []) (ed_L (xs := []) none_) (ed_L (xs := []) (el_lst ea_nil (Nat.zero_le _))) (shaped_L _))) (fun hb => nomatch hb) fun _ H24 e24 => f_next ?_
        exact ⟨_, _, _, _, _, _, _, rfl, (S23.ex_ e24).less (by rw [← hB]; exact Nat.le_refl _)⟩
      · obtain ⟨v2, v3, v4, v5, v6, v7, v8, rfl, S3⟩ := hp
        exact ⟨_, _, _, _, _, _, _, rfl, S3.less (by show 2 ^ 59 - 30000 * (i + 1) ≤ 2 ^ 59 - 30000 * i - 3000 * 8; omega)⟩
    · obtain ⟨v2, v3, v4, v5, v6, v7, v8, rfl, S2⟩ := hp
      have n1 : Asc (repS "1" 3990) 3990 := asc_rep (k := 3990) (n := 1) (by decide +kernel)
      have t1 : Asc ("/1/1" : Str) 4 := by decide +kernel
      have t2 : Asc ("2023/1/" : Str) 7 := by decide +kernel
      have n9 {k : Nat} (h : k ≤ 61) : Asc (repS "9" k) 61 := (asc_rep (k := k) (n := 1) (by decide +kernel)).le (by omega)
      have tm : Asc ("-" : Str) 1 := by decide +kernel
      with_reducible refine f_seq ?_
      refine s_if (b := false) (et_is (et_or (et_not (et_B (ev_call (E := E0) (ea_cons (ev_addS (ev_mulS (n := 3990) ev_c ev_c rfl (by decide) (by decide)) ev_c (Nat.le_trans (Nat.add_le_add n1.1 t1.1) (by decide))) ea_nil) (sv_right ((asc_app n1 t1).le (by decide)))))) fun _ => et_not (et_B (ev_call (E := E0) (ea_cons (ev_addS ev_c (ev_mulS (n := 3990) ev_c ev_c rfl (by decide) (by decide)) (Nat.le_trans (Nat.add_le_add t2.1 n1.1) (by decide))) ea_nil) (sv_right ((asc_app t2 n1).le (by decide)))))) rfl) (fun hb => nomatch hb) fun _ H2 e2 => f_next ?_
      refine s_ret (ev_andV (ev_call (E := E0) (ea_cons (ev_addS (ev_mulS (n := 60) ev_c ev_c rfl (by decide) (by decide)) ev_c (Nat.le_trans (Nat.add_le_add (n9 (k := 60) (by decide)).1 t1.1) (by decide))) ea_nil) (sv_right ((asc_app (n9 (k := 60) (by decide)) t1).le (by decide)))) fun _ => ev_andV (ev_call (ea_cons (ev_addS (ev_addS ev_c (ev_mulS (n := 61) ev_c ev_c rfl (by decide) (by decide)) (Nat.le_trans (Nat.add_le_add tm.1 (n9 (k := 61) (by decide)).1) (by decide))) ev_c (Nat.le_trans (Nat.add_le_add (asc_app tm (n9 (k := 61) (by decide))).1 t1.1) (by decide))) ea_nil) (sv_right ((asc_app (asc_app tm (n9 (k := 61) (by decide))) t1).le (by decide)))) fun _ => ev_call (ea_cons ev_c ea_nil) (sv_right (by decide +kernel))) fun H3 e3 => q _

end
theorem all_mk {l : PySem.W.OpenLaw} {w : World} {K : PySem.W.Frag} {h : Heap} {mg : Str → Option Value} {fa : Addr} (X : K.In h) (G : h.Ns mainGlobals mg) (hfa : mg "law" = some (.ref fa))
    {od_is_leap an_is_leap : Option Addr} {sl_is_leap : Array (Option Value)} {oc_is_leap kV_is_leap dc_is_leap pm_is_leap cd_is_leap ct_is_leap : Value} {f_is_leap : Addr}
    (a_is_leap : PySem.W.nsIn K mainGlobals "is_leap" = some (some (.ref f_is_leap)))
    (l_is_leap : K.lookup f_is_leap = some ⟨oc_is_leap, od_is_leap, .func (PySem.W.fnOf "is_leap" "is_leap" (defArgs s_is_leap) (defBody s_is_leap) (defScope s_is_leap) .none kV_is_leap dc_is_leap pm_is_leap an_is_leap cd_is_leap ct_is_leap), sl_is_leap⟩)
    (c_is_leap : PySem.W.codeIn K cd_is_leap "is_leap" = true)
    (k_is_leap : PySem.W.keepIn K (.ref f_is_leap) = true)
    {od_days_in an_days_in : Option Addr} {sl_days_in : Array (Option Value)} {oc_days_in kV_days_in dc_days_in pm_days_in cd_days_in ct_days_in : Value} {f_days_in : Addr}
    (a_days_in : PySem.W.nsIn K mainGlobals "days_in" = some (some (.ref f_days_in)))
    (l_days_in : K.lookup f_days_in = some ⟨oc_days_in, od_days_in, .func (PySem.W.fnOf "days_in" "days_in" (defArgs s_days_in) (defBody s_days_in) (defScope s_days_in) .none kV_days_in dc_days_in pm_days_in an_days_in cd_days_in ct_days_in), sl_days_in⟩)
    (c_days_in : PySem.W.codeIn K cd_days_in "days_in" = true)
    (k_days_in : PySem.W.keepIn K (.ref f_days_in) = true)
    {od_check_date an_check_date : Option Addr} {sl_check_date : Array (Option Value)} {oc_check_date kV_check_date dc_check_date pm_check_date cd_check_date ct_check_date : Value} {f_check_date : Addr}
    (a_check_date : PySem.W.nsIn K mainGlobals "check_date" = some (some (.ref f_check_date)))
    (l_check_date : K.lookup f_check_date = some ⟨oc_check_date, od_check_date, .func (PySem.W.fnOf "check_date" "check_date" (defArgs s_check_date) (defBody s_check_date) (defScope s_check_date) .none kV_check_date dc_check_date pm_check_date an_check_date cd_check_date ct_check_date), sl_check_date⟩)
    (c_check_date : PySem.W.codeIn K cd_check_date "check_date" = true)
    (k_check_date : PySem.W.keepIn K (.ref f_check_date) = true)
    {od_read_date an_read_date : Option Addr} {sl_read_date : Array (Option Value)} {oc_read_date kV_read_date dc_read_date pm_read_date cd_read_date ct_read_date : Value} {f_read_date : Addr}
    (a_read_date : PySem.W.nsIn K mainGlobals "read_date" = some (some (.ref f_read_date)))
    (l_read_date : K.lookup f_read_date = some ⟨oc_read_date, od_read_date, .func (PySem.W.fnOf "read_date" "read_date" (defArgs s_read_date) (defBody s_read_date) (defScope s_read_date) .none kV_read_date dc_read_date pm_read_date an_read_date cd_read_date ct_read_date), sl_read_date⟩)
    (c_read_date : PySem.W.codeIn K cd_read_date "read_date" = true)
    (k_read_date : PySem.W.keepIn K (.ref f_read_date) = true)
    {od_integer an_integer : Option Addr} {sl_integer : Array (Option Value)} {oc_integer kV_integer dc_integer pm_integer cd_integer ct_integer : Value} {f_integer : Addr}
    (a_integer : PySem.W.nsIn K mainGlobals "_integer" = some (some (.ref f_integer)))
    (l_integer : K.lookup f_integer = some ⟨oc_integer, od_integer, .func (PySem.W.fnOf "_integer" "_integer" (defArgs s_integer) (defBody s_integer) (defScope s_integer) .none kV_integer dc_integer pm_integer an_integer cd_integer ct_integer), sl_integer⟩)
    (c_integer : PySem.W.codeIn K cd_integer "_integer" = true)
    (k_integer : PySem.W.keepIn K (.ref f_integer) = true)
    {od_is_positive an_is_positive : Option Addr} {sl_is_positive : Array (Option Value)} {oc_is_positive kV_is_positive dc_is_positive pm_is_positive cd_is_positive ct_is_positive : Value} {f_is_positive : Addr}
    (a_is_positive : PySem.W.nsIn K mainGlobals "_is_positive" = some (some (.ref f_is_positive)))
    (l_is_positive : K.lookup f_is_positive = some ⟨oc_is_positive, od_is_positive, .func (PySem.W.fnOf "_is_positive" "_is_positive" (defArgs s_is_positive) (defBody s_is_positive) (defScope s_is_positive) .none kV_is_positive dc_is_positive pm_is_positive an_is_positive cd_is_positive ct_is_positive), sl_is_positive⟩)
    (c_is_positive : PySem.W.codeIn K cd_is_positive "_is_positive" = true)
    (k_is_positive : PySem.W.keepIn K (.ref f_is_positive) = true)
    {od_law_source an_law_source : Option Addr} {sl_law_source : Array (Option Value)} {oc_law_source kV_law_source dc_law_source pm_law_source cd_law_source ct_law_source : Value} {f_law_source : Addr}
    (a_law_source : PySem.W.nsIn K mainGlobals "_law_source" = some (some (.ref f_law_source)))
    (l_law_source : K.lookup f_law_source = some ⟨oc_law_source, od_law_source, .func (PySem.W.fnOf "_law_source" "_law_source" (defArgs s_law_source) (defBody s_law_source) (defScope s_law_source) .none kV_law_source dc_law_source pm_law_source an_law_source cd_law_source ct_law_source), sl_law_source⟩)
    (c_law_source : PySem.W.codeIn K cd_law_source "_law_source" = true)
    (k_law_source : PySem.W.keepIn K (.ref f_law_source) = true)
    {od_law_draw an_law_draw : Option Addr} {sl_law_draw : Array (Option Value)} {oc_law_draw kV_law_draw dc_law_draw pm_law_draw cd_law_draw ct_law_draw : Value} {f_law_draw : Addr}
    (a_law_draw : PySem.W.nsIn K mainGlobals "_law_draw" = some (some (.ref f_law_draw)))
    (l_law_draw : K.lookup f_law_draw = some ⟨oc_law_draw, od_law_draw, .func (PySem.W.fnOf "_law_draw" "_law_draw" (defArgs s_law_draw) (defBody s_law_draw) (defScope s_law_draw) .none kV_law_draw dc_law_draw pm_law_draw an_law_draw cd_law_draw ct_law_draw), sl_law_draw⟩)
    (c_law_draw : PySem.W.codeIn K cd_law_draw "_law_draw" = true)
    (k_law_draw : PySem.W.keepIn K (.ref f_law_draw) = true)
    {od_law_same an_law_same : Option Addr} {sl_law_same : Array (Option Value)} {oc_law_same kV_law_same dc_law_same pm_law_same cd_law_same ct_law_same : Value} {f_law_same : Addr}
    (a_law_same : PySem.W.nsIn K mainGlobals "_law_same" = some (some (.ref f_law_same)))
    (l_law_same : K.lookup f_law_same = some ⟨oc_law_same, od_law_same, .func (PySem.W.fnOf "_law_same" "_law_same" (defArgs s_law_same) (defBody s_law_same) (defScope s_law_same) .none kV_law_same dc_law_same pm_law_same an_law_same cd_law_same ct_law_same), sl_law_same⟩)
    (c_law_same : PySem.W.codeIn K cd_law_same "_law_same" = true)
    (k_law_same : PySem.W.keepIn K (.ref f_law_same) = true)
    {od_law_leap an_law_leap : Option Addr} {sl_law_leap : Array (Option Value)} {oc_law_leap kV_law_leap dc_law_leap pm_law_leap cd_law_leap ct_law_leap : Value} {f_law_leap : Addr}
    (a_law_leap : PySem.W.nsIn K mainGlobals "_law_leap" = some (some (.ref f_law_leap)))
    (l_law_leap : K.lookup f_law_leap = some ⟨oc_law_leap, od_law_leap, .func (PySem.W.fnOf "_law_leap" "_law_leap" (defArgs s_law_leap) (defBody s_law_leap) (defScope s_law_leap) .none kV_law_leap dc_law_leap pm_law_leap an_law_leap cd_law_leap ct_law_leap), sl_law_leap⟩)
    (c_law_leap : PySem.W.codeIn K cd_law_leap "_law_leap" = true)
    (k_law_leap : PySem.W.keepIn K (.ref f_law_leap) = true)
    {od_law_length an_law_length : Option Addr} {sl_law_length : Array (Option Value)} {oc_law_length kV_law_length dc_law_length pm_law_length cd_law_length ct_law_length : Value} {f_law_length : Addr}
    (a_law_length : PySem.W.nsIn K mainGlobals "_law_length" = some (some (.ref f_law_length)))
    (l_law_length : K.lookup f_law_length = some ⟨oc_law_length, od_law_length, .func (PySem.W.fnOf "_law_length" "_law_length" (defArgs s_law_length) (defBody s_law_length) (defScope s_law_length) .none kV_law_length dc_law_length pm_law_length an_law_length cd_law_length ct_law_length), sl_law_length⟩)
    (c_law_length : PySem.W.codeIn K cd_law_length "_law_length" = true)
    (k_law_length : PySem.W.keepIn K (.ref f_law_length) = true)
    {od_law_count an_law_count : Option Addr} {sl_law_count : Array (Option Value)} {oc_law_count kV_law_count dc_law_count pm_law_count cd_law_count ct_law_count : Value} {f_law_count : Addr}
    (a_law_count : PySem.W.nsIn K mainGlobals "_law_count" = some (some (.ref f_law_count)))
    (l_law_count : K.lookup f_law_count = some ⟨oc_law_count, od_law_count, .func (PySem.W.fnOf "_law_count" "_law_count" (defArgs s_law_count) (defBody s_law_count) (defScope s_law_count) .none kV_law_count dc_law_count pm_law_count an_law_count cd_law_count ct_law_count), sl_law_count⟩)
    (c_law_count : PySem.W.codeIn K cd_law_count "_law_count" = true)
    (k_law_count : PySem.W.keepIn K (.ref f_law_count) = true)
    {od_law_date an_law_date : Option Addr} {sl_law_date : Array (Option Value)} {oc_law_date kV_law_date dc_law_date pm_law_date cd_law_date ct_law_date : Value} {f_law_date : Addr}
    (a_law_date : PySem.W.nsIn K mainGlobals "_law_date" = some (some (.ref f_law_date)))
    (l_law_date : K.lookup f_law_date = some ⟨oc_law_date, od_law_date, .func (PySem.W.fnOf "_law_date" "_law_date" (defArgs s_law_date) (defBody s_law_date) (defScope s_law_date) .none kV_law_date dc_law_date pm_law_date an_law_date cd_law_date ct_law_date), sl_law_date⟩)
    (c_law_date : PySem.W.codeIn K cd_law_date "_law_date" = true)
    (k_law_date : PySem.W.keepIn K (.ref f_law_date) = true)
    {od_law_text an_law_text : Option Addr} {sl_law_text : Array (Option Value)} {oc_law_text kV_law_text dc_law_text pm_law_text cd_law_text ct_law_text : Value} {f_law_text : Addr}
    (a_law_text : PySem.W.nsIn K mainGlobals "_law_text" = some (some (.ref f_law_text)))
    (l_law_text : K.lookup f_law_text = some ⟨oc_law_text, od_law_text, .func (PySem.W.fnOf "_law_text" "_law_text" (defArgs s_law_text) (defBody s_law_text) (defScope s_law_text) .none kV_law_text dc_law_text pm_law_text an_law_text cd_law_text ct_law_text), sl_law_text⟩)
    (c_law_text : PySem.W.codeIn K cd_law_text "_law_text" = true)
    (k_law_text : PySem.W.keepIn K (.ref f_law_text) = true)
    {od_law_number an_law_number : Option Addr} {sl_law_number : Array (Option Value)} {oc_law_number kV_law_number dc_law_number pm_law_number cd_law_number ct_law_number : Value} {f_law_number : Addr}
    (a_law_number : PySem.W.nsIn K mainGlobals "_law_number" = some (some (.ref f_law_number)))
    (l_law_number : K.lookup f_law_number = some ⟨oc_law_number, od_law_number, .func (PySem.W.fnOf "_law_number" "_law_number" (defArgs s_law_number) (defBody s_law_number) (defScope s_law_number) .none kV_law_number dc_law_number pm_law_number an_law_number cd_law_number ct_law_number), sl_law_number⟩)
    (c_law_number : PySem.W.codeIn K cd_law_number "_law_number" = true)
    (k_law_number : PySem.W.keepIn K (.ref f_law_number) = true)
    {od_law_date_in an_law_date_in : Option Addr} {sl_law_date_in : Array (Option Value)} {oc_law_date_in kV_law_date_in dc_law_date_in pm_law_date_in cd_law_date_in ct_law_date_in : Value} {f_law_date_in : Addr}
    (a_law_date_in : PySem.W.nsIn K mainGlobals "_law_date_in" = some (some (.ref f_law_date_in)))
    (l_law_date_in : K.lookup f_law_date_in = some ⟨oc_law_date_in, od_law_date_in, .func (PySem.W.fnOf "_law_date_in" "_law_date_in" (defArgs s_law_date_in) (defBody s_law_date_in) (defScope s_law_date_in) .none kV_law_date_in dc_law_date_in pm_law_date_in an_law_date_in cd_law_date_in ct_law_date_in), sl_law_date_in⟩)
    (c_law_date_in : PySem.W.codeIn K cd_law_date_in "_law_date_in" = true)
    (k_law_date_in : PySem.W.keepIn K (.ref f_law_date_in) = true)
    {od_law_bent an_law_bent : Option Addr} {sl_law_bent : Array (Option Value)} {oc_law_bent kV_law_bent dc_law_bent pm_law_bent cd_law_bent ct_law_bent : Value} {f_law_bent : Addr}
    (a_law_bent : PySem.W.nsIn K mainGlobals "_law_bent" = some (some (.ref f_law_bent)))
    (l_law_bent : K.lookup f_law_bent = some ⟨oc_law_bent, od_law_bent, .func (PySem.W.fnOf "_law_bent" "_law_bent" (defArgs s_law_bent) (defBody s_law_bent) (defScope s_law_bent) .none kV_law_bent dc_law_bent pm_law_bent an_law_bent cd_law_bent ct_law_bent), sl_law_bent⟩)
    (c_law_bent : PySem.W.codeIn K cd_law_bent "_law_bent" = true)
    (k_law_bent : PySem.W.keepIn K (.ref f_law_bent) = true)
    {od_law_error an_law_error : Option Addr} {sl_law_error : Array (Option Value)} {oc_law_error kV_law_error dc_law_error pm_law_error cd_law_error ct_law_error : Value} {f_law_error : Addr}
    (a_law_error : PySem.W.nsIn K mainGlobals "_law_error" = some (some (.ref f_law_error)))
    (l_law_error : K.lookup f_law_error = some ⟨oc_law_error, od_law_error, .func (PySem.W.fnOf "_law_error" "_law_error" (defArgs s_law_error) (defBody s_law_error) (defScope s_law_error) .none kV_law_error dc_law_error pm_law_error an_law_error cd_law_error ct_law_error), sl_law_error⟩)
    (c_law_error : PySem.W.codeIn K cd_law_error "_law_error" = true)
    (k_law_error : PySem.W.keepIn K (.ref f_law_error) = true)
    {od_law_told an_law_told : Option Addr} {sl_law_told : Array (Option Value)} {oc_law_told kV_law_told dc_law_told pm_law_told cd_law_told ct_law_told : Value} {f_law_told : Addr}
    (a_law_told : PySem.W.nsIn K mainGlobals "_law_told" = some (some (.ref f_law_told)))
    (l_law_told : K.lookup f_law_told = some ⟨oc_law_told, od_law_told, .func (PySem.W.fnOf "_law_told" "_law_told" (defArgs s_law_told) (defBody s_law_told) (defScope s_law_told) .none kV_law_told dc_law_told pm_law_told an_law_told cd_law_told ct_law_told), sl_law_told⟩)
    (c_law_told : PySem.W.codeIn K cd_law_told "_law_told" = true)
    (k_law_told : PySem.W.keepIn K (.ref f_law_told) = true)
    {od_law_right an_law_right : Option Addr} {sl_law_right : Array (Option Value)} {oc_law_right kV_law_right dc_law_right pm_law_right cd_law_right ct_law_right : Value} {f_law_right : Addr}
    (a_law_right : PySem.W.nsIn K mainGlobals "_law_right" = some (some (.ref f_law_right)))
    (l_law_right : K.lookup f_law_right = some ⟨oc_law_right, od_law_right, .func (PySem.W.fnOf "_law_right" "_law_right" (defArgs s_law_right) (defBody s_law_right) (defScope s_law_right) .none kV_law_right dc_law_right pm_law_right an_law_right cd_law_right ct_law_right), sl_law_right⟩)
    (c_law_right : PySem.W.codeIn K cd_law_right "_law_right" = true)
    (k_law_right : PySem.W.keepIn K (.ref f_law_right) = true)
    {od_law an_law : Option Addr} {sl_law : Array (Option Value)} {oc_law kV_law dc_law pm_law cd_law ct_law : Value} {f_law : Addr}
    (a_law : PySem.W.nsIn K mainGlobals "law" = some (some (.ref f_law)))
    (l_law : K.lookup f_law = some ⟨oc_law, od_law, .func (PySem.W.fnOf "law" "law" (defArgs s_law) (defBody s_law) (defScope s_law) .none kV_law dc_law pm_law an_law cd_law ct_law), sl_law⟩)
    (c_law : PySem.W.codeIn K cd_law "law" = true)
    (k_law : PySem.W.keepIn K (.ref f_law) = true)
    (z_ValueError : PySem.W.nsIn K mainGlobals "ValueError" = some none)
    (z_bool : PySem.W.nsIn K mainGlobals "bool" = some none)
    (z_int : PySem.W.nsIn K mainGlobals "int" = some none)
    (z_isinstance : PySem.W.nsIn K mainGlobals "isinstance" = some none)
    (z_len : PySem.W.nsIn K mainGlobals "len" = some none)
    (z_list : PySem.W.nsIn K mainGlobals "list" = some none)
    (z_max : PySem.W.nsIn K mainGlobals "max" = some none)
    (z_min : PySem.W.nsIn K mainGlobals "min" = some none)
    (z_range : PySem.W.nsIn K mainGlobals "range" = some none)
    (z_str : PySem.W.nsIn K mainGlobals "str" = some none)
    (z_tuple : PySem.W.nsIn K mainGlobals "tuple" = some none)
    {ca_DAYS_IN_COMMON_YEAR : Addr} {cd_DAYS_IN_COMMON_YEAR : Option Addr} {cs_DAYS_IN_COMMON_YEAR : Array (Option Value)} {cn_DAYS_IN_COMMON_YEAR : Nat} {ct_DAYS_IN_COMMON_YEAR_0 ct_DAYS_IN_COMMON_YEAR_1 ct_DAYS_IN_COMMON_YEAR_2 ct_DAYS_IN_COMMON_YEAR_3 ct_DAYS_IN_COMMON_YEAR_4 ct_DAYS_IN_COMMON_YEAR_5 ct_DAYS_IN_COMMON_YEAR_6 ct_DAYS_IN_COMMON_YEAR_7 ct_DAYS_IN_COMMON_YEAR_8 ct_DAYS_IN_COMMON_YEAR_9 ct_DAYS_IN_COMMON_YEAR_10 ct_DAYS_IN_COMMON_YEAR_11 : Tok}
    (ga_DAYS_IN_COMMON_YEAR : PySem.W.nsIn K mainGlobals "_DAYS_IN_COMMON_YEAR" = some (some (.ref ca_DAYS_IN_COMMON_YEAR)))
    (gl_DAYS_IN_COMMON_YEAR : K.lookup ca_DAYS_IN_COMMON_YEAR = some ⟨.type "tuple", cd_DAYS_IN_COMMON_YEAR, .seq #[.int 31 ct_DAYS_IN_COMMON_YEAR_0, .int 28 ct_DAYS_IN_COMMON_YEAR_1, .int 31 ct_DAYS_IN_COMMON_YEAR_2, .int 30 ct_DAYS_IN_COMMON_YEAR_3, .int 31 ct_DAYS_IN_COMMON_YEAR_4, .int 30 ct_DAYS_IN_COMMON_YEAR_5, .int 31 ct_DAYS_IN_COMMON_YEAR_6, .int 31 ct_DAYS_IN_COMMON_YEAR_7, .int 30 ct_DAYS_IN_COMMON_YEAR_8, .int 31 ct_DAYS_IN_COMMON_YEAR_9, .int 30 ct_DAYS_IN_COMMON_YEAR_10, .int 31 ct_DAYS_IN_COMMON_YEAR_11] cn_DAYS_IN_COMMON_YEAR, cs_DAYS_IN_COMMON_YEAR⟩)
    {ct_MOST_DIGITS : Tok}
    (ga_MOST_DIGITS : PySem.W.nsIn K mainGlobals "_MOST_DIGITS" = some (some (.int 60 ct_MOST_DIGITS)))
    (sgx : PySem.W.specialIn K (.builtin "object.__class__") "__get__" = some (some (.builtin "getset_descriptor.__get__")))
    (tkx : PySem.W.takesIn K (.builtin "object.__class__") = some true)
    {C_DateError : Addr} {nm_DateError q_DateError : Str} {N_DateError : Addr} {bs_DateError : List Value} {sn_DateError : List Str} {sb_DateError : List Value} {ab_DateError : Bool} {co_DateError : Option Bool} {dd_DateError : Option Addr} {m0_DateError m1_DateError m2_DateError m3_DateError m5_DateError : Option Value}
    (aC_DateError : PySem.W.nsIn K mainGlobals "DateError" = some (some (.ref C_DateError)))
    (xL_DateError : K.lookup C_DateError = some (excClassObj nm_DateError q_DateError C_DateError N_DateError bs_DateError [.type "ValueError", .type "Exception", .type "BaseException", .type "object"] true sn_DateError sb_DateError ab_DateError co_DateError dd_DateError m0_DateError m1_DateError m2_DateError m3_DateError m5_DateError "ValueError.__new__"))
    (eC_DateError : PySem.W.subIn K (.ref C_DateError) (.type "BaseException") = some true)
    (hC_DateError : PySem.W.hasDictIn K C_DateError = true)
    (tC_DateError : PySem.W.typeIn K (.ref C_DateError) = some (.type "type"))
    {C_InvalidDate : Addr} {nm_InvalidDate q_InvalidDate : Str} {N_InvalidDate : Addr} {bs_InvalidDate : List Value} {sn_InvalidDate : List Str} {sb_InvalidDate : List Value} {ab_InvalidDate : Bool} {co_InvalidDate : Option Bool} {dd_InvalidDate : Option Addr} {m0_InvalidDate m1_InvalidDate m2_InvalidDate m3_InvalidDate m5_InvalidDate : Option Value}
    (aC_InvalidDate : PySem.W.nsIn K mainGlobals "InvalidDate" = some (some (.ref C_InvalidDate)))
    (xL_InvalidDate : K.lookup C_InvalidDate = some (excClassObj nm_InvalidDate q_InvalidDate C_InvalidDate N_InvalidDate bs_InvalidDate [.ref C_DateError, .type "ValueError", .type "Exception", .type "BaseException", .type "object"] true sn_InvalidDate sb_InvalidDate ab_InvalidDate co_InvalidDate dd_InvalidDate m0_InvalidDate m1_InvalidDate m2_InvalidDate m3_InvalidDate m5_InvalidDate "ValueError.__new__"))
    (eC_InvalidDate : PySem.W.subIn K (.ref C_InvalidDate) (.type "BaseException") = some true)
    (hC_InvalidDate : PySem.W.hasDictIn K C_InvalidDate = true)
    (tC_InvalidDate : PySem.W.typeIn K (.ref C_InvalidDate) = some (.type "type"))
    {fI_InvalidDate : Addr} {oI_InvalidDate dI_InvalidDate pI_InvalidDate cdI_InvalidDate ctI_InvalidDate : Value} {odI_InvalidDate anI_InvalidDate : Option Addr} {slI_InvalidDate : Array (Option Value)}
    (sa_InvalidDate : PySem.W.findIn K (.ref C_InvalidDate) "__setattr__" = some (some (.builtin "object.__setattr__")))
    (ga_InvalidDate : PySem.W.findIn K (.ref C_InvalidDate) "__getattribute__" = some (some (.builtin "BaseException.__getattribute__")))
    (gg_InvalidDate : PySem.W.findIn K (.ref C_InvalidDate) "__getattr__" = some none)
    (nv_InvalidDate : PySem.W.findIn K (.ref C_InvalidDate) "value" = some none)
    (ca_InvalidDate : PySem.W.findIn K (.ref C_InvalidDate) "__class__" = some (some (.builtin "object.__class__")))
    (aI_InvalidDate : PySem.W.findIn K (.ref C_InvalidDate) "__init__" = some (some (.ref fI_InvalidDate)))
    (tI_InvalidDate : PySem.W.typeIn K (.ref fI_InvalidDate) = some (.type "function"))
    (lI_InvalidDate : K.lookup fI_InvalidDate = some ⟨oI_InvalidDate, odI_InvalidDate, .func (PySem.W.fnOf "__init__" "InvalidDate.__init__" (defArgs m_InvalidDate) (defBody m_InvalidDate) (defScope m_InvalidDate) .none .none dI_InvalidDate pI_InvalidDate anI_InvalidDate cdI_InvalidDate ctI_InvalidDate), slI_InvalidDate⟩)
    (cI_InvalidDate : PySem.W.codeIn K cdI_InvalidDate "InvalidDate.__init__" = true)
    (kI_InvalidDate : PySem.W.keepIn K (.ref fI_InvalidDate) = true)
    (kC_InvalidDate : PySem.W.keepIn K (.ref C_InvalidDate) = true)
    (mo_InvalidDate : PySem.W.mroIn K C_InvalidDate (.type "object") = some true)
    {C_InvalidNumber : Addr} {nm_InvalidNumber q_InvalidNumber : Str} {N_InvalidNumber : Addr} {bs_InvalidNumber : List Value} {sn_InvalidNumber : List Str} {sb_InvalidNumber : List Value} {ab_InvalidNumber : Bool} {co_InvalidNumber : Option Bool} {dd_InvalidNumber : Option Addr} {m0_InvalidNumber m1_InvalidNumber m2_InvalidNumber m3_InvalidNumber m5_InvalidNumber : Option Value}
    (aC_InvalidNumber : PySem.W.nsIn K mainGlobals "InvalidNumber" = some (some (.ref C_InvalidNumber)))
    (xL_InvalidNumber : K.lookup C_InvalidNumber = some (excClassObj nm_InvalidNumber q_InvalidNumber C_InvalidNumber N_InvalidNumber bs_InvalidNumber [.ref C_DateError, .type "ValueError", .type "Exception", .type "BaseException", .type "object"] true sn_InvalidNumber sb_InvalidNumber ab_InvalidNumber co_InvalidNumber dd_InvalidNumber m0_InvalidNumber m1_InvalidNumber m2_InvalidNumber m3_InvalidNumber m5_InvalidNumber "ValueError.__new__"))
    (eC_InvalidNumber : PySem.W.subIn K (.ref C_InvalidNumber) (.type "BaseException") = some true)
    (hC_InvalidNumber : PySem.W.hasDictIn K C_InvalidNumber = true)
    (tC_InvalidNumber : PySem.W.typeIn K (.ref C_InvalidNumber) = some (.type "type"))
    {fI_InvalidNumber : Addr} {oI_InvalidNumber dI_InvalidNumber pI_InvalidNumber cdI_InvalidNumber ctI_InvalidNumber : Value} {odI_InvalidNumber anI_InvalidNumber : Option Addr} {slI_InvalidNumber : Array (Option Value)}
    (sa_InvalidNumber : PySem.W.findIn K (.ref C_InvalidNumber) "__setattr__" = some (some (.builtin "object.__setattr__")))
    (ga_InvalidNumber : PySem.W.findIn K (.ref C_InvalidNumber) "__getattribute__" = some (some (.builtin "BaseException.__getattribute__")))
    (gg_InvalidNumber : PySem.W.findIn K (.ref C_InvalidNumber) "__getattr__" = some none)
    (nv_InvalidNumber : PySem.W.findIn K (.ref C_InvalidNumber) "value" = some none)
    (ca_InvalidNumber : PySem.W.findIn K (.ref C_InvalidNumber) "__class__" = some (some (.builtin "object.__class__")))
    (aI_InvalidNumber : PySem.W.findIn K (.ref C_InvalidNumber) "__init__" = some (some (.ref fI_InvalidNumber)))
    (tI_InvalidNumber : PySem.W.typeIn K (.ref fI_InvalidNumber) = some (.type "function"))
    (lI_InvalidNumber : K.lookup fI_InvalidNumber = some ⟨oI_InvalidNumber, odI_InvalidNumber, .func (PySem.W.fnOf "__init__" "InvalidNumber.__init__" (defArgs m_InvalidNumber) (defBody m_InvalidNumber) (defScope m_InvalidNumber) .none .none dI_InvalidNumber pI_InvalidNumber anI_InvalidNumber cdI_InvalidNumber ctI_InvalidNumber), slI_InvalidNumber⟩)
    (cI_InvalidNumber : PySem.W.codeIn K cdI_InvalidNumber "InvalidNumber.__init__" = true)
    (kI_InvalidNumber : PySem.W.keepIn K (.ref fI_InvalidNumber) = true)
    (kC_InvalidNumber : PySem.W.keepIn K (.ref C_InvalidNumber) = true)
    (mo_InvalidNumber : PySem.W.mroIn K C_InvalidNumber (.type "object") = some true)
    {C_NothingToUndo : Addr} {nm_NothingToUndo q_NothingToUndo : Str} {N_NothingToUndo : Addr} {bs_NothingToUndo : List Value} {sn_NothingToUndo : List Str} {sb_NothingToUndo : List Value} {ab_NothingToUndo : Bool} {co_NothingToUndo : Option Bool} {dd_NothingToUndo : Option Addr} {m0_NothingToUndo m1_NothingToUndo m2_NothingToUndo m3_NothingToUndo m5_NothingToUndo : Option Value}
    (aC_NothingToUndo : PySem.W.nsIn K mainGlobals "NothingToUndo" = some (some (.ref C_NothingToUndo)))
    (xL_NothingToUndo : K.lookup C_NothingToUndo = some (excClassObj nm_NothingToUndo q_NothingToUndo C_NothingToUndo N_NothingToUndo bs_NothingToUndo [.ref C_DateError, .type "ValueError", .type "Exception", .type "BaseException", .type "object"] true sn_NothingToUndo sb_NothingToUndo ab_NothingToUndo co_NothingToUndo dd_NothingToUndo m0_NothingToUndo m1_NothingToUndo m2_NothingToUndo m3_NothingToUndo m5_NothingToUndo "ValueError.__new__"))
    (eC_NothingToUndo : PySem.W.subIn K (.ref C_NothingToUndo) (.type "BaseException") = some true)
    (hC_NothingToUndo : PySem.W.hasDictIn K C_NothingToUndo = true)
    (tC_NothingToUndo : PySem.W.typeIn K (.ref C_NothingToUndo) = some (.type "type"))
    {fI_NothingToUndo : Addr} {oI_NothingToUndo dI_NothingToUndo pI_NothingToUndo cdI_NothingToUndo ctI_NothingToUndo : Value} {odI_NothingToUndo anI_NothingToUndo : Option Addr} {slI_NothingToUndo : Array (Option Value)}
    (sa_NothingToUndo : PySem.W.findIn K (.ref C_NothingToUndo) "__setattr__" = some (some (.builtin "object.__setattr__")))
    (ga_NothingToUndo : PySem.W.findIn K (.ref C_NothingToUndo) "__getattribute__" = some (some (.builtin "BaseException.__getattribute__")))
    (gg_NothingToUndo : PySem.W.findIn K (.ref C_NothingToUndo) "__getattr__" = some none)
    (nv_NothingToUndo : PySem.W.findIn K (.ref C_NothingToUndo) "value" = some none)
    (ca_NothingToUndo : PySem.W.findIn K (.ref C_NothingToUndo) "__class__" = some (some (.builtin "object.__class__")))
    (aI_NothingToUndo : PySem.W.findIn K (.ref C_NothingToUndo) "__init__" = some (some (.ref fI_NothingToUndo)))
    (tI_NothingToUndo : PySem.W.typeIn K (.ref fI_NothingToUndo) = some (.type "function"))
    (lI_NothingToUndo : K.lookup fI_NothingToUndo = some ⟨oI_NothingToUndo, odI_NothingToUndo, .func (PySem.W.fnOf "__init__" "NothingToUndo.__init__" (defArgs m_NothingToUndo) (defBody m_NothingToUndo) (defScope m_NothingToUndo) .none .none dI_NothingToUndo pI_NothingToUndo anI_NothingToUndo cdI_NothingToUndo ctI_NothingToUndo), slI_NothingToUndo⟩)
    (cI_NothingToUndo : PySem.W.codeIn K cdI_NothingToUndo "NothingToUndo.__init__" = true)
    (kI_NothingToUndo : PySem.W.keepIn K (.ref fI_NothingToUndo) = true)
    (kC_NothingToUndo : PySem.W.keepIn K (.ref C_NothingToUndo) = true)
    (mo_NothingToUndo : PySem.W.mroIn K C_NothingToUndo (.type "object") = some true)
    {C_Unreadable : Addr} {nm_Unreadable q_Unreadable : Str} {N_Unreadable : Addr} {bs_Unreadable : List Value} {sn_Unreadable : List Str} {sb_Unreadable : List Value} {ab_Unreadable : Bool} {co_Unreadable : Option Bool} {dd_Unreadable : Option Addr} {m0_Unreadable m1_Unreadable m2_Unreadable m3_Unreadable m5_Unreadable : Option Value}
    (aC_Unreadable : PySem.W.nsIn K mainGlobals "Unreadable" = some (some (.ref C_Unreadable)))
    (xL_Unreadable : K.lookup C_Unreadable = some (excClassObj nm_Unreadable q_Unreadable C_Unreadable N_Unreadable bs_Unreadable [.ref C_DateError, .type "ValueError", .type "Exception", .type "BaseException", .type "object"] true sn_Unreadable sb_Unreadable ab_Unreadable co_Unreadable dd_Unreadable m0_Unreadable m1_Unreadable m2_Unreadable m3_Unreadable m5_Unreadable "ValueError.__new__"))
    (eC_Unreadable : PySem.W.subIn K (.ref C_Unreadable) (.type "BaseException") = some true)
    (hC_Unreadable : PySem.W.hasDictIn K C_Unreadable = true)
    (tC_Unreadable : PySem.W.typeIn K (.ref C_Unreadable) = some (.type "type"))
    {fI_Unreadable : Addr} {oI_Unreadable dI_Unreadable pI_Unreadable cdI_Unreadable ctI_Unreadable : Value} {odI_Unreadable anI_Unreadable : Option Addr} {slI_Unreadable : Array (Option Value)}
    (sa_Unreadable : PySem.W.findIn K (.ref C_Unreadable) "__setattr__" = some (some (.builtin "object.__setattr__")))
    (ga_Unreadable : PySem.W.findIn K (.ref C_Unreadable) "__getattribute__" = some (some (.builtin "BaseException.__getattribute__")))
    (gg_Unreadable : PySem.W.findIn K (.ref C_Unreadable) "__getattr__" = some none)
    (nv_Unreadable : PySem.W.findIn K (.ref C_Unreadable) "value" = some none)
    (ca_Unreadable : PySem.W.findIn K (.ref C_Unreadable) "__class__" = some (some (.builtin "object.__class__")))
    (aI_Unreadable : PySem.W.findIn K (.ref C_Unreadable) "__init__" = some (some (.ref fI_Unreadable)))
    (tI_Unreadable : PySem.W.typeIn K (.ref fI_Unreadable) = some (.type "function"))
    (lI_Unreadable : K.lookup fI_Unreadable = some ⟨oI_Unreadable, odI_Unreadable, .func (PySem.W.fnOf "__init__" "Unreadable.__init__" (defArgs m_Unreadable) (defBody m_Unreadable) (defScope m_Unreadable) .none .none dI_Unreadable pI_Unreadable anI_Unreadable cdI_Unreadable ctI_Unreadable), slI_Unreadable⟩)
    (cI_Unreadable : PySem.W.codeIn K cdI_Unreadable "Unreadable.__init__" = true)
    (kI_Unreadable : PySem.W.keepIn K (.ref fI_Unreadable) = true)
    (kC_Unreadable : PySem.W.keepIn K (.ref C_Unreadable) = true)
    (mo_Unreadable : PySem.W.mroIn K C_Unreadable (.type "object") = some true)
    (ss_InvalidDate : PySem.W.subIn K (.ref C_InvalidDate) (.ref C_InvalidDate) = some true)
    (sx_InvalidDate : PySem.W.subIn K (.ref C_InvalidDate) (.ref C_DateError) = some true)
    (iv_InvalidDate : PySem.W.kitOne K (.ref C_InvalidDate) (.type "ValueError") = some true)
    (is_DateError_InvalidDate : PySem.W.kitOne K (.ref C_InvalidDate) (.ref C_DateError) = some true)
    (is_InvalidDate_InvalidDate : PySem.W.kitOne K (.ref C_InvalidDate) (.ref C_InvalidDate) = some true)
    (is_InvalidNumber_InvalidDate : PySem.W.kitOne K (.ref C_InvalidDate) (.ref C_InvalidNumber) = some false)
    (is_NothingToUndo_InvalidDate : PySem.W.kitOne K (.ref C_InvalidDate) (.ref C_NothingToUndo) = some false)
    (is_Unreadable_InvalidDate : PySem.W.kitOne K (.ref C_InvalidDate) (.ref C_Unreadable) = some false)
    (ss_InvalidNumber : PySem.W.subIn K (.ref C_InvalidNumber) (.ref C_InvalidNumber) = some true)
    (sx_InvalidNumber : PySem.W.subIn K (.ref C_InvalidNumber) (.ref C_DateError) = some true)
    (iv_InvalidNumber : PySem.W.kitOne K (.ref C_InvalidNumber) (.type "ValueError") = some true)
    (is_DateError_InvalidNumber : PySem.W.kitOne K (.ref C_InvalidNumber) (.ref C_DateError) = some true)
    (is_InvalidDate_InvalidNumber : PySem.W.kitOne K (.ref C_InvalidNumber) (.ref C_InvalidDate) = some false)
    (is_InvalidNumber_InvalidNumber : PySem.W.kitOne K (.ref C_InvalidNumber) (.ref C_InvalidNumber) = some true)
    (is_NothingToUndo_InvalidNumber : PySem.W.kitOne K (.ref C_InvalidNumber) (.ref C_NothingToUndo) = some false)
    (is_Unreadable_InvalidNumber : PySem.W.kitOne K (.ref C_InvalidNumber) (.ref C_Unreadable) = some false)
    (ss_NothingToUndo : PySem.W.subIn K (.ref C_NothingToUndo) (.ref C_NothingToUndo) = some true)
    (sx_NothingToUndo : PySem.W.subIn K (.ref C_NothingToUndo) (.ref C_DateError) = some true)
    (iv_NothingToUndo : PySem.W.kitOne K (.ref C_NothingToUndo) (.type "ValueError") = some true)
    (is_DateError_NothingToUndo : PySem.W.kitOne K (.ref C_NothingToUndo) (.ref C_DateError) = some true)
    (is_InvalidDate_NothingToUndo : PySem.W.kitOne K (.ref C_NothingToUndo) (.ref C_InvalidDate) = some false)
    (is_InvalidNumber_NothingToUndo : PySem.W.kitOne K (.ref C_NothingToUndo) (.ref C_InvalidNumber) = some false)
    (is_NothingToUndo_NothingToUndo : PySem.W.kitOne K (.ref C_NothingToUndo) (.ref C_NothingToUndo) = some true)
    (is_Unreadable_NothingToUndo : PySem.W.kitOne K (.ref C_NothingToUndo) (.ref C_Unreadable) = some false)
    (ss_Unreadable : PySem.W.subIn K (.ref C_Unreadable) (.ref C_Unreadable) = some true)
    (sx_Unreadable : PySem.W.subIn K (.ref C_Unreadable) (.ref C_DateError) = some true)
    (iv_Unreadable : PySem.W.kitOne K (.ref C_Unreadable) (.type "ValueError") = some true)
    (is_DateError_Unreadable : PySem.W.kitOne K (.ref C_Unreadable) (.ref C_DateError) = some true)
    (is_InvalidDate_Unreadable : PySem.W.kitOne K (.ref C_Unreadable) (.ref C_InvalidDate) = some false)
    (is_InvalidNumber_Unreadable : PySem.W.kitOne K (.ref C_Unreadable) (.ref C_InvalidNumber) = some false)
    (is_NothingToUndo_Unreadable : PySem.W.kitOne K (.ref C_Unreadable) (.ref C_NothingToUndo) = some false)
    (is_Unreadable_Unreadable : PySem.W.kitOne K (.ref C_Unreadable) (.ref C_Unreadable) = some true) :
    ∃ fd : FuncData, (∀ (s : Shared) (v : Value), BindsTo s fd ⟨[v], []⟩ [("script", v)]) ∧ ∀ base : Heap, K.In base → base.Ns mainGlobals mg → FnOk l.prog w K mg base CX0 7 fa fd ["script"] (spLaw K) := by
  have e := hfa.symm.trans (PySem.W.mg_of X G a_law)
  cases e
  have F_is_leap := fun_mk (st := s_is_leap) l_is_leap c_is_leap k_is_leap
  have F_days_in := fun_mk (st := s_days_in) l_days_in c_days_in k_days_in
  have F_check_date := fun_mk (st := s_check_date) l_check_date c_check_date k_check_date
  have F_read_date := fun_mk (st := s_read_date) l_read_date c_read_date k_read_date
  have F_integer := fun_mk (st := s_integer) l_integer c_integer k_integer
  have F_is_positive := fun_mk (st := s_is_positive) l_is_positive c_is_positive k_is_positive
  have F_law_source := fun_mk (st := s_law_source) l_law_source c_law_source k_law_source
  have F_law_draw := fun_mk (st := s_law_draw) l_law_draw c_law_draw k_law_draw
  have F_law_same := fun_mk (st := s_law_same) l_law_same c_law_same k_law_same
  have F_law_leap := fun_mk (st := s_law_leap) l_law_leap c_law_leap k_law_leap
  have F_law_length := fun_mk (st := s_law_length) l_law_length c_law_length k_law_length
  have F_law_count := fun_mk (st := s_law_count) l_law_count c_law_count k_law_count
  have F_law_date := fun_mk (st := s_law_date) l_law_date c_law_date k_law_date
  have F_law_text := fun_mk (st := s_law_text) l_law_text c_law_text k_law_text
  have F_law_number := fun_mk (st := s_law_number) l_law_number c_law_number k_law_number
  have F_law_date_in := fun_mk (st := s_law_date_in) l_law_date_in c_law_date_in k_law_date_in
  have F_law_bent := fun_mk (st := s_law_bent) l_law_bent c_law_bent k_law_bent
  have F_law_error := fun_mk (st := s_law_error) l_law_error c_law_error k_law_error
  have F_law_told := fun_mk (st := s_law_told) l_law_told c_law_told k_law_told
  have F_law_right := fun_mk (st := s_law_right) l_law_right c_law_right k_law_right
  have F_law := fun_mk (st := s_law) l_law c_law k_law
  let T : Top K mg := {
    f_is_leap := f_is_leap
    fd_is_leap := _
    F_is_leap := F_is_leap
    g_is_leap := PySem.W.mg_of X G a_is_leap
    b_is_leap := (F_is_leap.binds (ps := ["year"]) fun _ _ _ _ _ _ us hl => match us, hl with | [_], _ => rfl)
    f_days_in := f_days_in
    fd_days_in := _
    F_days_in := F_days_in
    g_days_in := PySem.W.mg_of X G a_days_in
    b_days_in := (F_days_in.binds (ps := ["year", "month"]) fun _ _ _ _ _ _ us hl => match us, hl with | [_, _], _ => rfl)
    f_check_date := f_check_date
    fd_check_date := _
    F_check_date := F_check_date
    g_check_date := PySem.W.mg_of X G a_check_date
    b_check_date := (F_check_date.binds (ps := ["date"]) fun _ _ _ _ _ _ us hl => match us, hl with | [_], _ => rfl)
    f_read_date := f_read_date
    fd_read_date := _
    F_read_date := F_read_date
    g_read_date := PySem.W.mg_of X G a_read_date
    b_read_date := (F_read_date.binds (ps := ["text"]) fun _ _ _ _ _ _ us hl => match us, hl with | [_], _ => rfl)
    f_integer := f_integer
    fd_integer := _
    F_integer := F_integer
    g_integer := PySem.W.mg_of X G a_integer
    b_integer := (F_integer.binds (ps := ["word", "plus"]) fun _ _ _ _ _ _ us hl => match us, hl with | [_, _], _ => rfl)
    f_is_positive := f_is_positive
    fd_is_positive := _
    F_is_positive := F_is_positive
    g_is_positive := PySem.W.mg_of X G a_is_positive
    b_is_positive := (F_is_positive.binds (ps := ["digits"]) fun _ _ _ _ _ _ us hl => match us, hl with | [_], _ => rfl)
    f_law_source := f_law_source
    fd_law_source := _
    F_law_source := F_law_source
    g_law_source := PySem.W.mg_of X G a_law_source
    b_law_source := (F_law_source.binds (ps := ["script"]) fun _ _ _ _ _ _ us hl => match us, hl with | [_], _ => rfl)
    f_law_draw := f_law_draw
    fd_law_draw := _
    F_law_draw := F_law_draw
    g_law_draw := PySem.W.mg_of X G a_law_draw
    b_law_draw := (F_law_draw.binds (ps := ["source", "many"]) fun _ _ _ _ _ _ us hl => match us, hl with | [_, _], _ => rfl)
    f_law_same := f_law_same
    fd_law_same := _
    F_law_same := F_law_same
    g_law_same := PySem.W.mg_of X G a_law_same
    b_law_same := (F_law_same.binds (ps := ["found", "wanted"]) fun _ _ _ _ _ _ us hl => match us, hl with | [_, _], _ => rfl)
    f_law_leap := f_law_leap
    fd_law_leap := _
    F_law_leap := F_law_leap
    g_law_leap := PySem.W.mg_of X G a_law_leap
    b_law_leap := (F_law_leap.binds (ps := ["count"]) fun _ _ _ _ _ _ us hl => match us, hl with | [_], _ => rfl)
    f_law_length := f_law_length
    fd_law_length := _
    F_law_length := F_law_length
    g_law_length := PySem.W.mg_of X G a_law_length
    b_law_length := (F_law_length.binds (ps := ["number"]) fun _ _ _ _ _ _ us hl => match us, hl with | [_], _ => rfl)
    f_law_count := f_law_count
    fd_law_count := _
    F_law_count := F_law_count
    g_law_count := PySem.W.mg_of X G a_law_count
    b_law_count := (F_law_count.binds (ps := ["source"]) fun _ _ _ _ _ _ us hl => match us, hl with | [_], _ => rfl)
    f_law_date := f_law_date
    fd_law_date := _
    F_law_date := F_law_date
    g_law_date := PySem.W.mg_of X G a_law_date
    b_law_date := (F_law_date.binds (ps := ["source"]) fun _ _ _ _ _ _ us hl => match us, hl with | [_], _ => rfl)
    f_law_text := f_law_text
    fd_law_text := _
    F_law_text := F_law_text
    g_law_text := PySem.W.mg_of X G a_law_text
    b_law_text := (F_law_text.binds (ps := ["begin"]) fun _ _ _ _ _ _ us hl => match us, hl with | [_], _ => rfl)
    f_law_number := f_law_number
    fd_law_number := _
    F_law_number := F_law_number
    g_law_number := PySem.W.mg_of X G a_law_number
    b_law_number := (F_law_number.binds (ps := ["word", "signs"]) fun _ _ _ _ _ _ us hl => match us, hl with | [_, _], _ => rfl)
    f_law_date_in := f_law_date_in
    fd_law_date_in := _
    F_law_date_in := F_law_date_in
    g_law_date_in := PySem.W.mg_of X G a_law_date_in
    b_law_date_in := (F_law_date_in.binds (ps := ["line"]) fun _ _ _ _ _ _ us hl => match us, hl with | [_], _ => rfl)
    f_law_bent := f_law_bent
    fd_law_bent := _
    F_law_bent := F_law_bent
    g_law_bent := PySem.W.mg_of X G a_law_bent
    b_law_bent := (F_law_bent.binds (ps := ["source", "line"]) fun _ _ _ _ _ _ us hl => match us, hl with | [_, _], _ => rfl)
    f_law_error := f_law_error
    fd_law_error := _
    F_law_error := F_law_error
    g_law_error := PySem.W.mg_of X G a_law_error
    b_law_error := (F_law_error.binds (ps := ["e"]) fun _ _ _ _ _ _ us hl => match us, hl with | [_], _ => rfl)
    f_law_told := f_law_told
    fd_law_told := _
    F_law_told := F_law_told
    g_law_told := PySem.W.mg_of X G a_law_told
    b_law_told := (F_law_told.binds (ps := ["line", "by_name"]) fun _ _ _ _ _ _ us hl => match us, hl with | [_, _], _ => rfl)
    f_law_right := f_law_right
    fd_law_right := _
    F_law_right := F_law_right
    g_law_right := PySem.W.mg_of X G a_law_right
    b_law_right := (F_law_right.binds (ps := ["line"]) fun _ _ _ _ _ _ us hl => match us, hl with | [_], _ => rfl)
    f_law := fa
    fd_law := _
    F_law := F_law
    g_law := PySem.W.mg_of X G a_law
    b_law := (F_law.binds (ps := ["script"]) fun _ _ _ _ _ _ us hl => match us, hl with | [_], _ => rfl)
    z_ValueError := PySem.W.mg_none_of X G z_ValueError
    z_bool := PySem.W.mg_none_of X G z_bool
    z_int := PySem.W.mg_none_of X G z_int
    z_isinstance := PySem.W.mg_none_of X G z_isinstance
    z_len := PySem.W.mg_none_of X G z_len
    z_list := PySem.W.mg_none_of X G z_list
    z_max := PySem.W.mg_none_of X G z_max
    z_min := PySem.W.mg_none_of X G z_min
    z_range := PySem.W.mg_none_of X G z_range
    z_str := PySem.W.mg_none_of X G z_str
    z_tuple := PySem.W.mg_none_of X G z_tuple
    a_DAYS_IN_COMMON_YEAR := ca_DAYS_IN_COMMON_YEAR
    g_DAYS_IN_COMMON_YEAR := PySem.W.mg_of X G ga_DAYS_IN_COMMON_YEAR
    q_DAYS_IN_COMMON_YEAR := fun H => Or.inr ⟨_, _, _, gl_DAYS_IN_COMMON_YEAR, rfl, rfl, (by show 12 ≤ sizeLine; decide), .cons ⟨_, rfl⟩ (.cons ⟨_, rfl⟩ (.cons ⟨_, rfl⟩ (.cons ⟨_, rfl⟩ (.cons ⟨_, rfl⟩ (.cons ⟨_, rfl⟩ (.cons ⟨_, rfl⟩ (.cons ⟨_, rfl⟩ (.cons ⟨_, rfl⟩ (.cons ⟨_, rfl⟩ (.cons ⟨_, rfl⟩ (.cons ⟨_, rfl⟩ .nil)))))))))))⟩
    t_MOST_DIGITS := ct_MOST_DIGITS
    g_MOST_DIGITS := PySem.W.mg_of X G ga_MOST_DIGITS
    C_DateError := _
    gC_DateError := PySem.W.mg_of X G aC_DateError
    C_InvalidDate := _
    gC_InvalidDate := PySem.W.mg_of X G aC_InvalidDate
    fI_InvalidDate := fI_InvalidDate
    fdI_InvalidDate := _
    FI_InvalidDate := fun_mk (st := m_InvalidDate) lI_InvalidDate cI_InvalidDate kI_InvalidDate
    xc_InvalidDate := ⟨clsOf hC_InvalidDate, ga_InvalidDate, gg_InvalidDate, eC_InvalidDate, hC_InvalidDate, ca_InvalidDate, sgx, tkx, mo_InvalidDate, nv_InvalidDate⟩
    mk_InvalidDate := ⟨⟨⟨nm_InvalidDate, q_InvalidDate, N_InvalidDate, bs_InvalidDate, _, sn_InvalidDate, sb_InvalidDate, ab_InvalidDate, co_InvalidDate, dd_InvalidDate, m0_InvalidDate, m1_InvalidDate, m2_InvalidDate, m3_InvalidDate, m5_InvalidDate, xL_InvalidDate, by simp [PySem.HandSPX.refsVE]⟩, sa_InvalidDate, eC_InvalidDate, tC_InvalidDate, kC_InvalidDate⟩, aI_InvalidDate, tI_InvalidDate, ((fun_mk (st := m_InvalidDate) lI_InvalidDate cI_InvalidDate kI_InvalidDate).binds (ps := ["self", "value"]) fun _ _ _ _ _ _ us hl => match us, hl with | [_, _], _ => rfl), nv_InvalidDate⟩
    es_InvalidDate := PySem.W.exm_ref eC_InvalidDate hC_InvalidDate tC_InvalidDate ss_InvalidDate
    ex_InvalidDate := PySem.W.exm_ref eC_DateError hC_DateError tC_DateError sx_InvalidDate
    iv_InvalidDate := iv_InvalidDate
    is_InvalidDate_DateError := is_DateError_InvalidDate
    is_InvalidDate_InvalidDate := is_InvalidDate_InvalidDate
    is_InvalidDate_InvalidNumber := is_InvalidNumber_InvalidDate
    is_InvalidDate_NothingToUndo := is_NothingToUndo_InvalidDate
    is_InvalidDate_Unreadable := is_Unreadable_InvalidDate
    C_InvalidNumber := _
    gC_InvalidNumber := PySem.W.mg_of X G aC_InvalidNumber
    fI_InvalidNumber := fI_InvalidNumber
    fdI_InvalidNumber := _
    FI_InvalidNumber := fun_mk (st := m_InvalidNumber) lI_InvalidNumber cI_InvalidNumber kI_InvalidNumber
    xc_InvalidNumber := ⟨clsOf hC_InvalidNumber, ga_InvalidNumber, gg_InvalidNumber, eC_InvalidNumber, hC_InvalidNumber, ca_InvalidNumber, sgx, tkx, mo_InvalidNumber, nv_InvalidNumber⟩
    mk_InvalidNumber := ⟨⟨⟨nm_InvalidNumber, q_InvalidNumber, N_InvalidNumber, bs_InvalidNumber, _, sn_InvalidNumber, sb_InvalidNumber, ab_InvalidNumber, co_InvalidNumber, dd_InvalidNumber, m0_InvalidNumber, m1_InvalidNumber, m2_InvalidNumber, m3_InvalidNumber, m5_InvalidNumber, xL_InvalidNumber, by simp [PySem.HandSPX.refsVE]⟩, sa_InvalidNumber, eC_InvalidNumber, tC_InvalidNumber, kC_InvalidNumber⟩, aI_InvalidNumber, tI_InvalidNumber, ((fun_mk (st := m_InvalidNumber) lI_InvalidNumber cI_InvalidNumber kI_InvalidNumber).binds (ps := ["self", "value"]) fun _ _ _ _ _ _ us hl => match us, hl with | [_, _], _ => rfl), nv_InvalidNumber⟩
    es_InvalidNumber := PySem.W.exm_ref eC_InvalidNumber hC_InvalidNumber tC_InvalidNumber ss_InvalidNumber
    ex_InvalidNumber := PySem.W.exm_ref eC_DateError hC_DateError tC_DateError sx_InvalidNumber
    iv_InvalidNumber := iv_InvalidNumber
    is_InvalidNumber_DateError := is_DateError_InvalidNumber
    is_InvalidNumber_InvalidDate := is_InvalidDate_InvalidNumber
    is_InvalidNumber_InvalidNumber := is_InvalidNumber_InvalidNumber
    is_InvalidNumber_NothingToUndo := is_NothingToUndo_InvalidNumber
    is_InvalidNumber_Unreadable := is_Unreadable_InvalidNumber
    C_NothingToUndo := _
    gC_NothingToUndo := PySem.W.mg_of X G aC_NothingToUndo
    fI_NothingToUndo := fI_NothingToUndo
    fdI_NothingToUndo := _
    FI_NothingToUndo := fun_mk (st := m_NothingToUndo) lI_NothingToUndo cI_NothingToUndo kI_NothingToUndo
    xc_NothingToUndo := ⟨clsOf hC_NothingToUndo, ga_NothingToUndo, gg_NothingToUndo, eC_NothingToUndo, hC_NothingToUndo, ca_NothingToUndo, sgx, tkx, mo_NothingToUndo, nv_NothingToUndo⟩
    mk_NothingToUndo := ⟨⟨⟨nm_NothingToUndo, q_NothingToUndo, N_NothingToUndo, bs_NothingToUndo, _, sn_NothingToUndo, sb_NothingToUndo, ab_NothingToUndo, co_NothingToUndo, dd_NothingToUndo, m0_NothingToUndo, m1_NothingToUndo, m2_NothingToUndo, m3_NothingToUndo, m5_NothingToUndo, xL_NothingToUndo, by simp [PySem.HandSPX.refsVE]⟩, sa_NothingToUndo, eC_NothingToUndo, tC_NothingToUndo, kC_NothingToUndo⟩, aI_NothingToUndo, tI_NothingToUndo, ((fun_mk (st := m_NothingToUndo) lI_NothingToUndo cI_NothingToUndo kI_NothingToUndo).binds (ps := ["self", "value"]) fun _ _ _ _ _ _ us hl => match us, hl with | [_, _], _ => rfl), nv_NothingToUndo⟩
    es_NothingToUndo := PySem.W.exm_ref eC_NothingToUndo hC_NothingToUndo tC_NothingToUndo ss_NothingToUndo
    ex_NothingToUndo := PySem.W.exm_ref eC_DateError hC_DateError tC_DateError sx_NothingToUndo
    iv_NothingToUndo := iv_NothingToUndo
    is_NothingToUndo_DateError := is_DateError_NothingToUndo
    is_NothingToUndo_InvalidDate := is_InvalidDate_NothingToUndo
    is_NothingToUndo_InvalidNumber := is_InvalidNumber_NothingToUndo
    is_NothingToUndo_NothingToUndo := is_NothingToUndo_NothingToUndo
    is_NothingToUndo_Unreadable := is_Unreadable_NothingToUndo
    C_Unreadable := _
    gC_Unreadable := PySem.W.mg_of X G aC_Unreadable
    fI_Unreadable := fI_Unreadable
    fdI_Unreadable := _
    FI_Unreadable := fun_mk (st := m_Unreadable) lI_Unreadable cI_Unreadable kI_Unreadable
    xc_Unreadable := ⟨clsOf hC_Unreadable, ga_Unreadable, gg_Unreadable, eC_Unreadable, hC_Unreadable, ca_Unreadable, sgx, tkx, mo_Unreadable, nv_Unreadable⟩
    mk_Unreadable := ⟨⟨⟨nm_Unreadable, q_Unreadable, N_Unreadable, bs_Unreadable, _, sn_Unreadable, sb_Unreadable, ab_Unreadable, co_Unreadable, dd_Unreadable, m0_Unreadable, m1_Unreadable, m2_Unreadable, m3_Unreadable, m5_Unreadable, xL_Unreadable, by simp [PySem.HandSPX.refsVE]⟩, sa_Unreadable, eC_Unreadable, tC_Unreadable, kC_Unreadable⟩, aI_Unreadable, tI_Unreadable, ((fun_mk (st := m_Unreadable) lI_Unreadable cI_Unreadable kI_Unreadable).binds (ps := ["self", "value"]) fun _ _ _ _ _ _ us hl => match us, hl with | [_, _], _ => rfl), nv_Unreadable⟩
    es_Unreadable := PySem.W.exm_ref eC_Unreadable hC_Unreadable tC_Unreadable ss_Unreadable
    ex_Unreadable := PySem.W.exm_ref eC_DateError hC_DateError tC_DateError sx_Unreadable
    iv_Unreadable := iv_Unreadable
    is_Unreadable_DateError := is_DateError_Unreadable
    is_Unreadable_InvalidDate := is_InvalidDate_Unreadable
    is_Unreadable_InvalidNumber := is_InvalidNumber_Unreadable
    is_Unreadable_NothingToUndo := is_NothingToUndo_Unreadable
    is_Unreadable_Unreadable := is_Unreadable_Unreadable }
  exact ⟨_, fun s v => .of_eq rfl, fun base _ _ => ok_law T⟩
end Mk

open PySem PySem.W PyProof.Rows
set_option maxRecDepth 100000 in
set_option maxHeartbeats 0 in
theorem PySem.Challenge.cw_monthclamp_k41_dates_read_holds : PySem.Challenge.rw_monthclamp_k41_dates_read.Holds := by
  w_on; o_law; k_head; (case hw => w_witness2)
  k_fill
  refine L2.walk_of (l := PySem.Challenge.rw_monthclamp_k41_dates_read) (n := 63) (k := 7) (x := "script") (CX := fun _ => L2.CX0) (sp := fun w => Mk.spLaw _) rfl (by decide) rfl ⟨rfl, by decide, by decide⟩ (fun w h Y => PySem.W.kIn_of Y) ?F (fun _ _ a ns hl _ hS => ⟨a, ns, rfl, hS, hl, fun _ => rfl⟩) (fun _ _ _ _ _ h => h)
  case F =>
    intro w mg fa h KX G hmg
    refine' Mk.all_mk KX G hmg ?a_is_leap ?l_is_leap ?c_is_leap ?k_is_leap ?a_days_in ?l_days_in ?c_days_in ?k_days_in ?a_check_date ?l_check_date ?c_check_date ?k_check_date ?a_read_date ?l_read_date ?c_read_date ?k_read_date ?a_integer ?l_integer ?c_integer ?k_integer ?a_is_positive ?l_is_positive ?c_is_positive ?k_is_positive ?a_law_source ?l_law_source ?c_law_source ?k_law_source ?a_law_draw ?l_law_draw ?c_law_draw ?k_law_draw ?a_law_same ?l_law_same ?c_law_same ?k_law_same ?a_law_leap ?l_law_leap ?c_law_leap ?k_law_leap ?a_law_length ?l_law_length ?c_law_length ?k_law_length ?a_law_count ?l_law_count ?c_law_count ?k_law_count ?a_law_date ?l_law_date ?c_law_date ?k_law_date ?a_law_text ?l_law_text ?c_law_text ?k_law_text ?a_law_number ?l_law_number ?c_law_number ?k_law_number ?a_law_date_in ?l_law_date_in ?c_law_date_in ?k_law_date_in ?a_law_bent ?l_law_bent ?c_law_bent ?k_law_bent ?a_law_error ?l_law_error ?c_law_error ?k_law_error ?a_law_told ?l_law_told ?c_law_told ?k_law_told ?a_law_right ?l_law_right ?c_law_right ?k_law_right ?a_law ?l_law ?c_law ?k_law ?z_ValueError ?z_bool ?z_int ?z_isinstance ?z_len ?z_list ?z_max ?z_min ?z_range ?z_str ?z_tuple ?ga_DAYS_IN_COMMON_YEAR ?gl_DAYS_IN_COMMON_YEAR ?ga_MOST_DIGITS ?sgx ?tkx ?aC_DateError ?xL_DateError ?eC_DateError ?hC_DateError ?tC_DateError ?aC_InvalidDate ?xL_InvalidDate ?eC_InvalidDate ?hC_InvalidDate ?tC_InvalidDate ?sa_InvalidDate ?ga_InvalidDate ?gg_InvalidDate ?nv_InvalidDate ?ca_InvalidDate ?aI_InvalidDate ?tI_InvalidDate ?lI_InvalidDate ?cI_InvalidDate ?kI_InvalidDate ?kC_InvalidDate ?mo_InvalidDate ?aC_InvalidNumber ?xL_InvalidNumber ?eC_InvalidNumber ?hC_InvalidNumber ?tC_InvalidNumber ?sa_InvalidNumber ?ga_InvalidNumber ?gg_InvalidNumber ?nv_InvalidNumber ?ca_InvalidNumber ?aI_InvalidNumber ?tI_InvalidNumber ?lI_InvalidNumber ?cI_InvalidNumber ?kI_InvalidNumber ?kC_InvalidNumber ?mo_InvalidNumber ?aC_NothingToUndo ?xL_NothingToUndo ?eC_NothingToUndo ?hC_NothingToUndo ?tC_NothingToUndo ?sa_NothingToUndo ?ga_NothingToUndo ?gg_NothingToUndo ?nv_NothingToUndo ?ca_NothingToUndo ?aI_NothingToUndo ?tI_NothingToUndo ?lI_NothingToUndo ?cI_NothingToUndo ?kI_NothingToUndo ?kC_NothingToUndo ?mo_NothingToUndo ?aC_Unreadable ?xL_Unreadable ?eC_Unreadable ?hC_Unreadable ?tC_Unreadable ?sa_Unreadable ?ga_Unreadable ?gg_Unreadable ?nv_Unreadable ?ca_Unreadable ?aI_Unreadable ?tI_Unreadable ?lI_Unreadable ?cI_Unreadable ?kI_Unreadable ?kC_Unreadable ?mo_Unreadable ?ss_InvalidDate ?sx_InvalidDate ?iv_InvalidDate ?is_DateError_InvalidDate ?is_InvalidDate_InvalidDate ?is_InvalidNumber_InvalidDate ?is_NothingToUndo_InvalidDate ?is_Unreadable_InvalidDate ?ss_InvalidNumber ?sx_InvalidNumber ?iv_InvalidNumber ?is_DateError_InvalidNumber ?is_InvalidDate_InvalidNumber ?is_InvalidNumber_InvalidNumber ?is_NothingToUndo_InvalidNumber ?is_Unreadable_InvalidNumber ?ss_NothingToUndo ?sx_NothingToUndo ?iv_NothingToUndo ?is_DateError_NothingToUndo ?is_InvalidDate_NothingToUndo ?is_InvalidNumber_NothingToUndo ?is_NothingToUndo_NothingToUndo ?is_Unreadable_NothingToUndo ?ss_Unreadable ?sx_Unreadable ?iv_Unreadable ?is_DateError_Unreadable ?is_InvalidDate_Unreadable ?is_InvalidNumber_Unreadable ?is_NothingToUndo_Unreadable ?is_Unreadable_Unreadable
    (case a_is_leap => k_is)
    (case l_is_leap => k_is)
    (case c_is_leap => k_is)
    (case k_is_leap => k_is)
    (case a_days_in => k_is)
    (case l_days_in => k_is)
    (case c_days_in => k_is)
    (case k_days_in => k_is)
    (case a_check_date => k_is)
    (case l_check_date => k_is)
    (case c_check_date => k_is)
    (case k_check_date => k_is)
    (case a_read_date => k_is)
    (case l_read_date => k_is)
    (case c_read_date => k_is)
    (case k_read_date => k_is)
    (case a_integer => k_is)
    (case l_integer => k_is)
    (case c_integer => k_is)
    (case k_integer => k_is)
    (case a_is_positive => k_is)
    (case l_is_positive => k_is)
    (case c_is_positive => k_is)
    (case k_is_positive => k_is)
    (case a_law_source => k_is)
    (case l_law_source => k_is)
    (case c_law_source => k_is)
    (case k_law_source => k_is)
    (case a_law_draw => k_is)
    (case l_law_draw => k_is)
    (case c_law_draw => k_is)
    (case k_law_draw => k_is)
    (case a_law_same => k_is)
    (case l_law_same => k_is)
    (case c_law_same => k_is)
    (case k_law_same => k_is)
    (case a_law_leap => k_is)
    (case l_law_leap => k_is)
    (case c_law_leap => k_is)
    (case k_law_leap => k_is)
    (case a_law_length => k_is)
    (case l_law_length => k_is)
    (case c_law_length => k_is)
    (case k_law_length => k_is)
    (case a_law_count => k_is)
    (case l_law_count => k_is)
    (case c_law_count => k_is)
    (case k_law_count => k_is)
    (case a_law_date => k_is)
    (case l_law_date => k_is)
    (case c_law_date => k_is)
    (case k_law_date => k_is)
    (case a_law_text => k_is)
    (case l_law_text => k_is)
    (case c_law_text => k_is)
    (case k_law_text => k_is)
    (case a_law_number => k_is)
    (case l_law_number => k_is)
    (case c_law_number => k_is)
    (case k_law_number => k_is)
    (case a_law_date_in => k_is)
    (case l_law_date_in => k_is)
    (case c_law_date_in => k_is)
    (case k_law_date_in => k_is)
    (case a_law_bent => k_is)
    (case l_law_bent => k_is)
    (case c_law_bent => k_is)
    (case k_law_bent => k_is)
    (case a_law_error => k_is)
    (case l_law_error => k_is)
    (case c_law_error => k_is)
    (case k_law_error => k_is)
    (case a_law_told => k_is)
    (case l_law_told => k_is)
    (case c_law_told => k_is)
    (case k_law_told => k_is)
    (case a_law_right => k_is)
    (case l_law_right => k_is)
    (case c_law_right => k_is)
    (case k_law_right => k_is)
    (case a_law => k_is)
    (case l_law => k_is)
    (case c_law => k_is)
    (case k_law => k_is)
    (case z_ValueError => k_is)
    (case z_bool => k_is)
    (case z_int => k_is)
    (case z_isinstance => k_is)
    (case z_len => k_is)
    (case z_list => k_is)
    (case z_max => k_is)
    (case z_min => k_is)
    (case z_range => k_is)
    (case z_str => k_is)
    (case z_tuple => k_is)
    (case ga_DAYS_IN_COMMON_YEAR => k_is)
    (case gl_DAYS_IN_COMMON_YEAR => k_is)
    (case ga_MOST_DIGITS => k_is)
    (case sgx => k_is)
    (case tkx => k_is)
    (case aC_DateError => k_is)
    (case xL_DateError => k_is)
    (case eC_DateError => k_is)
    (case hC_DateError => k_is)
    (case tC_DateError => k_is)
    (case aC_InvalidDate => k_is)
    (case xL_InvalidDate => k_is)
    (case eC_InvalidDate => k_is)
    (case hC_InvalidDate => k_is)
    (case tC_InvalidDate => k_is)
    (case sa_InvalidDate => k_is)
    (case ga_InvalidDate => k_is)
    (case gg_InvalidDate => k_is)
    (case nv_InvalidDate => k_is)
    (case ca_InvalidDate => k_is)
    (case aI_InvalidDate => k_is)
    (case tI_InvalidDate => k_is)
    (case lI_InvalidDate => k_is)
    (case cI_InvalidDate => k_is)
    (case kI_InvalidDate => k_is)
    (case kC_InvalidDate => k_is)
    (case mo_InvalidDate => k_is)
    (case aC_InvalidNumber => k_is)
    (case xL_InvalidNumber => k_is)
    (case eC_InvalidNumber => k_is)
    (case hC_InvalidNumber => k_is)
    (case tC_InvalidNumber => k_is)
    (case sa_InvalidNumber => k_is)
    (case ga_InvalidNumber => k_is)
    (case gg_InvalidNumber => k_is)
    (case nv_InvalidNumber => k_is)
    (case ca_InvalidNumber => k_is)
    (case aI_InvalidNumber => k_is)
    (case tI_InvalidNumber => k_is)
    (case lI_InvalidNumber => k_is)
    (case cI_InvalidNumber => k_is)
    (case kI_InvalidNumber => k_is)
    (case kC_InvalidNumber => k_is)
    (case mo_InvalidNumber => k_is)
    (case aC_NothingToUndo => k_is)
    (case xL_NothingToUndo => k_is)
    (case eC_NothingToUndo => k_is)
    (case hC_NothingToUndo => k_is)
    (case tC_NothingToUndo => k_is)
    (case sa_NothingToUndo => k_is)
    (case ga_NothingToUndo => k_is)
    (case gg_NothingToUndo => k_is)
    (case nv_NothingToUndo => k_is)
    (case ca_NothingToUndo => k_is)
    (case aI_NothingToUndo => k_is)
    (case tI_NothingToUndo => k_is)
    (case lI_NothingToUndo => k_is)
    (case cI_NothingToUndo => k_is)
    (case kI_NothingToUndo => k_is)
    (case kC_NothingToUndo => k_is)
    (case mo_NothingToUndo => k_is)
    (case aC_Unreadable => k_is)
    (case xL_Unreadable => k_is)
    (case eC_Unreadable => k_is)
    (case hC_Unreadable => k_is)
    (case tC_Unreadable => k_is)
    (case sa_Unreadable => k_is)
    (case ga_Unreadable => k_is)
    (case gg_Unreadable => k_is)
    (case nv_Unreadable => k_is)
    (case ca_Unreadable => k_is)
    (case aI_Unreadable => k_is)
    (case tI_Unreadable => k_is)
    (case lI_Unreadable => k_is)
    (case cI_Unreadable => k_is)
    (case kI_Unreadable => k_is)
    (case kC_Unreadable => k_is)
    (case mo_Unreadable => k_is)
    (case ss_InvalidDate => k_is)
    (case sx_InvalidDate => k_is)
    (case iv_InvalidDate => kit_is)
    (case is_DateError_InvalidDate => kit_is)
    (case is_InvalidDate_InvalidDate => kit_is)
    (case is_InvalidNumber_InvalidDate => kit_is)
    (case is_NothingToUndo_InvalidDate => kit_is)
    (case is_Unreadable_InvalidDate => kit_is)
    (case ss_InvalidNumber => k_is)
    (case sx_InvalidNumber => k_is)
    (case iv_InvalidNumber => kit_is)
    (case is_DateError_InvalidNumber => kit_is)
    (case is_InvalidDate_InvalidNumber => kit_is)
    (case is_InvalidNumber_InvalidNumber => kit_is)
    (case is_NothingToUndo_InvalidNumber => kit_is)
    (case is_Unreadable_InvalidNumber => kit_is)
    (case ss_NothingToUndo => k_is)
    (case sx_NothingToUndo => k_is)
    (case iv_NothingToUndo => kit_is)
    (case is_DateError_NothingToUndo => kit_is)
    (case is_InvalidDate_NothingToUndo => kit_is)
    (case is_InvalidNumber_NothingToUndo => kit_is)
    (case is_NothingToUndo_NothingToUndo => kit_is)
    (case is_Unreadable_NothingToUndo => kit_is)
    (case ss_Unreadable => k_is)
    (case sx_Unreadable => k_is)
    (case iv_Unreadable => kit_is)
    (case is_DateError_Unreadable => kit_is)
    (case is_InvalidDate_Unreadable => kit_is)
    (case is_InvalidNumber_Unreadable => kit_is)
    (case is_NothingToUndo_Unreadable => kit_is)
    (case is_Unreadable_Unreadable => kit_is)
#print axioms PySem.Challenge.cw_monthclamp_k41_dates_read_holds
