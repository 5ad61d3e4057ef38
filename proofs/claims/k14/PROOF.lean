import PyProof.Rows.All
import Wide.All
import OpenK.AllK
import Wide.FinOn
import HandS.ForMost
import HandS.Wide
import HandS.IsInst
import HandS.Evl
import HandS.Defaults
import HandS.More
import HandS.Style
import HandS.Strs
import HandS.SetFor
import HandS.Zip
import PyProof.Rows.SortShellAny
import HandS.SetKeys
import HandS.Walk
import HandS.SetBool
import HandS.Dict
import HandS.DictComp
import HandS.StrMore
import HandS.FStr
import HandS.Conv
import HandS.Deep
import KE.KxField
import PySem.Challenge.RW_monthclamp_k14_fewest_steps_by_search
set_option Elab.async false
set_option linter.all false
set_option maxRecDepth 100000
set_option maxHeartbeats 4000000
namespace Mc
open PySem L2

/-! ### forward rules: one for each head of a reading -/
section
variable {K : PySem.W.Frag} {σ : L2.St} {H : Hp} {Q : VK} {ta tb te tc : TE} {t u c : TT} {t1 t2 : TS} {D : Ends} {i : Nat} {v x y : V} {r : R2}
theorem f_var (h : σ[i]? = some (some v)) (q : Q v H) : tVar i σ H Q := ⟨v, h, q⟩
theorem f_c (q : Q v H) : tC v σ H Q := q
theorem f_op (h : ta σ H fun x H1 => tb σ H1 fun y H2 => r x y H2 Q) : tOp r ta tb σ H Q := h
theorem f_un {r : V → Hp → VK → Prop} (h : ta σ H fun x H1 => r x H1 Q) : tUn r ta σ H Q := h
theorem f_I0 {g : Int → Int → V} {a b : Int} (q : Q (g a b) H) : rI0 g (.int a) (.int b) H Q := ⟨a, b, rfl, rfl, q⟩
theorem f_I {C : Int → Int → Prop} {g : Int → Int → V} {a b : Int} (hc : C a b) (q : Q (g a b) H) : rI C g (.int a) (.int b) H Q := ⟨a, b, rfl, rfl, hc, q⟩
theorem f_U {g : Int → V} {a : Int} (q : Q (g a) H) : rU g (.int a) H Q := ⟨a, rfl, q⟩
theorem dec_int (a b : Int) : decide (V.int a = V.int b) = decide (a = b) := by
  by_cases h : a = b
  · subst h; simp
  · rw [decide_eq_false h, decide_eq_false (fun e => h (V.int.inj e))]
theorem f_eqI {a b : Int} (q : Q (.bl (decide (a = b))) H) : rEq (.int a) (.int b) H Q := ⟨rfl, by rw [dec_int]; exact q⟩
theorem f_neI {a b : Int} (q : Q (.bl (!decide (a = b))) H) : rNe (.int a) (.int b) H Q := ⟨rfl, by rw [dec_int]; exact q⟩
theorem dec_bl (a b : Bool) : decide (V.bl a = V.bl b) = (a == b) := by cases a <;> cases b <;> decide
theorem f_eqB {a b : Bool} (q : Q (.bl (a == b)) H) : rEq (.bl a) (.bl b) H Q := ⟨rfl, by rw [dec_bl]; exact q⟩
theorem f_neB {a b : Bool} (q : Q (.bl (!(a == b))) H) : rNe (.bl a) (.bl b) H Q := ⟨rfl, by rw [dec_bl]; exact q⟩
theorem f_test {Q : Bool → Hp → Prop} (h : te σ H fun x H' => ∃ k, x = .bl k ∧ Q k H') : tTest te σ H Q := h
theorem f_B {Q : Bool → Hp → Prop} (h : te σ H fun x H' => ∃ k, x = .bl k ∧ Q k H') : tB te σ H Q := h
theorem f_bl {b : Bool} {R : Bool → Prop} (q : R b) : ∃ k, V.bl b = V.bl k ∧ R k := ⟨b, rfl, q⟩
theorem f_and {Q : Bool → Hp → Prop} (h : t σ H fun c H1 => if c = true then u σ H1 Q else Q false H1) : tAnd t u σ H Q := h
theorem f_or {Q : Bool → Hp → Prop} (h : t σ H fun c H1 => if c = true then Q true H1 else u σ H1 Q) : tOr t u σ H Q := h
theorem f_not {Q : Bool → Hp → Prop} (h : t σ H fun c H1 => Q (!c) H1) : tNot t σ H Q := h
theorem f_seq (h : t1 { D with nx := t2 D } σ H) : tSeq t1 t2 D σ H := h
theorem f_next (q : D.nx σ H) : tNext D σ H := q
theorem f_asg {g : TG} (h : te σ H fun x H1 => g x σ H1 D.nx) : tAsg te g D σ H := h
theorem f_gName {R : L2.St → Hp → Prop} (q : R (σ.set i (some v)) H) : gName i v σ H R := q
theorem f_ret (h : te σ H D.rt) : tRet te D σ H := h
theorem f_drop (h : te σ H fun _ H1 => D.nx σ H1) : tDrop te D σ H := h
theorem f_ifS (h : c σ H fun b H1 => if b = true then t1 D σ H1 else t2 D σ H1) : tIfS c t1 t2 D σ H := h
theorem f_if (h : c σ H fun b H1 => if b = true then ta σ H1 Q else tb σ H1 Q) : tIf c ta tb σ H Q := h
theorem f_ite {p : Prop} [Decidable p] {A B : Prop} (h1 : p → A) (h2 : ¬ p → B) : if decide p = true then A else B := by
  by_cases h : p
  · rw [if_pos (decide_eq_true h)]; exact h1 h
  · rw [if_neg (by rw [decide_eq_false h]; decide)]; exact h2 h
theorem f_iteB {b : Bool} {A B : Prop} (h1 : b = true → A) (h2 : b = false → B) : if b = true then A else B := by
  cases b with
  | true => rw [if_pos rfl]; exact h1 rfl
  | false => rw [if_neg Bool.false_ne_true]; exact h2 rfl
theorem f_call {sp : Sp} {dvs : List V} {E : XK} {ta : TA} (h : ta σ H fun vs H1 => sp (vs ++ dvs) H1 Q E) : tCall sp dvs E ta σ H Q := h
theorem f_nil {Q : List V → Hp → Prop} (q : Q [] H) : tNil σ H Q := q
theorem f_cons {tr : TA} {Q : List V → Hp → Prop} (h : ta σ H fun x H1 => tr σ H1 fun xs H2 => Q (x :: xs) H2) : tCons ta tr σ H Q := h
theorem f_tup {ta : TA} (h : ta σ H fun xs H1 => xs.length ≤ sizeLine ∧ ∀ p, H1 p = none → Q (.ref p) (upd H1 p (.tup xs))) : tTup ta σ H Q := h
theorem f_lst {ta : TA} (h : ta σ H fun xs H1 => xs.length ≤ sizeLine ∧ ∀ p, H1 p = none → Q (.ref p) (upd H1 p (.lst xs))) : tLst ta σ H Q := h
theorem f_cb {r : List V → Hp → VK → Prop} {ta : TA} (h : ta σ H fun vs H1 => r vs H1 Q) : tCB r ta σ H Q := h
end

/-! ### pure defs -/
open Evl
/-- a def that gives z of vs by D and leaves all as it was -/
def spF (D : List V → V → Prop) : Sp := fun vs H Q _ => ∃ z, D vs z ∧ ∀ H', Ex H H' → Q z H'
theorem f_spF {D : List V → V → Prop} {vs : List V} {H : Hp} {Q : VK} {E : XK} (z : V) (h : D vs z) (q : ∀ H', Ex H H' → Q z H') : spF D vs H Q E := ⟨z, h, q⟩
theorem sv_F {D : List V → V → Prop} {vs : List V} {H : Hp} {z : V} (h : D vs z) : SpV (spF D) (vs ++ []) H z := fun H1 e Q q E => ⟨z, by rw [List.append_nil]; exact h, q⟩
theorem rv_eqI {H : Hp} {i j : Int} : RV rEq (.int i) (.int j) H (.bl (decide (i = j))) := fun H1 _ _ q => ⟨rfl, by rw [dec_int]; exact q H1 (Ex.refl H1)⟩
theorem rv_neI {H : Hp} {i j : Int} : RV rNe (.int i) (.int j) H (.bl (!decide (i = j))) := fun H1 _ _ q => ⟨rfl, by rw [dec_int]; exact q H1 (Ex.refl H1)⟩
theorem rv_eqB {H : Hp} {i j : Bool} : RV rEq (.bl i) (.bl j) H (.bl (i == j)) := fun H1 _ _ q => ⟨rfl, by rw [dec_bl]; exact q H1 (Ex.refl H1)⟩
theorem rv_neB {H : Hp} {i j : Bool} : RV rNe (.bl i) (.bl j) H (.bl (!(i == j))) := fun H1 _ _ q => ⟨rfl, by rw [dec_bl]; exact q H1 (Ex.refl H1)⟩
theorem rv_mod {H : Hp} {i j : Int} (h : 0 < j) : RV (rI (fun _ j => 0 < j) fun i j => .int (i % j)) (.int i) (.int j) H (.int (i % j)) := rv_I (C := fun _ j => 0 < j) h
def b2 (b : Bool) : Int := if b then 1 else 0
theorem ev_intB {te : TE} {σ : L2.St} {H : Hp} {b : Bool} (h : Ev te σ H (.bl b)) : Ev (tCB (fun xs H Q => (∃ i, xs = [.int i] ∧ Q (.int i) H) ∨ ∃ k, xs = [.bl k] ∧ Q (.int (if k then 1 else 0)) H) (tCons te tNil)) σ H (.int (b2 b)) :=
  fun H1 e Q q => h H1 e _ fun H2 e2 => Or.inr ⟨b, rfl, q H2 e2⟩
/-- f(k = v, ..): keywords alone -/
theorem pe_callN0 {X : Cx} {CX : CXT} {k : Nat} {f : Addr} {fd : FuncData} {ps ks : List Str} {sp : Sp} {x : Str} {p pos : Pos} {kws : List Keyword} {tk : TA} {E : XK} {g : List Value → List Value → List Value} {gV : List V → List V → List V}
    (F : FnOk X.prog X.w X.K X.mg X.base CX k f fd ps sp) (hr : Room k X.A) (hg : Gl X x) (hm : X.mg x = some (.ref f)) (kp : PySem.W.keepIn X.K (.ref f) = true) (hb : KBn X.K fd ps 0 ks g gV) (hx : Passes CX X E)
    (hkw : PK X kws tk) (hsome : (backToKw pos (keywordEach kws X.env)).all (·.1.isSome) = true := by rfl) (hnames : (backToKw pos (keywordEach kws X.env)).filterMap (·.1) = ks := by rfl)
    (hdeb : (x == ("__debug__" : Str)) = false := by decide)
    (hplain : ((backTo pos (starEach [] X.env)).any (·.1) || (backToKw pos (keywordEach kws X.env)).any (·.1.isNone)) = false := by rfl) :
    PE X (.Call (.Name x p) [] kws pos) (tCallN 0 ks.length sp gV E tNil tk) := by
  refine ⟨fun pins s σ H Q I h => wpAny_Call_Name_kw (ld_glob I hg hm ?_ hdeb)⟩
  refine PySem.W.callWith_KW0 (h₀ := X.base) I.ok.mod.kin kp hsome (thn (hkw.run pos pins s σ H _ I h) fun us s1 ⟨vs, H1, I1, r, l1, l2, q⟩ => ⟨I1.kIn, ?_⟩) hplain
  rw [hnames]
  exact run_fnN (us := []) F hr hb hx I1 .nil r l1 l2 q
theorem vals_rev : ∀ {xs : List V} {us : List Value}, Vals xs us → Vals xs.reverse us.reverse
  | _, _, .nil => .nil
  | _, _, .cons r t => by
    rw [List.reverse_cons, List.reverse_cons]
    exact (vals_rev t).append (.cons r .nil)

/-! ### == of data -/
theorem eqv_ints (xs ys : List Int) : PyData.eqvAll (xs.map PyData.int) (ys.map PyData.int) = decide (xs = ys) := by
  induction xs generalizing ys with
  | nil => cases ys <;> simp [PyData.eqvAll]
  | cons x xs ih =>
    cases ys with
    | nil => simp [PyData.eqvAll]
    | cons y ys =>
      simp only [List.map_cons, PyData.eqvAll, ih, PyData.eqv, List.cons.injEq]
      by_cases h : x = y <;> by_cases g : xs = ys <;> simp [h, g]
theorem dpa_ints {K : PySem.W.Frag} {H : Hp} : ∀ ns : List Int, DpAll K H (ns.map V.int) (ns.map PyData.int)
  | [] => .nil
  | n :: ns => .cons (.int n) (dpa_ints ns)
theorem dp_ints {K : PySem.W.Frag} {H : Hp} {a : Addr} {ns : List Int} (h : SqL K H a (ns.map V.int)) : Dp K H (.ref a) (.list (ns.map PyData.int)) := .lst h (dpa_ints ns)
/-- two lists of ints compared -/
theorem rv_eqL {K : PySem.W.Frag} {H : Hp} {a b : Addr} {xs ys : List Int} (ha : SqL K H a (xs.map V.int)) (hb : SqL K H b (ys.map V.int)) : RV (rEqD K) (.ref a) (.ref b) H (.bl (decide (xs = ys))) := fun H1 e Q q =>
  ⟨_, _, dp_ints (ex_l e ha), dp_ints (ex_l e hb), PySem.W.ke_shaped_ints xs, PySem.W.ke_shaped_ints ys, by
    show Q (.bl (PyData.eqvAll (xs.map PyData.int) (ys.map PyData.int))) H1
    rw [eqv_ints]; exact q H1 (Ex.refl H1)⟩
theorem rv_neL {K : PySem.W.Frag} {H : Hp} {a b : Addr} {xs ys : List Int} (ha : SqL K H a (xs.map V.int)) (hb : SqL K H b (ys.map V.int)) : RV (rNeD K) (.ref a) (.ref b) H (.bl (!decide (xs = ys))) := fun H1 e Q q =>
  ⟨_, _, dp_ints (ex_l e ha), dp_ints (ex_l e hb), PySem.W.ke_shaped_ints xs, PySem.W.ke_shaped_ints ys, by
    show Q (.bl (!PyData.eqvAll (xs.map PyData.int) (ys.map PyData.int))) H1
    rw [eqv_ints]; exact q H1 (Ex.refl H1)⟩
theorem ev_neL {K : PySem.W.Frag} {σ : L2.St} {H : Hp} {ta tb : TE} {a : Addr} {xs ys : List Int} (ha : Ev ta σ H (.ref a)) (hx : SqL K H a (xs.map V.int)) (hb : EvL tb σ H (ys.map V.int)) : Ev (tOp (rNeD K) ta tb) σ H (.bl (!decide (xs = ys))) :=
  ev_opL ha hb fun _ _ h e => rv_neL (ex_l e hx) (sq_of h)
theorem ev_eqL {K : PySem.W.Frag} {σ : L2.St} {H : Hp} {ta tb : TE} {a : Addr} {xs ys : List Int} (ha : Ev ta σ H (.ref a)) (hx : SqL K H a (xs.map V.int)) (hb : EvL tb σ H (ys.map V.int)) : Ev (tOp (rEqD K) ta tb) σ H (.bl (decide (xs = ys))) :=
  ev_opL ha hb fun _ _ h e => rv_eqL (ex_l e hx) (sq_of h)

/-! ### the source of draws: [digits, held, mix, turn] at s, digits at d; B draws may still come -/
structure Src (H : Hp) (s d : Addr) (B : Nat) : Prop where
  ex : ∃ (ds : List Int) (a m c : Int), H s = some (.lst [.ref d, .int a, .int m, .int c]) ∧ H d = some (.lst (ds.map V.int)) ∧ ds.length ≤ 63 ∧ 0 ≤ m ∧ m < 2 ^ 61 ∧ 0 ≤ c ∧ c + B ≤ 2 ^ 60
theorem Src.ne {H : Hp} {s d : Addr} {B : Nat} (S : Src H s d B) : s ≠ d := fun e => by
  obtain ⟨ds, a, m, c, h1, h2, _⟩ := S.ex
  rw [e, h2] at h1
  cases ds with
  | nil => simp at h1
  | cons x r => simp at h1
theorem Src.less {H : Hp} {s d : Addr} {B B' : Nat} (S : Src H s d B) (h : B' ≤ B) : Src H s d B' := by
  obtain ⟨ds, a, m, c, h1, h2, h3, h4, h5, h6, h7⟩ := S.ex
  exact ⟨ds, a, m, c, h1, h2, h3, h4, h5, h6, by omega⟩
theorem Src.ex_ {H H' : Hp} {s d : Addr} {B : Nat} (S : Src H s d B) (e : Ex H H') : Src H' s d B := by
  obtain ⟨ds, a, m, c, h1, h2, h⟩ := S.ex
  exact ⟨ds, a, m, c, e _ _ h1, e _ _ h2, h⟩
theorem Src.free {H : Hp} {s d : Addr} {B : Nat} (S : Src H s d B) {p : Addr} (h : H p = none) : p ≠ s ∧ p ≠ d := by
  obtain ⟨ds, a, m, c, h1, h2, _⟩ := S.ex
  exact ⟨(ne_of_none h1 h).symm, (ne_of_none h2 h).symm⟩
/-- all but the source is kept -/
def Kp (s d : Addr) (H H' : Hp) : Prop := ∀ b o, b ≠ s → b ≠ d → H b = some o → H' b = some o
theorem Kp.refl {s d : Addr} {H : Hp} : Kp s d H H := fun _ _ _ _ h => h
theorem Kp.trans {s d : Addr} {H H1 H2 : Hp} (a : Kp s d H H1) (b : Kp s d H1 H2) : Kp s d H H2 := fun c o h1 h2 h => b c o h1 h2 (a c o h1 h2 h)
theorem Kp.of {s d : Addr} {H H' : Hp} (e : Ex H H') : Kp s d H H' := fun c o _ _ h => e c o h
theorem Kp.l {s d : Addr} {H H1 H2 : Hp} (a : Kp s d H H1) (b : Ex H1 H2) : Kp s d H H2 := a.trans (.of b)
def spDraw : Sp := fun vs H Q _ => ∃ (s d : Addr) (many : Int) (B : Nat), vs = [.ref s, .int many] ∧ 0 < many ∧ many ≤ 10 ^ 60 ∧ Src H s d (B + 1) ∧ ∀ n H', 0 ≤ n → n < many → Src H' s d B → Kp s d H H' → Q (.int n) H'
def spSource (K : PySem.W.Frag) : Sp := fun vs H Q _ => ∃ (a : Addr) (ns : List Int), vs = [.ref a] ∧ SqL K H a (ns.map V.int) ∧ ns.length ≤ 63 ∧ ∀ s d H', H s = none → H d = none → Src H' s d (2 ^ 59) → Ex H H' → Q (.ref s) H'
theorem sz1000 {n : Nat} (h : n ≤ 1000) : n ≤ sizeLine := Nat.le_trans h (by decide)
theorem f_draw {H : Hp} {s d : Addr} {B : Nat} {many : Int} {Q : VK} {E : XK} (S : Src H s d (B + 1)) (h0 : 0 < many) (hb : many ≤ 10 ^ 60) (q : ∀ n H', 0 ≤ n → n < many → Src H' s d B → Kp s d H H' → Q (.int n) H') :
    spDraw ([.ref s, .int many] ++ []) H Q E := ⟨s, d, many, B, rfl, h0, hb, S, q⟩
theorem at_ints {L : List Int} {n : Int} (h0 : 0 ≤ n) (h1 : n < L.length) : ∃ z, z ∈ L ∧ atI (L.map V.int) n = some (.int z) := by
  obtain ⟨j, rfl⟩ : ∃ j : Nat, n = (j : Int) := ⟨n.toNat, by omega⟩
  have hj : j < L.length := by omega
  exact ⟨L[j], List.getElem_mem hj, atI_nat (by rw [List.getElem?_map, List.getElem?_eq_getElem hj]; rfl)⟩
theorem Kp.at {s d p : Addr} {H H' : Hp} {o : HO} (k : Kp s d H H') (f : p ≠ s ∧ p ≠ d) (h : H p = some o) : H' p = some o := k p o f.1 f.2 h
theorem upd_old {H : Hp} {p q : Addr} {o u : HO} (h : H p = some o) (n : H q = none) : upd H q u p = some o := by
  rw [upd_ne (ne_of_none h n)]; exact h
def spCount : Sp := fun vs H Q _ => ∃ (s d : Addr) (B : Nat), vs = [.ref s] ∧ Src H s d (B + 7) ∧ ∀ y H', y.natAbs ≤ 10 ^ 31 → Src H' s d B → Kp s d H H' → Q (.int y) H'

/-! ### data: what _law_same compares -/
def tyN : PyData → String
  | .none => "NoneType" | .bool _ => "bool" | .int _ => "int" | .str _ => "str" | .list _ => "list" | .tuple _ => "tuple" | .dict _ => "dict"
theorem ty_dp {K : PySem.W.Frag} {H : Hp} {x : V} {d : PyData} (h : Dp K H x d) : TyX K H x (.type (tyN d)) := by
  cases h with
  | non => exact .base .non
  | bl b => exact .base (.bl b)
  | int i => exact .base (.int i)
  | str x => exact .base (.str x)
  | lst h _ =>
    rcases h with (h | ⟨o, h⟩) | ⟨o, its, n, h, c, _⟩
    · exact .base (.lst h)
    · exact .base (.frz h)
    · exact .kList h c
  | tup h _ =>
    rcases h with (h | ⟨o, h⟩) | ⟨o, its, n, h, c, _⟩
    · exact .base (.tup h)
    · exact .fTuple h
    · exact .kTuple h c
mutual
theorem dp_ex {K : PySem.W.Frag} {H H' : Hp} (e : Ex H H') : ∀ {d : PyData} {x : V}, Dp K H x d → Dp K H' x d
  | _, _, .non => .non
  | _, _, .bl b => .bl b
  | _, _, .int i => .int i
  | _, _, .str x => .str x
  | _, _, .lst h a => .lst (ex_l e h) (dpa_ex e a)
  | _, _, .tup h a => .tup (ex_t e h) (dpa_ex e a)
theorem dpa_ex {K : PySem.W.Frag} {H H' : Hp} (e : Ex H H') : ∀ {ds : List PyData} {xs : List V}, DpAll K H xs ds → DpAll K H' xs ds
  | _, _, .nil => .nil
  | _, _, .cons h a => .cons (dp_ex e h) (dpa_ex e a)
end
theorem dpa_len {K : PySem.W.Frag} {H : Hp} : ∀ {xs : List V} {ds : List PyData}, DpAll K H xs ds → xs.length = ds.length
  | _, _, .nil => rfl
  | _, _, .cons _ a => congrArg Nat.succ (dpa_len a)
theorem dpa_get {K : PySem.W.Frag} {H : Hp} : ∀ {xs : List V} {ds : List PyData} {i : Nat}, DpAll K H xs ds → i < ds.length → ∃ x d, xs[i]? = some x ∧ ds[i]? = some d ∧ d ∈ ds ∧ Dp K H x d
  | _, _, _, .nil, h => by simp at h
  | _, _, 0, .cons h _, _ => ⟨_, _, rfl, rfl, List.mem_cons_self .., h⟩
  | _, _, i + 1, .cons _ a, h => by
    obtain ⟨x, d, h1, h2, h3, h4⟩ := dpa_get (i := i) a (by simpa using h)
    exact ⟨x, d, h1, h2, List.mem_cons_of_mem _ h3, h4⟩
/-- data of depth n, lists and tuples of at most 10000 -/
def okd : Nat → PyData → Prop
  | _, .none => True
  | _, .bool _ => True
  | _, .int _ => True
  | _, .str x => PyData.canLay0 (.str x) = true
  | n + 1, .list xs => xs.length ≤ 10000 ∧ ∀ x, x ∈ xs → okd n x
  | n + 1, .tuple xs => xs.length ≤ 10000 ∧ ∀ x, x ∈ xs → okd n x
  | _, _ => False
theorem shaped_str {x : Str} (h : PyData.canLay0 (.str x) = true) : SeqAt.shaped (.str x) = true := by
  unfold SeqAt.shaped
  rw [h]; rfl
theorem ev_isi {K : PySem.W.Frag} {σ : L2.St} {H : Hp} {te : TE} {x : V} {t : String} {n : String} {b : Bool} (h : Ev te σ H x) (ty : ∀ H1, Ex H H1 → TyX K H1 x (.type t)) (kb : kitB t n = some b) :
    Ev (tCB (rIsi K) (tCons te (tCons (tC (.ty n)) tNil))) σ H (.bl b) := fun H1 e Q q => h H1 e _ fun H2 e2 => ⟨x, .ty n, _, _, b, rfl, .ty n, ty H2 (e.trans e2), kit_ty kb, q H2 e2⟩
theorem rv_isN {H : Hp} {x : V} : RV (fun x y H Q => y = .non ∧ Q (.bl (decide (x = .non))) H) x .non H (.bl (decide (x = .non))) := fun H1 _ _ q => ⟨rfl, q H1 (Ex.refl H1)⟩
theorem rv_eqDp {K : PySem.W.Frag} {H : Hp} {x y : V} {d e : PyData} (hx : Dp K H x d) (hy : Dp K H y e) (sd : SeqAt.shaped d = true) (se : SeqAt.shaped e = true) : RV (rEqD K) x y H (.bl (PyData.eqv d e)) := fun H1 x1 _ q =>
  ⟨d, e, dp_ex x1 hx, dp_ex x1 hy, sd, se, q H1 (Ex.refl H1)⟩
/-- found[k], of a list or a tuple -/
theorem rv_ixAny {K : PySem.W.Frag} {H : Hp} {p : Addr} {xs : List V} {j : Nat} {v : V} (h : SqL K H p xs ∨ SqT K H p xs) (ha : xs[j]? = some v) : RV (rIx K) (.ref p) (.int (j : Int)) H v := fun H1 e _ q => by
  rcases h with h | h
  · exact Or.inl ⟨p, xs, _, v, rfl, rfl, ex_l e h, atI_nat ha, q H1 (Ex.refl H1)⟩
  · exact Or.inr (Or.inl ⟨p, xs, _, v, rfl, rfl, ex_t e h, atI_nat ha, q H1 (Ex.refl H1)⟩)
theorem ev_lenS {K : PySem.W.Frag} {σ : L2.St} {H : Hp} {ta : TE} {p : Addr} {xs : List V} (ha : Ev ta σ H (.ref p)) (h : SqL K H p xs ∨ SqT K H p xs) : Ev (tCB (rLenS K) (tCons ta tNil)) σ H (.int (xs.length : Int)) := fun H1 e Q q =>
  ha H1 e _ fun H2 e2 => ⟨p, xs, rfl, h.elim (fun h => Or.inl (ex_l (e.trans e2) h)) (fun h => Or.inr (ex_t (e.trans e2) h)), q H2 e2⟩
def spSame (K : PySem.W.Frag) (n : Nat) : Sp := fun vs H Q _ => ∃ (x y : V) (dt : PyData), vs = [x, y] ∧ Dp K H x dt ∧ Dp K H y dt ∧ okd n dt ∧ ∀ H', Ex H H' → Q (.bl true) H'
theorem given_none {n : Nat} {f : Nat → Bool} {v : Nat → V} (h : ∀ i, i < n → f i = false) : given n f v = [] := by
  unfold given
  rw [List.filter_eq_nil_iff.mpr (fun i hi => by rw [h i (List.mem_range.mp hi)]; decide)]; rfl

/-! ### steps of a law's own text -/
section
variable {K : PySem.W.Frag} {σ : L2.St} {H : Hp} {Q : VK} {te : TE} {t : TT}
theorem f_evL {xs : List V} (h : EvL te σ H xs) (k : ∀ p H1, H p = none → Ex H H1 → H1 p = some (.lst xs) → Q (.ref p) H1) : te σ H Q := h H (Ex.refl H) Q k
theorem f_ev {v : V} (h : Ev te σ H v) (k : ∀ H1, Ex H H1 → Q v H1) : te σ H Q := h H (Ex.refl H) Q k
theorem ev_callK {sp : Sp} {gV : List V → List V → List V} {E : XK} {ta tk : TA} {vs zs : List V} {n m : Nat} {z : V} (h : EvA ta σ H vs) (hk : EvA tk σ H zs) (hn : vs.length = n) (hm : zs.length = m) (hs : SpV sp (gV vs zs) H z) : Ev (tCallN n m sp gV E ta tk) σ H z := fun H1 e Q q =>
  h H1 e _ fun H2 e2 => hk H2 (e.trans e2) _ fun H3 e3 => ⟨hn, hm, hs H3 ((e.trans e2).trans e3) Q (fun H4 e4 => q H4 ((e2.trans e3).trans e4)) E⟩
theorem sv_Fk {D : List V → V → Prop} {vs : List V} {H : Hp} {z : V} (h : D vs z) : SpV (spF D) vs H z := fun H1 e Q q E => ⟨z, h, q⟩
/-- a def that gives a new list -/
def spNL (D : List V → List V → Prop) : Sp := fun vs H Q _ => ∃ xs, D vs xs ∧ ∀ p H', H p = none → Ex H H' → H' p = some (.lst xs) → Q (.ref p) H'
theorem sl_NL {D : List V → List V → Prop} {vs : List V} {H : Hp} {xs : List V} (h : D vs xs) : SpL (spNL D) (vs ++ []) H xs := fun H1 e Q q E => ⟨xs, by rw [List.append_nil]; exact h, q⟩
theorem el_lcR2 {ta : TA} {j : Nat} {vs : List Nat} {lo n : Int} (f : Nat → Bool) (v : Nat → V) (h : EvA ta σ H [.int lo, .int n]) (hn : -100000 ≤ lo ∧ lo ≤ 100000 ∧ lo ≤ n ∧ n ≤ lo + 40000) (hw : ∀ x, wipe ((wipe σ vs).set j (some x)) vs = wipe σ vs)
    (ht : ∀ (i : Nat) H1, Ex H H1 → lo + (i : Int) < n → EvT t ((wipe σ vs).set j (some (.int (lo + (i : Int))))) H1 (f i)) (he : ∀ (i : Nat) H1, Ex H H1 → lo + (i : Int) < n → f i = true → Ev te ((wipe σ vs).set j (some (.int (lo + (i : Int))))) H1 (v i)) :
    EvL (tLc (iRng2 ta) (gName j) t te vs) σ H (given (n - lo).toNat f v) := fun H0 e Q q => h H0 e _ fun H1 e1 => ⟨lo, n, rfl, by omega, fun Dl hD =>
  lc_range (lo := lo) (n := (n - lo).toNat) (Cw H1 f v Dl) ⟨hD, Ex.new hD, upd_same⟩ (fun i H' hi p =>
    ⟨hw _, cw_turn p (by omega) (ht i H1 (e.trans e1) (by omega)) (fun hf => he i H1 (e.trans e1) (by omega) hf)⟩) (fun H' p => q Dl H' (fresh_back e1 p.1) (e1.trans p.2.1) p.2.2)⟩
theorem et_yes {b : Bool} (h : b = true) : EvT tYes σ H b := fun H1 _ _ q => by subst h; exact q H1 (Ex.refl H1)
theorem ev_sumL {ns : List Int} (h : EvL te σ H (ns.map V.int)) : Ev (tCB (rSum K) (tCons te tNil)) σ H (.int ns.sum) := fun H1 e Q q =>
  h H1 e _ fun p H2 _ e2 hp => ⟨p, ns, rfl, sq_of hp, q H2 e2⟩
theorem given_all {n : Nat} {v : Nat → V} : given n (fun _ => true) v = (List.range n).map v := by
  unfold given
  rw [List.filter_eq_self.mpr (fun _ _ => rfl)]
theorem el_rep {te tk : TE} {xs : List V} {k : Int} (h : EvL te σ H xs) (hk : ∀ H1, Ex H H1 → Ev tk σ H1 (.int k)) (h0 : 0 ≤ k ∧ k ≤ 100) (hz : xs.length ≤ 100) : EvL (tOp rRep te tk) σ H ((List.replicate k.toNat xs).flatten) := fun H1 e Q q =>
  h H1 e _ fun p H2 np e2 hp => hk H2 (e.trans e2) H2 (Ex.refl H2) _ fun H3 e3 => ⟨p, k, xs, rfl, rfl, e3 _ _ hp, by omega, by omega, Nat.le_trans (Nat.mul_le_mul hz (show k.toNat ≤ 100 by omega)) (by decide), fun l hl => q l _ (fresh_back (e2.trans e3) hl) ((e2.trans e3).trans (Ex.new hl)) upd_same⟩
/-- a list of bools compared -/
theorem eqv_bools (xs : List Bool) : PyData.eqvAll (xs.map PyData.bool) (xs.map PyData.bool) = true := by
  induction xs with
  | nil => simp [PyData.eqvAll]
  | cons x xs ih => simp [PyData.eqvAll, PyData.eqv, ih]
theorem dpa_bools {H : Hp} : ∀ ns : List Bool, DpAll K H (ns.map V.bl) (ns.map PyData.bool)
  | [] => .nil
  | n :: ns => .cons (.bl n) (dpa_bools ns)
theorem dp_bools {H : Hp} {a : Addr} {ns : List Bool} (h : SqL K H a (ns.map V.bl)) : Dp K H (.ref a) (.list (ns.map PyData.bool)) := .lst h (dpa_bools ns)
end
end Mc
namespace Mc
open PySem L2 Evl
/-! ### defs that are called where no repr is under way -/
structure FnG (P : Program) (w : World) (K : PySem.W.Frag) (mg : Str → Option Value) (base : Heap) (CX : CXT) (k : Nat) (f : Addr) (fd : FuncData) (ps : List Str) (sp : Sp) : Prop where
  len : ∀ vs H Q E, sp vs H Q E → vs.length = ps.length
  run : ∀ (A : Around) (outer : List Env) (s : Shared) (H : Hp) (args : Args) (us : List Value) (vs : List V) (Q : VK) (E : XK), A.guards = some [] → Room k A → Env0 P w K mg base A outer s H →
    BindsTo s fd args (ps.zip us) → Vals vs us → sp vs H Q E → codeAny (model P w) A (.call (.ref f) args) (CR CX outer P w H s Q E) s
section
variable {P : Program} {w : World} {K : PySem.W.Frag} {mg : Str → Option Value} {base : Heap} {CX : CXT} {k : Nat} {f : Addr} {fd : FuncData} {N ps : List Str} {sp : Sp}
theorem FnG.of (F : FnOk P w K mg base CX k f fd ps sp) : FnG P w K mg base CX k f fd ps sp := ⟨F.len, fun A outer s H args us vs Q E _ hr => F.run A outer s H args us vs Q E hr⟩
theorem okG {x qual : Str} {st : Stmt} (F : Fun K x qual st f fd) (S : FnScope N ps (defScope st)) (len : ∀ vs H Q E, sp vs H Q E → vs.length = ps.length)
    (body : ∀ (cdv : Value) (A : Around) (outer : List Env) (s : Shared) (H : Hp) (vs : List V) (Q : VK) (E : XK), A.guards = some [] → Room k (A.deeper (PyProof.Rows.envOfC qual (defScope st) s.heap.objs.size f cdv)) → sp vs H Q E →
      ∃ t, PSs (cxOf CX P w K mg base N qual (defScope st) f cdv A outer s H E).nox (defBody st) t ∧ t { nx := fun _ H' => Q .non H', rt := Q } (L2.start N vs) H) : FnG P w K mg base CX (k + 1) f fd ps sp := by
  obtain ⟨oc, od, kV, doc, pm, an, cdv, ct, osl, rfl, lk, hcd⟩ := F.ex
  refine ⟨len, fun A outer s H args us vs Q E hG hr e0 hb r hsp => ?_⟩
  have kept : ∀ b o, base.get? b = some o → s.heap.get? b = some o := fun b o e => (e0.bs b o e).1
  have inK : K.In s.heap := e0.mod.kin.keeps kept
  refine codeAny_call_function hr.depth (inK _ _ lk) rfl S.co S.gen rfl (PySem.W.codeRec_of inK hcd) (hb _ _ _ _ ?_)
  refine wpAny_newFunctionEnv_cells S.kind (fun q hq => (S.par q.1 (List.of_mem_zip (show (q.1, q.2) ∈ _ from hq)).1).imp id fun z => ⟨z, PySem.W.cellsFrom_some _ _ _ (.inl z)⟩) fun env he s1 x => ?_
  subst he
  refine ⟨(e0.mod.nolimit.keeps kept).keeps x.toInCall.keep, codeAny_func ?_⟩
  obtain ⟨t, ht, hq⟩ := body cdv A outer s H vs Q E hG (hr.deeper _) hsp
  have I0 := inv_start (CX := CX) (E := E) S hr.hd e0 (len _ _ _ _ hsp) r x
  refine wpAny_mono (ht.nox.run [] s1 _ H _ I0 hq) (fun fl s' hs => ?_) fun _ _ hs => hs
  match fl, hs with
  | .ret _, ⟨v, _, H', J, rv, q⟩ => exact ⟨v, H', J.os, J.bare, J.base, J.hok, rv, q⟩
  | .next, ⟨_, H', J, q⟩ => exact ⟨.non, H', J.os, J.bare, J.base, J.hok, rfl, q⟩
  | .brk, ⟨_, _, _, q⟩ => exact q.elim
  | .cont, ⟨_, _, _, q⟩ => exact q.elim
end
section
variable {X : Cx} {CX : CXT} {k : Nat} {f : Addr} {fd : FuncData} {ps : List Str} {sp : Sp} {dvs : List V} {ds : List Value} {E : XK} {x : Str} {p pos : Pos} {e : Expr} {es : List Expr} {t : TA}
theorem run_fnG {pins : List (Addr × Obj)} {σ : L2.St} {H : Hp} {s : Shared} {Q : VK} {us : List Value} {vs : List V} (hG : X.A.guards = some []) (F : FnG X.prog X.w X.K X.mg X.base CX k f fd ps sp) (hr : Room k X.A) (hb : Binds X.K fd ps ds) (hd : Vals dvs ds)
    (hx : Passes CX X E) (I : Inv X pins σ H s) (r : Vals vs us) (h : sp (vs ++ dvs) H Q E) : wpAny (model X.prog X.w) X.A (call (.ref f) us) (EP X pins σ Q) X.xe s := by
  have rr := r.append hd
  have ln := rr.length.symm.trans (F.len _ _ _ _ h)
  refine wpAny_call (codeAny_mono (F.run X.A X.stack s H ⟨us, []⟩ _ _ Q E hG hr I.env0 (hb s us I.kIn ln) rr h) fun out s' hq => ?_)
  match out, hq with
  | .error e, hq => exact hx pins σ H s e s' I hq
  | .ok (.ret u), hq => exact I.after hq
  | .ok .next, hq => exact hq.elim
  | .ok .brk, hq => exact hq.elim
  | .ok .cont, hq => exact hq.elim
/-- f(e, ..) of such a def -/
theorem pe_callG (hG : X.A.guards = some []) (F : FnG X.prog X.w X.K X.mg X.base CX k f fd ps sp) (hr : Room k X.A) (hg : Gl X x) (hm : X.mg x = some (.ref f)) (kp : PySem.W.keepIn X.K (.ref f) = true) (hb : Binds X.K fd ps ds) (hd : Vals dvs ds)
    (hx : Passes CX X E) (ha : PA X (e :: es) t) (hdeb : (x == ("__debug__" : Str)) = false := by decide) (hst : starEach (e :: es) X.env = (false, eval e X.env) :: starEach es X.env := by rfl) (hplain : (backTo pos (starEach es X.env)).any (·.1) = false := by rfl) :
    PE X (.Call (.Name x p) (e :: es) [] pos) (tCall sp dvs E t) :=
  ⟨fun pins s σ H Q I h => wpAny_Call_Name_kw (ld_glob I hg hm (PySem.W.callWith_K (h₀ := X.base) I.ok.mod.kin kp (thn (ha.run pos pins s σ H _ I h) fun _ _ ⟨_, _, I1, r, q⟩ => ⟨I1.kIn, run_fnG hG F hr hb hd hx I1 r q⟩) hst hplain) hdeb)⟩
/-! ### repr of data -/
/-- the text of data fits -/
structure Fits (d : PyData) : Prop where
  nodict : d.hasDict = false
  show_ : d.showable = true
  deep : d.depth ≤ 20
  size : d.shown.length ≤ sizeLine
def rRepr (K : PySem.W.Frag) : List V → Hp → VK → Prop := fun xs H Q => ∃ (a : Addr) (d : PyData), xs = [.ref a] ∧ Dp K H (.ref a) d ∧ Fits d ∧ ∀ H', Ex H H' → Q (.str d.shown) H'
theorem call_repr_data (hG : X.A.guards = some []) (hu : X.A.units + 64 < cLine) : CallR X (.builtin "repr") (rRepr X.K) := by
  intro pins s σ H xs us Q I r h
  obtain ⟨a, d, rfl, hd, hf, q⟩ := h
  obtain ⟨u, rfl, rx⟩ := vals1 r
  have rx' : u = .ref a := rx
  subst rx'
  obtain ⟨as, hr⟩ := Dp.reads I d (.ref a) (.ref a) hd rfl
  have hdp := hf.deep
  refine repr_of_reads' hr hf.show_ (fun z => by rw [hf.nodict] at z; cases z) hG (by omega) (fun _ _ e => e) (fun h' u tk hk => ?_) hf.size
  exact ⟨.str d.shown, H, I.kept (h' := h') (t' := tk) hk, ⟨u, rfl⟩, q H (Ex.refl H)⟩
end
theorem ev_repr {K : PySem.W.Frag} {σ : L2.St} {H : Hp} {te : TE} {a : Addr} {d : PyData} (h : Ev te σ H (.ref a)) (hd : Dp K H (.ref a) d) (hf : Fits d) : Ev (tCB (rRepr K) (tCons te tNil)) σ H (.str d.shown) := fun H1 e Q q =>
  h H1 e _ fun H2 e2 => ⟨a, d, rfl, dp_ex (e.trans e2) hd, hf, fun H3 e3 => q H3 (e2.trans e3)⟩
/-! ### a law's end over such a def -/
section
open PySem.W PyProof.Rows
/-- the abstract heap at a law's call: nothing but the script -/
theorem script_heap {P : Program} {w : World} {K : PySem.W.Frag} {h : Heap} {a : Addr} {vs : List Value} {ns : List Int} (KX : K.In h) (ha : h.get? a = some { cls := .type "list", data := .seq vs.toArray }) (hi : IntsAre vs ns) (hl : ns.length ≤ sizeLine) :
    ∃ H : Hp, Only H ∧ SqL K H a (ns.map V.int) ∧ HOk P w H h ∧ (∀ b, H b ≠ none → b = a) ∧ (H a ≠ none → K.lookup a = none) := by
  have rv := vals_ints hi
  have ln : vs.toArray.size ≤ sizeLine := by rw [List.size_toArray, hi.length]; exact hl
  rcases e : K.lookup a with _ | o
  · let H : Hp := fun b => if b = a then some (.frz { cls := .type "list", data := .seq vs.toArray } (.lst (ns.map V.int))) else none
    have at_ : H a = some (.frz { cls := .type "list", data := .seq vs.toArray } (.lst (ns.map V.int))) := if_pos rfl
    have off : ∀ b, b ≠ a → H b = none := fun b hb => if_neg hb
    refine ⟨H, fun b => ?_, .inl (.inr ⟨_, at_⟩), fun b u z => ?_, fun b z => Classical.byContradiction fun hb => z (off b hb), fun _ => rfl⟩
    · rcases Classical.em (b = a) with rfl | hb
      · exact .inr ⟨_, _, at_⟩
      · exact .inl (off b hb)
    · rcases Classical.em (b = a) with rfl | hb
      · rw [at_] at z
        cases z
        exact ⟨ha, by rw [List.length_map]; exact hl, vs, _, rv, ha⟩
      · rw [off b hb] at z
        cases z
  · have eo := (KX a o e).symm.trans ha
    cases eo
    exact ⟨fun _ => none, fun _ => .inl rfl, .inr ⟨_, _, _, e, rfl, rfl, rfl, ln, rv⟩, fun b u z => by simp at z, fun b z => absurd rfl z, fun z => absurd rfl z⟩
theorem law_callG {P : Program} {w : World} {K : PySem.W.Frag} {mg mb : Str → Option Value} {k : Nat} {fa a : Addr} {fd : FuncData} {x : Str} {sp : Sp} {s : Shared} {vs : List Value} {ns : List Int}
    (KX : K.In s.heap) (hns : s.heap.Ns mainGlobals mg) (hb : s.heap.Ns builtinsNs mb) (hbb : ∀ x : Str, x ≠ "__name__" → mb x = bootBuiltins x) (hlim : s.heap.NoLimit) (hg : s.gens = #[])
    (ha : s.heap.get? a = some { cls := .type "list", data := .seq vs.toArray }) (hi : IntsAre vs ns) (hl : ns.length ≤ sizeLine) (hr : Room k callerA)
    (F : ∀ base : Heap, K.In base → base.Ns mainGlobals mg → FnG P w K mg base CX0 k fa fd [x] sp) (hbind : ∀ (s : Shared) (u : Value), BindsTo s fd ⟨[u], []⟩ [(x, u)])
    (hsp : ∀ H : Hp, Only H → SqL K H a (ns.map V.int) → sp [.ref a] H (fun v _ => v = .bl true) fun _ _ _ => False) :
    codeAny (model P w) callerA (.call (.ref fa) ⟨[.ref a], []⟩) (fun r s' => r = .ok (.ret (.bool true)) ∧ OldK s.heap s'.heap ∧ s'.os = s.os ∧ AllBare s'.gens) s := by
  obtain ⟨H, hO, hS, hok, hA, hK⟩ := script_heap (P := P) (w := w) KX ha hi hl
  have free : ∀ {b : Addr} {o : Obj} {es : Array DictEntry} {ep : Nat}, s.heap.get? b = some o → o.data = .dict es ep → H b = none := fun {b o es ep} e d => by
    rcases q : H b with _ | u
    · rfl
    · have eb := hA b (by rw [q]; exact Option.some_ne_none u)
      subst eb
      rw [ha] at e
      cases e
      cases d
  have nsB : ∀ {b : Addr} {m : Str → Option Value}, s.heap.Ns b m → (hidT s.heap H).Ns b m := fun ⟨o, es, ep, e, d, r⟩ => ⟨o, es, ep, hidT_get e (free e d), d, r⟩
  have inB : K.In (hidT s.heap H) := fun b o e => hidT_get (KX b o e) (by
    rcases q : H b with _ | u
    · rfl
    · have ne : H b ≠ none := by rw [q]; exact Option.some_ne_none u
      have eb := hA b ne
      subst eb
      rw [hK ne] at e
      cases e)
  have mod : Mod K mg (hidT s.heap H) := ⟨inB, nsB hns, ⟨mb, nsB hb, hbb⟩, hlim.elim fun mc h => ⟨mc, nsB h.1, h.2⟩⟩
  have e0 : Env0 P w K mg (hidT s.heap H) callerA [] s H := ⟨rfl, mod, fun b o e => of_hidT e, Nat.le_of_eq (hidT_size _ _), trivial, (fun b hb => absurd hb (by simp [frs])), hok, .of_eq hg⟩
  refine codeAny_mono ((F _ inB (nsB hns)).run callerA [] s H ⟨[.ref a], []⟩ [.ref a] [.ref a] _ _ rfl hr e0 (hbind s (.ref a)) (.cons rfl .nil) (hsp H hO hS)) fun out s' h => ?_
  match out, h with
  | .error e, h => exact h.elim
  | .ok .next, h => exact h.elim
  | .ok .brk, h => exact h.elim
  | .ok .cont, h => exact h.elim
  | .ok (.ret u), ⟨v, H', os, bare, un, hok', rl, (q : v = .bl true)⟩ =>
    subst q
    obtain rfl : u = Value.bool true := rl
    refine ⟨rfl, OldK.of_keep fun b o e => ?_, os, bare⟩
    rcases q : H b with _ | u
    · exact un.keep b o e q (fun z => nomatch z) (by simp)
    · rcases hO b with z | ⟨ob, xs, z⟩
      · rw [q] at z
        cases z
      · have e1 := (hok b _ z).1
        have e2 := (hok' b _ (un.frzs b ob _ z)).1
        rw [e] at e1
        cases e1
        exact e2
theorem walk_ofG {l : PySem.W.OpenLaw} {n k : Nat} {q : Program} {loose : List Str} {XP : (Str → Option Value) → Heap → Prop} {YP : World → Heap → Prop} {d : DefRec} {K : Params → PySem.W.Frag} {sp : World → Sp} {x : Str}
    (hn : l.most = some n) (hn2 : n ≤ sizeLine) (hdf : d.params.defaults = []) (hr : Room k callerA) (hY : ∀ (w : World) (h : Heap), YP w h → (K w.params).In h)
    (F : ∀ (w : World) (mg : Str → Option Value) (fa : Addr) (h : Heap), (K w.params).In h → h.Ns mainGlobals mg → mg d.name = some (.ref fa) →
      ∃ fd : FuncData, (∀ (s : Shared) (u : Value), BindsTo s fd ⟨[u], []⟩ [(x, u)]) ∧ ∀ base : Heap, (K w.params).In base → base.Ns mainGlobals mg → FnG l.prog w (K w.params) mg base CX0 k fa fd [x] (sp w))
    (hsp : ∀ (w : World) (H : Hp) (a : Addr) (ns : List Int), ns.length ≤ n → Only H → SqL (K w.params) H a (ns.map V.int) → sp w [.ref a] H (fun v _ => v = .bl true) fun _ _ _ => False) :
    PySem.W.WalkO q loose XP YP l.row.toRowW d [] (fun f vs => PySem.call f vs) :=
  Att.attach_call hn hdf fun w s₀ s₁ mg mb fa o pm cd doc a vs ns G Y _ _ _ hmg hobj hints hlen hg => by
    have KX := hY w _ Y
    obtain ⟨fd, hb, hF⟩ := F w mg fa _ KX G.T.g hmg
    exact law_callG KX G.T.g G.T.b G.T.builtins G.T.nolimit hg hobj hints (Nat.le_trans hlen hn2) hr hF hb fun H hO hS => hsp w H a ns hlen hO hS
end
/-! ### more of expressions and statements -/
section
variable {K : PySem.W.Frag} {σ : L2.St} {H : Hp} {Q : VK} {te ta tb : TE} {D : Ends}
theorem rv_div {i j : Int} (h : 0 < j) (hb : j ≤ 10 ^ 60) : RV (rI CDivW fun i j => .int (i / j)) (.int i) (.int j) H (.int (i / j)) := rv_I (wide_div (b := 200) h (by omega) (by decide) (by decide))
theorem rv_mul {i j : Int} (h : i.natAbs ≤ 10 ^ 100) (hb : j.natAbs ≤ 10 ^ 100) : RV (rI CMulW fun i j => .int (i * j)) (.int i) (.int j) H (.int (i * j)) := rv_I (wide_mul (a := 400) (b := 400) (Nat.lt_of_le_of_lt h (by decide +kernel)) (Nat.lt_of_le_of_lt hb (by decide +kernel)) (by decide) (by decide) (by decide))
/-- a def that gives z of vs, as the heap says, and leaves all as it was -/
def spH (D : Hp → List V → V → Prop) : Sp := fun vs H Q _ => ∃ z, D H vs z ∧ ∀ H', Ex H H' → Q z H'
theorem sv_H {D : Hp → List V → V → Prop} {vs : List V} {z : V} (h : ∀ H1, Ex H H1 → D H1 vs z) : SpV (spH D) (vs ++ []) H z := fun H1 e Q q E => ⟨z, by rw [List.append_nil]; exact h H1 e, q⟩
/-- .. that gives a new tuple -/
def spU (D : Hp → List V → List V → Prop) : Sp := fun vs H Q _ => ∃ xs, D H vs xs ∧ ∀ p H', H p = none → Ex H H' → H' p = some (.tup xs) → Q (.ref p) H'
theorem eu_call {D : Hp → List V → List V → Prop} {vs xs : List V} {E : XK} {ta : TA} (h : EvA ta σ H vs) (hs : ∀ H1, Ex H H1 → D H1 vs xs) : EvU (tCall (spU D) [] E ta) σ H xs := fun H1 e Q q =>
  h H1 e _ fun H2 e2 => ⟨xs, by rw [List.append_nil]; exact hs H2 (e.trans e2), fun p H3 hp e3 h3 => q p H3 (fresh_back e2 hp) (e2.trans e3) h3⟩
theorem eu_callN {D : Hp → List V → List V → Prop} {gV : List V → List V → List V} {vs zs xs : List V} {n m : Nat} {E : XK} {ta tk : TA} (h : EvA ta σ H vs) (hk : EvA tk σ H zs) (hn : vs.length = n) (hm : zs.length = m) (hs : ∀ H1, Ex H H1 → D H1 (gV vs zs) xs) : EvU (tCallN n m (spU D) gV E ta tk) σ H xs := fun H1 e Q q =>
  h H1 e _ fun H2 e2 => hk H2 (e.trans e2) _ fun H3 e3 => ⟨hn, hm, xs, hs H3 ((e.trans e2).trans e3), fun p H4 hp e4 h4 => q p H4 (fresh_back (e2.trans e3) hp) ((e2.trans e3).trans e4) h4⟩
theorem f_evU {xs : List V} (h : EvU te σ H xs) (k : ∀ p H1, H p = none → Ex H H1 → H1 p = some (.tup xs) → Q (.ref p) H1) : te σ H Q := h H (Ex.refl H) Q k
/-- a, b, c = e -/
theorem s_un3 {i j l : Nat} {p : Addr} {a b c : V} (h : Ev te σ H (.ref p)) (hT : SqT K H p [a, b, c]) (k : ∀ H1, Ex H H1 → D.nx (((σ.set i (some a)).set j (some b)).set l (some c)) H1) :
    tAsg te (gTup K 3 (gCons (gName i) (gCons (gName j) (gCons (gName l) gNil)))) D σ H := h H (Ex.refl H) _ fun H1 e => ⟨p, [a, b, c], rfl, ex_t e hT, rfl, a, [b, c], rfl, b, [c], rfl, c, [], rfl, rfl, k H1 e⟩
theorem rv_ixTn {p : Addr} {xs : List V} {j : Nat} {v : V} (h : SqT K H p xs) (ha : xs[j]? = some v) : RV (rIxT K) (.ref p) (.int (j : Int)) H v := rv_ixT h (atI_nat ha)
theorem ev_min2 {i j : Int} (ha : Ev ta σ H (.int i)) (hb : Ev tb σ H (.int j)) : Ev (tCB (fun xs H Q => ∃ i j, xs = [.int i, .int j] ∧ Q (.int (if j < i then j else i)) H) (tCons ta (tCons tb tNil))) σ H (.int (min i j)) := fun H1 e Q q =>
  ha H1 e _ fun H2 e2 => hb H2 (e.trans e2) _ fun H3 e3 => ⟨i, j, rfl, by
    have e : (if j < i then j else i) = min i j := by split <;> omega
    rw [e]; exact q H3 (e2.trans e3)⟩
end
/-! ### draws among other steps -/
section
variable {K : PySem.W.Frag} {σ : L2.St} {H : Hp} {Q : VK} {te ta tb : TE} {D : Ends}
theorem f_par {i j : Nat} {ta : TA} (h : ta σ H fun vs H1 => ∃ v w, vs = [v, w] ∧ D.nx ((σ.set i (some v)).set j (some w)) H1) : tPar i j ta D σ H := h
theorem f_par2 {v w : V} {R : V → V → Prop} (q : R v w) : ∃ a b, [v, w] = [a, b] ∧ R a b := ⟨v, w, rfl, q⟩
/-- a list, a tuple is made in the midst of draws -/
theorem f_newL {s d : Addr} {B : Nat} {xs : List V} {R : Addr → Prop} (S : Src H s d B) (hz : xs.length ≤ 1000) (q : ∀ p, H p = none → p ≠ s ∧ p ≠ d → Src (upd H p (.lst xs)) s d B → Ex H (upd H p (.lst xs)) → (upd H p (.lst xs)) p = some (.lst xs) → R p) : xs.length ≤ sizeLine ∧ ∀ p, H p = none → R p :=
  ⟨sz1000 hz, fun p hp => q p hp (S.free hp) (S.ex_ (Ex.new hp)) (Ex.new hp) upd_same⟩
theorem f_newU {s d : Addr} {B : Nat} {xs : List V} {R : Addr → Prop} (S : Src H s d B) (hz : xs.length ≤ 1000) (q : ∀ p, H p = none → p ≠ s ∧ p ≠ d → Src (upd H p (.tup xs)) s d B → Ex H (upd H p (.tup xs)) → (upd H p (.tup xs)) p = some (.tup xs) → R p) : xs.length ≤ sizeLine ∧ ∀ p, H p = none → R p :=
  ⟨sz1000 hz, fun p hp => q p hp (S.free hp) (S.ex_ (Ex.new hp)) (Ex.new hp) upd_same⟩
theorem f_catL {s d : Addr} {B : Nat} {a b : Addr} {xs ys : List V} (S : Src H s d B) (ha : H a = some (.lst xs)) (hb : H b = some (.lst ys)) (hz : xs.length + ys.length ≤ 1000) (q : ∀ p H', H p = none → p ≠ s ∧ p ≠ d → Src H' s d B → Ex H H' → H' p = some (.lst (xs ++ ys)) → Q (.ref p) H') : rCat (.ref a) (.ref b) H Q :=
  ⟨a, b, xs, ys, rfl, rfl, ha, hb, sz1000 hz, fun p hp => q p _ hp (S.free hp) (S.ex_ (Ex.new hp)) (Ex.new hp) upd_same⟩
theorem Kp.new {s d p : Addr} {B : Nat} {H H' : Hp} (k : Kp s d H H') (S : Src H' s d B) (h : H' p = none) : H p = none := by
  have f := S.free h
  rcases e : H p with _ | o
  · rfl
  · rw [k.at f e] at h; cases h
/-- a new date, in the midst of draws -/
def spDate (ok : Int → Int → Int → Prop) : Sp := fun vs H Q _ => ∃ (s d : Addr) (B : Nat), vs = [.ref s] ∧ Src H s d (B + 12) ∧ ∀ (y m e : Int) (p : Addr) (H' : Hp), ok y m e → y.natAbs ≤ 10 ^ 31 → H p = none → p ≠ s ∧ p ≠ d → Src H' s d B → Kp s d H H' → H' p = some (.tup [.int y, .int m, .int e]) → Q (.ref p) H'
/-- a new list of at most `most` ints -/
def spJumps : Sp := fun vs H Q _ => ∃ (s d : Addr) (B : Nat) (most : Int), vs = [.ref s, .int most] ∧ 0 ≤ most ∧ most ≤ 60 ∧ Src H s d (B + 1000) ∧
  ∀ (ks : List Int) (p : Addr) (H' : Hp), (ks.length : Int) ≤ most → (∀ k, k ∈ ks → k.natAbs ≤ 10 ^ 28) → H p = none → p ≠ s ∧ p ≠ d → Src H' s d B → Kp s d H H' → H' p = some (.lst (ks.map V.int)) → Q (.ref p) H'
end
section
variable {K : PySem.W.Frag} {σ : L2.St} {H : Hp} {Q : VK} {te ta tb to : TE} {D : Ends} {tu : TS} {g : TG}
theorem f_forR1 {ta : TA} (h : ta σ H fun vs H1 => ∃ j : Int, vs = [.int j] ∧ -(2 ^ 62) ≤ j ∧ j < 2 ^ 62 ∧ ∃ W : Nat → Nat → L2.St → Hp → Prop, (∃ m, W 0 m σ H1) ∧ ∀ i m σ H, W i m σ H →
    ((Itr 0 j.toNat).stop i H ∧ D.nx σ H) ∨ ((Itr 0 j.toNat).go i H ∧ ∃ N : L2.St → Hp → Prop, (∀ σ' H', N σ' H' → ∃ m', m' < m ∧ W (i + 1) m' σ' H') ∧ ∀ x H', (Itr 0 j.toNat).yld i H x H' → g x σ H' fun σ2 H2 => tu { D with nx := N, ct := N, bk := D.nx } σ2 H2)) : tFor (iRng1 ta) g tu D σ H := h
theorem f_bm {T : String} {r : V → List V → Hp → VK → Prop} {t : TA} (h : to σ H fun x H1 => tyV K T x H1 ∧ t σ H1 fun xs H2 => r x xs H2 Q) : tBM K T r to t σ H Q := h
theorem f_tyL {p : Addr} {xs : List V} {R : Prop} (h : H p = some (.lst xs)) (q : R) : tyV K "list" (.ref p) H ∧ R := ⟨.inl ⟨rfl, _, sq_of h⟩, q⟩
theorem at_m2 {L : List Int} (h : 2 ≤ L.length) : ∃ z, z ∈ L ∧ atI (L.map V.int) (-2) = some (.int z) := by
  have e : ixN (L.map V.int).length (-2) = some (L.length - 2) := by
    unfold ixN
    rw [List.length_map, if_neg (by decide), if_pos (by omega)]
    exact congrArg some (by omega)
  have hj : L.length - 2 < L.length := by omega
  refine ⟨L[L.length - 2], List.getElem_mem hj, ?_⟩
  unfold atI
  rw [e]
  show (L.map V.int)[L.length - 2]? = _
  rw [List.getElem?_map, List.getElem?_eq_getElem hj]; rfl
theorem ixN_m1 {n : Nat} (h : 0 < n) : ixN n (-1) = some (n - 1) := by
  unfold ixN
  rw [if_neg (by decide), if_pos (by omega)]
  exact congrArg some (by omega)
end
/-! ### texts that fit -/
theorem fits_of {d : PyData} (h1 : d.hasDict = false) (h2 : d.showable = true) (h3 : d.depth ≤ 20) (h4 : d.leavesShort 110 = true) (h5 : d.weight ≤ 140000) : Fits d :=
  ⟨h1, h2, h3, Nat.le_trans (PyData.shown_le 110 (by decide) d h4) (Nat.le_trans (Nat.add_le_add_right (Nat.mul_le_mul_left 112 h5) 110) (by decide))⟩
theorem log_le {i : Int} (h : i.natAbs ≤ 10 ^ 100) : i.natAbs.log2 < 334 := PySem.Flt.log2_lt_of (by decide) (Nat.lt_of_le_of_lt h (by decide +kernel))
theorem shows_int {i : Int} (h : i.natAbs ≤ 10 ^ 100) : PyData.showable (.int i) = true ∧ PyData.leavesShort 110 (.int i) = true ∧ PyData.weight (.int i) ≤ 335 := by
  have hl := log_le h
  refine ⟨?_, ?_, ?_⟩
  · simp only [PyData.showable]; exact decide_eq_true (by omega)
  · simp only [PyData.leavesShort]
    refine decide_eq_true ?_
    have e := int_text_length_le10 (k := 101) (a := i) (by decide) (Nat.lt_of_le_of_lt h (by decide +kernel))
    show (Str.ofString (toString i)).length ≤ 110
    rw [ofString_length]; omega
  · simp only [PyData.weight]; split <;> omega
theorem shows_ints : ∀ (ks : List Int), (∀ k, k ∈ ks → k.natAbs ≤ 10 ^ 100) → PyData.showableAll (ks.map PyData.int) = true ∧ PyData.leavesShortAll 110 (ks.map PyData.int) = true ∧ PyData.weightAll (ks.map PyData.int) ≤ 336 * ks.length ∧ PyData.hasDictAll (ks.map PyData.int) = false ∧ PyData.depthAll (ks.map PyData.int) = 0
  | [], _ => by simp [PyData.showableAll, PyData.leavesShortAll, PyData.weightAll, PyData.hasDictAll, PyData.depthAll]
  | k :: ks, h => by
    obtain ⟨a, b, c⟩ := shows_int (h k (List.mem_cons_self ..))
    obtain ⟨a', b', c', d', e'⟩ := shows_ints ks fun x hx => h x (List.mem_cons_of_mem _ hx)
    refine ⟨?_, ?_, ?_, ?_, ?_⟩
    · simp only [List.map_cons, PyData.showableAll, a, a']; rfl
    · simp only [List.map_cons, PyData.leavesShortAll, b, b']; rfl
    · simp only [List.map_cons, PyData.weightAll, List.length_cons]; omega
    · simp only [List.map_cons, PyData.hasDictAll, PyData.hasDict, d']; rfl
    · simp only [List.map_cons, PyData.depthAll, PyData.depth, e']; rfl
/-- [date, list] -/
def pairD (y m e : Int) (ks : List Int) : PyData := .list [.tuple ([y, m, e].map PyData.int), .list (ks.map PyData.int)]
theorem fits_pair {y m e : Int} {ks : List Int} (h : ∀ k, k ∈ [y, m, e] → k.natAbs ≤ 10 ^ 100) (hk : ∀ k, k ∈ ks → k.natAbs ≤ 10 ^ 100) (hl : ks.length ≤ 200) : Fits (pairD y m e ks) := by
  obtain ⟨a, b, c, d, f⟩ := shows_ints [y, m, e] h
  obtain ⟨a', b', c', d', f'⟩ := shows_ints ks hk
  refine fits_of ?_ ?_ ?_ ?_ ?_
  · simp only [pairD, PyData.hasDict, PyData.hasDictAll, d, d']; rfl
  · simp only [pairD, PyData.showable, PyData.showableAll, a, a']; rfl
  · simp only [pairD, PyData.depth, PyData.depthAll, f, f']; decide
  · simp only [pairD, PyData.leavesShort, PyData.leavesShortAll, b, b']; rfl
  · simp only [pairD, PyData.weight, PyData.weightAll]
    have : [y, m, e].length = 3 := rfl
    omega
theorem ev_reprL {K : PySem.W.Frag} {σ : L2.St} {H : Hp} {te : TE} {xs : List V} {d : PyData} (h : EvL te σ H xs) (hd : ∀ p H1, Ex H H1 → H1 p = some (.lst xs) → Dp K H1 (.ref p) d) (hf : Fits d) : Ev (tCB (rRepr K) (tCons te tNil)) σ H (.str d.shown) := fun H1 e Q q =>
  h H1 e _ fun p H2 _ e2 h2 => ⟨p, d, rfl, hd p H2 (e.trans e2) h2, hf, fun H3 e3 => q H3 (e2.trans e3)⟩
theorem dp_date {K : PySem.W.Frag} {H : Hp} {p : Addr} {xs : List Int} (h : SqT K H p (xs.map V.int)) : Dp K H (.ref p) (.tuple (xs.map PyData.int)) := .tup h (dpa_ints xs)
theorem dp_pair {K : PySem.W.Frag} {H : Hp} {p a b : Addr} {y m e : Int} {ks : List Int} (h : H p = some (.lst [.ref a, .ref b])) (ha : SqT K H a [.int y, .int m, .int e]) (hb : SqL K H b (ks.map V.int)) : Dp K H (.ref p) (pairD y m e ks) :=
  .lst (sq_of h) (.cons (dp_date (xs := [y, m, e]) ha) (.cons (dp_ints hb) .nil))
theorem rv_eqS {H : Hp} {x : Str} : RV rEq (.str x) (.str x) H (.bl true) := fun H1 _ _ q => ⟨rfl, by rw [decide_eq_true rfl]; exact q H1 (Ex.refl H1)⟩
theorem rv_neS {H : Hp} {x : Str} : RV rNe (.str x) (.str x) H (.bl false) := fun H1 _ _ q => ⟨rfl, by rw [decide_eq_true rfl]; exact q H1 (Ex.refl H1)⟩
theorem okd_ints (n : Nat) (ks : List Int) : ∀ d, d ∈ ks.map PyData.int → okd n d := fun d hd => by
  obtain ⟨z, _, rfl⟩ := List.mem_map.mp hd
  cases n <;> trivial
theorem eqv_tints {n : Nat} (xs : List Int) : SeqAt.shaped (.tuple (xs.map PyData.int)) = true := PySem.W.ke_shaped_ints xs
/-- tuples of ints compared -/
theorem rv_neT {K : PySem.W.Frag} {H : Hp} {a b : Addr} {xs : List Int} (ha : SqT K H a (xs.map V.int)) (hb : SqT K H b (xs.map V.int)) : RV (rNeD K) (.ref a) (.ref b) H (.bl false) := fun H1 e Q q =>
  ⟨_, _, dp_date (ex_t e ha), dp_date (ex_t e hb), PySem.W.ke_shaped_ints xs, PySem.W.ke_shaped_ints xs, by
    show Q (.bl (!PyData.eqvAll (xs.map PyData.int) (xs.map PyData.int))) H1
    rw [eqv_ints, decide_eq_true rfl]; exact q H1 (Ex.refl H1)⟩
theorem rv_eqT {K : PySem.W.Frag} {H : Hp} {a b : Addr} {xs : List Int} (ha : SqT K H a (xs.map V.int)) (hb : SqT K H b (xs.map V.int)) : RV (rEqD K) (.ref a) (.ref b) H (.bl true) := fun H1 e Q q =>
  ⟨_, _, dp_date (ex_t e ha), dp_date (ex_t e hb), PySem.W.ke_shaped_ints xs, PySem.W.ke_shaped_ints xs, by
    show Q (.bl (PyData.eqvAll (xs.map PyData.int) (xs.map PyData.int))) H1
    rw [eqv_ints, decide_eq_true rfl]; exact q H1 (Ex.refl H1)⟩
/-! ### comprehensions that draw; slices -/
section
variable {K : PySem.W.Frag} {σ : L2.St} {H : Hp} {Q : VK} {te ta tb to : TE} {tt : TT} {g : TG}
/-- what a comprehension over range(n) asks -/
def LcR (n : Nat) (g : TG) (tt : TT) (te : TE) (vs : List Nat) (σ : L2.St) (H : Hp) (Q : VK) : Prop := ∀ D, H D = none → ∃ W : Nat → Nat → Hp → Prop, (∃ m, W 0 m (upd H D (.lst []))) ∧ ∀ i m H, W i m H →
  ((Itr 0 n).stop i H ∧ Q (.ref D) H) ∨ ((Itr 0 n).go i H ∧ ∃ Nx : Hp → Prop, (∀ H', Nx H' → ∃ m', m' < m ∧ W (i + 1) m' H') ∧ ∀ x H', (Itr 0 n).yld i H x H' → g x (wipe σ vs) H' fun σ2 H2 => wipe σ2 vs = wipe σ vs ∧ tt σ2 H2 fun b H3 =>
    if b = true then te σ2 H3 fun y H4 => ∃ acc, H4 D = some (.lst acc) ∧ acc.length < sizeLine ∧ Nx (upd H4 D (.lst (acc ++ [y]))) else Nx H3)
theorem f_lcR1 {ta : TA} {vs : List Nat} (h : ta σ H fun us H1 => ∃ n : Int, us = [.int n] ∧ -(2 ^ 62) ≤ n ∧ n < 2 ^ 62 ∧ LcR n.toNat g tt te vs σ H1 Q) : tLc (iRng1 ta) g tt te vs σ H Q := h
theorem f_yes {R : Bool → Hp → Prop} (h : R true H) : tYes σ H R := h
/-- n turns, each of at most c draws and an int with φ -/
theorem lc_draws {vs : List Nat} {j n : Nat} {s d : Addr} {B c : Nat} (φ : Int → Prop) (S : Src H s d (B + c * n)) (hn : n ≤ 1000) (hw : ∀ x, wipe ((wipe σ vs).set j (some x)) vs = wipe σ vs)
    (turn : ∀ (i : Nat) H' b, i < n → Kp s d H H' → Src H' s d (b + c) → ∀ R : VK, (∀ z H2, φ z → Kp s d H' H2 → Src H2 s d b → R (.int z) H2) → te ((wipe σ vs).set j (some (.int ((0 : Int) + (i : Int))))) H' R)
    (hd : ∀ (ks : List Int) (p : Addr) (H' : Hp), H p = none → p ≠ s ∧ p ≠ d → ks.length = n → (∀ k, k ∈ ks → φ k) → Src H' s d B → Kp s d H H' → H' p = some (.lst (ks.map V.int)) → Q (.ref p) H') :
    LcR n (gName j) tYes te vs σ H Q := fun D hD => by
  have fD := S.free hD
  refine lc_range (lo := 0) (n := n) (fun i H' => ∃ ks : List Int, ks.length = i ∧ (∀ k, k ∈ ks → φ k) ∧ H' D = some (.lst (ks.map V.int)) ∧ Src H' s d (B + c * (n - i)) ∧ Kp s d H H') ⟨[], rfl, (fun _ h => by simp at h), upd_same, S.ex_ (Ex.new hD), .of (Ex.new hD)⟩ (fun i H' hi ⟨ks, h1, h2, h3, h4, h5⟩ => ⟨hw _, ?_⟩) (fun H' ⟨ks, h1, h2, h3, h4, h5⟩ => hd ks D H' hD fD h1 h2 (h4.less (by omega)) h5 h3)
  have e : B + c * (n - i) = B + c * (n - (i + 1)) + c := by
    rw [show n - i = (n - (i + 1)) + 1 by omega, Nat.mul_add, Nat.mul_one]; omega
  rw [e] at h4
  refine f_yes ?_
  rw [if_pos rfl]
  refine turn i H' _ hi h5 h4 _ fun z H2 hz k2 S2 => ⟨_, k2.at fD h3, Nat.lt_of_le_of_lt (by rw [List.length_map]; omega : _ ≤ 1000) (by decide), ks ++ [z], by simp [h1], fun k hk => ?_, by rw [upd_same, List.map_append]; rfl, ?_, fun b o g1 g2 g => ?_⟩
  · rcases List.mem_append.mp hk with h | h
    · exact h2 k h
    · rw [List.mem_singleton.mp h]; exact hz
  · obtain ⟨ds, a, m, q, g1, g2, g3⟩ := S2.ex
    exact ⟨ds, a, m, q, by rw [upd_ne fD.1.symm]; exact g1, by rw [upd_ne fD.2.symm]; exact g2, g3⟩
  · rw [upd_ne (ne_of_none g hD)]
    exact k2 b o g1 g2 (h5 b o g1 g2 g)
theorem cutV_take {xs : List V} {n : Nat} : cutV xs none (some (n : Int)) = xs.take n := by
  unfold cutV
  rw [HT.sIx_none, HT.sIx_nat, List.drop_zero, Nat.sub_zero]
  rcases Nat.le_total n xs.length with h | h
  · rw [Nat.min_eq_left h]
  · rw [Nat.min_eq_right h, List.take_of_length_le (Nat.le_refl _), List.take_of_length_le h]
theorem cutV_drop {xs : List V} {n : Nat} : cutV xs (some (n : Int)) none = xs.drop n := by
  unfold cutV
  rw [HT.sIx_none, HT.sIx_nat]
  rcases Nat.le_total n xs.length with h | h
  · rw [Nat.min_eq_left h, List.take_of_length_le (by rw [List.length_drop]; exact Nat.le_refl _)]
  · rw [Nat.min_eq_right h, Nat.sub_self, List.take_zero, List.drop_eq_nil_of_le h]
theorem el_take {a : Addr} {ks : List Int} {n : Int} (h : Ev te σ H (.ref a)) (hn : Ev ta σ H (.int n)) (h0 : 0 ≤ n) (hs : SqL K H a (ks.map V.int)) : EvL (tSl (rSlL K) te tNoPart (tPart ta)) σ H ((ks.take n.toNat).map V.int) := by
  obtain ⟨m, rfl⟩ : ∃ m : Nat, n = (m : Int) := ⟨n.toNat, by omega⟩
  have z := el_sl h eo_none (eo_some hn) hs
  rw [cutV_take] at z
  rw [List.map_take]; exact z
theorem el_drop {a : Addr} {ks : List Int} {n : Int} (h : Ev te σ H (.ref a)) (hn : Ev ta σ H (.int n)) (h0 : 0 ≤ n) (hs : SqL K H a (ks.map V.int)) : EvL (tSl (rSlL K) te (tPart ta) tNoPart) σ H ((ks.drop n.toNat).map V.int) := by
  obtain ⟨m, rfl⟩ : ∃ m : Nat, n = (m : Int) := ⟨n.toNat, by omega⟩
  have z := el_sl h (eo_some hn) eo_none hs
  rw [cutV_drop] at z
  rw [List.map_drop]; exact z
theorem el_cat {xs ys : List V} (h : EvL ta σ H xs) (hb : EvL tb σ H ys) (hz : xs.length + ys.length ≤ 1000) : EvL (tOp rCat ta tb) σ H (xs ++ ys) := fun H1 e Q q =>
  h H1 e _ fun p H2 _ e2 h2 => hb H2 (e.trans e2) _ fun r H3 _ e3 h3 => ⟨p, r, xs, ys, rfl, rfl, e3 _ _ h2, h3, sz1000 hz, fun l hl => q l _ (fresh_back (e2.trans e3) hl) ((e2.trans e3).trans (Ex.new hl)) upd_same⟩
end
section
variable {K : PySem.W.Frag} {σ : L2.St} {H : Hp} {Q : VK} {te ta tb to : TE}
theorem f_andV (h : ta σ H fun x H1 => ∃ c, x = .bl c ∧ if c = true then tb σ H1 Q else Q (.bl false) H1) : tAndV ta tb σ H Q := h
theorem f_orV (h : ta σ H fun x H1 => ∃ c, x = .bl c ∧ if c = true then Q (.bl true) H1 else tb σ H1 Q) : tOrV ta tb σ H Q := h
theorem f_rv {r : R2} {x y z : V} (h : RV r x y H z) (k : ∀ H1, Ex H H1 → Q z H1) : r x y H Q := h H (Ex.refl H) Q k
theorem f_spU {D : Hp → List V → List V → Prop} {vs : List V} (xs : List V) {E : XK} (h : D H vs xs) (q : ∀ p H', H p = none → Ex H H' → H' p = some (.tup xs) → Q (.ref p) H') : spU D (vs ++ []) H Q E := ⟨xs, by rw [List.append_nil]; exact h, q⟩
end
section
variable {K : PySem.W.Frag} {σ : L2.St} {H : Hp} {Q : VK} {te ta tb to : TE}
theorem ev_opU1 {r : R2} {xs : List V} {y z : V} (ha : EvU ta σ H xs) (hb : ∀ H1, Ex H H1 → Ev tb σ H1 y) (hr : ∀ p H1, H1 p = some (.tup xs) → Ex H H1 → RV r (.ref p) y H1 z) : Ev (tOp r ta tb) σ H z := fun H1 e Q q =>
  ha H1 e _ fun p H2 _ e2 hp => hb H2 (e.trans e2) H2 (Ex.refl H2) _ fun H3 e3 => hr p H3 (e3 p _ hp) ((e.trans e2).trans e3) H3 (Ex.refl H3) Q fun H4 e4 => q H4 ((e2.trans e3).trans e4)
theorem eu_call2L {D : Hp → List V → List V → Prop} {v : V} {ys xs : List V} {E : XK} (ha : Ev ta σ H v) (hb : EvL tb σ H ys) (hs : ∀ p H1, Ex H H1 → H1 p = some (.lst ys) → D H1 [v, .ref p] xs) : EvU (tCall (spU D) [] E (tCons ta (tCons tb tNil))) σ H xs := fun H1 e Q q =>
  ha H1 e _ fun H2 e2 => hb H2 (e.trans e2) _ fun p H3 _ e3 h3 => ⟨xs, hs p H3 ((e.trans e2).trans e3) h3, fun p' H4 hp e4 h4 => q p' H4 (fresh_back (e2.trans e3) hp) ((e2.trans e3).trans e4) h4⟩
theorem eu_call2UL {D : Hp → List V → List V → Prop} {us ys xs : List V} {E : XK} (ha : EvU ta σ H us) (hb : EvL tb σ H ys) (hs : ∀ p r H1, Ex H H1 → H1 p = some (.tup us) → H1 r = some (.lst ys) → D H1 [.ref p, .ref r] xs) : EvU (tCall (spU D) [] E (tCons ta (tCons tb tNil))) σ H xs := fun H1 e Q q =>
  ha H1 e _ fun p H2 _ e2 h2 => hb H2 (e.trans e2) _ fun r H3 _ e3 h3 => ⟨xs, hs p r H3 ((e.trans e2).trans e3) (e3 _ _ h2) h3, fun p' H4 hp e4 h4 => q p' H4 (fresh_back (e2.trans e3) hp) ((e2.trans e3).trans e4) h4⟩
theorem f_par3 {D : Ends} {i j l : Nat} {ta : TA} (h : ta σ H fun vs H1 => ∃ u v w, vs = [u, v, w] ∧ D.nx (((σ.set i (some u)).set j (some v)).set l (some w)) H1) : tPar3 i j l ta D σ H := h
theorem f_par33 {u v w : V} {R : V → V → V → Prop} (q : R u v w) : ∃ a b c, [u, v, w] = [a, b, c] ∧ R a b c := ⟨u, v, w, rfl, q⟩
end
/-! ### lists of tuples of ints -/
/-- all tuples are kept -/
def KT (H H' : Hp) : Prop := ∀ q xs, H q = some (.tup xs) → H' q = some (.tup xs)
theorem KT.ex {H H' : Hp} (e : Ex H H') : KT H H' := fun q xs h => e q _ h
theorem KT.trans {H H1 H2 : Hp} (a : KT H H1) (b : KT H1 H2) : KT H H2 := fun q xs h => b q xs (a q xs h)
theorem KT.kp {H H' : Hp} {s d : Addr} {B : Nat} (S : Src H s d B) (k : Kp s d H H') : KT H H' := fun q xs h => by
  obtain ⟨ds, a, m, c, g1, g2, _⟩ := S.ex
  exact k q _ (ne_of h g1 (by intro z; cases z)) (ne_of h g2 (by intro z; cases z)) h
theorem KT.upd {H : Hp} {l : Addr} {xs ys : List V} (h : H l = some (.lst xs)) : KT H (upd H l (.lst ys)) := fun q zs g => by
  rw [upd_ne (ne_of g h (by intro z; cases z))]; exact g
def TupsAt (H : Hp) : List V → List (List Int) → Prop := Paired fun v xs => ∃ q, v = .ref q ∧ H q = some (.tup (xs.map V.int))
theorem TupsAt.kt {H H' : Hp} (k : KT H H') : ∀ {vs : List V} {xs : List (List Int)}, TupsAt H vs xs → TupsAt H' vs xs
  | _, _, .nil => .nil
  | _, _, .cons ⟨q, e, h⟩ t => .cons ⟨q, e, k q _ h⟩ (TupsAt.kt k t)
theorem TupsAt.snoc {H : Hp} {q : Addr} {ys : List Int} (h : H q = some (.tup (ys.map V.int))) : ∀ {vs : List V} {xs : List (List Int)}, TupsAt H vs xs → TupsAt H (vs ++ [.ref q]) (xs ++ [ys])
  | _, _, .nil => .cons ⟨q, rfl, h⟩ .nil
  | _, _, .cons a t => .cons a (TupsAt.snoc h t)
theorem TupsAt.dpa {K : PySem.W.Frag} {H : Hp} : ∀ {vs : List V} {xs : List (List Int)}, TupsAt H vs xs → DpAll K H vs (xs.map fun x => PyData.tuple (x.map PyData.int))
  | _, _, .nil => .nil
  | _, _, .cons ⟨q, e, h⟩ t => by subst e; exact .cons (dp_date (st_of h)) (TupsAt.dpa t)
theorem TupsAt.len {H : Hp} {vs : List V} {xs : List (List Int)} (h : TupsAt H vs xs) : vs.length = xs.length := Paired.length h
theorem Src.upd {H : Hp} {s d l : Addr} {B : Nat} {o : HO} (S : Src H s d B) (f : l ≠ s ∧ l ≠ d) : Src (upd H l o) s d B := by
  obtain ⟨ds, a, m, c, g1, g2, g3⟩ := S.ex
  exact ⟨ds, a, m, c, by rw [upd_ne f.1.symm]; exact g1, by rw [upd_ne f.2.symm]; exact g2, g3⟩
theorem okd_tups {n : Nat} {xs : List (List Int)} (hl : xs.length ≤ 10000) (h : ∀ x, x ∈ xs → x.length ≤ 10000) : okd (n + 2) (.list (xs.map fun x => PyData.tuple (x.map PyData.int))) := by
  refine ⟨by rw [List.length_map]; exact hl, fun d hd => ?_⟩
  obtain ⟨x, hx, rfl⟩ := List.mem_map.mp hd
  exact ⟨by rw [List.length_map]; exact h x hx, okd_ints _ _⟩
end Mc
namespace Mc
open PySem L2 Evl
/-! ### set(xs) of a list of ints -/
section
variable {P : Program} {w : World} {A : Around} {E : Value → Shared → Prop} {s : Shared}
/-- the new set, empty -/
def freshSet (w : World) : Obj := { cls := .type "set", dict := none, data := .set #[] 0 (.fresh 0 0 (!w.params.followText "set-order")) }
/-- the list's iterator at its start -/
def freshIt (l : Addr) : Obj := { cls := .type "list_iterator", data := .fields #[.ref l, .int 0 0] }
/-- the fill of the new set from the list -/
theorem fill_set {l : Addr} {items : Array Value} {ns : List Int} {R : Result → Shared → Prop} (hh : A.in1.handled = none) (hl : s.heap.IsList l items) (hit : PyProof.Rows.IntsAre items.toList ns) (hb : ns.length + 1 < scanBound)
    (h : ∀ (h' : Heap) (tk c : Nat), SetR w h' s.heap.objs.size (fun j => decide (j ∈ ns)) c → c ≤ ns.length → (∀ b o, s.heap.get? b = some o → h'.get? b = some o) → R (.ok (.ret .none)) { s with heap := h', toks := tk }) (t0 : Nat) :
    codeAny (model P w) A (.builtin "set.update.loop" ⟨[.ref s.heap.objs.size, .ref (s.heap.push (freshSet w)).objs.size], []⟩) R { s with heap := (s.heap.push (freshSet w)).push (freshIt l), toks := t0 } := by
  have sz : (s.heap.push (freshSet w)).objs.size = s.heap.objs.size + 1 := Heap.size_push ..
  have lt : l < s.heap.objs.size := by obtain ⟨o, ho, _⟩ := hl; exact Heap.lt_size ho
  have n1 : items.size = ns.length := by have q := hit.length; rwa [Array.length_toList] at q
  have hl1 : (s.heap.push (freshSet w)).IsList l items := hl.push _
  have val : ∀ (i : Nat) (v : Value), items[i]? = some v → ∃ k t, ns[i]? = some k ∧ v = .int k t := fun i v hv => by
    have hi : i < ns.length := n1 ▸ (Array.getElem?_eq_some_iff.mp hv).1
    obtain ⟨t, e⟩ := PyProof.Rows.IntsAre.int_at hit i v (by rw [Array.getElem?_toList, hv])
    exact ⟨ns[i], t, List.getElem?_eq_getElem hi, by rw [e, List.getD_eq_getElem?_getD, List.getElem?_eq_getElem hi]; rfl⟩
  have far : s.heap.objs.size ∉ [(s.heap.push (freshSet w)).objs.size, l] := by
    rw [sz]; simp only [List.mem_cons, List.mem_singleton, List.not_mem_nil, or_false, not_or]; exact ⟨Nat.ne_of_lt (Nat.lt_succ_self _), Nat.ne_of_gt lt⟩
  have old : ((s.heap.push (freshSet w)).push (freshIt l)).get? s.heap.objs.size = some (freshSet w) := Heap.get?_push_of_some _ (Heap.get?_push_size _ rfl)
  refine set_update_ints ((Walks.list hh _ l (by rw [sz]; exact Nat.ne_of_lt (Nat.lt_succ_of_lt lt)) items).toS) s.heap.objs.size far ns n1 hb val items.size 0 _ (by omega) (Nat.zero_le _) ⟨⟨_, Heap.get?_push_size _ rfl, rfl, rfl⟩, hl1.push _⟩ ⟨0, Nat.le_refl 0, setR_new_at old⟩ fun s' c hm hc hS => ?_
  obtain ⟨h', g', d', tk, os'⟩ := s'
  cases hm.gens
  cases hm.drawn
  cases hm.os
  refine h h' tk c hS (n1 ▸ hc) fun b o e => hm.heap b o ?_ (Heap.get?_push_of_some _ (Heap.get?_push_of_some _ e))
  have lb := Heap.lt_size e
  rw [sz]; simp only [List.mem_cons, List.mem_singleton, List.not_mem_nil, or_false, not_or]; exact ⟨Nat.ne_of_lt lb, Nat.ne_of_lt (Nat.lt_succ_of_lt lb)⟩
/-- the state in which the set was made -/
def withSet (w : World) (s : Shared) : Shared := { s with heap := s.heap.push (freshSet w) }
/-- what the fill leaves -/
def Filled (w : World) (s : Shared) (ns : List Int) (s2 : Shared) : Prop := ∃ (h' : Heap) (tk c : Nat), s2 = { s with heap := h', toks := tk } ∧ SetR w h' s.heap.objs.size (fun j => decide (j ∈ ns)) c ∧ c ≤ ns.length ∧ ∀ b o, s.heap.get? b = some o → h'.get? b = some o
set_option maxHeartbeats 1000000 in
theorem set_init_list {l : Addr} {items : Array Value} (ns : List Int) (hh : A.handled = none) (hl : s.heap.IsList l items) (hit : PyProof.Rows.IntsAre items.toList ns) (hb : ns.length + 1 < scanBound) :
    codeAny (model P w) A (.call (.builtin "set.__init__") ⟨[.ref s.heap.objs.size, .ref l], []⟩) (wants (fun r s2 => r = .none ∧ Filled w s ns s2) E) (withSet w s) := by
  have made : (withSet w s).heap.get? s.heap.objs.size = some (freshSet w) := Heap.get?_push_size _ rfl
  have tyS : (withSet w s).TypeIs (.ref s.heap.objs.size) "set" := ⟨_, made, rfl⟩
  have hl0 := hl
  obtain ⟨⟨cl, dd, da, sl⟩, g1, g2, nn, g3⟩ := hl
  simp only at g2 g3
  subst g2; subst g3
  have g4 : (withSet w s).heap.get? l = some { cls := .type "list", dict := dd, data := .seq items nn, slots := sl } := Heap.get?_push_of_some _ g1
  have u1 := PySem.F.sub_list_set
  have u2 := PySem.F.sub_list_frozenset
  have u3 : (Value.type "list" == Value.type "dict") = false := by decide
  refine codeAny_call_builtin PySem.F.called_set.init.plain PySem.F.entry_set_init (check_set_init_1 tyS ?_)
  unfold Builtin.«set.__init__» noKeywords Builtin.Frozenset.updateFrom
  generalize hg : pyIter = walker
  wp_walk
  subst hg
  refine wpAny_pyIter_list (hl0.push _) ?_
  refine wpAny_bind (wpAny_runValue ?_)
  refine fill_set (by simp [hh]) hl0 hit hb (fun h' tk c a b d => ?_) _
  show wpAny _ _ _ _ _ _
  refine wpAny_pure ?_
  show wpAny _ _ (ret Value.none) _ _ _
  exact wpAny_pure ⟨rfl, h', tk, c, rfl, a, b, d⟩
set_option maxHeartbeats 1000000 in
theorem set_of_list {l : Addr} {items : Array Value} (ns : List Int) {Q : Value → Shared → Prop} (hh : A.handled = none) (hl : s.heap.IsList l items) (hit : PyProof.Rows.IntsAre items.toList ns) (hb : ns.length + 1 < scanBound)
    (done : ∀ (h' : Heap) (tk c : Nat), SetR w h' s.heap.objs.size (fun j => decide (j ∈ ns)) c → c ≤ ns.length → (∀ b o, s.heap.get? b = some o → h'.get? b = some o) → Q (.ref s.heap.objs.size) { s with heap := h', toks := tk }) :
    wpAny (model P w) A (call (.type "set") [.ref l]) Q E s := by
  have m1 := PySem.F.called_set.made
  have m2 := PySem.F.called_set.sub
  have m3 := PySem.F.called_set.notType
  have m4 := PySem.F.called_set.canCreate
  have m5 := PySem.F.typeCall_set_1 (.ref l)
  have m6 := PySem.F.called_set.init.lookup
  have m7 := PySem.F.called_set.init.bind (.ref s.heap.objs.size)
  obtain ⟨c0, tl0, m8⟩ := PySem.F.called_set.mro
  refine wpAny_call (codeAny_of_tree ?_)
  show wpAny _ _ (callAny (Value.type "set") _) _ _ _
  refine wpAny_pure ⟨Code.quiet_builtin _ (by decide +kernel), codeAny_builtin PySem.F.entry_type_call ?_⟩
  rw [Around.under_plain (weight_type_call_type "set" [.ref l] []) rfl]
  repeat (any_goals (first | assumption | wp_step))
  have made : (withSet w s).heap.get? s.heap.objs.size = some (freshSet w) := Heap.get?_push_size _ rfl
  refine codeAny_mono (code_set_led1 (.ref l) (E := E) (Q₁ := fun obj s₁ => obj = .ref s.heap.objs.size ∧ s₁ = withSet w s) ⟨rfl, rfl⟩) fun r s₁ hr => ?_
  match r, hr with
  | .error e, hr => exact hr
  | .ok (.ret obj), hr =>
    obtain ⟨rfl, rfl⟩ := hr
    have tyS : (withSet w s).TypeIs (.ref s.heap.objs.size) "set" := ⟨_, made, rfl⟩
    repeat (any_goals (first | assumption | wp_step))
    refine codeAny_mono (set_init_list (E := E) ns (by simp [hh]) hl hit hb) fun r2 s2 h2 => ?_
    match r2, h2 with
    | .error e, h2 => exact h2
    | .ok (.ret v), h2 =>
      obtain ⟨rfl, h', tk, c, rfl, a, b, d⟩ := h2
      repeat (any_goals (first | assumption | wp_step))
      exact done h' tk c a b d
end
/-! ### sorted, of a set of any size -/
section
open PySem.Spec PyProof.Rows
variable {P : Program} {w : World} {A : Around} {E : Value → Shared → Prop} {s : Shared} {a : Addr}
theorem sortedA {S : Int → Bool} {n : Nat} {Q : Value → Shared → Prop} (R : SetR w s.heap a S n) (hh : A.handled = none) (h64 : n ≤ 100000)
    (q : ∀ s' p (out : Array Value) (c : Nat) (ns : List Int), (∀ b o, s.heap.get? b = some o → s'.heap.get? b = some o) → s'.gens = s.gens → s'.os = s.os → s.heap.objs.size ≤ p → s'.heap.get? p = some (seqObj "list" out c) → IntsAre out.toList ns → ns.Pairwise (· < ·) → (∀ k, k ∈ ns ↔ S k = true) → ns.length = n → Q (.ref p) s') : wpAny (model P w) A (call (.builtin "sorted") [.ref a]) Q E s := by
  obtain ⟨o, es, ep, t, r1, r2, r3, r4, r5, r6, r7, r8, r9, r10, r11⟩ := R
  have hL : n ≤ sizeLine := by rw [sizeLine_eq]; omega
  refine Calls.call_function_entry kind_sorted plain_sorted entry_sorted (args_sorted1 _) ?_
  show wpAny _ _ (Builtin.«sorted» _) _ _ _
  unfold Builtin.«sorted»
  refine wpAny_bind (m := checkCount "sorted" 1 1 _) (wpAny_pure (wpAny_bind (collect_set (A := A.in1) hh ⟨o, r1, r2.1, r3⟩ r8 r7 r10 r11 fun s1 vs k1 hz g1 o1 pm => ?_)))
  have el : vs.length = n := by rw [pm.length_eq, List.length_map, Array.length_toList, ← r9]
  have iv : IntsAre vs (vs.map Builtin.Re.reRawOf) := ints_of vs fun v hv => by
    obtain ⟨e, he, rfl⟩ := List.mem_map.mp (pm.mem_iff.mp hv)
    obtain ⟨k, tk, z, _⟩ := r4 e he
    exact ⟨k, tk, z⟩
  have pk : (vs.map Builtin.Re.reRawOf).Perm (es.toList.map keyOf) := List.map_map (f := Prod.snd) (g := Builtin.Re.reRawOf) ▸ pm.map Builtin.Re.reRawOf
  have at_ : (s1.heap.push (seqObj "list" vs.toArray 0)).get? s1.heap.objs.size = some (seqObj "list" vs.toArray 0) := Heap.get?_push_size _ rfl
  refine wpAny_bind (wpAny_newList (wpAny_bind (wpAny_holding (wpAny_call_entry slot_list_sort ⟨_, at_, rfl⟩ entry_list_sort (list_sort_treeAny at_ iv (el ▸ hL) fun out zs a1 a2 a3 => ⟨_, rfl, ?_⟩) (args_list_sort _)))) (el ▸ hL))
  obtain ⟨c, hc⟩ := sortedHeap_at (vs := vs) (out := out) at_
  have pz : zs.Perm (es.toList.map keyOf) := a2.trans pk
  refine wpAny_pure ⟨_, rfl, q _ s1.heap.objs.size out c zs (fun b u g => ?_) g1 o1 hz hc a1 (lt_of_le_nodup zs a3 (pz.nodup_iff.mpr r5)) (fun k => (pz.mem_iff).trans (r6 k).symm) (by rw [pz.length_eq, List.length_map, Array.length_toList, ← r9])⟩
  have g' := k1 b u g
  have bl := Heap.lt_size g'
  exact (sortedHeap_old (Nat.ne_of_lt bl) (by rw [size_push']; exact Nat.lt_succ_of_lt bl)).trans (Heap.get?_push_of_some _ g')
end
section
variable {X : Cx}
/-- sorted(found) -/
def rSortedA (w : World) : List V → Hp → VK → Prop := fun vs H Q => ∃ (a : Addr) (S : Int → Bool) (n : Nat), vs = [V.ref a] ∧ H a = some (SetO w a S n) ∧ n ≤ 4000 ∧ ∀ (ns : List Int) (p : Addr), ns.Pairwise (· < ·) → (∀ k : Int, k ∈ ns ↔ S k = true) → ns.length = n → H p = none → Q (.ref p) (upd H p (.lst (ns.map V.int)))
theorem cr_sortedA (hc : X.calm = true) : CallR X (.builtin "sorted") (rSortedA X.w) := by
  intro pins s σ H vs us Q I r h
  obtain ⟨a, S, n, rfl, ha, hn, q⟩ := h
  have R := setO_get I ha
  rw [Vals.ref1 r]
  refine sortedA R (I.ok.hd hc) (by omega) fun s' p out c ns k g o hp hg hi hs hm hl => ?_
  have hz : (ns.map V.int).length ≤ sizeLine := by rw [List.length_map, sizeLine_eq, hl]; omega
  have np : H p = none := I.hok.fresh hp
  obtain ⟨h1, h2, h3, h4⟩ : s'.os = s.os ∧ True ∧ True ∧ True := ⟨o, trivial, trivial, trivial⟩
  have J : Inv X pins σ (upd H p (.lst (ns.map V.int))) { s with heap := s'.heap, gens := s'.gens, drawn := s'.drawn, toks := s'.toks } := I.call (ch := []) (Un.laid k hp np) (I.hok.laid k hp ⟨hz, out.toList, c, vals_of_ints hi, hg⟩) (by rw [g]; exact I.bare) fun _ z => nomatch z
  have es : s' = { s with heap := s'.heap, gens := s'.gens, drawn := s'.drawn, toks := s'.toks } := by
    cases s'; cases s; cases o; rfl
  rw [es]
  exact ⟨.ref p, _, J, rfl, q ns p hs hm hl np⟩
/-- sorted(xs) of a list of ints -/
def rSortedLA (K : PySem.W.Frag) : List V → Hp → VK → Prop := fun vs H Q => ∃ (a : Addr) (xs : List Int), vs = [V.ref a] ∧ SqL K H a (xs.map V.int) ∧ xs.length ≤ 100000 ∧ ∀ (ns : List Int) (p : Addr), ns.Perm xs → ns.Pairwise (· ≤ ·) → H p = none → Q (.ref p) (upd H p (.lst (ns.map V.int)))
theorem cr_sortedLA : CallR X (.builtin "sorted") (rSortedLA X.K) := by
  intro pins s σ H vs us Q I r h
  obtain ⟨a, xs, rfl, hs, hz, q⟩ := h
  obtain ⟨its, rv, pl, _⟩ := I.list hs
  have iv := rv.ints
  have hL : xs.length ≤ sizeLine := by rw [sizeLine_eq]; omega
  rw [Vals.ref1 r]
  refine PyProof.Rows.sorted_intsAny pl.isList iv (by rw [iv.length]; exact hL) fun out ns h1 h2 h3 => ?_
  obtain ⟨ep, he⟩ := PyProof.Rows.sortedAll_at s.heap its out
  have nz : (ns.map V.int).length ≤ sizeLine := by rw [List.length_map, h2.length_eq]; exact hL
  exact ⟨.ref _, upd H (s.heap.objs.size + 1) (.lst (ns.map V.int)), I.laid (t' := s.toks) (fun _ _ => PyProof.Rows.sortedAll_old) (Nat.le_succ _) ⟨nz, out.toList, ep, vals_of_ints h1, he⟩, rfl, q ns _ h2 h3 (I.hok.fresh (Nat.le_succ _))⟩
end
end Mc
namespace Mc
open PySem L2 Evl
section
variable {X : Cx}
def rSetL (K : PySem.W.Frag) (w : World) : List V → Hp → VK → Prop := fun xs H Q => ∃ (l : Addr) (ns : List Int), xs = [.ref l] ∧ SqL K H l (ns.map V.int) ∧ ns.length ≤ 4000 ∧ ∀ p c, H p = none → c ≤ ns.length → Q (.ref p) (upd H p (SetO w p (fun j => decide (j ∈ ns)) c))
theorem cr_setL (hc : X.calm = true) : CallR X (.type "set") (rSetL X.K X.w) := by
  intro pins s σ H xs us Q I r h
  obtain ⟨l, ns, rfl, hS, hl, q⟩ := h
  obtain ⟨its, rv, pl, hz⟩ := I.list hS
  rw [Vals.ref1 r]
  refine set_of_list ns (I.ok.hd hc) pl.isList (by simpa using rv.ints) (by unfold scanBound; omega) fun h' tk c R hcn k => ?_
  exact ⟨.ref _, upd H s.heap.objs.size (SetO X.w s.heap.objs.size (fun j => decide (j ∈ ns)) c), I.laid (t' := tk) k (Nat.le_refl _) (setO_new R), rfl, q _ _ (I.hok.fresh (Nat.le_refl _)) hcn⟩
end
/-! ### the members of a list, ascending -/
def insI (k : Int) : List Int → List Int
  | [] => [k]
  | x :: r => if k < x then k :: x :: r else if k = x then x :: r else x :: insI k r
def srt (ns : List Int) : List Int := ns.foldr insI []
theorem mem_insI {k j : Int} : ∀ {ns : List Int}, j ∈ insI k ns ↔ j = k ∨ j ∈ ns
  | [] => by simp [insI]
  | x :: r => by
    have ih := mem_insI (k := k) (j := j) (ns := r)
    unfold insI
    split
    · simp
    · split
      · next h => subst h; simp
      · rw [List.mem_cons, ih, List.mem_cons]
        constructor
        · rintro (h | h | h)
          · exact .inr (.inl h)
          · exact .inl h
          · exact .inr (.inr h)
        · rintro (h | h | h)
          · exact .inr (.inl h)
          · exact .inl h
          · exact .inr (.inr h)
theorem pw_insI {k : Int} : ∀ {ns : List Int}, ns.Pairwise (· < ·) → (insI k ns).Pairwise (· < ·)
  | [], _ => by simp [insI]
  | x :: r, h => by
    have h1 := List.pairwise_cons.mp h
    unfold insI
    split
    · next hk => exact List.pairwise_cons.mpr ⟨fun y hy => by
        rcases List.mem_cons.mp hy with rfl | hy
        · exact hk
        · exact Int.lt_trans hk (h1.1 y hy), h⟩
    · split
      · exact h
      · next hk he => exact List.pairwise_cons.mpr ⟨fun y hy => by
          rcases mem_insI.mp hy with rfl | hy
          · omega
          · exact h1.1 y hy, pw_insI h1.2⟩
theorem mem_srt {j : Int} : ∀ {ns : List Int}, j ∈ srt ns ↔ j ∈ ns
  | [] => by simp [srt]
  | x :: r => by
    have ih := mem_srt (j := j) (ns := r)
    show j ∈ insI x (srt r) ↔ _
    rw [mem_insI, ih, List.mem_cons]
theorem pw_srt : ∀ (ns : List Int), (srt ns).Pairwise (· < ·)
  | [] => List.Pairwise.nil
  | x :: r => pw_insI (pw_srt r)
theorem asc_uniq : ∀ {as bs : List Int}, as.Pairwise (· < ·) → bs.Pairwise (· < ·) → (∀ k, k ∈ as ↔ k ∈ bs) → as = bs
  | [], [], _, _, _ => rfl
  | [], b :: bs, _, _, h => absurd ((h b).mpr (List.mem_cons_self ..)) (by simp)
  | a :: as, [], _, _, h => absurd ((h a).mp (List.mem_cons_self ..)) (by simp)
  | a :: as, b :: bs, ha, hb, h => by
    have a1 := List.pairwise_cons.mp ha
    have b1 := List.pairwise_cons.mp hb
    have e : a = b := by
      rcases List.mem_cons.mp ((h a).mp (List.mem_cons_self ..)) with e | e
      · exact e
      · rcases List.mem_cons.mp ((h b).mpr (List.mem_cons_self ..)) with e' | e'
        · exact e'.symm
        · have := b1.1 a e; have := a1.1 b e'; omega
    subst e
    rw [asc_uniq a1.2 b1.2 fun k => ⟨fun hk => ?_, fun hk => ?_⟩]
    · rcases List.mem_cons.mp ((h k).mp (List.mem_cons_of_mem _ hk)) with e | e
      · subst e; exact absurd (a1.1 k hk) (Int.lt_irrefl _)
      · exact e
    · rcases List.mem_cons.mp ((h k).mpr (List.mem_cons_of_mem _ hk)) with e | e
      · subst e; exact absurd (b1.1 k hk) (Int.lt_irrefl _)
      · exact e
theorem srt_eq {as bs : List Int} (h : ∀ k, k ∈ as ↔ k ∈ bs) : srt as = srt bs := asc_uniq (pw_srt as) (pw_srt bs) fun k => by rw [mem_srt, mem_srt]; exact h k
section
variable {K : PySem.W.Frag} {w : World} {σ : L2.St} {H : Hp} {te : TE}
theorem sorted_step {l : Addr} {ns : List Int} {H H1 H2 : Hp} {Q : VK} (e : Ex H H1) (e2 : Ex H1 H2) (hs : SqL K H2 l (ns.map V.int)) (hn : ns.length ≤ 4000) (q : ∀ p H3, H1 p = none → Ex H1 H3 → H3 p = some (.lst ((srt ns).map V.int)) → Q (.ref p) H3) :
    tCons (fun _ H Q => rSetL K w [.ref l] H Q) tNil σ H2 fun vs H3 => rSortedA w vs H3 Q :=
  ⟨l, ns, rfl, hs, by omega, fun p c hp hc => ⟨p, _, c, rfl, upd_same, by omega, fun ks p2 k1 k2 k3 hp2 => by
    have e3 : ks = srt ns := asc_uniq k1 (pw_srt ns) fun k => by rw [k2 k, mem_srt]; simp
    subst e3
    exact q p2 _ (fresh_back (e2.trans (Ex.new hp)) hp2) ((e2.trans (Ex.new hp)).trans (Ex.new hp2)) upd_same⟩⟩
theorem el_sorted {a : Addr} {ns : List Int} (h : Ev te σ H (.ref a)) (hs : SqL K H a (ns.map V.int)) (hn : ns.length ≤ 4000) : EvL (tCB (rSortedA w) (tCons (tCB (rSetL K w) (tCons te tNil)) tNil)) σ H ((srt ns).map V.int) := fun H1 e Q q =>
  h H1 e _ fun H2 e2 => sorted_step (σ := σ) e e2 (ex_l (e.trans e2) hs) hn q
theorem el_sortedL {ns : List Int} (h : EvL te σ H (ns.map V.int)) (hn : ns.length ≤ 4000) : EvL (tCB (rSortedA w) (tCons (tCB (rSetL K w) (tCons te tNil)) tNil)) σ H ((srt ns).map V.int) := fun H1 e Q q =>
  h H1 e _ fun p H2 _ e2 h2 => sorted_step (σ := σ) e e2 (sq_of h2) hn q
/-- a def that gives a new list, as the heap says -/
def spHL (D : Hp → List V → List V → Prop) : Sp := fun vs H Q _ => ∃ xs, D H vs xs ∧ ∀ p H', H p = none → Ex H H' → H' p = some (.lst xs) → Q (.ref p) H'
theorem el_callH {D : Hp → List V → List V → Prop} {vs xs : List V} {E : XK} {ta : TA} (h : EvA ta σ H vs) (hs : ∀ H1, Ex H H1 → D H1 vs xs) : EvL (tCall (spHL D) [] E ta) σ H xs := fun H1 e Q q =>
  h H1 e _ fun H2 e2 => ⟨xs, by rw [List.append_nil]; exact hs H2 (e.trans e2), fun p H3 hp e3 h3 => q p H3 (fresh_back e2 hp) (e2.trans e3) h3⟩
theorem el_callHL {D : Hp → List V → List V → Prop} {ys xs : List V} {E : XK} (h : EvL te σ H ys) (hs : ∀ p H1, Ex H H1 → H1 p = some (.lst ys) → D H1 [.ref p] xs) : EvL (tCall (spHL D) [] E (tCons te tNil)) σ H xs := fun H1 e Q q =>
  h H1 e _ fun p H2 _ e2 h2 => ⟨xs, hs p H2 (e.trans e2) h2, fun p' H3 hp e3 h3 => q p' H3 (fresh_back e2 hp) (e2.trans e3) h3⟩
theorem el_callHN {D : Hp → List V → List V → Prop} {gV : List V → List V → List V} {vs zs xs : List V} {n m : Nat} {E : XK} {ta tk : TA} (h : EvA ta σ H vs) (hk : EvA tk σ H zs) (hn : vs.length = n) (hm : zs.length = m) (hs : ∀ H1, Ex H H1 → D H1 (gV vs zs) xs) : EvL (tCallN n m (spHL D) gV E ta tk) σ H xs := fun H1 e Q q =>
  h H1 e _ fun H2 e2 => hk H2 (e.trans e2) _ fun H3 e3 => ⟨hn, hm, xs, hs H3 ((e.trans e2).trans e3), fun p H4 hp e4 h4 => q p H4 (fresh_back (e2.trans e3) hp) ((e2.trans e3).trans e4) h4⟩
end
/-! ### slices with draws, zip -/
section
variable {K : PySem.W.Frag} {σ : L2.St} {H : Hp} {Q : VK} {te : TE} {tt : TT} {g : TG}
theorem f_sl {r : V → Option Int → Option Int → Hp → VK → Prop} {tl th : TO} (h : te σ H fun x H1 => tl σ H1 fun l H2 => th σ H2 fun u H3 => r x l u H3 Q) : tSl r te tl th σ H Q := h
theorem f_nop {R : Option Int → Hp → Prop} (h : R none H) : tNoPart σ H R := h
theorem f_part {R : Option Int → Hp → Prop} (h : te σ H fun x H1 => ∃ i, x = .int i ∧ R (some i) H1) : tPart te σ H R := h
/-- what a comprehension asks of its walk -/
def LcJ (J : It) (g : TG) (tt : TT) (te : TE) (vs : List Nat) (σ : L2.St) (H : Hp) (Q : VK) : Prop := ∀ D, H D = none → ∃ W : Nat → Nat → Hp → Prop, (∃ m, W 0 m (upd H D (.lst []))) ∧ ∀ i m H, W i m H →
  (J.stop i H ∧ Q (.ref D) H) ∨ (J.go i H ∧ ∃ Nx : Hp → Prop, (∀ H', Nx H' → ∃ m', m' < m ∧ W (i + 1) m' H') ∧ ∀ x H', J.yld i H x H' → g x (wipe σ vs) H' fun σ2 H2 => wipe σ2 vs = wipe σ vs ∧ tt σ2 H2 fun b H3 =>
    if b = true then te σ2 H3 fun y H4 => ∃ acc, H4 D = some (.lst acc) ∧ acc.length < sizeLine ∧ Nx (upd H4 D (.lst (acc ++ [y]))) else Nx H3)
theorem f_lc {wi : TI} {vs : List Nat} (h : wi σ H fun J H1 => LcJ J g tt te vs σ H1 Q) : tLc wi g tt te vs σ H Q := h
theorem f_zipL {ta : TA} {R : It → Hp → Prop} (h : ta σ H fun us H1 => ∃ (a b : Addr) (xs ys : List V), us = [.ref a, .ref b] ∧ ((SqL K H1 a xs ∧ SqL K H1 b ys ∧ R (Itz K a b) H1) ∨ (SqT K H1 a xs ∧ SqT K H1 b ys ∧ R (RZ.ItzT K a b) H1))) : RZ.iZipA K ta σ H R := h
theorem lcz {a b : Addr} {xs ys : List Int} {i j : Nat} {vs : List Nat} (f : Int → Int → Int) (hx : SqL K H a (xs.map V.int)) (hy : SqL K H b (ys.map V.int)) (hn : ys.length ≤ xs.length) (hz : ys.length ≤ 1000)
    (hw : ∀ x y : V, wipe (((wipe σ vs).set i (some x)).set j (some y)) vs = wipe σ vs) (he : ∀ (x y : Int) (H1 : Hp), Ev te (((wipe σ vs).set i (some (.int x))).set j (some (.int y))) H1 (.int (f x y)))
    (q : ∀ p H', H p = none → Ex H H' → H' p = some (.lst ((List.zipWith f xs ys).map V.int)) → Q (.ref p) H') : LcJ (Itz K a b) (gTup K 2 (gCons (gName i) (gCons (gName j) gNil))) tYes te vs σ H Q := fun D hD => by
  have zl : (List.zipWith f xs ys).length = ys.length := by rw [List.length_zipWith]; omega
  refine ⟨fun t m H' => m = ys.length - t ∧ t ≤ ys.length ∧ Ex H H' ∧ H' D = some (.lst (((List.zipWith f xs ys).take t).map V.int)), ⟨ys.length, rfl, Nat.zero_le _, Ex.new hD, upd_same⟩, ?_⟩
  rintro t m H' ⟨rfl, ht, e, hp⟩
  by_cases hlt : t < ys.length
  · have h1 : (xs.map V.int)[t]? = some (.int (xs[t]'(by omega))) := by rw [List.getElem?_map, List.getElem?_eq_getElem (by omega)]; rfl
    have h2 : (ys.map V.int)[t]? = some (.int ys[t]) := by rw [List.getElem?_map, List.getElem?_eq_getElem hlt]; rfl
    refine .inr ⟨⟨_, _, _, _, ex_l e hx, ex_l e hy, h1, h2⟩, fun H'' => Ex H H'' ∧ H'' D = some (.lst (((List.zipWith f xs ys).take (t + 1)).map V.int)), fun H'' z => ⟨ys.length - (t + 1), by omega, rfl, hlt, z⟩, ?_⟩
    rintro v H'' ⟨T, x, y, rfl, hT, rfl, f1, f2⟩
    have ex : x = .int (xs[t]'(by omega)) := Option.some.inj ((f1 _ (ex_l e hx)).symm.trans h1)
    have ey : y = .int ys[t] := Option.some.inj ((f2 _ (ex_l e hy)).symm.trans h2)
    subst ex; subst ey
    refine ⟨T, _, rfl, st_of upd_same, rfl, _, _, rfl, _, _, rfl, rfl, hw _ _, f_yes ?_⟩
    rw [if_pos rfl]
    refine f_ev (he _ _ _) fun H4 e4 => ⟨_, e4 _ _ (Ex.new hT _ _ hp), ?_, fun b o g => ?_, ?_⟩
    · exact Nat.lt_of_le_of_lt (by rw [List.length_map, List.length_take]; omega : _ ≤ 1000) (by decide)
    · rw [upd_ne (ne_of_none g hD)]; exact e4 _ _ (Ex.new hT _ _ (e _ _ g))
    · rw [upd_same, List.take_add_one, List.getElem?_eq_getElem (by omega), List.map_append, List.getElem_zipWith]; rfl
  · have et : t = ys.length := by omega
    subst et
    rw [← zl, List.take_length] at hp
    exact .inl ⟨⟨_, _, ex_l e hx, ex_l e hy, .inr (by rw [List.length_map]; exact Nat.le_refl _)⟩, q D H' hD e hp⟩
end
end Mc
namespace Mc
open PySem L2 Evl
/-! ### powers of wider numbers -/
def CPowW (i j : Int) : Prop := 0 ≤ j ∧ j ≤ 100 ∧ i.natAbs.log2 < 9000
section
variable {X : Cx}
theorem op_powW : OpR X (binaryOp .Pow) (rI CPowW fun i j => .int (i ^ j.toNat)) := opI fun i j _ _ _ _ _ hc q => by
  refine PyProof.Rows.pow_int hc.1 ?_ q
  have b : Builtin.Int.intBits i ≤ i.natAbs.log2 + 1 := by
    unfold Builtin.Int.intBits
    split <;> omega
  obtain ⟨h0, h1, h2⟩ := hc
  have z : (Builtin.Int.intBits i : Int) * j ≤ 9000 * 100 := Int.mul_le_mul (by omega) h1 h0 (by decide)
  exact Int.le_trans z (by decide)
end
theorem powW {i j : Int} {b : Nat} (h0 : 0 ≤ j) (h1 : j ≤ 100) (hb : i.natAbs < 2 ^ b) (h2 : 0 < b) (h3 : b ≤ 9000) : CPowW i j := ⟨h0, h1, Nat.lt_of_lt_of_le (PySem.Flt.log2_lt_of h2 hb) h3⟩
/-! ### the other source of draws: [digits, seed, turn] at r; B draws may still come -/
structure Rg (H : Hp) (r : Addr) (B : Nat) : Prop where
  ex : ∃ dg sd t : Int, H r = some (.lst [.int dg, .int sd, .int t]) ∧ 0 ≤ dg ∧ 0 ≤ sd ∧ sd < 2 ^ 62 ∧ 0 ≤ t ∧ t + B ≤ 2 ^ 30
theorem Rg.less {H : Hp} {r : Addr} {B B' : Nat} (S : Rg H r B) (h : B' ≤ B) : Rg H r B' := by
  obtain ⟨a, b, c, h1, h2, h3, h4, h5, h6⟩ := S.ex
  exact ⟨a, b, c, h1, h2, h3, h4, h5, by omega⟩
theorem Rg.ex_ {H H' : Hp} {r : Addr} {B : Nat} (S : Rg H r B) (e : Ex H H') : Rg H' r B := by
  obtain ⟨a, b, c, h1, h⟩ := S.ex
  exact ⟨a, b, c, e _ _ h1, h⟩
theorem Rg.free {H : Hp} {r : Addr} {B : Nat} (S : Rg H r B) {p : Addr} (h : H p = none) : p ≠ r := by
  obtain ⟨a, b, c, h1, _⟩ := S.ex
  exact (ne_of_none h1 h).symm
theorem Rg.upd {H : Hp} {r l : Addr} {B : Nat} {o : HO} (S : Rg H r B) (f : l ≠ r) : Rg (upd H l o) r B := by
  obtain ⟨a, b, c, h1, h⟩ := S.ex
  exact ⟨a, b, c, by rw [upd_ne f.symm]; exact h1, h⟩
/-- all but the source is kept -/
def Kr (r : Addr) (H H' : Hp) : Prop := ∀ b o, b ≠ r → H b = some o → H' b = some o
theorem Kr.refl {r : Addr} {H : Hp} : Kr r H H := fun _ _ _ h => h
theorem Kr.trans {r : Addr} {H H1 H2 : Hp} (a : Kr r H H1) (b : Kr r H1 H2) : Kr r H H2 := fun c o h1 h => b c o h1 (a c o h1 h)
theorem Kr.of {r : Addr} {H H' : Hp} (e : Ex H H') : Kr r H H' := fun c o _ h => e c o h
theorem Kr.l {r : Addr} {H H1 H2 : Hp} (a : Kr r H H1) (b : Ex H1 H2) : Kr r H H2 := a.trans (.of b)
theorem Kr.at {r p : Addr} {H H' : Hp} {o : HO} (k : Kr r H H') (f : p ≠ r) (h : H p = some o) : H' p = some o := k p o f h
theorem Kr.new {r p : Addr} {B : Nat} {H H' : Hp} (k : Kr r H H') (S : Rg H' r B) (h : H' p = none) : H p = none := by
  have f := S.free h
  rcases e : H p with _ | o
  · rfl
  · rw [k.at f e] at h; cases h
def spRng (K : PySem.W.Frag) : Sp := fun vs H Q _ => ∃ (a : Addr) (ns : List Int), vs = [.ref a] ∧ SqL K H a (ns.map V.int) ∧ ns.length ≤ 63 ∧ ∀ r H', H r = none → Rg H' r (2 ^ 29) → Ex H H' → Q (.ref r) H'
def spRdraw : Sp := fun vs H Q _ => ∃ (r : Addr) (many : Int) (B : Nat), vs = [.ref r, .int many] ∧ 0 < many ∧ many ≤ 10 ^ 60 ∧ Rg H r (B + 1) ∧ ∀ n H', 0 ≤ n → n < many → Rg H' r B → Kr r H H' → Q (.int n) H'
theorem f_rdraw {H : Hp} {r : Addr} {B : Nat} {many : Int} {Q : VK} {E : XK} (S : Rg H r (B + 1)) (h0 : 0 < many) (hb : many ≤ 10 ^ 60) (q : ∀ n H', 0 ≤ n → n < many → Rg H' r B → Kr r H H' → Q (.int n) H') :
    spRdraw ([.ref r, .int many] ++ []) H Q E := ⟨r, many, B, rfl, h0, hb, S, q⟩
section
variable {K : PySem.W.Frag} {σ : L2.St} {H : Hp} {Q : VK} {te : TE}
theorem f_newLr {r : Addr} {B : Nat} {xs : List V} {R : Addr → Prop} (S : Rg H r B) (hz : xs.length ≤ 1000) (q : ∀ p, H p = none → p ≠ r → Rg (upd H p (.lst xs)) r B → Ex H (upd H p (.lst xs)) → (upd H p (.lst xs)) p = some (.lst xs) → R p) : xs.length ≤ sizeLine ∧ ∀ p, H p = none → R p :=
  ⟨sz1000 hz, fun p hp => q p hp (S.free hp) (S.ex_ (Ex.new hp)) (Ex.new hp) upd_same⟩
theorem f_catLr {r : Addr} {B : Nat} {a b : Addr} {xs ys : List V} (S : Rg H r B) (ha : H a = some (.lst xs)) (hb : H b = some (.lst ys)) (hz : xs.length + ys.length ≤ 1000) (q : ∀ p H', H p = none → p ≠ r → Rg H' r B → Ex H H' → H' p = some (.lst (xs ++ ys)) → Q (.ref p) H') : rCat (.ref a) (.ref b) H Q :=
  ⟨a, b, xs, ys, rfl, rfl, ha, hb, sz1000 hz, fun p hp => q p _ hp (S.free hp) (S.ex_ (Ex.new hp)) (Ex.new hp) upd_same⟩
/-- a, b = two values -/
theorem s_un2 {i j : Nat} {D : Ends} {a b : V} (h : EvU te σ H [a, b]) (k : ∀ H1, Ex H H1 → D.nx ((σ.set i (some a)).set j (some b)) H1) : tAsg te (gTup K 2 (gCons (gName i) (gCons (gName j) gNil))) D σ H :=
  h H (Ex.refl H) _ fun p H1 _ e hp => ⟨p, [a, b], rfl, st_of hp, rfl, a, [b], rfl, b, [], rfl, rfl, k H1 e⟩
/-- n turns, each of at most c draws and an int with φ -/
theorem lc_drawsR {vs : List Nat} {j n : Nat} {r : Addr} {B c : Nat} (φ : Int → Prop) (S : Rg H r (B + c * n)) (hn : n ≤ 1000) (hw : ∀ x, wipe ((wipe σ vs).set j (some x)) vs = wipe σ vs)
    (turn : ∀ (i : Nat) H' b, i < n → Kr r H H' → Rg H' r (b + c) → ∀ R : VK, (∀ z H2, φ z → Kr r H' H2 → Rg H2 r b → R (.int z) H2) → te ((wipe σ vs).set j (some (.int ((0 : Int) + (i : Int))))) H' R)
    (hd : ∀ (ks : List Int) (p : Addr) (H' : Hp), H p = none → p ≠ r → ks.length = n → (∀ k, k ∈ ks → φ k) → Rg H' r B → Kr r H H' → H' p = some (.lst (ks.map V.int)) → Q (.ref p) H') :
    LcR n (gName j) tYes te vs σ H Q := fun D hD => by
  have fD := S.free hD
  refine lc_range (lo := 0) (n := n) (fun i H' => ∃ ks : List Int, ks.length = i ∧ (∀ k, k ∈ ks → φ k) ∧ H' D = some (.lst (ks.map V.int)) ∧ Rg H' r (B + c * (n - i)) ∧ Kr r H H') ⟨[], rfl, (fun _ h => by simp at h), upd_same, S.ex_ (Ex.new hD), .of (Ex.new hD)⟩ (fun i H' hi ⟨ks, h1, h2, h3, h4, h5⟩ => ⟨hw _, ?_⟩) (fun H' ⟨ks, h1, h2, h3, h4, h5⟩ => hd ks D H' hD fD h1 h2 (h4.less (by omega)) h5 h3)
  have e : B + c * (n - i) = B + c * (n - (i + 1)) + c := by
    rw [show n - i = (n - (i + 1)) + 1 by omega, Nat.mul_add, Nat.mul_one]; omega
  rw [e] at h4
  refine f_yes ?_
  rw [if_pos rfl]
  refine turn i H' _ hi h5 h4 _ fun z H2 hz k2 S2 => ⟨_, k2.at fD h3, Nat.lt_of_le_of_lt (by rw [List.length_map]; omega : _ ≤ 1000) (by decide), ks ++ [z], by simp [h1], fun k hk => ?_, by rw [upd_same, List.map_append]; rfl, S2.upd fD, fun b o g1 g => ?_⟩
  · rcases List.mem_append.mp hk with h | h
    · exact h2 k h
    · rw [List.mem_singleton.mp h]; exact hz
  · rw [upd_ne (ne_of_none g hD)]
    exact k2 b o g1 (h5 b o g1 g)
end
end Mc
namespace Mc
open PySem L2 Evl
/-! ### a dict that is made and walked in one expression -/
section
variable {X : Cx}
/-- the value is locked from here on -/
def tFrz (te : TE) : TE := fun σ H Q => te σ H fun x H1 => ∃ (d : Addr) (u : HO), x = .ref d ∧ H1 d = some u ∧ Mut (some u) ∧ ∀ od, Q x (upd H1 d (.frz od u))
theorem pe_frz {e : Expr} {te : TE} (h : PE X e te) : PE X e (tFrz te) := ⟨fun pins s σ H Q I hw => thn (h.run pins s σ H _ I hw) fun v s1 ⟨x, H1, I1, r, d, u, ex, hd, mu, q⟩ => by
  obtain ⟨od, I2⟩ := I1.lock hd mu
  exact ⟨x, _, I2, r, q od⟩⟩
end
/-! ### numbers grouped -/
def putG : List (Int × List Int) → Int → Int → List (Int × List Int)
  | [], k, v => [(k, [v])]
  | (j, l) :: g, k, v => if j = k then (j, l ++ [v]) :: g else (j, l) :: putG g k v
def grp (d : Int) (ns : List Int) : List (Int × List Int) := ns.foldl (fun g n => putG g (n % d) (n / d)) []
theorem putG_len : ∀ (g : List (Int × List Int)) (k v : Int), (putG g k v).length ≤ g.length + 1
  | [], _, _ => Nat.le_refl _
  | (j, l) :: g, k, v => by
    have ih := putG_len g k v
    unfold putG
    split <;> simp <;> omega
/-- the groups as they stand in a dict's entries, in lists that are new since H0 -/
inductive GAt (H0 H : Hp) : List (Key × V) → List (Int × List Int) → Prop
  | nil : GAt H0 H [] []
  | cons {k : Int} {p : Addr} {l : List Int} {kvs : List (Key × V)} {gs : List (Int × List Int)} (n : H0 p = none) (h : H p = some (.lst (l.map V.int))) (d : ∀ kv, kv ∈ kvs → kv.2 ≠ .ref p) (t : GAt H0 H kvs gs) : GAt H0 H ((.inl k, .ref p) :: kvs) ((k, l) :: gs)
theorem GAt.len {H0 H : Hp} : ∀ {kvs : List (Key × V)} {gs : List (Int × List Int)}, GAt H0 H kvs gs → kvs.length = gs.length
  | _, _, .nil => rfl
  | _, _, .cons _ _ _ t => congrArg Nat.succ t.len
/-- kept if its lists are -/
theorem GAt.keep {H0 H H' : Hp} : ∀ {kvs : List (Key × V)} {gs : List (Int × List Int)}, GAt H0 H kvs gs → (∀ kv, kv ∈ kvs → ∀ p xs, kv.2 = .ref p → H p = some (.lst xs) → H' p = some (.lst xs)) → GAt H0 H' kvs gs
  | _, _, .nil, _ => .nil
  | _, _, .cons n h d t, k => .cons n (k _ (List.mem_cons_self ..) _ _ rfl h) d (t.keep fun kv hkv => k kv (List.mem_cons_of_mem _ hkv))
theorem GAt.ex_ {H0 H H' : Hp} {kvs : List (Key × V)} {gs : List (Int × List Int)} (g : GAt H0 H kvs gs) (e : Ex H H') : GAt H0 H' kvs gs := g.keep fun _ _ _ _ _ h => e _ _ h
theorem GAt.hit {H0 H : Hp} {k : Int} {x : V} : ∀ {kvs : List (Key × V)} {gs : List (Int × List Int)}, GAt H0 H kvs gs → valV kvs (.inl k : Key) = some x →
    ∃ (p : Addr) (l : List Int), x = .ref p ∧ H0 p = none ∧ H p = some (.lst (l.map V.int)) ∧ (k, l) ∈ gs ∧ ∀ v : Int, GAt H0 (upd H p (.lst ((l ++ [v]).map V.int))) kvs (putG gs k v)
  | _, _, .nil, h => by simp [valV_nil] at h
  | _, _, .cons (k := j) (p := p) (l := l) (kvs := kvs) (gs := gs) n h d t, hv => by
    by_cases e : j = k
    · subst e
      rw [valV_pos rfl] at hv
      refine ⟨p, l, (Option.some.inj hv).symm, n, h, List.mem_cons_self .., fun v => ?_⟩
      unfold putG
      rw [if_pos rfl]
      exact .cons n upd_same d (t.keep fun kv hkv q xs e h' => by
        rw [upd_ne (fun z => d kv hkv (by rw [e, z]))]; exact h')
    · rw [valV_neg (show ¬ (Sum.inl j : Key) = Sum.inl k from fun z => e (Sum.inl.inj z))] at hv
      obtain ⟨q, m, rfl, n', h', hm', f⟩ := t.hit hv
      have hm : ∃ kv, kv ∈ kvs ∧ kv.2 = V.ref q := by
        unfold valV at hv
        cases z : kvs.find? (fun kv => decide (kv.1 = (Sum.inl k : Key))) with
        | none => rw [z] at hv; cases hv
        | some kv => rw [z] at hv; exact ⟨kv, List.mem_of_find?_eq_some z, Option.some.inj hv⟩
      obtain ⟨kv, hkv, ek⟩ := hm
      refine ⟨q, m, rfl, n', h', List.mem_cons_of_mem _ hm', fun v => ?_⟩
      unfold putG
      rw [if_neg e]
      exact .cons n (by rw [upd_ne (fun z => d kv hkv (by rw [ek, z]))]; exact h) d (f v)
theorem GAt.miss {H0 H : Hp} {k v : Int} {p : Addr} (n : H0 p = none) (hp : H p = some (.lst ([v].map V.int))) : ∀ {kvs : List (Key × V)} {gs : List (Int × List Int)}, GAt H0 H kvs gs → (∀ kv, kv ∈ kvs → kv.2 ≠ .ref p) → valV kvs (.inl k : Key) = none → GAt H0 H (kvs ++ [(.inl k, .ref p)]) (putG gs k v)
  | _, _, .nil, _, _ => .cons n hp (fun _ h => by simp at h) .nil
  | _, _, .cons (k := j) (p := q) (l := l) (kvs := kvs) (gs := gs) n' h d t, hn, hv => by
    have e : ¬ j = k := fun e => by
      subst e
      rw [valV_pos rfl] at hv; cases hv
    rw [valV_neg (show ¬ (Sum.inl j : Key) = Sum.inl k from fun z => e (Sum.inl.inj z))] at hv
    unfold putG
    rw [if_neg e]
    refine .cons n' h (fun kv hkv => ?_) (t.miss n hp (fun kv hkv => hn kv (List.mem_cons_of_mem _ hkv)) hv)
    rcases List.mem_append.mp hkv with h1 | h1
    · exact d kv h1
    · rw [List.mem_singleton.mp h1]
      exact fun z => hn _ (List.mem_cons_self ..) z.symm
theorem GAt.news {H0 H : Hp} : ∀ {kvs : List (Key × V)} {gs : List (Int × List Int)}, GAt H0 H kvs gs → ∀ kv, kv ∈ kvs → ∃ (p : Addr) (l : List Int), kv.2 = .ref p ∧ H p = some (.lst (l.map V.int))
  | _, _, .nil, _, h => by simp at h
  | _, _, .cons n h d t, kv, hkv => by
    rcases List.mem_cons.mp hkv with rfl | h1
    · exact ⟨_, _, rfl, h⟩
    · exact t.news kv h1
theorem grp_take {d : Int} {ns : List Int} {i : Nat} {n : Int} (h : ns[i]? = some n) : grp d (ns.take (i + 1)) = putG (grp d (ns.take i)) (n % d) (n / d) := by
  unfold grp
  rw [List.take_add_one, h, List.foldl_append]; rfl
theorem grp_len (d : Int) (ns : List Int) : ∀ i, (grp d (ns.take i)).length ≤ i
  | 0 => Nat.le_refl _
  | i + 1 => by
    have ih := grp_len d ns i
    cases h : ns[i]? with
    | some n => rw [grp_take h]; exact Nat.le_trans (putG_len _ _ _) (by omega)
    | none => rw [List.take_add_one, h, Option.toList_none, List.append_nil]; omega
theorem putG_short {k v : Int} {b : Nat} : ∀ {g : List (Int × List Int)}, (∀ x, x ∈ g → x.2.length ≤ b) → ∀ x, x ∈ putG g k v → x.2.length ≤ b + 1
  | [], _, x, hx => by
    rw [List.mem_singleton.mp hx]
    show 1 ≤ b + 1
    omega
  | (j, l) :: g, h, x, hx => by
    unfold putG at hx
    split at hx
    · rcases List.mem_cons.mp hx with rfl | hx
      · have := h (j, l) (List.mem_cons_self ..)
        show (l ++ [v]).length ≤ _
        rw [List.length_append]; exact Nat.succ_le_succ this
      · exact Nat.le_succ_of_le (h x (List.mem_cons_of_mem _ hx))
    · rcases List.mem_cons.mp hx with rfl | hx
      · exact Nat.le_succ_of_le (h _ (List.mem_cons_self ..))
      · exact putG_short (fun y hy => h y (List.mem_cons_of_mem _ hy)) x hx
theorem grp_short (d : Int) (ns : List Int) : ∀ i x, x ∈ grp d (ns.take i) → x.2.length ≤ i
  | 0, x, hx => by simp [grp] at hx
  | i + 1, x, hx => by
    have ih := grp_short d ns i
    cases h : ns[i]? with
    | some n => rw [grp_take h] at hx; exact putG_short ih x hx
    | none => rw [List.take_add_one, h, Option.toList_none, List.append_nil] at hx; exact Nat.le_succ_of_le (ih x hx)
def spSplit (K : PySem.W.Frag) : Sp := fun vs H Q _ => ∃ (l : Addr) (ns : List Int) (d : Int), vs = [.ref l, .int d] ∧ SqL K H l (ns.map V.int) ∧ 0 < d ∧ d ≤ 10 ^ 60 ∧ ns.length ≤ 1000 ∧
  ∀ (a : Addr) (kvs : List (Key × V)) (H' : Hp), H a = none → Ex H H' → H' a = some (.dK kvs) → GAt H H' kvs (grp d ns) → Q (.ref a) H'
section
variable {K : PySem.W.Frag} {σ : L2.St} {H : Hp} {Q : VK} {te td ty tx : TE}
theorem f_dnew (q : ∀ p, H p = none → Q (.ref p) (upd H p (.dK []))) : tDNewK σ H Q := q
theorem f_dsetd (h : td σ H fun x H1 => ∃ a, x = .ref a ∧ IsD H1 a ∧ ty σ H1 fun y H2 => tx σ H2 fun z H3 => ∃ (kvs : List (Key × V)) (k : Key), H3 a = some (.dK kvs) ∧ y = kV k ∧ kvs.length < sizeLine ∧
  (∀ v, valV kvs k = some v → Q v H3) ∧ (valV kvs k = none → Q z (upd H3 a (.dK (putK kvs k z))))) : tDSetd td ty tx σ H Q := h
end
end Mc
namespace Mc
open PySem L2 Evl
/-! ### a set of ints, by a comprehension -/
section
variable {X : Cx}
/-- {elt for target in iter if ..}, elt an int -/
def tScI (w : World) (wi : TI) (g : TG) (tt : TT) (te : TE) (vs : List Nat) : TE := fun σ H Q => wi σ H fun J G => ∀ D, G D = none → ∃ W : Nat → Nat → Hp → Prop, (∃ m, W 0 m (upd G D (SetO w D (fun _ => false) 0))) ∧ ∀ i m H', W i m H' →
  (J.stop i H' ∧ Q (.ref D) H') ∨ (J.go i H' ∧ ∃ Z : Hp → Prop, (∀ U, Z U → ∃ m', m' < m ∧ W (i + 1) m' U) ∧ ∀ x U, J.yld i H' x U → g x (wipe σ vs) U fun σ2 U2 => wipe σ2 vs = wipe σ vs ∧ tt σ2 U2 fun b U3 =>
    if b = true then te σ2 U3 fun y U4 => ∃ (k : Int) (S : Int → Bool) (n : Nat), y = .int k ∧ U4 D = some (SetO w D S n) ∧ n + 1 < scanBound ∧ Z (upd U4 D (SetO w D (fun j => S j || decide (j = k)) (if S k = true then n else n + 1))) else Z U3)
theorem set_zero {w : World} {h : Heap} : SetR w (h.push (freshSet w)) h.objs.size (fun _ => false) 0 := (setR_new_at (ns := []) (Heap.get?_push_size _ rfl)).congr fun j => by simp
/-- found.add of a tracked set -/
theorem add_int {pins : List (Addr × Obj)} {σ : L2.St} {H : Hp} {s : Shared} {E : Value → Shared → Prop} {D : Addr} {S : Int → Bool} {n : Nat} {k : Int} {v : Value} {R : Value → Shared → Prop} (I : Inv X pins σ H s) (hD : H D = some (SetO X.w D S n)) (room : n + 1 < scanBound) (r : RelV (.int k) v)
    (next : ∀ u s2, Inv X pins σ (upd H D (SetO X.w D (fun j => S j || decide (j = k)) (if S k = true then n else n + 1))) s2 → R u s2) : wpAny (model X.prog X.w) X.A (call (.builtin "set.add") [.ref D, v]) R E s := by
  obtain ⟨tk, rfl⟩ := r
  refine setR_add (setO_get I hD) room fun h' sb new => next _ _ ?_
  exact I.write (t' := s.toks + 1) (by rw [hD]; trivial) (.inl rfl) (fun b u hb hu => (sb.2 b hb).trans hu) (by obtain ⟨o, _, _, _, ho, _⟩ := new; exact ⟨o, ho⟩) (setO_new new)
/-- such a comprehension as a value -/
theorem pe_scI {elt tg iter : Expr} {ifs : List Expr} {scope : Scope} {own : List (Str × Nat)} {pos : Pos} {wi : TI} {g : TG} {tt : TT} {te : TE} (hc : X.calm = true) (hN : X.N.Nodup) (hi : PI X tg iter wi) (ok : BlkOk X.N X.env.scope scope own)
    (hg : ∀ (t : Shared) (G : Hp) (C : Addr) (cl : List (Str × Addr)) (fp : List Addr), PG (X.blk t G scope (compEnvC scope cl C X.env) fp) tg g)
    (ht : ∀ (t : Shared) (G : Hp) (C : Addr) (cl : List (Str × Addr)) (fp : List Addr), PTs (X.blk t G scope (compEnvC scope cl C X.env) fp) ifs tt)
    (he : ∀ (t : Shared) (G : Hp) (C : Addr) (cl : List (Str × Addr)) (fp : List Addr), PE (X.blk t G scope (compEnvC scope cl C X.env) fp) elt te) (hs : ∀ x, foldedSetIterable iter X.env x = pure x := by intro _; rfl) :
    PE X (.SetComp elt [⟨tg, iter, ifs, 0⟩] scope pos) (tScI X.w wi g tt te (own.map (·.2))) := by
  refine ⟨fun pins s σ H Q I h => ?_⟩
  rw [PpSet.eval_SetComp]
  have reach : ∀ y ∈ scope.names, y.2 = .free → ∃ c, X.env.cells.lookup y.1 = some c := fun y hy e => (ok.free y hy e).elim (fun k => I.ok.has _ (.inl k)) fun k => I.ok.has _ (.inr k)
  refine wpAny_comprehension_free (use := none) rfl hs (closure_ok reach) ok.kind (fun y hy e => by rw [ok.uniq y hy, e]) (thn (hi.run pins s σ H _ I h) fun _ _ a1 => thn a1 fun iv t2 a2 => ?_)
  obtain ⟨it, fp, tn, J, G2, rfl, J2, T, now2, far2, q⟩ := a2
  refine PpSet.newSet_ok (newEnv_comp ?_)
  have nD : G2 t2.heap.objs.size = none := J2.hok.fresh (Nat.le_refl _)
  have old : ∀ b, b ∈ fp → b < t2.heap.objs.size := fun b hb => by
    obtain ⟨o, e, _⟩ := T.obj _ _ now2 b hb
    exact Heap.lt_size e
  generalize hD : t2.heap.objs.size = D at nD old
  obtain ⟨W, ⟨m0, w0⟩, turn⟩ := q D nD
  have J3 : Inv X pins σ (upd G2 D (SetO X.w D (fun _ => false) 0)) { t2 with heap := t2.heap.push (freshSet X.w) } := by
    subst hD
    exact J2.laid (t' := t2.toks) (fun b o e => Heap.get?_push_of_some _ e) (Nat.le_refl _) (setO_new set_zero)
  have now3 : tn 0 (t2.heap.push (freshSet X.w)) := T.keep _ _ _ now2 fun b _ o e => Heap.get?_push_of_some _ e
  have far3 : ∀ b ∈ fp, FpOk X pins (upd G2 D (SetO X.w D (fun _ => false) 0)) b ∧ b < (t2.heap.push (freshSet X.w)).objs.size := fun b hb =>
    ⟨⟨by rw [upd_ne (Nat.ne_of_lt (old b hb))]; exact (far2 b hb).1, (far2 b hb).2⟩, by rw [Heap.size_push, hD]; exact Nat.lt_succ_of_lt (old b hb)⟩
  generalize ht3 : ({ t2 with heap := t2.heap.push (freshSet X.w) } : Shared) = t3 at J3
  have hh3 : t3.heap = t2.heap.push (freshSet X.w) := by rw [← ht3]
  rw [← hh3] at now3 far3
  generalize upd G2 D (SetO X.w D (fun _ => false) 0) = G3 at J3 far3 w0
  show codeAny _ _ (.compStart (.SetComp elt [⟨tg, iter, ifs, 0⟩] scope pos) 0 (.ref it) (.ref D) (compEnvC scope (cellsFrom (({ t2 with heap := t2.heap.push (freshSet X.w) } : Shared).heap.objs.size + 1) scope.names (cloFrom X.env.cells scope.names [])) ({ t2 with heap := t2.heap.push (freshSet X.w) } : Shared).heap.objs.size X.env))
    (compPost (model X.prog X.w) X.A X.xe none (EP X pins σ Q) (.ref D) ({ t2 with heap := t2.heap.push (freshSet X.w) } : Shared).heap.objs.size) { ({ t2 with heap := t2.heap.push (freshSet X.w) } : Shared) with heap := pushCells ((({ t2 with heap := t2.heap.push (freshSet X.w) } : Shared).heap).push { cls := .type "dict", data := .dict #[] }) scope.names }
  rw [ht3]
  have J4 := block_start J3 ok hN far3
  have rg := hg t3 G3 t3.heap.objs.size (cellsFrom (t3.heap.objs.size + 1) scope.names (cloFrom X.env.cells scope.names [])) fp
  have rt := ht t3 G3 t3.heap.objs.size (cellsFrom (t3.heap.objs.size + 1) scope.names (cloFrom X.env.cells scope.names [])) fp
  have re := he t3 G3 t3.heap.objs.size (cellsFrom (t3.heap.objs.size + 1) scope.names (cloFrom X.env.cells scope.names [])) fp
  generalize hE : compEnvC scope (cellsFrom (t3.heap.objs.size + 1) scope.names (cloFrom X.env.cells scope.names [])) t3.heap.objs.size X.env = env at J4 rg rt re ⊢
  have own_at : env.locals = t3.heap.objs.size := by rw [← hE]; rfl
  generalize ht4 : ({ t3 with heap := pushCells (t3.heap.push { cls := .type "dict", data := .dict #[] }) scope.names } : Shared) = t4 at J4 ⊢
  have now4 : tn 0 t4.heap := T.keep _ _ _ now3 fun b _ o e => by rw [← ht4]; exact pushCells_keeps _ _ _ _ (Heap.get?_push_of_some _ e)
  have apart : ∀ {τ : L2.St} {U : Hp} {u : Shared}, Inv (X.blk t3 G3 scope env fp) [] τ U u → (∀ b ∈ fp, U b = none) → ∀ b ∈ fp, FpOk (X.blk t3 G3 scope env fp) [] U b := fun {τ U u} K hn b hb =>
    ⟨hn b hb, (K.ok.exf b hb).1, K.ok.exfs b hb, .inl hb, fun x c e => (K.ok.exf b hb).2 x c e, fun p hp => absurd (show p ∈ ([] : List (Addr × Obj)) ++ [] from hp) (by simp)⟩
  have go : codeAny (model X.prog X.w) X.A (.compLoop (.SetComp elt [⟨tg, iter, ifs, 0⟩] scope pos) 0 (.ref it) (.ref D) env) (compPost (model X.prog X.w) X.A X.xe none (EP X pins σ Q) (.ref D) t3.heap.objs.size) t4 := by
    refine PpSet.compLoopS_any (fun n u => ∃ i U, Inv (X.blk t3 G3 scope env fp) [] (wipe σ (own.map (·.2))) U u ∧ tn i u.heap ∧ (∀ b ∈ fp, U b = none) ∧ W i n U) ?_ m0 ⟨0, G3, J4, now4, fun b hb => (far3 b hb).1.1, w0⟩
    rintro n u5 ⟨i, U5, K5, now5, free5, w5⟩
    rcases turn i n U5 w5 with ⟨stop, last⟩ | ⟨more, Z, hZ, step⟩
    · refine thnF (T.done (X.blk t3 G3 scope env fp) rfl rfl rfl hc i [] u5 _ U5 (fun _ _ => False) K5 (apart K5 free5) now5 stop) fun r u6 ⟨hr, K6⟩ => ?_
      subst hr
      have K7 : Inv X pins σ U5 u6 := J3.call' (ch := fp) K6.os K6.base K6.hok K6.bare fun b hb => by
        obtain ⟨⟨_, z1, z2, z3, z4, z5⟩, _⟩ := far3 b hb
        exact ⟨z3, z1, z4, z5⟩
      have none5 : U5 t3.heap.objs.size = none := own_at ▸ (show U5 env.locals = none from K6.free)
      obtain ⟨m, hm, _⟩ := K6.loc
      have hm' : u6.heap.Ns t3.heap.objs.size m := own_at ▸ (show u6.heap.Ns env.locals m from hm)
      obtain ⟨f0, f1, f2, f3, f4, f5⟩ := J3.fpOk (Nat.le_refl _) none5
      exact ⟨m, hm', fun h'' sb => ⟨.ref D, U5, K7.turned (t' := u6.toks) (fun b o hb e => (sb.2 b hb).trans e) f0 f1 f3 f4 f5, rfl, last⟩⟩
    · refine thnF (T.item (X.blk t3 G3 scope env fp) rfl rfl rfl hc i [] u5 _ U5 (fun _ _ => False) K5 (apart K5 free5) now5 more) fun r u6 ⟨v, hr, a6⟩ => ?_
      subst hr
      refine thnF a6 fun _ u7 ⟨x, U7, K7, r7, y7, now7, free7⟩ => ?_
      have objs := T.obj _ _ now7
      refine thnF (rg.run _ u7 _ U7 x v _ (K7.pinned (apart K7 free7) objs) r7 (step x U7 y7)) fun _ u8 ⟨τ, U8, K8, back, q8⟩ => ?_
      refine thnF (rt.run _ u8 τ U8 _ K8 q8) fun b u9 ⟨U9, K9, q9⟩ => ?_
      have over : ∀ {u : Shared} {U : Hp}, Inv (X.blk t3 G3 scope env fp) ([] ++ pinsAt fp u7.heap) τ U u → Z U → ∃ m, m < n ∧ ∃ i U, Inv (X.blk t3 G3 scope env fp) [] (wipe σ (own.map (·.2))) U u ∧ tn i u.heap ∧ (∀ b ∈ fp, U b = none) ∧ W i m U := fun {u U} K z => by
        obtain ⟨m', lt, w'⟩ := hZ U z
        have held : ∀ b ∈ fp, ∀ o, u7.heap.get? b = some o → u.heap.get? b = some o ∧ U b = none := fun b hb o e => by
          obtain ⟨z1, z2, _⟩ := K.pin (b, o) (List.mem_append_right _ (List.mem_append_right _ (mem_pinsAt hb e)))
          exact ⟨z1, z2⟩
        refine ⟨m', lt, i + 1, U, (K.unpinned (pins := [])).weak (by rw [← back, wipe_length]) (fun j v e => (wipe_some (back ▸ e)).1), T.keep _ _ _ now7 fun b hb o e => (held b hb o e).1, fun b hb => ?_, w'⟩
        obtain ⟨o, e, _⟩ := objs b hb
        exact (held b hb o e).2
      match b, q9 with
      | false, q9 => exact over K9 q9
      | true, q9 =>
        refine thnF (re.run _ u9 τ U9 _ K9 q9) fun z u10 ⟨_, U10, K10, r10, k, S, c, ey, at10, room, nx⟩ => ?_
        subst ey
        exact add_int (X := X.blk t3 G3 scope env fp) K10 at10 room r10 fun _ u11 K11 => over K11 nx
  exact PpSet.codeAny_compStart_set go (T.self X.A 0 _ _ _ now4 go)
end
section
variable {K : PySem.W.Frag} {w : World} {σ : L2.St} {H : Hp} {tl te : TE}
theorem el_sortedSc {a : Addr} {ns : List Int} {j : Nat} {vs : List Nat} (f : Int → Int) (h : Ev tl σ H (.ref a)) (hx : SqL K H a (ns.map V.int)) (hz : ns.length ≤ 1000) (hw : ∀ x, wipe ((wipe σ vs).set j (some x)) vs = wipe σ vs)
    (he : ∀ (x : Int) (H1 : Hp), Ev te ((wipe σ vs).set j (some (.int x))) H1 (.int (f x))) : EvL (tCB (rSortedA w) (tCons (tScI w (iList K tl) (gName j) tYes te vs) tNil)) σ H ((srt (ns.map f)).map V.int) := fun H1 e Q q =>
  h H1 e _ fun H2 e2 => ⟨a, rfl, ⟨_, ex_l (e.trans e2) hx⟩, fun D hD => by
    have hx2 := ex_l (e.trans e2) hx
    have z0 : (fun _ : Int => false) = fun y => decide (y ∈ ([] : List Int)) := by funext y; simp
    refine ⟨fun t m U => m = ns.length - t ∧ t ≤ ns.length ∧ Ex H2 U ∧ ∃ c, c ≤ t ∧ U D = some (SetO w D (fun y => decide (y ∈ (ns.take t).map f)) c), ⟨ns.length, rfl, Nat.zero_le _, Ex.new hD, 0, Nat.le_refl _, by rw [upd_same, z0]; rfl⟩, ?_⟩
    rintro t m U ⟨rfl, ht, eU, c, hc, hU⟩
    have q2 := ex_l eU hx2
    by_cases hlt : t < ns.length
    · have hat : (ns.map V.int)[t]? = some (.int ns[t]) := by rw [List.getElem?_map, List.getElem?_eq_getElem hlt]; rfl
      refine .inr ⟨⟨_, _, q2, hat⟩, fun U' => Ex H2 U' ∧ ∃ c, c ≤ t + 1 ∧ U' D = some (SetO w D (fun y => decide (y ∈ (ns.take (t + 1)).map f)) c), fun U' z => ⟨ns.length - (t + 1), by omega, rfl, hlt, z⟩, fun x U' y => ?_⟩
      obtain ⟨rfl, y⟩ := y
      have ex : x = .int ns[t] := Option.some.inj ((y _ q2).symm.trans hat)
      subst ex
      refine ⟨hw _, f_yes ?_⟩
      rw [if_pos rfl]
      refine f_ev (he _ _) fun U4 e4 => ⟨f ns[t], _, c, rfl, e4 _ _ hU, Nat.lt_of_le_of_lt (show c + 1 ≤ 1001 by omega) (by decide), fun b o g => ?_, ?_⟩
      · rw [upd_ne (ne_of_none g hD)]; exact e4 _ _ (eU _ _ g)
      · refine ⟨_, ?_, by rw [upd_same]; congr 2; funext y; rw [List.take_add_one, List.getElem?_eq_getElem hlt, List.map_append]; simp [List.mem_append]⟩
        split <;> omega
    · have et : t = ns.length := by omega
      subst et
      rw [List.take_length] at hU
      refine .inl ⟨⟨_, q2, by rw [List.length_map]; exact Nat.le_refl _⟩, f_nil ⟨D, _, c, rfl, hU, by omega, fun ks p k1 k2 k3 hp => ?_⟩⟩
      have e3 : ks = srt (ns.map f) := asc_uniq k1 (pw_srt _) fun k => by rw [k2 k, mem_srt]; simp
      subst e3
      exact q p _ (fresh_back (e2.trans eU) hp) ((e2.trans eU).trans (Ex.new hp)) upd_same⟩
end
/-! ### groups: what lies in them, and a walk over them -/
theorem putG_mem {k v : Int} : ∀ {g : List (Int × List Int)} {x : Int × List Int} {u : Int}, x ∈ putG g k v → u ∈ x.2 → (x.1 = k ∧ u = v) ∨ ∃ y, y ∈ g ∧ y.1 = x.1 ∧ u ∈ y.2
  | [], x, u, hx, hu => by
    rw [List.mem_singleton.mp hx] at hu ⊢
    exact .inl ⟨rfl, List.mem_singleton.mp hu⟩
  | (j, l) :: g, x, u, hx, hu => by
    unfold putG at hx
    split at hx
    · next e =>
      rcases List.mem_cons.mp hx with rfl | hx
      · rcases List.mem_append.mp hu with h | h
        · exact .inr ⟨(j, l), List.mem_cons_self .., rfl, h⟩
        · exact .inl ⟨e, List.mem_singleton.mp h⟩
      · exact .inr ⟨x, List.mem_cons_of_mem _ hx, rfl, hu⟩
    · rcases List.mem_cons.mp hx with rfl | hx
      · exact .inr ⟨_, List.mem_cons_self .., rfl, hu⟩
      · rcases putG_mem hx hu with h | ⟨y, h1, h2⟩
        · exact .inl h
        · exact .inr ⟨y, List.mem_cons_of_mem _ h1, h2⟩
theorem grp_mem_take (d : Int) (ns : List Int) : ∀ (i : Nat) (x : Int × List Int) (u : Int), x ∈ grp d (ns.take i) → u ∈ x.2 → ∃ n, n ∈ ns ∧ n % d = x.1 ∧ n / d = u
  | 0, x, u, hx, _ => by simp [grp] at hx
  | i + 1, x, u, hx, hu => by
    have ih := grp_mem_take d ns i
    cases h : ns[i]? with
    | some n =>
      rw [grp_take h] at hx
      rcases putG_mem hx hu with ⟨h1, h2⟩ | ⟨y, h1, h2, h3⟩
      · exact ⟨n, List.mem_of_getElem? h, h1.symm, h2.symm⟩
      · obtain ⟨m, m1, m2, m3⟩ := ih y u h1 h3
        exact ⟨m, m1, by rw [m2, h2], m3⟩
    | none => rw [List.take_add_one, h, Option.toList_none, List.append_nil] at hx; exact ih x u hx hu
theorem grp_mem {d : Int} {ns : List Int} {x : Int × List Int} {u : Int} (hx : x ∈ grp d ns) (hu : u ∈ x.2) : ∃ n, n ∈ ns ∧ n % d = x.1 ∧ n / d = u := grp_mem_take d ns ns.length x u (by rw [List.take_length]; exact hx) hu
theorem putG_ne {k v : Int} : ∀ {g : List (Int × List Int)}, (∀ x, x ∈ g → x.2 ≠ []) → ∀ x, x ∈ putG g k v → x.2 ≠ []
  | [], _, x, hx => by rw [List.mem_singleton.mp hx]; simp
  | (j, l) :: g, h, x, hx => by
    unfold putG at hx
    split at hx
    · rcases List.mem_cons.mp hx with rfl | hx
      · simp
      · exact h x (List.mem_cons_of_mem _ hx)
    · rcases List.mem_cons.mp hx with rfl | hx
      · exact h _ (List.mem_cons_self ..)
      · exact putG_ne (fun y hy => h y (List.mem_cons_of_mem _ hy)) x hx
theorem grp_ne (d : Int) (ns : List Int) : ∀ x, x ∈ grp d ns → x.2 ≠ [] := by
  have key : ∀ i x, x ∈ grp d (ns.take i) → x.2 ≠ [] := fun i => by
    induction i with
    | zero => intro x hx; simp [grp] at hx
    | succ i ih =>
      intro x hx
      cases h : ns[i]? with
      | some n => rw [grp_take h] at hx; exact putG_ne ih x hx
      | none => rw [List.take_add_one, h, Option.toList_none, List.append_nil] at hx; exact ih x hx
  intro x hx
  exact key ns.length x (by rw [List.take_length]; exact hx)
theorem GAt.get {H0 H : Hp} : ∀ {kvs : List (Key × V)} {gs : List (Int × List Int)} {n : Nat} {x : Int × List Int}, GAt H0 H kvs gs → gs[n]? = some x → ∃ p, kvs[n]? = some (.inl x.1, .ref p) ∧ H0 p = none ∧ H p = some (.lst (x.2.map V.int))
  | _, _, _, _, .nil, h => by simp at h
  | _, _, 0, _, .cons (p := p) m h d t, e => by
    cases Option.some.inj e
    exact ⟨p, rfl, m, h⟩
  | _, _, n + 1, _, .cons m h d t, e => t.get (n := n) e
theorem GAt.fresh {H0 H : Hp} : ∀ {kvs : List (Key × V)} {gs : List (Int × List Int)}, GAt H0 H kvs gs → ∀ kv, kv ∈ kvs → ∀ p, kv.2 = .ref p → H0 p = none
  | _, _, .nil, _, h, _, _ => by simp at h
  | _, _, .cons m h d t, kv, hkv, p, e => by
    rcases List.mem_cons.mp hkv with rfl | h1
    · cases e; exact m
    · exact t.fresh kv h1 p e
/-- for a, b in f(..).items(), where the list at k, older than the groups, is written meanwhile -/
theorem f_forItems {td : TE} {g : TG} {tu : TS} {D : Ends} {σ : L2.St} {H : Hp} (h : iItems td σ H fun J H1 => ∃ W : Nat → Nat → L2.St → Hp → Prop, (∃ m, W 0 m σ H1) ∧ ∀ i m σ H, W i m σ H →
    (J.stop i H ∧ D.nx σ H) ∨ (J.go i H ∧ ∃ N : L2.St → Hp → Prop, (∀ σ' H', N σ' H' → ∃ m', m' < m ∧ W (i + 1) m' σ' H') ∧ ∀ x H', J.yld i H x H' → g x σ H' fun σ2 H2 => tu { D with nx := N, ct := N, bk := D.nx } σ2 H2)) : tFor (iItems td) g tu D σ H := h
theorem for_grp {K : PySem.W.Frag} {a k : Addr} {o : Obj} {kvs : List (Key × V)} {gs : List (Int × List Int)} {H0 G : Hp} {i j : Nat} {tu : TS} {D : Ends} {σ : L2.St} (ha : G a = some (.frz o (.dK kvs))) (hg : GAt H0 G kvs gs) (hk : ∃ u, H0 k = some u) (hak : a ≠ k)
    (P : Nat → L2.St → Hp → Prop) (h0 : P 0 σ G) (hs : ∀ (n : Nat) (x : Int × List Int) (p : Addr) (τ : L2.St) (U : Hp), gs[n]? = some x → P n τ U → Kr k G U → U p = some (.lst (x.2.map V.int)) → ∀ T, U T = none →
      tu { D with nx := fun τ' U' => P (n + 1) τ' U' ∧ Kr k G U', ct := fun τ' U' => P (n + 1) τ' U' ∧ Kr k G U', bk := D.nx } ((τ.set i (some (.int x.1))).set j (some (.ref p))) (upd U T (.tup [.int x.1, .ref p])))
    (hd : ∀ τ U, P gs.length τ U → Kr k G U → D.nx τ U) :
    ∃ W : Nat → Nat → L2.St → Hp → Prop, (∃ m, W 0 m σ G) ∧ ∀ n m τ U, W n m τ U →
      ((Iti a o kvs).stop n U ∧ D.nx τ U) ∨ ((Iti a o kvs).go n U ∧ ∃ N : L2.St → Hp → Prop, (∀ τ' U', N τ' U' → ∃ m', m' < m ∧ W (n + 1) m' τ' U') ∧ ∀ x U', (Iti a o kvs).yld n U x U' → gTup K 2 (gCons (gName i) (gCons (gName j) gNil)) x τ U' fun τ2 U2 => tu { D with nx := N, ct := N, bk := D.nx } τ2 U2) := by
  have hl := hg.len
  refine ⟨fun n m τ U => m = kvs.length - n ∧ n ≤ kvs.length ∧ P n τ U ∧ Kr k G U, ⟨_, rfl, Nat.zero_le _, h0, Kr.refl⟩, ?_⟩
  rintro n m τ U ⟨rfl, hn, hp, kr⟩
  have haU : U a = some (.frz o (.dK kvs)) := kr.at hak ha
  by_cases hlt : n < kvs.length
  · refine .inr ⟨⟨haU, hlt⟩, fun τ' U' => P (n + 1) τ' U' ∧ Kr k G U', fun τ' U' z => ⟨kvs.length - (n + 1), by omega, rfl, hlt, z⟩, ?_⟩
    rintro x U' ⟨T, y, v, h1, rfl, hT, rfl⟩
    have hx : gs[n]? = some gs[n] := List.getElem?_eq_getElem (hl ▸ hlt)
    obtain ⟨p, h2, h3, h4⟩ := hg.get hx
    rw [h1] at h2
    cases h2
    have hpk : p ≠ k := fun z => by
      obtain ⟨u, hu⟩ := hk
      rw [z, hu] at h3; cases h3
    exact ⟨T, _, rfl, st_of upd_same, rfl, _, _, rfl, _, _, rfl, rfl, hs n _ p τ U hx hp kr (kr.at hpk h4) T hT⟩
  · have e : n = kvs.length := by omega
    subst e
    exact .inl ⟨⟨haU, Nat.le_refl _⟩, hd τ U (hl ▸ hp) kr⟩
theorem insI_len (x : Int) : ∀ l : List Int, (insI x l).length ≤ l.length + 1
  | [] => by simp [insI]
  | y :: l => by
    have ih := insI_len x l
    unfold insI
    split <;> (try split) <;> simp <;> omega
theorem srt_len' : ∀ ns : List Int, (srt ns).length ≤ ns.length
  | [] => Nat.le_refl _
  | x :: r => by
    have ih := srt_len' r
    have := insI_len x (srt r)
    show (insI x (srt r)).length ≤ r.length + 1
    omega
theorem range_map {α : Type} (v : Int → α) (L : List Int) : (List.range L.length).map (fun i => v (L.getD i 0)) = L.map v := by
  refine List.ext_getElem? fun i => ?_
  rw [List.getElem?_map, List.getElem?_map]
  by_cases h : i < L.length
  · rw [List.getElem?_range h, List.getElem?_eq_getElem h]
    show some (v (L.getD i 0)) = some (v L[i])
    rw [List.getD_eq_getElem?_getD, List.getElem?_eq_getElem h]; rfl
  · rw [List.getElem?_eq_none (by rw [List.length_range]; omega), List.getElem?_eq_none (by omega)]; rfl
/-- [f(x) for x in ns] -/
theorem el_lcI {K : PySem.W.Frag} {σ : L2.St} {H : Hp} {tl te : TE} {a : Addr} {ns : List Int} {j : Nat} {vs : List Nat} (v : Int → V) (h : Ev tl σ H (.ref a)) (hx : SqL K H a (ns.map V.int)) (hz : ns.length ≤ 40000) (hw : ∀ x, wipe ((wipe σ vs).set j (some x)) vs = wipe σ vs)
    (he : ∀ (x : Int) H1, Ex H H1 → x ∈ ns → Ev te ((wipe σ vs).set j (some (.int x))) H1 (v x)) : EvL (tLc (iList K tl) (gName j) tYes te vs) σ H (ns.map v) := by
  have z := el_lcL (t := tYes) (te := te) (j := j) (vs := vs) (fun _ => true) (fun i => v (ns.getD i 0)) h hx (by rw [List.length_map]; exact hz) hw (fun i x H1 _ _ => et_yes rfl) fun i x H1 e hi _ => by
    rw [List.getElem?_map] at hi
    obtain ⟨n, hn, rfl⟩ := Option.map_eq_some_iff.mp hi
    have e2 : ns.getD i 0 = n := by rw [List.getD_eq_getElem?_getD, hn]; rfl
    rw [e2]
    exact he n H1 e (List.mem_of_getElem? hn)
  rw [given_all, List.length_map, range_map v ns] at z
  exact z
theorem el_listT {K : PySem.W.Frag} {σ : L2.St} {H : Hp} {ta : TE} {p : Addr} {xs : List V} (ha : Ev ta σ H (.ref p)) (h : ∀ H1, SqT K H1 p xs) : EvL (tCB (rListS K) (tCons ta tNil)) σ H xs := fun H1 e Q q =>
  ha H1 e _ fun H2 e2 => ⟨p, xs, rfl, .inr (h H2), fun l hl => q l _ (fresh_back e2 hl) (e2.trans (Ex.new hl)) upd_same⟩
theorem ev_anyL {K : PySem.W.Frag} {σ : L2.St} {H : Hp} {te : TE} {bs : List Bool} (h : EvL te σ H (bs.map V.bl)) : Ev (tCB (rAny K) (tCons te tNil)) σ H (.bl (bs.any id)) := fun H1 e Q q =>
  h H1 e _ fun p H2 _ e2 h2 => ⟨p, bs, rfl, sq_of h2, q H2 e2⟩
theorem ev_anyM {K : PySem.W.Frag} {σ : L2.St} {H : Hp} {te : TE} {ns : List Int} (f : Int → Bool) (h : EvL te σ H (ns.map fun y => V.bl (f y))) : Ev (tCB (rAny K) (tCons te tNil)) σ H (.bl ((ns.map f).any id)) := ev_anyL (bs := ns.map f) (by rw [List.map_map]; exact h)
theorem range_filter {α : Type} (v : Int → α) (φ : Int → Bool) (L : List Int) : ((List.range L.length).filter (fun i => φ (L.getD i 0))).map (fun i => v (L.getD i 0)) = (L.filter φ).map v := by
  have e : (List.range L.length).map (fun i => L.getD i 0) = L := by rw [range_map (fun x => x) L]; exact List.map_id' L
  have z : (L.filter φ).map v = (((List.range L.length).map (fun i => L.getD i 0)).filter φ).map v := by rw [e]
  rw [z, List.filter_map, List.map_map]
  rfl
/-- [v(x) for x in ns if φ(x)] -/
theorem el_lcF {K : PySem.W.Frag} {σ : L2.St} {H : Hp} {tl te : TE} {tt : TT} {a : Addr} {ns : List Int} {j : Nat} {vs : List Nat} (φ : Int → Bool) (v : Int → V) (h : Ev tl σ H (.ref a)) (hx : SqL K H a (ns.map V.int)) (hz : ns.length ≤ 40000) (hw : ∀ x, wipe ((wipe σ vs).set j (some x)) vs = wipe σ vs)
    (ht : ∀ (x : Int) H1, Ex H H1 → x ∈ ns → EvT tt ((wipe σ vs).set j (some (.int x))) H1 (φ x)) (he : ∀ (x : Int) H1, Ex H H1 → x ∈ ns → Ev te ((wipe σ vs).set j (some (.int x))) H1 (v x)) : EvL (tLc (iList K tl) (gName j) tt te vs) σ H ((ns.filter φ).map v) := by
  have at_ {i : Nat} {x : V} (hi : (ns.map V.int)[i]? = some x) : ∃ n, x = .int n ∧ n ∈ ns ∧ ns.getD i 0 = n := by
    rw [List.getElem?_map] at hi
    obtain ⟨n, hn, rfl⟩ := Option.map_eq_some_iff.mp hi
    exact ⟨n, rfl, List.mem_of_getElem? hn, by rw [List.getD_eq_getElem?_getD, hn]; rfl⟩
  have z := el_lcL (t := tt) (te := te) (j := j) (vs := vs) (fun i => φ (ns.getD i 0)) (fun i => v (ns.getD i 0)) h hx (by rw [List.length_map]; exact hz) hw (fun i x H1 e hi => by
    obtain ⟨n, rfl, hn, e2⟩ := at_ hi
    rw [e2]; exact ht n H1 e hn) fun i x H1 e hi _ => by
    obtain ⟨n, rfl, hn, e2⟩ := at_ hi
    rw [e2]; exact he n H1 e hn
  have g : given (ns.map V.int).length (fun i => φ (ns.getD i 0)) (fun i => v (ns.getD i 0)) = (ns.filter φ).map v := by
    rw [List.length_map]
    exact range_filter v φ ns
  rw [g] at z
  exact z
end Mc
namespace Mc
open PySem L2 Evl
section
variable {K : PySem.W.Frag} {σ : L2.St} {H : Hp} {Q : VK} {te ta tb tk to : TE}
/-! ### longer lists -/
theorem el_repW {xs : List V} {k : Int} (h : EvL te σ H xs) (hk : ∀ H1, Ex H H1 → Ev tk σ H1 (.int k)) (h0 : 0 ≤ k ∧ k ≤ 10000) (hz : xs.length ≤ 100) : EvL (tOp rRep te tk) σ H ((List.replicate k.toNat xs).flatten) := fun H1 e Q q =>
  h H1 e _ fun p H2 np e2 hp => hk H2 (e.trans e2) H2 (Ex.refl H2) _ fun H3 e3 => ⟨p, k, xs, rfl, rfl, e3 _ _ hp, by omega, by omega, Nat.le_trans (Nat.mul_le_mul hz (show k.toNat ≤ 10000 by omega)) (by decide), fun l hl => q l _ (fresh_back (e2.trans e3) hl) ((e2.trans e3).trans (Ex.new hl)) upd_same⟩
theorem el_catW {xs ys : List V} (h : EvL ta σ H xs) (hb : EvL tb σ H ys) (hz : xs.length + ys.length ≤ 100000) : EvL (tOp rCat ta tb) σ H (xs ++ ys) := fun H1 e Q q =>
  h H1 e _ fun p H2 _ e2 h2 => hb H2 (e.trans e2) _ fun r H3 _ e3 h3 => ⟨p, r, xs, ys, rfl, rfl, e3 _ _ h2, h3, sz_of hz, fun l hl => q l _ (fresh_back (e2.trans e3) hl) ((e2.trans e3).trans (Ex.new hl)) upd_same⟩
theorem EvL.is {xs ys : List V} (h : EvL te σ H xs) (e : xs = ys) : EvL te σ H ys := e ▸ h
theorem flat_one (k : Nat) (x : V) : (List.replicate k [x]).flatten = List.replicate k x := by
  induction k with
  | zero => rfl
  | succ k ih => rw [List.replicate_succ, List.flatten_cons, ih]; rfl
/-! ### data compared -/
theorem rv_neDp {x y : V} {d e : PyData} (hx : Dp K H x d) (hy : Dp K H y e) (sd : SeqAt.shaped d = true) (se : SeqAt.shaped e = true) : RV (rNeD K) x y H (.bl (!PyData.eqv d e)) := fun H1 x1 _ q =>
  ⟨d, e, dp_ex x1 hx, dp_ex x1 hy, sd, se, q H1 (Ex.refl H1)⟩
theorem rv_neSame {x y : V} {d : PyData} (hx : Dp K H x d) (hy : Dp K H y d) (sd : SeqAt.shaped d = true) : RV (rNeD K) x y H (.bl false) := by
  have z := rv_neDp hx hy sd sd
  rw [SeqAt.eqv_refl d (SeqAt.canLay_of_shaped sd)] at z
  exact z
theorem rv_eqSame {x y : V} {d : PyData} (hx : Dp K H x d) (hy : Dp K H y d) (sd : SeqAt.shaped d = true) : RV (rEqD K) x y H (.bl true) := by
  have z := rv_eqDp hx hy sd sd
  rw [SeqAt.eqv_refl d (SeqAt.canLay_of_shaped sd)] at z
  exact z
/-- a list of tuples of ints -/
def tupsD (xs : List (List Int)) : PyData := .list (xs.map fun x => .tuple (x.map PyData.int))
theorem shaped_tups (xs : List (List Int)) : SeqAt.shaped (tupsD xs) = true := by
  have h : ∀ xs : List (List Int), PyData.canLayAll0 (xs.map fun x => PyData.tuple (x.map PyData.int)) = true ∧ PyData.depthAll (xs.map fun x => PyData.tuple (x.map PyData.int)) ≤ 1 := by
    intro xs
    induction xs with
    | nil => exact ⟨rfl, by decide⟩
    | cons x xs ih =>
      obtain ⟨a, b⟩ := ih
      have c : PyData.canLayAll0 (x.map PyData.int) = true := PySem.W.ke_canLayAll0 x
      have d : PyData.depthAll (x.map PyData.int) = 0 := PySem.W.ke_depthAll x
      refine ⟨?_, ?_⟩
      · simp only [List.map_cons, PyData.canLayAll0, PyData.canLay0, c, a]; rfl
      · simp only [List.map_cons, PyData.depthAll, PyData.depth, d]; omega
  obtain ⟨a, b⟩ := h xs
  have c : PyData.canLay0 (tupsD xs) = true := by simp only [tupsD, PyData.canLay0]; exact a
  have d : PyData.depth (tupsD xs) ≤ 64 := by simp only [tupsD, PyData.depth]; omega
  unfold SeqAt.shaped
  rw [c, decide_eq_true d]; rfl
/-! ### what evaluates to data -/
def EvD (K : PySem.W.Frag) (te : TE) (σ : L2.St) (H : Hp) (d : PyData) : Prop := ∀ H1, Ex H H1 → ∀ Q : VK, (∀ x H2, Ex H1 H2 → Dp K H2 x d → Q x H2) → te σ H1 Q
def EvDs (K : PySem.W.Frag) (ta : TA) (σ : L2.St) (H : Hp) (ds : List PyData) : Prop := ∀ H1, Ex H H1 → ∀ Q : List V → Hp → Prop, (∀ xs H2, Ex H1 H2 → DpAll K H2 xs ds → Q xs H2) → ta σ H1 Q
/-- a new list of data -/
def EvDL (K : PySem.W.Frag) (te : TE) (σ : L2.St) (H : Hp) (ds : List PyData) : Prop := ∀ H1, Ex H H1 → ∀ Q : VK, (∀ p xs H2, H1 p = none → Ex H1 H2 → H2 p = some (.lst xs) → DpAll K H2 xs ds → Q (.ref p) H2) → te σ H1 Q
def dI (xs : List Int) : PyData := .tuple (xs.map PyData.int)
def dL (xs : List Int) : PyData := .list (xs.map PyData.int)
theorem ed_val {x : V} {d : PyData} (h : Ev te σ H x) (hd : ∀ H1, Ex H H1 → Dp K H1 x d) : EvD K te σ H d := fun H1 e Q q => h H1 e _ fun H2 e2 => q x H2 e2 (hd H2 (e.trans e2))
theorem ed_valH {x : V} {d : PyData} (h : Ev te σ H x) (hd : Dp K H x d) : EvD K te σ H d := ed_val h fun _ e => dp_ex e hd
theorem ed_int {i : Int} (h : Ev te σ H (.int i)) : EvD K te σ H (.int i) := ed_val h fun _ _ => .int i
theorem ed_bl {i : Bool} (h : Ev te σ H (.bl i)) : EvD K te σ H (.bool i) := ed_val h fun _ _ => .bl i
theorem ed_non (h : Ev te σ H .non) : EvD K te σ H .none := ed_val h fun _ _ => .non
theorem ed_str {s : Str} (h : Ev te σ H (.str s)) : EvD K te σ H (.str s) := ed_val h fun _ _ => .str s
theorem ed_U {xs : List Int} (h : EvU te σ H (xs.map V.int)) : EvD K te σ H (dI xs) := fun H1 e Q q => h H1 e _ fun p H2 _ e2 h2 => q (.ref p) H2 e2 (dp_date (st_of h2))
theorem ed_L {xs : List Int} (h : EvL te σ H (xs.map V.int)) : EvD K te σ H (dL xs) := fun H1 e Q q => h H1 e _ fun p H2 _ e2 h2 => q (.ref p) H2 e2 (dp_ints (sq_of h2))
theorem eds_nil : EvDs K tNil σ H [] := fun H1 _ _ q => q [] H1 (Ex.refl H1) .nil
theorem eds_cons {tr : TA} {d : PyData} {ds : List PyData} (h : EvD K te σ H d) (hr : EvDs K tr σ H ds) : EvDs K (tCons te tr) σ H (d :: ds) := fun H1 e Q q =>
  h H1 e _ fun x H2 e2 hx => hr H2 (e.trans e2) _ fun xs H3 e3 hxs => q (x :: xs) H3 (e2.trans e3) (.cons (dp_ex e3 hx) hxs)
theorem edl_lst {ta : TA} {ds : List PyData} (h : EvDs K ta σ H ds) (hl : ds.length ≤ 100000) : EvDL K (tLst ta) σ H ds := fun H1 e Q q =>
  h H1 e _ fun xs H2 e2 hx => ⟨sz_of (by rw [dpa_len hx]; exact hl), fun p hp => q p xs _ (fresh_back e2 hp) (e2.trans (Ex.new hp)) upd_same (dpa_ex (Ex.new hp) hx)⟩
theorem ed_DL {ds : List PyData} (h : EvDL K te σ H ds) : EvD K te σ H (.list ds) := fun H1 e Q q => h H1 e _ fun p xs H2 _ e2 h2 hd => q (.ref p) H2 e2 (.lst (sq_of h2) hd)
theorem ed_lst {ta : TA} {ds : List PyData} (h : EvDs K ta σ H ds) (hl : ds.length ≤ 100000) : EvD K (tLst ta) σ H (.list ds) := ed_DL (edl_lst h hl)
theorem ed_tup {ta : TA} {ds : List PyData} (h : EvDs K ta σ H ds) (hl : ds.length ≤ 100000) : EvD K (tTup ta) σ H (.tuple ds) := fun H1 e Q q =>
  h H1 e _ fun xs H2 e2 hx => ⟨sz_of (by rw [dpa_len hx]; exact hl), fun p hp => q (.ref p) _ (e2.trans (Ex.new hp)) (.tup (st_of upd_same) (dpa_ex (Ex.new hp) hx))⟩
theorem dpa_app : ∀ {xs ys : List V} {ds es : List PyData}, DpAll K H xs ds → DpAll K H ys es → DpAll K H (xs ++ ys) (ds ++ es)
  | _, _, _, _, .nil, h => h
  | _, _, _, _, .cons a t, h => .cons a (dpa_app t h)
theorem dpa_rep {xs : List V} {ds : List PyData} (h : DpAll K H xs ds) : ∀ k : Nat, DpAll K H (List.replicate k xs).flatten (List.replicate k ds).flatten
  | 0 => .nil
  | k + 1 => by
    rw [List.replicate_succ, List.replicate_succ, List.flatten_cons, List.flatten_cons]
    exact dpa_app h (dpa_rep h k)
theorem edl_rep {ds : List PyData} {k : Int} (h : EvDL K te σ H ds) (hk : ∀ H1, Ex H H1 → Ev tk σ H1 (.int k)) (h0 : 0 ≤ k ∧ k ≤ 10000) (hz : ds.length ≤ 100) : EvDL K (tOp rRep te tk) σ H ((List.replicate k.toNat ds).flatten) := fun H1 e Q q =>
  h H1 e _ fun p xs H2 np e2 hp hd => hk H2 (e.trans e2) H2 (Ex.refl H2) _ fun H3 e3 => ⟨p, k, xs, rfl, rfl, e3 _ _ hp, by omega, by omega, Nat.le_trans (Nat.mul_le_mul (by rw [dpa_len hd]; exact hz : xs.length ≤ 100) (show k.toNat ≤ 10000 by omega)) (by decide), fun l hl => q l _ _ (fresh_back (e2.trans e3) hl) ((e2.trans e3).trans (Ex.new hl)) upd_same (dpa_rep (dpa_ex (e3.trans (Ex.new hl)) hd) _)⟩
theorem edl_cat {ds es : List PyData} (h : EvDL K ta σ H ds) (hb : EvDL K tb σ H es) (hz : ds.length + es.length ≤ 100000) : EvDL K (tOp rCat ta tb) σ H (ds ++ es) := fun H1 e Q q =>
  h H1 e _ fun p xs H2 _ e2 h2 hd => hb H2 (e.trans e2) _ fun r ys H3 _ e3 h3 he => ⟨p, r, xs, ys, rfl, rfl, e3 _ _ h2, h3, sz_of (by rw [dpa_len hd, dpa_len he]; exact hz), fun l hl => q l _ _ (fresh_back (e2.trans e3) hl) ((e2.trans e3).trans (Ex.new hl)) upd_same (dpa_app (dpa_ex (e3.trans (Ex.new hl)) hd) (dpa_ex (Ex.new hl) he))⟩
theorem ev_neD {d : PyData} (h : EvD K ta σ H d) (hb : EvD K tb σ H d) (sd : SeqAt.shaped d = true) : Ev (tOp (rNeD K) ta tb) σ H (.bl false) := fun H1 e Q q =>
  h H1 e _ fun x H2 e2 hx => hb H2 (e.trans e2) _ fun y H3 e3 hy => rv_neSame (dp_ex e3 hx) hy sd H3 (Ex.refl H3) Q fun H4 e4 => q H4 ((e2.trans e3).trans e4)
theorem ev_eqD {d : PyData} (h : EvD K ta σ H d) (hb : EvD K tb σ H d) (sd : SeqAt.shaped d = true) : Ev (tOp (rEqD K) ta tb) σ H (.bl true) := fun H1 e Q q =>
  h H1 e _ fun x H2 e2 hx => hb H2 (e.trans e2) _ fun y H3 e3 hy => rv_eqSame (dp_ex e3 hx) hy sd H3 (Ex.refl H3) Q fun H4 e4 => q H4 ((e2.trans e3).trans e4)
theorem ev_sameD {n : Nat} {E : XK} {d : PyData} (h : EvD K ta σ H d) (hb : EvD K tb σ H d) (ok : okd n d) : Ev (tCall (spSame K n) [] E (tCons ta (tCons tb tNil))) σ H (.bl true) := fun H1 e Q q =>
  h H1 e _ fun x H2 e2 hx => hb H2 (e.trans e2) _ fun y H3 e3 hy => ⟨x, y, d, rfl, dp_ex e3 hx, hy, ok, fun H4 e4 => q H4 ((e2.trans e3).trans e4)⟩
theorem shaped_I (xs : List Int) : SeqAt.shaped (dI xs) = true := PySem.W.ke_shaped_ints xs
theorem shaped_L (xs : List Int) : SeqAt.shaped (dL xs) = true := PySem.W.ke_shaped_ints xs
theorem tups_cons (x : List Int) (xs : List (List Int)) : PyData.list (dI x :: xs.map fun x => PyData.tuple (x.map PyData.int)) = tupsD (x :: xs) := rfl
/-! ### new lists of new tuples of ints -/
def EvTs (ta : TA) (σ : L2.St) (H : Hp) (xss : List (List Int)) : Prop := ∀ H1, Ex H H1 → ∀ Q : List V → Hp → Prop, (∀ vs H2, Ex H1 H2 → TupsAt H2 vs xss → Q vs H2) → ta σ H1 Q
def EvTL (te : TE) (σ : L2.St) (H : Hp) (xss : List (List Int)) : Prop := ∀ H1, Ex H H1 → ∀ Q : VK, (∀ p vs H2, H1 p = none → Ex H1 H2 → H2 p = some (.lst vs) → TupsAt H2 vs xss → Q (.ref p) H2) → te σ H1 Q
theorem ets_nil : EvTs tNil σ H [] := fun H1 _ _ q => q [] H1 (Ex.refl H1) .nil
theorem ets_cons {tr : TA} {xs : List Int} {xss : List (List Int)} (h : EvU te σ H (xs.map V.int)) (hr : EvTs tr σ H xss) : EvTs (tCons te tr) σ H (xs :: xss) := fun H1 e Q q =>
  h H1 e _ fun p H2 _ e2 h2 => hr H2 (e.trans e2) _ fun vs H3 e3 t => q _ H3 (e2.trans e3) (.cons ⟨p, rfl, e3 _ _ h2⟩ t)
theorem etl_lst {ta : TA} {xss : List (List Int)} (h : EvTs ta σ H xss) (hl : xss.length ≤ 100000) : EvTL (tLst ta) σ H xss := fun H1 e Q q =>
  h H1 e _ fun vs H2 e2 t => ⟨sz_of (by rw [t.len]; exact hl), fun p hp => q p vs _ (fresh_back e2 hp) (e2.trans (Ex.new hp)) upd_same (t.kt (KT.ex (Ex.new hp)))⟩
theorem TupsAt.app {H : Hp} : ∀ {vs ws : List V} {xs ys : List (List Int)}, TupsAt H vs xs → TupsAt H ws ys → TupsAt H (vs ++ ws) (xs ++ ys)
  | _, _, _, _, .nil, h => h
  | _, _, _, _, .cons a t, h => .cons a (TupsAt.app t h)
theorem TupsAt.at_ {H : Hp} {vs : List V} {xs : List (List Int)} (h : TupsAt H vs xs) {n : Int} (h0 : 0 ≤ n) (h1 : n < xs.length) : ∃ (q : Addr) (x : List Int), x ∈ xs ∧ atI vs n = some (.ref q) ∧ H q = some (.tup (x.map V.int)) := by
  obtain ⟨j, rfl⟩ : ∃ j : Nat, n = (j : Int) := ⟨n.toNat, by omega⟩
  have key : ∀ {vs : List V} {xs : List (List Int)} (j : Nat), TupsAt H vs xs → j < xs.length → ∃ (q : Addr) (x : List Int), x ∈ xs ∧ vs[j]? = some (.ref q) ∧ H q = some (.tup (x.map V.int)) := by
    intro vs xs j t
    induction t generalizing j with
    | nil => intro h; simp at h
    | @cons v x vs xs a t ih =>
      intro h
      obtain ⟨q, rfl, hq⟩ := a
      match j with
      | 0 => exact ⟨q, x, List.mem_cons_self .., rfl, hq⟩
      | j + 1 =>
        obtain ⟨q, y, a, b, c⟩ := ih j (by simpa using h)
        exact ⟨q, y, List.mem_cons_of_mem _ a, b, c⟩
  obtain ⟨q, x, a, b, c⟩ := key j h (by omega)
  exact ⟨q, x, a, atI_nat b, c⟩
theorem f_evTL {xss : List (List Int)} (h : EvTL te σ H xss) (k : ∀ p vs H1, H p = none → Ex H H1 → H1 p = some (.lst vs) → TupsAt H1 vs xss → Q (.ref p) H1) : te σ H Q := h H (Ex.refl H) Q k
theorem f_lcR2 {ta : TA} {g : TG} {tt : TT} {vs : List Nat} (h : ta σ H fun us H1 => ∃ i j : Int, us = [.int i, .int j] ∧ (-(2 ^ 62) ≤ i ∧ i < 2 ^ 62 ∧ -(2 ^ 62) ≤ j ∧ j < 2 ^ 62) ∧ ∀ D, H1 D = none → ∃ W : Nat → Nat → Hp → Prop, (∃ m, W 0 m (upd H1 D (.lst []))) ∧ ∀ k m H, W k m H →
    ((Itr i (j - i).toNat).stop k H ∧ Q (.ref D) H) ∨ ((Itr i (j - i).toNat).go k H ∧ ∃ Nx : Hp → Prop, (∀ H', Nx H' → ∃ m', m' < m ∧ W (k + 1) m' H') ∧ ∀ x H', (Itr i (j - i).toNat).yld k H x H' → g x (wipe σ vs) H' fun σ2 H2 => wipe σ2 vs = wipe σ vs ∧ tt σ2 H2 fun b H3 =>
      if b = true then te σ2 H3 fun y H4 => ∃ acc, H4 D = some (.lst acc) ∧ acc.length < sizeLine ∧ Nx (upd H4 D (.lst (acc ++ [y]))) else Nx H3)) : tLc (iRng2 ta) g tt te vs σ H Q := h
/-- a < b < c, as a value -/
theorem ev_chain {ra rb : R2} {tc : TE} {x y z : V} {a b : Bool} (h1 : Ev ta σ H x) (h2 : Ev tb σ H y) (hr : RV ra x y H (.bl a)) (h3 : a = true → Ev tc σ H z) (hs : a = true → RV rb y z H (.bl b)) : Ev (tChain ra rb ta tb tc) σ H (.bl (a && b)) := fun H1 e Q q =>
  h1 H1 e _ fun H2 e2 => h2 H2 (e.trans e2) _ fun H3 e3 => hr H3 ((e.trans e2).trans e3) _ fun H4 e4 => ⟨a, rfl, by
    have x4 := ((e.trans e2).trans e3).trans e4
    have y4 := (e2.trans e3).trans e4
    cases a with
    | true => exact h3 rfl H4 x4 _ fun H5 e5 => hs rfl H5 (x4.trans e5) Q fun H6 e6 => q H6 ((y4.trans e5).trans e6)
    | false => exact q H4 y4⟩
/-! ### going on from what is known -/
theorem f_cont {F : VK → Prop} {φ : V → Hp → Prop} {Q : VK} (h : ∀ R : VK, (∀ v H, φ v H → R v H) → F R) (q : ∀ v H, φ v H → Q v H) : F Q := h Q q
theorem f_seqX {t1 t2 : TS} {D : Ends} (h : ∀ N : L2.St → Hp → Prop, (∀ H', Ex H H' → N σ H') → t1 { D with nx := N } σ H) (k : ∀ H', Ex H H' → t2 D σ H') : tSeq t1 t2 D σ H := h _ k
theorem f_seqC {t1 t2 : TS} {D : Ends} (φ : L2.St → Hp → Prop) (h : ∀ N : L2.St → Hp → Prop, (∀ σ' H', φ σ' H' → N σ' H') → t1 { D with nx := N } σ H) (k : ∀ σ' H', φ σ' H' → t2 D σ' H') : tSeq t1 t2 D σ H := h _ k
/-- a tuple, new or not -/
def EvU0 (te : TE) (σ : L2.St) (H : Hp) (xs : List V) : Prop := ∀ H1, Ex H H1 → ∀ Q : VK, (∀ p H2, Ex H1 H2 → H2 p = some (.tup xs) → Q (.ref p) H2) → te σ H1 Q
theorem EvU0.is {xs ys : List V} (h : EvU0 te σ H xs) (e : xs = ys) : EvU0 te σ H ys := e ▸ h
theorem EvU.is {xs ys : List V} (h : EvU te σ H xs) (e : xs = ys) : EvU te σ H ys := e ▸ h
theorem EvU.u0 {xs : List V} (h : EvU te σ H xs) : EvU0 te σ H xs := fun H1 e Q q => h H1 e Q fun p H2 _ e2 h2 => q p H2 e2 h2
theorem ed_U0 {xs : List Int} (h : EvU0 te σ H (xs.map V.int)) : EvD K te σ H (dI xs) := fun H1 e Q q => h H1 e _ fun p H2 e2 h2 => q (.ref p) H2 e2 (dp_date (st_of h2))
theorem f_evU0 {xs : List V} (h : EvU0 te σ H xs) (k : ∀ p H1, Ex H H1 → H1 p = some (.tup xs) → Q (.ref p) H1) : te σ H Q := h H (Ex.refl H) Q k
theorem s_asgU0 {i : Nat} {D : Ends} {xs : List V} (h : EvU0 te σ H xs) (k : ∀ p H1, Ex H H1 → H1 p = some (.tup xs) → D.nx (σ.set i (some (.ref p))) H1) : tAsg te (gName i) D σ H := h H (Ex.refl H) _ fun p H1 e h1 => k p H1 e h1
/-- a slice of a tuple -/
theorem eu_take {tk : TE} {a : Addr} {xs : List V} {n : Nat} (h : Ev te σ H (.ref a)) (hn : Ev tk σ H (.int (n : Int))) (hs : SqT K H a xs) (hl : n < xs.length) : EvU0 (tSl (rSlT K) te tNoPart (tPart tk)) σ H (xs.take n) := by
  intro H1 e Q q
  refine h H1 e _ fun H2 e2 => eo_none H2 (e.trans e2) _ fun H3 e3 => eo_some hn H3 ((e.trans e2).trans e3) _ fun H4 e4 => ⟨a, xs, rfl, ex_t (((e.trans e2).trans e3).trans e4) hs, fun z => ?_, fun p hp => q p _ (((e2.trans e3).trans e4).trans (Ex.new hp)) ?_⟩
  · have z2 := z.2
    rw [HT.sIx_nat] at z2; omega
  · rw [upd_same, cutV_take]
/-- the script, kept by draws from a source that is new -/
theorem sq_kr {H H1 H' : Hp} {r a : Addr} {xs : List V} (hS : SqL K H a xs) (hn : H r = none) (e : Ex H H1) (k : Kr r H1 H') : SqL K H' a xs := by
  rcases hS with (h | ⟨o, h⟩) | h
  · exact .inl (.inl (k _ _ (ne_of_none h hn) (e _ _ h)))
  · exact .inl (.inr ⟨o, k _ _ (ne_of_none h hn) (e _ _ h)⟩)
  · exact .inr h
/-! ### more of the second source -/
theorem KT.kr {H H' : Hp} {r : Addr} {B : Nat} (S : Rg H r B) (k : Kr r H H') : KT H H' := fun q xs h => by
  obtain ⟨a, b, c, g1, _⟩ := S.ex
  exact k q _ (ne_of h g1 (by intro z; cases z)) h
/-- a new tuple is made in the midst of draws -/
theorem f_newUr {r : Addr} {B : Nat} {xs : List V} {R : Addr → Prop} (S : Rg H r B) (hz : xs.length ≤ 1000) (q : ∀ p, H p = none → p ≠ r → Rg (upd H p (.tup xs)) r B → Ex H (upd H p (.tup xs)) → (upd H p (.tup xs)) p = some (.tup xs) → R p) : xs.length ≤ sizeLine ∧ ∀ p, H p = none → R p :=
  ⟨sz1000 hz, fun p hp => q p hp (S.free hp) (S.ex_ (Ex.new hp)) (Ex.new hp) upd_same⟩
/-- [a, b, ..][draw], the list made ahead -/
theorem f_ixL {p : Addr} {xs : List V} {n : Int} {v : V} (h : H p = some (.lst xs)) (ha : atI xs n = some v) (q : Q v H) : rIxL K (.ref p) (.int n) H Q := ⟨p, xs, n, v, rfl, rfl, sq_of h, ha, q⟩
end
/-! ### a bag of draws: a dict of a list, what is left, the turn, a fold -/
section
variable {K : PySem.W.Frag} {σ : L2.St} {H : Hp} {Q : VK} {te ta tb tk td ty : TE}
def bagK (g : Addr) (l t f : Int) : List (Key × V) := [(.inr "great", .ref g), (.inr "left", .int l), (.inr "turn", .int t), (.inr "fold", .int f)]
structure Bg (H : Hp) (d g : Addr) (B : Nat) : Prop where
  ex : ∃ (gs : List Int) (l t f : Int), H d = some (.dK (bagK g l t f)) ∧ H g = some (.lst (gs.map V.int)) ∧ gs.length ≤ 63 ∧ 0 ≤ t ∧ t + B ≤ 2 ^ 30 ∧ 0 ≤ f ∧ f < 2 ^ 61
theorem Bg.less {H : Hp} {d g : Addr} {B B' : Nat} (S : Bg H d g B) (h : B' ≤ B) : Bg H d g B' := by
  obtain ⟨gs, l, t, f, h1, h2, h3, h4, h5, h6⟩ := S.ex
  exact ⟨gs, l, t, f, h1, h2, h3, h4, by omega, h6⟩
theorem Bg.ex_ {H H' : Hp} {d g : Addr} {B : Nat} (S : Bg H d g B) (e : Ex H H') : Bg H' d g B := by
  obtain ⟨gs, l, t, f, h1, h2, h⟩ := S.ex
  exact ⟨gs, l, t, f, e _ _ h1, e _ _ h2, h⟩
theorem Bg.free {H : Hp} {d g : Addr} {B : Nat} (S : Bg H d g B) {p : Addr} (h : H p = none) : p ≠ d ∧ p ≠ g := by
  obtain ⟨gs, l, t, f, h1, h2, _⟩ := S.ex
  exact ⟨(ne_of_none h1 h).symm, (ne_of_none h2 h).symm⟩
theorem Bg.upd {H : Hp} {d g l : Addr} {B : Nat} {o : HO} (S : Bg H d g B) (f : l ≠ d ∧ l ≠ g) : Bg (upd H l o) d g B := by
  obtain ⟨gs, l', t, fo, h1, h2, h⟩ := S.ex
  exact ⟨gs, l', t, fo, by rw [upd_ne f.1.symm]; exact h1, by rw [upd_ne f.2.symm]; exact h2, h⟩
theorem Kp.newB {d g p : Addr} {B : Nat} {H H' : Hp} (k : Kp d g H H') (S : Bg H' d g B) (h : H' p = none) : H p = none := by
  have f := S.free h
  rcases e : H p with _ | o
  · rfl
  · rw [k.at f e] at h; cases h
def spBag (K : PySem.W.Frag) : Sp := fun vs H Q _ => ∃ (a : Addr) (ns : List Int), vs = [.ref a] ∧ SqL K H a (ns.map V.int) ∧ ns.length ≤ 63 ∧ ∀ d g H', H d = none → H g = none → Bg H' d g (2 ^ 29) → Ex H H' → Q (.ref d) H'
def spBdraw : Sp := fun vs H Q _ => ∃ (d g : Addr) (many : Int) (B : Nat), vs = [.ref d, .int many] ∧ 0 < many ∧ many ≤ 10 ^ 60 ∧ Bg H d g (B + 1) ∧ ∀ n H', 0 ≤ n → n < many → Bg H' d g B → Kp d g H H' → Q (.int n) H'
theorem KT.kb {H H' : Hp} {d g : Addr} {B : Nat} (S : Bg H d g B) (k : Kp d g H H') : KT H H' := fun q xs h => by
  obtain ⟨gs, l, t, f, h1, h2, _⟩ := S.ex
  exact k q _ (ne_of h h1 (by intro z; cases z)) (ne_of h h2 (by intro z; cases z)) h
theorem f_bdraw {d g : Addr} {B : Nat} {many : Int} {E : XK} (S : Bg H d g (B + 1)) (h0 : 0 < many) (hb : many ≤ 10 ^ 60) (q : ∀ n H', 0 ≤ n → n < many → Bg H' d g B → Kp d g H H' → Q (.int n) H') :
    spBdraw ([.ref d, .int many] ++ []) H Q E := ⟨d, g, many, B, rfl, h0, hb, S, q⟩
theorem f_newLb {d g : Addr} {B : Nat} {xs : List V} {R : Addr → Prop} (S : Bg H d g B) (hz : xs.length ≤ 1000) (q : ∀ p, H p = none → p ≠ d ∧ p ≠ g → Bg (upd H p (.lst xs)) d g B → Ex H (upd H p (.lst xs)) → (upd H p (.lst xs)) p = some (.lst xs) → R p) : xs.length ≤ sizeLine ∧ ∀ p, H p = none → R p :=
  ⟨sz1000 hz, fun p hp => q p hp (S.free hp) (S.ex_ (Ex.new hp)) (Ex.new hp) upd_same⟩
theorem f_newUb {d g : Addr} {B : Nat} {xs : List V} {R : Addr → Prop} (S : Bg H d g B) (hz : xs.length ≤ 1000) (q : ∀ p, H p = none → p ≠ d ∧ p ≠ g → Bg (upd H p (.tup xs)) d g B → Ex H (upd H p (.tup xs)) → (upd H p (.tup xs)) p = some (.tup xs) → R p) : xs.length ≤ sizeLine ∧ ∀ p, H p = none → R p :=
  ⟨sz1000 hz, fun p hp => q p hp (S.free hp) (S.ex_ (Ex.new hp)) (Ex.new hp) upd_same⟩
theorem f_ixT {p : Addr} {xs : List V} {n : Int} {v : V} (h : H p = some (.tup xs)) (ha : atI xs n = some v) (q : Q v H) : rIxT K (.ref p) (.int n) H Q := ⟨p, xs, n, v, rfl, rfl, st_of h, ha, q⟩
/-- d["k"] -/
theorem ev_dg {d : Addr} {kvs : List (Key × V)} {k : Str} {v : V} (h : Ev td σ H (.ref d)) (hk : Ev ty σ H (.str k)) (hd : H d = some (.dK kvs)) (hv : valV kvs (.inr k) = some v) : Ev (tDGet td ty) σ H v := fun H1 e Q q =>
  h H1 e _ fun H2 e2 => hk H2 (e.trans e2) _ fun H3 e3 => ⟨d, v, rfl, by rw [← hv]; exact DGet.k (k := .inr k) (e3 _ _ (e2 _ _ (e _ _ hd))), q H3 (e2.trans e3)⟩
/-- d["k"] = e -/
theorem s_dput {D : Ends} {d : Addr} {kvs : List (Key × V)} {k : Str} {v : V} (hd : H d = some (.dK kvs)) (hz : kvs.length ≤ 1000) (h : Ev te σ H v) (ho : Ev td σ H (.ref d)) (hk : Ev ty σ H (.str k)) (q : ∀ H1, Ex H H1 → D.nx σ (upd H1 d (.dK (putK kvs (.inr k) v)))) : sDPut td ty te D σ H :=
  h H (Ex.refl H) _ fun H1 e1 => ho H1 e1 _ fun H2 e2 => hk H2 (e1.trans e2) _ fun H3 e3 => ⟨d, _, rfl, DPut.k (k := .inr k) (((e1.trans e2).trans e3) _ _ hd) (Nat.lt_of_le_of_lt hz (by decide)), q H3 ((e1.trans e2).trans e3)⟩
/-- n turns, each of at most c draws and an int with φ -/
theorem lc_drawsB {vs : List Nat} {j n : Nat} {d g : Addr} {B c : Nat} (φ : Int → Prop) (S : Bg H d g (B + c * n)) (hn : n ≤ 1000) (hw : ∀ x, wipe ((wipe σ vs).set j (some x)) vs = wipe σ vs)
    (turn : ∀ (i : Nat) H' b, i < n → Kp d g H H' → Bg H' d g (b + c) → ∀ R : VK, (∀ z H2, φ z → Kp d g H' H2 → Bg H2 d g b → R (.int z) H2) → te ((wipe σ vs).set j (some (.int ((0 : Int) + (i : Int))))) H' R)
    (hd : ∀ (ks : List Int) (p : Addr) (H' : Hp), H p = none → p ≠ d ∧ p ≠ g → ks.length = n → (∀ k, k ∈ ks → φ k) → Bg H' d g B → Kp d g H H' → H' p = some (.lst (ks.map V.int)) → Q (.ref p) H') :
    LcR n (gName j) tYes te vs σ H Q := fun D hD => by
  have fD := S.free hD
  refine lc_range (lo := 0) (n := n) (fun i H' => ∃ ks : List Int, ks.length = i ∧ (∀ k, k ∈ ks → φ k) ∧ H' D = some (.lst (ks.map V.int)) ∧ Bg H' d g (B + c * (n - i)) ∧ Kp d g H H') ⟨[], rfl, (fun _ h => by simp at h), upd_same, S.ex_ (Ex.new hD), .of (Ex.new hD)⟩ (fun i H' hi ⟨ks, h1, h2, h3, h4, h5⟩ => ⟨hw _, ?_⟩) (fun H' ⟨ks, h1, h2, h3, h4, h5⟩ => hd ks D H' hD fD h1 h2 (h4.less (by omega)) h5 h3)
  have e : B + c * (n - i) = B + c * (n - (i + 1)) + c := by
    rw [show n - i = (n - (i + 1)) + 1 by omega, Nat.mul_add, Nat.mul_one]; omega
  rw [e] at h4
  refine f_yes ?_
  rw [if_pos rfl]
  refine turn i H' _ hi h5 h4 _ fun z H2 hz k2 S2 => ⟨_, k2.at fD h3, Nat.lt_of_le_of_lt (by rw [List.length_map]; omega : _ ≤ 1000) (by decide), ks ++ [z], by simp [h1], fun k hk => ?_, by rw [upd_same, List.map_append]; rfl, S2.upd fD, fun b o g1 g2 g => ?_⟩
  · rcases List.mem_append.mp hk with h | h
    · exact h2 k h
    · rw [List.mem_singleton.mp h]; exact hz
  · rw [upd_ne (ne_of_none g hD)]
    exact k2 b o g1 g2 (h5 b o g1 g2 g)
end
end Mc
namespace Mc
open PySem L2 Evl
/-! ### groups: their keys; a dict made by a comprehension -/
theorem putG_keys (k v : Int) : ∀ g : List (Int × List Int), (putG g k v).map Prod.fst = if k ∈ g.map Prod.fst then g.map Prod.fst else g.map Prod.fst ++ [k]
  | [] => rfl
  | (j, l) :: g => by
    have ih := putG_keys k v g
    unfold putG
    by_cases e : j = k
    · subst e
      rw [if_pos rfl, if_pos (by simp)]; rfl
    · have e2 : (k ∈ ((j, l) :: g).map Prod.fst) ↔ k ∈ g.map Prod.fst := by
        rw [List.map_cons, List.mem_cons]
        exact ⟨fun h => h.elim (fun z => absurd z.symm e) id, .inr⟩
      rw [if_neg e, List.map_cons, ih]
      by_cases h : k ∈ g.map Prod.fst
      · rw [if_pos h, if_pos (e2.mpr h)]; rfl
      · rw [if_neg h, if_neg (fun z => h (e2.mp z))]; rfl
theorem grp_nodup (d : Int) (ns : List Int) : ((grp d ns).map Prod.fst).Nodup := by
  have key : ∀ i, ((grp d (ns.take i)).map Prod.fst).Nodup := fun i => by
    induction i with
    | zero => exact List.nodup_nil
    | succ i ih =>
      cases h : ns[i]? with
      | none => rw [List.take_add_one, h, Option.toList_none, List.append_nil]; exact ih
      | some n =>
        rw [grp_take h, putG_keys]
        split
        · exact ih
        · next hn => exact List.nodup_append.mpr ⟨ih, (by simp), fun a ha b hb => by
            rw [List.mem_singleton.mp hb]
            exact fun z => hn (z ▸ ha)⟩
  have z := key ns.length
  rw [List.take_length] at z
  exact z
/-- one more group -/
theorem GAt.snoc {H0 H : Hp} {k : Int} {p : Addr} {l : List Int} (n : H0 p = none) (h : H p = some (.lst (l.map V.int))) : ∀ {kvs : List (Key × V)} {gs : List (Int × List Int)}, GAt H0 H kvs gs → (∀ kv, kv ∈ kvs → kv.2 ≠ .ref p) → GAt H0 H (kvs ++ [(.inl k, .ref p)]) (gs ++ [(k, l)])
  | _, _, .nil, _ => .cons n h (fun _ h => by simp at h) .nil
  | _, _, .cons (p := q) m h1 d t, far => .cons m h1 (fun kv hkv => by
      rcases List.mem_append.mp hkv with h2 | h2
      · exact d kv h2
      · rw [List.mem_singleton.mp h2]
        exact fun z => far _ (List.mem_cons_self ..) z.symm) (t.snoc n h fun kv hkv => far kv (List.mem_cons_of_mem _ hkv))
theorem GAt.none_ {H0 H : Hp} {k : Int} : ∀ {kvs : List (Key × V)} {gs : List (Int × List Int)}, GAt H0 H kvs gs → k ∉ gs.map Prod.fst → valV kvs (.inl k : Key) = none
  | _, _, .nil, _ => valV_nil
  | _, _, .cons (k := j) n h d t, hk => by
    rw [List.map_cons, List.mem_cons] at hk
    rw [valV_neg (show ¬ (Sum.inl j : Key) = Sum.inl k from fun z => hk (.inl (Sum.inl.inj z).symm))]
    exact t.none_ fun z => hk (.inr z)
theorem GAt.some_ {H0 H : Hp} : ∀ {kvs : List (Key × V)} {gs : List (Int × List Int)} {i : Nat} {x : Int × List Int}, GAt H0 H kvs gs → (gs.map Prod.fst).Nodup → gs[i]? = some x → ∃ p, kvs[i]? = some (.inl x.1, .ref p) ∧ valV kvs (.inl x.1 : Key) = some (.ref p) ∧ H0 p = none ∧ H p = some (.lst (x.2.map V.int))
  | _, _, _, _, .nil, _, h => by simp at h
  | _, _, 0, _, .cons (p := p) m h d t, _, e => by
    cases Option.some.inj e
    exact ⟨p, rfl, valV_pos rfl, m, h⟩
  | _, _, i + 1, x, .cons (k := j) (gs := gs) m h d t, nd, e => by
    rw [List.map_cons] at nd
    have e : gs[i]? = some x := e
    have nd2 := List.nodup_cons.mp nd
    obtain ⟨p, a, b, c⟩ := t.some_ (i := i) nd2.2 e
    have hx : x.1 ≠ j := fun z => nd2.1 (List.mem_map.mpr ⟨x, List.mem_of_getElem? e, z⟩)
    exact ⟨p, a, by rw [valV_neg (show ¬ (Sum.inl j : Key) = Sum.inl x.1 from fun z => hx (Sum.inl.inj z).symm)]; exact b, c⟩
theorem GAt.far {H0 H : Hp} {p : Addr} {o : Option HO} (np : H p = o) (hn : ∀ xs, o ≠ some (.lst xs)) : ∀ {kvs : List (Key × V)} {gs : List (Int × List Int)}, GAt H0 H kvs gs → ∀ kv, kv ∈ kvs → kv.2 ≠ .ref p
  | _, _, g, kv, hkv, z => by
    obtain ⟨q, l, e, h⟩ := g.news kv hkv
    rw [e] at z
    cases z
    rw [np] at h
    exact hn _ h
theorem f_dc {wi : TI} {g : TG} {tt : TT} {tk tv : TE} {vs : List Nat} {σ : L2.St} {H : Hp} {Q : VK} (h : wi σ H fun J H1 => ∀ D, H1 D = none → ∃ W : Nat → Nat → Hp → Prop, (∃ m, W 0 m (upd H1 D (.dK []))) ∧ ∀ i m H, W i m H →
    (J.stop i H ∧ Q (.ref D) H) ∨ (J.go i H ∧ ∃ Nx : Hp → Prop, (∀ H', Nx H' → ∃ m', m' < m ∧ W (i + 1) m' H') ∧ ∀ x H', J.yld i H x H' → g x (wipe σ vs) H' fun σ2 H2 => wipe σ2 vs = wipe σ vs ∧ tt σ2 H2 fun b H3 =>
      if b = true then tk σ2 H3 fun y H4 => tv σ2 H4 fun z H5 => ∃ kvs k, y = kV k ∧ H5 D = some (.dK kvs) ∧ kvs.length < sizeLine ∧ Nx (upd H5 D (.dK (putK kvs k z))) else Nx H3)) : tDc wi g tt tk tv vs σ H Q := h
theorem f_keys {td : TE} {σ : L2.St} {H : Hp} {R : It → Hp → Prop} (h : td σ H fun x H1 => ∃ d o, x = .ref d ∧ ((∃ kvs, H1 d = some (.frz o (.dK kvs)) ∧ R (Itk d o kvs) H1) ∨ ∃ kvs, H1 d = some (.frz o (.dT kvs)) ∧ R (Itkt d o kvs) H1)) : iKeys td σ H R := h
theorem f_frz {te : TE} {σ : L2.St} {H : Hp} {Q : VK} (h : te σ H fun x H1 => ∃ (d : Addr) (u : HO), x = .ref d ∧ H1 d = some u ∧ Mut (some u) ∧ ∀ od, Q x (upd H1 d (.frz od u))) : tFrz te σ H Q := h
theorem for_grp2 {K : PySem.W.Frag} {a k : Addr} {o : Obj} {kvs : List (Key × V)} {gs : List (Int × List Int)} {H0 G : Hp} {i j : Nat} {tu : TS} {D : Ends} {σ : L2.St} (ha : G a = some (.frz o (.dK kvs))) (hg : GAt H0 G kvs gs) (hk : ∃ u, H0 k = some u) (hak : a ≠ k)
    (P : Nat → L2.St → Hp → Prop) (h0 : P 0 σ G) (hs : ∀ (n : Nat) (x : Int × List Int) (p : Addr) (τ : L2.St) (U : Hp), gs[n]? = some x → P n τ U → Kr k G U → p ≠ k → U p = some (.lst (x.2.map V.int)) → ∀ T, U T = none →
      tu { D with nx := fun τ' U' => P (n + 1) τ' U' ∧ Kr k G U', ct := fun τ' U' => P (n + 1) τ' U' ∧ Kr k G U', bk := D.nx } ((τ.set i (some (.int x.1))).set j (some (.ref p))) (upd U T (.tup [.int x.1, .ref p])))
    (hd : ∀ τ U, P gs.length τ U → Kr k G U → D.nx τ U) :
    ∃ W : Nat → Nat → L2.St → Hp → Prop, (∃ m, W 0 m σ G) ∧ ∀ n m τ U, W n m τ U →
      ((Iti a o kvs).stop n U ∧ D.nx τ U) ∨ ((Iti a o kvs).go n U ∧ ∃ N : L2.St → Hp → Prop, (∀ τ' U', N τ' U' → ∃ m', m' < m ∧ W (n + 1) m' τ' U') ∧ ∀ x U', (Iti a o kvs).yld n U x U' → gTup K 2 (gCons (gName i) (gCons (gName j) gNil)) x τ U' fun τ2 U2 => tu { D with nx := N, ct := N, bk := D.nx } τ2 U2) := by
  have hl := hg.len
  refine ⟨fun n m τ U => m = kvs.length - n ∧ n ≤ kvs.length ∧ P n τ U ∧ Kr k G U, ⟨_, rfl, Nat.zero_le _, h0, Kr.refl⟩, ?_⟩
  rintro n m τ U ⟨rfl, hn, hp, kr⟩
  have haU : U a = some (.frz o (.dK kvs)) := kr.at hak ha
  by_cases hlt : n < kvs.length
  · refine .inr ⟨⟨haU, hlt⟩, fun τ' U' => P (n + 1) τ' U' ∧ Kr k G U', fun τ' U' z => ⟨kvs.length - (n + 1), by omega, rfl, hlt, z⟩, ?_⟩
    rintro x U' ⟨T, y, v, h1, rfl, hT, rfl⟩
    have hx : gs[n]? = some gs[n] := List.getElem?_eq_getElem (hl ▸ hlt)
    obtain ⟨p, h2, h3, h4⟩ := hg.get hx
    rw [h1] at h2
    cases h2
    have hpk : p ≠ k := fun z => by
      obtain ⟨u, hu⟩ := hk
      rw [z, hu] at h3; cases h3
    exact ⟨T, _, rfl, st_of upd_same, rfl, _, _, rfl, _, _, rfl, rfl, hs n _ p τ U hx hp kr hpk (kr.at hpk h4) T hT⟩
  · have e : n = kvs.length := by omega
    subst e
    exact .inl ⟨⟨haU, Nat.le_refl _⟩, hd τ U (hl ▸ hp) kr⟩
/-- [v(x) for x in a new list of ints] -/
theorem el_lcNI {K : PySem.W.Frag} {σ : L2.St} {H : Hp} {tl te : TE} {ns : List Int} {j : Nat} {vs : List Nat} (v : Int → V) (h : EvL tl σ H (ns.map V.int)) (hz : ns.length ≤ 40000) (hw : ∀ x, wipe ((wipe σ vs).set j (some x)) vs = wipe σ vs)
    (he : ∀ (x : Int) H1, Ex H H1 → x ∈ ns → Ev te ((wipe σ vs).set j (some (.int x))) H1 (v x)) : EvL (tLc (iList K tl) (gName j) tYes te vs) σ H (ns.map v) := by
  have z := el_lcNL (K := K) (t := tYes) (te := te) (j := j) (vs := vs) (fun _ => true) (fun i => v (ns.getD i 0)) h (by rw [List.length_map]; exact hz) hw (fun i x H1 _ _ => et_yes rfl) fun i x H1 e hi _ => by
    rw [List.getElem?_map] at hi
    obtain ⟨n, hn, rfl⟩ := Option.map_eq_some_iff.mp hi
    have e2 : ns.getD i 0 = n := by rw [List.getD_eq_getElem?_getD, hn]; rfl
    rw [e2]
    exact he n H1 e (List.mem_of_getElem? hn)
  rw [given_all, List.length_map, range_map v ns] at z
  exact z
section
variable {K : PySem.W.Frag} {σ : L2.St} {H : Hp} {Q : VK}
theorem f_callN {n m : Nat} {sp : Sp} {gV : List V → List V → List V} {E : XK} {ta tk : TA} (h : ta σ H fun vs H1 => tk σ H1 fun zs H2 => vs.length = n ∧ zs.length = m ∧ sp (gV vs zs) H2 Q E) : tCallN n m sp gV E ta tk σ H Q := h
/-- for x in a list, told as it comes -/
theorem f_forN {tl : TE} {g : TG} {tu : TS} {D : Ends} (h : tl σ H fun x H1 => ∃ a, x = .ref a ∧ (∃ xs, SqL K H1 a xs) ∧ ∃ W : Nat → Nat → L2.St → Hp → Prop, (∃ m, W 0 m σ H1) ∧ ∀ i m σ H, W i m σ H →
    ((Itl K a).stop i H ∧ D.nx σ H) ∨ ((Itl K a).go i H ∧ ∃ N : L2.St → Hp → Prop, (∀ σ' H', N σ' H' → ∃ m', m' < m ∧ W (i + 1) m' σ' H') ∧ ∀ x H', (Itl K a).yld i H x H' → g x σ H' fun σ2 H2 => tu { D with nx := N, ct := N, bk := D.nx } σ2 H2)) : tFor (iList K tl) g tu D σ H := h
end
section
variable {K : PySem.W.Frag} {w : World} {σ : L2.St} {H : Hp} {ta tb te tl : TE} {t tt : TT}
theorem eu_if {b : Bool} {xs : List V} (h : EvT t σ H b) (h1 : b = true → EvU ta σ H xs) (h2 : b = false → EvU tb σ H xs) : EvU (tIf t ta tb) σ H xs := fun H1 e Q q => h H1 e _ fun H2 e2 => by
  cases b with
  | true =>
    show ta σ H2 Q
    exact h1 rfl H2 (e.trans e2) Q fun p H3 np e3 h3 => q p H3 (fresh_back e2 np) (e2.trans e3) h3
  | false =>
    show tb σ H2 Q
    exact h2 rfl H2 (e.trans e2) Q fun p H3 np e3 h3 => q p H3 (fresh_back e2 np) (e2.trans e3) h3
theorem inV_ints (z : Int) : ∀ ks : List Int, inV (.int z) (ks.map V.int) = decide (z ∈ ks)
  | [] => by simp [inV]
  | k :: ks => by
    have ih := inV_ints z ks
    unfold inV at ih ⊢
    rw [List.map_cons, List.any_cons, ih]
    by_cases h : k = z
    · subst h
      rw [decide_eq_true (List.mem_cons_self ..)]
      have e : eqV (V.int k) (V.int k) = true := by simp [eqV]
      rw [e]; rfl
    · have e : eqV (V.int k) (V.int z) = false := by simp [eqV]; exact h
      rw [e, Bool.false_or]
      exact decide_eq_decide.mpr ⟨fun q => List.mem_cons_of_mem _ q, fun q => (List.mem_cons.mp q).elim (fun e => absurd e.symm h) id⟩
theorem flat_ints (ks : List Int) : (ks.map V.int).all flatV = true := by
  rw [List.all_map, List.all_eq_true]
  intro x _
  rfl
/-- sorted({f(x) for x in ns if φ(x)}) -/
theorem el_sortedScF {a : Addr} {ns : List Int} {j : Nat} {vs : List Nat} (φ : Int → Bool) (f : Int → Int) (h : Ev tl σ H (.ref a)) (hx : SqL K H a (ns.map V.int)) (hz : ns.length ≤ 1000) (hw : ∀ x, wipe ((wipe σ vs).set j (some x)) vs = wipe σ vs)
    (ht : ∀ (x : Int) (H1 : Hp), Ex H H1 → EvT tt ((wipe σ vs).set j (some (.int x))) H1 (φ x)) (he : ∀ (x : Int) (H1 : Hp), Ex H H1 → Ev te ((wipe σ vs).set j (some (.int x))) H1 (.int (f x))) : EvL (tCB (rSortedA w) (tCons (tScI w (iList K tl) (gName j) tt te vs) tNil)) σ H ((srt ((ns.filter φ).map f)).map V.int) := fun H1 e Q q =>
  h H1 e _ fun H2 e2 => ⟨a, rfl, ⟨_, ex_l (e.trans e2) hx⟩, fun D hD => by
    have hx2 := ex_l (e.trans e2) hx
    have z0 : (fun _ : Int => false) = fun y => decide (y ∈ ([] : List Int)) := by funext y; simp
    refine ⟨fun t m U => m = ns.length - t ∧ t ≤ ns.length ∧ Ex H2 U ∧ ∃ c, c ≤ t ∧ U D = some (SetO w D (fun y => decide (y ∈ ((ns.take t).filter φ).map f)) c), ⟨ns.length, rfl, Nat.zero_le _, Ex.new hD, 0, Nat.le_refl _, by rw [upd_same, z0]; rfl⟩, ?_⟩
    rintro t m U ⟨rfl, hlt', eU, c, hc, hU⟩
    have q2 := ex_l eU hx2
    have x2 := (e.trans e2).trans eU
    by_cases hlt : t < ns.length
    · have hat : (ns.map V.int)[t]? = some (.int ns[t]) := by rw [List.getElem?_map, List.getElem?_eq_getElem hlt]; rfl
      have htk : ns.take (t + 1) = ns.take t ++ [ns[t]] := by rw [List.take_add_one, List.getElem?_eq_getElem hlt]; rfl
      refine .inr ⟨⟨_, _, q2, hat⟩, fun U' => Ex H2 U' ∧ ∃ c, c ≤ t + 1 ∧ U' D = some (SetO w D (fun y => decide (y ∈ ((ns.take (t + 1)).filter φ).map f)) c), fun U' z => ⟨ns.length - (t + 1), by omega, rfl, hlt, z⟩, fun x U' y => ?_⟩
      obtain ⟨rfl, y⟩ := y
      have ex : x = .int ns[t] := Option.some.inj ((y _ q2).symm.trans hat)
      subst ex
      refine ⟨hw _, ht _ _ x2 _ (Ex.refl _) _ fun U3 e3 => ?_⟩
      rw [htk, List.filter_append, List.map_append]
      cases hφ : φ ns[t] with
      | true =>
        rw [if_pos rfl, List.filter_cons_of_pos hφ]
        refine f_ev (he _ _ (x2.trans e3)) fun U4 e4 => ⟨f ns[t], _, c, rfl, e4 _ _ (e3 _ _ hU), Nat.lt_of_le_of_lt (show c + 1 ≤ 1001 by omega) (by decide), fun b o g => ?_, ?_⟩
        · rw [upd_ne (ne_of_none g hD)]; exact e4 _ _ (e3 _ _ (eU _ _ g))
        · refine ⟨_, ?_, by rw [upd_same]; congr 2; funext y; simp only [List.filter_nil, List.map_cons, List.map_nil, List.mem_append, List.mem_singleton, Bool.decide_or]⟩
          split <;> omega
      | false =>
        rw [if_neg (fun z => nomatch z), List.filter_cons_of_neg (by rw [hφ]; decide)]
        refine ⟨fun b o g => e3 _ _ (eU _ _ g), c, by omega, ?_⟩
        rw [e3 _ _ hU, List.filter_nil, List.map_nil, List.append_nil]
    · have et : t = ns.length := by omega
      subst et
      rw [List.take_length] at hU
      refine .inl ⟨⟨_, q2, by rw [List.length_map]; exact Nat.le_refl _⟩, f_nil ⟨D, _, c, rfl, hU, by omega, fun ks p k1 k2 k3 hp => ?_⟩⟩
      have e3 : ks = srt ((ns.filter φ).map f) := asc_uniq k1 (pw_srt _) fun k => by rw [k2 k, mem_srt]; simp
      subst e3
      exact q p _ (fresh_back (e2.trans eU) hp) ((e2.trans eU).trans (Ex.new hp)) upd_same⟩
end
/-- what a dict of groups holds at a key -/
theorem GAt.at_ {H0 H : Hp} {r : Int} : ∀ {kvs : List (Key × V)} {gs : List (Int × List Int)}, GAt H0 H kvs gs → (valV kvs (.inl r : Key) = none ∧ r ∉ gs.map Prod.fst) ∨ ∃ p l, valV kvs (.inl r : Key) = some (.ref p) ∧ H p = some (.lst (l.map V.int)) ∧ gs.find? (fun x => decide (x.1 = r)) = some (r, l)
  | _, _, .nil => .inl ⟨valV_nil, by simp⟩
  | _, _, .cons (k := j) (p := p) (l := l) n h d t => by
    by_cases e : j = r
    · subst e
      exact .inr ⟨p, l, valV_pos rfl, h, by rw [List.find?_cons_of_pos (by simp)]⟩
    · have e1 : ¬ (Sum.inl j : Key) = Sum.inl r := fun z => e (Sum.inl.inj z)
      rcases t.at_ (r := r) with ⟨a, b⟩ | ⟨p', l', a, b, c⟩
      · exact .inl ⟨by rw [valV_neg e1]; exact a, by rw [List.map_cons, List.mem_cons]; exact fun z => z.elim (fun q => e q.symm) b⟩
      · exact .inr ⟨p', l', by rw [valV_neg e1]; exact a, b, by rw [List.find?_cons_of_neg (by simp [e])]; exact c⟩
section
variable {K : PySem.W.Frag} {σ : L2.St} {H : Hp} {ta tb : TE}
/-- a list of a name, and a new one behind it -/
theorem el_catV {a : Addr} {xs ys : List V} (h : Ev ta σ H (.ref a)) (hs : H a = some (.lst xs)) (hb : EvL tb σ H ys) (hz : xs.length + ys.length ≤ 100000) : EvL (tOp rCat ta tb) σ H (xs ++ ys) := fun H1 e Q q =>
  h H1 e _ fun H2 e2 => hb H2 (e.trans e2) _ fun r H3 _ e3 h3 => ⟨a, r, xs, ys, rfl, rfl, ((e.trans e2).trans e3) _ _ hs, h3, sz_of hz, fun l hl => q l _ (fresh_back (e2.trans e3) hl) ((e2.trans e3).trans (Ex.new hl)) upd_same⟩
theorem el_catVV {a b : Addr} {xs ys : List V} (h : Ev ta σ H (.ref a)) (hs : H a = some (.lst xs)) (h2 : Ev tb σ H (.ref b)) (hs2 : H b = some (.lst ys)) (hz : xs.length + ys.length ≤ 100000) : EvL (tOp rCat ta tb) σ H (xs ++ ys) := fun H1 e Q q =>
  h H1 e _ fun H2 e2 => h2 H2 (e.trans e2) _ fun H3 e3 => ⟨a, b, xs, ys, rfl, rfl, ((e.trans e2).trans e3) _ _ hs, ((e.trans e2).trans e3) _ _ hs2, sz_of hz, fun l hl => q l _ (fresh_back (e2.trans e3) hl) ((e2.trans e3).trans (Ex.new hl)) upd_same⟩
/-- a list's truth -/
theorem et_truL {a : Addr} {xs : List V} (h : Ev ta σ H (.ref a)) (hs : SqL K H a xs) : EvT (fun σ H Q => ta σ H fun x H' => ∃ k, TruV K x H' k ∧ Q k H') σ H (!xs.isEmpty) := fun H1 e Q q =>
  h H1 e _ fun H2 e2 => ⟨!xs.isEmpty, .inl ⟨xs, ex_l (e.trans e2) hs, rfl⟩, q H2 e2⟩
theorem ev_sumV {a : Addr} {ks : List Int} (h : Ev ta σ H (.ref a)) (hs : SqL K H a (ks.map V.int)) : Ev (tCB (rSum K) (tCons ta tNil)) σ H (.int ks.sum) := ev_cb (ea_cons h ea_nil) fun H2 e2 Q' q' => ⟨a, ks, rfl, ex_l e2 hs, q' H2 (Ex.refl H2)⟩
end
/-! ### repr of a bool, of an int -/
section
variable {X : Cx}
def rReprB : List V → Hp → VK → Prop := fun xs H Q => ∃ b : Bool, xs = [.bl b] ∧ Q (.str (if b then "True" else "False")) H
theorem cr_reprB : CallR X (.builtin "repr") rReprB := by
  intro pins s σ H xs us Q I r h
  obtain ⟨b, rfl, q⟩ := h
  obtain ⟨u, rfl, rfl⟩ := vals1 r
  exact PySem.P.repr_of_bool ⟨.str _, H, I.tok _, ⟨_, rfl⟩, q⟩
def rReprI : List V → Hp → VK → Prop := fun xs H Q => ∃ i : Int, xs = [.int i] ∧ i.natAbs.log2 < 1920 ∧ Q (.str (toString i)) H
theorem cr_reprI : CallR X (.builtin "repr") rReprI := by
  intro pins s σ H xs us Q I r h
  obtain ⟨i, rfl, hz, q⟩ := h
  obtain ⟨u, rfl, t, rfl⟩ := vals1 r
  exact PySem.P.repr_of_int hz ⟨.str _, H, I.tok _, ⟨_, rfl⟩, q⟩
end
section
variable {σ : L2.St} {H : Hp} {te : TE}
theorem ev_reprB {b : Bool} (h : Ev te σ H (.bl b)) : Ev (tCB rReprB (tCons te tNil)) σ H (.str (if b then "True" else "False")) := ev_cb (ea_cons h ea_nil) fun H2 e2 Q' q' => ⟨b, rfl, q' H2 (Ex.refl H2)⟩
theorem ev_reprI {i : Int} (h : Ev te σ H (.int i)) (hi : i.natAbs.log2 < 1920) : Ev (tCB rReprI (tCons te tNil)) σ H (.str (toString i)) := ev_cb (ea_cons h ea_nil) fun H2 e2 Q' q' => ⟨i, rfl, hi, q' H2 (Ex.refl H2)⟩
end
end Mc
namespace Mc
open PySem L2 Evl TL
/-! ### words of numbers: how they are written -/
/-- the signs of an int -/
def intL (k : Int) : List Nat := (if k < 0 then [45] else []) ++ numL k.natAbs
theorem tl_int (k : Int) : tl (Str.ofString (toString k)) = intL k := by
  unfold intL
  by_cases h : k < 0
  · rw [if_pos h, tl_ofString]
    obtain ⟨m, rfl⟩ := Int.eq_negSucc_of_lt_zero h
    show (String.append "-" (Nat.repr (m + 1))).toList.map Char.toNat = _
    rw [show (String.append "-" (Nat.repr (m + 1))).toList = '-' :: (Nat.repr (m + 1)).toList from String.toList_append, Nat.toList_repr]
    rfl
  · obtain ⟨m, rfl⟩ := Int.eq_ofNat_of_zero_le (Int.not_lt.mp h)
    rw [if_neg h]
    exact tl_num m
theorem numL_head : ∀ (n : Nat), 0 < n → ∃ c r, numL n = c :: r ∧ c ≠ 48 := by
  intro n
  induction n using Nat.strongRecOn with
  | _ n ih =>
    intro h0
    by_cases h : n < 10
    · exact ⟨48 + n, [], numL_lt h, by omega⟩
    · obtain ⟨c, r, e, hc⟩ := ih (n / 10) (by omega) (by omega)
      exact ⟨c, r ++ [48 + n % 10], by rw [numL_step (by omega), e]; rfl, hc⟩
/-- a word of a list of steps -/
def plusL (k : Int) : List Nat := if k = 0 then [48] else (if k < 0 then [45] else [43]) ++ numL k.natAbs
theorem len_le_of {k : Int} {n : Nat} (hn : 0 < n) (h : k.natAbs < 10 ^ n) : (numL k.natAbs).length ≤ n := numL_len hn h
/-! ### words of numbers: how they are read -/
/-- a positive number of at most sixty digits -/
def posL (l : List Nat) : Bool := decide (l.length ≤ 60) && !(l.head? == some 48) && decide (0 < l.length) && l.all fun c => decide (48 ≤ c) && decide (c ≤ 57)
theorem digit_sign : ∀ c : Nat, c < 128 → Unicode.isDigit c = (decide (48 ≤ c) && decide (c ≤ 57)) := by decide +kernel
theorem sw_one {x y : Str} {c : Nat} (ey : tl y = [c]) : Txt.startswith x y = ((tl x).head? == some c) := by
  have hy : tl y ≠ [] := by rw [ey]; simp
  have hl : y.length = 1 := by rw [len_tl, ey]; rfl
  have hx := len_tl x
  unfold Txt.startswith
  rw [StrLaws.subAt_eq, show y.cps.toList = [c] from ey, hl, List.drop_zero]
  show (decide (0 + 1 ≤ x.length) && (List.take 1 (tl x) == [c])) = _
  cases e : tl x with
  | nil =>
    rw [e] at hx
    rw [hx]; rfl
  | cons d r =>
    rw [e] at hx
    rw [show decide (0 + 1 ≤ x.length) = true from decide_eq_true (by rw [hx, List.length_cons]; omega), Bool.true_and]
    show ([d] == [c]) = (some d == some c)
    by_cases h : d = c
    · subst h; simp
    · rw [show ([d] == [c]) = false from by simpa using h, show (some d == some c) = false from by simpa using h]
theorem sw_nil {x y : Str} (ey : tl y = []) : Txt.startswith x y = true := by
  have hl : y.length = 0 := by rw [len_tl, ey]; rfl
  unfold Txt.startswith
  rw [StrLaws.subAt_eq, show y.cps.toList = [] from ey, hl]
  simp
theorem tl_cut {x : Str} {n : Nat} : tl (cutS x (some (n : Int)) none) = (tl x).drop n := by
  show (((x.cps.toList.drop (HT.sIx x.length 0 (some (n : Int)))).take (HT.sIx x.length x.length none - HT.sIx x.length 0 (some (n : Int)))).toArray).toList = _
  rw [HT.sIx_none, HT.sIx_nat]
  have hx : x.length = (tl x).length := len_tl x
  show ((tl x).drop (min n x.length)).take (x.length - min n x.length) = _
  rw [hx, List.take_of_length_le (by rw [List.length_drop]; exact Nat.le_refl _)]
  rcases Nat.le_total n (tl x).length with h | h
  · rw [Nat.min_eq_left h]
  · rw [Nat.min_eq_right h, List.drop_length, List.drop_eq_nil_of_le h]
theorem pos_is (d : Str) : (if (decide ((d.length : Int) > 60) || Txt.startswith d "0") = true then false else (Txt.isascii d && Txt.isdigit d)) = posL (tl d) := by
  have hl := len_tl d
  rw [sw_one (y := "0") (c := 48) (by decide +kernel)]
  unfold posL Txt.isascii Txt.isdigit
  rw [← Array.all_toList, ← Array.all_toList, show d.cps.toList = tl d from rfl, hl]
  by_cases h1 : (tl d).length ≤ 60
  · rw [show decide (((tl d).length : Int) > 60) = false from decide_eq_false (by omega), decide_eq_true h1, Bool.false_or, Bool.true_and]
    cases h2 : (tl d).head? == some 48 with
    | true => rfl
    | false =>
      rw [if_neg (fun z => nomatch z), Bool.not_false, Bool.true_and]
      have key : ∀ l : List Nat, (l.all (fun c => decide (c < 128)) && l.all Unicode.isDigit) = l.all fun c => decide (48 ≤ c) && decide (c ≤ 57) := fun l => by
        induction l with
        | nil => rfl
        | cons c r ih =>
          rw [List.all_cons, List.all_cons, List.all_cons, ← ih]
          by_cases hc : c < 128
          · rw [decide_eq_true hc, digit_sign c hc]
            cases (decide (48 ≤ c) && decide (c ≤ 57)) <;> cases r.all (fun c => decide (c < 128)) <;> rfl
          · rw [decide_eq_false hc, show decide (c ≤ 57) = false from decide_eq_false (by omega)]
            simp
      rw [← key]
      cases (tl d).all (fun c => decide (c < 128)) <;> cases (tl d).all Unicode.isDigit <;> simp
  · rw [show decide (((tl d).length : Int) > 60) = true from decide_eq_true (by omega), decide_eq_false h1]
    rfl
/-- the integer of a word, in which positive ones begin with this sign -/
def readL (w p : List Nat) : Option Int :=
  if w = [48] then some 0 else
  if w.head? = some 45 then (if posL w.tail = true then some (-(NumText.digitsVal w.tail : Nat)) else none) else
  if p = [] then (if posL w = true then some (NumText.digitsVal w : Nat) else none) else
  if w.head? = p.head? then (if posL (w.drop 1) = true then some (NumText.digitsVal (w.drop 1) : Nat) else none) else none
theorem posL_digits {l : List Nat} (h : posL l = true) : NumText.AllDigits l ∧ l ≠ [] ∧ l.length ≤ 60 := by
  unfold posL at h
  simp only [Bool.and_eq_true, decide_eq_true_eq, List.all_eq_true] at h
  obtain ⟨⟨⟨h1, h2⟩, h3⟩, h4⟩ := h
  exact ⟨fun c hc => h4 c hc, List.length_pos_iff.mp h3, h1⟩
theorem posL_int {d : Str} (h : posL (tl d) = true) : PySem.intText? d = some ((NumText.digitsVal (tl d) : Nat) : Int) ∧ d.length ≤ 640 := by
  obtain ⟨a, b, c⟩ := posL_digits h
  have hl := len_tl d
  exact ⟨intText_digits a b (by omega), by omega⟩
theorem posL_num {n : Nat} (h0 : 0 < n) (h : n < 10 ^ 60) : posL (numL n) = true := by
  obtain ⟨c, r, e, hc⟩ := numL_head n h0
  have hd := numL_digits n
  have hl := numL_len (n := n) (k := 60) (by decide) h
  unfold posL
  simp only [Bool.and_eq_true, decide_eq_true_eq, List.all_eq_true]
  refine ⟨⟨⟨hl, ?_⟩, ?_⟩, fun c hc => hd c hc⟩
  · rw [e]; simpa using hc
  · rw [e]; simp
/-- what is written is read -/
theorem read_neg {l p : List Nat} : readL (45 :: l) p = if posL l = true then some (-((NumText.digitsVal l : Nat) : Int)) else none := by
  unfold readL
  rw [if_neg (show ¬ (45 :: l) = [48] by simp), if_pos (show (45 :: l).head? = some 45 from rfl)]; rfl
theorem read_pos {l : List Nat} : readL (43 :: l) [43] = if posL l = true then some ((NumText.digitsVal l : Nat) : Int) else none := by
  unfold readL
  rw [if_neg (show ¬ (43 :: l) = [48] by simp), if_neg (show ¬ (43 :: l).head? = some 45 by simp), if_neg (show ¬ ([43] : List Nat) = [] by simp), if_pos (show (43 :: l).head? = [43].head? from rfl)]; rfl
theorem read_plain {l : List Nat} (h0 : l ≠ [48]) (h1 : l.head? ≠ some 45) : readL l [] = if posL l = true then some ((NumText.digitsVal l : Nat) : Int) else none := by
  unfold readL
  rw [if_neg h0, if_neg h1, if_pos rfl]
theorem nat_neg {k : Int} (h : k < 0) : -((k.natAbs : Nat) : Int) = k := by omega
theorem nat_pos {k : Int} (h : ¬ k < 0) : ((k.natAbs : Nat) : Int) = k := by omega
theorem read_plus {k : Int} (h : k.natAbs < 10 ^ 60) : readL (plusL k) [43] = some k := by
  unfold plusL
  by_cases h0 : k = 0
  · subst h0; rfl
  rw [if_neg h0]
  have hz := posL_num (show 0 < k.natAbs by omega) h
  have hv := numL_val k.natAbs
  by_cases hn : k < 0
  · rw [if_pos hn]
    show readL (45 :: numL k.natAbs) [43] = _
    rw [read_neg, if_pos hz, hv, nat_neg hn]
  · rw [if_neg hn]
    show readL (43 :: numL k.natAbs) [43] = _
    rw [read_pos, if_pos hz, hv, nat_pos hn]
theorem read_int {k : Int} (h : k.natAbs < 10 ^ 60) : readL (intL k) [] = some k := by
  unfold intL
  by_cases h0 : k = 0
  · subst h0; rfl
  have hp : 0 < k.natAbs := by omega
  have hz := posL_num hp h
  have hv := numL_val k.natAbs
  by_cases hn : k < 0
  · rw [if_pos hn]
    show readL (45 :: numL k.natAbs) [] = _
    rw [read_neg, if_pos hz, hv, nat_neg hn]
  · rw [if_neg hn, List.nil_append]
    obtain ⟨c, r, e, hc⟩ := numL_head _ hp
    have hd := numL_digits k.natAbs c (by rw [e]; exact List.mem_cons_self ..)
    rw [read_plain (by rw [e]; intro z; exact hc (List.cons.inj z).1) (by rw [e]; intro z; have := Option.some.inj z; omega), if_pos hz, hv, nat_pos hn]
/-! ### f"{k:+d}" -/
end Mc
namespace Mc
open PySem PySem.Builtin PySem.Builtin.Float L2 Evl TL PyProof.Rows
def signedL (k : Int) : List Nat := (if k < 0 then [45] else [43]) ++ numL k.natAbs
def signedText (k : Int) : Str := ⟨(signedL k).toArray⟩
/-- what the spec +d says -/
def plusF : FormatSpec := { fill := 32, align := 62, sign := some 43, type := some 100 }
theorem plus_read : ∀ name, parseFormatSpec (Str.ofString "+d").cps.toList name 62 = .ok plusF := fun name => by
  rfl
theorem plus_text (neg : Bool) {ds : List Nat} (h : ds ≠ []) : intField' plusF neg [] ds [] 3 = ⟨((if neg = true then [45] else [43]) ++ ds).toArray⟩ := by
  have he : ds.isEmpty = false := by cases ds with | nil => exact absurd rfl h | cons _ _ => rfl
  have z : ((-1 : Int) - ((1 : Nat) + (0 : Nat) + (0 : Nat)) - (ds.length : Nat)).toNat = 0 := by omega
  cases neg <;> (unfold intField' plusF; simp [he, z])
theorem numL_log {i : Int} (h : i.natAbs.log2 < 1920) : (numL i.natAbs).length ≤ 1000 := numL_len (by decide) (Nat.lt_of_lt_of_le (Nat.lt_of_lt_of_le (Nat.lt_log2_self) (Nat.pow_le_pow_right (by decide) h)) (by decide +kernel))
section
variable {M : Model} {A : Around} {E : Value → Shared → Prop} {s : Shared} {α : Type} {Q : α → Shared → Prop} {c : Prop} [Decidable c] {a b : Sem α}
theorem wp_no (hc : ¬ c) (h : wpAny M A b Q E s) : wpAny M A (if c then a else b) Q E s := by rw [if_neg hc]; exact h
theorem wp_yes (hc : c) (h : wpAny M A a Q E s) : wpAny M A (if c then a else b) Q E s := by rw [if_pos hc]; exact h
end
theorem plus_meets (i : Int) (t : Tok) (hz : i.natAbs.log2 < 1920) : ∀ u, Meets (Builtin.«int.__format__» ⟨[.int i t, .str (Str.ofString "+d") u], []⟩) (fun _ R s => ∀ t' k, R (.ok (.ret (.str (signedText i) t'))) { s with toks := k }) := by
  intro u
  refine PySem.W.KPc.meets_of fun prog w A s Q E done => ?_
  unfold Builtin.«int.__format__»
  refine wpAny_bind (wpAny_of_eq (a := (_, _)) rfl ?_)
  refine wpAny_bind (wpAny_of_eq (a := _) rfl ?_)
  refine wpAny_ite (PySem.W.KPc.ite_no (fun z => Bool.false_ne_true z) ?_)
  refine wpAny_bind (wpAny_typeNameOf (T := "str") (typeIs_str _ _ _) (by decide) fun _ => ?_)
  refine wpAny_bind (wpAny_of_eq (a := some _) rfl ?_)
  refine wpAny_ite (PySem.W.KPc.ite_no (by decide +kernel) ?_)
  refine wpAny_ite (PySem.W.KPc.ite_no (fun z => Bool.false_ne_true z) ?_)
  refine wpAny_bind (wpAny_typeNameOfCut_int ?_)
  rw [plus_read]
  show wpAny _ _ (if _ then _ else _) _ _ _
  refine wp_yes (by decide +kernel) ?_
  show wpAny _ _ (overDigitLimit? i >>= _) _ _ _
  refine wpAny_bind (wpAny_of_eq (PyProof.Rows.overDigitLimit_small hz) ?_)
  have hd : (Nat.toDigits 10 i.natAbs).map (fun c => (if ((100 : Nat) == 88) = true then c.toUpper else c).toNat) = numL i.natAbs := rfl
  refine PySem.W.KXf.ret_text (T := signedText i) ?_ ?_ done
  · show intField' plusF (decide (i < 0)) [] (numL i.natAbs) [] 3 = signedText i
    rw [plus_text _ (numL_ne _)]
    unfold signedText signedL
    by_cases h : i < 0
    · rw [decide_eq_true h, if_pos rfl, if_pos h]
    · rw [decide_eq_false h, if_neg (fun z => nomatch z), if_neg h]
  · show (intField' plusF (decide (i < 0)) [] (numL i.natAbs) [] 3).length ≤ sizeLine
    rw [plus_text _ (numL_ne _)]
    have e := numL_log hz
    show (((if decide (i < 0) = true then [45] else [43]) ++ numL i.natAbs).toArray).size ≤ sizeLine
    rw [List.size_toArray, List.length_append, sizeLine_eq]
    split <;> (simp; omega)
section
variable {X : Cx}
/-- {k:+d}, of an int -/
def tFmtP (te : TE) : TE := fun σ H Q => te σ H fun x H1 => ∃ i : Int, x = .int i ∧ i.natAbs.log2 < 1920 ∧ Q (.str (signedText i)) H1
theorem pe_fmtP {e : Expr} {te : TE} {p1 p2 p3 : Pos} (he : PE X e te) : PE X (.FormattedValue e (-1) (some (.JoinedStr [.Constant (.str "+d") 0 p1] p2)) p3) (tFmtP te) := by
  refine ⟨fun pins s σ H Q I h => wpAny_FormattedValue_spec (thn (he.run pins s σ H _ I h) fun v s1 ⟨x, H1, I1, r1, i, ex, hz, q⟩ => ?_)⟩
  subst ex
  obtain ⟨t, rfl⟩ := r1
  refine thn ((pe_joined1 (pos := p2) (pe_str (X := X) (x := "+d") (j := 0) (pos := p1))).run pins s1 σ H1 (fun y H2 => y = .str "+d" ∧ H2 = H1) I1 ⟨rfl, rfl⟩) fun u s2 ⟨y, H2, I2, r2, ey, eH⟩ => ?_
  subst ey
  subst eH
  obtain ⟨t2, rfl⟩ := r2
  exact ⟨_, t2, rfl, PySem.W.KXf.field_int rfl (by decide) (by decide) (plus_meets i t hz) fun t' k => ⟨.str (signedText i), H2, I2.tok k, ⟨t', rfl⟩, q⟩⟩
end
end Mc
namespace Mc
open PySem L2 Evl TL
/-! ### readings of texts -/
section
variable {K : PySem.W.Frag} {σ : L2.St} {H : Hp} {Q : VK} {te to ta tb tk : TE}
abbrev rSw : V → List V → Hp → VK → Prop := fun x xs H Q => ∃ a b, x = .str a ∧ xs = [.str b] ∧ Q (.bl (Txt.startswith a b)) H
theorem ev_sw {a b : Str} (h : Ev to σ H (.str a)) (hb : Ev te σ H (.str b)) : Ev (tM1 rSw to te) σ H (.bl (Txt.startswith a b)) := fun H1 e Q q =>
  h H1 e _ fun H2 e2 => ⟨⟨a, rfl⟩, hb H2 (e.trans e2) _ fun H3 e3 => ⟨a, b, rfl, rfl, q H3 (e2.trans e3)⟩⟩
theorem ev_m0 {a : Str} {g : Str → Bool} (h : Ev to σ H (.str a)) : Ev (tM0 (fun x xs H Q => ∃ a, x = .str a ∧ xs = [] ∧ True ∧ Q (.bl (g a)) H) to) σ H (.bl (g a)) := fun H1 e Q q =>
  h H1 e _ fun H2 e2 => ⟨⟨a, rfl⟩, a, rfl, rfl, trivial, q H2 e2⟩
theorem ev_lenT {a : Str} (h : Ev te σ H (.str a)) (hz : a.length ≤ 1000000) : Ev (tCB (fun xs H Q => ∃ z, xs = [.str z] ∧ z.length ≤ sizeLine ∧ Q (.int z.length) H) (tCons te tNil)) σ H (.int (a.length : Int)) :=
  ev_cb (ea_cons h ea_nil) fun H2 e2 Q' q' => ⟨a, rfl, Nat.le_trans hz (by decide), q' H2 (Ex.refl H2)⟩
theorem ev_from {a : Str} {n : Int} (h : Ev te σ H (.str a)) (hn : Ev tk σ H (.int n)) (hz : a.length ≤ 1000000) : Ev (tSl rSlS te (tPart tk) tNoPart) σ H (.str (cutS a (some n) none)) := fun H1 e Q q =>
  h H1 e _ fun H2 e2 => eo_some hn H2 (e.trans e2) _ fun H3 e3 => eo_none H3 ((e.trans e2).trans e3) _ fun H4 e4 => ⟨a, rfl, Nat.le_trans hz (by decide), q H4 ((e2.trans e3).trans e4)⟩
theorem ev_intT {a : Str} {n : Int} (h : Ev te σ H (.str a)) (hn : PySem.intText? a = some n) (hz : a.length ≤ 640) : Ev (tCB (fun xs H Q => ∃ a n, xs = [.str a] ∧ PySem.intText? a = some n ∧ a.length ≤ 640 ∧ Q (.int n) H) (tCons te tNil)) σ H (.int n) :=
  ev_cb (ea_cons h ea_nil) fun H2 e2 Q' q' => ⟨a, n, rfl, hn, hz, q' H2 (Ex.refl H2)⟩
abbrev rAddS : R2 := fun x y H Q => ∃ i j : Str, x = .str i ∧ y = .str j ∧ i.length + j.length ≤ sizeLine ∧ Q (.str (i ++ j)) H
theorem ev_addS {a b : Str} (h : Ev ta σ H (.str a)) (hb : Ev tb σ H (.str b)) (hz : a.length + b.length ≤ 1000000) : Ev (tOp rAddS ta tb) σ H (.str (a ++ b)) :=
  ev_op h hb fun H1 _ Q q => ⟨_, _, rfl, rfl, Nat.le_trans hz (by decide), q H1 (Ex.refl H1)⟩
theorem ev_strI {i : Int} (h : Ev te σ H (.int i)) (hi : i.natAbs ≤ 10 ^ 100) : Ev (tCB (fun xs H Q => ∃ i : Int, xs = [.int i] ∧ i.natAbs.log2 < 1920 ∧ Q (.str (toString i)) H) (tCons te tNil)) σ H (.str (Str.ofString (toString i))) :=
  ev_cb (ea_cons h ea_nil) fun H2 e2 Q' q' => ⟨i, rfl, Nat.lt_of_lt_of_le (log_le hi) (by decide), q' H2 (Ex.refl H2)⟩
theorem rv_eqT2 {x y : Str} : RV rEq (.str x) (.str y) H (.bl (decide (x = y))) := fun H1 _ _ q => ⟨rfl, by
  have e : decide (V.str x = V.str y) = decide (x = y) := by
    by_cases h : x = y
    · subst h; simp
    · rw [decide_eq_false h, decide_eq_false (fun e => h (V.str.inj e))]
  rw [e]; exact q H1 (Ex.refl H1)⟩
theorem ev_fmtI {i : Int} (h : Ev te σ H (.int i)) (hi : i.natAbs ≤ 10 ^ 100) : Ev (tFmt te) σ H (.str (Str.ofString (toString i))) := fun H1 e Q q =>
  h H1 e _ fun H2 e2 => .inr ⟨i, rfl, Nat.lt_of_lt_of_le (log_le hi) (by decide), q H2 e2⟩
theorem ev_fmtP {i : Int} (h : Ev te σ H (.int i)) (hi : i.natAbs ≤ 10 ^ 100) : Ev (tFmtP te) σ H (.str (signedText i)) := fun H1 e Q q =>
  h H1 e _ fun H2 e2 => ⟨i, rfl, Nat.lt_of_lt_of_le (log_le hi) (by decide), q H2 e2⟩
theorem ev_if' {b : Bool} {v1 v2 : V} {t : TT} (h : EvT t σ H b) (h1 : b = true → Ev ta σ H v1) (h2 : b = false → Ev tb σ H v2) : Ev (tIf t ta tb) σ H (if b = true then v1 else v2) := by
  refine ev_if h (fun e => ?_) (fun e => ?_)
  · subst e; exact h1 rfl
  · subst e; exact h2 rfl
/-- a new list of texts, split -/
theorem el_split {a b : Str} (h : Ev to σ H (.str a)) (hb : Ev te σ H (.str b)) (hn : (b.length == 0) = false) (hz : a.length ≤ 1000000) :
    EvL (tM1 (fun x xs H Q => ∃ a b, x = .str a ∧ xs = [.str b] ∧ (b.length == 0) = false ∧ a.length + 2 ≤ sizeLine ∧ rNewStrs (Txt.split a b) H Q) to te) σ H ((Txt.split a b).map V.str) := fun H1 e Q q =>
  h H1 e _ fun H2 e2 => ⟨⟨a, rfl⟩, hb H2 (e.trans e2) _ fun H3 e3 => ⟨a, b, rfl, rfl, hn, Nat.le_trans (Nat.add_le_add_right hz 2) (by decide), fun p hp => q p _ (fresh_back (e2.trans e3) hp) ((e2.trans e3).trans (Ex.new hp)) upd_same⟩⟩
/-- joined -/
theorem ev_joinV {a : Str} {p : Addr} {ys : List Str} (h : Ev to σ H (.str a)) (hp : Ev te σ H (.ref p)) (hs : SqL K H p (ys.map V.str)) (hz : (ys.map (·.length)).sum + ys.length * a.length ≤ 1000000) :
    Ev (tM1 (fun x xs H Q => ∃ a p, ∃ ys : List Str, x = .str a ∧ xs = [.ref p] ∧ (SqL K H p (ys.map V.str) ∨ SqT K H p (ys.map V.str)) ∧ (ys.map (·.length)).sum + ys.length * a.length ≤ 16777216 ∧ Q (.str (Txt.join a ys)) H) to te) σ H (.str (Txt.join a ys)) := fun H1 e Q q =>
  h H1 e _ fun H2 e2 => ⟨⟨a, rfl⟩, hp H2 (e.trans e2) _ fun H3 e3 => ⟨a, p, ys, rfl, rfl, .inl (ex_l ((e.trans e2).trans e3) hs), Nat.le_trans hz (by decide), q H3 (e2.trans e3)⟩⟩
theorem ev_joinL {a : Str} {ys : List Str} (h : Ev to σ H (.str a)) (hp : EvL te σ H (ys.map V.str)) (hz : (ys.map (·.length)).sum + ys.length * a.length ≤ 1000000) :
    Ev (tM1 (fun x xs H Q => ∃ a p, ∃ ys : List Str, x = .str a ∧ xs = [.ref p] ∧ (SqL K H p (ys.map V.str) ∨ SqT K H p (ys.map V.str)) ∧ (ys.map (·.length)).sum + ys.length * a.length ≤ 16777216 ∧ Q (.str (Txt.join a ys)) H) to te) σ H (.str (Txt.join a ys)) := fun H1 e Q q =>
  h H1 e _ fun H2 e2 => ⟨⟨a, rfl⟩, hp H2 (e.trans e2) _ fun p H3 _ e3 h3 => ⟨a, p, ys, rfl, rfl, .inl (sq_of h3), Nat.le_trans hz (by decide), q H3 (e2.trans e3)⟩⟩
/-- [f(z) for z in a list of texts] -/
theorem el_lcS {tl : TE} {zs : List Str} {j : Nat} {vs : List Nat} (v : Str → V) (h : EvL tl σ H (zs.map V.str)) (hz : zs.length ≤ 40000) (hw : ∀ x, wipe ((wipe σ vs).set j (some x)) vs = wipe σ vs)
    (he : ∀ (z : Str) H1, Ex H H1 → z ∈ zs → Ev te ((wipe σ vs).set j (some (.str z))) H1 (v z)) : EvL (tLc (iList K tl) (gName j) tYes te vs) σ H (zs.map v) := by
  have z := el_lcNL (K := K) (t := tYes) (te := te) (j := j) (vs := vs) (fun _ => true) (fun i => v (zs.getD i Str.empty)) h (by rw [List.length_map]; exact hz) hw (fun i x H1 _ _ => et_yes rfl) fun i x H1 e hi _ => by
    rw [List.getElem?_map] at hi
    obtain ⟨n, hn, rfl⟩ := Option.map_eq_some_iff.mp hi
    have e2 : zs.getD i Str.empty = n := by rw [List.getD_eq_getElem?_getD, hn]; rfl
    rw [e2]
    exact he n H1 e (List.mem_of_getElem? hn)
  rw [given_all, List.length_map] at z
  have e3 : (List.range zs.length).map (fun i => v (zs.getD i Str.empty)) = zs.map v := by
    refine List.ext_getElem (by simp) fun i h1 h2 => ?_
    simp at h1 h2
    simp [List.getElem?_eq_getElem h1]
  rw [e3] at z
  exact z
end
/-- None, or an int -/
def oV : Option Int → V
  | none => .non
  | some k => .int k
theorem inV_none (os : List (Option Int)) : inV .non (os.map oV) = os.any Option.isNone := by
  induction os with
  | nil => rfl
  | cons o os ih =>
    unfold inV at ih ⊢
    rw [List.map_cons, List.any_cons, ih, List.any_cons]
    cases o <;> rfl
theorem flat_oV (os : List (Option Int)) : (os.map oV).all flatV = true := by
  rw [List.all_map, List.all_eq_true]
  intro x _
  cases x <;> rfl
theorem sv_Hk {D : Hp → List V → V → Prop} {H : Hp} {vs : List V} {z : V} (h : ∀ H1, Ex H H1 → D H1 vs z) : SpV (spH D) vs H z := fun H1 e Q q E => ⟨z, h H1 e, q⟩
theorem eu_tupleL {K : PySem.W.Frag} {σ : L2.St} {H : Hp} {te : TE} {xs : List V} (h : EvL te σ H xs) : EvU (tCB (fun xs H Q => ∃ p ys, xs = [.ref p] ∧ ((SqL K H p ys ∧ ∀ l, H l = none → Q (.ref l) (upd H l (.tup ys))) ∨ (SqT K H p ys ∧ Q (.ref p) H))) (tCons te tNil)) σ H xs := fun H1 e Q q =>
  h H1 e _ fun p H2 _ e2 h2 => ⟨p, _, rfl, .inl ⟨sq_of h2, fun l hl => q l _ (fresh_back e2 hl) (e2.trans (Ex.new hl)) upd_same⟩⟩
/-! ### how many members a set has -/
theorem insI_new {k : Int} : ∀ {ns : List Int}, k ∉ ns → (insI k ns).length = ns.length + 1
  | [], _ => rfl
  | x :: r, h => by
    have ih := insI_new (k := k) (ns := r) fun z => h (List.mem_cons_of_mem _ z)
    unfold insI
    split
    · rfl
    · split
      · next e => exact absurd (e ▸ List.mem_cons_self ..) h
      · rw [List.length_cons, ih, List.length_cons]
theorem srt_nodup : ∀ {ns : List Int}, ns.Nodup → (srt ns).length = ns.length
  | [], _ => rfl
  | x :: r, h => by
    have hd := List.nodup_cons.mp h
    show (insI x (srt r)).length = _
    rw [insI_new (fun z => hd.1 (mem_srt.mp z)), srt_nodup hd.2, List.length_cons]
section
open PySem.Spec PyProof.Rows
variable {X : Cx}
/-- len of a set of ints -/
def rLenSet (w : World) : List V → Hp → VK → Prop := fun xs H Q => ∃ (a : Addr) (ns : List Int) (c : Nat), xs = [.ref a] ∧ H a = some (SetO w a (fun j => decide (j ∈ ns)) c) ∧ Q (.int ((srt ns).length : Nat)) H
theorem cr_lenSet (hc : X.calm = true) : CallR X (.builtin "len") (rLenSet X.w) := by
  intro pins s σ H xs us Q I r h
  obtain ⟨a, ns, c, rfl, ha, q⟩ := h
  have R := setO_get I ha
  rw [Vals.ref1 r]
  obtain ⟨o, es, ep, t, ho, hex, hd, _, hnd, hm, hs, hf, _⟩ := R
  have e1 : srt (es.toList.map keyOf) = srt ns := asc_uniq (pw_srt _) (pw_srt _) fun k => by
    rw [mem_srt, mem_srt, ← hm k]
    exact decide_eq_true_iff
  have e2 : (srt ns).length = es.size := by
    rw [← e1, srt_nodup hnd, List.length_map]
    exact Array.length_toList
  rw [e2] at q
  refine call_len_set ho hex hd hf ?_ ⟨.int es.size, H, I.tok _, ⟨_, rfl⟩, q⟩
  unfold scanBound at hs
  omega
end
section
variable {K : PySem.W.Frag} {w : World} {σ : L2.St} {H : Hp} {te : TE}
theorem ev_lenSetL {ns : List Int} (h : EvL te σ H (ns.map V.int)) (hn : ns.length ≤ 1000) : Ev (tCB (rLenSet w) (tCons (tCB (rSetL K w) (tCons te tNil)) tNil)) σ H (.int ((srt ns).length : Nat)) := fun H1 e Q q =>
  f_cb (f_cons (f_cb (f_cons (h H1 e _ fun p H2 _ e2 h2 => f_nil ⟨p, ns, rfl, sq_of h2, Nat.le_trans hn (by decide), fun r c nr _ => f_nil ⟨r, ns, c, rfl, upd_same, q _ (e2.trans (Ex.new nr))⟩⟩))))
end
/-! ### comprehensions over a new tuple -/
theorem el_lcNU {K : PySem.W.Frag} {σ : L2.St} {H : Hp} {t : TT} {te : TE} {xs : List V} {tl : TE} {j : Nat} {vs : List Nat} (f : Nat → Bool) (v : Nat → V) (h : EvU tl σ H xs) (hz : xs.length ≤ 40000) (hw : ∀ x, wipe ((wipe σ vs).set j (some x)) vs = wipe σ vs)
    (ht : ∀ (i : Nat) (x : V) H1, Ex H H1 → xs[i]? = some x → EvT t ((wipe σ vs).set j (some x)) H1 (f i)) (he : ∀ (i : Nat) (x : V) H1, Ex H H1 → xs[i]? = some x → f i = true → Ev te ((wipe σ vs).set j (some x)) H1 (v i)) :
    EvL (tLc (iTup K tl) (gName j) t te vs) σ H (given xs.length f v) := fun H0 e Q q => h H0 e _ fun a H1 ha e1 hx => ⟨a, rfl, ⟨xs, st_of hx⟩, fun Dl hD =>
  lc_tup (xs := xs) (Cw H1 f v Dl) ⟨hD, Ex.new hD, upd_same⟩ (fun i H' _ p => st_of (p.2.1 a _ hx)) (fun i x H' hi p => ⟨hw x, cw_turn p (by have := (List.getElem?_eq_some_iff.mp hi).1; omega) (ht i x H1 (e.trans e1) hi) (fun hf => he i x H1 (e.trans e1) hi hf)⟩)
    (fun H' p => q Dl H' (fresh_back e1 p.1) (e1.trans p.2.1) p.2.2)⟩
theorem el_lcUF {K : PySem.W.Frag} {σ : L2.St} {H : Hp} {tl te : TE} {tt : TT} {ns : List Int} {j : Nat} {vs : List Nat} (φ : Int → Bool) (v : Int → V) (h : EvU tl σ H (ns.map V.int)) (hz : ns.length ≤ 40000) (hw : ∀ x, wipe ((wipe σ vs).set j (some x)) vs = wipe σ vs)
    (ht : ∀ (x : Int) H1, Ex H H1 → x ∈ ns → EvT tt ((wipe σ vs).set j (some (.int x))) H1 (φ x)) (he : ∀ (x : Int) H1, Ex H H1 → x ∈ ns → Ev te ((wipe σ vs).set j (some (.int x))) H1 (v x)) : EvL (tLc (iTup K tl) (gName j) tt te vs) σ H ((ns.filter φ).map v) := by
  have at_ {i : Nat} {x : V} (hi : (ns.map V.int)[i]? = some x) : ∃ n, x = .int n ∧ n ∈ ns ∧ ns.getD i 0 = n := by
    rw [List.getElem?_map] at hi
    obtain ⟨n, hn, rfl⟩ := Option.map_eq_some_iff.mp hi
    exact ⟨n, rfl, List.mem_of_getElem? hn, by rw [List.getD_eq_getElem?_getD, hn]; rfl⟩
  have z := el_lcNU (K := K) (t := tt) (te := te) (j := j) (vs := vs) (fun i => φ (ns.getD i 0)) (fun i => v (ns.getD i 0)) h (by rw [List.length_map]; exact hz) hw (fun i x H1 e hi => by
    obtain ⟨n, rfl, hn, e2⟩ := at_ hi
    rw [e2]; exact ht n H1 e hn) fun i x H1 e hi _ => by
    obtain ⟨n, rfl, hn, e2⟩ := at_ hi
    rw [e2]; exact he n H1 e hn
  rw [List.length_map] at z
  have g : given ns.length (fun i => φ (ns.getD i 0)) (fun i => v (ns.getD i 0)) = (ns.filter φ).map v := range_filter v φ ns
  rw [g] at z
  exact z
theorem ev_sumL_at {K : PySem.W.Frag} {σ : L2.St} {H : Hp} {ta : TE} {a : Addr} {ks : List Int} (h : Ev ta σ H (.ref a)) (hs : SqL K H a (ks.map V.int)) : Ev (tCB (rSum K) (tCons ta tNil)) σ H (.int ks.sum) := ev_sumV h hs
theorem room65 {k : Nat} {A : Around} (r : Room k A) : A.units + 65 < cLine := by have := r.un; omega
/-! ### joined texts -/
theorem joinL_len (S : List Nat) : ∀ ps : List (List Nat), (joinL S ps).length ≤ (ps.map List.length).sum + ps.length * S.length
  | [] => Nat.zero_le _
  | [p] => by show p.length ≤ _; simp
  | p :: q :: r => by
    have ih := joinL_len S (q :: r)
    show (p ++ (S ++ joinL S (q :: r))).length ≤ _
    rw [List.length_append, List.length_append, List.map_cons, List.sum_cons, List.length_cons (as := q :: r), Nat.succ_mul]
    omega
theorem tl_space : tl (" " : Str) = [32] := by decide +kernel
theorem joinT_len (s : Str) (ys : List Str) : (Txt.join s ys).length ≤ (ys.map (·.length)).sum + ys.length * s.length := by
  have h := joinL_len (tl s) (ys.map tl)
  rw [List.length_map, List.map_map, ← len_tl s] at h
  rw [len_tl, join_eq, tl_join]
  refine Nat.le_trans h (Nat.le_of_eq ?_)
  rw [show ys.map (List.length ∘ tl) = ys.map (·.length) from List.map_congr_left fun z _ => (len_tl z).symm]
/-- none of a word's signs is a blank or a slash -/
theorem plusL_free {k : Int} {s : Nat} (h : s < 43 ∨ 57 < s ∨ s = 47 ∨ s = 46 ∨ s = 44) : s ∉ plusL k := fun hm => by
  unfold plusL at hm
  split at hm
  · have := List.mem_singleton.mp hm; omega
  · rcases List.mem_append.mp hm with hm | hm
    · split at hm <;> (have := List.mem_singleton.mp hm; omega)
    · have := numL_digits _ s hm; omega
theorem plusL_head (k : Int) : ∃ c r, plusL k = c :: r ∧ c < 58 := by
  unfold plusL
  split
  · exact ⟨48, [], rfl, by decide⟩
  · split
    · exact ⟨45, _, rfl, by decide⟩
    · exact ⟨43, _, rfl, by decide⟩
theorem join_head {S : List Nat} : ∀ {ps : List (List Nat)} {c : Nat} {r : List Nat}, ps.head? = some (c :: r) → ∃ r', joinL S ps = c :: r'
  | [p], c, r, h => by cases h; exact ⟨r, rfl⟩
  | p :: q :: t, c, r, h => by cases h; exact ⟨r ++ (S ++ joinL S (q :: t)), rfl⟩
/-! ### f-strings of several parts; texts as data -/
def cats : Str → List Str → Str
  | acc, [] => acc
  | acc, y :: ys => cats (acc ++ y) ys
theorem js_ev {σ : L2.St} {H : Hp} : ∀ {ts : List TE} {ys : List Str} (acc : Str), Paired (fun t y => Ev t σ H (.str y)) ts ys → acc.length + (ys.map (·.length)).sum ≤ 1000000 → ∀ H1, Ex H H1 → ∀ Q : Str → Hp → Prop, (∀ H2, Ex H1 H2 → Q (cats acc ys) H2) → tJs ts acc σ H1 Q
  | _, _, acc, .nil, _, H1, _, Q, q => q H1 (Ex.refl H1)
  | _, _, acc, .cons (b := y) h t, hz, H1, e, Q, q => h H1 e _ fun H2 e2 => ⟨y, rfl, by
      rw [List.map_cons, List.sum_cons] at hz
      rw [Str.length_append]
      exact Nat.le_trans (by omega) (show 1000000 ≤ sizeLine by decide), js_ev (acc ++ y) t (by
      rw [List.map_cons, List.sum_cons] at hz
      rw [Str.length_append]; omega) H2 (e.trans e2) Q fun H3 e3 => q H3 (e2.trans e3)⟩
theorem dpa_strs {K : PySem.W.Frag} {H : Hp} : ∀ zs : List Str, DpAll K H (zs.map V.str) (zs.map PyData.str)
  | [] => .nil
  | z :: zs => .cons (.str z) (dpa_strs zs)
theorem lay_strs : ∀ zs : List Str, (∀ z, z ∈ zs → ∀ c, c ∈ tl z → c < 128) → PyData.canLayAll0 (zs.map PyData.str) = true ∧ PyData.depthAll (zs.map PyData.str) = 0
  | [], _ => ⟨rfl, rfl⟩
  | z :: zs, h => by
    obtain ⟨a, b⟩ := lay_strs zs fun x hx => h x (List.mem_cons_of_mem _ hx)
    have e : PyData.strOk z = true := by
      unfold PyData.strOk
      rw [← Array.all_toList, List.all_eq_true]
      intro c hc
      exact decide_eq_true (Nat.lt_trans (h z (List.mem_cons_self ..) c hc) (by decide))
    constructor
    · show (PyData.strOk z && PyData.canLayAll0 (zs.map PyData.str)) = true
      rw [e, a]; rfl
    · show max (PyData.depth (.str z)) (PyData.depthAll (zs.map PyData.str)) = 0
      rw [b]; rfl
theorem shaped_strs {zs : List Str} (h : ∀ z, z ∈ zs → ∀ c, c ∈ tl z → c < 128) : SeqAt.shaped (.list (zs.map PyData.str)) = true := by
  obtain ⟨a, b⟩ := lay_strs zs h
  show (PyData.canLayAll0 (zs.map PyData.str) && decide (PyData.depthAll (zs.map PyData.str) + 1 ≤ 64)) = true
  rw [a, b]; rfl
end Mc
namespace Mk
open PySem L2 Mc Evl
def topS (i : Nat) : Stmt := PySem.Challenge.pw_monthclamp_k14_fewest_steps_by_search.main.body.getD i (.Pass ⟨0, 0, 0, 0⟩)
abbrev s_visits : Stmt := topS 1
theorem sc_visits : FnScope ["steps", "sums", "step"] ["steps"] (defScope s_visits) := ⟨rfl, rfl, rfl, by decide +kernel, rfl, by decide +kernel, by decide +kernel⟩
abbrev s_by_remainder : Stmt := topS 4
theorem sc_by_remainder : FnScope ["numbers", "divisor", "groups", "number"] ["numbers", "divisor"] (defScope s_by_remainder) := ⟨rfl, rfl, rfl, by decide +kernel, rfl, by decide +kernel, by decide +kernel⟩
abbrev s_standing_years : Stmt := topS 5
theorem sc_standing_years : FnScope ["steps", "groups", "month"] ["steps"] (defScope s_standing_years) := ⟨rfl, rfl, rfl, by decide +kernel, rfl, by decide +kernel, by decide +kernel⟩
abbrev s_standing_for : Stmt := topS 6
theorem sc_standing_for : FnScope ["years", "remainder", "fours", "four", "year"] ["years"] (defScope s_standing_for) := ⟨rfl, rfl, rfl, by decide +kernel, rfl, by decide +kernel, by decide +kernel⟩
abbrev s_fours_standing_for : Stmt := topS 7
theorem sc_fours_standing_for : FnScope ["fours", "kept", "remainder", "centuries", "four"] ["fours"] (defScope s_fours_standing_for) := ⟨rfl, rfl, rfl, by decide +kernel, rfl, by decide +kernel, by decide +kernel⟩
abbrev s_fewest_steps : Stmt := topS 9
theorem sc_fewest_steps : FnScope ["steps"] ["steps"] (defScope s_fewest_steps) := ⟨rfl, rfl, rfl, by decide +kernel, rfl, by decide +kernel, by decide +kernel⟩
abbrev s_shortest_list : Stmt := topS 10
theorem sc_shortest_list : FnScope ["steps", "total", "between", "found", "place", "visit"] ["steps"] (defScope s_shortest_list) := ⟨rfl, rfl, rfl, by decide +kernel, rfl, by decide +kernel, by decide +kernel⟩
abbrev s_visits_between : Stmt := topS 11
theorem sc_visits_between : FnScope ["steps", "ends", "found", "month", "years", "year"] ["steps"] (defScope s_visits_between) := ⟨rfl, rfl, rfl, by decide +kernel, rfl, by decide +kernel, by decide +kernel⟩
abbrev s_years_between : Stmt := topS 12
theorem sc_years_between : FnScope ["years", "ends", "near", "far", "found", "remainder", "group", "kinds", "missing", "year", "end"] ["years", "ends"] (defScope s_years_between) := ⟨rfl, rfl, rfl, by decide +kernel, rfl, by decide +kernel, by decide +kernel⟩
abbrev s_law_rng : Stmt := topS 14
theorem sc_law_rng : FnScope ["script", "digits", "seed", "cell", "size"] ["script"] (defScope s_law_rng) := ⟨rfl, rfl, rfl, by decide +kernel, rfl, by decide +kernel, by decide +kernel⟩
abbrev s_law_draw : Stmt := topS 15
theorem sc_law_draw : FnScope ["rng", "limit", "found", "mixed"] ["rng", "limit"] (defScope s_law_draw) := ⟨rfl, rfl, rfl, by decide +kernel, rfl, by decide +kernel, by decide +kernel⟩
abbrev s_law_one : Stmt := topS 16
theorem sc_law_one : FnScope ["rng", "kind", "size"] ["rng", "kind"] (defScope s_law_one) := ⟨rfl, rfl, rfl, by decide +kernel, rfl, by decide +kernel, by decide +kernel⟩
abbrev s_law_moves : Stmt := topS 17
theorem sc_law_moves : FnScope ["rng", "most", "kinds", "turn"] ["rng", "most"] (defScope s_law_moves) := ⟨rfl, rfl, rfl, by decide +kernel, rfl, by decide +kernel, by decide +kernel⟩
abbrev s_law_is_leap : Stmt := topS 18
theorem sc_law_is_leap : FnScope ["year"] ["year"] (defScope s_law_is_leap) := ⟨rfl, rfl, rfl, by decide +kernel, rfl, by decide +kernel, by decide +kernel⟩
abbrev s_law_sums : Stmt := topS 19
theorem sc_law_sums : FnScope ["moves", "found", "one"] ["moves"] (defScope s_law_sums) := ⟨rfl, rfl, rfl, by decide +kernel, rfl, by decide +kernel, by decide +kernel⟩
abbrev s_law_masks : Stmt := topS 20
theorem sc_law_masks : FnScope ["found", "year", "other"] [] (defScope s_law_masks) := ⟨rfl, rfl, rfl, by decide +kernel, rfl, by decide +kernel, by decide +kernel⟩
abbrev s_law_joined : Stmt := topS 21
theorem sc_law_joined : FnScope ["masks", "years", "found", "year"] ["masks", "years"] (defScope s_law_joined) := ⟨rfl, rfl, rfl, by decide +kernel, rfl, by decide +kernel, by decide +kernel⟩
abbrev s_law_extra : Stmt := topS 22
theorem sc_law_extra : FnScope ["masks", "wanted", "present", "steps_here", "mask", "layer", "many", "later", "one"] ["masks", "wanted", "present"] (defScope s_law_extra) := ⟨rfl, rfl, rfl, by decide +kernel, rfl, by decide +kernel, by decide +kernel⟩
abbrev s_law_needs : Stmt := topS 23
theorem sc_law_needs : FnScope ["masks", "moves", "sums", "end", "found", "rest", "years", "present", "number"] ["masks", "moves"] (defScope s_law_needs) := ⟨rfl, rfl, rfl, by decide +kernel, rfl, by decide +kernel, by decide +kernel⟩
abbrev s_law : Stmt := topS 24
theorem sc_law : FnScope ["script", "rng", "masks", "lap", "moves", "last", "some", "kept", "needs", "due", "told"] ["script"] (defScope s_law) := ⟨rfl, rfl, rfl, by decide +kernel, rfl, by decide +kernel, by decide +kernel⟩
structure Top (K : PySem.W.Frag) (mg : Str → Option Value) where
  f_visits : Addr
  fd_visits : FuncData
  F_visits : Fun K "visits" "visits" s_visits f_visits fd_visits
  g_visits : mg "visits" = some (.ref f_visits)
  b_visits : Binds K fd_visits ["steps"] []
  f_by_remainder : Addr
  fd_by_remainder : FuncData
  F_by_remainder : Fun K "by_remainder" "by_remainder" s_by_remainder f_by_remainder fd_by_remainder
  g_by_remainder : mg "by_remainder" = some (.ref f_by_remainder)
  b_by_remainder : Binds K fd_by_remainder ["numbers", "divisor"] []
  f_standing_years : Addr
  fd_standing_years : FuncData
  F_standing_years : Fun K "standing_years" "standing_years" s_standing_years f_standing_years fd_standing_years
  g_standing_years : mg "standing_years" = some (.ref f_standing_years)
  b_standing_years : Binds K fd_standing_years ["steps"] []
  f_standing_for : Addr
  fd_standing_for : FuncData
  F_standing_for : Fun K "_standing_for" "_standing_for" s_standing_for f_standing_for fd_standing_for
  g_standing_for : mg "_standing_for" = some (.ref f_standing_for)
  b_standing_for : Binds K fd_standing_for ["years"] []
  f_fours_standing_for : Addr
  fd_fours_standing_for : FuncData
  F_fours_standing_for : Fun K "_fours_standing_for" "_fours_standing_for" s_fours_standing_for f_fours_standing_for fd_fours_standing_for
  g_fours_standing_for : mg "_fours_standing_for" = some (.ref f_fours_standing_for)
  b_fours_standing_for : Binds K fd_fours_standing_for ["fours"] []
  f_fewest_steps : Addr
  fd_fewest_steps : FuncData
  F_fewest_steps : Fun K "fewest_steps" "fewest_steps" s_fewest_steps f_fewest_steps fd_fewest_steps
  g_fewest_steps : mg "fewest_steps" = some (.ref f_fewest_steps)
  b_fewest_steps : Binds K fd_fewest_steps ["steps"] []
  f_shortest_list : Addr
  fd_shortest_list : FuncData
  F_shortest_list : Fun K "shortest_list" "shortest_list" s_shortest_list f_shortest_list fd_shortest_list
  g_shortest_list : mg "shortest_list" = some (.ref f_shortest_list)
  b_shortest_list : Binds K fd_shortest_list ["steps"] []
  f_visits_between : Addr
  fd_visits_between : FuncData
  F_visits_between : Fun K "_visits_between" "_visits_between" s_visits_between f_visits_between fd_visits_between
  g_visits_between : mg "_visits_between" = some (.ref f_visits_between)
  b_visits_between : Binds K fd_visits_between ["steps"] []
  f_years_between : Addr
  fd_years_between : FuncData
  F_years_between : Fun K "_years_between" "_years_between" s_years_between f_years_between fd_years_between
  g_years_between : mg "_years_between" = some (.ref f_years_between)
  b_years_between : Binds K fd_years_between ["years", "ends"] []
  f_law_rng : Addr
  fd_law_rng : FuncData
  F_law_rng : Fun K "_law_rng" "_law_rng" s_law_rng f_law_rng fd_law_rng
  g_law_rng : mg "_law_rng" = some (.ref f_law_rng)
  b_law_rng : Binds K fd_law_rng ["script"] []
  f_law_draw : Addr
  fd_law_draw : FuncData
  F_law_draw : Fun K "_law_draw" "_law_draw" s_law_draw f_law_draw fd_law_draw
  g_law_draw : mg "_law_draw" = some (.ref f_law_draw)
  b_law_draw : Binds K fd_law_draw ["rng", "limit"] []
  f_law_one : Addr
  fd_law_one : FuncData
  F_law_one : Fun K "_law_one" "_law_one" s_law_one f_law_one fd_law_one
  g_law_one : mg "_law_one" = some (.ref f_law_one)
  b_law_one : Binds K fd_law_one ["rng", "kind"] []
  f_law_moves : Addr
  fd_law_moves : FuncData
  F_law_moves : Fun K "_law_moves" "_law_moves" s_law_moves f_law_moves fd_law_moves
  g_law_moves : mg "_law_moves" = some (.ref f_law_moves)
  b_law_moves : Binds K fd_law_moves ["rng", "most"] []
  f_law_is_leap : Addr
  fd_law_is_leap : FuncData
  F_law_is_leap : Fun K "_law_is_leap" "_law_is_leap" s_law_is_leap f_law_is_leap fd_law_is_leap
  g_law_is_leap : mg "_law_is_leap" = some (.ref f_law_is_leap)
  b_law_is_leap : Binds K fd_law_is_leap ["year"] []
  f_law_sums : Addr
  fd_law_sums : FuncData
  F_law_sums : Fun K "_law_sums" "_law_sums" s_law_sums f_law_sums fd_law_sums
  g_law_sums : mg "_law_sums" = some (.ref f_law_sums)
  b_law_sums : Binds K fd_law_sums ["moves"] []
  f_law_masks : Addr
  fd_law_masks : FuncData
  F_law_masks : Fun K "_law_masks" "_law_masks" s_law_masks f_law_masks fd_law_masks
  g_law_masks : mg "_law_masks" = some (.ref f_law_masks)
  b_law_masks : Binds K fd_law_masks [] []
  f_law_joined : Addr
  fd_law_joined : FuncData
  F_law_joined : Fun K "_law_joined" "_law_joined" s_law_joined f_law_joined fd_law_joined
  g_law_joined : mg "_law_joined" = some (.ref f_law_joined)
  b_law_joined : Binds K fd_law_joined ["masks", "years"] []
  f_law_extra : Addr
  fd_law_extra : FuncData
  F_law_extra : Fun K "_law_extra" "_law_extra" s_law_extra f_law_extra fd_law_extra
  g_law_extra : mg "_law_extra" = some (.ref f_law_extra)
  b_law_extra : Binds K fd_law_extra ["masks", "wanted", "present"] []
  f_law_needs : Addr
  fd_law_needs : FuncData
  F_law_needs : Fun K "_law_needs" "_law_needs" s_law_needs f_law_needs fd_law_needs
  g_law_needs : mg "_law_needs" = some (.ref f_law_needs)
  b_law_needs : Binds K fd_law_needs ["masks", "moves"] []
  f_law : Addr
  fd_law : FuncData
  F_law : Fun K "law" "law" s_law f_law fd_law
  g_law : mg "law" = some (.ref f_law)
  b_law : Binds K fd_law ["script"] []
  z_abs : mg "abs" = none
  z_any : mg "any" = none
  z_len : mg "len" = none
  z_list : mg "list" = none
  z_min : mg "min" = none
  z_range : mg "range" = none
  z_repr : mg "repr" = none
  z_set : mg "set" = none
  z_sorted : mg "sorted" = none
  z_sum : mg "sum" = none
  a_NEVER_LEAP : Addr
  g_NEVER_LEAP : mg "NEVER_LEAP" = some (.ref a_NEVER_LEAP)
  q_NEVER_LEAP : ∀ H : Hp, SqT K H a_NEVER_LEAP [.int 0, .int 1]
def spLaw (K : PySem.W.Frag) : Sp := fun vs H Q _ => ∃ (a : Addr) (ns : List Int), vs = [.ref a] ∧ SqL K H a (ns.map V.int) ∧ ns.length ≤ 63 ∧ ∀ H', Q (.bl true) H'
section
variable {P : Program} {w : World} {K : PySem.W.Frag} {mg : Str → Option Value} {base : Heap}
def kg_fewest_steps_steps {α : Type} : List α → List α → List α := fun us ws => us ++ ws
theorem kb_fewest_steps_steps {K : PySem.W.Frag} {f : Addr} {fd : FuncData} (F : Fun K "fewest_steps" "fewest_steps" s_fewest_steps f fd) : KBn K fd ["steps"] 0 ["steps"] kg_fewest_steps_steps kg_fewest_steps_steps := by
  obtain ⟨oc, od, kV, doc, pm, an, cdv, ct, osl, rfl, lk, hcd⟩ := F.ex
  refine ⟨fun s us ws _ hl hm => ?_, fun {vs us zs ws} r rz => r.append rz⟩
  match us, ws, hl, hm with
  | [], [w0], _, _ => exact .of_eq rfl
local macro_rules | `(tactic| walk_at "fw") => `(tactic| repeat (first
  | with_reducible refine f_seq ?_
  | with_reducible refine f_asg ?_
  | with_reducible refine f_gName ?_
  | with_reducible refine f_ret ?_
  | with_reducible refine f_op ?_
  | with_reducible refine f_un ?_
  | with_reducible refine f_c ?_
  | ((with_reducible apply f_var); exact rfl)
  | with_reducible refine f_I0 ?_
  | with_reducible refine f_U ?_
  | ((with_reducible refine f_I ?fwh ?_); case fwh => first | assumption | (unfold CPow; omega) | (unfold CDivW; omega) | (unfold CDiv; omega) | (exact wide_mul (a := 20) (b := 64) (by omega) (by omega) (by decide) (by decide) (by decide)) | (exact wide_mul (a := 64) (b := 20) (by omega) (by omega) (by decide) (by decide) (by decide)) | (exact wide_mul (a := 160) (b := 160) (by omega) (by omega) (by decide) (by decide) (by decide)) | decide | omega)
  | with_reducible refine f_eqI ?_
  | with_reducible refine f_neI ?_
  | with_reducible refine f_test ?_
  | with_reducible refine f_B ?_
  | with_reducible refine f_bl ?_
  | with_reducible refine f_and ?_
  | with_reducible refine f_or ?_
  | with_reducible refine f_not ?_
  | with_reducible refine f_next ?_
  | with_reducible refine f_drop ?_
  | with_reducible refine f_ifS ?_
  | with_reducible refine f_if ?_
  | with_reducible refine f_call ?_
  | with_reducible refine f_nil ?_
  | with_reducible refine f_cons ?_
  | with_reducible refine f_tup ?_
  | with_reducible refine f_lst ?_
  | with_reducible refine f_cb ?_))

local macro_rules | `(tactic| walk_at "fs") => `(tactic| repeat (first
  | with_reducible refine f_seq ?_
  | with_reducible refine f_asg ?_
  | with_reducible refine f_gName ?_
  | with_reducible refine f_ret ?_
  | with_reducible refine f_c ?_
  | ((with_reducible apply f_var); exact rfl)
  | with_reducible refine f_test ?_
  | with_reducible refine f_B ?_
  | with_reducible refine f_bl ?_
  | with_reducible refine f_and ?_
  | with_reducible refine f_or ?_
  | with_reducible refine f_not ?_
  | with_reducible refine f_next ?_
  | with_reducible refine f_drop ?_
  | with_reducible refine f_nil ?_
  | with_reducible refine f_ifS ?_))

def leap (y : Int) : Bool := decide (y % 4 = 0) && (!decide (y % 100 = 0) || decide (y % 400 = 0))
def D_leap (vs : List V) (z : V) : Prop := ∃ y : Int, vs = [.int y] ∧ z = .bl (leap y)
def lleap (y : Int) : Bool := decide (y % 400 = 0) || (decide (y % 4 = 0) && !decide (y % 100 = 0))
theorem lleap_eq (y : Int) : lleap y = leap y := by
  unfold lleap leap
  by_cases h4 : y % 400 = 0
  · have a : y % 4 = 0 := by omega
    have b : y % 100 = 0 := by omega
    simp [h4, a, b]
  · simp [h4]

/-! the lengths of months -/
def mlist (y : Int) : List Int := [31, 28 + b2 (leap y), 31, 30, 31, 30, 31, 31, 30, 31, 30, 31]
def dlen (y m : Int) : Int := (mlist y).getD (m - 1).toNat 0
def D_days (vs : List V) (z : V) : Prop := ∃ y m : Int, vs = [.int y, .int m] ∧ 1 ≤ m ∧ m ≤ 12 ∧ z = .int (dlen y m)

/-- the length of the month with a number, months counted on from January of year 0 -/
def mlen (n : Int) : Int := dlen (n / 12) (n % 12 + 1)
theorem dlen_bounds (y m : Int) (h1 : 1 ≤ m) (h2 : m ≤ 12) : 28 ≤ dlen y m ∧ dlen y m ≤ 31 := by
  have hm : m = 1 ∨ m = 2 ∨ m = 3 ∨ m = 4 ∨ m = 5 ∨ m = 6 ∨ m = 7 ∨ m = 8 ∨ m = 9 ∨ m = 10 ∨ m = 11 ∨ m = 12 := by omega
  have hb : b2 (leap y) = 0 ∨ b2 (leap y) = 1 := by unfold b2; split <;> simp
  rcases hm with rfl | rfl | rfl | rfl | rfl | rfl | rfl | rfl | rfl | rfl | rfl | rfl <;> simp [dlen, mlist] <;> omega
theorem mlen_bounds (n : Int) : 28 ≤ mlen n ∧ mlen n ≤ 31 := dlen_bounds _ _ (by omega) (by omega)
def D_mlen (vs : List V) (z : V) : Prop := ∃ n : Int, vs = [.int n] ∧ z = .int (mlen n)
/-- a date stands at p -/
def DateAt (K : PySem.W.Frag) (H : Hp) (p : Addr) (y m d : Int) : Prop := SqT K H p [.int y, .int m, .int d]
/-- it exists -/
def Exists_ (y m d : Int) : Prop := 1 ≤ m ∧ m ≤ 12 ∧ 1 ≤ d ∧ d ≤ dlen y m
def D_check (K : PySem.W.Frag) (H : Hp) (vs : List V) (z : V) : Prop := ∃ (p : Addr) (y m d : Int), vs = [.ref p] ∧ DateAt K H p y m d ∧ Exists_ y m d ∧ z = .non
def mvs (st : Int × Int) (k : Int) : Int × Int := (st.1 + k, min st.2 (mlen (st.1 + k)))
def mrun (st : Int × Int) (ks : List Int) : Int × Int := ks.foldl mvs st
/-- the date at a place -/
def tupD (st : Int × Int) : List V := [.int (st.1 / 12), .int (st.1 % 12 + 1), .int st.2]
theorem mrun_take {st : Int × Int} {ks : List Int} {i : Nat} {k : Int} (h : ks[i]? = some k) : mrun st (ks.take (i + 1)) = mvs (mrun st (ks.take i)) k := by
  unfold mrun
  rw [List.take_add_one, h, List.foldl_append]
  rfl
def D_move (K : PySem.W.Frag) (H : Hp) (vs xs : List V) : Prop := ∃ (p l : Addr) (y m d : Int) (ks : List Int), vs = [.ref p, .ref l] ∧ DateAt K H p y m d ∧ Exists_ y m d ∧ SqL K H l (ks.map V.int) ∧ xs = tupD (mrun (12 * y + m - 1, d) ks) ∧ y.natAbs ≤ 10 ^ 100
theorem int_of_map {ns : List Int} {i : Nat} {x : V} (h : (ns.map V.int)[i]? = some x) : ∃ z, x = V.int z ∧ ns[i]? = some z := by
  rw [List.getElem?_map] at h
  cases e : ns[i]? with
  | none => rw [e] at h; cases h
  | some z => rw [e] at h; exact ⟨z, (Option.some.inj h).symm, rfl⟩

/-! visits and the law's sums -/
def sumsTo (ks : List Int) (i : Nat) : List Int := (List.range (i + 1)).map fun j => (ks.take j).sum
theorem sumsTo_succ (ks : List Int) (i : Nat) : sumsTo ks (i + 1) = sumsTo ks i ++ [(ks.take (i + 1)).sum] := by
  unfold sumsTo
  rw [List.range_succ, List.map_append]; rfl
theorem sumsTo_len (ks : List Int) (i : Nat) : (sumsTo ks i).length = i + 1 := by unfold sumsTo; rw [List.length_map, List.length_range]
theorem sumsTo_get (ks : List Int) {i j : Nat} (h : j ≤ i) : (sumsTo ks i)[j]? = some (ks.take j).sum := by
  unfold sumsTo
  rw [List.getElem?_map, List.getElem?_range (by omega)]; rfl
theorem at_m1 {L : List Int} {z : Int} (h : L[L.length - 1]? = some z) : atI (L.map V.int) (-1) = some (.int z) := by
  have h0 : 0 < L.length := by
    have := (List.getElem?_eq_some_iff.mp h).1
    omega
  unfold atI
  rw [List.length_map, ixN_m1 h0]
  show (L.map V.int)[L.length - 1]? = _
  rw [List.getElem?_map, h]; rfl
theorem sumsTo_m1 (ks : List Int) (i : Nat) : atI ((sumsTo ks i).map V.int) (-1) = some (.int (ks.take i).sum) := at_m1 (by rw [sumsTo_len]; exact sumsTo_get ks (Nat.le_refl _))
theorem take_sum {ks : List Int} {i : Nat} {k : Int} (h : ks[i]? = some k) : (ks.take (i + 1)).sum = (ks.take i).sum + k := by
  rw [List.take_add_one, h, List.sum_append]
  show (ks.take i).sum + (k + 0) = _
  omega
def sums (ks : List Int) : List Int := sumsTo ks ks.length
def D_sums (K : PySem.W.Frag) (H : Hp) (vs xs : List V) : Prop := ∃ (l : Addr) (ks : List Int), vs = [.ref l] ∧ SqL K H l (ks.map V.int) ∧ ks.length ≤ 1000 ∧ xs = (sums ks).map V.int
def D_visits (K : PySem.W.Frag) (H : Hp) (vs xs : List V) : Prop := ∃ (l : Addr) (ks : List Int), vs = [.ref l] ∧ SqL K H l (ks.map V.int) ∧ ks.length ≤ 900 ∧ xs = (srt (sums ks)).map V.int
theorem int_of_map2 {ns : List Int} {i : Nat} {x : V} (h : (ns.map V.int)[i]? = some x) : ∃ z, x = V.int z ∧ ns[i]? = some z := by
  rw [List.getElem?_map] at h
  cases e : ns[i]? with
  | none => rw [e] at h; cases h
  | some z => rw [e] at h; exact ⟨z, (Option.some.inj h).symm, rfl⟩
theorem ok_visits (T : Top K mg) : FnOk P w K mg base CX0 1 T.f_visits T.fd_visits ["steps"] (spHL (D_visits K)) := by
  refine T.F_visits.ok sc_visits (fun vs H Q E h => ?_) (fun cdv A outer s H vs Q E hr h => ?_)
  · obtain ⟨z, ⟨l, ks, rfl, _⟩, _⟩ := h; rfl
  · obtain ⟨z, ⟨l, ks, rfl, hL, hz, rfl⟩, q⟩ := h
    refine ⟨_, (pss_cons (ps_set (i := 1) sc_visits.nd rfl (Or.inl rfl) (pe_lst (pa_cons pe_int pa_nil)))
      (pss_cons (ps_for PassesOwn.never rfl (pi_list (pv 0)) (pg_name (i := 2) sc_visits.nd rfl (Or.inl rfl)) (pss_one (ps_expr (pe_bm PySem.F.plainAttrs_list PySem.F.slot_list_append PySem.F.type_list_append mt_append (pv 1) (pa_cons (pe_op op_add (pe_ix (r := rIxL K) ix_list (pv 1) (pe_un un_neg pe_int) (fun _ _ => rfl)) (pv 2)) pa_nil)))))
      (pss_one (ps_ret (pe_callB (r := rSortedA w) (cr_sortedA rfl) (by rfl) T.z_sorted (by decide +kernel) (pa_cons (pe_callTy (r := rSetL K w) (cr_setL rfl) (by rfl) T.z_set (by decide +kernel) (pa_cons (pv 1) pa_nil)) pa_nil)))))), ?_⟩
    refine f_seq (s_asgL (el_lst (ea_cons ev_c ea_nil) (by show 1 ≤ 100000; decide)) fun p H1 np e1 h1 => ?_)
    refine f_seq (s_forL (xs := ks.map V.int) (ev_var rfl) (ex_l e1 hL) (fun i σ H' => ∃ v : Option V, σ = [some (.ref l), some (.ref p), v] ∧ Ex H H' ∧ H' p = some (.lst ((sumsTo ks i).map V.int)))
      (fun H2 e2 => ⟨none, rfl, e1.trans e2, e2 _ _ h1⟩) (fun i σ H' _ ⟨_, _, e, _⟩ => ex_l e hL) (fun i x σ H' hx ⟨v, hσ, e, hp⟩ => ?_) fun σ H' ⟨v, hσ, e, hp⟩ => ?_)
    · subst hσ
      obtain ⟨k, rfl, hk⟩ := int_of_map2 hx
      have hi : i < ks.length := (List.getElem?_eq_some_iff.mp hk).1
      refine f_gName ?_
      refine f_drop (f_bm (f_var rfl (f_tyL hp (f_cons (f_ev (ev_op (ev_op (ev_var rfl) (ev_un ev_c ru_neg) (rv_ixL (sq_of hp) (sumsTo_m1 ks i))) (ev_var rfl) rv_I0) fun H2 e2 => f_nil ?_)))))
      refine ⟨p, _, _, rfl, rfl, e2 _ _ hp, sz_lt (by rw [List.length_map, sumsTo_len]; omega), ⟨_, rfl, fun b o g => ?_, ?_⟩⟩
      · rw [upd_ne (ne_of_none g np)]; exact e2 _ _ (e _ _ g)
      · rw [upd_same, sumsTo_succ, take_sum hk, List.map_append]; rfl
    · subst hσ
      rw [List.length_map] at hp
      exact s_retL (el_sorted (ev_var rfl) (sq_of hp) (by rw [sumsTo_len]; omega)) fun p1 H1 hp1 e1 h1 => q p1 H1 (fresh_back e hp1) (e.trans e1) h1

theorem ok_by_remainder (T : Top K mg) : FnOk P w K mg base CX0 1 T.f_by_remainder T.fd_by_remainder ["numbers", "divisor"] (spSplit K) := by
  refine T.F_by_remainder.ok sc_by_remainder (fun vs H Q E h => ?_) (fun cdv A outer s H vs Q E hr h => ?_)
  · obtain ⟨l, ns, d, rfl, _⟩ := h; rfl
  · obtain ⟨l, ns, d, rfl, hL, d0, d1, hz, q⟩ := h
    refine ⟨_, (pss_cons (ps_set (i := 2) sc_by_remainder.nd rfl (Or.inl rfl) pe_dnewK)
      (pss_cons (ps_for PassesOwn.never rfl (pi_list (pv 0)) (pg_name (i := 3) sc_by_remainder.nd rfl (Or.inl rfl)) (pss_one (ps_expr (pe_bm PySem.F.plainAttrs_list PySem.F.slot_list_append PySem.F.type_list_append mt_append (pe_dsetd (pv 2) (pe_op op_mod (pv 3) (pv 1)) (pe_lst pa_nil) ⟨by rfl, by rfl, by rfl, by rfl⟩) (pa_cons (pe_op op_fdivW (pv 3) (pv 1)) pa_nil)))))
      (pss_one (ps_ret (pv 2))))), ?_⟩
    refine f_seq (f_asg (f_dnew fun a na => f_gName ?_))
    have ha : (upd H a (.dK [])) a = some (.dK []) := upd_same
    have ea : Ex H (upd H a (.dK [])) := Ex.new na
    generalize upd H a (.dK []) = H1 at ha ea
    refine f_seq (s_forL (xs := ns.map V.int) (ev_var rfl) (ex_l ea hL) (fun i σ H' => ∃ (v : Option V) (kvs : List (Key × V)), σ = [some (.ref l), some (.int d), some (.ref a), v] ∧ Ex H H' ∧ H' a = some (.dK kvs) ∧ GAt H H' kvs (grp d (ns.take i)))
      (fun H2 e2 => ⟨none, [], rfl, ea.trans e2, e2 _ _ ha, .nil⟩) (fun i σ H' _ ⟨_, _, _, e, _⟩ => ex_l e hL) (fun i x σ H' hx ⟨v, kvs, hσ, e, hd, hG⟩ => ?_) fun σ H' ⟨v, kvs, hσ, e, hd, hG⟩ => ?_)
    · subst hσ
      rw [List.getElem?_map] at hx
      obtain ⟨n, hn, rfl⟩ := Option.map_eq_some_iff.mp hx
      have hi : i < ns.length := (List.getElem?_eq_some_iff.mp hn).1
      have hlen : kvs.length ≤ i := by rw [hG.len]; exact grp_len d ns i
      rw [grp_take hn]
      refine f_gName ?_
      refine f_drop (f_bm (f_dsetd (f_var rfl ⟨a, rfl, .inl ⟨kvs, .inl hd⟩, f_ev (ev_op (ev_var rfl) (ev_var rfl) (rv_mod d0)) fun H2 e2 => f_lst (f_nil ⟨Nat.zero_le _, fun pn npn => ?_⟩)⟩)))
      have e3 := e2.trans (Ex.new (o := .lst []) npn)
      have hd3 := e3 _ _ hd
      have hG3 := hG.ex_ e3
      have hpn : (upd H2 pn (.lst [])) pn = some (.lst []) := upd_same
      have npn0 : H pn = none := fresh_back (e.trans e2) npn
      have npa : a ≠ pn := ne_of_none (e2 _ _ hd) npn
      have hfar : ∀ kv, kv ∈ kvs → kv.2 ≠ .ref pn := fun kv hkv z => by
        obtain ⟨p, m, e1, e2'⟩ := (hG.ex_ e2).news kv hkv
        rw [e1] at z
        cases z
        rw [npn] at e2'; cases e2'
      have x3 := e.trans e3
      generalize upd H2 pn (.lst []) = H3 at e3 hd3 hG3 hpn x3
      refine ⟨kvs, .inl (n % d), hd3, rfl, Nat.lt_of_le_of_lt (show kvs.length ≤ 1000 by omega) (by decide), fun x hx => ?_, fun hx => ?_⟩
      · obtain ⟨p, m, rfl, np, hp, hmem, f⟩ := hG3.hit hx
        have hm : m.length ≤ i := grp_short d ns i _ hmem
        refine f_tyL hp (f_cons (f_ev (ev_op (ev_var rfl) (ev_var rfl) (rv_div d0 d1)) fun H4 e4 => f_nil ?_))
        refine ⟨p, _, _, rfl, rfl, e4 _ _ hp, sz_lt (by rw [List.length_map]; omega), ⟨_, kvs, rfl, fun b o g => ?_, ?_, ?_⟩⟩
        · rw [upd_ne (ne_of_none g np)]; exact e4 _ _ (x3 _ _ g)
        · rw [upd_ne (ne_of hd3 hp (by intro z; cases z))]; exact e4 _ _ hd3
        · have z := f (n / d)
          rw [List.map_append] at z
          refine GAt.keep z fun kv hkv q xs eq h' => ?_
          by_cases hq : q = p
          · subst hq
            rw [upd_same] at h' ⊢; exact h'
          · rw [upd_ne hq] at h' ⊢; exact e4 _ _ h'
      · have hnew : (upd H3 a (.dK (putK kvs (.inl (n % d)) (.ref pn)))) pn = some (.lst []) := by rw [upd_ne npa.symm]; exact hpn
        refine f_tyL hnew (f_cons (f_ev (ev_op (ev_var rfl) (ev_var rfl) (rv_div d0 d1)) fun H4 e4 => f_nil ?_))
        refine ⟨pn, _, _, rfl, rfl, e4 _ _ hnew, sz_lt (by simp), ⟨_, kvs ++ [(.inl (n % d), .ref pn)], rfl, fun b o g => ?_, ?_, ?_⟩⟩
        · rw [upd_ne (ne_of_none g npn0)]
          refine e4 _ _ ?_
          rw [upd_ne (ne_of_none g na)]
          exact x3 _ _ g
        · rw [upd_ne npa]
          have z := e4 a _ upd_same
          rw [z, putK_new _ hx]
        · refine GAt.miss npn0 upd_same (GAt.keep hG3 fun kv hkv q xs eq h' => ?_) hfar hx
          have hqn : q ≠ pn := fun z => hfar kv hkv (by rw [eq, z])
          rw [upd_ne hqn]
          refine e4 _ _ ?_
          rw [upd_ne (fun z => by rw [z, hd3] at h'; cases h')]
          exact h'
    · subst hσ
      rw [show ns.take (ns.map V.int).length = ns by rw [List.length_map]; exact List.take_of_length_le (Nat.le_refl _)] at hG
      exact s_ret (ev_var rfl) fun H2 e2 => q a kvs H2 na (e.trans e2) (e2 _ _ hd) (hG.ex_ e2)

/-- what a group of cycles keeps -/
def oneG (g : Int × List Int) : List Int := if g.2.length = 1 then [g.1 + 25 * g.2.headD 0] else [g.1, g.1 + 25]
def foursOf (fs : List Int) : List Int := (grp 25 (srt (fs.map fun z => z % 100))).flatMap oneG
def D_fours (K : PySem.W.Frag) (H : Hp) (vs xs : List V) : Prop := ∃ (l : Addr) (fs : List Int), vs = [.ref l] ∧ SqL K H l (fs.map V.int) ∧ fs.length ≤ 1000 ∧ xs = (foursOf fs).map V.int
theorem flat_take {gs : List (Int × List Int)} {n : Nat} {x : Int × List Int} (h : gs[n]? = some x) : (gs.take (n + 1)).flatMap oneG = (gs.take n).flatMap oneG ++ oneG x := by
  rw [List.take_add_one, h, List.flatMap_append]
  simp
theorem flat_len (gs : List (Int × List Int)) : ∀ n, ((gs.take n).flatMap oneG).length ≤ 2 * n
  | 0 => by simp
  | n + 1 => by
    have ih := flat_len gs n
    cases h : gs[n]? with
    | some x =>
      rw [flat_take h, List.length_append]
      have : (oneG x).length ≤ 2 := by unfold oneG; split <;> simp
      omega
    | none => rw [List.take_add_one, h, Option.toList_none, List.append_nil]; omega
theorem ok_fours_standing_for (T : Top K mg) : FnOk P w K mg base CX0 2 T.f_fours_standing_for T.fd_fours_standing_for ["fours"] (spHL (D_fours K)) := by
  have G_by_remainder : FnOk P w K mg base CX0 1 T.f_by_remainder T.fd_by_remainder ["numbers", "divisor"] (spSplit K) := ok_by_remainder T
  refine T.F_fours_standing_for.ok sc_fours_standing_for (fun vs H Q E h => ?_) (fun cdv A outer s H vs Q E hr h => ?_)
  · obtain ⟨z, ⟨l, fs, rfl, _⟩, _⟩ := h; rfl
  · obtain ⟨z, ⟨l, fs, rfl, hL, hz, rfl⟩, q⟩ := h
    refine ⟨_, (pss_cons (ps_set (i := 1) sc_fours_standing_for.nd rfl (Or.inl rfl) (pe_lst pa_nil))
      (pss_cons (ps_for PassesOwn.never rfl (pi_items (pe_frz (pe_call G_by_remainder (hr.mono (by first | decide | omega)) (by rfl) T.g_by_remainder T.F_by_remainder.kp T.b_by_remainder .nil pass0 (pa_cons (pe_callB (r := rSortedA w) (cr_sortedA rfl) (by rfl) T.z_sorted (by decide +kernel) (pa_cons (pe_scI (own := [("four", 4)]) (g := gName 4) (tt := tYes) rfl sc_fours_standing_for.nd (pi_list (pv 0)) (blkOk_by (own := [("four", 4)]) (N := ["fours", "kept", "remainder", "centuries", "four"]) (sc := defScope s_fours_standing_for) (by decide +kernel)) (fun _ _ _ _ _ => (pg_name (i := 4) sc_fours_standing_for.nd rfl (Or.inl rfl))) (fun _ _ _ _ _ => pts_nil) (fun _ _ _ _ _ => (pe_op op_mod (pv 4) pe_int))) pa_nil)) (pa_cons pe_int pa_nil))))) (pg_tup rfl (pgs_cons (pg_name (i := 2) sc_fours_standing_for.nd rfl (Or.inl rfl)) (pgs_cons (pg_name (i := 3) sc_fours_standing_for.nd rfl (Or.inl rfl)) pgs_nil))) (pss_one (ps_if (pt_cmpR op_eq (pe_callB (r := rLenS K) call_len_seq (by rfl) T.z_len PySem.boot_len (pa_cons (pv 3) pa_nil)) pe_int (nomark _)) (pss_one (ps_expr (pe_bm PySem.F.plainAttrs_list PySem.F.slot_list_append PySem.F.type_list_append mt_append (pv 1) (pa_cons (pe_op op_add (pv 2) (pe_op op_mulW pe_int (pe_ix (r := rIxL K) ix_list (pv 3) pe_int (fun _ _ => rfl)))) pa_nil)))) (pss_one (ps_expr (pe_bm PySem.F.plainAttrs_list PySem.F.slot_list_extend PySem.F.type_list_extend mt_extend (pv 1) (pa_cons (pe_lst (pa_cons (pv 2) (pa_cons (pe_op op_add (pv 2) pe_int) pa_nil))) pa_nil)))))))
      (pss_one (ps_ret (pv 1))))), ?_⟩
    have hsl : (srt (fs.map fun z => z % 100)).length ≤ 1000 := by
      have := srt_len' (fs.map fun z => z % 100)
      rw [List.length_map] at this; omega
    refine f_seq (s_asgL (el_lst ea_nil (Nat.zero_le _)) fun pk H1 npk e1 h1 => ?_)
    with_reducible refine f_seq ?_
    refine f_forItems ?_
    refine f_call (f_cons (f_evL (el_sortedSc (fun z => z % 100) (ev_var rfl) (ex_l e1 hL) hz (fun _ => rfl) fun x H2 => ev_op (ev_var rfl) ev_c (rv_mod (by decide))) fun ps H2 nps e2 h2 => f_cons (f_c (f_nil ?_))))
    refine ⟨ps, srt (fs.map fun z => z % 100), 25, rfl, sq_of h2, by decide, by decide, by omega, fun a kvs H3 na e3 ha hG => ⟨a, .dK kvs, rfl, ha, trivial, fun od => ⟨a, od, kvs, rfl, upd_same, ?_⟩⟩⟩
    have hk2 : H2 pk = some (.lst []) := e2 _ _ h1
    have hak : a ≠ pk := (ne_of_none hk2 na).symm
    have hG4 : GAt H2 (upd H3 a (.frz od (.dK kvs))) kvs (grp 25 (srt (fs.map fun z => z % 100))) := hG.keep fun kv hkv p xs _ h => by
      rw [upd_ne (fun z => by rw [z, ha] at h; cases h)]; exact h
    have hk4 : (upd H3 a (.frz od (.dK kvs))) pk = some (.lst []) := by rw [upd_ne hak.symm]; exact e3 _ _ hk2
    have hold : Ex H (upd H3 a (.frz od (.dK kvs))) := fun b o g => by
      have g2 := e2 _ _ (e1 _ _ g)
      rw [upd_ne (fun z => by rw [z, na] at g2; cases g2)]; exact e3 _ _ g2
    have hG5 : (upd H3 a (.frz od (.dK kvs))) a = some (.frz od (.dK kvs)) := upd_same
    generalize upd H3 a (.frz od (.dK kvs)) = G at hG4 hk4 hold hG5
    have hgl : (grp 25 (srt (fs.map fun z => z % 100))).length ≤ 1000 := by
      have := grp_len 25 (srt (fs.map fun z => z % 100)) (srt (fs.map fun z => z % 100)).length
      rw [List.take_length] at this; omega
    have hmem : ∀ (x : Int × List Int) (u : Int), x ∈ grp 25 (srt (fs.map fun z => z % 100)) → u ∈ x.2 → 0 ≤ u ∧ u < 4 := fun x u hx hu => by
      obtain ⟨n, n1, n2, n3⟩ := grp_mem hx hu
      obtain ⟨z, _, rfl⟩ := List.mem_map.mp (mem_srt.mp n1)
      omega
    refine for_grp (H0 := H2) (gs := grp 25 (srt (fs.map fun z => z % 100))) hG5 hG4 ⟨_, hk2⟩ hak (fun n τ U => ∃ v2 v3 : Option V, τ = [some (.ref l), some (.ref pk), v2, v3, none] ∧ U pk = some (.lst ((((grp 25 (srt (fs.map fun z => z % 100))).take n).flatMap oneG).map V.int)))
      ⟨none, none, rfl, hk4⟩ (fun n x p τ U hx ⟨v2, v3, hτ, hU⟩ kr hp T' hT => ?_) fun τ U ⟨v2, v3, hτ, hU⟩ kr => ?_
    · subst hτ
      have hn : n < 1000 := by have := (List.getElem?_eq_some_iff.mp hx).1; omega
      have hfl := flat_len (grp 25 (srt (fs.map fun z => z % 100))) n
      have eT := Ex.new (o := .tup [.int x.1, .ref p]) hT
      rw [flat_take hx]
      generalize ((grp 25 (srt (fs.map fun z => z % 100))).take n).flatMap oneG = acc at hU hfl
      have stay {V1 : Hp} {o : HO} (e : Ex (upd U T' (.tup [.int x.1, .ref p])) V1) : Kr pk G (upd V1 pk o) := fun b u g1 g => by
        rw [upd_ne g1]; exact e _ _ (eT _ _ (kr b u g1 g))
      refine s_if (et_test (ev_op (ev_lenS (ev_var rfl) (.inl (sq_of (eT _ _ hp)))) ev_c rv_eqI)) (fun hb H5 e5 => ?_) fun hb H5 e5 => ?_
      · have hb' : x.2.length = 1 := by
          have z : ((x.2.map V.int).length : Int) = 1 := of_decide_eq_true hb
          rw [List.length_map] at z; omega
        obtain ⟨u, hu⟩ := List.length_eq_one_iff.mp hb'
        have hub := hmem x u (List.mem_of_getElem? hx) (by rw [hu]; exact List.mem_cons_self ..)
        have ho : oneG x = [x.1 + 25 * u] := by unfold oneG; rw [if_pos hb', hu]; rfl
        rw [ho]
        refine s_app (e5 _ _ (eT _ _ hU)) (ev_var rfl) (ev_op (ev_var rfl) (ev_op ev_c (ev_op (ev_var rfl) ev_c (rv_ixL (sq_of (e5 _ _ (eT _ _ hp))) (atI_nat (j := 0) (v := .int u) (by rw [hu]; rfl)))) (rv_mul (by decide) (Nat.le_trans (by omega : u.natAbs ≤ 4) (by decide +kernel)))) rv_I0) (by rw [List.length_map]; omega) fun H6 e6 => ⟨⟨_, _, rfl, ?_⟩, stay (e5.trans e6)⟩
        rw [upd_same, List.map_append]; rfl
      · have hb' : ¬ x.2.length = 1 := fun e => by
          have z : ¬ ((x.2.map V.int).length : Int) = 1 := of_decide_eq_false hb
          rw [List.length_map] at z; omega
        have ho : oneG x = [x.1, x.1 + 25] := by unfold oneG; rw [if_neg hb']
        rw [ho]
        refine f_drop (f_bm (f_var rfl (f_tyL (e5 _ _ (eT _ _ hU)) (f_cons (f_evL (el_lst (ea_cons (ev_var rfl) (ea_cons (ev_op (ev_var rfl) ev_c rv_I0) ea_nil)) (by show 2 ≤ 100000; decide)) fun pe H6 _ e6 h6 => f_nil ?_)))))
        refine ⟨pk, pe, _, _, rfl, rfl, e6 _ _ (e5 _ _ (eT _ _ hU)), h6, sz_of (by rw [List.length_map]; simp; omega), ⟨⟨_, _, rfl, ?_⟩, stay (e5.trans e6)⟩⟩
        rw [upd_same, List.map_append]; rfl
    · subst hτ
      rw [List.take_length] at hU
      refine s_ret (ev_var rfl) fun H6 e6 => q pk H6 npk (fun b o g => e6 _ _ (kr b o (ne_of_none g npk) (hold _ _ g))) (e6 _ _ hU)

/-- what the years of a month keep -/
def yearsOf (ys : List Int) : List Int :=
  if (ys.map fun y => !decide (y % 4 = ys.headD 0 % 4)).any id = true then [0, 1]
  else if (foursOf (ys.map fun y => y / 4)).length = 50 then [0, 1]
  else (foursOf (ys.map fun y => y / 4)).map fun f => ys.headD 0 % 4 + 4 * f
def D_years (K : PySem.W.Frag) (H : Hp) (vs xs : List V) : Prop := ∃ (l : Addr) (ys : List Int), vs = [.ref l] ∧ SqL K H l (ys.map V.int) ∧ ys ≠ [] ∧ ys.length ≤ 1000 ∧ xs = (yearsOf ys).map V.int
theorem foursOf_mem {fs : List Int} {z : Int} (h : z ∈ foursOf fs) : 0 ≤ z ∧ z < 125 := by
  unfold foursOf at h
  obtain ⟨x, hx, hz⟩ := List.mem_flatMap.mp h
  have key : ∀ u, u ∈ x.2 → 0 ≤ x.1 ∧ x.1 < 25 ∧ 0 ≤ u ∧ u < 4 := fun u hu => by
    obtain ⟨n, n1, n2, n3⟩ := grp_mem hx hu
    obtain ⟨y, _, rfl⟩ := List.mem_map.mp (mem_srt.mp n1)
    omega
  obtain ⟨u, r, hu⟩ : ∃ u r, x.2 = u :: r := by
    cases e : x.2 with
    | nil => exact absurd e (grp_ne _ _ x hx)
    | cons u r => exact ⟨u, r, rfl⟩
  have k := key u (by rw [hu]; exact List.mem_cons_self ..)
  unfold oneG at hz
  split at hz
  · rw [hu] at hz
    have := List.mem_singleton.mp hz
    show 0 ≤ z ∧ z < 125
    rw [this]
    show 0 ≤ x.1 + 25 * u ∧ x.1 + 25 * u < 125
    omega
  · rcases List.mem_cons.mp hz with rfl | hz
    · omega
    · have := List.mem_singleton.mp hz
      omega
theorem foursOf_len (fs : List Int) (h : fs.length ≤ 1000) : (foursOf fs).length ≤ 2000 := by
  have a := flat_len (grp 25 (srt (fs.map fun z => z % 100))) (grp 25 (srt (fs.map fun z => z % 100))).length
  have b := grp_len 25 (srt (fs.map fun z => z % 100)) (srt (fs.map fun z => z % 100)).length
  have c := srt_len' (fs.map fun z => z % 100)
  rw [List.take_length] at a b
  rw [List.length_map] at c
  unfold foursOf
  omega
theorem ok_standing_for (T : Top K mg) : FnOk P w K mg base CX0 3 T.f_standing_for T.fd_standing_for ["years"] (spHL (D_years K)) := by
  have G_fours_standing_for : FnOk P w K mg base CX0 2 T.f_fours_standing_for T.fd_fours_standing_for ["fours"] (spHL (D_fours K)) := ok_fours_standing_for T
  refine T.F_standing_for.ok sc_standing_for (fun vs H Q E h => ?_) (fun cdv A outer s H vs Q E hr h => ?_)
  · obtain ⟨z, ⟨l, ys, rfl, _⟩, _⟩ := h; rfl
  · obtain ⟨z, ⟨l, ys, rfl, hL, hne, hz, rfl⟩, q⟩ := h
    refine ⟨_, (pss_cons (ps_set (i := 1) sc_standing_for.nd rfl (Or.inr rfl) (pe_op op_mod (pe_ix (r := rIxL K) ix_list (pv 0) pe_int (fun _ _ => rfl)) pe_int))
      (pss_cons (ps_if (pt_val (pe_callB (r := rAny K) (cr_any rfl) (by rfl) T.z_any (by decide +kernel) (pa_cons (pe_lc (own := [("year", 4)]) (g := gName 4) (tt := tYes) rfl sc_standing_for.nd (pi_list (pv 0)) (blkOk_by (own := [("year", 4)]) (N := ["years", "remainder", "fours", "four", "year"]) (sc := defScope s_standing_for) (by decide +kernel)) (fun _ _ _ _ _ => (pg_name (i := 4) sc_standing_for.nd rfl (Or.inl rfl))) (fun _ _ _ _ _ => pts_nil) (fun _ _ _ _ _ => (pe_cmpR op_ne (pe_op op_mod (pv 4) pe_int) (pv 1) (nomark _)))) pa_nil))) (pss_one (ps_ret (pe_callTy call_list_of (by rfl) T.z_list (by decide +kernel) (pa_cons (pe_glob (v := .ref T.a_NEVER_LEAP) (by rfl) T.g_NEVER_LEAP rfl) pa_nil)))) pss_nil)
      (pss_cons (ps_set (i := 2) sc_standing_for.nd rfl (Or.inl rfl) (pe_call G_fours_standing_for (hr.mono (by first | decide | omega)) (by rfl) T.g_fours_standing_for T.F_fours_standing_for.kp T.b_fours_standing_for .nil pass0 (pa_cons (pe_lc (own := [("year", 4)]) (g := gName 4) (tt := tYes) rfl sc_standing_for.nd (pi_list (pv 0)) (blkOk_by (own := [("year", 4)]) (N := ["years", "remainder", "fours", "four", "year"]) (sc := defScope s_standing_for) (by decide +kernel)) (fun _ _ _ _ _ => (pg_name (i := 4) sc_standing_for.nd rfl (Or.inl rfl))) (fun _ _ _ _ _ => pts_nil) (fun _ _ _ _ _ => (pe_op op_fdivW (pv 4) pe_int))) pa_nil)))
      (pss_cons (ps_if (pt_cmpR op_eq (pe_callB (r := rLenS K) call_len_seq (by rfl) T.z_len PySem.boot_len (pa_cons (pv 2) pa_nil)) pe_int (nomark _)) (pss_one (ps_ret (pe_callTy call_list_of (by rfl) T.z_list (by decide +kernel) (pa_cons (pe_glob (v := .ref T.a_NEVER_LEAP) (by rfl) T.g_NEVER_LEAP rfl) pa_nil)))) pss_nil)
      (pss_one (ps_ret (pe_lc (own := [("four", 3)]) (g := gName 3) (tt := tYes) rfl sc_standing_for.nd (pi_list (pv 2)) (blkOk_by (own := [("four", 3)]) (N := ["years", "remainder", "fours", "four", "year"]) (sc := defScope s_standing_for) (by decide +kernel)) (fun _ _ _ _ _ => (pg_name (i := 3) sc_standing_for.nd rfl (Or.inl rfl))) (fun _ _ _ _ _ => pts_nil) (fun _ _ _ _ _ => (pe_op op_add (pv 1) (pe_op op_mulW pe_int (pv 3))))))))))), ?_⟩
    obtain ⟨y0, yr, hy⟩ : ∃ u r, ys = u :: r := by
      cases ys with
      | nil => exact absurd rfl hne
      | cons u r => exact ⟨u, r, rfl⟩
    have hd : ys.headD 0 = y0 := by rw [hy]; rfl
    unfold yearsOf at q
    rw [hd] at q
    refine f_seq (s_asg (ev_op (ev_op (ev_var rfl) ev_c (rv_ixL hL (atI_nat (j := 0) (v := .int y0) (by rw [hy]; rfl)))) ev_c (rv_mod (by decide))) fun H1 e1 => ?_)
    with_reducible refine f_seq ?_
    refine s_if (et_B (ev_anyM (fun y => !decide (y % 4 = y0 % 4)) (el_lcI (fun y => V.bl (!decide (y % 4 = y0 % 4))) (ev_var rfl) (ex_l e1 hL) (by omega) (fun _ => rfl) fun x H2 _ _ => ev_op (ev_op (ev_var rfl) ev_c (rv_mod (by decide))) (ev_var rfl) rv_neI))) (fun hb H2 e2 => ?_) fun hb H2 e2 => f_next ?_
    · rw [if_pos hb] at q
      exact s_retL (el_listT ev_c (fun H3 => T.q_NEVER_LEAP H3)) fun p H3 hp e3 h3 => q p H3 (fresh_back (e1.trans e2) hp) ((e1.trans e2).trans e3) h3
    rw [if_neg (by rw [hb]; decide)] at q
    have x2 := e1.trans e2
    refine f_seq (s_asgL (el_callHL (el_lcI (fun y => V.int (y / 4)) (ev_var rfl) (ex_l x2 hL) (by omega) (fun _ => rfl) fun x H3 _ _ => ev_op (ev_var rfl) ev_c (rv_div (by decide) (by decide))) fun p H3 e3 h3 => ⟨p, ys.map fun y => y / 4, rfl, sq_of (by rw [List.map_map]; exact h3), by rw [List.length_map]; exact hz, rfl⟩) fun pf H4 npf e4 h4 => ?_)
    have hfl := foursOf_len (ys.map fun y => y / 4) (by rw [List.length_map]; exact hz)
    have hfm : ∀ z, z ∈ foursOf (ys.map fun y => y / 4) → 0 ≤ z ∧ z < 125 := fun z h => foursOf_mem h
    generalize foursOf (ys.map fun y => y / 4) = fs at h4 hfl hfm q
    have x4 := x2.trans e4
    refine f_seq (s_if (et_test (ev_op (ev_lenS (ev_var rfl) (.inl (sq_of h4))) ev_c rv_eqI)) (fun hb H5 e5 => ?_) fun hb H5 e5 => f_next ?_)
    · have hb' : fs.length = 50 := by
        have z : ((fs.map V.int).length : Int) = 50 := of_decide_eq_true hb
        rw [List.length_map] at z; omega
      rw [if_pos hb'] at q
      exact s_retL (el_listT ev_c (fun H6 => T.q_NEVER_LEAP H6)) fun p H6 hp e6 h6 => q p H6 (fresh_back (x4.trans e5) hp) ((x4.trans e5).trans e6) h6
    · have hb' : ¬ fs.length = 50 := fun e => by
        have z : ¬ ((fs.map V.int).length : Int) = 50 := of_decide_eq_false hb
        rw [List.length_map] at z; omega
      rw [if_neg hb', List.map_map] at q
      exact s_retL (el_lcI (fun f => V.int (y0 % 4 + 4 * f)) (ev_var rfl) (sq_of (e5 _ _ h4)) (by omega) (fun _ => rfl) fun x H6 _ hx => ev_op (ev_var rfl) (ev_op ev_c (ev_var rfl) (rv_mul (by decide) (Nat.le_trans (by have := hfm x hx; omega : x.natAbs ≤ 125) (by decide +kernel)))) rv_I0) fun p H6 hp e6 h6 => q p H6 (fresh_back (x4.trans e5) hp) ((x4.trans e5).trans e6) h6

/-! the years that stand for those visited -/
def standG (g : Int × List Int) : Int × List Int := (g.1, yearsOf g.2)
def standOf (ks : List Int) : List (Int × List Int) := (grp 12 (srt (sums ks))).map standG
def spStand (K : PySem.W.Frag) : Sp := fun vs H Q _ => ∃ (l : Addr) (ks : List Int), vs = [.ref l] ∧ SqL K H l (ks.map V.int) ∧ ks.length ≤ 900 ∧
  ∀ (a : Addr) (kvs : List (Key × V)) (H' : Hp), H a = none → Ex H H' → H' a = some (.dK kvs) → GAt H H' kvs (standOf ks) → Q (.ref a) H'
theorem ok_standing_years (T : Top K mg) : FnOk P w K mg base CX0 4 T.f_standing_years T.fd_standing_years ["steps"] (spStand K) := by
  have G_by_remainder : FnOk P w K mg base CX0 1 T.f_by_remainder T.fd_by_remainder ["numbers", "divisor"] (spSplit K) := ok_by_remainder T
  have G_visits : FnOk P w K mg base CX0 1 T.f_visits T.fd_visits ["steps"] (spHL (D_visits K)) := ok_visits T
  have G_standing_for : FnOk P w K mg base CX0 3 T.f_standing_for T.fd_standing_for ["years"] (spHL (D_years K)) := ok_standing_for T
  refine T.F_standing_years.ok sc_standing_years (fun vs H Q E h => ?_) (fun cdv A outer s H vs Q E hr h => ?_)
  · obtain ⟨l, ks, rfl, _⟩ := h; rfl
  · obtain ⟨l, ks, rfl, hL, hz, q⟩ := h
    refine ⟨_, (pss_cons (ps_set (i := 1) sc_standing_years.nd rfl (Or.inr rfl) (pe_call G_by_remainder (hr.mono (by first | decide | omega)) (by rfl) T.g_by_remainder T.F_by_remainder.kp T.b_by_remainder .nil pass0 (pa_cons (pe_call G_visits (hr.mono (by first | decide | omega)) (by rfl) T.g_visits T.F_visits.kp T.b_visits .nil pass0 (pa_cons (pv 0) pa_nil)) (pa_cons pe_int pa_nil))))
      (pss_one (ps_ret (pe_dc (own := [("month", 2)]) (g := gName 2) (tt := tYes) rfl sc_standing_years.nd (pi_keys (pe_frz (pv 1))) (blkOk_by (own := [("month", 2)]) (N := ["steps", "groups", "month"]) (sc := defScope s_standing_years) (by decide +kernel)) (fun _ _ _ _ _ => (pg_name (i := 2) sc_standing_years.nd rfl (Or.inl rfl))) (fun _ _ _ _ _ => pts_nil) (fun _ _ _ _ _ => (pv 2)) (fun _ _ _ _ _ => (pe_call G_standing_for (hr.mono (by first | decide | omega)) (by rfl) T.g_standing_for T.F_standing_for.kp T.b_standing_for .nil pass0 (pa_cons (pe_dget (hu_of hr) (pv 1) (pv 2) (fun _ _ => rfl)) pa_nil))))))), ?_⟩
    have hsl : (srt (sums ks)).length ≤ 1000 := by
      have := srt_len' (sums ks)
      have d : (sums ks).length = ks.length + 1 := sumsTo_len ks _
      omega
    with_reducible refine f_seq ?_
    with_reducible refine f_asg ?_
    refine f_call (f_cons (f_evL (el_callH (ea_cons (ev_var rfl) ea_nil) fun H2 e2 => ⟨l, ks, rfl, ex_l e2 hL, by omega, rfl⟩) fun ps H2 nps e2 h2 => f_cons (f_c (f_nil ?_))))
    refine ⟨ps, srt (sums ks), 12, rfl, sq_of h2, by decide, by decide, by omega, fun a kvs H3 na e3 ha hG => ?_⟩
    with_reducible refine f_gName ?_
    with_reducible refine f_ret ?_
    refine f_dc (f_keys (f_frz (f_var rfl ⟨a, .dK kvs, rfl, ha, trivial, fun od => ⟨a, od, rfl, .inl ⟨kvs, upd_same, fun D nD => ?_⟩⟩⟩)))
    have hG4 : GAt H2 (upd H3 a (.frz od (.dK kvs))) kvs (grp 12 (srt (sums ks))) := hG.keep fun kv hkv p xs _ h => by
      rw [upd_ne (fun z => by rw [z, ha] at h; cases h)]; exact h
    have hold : Ex H (upd H3 a (.frz od (.dK kvs))) := fun b o g => by
      have g2 := e2 _ _ g
      rw [upd_ne (fun z => by rw [z, na] at g2; cases g2)]; exact e3 _ _ g2
    have hG5 : (upd H3 a (.frz od (.dK kvs))) a = some (.frz od (.dK kvs)) := upd_same
    generalize upd H3 a (.frz od (.dK kvs)) = G at hG4 hold hG5 nD
    have hne := grp_ne 12 (srt (sums ks))
    have hsh : ∀ x, x ∈ grp 12 (srt (sums ks)) → x.2.length ≤ 1000 := fun x hx => by
      have z := grp_short 12 (srt (sums ks)) (srt (sums ks)).length x (by rw [List.take_length]; exact hx)
      omega
    have hnd := grp_nodup 12 (srt (sums ks))
    have hgl : (grp 12 (srt (sums ks))).length ≤ 1000 := by
      have := grp_len 12 (srt (sums ks)) (srt (sums ks)).length
      rw [List.take_length] at this; omega
    have hkl := hG4.len
    have nDH : H D = none := fresh_back hold nD
    have eq : standOf ks = (grp 12 (srt (sums ks))).map standG := rfl
    rw [eq] at q
    generalize grp 12 (srt (sums ks)) = gs at hG4 hne hsh hnd hgl hkl q
    refine ⟨fun i m U => m = kvs.length - i ∧ i ≤ kvs.length ∧ ∃ dvs, U D = some (.dK dvs) ∧ Ex G U ∧ GAt H U dvs ((gs.take i).map standG), ⟨_, rfl, Nat.zero_le _, [], upd_same, Ex.new nD, .nil⟩, ?_⟩
    rintro i m U ⟨rfl, hi, dvs, hD, eU, gU⟩
    by_cases hlt : i < kvs.length
    · refine .inr ⟨⟨eU _ _ hG5, hlt⟩, fun U' => ∃ dvs, U' D = some (.dK dvs) ∧ Ex G U' ∧ GAt H U' dvs ((gs.take (i + 1)).map standG), fun U' z => ⟨kvs.length - (i + 1), by omega, rfl, hlt, z⟩, ?_⟩
      rintro x U' ⟨rfl, k, v, hkv, rfl⟩
      have hx : gs[i]? = some gs[i] := List.getElem?_eq_getElem (hkl ▸ hlt)
      have hxm := List.mem_of_getElem? hx
      generalize gs[i] = g at hx hxm
      obtain ⟨p, h1, h2, h3, h4⟩ := hG4.some_ hnd hx
      rw [h1] at hkv
      cases hkv
      refine ⟨rfl, f_yes ?_⟩
      rw [if_pos rfl]
      refine f_var rfl ?_
      refine f_call (f_cons (f_var rfl (f_var rfl ⟨a, .ref p, rfl, .inl ⟨kvs, .inl g.1, .inr ⟨od, eU _ _ hG5⟩, rfl, h2.symm⟩, f_nil ?_⟩)))
      refine ⟨(yearsOf g.2).map V.int, ⟨p, g.2, rfl, sq_of (eU _ _ h4), hne g hxm, hsh g hxm, rfl⟩, fun r U5 nr e5 h5 => ⟨dvs, .inl g.1, rfl, e5 _ _ hD, ?_, ?_⟩⟩
      · rw [gU.len, List.length_map, List.length_take]
        exact Nat.lt_of_le_of_lt (by omega : _ ≤ 1000) (by decide)
      · have nv : valV dvs (.inl g.1 : Key) = none := gU.none_ (by
          rw [List.map_map]
          intro z
          obtain ⟨y, hy, hyg⟩ := List.mem_map.mp z
          obtain ⟨j, hj, hjy⟩ := List.getElem_of_mem hy
          rw [List.length_take] at hj
          rw [List.getElem_take] at hjy
          have e1 : (gs.map Prod.fst)[j]? = some g.1 := by
            rw [List.getElem?_map, List.getElem?_eq_getElem (by omega), hjy]
            exact congrArg some hyg
          have e2 : (gs.map Prod.fst)[i]? = some g.1 := by rw [List.getElem?_map, hx]; rfl
          have hji := (List.getElem?_inj (by rw [List.length_map]; omega) hnd).mp (e1.trans e2.symm)
          omega)
        have rD : r ≠ D := fun z => by rw [z, hD] at nr; cases nr
        rw [putK_new _ nv]
        refine ⟨_, upd_same, fun b o z => by rw [upd_ne (ne_of_none z nD)]; exact e5 _ _ (eU _ _ z), ?_⟩
        rw [List.take_add_one, hx, List.map_append]
        refine GAt.snoc (fresh_back (hold.trans eU) nr) (by rw [upd_ne rD]; exact h5) ((gU.ex_ e5).keep fun kv hkv q xs e h' => by
          rw [upd_ne (fun z => by rw [z, e5 _ _ hD] at h'; cases h')]; exact h') fun kv hkv z => ?_
        obtain ⟨r2, l2, e6, h6⟩ := gU.news kv hkv
        rw [e6] at z
        cases z
        rw [nr] at h6; cases h6
    · have e : i = kvs.length := by omega
      subst e
      rw [hkl, List.take_length] at gU
      exact .inl ⟨⟨eU _ _ hG5, Nat.le_refl _⟩, q D dvs U nDH (hold.trans eU) hD gU⟩

/-! the normal form -/
def insS (k : Int) : List Int → List Int
  | [] => [k]
  | x :: r => if k ≤ x then k :: x :: r else x :: insS k r
/-- the list, ascending -/
def asc (ns : List Int) : List Int := ns.foldr insS []
theorem insS_perm (k : Int) : ∀ l : List Int, (insS k l).Perm (k :: l)
  | [] => List.Perm.refl _
  | x :: r => by
    unfold insS
    split
    · exact List.Perm.refl _
    · exact (List.Perm.cons x (insS_perm k r)).trans (List.Perm.swap k x r)
theorem asc_perm : ∀ ns : List Int, (asc ns).Perm ns
  | [] => List.Perm.refl _
  | x :: r => (insS_perm x (asc r)).trans (List.Perm.cons x (asc_perm r))
theorem insS_pw {k : Int} : ∀ {l : List Int}, l.Pairwise (· ≤ ·) → (insS k l).Pairwise (· ≤ ·)
  | [], _ => by simp [insS]
  | x :: r, h => by
    have h1 := List.pairwise_cons.mp h
    unfold insS
    split
    · next hk => exact List.pairwise_cons.mpr ⟨fun y hy => by
        rcases List.mem_cons.mp hy with rfl | hy
        · exact hk
        · exact Int.le_trans hk (h1.1 y hy), h⟩
    · next hk => exact List.pairwise_cons.mpr ⟨fun y hy => by
        rcases List.mem_cons.mp ((insS_perm k r).mem_iff.mp hy) with rfl | hy
        · omega
        · exact h1.1 y hy, insS_pw h1.2⟩
theorem asc_pw : ∀ ns : List Int, (asc ns).Pairwise (· ≤ ·)
  | [] => List.Pairwise.nil
  | x :: r => insS_pw (asc_pw r)
theorem asc_one : ∀ {as bs : List Int}, as.Pairwise (· ≤ ·) → bs.Pairwise (· ≤ ·) → as.Perm bs → as = bs
  | [], bs, _, _, p => (List.nil_perm.mp p).symm ▸ rfl
  | a :: as, [], _, _, p => absurd p.length_eq (by simp)
  | a :: as, b :: bs, ha, hb, p => by
    have a1 := List.pairwise_cons.mp ha
    have b1 := List.pairwise_cons.mp hb
    have e : a = b := by
      have h1 : a ≤ b := by
        rcases List.mem_cons.mp (p.mem_iff.mpr (List.mem_cons_self ..)) with h | h
        · omega
        · exact a1.1 b h
      have h2 : b ≤ a := by
        rcases List.mem_cons.mp (p.mem_iff.mp (List.mem_cons_self ..)) with h | h
        · omega
        · exact b1.1 a h
      omega
    subst e
    rw [asc_one a1.2 b1.2 (List.perm_cons a |>.mp p)]
def keepS (g : Int × List Int) : List Int := g.2.map fun y => 12 * y + g.1
def keptOf (ks : List Int) : List Int := (standOf ks).flatMap keepS
def nfOf (ks : List Int) : List Int := asc (keptOf ks)
theorem keep_take {gs : List (Int × List Int)} {n : Nat} {x : Int × List Int} (h : gs[n]? = some x) : (gs.take (n + 1)).flatMap keepS = (gs.take n).flatMap keepS ++ keepS x := by
  rw [List.take_add_one, h, List.flatMap_append]
  simp
def totG (gs : List (Int × List Int)) : Nat := (gs.map fun g => g.2.length).sum
theorem putG_tot (k v : Int) : ∀ g : List (Int × List Int), totG (putG g k v) = totG g + 1
  | [] => rfl
  | (j, l) :: g => by
    have ih := putG_tot k v g
    unfold putG
    split
    · simp only [totG, List.map_cons, List.sum_cons, List.length_append, List.length_singleton]; omega
    · simp only [totG, List.map_cons, List.sum_cons] at ih ⊢; omega
theorem grp_tot (d : Int) (ns : List Int) : totG (grp d ns) = ns.length := by
  have key : ∀ i, i ≤ ns.length → totG (grp d (ns.take i)) = i := fun i => by
    induction i with
    | zero => intro _; rfl
    | succ i ih =>
      intro hi
      rw [grp_take (List.getElem?_eq_getElem (show i < ns.length by omega)), putG_tot, ih (by omega)]
  have z := key ns.length (Nat.le_refl _)
  rw [List.take_length] at z
  exact z
theorem flat_tot : ∀ gs : List (Int × List Int), (∀ x, x ∈ gs → x.2 ≠ []) → (gs.flatMap oneG).length ≤ totG gs
  | [], _ => by simp [totG]
  | g :: gs, h => by
    have ih := flat_tot gs fun x hx => h x (List.mem_cons_of_mem _ hx)
    have hg := List.length_pos_iff.mpr (h g (List.mem_cons_self ..))
    have h1 : (oneG g).length ≤ g.2.length := by
      unfold oneG
      split
      · simp; omega
      · simp; omega
    rw [List.flatMap_cons, List.length_append]
    simp only [totG, List.map_cons, List.sum_cons] at ih ⊢
    omega
theorem foursOf_le (fs : List Int) : (foursOf fs).length ≤ fs.length := by
  have a := flat_tot (grp 25 (srt (fs.map fun z => z % 100))) (grp_ne 25 _)
  have b := grp_tot 25 (srt (fs.map fun z => z % 100))
  have c := srt_len' (fs.map fun z => z % 100)
  rw [List.length_map] at c
  unfold foursOf
  omega
theorem yearsOf_len {ys : List Int} (h : ys ≠ []) : (yearsOf ys).length ≤ ys.length := by
  have h1 : 0 < ys.length := List.length_pos_iff.mpr h
  have h2 := foursOf_le (ys.map fun y => y / 4)
  rw [List.length_map] at h2
  unfold yearsOf
  split
  · next hb =>
    show 2 ≤ ys.length
    match ys, h1, hb with
    | [y], _, hb => simp at hb
    | _ :: _ :: _, _, _ => simp
  · split
    · next h50 => show 2 ≤ _; omega
    · rw [List.length_map]; exact h2
theorem keep_len : ∀ gs : List (Int × List Int), (∀ x, x ∈ gs → x.2 ≠ []) → ((gs.map standG).flatMap keepS).length ≤ totG gs
  | [], _ => by simp [totG]
  | g :: gs, h => by
    have ih := keep_len gs fun x hx => h x (List.mem_cons_of_mem _ hx)
    have h1 := yearsOf_len (h g (List.mem_cons_self ..))
    rw [List.map_cons, List.flatMap_cons, List.length_append]
    simp only [totG, List.map_cons, List.sum_cons] at ih ⊢
    have h2 : (keepS (standG g)).length = (yearsOf g.2).length := by unfold keepS standG; rw [List.length_map]
    omega
theorem keptOf_len (ks : List Int) : (keptOf ks).length ≤ ks.length + 1 := by
  have a := keep_len (grp 12 (srt (sums ks))) (grp_ne 12 (srt (sums ks)))
  have b := grp_tot 12 (srt (sums ks))
  have c := srt_len' (sums ks)
  have d : (sums ks).length = ks.length + 1 := sumsTo_len ks _
  unfold keptOf standOf
  omega
theorem yearsOf_bound {ys : List Int} {z : Int} (h : z ∈ yearsOf ys) : 0 ≤ z ∧ z < 1000 := by
  unfold yearsOf at h
  split at h
  · simp at h; omega
  · split at h
    · simp at h; omega
    · obtain ⟨f, hf, rfl⟩ := List.mem_map.mp h
      have := foursOf_mem hf
      omega
def spNF (K : PySem.W.Frag) : Sp := fun vs H Q _ => ∃ (l : Addr) (ks : List Int), vs = [.ref l] ∧ SqL K H l (ks.map V.int) ∧ ks.length ≤ 900 ∧
  ∀ (p m : Addr) (H' : Hp), H p = none → H m = none → Ex H H' → H' p = some (.tup [.int ks.sum, .ref m]) → H' m = some (.lst ((nfOf ks).map V.int)) → Q (.ref p) H'

/-! the second source of draws -/
theorem tenw : (10 : Int) ^ (60 : Int).toNat = 10 ^ 60 := rfl
theorem ok_law_rng (T : Top K mg) : FnOk P w K mg base CX0 1 T.f_law_rng T.fd_law_rng ["script"] (spRng K) := by
  refine T.F_law_rng.ok sc_law_rng (fun vs H Q E h => ?_) (fun cdv A outer s H vs Q E hr h => ?_)
  · obtain ⟨a, ns, rfl, _⟩ := h; rfl
  · obtain ⟨a, ns, rfl, hS, hlen, q⟩ := h
    refine ⟨_, (pss_cons (ps_asg (pe_tup (pa_cons pe_int (pa_cons pe_int pa_nil))) (pg_tup rfl (pgs_cons (pg_name (i := 1) sc_law_rng.nd rfl (Or.inl rfl)) (pgs_cons (pg_name (i := 2) sc_law_rng.nd rfl (Or.inl rfl)) pgs_nil))))
      (pss_cons (ps_for PassesOwn.never rfl (pi_list (pe_slice (r := rSlL K) sl_list (pv 0) po_none (po_some pe_int))) (pg_name (i := 3) sc_law_rng.nd rfl (Or.inl rfl)) (pss_cons (ps_set (i := 4) sc_law_rng.nd rfl (Or.inl rfl) (pe_callB call_abs (by rfl) T.z_abs (by decide +kernel) (pa_cons (pv 3) pa_nil)))
      (pss_cons (ps_if (pt_cmpR op_ge (pv 4) (pe_op op_pow pe_int pe_int) (nomark _)) (pss_one (ps_set (i := 1) sc_law_rng.nd rfl (Or.inl rfl) (pe_op op_add (pe_op op_mulW (pv 1) (pe_op op_pow pe_int pe_int)) (pe_op op_mod (pv 4) (pe_op op_pow pe_int pe_int))))) pss_nil)
      (pss_one (ps_set (i := 2) sc_law_rng.nd rfl (Or.inl rfl) (pe_op op_mod (pe_op op_add (pe_op op_add (pe_op op_mulW (pv 2) pe_int) (pe_op op_mod (pv 3) pe_int)) pe_int) pe_int))))))
      (pss_one (ps_ret (pe_lst (pa_cons (pv 1) (pa_cons (pv 2) (pa_cons pe_int pa_nil)))))))), ?_⟩
    refine f_seq (s_un2 (eu_tup (ea_cons ev_c (ea_cons ev_c ea_nil)) (by show 2 ≤ 100000; decide)) fun H0 e0 => ?_)
    refine f_seq (s_forNL (xs := (ns.take 63).map V.int) (el_take (n := 63) (ev_var rfl) ev_c (by decide) (ex_l e0 hS)) (fun p i σ H' => ∃ (dg sd : Int) (v3 v4 : Option V), σ = [some (.ref a), some (.int dg), some (.int sd), v3, v4] ∧ Ex H H' ∧ H' p = some (.lst ((ns.take 63).map V.int)) ∧ 0 ≤ dg ∧ dg.natAbs < 2 ^ (200 * i) ∧ 0 ≤ sd ∧ sd < 2 ^ 61)
      (fun p H1 np e1 h1 => ⟨0, 88675123, none, none, rfl, e0.trans e1, h1, by decide, Nat.two_pow_pos _, by decide, by decide⟩) (fun p i σ H' _ ⟨_, _, _, _, _, _, h, _⟩ => sq_of h) (fun p i x σ H' hx ⟨dg, sd, v3, v4, hσ, e, hp, d0, d1, s0, s1⟩ => ?_) fun p σ H' ⟨dg, sd, v3, v4, hσ, e, hp, d0, d1, s0, s1⟩ => ?_)
    · subst hσ
      rw [List.getElem?_map] at hx
      obtain ⟨cell, hc, rfl⟩ := Option.map_eq_some_iff.mp hx
      have hi : i < 63 := by
        have z := (List.getElem?_eq_some_iff.mp hc).1
        rw [List.length_take] at z; omega
      have dn : dg.natAbs < 2 ^ 12600 := Nat.lt_of_lt_of_le d1 (Nat.pow_le_pow_right (by decide) (by omega))
      refine f_gName (f_seq (s_asg (ev_cb (ea_cons (ev_var rfl) ea_nil) fun H2 _ Q' q' => ⟨_, rfl, q' H2 (Ex.refl H2)⟩) fun H2 e2 => ?_))
      have sdn (c : Int) : 0 ≤ (sd * 1000003 + c % 2305843009213693921 + 7) % 2305843009213693951 ∧ (sd * 1000003 + c % 2305843009213693921 + 7) % 2305843009213693951 < 2 ^ 61 := ⟨Int.emod_nonneg _ (by decide), Int.lt_of_lt_of_le (Int.emod_lt_of_pos _ (by decide)) (by decide)⟩
      have dle : dg.natAbs < 2 ^ (200 * (i + 1)) := Nat.lt_of_lt_of_le d1 (Nat.pow_le_pow_right (by decide) (by omega))
      have d60 (c : Int) : 0 ≤ dg * 10 ^ (60 : Int).toNat + c % 10 ^ (60 : Int).toNat ∧ (dg * 10 ^ (60 : Int).toNat + c % 10 ^ (60 : Int).toNat).natAbs < 2 ^ (200 * (i + 1)) := by
        rw [tenw]
        have c0 := Int.emod_nonneg c (show (10 : Int) ^ 60 ≠ 0 by decide)
        have c1 := Int.emod_lt_of_pos c (show (0 : Int) < 10 ^ 60 by decide)
        generalize c % 10 ^ 60 = u at c0 c1
        have z1 : (dg.natAbs + 1) * 10 ^ 60 ≤ 2 ^ (200 * i) * 2 ^ 200 := Nat.mul_le_mul d1 (by decide)
        rw [← Nat.pow_add, show 200 * i + 200 = 200 * (i + 1) by omega] at z1
        generalize 2 ^ (200 * (i + 1)) = P at z1
        omega
      refine f_seq (s_if (et_test (ev_op (ev_var rfl) (ev_op ev_c ev_c (rv_I (by unfold CPow; decide))) rv_I0)) (fun _ H3 e3 => ?_) (fun _ H3 e3 => ?_))
      · refine s_asg (ev_op (ev_op (ev_var rfl) (ev_op ev_c ev_c (rv_I (by unfold CPow; decide))) (rv_I (wide_mul (a := 12600) (b := 200) dn (by decide) (by decide) (by decide) (by decide)))) (ev_op (ev_var rfl) (ev_op ev_c ev_c (rv_I (by unfold CPow; decide))) (rv_mod (by decide))) rv_I0) fun H4 e4 => ?_
        refine s_asg (ev_op (ev_op (ev_op (ev_op (ev_var rfl) ev_c (rv_I (wide_mul (a := 61) (b := 20) (by omega) (by decide) (by decide) (by decide) (by decide)))) (ev_op (ev_var rfl) ev_c (rv_mod (by decide))) rv_I0) ev_c rv_I0) ev_c (rv_mod (by decide))) fun H5 e5 => ?_
        exact ⟨_, _, _, _, rfl, (((e.trans e2).trans e3).trans e4).trans e5, (((e2.trans e3).trans e4).trans e5) _ _ hp, (d60 _).1, (d60 _).2, (sdn _).1, (sdn _).2⟩
      · refine f_next ?_
        refine s_asg (ev_op (ev_op (ev_op (ev_op (ev_var rfl) ev_c (rv_I (wide_mul (a := 61) (b := 20) (by omega) (by decide) (by decide) (by decide) (by decide)))) (ev_op (ev_var rfl) ev_c (rv_mod (by decide))) rv_I0) ev_c rv_I0) ev_c (rv_mod (by decide))) fun H5 e5 => ?_
        exact ⟨_, _, _, _, rfl, ((e.trans e2).trans e3).trans e5, ((e2.trans e3).trans e5) _ _ hp, d0, dle, (sdn _).1, (sdn _).2⟩
    · subst hσ
      refine s_retL (el_lst (ea_cons (ev_var rfl) (ea_cons (ev_var rfl) (ea_cons ev_c ea_nil))) (by show 3 ≤ 100000; decide)) fun r H4 hr e4 h4 => ?_
      exact q r _ (fresh_back e hr) ⟨dg, sd, 0, h4, d0, s0, by omega, by decide, by decide⟩ (e.trans e4)
theorem ok_law_draw (T : Top K mg) : FnOk P w K mg base CX0 1 T.f_law_draw T.fd_law_draw ["rng", "limit"] spRdraw := by
  refine T.F_law_draw.ok sc_law_draw (fun vs H Q E h => ?_) (fun cdv A outer s H vs Q E hr h => ?_)
  · obtain ⟨r, many, B, rfl, _⟩ := h; rfl
  · obtain ⟨r, many, B, rfl, h0, hbig, S, q⟩ := h
    obtain ⟨dg, sd, t, hs, d0, s0, s1, t0, t1⟩ := S.ex
    refine ⟨_, (pss_cons (ps_if (pt_cmpR op_gt (pe_ix (r := rIxL K) ix_list (pv 0) pe_int (fun _ _ => rfl)) pe_int (nomark _)) (pss_cons (ps_set (i := 2) sc_law_draw.nd rfl (Or.inl rfl) (pe_op op_mod (pe_ix (r := rIxL K) ix_list (pv 0) pe_int (fun _ _ => rfl)) (pv 1)))
      (pss_cons (ps_asg (pe_op op_fdivW (pe_ix (r := rIxL K) ix_list (pv 0) pe_int (fun _ _ => rfl)) (pv 1)) (pg_sub (pv 0) pe_int set_list))
      (pss_one (ps_ret (pv 2))))) pss_nil)
      (pss_cons (ps_asg (pe_op op_add (pe_ix (r := rIxL K) ix_list (pv 0) pe_int (fun _ _ => rfl)) pe_int) (pg_sub (pv 0) pe_int set_list))
      (pss_cons (ps_set (i := 3) sc_law_draw.nd rfl (Or.inl rfl) (pe_op op_mod (pe_op op_pow (pe_op op_add (pe_ix (r := rIxL K) ix_list (pv 0) pe_int (fun _ _ => rfl)) (pe_op op_mulW pe_int (pe_ix (r := rIxL K) ix_list (pv 0) pe_int (fun _ _ => rfl)))) pe_int) pe_int))
      (pss_cons (ps_set (i := 3) sc_law_draw.nd rfl (Or.inl rfl) (pe_op op_mod (pe_op op_powW (pe_op op_add (pv 3) (pe_op op_mulW pe_int (pe_ix (r := rIxL K) ix_list (pv 0) pe_int (fun _ _ => rfl)))) pe_int) pe_int))
      (pss_one (ps_ret (pe_op op_mod (pe_op op_fdivW (pv 3) pe_int) (pv 1)))))))), ?_⟩
    refine f_seq (s_if (et_test (ev_op (ev_op (ev_var rfl) ev_c (rv_ixL (sq_of hs) (atI_nat (j := 0) rfl))) ev_c rv_I0)) (fun hb H2 e2 => ?_) fun hb H2 e2 => f_next ?_)
    · have hs2 := e2 _ _ hs
      refine f_seq (s_asg (ev_op (ev_op (ev_var rfl) ev_c (rv_ixL (sq_of hs2) (atI_nat (j := 0) rfl))) (ev_var rfl) (rv_mod h0)) fun H3 e3 => ?_)
      have hs3 := e3 _ _ hs2
      refine f_seq (s_setL (j := 0) hs3 (ev_op (ev_op (ev_var rfl) ev_c (rv_ixL (sq_of hs3) (atI_nat (j := 0) rfl))) (ev_var rfl) (rv_I (wide_div (b := 200) h0 (by omega) (by decide) (by decide)))) (ev_var rfl) ev_c (by show 0 < 3; decide) fun H4 e4 => ?_)
      refine s_ret (ev_var rfl) fun H5 e5 => ?_
      refine q _ _ (Int.emod_nonneg _ (by omega)) (Int.emod_lt_of_pos _ h0) (Rg.ex_ ⟨dg / many, sd, t, upd_same, Int.ediv_nonneg d0 (by omega), s0, s1, t0, by omega⟩ e5) fun b o h1 h => e5 _ _ ?_
      rw [upd_ne h1]
      exact ((e2.trans e3).trans e4) _ _ h
    · have hs2 := e2 _ _ hs
      refine f_seq (s_setL (j := 2) hs2 (ev_op (ev_op (ev_var rfl) ev_c (rv_ixL (sq_of hs2) (atI_nat (j := 2) rfl))) ev_c rv_I0) (ev_var rfl) ev_c (by show 2 < 3; decide) fun H3 e3 => ?_)
      have hs3 : (upd H3 r (.lst [.int dg, .int sd, .int (t + 1)])) r = some (.lst [.int dg, .int sd, .int (t + 1)]) := upd_same
      have K3 : SqL K (upd H3 r (.lst [.int dg, .int sd, .int (t + 1)])) r [.int dg, .int sd, .int (t + 1)] := sq_of hs3
      show tSeq _ _ _ _ (upd H3 r (.lst [.int dg, .int sd, .int (t + 1)]))
      refine f_seq (s_asg (ev_op (ev_op (ev_op (ev_op (ev_var rfl) ev_c (rv_ixL K3 (atI_nat (j := 1) rfl))) (ev_op ev_c (ev_op (ev_var rfl) ev_c (rv_ixL K3 (atI_nat (j := 2) rfl))) (rv_I (wide_mul (a := 31) (b := 61) (by decide) (by omega) (by decide) (by decide) (by decide)))) rv_I0) ev_c (rv_I (by unfold CPow; omega))) ev_c (rv_mod (by decide))) fun H4 e4 => ?_)
      generalize hx : (sd + 998244353 * (t + 1)) ^ (3 : Int).toNat % 162259276829213363391578010288127 = x
      have x0 : 0 ≤ x := by rw [← hx]; exact Int.emod_nonneg _ (by decide)
      have x1 : x < 162259276829213363391578010288127 := by rw [← hx]; exact Int.emod_lt_of_pos _ (by decide)
      refine f_seq (s_asg (ev_op (ev_op (ev_op (ev_var rfl) (ev_op ev_c (ev_op (ev_var rfl) ev_c (rv_ixL (ex_l e4 K3) (atI_nat (j := 2) rfl))) (rv_I (wide_mul (a := 31) (b := 61) (by decide) (by omega) (by decide) (by decide) (by decide)))) rv_I0) ev_c (rv_I (powW (b := 120) (by decide) (by decide) (by omega) (by decide) (by decide)))) ev_c (rv_mod (by decide))) fun H5 e5 => ?_)
      refine s_ret (ev_op (ev_op (ev_var rfl) ev_c (rv_I (by unfold CDivW; decide))) (ev_var rfl) (rv_mod h0)) fun H6 e6 => ?_
      refine q _ _ (Int.emod_nonneg _ (by omega)) (Int.emod_lt_of_pos _ h0) (Rg.ex_ ⟨dg, sd, t + 1, hs3, d0, s0, s1, by omega, by omega⟩ ((e4.trans e5).trans e6)) fun b o h1 h => ((e4.trans e5).trans e6) _ _ ?_
      rw [upd_ne h1]
      exact (e2.trans e3) _ _ h

def spOne : Sp := fun vs H Q _ => ∃ (r : Addr) (k : Int) (B : Nat), vs = [.ref r, .int k] ∧ 0 ≤ k ∧ k < 6 ∧ Rg H r (B + 1) ∧ ∀ z H', z.natAbs ≤ 10 ^ 33 → Rg H' r B → Kr r H H' → Q (.int z) H'
theorem ok_law_one (T : Top K mg) : FnOk P w K mg base CX0 2 T.f_law_one T.fd_law_one ["rng", "kind"] spOne := by
  have G_law_draw : FnOk P w K mg base CX0 1 T.f_law_draw T.fd_law_draw ["rng", "limit"] spRdraw := ok_law_draw T
  refine T.F_law_one.ok sc_law_one (fun vs H Q E h => ?_) (fun cdv A outer s H vs Q E hr h => ?_)
  · obtain ⟨r, k, B, rfl, _⟩ := h; rfl
  · obtain ⟨r, k, B, rfl, k0, k6, S, q⟩ := h
    refine ⟨_, (pss_cons (ps_set (i := 2) sc_law_one.nd rfl (Or.inl rfl) (pe_ix (r := rIxL K) ix_list (pe_lst (pa_cons pe_int (pa_cons pe_int (pa_cons pe_int (pa_cons pe_int (pa_cons pe_int (pa_cons (pe_op op_add (pe_op op_mulW pe_int (pe_op op_pow pe_int pe_int)) pe_int) pa_nil))))))) (pv 1) (fun _ _ => rfl)))
      (pss_one (ps_ret (pe_op op_mulW (pe_ix (r := rIxL K) ix_list (pe_lst (pa_cons pe_int (pa_cons pe_int (pa_cons pe_int (pa_cons pe_int (pa_cons pe_int (pa_cons pe_int pa_nil))))))) (pv 1) (fun _ _ => rfl)) (pe_op op_sub (pe_call G_law_draw (hr.mono (by first | decide | omega)) (by rfl) T.g_law_draw T.F_law_draw.kp T.b_law_draw .nil pass0 (pa_cons (pv 0) (pa_cons (pv 2) pa_nil))) (pe_op op_fdivW (pv 2) pe_int)))))), ?_⟩
    refine f_seq (f_asg (f_op (f_evL (el_lst (ea_cons ev_c (ea_cons ev_c (ea_cons ev_c (ea_cons ev_c (ea_cons ev_c (ea_cons (ev_op (ev_op ev_c (ev_op ev_c ev_c (rv_I (by unfold CPow; decide))) (rv_I (wide_mul (a := 2) (b := 100) (by decide) (by decide +kernel) (by decide) (by decide) (by decide)))) ev_c rv_I0) ea_nil)))))) (by show 6 ≤ 100000; decide)) fun p H1 np e1 h1 => f_var rfl ?_)))
    obtain ⟨z, hz, hat⟩ := at_ints (L := [27, 9, 201, 9, 5, 2 * 10 ^ (28 : Int).toNat + 1]) k0 k6
    refine ⟨p, _, k, _, rfl, rfl, sq_of h1, hat, f_gName ?_⟩
    have hzb : 5 ≤ z ∧ z ≤ 2 * 10 ^ 28 + 1 := by
      have e : (10 : Int) ^ (28 : Int).toNat = 10 ^ 28 := rfl
      rw [e] at hz
      simp at hz; omega
    refine f_ret (f_op (f_op (f_evL (el_lst (ea_cons ev_c (ea_cons ev_c (ea_cons ev_c (ea_cons ev_c (ea_cons ev_c (ea_cons ev_c ea_nil)))))) (by show 6 ≤ 100000; decide)) fun p2 H2 np2 e2 h2 => f_var rfl ?_)))
    obtain ⟨f, hf, hat2⟩ := at_ints (L := [1, 12, 48, 1200, 4800, 1]) k0 k6
    refine ⟨p2, _, k, _, rfl, rfl, sq_of h2, hat2, f_op (f_call (f_cons (f_var rfl (f_cons (f_var rfl (f_nil ?_))))))⟩
    have hfb : 1 ≤ f ∧ f ≤ 4800 := by simp at hf; omega
    refine f_rdraw (S.ex_ (e1.trans e2)) (by omega) (by omega) fun n H3 a3 b3 S3 k3 => ?_
    refine f_op (f_var rfl (f_c (f_I (wide_div (b := 3) (by decide) (by decide) (by decide) (by decide)) (f_I0 ?_))))
    have hb : (n - z / 2).natAbs ≤ 2 * 10 ^ 28 + 1 := by omega
    have hm : (f * (n - z / 2)).natAbs ≤ 4800 * (2 * 10 ^ 28 + 1) := by
      rw [Int.natAbs_mul]
      exact Nat.mul_le_mul (by omega) hb
    refine f_I (wide_mul (a := 20) (b := 100) (by omega) (by omega) (by decide) (by decide) (by decide)) ?_
    exact q _ _ (by omega) S3 ((Kr.of (e1.trans e2)).trans k3)
def spMoves : Sp := fun vs H Q _ => ∃ (r : Addr) (B : Nat) (most : Int), vs = [.ref r, .int most] ∧ 0 ≤ most ∧ most ≤ 100 ∧ Rg H r (B + 300) ∧
  ∀ (ks : List Int) (p : Addr) (H' : Hp), (ks.length : Int) ≤ most → (∀ k, k ∈ ks → k.natAbs ≤ 10 ^ 33) → H p = none → p ≠ r → Rg H' r B → Kr r H H' → H' p = some (.lst (ks.map V.int)) → Q (.ref p) H'
theorem ok_law_moves (T : Top K mg) : FnOk P w K mg base CX0 3 T.f_law_moves T.fd_law_moves ["rng", "most"] spMoves := by
  have G_law_draw : FnOk P w K mg base CX0 1 T.f_law_draw T.fd_law_draw ["rng", "limit"] spRdraw := ok_law_draw T
  have G_law_one : FnOk P w K mg base CX0 2 T.f_law_one T.fd_law_one ["rng", "kind"] spOne := ok_law_one T
  refine T.F_law_moves.ok sc_law_moves (fun vs H Q E h => ?_) (fun cdv A outer s H vs Q E hr h => ?_)
  · obtain ⟨r, B, most, rfl, _⟩ := h; rfl
  · obtain ⟨r, B, most, rfl, m0, m1, S, q⟩ := h
    refine ⟨_, (pss_cons (ps_set (i := 2) sc_law_moves.nd rfl (Or.inr rfl) (pe_ix (r := rIxL K) ix_list (pe_lst (pa_cons (pe_lst (pa_cons pe_int pa_nil)) (pa_cons (pe_lst (pa_cons pe_int (pa_cons pe_int (pa_cons pe_int pa_nil)))) (pa_cons (pe_lst (pa_cons pe_int (pa_cons pe_int (pa_cons pe_int (pa_cons pe_int pa_nil))))) (pa_cons (pe_lst (pa_cons pe_int (pa_cons pe_int (pa_cons pe_int (pa_cons pe_int (pa_cons pe_int (pa_cons pe_int pa_nil))))))) (pa_cons (pe_lst (pa_cons pe_int (pa_cons pe_int (pa_cons pe_int pa_nil)))) pa_nil)))))) (pe_call G_law_draw (hr.mono (by first | decide | omega)) (by rfl) T.g_law_draw T.F_law_draw.kp T.b_law_draw .nil pass0 (pa_cons (pv 0) (pa_cons pe_int pa_nil))) (fun _ _ => rfl)))
      (pss_one (ps_ret (pe_lc (own := [("turn", 3)]) (g := gName 3) (tt := tYes) rfl sc_law_moves.nd (pi_range1 (by rfl) T.z_range (pa_cons (pe_call G_law_draw (hr.mono (by first | decide | omega)) (by rfl) T.g_law_draw T.F_law_draw.kp T.b_law_draw .nil pass0 (pa_cons (pv 0) (pa_cons (pe_op op_add (pv 1) pe_int) pa_nil))) pa_nil)) (blkOk_by (own := [("turn", 3)]) (N := ["rng", "most", "kinds", "turn"]) (sc := defScope s_law_moves) (by decide +kernel)) (fun _ _ _ _ _ => (pg_name (i := 3) sc_law_moves.nd rfl (Or.inl rfl))) (fun _ _ _ _ _ => pts_nil) (fun _ _ _ _ _ => (pe_call G_law_one (hr.mono (by first | decide | omega)) (by rfl) T.g_law_one T.F_law_one.kp T.b_law_one .nil pass0 (pa_cons (pv 0) (pa_cons (pe_ix (r := rIxL K) ix_list (pv 2) (pe_call G_law_draw (hr.mono (by first | decide | omega)) (by rfl) T.g_law_draw T.F_law_draw.kp T.b_law_draw .nil pass0 (pa_cons (pv 0) (pa_cons (pe_callB (r := rLenS K) call_len_seq (by rfl) T.z_len PySem.boot_len (pa_cons (pv 2) pa_nil)) pa_nil))) (fun _ _ => rfl)) pa_nil)))))))), ?_⟩
    refine f_seq (f_asg (f_op ?_))
    walk_at "fw"
    refine f_newLr S (by simp) fun p1 np1 fp1 S1 e1 h1 => ?_
    walk_at "fw"
    refine f_newLr S1 (by simp) fun p2 np2 fp2 S2 e2 h2 => ?_
    walk_at "fw"
    refine f_newLr S2 (by simp) fun p3 np3 fp3 S3 e3 h3 => ?_
    walk_at "fw"
    refine f_newLr S3 (by simp) fun p4 np4 fp4 S4 e4 h4 => ?_
    walk_at "fw"
    refine f_newLr S4 (by simp) fun p5 np5 fp5 S5 e5 h5 => ?_
    walk_at "fw"
    refine f_newLr S5 (by simp) fun p6 np6 fp6 S6 e6 h6 => ?_
    have g1 := e6 _ _ (e5 _ _ (e4 _ _ (e3 _ _ (e2 _ _ h1))))
    have g2 := e6 _ _ (e5 _ _ (e4 _ _ (e3 _ _ h2)))
    have g3 := e6 _ _ (e5 _ _ (e4 _ _ h3))
    have g4 := e6 _ _ (e5 _ _ h4)
    have g5 := e6 _ _ h5
    have x6 := ((((e1.trans e2).trans e3).trans e4).trans e5).trans e6
    generalize upd (upd (upd (upd (upd (upd H p1 _) p2 _) p3 _) p4 _) p5 _) p6 _ = H6 at *
    walk_at "fw"
    refine f_rdraw (B := B + 299) S6 (by decide) (by decide) fun n H7 a7 b7 S7 k7 => ?_
    have x7 : Kr r H H7 := (Kr.of x6).trans k7
    obtain ⟨pk, ks, hat, hpk, hpf, hk1, hk6, hkk⟩ : ∃ (pk : Addr) (ks : List Int), atI ([.ref p1, .ref p2, .ref p3, .ref p4, .ref p5] : List V) n = some (.ref pk) ∧ H7 pk = some (.lst (ks.map V.int)) ∧ pk ≠ r ∧ 1 ≤ ks.length ∧ ks.length ≤ 6 ∧ ∀ k, k ∈ ks → 0 ≤ k ∧ k < 6 := by
      have hn : n = 0 ∨ n = 1 ∨ n = 2 ∨ n = 3 ∨ n = 4 := by omega
      rcases hn with rfl | rfl | rfl | rfl | rfl
      · exact ⟨p1, [0], atI_nat (j := 0) rfl, k7.at fp1 g1, fp1, by decide, by decide, by decide⟩
      · exact ⟨p2, [0, 1, 1], atI_nat (j := 1) rfl, k7.at fp2 g2, fp2, by decide, by decide, by decide⟩
      · exact ⟨p3, [2, 2, 3, 4], atI_nat (j := 2) rfl, k7.at fp3 g3, fp3, by decide, by decide, by decide⟩
      · exact ⟨p4, [0, 1, 2, 3, 4, 5], atI_nat (j := 3) rfl, k7.at fp4 g4, fp4, by decide, by decide, by decide⟩
      · exact ⟨p5, [5, 4, 0], atI_nat (j := 4) rfl, k7.at fp5 g5, fp5, by decide, by decide, by decide⟩
    refine ⟨p6, _, n, _, rfl, rfl, sq_of (k7.at fp6 h6), hat, f_gName ?_⟩
    with_reducible refine f_ret ?_
    refine f_lcR1 ?_
    walk_at "fw"
    refine f_rdraw (B := B + 298) S7 (by omega) (by omega) fun n8 H8 a8 b8 S8 k8 => ?_
    have hpk8 := k8.at hpf hpk
    refine f_nil ⟨n8, rfl, by omega, by omega, lc_drawsR (c := 2) (B := B) (n := n8.toNat) (fun z => z.natAbs ≤ 10 ^ 33) (S8.less (by omega)) (by omega) (fun _ => rfl) (fun i1 H9 b hi1 k9 S9 R hR => ?_) fun zs l H9 nl fl hzl hzb S9 k9 h9 => q zs l H9 (by omega) hzb (x7.new S7 (k8.new S8 nl)) fl S9 ((x7.trans k8).trans k9) h9⟩
    have hpk9 := k9.at hpf hpk8
    refine f_call (f_cons (f_var rfl (f_cons (f_op (f_var rfl (f_call (f_cons (f_var rfl (f_cons (f_ev (ev_lenS (ev_var rfl) (.inl (sq_of hpk9))) fun H10 e10 => f_nil ?_))))))))))
    refine f_rdraw (B := b + 1) (S9.ex_ e10) (by rw [List.length_map]; omega) (by rw [List.length_map]; omega) fun n11 H11 a11 b11 S11 k11 => ?_
    rw [List.length_map] at b11
    obtain ⟨z, hz, hat2⟩ := at_ints a11 b11
    refine ⟨pk, _, n11, _, rfl, rfl, sq_of (k11.at hpf (e10 _ _ hpk9)), hat2, f_nil ⟨r, z, b, rfl, (hkk z hz).1, (hkk z hz).2, S11, fun y H12 hy S12 k12 => hR y H12 hy (((Kr.of e10).trans k11).trans k12) S12⟩⟩

def isLeap (y : Int) : Bool := decide (y % 4 = 0) && (!decide (y % 100 = 0) || decide (y % 400 = 0))
def D_isleap (vs : List V) (z : V) : Prop := ∃ y : Int, vs = [.int y] ∧ z = .bl (isLeap y)
theorem ok_law_is_leap (T : Top K mg) : FnOk P w K mg base CX0 1 T.f_law_is_leap T.fd_law_is_leap ["year"] (spF D_isleap) := by
  refine T.F_law_is_leap.ok sc_law_is_leap (fun vs H Q E h => ?_) (fun cdv A outer s H vs Q E hr h => ?_)
  · obtain ⟨z, ⟨y, rfl, _⟩, _⟩ := h; rfl
  · obtain ⟨z, ⟨y, rfl, rfl⟩, q⟩ := h
    refine ⟨_, (pss_one (ps_ret (pe_and (pe_cmpR op_eq (pe_op op_mod (pv 0) pe_int) pe_int (nomark _)) (pe_one (pe_or (pe_cmpR op_ne (pe_op op_mod (pv 0) pe_int) pe_int (nomark _)) (pe_one (pe_cmpR op_eq (pe_op op_mod (pv 0) pe_int) pe_int (nomark _)))))))), ?_⟩
    exact s_ret (ev_andV (ev_op (ev_op (ev_var rfl) ev_c (rv_mod (by decide))) ev_c rv_eqI) fun _ => ev_orV (ev_op (ev_op (ev_var rfl) ev_c (rv_mod (by decide))) ev_c rv_neI) fun _ => ev_op (ev_op (ev_var rfl) ev_c (rv_mod (by decide))) ev_c rv_eqI) fun H1 e1 => q H1 e1

/-! the law's own visits (second family) -/
theorem ok_law_sums (T : Top K mg) : FnOk P w K mg base CX0 1 T.f_law_sums T.fd_law_sums ["moves"] (spHL (D_visits K)) := by
  refine T.F_law_sums.ok sc_law_sums (fun vs H Q E h => ?_) (fun cdv A outer s H vs Q E hr h => ?_)
  · obtain ⟨z, ⟨l, ks, rfl, _⟩, _⟩ := h; rfl
  · obtain ⟨z, ⟨l, ks, rfl, hL, hz, rfl⟩, q⟩ := h
    refine ⟨_, (pss_cons (ps_set (i := 1) sc_law_sums.nd rfl (Or.inl rfl) (pe_lst (pa_cons pe_int pa_nil)))
      (pss_cons (ps_for PassesOwn.never rfl (pi_list (pv 0)) (pg_name (i := 2) sc_law_sums.nd rfl (Or.inl rfl)) (pss_one (ps_expr (pe_bm PySem.F.plainAttrs_list PySem.F.slot_list_append PySem.F.type_list_append mt_append (pv 1) (pa_cons (pe_op op_add (pe_ix (r := rIxL K) ix_list (pv 1) (pe_un un_neg pe_int) (fun _ _ => rfl)) (pv 2)) pa_nil)))))
      (pss_one (ps_ret (pe_callB (r := rSortedA w) (cr_sortedA rfl) (by rfl) T.z_sorted (by decide +kernel) (pa_cons (pe_callTy (r := rSetL K w) (cr_setL rfl) (by rfl) T.z_set (by decide +kernel) (pa_cons (pv 1) pa_nil)) pa_nil)))))), ?_⟩
    refine f_seq (s_asgL (el_lst (ea_cons ev_c ea_nil) (by show 1 ≤ 100000; decide)) fun p H1 np e1 h1 => ?_)
    refine f_seq (s_forL (xs := ks.map V.int) (ev_var rfl) (ex_l e1 hL) (fun i σ H' => ∃ v : Option V, σ = [some (.ref l), some (.ref p), v] ∧ Ex H H' ∧ H' p = some (.lst ((sumsTo ks i).map V.int)))
      (fun H2 e2 => ⟨none, rfl, e1.trans e2, e2 _ _ h1⟩) (fun i σ H' _ ⟨_, _, e, _⟩ => ex_l e hL) (fun i x σ H' hx ⟨v, hσ, e, hp⟩ => ?_) fun σ H' ⟨v, hσ, e, hp⟩ => ?_)
    · subst hσ
      obtain ⟨k, rfl, hk⟩ := int_of_map2 hx
      have hi : i < ks.length := (List.getElem?_eq_some_iff.mp hk).1
      refine f_gName ?_
      refine f_drop (f_bm (f_var rfl (f_tyL hp (f_cons (f_ev (ev_op (ev_op (ev_var rfl) (ev_un ev_c ru_neg) (rv_ixL (sq_of hp) (sumsTo_m1 ks i))) (ev_var rfl) rv_I0) fun H2 e2 => f_nil ?_)))))
      refine ⟨p, _, _, rfl, rfl, e2 _ _ hp, sz_lt (by rw [List.length_map, sumsTo_len]; omega), ⟨_, rfl, fun b o g => ?_, ?_⟩⟩
      · rw [upd_ne (ne_of_none g np)]; exact e2 _ _ (e _ _ g)
      · rw [upd_same, sumsTo_succ, take_sum hk, List.map_append]; rfl
    · subst hσ
      rw [List.length_map] at hp
      exact s_retL (el_sorted (ev_var rfl) (sq_of hp) (by rw [sumsTo_len]; omega)) fun p1 H1 hp1 e1 h1 => q p1 H1 (fresh_back e hp1) (e.trans e1) h1

/-- the years that are left at a distance, None where there is no visit -/
def yrsAt (ss : List Int) (r : Int) : List Int := srt ((ss.filter fun n => decide (n % 12 = r)).map fun n => n / 12 % 400)
def leftYs (ys : List Int) : List Int := ((List.range 400).filter fun (i : Nat) => decide (((ys.filter fun o => !isLeap ((i : Int) + o)).map fun _ => (1 : Int)) = [])).map fun (i : Nat) => (i : Int)
def leftAt (ss : List Int) (r : Int) : Option (List Int) := if yrsAt ss r = [] then none else some (leftYs (yrsAt ss r))
inductive OptAt (H : Hp) : V → Option (List Int) → Prop
  | no : OptAt H .non none
  | at {p : Addr} {l : List Int} (h : H p = some (.lst (l.map V.int))) : OptAt H (.ref p) (some l)
inductive OptsAt (H : Hp) : List V → List (Option (List Int)) → Prop
  | nil : OptsAt H [] []
  | cons {v : V} {o : Option (List Int)} {vs : List V} {os : List (Option (List Int))} (h : OptAt H v o) (t : OptsAt H vs os) : OptsAt H (v :: vs) (o :: os)
theorem OptAt.keep {H H' : Hp} {v : V} {o : Option (List Int)} (k : ∀ p l, v = .ref p → H p = some (.lst l) → H' p = some (.lst l)) (h : OptAt H v o) : OptAt H' v o := by
  cases h with
  | no => exact .no
  | «at» h => exact .at (k _ _ rfl h)
theorem OptsAt.keep {H H' : Hp} : ∀ {vs : List V} {os : List (Option (List Int))}, (∀ v, v ∈ vs → ∀ p l, v = .ref p → H p = some (.lst l) → H' p = some (.lst l)) → OptsAt H vs os → OptsAt H' vs os
  | _, _, _, .nil => .nil
  | _, _, k, .cons h t => .cons (h.keep (k _ (List.mem_cons_self ..))) (t.keep fun v hv => k v (List.mem_cons_of_mem _ hv))
theorem OptsAt.snoc {H : Hp} {v : V} {o : Option (List Int)} (h : OptAt H v o) : ∀ {vs : List V} {os : List (Option (List Int))}, OptsAt H vs os → OptsAt H (vs ++ [v]) (os ++ [o])
  | _, _, .nil => .cons h .nil
  | _, _, .cons a t => .cons a (t.snoc h)
theorem OptsAt.len {H : Hp} : ∀ {vs : List V} {os : List (Option (List Int))}, OptsAt H vs os → vs.length = os.length
  | _, _, .nil => rfl
  | _, _, .cons _ t => congrArg Nat.succ t.len
def spLeft (K : PySem.W.Frag) : Sp := fun vs H Q _ => ∃ (l : Addr) (ss : List Int), vs = [.ref l] ∧ SqL K H l (ss.map V.int) ∧ ss.length ≤ 1000 ∧
  ∀ (p : Addr) (xs : List V) (H' : Hp), H p = none → Ex H H' → H' p = some (.lst xs) → OptsAt H' xs ((List.range 12).map fun (r : Nat) => leftAt ss (r : Int)) → (∀ b : Addr, V.ref b ∈ xs → H b = none) → Q (.ref p) H'

/-- the law's own choice of years, from those that are left -/
def lyStep (L : List Int) (b g : Int) : List Int :=
  if (L.filter fun y => decide ((y + b) / 4 % 25 = (0 - g) % 25)) = [] then [b + 4 * g, b + 4 * (g + 25)]
  else if (L.filter fun y => decide ((y + b) / 4 % 25 = (0 - g) % 25)).length = 1 then [b + 4 * ((0 - ((L.filter fun y => decide ((y + b) / 4 % 25 = (0 - g) % 25)).headD 0 + b) / 4) % 100)]
  else []
def lyears (L : List Int) : List Int := if L = [] then [0, 1] else (List.range 25).flatMap fun (g : Nat) => lyStep L ((0 - L.headD 0) % 4) (g : Int)
theorem lyStep_len (L : List Int) (b g : Int) : (lyStep L b g).length ≤ 2 := by unfold lyStep; split <;> (try split) <;> simp
theorem ly_len (L : List Int) (b : Int) : ∀ n : Nat, ((List.range n).flatMap fun (g : Nat) => lyStep L b (g : Int)).length ≤ 2 * n
  | 0 => by simp
  | n + 1 => by
    have ih := ly_len L b n
    have := lyStep_len L b (n : Int)
    rw [List.range_succ, List.flatMap_append, List.length_append]
    simp only [List.flatMap_cons, List.flatMap_nil, List.append_nil]
    omega
def D_lyears (K : PySem.W.Frag) (H : Hp) (vs xs : List V) : Prop := ∃ (l : Addr) (L : List Int), vs = [.ref l] ∧ SqL K H l (L.map V.int) ∧ L.length ≤ 1000 ∧ xs = (lyears L).map V.int

/-! groups, by their keys -/
def sel (d : Int) (ns : List Int) (r : Int) : List Int := (ns.filter fun n => decide (n % d = r)).map fun n => n / d
def look : List (Int × List Int) → Int → List Int
  | [], _ => []
  | (j, l) :: g, k => if j = k then l else look g k
theorem look_put (k v j : Int) : ∀ g : List (Int × List Int), look (putG g k v) j = if j = k then look g k ++ [v] else look g j
  | [] => by
    unfold putG look look
    by_cases e : j = k
    · subst e; simp
    · rw [if_neg (fun z => e z.symm), if_neg e]
  | (i, l) :: g => by
    have ih := look_put k v j g
    unfold putG
    by_cases e : i = k
    · subst e
      rw [if_pos rfl]
      unfold look
      by_cases e2 : j = i
      · subst e2; simp
      · rw [if_neg (fun z => e2 z.symm), if_neg e2, if_neg (fun z => e2 z.symm)]
    · rw [if_neg e]
      unfold look
      by_cases e2 : i = j
      · subst e2
        rw [if_pos rfl, if_neg e, if_pos rfl]
      · rw [if_neg e2, ih, if_neg e, if_neg e2]
theorem look_grp (d : Int) (ns : List Int) (j : Int) : look (grp d ns) j = sel d ns j := by
  have key : ∀ i, look (grp d (ns.take i)) j = sel d (ns.take i) j := fun i => by
    induction i with
    | zero => rfl
    | succ i ih =>
      cases h : ns[i]? with
      | none => rw [List.take_add_one, h, Option.toList_none, List.append_nil]; exact ih
      | some n =>
        rw [grp_take h, look_put, List.take_add_one, h]
        unfold sel
        rw [List.filter_append, List.map_append]
        by_cases e : j = n % d
        · subst e
          rw [if_pos rfl, ih]
          simp [sel]
        · rw [if_neg e, ih]
          have z : decide (n % d = j) = false := decide_eq_false fun q => e q.symm
          simp [sel, z]
  have z := key ns.length
  rw [List.take_length] at z
  exact z
theorem grp_keys (d : Int) (ns : List Int) (r : Int) : r ∈ (grp d ns).map Prod.fst ↔ ∃ n, n ∈ ns ∧ n % d = r := by
  have key : ∀ i, r ∈ (grp d (ns.take i)).map Prod.fst ↔ ∃ n, n ∈ ns.take i ∧ n % d = r := fun i => by
    induction i with
    | zero => simp [grp]
    | succ i ih =>
      cases h : ns[i]? with
      | none => rw [List.take_add_one, h, Option.toList_none, List.append_nil]; exact ih
      | some n =>
        rw [grp_take h, putG_keys, List.take_add_one, h]
        constructor
        · intro hr
          have hr : r ∈ (grp d (ns.take i)).map Prod.fst ∨ r = n % d := by
            split at hr
            · exact .inl hr
            · rcases List.mem_append.mp hr with z | z
              · exact .inl z
              · exact .inr (List.mem_singleton.mp z)
          rcases hr with z | z
          · obtain ⟨m, h1, h2⟩ := ih.mp z
            exact ⟨m, List.mem_append_left _ h1, h2⟩
          · exact ⟨n, List.mem_append_right _ (List.mem_singleton.mpr rfl), z.symm⟩
        · rintro ⟨m, h1, h2⟩
          have hr : r ∈ (grp d (ns.take i)).map Prod.fst ∨ r = n % d := by
            rcases List.mem_append.mp h1 with z | z
            · exact .inl (ih.mpr ⟨m, z, h2⟩)
            · rw [List.mem_singleton.mp z] at h2; exact .inr h2.symm
          split
          · next hm => rcases hr with z | z
                       · exact z
                       · rw [z]; exact hm
          · rcases hr with z | z
            · exact List.mem_append_left _ z
            · exact List.mem_append_right _ (List.mem_singleton.mpr z)
  have z := key ns.length
  rw [List.take_length] at z
  exact z
theorem eq_look : ∀ g : List (Int × List Int), (g.map Prod.fst).Nodup → g = (g.map Prod.fst).map fun k => (k, look g k)
  | [], _ => rfl
  | (j, l) :: g, h => by
    have h2 := List.nodup_cons.mp (show (j :: g.map Prod.fst).Nodup from h)
    have ih := eq_look g h2.2
    have e : (g.map Prod.fst).map (fun k => (k, look ((j, l) :: g) k)) = (g.map Prod.fst).map fun k => (k, look g k) := by
      refine List.map_congr_left fun k hk => ?_
      have : ¬ j = k := fun z => h2.1 (z ▸ hk)
      show (k, if j = k then l else look g k) = _
      rw [if_neg this]
    show (j, l) :: g = (j, if j = j then l else look g j) :: (g.map Prod.fst).map fun k => (k, look ((j, l) :: g) k)
    rw [if_pos rfl, e, ← ih]
theorem nodup_ints (n : Nat) : ((List.range n).map fun (i : Nat) => (i : Int)).Nodup := by
  refine List.pairwise_map.mpr (List.nodup_range.imp fun {a b} h e => h ?_)
  omega
theorem mem_ints {n : Nat} {r : Int} : (r ∈ (List.range n).map fun (i : Nat) => (i : Int)) ↔ 0 ≤ r ∧ r < n := by
  rw [List.mem_map]
  constructor
  · rintro ⟨i, hi, rfl⟩
    have := List.mem_range.mp hi
    omega
  · rintro ⟨h0, h1⟩
    exact ⟨r.toNat, List.mem_range.mpr (by omega), by omega⟩
theorem flat_filter {α β : Type} (p : α → Bool) (f : α → List β) (h : ∀ x, p x = false → f x = []) : ∀ l : List α, (l.filter p).flatMap f = l.flatMap f
  | [] => rfl
  | x :: l => by
    have ih := flat_filter p f h l
    cases e : p x with
    | true => rw [List.filter_cons_of_pos e, List.flatMap_cons, List.flatMap_cons, ih]
    | false => rw [List.filter_cons_of_neg (by rw [e]; decide), List.flatMap_cons, h x e, ih]; rfl
theorem sel_nil {d : Int} {ns : List Int} {r : Int} : sel d ns r = [] ↔ ¬ ∃ n, n ∈ ns ∧ n % d = r := by
  unfold sel
  rw [List.map_eq_nil_iff, List.filter_eq_nil_iff]
  constructor
  · rintro h ⟨n, h1, h2⟩
    exact h n h1 (decide_eq_true h2)
  · intro h n h1 h2
    exact h ⟨n, h1, of_decide_eq_true h2⟩
/-- a walk over the groups is a walk over the remainders -/
theorem grp_flat {β : Type} {d : Nat} (hd : 0 < d) (ns : List Int) (f : Int × List Int → List β) (h : ∀ r, f (r, []) = []) : ((grp d ns).flatMap f).Perm (((List.range d).map fun (i : Nat) => (i : Int)).flatMap fun r => f (r, sel d ns r)) := by
  have e := eq_look (grp d ns) (grp_nodup d ns)
  have e2 : (fun k => (k, look (grp d ns) k)) = fun k => (k, sel d ns k) := by funext k; rw [look_grp]
  rw [e2] at e
  rw [e, List.flatMap_map]
  have hp : ((grp d ns).map Prod.fst).Perm (((List.range d).map fun (i : Nat) => (i : Int)).filter fun r => decide (¬ sel d ns r = [])) := by
    refine (List.perm_ext_iff_of_nodup (grp_nodup d ns) ((nodup_ints d).filter _)).mpr fun r => ?_
    rw [grp_keys, List.mem_filter, mem_ints, decide_eq_true_iff, sel_nil, Classical.not_not]
    refine ⟨fun z => ⟨?_, z⟩, fun z => z.2⟩
    obtain ⟨n, _, rfl⟩ := z
    exact ⟨Int.emod_nonneg _ (by omega), Int.emod_lt_of_pos _ (by omega)⟩
  refine (hp.flatMap_right _).trans ?_
  rw [flat_filter _ _ fun r hr => ?_]
  have z : sel d ns r = [] := by simpa using hr
  rw [z, h]

/-! the years that stand for others, by remainders -/
/-- what the cycles of one remainder leave -/
def con (fs : List Int) (g : Int) : List Int :=
  let h := fs.filter fun q => decide (q % 25 = g)
  if h = [] then [] else if (h.any fun q => !decide (q % 100 = h.headD 0 % 100)) = true then [g, g + 25] else [h.headD 0 % 100]
inductive Con (fs : List Int) (g : Int) : Prop
  | no (e : con fs g = []) (h : ∀ q, q ∈ fs → q % 25 ≠ g)
  | one (q : Int) (e : con fs g = [q % 100]) (m : q ∈ fs) (hq : q % 25 = g) (h : ∀ p, p ∈ fs → p % 25 = g → p % 100 = q % 100)
  | two (q p : Int) (e : con fs g = [g, g + 25]) (m : q ∈ fs) (n : p ∈ fs) (hq : q % 25 = g) (hp : p % 25 = g) (h : q % 100 ≠ p % 100)
theorem con_cases (fs : List Int) (g : Int) : Con fs g := by
  have mf : ∀ q, q ∈ (fs.filter fun q => decide (q % 25 = g)) ↔ q ∈ fs ∧ q % 25 = g := fun q => by rw [List.mem_filter, decide_eq_true_iff]
  have ec : con fs g = if (fs.filter fun q => decide (q % 25 = g)) = [] then [] else if ((fs.filter fun q => decide (q % 25 = g)).any fun q => !decide (q % 100 = (fs.filter fun q => decide (q % 25 = g)).headD 0 % 100)) = true then [g, g + 25] else [(fs.filter fun q => decide (q % 25 = g)).headD 0 % 100] := rfl
  generalize (fs.filter fun q => decide (q % 25 = g)) = h at mf ec
  cases h with
  | nil => exact .no ec fun q hq e => by have := (mf q).mpr ⟨hq, e⟩; simp at this
  | cons q r =>
    rw [if_neg (by simp)] at ec
    have hd : (q :: r).headD 0 = q := rfl
    rw [hd] at ec
    obtain ⟨m1, m2⟩ := (mf q).mp (List.mem_cons_self ..)
    by_cases ha : ((q :: r).any fun p => !decide (p % 100 = q % 100)) = true
    · rw [if_pos ha] at ec
      obtain ⟨p, hp, hn⟩ := List.any_eq_true.mp ha
      obtain ⟨n1, n2⟩ := (mf p).mp hp
      exact .two q p ec m1 n1 m2 n2 fun z => by rw [← z] at hn; simp at hn
    · rw [if_neg ha] at ec
      refine .one q ec m1 m2 fun p hp he => ?_
      refine Classical.byContradiction fun hn => ha (List.any_eq_true.mpr ⟨p, (mf p).mpr ⟨hp, he⟩, by simp [hn]⟩)
theorem con_len (fs : List Int) (g : Int) : (con fs g).length ≤ 2 := by
  rcases con_cases fs g with ⟨e, _⟩ | ⟨q, e, _⟩ | ⟨q, p, e, _⟩ <;> rw [e] <;> simp
/-- what the program keeps of one remainder is that -/
theorem one_con {fs : List Int} {g : Int} (hg : 0 ≤ g ∧ g < 25) (hne : sel 25 (srt (fs.map fun z => z % 100)) g ≠ []) : oneG (g, sel 25 (srt (fs.map fun z => z % 100)) g) = con fs g := by
  have ms : ∀ u, u ∈ sel 25 (srt (fs.map fun z => z % 100)) g ↔ ∃ q, q ∈ fs ∧ q % 25 = g ∧ u = q % 100 / 25 := fun u => by
    unfold sel
    rw [List.mem_map]
    constructor
    · rintro ⟨n, hn, rfl⟩
      rw [List.mem_filter, decide_eq_true_iff, mem_srt, List.mem_map] at hn
      obtain ⟨⟨q, hq, rfl⟩, e⟩ := hn
      exact ⟨q, hq, by omega, rfl⟩
    · rintro ⟨q, hq, e, rfl⟩
      exact ⟨q % 100, by rw [List.mem_filter, decide_eq_true_iff, mem_srt, List.mem_map]; exact ⟨⟨q, hq, rfl⟩, by omega⟩, rfl⟩
  have nd : (sel 25 (srt (fs.map fun z => z % 100)) g).Nodup := by
    unfold sel
    have p := (pw_srt (fs.map fun z => z % 100)).filter fun n => decide (n % 25 = g)
    have p2 : ((srt (fs.map fun z => z % 100)).filter fun n => decide (n % 25 = g)).Pairwise fun a b => a < b ∧ a % 25 = g ∧ b % 25 = g := by
      refine List.Pairwise.imp_of_mem (fun {a b} ha hb h => ⟨h, ?_, ?_⟩) p
      · exact of_decide_eq_true (List.mem_filter.mp ha).2
      · exact of_decide_eq_true (List.mem_filter.mp hb).2
    exact List.pairwise_map.mpr (p2.imp fun {a b} h e => by omega)
  generalize sel 25 (srt (fs.map fun z => z % 100)) g = us at ms nd hne
  rcases con_cases fs g with ⟨e, h⟩ | ⟨q, e, m, hq, h⟩ | ⟨q, p, e, m, n, hq, hp, h⟩
  · obtain ⟨u, r, hu⟩ := List.exists_cons_of_ne_nil hne
    obtain ⟨q, h1, h2, _⟩ := (ms u).mp (by rw [hu]; exact List.mem_cons_self ..)
    exact absurd h2 (h q h1)
  · have al : ∀ u, u ∈ us → u = q % 100 / 25 := fun u hu => by
      obtain ⟨p, h1, h2, rfl⟩ := (ms u).mp hu
      rw [h p h1 h2]
    have one : us = [q % 100 / 25] := by
      match us, hne, al, nd with
      | [u], _, al, _ => rw [al u (List.mem_cons_self ..)]
      | u :: v :: r, _, al, nd =>
        have a := al u (List.mem_cons_self ..)
        have b := al v (List.mem_cons_of_mem _ (List.mem_cons_self ..))
        have c := (List.nodup_cons.mp nd).1
        exact absurd (by rw [a, b]; exact List.mem_cons_self ..) c
    rw [e, one]
    show (if 1 = 1 then [g + 25 * (q % 100 / 25)] else _) = _
    rw [if_pos rfl]
    congr 1
    omega
  · have m1 := (ms _).mpr ⟨q, m, hq, rfl⟩
    have m2 := (ms _).mpr ⟨p, n, hp, rfl⟩
    have len : us.length ≠ 1 := fun z => by
      obtain ⟨u, hu⟩ := List.length_eq_one_iff.mp z
      rw [hu] at m1 m2
      have a := List.mem_singleton.mp m1
      have b := List.mem_singleton.mp m2
      omega
    rw [e]
    show (if us.length = 1 then _ else [g, g + 25]) = _
    rw [if_neg len]
theorem oneG_nil (r : Int) (h : (0 : Nat) = 1 → False := by decide) : oneG (r, []) = [r, r + 25] := rfl
theorem sel_con {fs : List Int} {g : Int} (h : sel 25 (srt (fs.map fun z => z % 100)) g = []) : con fs g = [] := by
  have h2 := sel_nil.mp h
  rcases con_cases fs g with ⟨e, _⟩ | ⟨q, e, m, hq, _⟩ | ⟨q, p, e, m, n, hq, hp, _⟩
  · exact e
  · exact absurd ⟨q % 100, mem_srt.mpr (List.mem_map.mpr ⟨q, m, rfl⟩), by omega⟩ h2
  · exact absurd ⟨q % 100, mem_srt.mpr (List.mem_map.mpr ⟨q, m, rfl⟩), by omega⟩ h2
theorem flat_congr {α β : Type} {f g : α → List β} : ∀ {l : List α}, (∀ x, x ∈ l → f x = g x) → l.flatMap f = l.flatMap g
  | [], _ => rfl
  | x :: l, h => by rw [List.flatMap_cons, List.flatMap_cons, h x (List.mem_cons_self ..), flat_congr fun y hy => h y (List.mem_cons_of_mem _ hy)]
abbrev r25 : List Int := (List.range 25).map fun (i : Nat) => (i : Int)
theorem fours_perm (fs : List Int) : (foursOf fs).Perm (r25.flatMap (con fs)) := by
  have z := grp_flat (d := 25) (by decide) (srt (fs.map fun z => z % 100)) (fun x => if x.2 = [] then [] else oneG x) fun r => if_pos rfl
  have e1 : (grp (25 : Nat) (srt (fs.map fun z => z % 100))).flatMap (fun x => if x.2 = [] then [] else oneG x) = foursOf fs :=
    flat_congr fun x hx => if_neg (grp_ne _ _ x hx)
  have e2 : r25.flatMap (fun r => if (r, sel (25 : Nat) (srt (fs.map fun z => z % 100)) r).2 = [] then [] else oneG (r, sel (25 : Nat) (srt (fs.map fun z => z % 100)) r)) = r25.flatMap (con fs) :=
    flat_congr fun r hr => by
      have hb := mem_ints.mp hr
      by_cases h : sel 25 (srt (fs.map fun z => z % 100)) r = []
      · exact (if_pos h).trans (sel_con h).symm
      · exact (if_neg h).trans (one_con ⟨hb.1, hb.2⟩ h)
  rw [e1] at z
  rw [← e2]
  exact z
/-- of n parts of at most two each: all of two -/
theorem flat_two {f : Int → List Int} (h : ∀ g, (f g).length ≤ 2) : ∀ l : List Int, (l.flatMap f).length ≤ 2 * l.length ∧ ((l.flatMap f).length = 2 * l.length ↔ ∀ g, g ∈ l → (f g).length = 2)
  | [] => by simp
  | g :: l => by
    obtain ⟨a, b⟩ := flat_two h l
    have c := h g
    rw [List.flatMap_cons, List.length_append, List.length_cons]
    refine ⟨by omega, fun e => ?_, fun e => ?_⟩
    · have e1 : (f g).length = 2 := by omega
      have e2 := b.mp (by omega)
      intro x hx
      rcases List.mem_cons.mp hx with rfl | hx
      · exact e1
      · exact e2 x hx
    · have e1 := e g (List.mem_cons_self ..)
      have e2 := b.mpr fun x hx => e x (List.mem_cons_of_mem _ hx)
      omega
theorem fours_50 (fs : List Int) : (foursOf fs).length = 50 ↔ ∀ g, 0 ≤ g → g < 25 → (con fs g).length = 2 := by
  have z := (flat_two (con_len fs) r25).2
  rw [← (fours_perm fs).length_eq, List.length_map, List.length_range] at z
  rw [z]
  exact ⟨fun h g h0 h1 => h g (mem_ints.mpr ⟨h0, h1⟩), fun h g hg => h g (mem_ints.mp hg).1 (mem_ints.mp hg).2⟩
theorem con_two {fs : List Int} {g : Int} (h : (con fs g).length = 2) : ∃ q p, q ∈ fs ∧ p ∈ fs ∧ q % 25 = g ∧ p % 25 = g ∧ q % 100 ≠ p % 100 := by
  rcases con_cases fs g with ⟨e, _⟩ | ⟨q, e, m, hq, _⟩ | ⟨q, p, e, m, n, hq, hp, h2⟩
  · rw [e] at h; cases h
  · rw [e] at h; cases h
  · exact ⟨q, p, m, n, hq, hp, h2⟩
/-! the years that are left -/
theorem mem_left {ys : List Int} {i : Int} : i ∈ leftYs (srt (ys.map fun y => y % 400)) ↔ 0 ≤ i ∧ i < 400 ∧ ∀ y, y ∈ ys → isLeap (i + y) = true := by
  have per (y : Int) : isLeap (i + y % 400) = isLeap (i + y) := by
    unfold isLeap
    rw [show (i + y % 400) % 4 = (i + y) % 4 by omega, show (i + y % 400) % 100 = (i + y) % 100 by omega, show (i + y % 400) % 400 = (i + y) % 400 by omega]
  unfold leftYs
  rw [List.mem_map]
  constructor
  · rintro ⟨j, hj, rfl⟩
    rw [List.mem_filter, List.mem_range, decide_eq_true_iff, List.map_eq_nil_iff, List.filter_eq_nil_iff] at hj
    refine ⟨by omega, by omega, fun y hy => ?_⟩
    have z := hj.2 (y % 400) (mem_srt.mpr (List.mem_map.mpr ⟨y, hy, rfl⟩))
    rw [per] at z
    simpa using z
  · rintro ⟨h0, h1, h⟩
    refine ⟨i.toNat, ?_, by omega⟩
    rw [List.mem_filter, List.mem_range, decide_eq_true_iff, List.map_eq_nil_iff, List.filter_eq_nil_iff]
    refine ⟨by omega, fun o ho => ?_⟩
    obtain ⟨y, hy, rfl⟩ := List.mem_map.mp (mem_srt.mp ho)
    rw [show ((i.toNat : Nat) : Int) = i by omega, per, h y hy]
    decide
theorem nodup_left (zs : List Int) : (leftYs zs).Nodup := by
  unfold leftYs
  refine List.pairwise_map.mpr ((List.nodup_range.filter _).imp fun {a b} h e => h ?_)
  omega
theorem leap_iff (c : Int) : isLeap c = true ↔ c % 4 = 0 ∧ (c % 100 ≠ 0 ∨ c % 400 = 0) := by
  unfold isLeap
  simp
/-- where all years are equal modulo 4 -/
theorem mem_left4 {ys : List Int} {a i : Int} (ha : ∀ y, y ∈ ys → y % 4 = a) (hne : ys ≠ []) : i ∈ leftYs (srt (ys.map fun y => y % 400)) ↔ 0 ≤ i ∧ i < 400 ∧ (i + a) % 4 = 0 ∧ ∀ q, q ∈ (ys.map fun y => y / 4) → ((i + a) / 4 + q) % 25 = 0 → ((i + a) / 4 + q) % 100 = 0 := by
  rw [mem_left]
  have a4 : 0 ≤ a ∧ a < 4 := by
    obtain ⟨y, r, e⟩ := List.exists_cons_of_ne_nil hne
    have := ha y (by rw [e]; exact List.mem_cons_self ..)
    omega
  constructor
  · rintro ⟨h0, h1, h⟩
    refine ⟨h0, h1, ?_, fun q hq e => ?_⟩
    · obtain ⟨y, r, e⟩ := List.exists_cons_of_ne_nil hne
      have hy : y ∈ ys := by rw [e]; exact List.mem_cons_self ..
      have := ha y hy
      have := ((leap_iff _).mp (h y hy)).1
      omega
    · obtain ⟨y, hy, rfl⟩ := List.mem_map.mp hq
      have := ha y hy
      have := (leap_iff _).mp (h y hy)
      omega
  · rintro ⟨h0, h1, h2, h⟩
    refine ⟨h0, h1, fun y hy => (leap_iff _).mpr ?_⟩
    have e := ha y hy
    have z := h (y / 4) (List.mem_map.mpr ⟨y, hy, rfl⟩)
    by_cases w : ((i + a) / 4 + y / 4) % 25 = 0
    · have := z w
      omega
    · omega
/-- the law's step is what the cycles of that remainder leave -/
theorem step_con {ys : List Int} {a g : Int} (ha : ∀ y, y ∈ ys → y % 4 = a) (hne : ys ≠ []) (hg : 0 ≤ g ∧ g < 25) :
    lyStep (leftYs (srt (ys.map fun y => y % 400))) a g = (con (ys.map fun y => y / 4) g).map fun f => a + 4 * f := by
  have a4 : 0 ≤ a ∧ a < 4 := by
    obtain ⟨y, r, e⟩ := List.exists_cons_of_ne_nil hne
    have := ha y (by rw [e]; exact List.mem_cons_self ..)
    omega
  have nd := (nodup_left (srt (ys.map fun y => y % 400))).filter fun y => decide ((y + a) / 4 % 25 = (0 - g) % 25)
  have mf : ∀ i, i ∈ ((leftYs (srt (ys.map fun y => y % 400))).filter fun y => decide ((y + a) / 4 % 25 = (0 - g) % 25)) ↔ (0 ≤ i ∧ i < 400 ∧ (i + a) % 4 = 0 ∧ ∀ q, q ∈ (ys.map fun y => y / 4) → ((i + a) / 4 + q) % 25 = 0 → ((i + a) / 4 + q) % 100 = 0) ∧ (i + a) / 4 % 25 = (0 - g) % 25 := fun i => by
    rw [List.mem_filter, decide_eq_true_iff, mem_left4 ha hne]
  unfold lyStep
  generalize ((leftYs (srt (ys.map fun y => y % 400))).filter fun y => decide ((y + a) / 4 % 25 = (0 - g) % 25)) = here at mf nd
  generalize (ys.map fun y => y / 4) = fs at mf
  rcases con_cases fs g with ⟨e, h⟩ | ⟨q, e, m, hq, h⟩ | ⟨q, p, e, m, n, hq, hp, h⟩
  · rw [e]
    have m1 : 4 * ((0 - g) % 25 + 25) - a ∈ here := (mf _).mpr ⟨⟨by omega, by omega, by omega, fun q hq z => absurd (show q % 25 = g by omega) (h q hq)⟩, by omega⟩
    have m2 : 4 * ((0 - g) % 25 + 50) - a ∈ here := (mf _).mpr ⟨⟨by omega, by omega, by omega, fun q hq z => absurd (show q % 25 = g by omega) (h q hq)⟩, by omega⟩
    have n0 : here ≠ [] := fun z => by rw [z] at m1; simp at m1
    have n1 : here.length ≠ 1 := fun z => by
      obtain ⟨u, hu⟩ := List.length_eq_one_iff.mp z
      rw [hu] at m1 m2
      have x := List.mem_singleton.mp m1
      have y := List.mem_singleton.mp m2
      omega
    rw [if_neg n0, if_neg n1]; rfl
  · rw [e]
    have al : ∀ i, i ∈ here → ((i + a) / 4 + q) % 100 = 0 := fun i hi => by
      obtain ⟨⟨_, _, _, h4⟩, h5⟩ := (mf i).mp hi
      exact h4 q m (by omega)
    have m1 : (4 * ((0 - q) % 100) - a) % 400 ∈ here := (mf _).mpr ⟨⟨by omega, by omega, by omega, fun p hp z => by
      have w := h p hp (by omega)
      omega⟩, by omega⟩
    have one : ∃ u, here = [u] := by
      match here, m1, al, nd, mf with
      | [u], _, _, _, _ => exact ⟨u, rfl⟩
      | u :: v :: r, _, al, nd, mf =>
        have x := al u (List.mem_cons_self ..)
        have y := al v (List.mem_cons_of_mem _ (List.mem_cons_self ..))
        obtain ⟨⟨u0, u1, u2, _⟩, _⟩ := (mf u).mp (List.mem_cons_self ..)
        obtain ⟨⟨v0, v1, v2, _⟩, _⟩ := (mf v).mp (List.mem_cons_of_mem _ (List.mem_cons_self ..))
        have c := (List.nodup_cons.mp nd).1
        have : u = v := by omega
        exact absurd (by rw [this]; exact List.mem_cons_self ..) c
    obtain ⟨u, hu⟩ := one
    have x := al u (by rw [hu]; exact List.mem_cons_self ..)
    rw [if_neg (by rw [hu]; simp), if_pos (by rw [hu]; rfl), hu]
    show [a + 4 * ((0 - (u + a) / 4) % 100)] = [a + 4 * (q % 100)]
    congr 3
    omega
  · rw [e]
    have n0 : here = [] := by
      refine Classical.byContradiction fun z => ?_
      obtain ⟨u, r, hu⟩ := List.exists_cons_of_ne_nil z
      obtain ⟨⟨_, _, _, h4⟩, h5⟩ := (mf u).mp (by rw [hu]; exact List.mem_cons_self ..)
      have x := h4 q m (by omega)
      have y := h4 p n (by omega)
      omega
    rw [if_pos n0]; rfl
/-- where none is left -/
theorem left_nil4 {ys : List Int} {a : Int} (ha : ∀ y, y ∈ ys → y % 4 = a) (hne : ys ≠ []) : leftYs (srt (ys.map fun y => y % 400)) = [] ↔ (foursOf (ys.map fun y => y / 4)).length = 50 := by
  rw [fours_50]
  constructor
  · intro h g h0 h1
    have z := step_con ha hne ⟨h0, h1⟩
    rw [h] at z
    have w := congrArg List.length z
    rw [List.length_map] at w
    exact w.symm
  · intro h
    refine Classical.byContradiction fun z => ?_
    obtain ⟨u, r, hu⟩ := List.exists_cons_of_ne_nil z
    obtain ⟨u0, u1, u2, u3⟩ := (mem_left4 ha hne).mp (by rw [hu]; exact List.mem_cons_self .. : u ∈ _)
    obtain ⟨q, p, m, n, hq, hp, hqp⟩ := con_two (h ((0 - (u + a) / 4) % 25) (by omega) (by omega))
    have x := u3 q m (by omega)
    have y := u3 p n (by omega)
    omega
theorem years_perm {ys : List Int} (hne : ys ≠ []) : (yearsOf ys).Perm (lyears (leftYs (srt (ys.map fun y => y % 400)))) := by
  unfold yearsOf
  by_cases hb : (ys.map fun y => !decide (y % 4 = ys.headD 0 % 4)).any id = true
  · rw [if_pos hb]
    have e : leftYs (srt (ys.map fun y => y % 400)) = [] := by
      refine Classical.byContradiction fun z => ?_
      obtain ⟨u, r, hu⟩ := List.exists_cons_of_ne_nil z
      obtain ⟨_, _, h⟩ := mem_left.mp (by rw [hu]; exact List.mem_cons_self .. : u ∈ _)
      obtain ⟨y0, yr, hy⟩ := List.exists_cons_of_ne_nil hne
      rw [List.any_map, List.any_eq_true] at hb
      obtain ⟨y, hym, hyn⟩ := hb
      have a := ((leap_iff _).mp (h y hym)).1
      have b := ((leap_iff _).mp (h y0 (by rw [hy]; exact List.mem_cons_self ..))).1
      have d : ys.headD 0 = y0 := by rw [hy]; rfl
      have c : ¬ y % 4 = ys.headD 0 % 4 := by simpa using hyn
      rw [d] at c
      omega
    rw [e]
    exact List.Perm.refl _
  · rw [if_neg hb]
    have ha : ∀ y, y ∈ ys → y % 4 = ys.headD 0 % 4 := fun y hy => Classical.byContradiction fun z => hb (by
      rw [List.any_map, List.any_eq_true]
      exact ⟨y, hy, by show (!decide (y % 4 = ys.headD 0 % 4)) = true; rw [decide_eq_false z]; rfl⟩)
    by_cases h50 : (foursOf (ys.map fun y => y / 4)).length = 50
    · rw [if_pos h50, (left_nil4 ha hne).mpr h50]
      exact List.Perm.refl _
    · have hl : leftYs (srt (ys.map fun y => y % 400)) ≠ [] := fun z => h50 ((left_nil4 ha hne).mp z)
      rw [if_neg h50]
      unfold lyears
      rw [if_neg hl]
      have hbase : (0 - (leftYs (srt (ys.map fun y => y % 400))).headD 0) % 4 = ys.headD 0 % 4 := by
        obtain ⟨u, r, hu⟩ := List.exists_cons_of_ne_nil hl
        obtain ⟨_, _, u2, _⟩ := (mem_left4 ha hne).mp (by rw [hu]; exact List.mem_cons_self .. : u ∈ _)
        rw [hu]
        show (0 - u) % 4 = _
        omega
      rw [hbase]
      have e : (List.range 25).flatMap (fun (g : Nat) => lyStep (leftYs (srt (ys.map fun y => y % 400))) (ys.headD 0 % 4) (g : Int)) = (r25.flatMap (con (ys.map fun y => y / 4))).map fun f => ys.headD 0 % 4 + 4 * f := by
        rw [List.map_flatMap, List.flatMap_map]
        refine flat_congr fun g hg => ?_
        have := List.mem_range.mp hg
        exact step_con ha hne ⟨by omega, by omega⟩
      rw [e]
      exact (fours_perm _).map _

/-! what is due -/
abbrev r12 : List Int := (List.range 12).map fun (i : Nat) => (i : Int)
def duePart (ss : List Int) (r : Int) : List Int := match leftAt ss r with | none => [] | some L => (lyears L).map fun y => 12 * y + r
def dueOf (ks : List Int) : List Int := (List.range 12).flatMap fun (r : Nat) => duePart (srt (sums ks)) (r : Int)
theorem flat_perm {α β : Type} {f g : α → List β} : ∀ {l : List α}, (∀ x, x ∈ l → (f x).Perm (g x)) → (l.flatMap f).Perm (l.flatMap g)
  | [], _ => List.Perm.refl _
  | x :: l, h => by
    rw [List.flatMap_cons, List.flatMap_cons]
    exact (h x (List.mem_cons_self ..)).append (flat_perm fun y hy => h y (List.mem_cons_of_mem _ hy))
theorem yrs_sel (ss : List Int) (r : Int) : yrsAt ss r = srt ((sel 12 ss r).map fun y => y % 400) := by
  unfold yrsAt sel
  rw [List.map_map]; rfl
theorem srt_nil {ns : List Int} : srt ns = [] ↔ ns = [] := by
  constructor
  · intro h
    refine List.eq_nil_iff_forall_not_mem.mpr fun a ha => ?_
    have := mem_srt.mpr ha
    rw [h] at this; simp at this
  · rintro rfl; rfl
theorem due_perm (ks : List Int) : (keptOf ks).Perm (dueOf ks) := by
  have z := grp_flat (d := 12) (by decide) (srt (sums ks)) (fun x => if x.2 = [] then [] else keepS (standG x)) fun r => if_pos rfl
  have e1 : (grp (12 : Nat) (srt (sums ks))).flatMap (fun x => if x.2 = [] then [] else keepS (standG x)) = keptOf ks := by
    unfold keptOf standOf
    rw [List.flatMap_map]
    exact flat_congr fun x hx => if_neg (grp_ne _ _ x hx)
  rw [e1] at z
  refine z.trans ?_
  unfold dueOf
  rw [List.flatMap_map]
  refine flat_perm fun i _ => ?_
  show (if sel 12 (srt (sums ks)) (i : Int) = [] then [] else keepS (standG ((i : Int), sel 12 (srt (sums ks)) (i : Int)))).Perm (duePart (srt (sums ks)) (i : Int))
  unfold duePart leftAt
  rw [yrs_sel]
  by_cases h : sel 12 (srt (sums ks)) (i : Int) = []
  · rw [if_pos h, h]
    exact List.Perm.refl _
  · rw [if_neg h, if_neg (fun q => h (List.map_eq_nil_iff.mp (srt_nil.mp q)))]
    exact (years_perm h).map _
theorem due_nf (ks : List Int) : asc (dueOf ks) = nfOf ks := asc_one (asc_pw _) (asc_pw _) (((asc_perm _).trans (due_perm ks).symm).trans (asc_perm _).symm)
theorem due_len (ks : List Int) : (dueOf ks).length ≤ ks.length + 1 := (due_perm ks).length_eq ▸ keptOf_len ks
theorem due_take (ss : List Int) (n : Nat) : (List.range (n + 1)).flatMap (fun (r : Nat) => duePart ss (r : Int)) = (List.range n).flatMap (fun (r : Nat) => duePart ss (r : Int)) ++ duePart ss (n : Int) := by
  rw [List.range_succ, List.flatMap_append]
  simp
theorem due_part_len (ks : List Int) {n : Nat} (hn : n ≤ 12) : ((List.range n).flatMap fun (r : Nat) => duePart (srt (sums ks)) (r : Int)).length ≤ ks.length + 1 := by
  have h := due_len ks
  unfold dueOf at h
  have e : List.range 12 = List.range n ++ (List.range' n (12 - n)) := by
    rw [List.range_eq_range', List.range_eq_range', show 12 = n + (12 - n) by omega, ← List.range'_append_1]
    simp
  rw [e, List.flatMap_append, List.length_append] at h
  omega
theorem leftYs_len (ys : List Int) : (leftYs ys).length ≤ 400 := by
  unfold leftYs
  rw [List.length_map]
  have h := List.length_filter_le (fun (i : Nat) => decide (((ys.filter fun o => !isLeap ((i : Int) + o)).map fun _ => (1 : Int)) = [])) (List.range 400)
  rw [List.length_range] at h
  exact h
theorem lyears_bound {L : List Int} {z : Int} (h : z ∈ lyears L) : z.natAbs ≤ 1000 := by
  unfold lyears at h
  split at h
  · simp at h; omega
  · obtain ⟨g, hg, hz⟩ := List.mem_flatMap.mp h
    have hg2 := List.mem_range.mp hg
    have hb : 0 ≤ (0 - L.headD 0) % 4 ∧ (0 - L.headD 0) % 4 < 4 := by omega
    generalize (0 - L.headD 0) % 4 = b at hb hz
    unfold lyStep at hz
    split at hz
    · simp at hz; omega
    · split at hz
      · have hz := List.mem_singleton.mp hz
        omega
      · simp at hz
theorem ly_len2 (L : List Int) : (lyears L).length ≤ 50 := by
  unfold lyears
  split
  · simp
  · exact ly_len L _ 25
theorem OptsAt.get {H : Hp} : ∀ {vs : List V} {os : List (Option (List Int))} {i : Nat} {o : Option (List Int)}, OptsAt H vs os → os[i]? = some o → ∃ v, vs[i]? = some v ∧ OptAt H v o
  | _, _, _, _, .nil, h => by simp at h
  | _, _, 0, _, .cons a t, h => by cases Option.some.inj h; exact ⟨_, rfl, a⟩
  | _, _, i + 1, _, .cons a t, h => OptsAt.get (i := i) t h
theorem optsAt_ex {H H' : Hp} (e : Ex H H') {vs : List V} {os : List (Option (List Int))} (h : OptsAt H vs os) : OptsAt H' vs os := h.keep fun _ _ _ _ _ z => e _ _ z
def spDue (K : PySem.W.Frag) : Sp := spNF K

theorem mrun_append (st : Int × Int) (a b : List Int) : mrun st (a ++ b) = mrun (mrun st a) b := List.foldl_append ..
theorem mrun_fst (st : Int × Int) (ks : List Int) : (mrun st ks).1 = st.1 + ks.sum := by
  induction ks generalizing st with
  | nil => simp [mrun]
  | cons k ks ih =>
    show (mrun (mvs st k) ks).1 = _
    rw [ih, List.sum_cons]
    show st.1 + k + ks.sum = _
    omega
def fine (st : Int × Int) : Prop := 1 ≤ st.2 ∧ st.2 ≤ mlen st.1
theorem mvs_fine {st : Int × Int} (h : fine st) (k : Int) : fine (mvs st k) := by
  have b := mlen_bounds (st.1 + k)
  have h1 := h.1
  refine ⟨?_, Int.min_le_right _ _⟩
  show 1 ≤ min st.2 (mlen (st.1 + k))
  omega
theorem mrun_fine {st : Int × Int} (h : fine st) (ks : List Int) : fine (mrun st ks) := by
  induction ks generalizing st with
  | nil => exact h
  | cons k ks ih => exact ih (mvs_fine h k)
theorem fine_of {y m d : Int} (h : Exists_ y m d) : fine (12 * y + m - 1, d) := by
  obtain ⟨h1, h2, h3, h4⟩ := h
  refine ⟨h3, ?_⟩
  show d ≤ mlen (12 * y + m - 1)
  unfold mlen
  rw [show (12 * y + m - 1) / 12 = y by omega, show (12 * y + m - 1) % 12 + 1 = m by omega]
  exact h4
theorem of_fine {st : Int × Int} (h : fine st) : Exists_ (st.1 / 12) (st.1 % 12 + 1) st.2 := ⟨by omega, by omega, h.1, h.2⟩
theorem back_st (st : Int × Int) : (12 * (st.1 / 12) + (st.1 % 12 + 1) - 1, st.2) = st := by
  obtain ⟨a, b⟩ := st
  show (12 * (a / 12) + (a % 12 + 1) - 1, b) = (a, b)
  rw [show 12 * (a / 12) + (a % 12 + 1) - 1 = a by omega]
theorem mvs_zero {st : Int × Int} (h : fine st) : mvs st 0 = st := by
  obtain ⟨a, b⟩ := st
  have h2 : b ≤ mlen a := h.2
  show (a + 0, min b (mlen (a + 0))) = (a, b)
  rw [Int.add_zero, Int.min_eq_left h2]
theorem mlen_4800 (n : Int) : mlen (n + 4800) = mlen n := by
  unfold mlen
  rw [show (n + 4800) / 12 = n / 12 + 400 by omega, show (n + 4800) % 12 = n % 12 by omega]
  unfold dlen mlist
  rw [show leap (n / 12 + 400) = leap (n / 12) by
    unfold leap
    rw [show (n / 12 + 400) % 4 = n / 12 % 4 by omega, show (n / 12 + 400) % 100 = n / 12 % 100 by omega, show (n / 12 + 400) % 400 = n / 12 % 400 by omega]]
theorem mrun_4800 (st : Int × Int) (ks : List Int) : mrun (st.1 + 4800, st.2) ks = ((mrun st ks).1 + 4800, (mrun st ks).2) := by
  induction ks generalizing st with
  | nil => rfl
  | cons k ks ih =>
    show mrun (mvs (st.1 + 4800, st.2) k) ks = ((mrun (mvs st k) ks).1 + 4800, (mrun (mvs st k) ks).2)
    rw [← ih]
    congr 1
    show (st.1 + 4800 + k, min st.2 (mlen (st.1 + 4800 + k))) = (st.1 + k + 4800, min st.2 (mlen (st.1 + k)))
    rw [show st.1 + 4800 + k = st.1 + k + 4800 by omega, mlen_4800]
theorem sum_bound {ks : List Int} {b : Nat} (h : ∀ k, k ∈ ks → k.natAbs ≤ b) : ks.sum.natAbs ≤ ks.length * b := by
  induction ks with
  | nil => simp
  | cons k ks ih =>
    have h1 := h k (List.mem_cons_self ..)
    have h2 := ih fun x hx => h x (List.mem_cons_of_mem _ hx)
    rw [List.sum_cons, List.length_cons, Nat.add_mul]
    omega
/-- the date at a place, as ints -/
def tupI (st : Int × Int) : List Int := [st.1 / 12, st.1 % 12 + 1, st.2]
theorem tupI_map (st : Int × Int) : tupD st = (tupI st).map V.int := rfl

/-! the steps between visits; what is taken out of a list -/
def steps (os : List Int) : List Int := List.zipWith (fun x y => y - x) (0 :: os) os
theorem erase_map_int (lf : List Int) (j : Nat) : (lf.map V.int).eraseIdx j = (lf.eraseIdx j).map V.int := L2.erase_mapI lf j
theorem perm_idx : ∀ {lf : List Int} {j : Nat} {y : Int}, lf[j]? = some y → (y :: lf.eraseIdx j).Perm lf
  | [], _, _, h => by simp at h
  | x :: r, 0, y, h => by
    obtain rfl : x = y := by simpa using h
    exact List.Perm.refl _
  | x :: r, j + 1, y, h => by
    have ih := perm_idx (lf := r) (j := j) (y := y) (by simpa using h)
    exact (List.Perm.swap x y _).trans (List.Perm.cons x ih)
theorem perm_pop {acc lf L0 : List Int} {j : Nat} {y : Int} (h : (acc ++ lf).Perm L0) (hj : lf[j]? = some y) : ((acc ++ [y]) ++ lf.eraseIdx j).Perm L0 := by
  refine List.Perm.trans ?_ h
  rw [List.append_assoc]
  refine List.Perm.append_left acc ?_
  exact perm_idx hj

/-! visits and the day -/
theorem sums_len (ks : List Int) : (sums ks).length = ks.length + 1 := sumsTo_len ks _
theorem mem_sums {ks : List Int} {z : Int} : z ∈ sums ks ↔ ∃ j, j ≤ ks.length ∧ z = (ks.take j).sum := by
  unfold sums sumsTo
  rw [List.mem_map]
  constructor
  · rintro ⟨j, hj, rfl⟩
    exact ⟨j, by have := List.mem_range.mp hj; omega, rfl⟩
  · rintro ⟨j, hj, rfl⟩
    exact ⟨j, List.mem_range.mpr (by omega), rfl⟩
theorem sums_last (ks : List Int) : (sums ks)[(sums ks).length - 1]? = some ks.sum := by
  rw [sums_len]
  show (sumsTo ks ks.length)[ks.length]? = _
  rw [sumsTo_get ks (Nat.le_refl _), List.take_length]
theorem mem_sums_cons {k : Int} {ks : List Int} {z : Int} : z ∈ sums (k :: ks) ↔ z = 0 ∨ ∃ u, u ∈ sums ks ∧ z = k + u := by
  rw [mem_sums]
  constructor
  · rintro ⟨j, hj, rfl⟩
    cases j with
    | zero => exact .inl rfl
    | succ j => exact .inr ⟨(ks.take j).sum, mem_sums.mpr ⟨j, by simpa using hj, rfl⟩, by rw [List.take_succ_cons, List.sum_cons]⟩
  · rintro (rfl | ⟨u, hu, rfl⟩)
    · exact ⟨0, Nat.zero_le _, rfl⟩
    · obtain ⟨j, hj, rfl⟩ := mem_sums.mp hu
      exact ⟨j + 1, by simpa using hj, by rw [List.take_succ_cons, List.sum_cons]⟩
theorem zero_mem_sums (ks : List Int) : (0 : Int) ∈ sums ks := mem_sums.mpr ⟨0, Nat.zero_le _, rfl⟩
theorem mrun_fst' (st : Int × Int) (ks : List Int) : (mrun st ks).1 = st.1 + ks.sum := by
  induction ks generalizing st with
  | nil => simp [mrun]
  | cons k ks ih =>
    show (mrun (mvs st k) ks).1 = _
    rw [ih, List.sum_cons]
    show st.1 + k + ks.sum = _
    omega
/-- r is the least of e and the lengths at the visits -/
def Least (n e : Int) (vs : List Int) (r : Int) : Prop := r ≤ e ∧ (∀ z, z ∈ vs → r ≤ mlen (n + z)) ∧ (r = e ∨ ∃ z, z ∈ vs ∧ r = mlen (n + z))
theorem Least.uniq {n e r t : Int} {vs us : List Int} (a : Least n e vs r) (b : Least n e us t) (h : ∀ k, k ∈ vs ↔ k ∈ us) : r = t := by
  have h1 : r ≤ t := by
    rcases b.2.2 with h' | ⟨z, hz, h'⟩
    · rw [h']; exact a.1
    · rw [h']; exact a.2.1 z ((h z).mpr hz)
  have h2 : t ≤ r := by
    rcases a.2.2 with h' | ⟨z, hz, h'⟩
    · rw [h']; exact b.1
    · rw [h']; exact b.2.1 z ((h z).mp hz)
  omega
theorem mrun_least : ∀ (ks : List Int) (n e : Int), e ≤ mlen n → Least n e (sums ks) (mrun (n, e) ks).2
  | [], n, e, h => ⟨Int.le_refl _, fun z hz => by
      obtain ⟨j, _, rfl⟩ := mem_sums.mp hz
      rw [List.take_nil]
      show e ≤ mlen (n + 0)
      rw [Int.add_zero]; exact h, .inl rfl⟩
  | k :: ks, n, e, h => by
    have ih := mrun_least ks (n + k) (min e (mlen (n + k))) (Int.min_le_right _ _)
    show Least n e (sums (k :: ks)) (mrun (n + k, min e (mlen (n + k))) ks).2
    generalize (mrun (n + k, min e (mlen (n + k))) ks).2 = r at ih
    obtain ⟨a, b, c⟩ := ih
    have a1 : r ≤ e := Int.le_trans a (Int.min_le_left _ _)
    refine ⟨a1, fun z hz => ?_, ?_⟩
    · rcases mem_sums_cons.mp hz with rfl | ⟨u, hu, rfl⟩
      · rw [Int.add_zero]; omega
      · rw [show n + (k + u) = n + k + u by omega]; exact b u hu
    · rcases c with h' | ⟨z, hz, h'⟩
      · by_cases hc : e ≤ mlen (n + k)
        · exact .inl (by omega)
        · exact .inr ⟨k, mem_sums_cons.mpr (.inr ⟨0, zero_mem_sums ks, by omega⟩), by omega⟩
      · exact .inr ⟨k + z, mem_sums_cons.mpr (.inr ⟨z, hz, rfl⟩), by rw [h']; congr 1; omega⟩
theorem steps_take : ∀ (os : List Int) (a : Int) (j : Nat), j ≤ os.length → ((List.zipWith (fun x y => y - x) (a :: os) os).take j).sum = (a :: os).getD j 0 - a
  | _, a, 0, _ => by simp
  | [], a, j + 1, h => by simp at h
  | o :: r, a, j + 1, h => by
    have ih := steps_take r o j (by simpa using h)
    show (((o - a) :: List.zipWith (fun x y => y - x) (o :: r) r).take (j + 1)).sum = (o :: r).getD j 0 - a
    rw [List.take_succ_cons, List.sum_cons, ih]
    omega
theorem steps_len (os : List Int) : (steps os).length = os.length := by unfold steps; rw [List.length_zipWith, List.length_cons]; omega
theorem sums_steps {os : List Int} {z : Int} : z ∈ sums (steps os) ↔ z = 0 ∨ z ∈ os := by
  rw [mem_sums, steps_len]
  have e : ∀ j, j ≤ os.length → ((steps os).take j).sum = ((0 : Int) :: os).getD j 0 := fun j hj => by
    unfold steps
    rw [steps_take os 0 j hj, Int.sub_zero]
  constructor
  · rintro ⟨j, hj, rfl⟩
    rw [e j hj]
    cases j with
    | zero => exact .inl rfl
    | succ j =>
      have hlt : j < os.length := by omega
      refine .inr ?_
      show os.getD j 0 ∈ os
      rw [List.getD_eq_getElem?_getD, List.getElem?_eq_getElem hlt]
      exact List.getElem_mem hlt
  · rintro (rfl | h)
    · exact ⟨0, Nat.zero_le _, rfl⟩
    · obtain ⟨j, hlt, rfl⟩ := List.getElem_of_mem h
      refine ⟨j + 1, by omega, ?_⟩
      rw [e (j + 1) (by omega)]
      show _ = os.getD j 0
      rw [List.getD_eq_getElem?_getD, List.getElem?_eq_getElem hlt]; rfl
theorem steps_sum {os : List Int} {z : Int} (h : os[os.length - 1]? = some z) : (steps os).sum = z := by
  have hlt := (List.getElem?_eq_some_iff.mp h).1
  have e := steps_take os 0 os.length (Nat.le_refl _)
  rw [List.take_of_length_le (by rw [List.length_zipWith]; omega), Int.sub_zero] at e
  show (List.zipWith (fun x y => y - x) (0 :: os) os).sum = z
  rw [e, List.getD_eq_getElem?_getD, show os.length = (os.length - 1) + 1 by omega, List.getElem?_cons_succ, h]; rfl
theorem mrun_same {n e : Int} {ks os : List Int} (h : e ≤ mlen n) (hm : ∀ k, k ∈ os ↔ k ∈ sums ks) (hl : os[os.length - 1]? = some ks.sum) : mrun (n, e) (steps os) = mrun (n, e) ks := by
  refine Prod.ext ?_ ?_
  · rw [mrun_fst', mrun_fst', steps_sum hl]
  · refine (mrun_least _ n e h).uniq (mrun_least _ n e h) fun k => ?_
    rw [sums_steps, hm]
    exact ⟨fun h => h.elim (fun e => e ▸ zero_mem_sums ks) id, .inr⟩
theorem srt_same {ks os : List Int} (hm : ∀ k, k ∈ os ↔ k ∈ sums ks) : srt (sums (steps os)) = srt (sums ks) := srt_eq fun k => by
  rw [sums_steps, hm]
  exact ⟨fun h => h.elim (fun e => e ▸ zero_mem_sums ks) id, .inr⟩
theorem srt_len : ∀ ns : List Int, (srt ns).length ≤ ns.length
  | [] => Nat.le_refl _
  | x :: r => by
    have ih := srt_len r
    have h : ∀ l : List Int, (insI x l).length ≤ l.length + 1 := fun l => by
      induction l with
      | nil => simp [insI]
      | cons y l ih => unfold insI; split <;> (try split) <;> simp <;> omega
    show (insI x (srt r)).length ≤ r.length + 1
    have := h (srt r)
    omega
theorem map_getD (f : Int → Int) (L : List Int) : (List.range L.length).map (fun i => V.int (f (L.getD i 0))) = (L.map f).map V.int := by
  refine List.ext_getElem? fun i => ?_
  rw [List.getElem?_map, List.getElem?_map, List.getElem?_map]
  by_cases h : i < L.length
  · rw [List.getElem?_range h, List.getElem?_eq_getElem h]
    show some (V.int (f (L.getD i 0))) = some (V.int (f L[i]))
    rw [List.getD_eq_getElem?_getD, List.getElem?_eq_getElem h]; rfl
  · rw [List.getElem?_eq_none (by rw [List.length_range]; omega), List.getElem?_eq_none (by omega)]; rfl
theorem fits_ints {ks : List Int} (hk : ∀ k, k ∈ ks → k.natAbs ≤ 10 ^ 100) (hl : ks.length ≤ 400) : Fits (.list (ks.map PyData.int)) := by
  obtain ⟨a, b, c, d, f⟩ := shows_ints ks hk
  refine fits_of ?_ ?_ ?_ ?_ ?_
  · simp only [PyData.hasDict, d]
  · simp only [PyData.showable, a]
  · simp only [PyData.depth, f]; decide
  · simp only [PyData.leavesShort, b]
  · simp only [PyData.weight]; omega
theorem okd_L {n : Nat} {vs : List Int} (h : vs.length ≤ 1000) : okd (n + 1) (.list (vs.map PyData.int)) := ⟨by rw [List.length_map]; omega, okd_ints _ _⟩
theorem okd_LL {vs : List Int} (h : vs.length ≤ 1000) : okd 2 (.list [.list (vs.map PyData.int), .list (vs.map PyData.int)]) := ⟨by simp, fun d hd => by
  simp at hd
  subst hd
  exact okd_L h⟩
theorem min_least {n e r : Int} {vs : List Int} (h1 : r ∈ e :: vs.map fun z => mlen (n + z)) (h2 : ∀ y, y ∈ e :: vs.map (fun z => mlen (n + z)) → r ≤ y) : Least n e vs r := by
  refine ⟨h2 e (List.mem_cons_self ..), fun z hz => h2 _ (List.mem_cons_of_mem _ (List.mem_map.mpr ⟨z, hz, rfl⟩)), ?_⟩
  rcases List.mem_cons.mp h1 with h | h
  · exact .inl h
  · obtain ⟨z, hz, e⟩ := List.mem_map.mp h
    exact .inr ⟨z, hz, e.symm⟩

/-! effects of lists: the months that are visited, and the leap years among them -/
def Nv (A : List Int) (r : Int) : Prop := ∃ v, v ∈ A ∧ v % 12 = r
def Pv (A : List Int) (r c : Int) : Prop := ∀ v, v ∈ A → v % 12 = r → isLeap (c + v / 12) = true
def EqV (A B : List Int) : Prop := ∀ r, 0 ≤ r → r < 12 → (Nv A r ↔ Nv B r) ∧ ∀ c, Pv A r c ↔ Pv B r c
theorem EqV.refl (A : List Int) : EqV A A := fun _ _ _ => ⟨Iff.rfl, fun _ => Iff.rfl⟩
theorem EqV.symm {A B : List Int} (h : EqV A B) : EqV B A := fun r h0 h1 => ⟨(h r h0 h1).1.symm, fun c => ((h r h0 h1).2 c).symm⟩
theorem EqV.trans {A B C : List Int} (h : EqV A B) (g : EqV B C) : EqV A C := fun r h0 h1 => ⟨(h r h0 h1).1.trans (g r h0 h1).1, fun c => ((h r h0 h1).2 c).trans ((g r h0 h1).2 c)⟩
theorem EqV.of {A B : List Int} (h : ∀ v, v ∈ A ↔ v ∈ B) : EqV A B := fun r _ _ => ⟨⟨fun ⟨v, a, b⟩ => ⟨v, (h v).mp a, b⟩, fun ⟨v, a, b⟩ => ⟨v, (h v).mpr a, b⟩⟩, fun c => ⟨fun k v a => k v ((h v).mpr a), fun k v a => k v ((h v).mp a)⟩⟩
/-- visits of the whole that are put in again change nothing -/
theorem EqV.more {A B S : List Int} (h : EqV A S) (h1 : ∀ v, v ∈ A → v ∈ B) (h2 : ∀ v, v ∈ B → v ∈ A ∨ v ∈ S) : EqV B S := fun r r0 r1 => by
  obtain ⟨n, p⟩ := h r r0 r1
  refine ⟨⟨fun ⟨v, a, b⟩ => ?_, fun z => ?_⟩, fun c => ⟨fun k => (p c).mp fun v a => k v (h1 v a), fun k v a b => ?_⟩⟩
  · rcases h2 v a with x | x
    · exact n.mp ⟨v, x, b⟩
    · exact ⟨v, x, b⟩
  · obtain ⟨v, a, b⟩ := n.mpr z
    exact ⟨v, h1 v a, b⟩
  · rcases h2 v a with x | x
    · exact (p c).mpr k v x b
    · exact k v x b
/-- where all years are equal modulo 4, any start -/
theorem leaps4 {ys : List Int} {a c : Int} (ha : ∀ y, y ∈ ys → y % 4 = a) (hne : ys ≠ []) : (∀ y, y ∈ ys → isLeap (c + y) = true) ↔ (c + a) % 4 = 0 ∧ ∀ q, q ∈ (ys.map fun y => y / 4) → ((c + a) / 4 + q) % 25 = 0 → ((c + a) / 4 + q) % 100 = 0 := by
  have a4 : 0 ≤ a ∧ a < 4 := by
    obtain ⟨y, r, e⟩ := List.exists_cons_of_ne_nil hne
    have := ha y (by rw [e]; exact List.mem_cons_self ..)
    omega
  constructor
  · intro h
    refine ⟨?_, fun q hq e => ?_⟩
    · obtain ⟨y, r, e⟩ := List.exists_cons_of_ne_nil hne
      have hy : y ∈ ys := by rw [e]; exact List.mem_cons_self ..
      have := ha y hy
      have := ((leap_iff _).mp (h y hy)).1
      omega
    · obtain ⟨y, hy, rfl⟩ := List.mem_map.mp hq
      have := ha y hy
      have := (leap_iff _).mp (h y hy)
      omega
  · rintro ⟨h2, h⟩ y hy
    refine (leap_iff _).mpr ?_
    have e := ha y hy
    have z := h (y / 4) (List.mem_map.mpr ⟨y, hy, rfl⟩)
    by_cases w : ((c + a) / 4 + y / 4) % 25 = 0
    · have := z w
      omega
    · omega
theorem mem_fours {fs : List Int} {f : Int} : f ∈ foursOf fs ↔ ∃ g, 0 ≤ g ∧ g < 25 ∧ f ∈ con fs g := by
  rw [(fours_perm fs).mem_iff, List.mem_flatMap]
  exact ⟨fun ⟨g, a, b⟩ => ⟨g, (mem_ints.mp a).1, (mem_ints.mp a).2, b⟩, fun ⟨g, a, b, c⟩ => ⟨g, mem_ints.mpr ⟨a, b⟩, c⟩⟩
theorem never2 (c : Int) : ¬ ∀ y, y ∈ ([0, 1] : List Int) → isLeap (c + y) = true := fun h => by
  have a := ((leap_iff _).mp (h 0 (by simp))).1
  have b := ((leap_iff _).mp (h 1 (by simp))).1
  omega
/-- the cases of what stands for years -/
inductive YCase (ys : List Int) : Prop
  | never (e : yearsOf ys = [0, 1]) (h : ∀ c, ¬ ∀ y, y ∈ ys → isLeap (c + y) = true)
  | fours (a : Int) (a0 : 0 ≤ a) (a4 : a < 4) (ha : ∀ y, y ∈ ys → y % 4 = a) (e : yearsOf ys = (foursOf (ys.map fun y => y / 4)).map fun f => a + 4 * f) (h50 : (foursOf (ys.map fun y => y / 4)).length ≠ 50)
theorem years_case {ys : List Int} (hne : ys ≠ []) : YCase ys := by
  obtain ⟨y0, yr, hy⟩ := List.exists_cons_of_ne_nil hne
  have d : ys.headD 0 = y0 := by rw [hy]; rfl
  have m0 : y0 ∈ ys := by rw [hy]; exact List.mem_cons_self ..
  have ey : yearsOf ys = if (ys.map fun y => !decide (y % 4 = ys.headD 0 % 4)).any id = true then [0, 1] else if (foursOf (ys.map fun y => y / 4)).length = 50 then [0, 1] else (foursOf (ys.map fun y => y / 4)).map fun f => ys.headD 0 % 4 + 4 * f := rfl
  by_cases hb : (ys.map fun y => !decide (y % 4 = ys.headD 0 % 4)).any id = true
  · rw [if_pos hb] at ey
    refine .never ey fun c h => ?_
    rw [List.any_map, List.any_eq_true] at hb
    obtain ⟨y, hym, hyn⟩ := hb
    have a := ((leap_iff _).mp (h y hym)).1
    have b := ((leap_iff _).mp (h y0 m0)).1
    have c : ¬ y % 4 = ys.headD 0 % 4 := by simpa using hyn
    rw [d] at c
    omega
  · rw [if_neg hb] at ey
    have ha : ∀ y, y ∈ ys → y % 4 = y0 % 4 := fun y hy => Classical.byContradiction fun z => hb (by
      rw [List.any_map, List.any_eq_true]
      exact ⟨y, hy, by show (!decide (y % 4 = ys.headD 0 % 4)) = true; rw [d, decide_eq_false z]; rfl⟩)
    by_cases h50 : (foursOf (ys.map fun y => y / 4)).length = 50
    · rw [if_pos h50] at ey
      refine .never ey fun c h => ?_
      obtain ⟨h2, h3⟩ := (leaps4 ha hne).mp h
      obtain ⟨q, p, m, n, hq, hp, hqp⟩ := con_two ((fours_50 _).mp h50 ((0 - (c + y0 % 4) / 4) % 25) (by omega) (by omega))
      have x := h3 q m (by omega)
      have y := h3 p n (by omega)
      omega
    · rw [if_neg h50, d] at ey
      exact .fours (y0 % 4) (by omega) (by omega) ha ey h50
theorem con_ne {fs : List Int} {q : Int} (h : q ∈ fs) : con fs (q % 25) ≠ [] := by
  rcases con_cases fs (q % 25) with ⟨e, h2⟩ | ⟨q', e, _⟩ | ⟨q', p, e, _⟩
  · exact absurd rfl (h2 q h)
  · rw [e]; simp
  · rw [e]; simp
theorem years_ne {ys : List Int} (hne : ys ≠ []) : yearsOf ys ≠ [] := by
  rcases years_case hne with ⟨e, _⟩ | ⟨a, _, _, ha, e, _⟩
  · rw [e]; simp
  · rw [e]
    obtain ⟨y0, yr, hy⟩ := List.exists_cons_of_ne_nil hne
    have m : y0 / 4 ∈ (ys.map fun y => y / 4) := List.mem_map.mpr ⟨y0, by rw [hy]; exact List.mem_cons_self .., rfl⟩
    obtain ⟨f, r, hf⟩ := List.exists_cons_of_ne_nil (con_ne m)
    have mf : f ∈ foursOf (ys.map fun y => y / 4) := mem_fours.mpr ⟨y0 / 4 % 25, by omega, by omega, by rw [hf]; exact List.mem_cons_self ..⟩
    intro z
    rw [List.map_eq_nil_iff] at z
    rw [z] at mf
    simp at mf
/-- the years that stand for others leave the same starts -/
theorem years_sound {ys : List Int} (hne : ys ≠ []) (c : Int) : (∀ y, y ∈ yearsOf ys → isLeap (c + y) = true) ↔ ∀ y, y ∈ ys → isLeap (c + y) = true := by
  have yn := years_ne hne
  rcases years_case hne with ⟨e, h⟩ | ⟨a, a0, a4, ha, e, _⟩
  · rw [e]
    exact ⟨fun k => absurd k (never2 c), fun k => absurd k (h c)⟩
  · rw [leaps4 ha hne]
    have hz : ∀ z, z ∈ yearsOf ys → z % 4 = a := fun z hz => by
      rw [e] at hz
      obtain ⟨f, _, rfl⟩ := List.mem_map.mp hz
      omega
    rw [leaps4 hz yn]
    have md : ∀ f, f ∈ ((yearsOf ys).map fun y => y / 4) ↔ f ∈ foursOf (ys.map fun y => y / 4) := fun f => by
      rw [e, List.map_map, List.mem_map]
      constructor
      · rintro ⟨u, hu, rfl⟩
        have : (a + 4 * u) / 4 = u := by omega
        show (a + 4 * u) / 4 ∈ _
        rw [this]; exact hu
      · intro hf
        exact ⟨f, hf, by show (a + 4 * f) / 4 = f; omega⟩
    generalize (ys.map fun y => y / 4) = fs at md
    constructor
    · rintro ⟨h2, h⟩
      refine ⟨h2, fun q hq z => ?_⟩
      have key : ∀ f, f ∈ con fs (q % 25) → ((c + a) / 4 + f) % 25 = 0 → ((c + a) / 4 + f) % 100 = 0 := fun f hf => h f ((md f).mpr (mem_fours.mpr ⟨_, by omega, by omega, hf⟩))
      rcases con_cases fs (q % 25) with ⟨e, h2⟩ | ⟨q', e, m', hq', h'⟩ | ⟨q', p, e, m', n', hq', hp', h'⟩
      · exact absurd rfl (h2 q hq)
      · have x := key (q' % 100) (by rw [e]; exact List.mem_cons_self ..) (by omega)
        have y := h' q hq rfl
        omega
      · have x := key (q % 25) (by rw [e]; exact List.mem_cons_self ..) (by omega)
        have y := key (q % 25 + 25) (by rw [e]; exact List.mem_cons_of_mem _ (List.mem_cons_self ..)) (by omega)
        omega
    · rintro ⟨h2, h⟩
      refine ⟨h2, fun f hf z => ?_⟩
      obtain ⟨g, g0, g1, hc⟩ := mem_fours.mp ((md f).mp hf)
      rcases con_cases fs g with ⟨e, _⟩ | ⟨q', e, m', hq', h'⟩ | ⟨q', p, e, m', n', hq', hp', h'⟩
      · rw [e] at hc; simp at hc
      · rw [e] at hc
        have hc := List.mem_singleton.mp hc
        have x := h q' m' (by omega)
        omega
      · rw [e] at hc
        have hfg : f % 25 = g := by
          rcases List.mem_cons.mp hc with rfl | hc
          · omega
          · have hc := List.mem_singleton.mp hc
            omega
        have x := h q' m' (by omega)
        have y := h p n' (by omega)
        omega
/-! normal forms and effects -/
theorem mem_sel {d : Int} {ns : List Int} {r u : Int} : u ∈ sel d ns r ↔ ∃ n, n ∈ ns ∧ n % d = r ∧ n / d = u := by
  unfold sel
  rw [List.mem_map]
  constructor
  · rintro ⟨n, hn, rfl⟩
    rw [List.mem_filter, decide_eq_true_iff] at hn
    exact ⟨n, hn.1, hn.2, rfl⟩
  · rintro ⟨n, h1, h2, rfl⟩
    exact ⟨n, List.mem_filter.mpr ⟨h1, decide_eq_true h2⟩, rfl⟩
theorem nv_sel {A : List Int} {r : Int} : Nv A r ↔ sel 12 A r ≠ [] := by
  rw [Ne, sel_nil, Classical.not_not]; rfl
theorem pv_sel {A : List Int} {r c : Int} : Pv A r c ↔ ∀ y, y ∈ sel 12 A r → isLeap (c + y) = true := by
  constructor
  · intro h y hy
    obtain ⟨n, h1, h2, rfl⟩ := mem_sel.mp hy
    exact h n h1 h2
  · intro h v h1 h2
    exact h _ (mem_sel.mpr ⟨v, h1, h2, rfl⟩)
theorem mem_stand {ks : List Int} {g : Int × List Int} : g ∈ standOf ks ↔ Nv (sums ks) g.1 ∧ 0 ≤ g.1 ∧ g.1 < 12 ∧ g.2 = yearsOf (sel 12 (srt (sums ks)) g.1) := by
  have e := eq_look (grp 12 (srt (sums ks))) (grp_nodup 12 _)
  have key : ∀ x, x ∈ grp 12 (srt (sums ks)) ↔ x.1 ∈ (grp 12 (srt (sums ks))).map Prod.fst ∧ x.2 = sel 12 (srt (sums ks)) x.1 := fun x => by
    constructor
    · intro hx
      refine ⟨List.mem_map.mpr ⟨x, hx, rfl⟩, ?_⟩
      rw [e] at hx
      obtain ⟨k, _, rfl⟩ := List.mem_map.mp hx
      exact look_grp 12 _ k
    · rintro ⟨h1, h2⟩
      rw [e]
      exact List.mem_map.mpr ⟨x.1, h1, by rw [look_grp, ← h2]⟩
  have nvs : ∀ r, r ∈ (grp 12 (srt (sums ks))).map Prod.fst ↔ Nv (sums ks) r := fun r => by
    rw [grp_keys]
    exact ⟨fun ⟨n, a, b⟩ => ⟨n, mem_srt.mp a, b⟩, fun ⟨n, a, b⟩ => ⟨n, mem_srt.mpr a, b⟩⟩
  unfold standOf
  rw [List.mem_map]
  constructor
  · rintro ⟨x, hx, rfl⟩
    obtain ⟨h1, h2⟩ := (key x).mp hx
    have h3 := (nvs _).mp h1
    refine ⟨h3, ?_, ?_, ?_⟩
    · obtain ⟨v, _, hv⟩ := h3
      show 0 ≤ x.1
      omega
    · obtain ⟨v, _, hv⟩ := h3
      show x.1 < 12
      omega
    · show yearsOf x.2 = yearsOf (sel 12 (srt (sums ks)) x.1)
      rw [h2]
  · rintro ⟨h1, _, _, h2⟩
    refine ⟨(g.1, sel 12 (srt (sums ks)) g.1), (key _).mpr ⟨(nvs _).mpr h1, rfl⟩, ?_⟩
    show (g.1, yearsOf (sel 12 (srt (sums ks)) g.1)) = g
    rw [← h2]
theorem mem_nf {ks : List Int} {v : Int} : v ∈ nfOf ks ↔ Nv (sums ks) (v % 12) ∧ v / 12 ∈ yearsOf (sel 12 (srt (sums ks)) (v % 12)) := by
  have h0 : v ∈ nfOf ks ↔ v ∈ keptOf ks := (asc_perm _).mem_iff
  rw [h0]
  unfold keptOf
  rw [List.mem_flatMap]
  constructor
  · rintro ⟨g, hg, hv⟩
    obtain ⟨h1, h2, h3, h4⟩ := mem_stand.mp hg
    obtain ⟨y, hy, rfl⟩ := List.mem_map.mp hv
    have e1 : (12 * y + g.1) % 12 = g.1 := by omega
    have e2 : (12 * y + g.1) / 12 = y := by omega
    rw [e1, e2, ← h4]
    exact ⟨h1, hy⟩
  · rintro ⟨h1, h2⟩
    refine ⟨(v % 12, yearsOf (sel 12 (srt (sums ks)) (v % 12))), mem_stand.mpr ⟨h1, by show 0 ≤ v % 12; omega, by show v % 12 < 12; omega, rfl⟩, List.mem_map.mpr ⟨v / 12, h2, ?_⟩⟩
    show 12 * (v / 12) + v % 12 = v
    omega
theorem sel_srt_ne {ks : List Int} {r : Int} (h : Nv (sums ks) r) : sel 12 (srt (sums ks)) r ≠ [] := fun z => by
  obtain ⟨v, a, b⟩ := h
  exact sel_nil.mp z ⟨v, mem_srt.mpr a, b⟩
/-- a normal form leaves what the list leaves -/
theorem nf_eqv (ks : List Int) : EqV (nfOf ks) (sums ks) := fun r r0 r1 => by
  have ps : ∀ c, Pv (sums ks) r c ↔ Pv (srt (sums ks)) r c := fun c => ⟨fun h v a => h v (mem_srt.mp a), fun h v a => h v (mem_srt.mpr a)⟩
  refine ⟨⟨fun ⟨v, a, b⟩ => b ▸ (mem_nf.mp a).1, fun h => ?_⟩, fun c => ?_⟩
  · obtain ⟨y, t, hy⟩ := List.exists_cons_of_ne_nil (years_ne (sel_srt_ne h))
    have e1 : (12 * y + r) % 12 = r := by omega
    have e2 : (12 * y + r) / 12 = y := by omega
    exact ⟨12 * y + r, mem_nf.mpr (by rw [e1, e2, hy]; exact ⟨h, List.mem_cons_self ..⟩), e1⟩
  · rw [ps]
    by_cases h : Nv (sums ks) r
    · rw [pv_sel (A := srt (sums ks)), ← years_sound (sel_srt_ne h) c]
      constructor
      · intro k y hy
        have e1 : (12 * y + r) % 12 = r := by omega
        have e2 : (12 * y + r) / 12 = y := by omega
        have z := k (12 * y + r) (mem_nf.mpr (by rw [e1, e2]; exact ⟨h, hy⟩)) e1
        rw [e2] at z
        exact z
      · intro k v a b
        obtain ⟨_, a2⟩ := mem_nf.mp a
        rw [b] at a2
        exact k _ a2
    · refine ⟨fun _ v a b => absurd ⟨v, mem_srt.mp a, b⟩ h, fun _ v a b => absurd (b ▸ (mem_nf.mp a).1) h⟩
/-- the lists have the same effect -/
def SameE (a b : List Int) : Prop := a.sum = b.sum ∧ EqV (sums a) (sums b)
theorem SameE.refl (a : List Int) : SameE a a := ⟨rfl, EqV.refl _⟩
theorem SameE.symm {a b : List Int} (h : SameE a b) : SameE b a := ⟨h.1.symm, h.2.symm⟩
theorem SameE.trans {a b c : List Int} (h : SameE a b) (g : SameE b c) : SameE a c := ⟨h.1.trans g.1, h.2.trans g.2⟩
theorem left_pw (zs : List Int) : (leftYs zs).Pairwise (· < ·) := by
  unfold leftYs
  have h : (List.range 400).Pairwise (· < ·) := List.pairwise_lt_range
  refine List.pairwise_map.mpr ((h.filter _).imp fun {a b} h => ?_)
  omega
theorem left_eq {A B : List Int} {r : Int} (n : Nv A r ↔ Nv B r) (p : ∀ c, Pv A r c ↔ Pv B r c) : leftAt A r = leftAt B r := by
  unfold leftAt
  rw [yrs_sel, yrs_sel]
  by_cases h : sel 12 A r = []
  · have h2 : sel 12 B r = [] := Classical.byContradiction fun z => nv_sel.mp (n.mpr (nv_sel.mpr z)) h
    rw [h, h2]
  · have h2 : sel 12 B r ≠ [] := nv_sel.mp (n.mp (nv_sel.mpr h))
    rw [if_neg (fun z => h (List.map_eq_nil_iff.mp (srt_nil.mp z))), if_neg (fun z => h2 (List.map_eq_nil_iff.mp (srt_nil.mp z)))]
    congr 1
    refine asc_uniq (left_pw _) (left_pw _) fun k => ?_
    rw [mem_left, mem_left, ← pv_sel, ← pv_sel, p]
theorem nf_of_eqv {a b : List Int} (h : EqV (sums a) (sums b)) : nfOf a = nfOf b := by
  rw [← due_nf, ← due_nf]
  congr 1
  unfold dueOf
  refine flat_congr fun r hr => ?_
  have hr := List.mem_range.mp hr
  unfold duePart
  have e : leftAt (srt (sums a)) (r : Int) = leftAt (srt (sums b)) (r : Int) := by
    have ea : EqV (srt (sums a)) (srt (sums b)) := ((EqV.of fun v => mem_srt).trans h).trans (EqV.of fun v => mem_srt.symm)
    obtain ⟨n, p⟩ := ea r (by omega) (by omega)
    exact left_eq n p
  rw [e]
theorem nf_of_same {a b : List Int} (h : SameE a b) : nfOf a = nfOf b := nf_of_eqv h.2
theorem same_iff {a b : List Int} : SameE a b ↔ a.sum = b.sum ∧ nfOf a = nfOf b :=
  ⟨fun h => ⟨h.1, nf_of_same h⟩, fun ⟨h1, h2⟩ => ⟨h1, (nf_eqv a).symm.trans (h2 ▸ nf_eqv b)⟩⟩
/-! lists one after the other -/
theorem mem_sums_app {a b : List Int} {z : Int} : z ∈ sums (a ++ b) ↔ z ∈ sums a ∨ ∃ u, u ∈ sums b ∧ z = a.sum + u := by
  rw [mem_sums, mem_sums]
  constructor
  · rintro ⟨j, hj, rfl⟩
    by_cases h : j ≤ a.length
    · exact .inl ⟨j, h, by rw [List.take_append_of_le_length h]⟩
    · rw [List.length_append] at hj
      exact .inr ⟨(b.take (j - a.length)).sum, mem_sums.mpr ⟨j - a.length, by omega, rfl⟩, by
        rw [List.take_append, List.sum_append, List.take_of_length_le (l := a) (by omega)]⟩
  · rintro (⟨j, hj, rfl⟩ | ⟨u, hu, rfl⟩)
    · exact ⟨j, by rw [List.length_append]; omega, by rw [List.take_append_of_le_length hj]⟩
    · obtain ⟨j, hj, rfl⟩ := mem_sums.mp hu
      exact ⟨a.length + j, by rw [List.length_append]; omega, by
        rw [List.take_append, List.sum_append, List.take_of_length_le (l := a) (by omega), show a.length + j - a.length = j by omega]⟩
theorem SameE.app {a a' b b' : List Int} (h : SameE a a') (g : SameE b b') : SameE (a ++ b) (a' ++ b') := by
  refine ⟨by rw [List.sum_append, List.sum_append, h.1, g.1], fun r r0 r1 => ?_⟩
  have nn : ∀ x y : List Int, Nv (sums (x ++ y)) r ↔ Nv (sums x) r ∨ Nv (sums y) ((r - x.sum) % 12) := fun x y => by
    constructor
    · rintro ⟨v, hv, hr⟩
      rcases mem_sums_app.mp hv with h | ⟨u, hu, rfl⟩
      · exact .inl ⟨v, h, hr⟩
      · exact .inr ⟨u, hu, by omega⟩
    · rintro (⟨v, hv, hr⟩ | ⟨v, hv, hr⟩)
      · exact ⟨v, mem_sums_app.mpr (.inl hv), hr⟩
      · exact ⟨x.sum + v, mem_sums_app.mpr (.inr ⟨v, hv, rfl⟩), by omega⟩
  have pp : ∀ (x y : List Int) (c : Int), Pv (sums (x ++ y)) r c ↔ Pv (sums x) r c ∧ Pv (sums y) ((r - x.sum) % 12) (c + (x.sum + (r - x.sum) % 12) / 12) := fun x y c => by
    constructor
    · intro k
      refine ⟨fun v hv hr => k v (mem_sums_app.mpr (.inl hv)) hr, fun v hv hr => ?_⟩
      have z := k (x.sum + v) (mem_sums_app.mpr (.inr ⟨v, hv, rfl⟩)) (by omega)
      rw [show c + (x.sum + v) / 12 = c + (x.sum + (r - x.sum) % 12) / 12 + v / 12 by omega] at z
      exact z
    · rintro ⟨k1, k2⟩ v hv hr
      rcases mem_sums_app.mp hv with h | ⟨u, hu, rfl⟩
      · exact k1 v h hr
      · have z := k2 u hu (by omega)
        rw [show c + (x.sum + (r - x.sum) % 12) / 12 + u / 12 = c + (x.sum + u) / 12 by omega] at z
        exact z
  obtain ⟨n1, p1⟩ := h.2 r r0 r1
  obtain ⟨n2, p2⟩ := g.2 ((r - a.sum) % 12) (by omega) (by omega)
  refine ⟨?_, fun c => ?_⟩
  · rw [nn, nn, n1, n2, h.1]
  · rw [pp, pp, p1, p2, h.1]
/-! the list of a normal form's visits -/
theorem made_same {ks os : List Int} (h : ∀ v, v ∈ os ↔ v ∈ nfOf ks ∨ v = ks.sum) (hl : os[os.length - 1]? = some ks.sum) : SameE (steps os) ks := by
  refine ⟨steps_sum hl, (nf_eqv ks).more (fun v hv => sums_steps.mpr (.inr ((h v).mpr (.inl hv)))) fun v hv => ?_⟩
  rcases sums_steps.mp hv with rfl | hv
  · exact .inr (zero_mem_sums ks)
  · rcases (h v).mp hv with hv | rfl
    · exact .inl hv
    · exact .inr (mem_sums.mpr ⟨ks.length, Nat.le_refl _, by rw [List.take_length]⟩)

/-! the same effect, and dates -/
theorem mlen_feb {m : Int} (h : m % 12 = 1) : mlen m = 28 + b2 (isLeap (m / 12)) := by
  unfold mlen dlen mlist
  rw [h]
  rfl
theorem mlen_not {m m' : Int} (h : m % 12 ≠ 1) (e : m % 12 = m' % 12) : mlen m = mlen m' ∧ 30 ≤ mlen m := by
  unfold mlen dlen mlist
  rw [← e]
  have h12 : m % 12 = 0 ∨ m % 12 = 2 ∨ m % 12 = 3 ∨ m % 12 = 4 ∨ m % 12 = 5 ∨ m % 12 = 6 ∨ m % 12 = 7 ∨ m % 12 = 8 ∨ m % 12 = 9 ∨ m % 12 = 10 ∨ m % 12 = 11 := by omega
  rcases h12 with z | z | z | z | z | z | z | z | z | z | z <;> rw [z] <;> exact ⟨rfl, by first | (show (30 : Int) ≤ 31; decide) | (show (30 : Int) ≤ 30; decide)⟩
theorem b2_le (b : Bool) : 0 ≤ b2 b ∧ b2 b ≤ 1 := by cases b <;> decide
theorem lower {A B : List Int} {n z : Int} (h : EqV A B) (hz : z ∈ A) : ∃ w, w ∈ B ∧ mlen (n + w) ≤ mlen (n + z) := by
  obtain ⟨nn, pp⟩ := h (z % 12) (by omega) (by omega)
  obtain ⟨w0, hw0, e0⟩ := nn.mp ⟨z, hz, rfl⟩
  by_cases f : (n + z) % 12 = 1
  · cases l : isLeap ((n + z) / 12) with
    | true =>
      refine ⟨w0, hw0, ?_⟩
      rw [mlen_feb f, l, mlen_feb (by omega)]
      have := (b2_le (isLeap ((n + w0) / 12))).2
      show 28 + b2 (isLeap ((n + w0) / 12)) ≤ 28 + 1
      omega
    | false =>
      have np : ¬ Pv B (z % 12) ((n + z % 12) / 12) := fun k => by
        have := (pp _).mpr k z hz rfl
        rw [show (n + z % 12) / 12 + z / 12 = (n + z) / 12 by omega, l] at this
        cases this
      obtain ⟨w, hw⟩ := Classical.not_forall.mp np
      have hw1 : w ∈ B := Classical.byContradiction fun q => hw fun x => absurd x q
      have hw2 : w % 12 = z % 12 := Classical.byContradiction fun q => hw fun _ x => absurd x q
      have hw3 : isLeap ((n + z % 12) / 12 + w / 12) = false := by
        cases q : isLeap ((n + z % 12) / 12 + w / 12) with
        | false => rfl
        | true => exact absurd (fun _ _ => q) hw
      refine ⟨w, hw1, ?_⟩
      rw [mlen_feb f, l, mlen_feb (by omega), show (n + w) / 12 = (n + z % 12) / 12 + w / 12 by omega, hw3]
      exact Int.le_refl _
  · exact ⟨w0, hw0, by rw [(mlen_not f (show (n + z) % 12 = (n + w0) % 12 by omega)).1]; exact Int.le_refl _⟩
theorem least_le {A B : List Int} {n e r t : Int} (h : EqV A B) (a : Least n e A r) (b : Least n e B t) : t ≤ r := by
  rcases a.2.2 with h' | ⟨z, hz, h'⟩
  · rw [h']; exact b.1
  · obtain ⟨w, hw, le⟩ := lower (n := n) h hz
    rw [h']
    exact Int.le_trans (b.2.1 w hw) le
theorem same_mrun {a b : List Int} {n e : Int} (h : SameE a b) (he : e ≤ mlen n) : mrun (n, e) a = mrun (n, e) b := by
  have x := mrun_least a n e he
  have y := mrun_least b n e he
  have z1 := least_le h.2 x y
  have z2 := least_le h.2.symm y x
  have f1 := mrun_fst' (n, e) a
  have f2 := mrun_fst' (n, e) b
  rw [h.1] at f1
  exact Prod.ext (f1.trans f2.symm) (by omega)
/-! parting dates -/
def allLeap (c : Int) (ys : List Int) : Bool := ys.all fun y => isLeap (c + y)
/-- the years that stand for those at a distance, none where there is no visit -/
def stAt (ks : List Int) (r : Int) : List Int := look (standOf ks) r
theorem stand_keys (ks : List Int) : (standOf ks).map Prod.fst = (grp 12 (srt (sums ks))).map Prod.fst := by
  unfold standOf
  rw [List.map_map]; rfl
theorem stand_nodup (ks : List Int) : ((standOf ks).map Prod.fst).Nodup := stand_keys ks ▸ grp_nodup 12 _
theorem look_mem : ∀ {g : List (Int × List Int)} {x : Int × List Int}, (g.map Prod.fst).Nodup → x ∈ g → look g x.1 = x.2
  | [], _, _, h => by simp at h
  | (j, l) :: g, x, nd, h => by
    have n2 := List.nodup_cons.mp (show (j :: g.map Prod.fst).Nodup from nd)
    unfold look
    rcases List.mem_cons.mp h with rfl | h
    · rw [if_pos rfl]
    · have : ¬ j = x.1 := fun z => n2.1 (List.mem_map.mpr ⟨x, h, z.symm⟩)
      rw [if_neg this]
      exact look_mem n2.2 h
theorem look_nil : ∀ {g : List (Int × List Int)} {r : Int}, r ∉ g.map Prod.fst → look g r = []
  | [], _, _ => rfl
  | (j, l) :: g, r, h => by
    unfold look
    rw [if_neg (fun z => h (by rw [List.map_cons, z]; exact List.mem_cons_self ..))]
    exact look_nil fun z => h (by rw [List.map_cons]; exact List.mem_cons_of_mem _ z)
theorem stAt_yes {ks : List Int} {r : Int} (h : Nv (sums ks) r) (h0 : 0 ≤ r) (h1 : r < 12) : stAt ks r = yearsOf (sel 12 (srt (sums ks)) r) :=
  look_mem (x := (r, yearsOf (sel 12 (srt (sums ks)) r))) (stand_nodup ks) (mem_stand.mpr ⟨h, h0, h1, rfl⟩)
theorem stAt_no {ks : List Int} {r : Int} (h : ¬ Nv (sums ks) r) : stAt ks r = [] := by
  refine look_nil fun z => ?_
  obtain ⟨g, hg, rfl⟩ := List.mem_map.mp z
  exact h (mem_stand.mp hg).1
theorem leap_stAt {ks : List Int} {r : Int} (h0 : 0 ≤ r) (h1 : r < 12) (c : Int) : allLeap c (stAt ks r) = true ↔ Pv (sums ks) r c := by
  unfold allLeap
  rw [List.all_eq_true]
  by_cases h : Nv (sums ks) r
  · rw [stAt_yes h h0 h1]
    have ps : Pv (sums ks) r c ↔ Pv (srt (sums ks)) r c := ⟨fun h v a => h v (mem_srt.mp a), fun h v a => h v (mem_srt.mpr a)⟩
    rw [ps, pv_sel]
    exact years_sound (sel_srt_ne h) c
  · rw [stAt_no h]
    exact ⟨fun _ v a b => absurd ⟨v, a, b⟩ h, fun _ y hy => by simp at hy⟩
theorem leap_per (c y : Int) : isLeap (c % 400 + y) = isLeap (c + y) := by
  unfold isLeap
  rw [show (c % 400 + y) % 4 = (c + y) % 4 by omega, show (c % 400 + y) % 100 = (c + y) % 100 by omega, show (c % 400 + y) % 400 = (c + y) % 400 by omega]
theorem pv_per (A : List Int) (r c : Int) : Pv A r (c % 400) ↔ Pv A r c := by
  constructor
  · intro h v a b
    rw [← leap_per]; exact h v a b
  · intro h v a b
    rw [leap_per]; exact h v a b
/-- a start at which the two differ -/
def Differs (a b : List Int) (r c : Int) : Prop := allLeap c (stAt a r) ≠ allLeap c (stAt b r)
theorem not_differs {a b : List Int} {r c : Int} (h0 : 0 ≤ r) (h1 : r < 12) : ¬ Differs a b r c ↔ (Pv (sums a) r c ↔ Pv (sums b) r c) := by
  unfold Differs
  rw [← leap_stAt h0 h1, ← leap_stAt h0 h1, Ne, Classical.not_not]
  cases allLeap c (stAt a r) <;> cases allLeap c (stAt b r) <;> simp
theorem same_of_not {a b : List Int} (hs : a.sum = b.sum) (h : ∀ r c, 0 ≤ r → r < 12 → 0 ≤ c → c < 400 → ¬ Differs a b r c) : SameE a b := by
  have pp : ∀ r, 0 ≤ r → r < 12 → ∀ c, Pv (sums a) r c ↔ Pv (sums b) r c := fun r r0 r1 c => by
    have z := (not_differs r0 r1).mp (h r (c % 400) r0 r1 (by omega) (by omega))
    rw [pv_per, pv_per] at z
    exact z
  have half : ∀ {x y : List Int} {r : Int}, (∀ c, Pv (sums x) r c ↔ Pv (sums y) r c) → Nv (sums x) r → Nv (sums y) r := fun {x y r} p n => Classical.byContradiction fun q => by
    obtain ⟨v, hv, hr⟩ := n
    have z := (p (1 - v / 12)).mpr (fun u hu hur => absurd ⟨u, hu, hur⟩ q) v hv hr
    rw [show 1 - v / 12 + v / 12 = 1 by omega] at z
    exact absurd z (by decide)
  exact ⟨hs, fun r r0 r1 => ⟨⟨half (pp r r0 r1), half fun c => (pp r r0 r1 c).symm⟩, pp r r0 r1⟩⟩
theorem same_not {a b : List Int} (h : SameE a b) {r c : Int} (h0 : 0 ≤ r) (h1 : r < 12) : ¬ Differs a b r c := (not_differs h0 h1).mpr ((h.2 r h0 h1).2 c)
/-- the date that is told -/
def partAt (r c : Int) : Int := (12 * c + 1 - r) % 4800
theorem part_half {a b : List Int} {r c : Int} (h0 : 0 ≤ r) (h1 : r < 12) (ha : Pv (sums a) r c) (hb : ¬ Pv (sums b) r c) : (mrun (partAt r c, mlen (partAt r c)) b).2 < (mrun (partAt r c, mlen (partAt r c)) a).2 := by
  have la := mrun_least a (partAt r c) _ (Int.le_refl _)
  have lb := mrun_least b (partAt r c) _ (Int.le_refl _)
  have hq : partAt r c % 12 = (1 - r) % 12 := by unfold partAt; omega
  have hd : ∀ v : Int, v % 12 = r → (partAt r c + v) % 12 = 1 ∧ isLeap ((partAt r c + v) / 12) = isLeap (c + v / 12) := fun v hv => by
    refine ⟨by omega, ?_⟩
    have e : ∃ k : Int, (partAt r c + v) / 12 = c + v / 12 - 400 * k := ⟨(12 * c + 1 - r) / 4800, by unfold partAt; omega⟩
    obtain ⟨k, e⟩ := e
    rw [e]
    unfold isLeap
    rw [show (c + v / 12 - 400 * k) % 4 = (c + v / 12) % 4 by omega, show (c + v / 12 - 400 * k) % 100 = (c + v / 12) % 100 by omega, show (c + v / 12 - 400 * k) % 400 = (c + v / 12) % 400 by omega]
  have b28 : (mrun (partAt r c, mlen (partAt r c)) b).2 ≤ 28 := by
    obtain ⟨w, hw⟩ := Classical.not_forall.mp hb
    have hw1 : w ∈ sums b := Classical.byContradiction fun q => hw fun x => absurd x q
    have hw2 : w % 12 = r := Classical.byContradiction fun q => hw fun _ x => absurd x q
    have hw3 : isLeap (c + w / 12) = false := by
      cases q : isLeap (c + w / 12) with
      | false => rfl
      | true => exact absurd (fun _ _ => q) hw
    have z := lb.2.1 w hw1
    rw [mlen_feb (hd w hw2).1, (hd w hw2).2, hw3] at z
    exact z
  have a29 : ∀ v, v ∈ sums a → 29 ≤ mlen (partAt r c + v) := fun v hv => by
    by_cases f : (partAt r c + v) % 12 = 1
    · have hr : v % 12 = r := by omega
      rw [mlen_feb f, (hd v hr).2, ha v hv hr]
      decide
    · have := (mlen_not f rfl).2
      omega
  have a0 := a29 0 (zero_mem_sums a)
  rw [Int.add_zero] at a0
  rcases la.2.2 with e | ⟨z, hz, e⟩
  · omega
  · have := a29 z hz
    omega
theorem part_differs {a b : List Int} {r c : Int} (h0 : 0 ≤ r) (h1 : r < 12) (h : Differs a b r c) : mrun (partAt r c, mlen (partAt r c)) a ≠ mrun (partAt r c, mlen (partAt r c)) b := fun e => by
  have e2 := congrArg Prod.snd e
  by_cases ha : Pv (sums a) r c
  · by_cases hb : Pv (sums b) r c
    · exact (not_differs h0 h1).mpr ⟨fun _ => hb, fun _ => ha⟩ h
    · have := part_half h0 h1 ha hb
      omega
  · by_cases hb : Pv (sums b) r c
    · have := part_half h0 h1 hb ha
      omega
    · exact (not_differs h0 h1).mpr ⟨fun z => absurd z ha, fun z => absurd z hb⟩ h

/-! what a shortest list visits besides its start and its end -/
def ybR (near far : Int) (years ends : List Int) (rem : Int) : List Int :=
  ((years.filter fun y => decide (y % near = rem)).filter fun y => !decide (y % far ∈ srt ((ends.filter fun e => decide (e % near = rem)).map fun e => e % far))).take
    ((years.filter fun y => decide (y % near = rem)).length - (srt ((ends.filter fun e => decide (e % near = rem)).map fun e => e % far)).length)
def ybetw (years ends : List Int) : List Int :=
  if years = [0, 1] then (srt (years.map fun y => y % 1)).flatMap (ybR 1 4 years ends) else (srt (years.map fun y => y % 100)).flatMap (ybR 100 400 years ends)
theorem ybR_sub {near far : Int} {years ends : List Int} {rem z : Int} (h : z ∈ ybR near far years ends rem) : z ∈ years ∧ z % near = rem := by
  unfold ybR at h
  have h1 := List.mem_of_mem_take h
  have h2 := (List.mem_filter.mp h1).1
  have h3 := List.mem_filter.mp h2
  exact ⟨h3.1, of_decide_eq_true h3.2⟩
theorem ybetw_sub {years ends : List Int} {z : Int} (h : z ∈ ybetw years ends) : z ∈ years := by
  unfold ybetw at h
  split at h
  · obtain ⟨_, _, h⟩ := List.mem_flatMap.mp h; exact (ybR_sub h).1
  · obtain ⟨_, _, h⟩ := List.mem_flatMap.mp h; exact (ybR_sub h).1
theorem con_mod {fs : List Int} {g f : Int} (h : f ∈ con fs g) (g0 : 0 ≤ g) (g1 : g < 25) : f % 25 = g := by
  rcases con_cases fs g with ⟨e, _⟩ | ⟨q, e, _, hq, _⟩ | ⟨q, p, e, _⟩
  · rw [e] at h; simp at h
  · rw [e] at h
    have := List.mem_singleton.mp h
    omega
  · rw [e] at h
    rcases List.mem_cons.mp h with rfl | h
    · omega
    · have := List.mem_singleton.mp h
      omega
theorem flat_one_of {X : List Int} {g : Int} : ∀ {l : List Int}, l.Nodup → g ∈ l → (l.flatMap fun h => if h = g then X else []) = X
  | [], _, h => by simp at h
  | x :: l, nd, h => by
    have n2 := List.nodup_cons.mp nd
    rw [List.flatMap_cons]
    rcases List.mem_cons.mp h with rfl | h
    · rw [if_pos rfl]
      have z : (l.flatMap fun h => if h = g then X else []) = l.flatMap fun _ => [] := flat_congr fun y hy => if_neg fun e => n2.1 (by rw [← e]; exact hy)
      rw [z]
      simp
    · have : x ≠ g := fun e => n2.1 (e ▸ h)
      rw [if_neg this, flat_one_of n2.2 h]; rfl
/-- those that stand for the years of one remainder -/
theorem fours_group (fs : List Int) {g : Int} (g0 : 0 ≤ g) (g1 : g < 25) : ((foursOf fs).filter fun f => decide (f % 25 = g)).Perm (con fs g) := by
  refine ((fours_perm fs).filter _).trans ?_
  rw [List.filter_flatMap]
  have e : (r25.flatMap fun h => (con fs h).filter fun f => decide (f % 25 = g)) = r25.flatMap fun h => if h = g then con fs g else [] := flat_congr fun h hh => by
    have hb := mem_ints.mp hh
    by_cases z : h = g
    · subst z
      rw [if_pos rfl, List.filter_eq_self]
      exact fun f hf => decide_eq_true (con_mod hf hb.1 (by omega))
    · rw [if_neg z, List.filter_eq_nil_iff]
      exact fun f hf w => z (by rw [← con_mod hf hb.1 (by omega)]; exact of_decide_eq_true w)
  rw [e, flat_one_of (nodup_ints 25) (mem_ints.mpr ⟨g0, g1⟩)]
theorem srt_const {l : List Int} {k : Int} (h : ∀ x, x ∈ l → x = k) : (srt l).length ≤ 1 := by
  have p := pw_srt l
  match e : srt l with
  | [] => simp
  | [_] => simp
  | x :: y :: r =>
    rw [e] at p
    have a := h x (mem_srt.mp (by rw [e]; exact List.mem_cons_self ..))
    have b := h y (mem_srt.mp (by rw [e]; exact List.mem_cons_of_mem _ (List.mem_cons_self ..)))
    have c := (List.pairwise_cons.mp p).1 y (List.mem_cons_self ..)
    omega
/-- two members of an ascending list -/
theorem srt_two {l : List Int} (h : 2 ≤ (srt l).length) : ∃ x y, x ∈ l ∧ y ∈ l ∧ x ≠ y := by
  have p := pw_srt l
  match e : srt l with
  | [] => rw [e] at h; simp at h
  | [_] => rw [e] at h; simp at h
  | x :: y :: r =>
    rw [e] at p
    have c := (List.pairwise_cons.mp p).1 y (List.mem_cons_self ..)
    exact ⟨x, y, mem_srt.mp (by rw [e]; exact List.mem_cons_self ..), mem_srt.mp (by rw [e]; exact List.mem_cons_of_mem _ (List.mem_cons_self ..)), by omega⟩
/-- the group of one remainder modulo 100 -/
structure Grp100 (ys : List Int) (rem : Int) (grp : List Int) : Prop where
  le : grp.length ≤ 2
  one : grp.length = 1 → ∀ y z, y ∈ grp → z ∈ ys → z % 100 = rem → z % 400 = y % 400
theorem grp100 {ys : List Int} {a y : Int} (hne : ys ≠ []) (a0 : 0 ≤ a) (a4 : a < 4) (ha : ∀ y, y ∈ ys → y % 4 = a) (e : yearsOf ys = (foursOf (ys.map fun y => y / 4)).map fun f => a + 4 * f) (hy : y ∈ yearsOf ys) : Grp100 ys (y % 100) ((yearsOf ys).filter fun z => decide (z % 100 = y % 100)) := by
  rw [e] at hy ⊢
  obtain ⟨f0, hf0, rfl⟩ := List.mem_map.mp hy
  have eg : ((foursOf (ys.map fun y => y / 4)).map fun f => a + 4 * f).filter (fun z => decide (z % 100 = (a + 4 * f0) % 100)) = ((foursOf (ys.map fun y => y / 4)).filter fun f => decide (f % 25 = f0 % 25)).map fun f => a + 4 * f := by
    rw [List.filter_map]
    congr 1
    refine List.filter_congr fun f _ => ?_
    show decide ((a + 4 * f) % 100 = (a + 4 * f0) % 100) = decide (f % 25 = f0 % 25)
    exact decide_eq_decide.mpr ⟨fun h => by omega, fun h => by omega⟩
  rw [eg]
  have pc := fours_group (ys.map fun y => y / 4) (g := f0 % 25) (by omega) (by omega)
  have lc := con_len (ys.map fun y => y / 4) (f0 % 25)
  refine ⟨by rw [List.length_map, pc.length_eq]; exact lc, fun h1 y z hy hz hr => ?_⟩
  rw [List.length_map, pc.length_eq] at h1
  obtain ⟨f, hf, rfl⟩ := List.mem_map.mp hy
  have hfc := pc.mem_iff.mp hf
  have hza := ha z hz
  have hq : z / 4 ∈ (ys.map fun y => y / 4) := List.mem_map.mpr ⟨z, hz, rfl⟩
  rcases con_cases (ys.map fun y => y / 4) (f0 % 25) with ⟨e, _⟩ | ⟨q, e, _, hq', h'⟩ | ⟨q, p, e, _⟩
  · rw [e] at h1; cases h1
  · rw [e] at hfc
    have := List.mem_singleton.mp hfc
    have w := h' (z / 4) hq (by omega)
    omega
  · rw [e] at h1; cases h1
theorem len2_of_sub {l : List Int} (h : l.length ≤ 2) (f : Int → Int) (p : Int → Bool) : (srt ((l.filter p).map f)).length ≤ 2 := by
  have a := srt_len' ((l.filter p).map f)
  have b := List.length_filter_le p l
  rw [List.length_map] at a
  omega
/-- there are never more kinds than years -/
theorem kinds_le {ys ends : List Int} (hne : ys ≠ []) (hs : ∀ e, e ∈ ends → e ∈ ys) (hl : ends.length ≤ 2) {rem : Int} (hr : rem ∈ (if yearsOf ys = [0, 1] then srt ((yearsOf ys).map fun y => y % 1) else srt ((yearsOf ys).map fun y => y % 100))) :
    (srt ((ends.filter fun e => decide (e % (if yearsOf ys = [0, 1] then 1 else 100) = rem)).map fun e => e % (if yearsOf ys = [0, 1] then 4 else 400))).length ≤ ((yearsOf ys).filter fun y => decide (y % (if yearsOf ys = [0, 1] then 1 else 100) = rem)).length := by
  by_cases h01 : yearsOf ys = [0, 1]
  · rw [if_pos h01] at hr
    rw [if_pos h01, if_pos h01]
    have z : rem = 0 := by
      obtain ⟨y, _, e⟩ := List.mem_map.mp (mem_srt.mp hr)
      omega
    subst z
    have e : ((yearsOf ys).filter fun y => decide (y % 1 = 0)) = yearsOf ys := List.filter_eq_self.mpr fun y _ => decide_eq_true (by omega)
    rw [e, h01]
    exact len2_of_sub hl _ _
  · rw [if_neg h01] at hr
    rw [if_neg h01, if_neg h01]
    obtain ⟨y, hy, rfl⟩ := List.mem_map.mp (mem_srt.mp hr)
    rcases years_case hne with ⟨e, _⟩ | ⟨a, a0, a4, ha, e, _⟩
    · exact absurd e h01
    · have G := grp100 hne a0 a4 ha e hy
      have my : y ∈ ((yearsOf ys).filter fun z => decide (z % 100 = y % 100)) := List.mem_filter.mpr ⟨hy, decide_eq_true rfl⟩
      have pos := List.length_pos_of_mem my
      by_cases h1 : ((yearsOf ys).filter fun z => decide (z % 100 = y % 100)).length = 1
      · rw [h1]
        refine srt_const (k := y % 400) fun x hx => ?_
        obtain ⟨z, hz, rfl⟩ := List.mem_map.mp hx
        obtain ⟨z1, z2⟩ := List.mem_filter.mp hz
        exact G.one h1 y z my (hs z z1) (of_decide_eq_true z2)
      · exact Nat.le_trans (len2_of_sub hl _ _) (by omega)
/-- they leave the same starts -/
theorem ybetw_sound {ys ends : List Int} (hne : ys ≠ []) (hs : ∀ e, e ∈ ends → e ∈ ys) (hl : ends.length ≤ 2) (c : Int) : ((∀ y, y ∈ ybetw (yearsOf ys) ends → isLeap (c + y) = true) ∧ ∀ y, y ∈ ends → isLeap (c + y) = true) ↔ ∀ y, y ∈ ys → isLeap (c + y) = true := by
  constructor
  · rintro ⟨hb, he⟩
    refine (years_sound hne c).mp ?_
    rcases years_case hne with ⟨e, _⟩ | ⟨a, a0, a4, ha, e, _⟩
    · -- any two do
      refine absurd ?_ (never2 c)
      exfalso
      have m0 : (0 : Int) ∈ srt ((yearsOf ys).map fun y => y % 1) := mem_srt.mpr (List.mem_map.mpr ⟨0, by rw [e]; simp, rfl⟩)
      have inb : ∀ z, z ∈ ybR 1 4 (yearsOf ys) ends 0 → isLeap (c + z) = true := fun z hz => hb z (by
        unfold ybetw
        rw [if_pos e]
        exact List.mem_flatMap.mpr ⟨0, m0, hz⟩)
      have mg : ∀ z, z ∈ (ends.filter fun e => decide (e % 1 = 0)).map (fun e => e % 4) → ∃ x, x ∈ ends ∧ x % 4 = z := fun z hz => by
        obtain ⟨x, hx, rfl⟩ := List.mem_map.mp hz
        exact ⟨x, (List.mem_filter.mp hx).1, rfl⟩
      have eg : ((yearsOf ys).filter fun y => decide (y % 1 = 0)) = [0, 1] := by
        rw [e]
        rfl
      unfold ybR at inb
      rw [eg] at inb
      generalize hk : srt ((ends.filter fun e => decide (e % 1 = 0)).map fun e => e % 4) = kinds at inb
      have kin : ∀ k, k ∈ kinds → ∃ x, x ∈ ends ∧ x % 4 = k := fun k hk' => mg k (mem_srt.mp (by rw [hk]; exact hk'))
      have nodup : kinds.Pairwise (· < ·) := hk ▸ pw_srt _
      match kinds, kin, nodup, inb with
      | [], _, _, inb =>
        have l0 := ((leap_iff _).mp (inb 0 (by decide))).1
        have l1 := ((leap_iff _).mp (inb 1 (by decide))).1
        omega
      | [k], kin, _, inb =>
        obtain ⟨x, hx, hxk⟩ := kin k (List.mem_cons_self ..)
        have lx := ((leap_iff _).mp (he x hx)).1
        by_cases k0 : k = 0
        · have l1 := ((leap_iff _).mp (inb 1 (by subst k0; decide))).1
          omega
        · have m : (0 : Int) ∈ (([0, 1] : List Int).filter fun y => !decide (y % 4 ∈ [k])).take (([0, 1] : List Int).length - [k].length) := by
            have z : ((0 : Int) % 4 ∈ [k]) = False := by simp; omega
            rw [List.filter_cons_of_pos (by rw [decide_eq_false (by rw [z]; exact id)]; rfl)]
            exact List.mem_cons_self ..
          have l0 := ((leap_iff _).mp (inb 0 m)).1
          omega
      | k :: k' :: r, kin, nd, _ =>
        obtain ⟨x, hx, hxk⟩ := kin k (List.mem_cons_self ..)
        obtain ⟨x', hx', hxk'⟩ := kin k' (List.mem_cons_of_mem _ (List.mem_cons_self ..))
        have lx := ((leap_iff _).mp (he x hx)).1
        have lx' := ((leap_iff _).mp (he x' hx')).1
        have := (List.pairwise_cons.mp nd).1 k' (List.mem_cons_self ..)
        omega
    · have h01 : yearsOf ys ≠ [0, 1] := fun z => by
        rw [e] at z
        have m0 : (0 : Int) ∈ (foursOf (ys.map fun y => y / 4)).map fun f => a + 4 * f := by rw [z]; simp
        have m1 : (1 : Int) ∈ (foursOf (ys.map fun y => y / 4)).map fun f => a + 4 * f := by rw [z]; simp
        obtain ⟨f, _, hf⟩ := List.mem_map.mp m0
        obtain ⟨f', _, hf'⟩ := List.mem_map.mp m1
        omega
      intro y hy
      have G := grp100 hne a0 a4 ha e hy
      have mr : y % 100 ∈ srt ((yearsOf ys).map fun y => y % 100) := mem_srt.mpr (List.mem_map.mpr ⟨y, hy, rfl⟩)
      have inb : ∀ z, z ∈ ybR 100 400 (yearsOf ys) ends (y % 100) → isLeap (c + z) = true := fun z hz => hb z (by
        unfold ybetw
        rw [if_neg h01]
        exact List.mem_flatMap.mpr ⟨_, mr, hz⟩)
      have sub : ∀ z, z ∈ ybR 100 400 (yearsOf ys) ends (y % 100) → z % 100 = y % 100 := fun z hz => (ybR_sub hz).2
      have my : y ∈ ((yearsOf ys).filter fun z => decide (z % 100 = y % 100)) := List.mem_filter.mpr ⟨hy, decide_eq_true rfl⟩
      -- two of the class that are not equal modulo 400
      have two : ∀ x x', isLeap (c + x) = true → isLeap (c + x') = true → x % 100 = y % 100 → x' % 100 = y % 100 → x % 400 ≠ x' % 400 → isLeap (c + y) = true := fun x x' l l' h h' n => by
        have a := (leap_iff _).mp l
        have a' := (leap_iff _).mp l'
        exact (leap_iff _).mpr (by omega)
      have eqv : ∀ x, isLeap (c + x) = true → x % 400 = y % 400 → isLeap (c + y) = true := fun x l h => by
        have a := (leap_iff _).mp l
        exact (leap_iff _).mpr (by omega)
      unfold ybR at inb sub
      generalize hk : srt ((ends.filter fun e => decide (e % 100 = y % 100)).map fun e => e % 400) = kinds at inb sub
      have kin : ∀ k, k ∈ kinds → ∃ x, x ∈ ends ∧ x % 100 = y % 100 ∧ x % 400 = k := fun k hk' => by
        obtain ⟨x, hx, rfl⟩ := List.mem_map.mp (mem_srt.mp (by rw [hk]; exact hk' : k ∈ srt _))
        obtain ⟨x1, x2⟩ := List.mem_filter.mp hx
        exact ⟨x, x1, of_decide_eq_true x2, rfl⟩
      have nd : kinds.Pairwise (· < ·) := hk ▸ pw_srt _
      generalize hg : ((yearsOf ys).filter fun z => decide (z % 100 = y % 100)) = grp at inb sub G my
      by_cases hyk : y % 400 ∈ kinds
      · obtain ⟨x, hx, _, h2⟩ := kin _ hyk
        exact eqv x (he x hx) h2
      · have mm : y ∈ grp.filter fun z => !decide (z % 400 ∈ kinds) := List.mem_filter.mpr ⟨my, by rw [decide_eq_false hyk]; rfl⟩
        match kinds, kin, nd, inb, sub, hyk, mm with
        | [], _, _, inb, _, _, mm =>
          refine inb y ?_
          rw [List.length_nil, Nat.sub_zero, List.take_of_length_le (List.length_filter_le ..)]
          exact mm
        | [k], kin, _, inb, sub, hyk, mm =>
          obtain ⟨x, hx, hx1, hxk⟩ := kin k (List.mem_cons_self ..)
          have le2 := G.le
          have pos := List.length_pos_of_mem my
          by_cases h1 : grp.length = 1
          · have := G.one h1 y x my (hs x hx) hx1
            exact absurd (by rw [← this, hxk]; exact List.mem_cons_self ..) hyk
          · obtain ⟨m0, mt, hm⟩ := List.exists_cons_of_ne_nil (List.ne_nil_of_mem mm)
            have mt0 : m0 ∈ (grp.filter fun z => !decide (z % 400 ∈ [k])).take (grp.length - [k].length) := by
              rw [hm, show grp.length - [k].length = 1 by simp; omega]
              exact List.mem_cons_self ..
            have lm := inb m0 mt0
            have hm1 := sub m0 mt0
            have hmk : ¬ m0 % 400 ∈ [k] := by
              have z := (List.mem_filter.mp (List.mem_of_mem_take mt0)).2
              intro w
              rw [decide_eq_true w] at z
              cases z
            exact two m0 x lm (he x hx) hm1 hx1 fun z => hmk (by rw [z, hxk]; exact List.mem_cons_self ..)
        | k :: k' :: r, kin, nd, _, _, _, _ =>
          obtain ⟨x, hx, hx1, hxk⟩ := kin k (List.mem_cons_self ..)
          obtain ⟨x', hx', hx1', hxk'⟩ := kin k' (List.mem_cons_of_mem _ (List.mem_cons_self ..))
          have := (List.pairwise_cons.mp nd).1 k' (List.mem_cons_self ..)
          exact two x x' (he x hx) (he x' hx') hx1 hx1' (by omega)
  · intro h
    exact ⟨fun y hy => (years_sound hne c).mpr h y (ybetw_sub hy), fun y hy => h y (hs y hy)⟩
theorem ybR_nil (near far : Int) (years : List Int) (rem : Int) : ybR near far years [] rem = years.filter fun y => decide (y % near = rem) := by
  have e : ybR near far years [] rem = ((years.filter fun y => decide (y % near = rem)).filter fun y => !decide (y % far ∈ ([] : List Int))).take ((years.filter fun y => decide (y % near = rem)).length - 0) := rfl
  rw [e]
  simp
theorem ybetw_all {years : List Int} {y : Int} (h : y ∈ years) : y ∈ ybetw years [] := by
  unfold ybetw
  by_cases h01 : years = [0, 1]
  · rw [if_pos h01]
    exact List.mem_flatMap.mpr ⟨y % 1, mem_srt.mpr (List.mem_map.mpr ⟨y, h, rfl⟩), by rw [ybR_nil]; exact List.mem_filter.mpr ⟨h, decide_eq_true rfl⟩⟩
  · rw [if_neg h01]
    exact List.mem_flatMap.mpr ⟨y % 100, mem_srt.mpr (List.mem_map.mpr ⟨y, h, rfl⟩), by rw [ybR_nil]; exact List.mem_filter.mpr ⟨h, decide_eq_true rfl⟩⟩
/-! the list -/
def endsAt (ks : List Int) (r : Int) : List Int := look (grp 12 [0, ks.sum]) r
def betwG (ks : List Int) (g : Int × List Int) : List Int := (ybetw g.2 (endsAt ks g.1)).map fun y => 12 * y + g.1
def betwOf (ks : List Int) : List Int := (standOf ks).flatMap (betwG ks)
def shortOf (ks : List Int) : List Int := if ks.sum = 0 ∧ betwOf ks = [] then [] else steps (betwOf ks ++ [ks.sum])
theorem mem_endsAt {ks : List Int} {r y : Int} : y ∈ endsAt ks r ↔ ∃ v, (v = 0 ∨ v = ks.sum) ∧ v % 12 = r ∧ v / 12 = y := by
  unfold endsAt
  rw [look_grp, mem_sel]
  constructor
  · rintro ⟨n, h, a, b⟩
    refine ⟨n, ?_, a, b⟩
    rcases List.mem_cons.mp h with z | z
    · exact .inl z
    · exact .inr (List.mem_singleton.mp z)
  · rintro ⟨n, h, a, b⟩
    exact ⟨n, by rcases h with z | z <;> rw [z] <;> simp, a, b⟩
theorem endsAt_len (ks : List Int) (r : Int) : (endsAt ks r).length ≤ 2 := by
  unfold endsAt
  rw [look_grp]
  unfold sel
  rw [List.length_map]
  exact List.length_filter_le _ [0, ks.sum]
theorem sum_mem_sums (ks : List Int) : ks.sum ∈ sums ks := mem_sums.mpr ⟨ks.length, Nat.le_refl _, by rw [List.take_length]⟩
theorem ends_sub {ks : List Int} {r y : Int} (h : y ∈ endsAt ks r) : y ∈ sel 12 (srt (sums ks)) r := by
  obtain ⟨v, hv, a, b⟩ := mem_endsAt.mp h
  refine mem_sel.mpr ⟨v, mem_srt.mpr ?_, a, b⟩
  rcases hv with rfl | rfl
  · exact zero_mem_sums ks
  · exact sum_mem_sums ks
theorem mem_betw {ks : List Int} {v : Int} : v ∈ betwOf ks ↔ Nv (sums ks) (v % 12) ∧ v / 12 ∈ ybetw (yearsOf (sel 12 (srt (sums ks)) (v % 12))) (endsAt ks (v % 12)) := by
  unfold betwOf
  rw [List.mem_flatMap]
  constructor
  · rintro ⟨g, hg, hv⟩
    obtain ⟨h1, h2, h3, h4⟩ := mem_stand.mp hg
    obtain ⟨y, hy, rfl⟩ := List.mem_map.mp hv
    have e1 : (12 * y + g.1) % 12 = g.1 := by omega
    have e2 : (12 * y + g.1) / 12 = y := by omega
    rw [e1, e2, ← h4]
    exact ⟨h1, hy⟩
  · rintro ⟨h1, h2⟩
    refine ⟨(v % 12, yearsOf (sel 12 (srt (sums ks)) (v % 12))), mem_stand.mpr ⟨h1, by show 0 ≤ v % 12; omega, by show v % 12 < 12; omega, rfl⟩, List.mem_map.mpr ⟨v / 12, h2, ?_⟩⟩
    show 12 * (v / 12) + v % 12 = v
    omega
theorem betw_eqv {ks A : List Int} (hA : ∀ v, v ∈ A ↔ v = 0 ∨ v = ks.sum ∨ v ∈ betwOf ks) : EqV A (sums ks) := fun r r0 r1 => by
  have ps : ∀ c, Pv (sums ks) r c ↔ ∀ y, y ∈ sel 12 (srt (sums ks)) r → isLeap (c + y) = true := fun c => by
    rw [← pv_sel]
    exact ⟨fun h v a => h v (mem_srt.mp a), fun h v a => h v (mem_srt.mpr a)⟩
  have back : ∀ v, v ∈ A → v % 12 = r → Nv (sums ks) r := fun v hv hr => by
    rcases (hA v).mp hv with rfl | rfl | h
    · exact ⟨0, zero_mem_sums ks, hr⟩
    · exact ⟨_, sum_mem_sums ks, hr⟩
    · exact hr ▸ (mem_betw.mp h).1
  by_cases h : Nv (sums ks) r
  · have hne := sel_srt_ne h
    have mA : ∀ y, (y ∈ ybetw (yearsOf (sel 12 (srt (sums ks)) r)) (endsAt ks r) ∨ y ∈ endsAt ks r) ↔ ∃ v, v ∈ A ∧ v % 12 = r ∧ v / 12 = y := fun y => by
      constructor
      · rintro (hy | hy)
        · have e1 : (12 * y + r) % 12 = r := by omega
          have e2 : (12 * y + r) / 12 = y := by omega
          exact ⟨12 * y + r, (hA _).mpr (.inr (.inr (mem_betw.mpr (by rw [e1, e2]; exact ⟨h, hy⟩)))), e1, e2⟩
        · obtain ⟨v, hv, a, b⟩ := mem_endsAt.mp hy
          exact ⟨v, (hA v).mpr (hv.elim .inl fun z => .inr (.inl z)), a, b⟩
      · rintro ⟨v, hv, rfl, rfl⟩
        rcases (hA v).mp hv with z | z | z
        · exact .inr (mem_endsAt.mpr ⟨v, .inl z, rfl, rfl⟩)
        · exact .inr (mem_endsAt.mpr ⟨v, .inr z, rfl, rfl⟩)
        · exact .inl (mem_betw.mp z).2
    refine ⟨⟨fun ⟨v, a, b⟩ => back v a b, fun _ => ?_⟩, fun c => ?_⟩
    · by_cases he : endsAt ks r = []
      · obtain ⟨y, t, hy⟩ := List.exists_cons_of_ne_nil (years_ne hne)
        have my : y ∈ ybetw (yearsOf (sel 12 (srt (sums ks)) r)) (endsAt ks r) := by
          rw [he]
          exact ybetw_all (by rw [hy]; exact List.mem_cons_self ..)
        obtain ⟨v, a, b, _⟩ := (mA y).mp (.inl my)
        exact ⟨v, a, b⟩
      · obtain ⟨y, t, hy⟩ := List.exists_cons_of_ne_nil he
        obtain ⟨v, a, b, _⟩ := (mA y).mp (.inr (by rw [hy]; exact List.mem_cons_self ..))
        exact ⟨v, a, b⟩
    · rw [ps, ← ybetw_sound hne (fun e he => ends_sub he) (endsAt_len ks r) c]
      constructor
      · intro k
        refine ⟨fun y hy => ?_, fun y hy => ?_⟩
        · obtain ⟨v, a, b, e⟩ := (mA y).mp (.inl hy)
          exact e ▸ k v a b
        · obtain ⟨v, a, b, e⟩ := (mA y).mp (.inr hy)
          exact e ▸ k v a b
      · rintro ⟨k1, k2⟩ v a b
        rcases (mA (v / 12)).mpr ⟨v, a, b, rfl⟩ with z | z
        · exact k1 _ z
        · exact k2 _ z
  · refine ⟨⟨fun ⟨v, a, b⟩ => back v a b, fun z => absurd z h⟩, fun c => ⟨fun _ v a b => absurd ⟨v, a, b⟩ h, fun _ v a b => absurd (back v a b) h⟩⟩
theorem short_same (ks : List Int) : SameE (shortOf ks) ks := by
  unfold shortOf
  by_cases h : ks.sum = 0 ∧ betwOf ks = []
  · rw [if_pos h]
    refine ⟨h.1.symm, betw_eqv fun v => ?_⟩
    rw [h.2, mem_sums]
    constructor
    · rintro ⟨j, _, rfl⟩
      exact .inl (by rw [List.take_nil]; rfl)
    · rintro (rfl | z | z)
      · exact ⟨0, Nat.le_refl _, rfl⟩
      · exact ⟨0, Nat.le_refl _, by rw [z, h.1]; rfl⟩
      · simp at z
  · rw [if_neg h]
    refine ⟨steps_sum (by simp), betw_eqv fun v => ?_⟩
    rw [sums_steps, List.mem_append, List.mem_singleton]
    constructor
    · rintro (z | z | z)
      · exact .inl z
      · exact .inr (.inr z)
      · exact .inr (.inl z)
    · rintro (z | z | z)
      · exact .inl z
      · exact .inr (.inr z)
      · exact .inr (.inl z)
theorem ybR_len (near far : Int) (years ends : List Int) (rem : Int) : (ybR near far years ends rem).length ≤ (years.filter fun y => decide (y % near = rem)).length := by
  unfold ybR
  rw [List.length_take]
  omega
theorem flat_le {α β γ : Type} {f : α → List β} {g : α → List γ} : ∀ {l : List α}, (∀ x, x ∈ l → (f x).length ≤ (g x).length) → (l.flatMap f).length ≤ (l.flatMap g).length
  | [], _ => Nat.le_refl _
  | x :: l, h => by
    have a := h x (List.mem_cons_self ..)
    have b := flat_le (f := f) (g := g) fun y hy => h y (List.mem_cons_of_mem _ hy)
    rw [List.flatMap_cons, List.flatMap_cons, List.length_append, List.length_append]
    omega
theorem part_len (f : Int → Int) : ∀ (K l : List Int), K.Nodup → (K.flatMap fun k => l.filter fun x => decide (f x = k)).length ≤ l.length
  | [], l, _ => Nat.zero_le _
  | k :: K, l, nd => by
    have n2 := List.nodup_cons.mp nd
    have ih := part_len f K (l.filter fun x => !decide (f x = k)) n2.2
    have e : (K.flatMap fun k' => (l.filter fun x => !decide (f x = k)).filter fun x => decide (f x = k')) = K.flatMap fun k' => l.filter fun x => decide (f x = k') := flat_congr fun k' hk => by
      rw [List.filter_filter]
      refine List.filter_congr fun x _ => ?_
      by_cases h : f x = k'
      · have : ¬ f x = k := fun z => n2.1 (by rw [← z, h]; exact hk)
        rw [decide_eq_true h, decide_eq_false this]; rfl
      · rw [decide_eq_false h]; rfl
    rw [e] at ih
    have s : ∀ l : List Int, (l.filter fun x => decide (f x = k)).length + (l.filter fun x => !decide (f x = k)).length = l.length := fun l => by
      induction l with
      | nil => rfl
      | cons x l ih =>
        rw [List.filter_cons, List.filter_cons]
        cases d : decide (f x = k) with
        | true => simp; omega
        | false => simp; omega
    have z := s l
    rw [List.flatMap_cons, List.length_append]
    omega
theorem srt_nodup (l : List Int) : (srt l).Nodup := (pw_srt l).imp fun {a b} h e => by omega
theorem ybetw_len (years ends : List Int) : (ybetw years ends).length ≤ years.length := by
  unfold ybetw
  split
  · exact Nat.le_trans (flat_le fun rem _ => ybR_len 1 4 years ends rem) (part_len (fun y => y % 1) _ _ (srt_nodup _))
  · exact Nat.le_trans (flat_le fun rem _ => ybR_len 100 400 years ends rem) (part_len (fun y => y % 100) _ _ (srt_nodup _))
theorem betw_len (ks : List Int) : (betwOf ks).length ≤ ks.length + 1 := by
  refine Nat.le_trans (flat_le (g := keepS) fun g _ => ?_) (keptOf_len ks)
  unfold betwG keepS
  rw [List.length_map, List.length_map]
  exact ybetw_len _ _
theorem short_len (ks : List Int) : (shortOf ks).length ≤ ks.length + 2 := by
  unfold shortOf
  split
  · exact Nat.zero_le _
  · rw [steps_len, List.length_append]
    have := betw_len ks
    simp; omega

/-! the program's years between -/
theorem look_find {r : Int} {l : List Int} : ∀ {gs : List (Int × List Int)}, gs.find? (fun x => decide (x.1 = r)) = some (r, l) → look gs r = l
  | [], h => by simp at h
  | (j, m) :: g, h => by
    unfold look
    by_cases e : j = r
    · subst e
      rw [List.find?_cons_of_pos (by simp)] at h
      rw [if_pos rfl]
      cases h; rfl
    · rw [List.find?_cons_of_neg (by simp [e])] at h
      rw [if_neg e]
      exact look_find h
/-- d.get(r, []) of a dict of groups -/
theorem f_getG {H0 H : Hp} {σ : L2.St} {Q : VK} {td ty : TE} {d : Addr} {kvs : List (Key × V)} {gs : List (Int × List Int)} {r : Int} (h : Ev td σ H (.ref d)) (hk : Ev ty σ H (.int r)) (hd : L2.Rd H d (.dK kvs)) (hr : ∀ H1, Ex H H1 → L2.Rd H1 d (.dK kvs)) (g : GAt H0 H kvs gs)
    (q : ∀ p H1, Ex H H1 → H1 p = some (.lst ((look gs r).map V.int)) → Q (.ref p) H1) : tDGet2 td ty (tLst tNil) σ H Q :=
  h H (Ex.refl H) _ fun H1 e1 => ⟨d, rfl, .inl ⟨kvs, hr H1 e1⟩, hk H1 e1 _ fun H2 e2 => f_lst (f_nil ⟨Nat.zero_le _, fun p np => by
    have x := (e1.trans e2).trans (Ex.new (o := .lst []) np)
    refine ⟨valV kvs (.inl r), .inl ⟨kvs, .inl r, hr _ x, rfl, rfl⟩, ?_⟩
    rcases g.at_ (r := r) with ⟨a, b⟩ | ⟨p', l, a, b, c⟩
    · rw [a]
      refine q p _ x ?_
      rw [look_nil b]
      exact upd_same
    · rw [a]
      refine q p' _ x ?_
      rw [look_find c]
      exact x _ _ b⟩)⟩
def D_ybetw (K : PySem.W.Frag) (H : Hp) (vs xs : List V) : Prop := ∃ (l le : Addr) (ys es : List Int), vs = [.ref l, .ref le] ∧ SqL K H l (ys.map V.int) ∧ SqL K H le (es.map V.int) ∧ ys.length ≤ 1000 ∧ es.length ≤ 2 ∧
  (∀ rem, rem ∈ (if ys = [0, 1] then srt (ys.map fun y => y % 1) else srt (ys.map fun y => y % 100)) → (srt ((es.filter fun e => decide (e % (if ys = [0, 1] then 1 else 100) = rem)).map fun e => e % (if ys = [0, 1] then 4 else 400))).length ≤ (ys.filter fun y => decide (y % (if ys = [0, 1] then 1 else 100) = rem)).length) ∧ xs = (ybetw ys es).map V.int
theorem ybetw_gen (ys es : List Int) : ybetw ys es = (srt (ys.map fun y => y % (if ys = [0, 1] then 1 else 100))).flatMap (ybR (if ys = [0, 1] then 1 else 100) (if ys = [0, 1] then 4 else 400) ys es) := by
  unfold ybetw
  split <;> rfl
theorem flat_take1 {f : Int → List Int} {K : List Int} {i : Nat} {k : Int} (h : K[i]? = some k) : (K.take (i + 1)).flatMap f = (K.take i).flatMap f ++ f k := by
  rw [List.take_add_one, h, List.flatMap_append]
  simp
theorem flat_part_le {f : Int → List Int} (K : List Int) (i : Nat) : ((K.take i).flatMap f).length ≤ (K.flatMap f).length := by
  have e : K.flatMap f = (K.take i).flatMap f ++ (K.drop i).flatMap f := by rw [← List.flatMap_append, List.take_append_drop]
  rw [e, List.length_append]
  omega
theorem ok_years_between (T : Top K mg) : FnOk P w K mg base CX0 1 T.f_years_between T.fd_years_between ["years", "ends"] (spHL (D_ybetw K)) := by
  refine T.F_years_between.ok sc_years_between (fun vs H Q E h => ?_) (fun cdv A outer s H vs Q E hr h => ?_)
  · obtain ⟨z, ⟨l, le, ys, es, rfl, _⟩, _⟩ := h; rfl
  · obtain ⟨z, ⟨l, le, ys, es, rfl, hL, hE, hz, he2, hk, rfl⟩, q⟩ := h
    refine ⟨_, (pss_cons (ps_asg (pe_ifExp (pt_cmpR (r := rEqD K) (op_eqD hr.units) (pv 0) (pe_callTy call_list_of (by rfl) T.z_list (by decide +kernel) (pa_cons (pe_glob (v := .ref T.a_NEVER_LEAP) (by rfl) T.g_NEVER_LEAP rfl) pa_nil)) (nomark _)) (pe_tup (pa_cons pe_int (pa_cons pe_int pa_nil))) (pe_tup (pa_cons pe_int (pa_cons pe_int pa_nil)))) (pg_tup rfl (pgs_cons (pg_name (i := 2) sc_years_between.nd rfl (Or.inr rfl)) (pgs_cons (pg_name (i := 3) sc_years_between.nd rfl (Or.inr rfl)) pgs_nil))))
      (pss_cons (ps_set (i := 4) sc_years_between.nd rfl (Or.inl rfl) (pe_lst pa_nil))
      (pss_cons (ps_for PassesOwn.never rfl (pi_list (pe_callB (r := rSortedA w) (cr_sortedA rfl) (by rfl) T.z_sorted (by decide +kernel) (pa_cons (pe_scI (own := [("year", 9)]) (g := gName 9) (tt := tYes) rfl sc_years_between.nd (pi_list (pv 0)) (blkOk_by (own := [("year", 9)]) (N := ["years", "ends", "near", "far", "found", "remainder", "group", "kinds", "missing", "year", "end"]) (sc := defScope s_years_between) (by decide +kernel)) (fun _ _ _ _ _ => (pg_name (i := 9) sc_years_between.nd rfl (Or.inl rfl))) (fun _ _ _ _ _ => pts_nil) (fun _ _ _ _ _ => (pe_op op_mod (pv 9) (pv 2)))) pa_nil))) (pg_name (i := 5) sc_years_between.nd rfl (Or.inr rfl)) (pss_cons (ps_setLc (i := 6) (own := [("year", 9)]) (g := gName 9)  rfl sc_years_between.nd rfl rfl (sw_true rfl rfl rfl (by decide +kernel)) (pi_list (pv 0)) (blkOk_by (own := [("year", 9)]) (N := ["years", "ends", "near", "far", "found", "remainder", "group", "kinds", "missing", "year", "end"]) (sc := defScope s_years_between) (by decide +kernel)) (fun _ _ _ _ _ => (pg_name (i := 9) sc_years_between.nd rfl (Or.inl rfl))) (fun _ _ _ _ _ => (pts_one (pt_cmpR op_eq (pe_op op_mod (pv 9) (pv 2)) (pv 5) (nomark _)))) (fun _ _ _ _ _ => (pv 9)))
      (pss_cons (ps_set (i := 7) sc_years_between.nd rfl (Or.inr rfl) (pe_callB (r := rSortedA w) (cr_sortedA rfl) (by rfl) T.z_sorted (by decide +kernel) (pa_cons (pe_scI (own := [("end", 10)]) (g := gName 10)  rfl sc_years_between.nd (pi_list (pv 1)) (blkOk_by (own := [("end", 10)]) (N := ["years", "ends", "near", "far", "found", "remainder", "group", "kinds", "missing", "year", "end"]) (sc := defScope s_years_between) (by decide +kernel)) (fun _ _ _ _ _ => (pg_name (i := 10) sc_years_between.nd rfl (Or.inl rfl))) (fun _ _ _ _ _ => (pts_one (pt_cmpR op_eq (pe_op op_mod (pv 10) (pv 2)) (pv 5) (nomark _)))) (fun _ _ _ _ _ => (pe_op op_mod (pv 10) (pv 3)))) pa_nil)))
      (pss_cons (ps_setLc (i := 8) (own := [("year", 9)]) (g := gName 9)  rfl sc_years_between.nd rfl rfl (sw_true rfl rfl rfl (by decide +kernel)) (pi_list (pv 6)) (blkOk_by (own := [("year", 9)]) (N := ["years", "ends", "near", "far", "found", "remainder", "group", "kinds", "missing", "year", "end"]) (sc := defScope s_years_between) (by decide +kernel)) (fun _ _ _ _ _ => (pg_name (i := 9) sc_years_between.nd rfl (Or.inl rfl))) (fun _ _ _ _ _ => (pts_one (pt_cmpR (r := rIn K true) op_notIn_seq (pe_op op_mod (pv 9) (pv 3)) (pv 7) (by rfl)))) (fun _ _ _ _ _ => (pv 9)))
      (pss_one (ps_expr (pe_bm PySem.F.plainAttrs_list PySem.F.slot_list_extend PySem.F.type_list_extend mt_extend (pv 4) (pa_cons (pe_slice (r := rSlL K) sl_list (pv 8) po_none (po_some (pe_op op_sub (pe_callB (r := rLenS K) call_len_seq (by rfl) T.z_len PySem.boot_len (pa_cons (pv 6) pa_nil)) (pe_callB (r := rLenS K) call_len_seq (by rfl) T.z_len PySem.boot_len (pa_cons (pv 7) pa_nil))))) pa_nil))))))))
      (pss_one (ps_ret (pv 4)))))), ?_⟩
    have hyl := ybetw_len ys es
    rw [ybetw_gen] at q hyl
    have hk' : ∀ rem, rem ∈ srt (ys.map fun y => y % (if ys = [0, 1] then 1 else 100)) → (srt ((es.filter fun e => decide (e % (if ys = [0, 1] then 1 else 100) = rem)).map fun e => e % (if ys = [0, 1] then 4 else 400))).length ≤ (ys.filter fun y => decide (y % (if ys = [0, 1] then 1 else 100) = rem)).length := fun rem hr => hk rem (by
      by_cases h01 : ys = [0, 1]
      · rw [if_pos h01] at hr ⊢; exact hr
      · rw [if_neg h01] at hr ⊢; exact hr)
    clear hk
    have hn : 0 < (if ys = [0, 1] then 1 else 100 : Int) := by split <;> decide
    have hf : 0 < (if ys = [0, 1] then 4 else 400 : Int) := by split <;> decide
    with_reducible refine f_seq ?_
    refine s_un2 (a := .int (if ys = [0, 1] then 1 else 100)) (b := .int (if ys = [0, 1] then 4 else 400)) (eu_if (et_test (ev_eqL (ys := [0, 1]) (ev_var rfl) hL (el_listT (xs := [.int 0, .int 1]) ev_c (fun H1 => T.q_NEVER_LEAP H1)))) (fun hb => ?_) fun hb => ?_) fun H1 e1 => ?_
    · rw [if_pos (of_decide_eq_true hb), if_pos (of_decide_eq_true hb)]
      exact eu_tup (ea_cons ev_c (ea_cons ev_c ea_nil)) (by show 2 ≤ 100000; decide)
    · rw [if_neg (of_decide_eq_false hb), if_neg (of_decide_eq_false hb)]
      exact eu_tup (ea_cons ev_c (ea_cons ev_c ea_nil)) (by show 2 ≤ 100000; decide)
    generalize (if ys = [0, 1] then 1 else 100 : Int) = near at hn hk' q hyl
    generalize (if ys = [0, 1] then 4 else 400 : Int) = far at hf hk' q hyl
    refine f_seq (s_asgL (el_lst ea_nil (Nat.zero_le _)) fun pf H2 npf e2 h2 => ?_)
    have x2 := e1.trans e2
    have npf0 : H pf = none := fresh_back e1 npf
    with_reducible refine f_seq ?_
    refine s_forNL (xs := (srt (ys.map fun y => y % near)).map V.int) (el_sortedSc (fun y => y % near) (ev_var rfl) (ex_l x2 hL) hz (fun _ => rfl) fun x H3 => ev_op (ev_var rfl) (ev_var rfl) (rv_mod hn))
      (fun p i τ U => ∃ (v5 v6 v7 v8 v9 v10 : Option V), τ = [some (.ref l), some (.ref le), some (.int near), some (.int far), some (.ref pf), v5, v6, v7, v8, v9, v10] ∧ U p = some (.lst ((srt (ys.map fun y => y % near)).map V.int)) ∧ p ≠ pf ∧ U pf = some (.lst ((((srt (ys.map fun y => y % near)).take i).flatMap (ybR near far ys es)).map V.int)) ∧ Kr pf H2 U)
      (fun p H3 np e3 h3 => ⟨none, none, none, none, none, none, rfl, h3, (ne_of_none h2 np).symm, e3 _ _ h2, .of e3⟩) (fun p i τ U _ ⟨_, _, _, _, _, _, _, h3, _⟩ => sq_of h3) (fun p i x τ U hx ⟨v5, v6, v7, v8, v9, v10, hτ, hp, hpp, hU, kr⟩ => ?_) fun p τ U ⟨v5, v6, v7, v8, v9, v10, hτ, hp, hpp, hU, kr⟩ => ?_
    · subst hτ
      obtain ⟨rem, rfl, hrem⟩ := int_of_map2 hx
      have hkr := hk' rem (List.mem_of_getElem? hrem)
      have l1 := flat_part_le (f := ybR near far ys es) (srt (ys.map fun y => y % near)) i
      have l2 := flat_part_le (f := ybR near far ys es) (srt (ys.map fun y => y % near)) (i + 1)
      rw [flat_take1 hrem] at l2 ⊢
      rw [List.length_append] at l2
      generalize ((srt (ys.map fun y => y % near)).take i).flatMap (ybR near far ys es) = acc at hU l1 l2
      have hLU := sq_kr hL npf0 x2 kr
      have hEU := sq_kr hE npf0 x2 kr
      refine f_gName (f_seq (s_asgL (el_lcF (fun y => decide (y % near = rem)) (fun y => V.int y) (ev_var rfl) hLU (by omega) (fun _ => rfl) (fun x H3 _ _ => et_test (ev_op (ev_op (ev_var rfl) (ev_var rfl) (rv_mod hn)) (ev_var rfl) rv_eqI)) (fun x H3 _ _ => ev_var rfl)) fun pg H3 npg e3 h3 => ?_))
      refine f_seq (s_asgL (el_sortedScF (fun e => decide (e % near = rem)) (fun e => e % far) (ev_var rfl) (ex_l e3 hEU) (by omega) (fun _ => rfl) (fun x H4 e4 => et_test (ev_op (ev_op (ev_var rfl) (ev_var rfl) (rv_mod hn)) (ev_var rfl) rv_eqI)) (fun x H4 e4 => ev_op (ev_var rfl) (ev_var rfl) (rv_mod hf))) fun pk H4 npk e4 h4 => ?_)
      have eyb : ybR near far ys es rem = ((ys.filter fun y => decide (y % near = rem)).filter fun y => !decide (y % far ∈ srt ((es.filter fun e => decide (e % near = rem)).map fun e => e % far))).take ((ys.filter fun y => decide (y % near = rem)).length - (srt ((es.filter fun e => decide (e % near = rem)).map fun e => e % far)).length) := rfl
      rw [eyb] at l2 ⊢
      have gl := List.length_filter_le (fun y => decide (y % near = rem)) ys
      generalize (ys.filter fun y => decide (y % near = rem)) = group at h3 hkr l2 gl
      generalize srt ((es.filter fun e => decide (e % near = rem)).map fun e => e % far) = kinds at h4 hkr l2
      refine f_seq (s_asgL (el_lcF (fun y => !decide (y % far ∈ kinds)) (fun y => V.int y) (ev_var rfl) (sq_of (e4 _ _ h3)) (by omega) (fun _ => rfl) (fun x H5 e5 _ => et_is (et_test (ev_op (ev_op (ev_var rfl) (ev_var rfl) (rv_mod hf)) (ev_var rfl) (rv_niL (sq_of (e5 _ _ h4)) rfl (flat_ints kinds)))) (by rw [inV_ints])) (fun x H5 _ _ => ev_var rfl)) fun pm H5 npm e5 h5 => ?_)
      have x5 := (e3.trans e4).trans e5
      generalize hm : (group.filter fun y => !decide (y % far ∈ kinds)) = missing at h5 l2
      refine f_drop (f_bm (f_var rfl (f_tyL (x5 _ _ hU) (f_cons (f_evL (el_take (n := (group.length : Int) - (kinds.length : Int)) (ev_var rfl) (ev_op (ev_is (ev_lenS (ev_var rfl) (.inl (sq_of (e5 _ _ (e4 _ _ h3))))) (by rw [List.length_map])) (ev_is (ev_lenS (ev_var rfl) (.inl (sq_of (e5 _ _ h4)))) (by rw [List.length_map])) rv_I0) (by omega) (sq_of h5)) fun pt H6 _ e6 h6 => f_nil ?_)))))
      have et : ((group.length : Int) - (kinds.length : Int)).toNat = group.length - kinds.length := by omega
      rw [et] at h6
      have x6 := x5.trans e6
      refine ⟨pf, pt, _, _, rfl, rfl, x6 _ _ hU, h6, sz1000 (by rw [List.length_map, List.length_map]; omega), ⟨_, _, _, _, _, _, rfl, by rw [upd_ne hpp]; exact x6 _ _ hp, hpp, by rw [upd_same, List.map_append], fun b o g1 g => by rw [upd_ne g1]; exact x6 _ _ (kr b o g1 g)⟩⟩
    · subst hτ
      rw [List.length_map, List.take_length] at hU
      refine s_ret (ev_var rfl) fun H6 e6 => q pf H6 npf0 (fun b o g => e6 _ _ (kr b o (ne_of_none g npf0) (x2 _ _ g))) (e6 _ _ hU)

/-! shortest lists, the program's -/
def D_betw (K : PySem.W.Frag) (H : Hp) (vs xs : List V) : Prop := ∃ (l : Addr) (ks : List Int), vs = [.ref l] ∧ SqL K H l (ks.map V.int) ∧ ks.length ≤ 900 ∧ xs = (betwOf ks).map V.int
def D_short (K : PySem.W.Frag) (H : Hp) (vs xs : List V) : Prop := ∃ (l : Addr) (ks : List Int), vs = [.ref l] ∧ SqL K H l (ks.map V.int) ∧ ks.length ≤ 900 ∧ xs = (shortOf ks).map V.int
theorem betw_take {ks : List Int} {gs : List (Int × List Int)} {n : Nat} {x : Int × List Int} (h : gs[n]? = some x) : (gs.take (n + 1)).flatMap (betwG ks) = (gs.take n).flatMap (betwG ks) ++ betwG ks x := by
  rw [List.take_add_one, h, List.flatMap_append]
  simp
theorem ok_visits_between (T : Top K mg) : FnOk P w K mg base CX0 5 T.f_visits_between T.fd_visits_between ["steps"] (spHL (D_betw K)) := by
  have G_by_remainder : FnOk P w K mg base CX0 1 T.f_by_remainder T.fd_by_remainder ["numbers", "divisor"] (spSplit K) := ok_by_remainder T
  have G_standing_years : FnOk P w K mg base CX0 4 T.f_standing_years T.fd_standing_years ["steps"] (spStand K) := ok_standing_years T
  have G_years_between : FnOk P w K mg base CX0 1 T.f_years_between T.fd_years_between ["years", "ends"] (spHL (D_ybetw K)) := ok_years_between T
  refine T.F_visits_between.ok sc_visits_between (fun vs H Q E h => ?_) (fun cdv A outer s H vs Q E hr h => ?_)
  · obtain ⟨z, ⟨l, ks, rfl, _⟩, _⟩ := h; rfl
  · obtain ⟨z, ⟨l, ks, rfl, hL, hz, rfl⟩, q⟩ := h
    refine ⟨_, (pss_cons (ps_set (i := 1) sc_visits_between.nd rfl (Or.inl rfl) (pe_call G_by_remainder (hr.mono (by first | decide | omega)) (by rfl) T.g_by_remainder T.F_by_remainder.kp T.b_by_remainder .nil pass0 (pa_cons (pe_lst (pa_cons pe_int (pa_cons (pe_callB (r := rSum K) (cr_sum rfl) (by rfl) T.z_sum (by decide +kernel) (pa_cons (pv 0) pa_nil)) pa_nil))) (pa_cons pe_int pa_nil))))
      (pss_cons (ps_set (i := 2) sc_visits_between.nd rfl (Or.inl rfl) (pe_lst pa_nil))
      (pss_cons (ps_for PassesOwn.never rfl (pi_items (pe_frz (pe_call G_standing_years (hr.mono (by first | decide | omega)) (by rfl) T.g_standing_years T.F_standing_years.kp T.b_standing_years .nil pass0 (pa_cons (pv 0) pa_nil)))) (pg_tup rfl (pgs_cons (pg_name (i := 3) sc_visits_between.nd rfl (Or.inl rfl)) (pgs_cons (pg_name (i := 4) sc_visits_between.nd rfl (Or.inl rfl)) pgs_nil))) (pss_one (ps_for PassesOwn.never rfl (pi_list (pe_call G_years_between (hr.mono (by first | decide | omega)) (by rfl) T.g_years_between T.F_years_between.kp T.b_years_between .nil pass0 (pa_cons (pv 4) (pa_cons (pe_dget2 (hu_of hr) (pv 1) (pv 3) (pe_lst pa_nil) ⟨by rfl, by rfl, by rfl, by rfl⟩) pa_nil)))) (pg_name (i := 5) sc_visits_between.nd rfl (Or.inl rfl)) (pss_one (ps_expr (pe_bm PySem.F.plainAttrs_list PySem.F.slot_list_append PySem.F.type_list_append mt_append (pv 2) (pa_cons (pe_op op_add (pe_op op_mulW pe_int (pv 5)) (pv 3)) pa_nil)))))))
      (pss_one (ps_ret (pv 2)))))), ?_⟩
    have hbl := betw_len ks
    with_reducible refine f_seq ?_
    with_reducible refine f_asg ?_
    refine f_call (f_cons (f_evL (el_lst (ea_cons ev_c (ea_cons (ev_sumV (ev_var rfl) hL) ea_nil)) (by show 2 ≤ 100000; decide)) fun pz H1 npz e1 h1 => f_cons (f_c (f_nil ⟨pz, [0, ks.sum], 12, rfl, sq_of h1, by decide, by decide, by show 2 ≤ 1000; decide, fun d0 kv0 H2 nd0 e2 hd0 hG0 => ?_⟩))))
    with_reducible refine f_gName ?_
    have x2 := e1.trans e2
    with_reducible refine f_seq ?_
    refine s_asgL (el_lst ea_nil (Nat.zero_le _)) fun pk H3 npk e3 h3 => ?_
    have x3 := x2.trans e3
    have npk0 : H pk = none := fresh_back x2 npk
    have hd3 := e3 _ _ hd0
    have hdk : d0 ≠ pk := ne_of_none hd0 npk
    have hG3 : GAt H1 H3 kv0 (grp 12 [0, ks.sum]) := hG0.ex_ e3
    with_reducible refine f_seq ?_
    refine f_forItems ?_
    refine f_call (f_cons (f_var rfl (f_nil ⟨l, ks, rfl, ex_l x3 hL, hz, fun a kvs H4 na e4 ha hG => ⟨a, .dK kvs, rfl, ha, trivial, fun od => ⟨a, od, kvs, rfl, upd_same, ?_⟩⟩⟩)))
    have hak : a ≠ pk := (ne_of_none h3 na).symm
    have had : a ≠ d0 := (ne_of_none hd3 na).symm
    have hG4 : GAt H3 (upd H4 a (.frz od (.dK kvs))) kvs (standOf ks) := hG.keep fun kv hkv p xs _ h => by
      rw [upd_ne (fun z => by rw [z, ha] at h; cases h)]; exact h
    have old : Ex H3 (upd H4 a (.frz od (.dK kvs))) := fun b o g => by
      rw [upd_ne (fun z => by rw [z, na] at g; cases g)]; exact e4 _ _ g
    have hk4 := old _ _ h3
    have hd4 := old _ _ hd3
    have hG34 := hG3.ex_ old
    have hG5 : (upd H4 a (.frz od (.dK kvs))) a = some (.frz od (.dK kvs)) := upd_same
    have hold := x3.trans old
    generalize upd H4 a (.frz od (.dK kvs)) = G at hG4 hk4 hold hG5 hd4 hG34
    have hmem : ∀ x, x ∈ standOf ks → x.2.length ≤ 1000 ∧ (∀ rem, rem ∈ (if x.2 = [0, 1] then srt (x.2.map fun y => y % 1) else srt (x.2.map fun y => y % 100)) → (srt (((endsAt ks x.1).filter fun e => decide (e % (if x.2 = [0, 1] then 1 else 100) = rem)).map fun e => e % (if x.2 = [0, 1] then 4 else 400))).length ≤ (x.2.filter fun y => decide (y % (if x.2 = [0, 1] then 1 else 100) = rem)).length) ∧ ∀ y, y ∈ x.2 → 0 ≤ y ∧ y < 1000 := fun x hx => by
      obtain ⟨h1, h2, h3, h4⟩ := mem_stand.mp hx
      have hne := sel_srt_ne h1
      rw [h4]
      refine ⟨?_, fun rem hrem => kinds_le hne (fun e he => ends_sub he) (endsAt_len ks x.1) hrem, fun y hy => yearsOf_bound hy⟩
      have a1 := yearsOf_len hne
      have a2 : (sel 12 (srt (sums ks)) x.1).length ≤ (srt (sums ks)).length := by
        unfold sel
        rw [List.length_map]
        exact List.length_filter_le ..
      have a3 := srt_len' (sums ks)
      have a4 : (sums ks).length = ks.length + 1 := sumsTo_len ks _
      omega
    have hpart : ∀ n, ((((standOf ks).take n).flatMap (betwG ks))).length ≤ 901 := fun n => by
      have z1 : (standOf ks).flatMap (betwG ks) = ((standOf ks).take n).flatMap (betwG ks) ++ ((standOf ks).drop n).flatMap (betwG ks) := by
        rw [← List.flatMap_append, List.take_append_drop]
      have z2 : (betwOf ks).length = (((standOf ks).take n).flatMap (betwG ks) ++ ((standOf ks).drop n).flatMap (betwG ks)).length := congrArg List.length z1
      rw [List.length_append] at z2
      omega
    have eK : (standOf ks).flatMap (betwG ks) = betwOf ks := rfl
    have eE : ∀ r, look (grp 12 [0, ks.sum]) r = endsAt ks r := fun _ => rfl
    generalize standOf ks = gs at hG4 hpart hmem eK
    refine for_grp2 (H0 := H3) (gs := gs) hG5 hG4 ⟨_, h3⟩ hak (fun n τ U => ∃ v3 v4 v5 : Option V, τ = [some (.ref l), some (.ref d0), some (.ref pk), v3, v4, v5] ∧ U pk = some (.lst (((gs.take n).flatMap (betwG ks)).map V.int)))
      ⟨none, none, none, rfl, hk4⟩ (fun n x p τ U hx ⟨v3, v4, v5, hτ, hU⟩ kr hpk hp T' hT => ?_) fun τ U ⟨v3, v4, v5, hτ, hU⟩ kr => ?_
    · subst hτ
      have hxm := List.mem_of_getElem? hx
      obtain ⟨hm1, hm2, hm3⟩ := hmem x hxm
      have hf1 := hpart n
      have hf2 := hpart (n + 1)
      have eT := Ex.new (o := .tup [.int x.1, .ref p]) hT
      rw [betw_take hx] at hf2 ⊢
      generalize (gs.take n).flatMap (betwG ks) = acc at hU hf1 hf2
      rw [List.length_append] at hf2
      have hkg : (betwG ks x).length = (ybetw x.2 (endsAt ks x.1)).length := by unfold betwG; rw [List.length_map]
      have hdU := eT _ _ (kr.at hdk hd4)
      have hGU : GAt H1 (upd U T' (.tup [.int x.1, .ref p])) kv0 (grp 12 [0, ks.sum]) := (hG34.keep fun kv hkv p' xs hpe h' => eT _ _ (kr.at (fun z => by
        obtain ⟨p'', l'', e'', h''⟩ := hG0.news kv hkv
        rw [hpe] at e''
        cases e''
        rw [z, npk] at h''
        cases h'') h'))
      have el : EvL (tCall (spHL (D_ybetw K)) [] E0 (tCons (tVar 4) (tCons (tDGet2 (tVar 1) (tVar 3) (tLst tNil)) tNil))) [some (.ref l), some (.ref d0), some (.ref pk), some (.int x.1), some (.ref p), v5] (upd U T' (.tup [.int x.1, .ref p])) ((ybetw x.2 (endsAt ks x.1)).map V.int) := fun H5 e5 Q' q' =>
        f_call (f_cons (f_var rfl (f_cons (f_getG (ev_var rfl) (ev_var rfl) (.inl (e5 _ _ hdU)) (fun H6 e6 => .inl (e6 _ _ (e5 _ _ hdU))) (hGU.ex_ e5) fun pe H6 e6 hpe => f_nil ⟨_, ⟨p, pe, x.2, endsAt ks x.1, rfl, sq_of (e6 _ _ (e5 _ _ (eT _ _ hp))), sq_of (eE x.1 ▸ hpe), hm1, endsAt_len ks x.1, hm2, rfl⟩, fun r H7 nr e7 h7 => q' r H7 (fresh_back e6 nr) (e6.trans e7) h7⟩))))
      have hyb : ∀ y, y ∈ ybetw x.2 (endsAt ks x.1) → 0 ≤ y ∧ y < 1000 := fun y hy => hm3 y (ybetw_sub hy)
      have hkb : (betwG ks x) = (ybetw x.2 (endsAt ks x.1)).map fun y => 12 * y + x.1 := rfl
      generalize betwG ks x = bg at hf2 hkg hkb ⊢
      generalize ybetw x.2 (endsAt ks x.1) = yb at el hkg hyb hkb
      refine s_forNL (xs := yb.map V.int) el
        (fun py i τ U' => ∃ v5 : Option V, τ = [some (.ref l), some (.ref d0), some (.ref pk), some (.int x.1), some (.ref p), v5] ∧ U' py = some (.lst (yb.map V.int)) ∧ py ≠ pk ∧ U' pk = some (.lst ((acc ++ bg.take i).map V.int)) ∧ Kr pk G U')
        (fun py H5 npy e5 h5 => ⟨_, rfl, h5, (ne_of_none (eT _ _ hU) npy).symm, by rw [List.take_zero, List.append_nil]; exact e5 _ _ (eT _ _ hU), fun b o g1 g => e5 _ _ (eT _ _ (kr b o g1 g))⟩)
        (fun py i τ U' _ ⟨_, _, h5, _⟩ => sq_of h5) (fun py i u τ U' hu ⟨v5, hτ, h5, hpy, hU', kr'⟩ => ?_) fun py τ U' ⟨v5, hτ, h5, hpy, hU', kr'⟩ => ?_
      · subst hτ
        rw [List.getElem?_map] at hu
        obtain ⟨yy, hy, rfl⟩ := Option.map_eq_some_iff.mp hu
        have hi : i < yb.length := (List.getElem?_eq_some_iff.mp hy).1
        have hb := hyb yy (List.mem_of_getElem? hy)
        refine f_gName ?_
        refine s_app hU' (ev_var rfl) (ev_op (ev_op ev_c (ev_var rfl) (rv_mul (by decide) (Nat.le_trans (by omega : yy.natAbs ≤ 1000) (by decide +kernel)))) (ev_var rfl) rv_I0) (by rw [List.length_map, List.length_append, List.length_take]; omega) fun H6 e6 => ⟨_, rfl, by rw [upd_ne hpy]; exact e6 _ _ h5, hpy, ?_, fun b o g1 g => by rw [upd_ne g1]; exact e6 _ _ (kr' b o g1 g)⟩
        have hk : bg[i]? = some (12 * yy + x.1) := by rw [hkb, List.getElem?_map, hy]; rfl
        rw [upd_same, List.take_add_one, hk, ← List.append_assoc, List.map_append (l₂ := (some (12 * yy + x.1)).toList)]
        rfl
      · subst hτ
        rw [List.length_map, ← hkg, List.take_length] at hU'
        exact ⟨⟨_, _, _, rfl, hU'⟩, kr'⟩
    · subst hτ
      rw [List.take_length, eK] at hU
      exact s_ret (ev_var rfl) fun H6 e6 => q pk H6 npk0 (fun b o g => e6 _ _ (kr b o (ne_of_none g npk0) (hold _ _ g))) (e6 _ _ hU)
theorem steps_take1 {os : List Int} {i : Nat} {x : Int} (h : os[i]? = some x) : (steps os).take (i + 1) = (steps os).take i ++ [x - (0 :: os).getD i 0] := by
  have hi : i < os.length := (List.getElem?_eq_some_iff.mp h).1
  have e : (steps os)[i]? = some (x - (0 :: os).getD i 0) := by
    unfold steps
    rw [List.getElem?_zipWith, h]
    have e0 : (0 :: os)[i]? = some ((0 :: os).getD i 0) := by
      rw [List.getD_eq_getElem?_getD, List.getElem?_eq_getElem (by simp; omega)]; rfl
    rw [e0]
  rw [List.take_add_one, e]; rfl
theorem ok_shortest_list (T : Top K mg) : FnOk P w K mg base CX0 6 T.f_shortest_list T.fd_shortest_list ["steps"] (spHL (D_short K)) := by
  have G_visits_between : FnOk P w K mg base CX0 5 T.f_visits_between T.fd_visits_between ["steps"] (spHL (D_betw K)) := ok_visits_between T
  refine T.F_shortest_list.ok sc_shortest_list (fun vs H Q E h => ?_) (fun cdv A outer s H vs Q E hr h => ?_)
  · obtain ⟨z, ⟨l, ks, rfl, _⟩, _⟩ := h; rfl
  · obtain ⟨z, ⟨l, ks, rfl, hL, hz, rfl⟩, q⟩ := h
    refine ⟨_, (pss_cons (ps_set (i := 1) sc_shortest_list.nd rfl (Or.inl rfl) (pe_callB (r := rSum K) (cr_sum rfl) (by rfl) T.z_sum (by decide +kernel) (pa_cons (pv 0) pa_nil)))
      (pss_cons (ps_set (i := 2) sc_shortest_list.nd rfl (Or.inl rfl) (pe_call G_visits_between (hr.mono (by first | decide | omega)) (by rfl) T.g_visits_between T.F_visits_between.kp T.b_visits_between .nil pass0 (pa_cons (pv 0) pa_nil)))
      (pss_cons (ps_if (PW.pt (pw_and (pt_cmpR op_eq (pv 1) pe_int (nomark _)) (pw_and1 (pt_not (pt_truth (pv 2) (fun _ => rfl)))))) (pss_one (ps_ret (pe_lst pa_nil))) pss_nil)
      (pss_cons (ps_set (i := 3) sc_shortest_list.nd rfl (Or.inl rfl) (pe_lst pa_nil))
      (pss_cons (ps_set (i := 4) sc_shortest_list.nd rfl (Or.inl rfl) pe_int)
      (pss_cons (ps_for PassesOwn.never rfl (pi_list (pe_op op_cat (pv 2) (pe_lst (pa_cons (pv 1) pa_nil)))) (pg_name (i := 5) sc_shortest_list.nd rfl (Or.inl rfl)) (pss_cons (ps_expr (pe_bm PySem.F.plainAttrs_list PySem.F.slot_list_append PySem.F.type_list_append mt_append (pv 3) (pa_cons (pe_op op_sub (pv 5) (pv 4)) pa_nil)))
      (pss_one (ps_set (i := 4) sc_shortest_list.nd rfl (Or.inl rfl) (pv 5)))))
      (pss_one (ps_ret (pv 3))))))))), ?_⟩
    have hbl := betw_len ks
    with_reducible refine f_seq ?_
    refine s_asg (ev_sumV (ev_var rfl) hL) fun H1 e1 => ?_
    with_reducible refine f_seq ?_
    refine s_asgL (el_callH (ea_cons (ev_var rfl) ea_nil) fun H2 e2 => ⟨l, ks, rfl, ex_l (e1.trans e2) hL, hz, rfl⟩) fun pb H2 npb e2 h2 => ?_
    have x2 := e1.trans e2
    unfold shortOf at q
    generalize betwOf ks = bs at h2 hbl q
    generalize ks.sum = tot at q
    with_reducible refine f_seq ?_
    refine s_if (et_and (et_test (ev_op (ev_var rfl) ev_c rv_eqI)) fun _ => et_not (et_truL (ev_var rfl) (sq_of h2))) (fun hb H3 e3 => ?_) fun hb H3 e3 => ?_
    · have hc : tot = 0 ∧ bs = [] := by simpa using hb
      rw [if_pos hc] at q
      exact s_retL (el_lst ea_nil (Nat.zero_le _)) fun p H4 np e4 h4 => q p H4 (fresh_back (x2.trans e3) np) ((x2.trans e3).trans e4) h4
    · have hc : ¬ (tot = 0 ∧ bs = []) := fun z => by
        rw [z.1, z.2] at hb
        simp at hb
      rw [if_neg hc] at q
      with_reducible refine f_next ?_
      have x3 := x2.trans e3
      refine f_seq (s_asgL (el_lst ea_nil (Nat.zero_le _)) fun pf H4 npf e4 h4 => ?_)
      have npf0 : H pf = none := fresh_back x3 npf
      refine f_seq (s_asg ev_c fun H5 e5 => ?_)
      have h5 := e5 _ _ h4
      have x5 := (x3.trans e4).trans e5
      with_reducible refine f_seq ?_
      refine s_forNL (xs := (bs ++ [tot]).map V.int) (EvL.is (el_catV (ev_var rfl) (e5 _ _ (e4 _ _ (e3 _ _ h2))) (el_lst (vs := [.int tot]) (ea_cons (ev_var rfl) ea_nil) (by show 1 ≤ 100000; decide)) (by rw [List.length_map]; simp; omega)) (by rw [List.map_append]; rfl))
        (fun p i τ U => ∃ v5 : Option V, τ = [some (.ref l), some (.int tot), some (.ref pb), some (.ref pf), some (.int ((0 :: (bs ++ [tot])).getD i 0)), v5] ∧ U p = some (.lst ((bs ++ [tot]).map V.int)) ∧ p ≠ pf ∧ U pf = some (.lst (((steps (bs ++ [tot])).take i).map V.int)) ∧ Kr pf H5 U)
        (fun p H6 np e6 h6 => ⟨none, rfl, h6, (ne_of_none h5 np).symm, e6 _ _ h5, .of e6⟩) (fun p i τ U _ ⟨_, _, h6, _⟩ => sq_of h6) (fun p i x τ U hx ⟨v5, hτ, hp, hpp, hU, kr⟩ => ?_) fun p τ U ⟨v5, hτ, hp, hpp, hU, kr⟩ => ?_
      · subst hτ
        obtain ⟨u, rfl, hu⟩ := int_of_map2 hx
        have hi : i < (bs ++ [tot]).length := (List.getElem?_eq_some_iff.mp hu).1
        have hil : i < 902 := by
          rw [List.length_append] at hi
          simp at hi; omega
        rw [steps_take1 hu]
        refine f_gName (f_seq (s_app hU (ev_var rfl) (ev_op (ev_var rfl) (ev_var rfl) rv_I0) (by rw [List.length_map, List.length_take]; omega) fun H6 e6 => ?_))
        refine s_asg (ev_var rfl) fun H7 e7 => ⟨some (.int u), ?_, ?_, hpp, ?_, fun b o g1 g => e7 _ _ (by rw [upd_ne g1]; exact e6 _ _ (kr b o g1 g))⟩
        · have e : (0 :: (bs ++ [tot])).getD (i + 1) 0 = u := by
            show (bs ++ [tot]).getD i 0 = u
            rw [List.getD_eq_getElem?_getD, hu]; rfl
          rw [e]; rfl
        · refine e7 _ _ ?_
          rw [upd_ne hpp]; exact e6 _ _ hp
        · rw [e7 _ _ upd_same, List.map_append]; rfl
      · subst hτ
        have e : (steps (bs ++ [tot])).take ((bs ++ [tot]).map V.int).length = steps (bs ++ [tot]) := List.take_of_length_le (by rw [List.length_map, steps_len]; exact Nat.le_refl _)
        rw [e] at hU
        exact s_ret (ev_var rfl) fun H6 e6 => q pf H6 npf0 (fun b o g => e6 _ _ (kr b o (ne_of_none g npf0) (x5 _ _ g))) (e6 _ _ hU)

/-! a shortest list needs as many visits as any list with its effect has -/
theorem leapsF {ys : List Int} {a : Int} (ha : ∀ y, y ∈ ys → y % 4 = a) (k : Int) : (∀ y, y ∈ ys → isLeap (4 * k - a + y) = true) ↔ ∀ q, q ∈ (ys.map fun y => y / 4) → (k + q) % 25 = 0 → (k + q) % 100 = 0 := by
  by_cases hne : ys = []
  · subst hne
    exact ⟨fun _ q hq => by simp at hq, fun _ y hy => by simp at hy⟩
  · rw [leaps4 ha hne, show (4 * k - a + a) / 4 = k by omega]
    exact ⟨fun h => h.2, fun h => ⟨by omega, h⟩⟩
theorem srt_small {l : List Int} (h : (srt l).length ≤ 1) {x y : Int} (hx : x ∈ l) (hy : y ∈ l) : x = y := by
  have a := mem_srt.mpr hx
  have b := mem_srt.mpr hy
  match e : srt l with
  | [] => rw [e] at a; simp at a
  | [z] =>
    rw [e] at a b
    rw [List.mem_singleton.mp a, List.mem_singleton.mp b]
  | z :: u :: r => rw [e] at h; simp at h
/-- lists of fours that are left alike by each start have as many kinds of one remainder -/
theorem con_least {fs ws : List Int} (h : ∀ k : Int, (∀ q, q ∈ ws → (k + q) % 25 = 0 → (k + q) % 100 = 0) ↔ ∀ q, q ∈ fs → (k + q) % 25 = 0 → (k + q) % 100 = 0) (g : Int) :
    (con fs g).length ≤ (srt ((ws.filter fun q => decide (q % 25 = g)).map fun q => q % 100)).length := by
  have memL : ∀ w, w ∈ ws → w % 25 = g → w % 100 ∈ (ws.filter fun q => decide (q % 25 = g)).map fun q => q % 100 := fun w hw e => List.mem_map.mpr ⟨w, List.mem_filter.mpr ⟨hw, decide_eq_true e⟩, rfl⟩
  rcases con_cases fs g with ⟨e, _⟩ | ⟨q, e, m, hq, _⟩ | ⟨q, p, e, m, n, hq, hp, hne⟩
  · rw [e]; exact Nat.zero_le _
  · rw [e]
    refine Nat.pos_of_ne_zero fun z => ?_
    have z := List.length_eq_zero_iff.mp z
    have no : ∀ w, w ∈ ws → w % 25 ≠ g := fun w hw e => by
      have := mem_srt.mpr (memL w hw e)
      rw [z] at this; simp at this
    have := (h (-q + 25)).mp (fun w hw e => absurd (show w % 25 = g by omega) (no w hw)) q m (by omega)
    omega
  · rw [e]
    refine Classical.byContradiction fun z => ?_
    have z : (srt ((ws.filter fun q => decide (q % 25 = g)).map fun q => q % 100)).length ≤ 1 := by
      have : ([g, g + 25] : List Int).length = 2 := rfl
      omega
    obtain ⟨t, ht⟩ : ∃ t : Int, t % 25 = g ∧ ∀ w, w ∈ ws → w % 25 = g → w % 100 = t % 100 := by
      by_cases hw : ∃ w, w ∈ ws ∧ w % 25 = g
      · obtain ⟨w0, hw0, e0⟩ := hw
        exact ⟨w0, e0, fun w hw e => srt_small z (memL w hw e) (memL w0 hw0 e0)⟩
      · exact ⟨q, hq, fun w h1 h2 => absurd ⟨w, h1, h2⟩ hw⟩
    have key := (h (-t)).mp fun w hw e => by
      have := ht.2 w hw (by omega)
      omega
    have k1 := key q m (by omega)
    have k2 := key p n (by omega)
    omega
theorem nodup_le {K M : List Int} (nd : K.Nodup) (h : ∀ k, k ∈ K → k ∈ M) : K.length ≤ M.length := by
  have a : (K.flatMap fun k => [k]).length ≤ (K.flatMap fun k => M.filter fun x => decide (x = k)).length := flat_le fun k hk => List.length_pos_of_mem (List.mem_filter.mpr ⟨h k hk, decide_eq_true rfl⟩)
  have b := part_len (fun x => x) K M nd
  have c : (K.flatMap fun k => [k]).length = K.length := by simp
  omega
theorem two_ends {ends : List Int} (hl : ends.length ≤ 2) (h : (srt (ends.map fun e => e % 4)).length ≤ 1) : ∃ c, ∀ y, y ∈ ends → isLeap (c + y) = true := by
  match ends, hl with
  | [], _ => exact ⟨0, fun y hy => by simp at hy⟩
  | [e], _ => exact ⟨-e, fun y hy => by rw [List.mem_singleton.mp hy]; exact (leap_iff _).mpr (by omega)⟩
  | [e, f], _ =>
    have s : e % 4 = f % 4 := srt_small h (by simp) (by simp)
    by_cases z : (1 + (f - e) / 4) % 25 = 0
    · refine ⟨-e + 8, fun y hy => (leap_iff _).mpr ?_⟩
      simp only [List.mem_cons, List.not_mem_nil, or_false] at hy
      rcases hy with rfl | rfl <;> omega
    · refine ⟨-e + 4, fun y hy => (leap_iff _).mpr ?_⟩
      simp only [List.mem_cons, List.not_mem_nil, or_false] at hy
      rcases hy with rfl | rfl <;> omega
theorem ybetw_least {ys ends zs : List Int} (hne : ys ≠ []) (hl : ends.length ≤ 2) (h : ∀ c, (∀ y, y ∈ ends ++ zs → isLeap (c + y) = true) ↔ ∀ y, y ∈ ys → isLeap (c + y) = true) : (ybetw (yearsOf ys) ends).length ≤ zs.length := by
  by_cases h01 : yearsOf ys = [0, 1]
  · have hN : ∀ c, ¬ ∀ y, y ∈ ys → isLeap (c + y) = true := fun c z => never2 c (h01 ▸ (years_sound hne c).mpr z)
    have e0 : (ybetw (yearsOf ys) ends).length ≤ 2 - (srt ((ends.filter fun e => decide (e % 1 = 0)).map fun e => e % 4)).length := by
      unfold ybetw
      rw [if_pos h01, h01, show srt (([0, 1] : List Int).map fun y => y % 1) = [0] by decide, List.flatMap_cons, List.flatMap_nil, List.append_nil]
      unfold ybR
      rw [List.length_take]
      exact Nat.le_trans (Nat.min_le_left _ _) (Nat.sub_le_sub_right (List.length_filter_le _ _) _)
    have ef : (ends.filter fun e => decide (e % 1 = 0)) = ends := List.filter_eq_self.mpr fun y _ => decide_eq_true (by omega)
    rw [ef] at e0
    refine Nat.le_trans e0 ?_
    match zs with
    | [] =>
      refine Classical.byContradiction fun z => ?_
      obtain ⟨c, hc⟩ := two_ends hl (by have : ([] : List Int).length = 0 := rfl; omega)
      exact hN c ((h c).mp fun y hy => hc y (by simpa using hy))
    | [z] =>
      refine Classical.byContradiction fun w => ?_
      have l0 : (srt (ends.map fun e => e % 4)).length = 0 := by
        have : ([z] : List Int).length = 1 := rfl
        omega
      have e0 : ends = [] := by
        match ends with
        | [] => rfl
        | e :: r =>
          have := mem_srt.mpr (show e % 4 ∈ ((e :: r).map fun e => e % 4) from List.mem_cons_self ..)
          rw [List.length_eq_zero_iff.mp l0] at this
          simp at this
      subst e0
      exact hN (-z) ((h (-z)).mp fun y hy => by
        have hy : y = z := by simpa using hy
        rw [hy]; exact (leap_iff _).mpr (by omega))
    | z :: u :: r => exact Nat.le_trans (Nat.sub_le _ _) (by simp)
  · rcases years_case hne with ⟨e, _⟩ | ⟨a, a0, a4, ha, e, h50⟩
    · exact absurd e h01
    · -- all have the remainder a
      obtain ⟨g, g0, g1, hg⟩ : ∃ g : Int, 0 ≤ g ∧ g < 25 ∧ (con (ys.map fun y => y / 4) g).length ≠ 2 := Classical.byContradiction fun z => h50 ((fours_50 _).mpr fun g g0 g1 => Classical.byContradiction fun w => z ⟨g, g0, g1, w⟩)
      obtain ⟨k0, hk0⟩ : ∃ k : Int, ∀ q, q ∈ (ys.map fun y => y / 4) → (k + q) % 25 = 0 → (k + q) % 100 = 0 := by
        rcases con_cases (ys.map fun y => y / 4) g with ⟨_, no⟩ | ⟨q, _, m, hq, one⟩ | ⟨q, p, e, _⟩
        · exact ⟨-g, fun q hq e => absurd (show q % 25 = g by omega) (no q hq)⟩
        · exact ⟨-q, fun p hp e => by have := one p hp (by omega); omega⟩
        · exact (hg (by rw [e]; rfl)).elim
      have hw : ∀ w, w ∈ ends ++ zs → w % 4 = a := fun w hw => by
        have := ((leap_iff _).mp ((h (4 * k0 - a)).mpr ((leapsF ha k0).mpr hk0) w hw)).1
        omega
      have hF := con_least (fs := ys.map fun y => y / 4) (ws := (ends ++ zs).map fun y => y / 4) fun k => (leapsF hw k).symm.trans ((h _).trans (leapsF ha k))
      unfold ybetw
      rw [if_neg h01]
      refine Nat.le_trans (flat_le (g := fun rem => zs.filter fun z => decide (z % 100 = rem)) fun rem hrem => ?_) (part_len (fun z => z % 100) _ zs (srt_nodup _))
      obtain ⟨y, hy, rfl⟩ := List.mem_map.mp (mem_srt.mp hrem)
      rw [e] at hy
      obtain ⟨f0, hf0, rfl⟩ := List.mem_map.mp hy
      have gl : ((yearsOf ys).filter fun z => decide (z % 100 = (a + 4 * f0) % 100)).length = (con (ys.map fun y => y / 4) (f0 % 25)).length := by
        have eg : ((foursOf (ys.map fun y => y / 4)).map fun f => a + 4 * f).filter (fun z => decide (z % 100 = (a + 4 * f0) % 100)) = ((foursOf (ys.map fun y => y / 4)).filter fun f => decide (f % 25 = f0 % 25)).map fun f => a + 4 * f := by
          rw [List.filter_map]
          congr 1
          refine List.filter_congr fun f _ => ?_
          show decide ((a + 4 * f) % 100 = (a + 4 * f0) % 100) = decide (f % 25 = f0 % 25)
          exact decide_eq_decide.mpr ⟨fun h => by omega, fun h => by omega⟩
        rw [e, eg, List.length_map]
        exact (fours_group (ys.map fun y => y / 4) (g := f0 % 25) (by omega) (by omega)).length_eq
      have l1 : (ybR 100 400 (yearsOf ys) ends ((a + 4 * f0) % 100)).length ≤ (con (ys.map fun y => y / 4) (f0 % 25)).length - (srt ((ends.filter fun e => decide (e % 100 = (a + 4 * f0) % 100)).map fun e => e % 400)).length := by
        unfold ybR
        rw [List.length_take, gl]
        exact Nat.min_le_left _ _
      have l2 := hF (f0 % 25)
      have l3 : (srt ((((ends ++ zs).map fun y => y / 4).filter fun q => decide (q % 25 = f0 % 25)).map fun q => q % 100)).length ≤ ((srt ((ends.filter fun e => decide (e % 100 = (a + 4 * f0) % 100)).map fun e => e % 400)).map (fun t => (t - a) / 4) ++ (zs.filter fun z => decide (z % 100 = (a + 4 * f0) % 100)).map fun z => z / 4 % 100).length := by
        refine nodup_le (srt_nodup _) fun x hx => ?_
        obtain ⟨q, hq, rfl⟩ := List.mem_map.mp (mem_srt.mp hx)
        obtain ⟨hq, hq2⟩ := List.mem_filter.mp hq
        have hq2 : q % 25 = f0 % 25 := of_decide_eq_true hq2
        obtain ⟨w, hwm, rfl⟩ := List.mem_map.mp hq
        have wa := hw w hwm
        rcases List.mem_append.mp hwm with he | hz
        · exact List.mem_append_left _ (List.mem_map.mpr ⟨w % 400, mem_srt.mpr (List.mem_map.mpr ⟨w, List.mem_filter.mpr ⟨he, decide_eq_true (by omega)⟩, rfl⟩), by omega⟩)
        · exact List.mem_append_right _ (List.mem_map.mpr ⟨w, List.mem_filter.mpr ⟨hz, decide_eq_true (by omega)⟩, rfl⟩)
      rw [List.length_append, List.length_map, List.length_map] at l3
      show (ybR 100 400 (yearsOf ys) ends ((a + 4 * f0) % 100)).length ≤ (zs.filter fun z => decide (z % 100 = (a + 4 * f0) % 100)).length
      omega
theorem betw_least {ks A Z : List Int} (hE : EqV A (sums ks)) (hA : ∀ v, v ∈ A ↔ v = 0 ∨ v = ks.sum ∨ v ∈ Z) : (betwOf ks).length ≤ Z.length := by
  have a : (betwOf ks).length ≤ ((standOf ks).flatMap fun x => Z.filter fun v => decide (v % 12 = x.1)).length := flat_le fun x hx => by
    obtain ⟨h1, h2, h3, h4⟩ := mem_stand.mp hx
    have hne := sel_srt_ne h1
    have key := ybetw_least (zs := (Z.filter fun v => decide (v % 12 = x.1)).map fun v => v / 12) hne (endsAt_len ks x.1) fun c => by
      have ps : Pv (sums ks) x.1 c ↔ ∀ y, y ∈ sel 12 (srt (sums ks)) x.1 → isLeap (c + y) = true := by
        rw [← pv_sel]
        exact ⟨fun h v a => h v (mem_srt.mp a), fun h v a => h v (mem_srt.mpr a)⟩
      rw [← ps, ← (hE x.1 h2 h3).2 c]
      constructor
      · intro h v hv hr
        refine h _ (List.mem_append.mpr ?_)
        rcases (hA v).mp hv with z | z | z
        · exact .inl (mem_endsAt.mpr ⟨v, .inl z, hr, rfl⟩)
        · exact .inl (mem_endsAt.mpr ⟨v, .inr z, hr, rfl⟩)
        · exact .inr (List.mem_map.mpr ⟨v, List.mem_filter.mpr ⟨z, decide_eq_true hr⟩, rfl⟩)
      · intro h y hy
        rcases List.mem_append.mp hy with hy | hy
        · obtain ⟨v, hv, hr, rfl⟩ := mem_endsAt.mp hy
          exact h v ((hA v).mpr (hv.elim .inl fun z => .inr (.inl z))) hr
        · obtain ⟨v, hv, rfl⟩ := List.mem_map.mp hy
          obtain ⟨hv, hr⟩ := List.mem_filter.mp hv
          exact h v ((hA v).mpr (.inr (.inr hv))) (of_decide_eq_true hr)
    unfold betwG
    rw [List.length_map, h4]
    rw [List.length_map] at key
    exact key
  have b := part_len (fun v => v % 12) ((standOf ks).map Prod.fst) Z (stand_nodup ks)
  rw [List.flatMap_map] at b
  exact Nat.le_trans a b
/-! the fewest steps -/
def fewOf (ks : List Int) : Nat := (shortOf ks).length
theorem few_if (ks : List Int) : fewOf ks = if ks.sum = 0 ∧ (betwOf ks).length = 0 then 0 else (betwOf ks).length + 1 := by
  unfold fewOf shortOf
  by_cases h : ks.sum = 0 ∧ betwOf ks = []
  · rw [if_pos h, if_pos ⟨h.1, by rw [h.2]; rfl⟩]; rfl
  · rw [if_neg h, if_neg fun z => h ⟨z.1, List.length_eq_zero_iff.mp z.2⟩, steps_len, List.length_append]; rfl
theorem betw_same {a b : List Int} (h : SameE a b) : (betwOf a).length ≤ (betwOf b).length :=
  betw_least (A := 0 :: b.sum :: betwOf b) ((betw_eqv (ks := b) fun v => by simp).trans h.2.symm) fun v => by rw [h.1]; simp
theorem few_same {a b : List Int} (h : SameE a b) : fewOf a = fewOf b := by
  have e := Nat.le_antisymm (betw_same h) (betw_same h.symm)
  rw [few_if, few_if, e, h.1]
theorem few_short (ks : List Int) : fewOf (shortOf ks) = fewOf ks := few_same (short_same ks)
/-- what is visited does not hang on steps of zero -/
theorem sums_busy (ks : List Int) (v : Int) : v ∈ sums (ks.filter fun k => decide (k ≠ 0)) ↔ v ∈ sums ks := by
  induction ks generalizing v with
  | nil => exact Iff.rfl
  | cons k ks ih =>
    by_cases h : k = 0
    · rw [List.filter_cons_of_neg (by simp [h]), ih, mem_sums_cons, h]
      constructor
      · intro hv; exact .inr ⟨v, hv, (Int.zero_add _).symm⟩
      · rintro (rfl | ⟨u, hu, rfl⟩)
        · exact zero_mem_sums ks
        · rw [Int.zero_add]; exact hu
    · rw [List.filter_cons_of_pos (by simp [h]), mem_sums_cons, mem_sums_cons]
      exact ⟨fun z => z.elim .inl fun ⟨u, hu, e⟩ => .inr ⟨u, (ih u).mp hu, e⟩, fun z => z.elim .inl fun ⟨u, hu, e⟩ => .inr ⟨u, (ih u).mpr hu, e⟩⟩
theorem sum_busy (ks : List Int) : (ks.filter fun k => decide (k ≠ 0)).sum = ks.sum := by
  induction ks with
  | nil => rfl
  | cons k ks ih =>
    by_cases h : k = 0
    · rw [List.filter_cons_of_neg (by simp [h]), ih, List.sum_cons, h, Int.zero_add]
    · rw [List.filter_cons_of_pos (by simp [h]), List.sum_cons, List.sum_cons, ih]
theorem few_busy (ks : List Int) : fewOf ks ≤ (ks.filter fun k => decide (k ≠ 0)).length := by
  have e1 := sums_busy ks
  have e2 := sum_busy ks
  generalize (ks.filter fun k => decide (k ≠ 0)) = bs at e1 e2
  have hZ := betw_least (ks := ks) (A := sums ks) (Z := (List.range (bs.length - 1)).map fun j => (bs.take (j + 1)).sum) (EqV.refl _) fun v => by
    rw [← e1, mem_sums, ← e2]
    constructor
    · rintro ⟨j, hj, rfl⟩
      by_cases j0 : j = 0
      · subst j0; exact .inl rfl
      · by_cases jl : j = bs.length
        · subst jl; exact .inr (.inl (by rw [List.take_length]))
        · exact .inr (.inr (List.mem_map.mpr ⟨j - 1, List.mem_range.mpr (by omega), by rw [show j - 1 + 1 = j by omega]⟩))
    · rintro (rfl | rfl | h)
      · exact ⟨0, Nat.zero_le _, rfl⟩
      · exact ⟨bs.length, Nat.le_refl _, by rw [List.take_length]⟩
      · obtain ⟨j, hj, rfl⟩ := List.mem_map.mp h
        have := List.mem_range.mp hj
        exact ⟨j + 1, by omega, rfl⟩
  rw [List.length_map, List.length_range] at hZ
  rw [few_if]
  split
  · exact Nat.zero_le _
  · next hn =>
    have : bs ≠ [] := fun z => hn ⟨by rw [← e2, z]; rfl, by rw [z] at hZ; exact Nat.le_zero.mp hZ⟩
    have := List.length_pos_iff.mpr this
    omega
theorem few_le (ks : List Int) : fewOf ks ≤ ks.length := Nat.le_trans (few_busy ks) (List.length_filter_le _ _)
theorem few_app (a b : List Int) : fewOf (a ++ b) ≤ fewOf a + fewOf b := by
  have h : SameE (a ++ b) (shortOf a ++ shortOf b) := (short_same a).symm.app (short_same b).symm
  rw [few_same h]
  exact Nat.le_trans (few_le _) (by rw [List.length_append]; exact Nat.le_refl _)

/-! the law's look at one list -/
def nfD (s : Int) (ns : List Int) : PyData := .tuple [.int s, .list (ns.map PyData.int)]
theorem dp_nf {H : Hp} {p m : Addr} {s : Int} {ns : List Int} (h : H p = some (.tup [.int s, .ref m])) (hm : H m = some (.lst (ns.map V.int))) : Dp K H (.ref p) (nfD s ns) := .tup (st_of h) (.cons (.int s) (.cons (dp_ints (sq_of hm)) .nil))
theorem fits_nf {s : Int} {ns : List Int} (hs : s.natAbs ≤ 10 ^ 100) (hn : ∀ k, k ∈ ns → k.natAbs ≤ 10 ^ 100) (hl : ns.length ≤ 400) : Fits (nfD s ns) := by
  obtain ⟨a, b, c⟩ := shows_int hs
  obtain ⟨a', b', c', d', f'⟩ := shows_ints ns hn
  simp only [PyData.showable] at a
  simp only [PyData.leavesShort] at b
  refine fits_of ?_ ?_ ?_ ?_ ?_
  · simp only [nfD, PyData.hasDict, PyData.hasDictAll, d']; rfl
  · simp only [nfD, PyData.showable, PyData.showableAll, a, a']; rfl
  · simp only [nfD, PyData.depth, PyData.depthAll, f']; decide
  · simp only [nfD, PyData.leavesShort, PyData.leavesShortAll, b, b']; rfl
  · simp only [nfD, PyData.weight, PyData.weightAll] at c ⊢
    omega
theorem nfOf_bound {ks : List Int} {z : Int} (h : z ∈ nfOf ks) : z.natAbs ≤ 100000 := by
  have h2 : z ∈ keptOf ks := (asc_perm _).mem_iff.mp h
  unfold keptOf standOf at h2
  obtain ⟨x, hx, hz⟩ := List.mem_flatMap.mp h2
  obtain ⟨g, hg, rfl⟩ := List.mem_map.mp hx
  obtain ⟨y, hy, rfl⟩ := List.mem_map.mp hz
  have hb := yearsOf_bound hy
  obtain ⟨n, _, hn⟩ := (grp_keys 12 (srt (sums ks)) g.1).mp (List.mem_map.mpr ⟨g, hg, rfl⟩)
  show (12 * y + g.1).natAbs ≤ _
  omega
theorem nfOf_len (ks : List Int) : (nfOf ks).length ≤ ks.length + 1 := (asc_perm (keptOf ks)).length_eq ▸ keptOf_len ks
theorem sum_le {b : Nat} : ∀ {ks : List Int}, (∀ k, k ∈ ks → k.natAbs ≤ b) → ks.sum.natAbs ≤ ks.length * b
  | [], _ => by simp
  | k :: ks, h => by
    have ih := sum_le fun x hx => h x (List.mem_cons_of_mem _ hx)
    have hk := h k (List.mem_cons_self ..)
    rw [List.sum_cons, List.length_cons, Nat.add_mul, Nat.one_mul]
    omega
theorem fits_nfOf {ks : List Int} (hl : ks.length ≤ 300) (hb : ∀ k, k ∈ ks → k.natAbs ≤ 10 ^ 60) : Fits (nfD ks.sum (nfOf ks)) :=
  fits_nf (Nat.le_trans (sum_le hb) (Nat.le_trans (Nat.mul_le_mul_right _ hl) (by decide +kernel))) (fun k hk => Nat.le_trans (nfOf_bound hk) (by decide +kernel)) (Nat.le_trans (nfOf_len ks) (by omega))

/-! how many visits are needed, as a sum over the remainders -/
def metAt (ends : List Int) (g : Int) : Nat := (srt ((ends.filter fun y => decide (y / 4 % 25 = g)).map fun y => y % 400)).length
def formR (ys ends : List Int) : Nat :=
  if yearsOf ys = [0, 1] then 2 - (srt (ends.map fun e => e % 4)).length
  else (r25.map fun g => (con (ys.map fun y => y / 4) g).length - metAt ends g).sum
theorem sumF_le {F G : Int → Nat} : ∀ {l : List Int}, (∀ x, x ∈ l → F x ≤ G x) → (l.map F).sum ≤ (l.map G).sum
  | [], _ => Nat.le_refl _
  | x :: l, h => by
    have a := h x (List.mem_cons_self ..)
    have b := sumF_le (F := F) (G := G) fun y hy => h y (List.mem_cons_of_mem _ hy)
    rw [List.map_cons, List.map_cons, List.sum_cons, List.sum_cons]; omega
theorem sum_parts (f : Int → Int) (K l : List Int) (nd : K.Nodup) : (K.map fun k => (l.filter fun x => decide (f x = k)).length).sum ≤ l.length := by
  have z := part_len f K l nd
  rw [List.length_flatMap] at z
  exact z
theorem sum_one (F : Int → Nat) : ∀ {L : List Int} {k : Int}, k ∈ L → F k ≤ ((L.flatMap fun g => List.replicate (F g) g).filter fun x => decide (x = k)).length
  | [], _, h => by simp at h
  | g :: L, k, h => by
    rw [List.flatMap_cons, List.filter_append, List.length_append]
    rcases List.mem_cons.mp h with rfl | h
    · have : ((List.replicate (F k) k).filter fun x => decide (x = k)) = List.replicate (F k) k := List.filter_eq_self.mpr fun x hx => decide_eq_true (List.eq_of_mem_replicate hx)
      rw [this, List.length_replicate]; omega
    · have := sum_one F h
      omega
theorem sum_sub (F : Int → Nat) {K L : List Int} (nd : K.Nodup) (h : ∀ k, k ∈ K → k ∈ L) : (K.map F).sum ≤ (L.map F).sum := by
  have a := sum_parts (fun x => x) K (L.flatMap fun g => List.replicate (F g) g) nd
  have b : (K.map F).sum ≤ (K.map fun k => ((L.flatMap fun g => List.replicate (F g) g).filter fun x => decide (x = k)).length).sum := sumF_le fun k hk => sum_one F (h k hk)
  have c : (L.flatMap fun g => List.replicate (F g) g).length = (L.map F).sum := by
    rw [List.length_flatMap]
    congr 1
    exact List.map_congr_left fun g _ => List.length_replicate ..
  rw [c] at a
  exact Nat.le_trans b a
theorem form_least {ys ends zs : List Int} (hne : ys ≠ []) (hl : ends.length ≤ 2) (h : ∀ c, (∀ y, y ∈ ends ++ zs → isLeap (c + y) = true) ↔ ∀ y, y ∈ ys → isLeap (c + y) = true) : formR ys ends ≤ zs.length := by
  unfold formR
  by_cases h01 : yearsOf ys = [0, 1]
  · rw [if_pos h01]
    have hN : ∀ c, ¬ ∀ y, y ∈ ys → isLeap (c + y) = true := fun c z => never2 c (h01 ▸ (years_sound hne c).mpr z)
    match zs with
    | [] =>
      refine Classical.byContradiction fun z => ?_
      obtain ⟨c, hc⟩ := two_ends hl (by have : ([] : List Int).length = 0 := rfl; omega)
      exact hN c ((h c).mp fun y hy => hc y (by simpa using hy))
    | [z] =>
      refine Classical.byContradiction fun w => ?_
      have l0 : (srt (ends.map fun e => e % 4)).length = 0 := by
        have : ([z] : List Int).length = 1 := rfl
        omega
      have e0 : ends = [] := by
        match ends with
        | [] => rfl
        | e :: r =>
          have := mem_srt.mpr (show e % 4 ∈ ((e :: r).map fun e => e % 4) from List.mem_cons_self ..)
          rw [List.length_eq_zero_iff.mp l0] at this
          simp at this
      subst e0
      exact hN (-z) ((h (-z)).mp fun y hy => by
        have hy : y = z := by simpa using hy
        rw [hy]; exact (leap_iff _).mpr (by omega))
    | z :: u :: r => exact Nat.le_trans (Nat.sub_le _ _) (by simp)
  · rw [if_neg h01]
    rcases years_case hne with ⟨e, _⟩ | ⟨a, a0, a4, ha, e, h50⟩
    · exact absurd e h01
    · obtain ⟨g, g0, g1, hg⟩ : ∃ g : Int, 0 ≤ g ∧ g < 25 ∧ (con (ys.map fun y => y / 4) g).length ≠ 2 := Classical.byContradiction fun z => h50 ((fours_50 _).mpr fun g g0 g1 => Classical.byContradiction fun w => z ⟨g, g0, g1, w⟩)
      obtain ⟨k0, hk0⟩ : ∃ k : Int, ∀ q, q ∈ (ys.map fun y => y / 4) → (k + q) % 25 = 0 → (k + q) % 100 = 0 := by
        rcases con_cases (ys.map fun y => y / 4) g with ⟨_, no⟩ | ⟨q, _, m, hq, one⟩ | ⟨q, p, e, _⟩
        · exact ⟨-g, fun q hq e => absurd (show q % 25 = g by omega) (no q hq)⟩
        · exact ⟨-q, fun p hp e => by have := one p hp (by omega); omega⟩
        · exact (hg (by rw [e]; rfl)).elim
      have hw : ∀ w, w ∈ ends ++ zs → w % 4 = a := fun w hw => by
        have := ((leap_iff _).mp ((h (4 * k0 - a)).mpr ((leapsF ha k0).mpr hk0) w hw)).1
        omega
      have hF := con_least (fs := ys.map fun y => y / 4) (ws := (ends ++ zs).map fun y => y / 4) fun k => (leapsF hw k).symm.trans ((h _).trans (leapsF ha k))
      refine Nat.le_trans (sumF_le (G := fun g => (zs.filter fun z => decide (z / 4 % 25 = g)).length) fun g _ => ?_) (sum_parts (fun z => z / 4 % 25) r25 zs (nodup_ints 25))
      have l2 := hF g
      have l3 : (srt ((((ends ++ zs).map fun y => y / 4).filter fun q => decide (q % 25 = g)).map fun q => q % 100)).length ≤ ((srt ((ends.filter fun y => decide (y / 4 % 25 = g)).map fun y => y % 400)).map (fun t => (t - a) / 4) ++ (zs.filter fun z => decide (z / 4 % 25 = g)).map fun z => z / 4 % 100).length := by
        refine nodup_le (srt_nodup _) fun x hx => ?_
        obtain ⟨q, hq, rfl⟩ := List.mem_map.mp (mem_srt.mp hx)
        obtain ⟨hq, hq2⟩ := List.mem_filter.mp hq
        have hq2 : q % 25 = g := of_decide_eq_true hq2
        obtain ⟨w, hwm, rfl⟩ := List.mem_map.mp hq
        have wa := hw w hwm
        rcases List.mem_append.mp hwm with he | hz
        · exact List.mem_append_left _ (List.mem_map.mpr ⟨w % 400, mem_srt.mpr (List.mem_map.mpr ⟨w, List.mem_filter.mpr ⟨he, decide_eq_true hq2⟩, rfl⟩), by omega⟩)
        · exact List.mem_append_right _ (List.mem_map.mpr ⟨w, List.mem_filter.mpr ⟨hz, decide_eq_true hq2⟩, rfl⟩)
      rw [List.length_append, List.length_map, List.length_map] at l3
      unfold metAt
      omega
theorem form_most {ys ends : List Int} (hne : ys ≠ []) (hs : ∀ e, e ∈ ends → e ∈ ys) : (ybetw (yearsOf ys) ends).length ≤ formR ys ends := by
  unfold formR
  by_cases h01 : yearsOf ys = [0, 1]
  · rw [if_pos h01]
    have ef : (ends.filter fun e => decide (e % 1 = 0)) = ends := List.filter_eq_self.mpr fun y _ => decide_eq_true (by omega)
    unfold ybetw
    rw [if_pos h01, h01, show srt (([0, 1] : List Int).map fun y => y % 1) = [0] by decide, List.flatMap_cons, List.flatMap_nil, List.append_nil]
    unfold ybR
    rw [List.length_take, ef]
    exact Nat.le_trans (Nat.min_le_left _ _) (Nat.sub_le_sub_right (List.length_filter_le _ _) _)
  · rw [if_neg h01]
    rcases years_case hne with ⟨e, _⟩ | ⟨a, a0, a4, ha, e, h50⟩
    · exact absurd e h01
    · unfold ybetw
      rw [if_neg h01, List.length_flatMap]
      have key : ∀ rem, rem ∈ srt ((yearsOf ys).map fun y => y % 100) → 0 ≤ (rem - a) / 4 ∧ (rem - a) / 4 < 25 ∧ rem = a + 4 * ((rem - a) / 4) ∧ (ybR 100 400 (yearsOf ys) ends rem).length ≤ (con (ys.map fun y => y / 4) ((rem - a) / 4)).length - metAt ends ((rem - a) / 4) := fun rem hrem => by
        obtain ⟨y, hy, rfl⟩ := List.mem_map.mp (mem_srt.mp hrem)
        rw [e] at hy
        obtain ⟨f0, hf0, rfl⟩ := List.mem_map.mp hy
        have eg0 : ((a + 4 * f0) % 100 - a) / 4 = f0 % 25 := by omega
        rw [eg0]
        refine ⟨by omega, by omega, by omega, ?_⟩
        have gl : ((yearsOf ys).filter fun z => decide (z % 100 = (a + 4 * f0) % 100)).length = (con (ys.map fun y => y / 4) (f0 % 25)).length := by
          have eg : ((foursOf (ys.map fun y => y / 4)).map fun f => a + 4 * f).filter (fun z => decide (z % 100 = (a + 4 * f0) % 100)) = ((foursOf (ys.map fun y => y / 4)).filter fun f => decide (f % 25 = f0 % 25)).map fun f => a + 4 * f := by
            rw [List.filter_map]
            congr 1
            refine List.filter_congr fun f _ => ?_
            show decide ((a + 4 * f) % 100 = (a + 4 * f0) % 100) = decide (f % 25 = f0 % 25)
            exact decide_eq_decide.mpr ⟨fun h => by omega, fun h => by omega⟩
          rw [e, eg, List.length_map]
          exact (fours_group (ys.map fun y => y / 4) (g := f0 % 25) (by omega) (by omega)).length_eq
        have ee : (ends.filter fun y => decide (y % 100 = (a + 4 * f0) % 100)) = ends.filter fun y => decide (y / 4 % 25 = f0 % 25) := List.filter_congr fun y hy => by
          have := ha y (hs y hy)
          exact decide_eq_decide.mpr ⟨fun h => by omega, fun h => by omega⟩
        unfold ybR metAt
        rw [List.length_take, gl, ee]
        exact Nat.min_le_left _ _
      have nd : ((srt ((yearsOf ys).map fun y => y % 100)).map fun rem => (rem - a) / 4).Nodup := by
        refine List.pairwise_map.mpr (List.Pairwise.imp_of_mem ?_ (srt_nodup _))
        intro x y hx hy hxy z
        have kx := (key x hx).2.2.1
        have ky := (key y hy).2.2.1
        exact hxy (by rw [kx, ky, z])
      have s1 : ((srt ((yearsOf ys).map fun y => y % 100)).map fun rem => (ybR 100 400 (yearsOf ys) ends rem).length).sum ≤ ((srt ((yearsOf ys).map fun y => y % 100)).map fun rem => (con (ys.map fun y => y / 4) ((rem - a) / 4)).length - metAt ends ((rem - a) / 4)).sum := sumF_le fun rem hrem => (key rem hrem).2.2.2
      have s2 := sum_sub (fun g => (con (ys.map fun y => y / 4) g).length - metAt ends g) (L := r25) nd fun g hg => by
        obtain ⟨rem, hrem, rfl⟩ := List.mem_map.mp hg
        exact mem_ints.mpr ⟨(key rem hrem).1, (key rem hrem).2.1⟩
      rw [List.map_map] at s2
      exact Nat.le_trans s1 s2
theorem form_eq {ys ends : List Int} (hne : ys ≠ []) (hs : ∀ e, e ∈ ends → e ∈ ys) (hl : ends.length ≤ 2) : (ybetw (yearsOf ys) ends).length = formR ys ends :=
  Nat.le_antisymm (form_most hne hs) (form_least hne hl fun c => by
    rw [← ybetw_sound hne hs hl c]
    constructor
    · intro h
      exact ⟨fun y hy => h y (List.mem_append_right _ hy), fun y hy => h y (List.mem_append_left _ hy)⟩
    · rintro ⟨h1, h2⟩ y hy
      exact (List.mem_append.mp hy).elim (h2 y) (h1 y))
/-- the visits at one distance -/
def formAt (ks : List Int) (r : Int) : Nat := if sel 12 (srt (sums ks)) r = [] then 0 else formR (sel 12 (srt (sums ks)) r) (endsAt ks r)
theorem betw_sum (ks : List Int) : (betwOf ks).length = (((List.range 12).map fun (i : Nat) => (i : Int)).map (formAt ks)).sum := by
  have e : betwOf ks = (grp (12 : Nat) (srt (sums ks))).flatMap fun x => if x.2 = [] then [] else betwG ks (standG x) := by
    unfold betwOf standOf
    rw [List.flatMap_map]
    exact flat_congr fun x hx => (if_neg (grp_ne _ _ x hx)).symm
  have p := grp_flat (d := 12) (by decide) (srt (sums ks)) (fun x => if x.2 = [] then [] else betwG ks (standG x)) fun r => if_pos rfl
  rw [e, p.length_eq, List.length_flatMap]
  congr 1
  refine List.map_congr_left fun r hr => ?_
  obtain ⟨r0, r1⟩ := mem_ints.mp hr
  show (if sel 12 (srt (sums ks)) r = [] then [] else betwG ks (standG (r, sel 12 (srt (sums ks)) r))).length = formAt ks r
  unfold formAt
  by_cases h : sel 12 (srt (sums ks)) r = []
  · rw [if_pos h, if_pos h]; rfl
  · rw [if_neg h, if_neg h]
    show ((ybetw (yearsOf (sel 12 (srt (sums ks)) r)) (endsAt ks r)).map _).length = _
    rw [List.length_map]
    exact form_eq h (fun e he => ends_sub he) (endsAt_len ks r)

/-! fewest_steps -/
def D_few (K : PySem.W.Frag) (H : Hp) (vs : List V) (z : V) : Prop := ∃ (l : Addr) (ks : List Int), vs = [.ref l] ∧ SqL K H l (ks.map V.int) ∧ ks.length ≤ 900 ∧ z = .int (fewOf ks : Int)
theorem ev_lenEL {σ : L2.St} {H : Hp} {te : TE} {xs : List V} (h : EvL te σ H xs) : Ev (tCB (rLenS K) (tCons te tNil)) σ H (.int (xs.length : Int)) := fun H1 e Q q =>
  f_cb (f_cons (h H1 e _ fun p H2 _ e2 h2 => (ev_lenS (σ := σ) (ta := tC (.ref p)) ev_c (.inl (sq_of h2))) H2 (Ex.refl H2) Q fun H3 e3 => q H3 (e2.trans e3)))
theorem ok_fewest_steps (T : Top K mg) : FnOk P w K mg base CX0 7 T.f_fewest_steps T.fd_fewest_steps ["steps"] (spH (D_few K)) := by
  have G_shortest_list : FnOk P w K mg base CX0 6 T.f_shortest_list T.fd_shortest_list ["steps"] (spHL (D_short K)) := ok_shortest_list T
  refine T.F_fewest_steps.ok sc_fewest_steps (fun vs H Q E h => ?_) (fun cdv A outer s H vs Q E hr h => ?_)
  · obtain ⟨z, ⟨l, ks, rfl, _⟩, _⟩ := h; rfl
  · obtain ⟨z, ⟨l, ks, rfl, hL, hz, rfl⟩, q⟩ := h
    refine ⟨_, (pss_one (ps_ret (pe_callB (r := rLenS K) call_len_seq (by rfl) T.z_len PySem.boot_len (pa_cons (pe_call G_shortest_list (hr.mono (by first | decide | omega)) (by rfl) T.g_shortest_list T.F_shortest_list.kp T.b_shortest_list .nil pass0 (pa_cons (pv 0) pa_nil)) pa_nil)))), ?_⟩
    exact s_ret (ev_is (ev_lenEL (el_callH (ea_cons (ev_var rfl) ea_nil) fun H1 e1 => ⟨l, ks, rfl, ex_l e1 hL, hz, rfl⟩)) (by rw [List.length_map]; rfl)) q
theorem ev_few {σ : L2.St} {H : Hp} {te : TE} {E : XK} {l : Addr} {ks : List Int} (h : Ev te σ H (.ref l)) (hl : H l = some (.lst (ks.map V.int))) (hz : ks.length ≤ 900) : Ev (tCall (spH (D_few K)) [] E (tCons te tNil)) σ H (.int (fewOf ks : Int)) :=
  ev_call (ea_cons h ea_nil) (sv_H fun H1 e1 => ⟨l, ks, rfl, sq_of (e1 _ _ hl), hz, rfl⟩)
theorem ev_fewL {σ : L2.St} {H : Hp} {te : TE} {E : XK} {ks : List Int} (h : EvL te σ H (ks.map V.int)) (hl : ks.length ≤ 900) : Ev (tCall (spH (D_few K)) [] E (tCons te tNil)) σ H (.int (fewOf ks : Int)) := fun H1 e Q q =>
  f_call (f_cons (h H1 e _ fun p H2 _ e2 h2 => f_nil ⟨_, ⟨p, ks, rfl, sq_of h2, hl, rfl⟩, fun H3 e3 => q H3 (e2.trans e3)⟩))

/-! sets of years from 0 to 399 as numbers of 400 bits -/
def bmTo (p : Nat → Bool) : Nat → Nat
  | 0 => 0
  | n + 1 => bmTo p n + if p n = true then 2 ^ n else 0
theorem bmTo_lt (p : Nat → Bool) : ∀ n, bmTo p n < 2 ^ n
  | 0 => Nat.one_pos
  | n + 1 => by
    have ih := bmTo_lt p n
    show bmTo p n + (if p n = true then 2 ^ n else 0) < 2 ^ (n + 1)
    rw [Nat.pow_succ]
    split <;> omega
theorem bmTo_bit (p : Nat → Bool) : ∀ n c, (bmTo p n).testBit c = (decide (c < n) && p c)
  | 0, c => by simp [bmTo]
  | n + 1, c => by
    have ih := bmTo_bit p n c
    show (bmTo p n + if p n = true then 2 ^ n else 0).testBit c = _
    by_cases h : p n = true
    · rw [if_pos h]
      have e : bmTo p n + 2 ^ n = 2 ^ n ||| bmTo p n := by
        have := Nat.two_pow_add_eq_or_of_lt (bmTo_lt p n) 1
        rw [Nat.mul_one] at this
        rw [Nat.add_comm]; exact this
      rw [e, Nat.testBit_or, ih, Nat.testBit_two_pow]
      by_cases hc : c = n
      · subst hc; simp [h]
      · have : ¬ n = c := fun z => hc z.symm
        by_cases hl : c < n
        · simp [this, hl, show c < n + 1 by omega]
        · simp [this, hl, show ¬ c < n + 1 by omega]
    · rw [if_neg h, Nat.add_zero, ih]
      by_cases hc : c = n
      · subst hc; simp [h]
      · by_cases hl : c < n
        · simp [hl, show c < n + 1 by omega]
        · simp [hl, show ¬ c < n + 1 by omega]
theorem bm_ext {p q : Nat → Bool} : bmTo p 400 = bmTo q 400 ↔ ∀ c, c < 400 → p c = q c := by
  constructor
  · intro h c hc
    have := congrArg (fun x => x.testBit c) h
    simp only [bmTo_bit, decide_eq_true hc, Bool.true_and] at this
    exact this
  · intro h
    refine Nat.eq_of_testBit_eq fun c => ?_
    rw [bmTo_bit, bmTo_bit]
    by_cases hc : c < 400
    · rw [h c hc]
    · rw [decide_eq_false hc]; rfl
theorem bm_and (p q : Nat → Bool) : bmTo p 400 &&& bmTo q 400 = bmTo (fun c => p c && q c) 400 := by
  refine Nat.eq_of_testBit_eq fun c => ?_
  rw [Nat.testBit_and, bmTo_bit, bmTo_bit, bmTo_bit]
  cases decide (c < 400) <;> cases p c <;> cases q c <;> rfl
theorem and_nat (x y : Nat) : Builtin.bitAnd (x : Int) (y : Int) = ((x &&& y : Nat) : Int) := by
  unfold Builtin.bitAnd
  rw [decide_eq_true (Int.natCast_nonneg x), decide_eq_true (Int.natCast_nonneg y)]
  rfl
theorem bm_sum (p : Nat → Bool) : ∀ n, (((List.range n).filter p).map fun c => (1 : Int) * 2 ^ c).sum = (bmTo p n : Int)
  | 0 => rfl
  | n + 1 => by
    have ih := bm_sum p n
    rw [List.range_succ, List.filter_append, List.map_append, List.sum_append, ih]
    show (bmTo p n : Int) + _ = ((bmTo p n + if p n = true then 2 ^ n else 0 : Nat) : Int)
    by_cases h : p n = true
    · rw [if_pos h, List.filter_cons_of_pos h]
      simp
    · rw [if_neg h, List.filter_cons_of_neg h]
      simp
theorem bm_full : (1 : Int) * 2 ^ 400 - 1 = (bmTo (fun _ => true) 400 : Int) := by
  have e : bmTo (fun _ => true) 400 = 2 ^ 400 - 1 := Nat.eq_of_testBit_eq fun c => by
    rw [bmTo_bit, Nat.testBit_two_pow_sub_one, Bool.and_true]
  rw [e]; rfl
/-- the starts from 0 to 399 from which all these years are leap years -/
def jn (Y : List Int) : Nat := bmTo (fun c => Y.all fun y => isLeap (y + (c : Int))) 400
def mk1 (y : Int) : Nat := bmTo (fun c => isLeap (y + (c : Int))) 400
theorem leap_400 (y c : Int) : isLeap (y % 400 + c) = isLeap (y + c) := by
  rw [Int.add_comm (y % 400), Int.add_comm y, Bool.eq_iff_iff, leap_iff, leap_iff]; omega
theorem mk1_400 (y : Int) : mk1 (y % 400) = mk1 y := by
  unfold mk1
  congr 1
  funext c
  exact leap_400 y c
theorem jn_nil : jn [] = bmTo (fun _ => true) 400 := rfl
theorem jn_snoc (Y : List Int) (y : Int) : jn Y &&& mk1 y = jn (Y ++ [y]) := by
  unfold jn mk1
  rw [bm_and]
  congr 1
  funext c
  simp
theorem jn_eq {Y Z : List Int} : jn Y = jn Z ↔ ∀ c : Int, (∀ y, y ∈ Y → isLeap (c + y) = true) ↔ ∀ y, y ∈ Z → isLeap (c + y) = true := by
  unfold jn
  rw [bm_ext]
  have at_ : ∀ (Y : List Int) (c : Nat), (Y.all fun y => isLeap (y + (c : Int))) = true ↔ ∀ y, y ∈ Y → isLeap ((c : Int) + y) = true := fun Y c => by
    rw [List.all_eq_true]
    exact ⟨fun h y hy => by rw [Int.add_comm]; exact h y hy, fun h y hy => by rw [Int.add_comm]; exact h y hy⟩
  constructor
  · intro h c
    have e := h (c % 400).toNat (by omega)
    have z : (((c % 400).toNat : Nat) : Int) = c % 400 := by omega
    have l := at_ Y (c % 400).toNat
    have r := at_ Z (c % 400).toNat
    rw [e, z] at l
    rw [z] at r
    have p : ∀ (Y : List Int), (∀ y, y ∈ Y → isLeap (c % 400 + y) = true) ↔ ∀ y, y ∈ Y → isLeap (c + y) = true := fun Y => ⟨fun h y hy => by rw [← leap_400]; exact h y hy, fun h y hy => by rw [leap_400]; exact h y hy⟩
    rw [← p Y, ← p Z]
    exact l.symm.trans r
  · intro h c _
    rw [Bool.eq_iff_iff, at_, at_]
    exact h c
theorem jn_sub {Y : List Int} {y : Int} : jn Y &&& mk1 y = jn Y ↔ ∀ c : Nat, c < 400 → (Y.all fun y => isLeap (y + (c : Int))) = true → isLeap (y + (c : Int)) = true := by
  unfold jn mk1
  rw [bm_and, bm_ext]
  constructor
  · intro h c hc a
    have := h c hc
    rw [a, Bool.true_and] at this
    exact this
  · intro h c hc
    cases a : (Y.all fun y => isLeap (y + (c : Int))) with
    | false => rfl
    | true => rw [h c hc a]; rfl
/-! how many years more are needed -/
theorem need_le {ys ends zs : List Int} (hne : ys ≠ []) (hl : ends.length ≤ 2) (h : jn (ends ++ zs) = jn ys) : formR ys ends ≤ zs.length := form_least hne hl (jn_eq.mp h)
theorem need_is {ys ends : List Int} (hne : ys ≠ []) (hs : ∀ e, e ∈ ends → e ∈ ys) (hl : ends.length ≤ 2) : ∃ zs : List Int, zs.length = formR ys ends ∧ jn (ends ++ zs) = jn ys :=
  ⟨ybetw (yearsOf ys) ends, form_eq hne hs hl, jn_eq.mpr fun c => by
    rw [← ybetw_sound hne hs hl c]
    constructor
    · intro h
      exact ⟨fun y hy => h y (List.mem_append_right _ hy), fun y hy => h y (List.mem_append_left _ hy)⟩
    · rintro ⟨h1, h2⟩ y hy
      exact (List.mem_append.mp hy).elim (h2 y) (h1 y)⟩
def needN (ys ends : List Int) : Nat := min (formR ys ends) 3
/-- the masks that may be used -/
def Uses (W : Nat) (S : List Int) : Prop := (∀ k, k ∈ S → ∃ y : Int, k = (mk1 y : Int) ∧ W &&& mk1 y = W) ∧ ∀ y : Int, W &&& mk1 y = W → (mk1 y : Int) ∈ S
theorem need0 {ys ends : List Int} (hne : ys ≠ []) (hl : ends.length ≤ 2) (h : jn ends = jn ys) : needN ys ends = 0 := by
  have := need_le (zs := []) hne hl (by rw [List.append_nil]; exact h)
  unfold needN
  have : ([] : List Int).length = 0 := rfl
  omega
theorem need_sub {Y : List Int} {y : Int} (Z : List Int) (h : jn (Z ++ [y]) = jn Y) : jn Y &&& mk1 y = jn Y := by
  rw [← h, ← jn_snoc]
  refine Nat.eq_of_testBit_eq fun c => ?_
  rw [Nat.testBit_and, Nat.testBit_and]
  cases (jn Z).testBit c <;> cases (mk1 y).testBit c <;> rfl
theorem need1 {ys ends : List Int} {S : List Int} (hU : Uses (jn ys) S) (hne : ys ≠ []) (hs : ∀ e, e ∈ ends → e ∈ ys) (hl : ends.length ≤ 2) (h0 : jn ends ≠ jn ys) {k : Int} (hk : k ∈ S) (h : Builtin.bitAnd (jn ends : Int) k = (jn ys : Int)) : needN ys ends = 1 := by
  obtain ⟨y, rfl, _⟩ := hU.1 k hk
  rw [and_nat, jn_snoc] at h
  have a := need_le (zs := [y]) hne hl (Int.ofNat.inj h)
  have b : formR ys ends ≠ 0 := fun z => by
    obtain ⟨zs, e, hz⟩ := need_is hne hs hl
    rw [z] at e
    rw [List.length_eq_zero_iff.mp e, List.append_nil] at hz
    exact h0 hz
  unfold needN
  have : ([y] : List Int).length = 1 := rfl
  omega
theorem need_not1 {ys ends : List Int} {S : List Int} (hU : Uses (jn ys) S) (hne : ys ≠ []) (hs : ∀ e, e ∈ ends → e ∈ ys) (hl : ends.length ≤ 2) (h0 : jn ends ≠ jn ys) (h : ∀ k, k ∈ S → Builtin.bitAnd (jn ends : Int) k ≠ (jn ys : Int)) : 2 ≤ formR ys ends := by
  obtain ⟨zs, e, hz⟩ := need_is hne hs hl
  match zs, e with
  | [], e => rw [List.append_nil] at hz; exact absurd hz h0
  | [z], e =>
    refine absurd ?_ (h _ (hU.2 z (need_sub ends hz)))
    rw [and_nat, jn_snoc, hz]
  | z :: u :: r, e => rw [← e]; simp
theorem need2 {ys ends : List Int} {S : List Int} (hU : Uses (jn ys) S) (hne : ys ≠ []) (hl : ends.length ≤ 2) (h2 : 2 ≤ formR ys ends) {j k : Int} (hj : j ∈ S) (hk : k ∈ S) (h : Builtin.bitAnd (Builtin.bitAnd (jn ends : Int) j) k = (jn ys : Int)) : needN ys ends = 2 := by
  obtain ⟨x, rfl, _⟩ := hU.1 j hj
  obtain ⟨y, rfl, _⟩ := hU.1 k hk
  rw [and_nat, jn_snoc, and_nat, jn_snoc, List.append_assoc] at h
  have a := need_le (zs := [x, y]) hne hl (Int.ofNat.inj h)
  have : ([x, y] : List Int).length = 2 := rfl
  unfold needN
  omega
theorem need_sub2 {Y : List Int} {x y : Int} (Z : List Int) (h : jn (Z ++ [x, y]) = jn Y) : jn Y &&& mk1 x = jn Y := by
  have e : jn (Z ++ [x, y]) = (jn Z &&& mk1 x) &&& mk1 y := by rw [jn_snoc, jn_snoc, List.append_assoc]; rfl
  rw [← h, e]
  refine Nat.eq_of_testBit_eq fun c => ?_
  rw [Nat.testBit_and, Nat.testBit_and, Nat.testBit_and]
  cases (jn Z).testBit c <;> cases (mk1 x).testBit c <;> cases (mk1 y).testBit c <;> rfl
theorem need3 {ys ends : List Int} {S : List Int} (hU : Uses (jn ys) S) (hne : ys ≠ []) (hs : ∀ e, e ∈ ends → e ∈ ys) (hl : ends.length ≤ 2) (h2 : 2 ≤ formR ys ends) (h : ∀ j, j ∈ S → ∀ k, k ∈ S → Builtin.bitAnd (Builtin.bitAnd (jn ends : Int) j) k ≠ (jn ys : Int)) : needN ys ends = 3 := by
  obtain ⟨zs, e, hz⟩ := need_is hne hs hl
  unfold needN
  match zs, e with
  | [], e => rw [← e] at h2; exact absurd h2 (by decide)
  | [z], e => rw [← e] at h2; exact absurd h2 (by simp)
  | [x, y], e =>
    refine absurd ?_ (h _ (hU.2 x (need_sub2 ends hz)) _ (hU.2 y (need_sub (ends ++ [x]) (by rw [List.append_assoc]; exact hz))))
    rw [and_nat, jn_snoc, and_nat, jn_snoc, List.append_assoc]
    exact congrArg Int.ofNat hz
  | x :: y :: z :: r, e =>
    have : (x :: y :: z :: r).length = r.length + 3 := by simp
    omega
/-- where no start is left, two years do from any first one -/
theorem two_do {ends : List Int} {S : List Int} (hU : Uses 0 S) {j : Int} (hj : j ∈ S) : ∃ k, k ∈ S ∧ Builtin.bitAnd (Builtin.bitAnd (jn ends : Int) j) k = 0 := by
  obtain ⟨y, rfl, _⟩ := hU.1 j hj
  refine ⟨(mk1 (y + 1) : Int), hU.2 _ (Nat.zero_and _), ?_⟩
  rw [and_nat, jn_snoc, and_nat, jn_snoc]
  have e : jn (ends ++ [y] ++ [y + 1]) = 0 := by
    refine Nat.eq_of_testBit_eq fun c => ?_
    unfold jn
    rw [bmTo_bit, Nat.zero_testBit]
    cases a : ((ends ++ [y] ++ [y + 1]).all fun y => isLeap (y + (c : Int))) with
    | false => rw [Bool.and_false]
    | true =>
      rw [List.all_eq_true] at a
      have a1 := ((leap_iff _).mp (a y (by simp))).1
      have a2 := ((leap_iff _).mp (a (y + 1) (by simp))).1
      omega
  rw [e]; rfl
/-- else there are few -/
def passing (W : Nat) (n : Nat) : Nat := ((List.range n).filter fun y : Nat => decide (W &&& mk1 (y : Int) = W)).length
theorem pass_few {Y : List Int} (h : jn Y ≠ 0) : passing (jn Y) 400 ≤ 100 := by
  obtain ⟨c, hc⟩ : ∃ c, (jn Y).testBit c = true := Classical.byContradiction fun z => h (Nat.eq_of_testBit_eq fun c => by
    rw [Nat.zero_testBit]
    cases e : (jn Y).testBit c with
    | false => rfl
    | true => exact absurd ⟨c, e⟩ z)
  have hc2 : c < 400 ∧ (Y.all fun y => isLeap (y + (c : Int))) = true := by
    unfold jn at hc
    rw [bmTo_bit, Bool.and_eq_true] at hc
    exact ⟨of_decide_eq_true hc.1, hc.2⟩
  have sub : ∀ y : Nat, decide (jn Y &&& mk1 (y : Int) = jn Y) = true → decide ((y + c) % 4 = 0) = true := fun y hy => by
    have := ((leap_iff _).mp (jn_sub.mp (of_decide_eq_true hy) c hc2.1 hc2.2)).1
    exact decide_eq_true (by omega)
  have all : ∀ d, d < 4 → ((List.range 400).filter fun y : Nat => decide ((y + d) % 4 = 0)).length ≤ 100 := by decide +kernel
  have e : ((List.range 400).filter fun y : Nat => decide ((y + c) % 4 = 0)) = (List.range 400).filter fun y : Nat => decide ((y + c % 4) % 4 = 0) := List.filter_congr fun y _ => decide_eq_decide.mpr ⟨fun h => by omega, fun h => by omega⟩
  have mono : passing (jn Y) 400 ≤ ((List.range 400).filter fun y : Nat => decide ((y + c) % 4 = 0)).length := by
    unfold passing
    have gen : ∀ l : List Nat, (l.filter fun y : Nat => decide (jn Y &&& mk1 (y : Int) = jn Y)).length ≤ (l.filter fun y : Nat => decide ((y + c) % 4 = 0)).length := fun l => by
      induction l with
      | nil => exact Nat.le_refl _
      | cons y l ih =>
        by_cases hy : decide (jn Y &&& mk1 (y : Int) = jn Y) = true
        · rw [List.filter_cons_of_pos (p := fun y : Nat => decide (jn Y &&& mk1 (y : Int) = jn Y)) hy, List.filter_cons_of_pos (p := fun y : Nat => decide ((y + c) % 4 = 0)) (sub y hy), List.length_cons, List.length_cons]; omega
        · rw [List.filter_cons_of_neg (p := fun y : Nat => decide (jn Y &&& mk1 (y : Int) = jn Y)) hy]
          refine Nat.le_trans ih ?_
          by_cases hz : decide ((y + c) % 4 = 0) = true
          · rw [List.filter_cons_of_pos (p := fun y : Nat => decide ((y + c) % 4 = 0)) hz, List.length_cons]; omega
          · rw [List.filter_cons_of_neg (p := fun y : Nat => decide ((y + c) % 4 = 0)) hz]; exact Nat.le_refl _
    exact gen _
  rw [e] at mono
  exact Nat.le_trans mono (all (c % 4) (by omega))
theorem pass_le (W n : Nat) : passing W n ≤ n := by
  unfold passing
  have := List.length_filter_le (fun y : Nat => decide (W &&& mk1 (y : Int) = W)) (List.range n)
  rw [List.length_range] at this
  exact this
theorem pass_succ (W n : Nat) : passing W (n + 1) = passing W n + if W &&& mk1 (n : Int) = W then 1 else 0 := by
  unfold passing
  rw [List.range_succ, List.filter_append, List.length_append]
  congr 1
  by_cases h : W &&& mk1 (n : Int) = W
  · rw [if_pos h, List.filter_cons_of_pos (by rw [decide_eq_true h])]; rfl
  · rw [if_neg h, List.filter_cons_of_neg (by rw [decide_eq_false h]; decide)]; rfl

/-! the law's search for the fewest years more -/
def dedAdd (ns : List Int) (x : Int) : List Int := if x ∈ ns then ns else ns ++ [x]
theorem mem_ded {ns : List Int} {x y : Int} : y ∈ dedAdd ns x ↔ y ∈ ns ∨ y = x := by
  unfold dedAdd
  by_cases h : x ∈ ns
  · rw [if_pos h]; exact ⟨.inl, fun z => z.elim id fun e => e ▸ h⟩
  · rw [if_neg h, List.mem_append, List.mem_singleton]
theorem ded_len (ns : List Int) (x : Int) : (dedAdd ns x).length ≤ ns.length + 1 := by
  unfold dedAdd
  split
  · omega
  · rw [List.length_append]; exact Nat.le_refl _
def boolD (ns : List Int) : List (Key × V) := ns.map fun n => ((.inl n : Key), V.bl true)
theorem put_ded (ns : List Int) (x : Int) : putK (boolD ns) (.inl x : Key) (.bl true) = boolD (dedAdd ns x) := by
  unfold putK dedAdd
  by_cases h : x ∈ ns
  · rw [if_pos h, if_pos]
    · unfold boolD
      rw [List.map_map]
      refine List.map_congr_left fun n _ => ?_
      show (if (Sum.inl n : Key) = Sum.inl x then ((Sum.inl n : Key), V.bl true) else (Sum.inl n, V.bl true)) = _
      split <;> rfl
    · unfold boolD
      rw [List.any_eq_true]
      exact ⟨_, List.mem_map.mpr ⟨x, h, rfl⟩, decide_eq_true rfl⟩
  · rw [if_neg h, if_neg]
    · unfold boolD; rw [List.map_append]; rfl
    · intro z
      unfold boolD at z
      rw [List.any_eq_true] at z
      obtain ⟨y, hy, e⟩ := z
      obtain ⟨n, hn, rfl⟩ := List.mem_map.mp hy
      have e2 : (Sum.inl n : Key) = Sum.inl x := of_decide_eq_true e
      exact h (Sum.inl.inj e2 ▸ hn)
theorem boolD_keys (ns : List Int) : (boolD ns).map (fun kv => kV kv.1) = ns.map V.int := by
  unfold boolD; rw [List.map_map]; rfl
theorem boolD_len (ns : List Int) : (boolD ns).length = ns.length := by unfold boolD; rw [List.length_map]
theorem ne_of_none' {H : Hp} {a b : Addr} {k : List (Key × V)} {l : List V} (h : H a = some (.dK k)) (g : H b = some (.lst l)) : a ≠ b := fun z => by rw [z, g] at h; cases h
/-- locked, or locked already -/
def tFrzM (te : TE) : TE := fun σ H Q => te σ H fun x H1 => ∃ (d : Addr) (u : HO), x = .ref d ∧ ((H1 d = some u ∧ Mut (some u) ∧ ∀ od, Q x (upd H1 d (.frz od u))) ∨ ∃ od, H1 d = some (.frz od u) ∧ Q x H1)
theorem pe_frzM {X : Cx} {e : Expr} {te : TE} (h : PE X e te) : PE X e (tFrzM te) := ⟨fun pins s σ H Q I hw => thn (h.run pins s σ H _ I hw) fun v s1 ⟨x, H1, I1, r, d, u, ex, hq⟩ => by
  rcases hq with ⟨hd, mu, q⟩ | ⟨od, _, q⟩
  · obtain ⟨od, I2⟩ := I1.lock hd mu
    exact ⟨x, _, I2, r, q od⟩
  · exact ⟨x, H1, I1, r, q⟩⟩
theorem f_frzM {σ : L2.St} {H : Hp} {Q : VK} {j : Nat} {d : Addr} {kvs : List (Key × V)} (hv : σ[j]? = some (some (.ref d))) (hd : H d = some (.dK kvs) ∨ ∃ od, H d = some (.frz od (.dK kvs)))
    (q : ∀ od U, U d = some (.frz od (.dK kvs)) → (∀ b o, b ≠ d → H b = some o → U b = some o) → (∀ H0, Ex H0 H → H0 d = none → Ex H0 U) → Q (.ref d) U) : tFrzM (tVar j) σ H Q :=
  f_var hv ⟨d, .dK kvs, rfl, by
    rcases hd with hd | ⟨od, hd⟩
    · exact .inl ⟨hd, trivial, fun od => q od _ upd_same (fun b o n h => by rw [upd_ne n]; exact h) fun H0 e n => e.mut n⟩
    · exact .inr ⟨od, hd, q od H hd (fun b o _ h => h) fun H0 e _ => e⟩⟩
theorem f_forKC {σ : L2.St} {H : Hp} {td : TE} {g : TG} {tu : TS} {D : Ends} (h : td σ H fun x H1 => tFor (iKeys (tC x)) g tu D σ H1) : tFor (iKeys td) g tu D σ H := h
/-- for over a locked dict's keys -/
theorem s_forKeys {σ : L2.St} {H : Hp} {tu : TS} {D : Ends} {j : Nat} {d : Addr} {o : Obj} {kvs : List (Key × V)} (hd : H d = some (.frz o (.dK kvs))) (I : Nat → L2.St → Hp → Prop) (h0 : I 0 σ H) (hf : ∀ i τ U, I i τ U → U d = some (.frz o (.dK kvs)))
    (hs : ∀ i k w τ U, kvs[i]? = some (k, w) → I i τ U → tu { D with nx := I (i + 1), ct := I (i + 1), bk := D.nx } (τ.set j (some (kV k))) U) (hn : ∀ τ U, I kvs.length τ U → D.nx τ U) : tFor (iKeys (tC (.ref d))) (gName j) tu D σ H := by
  refine ⟨d, o, rfl, .inl ⟨kvs, hd, fun i m τ U => m = kvs.length - i ∧ i ≤ kvs.length ∧ I i τ U, ⟨_, rfl, Nat.zero_le _, h0⟩, ?_⟩⟩
  rintro i m τ U ⟨rfl, hi, p⟩
  by_cases hlt : i < kvs.length
  · refine .inr ⟨⟨hf i τ U p, hlt⟩, I (i + 1), fun τ' U' z => ⟨kvs.length - (i + 1), by omega, rfl, hlt, z⟩, ?_⟩
    rintro x U' ⟨rfl, k, v, hkv, rfl⟩
    exact hs i k v τ U' hkv p
  · obtain rfl : i = kvs.length := by omega
    exact .inl ⟨⟨hf _ τ U p, Nat.le_refl _⟩, hn τ U p⟩
theorem boolD_at {ns : List Int} {i : Nat} {k : Key} {v : V} (h : (boolD ns)[i]? = some (k, v)) : ∃ n, k = .inl n ∧ ns[i]? = some n := by
  unfold boolD at h
  rw [List.getElem?_map] at h
  obtain ⟨n, hn, e⟩ := Option.map_eq_some_iff.mp h
  cases e
  exact ⟨n, rfl, hn⟩
def masksL : List Int := (List.range 400).map fun y : Nat => (mk1 (y : Int) : Int)
theorem masks_at {y : Nat} (h : y < 400) : (masksL.map V.int)[y]? = some (.int (mk1 (y : Int) : Int)) := by
  unfold masksL
  rw [List.getElem?_map, List.getElem?_map, List.getElem?_range h]; rfl
theorem masks_ix (y : Int) : atI (masksL.map V.int) (y % 400) = some (.int (mk1 y : Int)) := by
  have h0 : 0 ≤ y % 400 ∧ y % 400 < 400 := by omega
  rw [← mk1_400 y]
  generalize y % 400 = z at h0
  obtain ⟨j, rfl⟩ : ∃ j : Nat, z = (j : Int) := ⟨z.toNat, by omega⟩
  exact atI_nat (masks_at (by omega))
theorem masks_len : masksL.length = 400 := by unfold masksL; rw [List.length_map, List.length_range]
def D_masks (H : Hp) (vs xs : List V) : Prop := vs = [] ∧ xs = masksL.map V.int
theorem ok_law_masks (T : Top K mg) : FnOk P w K mg base CX0 2 T.f_law_masks T.fd_law_masks [] (spHL D_masks) := by
  have G_law_is_leap : FnOk P w K mg base CX0 1 T.f_law_is_leap T.fd_law_is_leap ["year"] (spF D_isleap) := ok_law_is_leap T
  refine T.F_law_masks.ok sc_law_masks (fun vs H Q E h => ?_) (fun cdv A outer s H vs Q E hr h => ?_)
  · obtain ⟨z, ⟨rfl, _⟩, _⟩ := h; rfl
  · obtain ⟨z, ⟨rfl, rfl⟩, q⟩ := h
    refine ⟨_, (pss_cons (ps_set (i := 0) sc_law_masks.nd rfl (Or.inl rfl) (pe_lst pa_nil))
      (pss_cons (ps_for PassesOwn.never rfl (pi_range1 (by rfl) T.z_range (pa_cons pe_int pa_nil)) (pg_name (i := 1) sc_law_masks.nd rfl (Or.inr rfl)) (pss_one (ps_expr (pe_bm PySem.F.plainAttrs_list PySem.F.slot_list_append PySem.F.type_list_append mt_append (pv 0) (pa_cons (pe_callB (r := rSum K) (cr_sum rfl) (by rfl) T.z_sum (by decide +kernel) (pa_cons (pe_lc (own := [("other", 2)]) (g := gName 2)  rfl sc_law_masks.nd (pi_range1 (by rfl) T.z_range (pa_cons pe_int pa_nil)) (blkOk_by (own := [("other", 2)]) (N := ["found", "year", "other"]) (sc := defScope s_law_masks) (by decide +kernel)) (fun _ _ _ _ _ => (pg_name (i := 2) sc_law_masks.nd rfl (Or.inl rfl))) (fun _ _ _ _ _ => (pts_one (pt_val (pe_call G_law_is_leap (hr.mono (by first | decide | omega)) (by rfl) T.g_law_is_leap T.F_law_is_leap.kp T.b_law_is_leap .nil pass0 (pa_cons (pe_op op_add (pv 1) (pv 2)) pa_nil))))) (fun _ _ _ _ _ => (pe_op op_shl pe_int (pv 2)))) pa_nil)) pa_nil)))))
      (pss_one (ps_ret (pv 0))))), ?_⟩
    with_reducible refine f_seq ?_
    refine s_asgL (el_lst ea_nil (Nat.zero_le _)) fun pf H1 npf e1 h1 => ?_
    with_reducible refine f_seq ?_
    refine s_forR1 (n := 400) (ea_cons ev_c ea_nil) ⟨by decide, by decide⟩ (fun i τ U => ∃ v1 : Option V, τ = [some (.ref pf), v1, none] ∧ Ex H U ∧ U pf = some (.lst (((List.range i).map fun y : Nat => (mk1 (y : Int) : Int)).map V.int))) (fun H2 e2 => ⟨none, rfl, e1.trans e2, e2 _ _ h1⟩) (fun i τ U hi ⟨v1, hτ, e, hU⟩ => ?_) fun τ U ⟨v1, hτ, e, hU⟩ => ?_
    · subst hτ
      have hi' : i < 400 := by omega
      refine s_app (v := .int (mk1 (i : Int) : Int)) hU (ev_var rfl) (ev_is (ev_sumL (ns := ((List.range 400).filter fun c : Nat => isLeap ((i : Int) + (c : Int))).map fun c : Nat => (1 : Int) * 2 ^ c) (EvL.is (el_lcR1 (n := 400) (fun c => isLeap ((i : Int) + (c : Int))) (fun c => .int ((1 : Int) * 2 ^ c)) (ea_cons ev_c ea_nil) (by decide) (fun _ => rfl) (fun c U1 _ _ => et_B (ev_call (ea_cons (ev_op (ev_var rfl) (ev_var rfl) rv_I0) ea_nil) (sv_F ⟨_, rfl, rfl⟩))) fun c U1 _ hc _ => ev_op ev_c (ev_var rfl) (rv_I (C := CPow) ⟨by omega, by omega, by decide⟩)) (by unfold given; rw [List.map_map]; rfl))) (congrArg V.int (bm_sum (fun c => isLeap ((i : Int) + (c : Int))) 400))) (by rw [List.length_map, List.length_map, List.length_range]; omega) fun H3 e3 => ?_
      exact ⟨_, rfl, (e.trans e3).mut npf, by rw [upd_same, List.range_succ, List.map_append, List.map_append]; rfl⟩
    · subst hτ
      with_reducible refine f_ret ?_
      exact f_var rfl (q pf U npf e hU)
def D_joined (K : PySem.W.Frag) (H : Hp) (vs : List V) (z : V) : Prop := ∃ (m p : Addr) (Y : List Int), vs = [.ref m, .ref p] ∧ SqL K H m (masksL.map V.int) ∧ SqL K H p (Y.map V.int) ∧ z = .int (jn Y : Int)
theorem ok_law_joined (T : Top K mg) : FnOk P w K mg base CX0 1 T.f_law_joined T.fd_law_joined ["masks", "years"] (spH (D_joined K)) := by
  refine T.F_law_joined.ok sc_law_joined (fun vs H Q E h => ?_) (fun cdv A outer s H vs Q E hr h => ?_)
  · obtain ⟨z, ⟨m, p, Y, rfl, _⟩, _⟩ := h; rfl
  · obtain ⟨z, ⟨m, p, Y, rfl, hM, hP, rfl⟩, q⟩ := h
    refine ⟨_, (pss_cons (ps_set (i := 2) sc_law_joined.nd rfl (Or.inl rfl) (pe_op op_sub (pe_op op_shl pe_int pe_int) pe_int))
      (pss_cons (ps_for PassesOwn.never rfl (pi_list (pv 1)) (pg_name (i := 3) sc_law_joined.nd rfl (Or.inl rfl)) (pss_one (ps_set (i := 2) sc_law_joined.nd rfl (Or.inl rfl) (pe_op op_and (pv 2) (pe_ix (r := rIxL K) ix_list (pv 0) (pe_op op_mod (pv 3) pe_int) (fun _ _ => rfl))))))
      (pss_one (ps_ret (pv 2))))), ?_⟩
    with_reducible refine f_seq ?_
    refine s_asg (v := .int (jn [] : Int)) (ev_is (ev_op (ev_op ev_c ev_c (rv_I (C := CPow) ⟨by decide, by decide, by decide⟩)) ev_c rv_I0) (congrArg V.int (by rw [jn_nil, ← bm_full]; rfl))) fun H1 e1 => ?_
    with_reducible refine f_seq ?_
    refine s_forLn (xs := Y.map V.int) (ev_var rfl) (ex_l e1 hP) (fun i τ U => ∃ v3 : Option V, τ = [some (.ref m), some (.ref p), some (.int (jn (Y.take i) : Int)), v3] ∧ Ex H U) (fun U x => ⟨none, rfl, e1.trans x⟩) (fun i τ U _ ⟨_, _, e⟩ => ex_l e hP) (fun i x τ U hx ⟨v3, hτ, e⟩ => ?_) fun τ U ⟨v3, hτ, e⟩ => ?_
    · subst hτ
      obtain ⟨y, rfl, hy⟩ := int_of_map hx
      refine s_asg (v := .int (jn (Y.take (i + 1)) : Int)) (ev_is (ev_op (ev_var rfl) (ev_op (ev_var rfl) (ev_op (ev_var rfl) ev_c (rv_mod (by decide))) (rv_ixL (ex_l e hM) (masks_ix y))) rv_I0) (congrArg V.int (by rw [and_nat, jn_snoc, List.take_add_one, hy]; rfl))) fun H2 e2 => ⟨_, rfl, e.trans e2⟩
    · subst hτ
      rw [List.length_map, List.take_length]
      with_reducible refine f_ret ?_
      exact f_var rfl (q U e)
/-! the layers -/
structure Lay (ys ends : List Int) (S : List Int) (i : Nat) (L : List Int) : Prop where
  ret : ∀ v, v ∈ L → ∀ k, k ∈ S → Builtin.bitAnd v k = (jn ys : Int) → (needN ys ends : Int) = (i : Int) + 1
  go : (∀ v, v ∈ L → ∀ k, k ∈ S → Builtin.bitAnd v k ≠ (jn ys : Int)) → (i = 0 → 2 ≤ formR ys ends) ∧ (i = 1 → needN ys ends = 3)
  ends : i = 0 → L = [(jn ends : Int)]
  size : L.length * S.length ≤ 99000 ∨ (S.length ≤ 400 ∧ ∀ v, v ∈ L → ∃ k, k ∈ S ∧ Builtin.bitAnd v k = (jn ys : Int))
theorem lay0 {ys es S : List Int} (hU : Uses (jn ys) S) (hne : ys ≠ []) (hs : ∀ e, e ∈ es → e ∈ ys) (hl : es.length ≤ 2) (h0 : jn es ≠ jn ys) (hz : S.length ≤ 400) : Lay ys es S 0 [(jn es : Int)] := by
  refine ⟨fun v hv k hk e => ?_, fun h => ⟨fun _ => need_not1 hU hne hs hl h0 fun k hk => h _ (List.mem_cons_self ..) k hk, fun z => nomatch z⟩, fun _ => rfl, .inl (by simp; omega)⟩
  rw [List.mem_singleton.mp hv] at e
  rw [need1 hU hne hs hl h0 hk e]; rfl
theorem lay1 {ys es S L : List Int} (hU : Uses (jn ys) S) (hne : ys ≠ []) (hs : ∀ e, e ∈ es → e ∈ ys) (hl : es.length ≤ 2) (h2 : 2 ≤ formR ys es) (hz : S.length ≤ passing (jn ys) 400) (hL : L.length ≤ S.length) (h1 : ∀ v, v ∈ L → ∃ k, k ∈ S ∧ v = Builtin.bitAnd (jn es : Int) k) (h1' : ∀ k, k ∈ S → Builtin.bitAnd (jn es : Int) k ∈ L) : Lay ys es S 1 L := by
  have hz4 := Nat.le_trans hz (pass_le _ _)
  refine ⟨fun v hv k hk e => ?_, fun h => ⟨fun z => (nomatch z), fun _ => need3 hU hne hs hl h2 fun j hj k hk => h _ (h1' j hj) k hk⟩, fun z => (nomatch z), ?_⟩
  · obtain ⟨j, hj, rfl⟩ := h1 v hv
    rw [need2 hU hne hl h2 hj hk e]; rfl
  · by_cases hW : jn ys = 0
    · refine .inr ⟨hz4, fun v hv => ?_⟩
      obtain ⟨j, hj, rfl⟩ := h1 v hv
      rw [hW] at hU ⊢
      exact two_do hU hj
    · have := Nat.le_trans hz (pass_few hW)
      exact .inl (Nat.le_trans (Nat.mul_le_mul (Nat.le_trans hL this) this) (by decide))
def D_extra14 (K : PySem.W.Frag) (H : Hp) (vs : List V) (z : V) : Prop := ∃ (m p : Addr) (ys es : List Int), vs = [.ref m, .int (jn ys : Int), .ref p] ∧ SqL K H m (masksL.map V.int) ∧ SqL K H p (es.map V.int) ∧ ys ≠ [] ∧ (∀ e, e ∈ es → e ∈ ys) ∧ es.length ≤ 2 ∧ z = .int (needN ys es : Int)
theorem ok_law_extra (T : Top K mg) : FnOk P w K mg base CX0 2 T.f_law_extra T.fd_law_extra ["masks", "wanted", "present"] (spH (D_extra14 K)) := by
  have G_law_joined : FnOk P w K mg base CX0 1 T.f_law_joined T.fd_law_joined ["masks", "years"] (spH (D_joined K)) := ok_law_joined T
  refine T.F_law_extra.ok sc_law_extra (fun vs H Q E h => ?_) (fun cdv A outer s H vs Q E hr h => ?_)
  · obtain ⟨z, ⟨m, p, ys, es, rfl, _⟩, _⟩ := h; rfl
  · obtain ⟨z, ⟨m, p, ys, es, rfl, hM, hP, hne, hs, hl, rfl⟩, q⟩ := h
    refine ⟨_, (pss_cons (ps_set (i := 3) sc_law_extra.nd rfl (Or.inl rfl) pe_dnewK)
      (pss_cons (ps_for PassesOwn.never rfl (pi_list (pv 0)) (pg_name (i := 4) sc_law_extra.nd rfl (Or.inl rfl)) (pss_one (ps_if (pt_cmpR op_eq (pe_op op_and (pv 1) (pv 4)) (pv 1) (nomark _)) (pss_one (ps_dput (hu_of hr) (pv 3) (pv 4) pe_bl rfl)) pss_nil)))
      (pss_cons (ps_set (i := 5) sc_law_extra.nd rfl (Or.inl rfl) (pe_lst (pa_cons (pe_call G_law_joined (hr.mono (by first | decide | omega)) (by rfl) T.g_law_joined T.F_law_joined.kp T.b_law_joined .nil pass0 (pa_cons (pv 0) (pa_cons (pv 2) pa_nil))) pa_nil)))
      (pss_cons (ps_if (pt_cmpR (r := rEqD K) (op_eqD hr.units) (pv 5) (pe_lst (pa_cons (pv 1) pa_nil)) (nomark _)) (pss_one (ps_ret pe_int)) pss_nil)
      (pss_cons (ps_for PassesOwn.never rfl (pi_range1 (by rfl) T.z_range (pa_cons pe_int pa_nil)) (pg_name (i := 6) sc_law_extra.nd rfl (Or.inl rfl)) (pss_cons (ps_set (i := 7) sc_law_extra.nd rfl (Or.inl rfl) pe_dnewK)
      (pss_cons (ps_for PassesOwn.never rfl (pi_list (pv 5)) (pg_name (i := 8) sc_law_extra.nd rfl (Or.inl rfl)) (pss_one (ps_for PassesOwn.never rfl (pi_keys (pe_frzM (pv 3))) (pg_name (i := 4) sc_law_extra.nd rfl (Or.inl rfl)) (pss_cons (ps_if (pt_cmpR op_eq (pe_op op_and (pv 8) (pv 4)) (pv 1) (nomark _)) (pss_one (ps_ret (pe_op op_add (pv 6) pe_int))) pss_nil)
      (pss_one (ps_dput (hu_of hr) (pv 7) (pe_op op_and (pv 8) (pv 4)) pe_bl rfl))))))
      (pss_one (ps_set (i := 5) sc_law_extra.nd rfl (Or.inl rfl) (pe_callTy (call_list_dK rfl) (by rfl) T.z_list (by decide +kernel) (pa_cons (pv 7) pa_nil)))))))
      (pss_one (ps_ret pe_int))))))), ?_⟩
    with_reducible refine f_seq ?_
    with_reducible refine f_asg ?_
    intro d nd
    have e1 := Ex.new (o := .dK []) nd
    have h1 : (upd H d (.dK [])) d = some (.dK (boolD [])) := upd_same
    generalize upd H d (.dK []) = H1 at e1 h1 ⊢
    with_reducible refine f_gName ?_
    have size_ : ∀ n, n ≤ 99999 → n < sizeLine := fun n h => Nat.lt_of_le_of_lt h (by decide)
    -- the masks that may be used
    with_reducible refine f_seq ?_
    refine s_forLn (xs := masksL.map V.int) (ev_var rfl) (ex_l e1 hM) (fun i τ U => ∃ (v4 : Option V) (S : List Int), τ = [some (.ref m), some (.int (jn ys : Int)), some (.ref p), some (.ref d), v4, none, none, none, none] ∧ Ex H U ∧ U d = some (.dK (boolD S)) ∧ S.length ≤ passing (jn ys) i ∧ (∀ k, k ∈ S → ∃ y : Int, k = (mk1 y : Int) ∧ jn ys &&& mk1 y = jn ys) ∧ ∀ y : Nat, y < i → jn ys &&& mk1 (y : Int) = jn ys → (mk1 (y : Int) : Int) ∈ S)
      (fun U x => ⟨none, [], rfl, e1.trans x, x _ _ h1, Nat.zero_le _, (fun k hk => nomatch hk), fun y hy => absurd hy (Nat.not_lt_zero _)⟩) (fun i τ U _ ⟨_, _, _, e, _⟩ => ex_l e hM) (fun i x τ U hx ⟨v4, S, hτ, e, hd, hS, hS1, hS2⟩ => ?_) fun τ U ⟨v4, S, hτ, e, hd, hS, hS1, hS2⟩ => ?_
    · subst hτ
      have hi : i < 400 := by
        have := (List.getElem?_eq_some_iff.mp hx).1
        rw [List.length_map, masks_len] at this; exact this
      rw [masks_at hi] at hx
      obtain rfl := (Option.some.inj hx).symm
      have hpl := pass_le (jn ys) i
      have hps := pass_succ (jn ys) i
      refine s_if (b := decide (jn ys &&& mk1 (i : Int) = jn ys)) (et_is (et_test (ev_op (ev_op (ev_var rfl) (ev_var rfl) rv_I0) (ev_var rfl) rv_eqI)) (by rw [and_nat]; exact decide_eq_decide.mpr ⟨Int.ofNat.inj, congrArg Int.ofNat⟩)) (fun hb H2 e2 => ?_) fun hb H2 e2 => ?_
      · have hb := of_decide_eq_true hb
        rw [if_pos hb] at hps
        dsimp only
        unfold sDPut
        refine f_c ?_
        refine f_var rfl ?_
        refine f_var rfl ?_
        refine ⟨d, _, rfl, DPut.k (k := .inl (mk1 (i : Int) : Int)) (e2 _ _ hd) (by rw [boolD_len]; exact size_ _ (by omega)), ⟨_, dedAdd S (mk1 (i : Int) : Int), rfl, (e.trans e2).mut nd, by rw [upd_same, put_ded], ?_, fun k hk => ?_, fun y hy hp => ?_⟩⟩
        · have := ded_len S (mk1 (i : Int) : Int); omega
        · rcases mem_ded.mp hk with hk | rfl
          · exact hS1 k hk
          · exact ⟨(i : Int), rfl, hb⟩
        · by_cases hyi : y < i
          · exact mem_ded.mpr (.inl (hS2 y hyi hp))
          · obtain rfl : y = i := by omega
            exact mem_ded.mpr (.inr rfl)
      · have hb := of_decide_eq_false hb
        rw [if_neg hb] at hps
        refine f_next ⟨_, S, rfl, e.trans e2, e2 _ _ hd, by omega, hS1, fun y hy hp => ?_⟩
        by_cases hyi : y < i
        · exact hS2 y hyi hp
        · obtain rfl : y = i := by omega
          exact absurd hp hb
    · subst hτ
      rw [List.length_map, masks_len] at hS hS2
      have hU : Uses (jn ys) S := ⟨hS1, fun y hy => by
        rw [← mk1_400 y] at hy ⊢
        have h0 : 0 ≤ y % 400 ∧ y % 400 < 400 := by omega
        generalize y % 400 = z at hy h0
        obtain ⟨j, rfl⟩ : ∃ j : Nat, z = (j : Int) := ⟨z.toNat, by omega⟩
        exact hS2 j (by omega) hy⟩
      have hS4 := Nat.le_trans hS (pass_le _ _)
      -- the first layer
      with_reducible refine f_seq ?_
      refine s_asgL (xs := ([(jn es : Int)] : List Int).map V.int) (el_lst (ea_cons (ev_call (ea_cons (ev_var rfl) (ea_cons (ev_var rfl) ea_nil)) (sv_H fun U1 x1 => ⟨m, p, es, rfl, ex_l (e.trans x1) hM, ex_l (e.trans x1) hP, rfl⟩)) ea_nil) (by show 1 ≤ 100000; decide)) fun pl H3 npl e3 h3 => ?_
      have npl : H pl = none := fresh_back e npl
      have hd := e3 _ _ hd
      have e := e.trans e3
      -- no year more
      with_reducible refine f_seq ?_
      refine s_if (et_test (ev_eqL (xs := [(jn es : Int)]) (ys := [(jn ys : Int)]) (ev_var rfl) (sq_of h3) (el_lst (ea_cons (ev_var rfl) ea_nil) (by show 1 ≤ 100000; decide)))) (fun hb H4 e4 => ?_) fun hb H4 e4 => f_next ?_
      · have h0 : jn es = jn ys := Int.ofNat.inj (List.cons.inj (of_decide_eq_true hb)).1
        rw [need0 hne hl h0] at q
        exact s_ret ev_c fun H5 e5 => q H5 ((e.trans e4).trans e5)
      have h0 : jn es ≠ jn ys := fun z => of_decide_eq_false hb (by rw [z])
      have hd := e4 _ _ hd
      have h3 := e4 _ _ h3
      have e := e.trans e4
      have ndl : d ≠ pl := ne_of_none' hd h3
      clear h1 e1 e3 e4 hb hS1 hS2
      -- the layers
      with_reducible refine f_seq ?_
      refine s_forR1 (n := 2) (ea_cons ev_c ea_nil) ⟨by decide, by decide⟩ (fun i τ U => (i = 2 → needN ys es = 3) ∧ (i < 2 → ∃ (v4 v6 v7 v8 : Option V) (pl : Addr) (L : List Int), τ = [some (.ref m), some (.int (jn ys : Int)), some (.ref p), some (.ref d), v4, some (.ref pl), v6, v7, v8] ∧ H pl = none ∧ d ≠ pl ∧ (U d = some (.dK (boolD S)) ∨ ∃ od, U d = some (.frz od (.dK (boolD S)))) ∧ U pl = some (.lst (L.map V.int)) ∧ Lay ys es S i L) ∧ Ex H U)
        (fun U x => ⟨fun z => (nomatch z), fun _ => ⟨_, _, _, _, pl, [(jn es : Int)], rfl, npl, ndl, .inl (x _ _ hd), x _ _ h3, lay0 hU hne hs hl h0 hS4⟩, e.trans x⟩) (fun i τ U hi ⟨_, hp2, e⟩ => ?_) fun τ U ⟨hp2, _, e⟩ => ?_
      · have hi2 : i < 2 := by omega
        obtain ⟨v4, v6, v7, v8, pl, L, hτ, npl, ndl, hd, hpl, lay⟩ := hp2 hi2
        subst hτ
        with_reducible refine f_seq ?_
        with_reducible refine f_asg ?_
        intro dl ndl0
        have ddl : d ≠ dl := by
          rcases hd with h | ⟨od, h⟩ <;> exact ne_of_none h ndl0
        have pdl : pl ≠ dl := ne_of_none hpl ndl0
        have nH : H dl = none := fresh_back e ndl0
        have x1 := Ex.new (o := .dK []) ndl0
        have hdl : (upd U dl (.dK [])) dl = some (.dK (boolD [])) := upd_same
        have hd1 : (upd U dl (.dK [])) d = some (.dK (boolD S)) ∨ ∃ od, (upd U dl (.dK [])) d = some (.frz od (.dK (boolD S))) := by
          rw [upd_ne ddl]; exact hd
        have hpl1 := x1 _ _ hpl
        have e1 := e.trans x1
        generalize upd U dl (.dK []) = U1 at hdl hd1 hpl1 e1 ⊢
        clear hd hpl x1 e
        with_reducible refine f_gName ?_
        with_reducible refine f_seq ?_
        have hmul : ∀ i' j', i' < L.length → j' < S.length → i' * S.length + j' + 1 ≤ L.length * S.length := fun i' j' h1 h2 => by
          have : (i' + 1) * S.length ≤ L.length * S.length := Nat.mul_le_mul_right _ h1
          rw [Nat.add_mul, Nat.one_mul] at this
          omega
        refine s_forLn (xs := L.map V.int) (ev_var rfl) (sq_of hpl1) (fun i' τ U => ∃ (v4 v8 : Option V) (Z : List Int), τ = [some (.ref m), some (.int (jn ys : Int)), some (.ref p), some (.ref d), v4, some (.ref pl), some (.int (i : Int)), some (.ref dl), v8] ∧ Ex H U ∧ (U d = some (.dK (boolD S)) ∨ ∃ od, U d = some (.frz od (.dK (boolD S)))) ∧ U pl = some (.lst (L.map V.int)) ∧ U dl = some (.dK (boolD Z)) ∧ Z.length ≤ i' * S.length ∧ (∀ t, t ∈ Z → ∃ v, v ∈ L ∧ ∃ k, k ∈ S ∧ t = Builtin.bitAnd v k) ∧ ∀ v, v ∈ L.take i' → ∀ k, k ∈ S → Builtin.bitAnd v k ≠ (jn ys : Int) ∧ Builtin.bitAnd v k ∈ Z)
          (fun U x => ⟨_, _, [], rfl, e1.trans x, hd1.elim (fun h => .inl (x _ _ h)) fun ⟨od, h⟩ => .inr ⟨od, x _ _ h⟩, x _ _ hpl1, x _ _ hdl, Nat.zero_le _, (fun t ht => nomatch ht), fun v hv => by rw [List.take_zero] at hv; exact nomatch hv⟩) (fun i' τ U _ ⟨_, _, _, _, _, _, h, _⟩ => sq_of h) (fun i' x τ U hx ⟨v4, v8, Z, hτ, e, hd, hpl, hdl, hZ, hZ1, hZ2⟩ => ?_) fun τ U ⟨v4, v8, Z, hτ, e, hd, hpl, hdl, hZ, hZ1, hZ2⟩ => ?_
        · subst hτ
          obtain ⟨v, rfl, hv⟩ := int_of_map hx
          have hvm := List.mem_of_getElem? hv
          have hil : i' < L.length := (List.getElem?_eq_some_iff.mp hv).1
          have hfirst : (∃ k, k ∈ S ∧ Builtin.bitAnd (L.headD 0) k = (jn ys : Int)) → i' = 0 := fun ⟨k, hk, hw⟩ => Classical.byContradiction fun z => by
            obtain ⟨u, r, hu⟩ := List.exists_cons_of_ne_nil (show L ≠ [] from fun z => by rw [z] at hil; exact absurd hil (Nat.not_lt_zero _))
            rw [hu] at hw hZ2
            obtain ⟨n, rfl⟩ : ∃ n, i' = n + 1 := ⟨i' - 1, by omega⟩
            exact (hZ2 u (by rw [List.take_succ_cons]; exact List.mem_cons_self ..) k hk).1 hw
          refine f_forKC (f_frzM (kvs := boolD S) rfl hd fun od U2 h2 keep2 ex2 => ?_)
          have e2 := ex2 H e nd
          have hpl2 := keep2 _ _ ndl.symm hpl
          have hdl2 := keep2 _ _ ddl.symm hdl
          refine s_forKeys h2 (fun j' τ U => ∃ (v4 : Option V) (Z : List Int), τ = [some (.ref m), some (.int (jn ys : Int)), some (.ref p), some (.ref d), v4, some (.ref pl), some (.int (i : Int)), some (.ref dl), some (.int v)] ∧ Ex H U ∧ U d = some (.frz od (.dK (boolD S))) ∧ U pl = some (.lst (L.map V.int)) ∧ U dl = some (.dK (boolD Z)) ∧ Z.length ≤ i' * S.length + j' ∧ (∀ t, t ∈ Z → ∃ v, v ∈ L ∧ ∃ k, k ∈ S ∧ t = Builtin.bitAnd v k) ∧ (∀ v, v ∈ L.take i' → ∀ k, k ∈ S → Builtin.bitAnd v k ≠ (jn ys : Int) ∧ Builtin.bitAnd v k ∈ Z) ∧ ∀ k, k ∈ S.take j' → Builtin.bitAnd v k ≠ (jn ys : Int) ∧ Builtin.bitAnd v k ∈ Z)
            ⟨_, Z, rfl, e2, h2, hpl2, hdl2, hZ, hZ1, hZ2, fun k hk => by rw [List.take_zero] at hk; exact nomatch hk⟩ (fun j' τ U ⟨_, _, _, _, h, _⟩ => h) (fun j' kk w τ U hk ⟨v4, Z, hτ, e, hd, hpl, hdl, hZ, hZ1, hZ2, hZ3⟩ => ?_) fun τ U ⟨v4, Z, hτ, e, hd, hpl, hdl, hZ, hZ1, hZ2, hZ3⟩ => ?_
          · subst hτ
            obtain ⟨k, rfl, hkS⟩ := boolD_at hk
            have hkm := List.mem_of_getElem? hkS
            have hjl : j' < S.length := (List.getElem?_eq_some_iff.mp hkS).1
            show tSeq _ _ _ [some (.ref m), some (.int (jn ys : Int)), some (.ref p), some (.ref d), some (.int k), some (.ref pl), some (.int (i : Int)), some (.ref dl), some (.int v)] U
            with_reducible refine f_seq ?_
            refine s_if (et_test (ev_op (ev_op (ev_var rfl) (ev_var rfl) rv_I0) (ev_var rfl) rv_eqI)) (fun hb H4 e4 => ?_) fun hb H4 e4 => f_next ?_
            · have := lay.ret v hvm k hkm (of_decide_eq_true hb)
              rw [this] at q
              exact s_ret (ev_op (ev_var rfl) ev_c rv_I0) fun H5 e5 => q H5 ((e.trans e4).trans e5)
            have hb := of_decide_eq_false hb
            have hsz : Z.length ≤ 99999 := by
              rcases lay.size with h | ⟨h4, hv⟩
              · have := hmul i' j' hil hjl; omega
              · have i0 : i' = 0 := hfirst (by
                  obtain ⟨u, r, hu⟩ := List.exists_cons_of_ne_nil (show L ≠ [] from fun z => by rw [z] at hil; exact absurd hil (Nat.not_lt_zero _))
                  rw [hu]
                  exact hv u (by rw [hu]; exact List.mem_cons_self ..))
                rw [i0, Nat.zero_mul] at hZ
                omega
            dsimp only
            unfold sDPut
            refine f_c ?_
            refine f_var rfl ?_
            refine f_ev (ev_op (ev_var rfl) (ev_var rfl) rv_I0) fun H5 e5 => ?_
            have e45 := e4.trans e5
            refine ⟨dl, _, rfl, DPut.k (k := .inl (Builtin.bitAnd v k)) (e45 _ _ hdl) (by rw [boolD_len]; exact size_ _ hsz), ⟨_, dedAdd Z (Builtin.bitAnd v k), rfl, (e.trans e45).mut nH, by rw [upd_ne ddl]; exact e45 _ _ hd, by rw [upd_ne pdl]; exact e45 _ _ hpl, by rw [upd_same, put_ded], ?_, fun t ht => ?_, fun v' hv' k' hk' => ⟨(hZ2 v' hv' k' hk').1, mem_ded.mpr (.inl (hZ2 v' hv' k' hk').2)⟩, fun k' hk' => ?_⟩⟩
            · have := ded_len Z (Builtin.bitAnd v k); omega
            · rcases mem_ded.mp ht with ht | rfl
              · exact hZ1 t ht
              · exact ⟨v, hvm, k, hkm, rfl⟩
            · rw [List.take_add_one, hkS] at hk'
              rcases List.mem_append.mp hk' with hk' | hk'
              · exact ⟨(hZ3 k' hk').1, mem_ded.mpr (.inl (hZ3 k' hk').2)⟩
              · have : k' = k := by simpa using hk'
                subst this
                exact ⟨hb, mem_ded.mpr (.inr rfl)⟩
          · subst hτ
            rw [boolD_len] at hZ hZ3
            rw [List.take_length] at hZ3
            refine ⟨_, _, Z, rfl, e, .inr ⟨od, hd⟩, hpl, hdl, by rw [Nat.add_mul, Nat.one_mul]; exact hZ, hZ1, fun v' hv' k' hk' => ?_⟩
            rw [List.take_add_one, hv] at hv'
            rcases List.mem_append.mp hv' with hv' | hv'
            · exact hZ2 v' hv' k' hk'
            · have : v' = v := by simpa using hv'
              subst this
              exact hZ3 k' hk'
        · subst hτ
          rw [List.length_map] at hZ hZ2
          rw [List.take_length] at hZ2
          obtain ⟨g0, g1⟩ := lay.go fun v hv k hk => (hZ2 v hv k hk).1
          with_reducible refine f_asg ?_
          refine f_cb (f_cons (f_var rfl (f_nil ⟨dl, _, rfl, hdl, fun pn npn => ?_⟩)))
          rw [boolD_keys]
          have x2 := Ex.new (o := .lst (Z.map V.int)) npn
          have hpn : (upd U pn (.lst (Z.map V.int))) pn = some (.lst (Z.map V.int)) := upd_same
          have nHp : H pn = none := fresh_back e npn
          have dpn : d ≠ pn := by
            rcases hd with h | ⟨od, h⟩ <;> exact ne_of_none h npn
          generalize upd U pn (.lst (Z.map V.int)) = U2 at x2 hpn ⊢
          with_reducible refine f_gName ?_
          refine ⟨fun z => g1 (by omega), fun z => ?_, e.trans x2⟩
          obtain rfl : i = 0 := by omega
          have hL0 := lay.ends rfl
          subst hL0
          refine ⟨_, _, _, _, pn, Z, rfl, nHp, dpn, hd.elim (fun h => .inl (x2 _ _ h)) fun ⟨od, h⟩ => .inr ⟨od, x2 _ _ h⟩, hpn, lay1 hU hne hs hl (g0 rfl) hS (by simpa using hZ) (fun t ht => ?_) fun k hk => ?_⟩
          · obtain ⟨v, hv, k, hk, rfl⟩ := hZ1 t ht
            rw [List.mem_singleton.mp hv]
            exact ⟨k, hk, rfl⟩
          · exact (hZ2 _ (List.mem_cons_self ..) k hk).2
      · have h3 := hp2 rfl
        rw [h3] at q
        with_reducible refine f_ret ?_
        exact f_c (q U e)

theorem el_lcNF {K : PySem.W.Frag} {σ : L2.St} {H : Hp} {tl te : TE} {tt : TT} {ns : List Int} {j : Nat} {vs : List Nat} (φ : Int → Bool) (v : Int → V) (h : EvL tl σ H (ns.map V.int)) (hz : ns.length ≤ 40000) (hw : ∀ x, wipe ((wipe σ vs).set j (some x)) vs = wipe σ vs)
    (ht : ∀ (x : Int) U, Ex H U → EvT tt ((wipe σ vs).set j (some (.int x))) U (φ x)) (he : ∀ (x : Int) U, Ex H U → Ev te ((wipe σ vs).set j (some (.int x))) U (v x)) : EvL (tLc (iList K tl) (gName j) tt te vs) σ H ((ns.filter φ).map v) := fun H1 e Q q =>
  h H1 e _ fun p H2 np e2 h2 => (el_lcF (K := K) (tl := tC (.ref p)) (te := te) (tt := tt) (j := j) (vs := vs) φ v ev_c (sq_of h2) hz hw (fun x U u _ => ht x U ((e.trans e2).trans u)) fun x U u _ => he x U ((e.trans e2).trans u)) H2 (Ex.refl H2) Q fun r H3 nr e3 h3 => q r H3 (fresh_back e2 nr) (e2.trans e3) h3
theorem sum_cast {α : Type} {f : α → Int} {F : α → Nat} : ∀ {l : List α}, (∀ x, x ∈ l → f x = (F x : Int)) → (l.map f).sum = (((l.map F).sum : Nat) : Int)
  | [], _ => rfl
  | x :: l, h => by
    rw [List.map_cons, List.map_cons, List.sum_cons, List.sum_cons, h x (List.mem_cons_self ..), sum_cast fun y hy => h y (List.mem_cons_of_mem _ hy)]; omega
theorem f_forC {K : PySem.W.Frag} {σ : L2.St} {H : Hp} {tl : TE} {g : TG} {tu : TS} {D : Ends} (h : tl σ H fun x H1 => tFor (iList K (tC x)) g tu D σ H1) : tFor (iList K tl) g tu D σ H := h

/-! what is needed at each distance -/
def needAt (ks : List Int) (r : Int) : Nat := min (formAt ks r) 3
def needsOf (ks : List Int) : List Int := (List.range 12).map fun r : Nat => (needAt ks (r : Int) : Int)
def dueN (ks : List Int) : Int := if needsOf ks ≠ List.replicate 12 0 ∨ ks.sum ≠ 0 then 1 + (needsOf ks).sum else 0
theorem needs_sum (ks : List Int) : (needsOf ks).sum = (((List.range 12).map fun r : Nat => needAt ks (r : Int)).sum : Nat) := sum_cast fun r _ => rfl
theorem betw_sum2 (ks : List Int) : (betwOf ks).length = ((List.range 12).map fun r : Nat => formAt ks (r : Int)).sum := by
  rw [betw_sum, List.map_map]; rfl
theorem sumN_le {α : Type} {F G : α → Nat} : ∀ {l : List α}, (∀ x, x ∈ l → F x ≤ G x) → (l.map F).sum ≤ (l.map G).sum
  | [], _ => Nat.le_refl _
  | x :: l, h => by
    have a := h x (List.mem_cons_self ..)
    have b := sumN_le (F := F) (G := G) fun y hy => h y (List.mem_cons_of_mem _ hy)
    rw [List.map_cons, List.map_cons, List.sum_cons, List.sum_cons]; omega
theorem needs_le (ks : List Int) : (needsOf ks).sum ≤ ((betwOf ks).length : Int) := by
  rw [needs_sum, betw_sum2]
  have := sumN_le (F := fun r : Nat => needAt ks (r : Int)) (G := fun r : Nat => formAt ks (r : Int)) (l := List.range 12) fun r _ => Nat.min_le_left _ _
  omega
theorem needs_zero {ks : List Int} (h : (betwOf ks).length = 0) : needsOf ks = List.replicate 12 0 := by
  have z : ∀ r : Nat, r ∈ List.range 12 → formAt ks (r : Int) = 0 := fun r hr => by
    rw [betw_sum2] at h
    exact List.sum_eq_zero_iff_forall_eq_nat.mp h _ (List.mem_map.mpr ⟨r, hr, rfl⟩)
  have e : needsOf ks = (List.range 12).map fun _ => (0 : Int) := List.map_congr_left fun r hr => by
    show ((min (formAt ks (r : Int)) 3 : Nat) : Int) = 0
    rw [z r hr]; rfl
  rw [e]; rfl
theorem due_le (ks : List Int) : dueN ks ≤ (fewOf ks : Int) := by
  have a := needs_le ks
  unfold dueN
  rw [few_if]
  by_cases h : needsOf ks ≠ List.replicate 12 0 ∨ ks.sum ≠ 0
  · rw [if_pos h, if_neg fun z => h.elim (fun w => w (needs_zero z.2)) fun w => w z.1]
    omega
  · rw [if_neg h]; omega
theorem due_eq {ks : List Int} (h : (3 : Int) ∉ needsOf ks) : dueN ks = (fewOf ks : Int) := by
  have e : ∀ r : Nat, r ∈ List.range 12 → needAt ks (r : Int) = formAt ks (r : Int) := fun r hr => by
    unfold needAt
    refine Nat.min_eq_left (Classical.byContradiction fun z => h (List.mem_map.mpr ⟨r, hr, ?_⟩))
    show ((min (formAt ks (r : Int)) 3 : Nat) : Int) = 3
    rw [Nat.min_eq_right (by omega)]; rfl
  have s : (needsOf ks).sum = ((betwOf ks).length : Int) := by
    rw [needs_sum, betw_sum2]
    congr 2
    exact List.map_congr_left e
  unfold dueN
  rw [few_if]
  by_cases h0 : (betwOf ks).length = 0
  · rw [needs_zero h0, h0]
    by_cases hs : ks.sum = 0
    · rw [if_neg (by simp [hs]), if_pos ⟨hs, rfl⟩]; rfl
    · rw [if_pos (.inr hs), if_neg fun z => hs z.1]; rfl
  · have hn : needsOf ks ≠ List.replicate 12 0 := fun z => by
      rw [z] at s
      have : (List.replicate 12 (0 : Int)).sum = 0 := by decide
      omega
    rw [if_pos (.inl hn), if_neg fun z => h0 z.2, s]; omega
theorem needs_len (ks : List Int) : (needsOf ks).length = 12 := by unfold needsOf; rw [List.length_map, List.length_range]
def D_needs (K : PySem.W.Frag) (H : Hp) (vs xs : List V) : Prop := ∃ (m l : Addr) (ks : List Int), vs = [.ref m, .ref l] ∧ SqL K H m (masksL.map V.int) ∧ SqL K H l (ks.map V.int) ∧ ks.length ≤ 900 ∧ xs = (needsOf ks).map V.int
theorem ok_law_needs (T : Top K mg) : FnOk P w K mg base CX0 3 T.f_law_needs T.fd_law_needs ["masks", "moves"] (spHL (D_needs K)) := by
  have G_law_sums : FnOk P w K mg base CX0 1 T.f_law_sums T.fd_law_sums ["moves"] (spHL (D_visits K)) := ok_law_sums T
  have G_law_joined : FnOk P w K mg base CX0 1 T.f_law_joined T.fd_law_joined ["masks", "years"] (spH (D_joined K)) := ok_law_joined T
  have G_law_extra : FnOk P w K mg base CX0 2 T.f_law_extra T.fd_law_extra ["masks", "wanted", "present"] (spH (D_extra14 K)) := ok_law_extra T
  refine T.F_law_needs.ok sc_law_needs (fun vs H Q E h => ?_) (fun cdv A outer s H vs Q E hr h => ?_)
  · obtain ⟨z, ⟨m, l, ks, rfl, _⟩, _⟩ := h; rfl
  · obtain ⟨z, ⟨m, l, ks, rfl, hM, hL, hz, rfl⟩, q⟩ := h
    refine ⟨_, (pss_cons (ps_par3 (i := 2) (j := 3) (l := 4) (by rfl) sc_law_needs.nd rfl rfl rfl (by decide) (by decide) (by decide) rfl rfl rfl (pa_cons (pe_call G_law_sums (hr.mono (by first | decide | omega)) (by rfl) T.g_law_sums T.F_law_sums.kp T.b_law_sums .nil pass0 (pa_cons (pv 1) pa_nil)) (pa_cons (pe_callB (r := rSum K) (cr_sum rfl) (by rfl) T.z_sum (by decide +kernel) (pa_cons (pv 1) pa_nil)) (pa_cons (pe_lst pa_nil) pa_nil))) (by rfl))
      (pss_cons (ps_for PassesOwn.never rfl (pi_range1 (by rfl) T.z_range (pa_cons pe_int pa_nil)) (pg_name (i := 5) sc_law_needs.nd rfl (Or.inr rfl)) (pss_cons (ps_setLc (i := 6) (own := [("number", 8)]) (g := gName 8)  rfl sc_law_needs.nd rfl rfl (sw_true rfl rfl rfl (by decide +kernel)) (pi_list (pv 2)) (blkOk_by (own := [("number", 8)]) (N := ["masks", "moves", "sums", "end", "found", "rest", "years", "present", "number"]) (sc := defScope s_law_needs) (by decide +kernel)) (fun _ _ _ _ _ => (pg_name (i := 8) sc_law_needs.nd rfl (Or.inl rfl))) (fun _ _ _ _ _ => (pts_one (pt_cmpR op_eq (pe_op op_mod (pv 8) pe_int) (pv 5) (nomark _)))) (fun _ _ _ _ _ => (pe_op op_fdivW (pv 8) pe_int)))
      (pss_cons (ps_setLc (i := 7) (own := [("number", 8)]) (g := gName 8)  rfl sc_law_needs.nd rfl rfl (sw_true rfl rfl rfl (by decide +kernel)) (pi_list (pe_lst (pa_cons pe_int (pa_cons (pv 3) pa_nil)))) (blkOk_by (own := [("number", 8)]) (N := ["masks", "moves", "sums", "end", "found", "rest", "years", "present", "number"]) (sc := defScope s_law_needs) (by decide +kernel)) (fun _ _ _ _ _ => (pg_name (i := 8) sc_law_needs.nd rfl (Or.inl rfl))) (fun _ _ _ _ _ => (pts_one (pt_cmpR op_eq (pe_op op_mod (pv 8) pe_int) (pv 5) (nomark _)))) (fun _ _ _ _ _ => (pe_op op_fdivW (pv 8) pe_int)))
      (pss_one (ps_expr (pe_bm PySem.F.plainAttrs_list PySem.F.slot_list_append PySem.F.type_list_append mt_append (pv 4) (pa_cons (pe_ifExp (pt_cmpR (r := rNeD K) (op_neD hr.units) (pv 6) (pe_lst pa_nil) (nomark _)) (pe_call G_law_extra (hr.mono (by first | decide | omega)) (by rfl) T.g_law_extra T.F_law_extra.kp T.b_law_extra .nil pass0 (pa_cons (pv 0) (pa_cons (pe_call G_law_joined (hr.mono (by first | decide | omega)) (by rfl) T.g_law_joined T.F_law_joined.kp T.b_law_joined .nil pass0 (pa_cons (pv 0) (pa_cons (pv 6) pa_nil))) (pa_cons (pv 7) pa_nil)))) pe_int) pa_nil)))))))
      (pss_one (ps_ret (pv 4))))), ?_⟩
    with_reducible refine f_seq ?_
    with_reducible refine f_par3 ?_
    refine f_cons (f_evL (el_callH (D := D_visits K) (xs := (srt (sums ks)).map V.int) (ea_cons (ev_var rfl) ea_nil) fun H2 e2 => ⟨l, ks, rfl, ex_l e2 hL, by omega, rfl⟩) fun ps H2 nps e2 h2 => f_cons (f_ev (ev_sumV (ev_var rfl) (ex_l e2 hL)) fun H3 e3 => f_cons (f_evL (el_lst ea_nil (Nat.zero_le _)) fun pf H4 npf e4 h4 => f_nil (f_par33 ?_))))
    have x4 := (e2.trans e3).trans e4
    have h2 := (e3.trans e4) _ _ h2
    have npf0 : H pf = none := fresh_back (e2.trans e3) npf
    have spf : ps ≠ pf := ne_of_none (e3 _ _ ((show H2 ps = _ from ‹_›) : H2 ps = some (.lst ((srt (sums ks)).map V.int)))) npf
    have hsl : (srt (sums ks)).length ≤ 1000 := by
      have := srt_len' (sums ks)
      have d : (sums ks).length = ks.length + 1 := sumsTo_len ks _
      omega
    clear e2 e3 e4
    with_reducible refine f_seq ?_
    refine s_forR1 (n := 12) (ea_cons ev_c ea_nil) ⟨by decide, by decide⟩ (fun i τ U => ∃ v5 v6 v7 : Option V, τ = [some (.ref m), some (.ref l), some (.ref ps), some (.int ks.sum), some (.ref pf), v5, v6, v7, none] ∧ Ex H U ∧ U ps = some (.lst ((srt (sums ks)).map V.int)) ∧ U pf = some (.lst (((List.range i).map fun r : Nat => (needAt ks (r : Int) : Int)).map V.int))) (fun U x => ⟨none, none, none, rfl, x4.trans x, x _ _ h2, x _ _ h4⟩) (fun i τ U hi ⟨v5, v6, v7, hτ, e, gps, gpf⟩ => ?_) fun τ U ⟨v5, v6, v7, hτ, e, gps, gpf⟩ => ?_
    · subst hτ
      have hi12 : i < 12 := by omega
      have es : sel 12 (srt (sums ks)) (i : Int) = ((srt (sums ks)).filter fun n => decide (n % 12 = (i : Int))).map fun n => n / 12 := rfl
      with_reducible refine f_seq ?_
      refine s_asgL (xs := (sel 12 (srt (sums ks)) (i : Int)).map V.int) (EvL.is (el_lcF (fun n => decide (n % 12 = (i : Int))) (fun n => .int (n / 12)) (ev_var rfl) (sq_of gps) (by omega) (fun _ => rfl) (fun y U1 _ _ => et_test (ev_op (ev_op (ev_var rfl) ev_c (rv_mod (by decide))) (ev_var rfl) rv_eqI)) fun y U1 _ _ => ev_op (ev_var rfl) ev_c (rv_div (by decide) (by decide))) (by rw [es, List.map_map]; rfl)) fun py H5 npy e5 h5 => ?_
      have ep : endsAt ks (i : Int) = (([0, ks.sum] : List Int).filter fun n => decide (n % 12 = (i : Int))).map fun n => n / 12 := by
        unfold endsAt
        rw [look_grp]; rfl
      with_reducible refine f_seq ?_
      refine s_asgL (xs := (endsAt ks (i : Int)).map V.int) (EvL.is (el_lcNF (K := K) (ns := [0, ks.sum]) (fun n => decide (n % 12 = (i : Int))) (fun n => .int (n / 12)) (el_lst (ea_cons ev_c (ea_cons (ev_var rfl) ea_nil)) (by show 2 ≤ 100000; decide)) (by show 2 ≤ 40000; decide) (fun _ => rfl) (fun y U1 _ => et_test (ev_op (ev_op (ev_var rfl) ev_c (rv_mod (by decide))) (ev_var rfl) rv_eqI)) fun y U1 _ => ev_op (ev_var rfl) ev_c (rv_div (by decide) (by decide))) (by rw [ep, List.map_map]; rfl)) fun pe H6 npe e6 h6 => ?_
      have h5 := e6 _ _ h5
      have e56 := e5.trans e6
      have eH := e.trans e56
      have hsub : ∀ z, z ∈ endsAt ks (i : Int) → z ∈ sel 12 (srt (sums ks)) (i : Int) := fun z hz => ends_sub hz
      have hl2 := endsAt_len ks (i : Int)
      have hv : (needAt ks (i : Int) : Int) = if sel 12 (srt (sums ks)) (i : Int) = [] then 0 else (needN (sel 12 (srt (sums ks)) (i : Int)) (endsAt ks (i : Int)) : Int) := by
        unfold needAt formAt needN
        by_cases h : sel 12 (srt (sums ks)) (i : Int) = []
        · rw [if_pos h, if_pos h]; rfl
        · rw [if_neg h, if_neg h]
      generalize sel 12 (srt (sums ks)) (i : Int) = ys at h5 hsub hv
      generalize endsAt ks (i : Int) = es at h6 hsub hl2 hv
      refine s_app (v := .int (needAt ks (i : Int) : Int)) (e56 _ _ gpf) (ev_var rfl) (ev_is (ev_if' (b := !decide (ys = [])) (v1 := .int (needN ys es : Int)) (v2 := .int 0) (et_test (ev_neL (ys := []) (ev_var rfl) (sq_of h5) (el_lst ea_nil (Nat.zero_le _)))) (fun hb => ev_call (ea_cons (ev_var rfl) (ea_cons (ev_call (ea_cons (ev_var rfl) (ea_cons (ev_var rfl) ea_nil)) (sv_H fun U1 x1 => ⟨m, py, ys, rfl, ex_l (eH.trans x1) hM, sq_of (x1 _ _ h5), rfl⟩)) (ea_cons (ev_var rfl) ea_nil))) (sv_H fun U1 x1 => ⟨m, pe, ys, es, rfl, ex_l (eH.trans x1) hM, sq_of (x1 _ _ h6), by simpa using hb, hsub, hl2, rfl⟩)) fun _ => ev_c) (by
          rw [hv]
          by_cases h : ys = []
          · rw [if_pos h]; simp [h]
          · rw [if_neg h]; simp [h])) (by rw [List.length_map, List.length_map, List.length_range]; omega) fun H7 e7 => ?_
      exact ⟨_, _, _, rfl, (eH.trans e7).mut npf0, by rw [upd_ne spf]; exact (e56.trans e7) _ _ gps, by rw [upd_same, List.range_succ, List.map_append, List.map_append]; rfl⟩
    · subst hτ
      with_reducible refine f_ret ?_
      exact f_var rfl (q pf U npf0 e gpf)

/-! the law: fewest steps by search -/
theorem rv_isL {K : PySem.W.Frag} {H : Hp} {p : Addr} {z : Int} {ks : List Int} (h : SqL K H p (ks.map V.int)) : RV (rIn K false) (.int z) (.ref p) H (.bl (decide (z ∈ ks))) := fun H1 e _ q => ⟨p, ks.map V.int, rfl, .inl (ex_l e h), rfl, by rw [List.all_map, List.all_eq_true]; intro _ _; rfl, by rw [if_neg Bool.false_ne_true, inV_ints]; exact q H1 (Ex.refl H1)⟩
theorem rv_nisL {K : PySem.W.Frag} {H : Hp} {p : Addr} {z : Int} {ks : List Int} (h : SqL K H p (ks.map V.int)) : RV (rIn K true) (.int z) (.ref p) H (.bl (!decide (z ∈ ks))) := fun H1 e _ q => ⟨p, ks.map V.int, rfl, .inl (ex_l e h), rfl, by rw [List.all_map, List.all_eq_true]; intro _ _; rfl, by rw [if_pos rfl, inV_ints]; exact q H1 (Ex.refl H1)⟩
theorem ev_dueN {σ : L2.St} {H : Hp} {ta tb tc : TE} {p l : Addr} {ks : List Int} (ha : ∀ U, Ex H U → Ev ta σ U (.ref p)) (hp : H p = some (.lst ((needsOf ks).map V.int))) (hl : ∀ U, Ex H U → Ev tc σ U (.ref l)) (hs : H l = some (.lst (ks.map V.int))) (hb : ∀ U, Ex H U → EvL tb σ U ((List.replicate 12 (0 : Int)).map V.int)) :
    Ev (tIf (tOr (tTest (tOp (rNeD K) ta tb)) (tTest (tOp rNe (tCB (rSum K) (tCons tc tNil)) (tC (.int 0))))) (tOp (rI0 fun i j => .int (i + j)) (tC (.int 1)) (tCB (rSum K) (tCons ta tNil))) (tC (.int 0))) σ H (.int (dueN ks)) := by
  refine ev_is (ev_if' (b := !decide (needsOf ks = List.replicate 12 0) || !decide (ks.sum = 0)) (v1 := .int (1 + (needsOf ks).sum)) (v2 := .int 0) (et_or (et_test (ev_neL (ha H (Ex.refl H)) (sq_of hp) (hb H (Ex.refl H)))) fun _ => et_test (ev_op (ev_sumV (hl H (Ex.refl H)) (sq_of hs)) ev_c rv_neI)) (fun _ => ev_op ev_c (ev_sumV (ha H (Ex.refl H)) (sq_of hp)) rv_I0) fun _ => ev_c) ?_
  have hb : (!decide (needsOf ks = List.replicate 12 0) || !decide (ks.sum = 0)) = decide (needsOf ks ≠ List.replicate 12 0 ∨ ks.sum ≠ 0) := by
    by_cases h1 : needsOf ks = List.replicate 12 0
    · by_cases h2 : ks.sum = 0
      · rw [decide_eq_true h1, decide_eq_true h2, decide_eq_false fun z => z.elim (fun w => w h1) fun w => w h2]; rfl
      · rw [decide_eq_true h1, decide_eq_false h2, decide_eq_true (p := needsOf ks ≠ List.replicate 12 0 ∨ ks.sum ≠ 0) (.inr h2)]; rfl
    · rw [decide_eq_false h1, decide_eq_true (p := needsOf ks ≠ List.replicate 12 0 ∨ ks.sum ≠ 0) (.inl h1)]; rfl
  rw [hb]
  unfold dueN
  by_cases h : needsOf ks ≠ List.replicate 12 0 ∨ ks.sum ≠ 0
  · rw [if_pos (decide_eq_true h), if_pos h]
  · rw [if_neg (by rw [decide_eq_false h]; decide), if_neg h]
theorem fits_few {a b : Int} (ha : a.natAbs ≤ 10 ^ 40) (hb : b.natAbs ≤ 10 ^ 40) : Fits (.list (([a, b] : List Int).map PyData.int)) := fits_ints (fun k hk => by
  simp only [List.mem_cons, List.not_mem_nil, or_false] at hk
  rcases hk with rfl | rfl
  · exact Nat.le_trans ha (by decide +kernel)
  · exact Nat.le_trans hb (by decide +kernel)) (by show 2 ≤ 400; decide)
theorem few_small {ks : List Int} (h : ks.length ≤ 900) : ((fewOf ks : Int)).natAbs ≤ 10 ^ 40 := by
  have a := few_le ks
  have : ((fewOf ks : Int)).natAbs = fewOf ks := rfl
  rw [this]
  exact Nat.le_trans (by omega : _ ≤ 1000) (by decide +kernel)
theorem ok_law (T : Top K mg) : FnG P w K mg base CX0 9 T.f_law T.fd_law ["script"] (spLaw K) := by
  have G_law_rng : FnOk P w K mg base CX0 1 T.f_law_rng T.fd_law_rng ["script"] (spRng K) := ok_law_rng T
  have G_law_draw : FnOk P w K mg base CX0 1 T.f_law_draw T.fd_law_draw ["rng", "limit"] spRdraw := ok_law_draw T
  have G_law_one : FnOk P w K mg base CX0 2 T.f_law_one T.fd_law_one ["rng", "kind"] spOne := ok_law_one T
  have G_law_moves : FnOk P w K mg base CX0 3 T.f_law_moves T.fd_law_moves ["rng", "most"] spMoves := ok_law_moves T
  have G_law_masks : FnOk P w K mg base CX0 2 T.f_law_masks T.fd_law_masks [] (spHL D_masks) := ok_law_masks T
  have G_law_needs : FnOk P w K mg base CX0 3 T.f_law_needs T.fd_law_needs ["masks", "moves"] (spHL (D_needs K)) := ok_law_needs T
  have G_fewest_steps : FnOk P w K mg base CX0 7 T.f_fewest_steps T.fd_fewest_steps ["steps"] (spH (D_few K)) := ok_fewest_steps T
  refine okG T.F_law sc_law (fun vs H Q E h => ?_) (fun cdv A outer st H vs Q E hG hr h => ?_)
  · obtain ⟨a, ns, rfl, _⟩ := h; rfl
  · obtain ⟨a, ns, rfl, hS, hlen, q⟩ := h
    refine ⟨_, (pss_cons (ps_par (i := 1) (j := 2) (by rfl) sc_law.nd rfl rfl (by decide) rfl rfl (pa_cons (pe_call G_law_rng (hr.mono (by first | decide | omega)) (by rfl) T.g_law_rng T.F_law_rng.kp T.b_law_rng .nil pass0 (pa_cons (pv 0) pa_nil)) (pa_cons (pe_call0 G_law_masks (hr.mono (by first | decide | omega)) (by rfl) T.g_law_masks T.F_law_masks.kp T.b_law_masks .nil pass0) pa_nil)) (by rfl))
      (pss_cons (ps_for PassesOwn.never rfl (pi_range1 (by rfl) T.z_range (pa_cons (pe_op op_add pe_int (pe_callB (call_min2 rfl) (by rfl) T.z_min (by decide +kernel) (pa_cons pe_int (pa_cons (pe_callB (r := rLenS K) call_len_seq (by rfl) T.z_len PySem.boot_len (pa_cons (pv 0) pa_nil)) pa_nil)))) pa_nil)) (pg_name (i := 3) sc_law.nd rfl (Or.inl rfl)) (pss_cons (ps_set (i := 4) sc_law.nd rfl (Or.inl rfl) (pe_call G_law_moves (hr.mono (by first | decide | omega)) (by rfl) T.g_law_moves T.F_law_moves.kp T.b_law_moves .nil pass0 (pa_cons (pv 1) (pa_cons (pe_ix (r := rIxL K) ix_list (pe_lst (pa_cons pe_int (pa_cons pe_int (pa_cons pe_int pa_nil)))) (pe_call G_law_draw (hr.mono (by first | decide | omega)) (by rfl) T.g_law_draw T.F_law_draw.kp T.b_law_draw .nil pass0 (pa_cons (pv 1) (pa_cons pe_int pa_nil))) (fun _ _ => rfl)) pa_nil))))
      (pss_cons (ps_set (i := 5) sc_law.nd rfl (Or.inl rfl) (pe_call G_law_one (hr.mono (by first | decide | omega)) (by rfl) T.g_law_one T.F_law_one.kp T.b_law_one .nil pass0 (pa_cons (pv 1) (pa_cons (pe_call G_law_draw (hr.mono (by first | decide | omega)) (by rfl) T.g_law_draw T.F_law_draw.kp T.b_law_draw .nil pass0 (pa_cons (pv 1) (pa_cons pe_int pa_nil))) pa_nil))))
      (pss_cons (ps_if (pt_cmpR op_gt (pe_call G_law_draw (hr.mono (by first | decide | omega)) (by rfl) T.g_law_draw T.F_law_draw.kp T.b_law_draw .nil pass0 (pa_cons (pv 1) (pa_cons pe_int pa_nil))) pe_int (nomark _)) (pss_one (ps_set (i := 5) sc_law.nd rfl (Or.inl rfl) (pe_op op_sub (pe_op op_mulW pe_int (pe_op op_sub (pe_call G_law_draw (hr.mono (by first | decide | omega)) (by rfl) T.g_law_draw T.F_law_draw.kp T.b_law_draw .nil pass0 (pa_cons (pv 1) (pa_cons pe_int pa_nil))) pe_int)) (pe_callB (r := rSum K) (cr_sum rfl) (by rfl) T.z_sum (by decide +kernel) (pa_cons (pv 4) pa_nil))))) pss_nil)
      (pss_one (ps_for PassesOwn.never rfl (pi_list (pe_lst (pa_cons (pv 4) (pa_cons (pe_op op_cat (pv 4) (pe_lst (pa_cons (pv 5) pa_nil))) pa_nil)))) (pg_name (i := 6) sc_law.nd rfl (Or.inl rfl)) (pss_cons (ps_par (i := 7) (j := 8) (by rfl) sc_law.nd rfl rfl (by decide) rfl rfl (pa_cons (pe_callB (r := rRepr K) (call_repr_data hG hr.units) (by rfl) T.z_repr (by decide +kernel) (pa_cons (pv 6) pa_nil)) (pa_cons (pe_call G_law_needs (hr.mono (by first | decide | omega)) (by rfl) T.g_law_needs T.F_law_needs.kp T.b_law_needs .nil pass0 (pa_cons (pv 2) (pa_cons (pv 6) pa_nil))) pa_nil)) (by rfl))
      (pss_cons (ps_set (i := 9) sc_law.nd rfl (Or.inl rfl) (pe_ifExp (PW.pt (pw_or (pt_cmpR (r := rNeD K) (op_neD hr.units) (pv 8) (pe_op op_rep (pe_lst (pa_cons pe_int pa_nil)) pe_int) (nomark _)) (pw_or1 (pt_cmpR op_ne (pe_callB (r := rSum K) (cr_sum rfl) (by rfl) T.z_sum (by decide +kernel) (pa_cons (pv 6) pa_nil)) pe_int (nomark _))))) (pe_op op_add pe_int (pe_callB (r := rSum K) (cr_sum rfl) (by rfl) T.z_sum (by decide +kernel) (pa_cons (pv 8) pa_nil))) pe_int))
      (pss_cons (ps_set (i := 10) sc_law.nd rfl (Or.inl rfl) (pe_lst (pa_cons (pe_call G_fewest_steps (hr.mono (by first | decide | omega)) (by rfl) T.g_fewest_steps T.F_fewest_steps.kp T.b_fewest_steps .nil pass0 (pa_cons (pv 6) pa_nil)) (pa_cons (pe_callN0 G_fewest_steps (hr.mono (by first | decide | omega)) (by rfl) T.g_fewest_steps T.F_fewest_steps.kp (kb_fewest_steps_steps T.F_fewest_steps) pass0 (pk_cons (pv 6) pk_nil)) pa_nil))))
      (pss_cons (ps_if (PW.pt (pw_and (pt_cmpR (r := rIn K false) op_in_seq pe_int (pv 8) (by rfl)) (pw_and1 (PW.pt (pw_or (pt_cmpR op_lt (pe_ix (r := rIxL K) ix_list (pv 10) pe_int (fun _ _ => rfl)) (pv 9) (nomark _)) (pw_or1 (pt_cmpR op_ne (pe_ix (r := rIxL K) ix_list (pv 10) pe_int (fun _ _ => rfl)) (pe_ix (r := rIxL K) ix_list (pv 10) pe_int (fun _ _ => rfl)) (nomark _)))))))) (pss_one (ps_ret pe_bl)) pss_nil)
      (pss_one (ps_if (PW.pt (pw_or (PW.pt (pw_and (pt_cmpR (r := rIn K true) op_notIn_seq pe_int (pv 8) (by rfl)) (pw_and1 (pt_cmpR op_ne (pe_callB (r := rRepr K) (call_repr_data hG hr.units) (by rfl) T.z_repr (by decide +kernel) (pa_cons (pv 10) pa_nil)) (pe_callB (r := rRepr K) (call_repr_data hG hr.units) (by rfl) T.z_repr (by decide +kernel) (pa_cons (pe_lst (pa_cons (pv 9) (pa_cons (pv 9) pa_nil))) pa_nil)) (nomark _))))) (pw_or1 (pt_cmpR op_ne (pe_callB (r := rRepr K) (call_repr_data hG hr.units) (by rfl) T.z_repr (by decide +kernel) (pa_cons (pv 6) pa_nil)) (pv 7) (nomark _))))) (pss_one (ps_ret pe_bl)) pss_nil))))))))))))
      (pss_cons (ps_for PassesOwn.never rfl (pi_list (pe_lst (pa_cons (pe_lst (pa_cons (pe_op op_pow pe_int pe_int) pa_nil)) (pa_cons (pe_lst (pa_cons (pe_op op_pow pe_int pe_int) (pa_cons (pe_op op_sub pe_int (pe_op op_pow pe_int pe_int)) pa_nil))) (pa_cons (pe_lst (pa_cons (pe_op op_sub pe_int (pe_op op_pow pe_int pe_int)) (pa_cons pe_int (pa_cons (pe_op op_pow pe_int pe_int) pa_nil)))) pa_nil))))) (pg_name (i := 6) sc_law.nd rfl (Or.inl rfl)) (pss_cons (ps_set (i := 8) sc_law.nd rfl (Or.inl rfl) (pe_call G_law_needs (hr.mono (by first | decide | omega)) (by rfl) T.g_law_needs T.F_law_needs.kp T.b_law_needs .nil pass0 (pa_cons (pv 2) (pa_cons (pv 6) pa_nil))))
      (pss_one (ps_if (pt_cmpR op_ne (pe_call G_fewest_steps (hr.mono (by first | decide | omega)) (by rfl) T.g_fewest_steps T.F_fewest_steps.kp T.b_fewest_steps .nil pass0 (pa_cons (pv 6) pa_nil)) (pe_ifExp (PW.pt (pw_or (pt_cmpR (r := rNeD K) (op_neD hr.units) (pv 8) (pe_op op_rep (pe_lst (pa_cons pe_int pa_nil)) pe_int) (nomark _)) (pw_or1 (pt_cmpR op_ne (pe_callB (r := rSum K) (cr_sum rfl) (by rfl) T.z_sum (by decide +kernel) (pa_cons (pv 6) pa_nil)) pe_int (nomark _))))) (pe_op op_add pe_int (pe_callB (r := rSum K) (cr_sum rfl) (by rfl) T.z_sum (by decide +kernel) (pa_cons (pv 8) pa_nil))) pe_int) (nomark _)) (pss_one (ps_ret pe_bl)) pss_nil))))
      (pss_one (ps_ret (pe_cmpR (r := rEqD K) (op_eqD hr.units) (pe_lst (pa_cons (pe_call G_fewest_steps (hr.mono (by first | decide | omega)) (by rfl) T.g_fewest_steps T.F_fewest_steps.kp T.b_fewest_steps .nil pass0 (pa_cons (pe_lst pa_nil) pa_nil)) (pa_cons (pe_call G_fewest_steps (hr.mono (by first | decide | omega)) (by rfl) T.g_fewest_steps T.F_fewest_steps.kp T.b_fewest_steps .nil pass0 (pa_cons (pe_lst (pa_cons pe_int (pa_cons pe_int pa_nil))) pa_nil)) (pa_cons (pe_call G_fewest_steps (hr.mono (by first | decide | omega)) (by rfl) T.g_fewest_steps T.F_fewest_steps.kp T.b_fewest_steps .nil pass0 (pa_cons (pe_lst (pa_cons pe_int pa_nil)) pa_nil)) (pa_cons (pe_call G_fewest_steps (hr.mono (by first | decide | omega)) (by rfl) T.g_fewest_steps T.F_fewest_steps.kp T.b_fewest_steps .nil pass0 (pa_cons (pe_lst (pa_cons pe_int (pa_cons (pe_un un_neg pe_int) pa_nil))) pa_nil)) pa_nil))))) (pe_lst (pa_cons pe_int (pa_cons pe_int (pa_cons pe_int (pa_cons pe_int pa_nil))))) (nomark _))))))), ?_⟩
    with_reducible refine f_seq ?_
    with_reducible refine f_par ?_
    refine f_cons (f_call (f_cons (f_var rfl (f_nil ⟨a, ns, rfl, hS, hlen, fun r H1 nr S1 e1 => f_cons (f_evL (el_callH (D := D_masks) (xs := masksL.map V.int) ea_nil fun U x => ⟨rfl, rfl⟩) fun m H2 nm e2 h2 => f_nil (f_par2 ?_))⟩))))
    have S2 := S1.ex_ e2
    have fm : m ≠ r := S1.free nm
    have rp {σ : L2.St} {U : Hp} : EvL (tOp rRep (tLst (tCons (tC (.int 0)) tNil)) (tC (.int 12))) σ U ((List.replicate 12 (0 : Int)).map V.int) := EvL.is (el_rep (xs := [.int 0]) (el_lst (ea_cons ev_c ea_nil) (by show 1 ≤ 100000; decide)) (fun _ _ => ev_c) ⟨by decide, by decide⟩ (by show 1 ≤ 100; decide)) (by rw [flat_one, List.map_replicate]; rfl)
    with_reducible refine f_seq ?_
    refine s_forR1 (n := 2 + (if ((ns.map V.int).length : Int) < 4 then ((ns.map V.int).length : Int) else 4)) (ea_cons (ev_op ev_c (ev_cb (ea_cons ev_c (ea_cons (ev_lenS (ev_var rfl) (.inl (ex_l (e1.trans e2) hS))) ea_nil)) fun H3 _ Q' q' => ⟨_, _, rfl, q' H3 (Ex.refl H3)⟩) rv_I0) ea_nil) ⟨by split <;> omega, by split <;> omega⟩
      (fun i0 σ H' => ∃ v3 v4 v5 v6 v7 v8 v9 v10 : Option V, σ = [some (.ref a), some (.ref r), some (.ref m), v3, v4, v5, v6, v7, v8, v9, v10] ∧ Rg H' r (2 ^ 29 - 5000 * i0) ∧ H' m = some (.lst (masksL.map V.int))) (fun H3 e3 => ⟨_, _, _, _, _, _, _, _, rfl, S2.ex_ e3, e3 _ _ h2⟩) (fun i0 σ H' hi hp => ?_) (fun σ H' hp => ?_)
    · obtain ⟨v3, v4, v5, v6, v7, v8, v9, v10, rfl, S3, hm⟩ := hp
      have hi9 : i0 < 6 := by split at hi <;> omega
      have S3 : Rg H' r (2 ^ 29 - 5000 * (i0 + 1) + 1 + 1 + 1 + 1 + 300 + 1) := S3.less (by omega)
      generalize hB : 2 ^ 29 - 5000 * (i0 + 1) = B at S3
      clear S1 S2 h2
      with_reducible refine f_seq ?_
      with_reducible refine f_asg ?_
      refine f_call (f_cons (f_var rfl (f_cons (f_op (f_evL (el_lst (ea_cons ev_c (ea_cons ev_c (ea_cons ev_c ea_nil))) (by show 3 ≤ 100000; decide)) fun p4 H4 np4 e4 h4 => f_call (f_cons (f_var rfl (f_cons (f_c (f_nil ?_))))))))))
      refine f_rdraw (S3.ex_ e4) (by decide) (by decide) fun n5 H5 a5 b5 S5 k5 => ?_
      obtain ⟨most, hmost, hat⟩ := at_ints (L := [2, 4, 5]) a5 b5
      have hmo : 0 ≤ most ∧ most ≤ 5 := by simp at hmost; omega
      refine f_ixL (k5.at (S3.free np4) h4) hat (f_nil ⟨r, B + 1 + 1 + 1 + 1, most, rfl, hmo.1, by omega, S5, fun xs l H6 hxl hxb nl fl S6 k6 h6 => ?_⟩)
      have hm := k6.at fm (k5.at fm (e4 _ _ hm))
      with_reducible refine f_gName ?_
      have hxl : xs.length ≤ 5 := by omega
      clear h4 hat hmost hmo S5 S3 np4 k5 k6 e4
      -- last
      with_reducible refine f_seq ?_
      with_reducible refine f_asg ?_
      refine f_call (f_cons (f_var rfl (f_cons (f_call (f_cons (f_var rfl (f_cons (f_c (f_nil ?_)))))))))
      refine f_rdraw S6 (by decide) (by decide) fun n7 H7 a7 b7 S7 k7 => f_nil ⟨r, n7, B + 1 + 1, rfl, a7, by omega, S7, fun y H8 hy S8 k8 => ?_⟩
      have hm := k8.at fm (k7.at fm hm)
      have h6 := k8.at fl (k7.at fl h6)
      with_reducible refine f_gName ?_
      clear S6 S7 k7 k8
      have hsum : xs.sum.natAbs ≤ 10 ^ 35 := by
        have := sum_bound (ks := xs) (b := 10 ^ 33) hxb
        exact Nat.le_trans this (Nat.le_trans (Nat.mul_le_mul_right _ hxl) (by decide +kernel))
      with_reducible refine f_seqC (fun σ' U => ∃ y : Int, σ' = [some (.ref a), some (.ref r), some (.ref m), some (.int (i0 : Int)), some (.ref l), some (.int y), v6, v7, v8, v9, v10] ∧ y.natAbs ≤ 10 ^ 36 ∧ Rg U r B ∧ U m = some (.lst (masksL.map V.int)) ∧ U l = some (.lst (xs.map V.int))) (fun N hN => ?_) fun σ' U hU => ?_
      · with_reducible refine f_ifS ?_
        refine f_test (f_op (f_call (f_cons (f_var rfl (f_cons (f_c (f_nil ?_)))))))
        refine f_rdraw S8 (by decide) (by decide) fun n9 H9 a9 b9 S9 k9 => f_c (f_rv rv_I0 fun H10 e10 => f_bl (f_iteB (fun hb => ?_) fun hb => ?_))
        · have hm := e10 _ _ (k9.at fm hm)
          have h6 := e10 _ _ (k9.at fl h6)
          with_reducible refine f_asg ?_
          refine f_op (f_op (f_c (f_op (f_call (f_cons (f_var rfl (f_cons (f_c (f_nil ?_)))))))))
          refine f_rdraw (S9.ex_ e10) (by decide) (by decide) fun n11 H11 a11 b11 S11 k11 => f_c (f_I0 (f_I (wide_mul (a := 20) (b := 64) (by decide) (by omega) (by decide) (by decide) (by decide)) ?_))
          have hm := k11.at fm hm
          have h6 := k11.at fl h6
          refine f_ev (ev_sumV (ev_var rfl) (sq_of h6)) fun H12 e12 => f_I0 ?_
          have cb : (10 : Nat) ^ 35 + 10000 ≤ 10 ^ 36 := by decide +kernel
          exact f_gName (hN _ _ ⟨4800 * (n11 - 1) - xs.sum, rfl, by omega, S11.ex_ e12, e12 _ _ hm, e12 _ _ h6⟩)
        · exact f_next (hN _ _ ⟨y, rfl, Nat.le_trans hy (by decide +kernel), (S9.ex_ e10).less (by omega), e10 _ _ (k9.at fm hm), e10 _ _ (k9.at fl h6)⟩)
      obtain ⟨y, rfl, hyb, SU, hm, h6⟩ := hU
      clear S8 hy
      -- both lists
      refine f_forC (f_lst (f_cons (f_var rfl (f_cons (f_evL (xs := (xs ++ [y]).map V.int) (EvL.is (el_catV (ev_var rfl) h6 (el_lst (ea_cons (ev_var rfl) ea_nil) (by show 1 ≤ 100000; decide)) (by rw [List.length_map]; show xs.length + 1 ≤ 100000; omega)) (by rw [List.map_append]; rfl)) fun p9 H9 np9 e9 h9 => f_nil ⟨by show 2 ≤ sizeLine; decide, fun pL npL => ?_⟩)))))
      have eL := Ex.new (o := .lst [.ref l, .ref p9]) npL
      have hL : (upd H9 pL (.lst [.ref l, .ref p9])) pL = some (.lst [.ref l, .ref p9]) := upd_same
      have h6 := (e9.trans eL) _ _ h6
      have h9 := eL _ _ h9
      have hm := (e9.trans eL) _ _ hm
      have SL := SU.ex_ (e9.trans eL)
      generalize upd H9 pL (.lst [.ref l, .ref p9]) = HL at h6 h9 hL hm SL ⊢
      have all : ∀ x, x ∈ ([.ref l, .ref p9] : List V) → ∃ (p : Addr) (zs : List Int), x = .ref p ∧ zs.length ≤ 6 ∧ (∀ k, k ∈ zs → k.natAbs ≤ 10 ^ 40) ∧ HL p = some (.lst (zs.map V.int)) := fun x hx => by
        simp only [List.mem_cons, List.not_mem_nil, or_false] at hx
        have b1 : ∀ k, k ∈ xs → k.natAbs ≤ 10 ^ 40 := fun k hk => Nat.le_trans (hxb k hk) (by decide +kernel)
        rcases hx with rfl | rfl
        · exact ⟨l, xs, rfl, by omega, b1, h6⟩
        · refine ⟨p9, xs ++ [y], rfl, by rw [List.length_append]; show xs.length + 1 ≤ 6; omega, fun k hk => ?_, h9⟩
          rcases List.mem_append.mp hk with hk | hk
          · exact b1 k hk
          · rw [List.mem_singleton.mp hk]; exact Nat.le_trans hyb (by decide +kernel)
      refine s_forLn (xs := [.ref l, .ref p9]) ev_c (sq_of hL) (fun i τ U => ∃ v6 v7 v8 v9 v10 : Option V, τ = [some (.ref a), some (.ref r), some (.ref m), some (.int (i0 : Int)), some (.ref l), some (.int y), v6, v7, v8, v9, v10] ∧ Ex HL U) (fun H10 e10 => ⟨_, _, _, _, _, rfl, e10⟩) (fun i τ U _ ⟨_, _, _, _, _, _, e⟩ => ex_l e (sq_of hL)) (fun i x τ U hx ⟨v6, v7, v8, v9, v10, hτ, e⟩ => ?_) fun τ U ⟨v6, v7, v8, v9, v10, hτ, e⟩ => ?_
      · subst hτ
        obtain ⟨pz, zs, rfl, hzl, hzb, hpz⟩ := all x (List.mem_of_getElem? hx)
        have gz := e _ _ hpz
        have gm := e _ _ hm
        have hfit : Fits (.list (zs.map PyData.int)) := fits_ints (fun k hk => Nat.le_trans (hzb k hk) (by decide +kernel)) (by omega)
        with_reducible refine f_seq ?_
        with_reducible refine f_par ?_
        refine f_cons (f_ev (ev_repr (ev_var rfl) (dp_ints (sq_of gz)) hfit) fun H11 e11 => f_cons (f_evL (el_callH (D := D_needs K) (xs := (needsOf zs).map V.int) (ea_cons (ev_var rfl) (ea_cons (ev_var rfl) ea_nil)) fun H12 e12 => ⟨m, pz, zs, rfl, sq_of ((e11.trans e12) _ _ gm), sq_of ((e11.trans e12) _ _ gz), by omega, rfl⟩) fun pn H12 npn e12 h12 => f_nil (f_par2 ?_)))
        have gz := (e11.trans e12) _ _ gz
        have e := (e.trans e11).trans e12
        with_reducible refine f_seq ?_
        refine s_asg (ev_dueN (K := K) (fun _ _ => ev_var rfl) h12 (fun _ _ => ev_var rfl) gz fun _ _ => rp) fun H13 e13 => ?_
        have gz := e13 _ _ gz
        have h12 := e13 _ _ h12
        with_reducible refine f_seq ?_
        refine s_asgL (xs := ([(fewOf zs : Int), (fewOf zs : Int)] : List Int).map V.int) (el_lst (ea_cons (ev_few (K := K) (ev_var rfl) gz (by omega)) (ea_cons (ev_callK (z := .int (fewOf zs : Int)) ea_nil (ea_cons (ev_var rfl) ea_nil) rfl rfl fun U1 x1 Q1 q1 E1 => ⟨_, ⟨pz, zs, rfl, sq_of (x1 _ _ gz), by omega, rfl⟩, q1⟩) ea_nil)) (by show 2 ≤ 100000; decide)) fun pt H14 npt e14 h14 => ?_
        have gz := e14 _ _ gz
        have h12 := e14 _ _ h12
        have e := (e.trans e13).trans e14
        have dl := due_le zs
        have de := due_eq (ks := zs)
        have ix {σ : L2.St} {U : Hp} (j : Nat) (hj : j < 2) (x : Ex H14 U) (hσ : σ[10]? = some (some (.ref pt))) : Ev (tOp (rIxL K) (tVar 10) (tC (.int (j : Int)))) σ U (.int (fewOf zs : Int)) := ev_op (ev_var hσ) ev_c (rv_ixL (sq_of (x _ _ h14)) (atI_nat (j := j) (by
          have : j = 0 ∨ j = 1 := by omega
          rcases this with rfl | rfl <;> rfl)))
        have dsm : (dueN zs).natAbs ≤ 10 ^ 40 := by
          have d0 : 0 ≤ dueN zs := by
            unfold dueN
            rw [needs_sum]
            split <;> omega
          have := few_small (ks := zs) (by omega)
          omega
        with_reducible refine f_seq ?_
        refine s_if (b := false) (et_is (et_and (et_test (ev_op ev_c (ev_var rfl) (rv_isL (sq_of h12)))) fun _ => et_or (et_test (ev_op (ix 0 (by decide) (Ex.refl H14) rfl) (ev_var rfl) rv_I0)) fun _ => et_test (ev_op (ix 0 (by decide) (Ex.refl H14) rfl) (ix 1 (by decide) (Ex.refl H14) rfl) rv_neI)) (by
          rw [show decide ((fewOf zs : Int) < dueN zs) = false from decide_eq_false (by omega)]; simp)) (fun hb => nomatch hb) fun _ H15 e15 => f_next ?_
        have gz := e15 _ _ gz
        have h12 := e15 _ _ h12
        have h14 := e15 _ _ h14
        obtain ⟨t1, t2, same, r1, r2⟩ : ∃ t1 t2 : Str, ((3 : Int) ∉ needsOf zs → t1 = t2) ∧ (∀ {σ : L2.St} {U : Hp}, Ex H15 U → σ[10]? = some (some (.ref pt)) → Ev (tCB (rRepr K) (tCons (tVar 10) tNil)) σ U (.str t1)) ∧ ∀ {σ : L2.St} {U : Hp}, σ[9]? = some (some (.int (dueN zs))) → Ev (tCB (rRepr K) (tCons (tLst (tCons (tVar 9) (tCons (tVar 9) tNil))) tNil)) σ U (.str t2) := by
          refine ⟨(PyData.list (([(fewOf zs : Int), (fewOf zs : Int)] : List Int).map PyData.int)).shown, (PyData.list (([dueN zs, dueN zs] : List Int).map PyData.int)).shown, fun h => by rw [de h], fun x g => ?_, fun g => ?_⟩
          · exact ev_repr (ev_var g) (dp_ints (sq_of (x _ _ h14))) (fits_few (few_small (by omega)) (few_small (by omega)))
          · exact ev_reprL (d := .list (([dueN zs, dueN zs] : List Int).map PyData.int)) (xs := ([dueN zs, dueN zs] : List Int).map V.int) (el_lst (ea_cons (ev_var g) (ea_cons (ev_var g) ea_nil)) (by show 2 ≤ 100000; decide)) (fun p U1 x1 hp => dp_ints (sq_of hp)) (fits_few dsm dsm)
        have both : EvT (tAnd (tTest (tOp (rIn K true) (tC (.int 3)) (tVar 8))) (tTest (tOp rNe (tCB (rRepr K) (tCons (tVar 10) tNil)) (tCB (rRepr K) (tCons (tLst (tCons (tVar 9) (tCons (tVar 9) tNil))) tNil))))) [some (.ref a), some (.ref r), some (.ref m), some (.int (i0 : Int)), some (.ref l), some (.int y), some (.ref pz), some (.str (PyData.list (zs.map PyData.int)).shown), some (.ref pn), some (.int (dueN zs)), some (.ref pt)] H15 false := by
          by_cases h3 : (3 : Int) ∈ needsOf zs
          · exact et_is (et_and (a := false) (b := false) (et_is (et_test (ev_op ev_c (ev_var rfl) (rv_nisL (sq_of h12)))) (by rw [decide_eq_true h3]; rfl)) fun z => nomatch z) rfl
          · have e12 := same h3
            subst e12
            exact et_is (et_and (a := true) (b := false) (et_is (et_test (ev_op ev_c (ev_var rfl) (rv_nisL (sq_of h12)))) (by rw [decide_eq_false h3]; rfl)) fun _ => et_test (ev_op (r1 (Ex.refl _) rfl) (r2 rfl) rv_neS)) rfl
        refine s_if (b := false) (et_is (et_or (a := false) both fun _ => et_test (ev_op (ev_repr (ev_var rfl) (dp_ints (sq_of gz)) hfit) (ev_var rfl) rv_neS)) (by simp)) (fun hb => nomatch hb) fun _ H16 e16 => f_next ⟨_, _, _, _, _, rfl, (e.trans e15).trans e16⟩
      · subst hτ
        exact ⟨_, _, _, _, _, _, _, _, rfl, SL.ex_ e |>.less (by rw [← hB]; exact Nat.le_refl _), e _ _ hm⟩
    · obtain ⟨v3, v4, v5, v6, v7, v8, v9, v10, rfl, S3, hm⟩ := hp
      clear S1 S2 S3 h2
      with_reducible refine f_seq ?_
      have pw {σ : L2.St} {U : Hp} : Ev (tOp (rI CPow fun i j => .int (i ^ j.toNat)) (tC (.int 10)) (tC (.int 30))) σ U (.int (10 ^ 30)) := ev_op ev_c ev_c (rv_I (C := CPow) ⟨by decide, by decide, by decide⟩)
      have ng {σ : L2.St} {U : Hp} : Ev (tOp (rI0 fun i j => .int (i - j)) (tC (.int 0)) (tOp (rI CPow fun i j => .int (i ^ j.toNat)) (tC (.int 10)) (tC (.int 30)))) σ U (.int (0 - 10 ^ 30)) := ev_op ev_c pw rv_I0
      refine f_forC (f_lst (f_cons (f_evL (xs := [.int (10 ^ 30)]) (el_lst (ea_cons pw ea_nil) (by show 1 ≤ 100000; decide)) fun q0 U0 nq0 x0 hq0 => f_cons (f_evL (xs := [.int (10 ^ 30), .int (0 - 10 ^ 30)]) (el_lst (ea_cons pw (ea_cons ng ea_nil)) (by show 2 ≤ 100000; decide)) fun q1 U1 nq1 x1 hq1 => f_cons (f_evL (xs := [.int (0 - 10 ^ 30), .int 5, .int (10 ^ 30)]) (el_lst (ea_cons ng (ea_cons ev_c (ea_cons pw ea_nil))) (by show 3 ≤ 100000; decide)) fun q2 U2 nq2 x2 hq2 => f_nil ⟨by show 3 ≤ sizeLine; decide, fun pL npL => ?_⟩)))))
      have eL := Ex.new (o := .lst [.ref q0, .ref q1, .ref q2]) npL
      have hL : (upd U2 pL (.lst [.ref q0, .ref q1, .ref q2])) pL = some (.lst [.ref q0, .ref q1, .ref q2]) := upd_same
      have hq0 := (x1.trans (x2.trans eL)) _ _ hq0
      have hq1 := (x2.trans eL) _ _ hq1
      have hq2 := eL _ _ hq2
      have hm := (x0.trans (x1.trans (x2.trans eL))) _ _ hm
      generalize upd U2 pL (.lst [.ref q0, .ref q1, .ref q2]) = HL at hL hm hq0 hq1 hq2 ⊢
      have all : ∀ x, x ∈ ([.ref q0, .ref q1, .ref q2] : List V) → ∃ (p : Addr) (zs : List Int), x = .ref p ∧ zs.length ≤ 3 ∧ (3 : Int) ∉ needsOf zs ∧ HL p = some (.lst (zs.map V.int)) := fun x hx => by
        simp only [List.mem_cons, List.not_mem_nil, or_false] at hx
        rcases hx with rfl | rfl | rfl
        · exact ⟨q0, [10 ^ 30], rfl, by decide, by decide +kernel, hq0⟩
        · exact ⟨q1, [10 ^ 30, 0 - 10 ^ 30], rfl, by decide, by decide +kernel, hq1⟩
        · exact ⟨q2, [0 - 10 ^ 30, 5, 10 ^ 30], rfl, by decide, by decide +kernel, hq2⟩
      refine s_forLn (xs := [.ref q0, .ref q1, .ref q2]) ev_c (sq_of hL) (fun i τ U => ∃ v6 v8 : Option V, τ = [some (.ref a), some (.ref r), some (.ref m), v3, v4, v5, v6, v7, v8, v9, v10] ∧ Ex HL U) (fun H10 e10 => ⟨_, _, rfl, e10⟩) (fun i τ U _ ⟨_, _, _, e⟩ => ex_l e (sq_of hL)) (fun i x τ U hx ⟨v6, v8, hτ, e⟩ => ?_) fun τ U ⟨v6, v8, hτ, e⟩ => ?_
      · subst hτ
        obtain ⟨pz, zs, rfl, hzl, h3, hpz⟩ := all x (List.mem_of_getElem? hx)
        have gz := e _ _ hpz
        have gm := e _ _ hm
        with_reducible refine f_seq ?_
        refine s_asgL (el_callH (D := D_needs K) (xs := (needsOf zs).map V.int) (ea_cons (ev_var rfl) (ea_cons (ev_var rfl) ea_nil)) fun H12 e12 => ⟨m, pz, zs, rfl, sq_of (e12 _ _ gm), sq_of (e12 _ _ gz), by omega, rfl⟩) fun pn H12 npn e12 h12 => ?_
        have gz := e12 _ _ gz
        refine s_if (b := false) (et_is (et_test (ev_op (ev_few (K := K) (ev_var rfl) gz (by omega)) (ev_dueN (K := K) (fun _ _ => ev_var rfl) h12 (fun _ _ => ev_var rfl) gz fun _ _ => rp) rv_neI)) (by rw [due_eq h3]; simp)) (fun hb => nomatch hb) fun _ H13 e13 => f_next ⟨_, _, rfl, (e.trans e12).trans e13⟩
      · subst hτ
        have f0 : fewOf [] = 0 := by decide +kernel
        have f1 : fewOf [0, 0] = 0 := by decide +kernel
        have f2 : fewOf [4800] = 1 := by decide +kernel
        have f3 : fewOf [4800, -4800] = 0 := by decide +kernel
        refine s_ret (ev_is (w := .bl true) (ev_opLL (z := .bl (decide (([0, 0, 1, 0] : List Int) = [0, 0, 1, 0]))) (xs := ([0, 0, 1, 0] : List Int).map V.int) (ys := ([0, 0, 1, 0] : List Int).map V.int) (el_lst (ea_cons (ev_is (ev_fewL (K := K) (ks := []) (el_lst ea_nil (Nat.zero_le _)) (by decide)) (by rw [f0]; rfl)) (ea_cons (ev_is (ev_fewL (K := K) (ks := [0, 0]) (el_lst (ea_cons ev_c (ea_cons ev_c ea_nil)) (by show 2 ≤ 100000; decide)) (by decide)) (by rw [f1]; rfl)) (ea_cons (ev_is (ev_fewL (K := K) (ks := [4800]) (el_lst (ea_cons ev_c ea_nil) (by show 1 ≤ 100000; decide)) (by decide)) (by rw [f2]; rfl)) (ea_cons (ev_is (ev_fewL (K := K) (ks := [4800, -4800]) (el_lst (ea_cons ev_c (ea_cons (ev_un ev_c ru_neg) ea_nil)) (by show 2 ≤ 100000; decide)) (by decide)) (by rw [f3]; rfl)) ea_nil)))) (by show 4 ≤ 100000; decide)) (el_lst (ea_cons ev_c (ea_cons ev_c (ea_cons ev_c (ea_cons ev_c ea_nil)))) (by show 4 ≤ 100000; decide)) fun p r H7 hp hr _ => rv_eqL (sq_of hp) (sq_of hr)) (by simp)) fun H13 e13 => q _

end
theorem all_mk {l : PySem.W.OpenLaw} {w : World} {K : PySem.W.Frag} {h : Heap} {mg : Str → Option Value} {fa : Addr} (X : K.In h) (G : h.Ns mainGlobals mg) (hfa : mg "law" = some (.ref fa))
    {od_visits an_visits : Option Addr} {sl_visits : Array (Option Value)} {oc_visits kV_visits dc_visits pm_visits cd_visits ct_visits : Value} {f_visits : Addr}
    (a_visits : PySem.W.nsIn K mainGlobals "visits" = some (some (.ref f_visits)))
    (l_visits : K.lookup f_visits = some ⟨oc_visits, od_visits, .func (PySem.W.fnOf "visits" "visits" (defArgs s_visits) (defBody s_visits) (defScope s_visits) .none kV_visits dc_visits pm_visits an_visits cd_visits ct_visits), sl_visits⟩)
    (c_visits : PySem.W.codeIn K cd_visits "visits" = true)
    (k_visits : PySem.W.keepIn K (.ref f_visits) = true)
    {od_by_remainder an_by_remainder : Option Addr} {sl_by_remainder : Array (Option Value)} {oc_by_remainder kV_by_remainder dc_by_remainder pm_by_remainder cd_by_remainder ct_by_remainder : Value} {f_by_remainder : Addr}
    (a_by_remainder : PySem.W.nsIn K mainGlobals "by_remainder" = some (some (.ref f_by_remainder)))
    (l_by_remainder : K.lookup f_by_remainder = some ⟨oc_by_remainder, od_by_remainder, .func (PySem.W.fnOf "by_remainder" "by_remainder" (defArgs s_by_remainder) (defBody s_by_remainder) (defScope s_by_remainder) .none kV_by_remainder dc_by_remainder pm_by_remainder an_by_remainder cd_by_remainder ct_by_remainder), sl_by_remainder⟩)
    (c_by_remainder : PySem.W.codeIn K cd_by_remainder "by_remainder" = true)
    (k_by_remainder : PySem.W.keepIn K (.ref f_by_remainder) = true)
    {od_standing_years an_standing_years : Option Addr} {sl_standing_years : Array (Option Value)} {oc_standing_years kV_standing_years dc_standing_years pm_standing_years cd_standing_years ct_standing_years : Value} {f_standing_years : Addr}
    (a_standing_years : PySem.W.nsIn K mainGlobals "standing_years" = some (some (.ref f_standing_years)))
    (l_standing_years : K.lookup f_standing_years = some ⟨oc_standing_years, od_standing_years, .func (PySem.W.fnOf "standing_years" "standing_years" (defArgs s_standing_years) (defBody s_standing_years) (defScope s_standing_years) .none kV_standing_years dc_standing_years pm_standing_years an_standing_years cd_standing_years ct_standing_years), sl_standing_years⟩)
    (c_standing_years : PySem.W.codeIn K cd_standing_years "standing_years" = true)
    (k_standing_years : PySem.W.keepIn K (.ref f_standing_years) = true)
    {od_standing_for an_standing_for : Option Addr} {sl_standing_for : Array (Option Value)} {oc_standing_for kV_standing_for dc_standing_for pm_standing_for cd_standing_for ct_standing_for : Value} {f_standing_for : Addr}
    (a_standing_for : PySem.W.nsIn K mainGlobals "_standing_for" = some (some (.ref f_standing_for)))
    (l_standing_for : K.lookup f_standing_for = some ⟨oc_standing_for, od_standing_for, .func (PySem.W.fnOf "_standing_for" "_standing_for" (defArgs s_standing_for) (defBody s_standing_for) (defScope s_standing_for) .none kV_standing_for dc_standing_for pm_standing_for an_standing_for cd_standing_for ct_standing_for), sl_standing_for⟩)
    (c_standing_for : PySem.W.codeIn K cd_standing_for "_standing_for" = true)
    (k_standing_for : PySem.W.keepIn K (.ref f_standing_for) = true)
    {od_fours_standing_for an_fours_standing_for : Option Addr} {sl_fours_standing_for : Array (Option Value)} {oc_fours_standing_for kV_fours_standing_for dc_fours_standing_for pm_fours_standing_for cd_fours_standing_for ct_fours_standing_for : Value} {f_fours_standing_for : Addr}
    (a_fours_standing_for : PySem.W.nsIn K mainGlobals "_fours_standing_for" = some (some (.ref f_fours_standing_for)))
    (l_fours_standing_for : K.lookup f_fours_standing_for = some ⟨oc_fours_standing_for, od_fours_standing_for, .func (PySem.W.fnOf "_fours_standing_for" "_fours_standing_for" (defArgs s_fours_standing_for) (defBody s_fours_standing_for) (defScope s_fours_standing_for) .none kV_fours_standing_for dc_fours_standing_for pm_fours_standing_for an_fours_standing_for cd_fours_standing_for ct_fours_standing_for), sl_fours_standing_for⟩)
    (c_fours_standing_for : PySem.W.codeIn K cd_fours_standing_for "_fours_standing_for" = true)
    (k_fours_standing_for : PySem.W.keepIn K (.ref f_fours_standing_for) = true)
    {od_fewest_steps an_fewest_steps : Option Addr} {sl_fewest_steps : Array (Option Value)} {oc_fewest_steps kV_fewest_steps dc_fewest_steps pm_fewest_steps cd_fewest_steps ct_fewest_steps : Value} {f_fewest_steps : Addr}
    (a_fewest_steps : PySem.W.nsIn K mainGlobals "fewest_steps" = some (some (.ref f_fewest_steps)))
    (l_fewest_steps : K.lookup f_fewest_steps = some ⟨oc_fewest_steps, od_fewest_steps, .func (PySem.W.fnOf "fewest_steps" "fewest_steps" (defArgs s_fewest_steps) (defBody s_fewest_steps) (defScope s_fewest_steps) .none kV_fewest_steps dc_fewest_steps pm_fewest_steps an_fewest_steps cd_fewest_steps ct_fewest_steps), sl_fewest_steps⟩)
    (c_fewest_steps : PySem.W.codeIn K cd_fewest_steps "fewest_steps" = true)
    (k_fewest_steps : PySem.W.keepIn K (.ref f_fewest_steps) = true)
    {od_shortest_list an_shortest_list : Option Addr} {sl_shortest_list : Array (Option Value)} {oc_shortest_list kV_shortest_list dc_shortest_list pm_shortest_list cd_shortest_list ct_shortest_list : Value} {f_shortest_list : Addr}
    (a_shortest_list : PySem.W.nsIn K mainGlobals "shortest_list" = some (some (.ref f_shortest_list)))
    (l_shortest_list : K.lookup f_shortest_list = some ⟨oc_shortest_list, od_shortest_list, .func (PySem.W.fnOf "shortest_list" "shortest_list" (defArgs s_shortest_list) (defBody s_shortest_list) (defScope s_shortest_list) .none kV_shortest_list dc_shortest_list pm_shortest_list an_shortest_list cd_shortest_list ct_shortest_list), sl_shortest_list⟩)
    (c_shortest_list : PySem.W.codeIn K cd_shortest_list "shortest_list" = true)
    (k_shortest_list : PySem.W.keepIn K (.ref f_shortest_list) = true)
    {od_visits_between an_visits_between : Option Addr} {sl_visits_between : Array (Option Value)} {oc_visits_between kV_visits_between dc_visits_between pm_visits_between cd_visits_between ct_visits_between : Value} {f_visits_between : Addr}
    (a_visits_between : PySem.W.nsIn K mainGlobals "_visits_between" = some (some (.ref f_visits_between)))
    (l_visits_between : K.lookup f_visits_between = some ⟨oc_visits_between, od_visits_between, .func (PySem.W.fnOf "_visits_between" "_visits_between" (defArgs s_visits_between) (defBody s_visits_between) (defScope s_visits_between) .none kV_visits_between dc_visits_between pm_visits_between an_visits_between cd_visits_between ct_visits_between), sl_visits_between⟩)
    (c_visits_between : PySem.W.codeIn K cd_visits_between "_visits_between" = true)
    (k_visits_between : PySem.W.keepIn K (.ref f_visits_between) = true)
    {od_years_between an_years_between : Option Addr} {sl_years_between : Array (Option Value)} {oc_years_between kV_years_between dc_years_between pm_years_between cd_years_between ct_years_between : Value} {f_years_between : Addr}
    (a_years_between : PySem.W.nsIn K mainGlobals "_years_between" = some (some (.ref f_years_between)))
    (l_years_between : K.lookup f_years_between = some ⟨oc_years_between, od_years_between, .func (PySem.W.fnOf "_years_between" "_years_between" (defArgs s_years_between) (defBody s_years_between) (defScope s_years_between) .none kV_years_between dc_years_between pm_years_between an_years_between cd_years_between ct_years_between), sl_years_between⟩)
    (c_years_between : PySem.W.codeIn K cd_years_between "_years_between" = true)
    (k_years_between : PySem.W.keepIn K (.ref f_years_between) = true)
    {od_law_rng an_law_rng : Option Addr} {sl_law_rng : Array (Option Value)} {oc_law_rng kV_law_rng dc_law_rng pm_law_rng cd_law_rng ct_law_rng : Value} {f_law_rng : Addr}
    (a_law_rng : PySem.W.nsIn K mainGlobals "_law_rng" = some (some (.ref f_law_rng)))
    (l_law_rng : K.lookup f_law_rng = some ⟨oc_law_rng, od_law_rng, .func (PySem.W.fnOf "_law_rng" "_law_rng" (defArgs s_law_rng) (defBody s_law_rng) (defScope s_law_rng) .none kV_law_rng dc_law_rng pm_law_rng an_law_rng cd_law_rng ct_law_rng), sl_law_rng⟩)
    (c_law_rng : PySem.W.codeIn K cd_law_rng "_law_rng" = true)
    (k_law_rng : PySem.W.keepIn K (.ref f_law_rng) = true)
    {od_law_draw an_law_draw : Option Addr} {sl_law_draw : Array (Option Value)} {oc_law_draw kV_law_draw dc_law_draw pm_law_draw cd_law_draw ct_law_draw : Value} {f_law_draw : Addr}
    (a_law_draw : PySem.W.nsIn K mainGlobals "_law_draw" = some (some (.ref f_law_draw)))
    (l_law_draw : K.lookup f_law_draw = some ⟨oc_law_draw, od_law_draw, .func (PySem.W.fnOf "_law_draw" "_law_draw" (defArgs s_law_draw) (defBody s_law_draw) (defScope s_law_draw) .none kV_law_draw dc_law_draw pm_law_draw an_law_draw cd_law_draw ct_law_draw), sl_law_draw⟩)
    (c_law_draw : PySem.W.codeIn K cd_law_draw "_law_draw" = true)
    (k_law_draw : PySem.W.keepIn K (.ref f_law_draw) = true)
    {od_law_one an_law_one : Option Addr} {sl_law_one : Array (Option Value)} {oc_law_one kV_law_one dc_law_one pm_law_one cd_law_one ct_law_one : Value} {f_law_one : Addr}
    (a_law_one : PySem.W.nsIn K mainGlobals "_law_one" = some (some (.ref f_law_one)))
    (l_law_one : K.lookup f_law_one = some ⟨oc_law_one, od_law_one, .func (PySem.W.fnOf "_law_one" "_law_one" (defArgs s_law_one) (defBody s_law_one) (defScope s_law_one) .none kV_law_one dc_law_one pm_law_one an_law_one cd_law_one ct_law_one), sl_law_one⟩)
    (c_law_one : PySem.W.codeIn K cd_law_one "_law_one" = true)
    (k_law_one : PySem.W.keepIn K (.ref f_law_one) = true)
    {od_law_moves an_law_moves : Option Addr} {sl_law_moves : Array (Option Value)} {oc_law_moves kV_law_moves dc_law_moves pm_law_moves cd_law_moves ct_law_moves : Value} {f_law_moves : Addr}
    (a_law_moves : PySem.W.nsIn K mainGlobals "_law_moves" = some (some (.ref f_law_moves)))
    (l_law_moves : K.lookup f_law_moves = some ⟨oc_law_moves, od_law_moves, .func (PySem.W.fnOf "_law_moves" "_law_moves" (defArgs s_law_moves) (defBody s_law_moves) (defScope s_law_moves) .none kV_law_moves dc_law_moves pm_law_moves an_law_moves cd_law_moves ct_law_moves), sl_law_moves⟩)
    (c_law_moves : PySem.W.codeIn K cd_law_moves "_law_moves" = true)
    (k_law_moves : PySem.W.keepIn K (.ref f_law_moves) = true)
    {od_law_is_leap an_law_is_leap : Option Addr} {sl_law_is_leap : Array (Option Value)} {oc_law_is_leap kV_law_is_leap dc_law_is_leap pm_law_is_leap cd_law_is_leap ct_law_is_leap : Value} {f_law_is_leap : Addr}
    (a_law_is_leap : PySem.W.nsIn K mainGlobals "_law_is_leap" = some (some (.ref f_law_is_leap)))
    (l_law_is_leap : K.lookup f_law_is_leap = some ⟨oc_law_is_leap, od_law_is_leap, .func (PySem.W.fnOf "_law_is_leap" "_law_is_leap" (defArgs s_law_is_leap) (defBody s_law_is_leap) (defScope s_law_is_leap) .none kV_law_is_leap dc_law_is_leap pm_law_is_leap an_law_is_leap cd_law_is_leap ct_law_is_leap), sl_law_is_leap⟩)
    (c_law_is_leap : PySem.W.codeIn K cd_law_is_leap "_law_is_leap" = true)
    (k_law_is_leap : PySem.W.keepIn K (.ref f_law_is_leap) = true)
    {od_law_sums an_law_sums : Option Addr} {sl_law_sums : Array (Option Value)} {oc_law_sums kV_law_sums dc_law_sums pm_law_sums cd_law_sums ct_law_sums : Value} {f_law_sums : Addr}
    (a_law_sums : PySem.W.nsIn K mainGlobals "_law_sums" = some (some (.ref f_law_sums)))
    (l_law_sums : K.lookup f_law_sums = some ⟨oc_law_sums, od_law_sums, .func (PySem.W.fnOf "_law_sums" "_law_sums" (defArgs s_law_sums) (defBody s_law_sums) (defScope s_law_sums) .none kV_law_sums dc_law_sums pm_law_sums an_law_sums cd_law_sums ct_law_sums), sl_law_sums⟩)
    (c_law_sums : PySem.W.codeIn K cd_law_sums "_law_sums" = true)
    (k_law_sums : PySem.W.keepIn K (.ref f_law_sums) = true)
    {od_law_masks an_law_masks : Option Addr} {sl_law_masks : Array (Option Value)} {oc_law_masks kV_law_masks dc_law_masks pm_law_masks cd_law_masks ct_law_masks : Value} {f_law_masks : Addr}
    (a_law_masks : PySem.W.nsIn K mainGlobals "_law_masks" = some (some (.ref f_law_masks)))
    (l_law_masks : K.lookup f_law_masks = some ⟨oc_law_masks, od_law_masks, .func (PySem.W.fnOf "_law_masks" "_law_masks" (defArgs s_law_masks) (defBody s_law_masks) (defScope s_law_masks) .none kV_law_masks dc_law_masks pm_law_masks an_law_masks cd_law_masks ct_law_masks), sl_law_masks⟩)
    (c_law_masks : PySem.W.codeIn K cd_law_masks "_law_masks" = true)
    (k_law_masks : PySem.W.keepIn K (.ref f_law_masks) = true)
    {od_law_joined an_law_joined : Option Addr} {sl_law_joined : Array (Option Value)} {oc_law_joined kV_law_joined dc_law_joined pm_law_joined cd_law_joined ct_law_joined : Value} {f_law_joined : Addr}
    (a_law_joined : PySem.W.nsIn K mainGlobals "_law_joined" = some (some (.ref f_law_joined)))
    (l_law_joined : K.lookup f_law_joined = some ⟨oc_law_joined, od_law_joined, .func (PySem.W.fnOf "_law_joined" "_law_joined" (defArgs s_law_joined) (defBody s_law_joined) (defScope s_law_joined) .none kV_law_joined dc_law_joined pm_law_joined an_law_joined cd_law_joined ct_law_joined), sl_law_joined⟩)
    (c_law_joined : PySem.W.codeIn K cd_law_joined "_law_joined" = true)
    (k_law_joined : PySem.W.keepIn K (.ref f_law_joined) = true)
    {od_law_extra an_law_extra : Option Addr} {sl_law_extra : Array (Option Value)} {oc_law_extra kV_law_extra dc_law_extra pm_law_extra cd_law_extra ct_law_extra : Value} {f_law_extra : Addr}
    (a_law_extra : PySem.W.nsIn K mainGlobals "_law_extra" = some (some (.ref f_law_extra)))
    (l_law_extra : K.lookup f_law_extra = some ⟨oc_law_extra, od_law_extra, .func (PySem.W.fnOf "_law_extra" "_law_extra" (defArgs s_law_extra) (defBody s_law_extra) (defScope s_law_extra) .none kV_law_extra dc_law_extra pm_law_extra an_law_extra cd_law_extra ct_law_extra), sl_law_extra⟩)
    (c_law_extra : PySem.W.codeIn K cd_law_extra "_law_extra" = true)
    (k_law_extra : PySem.W.keepIn K (.ref f_law_extra) = true)
    {od_law_needs an_law_needs : Option Addr} {sl_law_needs : Array (Option Value)} {oc_law_needs kV_law_needs dc_law_needs pm_law_needs cd_law_needs ct_law_needs : Value} {f_law_needs : Addr}
    (a_law_needs : PySem.W.nsIn K mainGlobals "_law_needs" = some (some (.ref f_law_needs)))
    (l_law_needs : K.lookup f_law_needs = some ⟨oc_law_needs, od_law_needs, .func (PySem.W.fnOf "_law_needs" "_law_needs" (defArgs s_law_needs) (defBody s_law_needs) (defScope s_law_needs) .none kV_law_needs dc_law_needs pm_law_needs an_law_needs cd_law_needs ct_law_needs), sl_law_needs⟩)
    (c_law_needs : PySem.W.codeIn K cd_law_needs "_law_needs" = true)
    (k_law_needs : PySem.W.keepIn K (.ref f_law_needs) = true)
    {od_law an_law : Option Addr} {sl_law : Array (Option Value)} {oc_law kV_law dc_law pm_law cd_law ct_law : Value} {f_law : Addr}
    (a_law : PySem.W.nsIn K mainGlobals "law" = some (some (.ref f_law)))
    (l_law : K.lookup f_law = some ⟨oc_law, od_law, .func (PySem.W.fnOf "law" "law" (defArgs s_law) (defBody s_law) (defScope s_law) .none kV_law dc_law pm_law an_law cd_law ct_law), sl_law⟩)
    (c_law : PySem.W.codeIn K cd_law "law" = true)
    (k_law : PySem.W.keepIn K (.ref f_law) = true)
    (z_abs : PySem.W.nsIn K mainGlobals "abs" = some none)
    (z_any : PySem.W.nsIn K mainGlobals "any" = some none)
    (z_len : PySem.W.nsIn K mainGlobals "len" = some none)
    (z_list : PySem.W.nsIn K mainGlobals "list" = some none)
    (z_min : PySem.W.nsIn K mainGlobals "min" = some none)
    (z_range : PySem.W.nsIn K mainGlobals "range" = some none)
    (z_repr : PySem.W.nsIn K mainGlobals "repr" = some none)
    (z_set : PySem.W.nsIn K mainGlobals "set" = some none)
    (z_sorted : PySem.W.nsIn K mainGlobals "sorted" = some none)
    (z_sum : PySem.W.nsIn K mainGlobals "sum" = some none)
    {ca_NEVER_LEAP : Addr} {cd_NEVER_LEAP : Option Addr} {cs_NEVER_LEAP : Array (Option Value)} {cn_NEVER_LEAP : Nat} {ct_NEVER_LEAP_0 ct_NEVER_LEAP_1 : Tok}
    (ga_NEVER_LEAP : PySem.W.nsIn K mainGlobals "NEVER_LEAP" = some (some (.ref ca_NEVER_LEAP)))
    (gl_NEVER_LEAP : K.lookup ca_NEVER_LEAP = some ⟨.type "tuple", cd_NEVER_LEAP, .seq #[.int 0 ct_NEVER_LEAP_0, .int 1 ct_NEVER_LEAP_1] cn_NEVER_LEAP, cs_NEVER_LEAP⟩) :
    ∃ fd : FuncData, (∀ (s : Shared) (v : Value), BindsTo s fd ⟨[v], []⟩ [("script", v)]) ∧ ∀ base : Heap, K.In base → base.Ns mainGlobals mg → FnG l.prog w K mg base CX0 9 fa fd ["script"] (spLaw K) := by
  have e := hfa.symm.trans (PySem.W.mg_of X G a_law)
  cases e
  have F_visits := fun_mk (st := s_visits) l_visits c_visits k_visits
  have F_by_remainder := fun_mk (st := s_by_remainder) l_by_remainder c_by_remainder k_by_remainder
  have F_standing_years := fun_mk (st := s_standing_years) l_standing_years c_standing_years k_standing_years
  have F_standing_for := fun_mk (st := s_standing_for) l_standing_for c_standing_for k_standing_for
  have F_fours_standing_for := fun_mk (st := s_fours_standing_for) l_fours_standing_for c_fours_standing_for k_fours_standing_for
  have F_fewest_steps := fun_mk (st := s_fewest_steps) l_fewest_steps c_fewest_steps k_fewest_steps
  have F_shortest_list := fun_mk (st := s_shortest_list) l_shortest_list c_shortest_list k_shortest_list
  have F_visits_between := fun_mk (st := s_visits_between) l_visits_between c_visits_between k_visits_between
  have F_years_between := fun_mk (st := s_years_between) l_years_between c_years_between k_years_between
  have F_law_rng := fun_mk (st := s_law_rng) l_law_rng c_law_rng k_law_rng
  have F_law_draw := fun_mk (st := s_law_draw) l_law_draw c_law_draw k_law_draw
  have F_law_one := fun_mk (st := s_law_one) l_law_one c_law_one k_law_one
  have F_law_moves := fun_mk (st := s_law_moves) l_law_moves c_law_moves k_law_moves
  have F_law_is_leap := fun_mk (st := s_law_is_leap) l_law_is_leap c_law_is_leap k_law_is_leap
  have F_law_sums := fun_mk (st := s_law_sums) l_law_sums c_law_sums k_law_sums
  have F_law_masks := fun_mk (st := s_law_masks) l_law_masks c_law_masks k_law_masks
  have F_law_joined := fun_mk (st := s_law_joined) l_law_joined c_law_joined k_law_joined
  have F_law_extra := fun_mk (st := s_law_extra) l_law_extra c_law_extra k_law_extra
  have F_law_needs := fun_mk (st := s_law_needs) l_law_needs c_law_needs k_law_needs
  have F_law := fun_mk (st := s_law) l_law c_law k_law
  let T : Top K mg := {
    f_visits := f_visits
    fd_visits := _
    F_visits := F_visits
    g_visits := PySem.W.mg_of X G a_visits
    b_visits := (F_visits.binds (ps := ["steps"]) fun _ _ _ _ _ _ us hl => match us, hl with | [_], _ => rfl)
    f_by_remainder := f_by_remainder
    fd_by_remainder := _
    F_by_remainder := F_by_remainder
    g_by_remainder := PySem.W.mg_of X G a_by_remainder
    b_by_remainder := (F_by_remainder.binds (ps := ["numbers", "divisor"]) fun _ _ _ _ _ _ us hl => match us, hl with | [_, _], _ => rfl)
    f_standing_years := f_standing_years
    fd_standing_years := _
    F_standing_years := F_standing_years
    g_standing_years := PySem.W.mg_of X G a_standing_years
    b_standing_years := (F_standing_years.binds (ps := ["steps"]) fun _ _ _ _ _ _ us hl => match us, hl with | [_], _ => rfl)
    f_standing_for := f_standing_for
    fd_standing_for := _
    F_standing_for := F_standing_for
    g_standing_for := PySem.W.mg_of X G a_standing_for
    b_standing_for := (F_standing_for.binds (ps := ["years"]) fun _ _ _ _ _ _ us hl => match us, hl with | [_], _ => rfl)
    f_fours_standing_for := f_fours_standing_for
    fd_fours_standing_for := _
    F_fours_standing_for := F_fours_standing_for
    g_fours_standing_for := PySem.W.mg_of X G a_fours_standing_for
    b_fours_standing_for := (F_fours_standing_for.binds (ps := ["fours"]) fun _ _ _ _ _ _ us hl => match us, hl with | [_], _ => rfl)
    f_fewest_steps := f_fewest_steps
    fd_fewest_steps := _
    F_fewest_steps := F_fewest_steps
    g_fewest_steps := PySem.W.mg_of X G a_fewest_steps
    b_fewest_steps := (F_fewest_steps.binds (ps := ["steps"]) fun _ _ _ _ _ _ us hl => match us, hl with | [_], _ => rfl)
    f_shortest_list := f_shortest_list
    fd_shortest_list := _
    F_shortest_list := F_shortest_list
    g_shortest_list := PySem.W.mg_of X G a_shortest_list
    b_shortest_list := (F_shortest_list.binds (ps := ["steps"]) fun _ _ _ _ _ _ us hl => match us, hl with | [_], _ => rfl)
    f_visits_between := f_visits_between
    fd_visits_between := _
    F_visits_between := F_visits_between
    g_visits_between := PySem.W.mg_of X G a_visits_between
    b_visits_between := (F_visits_between.binds (ps := ["steps"]) fun _ _ _ _ _ _ us hl => match us, hl with | [_], _ => rfl)
    f_years_between := f_years_between
    fd_years_between := _
    F_years_between := F_years_between
    g_years_between := PySem.W.mg_of X G a_years_between
    b_years_between := (F_years_between.binds (ps := ["years", "ends"]) fun _ _ _ _ _ _ us hl => match us, hl with | [_, _], _ => rfl)
    f_law_rng := f_law_rng
    fd_law_rng := _
    F_law_rng := F_law_rng
    g_law_rng := PySem.W.mg_of X G a_law_rng
    b_law_rng := (F_law_rng.binds (ps := ["script"]) fun _ _ _ _ _ _ us hl => match us, hl with | [_], _ => rfl)
    f_law_draw := f_law_draw
    fd_law_draw := _
    F_law_draw := F_law_draw
    g_law_draw := PySem.W.mg_of X G a_law_draw
    b_law_draw := (F_law_draw.binds (ps := ["rng", "limit"]) fun _ _ _ _ _ _ us hl => match us, hl with | [_, _], _ => rfl)
    f_law_one := f_law_one
    fd_law_one := _
    F_law_one := F_law_one
    g_law_one := PySem.W.mg_of X G a_law_one
    b_law_one := (F_law_one.binds (ps := ["rng", "kind"]) fun _ _ _ _ _ _ us hl => match us, hl with | [_, _], _ => rfl)
    f_law_moves := f_law_moves
    fd_law_moves := _
    F_law_moves := F_law_moves
    g_law_moves := PySem.W.mg_of X G a_law_moves
    b_law_moves := (F_law_moves.binds (ps := ["rng", "most"]) fun _ _ _ _ _ _ us hl => match us, hl with | [_, _], _ => rfl)
    f_law_is_leap := f_law_is_leap
    fd_law_is_leap := _
    F_law_is_leap := F_law_is_leap
    g_law_is_leap := PySem.W.mg_of X G a_law_is_leap
    b_law_is_leap := (F_law_is_leap.binds (ps := ["year"]) fun _ _ _ _ _ _ us hl => match us, hl with | [_], _ => rfl)
    f_law_sums := f_law_sums
    fd_law_sums := _
    F_law_sums := F_law_sums
    g_law_sums := PySem.W.mg_of X G a_law_sums
    b_law_sums := (F_law_sums.binds (ps := ["moves"]) fun _ _ _ _ _ _ us hl => match us, hl with | [_], _ => rfl)
    f_law_masks := f_law_masks
    fd_law_masks := _
    F_law_masks := F_law_masks
    g_law_masks := PySem.W.mg_of X G a_law_masks
    b_law_masks := (F_law_masks.binds (ps := []) fun _ _ _ _ _ _ us hl => match us, hl with | [], _ => rfl)
    f_law_joined := f_law_joined
    fd_law_joined := _
    F_law_joined := F_law_joined
    g_law_joined := PySem.W.mg_of X G a_law_joined
    b_law_joined := (F_law_joined.binds (ps := ["masks", "years"]) fun _ _ _ _ _ _ us hl => match us, hl with | [_, _], _ => rfl)
    f_law_extra := f_law_extra
    fd_law_extra := _
    F_law_extra := F_law_extra
    g_law_extra := PySem.W.mg_of X G a_law_extra
    b_law_extra := (F_law_extra.binds (ps := ["masks", "wanted", "present"]) fun _ _ _ _ _ _ us hl => match us, hl with | [_, _, _], _ => rfl)
    f_law_needs := f_law_needs
    fd_law_needs := _
    F_law_needs := F_law_needs
    g_law_needs := PySem.W.mg_of X G a_law_needs
    b_law_needs := (F_law_needs.binds (ps := ["masks", "moves"]) fun _ _ _ _ _ _ us hl => match us, hl with | [_, _], _ => rfl)
    f_law := fa
    fd_law := _
    F_law := F_law
    g_law := PySem.W.mg_of X G a_law
    b_law := (F_law.binds (ps := ["script"]) fun _ _ _ _ _ _ us hl => match us, hl with | [_], _ => rfl)
    z_abs := PySem.W.mg_none_of X G z_abs
    z_any := PySem.W.mg_none_of X G z_any
    z_len := PySem.W.mg_none_of X G z_len
    z_list := PySem.W.mg_none_of X G z_list
    z_min := PySem.W.mg_none_of X G z_min
    z_range := PySem.W.mg_none_of X G z_range
    z_repr := PySem.W.mg_none_of X G z_repr
    z_set := PySem.W.mg_none_of X G z_set
    z_sorted := PySem.W.mg_none_of X G z_sorted
    z_sum := PySem.W.mg_none_of X G z_sum
    a_NEVER_LEAP := ca_NEVER_LEAP
    g_NEVER_LEAP := PySem.W.mg_of X G ga_NEVER_LEAP
    q_NEVER_LEAP := fun H => Or.inr ⟨_, _, _, gl_NEVER_LEAP, rfl, rfl, (by show 2 ≤ sizeLine; decide), .cons ⟨_, rfl⟩ (.cons ⟨_, rfl⟩ .nil)⟩ }
  exact ⟨_, fun s v => .of_eq rfl, fun base _ _ => ok_law T⟩
end Mk

open PySem PySem.W PyProof.Rows
set_option maxRecDepth 100000 in
set_option maxHeartbeats 0 in
theorem PySem.Challenge.cw_monthclamp_k14_fewest_steps_by_search_holds : PySem.Challenge.rw_monthclamp_k14_fewest_steps_by_search.Holds := by
  w_on; o_law; k_head; (case hw => w_witness2)
  k_fill
  refine Mc.walk_ofG (l := PySem.Challenge.rw_monthclamp_k14_fewest_steps_by_search) (n := 63) (k := 9) (x := "script") (sp := fun w => Mk.spLaw _) rfl (by decide) rfl ⟨rfl, by decide, by decide⟩ (fun w h Y => PySem.W.kIn_of Y) ?F (fun _ _ a ns hl _ hS => ⟨a, ns, rfl, hS, hl, fun _ => rfl⟩)
  case F =>
    intro w mg fa h KX G hmg
    refine' Mk.all_mk KX G hmg ?a_visits ?l_visits ?c_visits ?k_visits ?a_by_remainder ?l_by_remainder ?c_by_remainder ?k_by_remainder ?a_standing_years ?l_standing_years ?c_standing_years ?k_standing_years ?a_standing_for ?l_standing_for ?c_standing_for ?k_standing_for ?a_fours_standing_for ?l_fours_standing_for ?c_fours_standing_for ?k_fours_standing_for ?a_fewest_steps ?l_fewest_steps ?c_fewest_steps ?k_fewest_steps ?a_shortest_list ?l_shortest_list ?c_shortest_list ?k_shortest_list ?a_visits_between ?l_visits_between ?c_visits_between ?k_visits_between ?a_years_between ?l_years_between ?c_years_between ?k_years_between ?a_law_rng ?l_law_rng ?c_law_rng ?k_law_rng ?a_law_draw ?l_law_draw ?c_law_draw ?k_law_draw ?a_law_one ?l_law_one ?c_law_one ?k_law_one ?a_law_moves ?l_law_moves ?c_law_moves ?k_law_moves ?a_law_is_leap ?l_law_is_leap ?c_law_is_leap ?k_law_is_leap ?a_law_sums ?l_law_sums ?c_law_sums ?k_law_sums ?a_law_masks ?l_law_masks ?c_law_masks ?k_law_masks ?a_law_joined ?l_law_joined ?c_law_joined ?k_law_joined ?a_law_extra ?l_law_extra ?c_law_extra ?k_law_extra ?a_law_needs ?l_law_needs ?c_law_needs ?k_law_needs ?a_law ?l_law ?c_law ?k_law ?z_abs ?z_any ?z_len ?z_list ?z_min ?z_range ?z_repr ?z_set ?z_sorted ?z_sum ?ga_NEVER_LEAP ?gl_NEVER_LEAP
    (case a_visits => k_is)
    (case l_visits => k_is)
    (case c_visits => k_is)
    (case k_visits => k_is)
    (case a_by_remainder => k_is)
    (case l_by_remainder => k_is)
    (case c_by_remainder => k_is)
    (case k_by_remainder => k_is)
    (case a_standing_years => k_is)
    (case l_standing_years => k_is)
    (case c_standing_years => k_is)
    (case k_standing_years => k_is)
    (case a_standing_for => k_is)
    (case l_standing_for => k_is)
    (case c_standing_for => k_is)
    (case k_standing_for => k_is)
    (case a_fours_standing_for => k_is)
    (case l_fours_standing_for => k_is)
    (case c_fours_standing_for => k_is)
    (case k_fours_standing_for => k_is)
    (case a_fewest_steps => k_is)
    (case l_fewest_steps => k_is)
    (case c_fewest_steps => k_is)
    (case k_fewest_steps => k_is)
    (case a_shortest_list => k_is)
    (case l_shortest_list => k_is)
    (case c_shortest_list => k_is)
    (case k_shortest_list => k_is)
    (case a_visits_between => k_is)
    (case l_visits_between => k_is)
    (case c_visits_between => k_is)
    (case k_visits_between => k_is)
    (case a_years_between => k_is)
    (case l_years_between => k_is)
    (case c_years_between => k_is)
    (case k_years_between => k_is)
    (case a_law_rng => k_is)
    (case l_law_rng => k_is)
    (case c_law_rng => k_is)
    (case k_law_rng => k_is)
    (case a_law_draw => k_is)
    (case l_law_draw => k_is)
    (case c_law_draw => k_is)
    (case k_law_draw => k_is)
    (case a_law_one => k_is)
    (case l_law_one => k_is)
    (case c_law_one => k_is)
    (case k_law_one => k_is)
    (case a_law_moves => k_is)
    (case l_law_moves => k_is)
    (case c_law_moves => k_is)
    (case k_law_moves => k_is)
    (case a_law_is_leap => k_is)
    (case l_law_is_leap => k_is)
    (case c_law_is_leap => k_is)
    (case k_law_is_leap => k_is)
    (case a_law_sums => k_is)
    (case l_law_sums => k_is)
    (case c_law_sums => k_is)
    (case k_law_sums => k_is)
    (case a_law_masks => k_is)
    (case l_law_masks => k_is)
    (case c_law_masks => k_is)
    (case k_law_masks => k_is)
    (case a_law_joined => k_is)
    (case l_law_joined => k_is)
    (case c_law_joined => k_is)
    (case k_law_joined => k_is)
    (case a_law_extra => k_is)
    (case l_law_extra => k_is)
    (case c_law_extra => k_is)
    (case k_law_extra => k_is)
    (case a_law_needs => k_is)
    (case l_law_needs => k_is)
    (case c_law_needs => k_is)
    (case k_law_needs => k_is)
    (case a_law => k_is)
    (case l_law => k_is)
    (case c_law => k_is)
    (case k_law => k_is)
    (case z_abs => k_is)
    (case z_any => k_is)
    (case z_len => k_is)
    (case z_list => k_is)
    (case z_min => k_is)
    (case z_range => k_is)
    (case z_repr => k_is)
    (case z_set => k_is)
    (case z_sorted => k_is)
    (case z_sum => k_is)
    (case ga_NEVER_LEAP => k_is)
    (case gl_NEVER_LEAP => k_is)
#print axioms PySem.Challenge.cw_monthclamp_k14_fewest_steps_by_search_holds
