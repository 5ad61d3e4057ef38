import PyProof.Rows.All
import Wide.All
import OpenK.AllK
import Wide.FinOn
import HandS.ForMost
import HandS.Wide
import HandS.IsInst
import HandS.Evl
import HandS.Defaults
import HandS.More
import HandS.Style
import HandS.Strs
import HandS.SetFor
import HandS.Zip
import PyProof.Rows.SortShellAny
import PySem.Challenge.RW_monthclamp_k05_whole_visits_decide_the_d
set_option Elab.async false
set_option linter.all false
set_option maxRecDepth 100000
set_option maxHeartbeats 4000000
namespace Mc
open PySem L2

/-! ### forward rules: one for each head of a reading -/
section
variable {K : PySem.W.Frag} {σ : L2.St} {H : Hp} {Q : VK} {ta tb te tc : TE} {t u c : TT} {t1 t2 : TS} {D : Ends} {i : Nat} {v x y : V} {r : R2}
theorem f_var (h : σ[i]? = some (some v)) (q : Q v H) : tVar i σ H Q := ⟨v, h, q⟩
theorem f_c (q : Q v H) : tC v σ H Q := q
theorem f_op (h : ta σ H fun x H1 => tb σ H1 fun y H2 => r x y H2 Q) : tOp r ta tb σ H Q := h
theorem f_un {r : V → Hp → VK → Prop} (h : ta σ H fun x H1 => r x H1 Q) : tUn r ta σ H Q := h
theorem f_I0 {g : Int → Int → V} {a b : Int} (q : Q (g a b) H) : rI0 g (.int a) (.int b) H Q := ⟨a, b, rfl, rfl, q⟩
theorem f_I {C : Int → Int → Prop} {g : Int → Int → V} {a b : Int} (hc : C a b) (q : Q (g a b) H) : rI C g (.int a) (.int b) H Q := ⟨a, b, rfl, rfl, hc, q⟩
theorem f_U {g : Int → V} {a : Int} (q : Q (g a) H) : rU g (.int a) H Q := ⟨a, rfl, q⟩
theorem dec_int (a b : Int) : decide (V.int a = V.int b) = decide (a = b) := by
  by_cases h : a = b
  · subst h; simp
  · rw [decide_eq_false h, decide_eq_false (fun e => h (V.int.inj e))]
theorem f_eqI {a b : Int} (q : Q (.bl (decide (a = b))) H) : rEq (.int a) (.int b) H Q := ⟨rfl, by rw [dec_int]; exact q⟩
theorem f_neI {a b : Int} (q : Q (.bl (!decide (a = b))) H) : rNe (.int a) (.int b) H Q := ⟨rfl, by rw [dec_int]; exact q⟩
theorem dec_bl (a b : Bool) : decide (V.bl a = V.bl b) = (a == b) := by cases a <;> cases b <;> decide
theorem f_eqB {a b : Bool} (q : Q (.bl (a == b)) H) : rEq (.bl a) (.bl b) H Q := ⟨rfl, by rw [dec_bl]; exact q⟩
theorem f_neB {a b : Bool} (q : Q (.bl (!(a == b))) H) : rNe (.bl a) (.bl b) H Q := ⟨rfl, by rw [dec_bl]; exact q⟩
theorem f_test {Q : Bool → Hp → Prop} (h : te σ H fun x H' => ∃ k, x = .bl k ∧ Q k H') : tTest te σ H Q := h
theorem f_B {Q : Bool → Hp → Prop} (h : te σ H fun x H' => ∃ k, x = .bl k ∧ Q k H') : tB te σ H Q := h
theorem f_bl {b : Bool} {R : Bool → Prop} (q : R b) : ∃ k, V.bl b = V.bl k ∧ R k := ⟨b, rfl, q⟩
theorem f_and {Q : Bool → Hp → Prop} (h : t σ H fun c H1 => if c = true then u σ H1 Q else Q false H1) : tAnd t u σ H Q := h
theorem f_or {Q : Bool → Hp → Prop} (h : t σ H fun c H1 => if c = true then Q true H1 else u σ H1 Q) : tOr t u σ H Q := h
theorem f_not {Q : Bool → Hp → Prop} (h : t σ H fun c H1 => Q (!c) H1) : tNot t σ H Q := h
theorem f_seq (h : t1 { D with nx := t2 D } σ H) : tSeq t1 t2 D σ H := h
theorem f_next (q : D.nx σ H) : tNext D σ H := q
theorem f_asg {g : TG} (h : te σ H fun x H1 => g x σ H1 D.nx) : tAsg te g D σ H := h
theorem f_gName {R : L2.St → Hp → Prop} (q : R (σ.set i (some v)) H) : gName i v σ H R := q
theorem f_ret (h : te σ H D.rt) : tRet te D σ H := h
theorem f_drop (h : te σ H fun _ H1 => D.nx σ H1) : tDrop te D σ H := h
theorem f_ifS (h : c σ H fun b H1 => if b = true then t1 D σ H1 else t2 D σ H1) : tIfS c t1 t2 D σ H := h
theorem f_if (h : c σ H fun b H1 => if b = true then ta σ H1 Q else tb σ H1 Q) : tIf c ta tb σ H Q := h
theorem f_ite {p : Prop} [Decidable p] {A B : Prop} (h1 : p → A) (h2 : ¬ p → B) : if decide p = true then A else B := by
  by_cases h : p
  · rw [if_pos (decide_eq_true h)]; exact h1 h
  · rw [if_neg (by rw [decide_eq_false h]; decide)]; exact h2 h
theorem f_iteB {b : Bool} {A B : Prop} (h1 : b = true → A) (h2 : b = false → B) : if b = true then A else B := by
  cases b with
  | true => rw [if_pos rfl]; exact h1 rfl
  | false => rw [if_neg Bool.false_ne_true]; exact h2 rfl
theorem f_call {sp : Sp} {dvs : List V} {E : XK} {ta : TA} (h : ta σ H fun vs H1 => sp (vs ++ dvs) H1 Q E) : tCall sp dvs E ta σ H Q := h
theorem f_nil {Q : List V → Hp → Prop} (q : Q [] H) : tNil σ H Q := q
theorem f_cons {tr : TA} {Q : List V → Hp → Prop} (h : ta σ H fun x H1 => tr σ H1 fun xs H2 => Q (x :: xs) H2) : tCons ta tr σ H Q := h
theorem f_tup {ta : TA} (h : ta σ H fun xs H1 => xs.length ≤ sizeLine ∧ ∀ p, H1 p = none → Q (.ref p) (upd H1 p (.tup xs))) : tTup ta σ H Q := h
theorem f_lst {ta : TA} (h : ta σ H fun xs H1 => xs.length ≤ sizeLine ∧ ∀ p, H1 p = none → Q (.ref p) (upd H1 p (.lst xs))) : tLst ta σ H Q := h
theorem f_cb {r : List V → Hp → VK → Prop} {ta : TA} (h : ta σ H fun vs H1 => r vs H1 Q) : tCB r ta σ H Q := h
end

/-! ### pure defs -/
open Evl
/-- a def that gives z of vs by D and leaves all as it was -/
def spF (D : List V → V → Prop) : Sp := fun vs H Q _ => ∃ z, D vs z ∧ ∀ H', Ex H H' → Q z H'
theorem f_spF {D : List V → V → Prop} {vs : List V} {H : Hp} {Q : VK} {E : XK} (z : V) (h : D vs z) (q : ∀ H', Ex H H' → Q z H') : spF D vs H Q E := ⟨z, h, q⟩
theorem sv_F {D : List V → V → Prop} {vs : List V} {H : Hp} {z : V} (h : D vs z) : SpV (spF D) (vs ++ []) H z := fun H1 e Q q E => ⟨z, by rw [List.append_nil]; exact h, q⟩
theorem rv_eqI {H : Hp} {i j : Int} : RV rEq (.int i) (.int j) H (.bl (decide (i = j))) := fun H1 _ _ q => ⟨rfl, by rw [dec_int]; exact q H1 (Ex.refl H1)⟩
theorem rv_neI {H : Hp} {i j : Int} : RV rNe (.int i) (.int j) H (.bl (!decide (i = j))) := fun H1 _ _ q => ⟨rfl, by rw [dec_int]; exact q H1 (Ex.refl H1)⟩
theorem rv_eqB {H : Hp} {i j : Bool} : RV rEq (.bl i) (.bl j) H (.bl (i == j)) := fun H1 _ _ q => ⟨rfl, by rw [dec_bl]; exact q H1 (Ex.refl H1)⟩
theorem rv_neB {H : Hp} {i j : Bool} : RV rNe (.bl i) (.bl j) H (.bl (!(i == j))) := fun H1 _ _ q => ⟨rfl, by rw [dec_bl]; exact q H1 (Ex.refl H1)⟩
theorem rv_mod {H : Hp} {i j : Int} (h : 0 < j) : RV (rI (fun _ j => 0 < j) fun i j => .int (i % j)) (.int i) (.int j) H (.int (i % j)) := rv_I (C := fun _ j => 0 < j) h
def b2 (b : Bool) : Int := if b then 1 else 0
theorem ev_intB {te : TE} {σ : L2.St} {H : Hp} {b : Bool} (h : Ev te σ H (.bl b)) : Ev (tCB (fun xs H Q => (∃ i, xs = [.int i] ∧ Q (.int i) H) ∨ ∃ k, xs = [.bl k] ∧ Q (.int (if k then 1 else 0)) H) (tCons te tNil)) σ H (.int (b2 b)) :=
  fun H1 e Q q => h H1 e _ fun H2 e2 => Or.inr ⟨b, rfl, q H2 e2⟩
/-- f(k = v, ..): keywords alone -/
theorem pe_callN0 {X : Cx} {CX : CXT} {k : Nat} {f : Addr} {fd : FuncData} {ps ks : List Str} {sp : Sp} {x : Str} {p pos : Pos} {kws : List Keyword} {tk : TA} {E : XK} {g : List Value → List Value → List Value} {gV : List V → List V → List V}
    (F : FnOk X.prog X.w X.K X.mg X.base CX k f fd ps sp) (hr : Room k X.A) (hg : Gl X x) (hm : X.mg x = some (.ref f)) (kp : PySem.W.keepIn X.K (.ref f) = true) (hb : KBn X.K fd ps 0 ks g gV) (hx : Passes CX X E)
    (hkw : PK X kws tk) (hsome : (backToKw pos (keywordEach kws X.env)).all (·.1.isSome) = true := by rfl) (hnames : (backToKw pos (keywordEach kws X.env)).filterMap (·.1) = ks := by rfl)
    (hdeb : (x == ("__debug__" : Str)) = false := by decide)
    (hplain : ((backTo pos (starEach [] X.env)).any (·.1) || (backToKw pos (keywordEach kws X.env)).any (·.1.isNone)) = false := by rfl) :
    PE X (.Call (.Name x p) [] kws pos) (tCallN 0 ks.length sp gV E tNil tk) := by
  refine ⟨fun pins s σ H Q I h => wpAny_Call_Name_kw (ld_glob I hg hm ?_ hdeb)⟩
  refine PySem.W.callWith_KW0 (h₀ := X.base) I.ok.mod.kin kp hsome (thn (hkw.run pos pins s σ H _ I h) fun us s1 ⟨vs, H1, I1, r, l1, l2, q⟩ => ⟨I1.kIn, ?_⟩) hplain
  rw [hnames]
  exact run_fnN (us := []) F hr hb hx I1 .nil r l1 l2 q
theorem vals_rev : ∀ {xs : List V} {us : List Value}, Vals xs us → Vals xs.reverse us.reverse
  | _, _, .nil => .nil
  | _, _, .cons r t => by
    rw [List.reverse_cons, List.reverse_cons]
    exact (vals_rev t).append (.cons r .nil)

/-! ### == of data -/
theorem eqv_ints (xs ys : List Int) : PyData.eqvAll (xs.map PyData.int) (ys.map PyData.int) = decide (xs = ys) := by
  induction xs generalizing ys with
  | nil => cases ys <;> simp [PyData.eqvAll]
  | cons x xs ih =>
    cases ys with
    | nil => simp [PyData.eqvAll]
    | cons y ys =>
      simp only [List.map_cons, PyData.eqvAll, ih, PyData.eqv, List.cons.injEq]
      by_cases h : x = y <;> by_cases g : xs = ys <;> simp [h, g]
theorem dpa_ints {K : PySem.W.Frag} {H : Hp} : ∀ ns : List Int, DpAll K H (ns.map V.int) (ns.map PyData.int)
  | [] => .nil
  | n :: ns => .cons (.int n) (dpa_ints ns)
theorem dp_ints {K : PySem.W.Frag} {H : Hp} {a : Addr} {ns : List Int} (h : SqL K H a (ns.map V.int)) : Dp K H (.ref a) (.list (ns.map PyData.int)) := .lst h (dpa_ints ns)
/-- two lists of ints compared -/
theorem rv_eqL {K : PySem.W.Frag} {H : Hp} {a b : Addr} {xs ys : List Int} (ha : SqL K H a (xs.map V.int)) (hb : SqL K H b (ys.map V.int)) : RV (rEqD K) (.ref a) (.ref b) H (.bl (decide (xs = ys))) := fun H1 e Q q =>
  ⟨_, _, dp_ints (ex_l e ha), dp_ints (ex_l e hb), PySem.W.ke_shaped_ints xs, PySem.W.ke_shaped_ints ys, by
    show Q (.bl (PyData.eqvAll (xs.map PyData.int) (ys.map PyData.int))) H1
    rw [eqv_ints]; exact q H1 (Ex.refl H1)⟩
theorem rv_neL {K : PySem.W.Frag} {H : Hp} {a b : Addr} {xs ys : List Int} (ha : SqL K H a (xs.map V.int)) (hb : SqL K H b (ys.map V.int)) : RV (rNeD K) (.ref a) (.ref b) H (.bl (!decide (xs = ys))) := fun H1 e Q q =>
  ⟨_, _, dp_ints (ex_l e ha), dp_ints (ex_l e hb), PySem.W.ke_shaped_ints xs, PySem.W.ke_shaped_ints ys, by
    show Q (.bl (!PyData.eqvAll (xs.map PyData.int) (ys.map PyData.int))) H1
    rw [eqv_ints]; exact q H1 (Ex.refl H1)⟩
theorem ev_neL {K : PySem.W.Frag} {σ : L2.St} {H : Hp} {ta tb : TE} {a : Addr} {xs ys : List Int} (ha : Ev ta σ H (.ref a)) (hx : SqL K H a (xs.map V.int)) (hb : EvL tb σ H (ys.map V.int)) : Ev (tOp (rNeD K) ta tb) σ H (.bl (!decide (xs = ys))) :=
  ev_opL ha hb fun _ _ h e => rv_neL (ex_l e hx) (sq_of h)
theorem ev_eqL {K : PySem.W.Frag} {σ : L2.St} {H : Hp} {ta tb : TE} {a : Addr} {xs ys : List Int} (ha : Ev ta σ H (.ref a)) (hx : SqL K H a (xs.map V.int)) (hb : EvL tb σ H (ys.map V.int)) : Ev (tOp (rEqD K) ta tb) σ H (.bl (decide (xs = ys))) :=
  ev_opL ha hb fun _ _ h e => rv_eqL (ex_l e hx) (sq_of h)

/-! ### the source of draws: [digits, held, mix, turn] at s, digits at d; B draws may still come -/
structure Src (H : Hp) (s d : Addr) (B : Nat) : Prop where
  ex : ∃ (ds : List Int) (a m c : Int), H s = some (.lst [.ref d, .int a, .int m, .int c]) ∧ H d = some (.lst (ds.map V.int)) ∧ ds.length ≤ 63 ∧ 0 ≤ m ∧ m < 2 ^ 61 ∧ 0 ≤ c ∧ c + B ≤ 2 ^ 60
theorem Src.ne {H : Hp} {s d : Addr} {B : Nat} (S : Src H s d B) : s ≠ d := fun e => by
  obtain ⟨ds, a, m, c, h1, h2, _⟩ := S.ex
  rw [e, h2] at h1
  cases ds with
  | nil => simp at h1
  | cons x r => simp at h1
theorem Src.less {H : Hp} {s d : Addr} {B B' : Nat} (S : Src H s d B) (h : B' ≤ B) : Src H s d B' := by
  obtain ⟨ds, a, m, c, h1, h2, h3, h4, h5, h6, h7⟩ := S.ex
  exact ⟨ds, a, m, c, h1, h2, h3, h4, h5, h6, by omega⟩
theorem Src.ex_ {H H' : Hp} {s d : Addr} {B : Nat} (S : Src H s d B) (e : Ex H H') : Src H' s d B := by
  obtain ⟨ds, a, m, c, h1, h2, h⟩ := S.ex
  exact ⟨ds, a, m, c, e _ _ h1, e _ _ h2, h⟩
theorem Src.free {H : Hp} {s d : Addr} {B : Nat} (S : Src H s d B) {p : Addr} (h : H p = none) : p ≠ s ∧ p ≠ d := by
  obtain ⟨ds, a, m, c, h1, h2, _⟩ := S.ex
  exact ⟨(ne_of_none h1 h).symm, (ne_of_none h2 h).symm⟩
/-- all but the source is kept -/
def Kp (s d : Addr) (H H' : Hp) : Prop := ∀ b o, b ≠ s → b ≠ d → H b = some o → H' b = some o
theorem Kp.refl {s d : Addr} {H : Hp} : Kp s d H H := fun _ _ _ _ h => h
theorem Kp.trans {s d : Addr} {H H1 H2 : Hp} (a : Kp s d H H1) (b : Kp s d H1 H2) : Kp s d H H2 := fun c o h1 h2 h => b c o h1 h2 (a c o h1 h2 h)
theorem Kp.of {s d : Addr} {H H' : Hp} (e : Ex H H') : Kp s d H H' := fun c o _ _ h => e c o h
theorem Kp.l {s d : Addr} {H H1 H2 : Hp} (a : Kp s d H H1) (b : Ex H1 H2) : Kp s d H H2 := a.trans (.of b)
def spDraw : Sp := fun vs H Q _ => ∃ (s d : Addr) (many : Int) (B : Nat), vs = [.ref s, .int many] ∧ 0 < many ∧ many ≤ 10 ^ 60 ∧ Src H s d (B + 1) ∧ ∀ n H', 0 ≤ n → n < many → Src H' s d B → Kp s d H H' → Q (.int n) H'
def spSource (K : PySem.W.Frag) : Sp := fun vs H Q _ => ∃ (a : Addr) (ns : List Int), vs = [.ref a] ∧ SqL K H a (ns.map V.int) ∧ ns.length ≤ 63 ∧ ∀ s d H', H s = none → H d = none → Src H' s d (2 ^ 59) → Ex H H' → Q (.ref s) H'
theorem sz1000 {n : Nat} (h : n ≤ 1000) : n ≤ sizeLine := Nat.le_trans h (by decide)
theorem f_draw {H : Hp} {s d : Addr} {B : Nat} {many : Int} {Q : VK} {E : XK} (S : Src H s d (B + 1)) (h0 : 0 < many) (hb : many ≤ 10 ^ 60) (q : ∀ n H', 0 ≤ n → n < many → Src H' s d B → Kp s d H H' → Q (.int n) H') :
    spDraw ([.ref s, .int many] ++ []) H Q E := ⟨s, d, many, B, rfl, h0, hb, S, q⟩
theorem at_ints {L : List Int} {n : Int} (h0 : 0 ≤ n) (h1 : n < L.length) : ∃ z, z ∈ L ∧ atI (L.map V.int) n = some (.int z) := by
  obtain ⟨j, rfl⟩ : ∃ j : Nat, n = (j : Int) := ⟨n.toNat, by omega⟩
  have hj : j < L.length := by omega
  exact ⟨L[j], List.getElem_mem hj, atI_nat (by rw [List.getElem?_map, List.getElem?_eq_getElem hj]; rfl)⟩
theorem Kp.at {s d p : Addr} {H H' : Hp} {o : HO} (k : Kp s d H H') (f : p ≠ s ∧ p ≠ d) (h : H p = some o) : H' p = some o := k p o f.1 f.2 h
theorem upd_old {H : Hp} {p q : Addr} {o u : HO} (h : H p = some o) (n : H q = none) : upd H q u p = some o := by
  rw [upd_ne (ne_of_none h n)]; exact h
def spCount : Sp := fun vs H Q _ => ∃ (s d : Addr) (B : Nat), vs = [.ref s] ∧ Src H s d (B + 7) ∧ ∀ y H', y.natAbs ≤ 10 ^ 31 → Src H' s d B → Kp s d H H' → Q (.int y) H'

/-! ### data: what _law_same compares -/
def tyN : PyData → String
  | .none => "NoneType" | .bool _ => "bool" | .int _ => "int" | .str _ => "str" | .list _ => "list" | .tuple _ => "tuple" | .dict _ => "dict"
theorem ty_dp {K : PySem.W.Frag} {H : Hp} {x : V} {d : PyData} (h : Dp K H x d) : TyX K H x (.type (tyN d)) := by
  cases h with
  | non => exact .base .non
  | bl b => exact .base (.bl b)
  | int i => exact .base (.int i)
  | str x => exact .base (.str x)
  | lst h _ =>
    rcases h with (h | ⟨o, h⟩) | ⟨o, its, n, h, c, _⟩
    · exact .base (.lst h)
    · exact .base (.frz h)
    · exact .kList h c
  | tup h _ =>
    rcases h with (h | ⟨o, h⟩) | ⟨o, its, n, h, c, _⟩
    · exact .base (.tup h)
    · exact .fTuple h
    · exact .kTuple h c
mutual
theorem dp_ex {K : PySem.W.Frag} {H H' : Hp} (e : Ex H H') : ∀ {d : PyData} {x : V}, Dp K H x d → Dp K H' x d
  | _, _, .non => .non
  | _, _, .bl b => .bl b
  | _, _, .int i => .int i
  | _, _, .str x => .str x
  | _, _, .lst h a => .lst (ex_l e h) (dpa_ex e a)
  | _, _, .tup h a => .tup (ex_t e h) (dpa_ex e a)
theorem dpa_ex {K : PySem.W.Frag} {H H' : Hp} (e : Ex H H') : ∀ {ds : List PyData} {xs : List V}, DpAll K H xs ds → DpAll K H' xs ds
  | _, _, .nil => .nil
  | _, _, .cons h a => .cons (dp_ex e h) (dpa_ex e a)
end
theorem dpa_len {K : PySem.W.Frag} {H : Hp} : ∀ {xs : List V} {ds : List PyData}, DpAll K H xs ds → xs.length = ds.length
  | _, _, .nil => rfl
  | _, _, .cons _ a => congrArg Nat.succ (dpa_len a)
theorem dpa_get {K : PySem.W.Frag} {H : Hp} : ∀ {xs : List V} {ds : List PyData} {i : Nat}, DpAll K H xs ds → i < ds.length → ∃ x d, xs[i]? = some x ∧ ds[i]? = some d ∧ d ∈ ds ∧ Dp K H x d
  | _, _, _, .nil, h => by simp at h
  | _, _, 0, .cons h _, _ => ⟨_, _, rfl, rfl, List.mem_cons_self .., h⟩
  | _, _, i + 1, .cons _ a, h => by
    obtain ⟨x, d, h1, h2, h3, h4⟩ := dpa_get (i := i) a (by simpa using h)
    exact ⟨x, d, h1, h2, List.mem_cons_of_mem _ h3, h4⟩
/-- data of depth n, lists and tuples of at most 10000 -/
def okd : Nat → PyData → Prop
  | _, .none => True
  | _, .bool _ => True
  | _, .int _ => True
  | _, .str x => PyData.canLay0 (.str x) = true
  | n + 1, .list xs => xs.length ≤ 10000 ∧ ∀ x, x ∈ xs → okd n x
  | n + 1, .tuple xs => xs.length ≤ 10000 ∧ ∀ x, x ∈ xs → okd n x
  | _, _ => False
theorem shaped_str {x : Str} (h : PyData.canLay0 (.str x) = true) : SeqAt.shaped (.str x) = true := by
  unfold SeqAt.shaped
  rw [h]; rfl
theorem ev_isi {K : PySem.W.Frag} {σ : L2.St} {H : Hp} {te : TE} {x : V} {t : String} {n : String} {b : Bool} (h : Ev te σ H x) (ty : ∀ H1, Ex H H1 → TyX K H1 x (.type t)) (kb : kitB t n = some b) :
    Ev (tCB (rIsi K) (tCons te (tCons (tC (.ty n)) tNil))) σ H (.bl b) := fun H1 e Q q => h H1 e _ fun H2 e2 => ⟨x, .ty n, _, _, b, rfl, .ty n, ty H2 (e.trans e2), kit_ty kb, q H2 e2⟩
theorem rv_isN {H : Hp} {x : V} : RV (fun x y H Q => y = .non ∧ Q (.bl (decide (x = .non))) H) x .non H (.bl (decide (x = .non))) := fun H1 _ _ q => ⟨rfl, q H1 (Ex.refl H1)⟩
theorem rv_eqDp {K : PySem.W.Frag} {H : Hp} {x y : V} {d e : PyData} (hx : Dp K H x d) (hy : Dp K H y e) (sd : SeqAt.shaped d = true) (se : SeqAt.shaped e = true) : RV (rEqD K) x y H (.bl (PyData.eqv d e)) := fun H1 x1 _ q =>
  ⟨d, e, dp_ex x1 hx, dp_ex x1 hy, sd, se, q H1 (Ex.refl H1)⟩
/-- found[k], of a list or a tuple -/
theorem rv_ixAny {K : PySem.W.Frag} {H : Hp} {p : Addr} {xs : List V} {j : Nat} {v : V} (h : SqL K H p xs ∨ SqT K H p xs) (ha : xs[j]? = some v) : RV (rIx K) (.ref p) (.int (j : Int)) H v := fun H1 e _ q => by
  rcases h with h | h
  · exact Or.inl ⟨p, xs, _, v, rfl, rfl, ex_l e h, atI_nat ha, q H1 (Ex.refl H1)⟩
  · exact Or.inr (Or.inl ⟨p, xs, _, v, rfl, rfl, ex_t e h, atI_nat ha, q H1 (Ex.refl H1)⟩)
theorem ev_lenS {K : PySem.W.Frag} {σ : L2.St} {H : Hp} {ta : TE} {p : Addr} {xs : List V} (ha : Ev ta σ H (.ref p)) (h : SqL K H p xs ∨ SqT K H p xs) : Ev (tCB (rLenS K) (tCons ta tNil)) σ H (.int (xs.length : Int)) := fun H1 e Q q =>
  ha H1 e _ fun H2 e2 => ⟨p, xs, rfl, h.elim (fun h => Or.inl (ex_l (e.trans e2) h)) (fun h => Or.inr (ex_t (e.trans e2) h)), q H2 e2⟩
def spSame (K : PySem.W.Frag) (n : Nat) : Sp := fun vs H Q _ => ∃ (x y : V) (dt : PyData), vs = [x, y] ∧ Dp K H x dt ∧ Dp K H y dt ∧ okd n dt ∧ ∀ H', Ex H H' → Q (.bl true) H'
theorem given_none {n : Nat} {f : Nat → Bool} {v : Nat → V} (h : ∀ i, i < n → f i = false) : given n f v = [] := by
  unfold given
  rw [List.filter_eq_nil_iff.mpr (fun i hi => by rw [h i (List.mem_range.mp hi)]; decide)]; rfl

/-! ### steps of a law's own text -/
section
variable {K : PySem.W.Frag} {σ : L2.St} {H : Hp} {Q : VK} {te : TE} {t : TT}
theorem f_evL {xs : List V} (h : EvL te σ H xs) (k : ∀ p H1, H p = none → Ex H H1 → H1 p = some (.lst xs) → Q (.ref p) H1) : te σ H Q := h H (Ex.refl H) Q k
theorem f_ev {v : V} (h : Ev te σ H v) (k : ∀ H1, Ex H H1 → Q v H1) : te σ H Q := h H (Ex.refl H) Q k
theorem ev_callK {sp : Sp} {gV : List V → List V → List V} {E : XK} {ta tk : TA} {vs zs : List V} {n m : Nat} {z : V} (h : EvA ta σ H vs) (hk : EvA tk σ H zs) (hn : vs.length = n) (hm : zs.length = m) (hs : SpV sp (gV vs zs) H z) : Ev (tCallN n m sp gV E ta tk) σ H z := fun H1 e Q q =>
  h H1 e _ fun H2 e2 => hk H2 (e.trans e2) _ fun H3 e3 => ⟨hn, hm, hs H3 ((e.trans e2).trans e3) Q (fun H4 e4 => q H4 ((e2.trans e3).trans e4)) E⟩
theorem sv_Fk {D : List V → V → Prop} {vs : List V} {H : Hp} {z : V} (h : D vs z) : SpV (spF D) vs H z := fun H1 e Q q E => ⟨z, h, q⟩
/-- a def that gives a new list -/
def spNL (D : List V → List V → Prop) : Sp := fun vs H Q _ => ∃ xs, D vs xs ∧ ∀ p H', H p = none → Ex H H' → H' p = some (.lst xs) → Q (.ref p) H'
theorem sl_NL {D : List V → List V → Prop} {vs : List V} {H : Hp} {xs : List V} (h : D vs xs) : SpL (spNL D) (vs ++ []) H xs := fun H1 e Q q E => ⟨xs, by rw [List.append_nil]; exact h, q⟩
theorem el_lcR2 {ta : TA} {j : Nat} {vs : List Nat} {lo n : Int} (f : Nat → Bool) (v : Nat → V) (h : EvA ta σ H [.int lo, .int n]) (hn : -100000 ≤ lo ∧ lo ≤ 100000 ∧ lo ≤ n ∧ n ≤ lo + 40000) (hw : ∀ x, wipe ((wipe σ vs).set j (some x)) vs = wipe σ vs)
    (ht : ∀ (i : Nat) H1, Ex H H1 → lo + (i : Int) < n → EvT t ((wipe σ vs).set j (some (.int (lo + (i : Int))))) H1 (f i)) (he : ∀ (i : Nat) H1, Ex H H1 → lo + (i : Int) < n → f i = true → Ev te ((wipe σ vs).set j (some (.int (lo + (i : Int))))) H1 (v i)) :
    EvL (tLc (iRng2 ta) (gName j) t te vs) σ H (given (n - lo).toNat f v) := fun H0 e Q q => h H0 e _ fun H1 e1 => ⟨lo, n, rfl, by omega, fun Dl hD =>
  lc_range (lo := lo) (n := (n - lo).toNat) (Cw H1 f v Dl) ⟨hD, Ex.new hD, upd_same⟩ (fun i H' hi p =>
    ⟨hw _, cw_turn p (by omega) (ht i H1 (e.trans e1) (by omega)) (fun hf => he i H1 (e.trans e1) (by omega) hf)⟩) (fun H' p => q Dl H' (fresh_back e1 p.1) (e1.trans p.2.1) p.2.2)⟩
theorem et_yes {b : Bool} (h : b = true) : EvT tYes σ H b := fun H1 _ _ q => by subst h; exact q H1 (Ex.refl H1)
theorem ev_sumL {ns : List Int} (h : EvL te σ H (ns.map V.int)) : Ev (tCB (rSum K) (tCons te tNil)) σ H (.int ns.sum) := fun H1 e Q q =>
  h H1 e _ fun p H2 _ e2 hp => ⟨p, ns, rfl, sq_of hp, q H2 e2⟩
theorem given_all {n : Nat} {v : Nat → V} : given n (fun _ => true) v = (List.range n).map v := by
  unfold given
  rw [List.filter_eq_self.mpr (fun _ _ => rfl)]
theorem el_rep {te tk : TE} {xs : List V} {k : Int} (h : EvL te σ H xs) (hk : ∀ H1, Ex H H1 → Ev tk σ H1 (.int k)) (h0 : 0 ≤ k ∧ k ≤ 100) (hz : xs.length ≤ 100) : EvL (tOp rRep te tk) σ H ((List.replicate k.toNat xs).flatten) := fun H1 e Q q =>
  h H1 e _ fun p H2 np e2 hp => hk H2 (e.trans e2) H2 (Ex.refl H2) _ fun H3 e3 => ⟨p, k, xs, rfl, rfl, e3 _ _ hp, by omega, by omega, Nat.le_trans (Nat.mul_le_mul hz (show k.toNat ≤ 100 by omega)) (by decide), fun l hl => q l _ (fresh_back (e2.trans e3) hl) ((e2.trans e3).trans (Ex.new hl)) upd_same⟩
/-- a list of bools compared -/
theorem eqv_bools (xs : List Bool) : PyData.eqvAll (xs.map PyData.bool) (xs.map PyData.bool) = true := by
  induction xs with
  | nil => simp [PyData.eqvAll]
  | cons x xs ih => simp [PyData.eqvAll, PyData.eqv, ih]
theorem dpa_bools {H : Hp} : ∀ ns : List Bool, DpAll K H (ns.map V.bl) (ns.map PyData.bool)
  | [] => .nil
  | n :: ns => .cons (.bl n) (dpa_bools ns)
theorem dp_bools {H : Hp} {a : Addr} {ns : List Bool} (h : SqL K H a (ns.map V.bl)) : Dp K H (.ref a) (.list (ns.map PyData.bool)) := .lst h (dpa_bools ns)
end
end Mc
namespace Mc
open PySem L2 Evl
/-! ### defs that are called where no repr is under way -/
structure FnG (P : Program) (w : World) (K : PySem.W.Frag) (mg : Str → Option Value) (base : Heap) (CX : CXT) (k : Nat) (f : Addr) (fd : FuncData) (ps : List Str) (sp : Sp) : Prop where
  len : ∀ vs H Q E, sp vs H Q E → vs.length = ps.length
  run : ∀ (A : Around) (outer : List Env) (s : Shared) (H : Hp) (args : Args) (us : List Value) (vs : List V) (Q : VK) (E : XK), A.guards = some [] → Room k A → Env0 P w K mg base A outer s H →
    BindsTo s fd args (ps.zip us) → Vals vs us → sp vs H Q E → codeAny (model P w) A (.call (.ref f) args) (CR CX outer P w H s Q E) s
section
variable {P : Program} {w : World} {K : PySem.W.Frag} {mg : Str → Option Value} {base : Heap} {CX : CXT} {k : Nat} {f : Addr} {fd : FuncData} {N ps : List Str} {sp : Sp}
theorem FnG.of (F : FnOk P w K mg base CX k f fd ps sp) : FnG P w K mg base CX k f fd ps sp := ⟨F.len, fun A outer s H args us vs Q E _ hr => F.run A outer s H args us vs Q E hr⟩
theorem okG {x qual : Str} {st : Stmt} (F : Fun K x qual st f fd) (S : FnScope N ps (defScope st)) (len : ∀ vs H Q E, sp vs H Q E → vs.length = ps.length)
    (body : ∀ (cdv : Value) (A : Around) (outer : List Env) (s : Shared) (H : Hp) (vs : List V) (Q : VK) (E : XK), A.guards = some [] → Room k (A.deeper (PyProof.Rows.envOfC qual (defScope st) s.heap.objs.size f cdv)) → sp vs H Q E →
      ∃ t, PSs (cxOf CX P w K mg base N qual (defScope st) f cdv A outer s H E).nox (defBody st) t ∧ t { nx := fun _ H' => Q .non H', rt := Q } (L2.start N vs) H) : FnG P w K mg base CX (k + 1) f fd ps sp := by
  obtain ⟨oc, od, kV, doc, pm, an, cdv, ct, osl, rfl, lk, hcd⟩ := F.ex
  refine ⟨len, fun A outer s H args us vs Q E hG hr e0 hb r hsp => ?_⟩
  have kept : ∀ b o, base.get? b = some o → s.heap.get? b = some o := fun b o e => (e0.bs b o e).1
  have inK : K.In s.heap := e0.mod.kin.keeps kept
  refine codeAny_call_function hr.depth (inK _ _ lk) rfl S.co S.gen rfl (PySem.W.codeRec_of inK hcd) (hb _ _ _ _ ?_)
  refine wpAny_newFunctionEnv_cells S.kind (fun q hq => (S.par q.1 (List.of_mem_zip (show (q.1, q.2) ∈ _ from hq)).1).imp id fun z => ⟨z, PySem.W.cellsFrom_some _ _ _ (.inl z)⟩) fun env he s1 x => ?_
  subst he
  refine ⟨(e0.mod.nolimit.keeps kept).keeps x.toInCall.keep, codeAny_func ?_⟩
  obtain ⟨t, ht, hq⟩ := body cdv A outer s H vs Q E hG (hr.deeper _) hsp
  have I0 := inv_start (CX := CX) (E := E) S hr.hd e0 (len _ _ _ _ hsp) r x
  refine wpAny_mono (ht.nox.run [] s1 _ H _ I0 hq) (fun fl s' hs => ?_) fun _ _ hs => hs
  match fl, hs with
  | .ret _, ⟨v, _, H', J, rv, q⟩ => exact ⟨v, H', J.os, J.bare, J.base, J.hok, rv, q⟩
  | .next, ⟨_, H', J, q⟩ => exact ⟨.non, H', J.os, J.bare, J.base, J.hok, rfl, q⟩
  | .brk, ⟨_, _, _, q⟩ => exact q.elim
  | .cont, ⟨_, _, _, q⟩ => exact q.elim
end
section
variable {X : Cx} {CX : CXT} {k : Nat} {f : Addr} {fd : FuncData} {ps : List Str} {sp : Sp} {dvs : List V} {ds : List Value} {E : XK} {x : Str} {p pos : Pos} {e : Expr} {es : List Expr} {t : TA}
theorem run_fnG {pins : List (Addr × Obj)} {σ : L2.St} {H : Hp} {s : Shared} {Q : VK} {us : List Value} {vs : List V} (hG : X.A.guards = some []) (F : FnG X.prog X.w X.K X.mg X.base CX k f fd ps sp) (hr : Room k X.A) (hb : Binds X.K fd ps ds) (hd : Vals dvs ds)
    (hx : Passes CX X E) (I : Inv X pins σ H s) (r : Vals vs us) (h : sp (vs ++ dvs) H Q E) : wpAny (model X.prog X.w) X.A (call (.ref f) us) (EP X pins σ Q) X.xe s := by
  have rr := r.append hd
  have ln := rr.length.symm.trans (F.len _ _ _ _ h)
  refine wpAny_call (codeAny_mono (F.run X.A X.stack s H ⟨us, []⟩ _ _ Q E hG hr I.env0 (hb s us I.kIn ln) rr h) fun out s' hq => ?_)
  match out, hq with
  | .error e, hq => exact hx pins σ H s e s' I hq
  | .ok (.ret u), hq => exact I.after hq
  | .ok .next, hq => exact hq.elim
  | .ok .brk, hq => exact hq.elim
  | .ok .cont, hq => exact hq.elim
/-- f(e, ..) of such a def -/
theorem pe_callG (hG : X.A.guards = some []) (F : FnG X.prog X.w X.K X.mg X.base CX k f fd ps sp) (hr : Room k X.A) (hg : Gl X x) (hm : X.mg x = some (.ref f)) (kp : PySem.W.keepIn X.K (.ref f) = true) (hb : Binds X.K fd ps ds) (hd : Vals dvs ds)
    (hx : Passes CX X E) (ha : PA X (e :: es) t) (hdeb : (x == ("__debug__" : Str)) = false := by decide) (hst : starEach (e :: es) X.env = (false, eval e X.env) :: starEach es X.env := by rfl) (hplain : (backTo pos (starEach es X.env)).any (·.1) = false := by rfl) :
    PE X (.Call (.Name x p) (e :: es) [] pos) (tCall sp dvs E t) :=
  ⟨fun pins s σ H Q I h => wpAny_Call_Name_kw (ld_glob I hg hm (PySem.W.callWith_K (h₀ := X.base) I.ok.mod.kin kp (thn (ha.run pos pins s σ H _ I h) fun _ _ ⟨_, _, I1, r, q⟩ => ⟨I1.kIn, run_fnG hG F hr hb hd hx I1 r q⟩) hst hplain) hdeb)⟩
/-! ### repr of data -/
/-- the text of data fits -/
structure Fits (d : PyData) : Prop where
  nodict : d.hasDict = false
  show_ : d.showable = true
  deep : d.depth ≤ 20
  size : d.shown.length ≤ sizeLine
def rRepr (K : PySem.W.Frag) : List V → Hp → VK → Prop := fun xs H Q => ∃ (a : Addr) (d : PyData), xs = [.ref a] ∧ Dp K H (.ref a) d ∧ Fits d ∧ ∀ H', Ex H H' → Q (.str d.shown) H'
theorem call_repr_data (hG : X.A.guards = some []) (hu : X.A.units + 64 < cLine) : CallR X (.builtin "repr") (rRepr X.K) := by
  intro pins s σ H xs us Q I r h
  obtain ⟨a, d, rfl, hd, hf, q⟩ := h
  obtain ⟨u, rfl, rx⟩ := vals1 r
  have rx' : u = .ref a := rx
  subst rx'
  obtain ⟨as, hr⟩ := Dp.reads I d (.ref a) (.ref a) hd rfl
  have hdp := hf.deep
  refine repr_of_reads' hr hf.show_ (fun z => by rw [hf.nodict] at z; cases z) hG (by omega) (fun _ _ e => e) (fun h' u tk hk => ?_) hf.size
  exact ⟨.str d.shown, H, I.kept (h' := h') (t' := tk) hk, ⟨u, rfl⟩, q H (Ex.refl H)⟩
end
theorem ev_repr {K : PySem.W.Frag} {σ : L2.St} {H : Hp} {te : TE} {a : Addr} {d : PyData} (h : Ev te σ H (.ref a)) (hd : Dp K H (.ref a) d) (hf : Fits d) : Ev (tCB (rRepr K) (tCons te tNil)) σ H (.str d.shown) := fun H1 e Q q =>
  h H1 e _ fun H2 e2 => ⟨a, d, rfl, dp_ex (e.trans e2) hd, hf, fun H3 e3 => q H3 (e2.trans e3)⟩
/-! ### a law's end over such a def -/
section
open PySem.W PyProof.Rows
/-- the abstract heap at a law's call: nothing but the script -/
theorem script_heap {P : Program} {w : World} {K : PySem.W.Frag} {h : Heap} {a : Addr} {vs : List Value} {ns : List Int} (KX : K.In h) (ha : h.get? a = some { cls := .type "list", data := .seq vs.toArray }) (hi : IntsAre vs ns) (hl : ns.length ≤ sizeLine) :
    ∃ H : Hp, Only H ∧ SqL K H a (ns.map V.int) ∧ HOk P w H h ∧ (∀ b, H b ≠ none → b = a) ∧ (H a ≠ none → K.lookup a = none) := by
  have rv := vals_ints hi
  have ln : vs.toArray.size ≤ sizeLine := by rw [List.size_toArray, hi.length]; exact hl
  rcases e : K.lookup a with _ | o
  · let H : Hp := fun b => if b = a then some (.frz { cls := .type "list", data := .seq vs.toArray } (.lst (ns.map V.int))) else none
    have at_ : H a = some (.frz { cls := .type "list", data := .seq vs.toArray } (.lst (ns.map V.int))) := if_pos rfl
    have off : ∀ b, b ≠ a → H b = none := fun b hb => if_neg hb
    refine ⟨H, fun b => ?_, .inl (.inr ⟨_, at_⟩), fun b u z => ?_, fun b z => Classical.byContradiction fun hb => z (off b hb), fun _ => rfl⟩
    · rcases Classical.em (b = a) with rfl | hb
      · exact .inr ⟨_, _, at_⟩
      · exact .inl (off b hb)
    · rcases Classical.em (b = a) with rfl | hb
      · rw [at_] at z
        cases z
        exact ⟨ha, by rw [List.length_map]; exact hl, vs, _, rv, ha⟩
      · rw [off b hb] at z
        cases z
  · have eo := (KX a o e).symm.trans ha
    cases eo
    exact ⟨fun _ => none, fun _ => .inl rfl, .inr ⟨_, _, _, e, rfl, rfl, rfl, ln, rv⟩, fun b u z => by simp at z, fun b z => absurd rfl z, fun z => absurd rfl z⟩
theorem law_callG {P : Program} {w : World} {K : PySem.W.Frag} {mg mb : Str → Option Value} {k : Nat} {fa a : Addr} {fd : FuncData} {x : Str} {sp : Sp} {s : Shared} {vs : List Value} {ns : List Int}
    (KX : K.In s.heap) (hns : s.heap.Ns mainGlobals mg) (hb : s.heap.Ns builtinsNs mb) (hbb : ∀ x : Str, x ≠ "__name__" → mb x = bootBuiltins x) (hlim : s.heap.NoLimit) (hg : s.gens = #[])
    (ha : s.heap.get? a = some { cls := .type "list", data := .seq vs.toArray }) (hi : IntsAre vs ns) (hl : ns.length ≤ sizeLine) (hr : Room k callerA)
    (F : ∀ base : Heap, K.In base → base.Ns mainGlobals mg → FnG P w K mg base CX0 k fa fd [x] sp) (hbind : ∀ (s : Shared) (u : Value), BindsTo s fd ⟨[u], []⟩ [(x, u)])
    (hsp : ∀ H : Hp, Only H → SqL K H a (ns.map V.int) → sp [.ref a] H (fun v _ => v = .bl true) fun _ _ _ => False) :
    codeAny (model P w) callerA (.call (.ref fa) ⟨[.ref a], []⟩) (fun r s' => r = .ok (.ret (.bool true)) ∧ OldK s.heap s'.heap ∧ s'.os = s.os ∧ AllBare s'.gens) s := by
  obtain ⟨H, hO, hS, hok, hA, hK⟩ := script_heap (P := P) (w := w) KX ha hi hl
  have free : ∀ {b : Addr} {o : Obj} {es : Array DictEntry} {ep : Nat}, s.heap.get? b = some o → o.data = .dict es ep → H b = none := fun {b o es ep} e d => by
    rcases q : H b with _ | u
    · rfl
    · have eb := hA b (by rw [q]; exact Option.some_ne_none u)
      subst eb
      rw [ha] at e
      cases e
      cases d
  have nsB : ∀ {b : Addr} {m : Str → Option Value}, s.heap.Ns b m → (hidT s.heap H).Ns b m := fun ⟨o, es, ep, e, d, r⟩ => ⟨o, es, ep, hidT_get e (free e d), d, r⟩
  have inB : K.In (hidT s.heap H) := fun b o e => hidT_get (KX b o e) (by
    rcases q : H b with _ | u
    · rfl
    · have ne : H b ≠ none := by rw [q]; exact Option.some_ne_none u
      have eb := hA b ne
      subst eb
      rw [hK ne] at e
      cases e)
  have mod : Mod K mg (hidT s.heap H) := ⟨inB, nsB hns, ⟨mb, nsB hb, hbb⟩, hlim.elim fun mc h => ⟨mc, nsB h.1, h.2⟩⟩
  have e0 : Env0 P w K mg (hidT s.heap H) callerA [] s H := ⟨rfl, mod, fun b o e => of_hidT e, Nat.le_of_eq (hidT_size _ _), trivial, (fun b hb => absurd hb (by simp [frs])), hok, .of_eq hg⟩
  refine codeAny_mono ((F _ inB (nsB hns)).run callerA [] s H ⟨[.ref a], []⟩ [.ref a] [.ref a] _ _ rfl hr e0 (hbind s (.ref a)) (.cons rfl .nil) (hsp H hO hS)) fun out s' h => ?_
  match out, h with
  | .error e, h => exact h.elim
  | .ok .next, h => exact h.elim
  | .ok .brk, h => exact h.elim
  | .ok .cont, h => exact h.elim
  | .ok (.ret u), ⟨v, H', os, bare, un, hok', rl, (q : v = .bl true)⟩ =>
    subst q
    obtain rfl : u = Value.bool true := rl
    refine ⟨rfl, OldK.of_keep fun b o e => ?_, os, bare⟩
    rcases q : H b with _ | u
    · exact un.keep b o e q (fun z => nomatch z) (by simp)
    · rcases hO b with z | ⟨ob, xs, z⟩
      · rw [q] at z
        cases z
      · have e1 := (hok b _ z).1
        have e2 := (hok' b _ (un.frzs b ob _ z)).1
        rw [e] at e1
        cases e1
        exact e2
theorem walk_ofG {l : PySem.W.OpenLaw} {n k : Nat} {q : Program} {loose : List Str} {XP : (Str → Option Value) → Heap → Prop} {YP : World → Heap → Prop} {d : DefRec} {K : Params → PySem.W.Frag} {sp : World → Sp} {x : Str}
    (hn : l.most = some n) (hn2 : n ≤ sizeLine) (hdf : d.params.defaults = []) (hr : Room k callerA) (hY : ∀ (w : World) (h : Heap), YP w h → (K w.params).In h)
    (F : ∀ (w : World) (mg : Str → Option Value) (fa : Addr) (h : Heap), (K w.params).In h → h.Ns mainGlobals mg → mg d.name = some (.ref fa) →
      ∃ fd : FuncData, (∀ (s : Shared) (u : Value), BindsTo s fd ⟨[u], []⟩ [(x, u)]) ∧ ∀ base : Heap, (K w.params).In base → base.Ns mainGlobals mg → FnG l.prog w (K w.params) mg base CX0 k fa fd [x] (sp w))
    (hsp : ∀ (w : World) (H : Hp) (a : Addr) (ns : List Int), ns.length ≤ n → Only H → SqL (K w.params) H a (ns.map V.int) → sp w [.ref a] H (fun v _ => v = .bl true) fun _ _ _ => False) :
    PySem.W.WalkO q loose XP YP l.row.toRowW d [] (fun f vs => PySem.call f vs) :=
  Att.attach_call hn hdf fun w s₀ s₁ mg mb fa o pm cd doc a vs ns G Y _ _ _ hmg hobj hints hlen hg => by
    have KX := hY w _ Y
    obtain ⟨fd, hb, hF⟩ := F w mg fa _ KX G.T.g hmg
    exact law_callG KX G.T.g G.T.b G.T.builtins G.T.nolimit hg hobj hints (Nat.le_trans hlen hn2) hr hF hb fun H hO hS => hsp w H a ns hlen hO hS
end
/-! ### more of expressions and statements -/
section
variable {K : PySem.W.Frag} {σ : L2.St} {H : Hp} {Q : VK} {te ta tb : TE} {D : Ends}
theorem rv_div {i j : Int} (h : 0 < j) (hb : j ≤ 10 ^ 60) : RV (rI CDivW fun i j => .int (i / j)) (.int i) (.int j) H (.int (i / j)) := rv_I (wide_div (b := 200) h (by omega) (by decide) (by decide))
theorem rv_mul {i j : Int} (h : i.natAbs ≤ 10 ^ 100) (hb : j.natAbs ≤ 10 ^ 100) : RV (rI CMulW fun i j => .int (i * j)) (.int i) (.int j) H (.int (i * j)) := rv_I (wide_mul (a := 400) (b := 400) (Nat.lt_of_le_of_lt h (by decide +kernel)) (Nat.lt_of_le_of_lt hb (by decide +kernel)) (by decide) (by decide) (by decide))
/-- a def that gives z of vs, as the heap says, and leaves all as it was -/
def spH (D : Hp → List V → V → Prop) : Sp := fun vs H Q _ => ∃ z, D H vs z ∧ ∀ H', Ex H H' → Q z H'
theorem sv_H {D : Hp → List V → V → Prop} {vs : List V} {z : V} (h : ∀ H1, Ex H H1 → D H1 vs z) : SpV (spH D) (vs ++ []) H z := fun H1 e Q q E => ⟨z, by rw [List.append_nil]; exact h H1 e, q⟩
/-- .. that gives a new tuple -/
def spU (D : Hp → List V → List V → Prop) : Sp := fun vs H Q _ => ∃ xs, D H vs xs ∧ ∀ p H', H p = none → Ex H H' → H' p = some (.tup xs) → Q (.ref p) H'
theorem eu_call {D : Hp → List V → List V → Prop} {vs xs : List V} {E : XK} {ta : TA} (h : EvA ta σ H vs) (hs : ∀ H1, Ex H H1 → D H1 vs xs) : EvU (tCall (spU D) [] E ta) σ H xs := fun H1 e Q q =>
  h H1 e _ fun H2 e2 => ⟨xs, by rw [List.append_nil]; exact hs H2 (e.trans e2), fun p H3 hp e3 h3 => q p H3 (fresh_back e2 hp) (e2.trans e3) h3⟩
theorem eu_callN {D : Hp → List V → List V → Prop} {gV : List V → List V → List V} {vs zs xs : List V} {n m : Nat} {E : XK} {ta tk : TA} (h : EvA ta σ H vs) (hk : EvA tk σ H zs) (hn : vs.length = n) (hm : zs.length = m) (hs : ∀ H1, Ex H H1 → D H1 (gV vs zs) xs) : EvU (tCallN n m (spU D) gV E ta tk) σ H xs := fun H1 e Q q =>
  h H1 e _ fun H2 e2 => hk H2 (e.trans e2) _ fun H3 e3 => ⟨hn, hm, xs, hs H3 ((e.trans e2).trans e3), fun p H4 hp e4 h4 => q p H4 (fresh_back (e2.trans e3) hp) ((e2.trans e3).trans e4) h4⟩
theorem f_evU {xs : List V} (h : EvU te σ H xs) (k : ∀ p H1, H p = none → Ex H H1 → H1 p = some (.tup xs) → Q (.ref p) H1) : te σ H Q := h H (Ex.refl H) Q k
/-- a, b, c = e -/
theorem s_un3 {i j l : Nat} {p : Addr} {a b c : V} (h : Ev te σ H (.ref p)) (hT : SqT K H p [a, b, c]) (k : ∀ H1, Ex H H1 → D.nx (((σ.set i (some a)).set j (some b)).set l (some c)) H1) :
    tAsg te (gTup K 3 (gCons (gName i) (gCons (gName j) (gCons (gName l) gNil)))) D σ H := h H (Ex.refl H) _ fun H1 e => ⟨p, [a, b, c], rfl, ex_t e hT, rfl, a, [b, c], rfl, b, [c], rfl, c, [], rfl, rfl, k H1 e⟩
theorem rv_ixTn {p : Addr} {xs : List V} {j : Nat} {v : V} (h : SqT K H p xs) (ha : xs[j]? = some v) : RV (rIxT K) (.ref p) (.int (j : Int)) H v := rv_ixT h (atI_nat ha)
theorem ev_min2 {i j : Int} (ha : Ev ta σ H (.int i)) (hb : Ev tb σ H (.int j)) : Ev (tCB (fun xs H Q => ∃ i j, xs = [.int i, .int j] ∧ Q (.int (if j < i then j else i)) H) (tCons ta (tCons tb tNil))) σ H (.int (min i j)) := fun H1 e Q q =>
  ha H1 e _ fun H2 e2 => hb H2 (e.trans e2) _ fun H3 e3 => ⟨i, j, rfl, by
    have e : (if j < i then j else i) = min i j := by split <;> omega
    rw [e]; exact q H3 (e2.trans e3)⟩
end
/-! ### draws among other steps -/
section
variable {K : PySem.W.Frag} {σ : L2.St} {H : Hp} {Q : VK} {te ta tb : TE} {D : Ends}
theorem f_par {i j : Nat} {ta : TA} (h : ta σ H fun vs H1 => ∃ v w, vs = [v, w] ∧ D.nx ((σ.set i (some v)).set j (some w)) H1) : tPar i j ta D σ H := h
theorem f_par2 {v w : V} {R : V → V → Prop} (q : R v w) : ∃ a b, [v, w] = [a, b] ∧ R a b := ⟨v, w, rfl, q⟩
/-- a list, a tuple is made in the midst of draws -/
theorem f_newL {s d : Addr} {B : Nat} {xs : List V} {R : Addr → Prop} (S : Src H s d B) (hz : xs.length ≤ 1000) (q : ∀ p, H p = none → p ≠ s ∧ p ≠ d → Src (upd H p (.lst xs)) s d B → Ex H (upd H p (.lst xs)) → (upd H p (.lst xs)) p = some (.lst xs) → R p) : xs.length ≤ sizeLine ∧ ∀ p, H p = none → R p :=
  ⟨sz1000 hz, fun p hp => q p hp (S.free hp) (S.ex_ (Ex.new hp)) (Ex.new hp) upd_same⟩
theorem f_newU {s d : Addr} {B : Nat} {xs : List V} {R : Addr → Prop} (S : Src H s d B) (hz : xs.length ≤ 1000) (q : ∀ p, H p = none → p ≠ s ∧ p ≠ d → Src (upd H p (.tup xs)) s d B → Ex H (upd H p (.tup xs)) → (upd H p (.tup xs)) p = some (.tup xs) → R p) : xs.length ≤ sizeLine ∧ ∀ p, H p = none → R p :=
  ⟨sz1000 hz, fun p hp => q p hp (S.free hp) (S.ex_ (Ex.new hp)) (Ex.new hp) upd_same⟩
theorem f_catL {s d : Addr} {B : Nat} {a b : Addr} {xs ys : List V} (S : Src H s d B) (ha : H a = some (.lst xs)) (hb : H b = some (.lst ys)) (hz : xs.length + ys.length ≤ 1000) (q : ∀ p H', H p = none → p ≠ s ∧ p ≠ d → Src H' s d B → Ex H H' → H' p = some (.lst (xs ++ ys)) → Q (.ref p) H') : rCat (.ref a) (.ref b) H Q :=
  ⟨a, b, xs, ys, rfl, rfl, ha, hb, sz1000 hz, fun p hp => q p _ hp (S.free hp) (S.ex_ (Ex.new hp)) (Ex.new hp) upd_same⟩
theorem Kp.new {s d p : Addr} {B : Nat} {H H' : Hp} (k : Kp s d H H') (S : Src H' s d B) (h : H' p = none) : H p = none := by
  have f := S.free h
  rcases e : H p with _ | o
  · rfl
  · rw [k.at f e] at h; cases h
/-- a new date, in the midst of draws -/
def spDate (ok : Int → Int → Int → Prop) : Sp := fun vs H Q _ => ∃ (s d : Addr) (B : Nat), vs = [.ref s] ∧ Src H s d (B + 12) ∧ ∀ (y m e : Int) (p : Addr) (H' : Hp), ok y m e → y.natAbs ≤ 10 ^ 31 → H p = none → p ≠ s ∧ p ≠ d → Src H' s d B → Kp s d H H' → H' p = some (.tup [.int y, .int m, .int e]) → Q (.ref p) H'
/-- a new list of at most `most` ints -/
def spJumps : Sp := fun vs H Q _ => ∃ (s d : Addr) (B : Nat) (most : Int), vs = [.ref s, .int most] ∧ 0 ≤ most ∧ most ≤ 60 ∧ Src H s d (B + 1000) ∧
  ∀ (ks : List Int) (p : Addr) (H' : Hp), (ks.length : Int) ≤ most → (∀ k, k ∈ ks → k.natAbs ≤ 10 ^ 28) → H p = none → p ≠ s ∧ p ≠ d → Src H' s d B → Kp s d H H' → H' p = some (.lst (ks.map V.int)) → Q (.ref p) H'
end
section
variable {K : PySem.W.Frag} {σ : L2.St} {H : Hp} {Q : VK} {te ta tb to : TE} {D : Ends} {tu : TS} {g : TG}
theorem f_forR1 {ta : TA} (h : ta σ H fun vs H1 => ∃ j : Int, vs = [.int j] ∧ -(2 ^ 62) ≤ j ∧ j < 2 ^ 62 ∧ ∃ W : Nat → Nat → L2.St → Hp → Prop, (∃ m, W 0 m σ H1) ∧ ∀ i m σ H, W i m σ H →
    ((Itr 0 j.toNat).stop i H ∧ D.nx σ H) ∨ ((Itr 0 j.toNat).go i H ∧ ∃ N : L2.St → Hp → Prop, (∀ σ' H', N σ' H' → ∃ m', m' < m ∧ W (i + 1) m' σ' H') ∧ ∀ x H', (Itr 0 j.toNat).yld i H x H' → g x σ H' fun σ2 H2 => tu { D with nx := N, ct := N, bk := D.nx } σ2 H2)) : tFor (iRng1 ta) g tu D σ H := h
theorem f_bm {T : String} {r : V → List V → Hp → VK → Prop} {t : TA} (h : to σ H fun x H1 => tyV K T x H1 ∧ t σ H1 fun xs H2 => r x xs H2 Q) : tBM K T r to t σ H Q := h
theorem f_tyL {p : Addr} {xs : List V} {R : Prop} (h : H p = some (.lst xs)) (q : R) : tyV K "list" (.ref p) H ∧ R := ⟨.inl ⟨rfl, _, sq_of h⟩, q⟩
theorem at_m2 {L : List Int} (h : 2 ≤ L.length) : ∃ z, z ∈ L ∧ atI (L.map V.int) (-2) = some (.int z) := by
  have e : ixN (L.map V.int).length (-2) = some (L.length - 2) := by
    unfold ixN
    rw [List.length_map, if_neg (by decide), if_pos (by omega)]
    exact congrArg some (by omega)
  have hj : L.length - 2 < L.length := by omega
  refine ⟨L[L.length - 2], List.getElem_mem hj, ?_⟩
  unfold atI
  rw [e]
  show (L.map V.int)[L.length - 2]? = _
  rw [List.getElem?_map, List.getElem?_eq_getElem hj]; rfl
theorem ixN_m1 {n : Nat} (h : 0 < n) : ixN n (-1) = some (n - 1) := by
  unfold ixN
  rw [if_neg (by decide), if_pos (by omega)]
  exact congrArg some (by omega)
end
/-! ### texts that fit -/
theorem fits_of {d : PyData} (h1 : d.hasDict = false) (h2 : d.showable = true) (h3 : d.depth ≤ 20) (h4 : d.leavesShort 110 = true) (h5 : d.weight ≤ 140000) : Fits d :=
  ⟨h1, h2, h3, Nat.le_trans (PyData.shown_le 110 (by decide) d h4) (Nat.le_trans (Nat.add_le_add_right (Nat.mul_le_mul_left 112 h5) 110) (by decide))⟩
theorem log_le {i : Int} (h : i.natAbs ≤ 10 ^ 100) : i.natAbs.log2 < 334 := PySem.Flt.log2_lt_of (by decide) (Nat.lt_of_le_of_lt h (by decide +kernel))
theorem shows_int {i : Int} (h : i.natAbs ≤ 10 ^ 100) : PyData.showable (.int i) = true ∧ PyData.leavesShort 110 (.int i) = true ∧ PyData.weight (.int i) ≤ 335 := by
  have hl := log_le h
  refine ⟨?_, ?_, ?_⟩
  · simp only [PyData.showable]; exact decide_eq_true (by omega)
  · simp only [PyData.leavesShort]
    refine decide_eq_true ?_
    have e := int_text_length_le10 (k := 101) (a := i) (by decide) (Nat.lt_of_le_of_lt h (by decide +kernel))
    show (Str.ofString (toString i)).length ≤ 110
    rw [ofString_length]; omega
  · simp only [PyData.weight]; split <;> omega
theorem shows_ints : ∀ (ks : List Int), (∀ k, k ∈ ks → k.natAbs ≤ 10 ^ 100) → PyData.showableAll (ks.map PyData.int) = true ∧ PyData.leavesShortAll 110 (ks.map PyData.int) = true ∧ PyData.weightAll (ks.map PyData.int) ≤ 336 * ks.length ∧ PyData.hasDictAll (ks.map PyData.int) = false ∧ PyData.depthAll (ks.map PyData.int) = 0
  | [], _ => by simp [PyData.showableAll, PyData.leavesShortAll, PyData.weightAll, PyData.hasDictAll, PyData.depthAll]
  | k :: ks, h => by
    obtain ⟨a, b, c⟩ := shows_int (h k (List.mem_cons_self ..))
    obtain ⟨a', b', c', d', e'⟩ := shows_ints ks fun x hx => h x (List.mem_cons_of_mem _ hx)
    refine ⟨?_, ?_, ?_, ?_, ?_⟩
    · simp only [List.map_cons, PyData.showableAll, a, a']; rfl
    · simp only [List.map_cons, PyData.leavesShortAll, b, b']; rfl
    · simp only [List.map_cons, PyData.weightAll, List.length_cons]; omega
    · simp only [List.map_cons, PyData.hasDictAll, PyData.hasDict, d']; rfl
    · simp only [List.map_cons, PyData.depthAll, PyData.depth, e']; rfl
/-- [date, list] -/
def pairD (y m e : Int) (ks : List Int) : PyData := .list [.tuple ([y, m, e].map PyData.int), .list (ks.map PyData.int)]
theorem fits_pair {y m e : Int} {ks : List Int} (h : ∀ k, k ∈ [y, m, e] → k.natAbs ≤ 10 ^ 100) (hk : ∀ k, k ∈ ks → k.natAbs ≤ 10 ^ 100) (hl : ks.length ≤ 200) : Fits (pairD y m e ks) := by
  obtain ⟨a, b, c, d, f⟩ := shows_ints [y, m, e] h
  obtain ⟨a', b', c', d', f'⟩ := shows_ints ks hk
  refine fits_of ?_ ?_ ?_ ?_ ?_
  · simp only [pairD, PyData.hasDict, PyData.hasDictAll, d, d']; rfl
  · simp only [pairD, PyData.showable, PyData.showableAll, a, a']; rfl
  · simp only [pairD, PyData.depth, PyData.depthAll, f, f']; decide
  · simp only [pairD, PyData.leavesShort, PyData.leavesShortAll, b, b']; rfl
  · simp only [pairD, PyData.weight, PyData.weightAll]
    have : [y, m, e].length = 3 := rfl
    omega
theorem ev_reprL {K : PySem.W.Frag} {σ : L2.St} {H : Hp} {te : TE} {xs : List V} {d : PyData} (h : EvL te σ H xs) (hd : ∀ p H1, Ex H H1 → H1 p = some (.lst xs) → Dp K H1 (.ref p) d) (hf : Fits d) : Ev (tCB (rRepr K) (tCons te tNil)) σ H (.str d.shown) := fun H1 e Q q =>
  h H1 e _ fun p H2 _ e2 h2 => ⟨p, d, rfl, hd p H2 (e.trans e2) h2, hf, fun H3 e3 => q H3 (e2.trans e3)⟩
theorem dp_date {K : PySem.W.Frag} {H : Hp} {p : Addr} {xs : List Int} (h : SqT K H p (xs.map V.int)) : Dp K H (.ref p) (.tuple (xs.map PyData.int)) := .tup h (dpa_ints xs)
theorem dp_pair {K : PySem.W.Frag} {H : Hp} {p a b : Addr} {y m e : Int} {ks : List Int} (h : H p = some (.lst [.ref a, .ref b])) (ha : SqT K H a [.int y, .int m, .int e]) (hb : SqL K H b (ks.map V.int)) : Dp K H (.ref p) (pairD y m e ks) :=
  .lst (sq_of h) (.cons (dp_date (xs := [y, m, e]) ha) (.cons (dp_ints hb) .nil))
theorem rv_eqS {H : Hp} {x : Str} : RV rEq (.str x) (.str x) H (.bl true) := fun H1 _ _ q => ⟨rfl, by rw [decide_eq_true rfl]; exact q H1 (Ex.refl H1)⟩
theorem rv_neS {H : Hp} {x : Str} : RV rNe (.str x) (.str x) H (.bl false) := fun H1 _ _ q => ⟨rfl, by rw [decide_eq_true rfl]; exact q H1 (Ex.refl H1)⟩
theorem okd_ints (n : Nat) (ks : List Int) : ∀ d, d ∈ ks.map PyData.int → okd n d := fun d hd => by
  obtain ⟨z, _, rfl⟩ := List.mem_map.mp hd
  cases n <;> trivial
theorem eqv_tints {n : Nat} (xs : List Int) : SeqAt.shaped (.tuple (xs.map PyData.int)) = true := PySem.W.ke_shaped_ints xs
/-- tuples of ints compared -/
theorem rv_neT {K : PySem.W.Frag} {H : Hp} {a b : Addr} {xs : List Int} (ha : SqT K H a (xs.map V.int)) (hb : SqT K H b (xs.map V.int)) : RV (rNeD K) (.ref a) (.ref b) H (.bl false) := fun H1 e Q q =>
  ⟨_, _, dp_date (ex_t e ha), dp_date (ex_t e hb), PySem.W.ke_shaped_ints xs, PySem.W.ke_shaped_ints xs, by
    show Q (.bl (!PyData.eqvAll (xs.map PyData.int) (xs.map PyData.int))) H1
    rw [eqv_ints, decide_eq_true rfl]; exact q H1 (Ex.refl H1)⟩
theorem rv_eqT {K : PySem.W.Frag} {H : Hp} {a b : Addr} {xs : List Int} (ha : SqT K H a (xs.map V.int)) (hb : SqT K H b (xs.map V.int)) : RV (rEqD K) (.ref a) (.ref b) H (.bl true) := fun H1 e Q q =>
  ⟨_, _, dp_date (ex_t e ha), dp_date (ex_t e hb), PySem.W.ke_shaped_ints xs, PySem.W.ke_shaped_ints xs, by
    show Q (.bl (PyData.eqvAll (xs.map PyData.int) (xs.map PyData.int))) H1
    rw [eqv_ints, decide_eq_true rfl]; exact q H1 (Ex.refl H1)⟩
/-! ### comprehensions that draw; slices -/
section
variable {K : PySem.W.Frag} {σ : L2.St} {H : Hp} {Q : VK} {te ta tb to : TE} {tt : TT} {g : TG}
/-- what a comprehension over range(n) asks -/
def LcR (n : Nat) (g : TG) (tt : TT) (te : TE) (vs : List Nat) (σ : L2.St) (H : Hp) (Q : VK) : Prop := ∀ D, H D = none → ∃ W : Nat → Nat → Hp → Prop, (∃ m, W 0 m (upd H D (.lst []))) ∧ ∀ i m H, W i m H →
  ((Itr 0 n).stop i H ∧ Q (.ref D) H) ∨ ((Itr 0 n).go i H ∧ ∃ Nx : Hp → Prop, (∀ H', Nx H' → ∃ m', m' < m ∧ W (i + 1) m' H') ∧ ∀ x H', (Itr 0 n).yld i H x H' → g x (wipe σ vs) H' fun σ2 H2 => wipe σ2 vs = wipe σ vs ∧ tt σ2 H2 fun b H3 =>
    if b = true then te σ2 H3 fun y H4 => ∃ acc, H4 D = some (.lst acc) ∧ acc.length < sizeLine ∧ Nx (upd H4 D (.lst (acc ++ [y]))) else Nx H3)
theorem f_lcR1 {ta : TA} {vs : List Nat} (h : ta σ H fun us H1 => ∃ n : Int, us = [.int n] ∧ -(2 ^ 62) ≤ n ∧ n < 2 ^ 62 ∧ LcR n.toNat g tt te vs σ H1 Q) : tLc (iRng1 ta) g tt te vs σ H Q := h
theorem f_yes {R : Bool → Hp → Prop} (h : R true H) : tYes σ H R := h
/-- n turns, each of at most c draws and an int with φ -/
theorem lc_draws {vs : List Nat} {j n : Nat} {s d : Addr} {B c : Nat} (φ : Int → Prop) (S : Src H s d (B + c * n)) (hn : n ≤ 1000) (hw : ∀ x, wipe ((wipe σ vs).set j (some x)) vs = wipe σ vs)
    (turn : ∀ (i : Nat) H' b, i < n → Kp s d H H' → Src H' s d (b + c) → ∀ R : VK, (∀ z H2, φ z → Kp s d H' H2 → Src H2 s d b → R (.int z) H2) → te ((wipe σ vs).set j (some (.int ((0 : Int) + (i : Int))))) H' R)
    (hd : ∀ (ks : List Int) (p : Addr) (H' : Hp), H p = none → p ≠ s ∧ p ≠ d → ks.length = n → (∀ k, k ∈ ks → φ k) → Src H' s d B → Kp s d H H' → H' p = some (.lst (ks.map V.int)) → Q (.ref p) H') :
    LcR n (gName j) tYes te vs σ H Q := fun D hD => by
  have fD := S.free hD
  refine lc_range (lo := 0) (n := n) (fun i H' => ∃ ks : List Int, ks.length = i ∧ (∀ k, k ∈ ks → φ k) ∧ H' D = some (.lst (ks.map V.int)) ∧ Src H' s d (B + c * (n - i)) ∧ Kp s d H H') ⟨[], rfl, (fun _ h => by simp at h), upd_same, S.ex_ (Ex.new hD), .of (Ex.new hD)⟩ (fun i H' hi ⟨ks, h1, h2, h3, h4, h5⟩ => ⟨hw _, ?_⟩) (fun H' ⟨ks, h1, h2, h3, h4, h5⟩ => hd ks D H' hD fD h1 h2 (h4.less (by omega)) h5 h3)
  have e : B + c * (n - i) = B + c * (n - (i + 1)) + c := by
    rw [show n - i = (n - (i + 1)) + 1 by omega, Nat.mul_add, Nat.mul_one]; omega
  rw [e] at h4
  refine f_yes ?_
  rw [if_pos rfl]
  refine turn i H' _ hi h5 h4 _ fun z H2 hz k2 S2 => ⟨_, k2.at fD h3, Nat.lt_of_le_of_lt (by rw [List.length_map]; omega : _ ≤ 1000) (by decide), ks ++ [z], by simp [h1], fun k hk => ?_, by rw [upd_same, List.map_append]; rfl, ?_, fun b o g1 g2 g => ?_⟩
  · rcases List.mem_append.mp hk with h | h
    · exact h2 k h
    · rw [List.mem_singleton.mp h]; exact hz
  · obtain ⟨ds, a, m, q, g1, g2, g3⟩ := S2.ex
    exact ⟨ds, a, m, q, by rw [upd_ne fD.1.symm]; exact g1, by rw [upd_ne fD.2.symm]; exact g2, g3⟩
  · rw [upd_ne (ne_of_none g hD)]
    exact k2 b o g1 g2 (h5 b o g1 g2 g)
theorem cutV_take {xs : List V} {n : Nat} : cutV xs none (some (n : Int)) = xs.take n := by
  unfold cutV
  rw [HT.sIx_none, HT.sIx_nat, List.drop_zero, Nat.sub_zero]
  rcases Nat.le_total n xs.length with h | h
  · rw [Nat.min_eq_left h]
  · rw [Nat.min_eq_right h, List.take_of_length_le (Nat.le_refl _), List.take_of_length_le h]
theorem cutV_drop {xs : List V} {n : Nat} : cutV xs (some (n : Int)) none = xs.drop n := by
  unfold cutV
  rw [HT.sIx_none, HT.sIx_nat]
  rcases Nat.le_total n xs.length with h | h
  · rw [Nat.min_eq_left h, List.take_of_length_le (by rw [List.length_drop]; exact Nat.le_refl _)]
  · rw [Nat.min_eq_right h, Nat.sub_self, List.take_zero, List.drop_eq_nil_of_le h]
theorem el_take {a : Addr} {ks : List Int} {n : Int} (h : Ev te σ H (.ref a)) (hn : Ev ta σ H (.int n)) (h0 : 0 ≤ n) (hs : SqL K H a (ks.map V.int)) : EvL (tSl (rSlL K) te tNoPart (tPart ta)) σ H ((ks.take n.toNat).map V.int) := by
  obtain ⟨m, rfl⟩ : ∃ m : Nat, n = (m : Int) := ⟨n.toNat, by omega⟩
  have z := el_sl h eo_none (eo_some hn) hs
  rw [cutV_take] at z
  rw [List.map_take]; exact z
theorem el_drop {a : Addr} {ks : List Int} {n : Int} (h : Ev te σ H (.ref a)) (hn : Ev ta σ H (.int n)) (h0 : 0 ≤ n) (hs : SqL K H a (ks.map V.int)) : EvL (tSl (rSlL K) te (tPart ta) tNoPart) σ H ((ks.drop n.toNat).map V.int) := by
  obtain ⟨m, rfl⟩ : ∃ m : Nat, n = (m : Int) := ⟨n.toNat, by omega⟩
  have z := el_sl h (eo_some hn) eo_none hs
  rw [cutV_drop] at z
  rw [List.map_drop]; exact z
theorem el_cat {xs ys : List V} (h : EvL ta σ H xs) (hb : EvL tb σ H ys) (hz : xs.length + ys.length ≤ 1000) : EvL (tOp rCat ta tb) σ H (xs ++ ys) := fun H1 e Q q =>
  h H1 e _ fun p H2 _ e2 h2 => hb H2 (e.trans e2) _ fun r H3 _ e3 h3 => ⟨p, r, xs, ys, rfl, rfl, e3 _ _ h2, h3, sz1000 hz, fun l hl => q l _ (fresh_back (e2.trans e3) hl) ((e2.trans e3).trans (Ex.new hl)) upd_same⟩
end
section
variable {K : PySem.W.Frag} {σ : L2.St} {H : Hp} {Q : VK} {te ta tb to : TE}
theorem f_andV (h : ta σ H fun x H1 => ∃ c, x = .bl c ∧ if c = true then tb σ H1 Q else Q (.bl false) H1) : tAndV ta tb σ H Q := h
theorem f_orV (h : ta σ H fun x H1 => ∃ c, x = .bl c ∧ if c = true then Q (.bl true) H1 else tb σ H1 Q) : tOrV ta tb σ H Q := h
theorem f_rv {r : R2} {x y z : V} (h : RV r x y H z) (k : ∀ H1, Ex H H1 → Q z H1) : r x y H Q := h H (Ex.refl H) Q k
theorem f_spU {D : Hp → List V → List V → Prop} {vs : List V} (xs : List V) {E : XK} (h : D H vs xs) (q : ∀ p H', H p = none → Ex H H' → H' p = some (.tup xs) → Q (.ref p) H') : spU D (vs ++ []) H Q E := ⟨xs, by rw [List.append_nil]; exact h, q⟩
end
section
variable {K : PySem.W.Frag} {σ : L2.St} {H : Hp} {Q : VK} {te ta tb to : TE}
theorem ev_opU1 {r : R2} {xs : List V} {y z : V} (ha : EvU ta σ H xs) (hb : ∀ H1, Ex H H1 → Ev tb σ H1 y) (hr : ∀ p H1, H1 p = some (.tup xs) → Ex H H1 → RV r (.ref p) y H1 z) : Ev (tOp r ta tb) σ H z := fun H1 e Q q =>
  ha H1 e _ fun p H2 _ e2 hp => hb H2 (e.trans e2) H2 (Ex.refl H2) _ fun H3 e3 => hr p H3 (e3 p _ hp) ((e.trans e2).trans e3) H3 (Ex.refl H3) Q fun H4 e4 => q H4 ((e2.trans e3).trans e4)
theorem eu_call2L {D : Hp → List V → List V → Prop} {v : V} {ys xs : List V} {E : XK} (ha : Ev ta σ H v) (hb : EvL tb σ H ys) (hs : ∀ p H1, Ex H H1 → H1 p = some (.lst ys) → D H1 [v, .ref p] xs) : EvU (tCall (spU D) [] E (tCons ta (tCons tb tNil))) σ H xs := fun H1 e Q q =>
  ha H1 e _ fun H2 e2 => hb H2 (e.trans e2) _ fun p H3 _ e3 h3 => ⟨xs, hs p H3 ((e.trans e2).trans e3) h3, fun p' H4 hp e4 h4 => q p' H4 (fresh_back (e2.trans e3) hp) ((e2.trans e3).trans e4) h4⟩
theorem eu_call2UL {D : Hp → List V → List V → Prop} {us ys xs : List V} {E : XK} (ha : EvU ta σ H us) (hb : EvL tb σ H ys) (hs : ∀ p r H1, Ex H H1 → H1 p = some (.tup us) → H1 r = some (.lst ys) → D H1 [.ref p, .ref r] xs) : EvU (tCall (spU D) [] E (tCons ta (tCons tb tNil))) σ H xs := fun H1 e Q q =>
  ha H1 e _ fun p H2 _ e2 h2 => hb H2 (e.trans e2) _ fun r H3 _ e3 h3 => ⟨xs, hs p r H3 ((e.trans e2).trans e3) (e3 _ _ h2) h3, fun p' H4 hp e4 h4 => q p' H4 (fresh_back (e2.trans e3) hp) ((e2.trans e3).trans e4) h4⟩
theorem f_par3 {D : Ends} {i j l : Nat} {ta : TA} (h : ta σ H fun vs H1 => ∃ u v w, vs = [u, v, w] ∧ D.nx (((σ.set i (some u)).set j (some v)).set l (some w)) H1) : tPar3 i j l ta D σ H := h
theorem f_par33 {u v w : V} {R : V → V → V → Prop} (q : R u v w) : ∃ a b c, [u, v, w] = [a, b, c] ∧ R a b c := ⟨u, v, w, rfl, q⟩
end
/-! ### lists of tuples of ints -/
/-- all tuples are kept -/
def KT (H H' : Hp) : Prop := ∀ q xs, H q = some (.tup xs) → H' q = some (.tup xs)
theorem KT.ex {H H' : Hp} (e : Ex H H') : KT H H' := fun q xs h => e q _ h
theorem KT.trans {H H1 H2 : Hp} (a : KT H H1) (b : KT H1 H2) : KT H H2 := fun q xs h => b q xs (a q xs h)
theorem KT.kp {H H' : Hp} {s d : Addr} {B : Nat} (S : Src H s d B) (k : Kp s d H H') : KT H H' := fun q xs h => by
  obtain ⟨ds, a, m, c, g1, g2, _⟩ := S.ex
  exact k q _ (ne_of h g1 (by intro z; cases z)) (ne_of h g2 (by intro z; cases z)) h
theorem KT.upd {H : Hp} {l : Addr} {xs ys : List V} (h : H l = some (.lst xs)) : KT H (upd H l (.lst ys)) := fun q zs g => by
  rw [upd_ne (ne_of g h (by intro z; cases z))]; exact g
def TupsAt (H : Hp) : List V → List (List Int) → Prop := Paired fun v xs => ∃ q, v = .ref q ∧ H q = some (.tup (xs.map V.int))
theorem TupsAt.kt {H H' : Hp} (k : KT H H') : ∀ {vs : List V} {xs : List (List Int)}, TupsAt H vs xs → TupsAt H' vs xs
  | _, _, .nil => .nil
  | _, _, .cons ⟨q, e, h⟩ t => .cons ⟨q, e, k q _ h⟩ (TupsAt.kt k t)
theorem TupsAt.snoc {H : Hp} {q : Addr} {ys : List Int} (h : H q = some (.tup (ys.map V.int))) : ∀ {vs : List V} {xs : List (List Int)}, TupsAt H vs xs → TupsAt H (vs ++ [.ref q]) (xs ++ [ys])
  | _, _, .nil => .cons ⟨q, rfl, h⟩ .nil
  | _, _, .cons a t => .cons a (TupsAt.snoc h t)
theorem TupsAt.dpa {K : PySem.W.Frag} {H : Hp} : ∀ {vs : List V} {xs : List (List Int)}, TupsAt H vs xs → DpAll K H vs (xs.map fun x => PyData.tuple (x.map PyData.int))
  | _, _, .nil => .nil
  | _, _, .cons ⟨q, e, h⟩ t => by subst e; exact .cons (dp_date (st_of h)) (TupsAt.dpa t)
theorem TupsAt.len {H : Hp} {vs : List V} {xs : List (List Int)} (h : TupsAt H vs xs) : vs.length = xs.length := Paired.length h
theorem Src.upd {H : Hp} {s d l : Addr} {B : Nat} {o : HO} (S : Src H s d B) (f : l ≠ s ∧ l ≠ d) : Src (upd H l o) s d B := by
  obtain ⟨ds, a, m, c, g1, g2, g3⟩ := S.ex
  exact ⟨ds, a, m, c, by rw [upd_ne f.1.symm]; exact g1, by rw [upd_ne f.2.symm]; exact g2, g3⟩
theorem okd_tups {n : Nat} {xs : List (List Int)} (hl : xs.length ≤ 10000) (h : ∀ x, x ∈ xs → x.length ≤ 10000) : okd (n + 2) (.list (xs.map fun x => PyData.tuple (x.map PyData.int))) := by
  refine ⟨by rw [List.length_map]; exact hl, fun d hd => ?_⟩
  obtain ⟨x, hx, rfl⟩ := List.mem_map.mp hd
  exact ⟨by rw [List.length_map]; exact h x hx, okd_ints _ _⟩
end Mc
namespace Mc
open PySem L2 Evl
/-! ### set(xs) of a list of ints -/
section
variable {P : Program} {w : World} {A : Around} {E : Value → Shared → Prop} {s : Shared}
/-- the new set, empty -/
def freshSet (w : World) : Obj := { cls := .type "set", dict := none, data := .set #[] 0 (.fresh 0 0 (!w.params.followText "set-order")) }
/-- the list's iterator at its start -/
def freshIt (l : Addr) : Obj := { cls := .type "list_iterator", data := .fields #[.ref l, .int 0 0] }
/-- the fill of the new set from the list -/
theorem fill_set {l : Addr} {items : Array Value} {ns : List Int} {R : Result → Shared → Prop} (hh : A.in1.handled = none) (hl : s.heap.IsList l items) (hit : PyProof.Rows.IntsAre items.toList ns) (hb : ns.length + 1 < scanBound)
    (h : ∀ (h' : Heap) (tk c : Nat), SetR w h' s.heap.objs.size (fun j => decide (j ∈ ns)) c → c ≤ ns.length → (∀ b o, s.heap.get? b = some o → h'.get? b = some o) → R (.ok (.ret .none)) { s with heap := h', toks := tk }) (t0 : Nat) :
    codeAny (model P w) A (.builtin "set.update.loop" ⟨[.ref s.heap.objs.size, .ref (s.heap.push (freshSet w)).objs.size], []⟩) R { s with heap := (s.heap.push (freshSet w)).push (freshIt l), toks := t0 } := by
  have sz : (s.heap.push (freshSet w)).objs.size = s.heap.objs.size + 1 := Heap.size_push ..
  have lt : l < s.heap.objs.size := by obtain ⟨o, ho, _⟩ := hl; exact Heap.lt_size ho
  have n1 : items.size = ns.length := by have q := hit.length; rwa [Array.length_toList] at q
  have hl1 : (s.heap.push (freshSet w)).IsList l items := hl.push _
  have val : ∀ (i : Nat) (v : Value), items[i]? = some v → ∃ k t, ns[i]? = some k ∧ v = .int k t := fun i v hv => by
    have hi : i < ns.length := n1 ▸ (Array.getElem?_eq_some_iff.mp hv).1
    obtain ⟨t, e⟩ := PyProof.Rows.IntsAre.int_at hit i v (by rw [Array.getElem?_toList, hv])
    exact ⟨ns[i], t, List.getElem?_eq_getElem hi, by rw [e, List.getD_eq_getElem?_getD, List.getElem?_eq_getElem hi]; rfl⟩
  have far : s.heap.objs.size ∉ [(s.heap.push (freshSet w)).objs.size, l] := by
    rw [sz]; simp only [List.mem_cons, List.mem_singleton, List.not_mem_nil, or_false, not_or]; exact ⟨Nat.ne_of_lt (Nat.lt_succ_self _), Nat.ne_of_gt lt⟩
  have old : ((s.heap.push (freshSet w)).push (freshIt l)).get? s.heap.objs.size = some (freshSet w) := Heap.get?_push_of_some _ (Heap.get?_push_size _ rfl)
  refine set_update_ints ((Walks.list hh _ l (by rw [sz]; exact Nat.ne_of_lt (Nat.lt_succ_of_lt lt)) items).toS) s.heap.objs.size far ns n1 hb val items.size 0 _ (by omega) (Nat.zero_le _) ⟨⟨_, Heap.get?_push_size _ rfl, rfl, rfl⟩, hl1.push _⟩ ⟨0, Nat.le_refl 0, setR_new_at old⟩ fun s' c hm hc hS => ?_
  obtain ⟨h', g', d', tk, os'⟩ := s'
  cases hm.gens
  cases hm.drawn
  cases hm.os
  refine h h' tk c hS (n1 ▸ hc) fun b o e => hm.heap b o ?_ (Heap.get?_push_of_some _ (Heap.get?_push_of_some _ e))
  have lb := Heap.lt_size e
  rw [sz]; simp only [List.mem_cons, List.mem_singleton, List.not_mem_nil, or_false, not_or]; exact ⟨Nat.ne_of_lt lb, Nat.ne_of_lt (Nat.lt_succ_of_lt lb)⟩
/-- the state in which the set was made -/
def withSet (w : World) (s : Shared) : Shared := { s with heap := s.heap.push (freshSet w) }
/-- what the fill leaves -/
def Filled (w : World) (s : Shared) (ns : List Int) (s2 : Shared) : Prop := ∃ (h' : Heap) (tk c : Nat), s2 = { s with heap := h', toks := tk } ∧ SetR w h' s.heap.objs.size (fun j => decide (j ∈ ns)) c ∧ c ≤ ns.length ∧ ∀ b o, s.heap.get? b = some o → h'.get? b = some o
set_option maxHeartbeats 1000000 in
theorem set_init_list {l : Addr} {items : Array Value} (ns : List Int) (hh : A.handled = none) (hl : s.heap.IsList l items) (hit : PyProof.Rows.IntsAre items.toList ns) (hb : ns.length + 1 < scanBound) :
    codeAny (model P w) A (.call (.builtin "set.__init__") ⟨[.ref s.heap.objs.size, .ref l], []⟩) (wants (fun r s2 => r = .none ∧ Filled w s ns s2) E) (withSet w s) := by
  have made : (withSet w s).heap.get? s.heap.objs.size = some (freshSet w) := Heap.get?_push_size _ rfl
  have tyS : (withSet w s).TypeIs (.ref s.heap.objs.size) "set" := ⟨_, made, rfl⟩
  have hl0 := hl
  obtain ⟨⟨cl, dd, da, sl⟩, g1, g2, nn, g3⟩ := hl
  simp only at g2 g3
  subst g2; subst g3
  have g4 : (withSet w s).heap.get? l = some { cls := .type "list", dict := dd, data := .seq items nn, slots := sl } := Heap.get?_push_of_some _ g1
  have u1 := PySem.F.sub_list_set
  have u2 := PySem.F.sub_list_frozenset
  have u3 : (Value.type "list" == Value.type "dict") = false := by decide
  refine codeAny_call_builtin PySem.F.called_set.init.plain PySem.F.entry_set_init (check_set_init_1 tyS ?_)
  unfold Builtin.«set.__init__» noKeywords Builtin.Frozenset.updateFrom
  generalize hg : pyIter = walker
  wp_walk
  subst hg
  refine wpAny_pyIter_list (hl0.push _) ?_
  refine wpAny_bind (wpAny_runValue ?_)
  refine fill_set (by simp [hh]) hl0 hit hb (fun h' tk c a b d => ?_) _
  show wpAny _ _ _ _ _ _
  refine wpAny_pure ?_
  show wpAny _ _ (ret Value.none) _ _ _
  exact wpAny_pure ⟨rfl, h', tk, c, rfl, a, b, d⟩
set_option maxHeartbeats 1000000 in
theorem set_of_list {l : Addr} {items : Array Value} (ns : List Int) {Q : Value → Shared → Prop} (hh : A.handled = none) (hl : s.heap.IsList l items) (hit : PyProof.Rows.IntsAre items.toList ns) (hb : ns.length + 1 < scanBound)
    (done : ∀ (h' : Heap) (tk c : Nat), SetR w h' s.heap.objs.size (fun j => decide (j ∈ ns)) c → c ≤ ns.length → (∀ b o, s.heap.get? b = some o → h'.get? b = some o) → Q (.ref s.heap.objs.size) { s with heap := h', toks := tk }) :
    wpAny (model P w) A (call (.type "set") [.ref l]) Q E s := by
  have m1 := PySem.F.called_set.made
  have m2 := PySem.F.called_set.sub
  have m3 := PySem.F.called_set.notType
  have m4 := PySem.F.called_set.canCreate
  have m5 := PySem.F.typeCall_set_1 (.ref l)
  have m6 := PySem.F.called_set.init.lookup
  have m7 := PySem.F.called_set.init.bind (.ref s.heap.objs.size)
  obtain ⟨c0, tl0, m8⟩ := PySem.F.called_set.mro
  refine wpAny_call (codeAny_of_tree ?_)
  show wpAny _ _ (callAny (Value.type "set") _) _ _ _
  refine wpAny_pure ⟨Code.quiet_builtin _ (by decide +kernel), codeAny_builtin PySem.F.entry_type_call ?_⟩
  rw [Around.under_plain (weight_type_call_type "set" [.ref l] []) rfl]
  repeat (any_goals (first | assumption | wp_step))
  have made : (withSet w s).heap.get? s.heap.objs.size = some (freshSet w) := Heap.get?_push_size _ rfl
  refine codeAny_mono (code_set_led1 (.ref l) (E := E) (Q₁ := fun obj s₁ => obj = .ref s.heap.objs.size ∧ s₁ = withSet w s) ⟨rfl, rfl⟩) fun r s₁ hr => ?_
  match r, hr with
  | .error e, hr => exact hr
  | .ok (.ret obj), hr =>
    obtain ⟨rfl, rfl⟩ := hr
    have tyS : (withSet w s).TypeIs (.ref s.heap.objs.size) "set" := ⟨_, made, rfl⟩
    repeat (any_goals (first | assumption | wp_step))
    refine codeAny_mono (set_init_list (E := E) ns (by simp [hh]) hl hit hb) fun r2 s2 h2 => ?_
    match r2, h2 with
    | .error e, h2 => exact h2
    | .ok (.ret v), h2 =>
      obtain ⟨rfl, h', tk, c, rfl, a, b, d⟩ := h2
      repeat (any_goals (first | assumption | wp_step))
      exact done h' tk c a b d
end
/-! ### sorted, of a set of any size -/
section
open PySem.Spec PyProof.Rows
variable {P : Program} {w : World} {A : Around} {E : Value → Shared → Prop} {s : Shared} {a : Addr}
theorem sortedA {S : Int → Bool} {n : Nat} {Q : Value → Shared → Prop} (R : SetR w s.heap a S n) (hh : A.handled = none) (h64 : n ≤ 100000)
    (q : ∀ s' p (out : Array Value) (c : Nat) (ns : List Int), (∀ b o, s.heap.get? b = some o → s'.heap.get? b = some o) → s'.gens = s.gens → s'.os = s.os → s.heap.objs.size ≤ p → s'.heap.get? p = some (seqObj "list" out c) → IntsAre out.toList ns → ns.Pairwise (· < ·) → (∀ k, k ∈ ns ↔ S k = true) → ns.length = n → Q (.ref p) s') : wpAny (model P w) A (call (.builtin "sorted") [.ref a]) Q E s := by
  obtain ⟨o, es, ep, t, r1, r2, r3, r4, r5, r6, r7, r8, r9, r10, r11⟩ := R
  have hL : n ≤ sizeLine := by rw [sizeLine_eq]; omega
  refine Calls.call_function_entry kind_sorted plain_sorted entry_sorted (args_sorted1 _) ?_
  show wpAny _ _ (Builtin.«sorted» _) _ _ _
  unfold Builtin.«sorted»
  refine wpAny_bind (m := checkCount "sorted" 1 1 _) (wpAny_pure (wpAny_bind (collect_set (A := A.in1) hh ⟨o, r1, r2.1, r3⟩ r8 r7 r10 r11 fun s1 vs k1 hz g1 o1 pm => ?_)))
  have el : vs.length = n := by rw [pm.length_eq, List.length_map, Array.length_toList, ← r9]
  have iv : IntsAre vs (vs.map Builtin.Re.reRawOf) := ints_of vs fun v hv => by
    obtain ⟨e, he, rfl⟩ := List.mem_map.mp (pm.mem_iff.mp hv)
    obtain ⟨k, tk, z, _⟩ := r4 e he
    exact ⟨k, tk, z⟩
  have pk : (vs.map Builtin.Re.reRawOf).Perm (es.toList.map keyOf) := List.map_map (f := Prod.snd) (g := Builtin.Re.reRawOf) ▸ pm.map Builtin.Re.reRawOf
  have at_ : (s1.heap.push (seqObj "list" vs.toArray 0)).get? s1.heap.objs.size = some (seqObj "list" vs.toArray 0) := Heap.get?_push_size _ rfl
  refine wpAny_bind (wpAny_newList (wpAny_bind (wpAny_holding (wpAny_call_entry slot_list_sort ⟨_, at_, rfl⟩ entry_list_sort (list_sort_treeAny at_ iv (el ▸ hL) fun out zs a1 a2 a3 => ⟨_, rfl, ?_⟩) (args_list_sort _)))) (el ▸ hL))
  obtain ⟨c, hc⟩ := sortedHeap_at (vs := vs) (out := out) at_
  have pz : zs.Perm (es.toList.map keyOf) := a2.trans pk
  refine wpAny_pure ⟨_, rfl, q _ s1.heap.objs.size out c zs (fun b u g => ?_) g1 o1 hz hc a1 (lt_of_le_nodup zs a3 (pz.nodup_iff.mpr r5)) (fun k => (pz.mem_iff).trans (r6 k).symm) (by rw [pz.length_eq, List.length_map, Array.length_toList, ← r9])⟩
  have g' := k1 b u g
  have bl := Heap.lt_size g'
  exact (sortedHeap_old (Nat.ne_of_lt bl) (by rw [size_push']; exact Nat.lt_succ_of_lt bl)).trans (Heap.get?_push_of_some _ g')
end
section
variable {X : Cx}
/-- sorted(found) -/
def rSortedA (w : World) : List V → Hp → VK → Prop := fun vs H Q => ∃ (a : Addr) (S : Int → Bool) (n : Nat), vs = [V.ref a] ∧ H a = some (SetO w a S n) ∧ n ≤ 1000 ∧ ∀ (ns : List Int) (p : Addr), ns.Pairwise (· < ·) → (∀ k : Int, k ∈ ns ↔ S k = true) → ns.length = n → H p = none → Q (.ref p) (upd H p (.lst (ns.map V.int)))
theorem cr_sortedA (hc : X.calm = true) : CallR X (.builtin "sorted") (rSortedA X.w) := by
  intro pins s σ H vs us Q I r h
  obtain ⟨a, S, n, rfl, ha, hn, q⟩ := h
  have R := setO_get I ha
  rw [Vals.ref1 r]
  refine sortedA R (I.ok.hd hc) (by omega) fun s' p out c ns k g o hp hg hi hs hm hl => ?_
  have hz : (ns.map V.int).length ≤ sizeLine := by rw [List.length_map, sizeLine_eq, hl]; omega
  have np : H p = none := I.hok.fresh hp
  obtain ⟨h1, h2, h3, h4⟩ : s'.os = s.os ∧ True ∧ True ∧ True := ⟨o, trivial, trivial, trivial⟩
  have J : Inv X pins σ (upd H p (.lst (ns.map V.int))) { s with heap := s'.heap, gens := s'.gens, drawn := s'.drawn, toks := s'.toks } := I.call (ch := []) (Un.laid k hp np) (I.hok.laid k hp ⟨hz, out.toList, c, vals_of_ints hi, hg⟩) (by rw [g]; exact I.bare) fun _ z => nomatch z
  have es : s' = { s with heap := s'.heap, gens := s'.gens, drawn := s'.drawn, toks := s'.toks } := by
    cases s'; cases s; cases o; rfl
  rw [es]
  exact ⟨.ref p, _, J, rfl, q ns p hs hm hl np⟩
/-- sorted(xs) of a list of ints -/
def rSortedLA (K : PySem.W.Frag) : List V → Hp → VK → Prop := fun vs H Q => ∃ (a : Addr) (xs : List Int), vs = [V.ref a] ∧ SqL K H a (xs.map V.int) ∧ xs.length ≤ 100000 ∧ ∀ (ns : List Int) (p : Addr), ns.Perm xs → ns.Pairwise (· ≤ ·) → H p = none → Q (.ref p) (upd H p (.lst (ns.map V.int)))
theorem cr_sortedLA : CallR X (.builtin "sorted") (rSortedLA X.K) := by
  intro pins s σ H vs us Q I r h
  obtain ⟨a, xs, rfl, hs, hz, q⟩ := h
  obtain ⟨its, rv, pl, _⟩ := I.list hs
  have iv := rv.ints
  have hL : xs.length ≤ sizeLine := by rw [sizeLine_eq]; omega
  rw [Vals.ref1 r]
  refine PyProof.Rows.sorted_intsAny pl.isList iv (by rw [iv.length]; exact hL) fun out ns h1 h2 h3 => ?_
  obtain ⟨ep, he⟩ := PyProof.Rows.sortedAll_at s.heap its out
  have nz : (ns.map V.int).length ≤ sizeLine := by rw [List.length_map, h2.length_eq]; exact hL
  exact ⟨.ref _, upd H (s.heap.objs.size + 1) (.lst (ns.map V.int)), I.laid (t' := s.toks) (fun _ _ => PyProof.Rows.sortedAll_old) (Nat.le_succ _) ⟨nz, out.toList, ep, vals_of_ints h1, he⟩, rfl, q ns _ h2 h3 (I.hok.fresh (Nat.le_succ _))⟩
end
end Mc
namespace Mc
open PySem L2 Evl
section
variable {X : Cx}
def rSetL (K : PySem.W.Frag) (w : World) : List V → Hp → VK → Prop := fun xs H Q => ∃ (l : Addr) (ns : List Int), xs = [.ref l] ∧ SqL K H l (ns.map V.int) ∧ ns.length ≤ 1000 ∧ ∀ p c, H p = none → c ≤ ns.length → Q (.ref p) (upd H p (SetO w p (fun j => decide (j ∈ ns)) c))
theorem cr_setL (hc : X.calm = true) : CallR X (.type "set") (rSetL X.K X.w) := by
  intro pins s σ H xs us Q I r h
  obtain ⟨l, ns, rfl, hS, hl, q⟩ := h
  obtain ⟨its, rv, pl, hz⟩ := I.list hS
  rw [Vals.ref1 r]
  refine set_of_list ns (I.ok.hd hc) pl.isList (by simpa using rv.ints) (by unfold scanBound; omega) fun h' tk c R hcn k => ?_
  exact ⟨.ref _, upd H s.heap.objs.size (SetO X.w s.heap.objs.size (fun j => decide (j ∈ ns)) c), I.laid (t' := tk) k (Nat.le_refl _) (setO_new R), rfl, q _ _ (I.hok.fresh (Nat.le_refl _)) hcn⟩
end
/-! ### the members of a list, ascending -/
def insI (k : Int) : List Int → List Int
  | [] => [k]
  | x :: r => if k < x then k :: x :: r else if k = x then x :: r else x :: insI k r
def srt (ns : List Int) : List Int := ns.foldr insI []
theorem mem_insI {k j : Int} : ∀ {ns : List Int}, j ∈ insI k ns ↔ j = k ∨ j ∈ ns
  | [] => by simp [insI]
  | x :: r => by
    have ih := mem_insI (k := k) (j := j) (ns := r)
    unfold insI
    split
    · simp
    · split
      · next h => subst h; simp
      · rw [List.mem_cons, ih, List.mem_cons]
        constructor
        · rintro (h | h | h)
          · exact .inr (.inl h)
          · exact .inl h
          · exact .inr (.inr h)
        · rintro (h | h | h)
          · exact .inr (.inl h)
          · exact .inl h
          · exact .inr (.inr h)
theorem pw_insI {k : Int} : ∀ {ns : List Int}, ns.Pairwise (· < ·) → (insI k ns).Pairwise (· < ·)
  | [], _ => by simp [insI]
  | x :: r, h => by
    have h1 := List.pairwise_cons.mp h
    unfold insI
    split
    · next hk => exact List.pairwise_cons.mpr ⟨fun y hy => by
        rcases List.mem_cons.mp hy with rfl | hy
        · exact hk
        · exact Int.lt_trans hk (h1.1 y hy), h⟩
    · split
      · exact h
      · next hk he => exact List.pairwise_cons.mpr ⟨fun y hy => by
          rcases mem_insI.mp hy with rfl | hy
          · omega
          · exact h1.1 y hy, pw_insI h1.2⟩
theorem mem_srt {j : Int} : ∀ {ns : List Int}, j ∈ srt ns ↔ j ∈ ns
  | [] => by simp [srt]
  | x :: r => by
    have ih := mem_srt (j := j) (ns := r)
    show j ∈ insI x (srt r) ↔ _
    rw [mem_insI, ih, List.mem_cons]
theorem pw_srt : ∀ (ns : List Int), (srt ns).Pairwise (· < ·)
  | [] => List.Pairwise.nil
  | x :: r => pw_insI (pw_srt r)
theorem asc_uniq : ∀ {as bs : List Int}, as.Pairwise (· < ·) → bs.Pairwise (· < ·) → (∀ k, k ∈ as ↔ k ∈ bs) → as = bs
  | [], [], _, _, _ => rfl
  | [], b :: bs, _, _, h => absurd ((h b).mpr (List.mem_cons_self ..)) (by simp)
  | a :: as, [], _, _, h => absurd ((h a).mp (List.mem_cons_self ..)) (by simp)
  | a :: as, b :: bs, ha, hb, h => by
    have a1 := List.pairwise_cons.mp ha
    have b1 := List.pairwise_cons.mp hb
    have e : a = b := by
      rcases List.mem_cons.mp ((h a).mp (List.mem_cons_self ..)) with e | e
      · exact e
      · rcases List.mem_cons.mp ((h b).mpr (List.mem_cons_self ..)) with e' | e'
        · exact e'.symm
        · have := b1.1 a e; have := a1.1 b e'; omega
    subst e
    rw [asc_uniq a1.2 b1.2 fun k => ⟨fun hk => ?_, fun hk => ?_⟩]
    · rcases List.mem_cons.mp ((h k).mp (List.mem_cons_of_mem _ hk)) with e | e
      · subst e; exact absurd (a1.1 k hk) (Int.lt_irrefl _)
      · exact e
    · rcases List.mem_cons.mp ((h k).mpr (List.mem_cons_of_mem _ hk)) with e | e
      · subst e; exact absurd (b1.1 k hk) (Int.lt_irrefl _)
      · exact e
theorem srt_eq {as bs : List Int} (h : ∀ k, k ∈ as ↔ k ∈ bs) : srt as = srt bs := asc_uniq (pw_srt as) (pw_srt bs) fun k => by rw [mem_srt, mem_srt]; exact h k
section
variable {K : PySem.W.Frag} {w : World} {σ : L2.St} {H : Hp} {te : TE}
theorem sorted_step {l : Addr} {ns : List Int} {H H1 H2 : Hp} {Q : VK} (e : Ex H H1) (e2 : Ex H1 H2) (hs : SqL K H2 l (ns.map V.int)) (hn : ns.length ≤ 1000) (q : ∀ p H3, H1 p = none → Ex H1 H3 → H3 p = some (.lst ((srt ns).map V.int)) → Q (.ref p) H3) :
    tCons (fun _ H Q => rSetL K w [.ref l] H Q) tNil σ H2 fun vs H3 => rSortedA w vs H3 Q :=
  ⟨l, ns, rfl, hs, by omega, fun p c hp hc => ⟨p, _, c, rfl, upd_same, by omega, fun ks p2 k1 k2 k3 hp2 => by
    have e3 : ks = srt ns := asc_uniq k1 (pw_srt ns) fun k => by rw [k2 k, mem_srt]; simp
    subst e3
    exact q p2 _ (fresh_back (e2.trans (Ex.new hp)) hp2) ((e2.trans (Ex.new hp)).trans (Ex.new hp2)) upd_same⟩⟩
theorem el_sorted {a : Addr} {ns : List Int} (h : Ev te σ H (.ref a)) (hs : SqL K H a (ns.map V.int)) (hn : ns.length ≤ 1000) : EvL (tCB (rSortedA w) (tCons (tCB (rSetL K w) (tCons te tNil)) tNil)) σ H ((srt ns).map V.int) := fun H1 e Q q =>
  h H1 e _ fun H2 e2 => sorted_step (σ := σ) e e2 (ex_l (e.trans e2) hs) hn q
theorem el_sortedL {ns : List Int} (h : EvL te σ H (ns.map V.int)) (hn : ns.length ≤ 1000) : EvL (tCB (rSortedA w) (tCons (tCB (rSetL K w) (tCons te tNil)) tNil)) σ H ((srt ns).map V.int) := fun H1 e Q q =>
  h H1 e _ fun p H2 _ e2 h2 => sorted_step (σ := σ) e e2 (sq_of h2) hn q
/-- a def that gives a new list, as the heap says -/
def spHL (D : Hp → List V → List V → Prop) : Sp := fun vs H Q _ => ∃ xs, D H vs xs ∧ ∀ p H', H p = none → Ex H H' → H' p = some (.lst xs) → Q (.ref p) H'
theorem el_callH {D : Hp → List V → List V → Prop} {vs xs : List V} {E : XK} {ta : TA} (h : EvA ta σ H vs) (hs : ∀ H1, Ex H H1 → D H1 vs xs) : EvL (tCall (spHL D) [] E ta) σ H xs := fun H1 e Q q =>
  h H1 e _ fun H2 e2 => ⟨xs, by rw [List.append_nil]; exact hs H2 (e.trans e2), fun p H3 hp e3 h3 => q p H3 (fresh_back e2 hp) (e2.trans e3) h3⟩
theorem el_callHL {D : Hp → List V → List V → Prop} {ys xs : List V} {E : XK} (h : EvL te σ H ys) (hs : ∀ p H1, Ex H H1 → H1 p = some (.lst ys) → D H1 [.ref p] xs) : EvL (tCall (spHL D) [] E (tCons te tNil)) σ H xs := fun H1 e Q q =>
  h H1 e _ fun p H2 _ e2 h2 => ⟨xs, hs p H2 (e.trans e2) h2, fun p' H3 hp e3 h3 => q p' H3 (fresh_back e2 hp) (e2.trans e3) h3⟩
theorem el_callHN {D : Hp → List V → List V → Prop} {gV : List V → List V → List V} {vs zs xs : List V} {n m : Nat} {E : XK} {ta tk : TA} (h : EvA ta σ H vs) (hk : EvA tk σ H zs) (hn : vs.length = n) (hm : zs.length = m) (hs : ∀ H1, Ex H H1 → D H1 (gV vs zs) xs) : EvL (tCallN n m (spHL D) gV E ta tk) σ H xs := fun H1 e Q q =>
  h H1 e _ fun H2 e2 => hk H2 (e.trans e2) _ fun H3 e3 => ⟨hn, hm, xs, hs H3 ((e.trans e2).trans e3), fun p H4 hp e4 h4 => q p H4 (fresh_back (e2.trans e3) hp) ((e2.trans e3).trans e4) h4⟩
end
/-! ### slices with draws, zip -/
section
variable {K : PySem.W.Frag} {σ : L2.St} {H : Hp} {Q : VK} {te : TE} {tt : TT} {g : TG}
theorem f_sl {r : V → Option Int → Option Int → Hp → VK → Prop} {tl th : TO} (h : te σ H fun x H1 => tl σ H1 fun l H2 => th σ H2 fun u H3 => r x l u H3 Q) : tSl r te tl th σ H Q := h
theorem f_nop {R : Option Int → Hp → Prop} (h : R none H) : tNoPart σ H R := h
theorem f_part {R : Option Int → Hp → Prop} (h : te σ H fun x H1 => ∃ i, x = .int i ∧ R (some i) H1) : tPart te σ H R := h
/-- what a comprehension asks of its walk -/
def LcJ (J : It) (g : TG) (tt : TT) (te : TE) (vs : List Nat) (σ : L2.St) (H : Hp) (Q : VK) : Prop := ∀ D, H D = none → ∃ W : Nat → Nat → Hp → Prop, (∃ m, W 0 m (upd H D (.lst []))) ∧ ∀ i m H, W i m H →
  (J.stop i H ∧ Q (.ref D) H) ∨ (J.go i H ∧ ∃ Nx : Hp → Prop, (∀ H', Nx H' → ∃ m', m' < m ∧ W (i + 1) m' H') ∧ ∀ x H', J.yld i H x H' → g x (wipe σ vs) H' fun σ2 H2 => wipe σ2 vs = wipe σ vs ∧ tt σ2 H2 fun b H3 =>
    if b = true then te σ2 H3 fun y H4 => ∃ acc, H4 D = some (.lst acc) ∧ acc.length < sizeLine ∧ Nx (upd H4 D (.lst (acc ++ [y]))) else Nx H3)
theorem f_lc {wi : TI} {vs : List Nat} (h : wi σ H fun J H1 => LcJ J g tt te vs σ H1 Q) : tLc wi g tt te vs σ H Q := h
theorem f_zipL {ta : TA} {R : It → Hp → Prop} (h : ta σ H fun us H1 => ∃ (a b : Addr) (xs ys : List V), us = [.ref a, .ref b] ∧ ((SqL K H1 a xs ∧ SqL K H1 b ys ∧ R (Itz K a b) H1) ∨ (SqT K H1 a xs ∧ SqT K H1 b ys ∧ R (RZ.ItzT K a b) H1))) : RZ.iZipA K ta σ H R := h
theorem lcz {a b : Addr} {xs ys : List Int} {i j : Nat} {vs : List Nat} (f : Int → Int → Int) (hx : SqL K H a (xs.map V.int)) (hy : SqL K H b (ys.map V.int)) (hn : ys.length ≤ xs.length) (hz : ys.length ≤ 1000)
    (hw : ∀ x y : V, wipe (((wipe σ vs).set i (some x)).set j (some y)) vs = wipe σ vs) (he : ∀ (x y : Int) (H1 : Hp), Ev te (((wipe σ vs).set i (some (.int x))).set j (some (.int y))) H1 (.int (f x y)))
    (q : ∀ p H', H p = none → Ex H H' → H' p = some (.lst ((List.zipWith f xs ys).map V.int)) → Q (.ref p) H') : LcJ (Itz K a b) (gTup K 2 (gCons (gName i) (gCons (gName j) gNil))) tYes te vs σ H Q := fun D hD => by
  have zl : (List.zipWith f xs ys).length = ys.length := by rw [List.length_zipWith]; omega
  refine ⟨fun t m H' => m = ys.length - t ∧ t ≤ ys.length ∧ Ex H H' ∧ H' D = some (.lst (((List.zipWith f xs ys).take t).map V.int)), ⟨ys.length, rfl, Nat.zero_le _, Ex.new hD, upd_same⟩, ?_⟩
  rintro t m H' ⟨rfl, ht, e, hp⟩
  by_cases hlt : t < ys.length
  · have h1 : (xs.map V.int)[t]? = some (.int (xs[t]'(by omega))) := by rw [List.getElem?_map, List.getElem?_eq_getElem (by omega)]; rfl
    have h2 : (ys.map V.int)[t]? = some (.int ys[t]) := by rw [List.getElem?_map, List.getElem?_eq_getElem hlt]; rfl
    refine .inr ⟨⟨_, _, _, _, ex_l e hx, ex_l e hy, h1, h2⟩, fun H'' => Ex H H'' ∧ H'' D = some (.lst (((List.zipWith f xs ys).take (t + 1)).map V.int)), fun H'' z => ⟨ys.length - (t + 1), by omega, rfl, hlt, z⟩, ?_⟩
    rintro v H'' ⟨T, x, y, rfl, hT, rfl, f1, f2⟩
    have ex : x = .int (xs[t]'(by omega)) := Option.some.inj ((f1 _ (ex_l e hx)).symm.trans h1)
    have ey : y = .int ys[t] := Option.some.inj ((f2 _ (ex_l e hy)).symm.trans h2)
    subst ex; subst ey
    refine ⟨T, _, rfl, st_of upd_same, rfl, _, _, rfl, _, _, rfl, rfl, hw _ _, f_yes ?_⟩
    rw [if_pos rfl]
    refine f_ev (he _ _ _) fun H4 e4 => ⟨_, e4 _ _ (Ex.new hT _ _ hp), ?_, fun b o g => ?_, ?_⟩
    · exact Nat.lt_of_le_of_lt (by rw [List.length_map, List.length_take]; omega : _ ≤ 1000) (by decide)
    · rw [upd_ne (ne_of_none g hD)]; exact e4 _ _ (Ex.new hT _ _ (e _ _ g))
    · rw [upd_same, List.take_add_one, List.getElem?_eq_getElem (by omega), List.map_append, List.getElem_zipWith]; rfl
  · have et : t = ys.length := by omega
    subst et
    rw [← zl, List.take_length] at hp
    exact .inl ⟨⟨_, _, ex_l e hx, ex_l e hy, .inr (by rw [List.length_map]; exact Nat.le_refl _)⟩, q D H' hD e hp⟩
end
end Mc
namespace Mk
open PySem L2 Mc Evl
def topS (i : Nat) : Stmt := PySem.Challenge.pw_monthclamp_k05_whole_visits_decide_the_d.main.body.getD i (.Pass ⟨0, 0, 0, 0⟩)
abbrev s_is_leap : Stmt := topS 6
theorem sc_is_leap : FnScope ["year"] ["year"] (defScope s_is_leap) := ⟨rfl, rfl, rfl, by decide +kernel, rfl, by decide +kernel, by decide +kernel⟩
abbrev s_days_in : Stmt := topS 7
theorem sc_days_in : FnScope ["year", "month"] ["year", "month"] (defScope s_days_in) := ⟨rfl, rfl, rfl, by decide +kernel, rfl, by decide +kernel, by decide +kernel⟩
abbrev s_check_date : Stmt := topS 9
theorem sc_check_date : FnScope ["date", "year", "month", "day"] ["date"] (defScope s_check_date) := ⟨rfl, rfl, rfl, by decide +kernel, rfl, by decide +kernel, by decide +kernel⟩
abbrev s_move : Stmt := topS 11
theorem sc_move : FnScope ["date", "steps", "year", "month", "day", "place", "step"] ["date", "steps"] (defScope s_move) := ⟨rfl, rfl, rfl, by decide +kernel, rfl, by decide +kernel, by decide +kernel⟩
abbrev s_visits : Stmt := topS 12
theorem sc_visits : FnScope ["steps", "sums", "step"] ["steps"] (defScope s_visits) := ⟨rfl, rfl, rfl, by decide +kernel, rfl, by decide +kernel, by decide +kernel⟩
abbrev s_law_source : Stmt := topS 14
theorem sc_law_source : FnScope ["script", "mix", "digits", "cell", "size"] ["script"] (defScope s_law_source) := ⟨rfl, rfl, rfl, by decide +kernel, rfl, by decide +kernel, by decide +kernel⟩
abbrev s_law_draw : Stmt := topS 15
theorem sc_law_draw : FnScope ["source", "many", "drawn", "mixed"] ["source", "many"] (defScope s_law_draw) := ⟨rfl, rfl, rfl, by decide +kernel, rfl, by decide +kernel, by decide +kernel⟩
abbrev s_law_same : Stmt := topS 16
theorem sc_law_same : FnScope ["found", "wanted", "k"] ["found", "wanted"] (defScope s_law_same) := ⟨rfl, rfl, rfl, by decide +kernel, rfl, by decide +kernel, by decide +kernel⟩
abbrev s_law_leap : Stmt := topS 17
theorem sc_law_leap : FnScope ["count"] ["count"] (defScope s_law_leap) := ⟨rfl, rfl, rfl, by decide +kernel, rfl, by decide +kernel, by decide +kernel⟩
abbrev s_law_length : Stmt := topS 18
theorem sc_law_length : FnScope ["number", "place"] ["number"] (defScope s_law_length) := ⟨rfl, rfl, rfl, by decide +kernel, rfl, by decide +kernel, by decide +kernel⟩
abbrev s_law_count : Stmt := topS 19
theorem sc_law_count : FnScope ["source", "some", "far"] ["source"] (defScope s_law_count) := ⟨rfl, rfl, rfl, by decide +kernel, rfl, by decide +kernel, by decide +kernel⟩
abbrev s_law_date : Stmt := topS 20
theorem sc_law_date : FnScope ["source", "count", "place", "last", "days"] ["source"] (defScope s_law_date) := ⟨rfl, rfl, rfl, by decide +kernel, rfl, by decide +kernel, by decide +kernel⟩
abbrev s_law_jumps : Stmt := topS 21
theorem sc_law_jumps : FnScope ["source", "most", "found", "time", "sign", "some"] ["source", "most"] (defScope s_law_jumps) := ⟨rfl, rfl, rfl, by decide +kernel, rfl, by decide +kernel, by decide +kernel⟩
abbrev s_law_sums : Stmt := topS 22
theorem sc_law_sums : FnScope ["jumps", "found", "one"] ["jumps"] (defScope s_law_sums) := ⟨rfl, rfl, rfl, by decide +kernel, rfl, by decide +kernel, by decide +kernel⟩
abbrev s_law_again : Stmt := topS 23
theorem sc_law_again : FnScope ["source", "sums", "left", "order", "early", "later", "time"] ["source", "sums"] (defScope s_law_again) := ⟨rfl, rfl, rfl, by decide +kernel, rfl, by decide +kernel, by decide +kernel⟩
abbrev s_law : Stmt := topS 24
theorem sc_law : FnScope ["script", "source", "k", "turn", "begin", "jumps", "saved", "sums", "due", "told", "number", "day", "last", "again", "more", "one"] ["script"] (defScope s_law) := ⟨rfl, rfl, rfl, by decide +kernel, rfl, by decide +kernel, by decide +kernel⟩
structure Top (K : PySem.W.Frag) (mg : Str → Option Value) where
  f_is_leap : Addr
  fd_is_leap : FuncData
  F_is_leap : Fun K "is_leap" "is_leap" s_is_leap f_is_leap fd_is_leap
  g_is_leap : mg "is_leap" = some (.ref f_is_leap)
  b_is_leap : Binds K fd_is_leap ["year"] []
  f_days_in : Addr
  fd_days_in : FuncData
  F_days_in : Fun K "days_in" "days_in" s_days_in f_days_in fd_days_in
  g_days_in : mg "days_in" = some (.ref f_days_in)
  b_days_in : Binds K fd_days_in ["year", "month"] []
  f_check_date : Addr
  fd_check_date : FuncData
  F_check_date : Fun K "check_date" "check_date" s_check_date f_check_date fd_check_date
  g_check_date : mg "check_date" = some (.ref f_check_date)
  b_check_date : Binds K fd_check_date ["date"] []
  f_move : Addr
  fd_move : FuncData
  F_move : Fun K "move" "move" s_move f_move fd_move
  g_move : mg "move" = some (.ref f_move)
  b_move : Binds K fd_move ["date", "steps"] []
  f_visits : Addr
  fd_visits : FuncData
  F_visits : Fun K "visits" "visits" s_visits f_visits fd_visits
  g_visits : mg "visits" = some (.ref f_visits)
  b_visits : Binds K fd_visits ["steps"] []
  f_law_source : Addr
  fd_law_source : FuncData
  F_law_source : Fun K "_law_source" "_law_source" s_law_source f_law_source fd_law_source
  g_law_source : mg "_law_source" = some (.ref f_law_source)
  b_law_source : Binds K fd_law_source ["script"] []
  f_law_draw : Addr
  fd_law_draw : FuncData
  F_law_draw : Fun K "_law_draw" "_law_draw" s_law_draw f_law_draw fd_law_draw
  g_law_draw : mg "_law_draw" = some (.ref f_law_draw)
  b_law_draw : Binds K fd_law_draw ["source", "many"] []
  f_law_same : Addr
  fd_law_same : FuncData
  F_law_same : Fun K "_law_same" "_law_same" s_law_same f_law_same fd_law_same
  g_law_same : mg "_law_same" = some (.ref f_law_same)
  b_law_same : Binds K fd_law_same ["found", "wanted"] []
  f_law_leap : Addr
  fd_law_leap : FuncData
  F_law_leap : Fun K "_law_leap" "_law_leap" s_law_leap f_law_leap fd_law_leap
  g_law_leap : mg "_law_leap" = some (.ref f_law_leap)
  b_law_leap : Binds K fd_law_leap ["count"] []
  f_law_length : Addr
  fd_law_length : FuncData
  F_law_length : Fun K "_law_length" "_law_length" s_law_length f_law_length fd_law_length
  g_law_length : mg "_law_length" = some (.ref f_law_length)
  b_law_length : Binds K fd_law_length ["number"] []
  f_law_count : Addr
  fd_law_count : FuncData
  F_law_count : Fun K "_law_count" "_law_count" s_law_count f_law_count fd_law_count
  g_law_count : mg "_law_count" = some (.ref f_law_count)
  b_law_count : Binds K fd_law_count ["source"] []
  f_law_date : Addr
  fd_law_date : FuncData
  F_law_date : Fun K "_law_date" "_law_date" s_law_date f_law_date fd_law_date
  g_law_date : mg "_law_date" = some (.ref f_law_date)
  b_law_date : Binds K fd_law_date ["source"] []
  f_law_jumps : Addr
  fd_law_jumps : FuncData
  F_law_jumps : Fun K "_law_jumps" "_law_jumps" s_law_jumps f_law_jumps fd_law_jumps
  g_law_jumps : mg "_law_jumps" = some (.ref f_law_jumps)
  b_law_jumps : Binds K fd_law_jumps ["source", "most"] []
  f_law_sums : Addr
  fd_law_sums : FuncData
  F_law_sums : Fun K "_law_sums" "_law_sums" s_law_sums f_law_sums fd_law_sums
  g_law_sums : mg "_law_sums" = some (.ref f_law_sums)
  b_law_sums : Binds K fd_law_sums ["jumps"] []
  f_law_again : Addr
  fd_law_again : FuncData
  F_law_again : Fun K "_law_again" "_law_again" s_law_again f_law_again fd_law_again
  g_law_again : mg "_law_again" = some (.ref f_law_again)
  b_law_again : Binds K fd_law_again ["source", "sums"] []
  f_law : Addr
  fd_law : FuncData
  F_law : Fun K "law" "law" s_law f_law fd_law
  g_law : mg "law" = some (.ref f_law)
  b_law : Binds K fd_law ["script"] []
  z_bool : mg "bool" = none
  z_int : mg "int" = none
  z_isinstance : mg "isinstance" = none
  z_len : mg "len" = none
  z_list : mg "list" = none
  z_max : mg "max" = none
  z_min : mg "min" = none
  z_range : mg "range" = none
  z_repr : mg "repr" = none
  z_set : mg "set" = none
  z_sorted : mg "sorted" = none
  z_str : mg "str" = none
  z_tuple : mg "tuple" = none
  z_zip : mg "zip" = none
  a_DAYS_IN_COMMON_YEAR : Addr
  g_DAYS_IN_COMMON_YEAR : mg "_DAYS_IN_COMMON_YEAR" = some (.ref a_DAYS_IN_COMMON_YEAR)
  q_DAYS_IN_COMMON_YEAR : ∀ H : Hp, SqT K H a_DAYS_IN_COMMON_YEAR [.int 31, .int 28, .int 31, .int 30, .int 31, .int 30, .int 31, .int 31, .int 30, .int 31, .int 30, .int 31]
def spLaw (K : PySem.W.Frag) : Sp := fun vs H Q _ => ∃ (a : Addr) (ns : List Int), vs = [.ref a] ∧ SqL K H a (ns.map V.int) ∧ ns.length ≤ 63 ∧ ∀ H', Q (.bl true) H'
section
variable {P : Program} {w : World} {K : PySem.W.Frag} {mg : Str → Option Value} {base : Heap}
def kg_visits_steps {α : Type} : List α → List α → List α := fun us ws => us ++ ws
theorem kb_visits_steps {K : PySem.W.Frag} {f : Addr} {fd : FuncData} (F : Fun K "visits" "visits" s_visits f fd) : KBn K fd ["steps"] 0 ["steps"] kg_visits_steps kg_visits_steps := by
  obtain ⟨oc, od, kV, doc, pm, an, cdv, ct, osl, rfl, lk, hcd⟩ := F.ex
  refine ⟨fun s us ws _ hl hm => ?_, fun {vs us zs ws} r rz => r.append rz⟩
  match us, ws, hl, hm with
  | [], [w0], _, _ => exact .of_eq rfl
local macro_rules | `(tactic| walk_at "fw") => `(tactic| repeat (first
  | with_reducible refine f_seq ?_
  | with_reducible refine f_asg ?_
  | with_reducible refine f_gName ?_
  | with_reducible refine f_ret ?_
  | with_reducible refine f_op ?_
  | with_reducible refine f_un ?_
  | with_reducible refine f_c ?_
  | ((with_reducible apply f_var); exact rfl)
  | with_reducible refine f_I0 ?_
  | with_reducible refine f_U ?_
  | ((with_reducible refine f_I ?fwh ?_); case fwh => first | assumption | (unfold CPow; omega) | (unfold CDivW; omega) | (unfold CDiv; omega) | (exact wide_mul (a := 20) (b := 64) (by omega) (by omega) (by decide) (by decide) (by decide)) | (exact wide_mul (a := 64) (b := 20) (by omega) (by omega) (by decide) (by decide) (by decide)) | (exact wide_mul (a := 160) (b := 160) (by omega) (by omega) (by decide) (by decide) (by decide)) | decide | omega)
  | with_reducible refine f_eqI ?_
  | with_reducible refine f_neI ?_
  | with_reducible refine f_test ?_
  | with_reducible refine f_B ?_
  | with_reducible refine f_bl ?_
  | with_reducible refine f_and ?_
  | with_reducible refine f_or ?_
  | with_reducible refine f_not ?_
  | with_reducible refine f_next ?_
  | with_reducible refine f_drop ?_
  | with_reducible refine f_ifS ?_
  | with_reducible refine f_if ?_
  | with_reducible refine f_call ?_
  | with_reducible refine f_nil ?_
  | with_reducible refine f_cons ?_
  | with_reducible refine f_tup ?_
  | with_reducible refine f_lst ?_
  | with_reducible refine f_cb ?_))

local macro_rules | `(tactic| walk_at "fs") => `(tactic| repeat (first
  | with_reducible refine f_seq ?_
  | with_reducible refine f_asg ?_
  | with_reducible refine f_gName ?_
  | with_reducible refine f_ret ?_
  | with_reducible refine f_c ?_
  | ((with_reducible apply f_var); exact rfl)
  | with_reducible refine f_test ?_
  | with_reducible refine f_B ?_
  | with_reducible refine f_bl ?_
  | with_reducible refine f_and ?_
  | with_reducible refine f_or ?_
  | with_reducible refine f_not ?_
  | with_reducible refine f_next ?_
  | with_reducible refine f_drop ?_
  | with_reducible refine f_nil ?_
  | with_reducible refine f_ifS ?_))

def leap (y : Int) : Bool := decide (y % 4 = 0) && (!decide (y % 100 = 0) || decide (y % 400 = 0))
def D_leap (vs : List V) (z : V) : Prop := ∃ y : Int, vs = [.int y] ∧ z = .bl (leap y)
theorem ok_is_leap (T : Top K mg) : FnOk P w K mg base CX0 1 T.f_is_leap T.fd_is_leap ["year"] (spF D_leap) := by
  refine T.F_is_leap.ok sc_is_leap (fun vs H Q E h => ?_) (fun cdv A outer s H vs Q E hr h => ?_)
  · obtain ⟨z, ⟨y, rfl, _⟩, _⟩ := h; rfl
  · obtain ⟨z, ⟨y, rfl, rfl⟩, q⟩ := h
    refine ⟨_, (pss_one (ps_ret (pe_and (pe_cmpR op_eq (pe_op op_mod (pv 0) pe_int) pe_int (nomark _)) (pe_one (pe_or (pe_cmpR op_ne (pe_op op_mod (pv 0) pe_int) pe_int (nomark _)) (pe_one (pe_cmpR op_eq (pe_op op_mod (pv 0) pe_int) pe_int (nomark _)))))))), ?_⟩
    exact s_ret (ev_andV (ev_op (ev_op (ev_var rfl) ev_c (rv_I (by decide))) ev_c rv_eqI) fun _ => ev_orV (ev_op (ev_op (ev_var rfl) ev_c (rv_I (by decide))) ev_c rv_neI) fun _ => ev_op (ev_op (ev_var rfl) ev_c (rv_I (by decide))) ev_c rv_eqI) q
def lleap (y : Int) : Bool := decide (y % 400 = 0) || (decide (y % 4 = 0) && !decide (y % 100 = 0))
theorem lleap_eq (y : Int) : lleap y = leap y := by
  unfold lleap leap
  by_cases h4 : y % 400 = 0
  · have a : y % 4 = 0 := by omega
    have b : y % 100 = 0 := by omega
    simp [h4, a, b]
  · simp [h4]
theorem ok_law_leap (T : Top K mg) : FnOk P w K mg base CX0 1 T.f_law_leap T.fd_law_leap ["count"] (spF D_leap) := by
  refine T.F_law_leap.ok sc_law_leap (fun vs H Q E h => ?_) (fun cdv A outer s H vs Q E hr h => ?_)
  · obtain ⟨z, ⟨y, rfl, _⟩, _⟩ := h; rfl
  · obtain ⟨z, ⟨y, rfl, rfl⟩, q⟩ := h
    rw [← lleap_eq] at q
    refine ⟨_, (pss_one (ps_ret (pe_or (pe_cmpR op_eq (pe_op op_mod (pv 0) pe_int) pe_int (nomark _)) (pe_one (pe_and (pe_cmpR op_eq (pe_op op_mod (pv 0) pe_int) pe_int (nomark _)) (pe_one (pe_cmpR op_ne (pe_op op_mod (pv 0) pe_int) pe_int (nomark _)))))))), ?_⟩
    exact s_ret (ev_orV (ev_op (ev_op (ev_var rfl) ev_c (rv_I (by decide))) ev_c rv_eqI) fun _ => ev_andV (ev_op (ev_op (ev_var rfl) ev_c (rv_I (by decide))) ev_c rv_eqI) fun _ => ev_op (ev_op (ev_var rfl) ev_c (rv_I (by decide))) ev_c rv_neI) q


/-! the lengths of months -/
def mlist (y : Int) : List Int := [31, 28 + b2 (leap y), 31, 30, 31, 30, 31, 31, 30, 31, 30, 31]
def dlen (y m : Int) : Int := (mlist y).getD (m - 1).toNat 0
def D_days (vs : List V) (z : V) : Prop := ∃ y m : Int, vs = [.int y, .int m] ∧ 1 ≤ m ∧ m ≤ 12 ∧ z = .int (dlen y m)
theorem ok_days_in (T : Top K mg) : FnOk P w K mg base CX0 2 T.f_days_in T.fd_days_in ["year", "month"] (spF D_days) := by
  have G_is_leap : FnOk P w K mg base CX0 1 T.f_is_leap T.fd_is_leap ["year"] (spF D_leap) := ok_is_leap T
  refine T.F_days_in.ok sc_days_in (fun vs H Q E h => ?_) (fun cdv A outer s H vs Q E hr h => ?_)
  · obtain ⟨z, ⟨y, m, rfl, _⟩, _⟩ := h; rfl
  · obtain ⟨z, ⟨y, m, rfl, h1, h12, rfl⟩, q⟩ := h
    refine ⟨_, (pss_cons (ps_if (PW.pt (pw_or (pt_cmpR op_lt (pv 1) pe_int (nomark _)) (pw_or1 (pt_cmpR op_gt (pv 1) pe_int (nomark _))))) (pss_one ps_never) pss_nil)
      (pss_cons (ps_if (PW.pt (pw_and (pt_cmpR op_eq (pv 1) pe_int (nomark _)) (pw_and1 (pt_val (pe_call G_is_leap (hr.mono (by first | decide | omega)) (by rfl) T.g_is_leap T.F_is_leap.kp T.b_is_leap .nil pass0 (pa_cons (pv 0) pa_nil)))))) (pss_one (ps_ret pe_int)) pss_nil)
      (pss_one (ps_ret (pe_ix (r := rIxT K) ix_tup (pe_glob (v := .ref T.a_DAYS_IN_COMMON_YEAR) (by rfl) T.g_DAYS_IN_COMMON_YEAR rfl) (pe_op op_sub (pv 1) pe_int) (fun _ _ => rfl)))))), ?_⟩
    refine f_seq (s_if (et_or (et_test (ev_op (ev_var rfl) ev_c rv_I0)) fun _ => et_test (ev_op (ev_var rfl) ev_c rv_I0)) (fun h => ?_) fun _ H1 e1 => ?_)
    · simp at h; omega
    refine f_seq (s_if (et_and (et_test (ev_op (ev_var rfl) ev_c rv_eqI)) fun _ => et_B (ev_call (ea_cons (ev_var rfl) ea_nil) (sv_F ⟨y, rfl, rfl⟩))) (fun h H2 e2 => ?_) fun h H2 e2 => ?_)
    · simp at h
      obtain ⟨rfl, h⟩ := h
      refine s_ret ev_c fun H3 e3 => ?_
      have e : dlen y 2 = 29 := by simp [dlen, mlist, h, b2]
      rw [e] at q
      exact q _ ((e1.trans e2).trans e3)
    · have hm : m = 1 ∨ m = 2 ∨ m = 3 ∨ m = 4 ∨ m = 5 ∨ m = 6 ∨ m = 7 ∨ m = 8 ∨ m = 9 ∨ m = 10 ∨ m = 11 ∨ m = 12 := by omega
      have hq : atI ([.int 31, .int 28, .int 31, .int 30, .int 31, .int 30, .int 31, .int 31, .int 30, .int 31, .int 30, .int 31] : List V) (m - 1) = some (.int (dlen y m)) := by
        rcases hm with rfl | rfl | rfl | rfl | rfl | rfl | rfl | rfl | rfl | rfl | rfl | rfl
        case inr.inl =>
          simp at h
          have e : dlen y 2 = 28 := by simp [dlen, mlist, h, b2]
          rw [e]; exact atI_nat (j := 1) rfl
        all_goals (first | exact atI_nat (j := 0) rfl | exact atI_nat (j := 2) rfl | exact atI_nat (j := 3) rfl | exact atI_nat (j := 4) rfl | exact atI_nat (j := 5) rfl | exact atI_nat (j := 6) rfl | exact atI_nat (j := 7) rfl | exact atI_nat (j := 8) rfl | exact atI_nat (j := 9) rfl | exact atI_nat (j := 10) rfl | exact atI_nat (j := 11) rfl)
      exact s_ret (ev_op ev_c (ev_op (ev_var rfl) ev_c rv_I0) (rv_ixT (T.q_DAYS_IN_COMMON_YEAR _) hq)) fun H3 e3 => q _ ((e1.trans e2).trans e3)

/-- the length of the month with a number, months counted on from January of year 0 -/
def mlen (n : Int) : Int := dlen (n / 12) (n % 12 + 1)
theorem dlen_bounds (y m : Int) (h1 : 1 ≤ m) (h2 : m ≤ 12) : 28 ≤ dlen y m ∧ dlen y m ≤ 31 := by
  have hm : m = 1 ∨ m = 2 ∨ m = 3 ∨ m = 4 ∨ m = 5 ∨ m = 6 ∨ m = 7 ∨ m = 8 ∨ m = 9 ∨ m = 10 ∨ m = 11 ∨ m = 12 := by omega
  have hb : b2 (leap y) = 0 ∨ b2 (leap y) = 1 := by unfold b2; split <;> simp
  rcases hm with rfl | rfl | rfl | rfl | rfl | rfl | rfl | rfl | rfl | rfl | rfl | rfl <;> simp [dlen, mlist] <;> omega
theorem mlen_bounds (n : Int) : 28 ≤ mlen n ∧ mlen n ≤ 31 := dlen_bounds _ _ (by omega) (by omega)
def D_mlen (vs : List V) (z : V) : Prop := ∃ n : Int, vs = [.int n] ∧ z = .int (mlen n)
theorem ok_law_length (T : Top K mg) : FnOk P w K mg base CX0 2 T.f_law_length T.fd_law_length ["number"] (spF D_mlen) := by
  have G_law_leap : FnOk P w K mg base CX0 1 T.f_law_leap T.fd_law_leap ["count"] (spF D_leap) := ok_law_leap T
  refine T.F_law_length.ok sc_law_length (fun vs H Q E h => ?_) (fun cdv A outer s H vs Q E hr h => ?_)
  · obtain ⟨z, ⟨y, rfl, _⟩, _⟩ := h; rfl
  · obtain ⟨z, ⟨n, rfl, rfl⟩, q⟩ := h
    refine ⟨_, (pss_cons (ps_set (i := 1) sc_law_length.nd rfl (Or.inl rfl) (pe_op op_mod (pv 0) pe_int))
      (pss_cons (ps_if (pt_cmpR op_eq (pv 1) pe_int (nomark _)) (pss_one (ps_ret (pe_op op_add pe_int (pe_callTy call_int1 (by rfl) T.z_int (by decide +kernel) (pa_cons (pe_call G_law_leap (hr.mono (by first | decide | omega)) (by rfl) T.g_law_leap T.F_law_leap.kp T.b_law_leap .nil pass0 (pa_cons (pe_op op_fdivW (pv 0) pe_int) pa_nil)) pa_nil))))) pss_nil)
      (pss_one (ps_ret (pe_op op_sub pe_int (pe_callTy call_int1 (by rfl) T.z_int (by decide +kernel) (pa_cons (pe_cmpR (r := rIn K false) op_in_seq (pv 1) (pe_lst (pa_cons pe_int (pa_cons pe_int (pa_cons pe_int (pa_cons pe_int pa_nil))))) (by rfl)) pa_nil))))))), ?_⟩
    refine f_seq (s_asg (ev_op (ev_var rfl) ev_c (rv_mod (by decide))) fun H1 e1 => ?_)
    refine f_seq (s_if (et_test (ev_op (ev_var rfl) ev_c rv_eqI)) (fun hb H2 e2 => ?_) fun hb H2 e2 => ?_)
    · have hn : n % 12 = 1 := of_decide_eq_true hb
      have e : mlen n = 28 + b2 (leap (n / 12)) := by simp [mlen, hn, dlen, mlist]
      rw [e] at q
      exact s_ret (ev_op ev_c (ev_intB (ev_call (ea_cons (ev_op (ev_var rfl) ev_c (rv_div (by decide) (by decide))) ea_nil) (sv_F ⟨_, rfl, rfl⟩))) rv_I0) fun H3 e3 => q H3 ((e1.trans e2).trans e3)
    · have hn : ¬ n % 12 = 1 := of_decide_eq_false hb
      have e : mlen n = 31 - b2 (inV (.int (n % 12)) [.int 3, .int 5, .int 8, .int 10]) := by
        have hc : n % 12 = 0 ∨ n % 12 = 2 ∨ n % 12 = 3 ∨ n % 12 = 4 ∨ n % 12 = 5 ∨ n % 12 = 6 ∨ n % 12 = 7 ∨ n % 12 = 8 ∨ n % 12 = 9 ∨ n % 12 = 10 ∨ n % 12 = 11 := by omega
        unfold mlen dlen mlist
        rcases hc with h | h | h | h | h | h | h | h | h | h | h <;> rw [h] <;> rfl
      rw [e] at q
      exact s_ret (ev_op ev_c (ev_intB (ev_opL (ev_var rfl) (el_lst (ea_cons ev_c (ea_cons ev_c (ea_cons ev_c (ea_cons ev_c ea_nil)))) (by show 4 ≤ 100000; decide)) fun p H1 hp _ => rv_isL (sq_of hp) rfl rfl)) rv_I0) fun H3 e3 => q H3 ((e1.trans e2).trans e3)
/-- a date stands at p -/
def DateAt (K : PySem.W.Frag) (H : Hp) (p : Addr) (y m d : Int) : Prop := SqT K H p [.int y, .int m, .int d]
/-- it exists -/
def Exists_ (y m d : Int) : Prop := 1 ≤ m ∧ m ≤ 12 ∧ 1 ≤ d ∧ d ≤ dlen y m
def D_check (K : PySem.W.Frag) (H : Hp) (vs : List V) (z : V) : Prop := ∃ (p : Addr) (y m d : Int), vs = [.ref p] ∧ DateAt K H p y m d ∧ Exists_ y m d ∧ z = .non
theorem ok_check_date (T : Top K mg) : FnOk P w K mg base CX0 3 T.f_check_date T.fd_check_date ["date"] (spH (D_check K)) := by
  have G_days_in : FnOk P w K mg base CX0 2 T.f_days_in T.fd_days_in ["year", "month"] (spF D_days) := ok_days_in T
  refine T.F_check_date.ok sc_check_date (fun vs H Q E h => ?_) (fun cdv A outer s H vs Q E hr h => ?_)
  · obtain ⟨z, ⟨p, y, m, d, rfl, _⟩, _⟩ := h; rfl
  · obtain ⟨z, ⟨p, y, m, d, rfl, hD, ⟨h1, h2, h3, h4⟩, rfl⟩, q⟩ := h
    refine ⟨_, (pss_cons (ps_asg (pv 0) (pg_tup rfl (pgs_cons (pg_name (i := 1) sc_check_date.nd rfl (Or.inl rfl)) (pgs_cons (pg_name (i := 2) sc_check_date.nd rfl (Or.inl rfl)) (pgs_cons (pg_name (i := 3) sc_check_date.nd rfl (Or.inl rfl)) pgs_nil)))))
      (pss_cons (ps_if (PW.pt (pw_or (pt_cmpR op_lt (pv 2) pe_int (nomark _)) (pw_or1 (pt_cmpR op_gt (pv 2) pe_int (nomark _))))) (pss_one ps_never) pss_nil)
      (pss_one (ps_if (PW.pt (pw_or (pt_cmpR op_lt (pv 3) pe_int (nomark _)) (pw_or1 (pt_cmpR op_gt (pv 3) (pe_call G_days_in (hr.mono (by first | decide | omega)) (by rfl) T.g_days_in T.F_days_in.kp T.b_days_in .nil pass0 (pa_cons (pv 1) (pa_cons (pv 2) pa_nil))) (nomark _))))) (pss_one ps_never) pss_nil)))), ?_⟩
    refine f_seq (s_un3 (ev_var rfl) hD fun H1 e1 => ?_)
    refine f_seq (s_if (et_or (et_test (ev_op (ev_var rfl) ev_c rv_I0)) fun _ => et_test (ev_op (ev_var rfl) ev_c rv_I0)) (fun hb _ _ => ?_) fun _ H2 e2 => ?_)
    · simp at hb; omega
    refine s_if (et_or (et_test (ev_op (ev_var rfl) ev_c rv_I0)) fun _ => et_test (ev_op (ev_var rfl) (ev_call (ea_cons (ev_var rfl) (ea_cons (ev_var rfl) ea_nil)) (sv_F ⟨y, m, rfl, h1, h2, rfl⟩)) rv_I0)) (fun hb _ _ => ?_) fun _ H3 e3 => ?_
    · simp at hb; omega
    exact q H3 ((e1.trans e2).trans e3)
def mvs (st : Int × Int) (k : Int) : Int × Int := (st.1 + k, min st.2 (mlen (st.1 + k)))
def mrun (st : Int × Int) (ks : List Int) : Int × Int := ks.foldl mvs st
/-- the date at a place -/
def tupD (st : Int × Int) : List V := [.int (st.1 / 12), .int (st.1 % 12 + 1), .int st.2]
theorem mrun_take {st : Int × Int} {ks : List Int} {i : Nat} {k : Int} (h : ks[i]? = some k) : mrun st (ks.take (i + 1)) = mvs (mrun st (ks.take i)) k := by
  unfold mrun
  rw [List.take_add_one, h, List.foldl_append]
  rfl
def D_move (K : PySem.W.Frag) (H : Hp) (vs xs : List V) : Prop := ∃ (p l : Addr) (y m d : Int) (ks : List Int), vs = [.ref p, .ref l] ∧ DateAt K H p y m d ∧ Exists_ y m d ∧ SqL K H l (ks.map V.int) ∧ xs = tupD (mrun (12 * y + m - 1, d) ks) ∧ y.natAbs ≤ 10 ^ 100
theorem int_of_map {ns : List Int} {i : Nat} {x : V} (h : (ns.map V.int)[i]? = some x) : ∃ z, x = V.int z ∧ ns[i]? = some z := by
  rw [List.getElem?_map] at h
  cases e : ns[i]? with
  | none => rw [e] at h; cases h
  | some z => rw [e] at h; exact ⟨z, (Option.some.inj h).symm, rfl⟩
theorem ok_move (T : Top K mg) : FnOk P w K mg base CX0 4 T.f_move T.fd_move ["date", "steps"] (spU (D_move K)) := by
  have G_days_in : FnOk P w K mg base CX0 2 T.f_days_in T.fd_days_in ["year", "month"] (spF D_days) := ok_days_in T
  have G_check_date : FnOk P w K mg base CX0 3 T.f_check_date T.fd_check_date ["date"] (spH (D_check K)) := ok_check_date T
  refine T.F_move.ok sc_move (fun vs H Q E h => ?_) (fun cdv A outer s H vs Q E hr h => ?_)
  · obtain ⟨z, ⟨p, l, y, m, d, ks, rfl, _⟩, _⟩ := h; rfl
  · obtain ⟨z, ⟨p, l, y, m, d, ks, rfl, hD, hE, hL, rfl, hy⟩, q⟩ := h
    refine ⟨_, (pss_cons (ps_expr (pe_call G_check_date (hr.mono (by first | decide | omega)) (by rfl) T.g_check_date T.F_check_date.kp T.b_check_date .nil pass0 (pa_cons (pv 0) pa_nil)))
      (pss_cons (ps_asg (pv 0) (pg_tup rfl (pgs_cons (pg_name (i := 2) sc_move.nd rfl (Or.inl rfl)) (pgs_cons (pg_name (i := 3) sc_move.nd rfl (Or.inl rfl)) (pgs_cons (pg_name (i := 4) sc_move.nd rfl (Or.inl rfl)) pgs_nil)))))
      (pss_cons (ps_set (i := 5) sc_move.nd rfl (Or.inl rfl) (pe_op op_sub (pe_op op_add (pe_op op_mulW pe_int (pv 2)) (pv 3)) pe_int))
      (pss_cons (ps_for PassesOwn.never rfl (pi_list (pv 1)) (pg_name (i := 6) sc_move.nd rfl (Or.inl rfl)) (pss_cons (ps_set (i := 5) sc_move.nd rfl (Or.inl rfl) (pe_op op_add (pv 5) (pv 6)))
      (pss_one (ps_set (i := 4) sc_move.nd rfl (Or.inl rfl) (pe_callB (call_min2 rfl) (by rfl) T.z_min (by decide +kernel) (pa_cons (pv 4) (pa_cons (pe_call G_days_in (hr.mono (by first | decide | omega)) (by rfl) T.g_days_in T.F_days_in.kp T.b_days_in .nil pass0 (pa_cons (pe_op op_fdivW (pv 5) pe_int) (pa_cons (pe_op op_add (pe_op op_mod (pv 5) pe_int) pe_int) pa_nil))) pa_nil)))))))
      (pss_one (ps_ret (pe_tup (pa_cons (pe_op op_fdivW (pv 5) pe_int) (pa_cons (pe_op op_add (pe_op op_mod (pv 5) pe_int) pe_int) (pa_cons (pv 4) pa_nil)))))))))), ?_⟩
    refine f_seq (s_drop (ev_call (ea_cons (ev_var rfl) ea_nil) (sv_H (z := .non) fun H1 e1 => ⟨p, y, m, d, rfl, ex_t e1 hD, hE, rfl⟩)) fun H1 e1 => ?_)
    refine f_seq (s_un3 (ev_var rfl) (ex_t e1 hD) fun H2 e2 => ?_)
    refine f_seq (s_asg (ev_op (ev_op (ev_op ev_c (ev_var rfl) (rv_mul (by decide) hy)) (ev_var rfl) rv_I0) ev_c rv_I0) fun H3 e3 => ?_)
    have e03 := (e1.trans e2).trans e3
    refine f_seq (s_forL (xs := ks.map V.int) (ev_var rfl) (ex_l e03 hL) (fun i σ H' => ∃ v6 : Option V, σ = [some (.ref p), some (.ref l), some (.int y), some (.int m), some (.int (mrun (12 * y + m - 1, d) (ks.take i)).2), some (.int (mrun (12 * y + m - 1, d) (ks.take i)).1), v6] ∧ Ex H H')
      (fun H4 e4 => ⟨none, rfl, e03.trans e4⟩) (fun i σ H' _ ⟨_, _, e⟩ => ex_l e hL) (fun i x σ H' hx ⟨v6, hσ, e⟩ => ?_) fun σ H' ⟨v6, hσ, e⟩ => ?_)
    · subst hσ
      obtain ⟨k, rfl, hk⟩ := int_of_map hx
      rw [mrun_take hk]
      generalize mrun (12 * y + m - 1, d) (ks.take i) = st
      refine f_gName (f_seq (s_asg (ev_op (ev_var rfl) (ev_var rfl) rv_I0) fun H5 e5 => ?_))
      refine s_asg (ev_min2 (ev_var rfl) (ev_call (ea_cons (ev_op (ev_var rfl) ev_c (rv_div (by decide) (by decide))) (ea_cons (ev_op (ev_op (ev_var rfl) ev_c (rv_mod (by decide))) ev_c rv_I0) ea_nil)) (sv_F ⟨_, _, rfl, by omega, by omega, rfl⟩))) fun H6 e6 => ?_
      exact ⟨_, rfl, (e.trans e5).trans e6⟩
    · subst hσ
      rw [show ks.take (ks.map V.int).length = ks by rw [List.length_map]; exact List.take_of_length_le (Nat.le_refl _)]
      exact s_retU (eu_tup (ea_cons (ev_op (ev_var rfl) ev_c (rv_div (by decide) (by decide))) (ea_cons (ev_op (ev_op (ev_var rfl) ev_c (rv_mod (by decide))) ev_c rv_I0) (ea_cons (ev_var rfl) ea_nil))) (by show 3 ≤ 100000; decide)) fun p1 H1 hp e1 h1 => q p1 H1 (fresh_back e hp) (e.trans e1) h1

/-! visits and the law's sums -/
def sumsTo (ks : List Int) (i : Nat) : List Int := (List.range (i + 1)).map fun j => (ks.take j).sum
theorem sumsTo_succ (ks : List Int) (i : Nat) : sumsTo ks (i + 1) = sumsTo ks i ++ [(ks.take (i + 1)).sum] := by
  unfold sumsTo
  rw [List.range_succ, List.map_append]; rfl
theorem sumsTo_len (ks : List Int) (i : Nat) : (sumsTo ks i).length = i + 1 := by unfold sumsTo; rw [List.length_map, List.length_range]
theorem sumsTo_get (ks : List Int) {i j : Nat} (h : j ≤ i) : (sumsTo ks i)[j]? = some (ks.take j).sum := by
  unfold sumsTo
  rw [List.getElem?_map, List.getElem?_range (by omega)]; rfl
theorem at_m1 {L : List Int} {z : Int} (h : L[L.length - 1]? = some z) : atI (L.map V.int) (-1) = some (.int z) := by
  have h0 : 0 < L.length := by
    have := (List.getElem?_eq_some_iff.mp h).1
    omega
  unfold atI
  rw [List.length_map, ixN_m1 h0]
  show (L.map V.int)[L.length - 1]? = _
  rw [List.getElem?_map, h]; rfl
theorem sumsTo_m1 (ks : List Int) (i : Nat) : atI ((sumsTo ks i).map V.int) (-1) = some (.int (ks.take i).sum) := at_m1 (by rw [sumsTo_len]; exact sumsTo_get ks (Nat.le_refl _))
theorem take_sum {ks : List Int} {i : Nat} {k : Int} (h : ks[i]? = some k) : (ks.take (i + 1)).sum = (ks.take i).sum + k := by
  rw [List.take_add_one, h, List.sum_append]
  show (ks.take i).sum + (k + 0) = _
  omega
def sums (ks : List Int) : List Int := sumsTo ks ks.length
def D_sums (K : PySem.W.Frag) (H : Hp) (vs xs : List V) : Prop := ∃ (l : Addr) (ks : List Int), vs = [.ref l] ∧ SqL K H l (ks.map V.int) ∧ ks.length ≤ 1000 ∧ xs = (sums ks).map V.int
def D_visits (K : PySem.W.Frag) (H : Hp) (vs xs : List V) : Prop := ∃ (l : Addr) (ks : List Int), vs = [.ref l] ∧ SqL K H l (ks.map V.int) ∧ ks.length ≤ 900 ∧ xs = (srt (sums ks)).map V.int
theorem int_of_map2 {ns : List Int} {i : Nat} {x : V} (h : (ns.map V.int)[i]? = some x) : ∃ z, x = V.int z ∧ ns[i]? = some z := by
  rw [List.getElem?_map] at h
  cases e : ns[i]? with
  | none => rw [e] at h; cases h
  | some z => rw [e] at h; exact ⟨z, (Option.some.inj h).symm, rfl⟩
theorem ok_visits (T : Top K mg) : FnOk P w K mg base CX0 1 T.f_visits T.fd_visits ["steps"] (spHL (D_visits K)) := by
  refine T.F_visits.ok sc_visits (fun vs H Q E h => ?_) (fun cdv A outer s H vs Q E hr h => ?_)
  · obtain ⟨z, ⟨l, ks, rfl, _⟩, _⟩ := h; rfl
  · obtain ⟨z, ⟨l, ks, rfl, hL, hz, rfl⟩, q⟩ := h
    refine ⟨_, (pss_cons (ps_set (i := 1) sc_visits.nd rfl (Or.inl rfl) (pe_lst (pa_cons pe_int pa_nil)))
      (pss_cons (ps_for PassesOwn.never rfl (pi_list (pv 0)) (pg_name (i := 2) sc_visits.nd rfl (Or.inl rfl)) (pss_one (ps_expr (pe_bm PySem.F.plainAttrs_list PySem.F.slot_list_append PySem.F.type_list_append mt_append (pv 1) (pa_cons (pe_op op_add (pe_ix (r := rIxL K) ix_list (pv 1) (pe_un un_neg pe_int) (fun _ _ => rfl)) (pv 2)) pa_nil)))))
      (pss_one (ps_ret (pe_callB (r := rSortedA w) (cr_sortedA rfl) (by rfl) T.z_sorted (by decide +kernel) (pa_cons (pe_callTy (r := rSetL K w) (cr_setL rfl) (by rfl) T.z_set (by decide +kernel) (pa_cons (pv 1) pa_nil)) pa_nil)))))), ?_⟩
    refine f_seq (s_asgL (el_lst (ea_cons ev_c ea_nil) (by show 1 ≤ 100000; decide)) fun p H1 np e1 h1 => ?_)
    refine f_seq (s_forL (xs := ks.map V.int) (ev_var rfl) (ex_l e1 hL) (fun i σ H' => ∃ v : Option V, σ = [some (.ref l), some (.ref p), v] ∧ Ex H H' ∧ H' p = some (.lst ((sumsTo ks i).map V.int)))
      (fun H2 e2 => ⟨none, rfl, e1.trans e2, e2 _ _ h1⟩) (fun i σ H' _ ⟨_, _, e, _⟩ => ex_l e hL) (fun i x σ H' hx ⟨v, hσ, e, hp⟩ => ?_) fun σ H' ⟨v, hσ, e, hp⟩ => ?_)
    · subst hσ
      obtain ⟨k, rfl, hk⟩ := int_of_map2 hx
      have hi : i < ks.length := (List.getElem?_eq_some_iff.mp hk).1
      refine f_gName ?_
      refine f_drop (f_bm (f_var rfl (f_tyL hp (f_cons (f_ev (ev_op (ev_op (ev_var rfl) (ev_un ev_c ru_neg) (rv_ixL (sq_of hp) (sumsTo_m1 ks i))) (ev_var rfl) rv_I0) fun H2 e2 => f_nil ?_)))))
      refine ⟨p, _, _, rfl, rfl, e2 _ _ hp, sz_lt (by rw [List.length_map, sumsTo_len]; omega), ⟨_, rfl, fun b o g => ?_, ?_⟩⟩
      · rw [upd_ne (ne_of_none g np)]; exact e2 _ _ (e _ _ g)
      · rw [upd_same, sumsTo_succ, take_sum hk, List.map_append]; rfl
    · subst hσ
      rw [List.length_map] at hp
      exact s_retL (el_sorted (ev_var rfl) (sq_of hp) (by rw [sumsTo_len]; omega)) fun p1 H1 hp1 e1 h1 => q p1 H1 (fresh_back e hp1) (e.trans e1) h1

theorem ok_law_sums (T : Top K mg) : FnOk P w K mg base CX0 1 T.f_law_sums T.fd_law_sums ["jumps"] (spHL (D_sums K)) := by
  refine T.F_law_sums.ok sc_law_sums (fun vs H Q E h => ?_) (fun cdv A outer s H vs Q E hr h => ?_)
  · obtain ⟨z, ⟨l, ks, rfl, _⟩, _⟩ := h; rfl
  · obtain ⟨z, ⟨l, ks, rfl, hL, hz, rfl⟩, q⟩ := h
    refine ⟨_, (pss_cons (ps_set (i := 1) sc_law_sums.nd rfl (Or.inl rfl) (pe_lst (pa_cons pe_int pa_nil)))
      (pss_cons (ps_for PassesOwn.never rfl (pi_list (pv 0)) (pg_name (i := 2) sc_law_sums.nd rfl (Or.inl rfl)) (pss_one (ps_expr (pe_bm PySem.F.plainAttrs_list PySem.F.slot_list_append PySem.F.type_list_append mt_append (pv 1) (pa_cons (pe_op op_add (pe_ix (r := rIxL K) ix_list (pv 1) (pe_un un_neg pe_int) (fun _ _ => rfl)) (pv 2)) pa_nil)))))
      (pss_one (ps_ret (pv 1))))), ?_⟩
    refine f_seq (s_asgL (el_lst (ea_cons ev_c ea_nil) (by show 1 ≤ 100000; decide)) fun p H1 np e1 h1 => ?_)
    refine f_seq (s_forL (xs := ks.map V.int) (ev_var rfl) (ex_l e1 hL) (fun i σ H' => ∃ v : Option V, σ = [some (.ref l), some (.ref p), v] ∧ Ex H H' ∧ H' p = some (.lst ((sumsTo ks i).map V.int)))
      (fun H2 e2 => ⟨none, rfl, e1.trans e2, e2 _ _ h1⟩) (fun i σ H' _ ⟨_, _, e, _⟩ => ex_l e hL) (fun i x σ H' hx ⟨v, hσ, e, hp⟩ => ?_) fun σ H' ⟨v, hσ, e, hp⟩ => ?_)
    · subst hσ
      obtain ⟨k, rfl, hk⟩ := int_of_map2 hx
      have hi : i < ks.length := (List.getElem?_eq_some_iff.mp hk).1
      refine f_gName ?_
      refine f_drop (f_bm (f_var rfl (f_tyL hp (f_cons (f_ev (ev_op (ev_op (ev_var rfl) (ev_un ev_c ru_neg) (rv_ixL (sq_of hp) (sumsTo_m1 ks i))) (ev_var rfl) rv_I0) fun H2 e2 => f_nil ?_)))))
      refine ⟨p, _, _, rfl, rfl, e2 _ _ hp, sz_lt (by rw [List.length_map, sumsTo_len]; omega), ⟨_, rfl, fun b o g => ?_, ?_⟩⟩
      · rw [upd_ne (ne_of_none g np)]; exact e2 _ _ (e _ _ g)
      · rw [upd_same, sumsTo_succ, take_sum hk, List.map_append]; rfl
    · subst hσ
      rw [List.length_map] at hp
      exact s_ret (ev_var rfl) fun H1 e1 => q p H1 np (e.trans e1) (e1 _ _ hp)

theorem pow61 : (2 : Int) ^ (61 : Int).toNat - 1 = 2305843009213693951 := by decide
theorem ok_law_source (T : Top K mg) : FnOk P w K mg base CX0 1 T.f_law_source T.fd_law_source ["script"] (spSource K) := by
  refine T.F_law_source.ok sc_law_source (fun vs H Q E h => ?_) (fun cdv A outer s H vs Q E hr h => ?_)
  · obtain ⟨a, ns, rfl, _⟩ := h; rfl
  · obtain ⟨a, ns, rfl, hS, hlen, q⟩ := h
    refine ⟨_, (pss_cons (ps_set (i := 1) sc_law_source.nd rfl (Or.inl rfl) pe_int)
      (pss_cons (ps_set (i := 2) sc_law_source.nd rfl (Or.inl rfl) (pe_lst pa_nil))
      (pss_cons (ps_for PassesOwn.never rfl (pi_list (pv 0)) (pg_name (i := 3) sc_law_source.nd rfl (Or.inl rfl)) (pss_cons (ps_set (i := 1) sc_law_source.nd rfl (Or.inl rfl) (pe_op op_mod (pe_op op_add (pe_op op_mulW (pv 1) pe_int) (pv 3)) (pe_op op_sub (pe_op op_pow pe_int pe_int) pe_int)))
      (pss_cons (ps_set (i := 4) sc_law_source.nd rfl (Or.inl rfl) (pe_callB (call_max2 rfl) (by rfl) T.z_max (by decide +kernel) (pa_cons (pv 3) (pa_cons (pe_op op_sub pe_int (pv 3)) pa_nil))))
      (pss_one (ps_if (pt_cmpR op_ge (pv 4) (pe_op op_pow pe_int pe_int) (nomark _)) (pss_one (ps_expr (pe_bm PySem.F.plainAttrs_list PySem.F.slot_list_append PySem.F.type_list_append mt_append (pv 2) (pa_cons (pe_op op_sub (pv 4) (pe_op op_pow pe_int pe_int)) pa_nil)))) pss_nil)))))
      (pss_one (ps_ret (pe_lst (pa_cons (pv 2) (pa_cons pe_int (pa_cons (pv 1) (pa_cons pe_int pa_nil)))))))))), ?_⟩
    refine f_seq (s_asg ev_c fun H1 e1 => ?_)
    refine f_seq (s_asgL (el_lst ea_nil (Nat.zero_le _)) fun dd H2 nd e2 hd => ?_)
    refine f_seq (s_forL (xs := ns.map V.int) (ev_var rfl) (ex_l (e1.trans e2) hS) (fun i σ H' => ∃ (m : Int) (ds : List Int) (v3 v4 : Option V), σ = [some (.ref a), some (.int m), some (.ref dd), v3, v4] ∧ Ex H H' ∧ H' dd = some (.lst (ds.map V.int)) ∧ ds.length ≤ i ∧ 0 ≤ m ∧ m < 2 ^ 61)
      (fun H3 e3 => ⟨271828182845904, [], none, none, rfl, (e1.trans e2).trans e3, e3 _ _ hd, Nat.le_refl _, by decide, by decide⟩) (fun i σ H' _ ⟨_, _, _, _, _, e, _⟩ => ex_l e hS) (fun i x σ H' hx hp => ?_) fun σ H' hp => ?_)
    · obtain ⟨m, ds, v3, v4, rfl, e, hD, hl, m0, m1⟩ := hp
      obtain ⟨cell, rfl⟩ : ∃ cell, x = V.int cell := by
        rw [List.getElem?_map] at hx
        cases h : ns[i]? with
        | none => rw [h] at hx; cases hx
        | some z => rw [h] at hx; exact ⟨z, (Option.some.inj hx).symm⟩
      have hi : i < 63 := by
        have z := (List.getElem?_eq_some_iff.mp hx).1
        rw [List.length_map] at z; omega
      have hne : H dd = none := fresh_back e1 nd
      refine f_gName (f_seq (s_asg (ev_op (ev_op (ev_op (ev_var rfl) ev_c (rv_I (wide_mul (a := 61) (b := 20) (by omega) (by decide) (by decide) (by decide) (by decide)))) (ev_var rfl) rv_I0) (ev_op (ev_op ev_c ev_c (rv_I (by unfold CPow; decide))) ev_c rv_I0) (rv_I (by decide))) fun H4 e4 => ?_))
      refine f_seq (s_asg (ev_max2 (ev_var rfl) (ev_op ev_c (ev_var rfl) rv_I0)) fun H5 e5 => ?_)
      have m2 : 0 ≤ (m * 1000033 + cell) % (2 ^ (61 : Int).toNat - 1) := by rw [pow61]; omega
      have m3 : (m * 1000033 + cell) % (2 ^ (61 : Int).toNat - 1) < 2 ^ 61 := by rw [pow61]; omega
      refine s_if (et_test (ev_op (ev_var rfl) (ev_op ev_c ev_c (rv_I (by unfold CPow; decide))) rv_I0)) (fun _ H6 e6 => ?_) (fun _ H6 e6 => ?_)
      · refine s_app (((e4.trans e5).trans e6) _ _ hD) (ev_var rfl) (ev_op (ev_var rfl) (ev_op ev_c ev_c (rv_I (by unfold CPow; decide))) rv_I0) (by rw [List.length_map]; omega) fun H7 e7 => ?_
        refine ⟨_, ds ++ [(if 0 - cell > cell then 0 - cell else cell) - 10 ^ (18 : Int).toNat], _, _, rfl, ?_, ?_, ?_, m2, m3⟩
        · exact ((((e.trans e4).trans e5).trans e6).trans e7).mut hne
        · rw [upd_same, List.map_append]; rfl
        · rw [List.length_append, List.length_singleton]; omega
      · exact ⟨_, ds, _, _, rfl, ((e.trans e4).trans e5).trans e6, ((e4.trans e5).trans e6) _ _ hD, by omega, m2, m3⟩
    · obtain ⟨m, ds, v3, v4, rfl, e, hD, hl, m0, m1⟩ := hp
      refine s_retL (el_lst (ea_cons (ev_var rfl) (ea_cons ev_c (ea_cons (ev_var rfl) (ea_cons ev_c ea_nil)))) (by show 4 ≤ 100000; decide)) fun p H4 hp e4 h4 => ?_
      refine q p dd _ (fresh_back e hp) (fresh_back e1 nd) ⟨ds, 0, m, 0, h4, e4 _ _ hD, by rw [List.length_map] at hl; omega, m0, m1, by decide, by decide⟩ (e.trans e4)

theorem sq_upd {K : PySem.W.Frag} {H : Hp} {a : Addr} {xs : List V} : SqL K (upd H a (.lst xs)) a xs := Or.inl (Or.inl upd_same)
theorem src_set {H : Hp} {s d : Addr} {o u : HO} (h : s ≠ d) (hs : H s = some o) (hd : H d = some u) : True := trivial
theorem ok_law_draw (T : Top K mg) : FnOk P w K mg base CX0 1 T.f_law_draw T.fd_law_draw ["source", "many"] spDraw := by
  refine T.F_law_draw.ok sc_law_draw (fun vs H Q E h => ?_) (fun cdv A outer s H vs Q E hr h => ?_)
  · obtain ⟨s, d, many, B, rfl, _⟩ := h; rfl
  · obtain ⟨s, d, many, B, rfl, h0, hbig, S, q⟩ := h
    have hsd : s ≠ d := S.ne
    obtain ⟨ds, a, m, c, hs, hd, hl, m0, m1, c0, c1⟩ := S.ex
    refine ⟨_, (pss_cons (ps_while PassesOwn.never (PW.pt (pw_and (pt_cmpR op_lt (pe_ix (r := rIxL K) ix_list (pv 0) pe_int (fun _ _ => rfl)) pe_int (nomark _)) (pw_and1 (pt_cmpR (r := rNeD K) (op_neD hr.units) (pe_ix (r := rIxL K) ix_list (pv 0) pe_int (fun _ _ => rfl)) (pe_lst pa_nil) (nomark _))))) (pss_one (ps_asg (pe_bm PySem.F.plainAttrs_list PySem.F.slot_list_pop PySem.F.type_list_pop mt_popAt (pe_ix (r := rIxL K) ix_list (pv 0) pe_int (fun _ _ => rfl)) (pa_cons pe_int pa_nil)) (pg_sub (pv 0) pe_int set_list))))
      (pss_cons (ps_if (pt_cmpR op_ge (pe_ix (r := rIxL K) ix_list (pv 0) pe_int (fun _ _ => rfl)) pe_int (nomark _)) (pss_cons (ps_set (i := 2) sc_law_draw.nd rfl (Or.inl rfl) (pe_op op_mod (pe_ix (r := rIxL K) ix_list (pv 0) pe_int (fun _ _ => rfl)) (pv 1)))
      (pss_cons (ps_asg (pe_op op_fdivW (pe_ix (r := rIxL K) ix_list (pv 0) pe_int (fun _ _ => rfl)) (pv 1)) (pg_sub (pv 0) pe_int set_list))
      (pss_one (ps_ret (pv 2))))) pss_nil)
      (pss_cons (ps_asg (pe_op op_add (pe_ix (r := rIxL K) ix_list (pv 0) pe_int (fun _ _ => rfl)) pe_int) (pg_sub (pv 0) pe_int set_list))
      (pss_cons (ps_set (i := 3) sc_law_draw.nd rfl (Or.inl rfl) (pe_op op_mul (pe_op op_add (pe_ix (r := rIxL K) ix_list (pv 0) pe_int (fun _ _ => rfl)) pe_int) (pe_op op_pow (pe_op op_add (pe_ix (r := rIxL K) ix_list (pv 0) pe_int (fun _ _ => rfl)) pe_int) pe_int)))
      (pss_cons (ps_set (i := 3) sc_law_draw.nd rfl (Or.inl rfl) (pe_op op_mod (pe_op op_add (pv 3) (pe_op op_mulW pe_int (pe_ix (r := rIxL K) ix_list (pv 0) pe_int (fun _ _ => rfl)))) (pe_op op_sub (pe_op op_pow pe_int pe_int) pe_int)))
      (pss_one (ps_ret (pe_op op_mod (pe_op op_fdivW (pe_op op_mod (pe_op op_pow (pv 3) pe_int) (pe_op op_add (pe_op op_pow pe_int pe_int) pe_int)) pe_int) (pv 1))))))))), ?_⟩
    have KL {H' : Hp} {a : Int} (hs : H' s = some (.lst [.ref d, .int a, .int m, .int c])) : SqL K H' s [.ref d, .int a, .int m, .int c] := sq_of hs
    refine f_seq (s_while (fun n σ H' => ∃ (ds : List Int) (a : Int), n = ds.length ∧ σ = [some (.ref s), some (.int many), none, none] ∧ H' s = some (.lst [.ref d, .int a, .int m, .int c]) ∧ H' d = some (.lst (ds.map V.int)) ∧ ds.length ≤ 63 ∧ Kp s d H H')
      ds.length ⟨ds, a, rfl, rfl, hs, hd, hl, .refl⟩ fun n σ H' hw => ?_)
    obtain ⟨ds, a, rfl, rfl, hs, hd, hl, kp⟩ := hw
    refine ⟨_, et_and (et_test (ev_op (ev_op (ev_var rfl) ev_c (rv_ixL (KL hs) (atI_nat (j := 1) rfl))) ev_c rv_I0)) fun _ => et_test (ev_neL (ys := []) (ev_op (ev_var rfl) ev_c (rv_ixL (KL hs) (atI_nat (j := 0) rfl))) (sq_of hd) (el_lst ea_nil (Nat.zero_le _))), fun hb H1 e1 => ?_, fun hb H1 e1 => ?_⟩
    · simp at hb
      obtain ⟨x, r, rfl⟩ : ∃ x r, ds = x :: r := by
        cases ds with
        | nil => exact absurd rfl hb.2
        | cons x r => exact ⟨x, r, rfl⟩
      refine ⟨fun σ2 H2 => ∃ a', σ2 = [some (.ref s), some (.int many), none, none] ∧ H2 s = some (.lst [.ref d, .int a', .int m, .int c]) ∧ H2 d = some (.lst (r.map V.int)) ∧ Kp s d H H2, fun σ2 H2 ⟨a', h1, h2, h3, h4⟩ => ⟨r.length, by simp, r, a', rfl, h1, h2, h3, by simp at hl; omega, h4⟩, ?_⟩
      have hd1 := e1 _ _ hd
      have hs1 := e1 _ _ hs
      refine ⟨.ref s, rfl, s, _, 0, .ref d, rfl, rfl, sq_of hs1, atI_nat (j := 0) rfl, .inl ⟨rfl, _, sq_of hd1⟩, d, _, 0, 0, .int x, rfl, rfl, hd1, by decide, by decide, (by unfold seqIndex?; simp), rfl, ?_⟩
      refine ⟨.ref s, rfl, s, _, 1, 1, rfl, rfl, (by rw [upd_ne hsd]; exact hs1), rfl, ?_⟩
      refine ⟨x, rfl, upd_same, by rw [upd_ne hsd.symm, upd_same]; rfl, fun b o h1 h2 h => ?_⟩
      rw [upd_ne h1, upd_ne h2]
      exact e1 _ _ (kp b o h1 h2 h)
    · have hs1 := e1 _ _ hs
      have hd1 := e1 _ _ hd
      have kp1 : Kp s d H H1 := kp.l e1
      refine f_seq (s_if (et_test (ev_op (ev_op (ev_var rfl) ev_c (rv_ixL (KL hs1) (atI_nat (j := 1) rfl))) ev_c rv_I0)) (fun hb H2 e2 => ?_) fun hb H2 e2 => ?_)
      · have hs2 := e2 _ _ hs1
        refine f_seq (s_asg (ev_op (ev_op (ev_var rfl) ev_c (rv_ixL (KL hs2) (atI_nat (j := 1) rfl))) (ev_var rfl) (rv_mod h0)) fun H3 e3 => ?_)
        have hs3 := e3 _ _ hs2
        refine f_seq (s_setL (j := 1) hs3 (ev_op (ev_op (ev_var rfl) ev_c (rv_ixL (KL hs3) (atI_nat (j := 1) rfl))) (ev_var rfl) (rv_I (wide_div (b := 200) h0 (by omega) (by decide) (by decide)))) (ev_var rfl) ev_c (by show 1 < 4; decide) fun H4 e4 => ?_)
        refine s_ret (ev_var rfl) fun H5 e5 => ?_
        refine q _ _ (Int.emod_nonneg _ (by omega)) (Int.emod_lt_of_pos _ h0) (Src.ex_ ⟨ds, a / many, m, c, upd_same, by rw [upd_ne hsd.symm]; exact (((e2.trans e3).trans e4) _ _ hd1), hl, m0, m1, c0, by omega⟩ e5) fun b o h1 h2 h => e5 _ _ ?_
        rw [upd_ne h1]
        exact ((e2.trans e3).trans e4) _ _ (kp1 b o h1 h2 h)
      · have hs2 := e2 _ _ hs1
        refine f_seq (s_setL (j := 3) hs2 (ev_op (ev_op (ev_var rfl) ev_c (rv_ixL (KL hs2) (atI_nat (j := 3) rfl))) ev_c rv_I0) (ev_var rfl) ev_c (by show 3 < 4; decide) fun H3 e3 => ?_)
        have hs3 : (upd H3 s (.lst [.ref d, .int a, .int m, .int (c + 1)])) s = some (.lst [.ref d, .int a, .int m, .int (c + 1)]) := upd_same
        have K3 : SqL K (upd H3 s (.lst [.ref d, .int a, .int m, .int (c + 1)])) s [.ref d, .int a, .int m, .int (c + 1)] := sq_of hs3
        show tSeq _ _ _ _ (upd H3 s (.lst [.ref d, .int a, .int m, .int (c + 1)]))
        refine f_seq (s_asg (ev_op (ev_op (ev_op (ev_var rfl) ev_c (rv_ixL K3 (atI_nat (j := 2) rfl))) ev_c rv_I0) (ev_op (ev_op (ev_op (ev_var rfl) ev_c (rv_ixL K3 (atI_nat (j := 3) rfl))) ev_c rv_I0) ev_c (rv_I (by unfold CPow; omega))) (rv_I (by unfold CMul; omega))) fun H4 e4 => ?_)
        refine f_seq (s_asg (ev_op (ev_op (ev_var rfl) (ev_op ev_c (ev_op (ev_var rfl) ev_c (rv_ixL (ex_l e4 K3) (atI_nat (j := 3) rfl))) (rv_I (wide_mul (a := 21) (b := 61) (by decide) (by omega) (by decide) (by decide) (by decide)))) rv_I0) (ev_op (ev_op ev_c ev_c (rv_I (by unfold CPow; decide))) ev_c rv_I0) (rv_I (by decide))) fun H5 e5 => ?_)
        generalize hx : ((m + 7) * (c + 1 + 3) ^ (3 : Int).toNat + 1000081 * (c + 1)) % (2 ^ (61 : Int).toNat - 1) = x
        have x0 : 0 ≤ x := by rw [← hx, pow61]; omega
        have x1 : x < 2 ^ 61 := by rw [← hx, pow61]; omega
        refine s_ret (ev_op (ev_op (ev_op (ev_op (ev_var rfl) ev_c (rv_I (by unfold CPow; omega))) (ev_op (ev_op ev_c ev_c (rv_I (by unfold CPow; decide))) ev_c rv_I0) (rv_I (by decide))) ev_c (rv_I (by unfold CDivW; decide))) (ev_var rfl) (rv_mod h0)) fun H6 e6 => ?_
        refine q _ _ (Int.emod_nonneg _ (by omega)) (Int.emod_lt_of_pos _ h0) (Src.ex_ ⟨ds, a, m, c + 1, hs3, by rw [upd_ne hsd.symm]; exact ((e2.trans e3) _ _ hd1), hl, m0, m1, by omega, by omega⟩ ((e4.trans e5).trans e6)) fun b o h1 h2 h => ((e4.trans e5).trans e6) _ _ ?_
        rw [upd_ne h1]
        exact (e2.trans e3) _ _ (kp1 b o h1 h2 h)

theorem ok_law_count (T : Top K mg) : FnOk P w K mg base CX0 2 T.f_law_count T.fd_law_count ["source"] spCount := by
  have G_law_draw : FnOk P w K mg base CX0 1 T.f_law_draw T.fd_law_draw ["source", "many"] spDraw := ok_law_draw T
  refine T.F_law_count.ok sc_law_count (fun vs H Q E h => ?_) (fun cdv A outer st H vs Q E hr h => ?_)
  · obtain ⟨s, d, B, rfl, _⟩ := h; rfl
  · obtain ⟨s, d, B, rfl, S, q⟩ := h
    refine ⟨_, (pss_cons (ps_set (i := 1) sc_law_count.nd rfl (Or.inl rfl) (pe_lst (pa_cons (pe_op op_sub (pe_call G_law_draw (hr.mono (by first | decide | omega)) (by rfl) T.g_law_draw T.F_law_draw.kp T.b_law_draw .nil pass0 (pa_cons (pv 0) (pa_cons pe_int pa_nil))) pe_int) (pa_cons (pe_op op_sub (pe_op op_mulW pe_int (pe_call G_law_draw (hr.mono (by first | decide | omega)) (by rfl) T.g_law_draw T.F_law_draw.kp T.b_law_draw .nil pass0 (pa_cons (pv 0) (pa_cons pe_int pa_nil)))) pe_int) (pa_cons (pe_op op_add pe_int (pe_call G_law_draw (hr.mono (by first | decide | omega)) (by rfl) T.g_law_draw T.F_law_draw.kp T.b_law_draw .nil pass0 (pa_cons (pv 0) (pa_cons pe_int pa_nil)))) pa_nil)))))
      (pss_cons (ps_set (i := 1) sc_law_count.nd rfl (Or.inl rfl) (pe_op op_cat (pv 1) (pe_lst (pa_cons (pe_op op_sub (pe_op op_add (pe_op op_mulW pe_int (pe_op op_sub (pe_call G_law_draw (hr.mono (by first | decide | omega)) (by rfl) T.g_law_draw T.F_law_draw.kp T.b_law_draw .nil pass0 (pa_cons (pv 0) (pa_cons pe_int pa_nil))) pe_int)) (pe_call G_law_draw (hr.mono (by first | decide | omega)) (by rfl) T.g_law_draw T.F_law_draw.kp T.b_law_draw .nil pass0 (pa_cons (pv 0) (pa_cons pe_int pa_nil)))) pe_int) pa_nil))))
      (pss_cons (ps_set (i := 2) sc_law_count.nd rfl (Or.inl rfl) (pe_op op_sub (pe_op op_sub (pe_op op_pow pe_int pe_int) pe_int) (pe_call G_law_draw (hr.mono (by first | decide | omega)) (by rfl) T.g_law_draw T.F_law_draw.kp T.b_law_draw .nil pass0 (pa_cons (pv 0) (pa_cons pe_int pa_nil)))))
      (pss_one (ps_ret (pe_ix (r := rIxL K) ix_list (pe_op op_cat (pv 1) (pe_lst (pa_cons (pv 2) (pa_cons (pe_op op_sub pe_int (pv 2)) pa_nil)))) (pe_call G_law_draw (hr.mono (by first | decide | omega)) (by rfl) T.g_law_draw T.F_law_draw.kp T.b_law_draw .nil pass0 (pa_cons (pv 0) (pa_cons pe_int pa_nil))) (fun _ _ => rfl))))))), ?_⟩
    walk_at "fw"
    refine f_draw S (by decide) (by decide) fun n1 H1 a1 b1 S1 k1 => ?_
    walk_at "fw"
    refine f_draw S1 (by decide) (by decide) fun n2 H2 a2 b2 S2 k2 => ?_
    walk_at "fw"
    refine f_draw S2 (by decide) (by decide) fun n3 H3 a3 b3 S3 k3 => ?_
    walk_at "fw"
    refine ⟨sz1000 (by simp), fun p hp => ?_⟩
    have fp := S3.free hp
    have e3 := Ex.new (o := .lst [.int (n1 - 20), .int (4 * n2 - 4000), .int (2000 + n3)]) hp
    have k3' : Kp s d H _ := ((k1.trans k2).trans k3).l e3
    walk_at "fw"
    refine f_draw (S3.ex_ e3) (by decide) (by decide) fun n4 H4 a4 b4 S4 k4 => ?_
    have hp4 := k4.at fp upd_same
    walk_at "fw"
    refine f_draw S4 (by decide) (by decide) fun n5 H5 a5 b5 S5 k5 => ?_
    have hp5 := k5.at fp hp4
    walk_at "fw"
    refine ⟨sz1000 (by simp), fun p2 hp2 => ?_⟩
    have e5 := Ex.new (o := .lst [.int (100 * (n4 - 30) + n5 - 4)]) hp2
    refine ⟨p, p2, _, _, rfl, rfl, e5 _ _ hp5, upd_same, sz1000 (by simp), fun p3 hp3 => ?_⟩
    have S6 := S5.ex_ e5
    have f3 := S6.free hp3
    have e6 := Ex.new (o := .lst ([.int (n1 - 20), .int (4 * n2 - 4000), .int (2000 + n3)] ++ [.int (100 * (n4 - 30) + n5 - 4)])) hp3
    walk_at "fw"
    refine f_draw (S6.ex_ e6) (by decide) (by decide) fun n7 H7 a7 b7 S7 k7 => ?_
    have hp7 := k7.at f3 upd_same
    walk_at "fw"
    refine ⟨sz1000 (by simp), fun p4 hp4 => ?_⟩
    have e7 := Ex.new (o := .lst [.int (10 ^ (30 : Int).toNat - 400 - n7), .int (0 - (10 ^ (30 : Int).toNat - 400 - n7))]) hp4
    refine ⟨p3, p4, _, _, rfl, rfl, e7 _ _ hp7, upd_same, sz1000 (by simp), fun p5 hp5 => ?_⟩
    have S8 := S7.ex_ e7
    have f5 := S8.free hp5
    have e8 := Ex.new (o := .lst ([.int (n1 - 20), .int (4 * n2 - 4000), .int (2000 + n3)] ++ [.int (100 * (n4 - 30) + n5 - 4)] ++ [.int (10 ^ (30 : Int).toNat - 400 - n7), .int (0 - (10 ^ (30 : Int).toNat - 400 - n7))])) hp5
    walk_at "fw"
    refine f_draw (S8.ex_ e8) (by decide) (by decide) fun n9 H9 a9 b9 S9 k9 => ?_
    have hp9 := k9.at f5 upd_same
    obtain ⟨z, hz, hat⟩ := at_ints (L := [n1 - 20, 4 * n2 - 4000, 2000 + n3, 100 * (n4 - 30) + n5 - 4, 10 ^ (30 : Int).toNat - 400 - n7, 0 - (10 ^ (30 : Int).toNat - 400 - n7)]) a9 b9
    refine ⟨p5, _, n9, _, rfl, rfl, sq_of hp9, hat, q z H9 ?_ S9 ?_⟩
    · simp at hz
      omega
    · exact (((((k3'.trans k4).trans k5).l e5).l e6).trans (k7.l e7)).trans ((Kp.of e8).trans k9)

theorem same_step (T : Top K mg) (n : Nat) (spR : Sp) (G_law_same : FnOk P w K mg base CX0 n T.f_law_same T.fd_law_same ["found", "wanted"] spR) (hR : ∀ m, n = m + 1 → spR = spSame K m) :
    FnOk P w K mg base CX0 (n + 1) T.f_law_same T.fd_law_same ["found", "wanted"] (spSame K n) := by
  refine T.F_law_same.ok sc_law_same (fun vs H Q E h => ?_) (fun cdv A outer s H vs Q E hr h => ?_)
  · obtain ⟨x, y, dt, rfl, _⟩ := h; rfl
  · obtain ⟨x, y, dt, rfl, hx, hy, ok, q⟩ := h
    refine ⟨_, (pss_cons (ps_if (pt_cmpR op_isN (pv 1) pe_non (nomark _)) (pss_one (ps_ret (pe_cmpR op_isN (pv 0) pe_non (nomark _)))) pss_nil)
      (pss_cons (ps_if (pt_val (pe_callB (r := rIsi K) call_isi (by rfl) T.z_isinstance (by decide +kernel) (pa_cons (pv 1) (pa_cons (pe_bltn (v := .ty "bool") (u := .type "bool") (by rfl) T.z_bool (by decide +kernel) rfl) pa_nil)))) (pss_one (ps_ret (pe_and (pe_callB (r := rIsi K) call_isi (by rfl) T.z_isinstance (by decide +kernel) (pa_cons (pv 0) (pa_cons (pe_bltn (v := .ty "bool") (u := .type "bool") (by rfl) T.z_bool (by decide +kernel) rfl) pa_nil))) (pe_one (pe_cmpR (r := rEqD K) (op_eqD hr.units) (pv 0) (pv 1) (nomark _)))))) pss_nil)
      (pss_cons (ps_if (pt_val (pe_callB (r := rIsi K) call_isi (by rfl) T.z_isinstance (by decide +kernel) (pa_cons (pv 1) (pa_cons (pe_bltn (v := .ty "int") (u := .type "int") (by rfl) T.z_int (by decide +kernel) rfl) pa_nil)))) (pss_one (ps_ret (pe_and (pe_callB (r := rIsi K) call_isi (by rfl) T.z_isinstance (by decide +kernel) (pa_cons (pv 0) (pa_cons (pe_bltn (v := .ty "int") (u := .type "int") (by rfl) T.z_int (by decide +kernel) rfl) pa_nil))) (pe_and (pe_not (pe_callB (r := rIsi K) call_isi (by rfl) T.z_isinstance (by decide +kernel) (pa_cons (pv 0) (pa_cons (pe_bltn (v := .ty "bool") (u := .type "bool") (by rfl) T.z_bool (by decide +kernel) rfl) pa_nil)))) (pe_one (pe_cmpR (r := rEqD K) (op_eqD hr.units) (pv 0) (pv 1) (nomark _))))))) pss_nil)
      (pss_cons (ps_if (pt_val (pe_callB (r := rIsi K) call_isi (by rfl) T.z_isinstance (by decide +kernel) (pa_cons (pv 1) (pa_cons (pe_bltn (v := .ty "str") (u := .type "str") (by rfl) T.z_str (by decide +kernel) rfl) pa_nil)))) (pss_one (ps_ret (pe_and (pe_callB (r := rIsi K) call_isi (by rfl) T.z_isinstance (by decide +kernel) (pa_cons (pv 0) (pa_cons (pe_bltn (v := .ty "str") (u := .type "str") (by rfl) T.z_str (by decide +kernel) rfl) pa_nil))) (pe_one (pe_cmpR (r := rEqD K) (op_eqD hr.units) (pv 0) (pv 1) (nomark _)))))) pss_nil)
      (pss_cons (ps_if (pt_cmpR op_ne (pe_callB (r := rIsi K) call_isi (by rfl) T.z_isinstance (by decide +kernel) (pa_cons (pv 0) (pa_cons (pe_bltn (v := .ty "list") (u := .type "list") (by rfl) T.z_list (by decide +kernel) rfl) pa_nil))) (pe_callB (r := rIsi K) call_isi (by rfl) T.z_isinstance (by decide +kernel) (pa_cons (pv 1) (pa_cons (pe_bltn (v := .ty "list") (u := .type "list") (by rfl) T.z_list (by decide +kernel) rfl) pa_nil))) (nomark _)) (pss_one (ps_ret pe_bl)) pss_nil)
      (pss_cons (ps_if (PW.pt (pw_or (pt_cmpR op_ne (pe_callB (r := rIsi K) call_isi (by rfl) T.z_isinstance (by decide +kernel) (pa_cons (pv 0) (pa_cons (pe_bltn (v := .ty "tuple") (u := .type "tuple") (by rfl) T.z_tuple (by decide +kernel) rfl) pa_nil))) (pe_callB (r := rIsi K) call_isi (by rfl) T.z_isinstance (by decide +kernel) (pa_cons (pv 1) (pa_cons (pe_bltn (v := .ty "tuple") (u := .type "tuple") (by rfl) T.z_tuple (by decide +kernel) rfl) pa_nil))) (nomark _)) (pw_or1 (pt_cmpR op_ne (pe_callB (r := rLenS K) call_len_seq (by rfl) T.z_len PySem.boot_len (pa_cons (pv 0) pa_nil)) (pe_callB (r := rLenS K) call_len_seq (by rfl) T.z_len PySem.boot_len (pa_cons (pv 1) pa_nil)) (nomark _))))) (pss_one (ps_ret pe_bl)) pss_nil)
      (pss_one (ps_ret (pe_cmpR (r := rEqD K) (op_eqD hr.units) (pe_lc (own := [("k", 2)]) (g := gName 2)  rfl sc_law_same.nd (pi_range1 (by rfl) T.z_range (pa_cons (pe_callB (r := rLenS K) call_len_seq (by rfl) T.z_len PySem.boot_len (pa_cons (pv 1) pa_nil)) pa_nil)) (blkOk_by (own := [("k", 2)]) (N := ["found", "wanted", "k"]) (sc := defScope s_law_same) (by decide +kernel)) (fun _ _ _ _ _ => (pg_name (i := 2) sc_law_same.nd rfl (Or.inl rfl))) (fun _ _ _ _ _ => (pts_one (pt_not (pt_val (pe_call G_law_same (hr.mono (by first | decide | omega)) (by rfl) T.g_law_same T.F_law_same.kp T.b_law_same .nil pass0 (pa_cons (pe_ix (r := rIx K) ix_seq (pv 0) (pv 2) (fun _ _ => rfl)) (pa_cons (pe_ix (r := rIx K) ix_seq (pv 1) (pv 2) (fun _ _ => rfl)) pa_nil))))))) (fun _ _ _ _ _ => (pv 2))) (pe_lst pa_nil) (nomark _)))))))))), ?_⟩
    have tx (H1 : Hp) (e : Ex H H1) : TyX K H1 x (.type (tyN dt)) := ty_dp (dp_ex e hx)
    have ty (H1 : Hp) (e : Ex H H1) : TyX K H1 y (.type (tyN dt)) := ty_dp (dp_ex e hy)
    have vx {H1 : Hp} : Ev (tVar 0) (L2.start ["found", "wanted", "k"] [x, y]) H1 x := ev_var rfl
    have vy {H1 : Hp} : Ev (tVar 1) (L2.start ["found", "wanted", "k"] [x, y]) H1 y := ev_var rfl
    refine f_seq (s_if (et_test (ev_op vy ev_c rv_isN)) (fun hb H1 e1 => ?_) fun hb H1 e1 => ?_)
    · have hy0 : y = .non := of_decide_eq_true hb
      subst hy0
      cases hy
      cases hx
      exact s_ret (ev_op vx ev_c rv_isN) fun H2 e2 => q H2 (e1.trans e2)
    have ny : y ≠ .non := of_decide_eq_false hb
    have isx : ∀ {n : String} {b : Bool} {H1 : Hp}, Ex H H1 → kitB (tyN dt) n = some b → Ev (tCB (rIsi K) (tCons (tVar 0) (tCons (tC (V.ty n)) tNil))) (L2.start ["found", "wanted", "k"] [x, y]) H1 (.bl b) := fun e kb => ev_isi vx (fun H2 e2 => tx H2 (e.trans e2)) kb
    have isy : ∀ {n : String} {b : Bool} {H1 : Hp}, Ex H H1 → kitB (tyN dt) n = some b → Ev (tCB (rIsi K) (tCons (tVar 1) (tCons (tC (V.ty n)) tNil))) (L2.start ["found", "wanted", "k"] [x, y]) H1 (.bl b) := fun e kb => ev_isi vy (fun H2 e2 => ty H2 (e.trans e2)) kb
    have eqd : ∀ {H1 : Hp}, Ex H H1 → SeqAt.shaped dt = true → Ev (tOp (rEqD K) (tVar 0) (tVar 1)) (L2.start ["found", "wanted", "k"] [x, y]) H1 (.bl true) := fun e sd => by
      have z := ev_op vx vy (rv_eqDp (dp_ex e hx) (dp_ex e hy) sd sd)
      rw [SeqAt.eqv_refl dt (SeqAt.canLay_of_shaped sd)] at z
      exact z
    match dt, hx, hy, ok, @isx, @isy, @eqd with
    | .none, hx, hy, _, _, _, _ => cases hy; exact absurd rfl ny
    | .bool b, hx, hy, _, isx, isy, eqd =>
      refine f_seq (s_if (et_B (isy e1 (b := true) (by dsimp only [tyN]; decide +kernel))) (fun _ H2 e2 => ?_) fun hb _ _ => nomatch hb)
      exact s_ret (ev_andV (isx (e1.trans e2) (b := true) (by dsimp only [tyN]; decide +kernel)) fun _ => eqd (e1.trans e2) rfl) fun H3 e3 => q H3 ((e1.trans e2).trans e3)
    | .int b, hx, hy, _, isx, isy, eqd =>
      refine f_seq (s_if (et_B (isy e1 (b := false) (by dsimp only [tyN]; decide +kernel))) (fun hb _ _ => nomatch hb) fun _ H2 e2 => ?_)
      refine f_seq (s_if (et_B (isy (e1.trans e2) (b := true) (by dsimp only [tyN]; decide +kernel))) (fun _ H3 e3 => ?_) fun hb _ _ => nomatch hb)
      have e := (e1.trans e2).trans e3
      exact s_ret (ev_andV (isx e (b := true) (by dsimp only [tyN]; decide +kernel)) fun _ => ev_andV (ev_notV (isx e (b := false) (by dsimp only [tyN]; decide +kernel))) fun _ => eqd e rfl) fun H4 e4 => q H4 (e.trans e4)
    | .str z, hx, hy, ok, isx, isy, eqd =>
      refine f_seq (s_if (et_B (isy e1 (b := false) (by dsimp only [tyN]; decide +kernel))) (fun hb _ _ => nomatch hb) fun _ H2 e2 => ?_)
      refine f_seq (s_if (et_B (isy (e1.trans e2) (b := false) (by dsimp only [tyN]; decide +kernel))) (fun hb _ _ => nomatch hb) fun _ H3 e3 => ?_)
      have e := (e1.trans e2).trans e3
      refine f_seq (s_if (et_B (isy e (b := true) (by dsimp only [tyN]; decide +kernel))) (fun _ H4 e4 => ?_) fun hb _ _ => nomatch hb)
      have e' := e.trans e4
      have ok' : PyData.canLay0 (.str z) = true := by cases n <;> exact ok
      exact s_ret (ev_andV (isx e' (b := true) (by dsimp only [tyN]; decide +kernel)) fun _ => eqd e' (shaped_str ok')) fun H5 e5 => q H5 (e'.trans e5)
    | .list ds, hx, hy, ok, isx, isy, eqd =>
      refine f_seq (s_if (et_B (isy e1 (b := false) (by dsimp only [tyN]; decide +kernel))) (fun hb _ _ => nomatch hb) fun _ H2 e2 => ?_)
      refine f_seq (s_if (et_B (isy (e1.trans e2) (b := false) (by dsimp only [tyN]; decide +kernel))) (fun hb _ _ => nomatch hb) fun _ H3 e3 => ?_)
      have e := (e1.trans e2).trans e3
      refine f_seq (s_if (et_B (isy e (b := false) (by dsimp only [tyN]; decide +kernel))) (fun hb _ _ => nomatch hb) fun _ H4 e4 => ?_)
      have e' := e.trans e4
      have len := fun {H1 : Hp} (e : Ex H H1) => True.intro
      obtain ⟨px, xs, hxx, ax, qx⟩ : ∃ (p : Addr) (xs : List V), x = .ref p ∧ DpAll K H xs ds ∧ (SqL K H p xs ∨ SqT K H p xs) := by cases hx with | lst h a => exact ⟨_, _, rfl, a, .inl h⟩
      obtain ⟨py, ys, hyy, ay, qy⟩ : ∃ (p : Addr) (xs : List V), y = .ref p ∧ DpAll K H xs ds ∧ (SqL K H p xs ∨ SqT K H p xs) := by cases hy with | lst h a => exact ⟨_, _, rfl, a, .inl h⟩
      subst hxx hyy
      obtain ⟨m, rfl, okl, okm⟩ : ∃ m, n = m + 1 ∧ ds.length ≤ 10000 ∧ ∀ d, d ∈ ds → okd m d := by
        cases n with
        | zero => exact ok.elim
        | succ m => exact ⟨m, rfl, ok.1, ok.2⟩
      have eR := hR m rfl
      subst eR
      have upx (H1 : Hp) (e : Ex H H1) : SqL K H1 px xs ∨ SqT K H1 px xs := qx.elim (fun h => .inl (ex_l e h)) (fun h => .inr (ex_t e h))
      have upy (H1 : Hp) (e : Ex H H1) : SqL K H1 py ys ∨ SqT K H1 py ys := qy.elim (fun h => .inl (ex_l e h)) (fun h => .inr (ex_t e h))
      have lx : xs.length = ds.length := dpa_len ax
      have ly : ys.length = ds.length := dpa_len ay
      refine f_seq (s_if (et_test (ev_op (isx e' (b := true) (by dsimp only [tyN]; decide +kernel)) (isy e' (b := true) (by dsimp only [tyN]; decide +kernel)) rv_neB)) (fun hb _ _ => nomatch hb) fun _ H5 e5 => ?_)
      have e6 := e'.trans e5
      refine f_seq (s_if (et_or (et_test (ev_op (isx e6 (b := false) (by dsimp only [tyN]; decide +kernel)) (isy e6 (b := false) (by dsimp only [tyN]; decide +kernel)) rv_neB)) fun _ => et_test (ev_op (ev_lenS vx (upx _ e6)) (ev_lenS vy (upy _ e6)) rv_neI)) (fun hb _ _ => ?_) fun _ H7 e7 => ?_)
      · rw [lx, ly] at hb; simp at hb
      have e8 := e6.trans e7
      have hcomp : EvL (tLc (iRng1 (tCons (tCB (rLenS K) (tCons (tVar 1) tNil)) tNil)) (gName 2) (tNot (tB (tCall (spSame K m) [] E0 (tCons (tOp (rIx K) (tVar 0) (tVar 2)) (tCons (tOp (rIx K) (tVar 1) (tVar 2)) tNil))))) (tVar 2) [2]) (L2.start ["found", "wanted", "k"] [.ref px, .ref py]) H7 [] := by
        have z := el_lcR1 (σ := L2.start ["found", "wanted", "k"] [.ref px, .ref py]) (H := H7) (j := 2) (vs := [2]) (n := (ys.length : Int)) (t := tNot (tB (tCall (spSame K m) [] E0 (tCons (tOp (rIx K) (tVar 0) (tVar 2)) (tCons (tOp (rIx K) (tVar 1) (tVar 2)) tNil))))) (te := tVar 2) (fun _ => false) (fun _ => .non) (ea_cons (ev_lenS vy (upy _ e8)) ea_nil) ⟨by omega, by omega⟩ (fun _ => rfl)
          (fun i H9 e9 hi => ?_) (fun i H9 e9 hi hf => nomatch hf)
        · rw [given_none (fun _ _ => rfl)] at z
          exact z
        · have e10 := e8.trans e9
          obtain ⟨u, d, g1, g2, g3, g4⟩ := dpa_get (i := i) ax (by omega)
          obtain ⟨u', d', k1, k2, k3, k4⟩ := dpa_get (i := i) ay (by omega)
          have ed : d' = d := Option.some.inj (k2.symm.trans g2)
          subst ed
          exact et_not (a := true) (et_B (ev_call (ea_cons (ev_op (ev_var rfl) (ev_var rfl) (rv_ixAny (upx _ e10) g1)) (ea_cons (ev_op (ev_var rfl) (ev_var rfl) (rv_ixAny (upy _ e10) k1)) ea_nil)) (z := .bl true) fun H11 e11 Q' q' E' =>
            ⟨u, u', d', rfl, dp_ex (e10.trans e11) g4, dp_ex (e10.trans e11) k4, okm _ g3, q'⟩))
      refine s_ret (ev_opLL (xs := []) (ys := []) hcomp (el_lst ea_nil (Nat.zero_le _)) fun p1 p2 H9 h1 h2 _ => rv_eqL (xs := []) (ys := []) (sq_of h1) (sq_of h2)) fun H9 e9 => ?_
      exact q _ (e8.trans e9)
    | .tuple ds, hx, hy, ok, isx, isy, eqd =>
      refine f_seq (s_if (et_B (isy e1 (b := false) (by dsimp only [tyN]; decide +kernel))) (fun hb _ _ => nomatch hb) fun _ H2 e2 => ?_)
      refine f_seq (s_if (et_B (isy (e1.trans e2) (b := false) (by dsimp only [tyN]; decide +kernel))) (fun hb _ _ => nomatch hb) fun _ H3 e3 => ?_)
      have e := (e1.trans e2).trans e3
      refine f_seq (s_if (et_B (isy e (b := false) (by dsimp only [tyN]; decide +kernel))) (fun hb _ _ => nomatch hb) fun _ H4 e4 => ?_)
      have e' := e.trans e4
      have len := fun {H1 : Hp} (e : Ex H H1) => True.intro
      obtain ⟨px, xs, hxx, ax, qx⟩ : ∃ (p : Addr) (xs : List V), x = .ref p ∧ DpAll K H xs ds ∧ (SqL K H p xs ∨ SqT K H p xs) := by cases hx with | tup h a => exact ⟨_, _, rfl, a, .inr h⟩
      obtain ⟨py, ys, hyy, ay, qy⟩ : ∃ (p : Addr) (xs : List V), y = .ref p ∧ DpAll K H xs ds ∧ (SqL K H p xs ∨ SqT K H p xs) := by cases hy with | tup h a => exact ⟨_, _, rfl, a, .inr h⟩
      subst hxx hyy
      obtain ⟨m, rfl, okl, okm⟩ : ∃ m, n = m + 1 ∧ ds.length ≤ 10000 ∧ ∀ d, d ∈ ds → okd m d := by
        cases n with
        | zero => exact ok.elim
        | succ m => exact ⟨m, rfl, ok.1, ok.2⟩
      have eR := hR m rfl
      subst eR
      have upx (H1 : Hp) (e : Ex H H1) : SqL K H1 px xs ∨ SqT K H1 px xs := qx.elim (fun h => .inl (ex_l e h)) (fun h => .inr (ex_t e h))
      have upy (H1 : Hp) (e : Ex H H1) : SqL K H1 py ys ∨ SqT K H1 py ys := qy.elim (fun h => .inl (ex_l e h)) (fun h => .inr (ex_t e h))
      have lx : xs.length = ds.length := dpa_len ax
      have ly : ys.length = ds.length := dpa_len ay
      refine f_seq (s_if (et_test (ev_op (isx e' (b := false) (by dsimp only [tyN]; decide +kernel)) (isy e' (b := false) (by dsimp only [tyN]; decide +kernel)) rv_neB)) (fun hb _ _ => nomatch hb) fun _ H5 e5 => ?_)
      have e6 := e'.trans e5
      refine f_seq (s_if (et_or (et_test (ev_op (isx e6 (b := true) (by dsimp only [tyN]; decide +kernel)) (isy e6 (b := true) (by dsimp only [tyN]; decide +kernel)) rv_neB)) fun _ => et_test (ev_op (ev_lenS vx (upx _ e6)) (ev_lenS vy (upy _ e6)) rv_neI)) (fun hb _ _ => ?_) fun _ H7 e7 => ?_)
      · rw [lx, ly] at hb; simp at hb
      have e8 := e6.trans e7
      have hcomp : EvL (tLc (iRng1 (tCons (tCB (rLenS K) (tCons (tVar 1) tNil)) tNil)) (gName 2) (tNot (tB (tCall (spSame K m) [] E0 (tCons (tOp (rIx K) (tVar 0) (tVar 2)) (tCons (tOp (rIx K) (tVar 1) (tVar 2)) tNil))))) (tVar 2) [2]) (L2.start ["found", "wanted", "k"] [.ref px, .ref py]) H7 [] := by
        have z := el_lcR1 (σ := L2.start ["found", "wanted", "k"] [.ref px, .ref py]) (H := H7) (j := 2) (vs := [2]) (n := (ys.length : Int)) (t := tNot (tB (tCall (spSame K m) [] E0 (tCons (tOp (rIx K) (tVar 0) (tVar 2)) (tCons (tOp (rIx K) (tVar 1) (tVar 2)) tNil))))) (te := tVar 2) (fun _ => false) (fun _ => .non) (ea_cons (ev_lenS vy (upy _ e8)) ea_nil) ⟨by omega, by omega⟩ (fun _ => rfl)
          (fun i H9 e9 hi => ?_) (fun i H9 e9 hi hf => nomatch hf)
        · rw [given_none (fun _ _ => rfl)] at z
          exact z
        · have e10 := e8.trans e9
          obtain ⟨u, d, g1, g2, g3, g4⟩ := dpa_get (i := i) ax (by omega)
          obtain ⟨u', d', k1, k2, k3, k4⟩ := dpa_get (i := i) ay (by omega)
          have ed : d' = d := Option.some.inj (k2.symm.trans g2)
          subst ed
          exact et_not (a := true) (et_B (ev_call (ea_cons (ev_op (ev_var rfl) (ev_var rfl) (rv_ixAny (upx _ e10) g1)) (ea_cons (ev_op (ev_var rfl) (ev_var rfl) (rv_ixAny (upy _ e10) k1)) ea_nil)) (z := .bl true) fun H11 e11 Q' q' E' =>
            ⟨u, u', d', rfl, dp_ex (e10.trans e11) g4, dp_ex (e10.trans e11) k4, okm _ g3, q'⟩))
      refine s_ret (ev_opLL (xs := []) (ys := []) hcomp (el_lst ea_nil (Nat.zero_le _)) fun p1 p2 H9 h1 h2 _ => rv_eqL (xs := []) (ys := []) (sq_of h1) (sq_of h2)) fun H9 e9 => ?_
      exact q _ (e8.trans e9)
theorem ok_law_same (T : Top K mg) : ∀ n : Nat, FnOk P w K mg base CX0 (n + 1) T.f_law_same T.fd_law_same ["found", "wanted"] (spSame K n)
  | 0 => same_step T 0 (fun _ _ _ _ => False) ⟨fun _ _ _ _ h => h.elim, fun _ _ _ _ _ _ _ _ _ _ _ _ _ h => h.elim⟩ (fun _ e => nomatch e)
  | n + 1 => same_step T (n + 1) _ (ok_law_same T n) (fun m e => by cases e; rfl)

theorem ok_law_date (T : Top K mg) : FnOk P w K mg base CX0 3 T.f_law_date T.fd_law_date ["source"] (spDate Exists_) := by
  have G_law_draw : FnOk P w K mg base CX0 1 T.f_law_draw T.fd_law_draw ["source", "many"] spDraw := ok_law_draw T
  have G_law_count : FnOk P w K mg base CX0 2 T.f_law_count T.fd_law_count ["source"] spCount := ok_law_count T
  have G_law_length : FnOk P w K mg base CX0 2 T.f_law_length T.fd_law_length ["number"] (spF D_mlen) := ok_law_length T
  refine T.F_law_date.ok sc_law_date (fun vs H Q E h => ?_) (fun cdv A outer st H vs Q E hr h => ?_)
  · obtain ⟨s, d, B, rfl, _⟩ := h; rfl
  · obtain ⟨s, d, B, rfl, S, q⟩ := h
    refine ⟨_, (pss_cons (ps_par (i := 1) (j := 2) (by rfl) sc_law_date.nd rfl rfl (by decide) rfl rfl (pa_cons (pe_call G_law_count (hr.mono (by first | decide | omega)) (by rfl) T.g_law_count T.F_law_count.kp T.b_law_count .nil pass0 (pa_cons (pv 0) pa_nil)) (pa_cons (pe_call G_law_draw (hr.mono (by first | decide | omega)) (by rfl) T.g_law_draw T.F_law_draw.kp T.b_law_draw .nil pass0 (pa_cons (pv 0) (pa_cons pe_int pa_nil))) pa_nil)) (by rfl))
      (pss_cons (ps_set (i := 3) sc_law_date.nd rfl (Or.inl rfl) (pe_call G_law_length (hr.mono (by first | decide | omega)) (by rfl) T.g_law_length T.F_law_length.kp T.b_law_length .nil pass0 (pa_cons (pe_op op_add (pe_op op_mulW pe_int (pv 1)) (pv 2)) pa_nil)))
      (pss_cons (ps_set (i := 4) sc_law_date.nd rfl (Or.inl rfl) (pe_lst (pa_cons (pe_op op_add pe_int (pe_call G_law_draw (hr.mono (by first | decide | omega)) (by rfl) T.g_law_draw T.F_law_draw.kp T.b_law_draw .nil pass0 (pa_cons (pv 0) (pa_cons (pv 3) pa_nil)))) (pa_cons (pv 3) (pa_cons (pe_callB (call_max2 rfl) (by rfl) T.z_max (by decide +kernel) (pa_cons pe_int (pa_cons (pe_op op_sub (pv 3) (pe_call G_law_draw (hr.mono (by first | decide | omega)) (by rfl) T.g_law_draw T.F_law_draw.kp T.b_law_draw .nil pass0 (pa_cons (pv 0) (pa_cons pe_int pa_nil)))) pa_nil))) (pa_cons (pe_op op_add pe_int (pe_call G_law_draw (hr.mono (by first | decide | omega)) (by rfl) T.g_law_draw T.F_law_draw.kp T.b_law_draw .nil pass0 (pa_cons (pv 0) (pa_cons pe_int pa_nil)))) pa_nil))))))
      (pss_one (ps_ret (pe_tup (pa_cons (pv 1) (pa_cons (pe_op op_add (pv 2) pe_int) (pa_cons (pe_ix (r := rIxL K) ix_list (pv 4) (pe_call G_law_draw (hr.mono (by first | decide | omega)) (by rfl) T.g_law_draw T.F_law_draw.kp T.b_law_draw .nil pass0 (pa_cons (pv 0) (pa_cons pe_int pa_nil))) (fun _ _ => rfl)) pa_nil))))))))), ?_⟩
    refine f_seq (f_par ?_)
    walk_at "fw"
    refine ⟨s, d, B + 5, rfl, S, fun y H1 hy S1 k1 => ?_⟩
    walk_at "fw"
    refine f_draw S1 (by decide) (by decide) fun n2 H2 a2 b2 S2 k2 => ?_
    walk_at "fw"
    refine f_par2 ?_
    walk_at "fs"
    refine f_ev (ev_call (ea_cons (ev_op (ev_op ev_c (ev_var rfl) (rv_mul (by decide) (by omega))) (ev_var rfl) rv_I0) ea_nil) (sv_F ⟨_, rfl, rfl⟩)) fun H3 e3 => ?_
    have em : mlen (12 * y + n2) = dlen y (n2 + 1) := by
      unfold mlen
      rw [show (12 * y + n2) / 12 = y by omega, show (12 * y + n2) % 12 = n2 by omega]
    rw [em]
    obtain ⟨l28, l31⟩ := dlen_bounds y (n2 + 1) (by omega) (by omega)
    generalize hl : dlen y (n2 + 1) = last at l28 l31
    walk_at "fw"
    refine f_draw (S2.ex_ e3) (by omega) (by omega) fun n3 H4 a4 b4 S4 k4 => ?_
    walk_at "fw"
    refine f_draw S4 (by decide) (by decide) fun n4 H5 a5 b5 S5 k5 => ?_
    walk_at "fw"
    refine ⟨_, _, rfl, ?_⟩
    rw [show (if last - n4 > 28 then last - n4 else 28) = max 28 (last - n4) by split <;> omega]
    walk_at "fw"
    refine f_draw S5 (by decide) (by decide) fun n6 H6 a6 b6 S6 k6 => ?_
    walk_at "fw"
    refine f_newL S6 (by simp) fun p np fp S7 e7 h7 => ?_
    walk_at "fw"
    refine f_draw S7 (by decide) (by decide) fun n8 H8 a8 b8 S8 k8 => ?_
    have h8 := k8.at fp h7
    obtain ⟨z, hz, hat⟩ := at_ints (L := [1 + n3, last, max 28 (last - n4), 1 + n6]) a8 b8
    refine ⟨p, _, n8, _, rfl, rfl, sq_of h8, hat, ?_⟩
    walk_at "fw"
    have kk : Kp s d H H8 := (((((k1.trans k2).l e3).trans k4).trans k5).trans k6).trans ((Kp.of e7).trans k8)
    refine f_newU S8 (by simp) fun p9 np9 fp9 S9 e9 h9 => ?_
    refine q y (n2 + 1) z p9 _ ⟨by omega, by omega, ?_, ?_⟩ hy (kk.new S8 np9) fp9 (S9.less (by omega)) (kk.l e9) h9
    · simp at hz; omega
    · simp at hz; omega

theorem ok_law_jumps (T : Top K mg) : FnOk P w K mg base CX0 2 T.f_law_jumps T.fd_law_jumps ["source", "most"] spJumps := by
  have G_law_draw : FnOk P w K mg base CX0 1 T.f_law_draw T.fd_law_draw ["source", "many"] spDraw := ok_law_draw T
  refine T.F_law_jumps.ok sc_law_jumps (fun vs H Q E h => ?_) (fun cdv A outer st H vs Q E hr h => ?_)
  · obtain ⟨s, d, B, most, rfl, _⟩ := h; rfl
  · obtain ⟨s, d, B, most, rfl, m0, m1, S, q⟩ := h
    refine ⟨_, (pss_cons (ps_set (i := 2) sc_law_jumps.nd rfl (Or.inl rfl) (pe_lst pa_nil))
      (pss_cons (ps_for PassesOwn.never rfl (pi_range1 (by rfl) T.z_range (pa_cons (pe_call G_law_draw (hr.mono (by first | decide | omega)) (by rfl) T.g_law_draw T.F_law_draw.kp T.b_law_draw .nil pass0 (pa_cons (pv 0) (pa_cons (pe_op op_add (pv 1) pe_int) pa_nil))) pa_nil)) (pg_name (i := 3) sc_law_jumps.nd rfl (Or.inl rfl)) (pss_cons (ps_set (i := 4) sc_law_jumps.nd rfl (Or.inl rfl) (pe_ix (r := rIxL K) ix_list (pe_lst (pa_cons pe_int (pa_cons (pe_un un_neg pe_int) pa_nil))) (pe_call G_law_draw (hr.mono (by first | decide | omega)) (by rfl) T.g_law_draw T.F_law_draw.kp T.b_law_draw .nil pass0 (pa_cons (pv 0) (pa_cons pe_int pa_nil))) (fun _ _ => rfl)))
      (pss_cons (ps_set (i := 5) sc_law_jumps.nd rfl (Or.inl rfl) (pe_lst (pa_cons (pe_call G_law_draw (hr.mono (by first | decide | omega)) (by rfl) T.g_law_draw T.F_law_draw.kp T.b_law_draw .nil pass0 (pa_cons (pv 0) (pa_cons pe_int pa_nil))) (pa_cons (pe_call G_law_draw (hr.mono (by first | decide | omega)) (by rfl) T.g_law_draw T.F_law_draw.kp T.b_law_draw .nil pass0 (pa_cons (pv 0) (pa_cons pe_int pa_nil))) (pa_cons (pe_op op_mulW pe_int (pe_call G_law_draw (hr.mono (by first | decide | omega)) (by rfl) T.g_law_draw T.F_law_draw.kp T.b_law_draw .nil pass0 (pa_cons (pv 0) (pa_cons pe_int pa_nil)))) (pa_cons (pe_op op_mulW pe_int (pe_call G_law_draw (hr.mono (by first | decide | omega)) (by rfl) T.g_law_draw T.F_law_draw.kp T.b_law_draw .nil pass0 (pa_cons (pv 0) (pa_cons pe_int pa_nil)))) pa_nil))))))
      (pss_cons (ps_set (i := 5) sc_law_jumps.nd rfl (Or.inl rfl) (pe_op op_cat (pv 5) (pe_lst (pa_cons (pe_op op_mulW pe_int (pe_call G_law_draw (hr.mono (by first | decide | omega)) (by rfl) T.g_law_draw T.F_law_draw.kp T.b_law_draw .nil pass0 (pa_cons (pv 0) (pa_cons pe_int pa_nil)))) (pa_cons (pe_call G_law_draw (hr.mono (by first | decide | omega)) (by rfl) T.g_law_draw T.F_law_draw.kp T.b_law_draw .nil pass0 (pa_cons (pv 0) (pa_cons (pe_op op_pow pe_int pe_int) pa_nil))) pa_nil)))))
      (pss_cons (ps_expr (pe_bm PySem.F.plainAttrs_list PySem.F.slot_list_append PySem.F.type_list_append mt_append (pv 2) (pa_cons (pe_op op_mulW (pv 4) (pe_ix (r := rIxL K) ix_list (pv 5) (pe_call G_law_draw (hr.mono (by first | decide | omega)) (by rfl) T.g_law_draw T.F_law_draw.kp T.b_law_draw .nil pass0 (pa_cons (pv 0) (pa_cons pe_int pa_nil))) (fun _ _ => rfl))) pa_nil)))
      (pss_one (ps_if (PW.pt (pw_and (pt_cmpR op_gt (pe_callB (r := rLenS K) call_len_seq (by rfl) T.z_len PySem.boot_len (pa_cons (pv 2) pa_nil)) pe_int (nomark _)) (pw_and1 (pt_cmpR op_eq (pe_call G_law_draw (hr.mono (by first | decide | omega)) (by rfl) T.g_law_draw T.F_law_draw.kp T.b_law_draw .nil pass0 (pa_cons (pv 0) (pa_cons pe_int pa_nil))) pe_int (nomark _))))) (pss_one (ps_asg (pe_op op_sub pe_int (pe_ix (r := rIxL K) ix_list (pv 2) (pe_un un_neg pe_int) (fun _ _ => rfl))) (pg_sub (pv 2) (pe_un un_neg pe_int) set_list))) pss_nil)))))))
      (pss_one (ps_ret (pv 2))))), ?_⟩
    walk_at "fw"
    refine f_newL S (by simp) fun p np fp S1 e1 h1 => ?_
    walk_at "fs"
    refine f_forR1 ?_
    walk_at "fw"
    refine f_draw S1 (by omega) (by omega) fun n H2 a2 b2 S2 k2 => ?_
    walk_at "fw"
    refine ⟨n, rfl, by omega, by omega, for_range (lo := 0) (n := n.toNat) (fun i σ' H' => ∃ (ks : List Int) (v3 v4 v5 : Option V), σ' = [some (.ref s), some (.int most), some (.ref p), v3, v4, v5] ∧ H' p = some (.lst (ks.map V.int)) ∧ ks.length = i ∧ (∀ k, k ∈ ks → k.natAbs ≤ 10 ^ 28) ∧ Src H' s d (B + 900 - 9 * i) ∧ Kp s d H H')
      ⟨[], none, none, none, rfl, k2.at fp h1, rfl, fun _ h => by simp at h, S2.less (by omega), (Kp.of e1).trans k2⟩ (fun i σ' H' hi hp => ?_) fun σ' H' hp => ?_⟩
    · obtain ⟨ks, v3, v4, v5, rfl, hp, hlen, hks, S3, kk⟩ := hp
      have S3 : Src H' s d (B + 900 - 9 * (i + 1) + 9) := S3.less (by omega)
      walk_at "fw"
      refine f_newL S3 (by simp) fun p1 np1 fp1 S4 e4 h4 => ?_
      walk_at "fw"
      refine f_draw S4 (by decide) (by decide) fun n5 H5 a5 b5 S5 k5 => ?_
      obtain ⟨sg, hsg, hat⟩ := at_ints (L := [1, -1]) a5 b5
      refine ⟨p1, _, n5, _, rfl, rfl, sq_of (k5.at fp1 h4), hat, ?_⟩
      have hp5 := k5.at fp (e4 _ _ hp)
      have kk5 := (kk.l e4).trans k5
      clear h4 e4 hp kk
      walk_at "fw"
      refine f_draw S5 (by decide) (by decide) fun n6 H6 a6 b6 S6 k6 => ?_
      walk_at "fw"
      refine f_draw S6 (by decide) (by decide) fun n7 H7 a7 b7 S7 k7 => ?_
      walk_at "fw"
      refine f_draw S7 (by decide) (by decide) fun n8 H8 a8 b8 S8 k8 => ?_
      walk_at "fw"
      refine f_draw S8 (by decide) (by decide) fun n9 H9 a9 b9 S9 k9 => ?_
      walk_at "fw"
      refine f_newL S9 (by simp) fun p2 np2 fp2 S10 e10 h10 => ?_
      have hp10 := e10 _ _ (k9.at fp (k8.at fp (k7.at fp (k6.at fp hp5))))
      have kk10 := (((kk5.trans k6).trans k7).trans k8).trans (k9.l e10)
      clear hp5 kk5
      walk_at "fw"
      refine f_draw S10 (by decide) (by decide) fun n11 H11 a11 b11 S11 k11 => ?_
      walk_at "fw"
      refine f_draw S11 (by decide) (by decide) fun n12 H12 a12 b12 S12 k12 => ?_
      walk_at "fw"
      refine f_newL S12 (by simp) fun p3 np3 fp3 S13 e13 h13 => ?_
      have h13' := e13 _ _ (k12.at fp2 (k11.at fp2 h10))
      have hp13 := e13 _ _ (k12.at fp (k11.at fp hp10))
      have kk13 := (kk10.trans k11).trans (k12.l e13)
      clear hp10 kk10
      refine f_catL S13 h13' h13 (by simp) fun p4 H14 np4 fp4 S14 e14 h14 => ?_
      have hp14 := e14 _ _ hp13
      have kk14 := kk13.l e14
      clear hp13 kk13
      walk_at "fs"
      refine f_bm ?_
      walk_at "fs"
      refine f_tyL hp14 ?_
      walk_at "fw"
      refine f_draw S14 (by decide) (by decide) fun n15 H15 a15 b15 S15 k15 => ?_
      have hp15 := k15.at fp hp14
      have kk15 := kk14.trans k15
      replace b12 : n12 < 10 ^ 27 := b12
      obtain ⟨z, hz, hat⟩ := at_ints (L := [n6, n7, 12 * n8, 48 * n9, 1200 * n11, n12]) a15 b15
      refine ⟨p4, _, n15, .int z, rfl, rfl, sq_of (k15.at fp4 h14), hat, ?_⟩
      have hzb : z.natAbs ≤ 10 ^ 27 := by simp at hz; omega
      have hsgb : sg = 1 ∨ sg = -1 := by simpa using hsg
      have hv : (sg * z).natAbs ≤ 10 ^ 28 := by rcases hsgb with rfl | rfl <;> omega
      walk_at "fw"
      refine ⟨p, _, _, rfl, rfl, hp15, sz_lt (by rw [List.length_map]; omega), ?_⟩
      have hp16 : (upd H15 p (.lst (ks.map V.int ++ [.int (sg * z)]))) p = some (.lst ((ks ++ [sg * z]).map V.int)) := by rw [upd_same, List.map_append]; rfl
      have S16 : Src (upd H15 p (.lst (ks.map V.int ++ [.int (sg * z)]))) s d (B + 900 - 9 * (i + 1) + 1) := by
        obtain ⟨ds, a, m, c, g1, g2, g3⟩ := S15.ex
        exact (show Src _ s d (B + 900 - 9 * (i + 1) + 1) from ⟨ds, a, m, c, by rw [upd_ne fp.1.symm]; exact g1, by rw [upd_ne fp.2.symm]; exact g2, g3⟩)
      have kk16 : Kp s d H (upd H15 p (.lst (ks.map V.int ++ [.int (sg * z)]))) := fun b o g1 g2 g => by
        rw [upd_ne (ne_of_none g np)]; exact kk15 b o g1 g2 g
      have hks16 : ∀ k, k ∈ ks ++ [sg * z] → k.natAbs ≤ 10 ^ 28 := fun k hk => by
        rcases List.mem_append.mp hk with h | h
        · exact hks k h
        · rw [List.mem_singleton.mp h]; exact hv
      generalize upd H15 p (.lst (ks.map V.int ++ [.int (sg * z)])) = H16 at hp16 S16 kk16
      walk_at "fw"
      refine ⟨p, _, rfl, .inl (sq_of hp16), ?_⟩
      walk_at "fw"
      refine f_ite (fun hb => ?_) (fun hb => ?_)
      · walk_at "fw"
        refine f_draw S16 (by decide) (by decide) fun n17 H17 a17 b17 S17 k17 => ?_
        have hp17 := k17.at fp hp16
        have kk17 := kk16.trans k17
        walk_at "fw"
        refine f_ite (fun hb2 => ?_) (fun hb2 => ?_)
        · walk_at "fw"
          obtain ⟨u, hu, hat⟩ := at_m2 (L := ks ++ [sg * z]) (by rw [List.length_map] at hb; omega)
          refine ⟨p, _, _, .int u, rfl, rfl, sq_of hp17, hat, ?_⟩
          walk_at "fw"
          refine ⟨.ref p, rfl, ?_⟩
          walk_at "fw"
          refine ⟨p, _, _, _, rfl, rfl, hp17, ixN_m1 (by rw [List.length_map, List.length_append, List.length_singleton]; omega), ?_⟩
          refine ⟨(ks ++ [sg * z]).set (((ks ++ [sg * z]).map V.int).length - 1) (0 - u), _, _, _, rfl, ?_, ?_, fun k hk => ?_, ?_, fun b o g1 g2 g => ?_⟩
          · rw [upd_same, List.map_set]
          · rw [List.length_set, List.length_append, List.length_singleton]; omega
          · rcases List.mem_or_eq_of_mem_set hk with h | h
            · exact hks16 k h
            · have := hks16 u hu; rw [h]; omega
          · obtain ⟨ds, a, m, c, g1, g2, g3⟩ := S17.ex
            exact ⟨ds, a, m, c, by rw [upd_ne fp.1.symm]; exact g1, by rw [upd_ne fp.2.symm]; exact g2, g3⟩
          · rw [upd_ne (ne_of_none g np)]; exact kk17 b o g1 g2 g
        · walk_at "fw"
          exact ⟨ks ++ [sg * z], _, _, _, rfl, hp17, by rw [List.length_append, List.length_singleton]; omega, hks16, S17, kk17⟩
      · walk_at "fw"
        refine f_iteB (fun h => nomatch h) (fun _ => ?_)
        walk_at "fw"
        exact ⟨ks ++ [sg * z], _, _, _, rfl, hp16, by rw [List.length_append, List.length_singleton]; omega, hks16, S16.less (by omega), kk16⟩
    · obtain ⟨ks, v3, v4, v5, rfl, hp, hlen, hks, S3, kk⟩ := hp
      walk_at "fw"
      exact q ks p H' (by omega) hks np fp (S3.less (by omega)) kk hp

/-! the same visits in another sequence -/
def steps (os : List Int) : List Int := List.zipWith (fun x y => y - x) (0 :: os) os
def spAgain : Sp := fun vs H Q _ => ∃ (s d a : Addr) (B : Nat) (ss : List Int) (z : Int), vs = [.ref s, .ref a] ∧ Src H s d (B + 100) ∧ H a = some (.lst (ss.map V.int)) ∧ (a ≠ s ∧ a ≠ d) ∧ ss[ss.length - 1]? = some z ∧ ss.length ≤ 60 ∧
  ∀ (os : List Int) (p : Addr) (H' : Hp), os.length ≤ ss.length + 4 → (∀ k, k ∈ os ↔ k ∈ ss) → os[os.length - 1]? = some z → H p = none → p ≠ s ∧ p ≠ d → Src H' s d B → Kp s d H H' → H' p = some (.lst ((steps os).map V.int)) → Q (.ref p) H'
theorem erase_map_int (lf : List Int) (j : Nat) : (lf.map V.int).eraseIdx j = (lf.eraseIdx j).map V.int := L2.erase_mapI lf j
theorem perm_idx : ∀ {lf : List Int} {j : Nat} {y : Int}, lf[j]? = some y → (y :: lf.eraseIdx j).Perm lf
  | [], _, _, h => by simp at h
  | x :: r, 0, y, h => by
    obtain rfl : x = y := by simpa using h
    exact List.Perm.refl _
  | x :: r, j + 1, y, h => by
    have ih := perm_idx (lf := r) (j := j) (y := y) (by simpa using h)
    exact (List.Perm.swap x y _).trans (List.Perm.cons x ih)
theorem perm_pop {acc lf L0 : List Int} {j : Nat} {y : Int} (h : (acc ++ lf).Perm L0) (hj : lf[j]? = some y) : ((acc ++ [y]) ++ lf.eraseIdx j).Perm L0 := by
  refine List.Perm.trans ?_ h
  rw [List.append_assoc]
  refine List.Perm.append_left acc ?_
  exact perm_idx hj
theorem ok_law_again (T : Top K mg) : FnOk P w K mg base CX0 2 T.f_law_again T.fd_law_again ["source", "sums"] spAgain := by
  have G_law_draw : FnOk P w K mg base CX0 1 T.f_law_draw T.fd_law_draw ["source", "many"] spDraw := ok_law_draw T
  refine T.F_law_again.ok sc_law_again (fun vs H Q E h => ?_) (fun cdv A outer st H vs Q E hr h => ?_)
  · obtain ⟨s, d, a, B, ss, z, rfl, _⟩ := h; rfl
  · obtain ⟨s, d, a, B, ss, z, rfl, S, ha, fa, hz, hlen, q⟩ := h
    refine ⟨_, (pss_cons (ps_set (i := 2) sc_law_again.nd rfl (Or.inr rfl) (pe_op op_cat (pe_callTy call_list_of (by rfl) T.z_list (by decide +kernel) (pa_cons (pv 1) pa_nil)) (pe_slice (r := rSlL K) sl_list (pv 1) po_none (po_some (pe_call G_law_draw (hr.mono (by first | decide | omega)) (by rfl) T.g_law_draw T.F_law_draw.kp T.b_law_draw .nil pass0 (pa_cons (pv 0) (pa_cons pe_int pa_nil)))))))
      (pss_cons (ps_set (i := 3) sc_law_again.nd rfl (Or.inl rfl) (pe_op op_cat (pe_lc (own := [("time", 6)]) (g := gName 6) (tt := tYes) rfl sc_law_again.nd (pi_range1 (by rfl) T.z_range (pa_cons (pe_callB (r := rLenS K) call_len_seq (by rfl) T.z_len PySem.boot_len (pa_cons (pv 2) pa_nil)) pa_nil)) (blkOk_by (own := [("time", 6)]) (N := ["source", "sums", "left", "order", "early", "later", "time"]) (sc := defScope s_law_again) (by decide +kernel)) (fun _ _ _ _ _ => (pg_name (i := 6) sc_law_again.nd rfl (Or.inl rfl))) (fun _ _ _ _ _ => pts_nil) (fun _ _ _ _ _ => (show PE _ _ (tBM K "list" _ _ _) from pe_bm PySem.F.plainAttrs_list PySem.F.slot_list_pop PySem.F.type_list_pop mt_popAt (pv 2) (pa_cons (pe_call G_law_draw (hr.mono (by first | decide | omega)) (by rfl) T.g_law_draw T.F_law_draw.kp T.b_law_draw .nil pass0 (pa_cons (pv 0) (pa_cons (pe_callB (r := rLenS K) call_len_seq (by rfl) T.z_len PySem.boot_len (pa_cons (pv 2) pa_nil)) pa_nil))) pa_nil)))) (pe_lst (pa_cons (pe_ix (r := rIxL K) ix_list (pv 1) (pe_un un_neg pe_int) (fun _ _ => rfl)) pa_nil))))
      (pss_one (ps_ret (pe_lc (own := [("early", 4), ("later", 5)]) (g := gTup K 2 (gCons (gName 4) (gCons (gName 5) (gNil)))) (tt := tYes) rfl sc_law_again.nd (RZ.pi_zipA (by rfl) T.z_zip (pa_cons (pe_op op_cat (pe_lst (pa_cons pe_int pa_nil)) (pv 3)) (pa_cons (pv 3) pa_nil))) (blkOk_by (own := [("early", 4), ("later", 5)]) (N := ["source", "sums", "left", "order", "early", "later", "time"]) (sc := defScope s_law_again) (by decide +kernel)) (fun _ _ _ _ _ => (pg_tup rfl (pgs_cons (pg_name (i := 4) sc_law_again.nd rfl (Or.inl rfl)) (pgs_cons (pg_name (i := 5) sc_law_again.nd rfl (Or.inl rfl)) pgs_nil)))) (fun _ _ _ _ _ => pts_nil) (fun _ _ _ _ _ => (pe_op op_sub (pv 5) (pv 4)))))))), ?_⟩
    have h0 : 0 < ss.length := by
      have := (List.getElem?_eq_some_iff.mp hz).1
      omega
    refine f_seq (f_asg (f_op (f_evL (el_list (ev_var rfl) (sq_of ha)) fun p1 H1 np1 e1 h1 => f_sl (f_var rfl (f_nop (f_part (f_call (f_cons (f_var rfl (f_cons (f_c (f_nil ?_)))))))))))) 
    have S1 : Src H1 s d (B + 99 + 1) := (S.ex_ e1).less (by omega)
    refine f_draw S1 (by decide) (by decide) fun n H2 a2 b2 S2 k2 => ?_
    have fp1 := S.free np1
    have k02 : Kp s d H H2 := (Kp.of e1).trans k2
    refine ⟨n, rfl, a, _, rfl, sq_of (k02.at fa ha), fun p2 np2 => ?_⟩
    obtain ⟨m, rfl⟩ : ∃ m : Nat, n = (m : Int) := ⟨n.toNat, by omega⟩
    rw [cutV_take]
    have fp2 := S2.free np2
    refine ⟨p1, p2, _, _, rfl, rfl, Ex.new np2 _ _ (k2.at fp1 h1), upd_same, sz1000 (by rw [List.length_map, List.length_take, List.length_map]; omega), fun pl npl => ?_⟩
    have e3 : Ex H2 (upd H2 p2 (.lst ((ss.map V.int).take m))) := Ex.new np2
    have S3 := S2.ex_ e3
    have fpl := S3.free npl
    have e4 : Ex H2 (upd (upd H2 p2 (.lst ((ss.map V.int).take m))) pl (.lst (ss.map V.int ++ (ss.map V.int).take m))) := e3.trans (Ex.new npl)
    have k4 : Kp s d H _ := k02.l e4
    have S4 := S2.ex_ e4
    have npl0 : H pl = none := k02.new S2 (fresh_back e3 npl)
    have h4 : (upd (upd H2 p2 (.lst ((ss.map V.int).take m))) pl (.lst (ss.map V.int ++ (ss.map V.int).take m))) pl = some (.lst ((ss ++ ss.take m).map V.int)) := by
      rw [upd_same, List.map_append, List.map_take]
    generalize upd (upd H2 p2 (.lst ((ss.map V.int).take m))) pl (.lst (ss.map V.int ++ (ss.map V.int).take m)) = H4 at k4 S4 h4
    clear e4 e3 S3 npl fp2
    have hL : (ss ++ ss.take m).length ≤ ss.length + 3 := by rw [List.length_append, List.length_take]; omega
    have hmem : ∀ k, k ∈ ss ++ ss.take m ↔ k ∈ ss := fun k => by
      rw [List.mem_append]
      exact ⟨fun h => h.elim id List.mem_of_mem_take, .inl⟩
    generalize ss ++ ss.take m = L0 at h4 hL hmem
    refine f_gName ?_
    refine f_seq (f_asg (f_op (f_lcR1 (f_cons (f_ev (ev_lenS (ev_var rfl) (.inl (sq_of h4))) fun H5 e5 => f_nil ⟨_, rfl, by rw [List.length_map]; omega, by rw [List.length_map]; omega, fun D hD => ?_⟩)))))
    have en : (((L0.map V.int).length : Nat) : Int).toNat = L0.length := by rw [List.length_map]; rfl
    rw [en]
    have S5 := S4.ex_ e5
    have fD := S5.free hD
    have nD0 : H D = none := k4.new S4 (fresh_back e5 hD)
    have nplD : pl ≠ D := ne_of_none (e5 _ _ h4) hD
    refine lc_range (lo := 0) (n := L0.length) (fun i H' => ∃ acc lf : List Int, acc.length = i ∧ lf.length = L0.length - i ∧ H' D = some (.lst (acc.map V.int)) ∧ H' pl = some (.lst (lf.map V.int)) ∧ (acc ++ lf).Perm L0 ∧ Src H' s d (B + 99 - i) ∧ Kp s d H H')
      ⟨[], L0, rfl, rfl, upd_same, Ex.new hD _ _ (e5 _ _ h4), List.Perm.refl _, (S5.ex_ (Ex.new hD)).less (by omega), (k4.l e5).l (Ex.new hD)⟩ (fun i H' hi ⟨acc, lf, g1, g2, g3, g4, g5, g6, g7⟩ => ⟨rfl, f_yes ?_⟩) fun H' ⟨acc, lf, g1, g2, g3, g4, g5, g6, g7⟩ => ?_
    · rw [if_pos rfl]
      have hlf : (0 : Int) < ((lf.map V.int).length : Nat) := by rw [List.length_map]; omega
      have g6' : Src H' s d (B + 99 - (i + 1) + 1) := g6.less (by omega)
      refine f_bm (f_var rfl (f_tyL g4 (f_cons (f_call (f_cons (f_var rfl (f_cons (f_ev (ev_lenS (ev_var rfl) (.inl (sq_of g4))) fun H6 e6 => f_nil ?_))))))))
      refine f_draw (g6'.ex_ e6) hlf (by rw [List.length_map]; omega) fun j H7 a7 b7 S7 k7 => f_nil ?_
      obtain ⟨j, rfl⟩ : ∃ m : Nat, j = (m : Int) := ⟨j.toNat, by omega⟩
      rw [List.length_map] at b7
      have hj : j < lf.length := by omega
      have k67 : Kp s d H' H7 := (Kp.of e6).trans k7
      have hg : lf[j]? = some lf[j] := List.getElem?_eq_getElem hj
      refine ⟨pl, _, j, j, .int lf[j], rfl, rfl, k67.at fpl g4, by omega, by omega, ?_, by rw [List.getElem?_map, hg]; rfl, ?_⟩
      · rw [List.length_map]
        unfold seqIndex?
        simp
        omega
      · refine ⟨_, by rw [upd_ne nplD.symm]; exact k67.at fD g3, Nat.lt_of_le_of_lt (by rw [List.length_map]; omega : _ ≤ 1000) (by decide), acc ++ [lf[j]], lf.eraseIdx j, by rw [List.length_append, g1]; rfl, ?_, by rw [upd_same, List.map_append]; rfl, ?_, perm_pop g5 hg, ?_, fun b o c1 c2 c3 => ?_⟩
        · rw [List.length_eraseIdx]; split <;> omega
        · rw [upd_ne nplD, upd_same, erase_map_int]
        · exact (S7.upd fpl).upd fD
        · rw [upd_ne (ne_of_none c3 nD0), upd_ne (ne_of_none c3 npl0)]
          exact k67 b o c1 c2 (g7 b o c1 c2 c3)
    · have hlf : lf = [] := List.eq_nil_of_length_eq_zero (by omega)
      subst hlf
      rw [List.append_nil] at g5
      have S8 : Src H' s d B := g6.less (by omega)
      refine f_evL (el_lst (ea_cons (ev_op (ev_var rfl) (ev_un ev_c ru_neg) (rv_ixL (sq_of (g7.at fa ha)) (at_m1 hz))) ea_nil) (by show 1 ≤ 100000; decide)) fun p8 H8 np8 e8 h8 => ?_
      refine ⟨D, p8, _, _, rfl, rfl, e8 _ _ g3, h8, sz1000 (by rw [List.length_map]; simp; omega), fun po npo => ?_⟩
      have e9 := e8.trans (Ex.new (o := .lst (acc.map V.int ++ [V.int z])) npo)
      have h9 : (upd H8 po (.lst (acc.map V.int ++ [V.int z]))) po = some (.lst ((acc ++ [z]).map V.int)) := by rw [upd_same, List.map_append]; rfl
      generalize upd H8 po (.lst (acc.map V.int ++ [V.int z])) = H9 at e9 h9
      have k9 := g7.l e9
      have S9 := S8.ex_ e9
      refine f_gName (f_ret (f_lc (f_zipL (f_cons (f_op (f_evL (el_lst (ea_cons ev_c ea_nil) (by show 1 ≤ 100000; decide)) fun p10 H10 np10 e10 h10 => f_var rfl ?_)))))) 
      refine ⟨p10, po, _, _, rfl, rfl, h10, e10 _ _ h9, sz1000 (by simp; omega), fun p11 np11 => f_cons (f_var rfl (f_nil ⟨p11, po, _, _, rfl, .inl ⟨sq_of upd_same, sq_of (Ex.new np11 _ _ (e10 _ _ h9)), ?_⟩⟩))⟩
      have e11 := e10.trans (Ex.new (o := .lst ([V.int 0] ++ (acc ++ [z]).map V.int)) np11)
      refine lcz (xs := 0 :: (acc ++ [z])) (ys := acc ++ [z]) (fun x y => y - x) (sq_of (upd_same)) (sq_of (Ex.new np11 _ _ (e10 _ _ h9))) (by simp) (by simp; omega) (fun _ _ => rfl) (fun x y H12 => ev_op (ev_var rfl) (ev_var rfl) rv_I0) fun p12 H12 np12 e12 h12 => ?_
      have e13 := e11.trans e12
      have hk : ∀ k, k ∈ acc ++ [z] ↔ k ∈ ss := fun k => by
        rw [List.mem_append, List.mem_singleton, g5.mem_iff, hmem]
        exact ⟨fun h => h.elim id fun e => e ▸ List.mem_of_getElem? hz, .inl⟩
      have np0 : H p12 = none := k9.new S9 (fresh_back e11 np12)
      exact q (acc ++ [z]) p12 H12 (by rw [List.length_append]; simp; omega) hk (by simp) np0 (S.free np0) (S9.ex_ e13) (k9.l e13) h12

/-! visits and the day -/
theorem sums_len (ks : List Int) : (sums ks).length = ks.length + 1 := sumsTo_len ks _
theorem mem_sums {ks : List Int} {z : Int} : z ∈ sums ks ↔ ∃ j, j ≤ ks.length ∧ z = (ks.take j).sum := by
  unfold sums sumsTo
  rw [List.mem_map]
  constructor
  · rintro ⟨j, hj, rfl⟩
    exact ⟨j, by have := List.mem_range.mp hj; omega, rfl⟩
  · rintro ⟨j, hj, rfl⟩
    exact ⟨j, List.mem_range.mpr (by omega), rfl⟩
theorem sums_last (ks : List Int) : (sums ks)[(sums ks).length - 1]? = some ks.sum := by
  rw [sums_len]
  show (sumsTo ks ks.length)[ks.length]? = _
  rw [sumsTo_get ks (Nat.le_refl _), List.take_length]
theorem mem_sums_cons {k : Int} {ks : List Int} {z : Int} : z ∈ sums (k :: ks) ↔ z = 0 ∨ ∃ u, u ∈ sums ks ∧ z = k + u := by
  rw [mem_sums]
  constructor
  · rintro ⟨j, hj, rfl⟩
    cases j with
    | zero => exact .inl rfl
    | succ j => exact .inr ⟨(ks.take j).sum, mem_sums.mpr ⟨j, by simpa using hj, rfl⟩, by rw [List.take_succ_cons, List.sum_cons]⟩
  · rintro (rfl | ⟨u, hu, rfl⟩)
    · exact ⟨0, Nat.zero_le _, rfl⟩
    · obtain ⟨j, hj, rfl⟩ := mem_sums.mp hu
      exact ⟨j + 1, by simpa using hj, by rw [List.take_succ_cons, List.sum_cons]⟩
theorem zero_mem_sums (ks : List Int) : (0 : Int) ∈ sums ks := mem_sums.mpr ⟨0, Nat.zero_le _, rfl⟩
theorem mrun_fst' (st : Int × Int) (ks : List Int) : (mrun st ks).1 = st.1 + ks.sum := by
  induction ks generalizing st with
  | nil => simp [mrun]
  | cons k ks ih =>
    show (mrun (mvs st k) ks).1 = _
    rw [ih, List.sum_cons]
    show st.1 + k + ks.sum = _
    omega
/-- r is the least of e and the lengths at the visits -/
def Least (n e : Int) (vs : List Int) (r : Int) : Prop := r ≤ e ∧ (∀ z, z ∈ vs → r ≤ mlen (n + z)) ∧ (r = e ∨ ∃ z, z ∈ vs ∧ r = mlen (n + z))
theorem Least.uniq {n e r t : Int} {vs us : List Int} (a : Least n e vs r) (b : Least n e us t) (h : ∀ k, k ∈ vs ↔ k ∈ us) : r = t := by
  have h1 : r ≤ t := by
    rcases b.2.2 with h' | ⟨z, hz, h'⟩
    · rw [h']; exact a.1
    · rw [h']; exact a.2.1 z ((h z).mpr hz)
  have h2 : t ≤ r := by
    rcases a.2.2 with h' | ⟨z, hz, h'⟩
    · rw [h']; exact b.1
    · rw [h']; exact b.2.1 z ((h z).mp hz)
  omega
theorem mrun_least : ∀ (ks : List Int) (n e : Int), e ≤ mlen n → Least n e (sums ks) (mrun (n, e) ks).2
  | [], n, e, h => ⟨Int.le_refl _, fun z hz => by
      obtain ⟨j, _, rfl⟩ := mem_sums.mp hz
      rw [List.take_nil]
      show e ≤ mlen (n + 0)
      rw [Int.add_zero]; exact h, .inl rfl⟩
  | k :: ks, n, e, h => by
    have ih := mrun_least ks (n + k) (min e (mlen (n + k))) (Int.min_le_right _ _)
    show Least n e (sums (k :: ks)) (mrun (n + k, min e (mlen (n + k))) ks).2
    generalize (mrun (n + k, min e (mlen (n + k))) ks).2 = r at ih
    obtain ⟨a, b, c⟩ := ih
    have a1 : r ≤ e := Int.le_trans a (Int.min_le_left _ _)
    refine ⟨a1, fun z hz => ?_, ?_⟩
    · rcases mem_sums_cons.mp hz with rfl | ⟨u, hu, rfl⟩
      · rw [Int.add_zero]; omega
      · rw [show n + (k + u) = n + k + u by omega]; exact b u hu
    · rcases c with h' | ⟨z, hz, h'⟩
      · by_cases hc : e ≤ mlen (n + k)
        · exact .inl (by omega)
        · exact .inr ⟨k, mem_sums_cons.mpr (.inr ⟨0, zero_mem_sums ks, by omega⟩), by omega⟩
      · exact .inr ⟨k + z, mem_sums_cons.mpr (.inr ⟨z, hz, rfl⟩), by rw [h']; congr 1; omega⟩
theorem steps_take : ∀ (os : List Int) (a : Int) (j : Nat), j ≤ os.length → ((List.zipWith (fun x y => y - x) (a :: os) os).take j).sum = (a :: os).getD j 0 - a
  | _, a, 0, _ => by simp
  | [], a, j + 1, h => by simp at h
  | o :: r, a, j + 1, h => by
    have ih := steps_take r o j (by simpa using h)
    show (((o - a) :: List.zipWith (fun x y => y - x) (o :: r) r).take (j + 1)).sum = (o :: r).getD j 0 - a
    rw [List.take_succ_cons, List.sum_cons, ih]
    omega
theorem steps_len (os : List Int) : (steps os).length = os.length := by unfold steps; rw [List.length_zipWith, List.length_cons]; omega
theorem sums_steps {os : List Int} {z : Int} : z ∈ sums (steps os) ↔ z = 0 ∨ z ∈ os := by
  rw [mem_sums, steps_len]
  have e : ∀ j, j ≤ os.length → ((steps os).take j).sum = ((0 : Int) :: os).getD j 0 := fun j hj => by
    unfold steps
    rw [steps_take os 0 j hj, Int.sub_zero]
  constructor
  · rintro ⟨j, hj, rfl⟩
    rw [e j hj]
    cases j with
    | zero => exact .inl rfl
    | succ j =>
      have hlt : j < os.length := by omega
      refine .inr ?_
      show os.getD j 0 ∈ os
      rw [List.getD_eq_getElem?_getD, List.getElem?_eq_getElem hlt]
      exact List.getElem_mem hlt
  · rintro (rfl | h)
    · exact ⟨0, Nat.zero_le _, rfl⟩
    · obtain ⟨j, hlt, rfl⟩ := List.getElem_of_mem h
      refine ⟨j + 1, by omega, ?_⟩
      rw [e (j + 1) (by omega)]
      show _ = os.getD j 0
      rw [List.getD_eq_getElem?_getD, List.getElem?_eq_getElem hlt]; rfl
theorem steps_sum {os : List Int} {z : Int} (h : os[os.length - 1]? = some z) : (steps os).sum = z := by
  have hlt := (List.getElem?_eq_some_iff.mp h).1
  have e := steps_take os 0 os.length (Nat.le_refl _)
  rw [List.take_of_length_le (by rw [List.length_zipWith]; omega), Int.sub_zero] at e
  show (List.zipWith (fun x y => y - x) (0 :: os) os).sum = z
  rw [e, List.getD_eq_getElem?_getD, show os.length = (os.length - 1) + 1 by omega, List.getElem?_cons_succ, h]; rfl
theorem mrun_same {n e : Int} {ks os : List Int} (h : e ≤ mlen n) (hm : ∀ k, k ∈ os ↔ k ∈ sums ks) (hl : os[os.length - 1]? = some ks.sum) : mrun (n, e) (steps os) = mrun (n, e) ks := by
  refine Prod.ext ?_ ?_
  · rw [mrun_fst', mrun_fst', steps_sum hl]
  · refine (mrun_least _ n e h).uniq (mrun_least _ n e h) fun k => ?_
    rw [sums_steps, hm]
    exact ⟨fun h => h.elim (fun e => e ▸ zero_mem_sums ks) id, .inr⟩
theorem srt_same {ks os : List Int} (hm : ∀ k, k ∈ os ↔ k ∈ sums ks) : srt (sums (steps os)) = srt (sums ks) := srt_eq fun k => by
  rw [sums_steps, hm]
  exact ⟨fun h => h.elim (fun e => e ▸ zero_mem_sums ks) id, .inr⟩
theorem srt_len : ∀ ns : List Int, (srt ns).length ≤ ns.length
  | [] => Nat.le_refl _
  | x :: r => by
    have ih := srt_len r
    have h : ∀ l : List Int, (insI x l).length ≤ l.length + 1 := fun l => by
      induction l with
      | nil => simp [insI]
      | cons y l ih => unfold insI; split <;> (try split) <;> simp <;> omega
    show (insI x (srt r)).length ≤ r.length + 1
    have := h (srt r)
    omega
theorem map_getD (f : Int → Int) (L : List Int) : (List.range L.length).map (fun i => V.int (f (L.getD i 0))) = (L.map f).map V.int := by
  refine List.ext_getElem? fun i => ?_
  rw [List.getElem?_map, List.getElem?_map, List.getElem?_map]
  by_cases h : i < L.length
  · rw [List.getElem?_range h, List.getElem?_eq_getElem h]
    show some (V.int (f (L.getD i 0))) = some (V.int (f L[i]))
    rw [List.getD_eq_getElem?_getD, List.getElem?_eq_getElem h]; rfl
  · rw [List.getElem?_eq_none (by rw [List.length_range]; omega), List.getElem?_eq_none (by omega)]; rfl
theorem fits_ints {ks : List Int} (hk : ∀ k, k ∈ ks → k.natAbs ≤ 10 ^ 100) (hl : ks.length ≤ 400) : Fits (.list (ks.map PyData.int)) := by
  obtain ⟨a, b, c, d, f⟩ := shows_ints ks hk
  refine fits_of ?_ ?_ ?_ ?_ ?_
  · simp only [PyData.hasDict, d]
  · simp only [PyData.showable, a]
  · simp only [PyData.depth, f]; decide
  · simp only [PyData.leavesShort, b]
  · simp only [PyData.weight]; omega
theorem okd_L {n : Nat} {vs : List Int} (h : vs.length ≤ 1000) : okd (n + 1) (.list (vs.map PyData.int)) := ⟨by rw [List.length_map]; omega, okd_ints _ _⟩
theorem okd_LL {vs : List Int} (h : vs.length ≤ 1000) : okd 2 (.list [.list (vs.map PyData.int), .list (vs.map PyData.int)]) := ⟨by simp, fun d hd => by
  simp at hd
  subst hd
  exact okd_L h⟩
theorem min_least {n e r : Int} {vs : List Int} (h1 : r ∈ e :: vs.map fun z => mlen (n + z)) (h2 : ∀ y, y ∈ e :: vs.map (fun z => mlen (n + z)) → r ≤ y) : Least n e vs r := by
  refine ⟨h2 e (List.mem_cons_self ..), fun z hz => h2 _ (List.mem_cons_of_mem _ (List.mem_map.mpr ⟨z, hz, rfl⟩)), ?_⟩
  rcases List.mem_cons.mp h1 with h | h
  · exact .inl h
  · obtain ⟨z, hz, e⟩ := List.mem_map.mp h
    exact .inr ⟨z, hz, e.symm⟩

theorem ok_law (T : Top K mg) : FnG P w K mg base CX0 5 T.f_law T.fd_law ["script"] (spLaw K) := by
  have G_move : FnOk P w K mg base CX0 4 T.f_move T.fd_move ["date", "steps"] (spU (D_move K)) := ok_move T
  have G_visits : FnOk P w K mg base CX0 1 T.f_visits T.fd_visits ["steps"] (spHL (D_visits K)) := ok_visits T
  have G_law_sums : FnOk P w K mg base CX0 1 T.f_law_sums T.fd_law_sums ["jumps"] (spHL (D_sums K)) := ok_law_sums T
  have G_law_again : FnOk P w K mg base CX0 2 T.f_law_again T.fd_law_again ["source", "sums"] spAgain := ok_law_again T
  have G_law_length : FnOk P w K mg base CX0 2 T.f_law_length T.fd_law_length ["number"] (spF D_mlen) := ok_law_length T
  have G_law_source : FnOk P w K mg base CX0 1 T.f_law_source T.fd_law_source ["script"] (spSource K) := ok_law_source T
  have G_law_draw : FnOk P w K mg base CX0 1 T.f_law_draw T.fd_law_draw ["source", "many"] spDraw := ok_law_draw T
  have G_law_date : FnOk P w K mg base CX0 3 T.f_law_date T.fd_law_date ["source"] (spDate Exists_) := ok_law_date T
  have G_law_jumps : FnOk P w K mg base CX0 2 T.f_law_jumps T.fd_law_jumps ["source", "most"] spJumps := ok_law_jumps T
  have G_law_same : FnOk P w K mg base CX0 3 T.f_law_same T.fd_law_same ["found", "wanted"] (spSame K 2) := ok_law_same T 2
  refine okG T.F_law sc_law (fun vs H Q E h => ?_) (fun cdv A outer st H vs Q E hG hr h => ?_)
  · obtain ⟨a, ns, rfl, _⟩ := h; rfl
  · obtain ⟨a, ns, rfl, hS, hlen, q⟩ := h
    refine ⟨_, (pss_cons (ps_set (i := 1) sc_law.nd rfl (Or.inl rfl) (pe_call G_law_source (hr.mono (by first | decide | omega)) (by rfl) T.g_law_source T.F_law_source.kp T.b_law_source .nil pass0 (pa_cons (pv 0) pa_nil)))
      (pss_cons (ps_for PassesOwn.never rfl (pi_range1 (by rfl) T.z_range (pa_cons (pe_op op_add pe_int (pe_callB (call_min2 rfl) (by rfl) T.z_min (by decide +kernel) (pa_cons pe_int (pa_cons (pe_callB (r := rLenS K) call_len_seq (by rfl) T.z_len PySem.boot_len (pa_cons (pv 0) pa_nil)) pa_nil)))) pa_nil)) (pg_name (i := 2) sc_law.nd rfl (Or.inl rfl)) (pss_one (ps_for PassesOwn.never rfl (pi_range1 (by rfl) T.z_range (pa_cons pe_int pa_nil)) (pg_name (i := 3) sc_law.nd rfl (Or.inl rfl)) (pss_cons (ps_par (i := 4) (j := 5) (by rfl) sc_law.nd rfl rfl (by decide) rfl rfl (pa_cons (pe_call G_law_date (hr.mono (by first | decide | omega)) (by rfl) T.g_law_date T.F_law_date.kp T.b_law_date .nil pass0 (pa_cons (pv 1) pa_nil)) (pa_cons (pe_call G_law_jumps (hr.mono (by first | decide | omega)) (by rfl) T.g_law_jumps T.F_law_jumps.kp T.b_law_jumps .nil pass0 (pa_cons (pv 1) (pa_cons (pe_ix (r := rIxL K) ix_list (pe_lst (pa_cons pe_int (pa_cons pe_int pa_nil))) (pe_call G_law_draw (hr.mono (by first | decide | omega)) (by rfl) T.g_law_draw T.F_law_draw.kp T.b_law_draw .nil pass0 (pa_cons (pv 1) (pa_cons pe_int pa_nil))) (fun _ _ => rfl)) pa_nil))) pa_nil)) (by rfl))
      (pss_cons (ps_par (i := 6) (j := 7) (by rfl) sc_law.nd rfl rfl (by decide) rfl rfl (pa_cons (pe_callB (r := rRepr K) (call_repr_data hG hr.units) (by rfl) T.z_repr (by decide +kernel) (pa_cons (pv 5) pa_nil)) (pa_cons (pe_call G_law_sums (hr.mono (by first | decide | omega)) (by rfl) T.g_law_sums T.F_law_sums.kp T.b_law_sums .nil pass0 (pa_cons (pv 5) pa_nil)) pa_nil)) (by rfl))
      (pss_cons (ps_set (i := 8) sc_law.nd rfl (Or.inl rfl) (pe_callB (r := rSortedA w) (cr_sortedA rfl) (by rfl) T.z_sorted (by decide +kernel) (pa_cons (pe_callTy (r := rSetL K w) (cr_setL rfl) (by rfl) T.z_set (by decide +kernel) (pa_cons (pv 7) pa_nil)) pa_nil)))
      (pss_cons (ps_set (i := 9) sc_law.nd rfl (Or.inl rfl) (pe_call G_visits (hr.mono (by first | decide | omega)) (by rfl) T.g_visits T.F_visits.kp T.b_visits .nil pass0 (pa_cons (pv 5) pa_nil)))
      (pss_cons (ps_if (PW.pt (pw_or (pt_not (pt_val (pe_call G_law_same (hr.mono (by first | decide | omega)) (by rfl) T.g_law_same T.F_law_same.kp T.b_law_same .nil pass0 (pa_cons (pe_lst (pa_cons (pv 9) (pa_cons (pe_callN0 G_visits (hr.mono (by first | decide | omega)) (by rfl) T.g_visits T.F_visits.kp (kb_visits_steps T.F_visits) pass0 (pk_cons (pv 5) pk_nil)) pa_nil))) (pa_cons (pe_lst (pa_cons (pv 8) (pa_cons (pv 8) pa_nil))) pa_nil))))) (pw_or1 (pt_cmpR op_ne (pe_callB (r := rRepr K) (call_repr_data hG hr.units) (by rfl) T.z_repr (by decide +kernel) (pa_cons (pv 5) pa_nil)) (pv 6) (nomark _))))) (pss_one (ps_ret pe_bl)) pss_nil)
      (pss_cons (ps_set (i := 10) sc_law.nd rfl (Or.inr rfl) (pe_op op_sub (pe_op op_add (pe_op op_mulW pe_int (pe_ix (r := rIxT K) ix_tup (pv 4) pe_int (fun _ _ => rfl))) (pe_ix (r := rIxT K) ix_tup (pv 4) pe_int (fun _ _ => rfl))) pe_int))
      (pss_cons (ps_set (i := 11) sc_law.nd rfl (Or.inl rfl) (pe_callB (r := rMin K) (cr_min rfl) (by rfl) T.z_min (by decide +kernel) (pa_cons (pe_op op_cat (pe_lst (pa_cons (pe_ix (r := rIxT K) ix_tup (pv 4) pe_int (fun _ _ => rfl)) pa_nil)) (pe_lc (own := [("one", 15)]) (g := gName 15) (tt := tYes) rfl sc_law.nd (pi_list (pv 7)) (blkOk_by (own := [("one", 15)]) (N := ["script", "source", "k", "turn", "begin", "jumps", "saved", "sums", "due", "told", "number", "day", "last", "again", "more", "one"]) (sc := defScope s_law) (by decide +kernel)) (fun _ _ _ _ _ => (pg_name (i := 15) sc_law.nd rfl (Or.inl rfl))) (fun _ _ _ _ _ => pts_nil) (fun _ _ _ _ _ => (pe_call G_law_length (hr.mono (by first | decide | omega)) (by rfl) T.g_law_length T.F_law_length.kp T.b_law_length .nil pass0 (pa_cons (pe_op op_add (pv 10) (pv 15)) pa_nil))))) pa_nil)))
      (pss_cons (ps_set (i := 12) sc_law.nd rfl (Or.inl rfl) (pe_tup (pa_cons (pe_op op_fdivW (pe_op op_add (pv 10) (pe_ix (r := rIxL K) ix_list (pv 7) (pe_un un_neg pe_int) (fun _ _ => rfl))) pe_int) (pa_cons (pe_op op_add (pe_op op_mod (pe_op op_add (pv 10) (pe_ix (r := rIxL K) ix_list (pv 7) (pe_un un_neg pe_int) (fun _ _ => rfl))) pe_int) pe_int) (pa_cons (pv 11) pa_nil)))))
      (pss_cons (ps_set (i := 13) sc_law.nd rfl (Or.inl rfl) (pe_call G_law_again (hr.mono (by first | decide | omega)) (by rfl) T.g_law_again T.F_law_again.kp T.b_law_again .nil pass0 (pa_cons (pv 1) (pa_cons (pv 7) pa_nil))))
      (pss_cons (ps_if (pt_not (pt_val (pe_call G_law_same (hr.mono (by first | decide | omega)) (by rfl) T.g_law_same T.F_law_same.kp T.b_law_same .nil pass0 (pa_cons (pe_lst (pa_cons (pe_call G_move (hr.mono (by first | decide | omega)) (by rfl) T.g_move T.F_move.kp T.b_move .nil pass0 (pa_cons (pv 4) (pa_cons (pv 5) pa_nil))) (pa_cons (pe_call G_move (hr.mono (by first | decide | omega)) (by rfl) T.g_move T.F_move.kp T.b_move .nil pass0 (pa_cons (pv 4) (pa_cons (pv 13) pa_nil))) pa_nil))) (pa_cons (pe_lst (pa_cons (pv 12) (pa_cons (pv 12) pa_nil))) pa_nil))))) (pss_one (ps_ret pe_bl)) pss_nil)
      (pss_cons (ps_set (i := 14) sc_law.nd rfl (Or.inl rfl) (pe_op op_cat (pv 13) (pe_lst (pa_cons (pe_op op_add pe_int (pe_call G_law_draw (hr.mono (by first | decide | omega)) (by rfl) T.g_law_draw T.F_law_draw.kp T.b_law_draw .nil pass0 (pa_cons (pv 1) (pa_cons pe_int pa_nil)))) pa_nil))))
      (pss_cons (ps_if (pt_not (pt_val (pe_call G_law_same (hr.mono (by first | decide | omega)) (by rfl) T.g_law_same T.F_law_same.kp T.b_law_same .nil pass0 (pa_cons (pe_call G_visits (hr.mono (by first | decide | omega)) (by rfl) T.g_visits T.F_visits.kp T.b_visits .nil pass0 (pa_cons (pv 14) pa_nil)) (pa_cons (pe_callB (r := rSortedA w) (cr_sortedA rfl) (by rfl) T.z_sorted (by decide +kernel) (pa_cons (pe_callTy (r := rSetL K w) (cr_setL rfl) (by rfl) T.z_set (by decide +kernel) (pa_cons (pe_call G_law_sums (hr.mono (by first | decide | omega)) (by rfl) T.g_law_sums T.F_law_sums.kp T.b_law_sums .nil pass0 (pa_cons (pv 14) pa_nil)) pa_nil)) pa_nil)) pa_nil))))) (pss_one (ps_ret pe_bl)) pss_nil)
      (pss_cons (ps_if (pt_not (pt_val (pe_call G_law_same (hr.mono (by first | decide | omega)) (by rfl) T.g_law_same T.F_law_same.kp T.b_law_same .nil pass0 (pa_cons (pe_lst (pa_cons (pv 9) (pa_cons (pe_call G_visits (hr.mono (by first | decide | omega)) (by rfl) T.g_visits T.F_visits.kp T.b_visits .nil pass0 (pa_cons (pv 13) pa_nil)) pa_nil))) (pa_cons (pe_lst (pa_cons (pv 8) (pa_cons (pv 8) pa_nil))) pa_nil))))) (pss_one (ps_ret pe_bl)) pss_nil)
      (pss_cons (ps_expr (pe_bm PySem.F.plainAttrs_list PySem.F.slot_list_append PySem.F.type_list_append mt_append (pv 9) (pa_cons pe_int pa_nil)))
      (pss_one (ps_if (pt_not (pt_val (pe_call G_law_same (hr.mono (by first | decide | omega)) (by rfl) T.g_law_same T.F_law_same.kp T.b_law_same .nil pass0 (pa_cons (pe_call G_visits (hr.mono (by first | decide | omega)) (by rfl) T.g_visits T.F_visits.kp T.b_visits .nil pass0 (pa_cons (pv 5) pa_nil)) (pa_cons (pv 8) pa_nil))))) (pss_one (ps_ret pe_bl)) pss_nil)))))))))))))))))))
      (pss_one (ps_ret (pe_and (pe_cmpR (r := rEqD K) (op_eqD hr.units) (pe_call G_visits (hr.mono (by first | decide | omega)) (by rfl) T.g_visits T.F_visits.kp T.b_visits .nil pass0 (pa_cons (pe_lst pa_nil) pa_nil)) (pe_lst (pa_cons pe_int pa_nil)) (nomark _)) (pe_one (pe_cmpR (r := rEqD K) (op_eqD hr.units) (pe_call G_visits (hr.mono (by first | decide | omega)) (by rfl) T.g_visits T.F_visits.kp T.b_visits .nil pass0 (pa_cons (pe_lst (pa_cons pe_int (pa_cons pe_int pa_nil))) pa_nil)) (pe_lst (pa_cons pe_int pa_nil)) (nomark _)))))))), ?_⟩
    walk_at "fw"
    refine ⟨a, ns, rfl, hS, hlen, fun s d H1 ns1 nd1 S1 e1 => ?_⟩
    walk_at "fw"
    refine s_forR1 (n := 3 + (if ((ns.map V.int).length : Int) < 8 then ((ns.map V.int).length : Int) else 8)) (ea_cons (ev_op ev_c (ev_cb (ea_cons ev_c (ea_cons (ev_lenS (ev_var rfl) (.inl (ex_l e1 hS))) ea_nil)) fun H2 _ Q' q' => ⟨_, _, rfl, q' H2 (Ex.refl H2)⟩) rv_I0) ea_nil) ⟨by split <;> omega, by split <;> omega⟩
      (fun i σ H' => ∃ v2 v3 v4 v5 v6 v7 v8 v9 v10 v11 v12 v13 v14 : Option V, σ = [some (.ref a), some (.ref s), v2, v3, v4, v5, v6, v7, v8, v9, v10, v11, v12, v13, v14, none] ∧ Src H' s d (2 ^ 59 - 12000 * i)) (fun H2 e2 => ⟨_, _, _, _, _, _, _, _, _, _, _, _, _, rfl, S1.ex_ e2⟩) (fun i σ H' hi hp => ?_) (fun σ H' hp => ?_)
    · obtain ⟨v2, v3, v4, v5, v6, v7, v8, v9, v10, v11, v12, v13, v14, rfl, S2⟩ := hp
      have hi11 : i < 11 := by split at hi <;> omega
      refine s_forR1 (n := 6) (ea_cons ev_c ea_nil) ⟨by decide, by decide⟩ (fun j σ H' => ∃ v2 v3 v4 v5 v6 v7 v8 v9 v10 v11 v12 v13 v14 : Option V, σ = [some (.ref a), some (.ref s), v2, v3, v4, v5, v6, v7, v8, v9, v10, v11, v12, v13, v14, none] ∧ Src H' s d (2 ^ 59 - 12000 * i - 2000 * j)) (fun H2 e2 => ⟨_, _, _, _, _, _, _, _, _, _, _, _, _, rfl, S2.ex_ e2⟩) (fun j σ H' hj hp => ?_) (fun σ H' hp => ?_)
      · obtain ⟨v2, v3, v4, v5, v6, v7, v8, v9, v10, v11, v12, v13, v14, rfl, S3⟩ := hp
        have S3 : Src H' s d (2 ^ 59 - 12000 * i - 2000 * (j + 1) + 1 + 100 + 1000 + 1 + 12) := S3.less (by omega)
        generalize hB : 2 ^ 59 - 12000 * i - 2000 * (j + 1) = B at S3
        -- begin, jumps
        refine f_seq (f_par ?_)
        walk_at "fw"
        refine ⟨s, d, _, rfl, S3, fun y m e p H4 hE hy np fp S4 k4 h4 => ?_⟩
        walk_at "fw"
        refine f_newL S4 (by simp) fun p5 np5 fp5 S5 e5 h5 => ?_
        walk_at "fw"
        refine f_draw S5 (by decide) (by decide) fun n6 H6 a6 b6 S6 k6 => ?_
        obtain ⟨most, hmost, hat⟩ := at_ints (L := [6, 50]) a6 b6
        refine ⟨p5, _, n6, _, rfl, rfl, sq_of (k6.at fp5 h5), hat, ?_⟩
        have hm : 0 ≤ most ∧ most ≤ 50 := by simp at hmost; omega
        have h6 := k6.at fp (e5 _ _ h4)
        walk_at "fw"
        refine ⟨s, d, B + 1 + 100, most, rfl, hm.1, by omega, S6, fun ks l H7 hkl hkb nl fl S7 k7 h7l => ?_⟩
        have h7 := k7.at fp h6
        clear h4 h5 h6
        walk_at "fw"
        refine f_par2 ?_
        have hkl : ks.length ≤ 50 := by omega
        have hk100 : ∀ k, k ∈ ks → k.natAbs ≤ 10 ^ 100 := fun k hk => Nat.le_trans (hkb k hk) (by decide +kernel)
        have hy100 : y.natAbs ≤ 10 ^ 100 := Nat.le_trans hy (by decide +kernel)
        have hfit : Fits (.list (ks.map PyData.int)) := fits_ints hk100 (by omega)
        have hsl := sums_len ks
        have hrl : (srt (sums ks)).length ≤ 1000 := Nat.le_trans (srt_len _) (by omega)
        have hme : e ≤ mlen (12 * y + m - 1) := by
          obtain ⟨g1, g2, g3, g4⟩ := hE
          unfold mlen
          rw [show (12 * y + m - 1) / 12 = y by omega, show (12 * y + m - 1) % 12 + 1 = m by omega]
          exact g4
        have dv (Hx : Hp) (x : Ex H7 Hx) : D_visits K Hx [.ref l] ((srt (sums ks)).map V.int) := ⟨l, ks, rfl, sq_of (x _ _ h7l), by omega, rfl⟩
        -- saved, sums
        refine f_seq (f_par (f_cons (f_ev (ev_repr (ev_var rfl) (dp_ints (sq_of h7l)) hfit) fun H8 e8 => f_cons (f_evL (el_callH (ea_cons (ev_var rfl) ea_nil) fun H9 e9 => ⟨l, ks, rfl, sq_of (e9 _ _ (e8 _ _ h7l)), by omega, rfl⟩) fun ps H9 nps e9 h9 => f_nil (f_par2 ?_)))))
        have x9 := e8.trans e9
        have fps := (S7.ex_ e8).free nps
        -- due
        refine f_seq (s_asgL (el_sorted (ev_var rfl) (sq_of h9) (by omega)) fun pd H10 npd e10 h10 => ?_)
        have x10 := x9.trans e10
        have fpd := (S7.ex_ x9).free npd
        -- told
        refine f_seq (s_asgL (el_callH (ea_cons (ev_var rfl) ea_nil) fun H11 e11 => dv H11 (x10.trans e11)) fun pt H11 npt e11 h11 => ?_)
        have x11 := x10.trans e11
        have fpt := (S7.ex_ x10).free npt
        have ndt : pd ≠ pt := ne_of_none h10 npt
        have nlt : l ≠ pt := ne_of_none (x10 _ _ h7l) npt
        have h11d := e11 _ _ h10
        have h11s := e11 _ _ (e10 _ _ h9)
        have h11l := x11 _ _ h7l
        have h11p := x11 _ _ h7
        have S11 := S7.ex_ x11
        have dv (Hx : Hp) (x : Ex H11 Hx) : D_visits K Hx [.ref l] ((srt (sums ks)).map V.int) := dv Hx (x11.trans x)
        clear h7 h7l h9 h10 k4 k6 k7 e8 e9 e10 e11 x9 x10 x11
        -- the first comparison
        walk_at "fs"
        refine f_call (f_cons (f_lst (f_cons (f_var rfl (f_cons (f_evL (el_callHN (gV := kg_visits_steps) ea_nil (ea_cons (ev_var rfl) ea_nil) rfl rfl fun H12 e12 => dv H12 e12) fun p12 H12 _ e12 h12 => f_nil ⟨sz1000 (by simp), fun p13 np13 => ?_⟩))))))
        refine f_cons (f_evL (el_lst (ea_cons (ev_var rfl) (ea_cons (ev_var rfl) ea_nil)) (by show 2 ≤ 100000; decide)) fun p14 H14 _ e14 h14 => f_nil ?_)
        have x14 := (e12.trans (Ex.new (o := .lst [V.ref pt, V.ref p12]) np13)).trans e14
        refine ⟨_, _, .list [.list ((srt (sums ks)).map PyData.int), .list ((srt (sums ks)).map PyData.int)], rfl, .lst (sq_of (e14 _ _ upd_same)) (.cons (dp_ints (sq_of (x14 _ _ h11))) (.cons (dp_ints (sq_of (e14 _ _ (Ex.new np13 _ _ h12)))) .nil)), .lst (sq_of h14) (.cons (dp_ints (sq_of (x14 _ _ h11d))) (.cons (dp_ints (sq_of (x14 _ _ h11d))) .nil)), okd_LL hrl, fun H15 e15 => ?_⟩
        walk_at "fs"
        refine f_iteB (fun hb => nomatch hb) (fun _ => ?_)
        have x15 := x14.trans e15
        walk_at "fs"
        refine f_ev (ev_op (ev_repr (ev_var rfl) (dp_ints (sq_of (x15 _ _ h11l))) hfit) (ev_var rfl) rv_neS) fun H16 e16 => ?_
        walk_at "fs"
        refine f_iteB (fun hb => nomatch hb) (fun _ => ?_)
        refine f_next ?_
        have x16 := x15.trans e16
        -- number
        refine f_seq (s_asg (ev_op (ev_op (ev_op ev_c (ev_op (ev_var rfl) ev_c (rv_ixTn (j := 0) (st_of (x16 _ _ h11p)) rfl)) (rv_mul (by decide) hy100)) (ev_op (ev_var rfl) ev_c (rv_ixTn (j := 1) (st_of (x16 _ _ h11p)) rfl)) rv_I0) ev_c rv_I0) fun H17 e17 => ?_)
        have x17 := x16.trans e17
        -- day
        refine f_seq (f_asg (f_cb (f_cons (f_evL (el_cat (el_lst (ea_cons (ev_op (ev_var rfl) ev_c (rv_ixTn (j := 2) (st_of (x17 _ _ h11p)) rfl)) ea_nil) (by show 1 ≤ 100000; decide))
          (el_lcL (fun _ => true) (fun i => .int (mlen (12 * y + m - 1 + (sums ks).getD i 0))) (ev_var rfl) (sq_of (x17 _ _ h11s)) (by rw [List.length_map]; omega) (fun _ => rfl) (fun i x H1 _ _ => et_yes rfl) fun i x H1 ex hx _ => ?_) ?_) fun p18 H18 _ e18 h18 => f_nil ?_))))
        · obtain ⟨z, rfl, hz⟩ := int_of_map2 hx
          refine ev_call (ea_cons (ev_op (ev_var rfl) (ev_var rfl) rv_I0) ea_nil) (sv_F ⟨_, rfl, ?_⟩)
          rw [List.getD_eq_getElem?_getD, hz]; rfl
        · rw [given_all]; simp; omega
        rw [given_all, List.length_map, map_getD fun z => mlen (12 * y + m - 1 + z)] at h18
        refine ⟨p18, e :: (sums ks).map fun z => mlen (12 * y + m - 1 + z), rfl, sq_of h18, by simp, fun r hr1 hr2 => ?_⟩
        have hr0 : r = (mrun (12 * y + m - 1, e) ks).2 := (min_least hr1 hr2).uniq (mrun_least ks _ _ hme) fun _ => Iff.rfl
        subst hr0
        have x18 := x17.trans e18
        refine f_gName ?_
        -- last
        refine f_seq (f_asg (f_evU (eu_tup (ea_cons (ev_op (ev_op (ev_var rfl) (ev_op (ev_var rfl) (ev_un ev_c ru_neg) (rv_ixL (sq_of (x18 _ _ h11s)) (at_m1 (sums_last ks)))) rv_I0) ev_c (rv_div (by decide) (by decide)))
          (ea_cons (ev_op (ev_op (ev_op (ev_var rfl) (ev_op (ev_var rfl) (ev_un ev_c ru_neg) (rv_ixL (sq_of (x18 _ _ h11s)) (at_m1 (sums_last ks)))) rv_I0) ev_c (rv_mod (by decide))) ev_c rv_I0) (ea_cons (ev_var rfl) ea_nil))) (by show 3 ≤ 100000; decide)) fun pL H19 npL e19 hL => f_gName ?_))
        have hLt : H19 pL = some (.tup (tupD (mrun (12 * y + m - 1, e) ks))) := by
          rw [hL]
          unfold tupD
          rw [mrun_fst']
        have fpL := (S11.ex_ x18).free npL
        have x19 := x18.trans e19
        clear hL h18 h12 h14 e12 e14 e15 e16 e17 e18 e19 x14 x15 x16 x17 x18
        -- again
        refine f_seq (f_asg (f_call (f_cons (f_var rfl (f_cons (f_var rfl (f_nil ?_)))))))
        refine ⟨s, d, ps, B + 1, sums ks, ks.sum, rfl, S11.ex_ x19, x19 _ _ h11s, fps, sums_last ks, by omega, fun os pa Ha hol hom hoz npa fpa Sa ka ha => ?_⟩
        have hat := ka.at fpt (x19 _ _ h11)
        have had := ka.at fpd (x19 _ _ h11d)
        have hal := ka.at fl (x19 _ _ h11l)
        have hap := ka.at fp (x19 _ _ h11p)
        have haL := ka.at fpL hLt
        have npta : pt ≠ pa := ne_of_none (x19 _ _ h11) npa
        clear h11 h11d h11l h11p h11s hLt ka dv x19 S11
        have dv (Hx : Hp) (x : Ex Ha Hx) : D_visits K Hx [.ref l] ((srt (sums ks)).map V.int) := ⟨l, ks, rfl, sq_of (x _ _ hal), by omega, rfl⟩
        have da (Hx : Hp) (x : Ex Ha Hx) : D_visits K Hx [.ref pa] ((srt (sums ks)).map V.int) := ⟨pa, steps os, rfl, sq_of (x _ _ ha), by rw [steps_len]; omega, by rw [srt_same hom]⟩
        refine f_gName ?_
        -- move, move
        walk_at "fs"
        refine f_call (f_cons (f_lst (f_cons (f_evU (eu_call (ea_cons (ev_var rfl) (ea_cons (ev_var rfl) ea_nil)) fun H20 e20 => ⟨p, l, y, m, e, ks, rfl, st_of (e20 _ _ hap), hE, sq_of (e20 _ _ hal), rfl, hy100⟩) fun p20 H20 _ e20 h20 => f_cons (f_evU (eu_call (ea_cons (ev_var rfl) (ea_cons (ev_var rfl) ea_nil)) fun H21 e21 => ⟨p, pa, y, m, e, steps os, rfl, st_of (e21 _ _ (e20 _ _ hap)), hE, sq_of (e21 _ _ (e20 _ _ ha)), rfl, hy100⟩) fun p21 H21 _ e21 h21 => f_nil ⟨sz1000 (by simp), fun p22 np22 => ?_⟩)))))
        rw [mrun_same hme hom hoz] at h21
        refine f_cons (f_evL (el_lst (ea_cons (ev_var rfl) (ea_cons (ev_var rfl) ea_nil)) (by show 2 ≤ 100000; decide)) fun p23 H23 _ e23 h23 => f_nil ?_)
        have x22 := Ex.new (o := .lst [V.ref p20, V.ref p21]) np22
        have x23 := ((e20.trans e21).trans x22).trans e23
        generalize hst : mrun (12 * y + m - 1, e) ks = stz at h20 h21 haL
        refine ⟨_, _, .list [.tuple ([stz.1 / 12, stz.1 % 12 + 1, stz.2].map PyData.int), .tuple ([stz.1 / 12, stz.1 % 12 + 1, stz.2].map PyData.int)], rfl, .lst (sq_of (e23 _ _ upd_same)) (.cons (dp_date (xs := [stz.1 / 12, stz.1 % 12 + 1, stz.2]) (st_of (e23 _ _ (x22 _ _ (e21 _ _ h20))))) (.cons (dp_date (xs := [stz.1 / 12, stz.1 % 12 + 1, stz.2]) (st_of (e23 _ _ (x22 _ _ h21)))) .nil)),
          .lst (sq_of h23) (.cons (dp_date (xs := [stz.1 / 12, stz.1 % 12 + 1, stz.2]) (st_of (x23 _ _ haL))) (.cons (dp_date (xs := [stz.1 / 12, stz.1 % 12 + 1, stz.2]) (st_of (x23 _ _ haL))) .nil)), ⟨by simp, fun d hd => ?_⟩, fun H24 e24 => ?_⟩
        · simp at hd; subst hd
          exact ⟨by simp, okd_ints _ [_, _, _]⟩
        walk_at "fs"
        refine f_iteB (fun hb => nomatch hb) (fun _ => ?_)
        refine f_next ?_
        have x24 := x23.trans e24
        -- more
        refine f_seq (f_asg (f_op (f_var rfl ?_)))
        walk_at "fw"
        refine f_draw (Sa.ex_ x24) (by decide) (by decide) fun n25 H25 a25 b25 S25 k25 => ?_
        walk_at "fw"
        have k25' : Kp s d Ha H25 := (Kp.of x24).trans k25
        refine f_newL S25 (by simp) fun p26 np26 fp26 S26 e26 h26 => ?_
        refine f_catL S26 (e26 _ _ (k25'.at fpa ha)) h26 (by rw [List.length_map, steps_len]; simp; omega) fun pm H27 npm fpm S27 e27 h27 => ?_
        have x27 := e26.trans e27
        have k27 := k25'.l x27
        have hmo : (steps os).map V.int ++ [V.int (1 + n25)] = (steps os ++ [1 + n25]).map V.int := by rw [List.map_append]; rfl
        rw [hmo] at h27
        have hml : (steps os ++ [1 + n25]).length ≤ 60 := by rw [List.length_append, steps_len]; simp; omega
        generalize steps os ++ [1 + n25] = ms at h27 hml
        refine f_gName ?_
        walk_at "fs"
        refine f_call (f_cons (f_evL (el_callH (ea_cons (ev_var rfl) ea_nil) fun H28 e28 => ⟨pm, ms, rfl, sq_of (e28 _ _ h27), by omega, rfl⟩) fun p28 H28 _ e28 h28 => f_cons (f_evL (el_sortedL (el_callH (ea_cons (ev_var rfl) ea_nil) fun H29 e29 => ⟨pm, ms, rfl, sq_of (e29 _ _ (e28 _ _ h27)), by omega, rfl⟩) (by have := sums_len ms; omega)) fun p29 H29 _ e29 h29 => f_nil ?_)))
        refine ⟨_, _, .list ((srt (sums ms)).map PyData.int), rfl, dp_ints (sq_of (e29 _ _ h28)), dp_ints (sq_of h29), okd_L (Nat.le_trans (srt_len _) (by have := sums_len ms; omega)), fun H30 e30 => ?_⟩
        walk_at "fs"
        refine f_iteB (fun hb => nomatch hb) (fun _ => ?_)
        refine f_next ?_
        have k30 := k27.l ((e28.trans e29).trans e30)
        have S30 := S27.ex_ ((e28.trans e29).trans e30)
        have h30t := k30.at fpt hat
        have h30d := k30.at fpd had
        have h30l := k30.at fl hal
        have h30a := k30.at fpa ha
        clear hat had hal hap haL ha h27 h28 h29 dv da
        -- told, visits(again)
        walk_at "fs"
        refine f_call (f_cons (f_lst (f_cons (f_var rfl (f_cons (f_evL (el_callH (xs := (srt (sums ks)).map V.int) (ea_cons (ev_var rfl) ea_nil) fun H31 e31 => ⟨pa, steps os, rfl, sq_of (e31 _ _ h30a), by rw [steps_len]; omega, by rw [srt_same hom]⟩) fun p31 H31 _ e31 h31 => f_nil ⟨sz1000 (by simp), fun p32 np32 => ?_⟩))))))
        refine f_cons (f_evL (el_lst (ea_cons (ev_var rfl) (ea_cons (ev_var rfl) ea_nil)) (by show 2 ≤ 100000; decide)) fun p33 H33 _ e33 h33 => f_nil ?_)
        have x33 := (e31.trans (Ex.new (o := .lst [V.ref pt, V.ref p31]) np32)).trans e33
        refine ⟨_, _, .list [.list ((srt (sums ks)).map PyData.int), .list ((srt (sums ks)).map PyData.int)], rfl, .lst (sq_of (e33 _ _ upd_same)) (.cons (dp_ints (sq_of (x33 _ _ h30t))) (.cons (dp_ints (sq_of (e33 _ _ (Ex.new np32 _ _ h31)))) .nil)), .lst (sq_of h33) (.cons (dp_ints (sq_of (x33 _ _ h30d))) (.cons (dp_ints (sq_of (x33 _ _ h30d))) .nil)), okd_LL hrl, fun H34 e34 => ?_⟩
        walk_at "fs"
        refine f_iteB (fun hb => nomatch hb) (fun _ => ?_)
        refine f_next ?_
        have x34 := x33.trans e34
        -- told.append(1)
        refine f_seq (f_drop (f_bm (f_var rfl (f_tyL (x34 _ _ h30t) (f_cons (f_c (f_nil ?_)))))))
        refine ⟨pt, _, _, rfl, rfl, x34 _ _ h30t, sz_lt (by rw [List.length_map]; omega), ?_⟩
        have S35 := (S30.ex_ x34).upd (l := pt) (o := .lst ((srt (sums ks)).map V.int ++ [V.int 1])) fpt
        have h35d : (upd H34 pt (.lst ((srt (sums ks)).map V.int ++ [V.int 1]))) pd = some (.lst ((srt (sums ks)).map V.int)) := by rw [upd_ne ndt]; exact x34 _ _ h30d
        have h35l : (upd H34 pt (.lst ((srt (sums ks)).map V.int ++ [V.int 1]))) l = some (.lst (ks.map V.int)) := by rw [upd_ne nlt]; exact x34 _ _ h30l
        generalize upd H34 pt (.lst ((srt (sums ks)).map V.int ++ [V.int 1])) = H35 at S35 h35d h35l
        walk_at "fs"
        refine f_call (f_cons (f_evL (el_callH (ea_cons (ev_var rfl) ea_nil) fun H36 e36 => ⟨l, ks, rfl, sq_of (e36 _ _ h35l), by omega, rfl⟩) fun p36 H36 _ e36 h36 => f_cons (f_var rfl (f_nil ?_))))
        refine ⟨_, _, .list ((srt (sums ks)).map PyData.int), rfl, dp_ints (sq_of h36), dp_ints (sq_of (e36 _ _ h35d)), okd_L hrl, fun H37 e37 => ?_⟩
        walk_at "fs"
        refine f_iteB (fun hb => nomatch hb) (fun _ => ?_)
        refine f_next ?_
        exact ⟨_, _, _, _, _, _, _, _, _, _, _, _, _, rfl, S35.ex_ (e36.trans e37)⟩
      · obtain ⟨v2, v3, v4, v5, v6, v7, v8, v9, v10, v11, v12, v13, v14, rfl, S3⟩ := hp
        exact ⟨_, _, _, _, _, _, _, _, _, _, _, _, _, rfl, S3.less (by show 2 ^ 59 - 12000 * (i + 1) ≤ 2 ^ 59 - 12000 * i - 2000 * 6; omega)⟩
    · obtain ⟨v2, v3, v4, v5, v6, v7, v8, v9, v10, v11, v12, v13, v14, rfl, S2⟩ := hp
      have z1 : srt (sums []) = [0] := by decide
      have z2 : srt (sums [0, 0]) = [0] := by decide
      have t1 : decide (([0] : List Int) = [0]) = true := by decide
      have rz (Hx : Hp) (a b : Addr) (g1 : Hx a = some (.lst (([0] : List Int).map V.int))) (g2 : Hx b = some (.lst (([0] : List Int).map V.int))) : RV (rEqD K) (.ref a) (.ref b) Hx (.bl true) := rv_eqL (xs := [0]) (ys := [0]) (sq_of g1) (sq_of g2)
      refine s_ret (ev_andV (a := true) (b := true) (ev_opLL (xs := ([0] : List Int).map V.int) (ys := ([0] : List Int).map V.int) (el_callHL (el_lst ea_nil (Nat.zero_le _)) fun p H1 _ hp => ⟨p, [], rfl, sq_of hp, by simp, by rw [z1]⟩)
        (el_lst (ea_cons ev_c ea_nil) (by show 1 ≤ 100000; decide)) fun p r H1 hp hr _ => rz H1 p r hp hr) fun _ =>
        ev_opLL (xs := ([0] : List Int).map V.int) (ys := ([0] : List Int).map V.int) (el_callHL (el_lst (ea_cons ev_c (ea_cons ev_c ea_nil)) (by show 2 ≤ 100000; decide)) fun p H1 _ hp => ⟨p, [0, 0], rfl, sq_of hp, by simp, by rw [z2]⟩)
        (el_lst (ea_cons ev_c ea_nil) (by show 1 ≤ 100000; decide)) fun p r H1 hp hr _ => rz H1 p r hp hr) fun H3 e3 => ?_
      exact q _

end
theorem all_mk {l : PySem.W.OpenLaw} {w : World} {K : PySem.W.Frag} {h : Heap} {mg : Str → Option Value} {fa : Addr} (X : K.In h) (G : h.Ns mainGlobals mg) (hfa : mg "law" = some (.ref fa))
    {od_is_leap an_is_leap : Option Addr} {sl_is_leap : Array (Option Value)} {oc_is_leap kV_is_leap dc_is_leap pm_is_leap cd_is_leap ct_is_leap : Value} {f_is_leap : Addr}
    (a_is_leap : PySem.W.nsIn K mainGlobals "is_leap" = some (some (.ref f_is_leap)))
    (l_is_leap : K.lookup f_is_leap = some ⟨oc_is_leap, od_is_leap, .func (PySem.W.fnOf "is_leap" "is_leap" (defArgs s_is_leap) (defBody s_is_leap) (defScope s_is_leap) .none kV_is_leap dc_is_leap pm_is_leap an_is_leap cd_is_leap ct_is_leap), sl_is_leap⟩)
    (c_is_leap : PySem.W.codeIn K cd_is_leap "is_leap" = true)
    (k_is_leap : PySem.W.keepIn K (.ref f_is_leap) = true)
    {od_days_in an_days_in : Option Addr} {sl_days_in : Array (Option Value)} {oc_days_in kV_days_in dc_days_in pm_days_in cd_days_in ct_days_in : Value} {f_days_in : Addr}
    (a_days_in : PySem.W.nsIn K mainGlobals "days_in" = some (some (.ref f_days_in)))
    (l_days_in : K.lookup f_days_in = some ⟨oc_days_in, od_days_in, .func (PySem.W.fnOf "days_in" "days_in" (defArgs s_days_in) (defBody s_days_in) (defScope s_days_in) .none kV_days_in dc_days_in pm_days_in an_days_in cd_days_in ct_days_in), sl_days_in⟩)
    (c_days_in : PySem.W.codeIn K cd_days_in "days_in" = true)
    (k_days_in : PySem.W.keepIn K (.ref f_days_in) = true)
    {od_check_date an_check_date : Option Addr} {sl_check_date : Array (Option Value)} {oc_check_date kV_check_date dc_check_date pm_check_date cd_check_date ct_check_date : Value} {f_check_date : Addr}
    (a_check_date : PySem.W.nsIn K mainGlobals "check_date" = some (some (.ref f_check_date)))
    (l_check_date : K.lookup f_check_date = some ⟨oc_check_date, od_check_date, .func (PySem.W.fnOf "check_date" "check_date" (defArgs s_check_date) (defBody s_check_date) (defScope s_check_date) .none kV_check_date dc_check_date pm_check_date an_check_date cd_check_date ct_check_date), sl_check_date⟩)
    (c_check_date : PySem.W.codeIn K cd_check_date "check_date" = true)
    (k_check_date : PySem.W.keepIn K (.ref f_check_date) = true)
    {od_move an_move : Option Addr} {sl_move : Array (Option Value)} {oc_move kV_move dc_move pm_move cd_move ct_move : Value} {f_move : Addr}
    (a_move : PySem.W.nsIn K mainGlobals "move" = some (some (.ref f_move)))
    (l_move : K.lookup f_move = some ⟨oc_move, od_move, .func (PySem.W.fnOf "move" "move" (defArgs s_move) (defBody s_move) (defScope s_move) .none kV_move dc_move pm_move an_move cd_move ct_move), sl_move⟩)
    (c_move : PySem.W.codeIn K cd_move "move" = true)
    (k_move : PySem.W.keepIn K (.ref f_move) = true)
    {od_visits an_visits : Option Addr} {sl_visits : Array (Option Value)} {oc_visits kV_visits dc_visits pm_visits cd_visits ct_visits : Value} {f_visits : Addr}
    (a_visits : PySem.W.nsIn K mainGlobals "visits" = some (some (.ref f_visits)))
    (l_visits : K.lookup f_visits = some ⟨oc_visits, od_visits, .func (PySem.W.fnOf "visits" "visits" (defArgs s_visits) (defBody s_visits) (defScope s_visits) .none kV_visits dc_visits pm_visits an_visits cd_visits ct_visits), sl_visits⟩)
    (c_visits : PySem.W.codeIn K cd_visits "visits" = true)
    (k_visits : PySem.W.keepIn K (.ref f_visits) = true)
    {od_law_source an_law_source : Option Addr} {sl_law_source : Array (Option Value)} {oc_law_source kV_law_source dc_law_source pm_law_source cd_law_source ct_law_source : Value} {f_law_source : Addr}
    (a_law_source : PySem.W.nsIn K mainGlobals "_law_source" = some (some (.ref f_law_source)))
    (l_law_source : K.lookup f_law_source = some ⟨oc_law_source, od_law_source, .func (PySem.W.fnOf "_law_source" "_law_source" (defArgs s_law_source) (defBody s_law_source) (defScope s_law_source) .none kV_law_source dc_law_source pm_law_source an_law_source cd_law_source ct_law_source), sl_law_source⟩)
    (c_law_source : PySem.W.codeIn K cd_law_source "_law_source" = true)
    (k_law_source : PySem.W.keepIn K (.ref f_law_source) = true)
    {od_law_draw an_law_draw : Option Addr} {sl_law_draw : Array (Option Value)} {oc_law_draw kV_law_draw dc_law_draw pm_law_draw cd_law_draw ct_law_draw : Value} {f_law_draw : Addr}
    (a_law_draw : PySem.W.nsIn K mainGlobals "_law_draw" = some (some (.ref f_law_draw)))
    (l_law_draw : K.lookup f_law_draw = some ⟨oc_law_draw, od_law_draw, .func (PySem.W.fnOf "_law_draw" "_law_draw" (defArgs s_law_draw) (defBody s_law_draw) (defScope s_law_draw) .none kV_law_draw dc_law_draw pm_law_draw an_law_draw cd_law_draw ct_law_draw), sl_law_draw⟩)
    (c_law_draw : PySem.W.codeIn K cd_law_draw "_law_draw" = true)
    (k_law_draw : PySem.W.keepIn K (.ref f_law_draw) = true)
    {od_law_same an_law_same : Option Addr} {sl_law_same : Array (Option Value)} {oc_law_same kV_law_same dc_law_same pm_law_same cd_law_same ct_law_same : Value} {f_law_same : Addr}
    (a_law_same : PySem.W.nsIn K mainGlobals "_law_same" = some (some (.ref f_law_same)))
    (l_law_same : K.lookup f_law_same = some ⟨oc_law_same, od_law_same, .func (PySem.W.fnOf "_law_same" "_law_same" (defArgs s_law_same) (defBody s_law_same) (defScope s_law_same) .none kV_law_same dc_law_same pm_law_same an_law_same cd_law_same ct_law_same), sl_law_same⟩)
    (c_law_same : PySem.W.codeIn K cd_law_same "_law_same" = true)
    (k_law_same : PySem.W.keepIn K (.ref f_law_same) = true)
    {od_law_leap an_law_leap : Option Addr} {sl_law_leap : Array (Option Value)} {oc_law_leap kV_law_leap dc_law_leap pm_law_leap cd_law_leap ct_law_leap : Value} {f_law_leap : Addr}
    (a_law_leap : PySem.W.nsIn K mainGlobals "_law_leap" = some (some (.ref f_law_leap)))
    (l_law_leap : K.lookup f_law_leap = some ⟨oc_law_leap, od_law_leap, .func (PySem.W.fnOf "_law_leap" "_law_leap" (defArgs s_law_leap) (defBody s_law_leap) (defScope s_law_leap) .none kV_law_leap dc_law_leap pm_law_leap an_law_leap cd_law_leap ct_law_leap), sl_law_leap⟩)
    (c_law_leap : PySem.W.codeIn K cd_law_leap "_law_leap" = true)
    (k_law_leap : PySem.W.keepIn K (.ref f_law_leap) = true)
    {od_law_length an_law_length : Option Addr} {sl_law_length : Array (Option Value)} {oc_law_length kV_law_length dc_law_length pm_law_length cd_law_length ct_law_length : Value} {f_law_length : Addr}
    (a_law_length : PySem.W.nsIn K mainGlobals "_law_length" = some (some (.ref f_law_length)))
    (l_law_length : K.lookup f_law_length = some ⟨oc_law_length, od_law_length, .func (PySem.W.fnOf "_law_length" "_law_length" (defArgs s_law_length) (defBody s_law_length) (defScope s_law_length) .none kV_law_length dc_law_length pm_law_length an_law_length cd_law_length ct_law_length), sl_law_length⟩)
    (c_law_length : PySem.W.codeIn K cd_law_length "_law_length" = true)
    (k_law_length : PySem.W.keepIn K (.ref f_law_length) = true)
    {od_law_count an_law_count : Option Addr} {sl_law_count : Array (Option Value)} {oc_law_count kV_law_count dc_law_count pm_law_count cd_law_count ct_law_count : Value} {f_law_count : Addr}
    (a_law_count : PySem.W.nsIn K mainGlobals "_law_count" = some (some (.ref f_law_count)))
    (l_law_count : K.lookup f_law_count = some ⟨oc_law_count, od_law_count, .func (PySem.W.fnOf "_law_count" "_law_count" (defArgs s_law_count) (defBody s_law_count) (defScope s_law_count) .none kV_law_count dc_law_count pm_law_count an_law_count cd_law_count ct_law_count), sl_law_count⟩)
    (c_law_count : PySem.W.codeIn K cd_law_count "_law_count" = true)
    (k_law_count : PySem.W.keepIn K (.ref f_law_count) = true)
    {od_law_date an_law_date : Option Addr} {sl_law_date : Array (Option Value)} {oc_law_date kV_law_date dc_law_date pm_law_date cd_law_date ct_law_date : Value} {f_law_date : Addr}
    (a_law_date : PySem.W.nsIn K mainGlobals "_law_date" = some (some (.ref f_law_date)))
    (l_law_date : K.lookup f_law_date = some ⟨oc_law_date, od_law_date, .func (PySem.W.fnOf "_law_date" "_law_date" (defArgs s_law_date) (defBody s_law_date) (defScope s_law_date) .none kV_law_date dc_law_date pm_law_date an_law_date cd_law_date ct_law_date), sl_law_date⟩)
    (c_law_date : PySem.W.codeIn K cd_law_date "_law_date" = true)
    (k_law_date : PySem.W.keepIn K (.ref f_law_date) = true)
    {od_law_jumps an_law_jumps : Option Addr} {sl_law_jumps : Array (Option Value)} {oc_law_jumps kV_law_jumps dc_law_jumps pm_law_jumps cd_law_jumps ct_law_jumps : Value} {f_law_jumps : Addr}
    (a_law_jumps : PySem.W.nsIn K mainGlobals "_law_jumps" = some (some (.ref f_law_jumps)))
    (l_law_jumps : K.lookup f_law_jumps = some ⟨oc_law_jumps, od_law_jumps, .func (PySem.W.fnOf "_law_jumps" "_law_jumps" (defArgs s_law_jumps) (defBody s_law_jumps) (defScope s_law_jumps) .none kV_law_jumps dc_law_jumps pm_law_jumps an_law_jumps cd_law_jumps ct_law_jumps), sl_law_jumps⟩)
    (c_law_jumps : PySem.W.codeIn K cd_law_jumps "_law_jumps" = true)
    (k_law_jumps : PySem.W.keepIn K (.ref f_law_jumps) = true)
    {od_law_sums an_law_sums : Option Addr} {sl_law_sums : Array (Option Value)} {oc_law_sums kV_law_sums dc_law_sums pm_law_sums cd_law_sums ct_law_sums : Value} {f_law_sums : Addr}
    (a_law_sums : PySem.W.nsIn K mainGlobals "_law_sums" = some (some (.ref f_law_sums)))
    (l_law_sums : K.lookup f_law_sums = some ⟨oc_law_sums, od_law_sums, .func (PySem.W.fnOf "_law_sums" "_law_sums" (defArgs s_law_sums) (defBody s_law_sums) (defScope s_law_sums) .none kV_law_sums dc_law_sums pm_law_sums an_law_sums cd_law_sums ct_law_sums), sl_law_sums⟩)
    (c_law_sums : PySem.W.codeIn K cd_law_sums "_law_sums" = true)
    (k_law_sums : PySem.W.keepIn K (.ref f_law_sums) = true)
    {od_law_again an_law_again : Option Addr} {sl_law_again : Array (Option Value)} {oc_law_again kV_law_again dc_law_again pm_law_again cd_law_again ct_law_again : Value} {f_law_again : Addr}
    (a_law_again : PySem.W.nsIn K mainGlobals "_law_again" = some (some (.ref f_law_again)))
    (l_law_again : K.lookup f_law_again = some ⟨oc_law_again, od_law_again, .func (PySem.W.fnOf "_law_again" "_law_again" (defArgs s_law_again) (defBody s_law_again) (defScope s_law_again) .none kV_law_again dc_law_again pm_law_again an_law_again cd_law_again ct_law_again), sl_law_again⟩)
    (c_law_again : PySem.W.codeIn K cd_law_again "_law_again" = true)
    (k_law_again : PySem.W.keepIn K (.ref f_law_again) = true)
    {od_law an_law : Option Addr} {sl_law : Array (Option Value)} {oc_law kV_law dc_law pm_law cd_law ct_law : Value} {f_law : Addr}
    (a_law : PySem.W.nsIn K mainGlobals "law" = some (some (.ref f_law)))
    (l_law : K.lookup f_law = some ⟨oc_law, od_law, .func (PySem.W.fnOf "law" "law" (defArgs s_law) (defBody s_law) (defScope s_law) .none kV_law dc_law pm_law an_law cd_law ct_law), sl_law⟩)
    (c_law : PySem.W.codeIn K cd_law "law" = true)
    (k_law : PySem.W.keepIn K (.ref f_law) = true)
    (z_bool : PySem.W.nsIn K mainGlobals "bool" = some none)
    (z_int : PySem.W.nsIn K mainGlobals "int" = some none)
    (z_isinstance : PySem.W.nsIn K mainGlobals "isinstance" = some none)
    (z_len : PySem.W.nsIn K mainGlobals "len" = some none)
    (z_list : PySem.W.nsIn K mainGlobals "list" = some none)
    (z_max : PySem.W.nsIn K mainGlobals "max" = some none)
    (z_min : PySem.W.nsIn K mainGlobals "min" = some none)
    (z_range : PySem.W.nsIn K mainGlobals "range" = some none)
    (z_repr : PySem.W.nsIn K mainGlobals "repr" = some none)
    (z_set : PySem.W.nsIn K mainGlobals "set" = some none)
    (z_sorted : PySem.W.nsIn K mainGlobals "sorted" = some none)
    (z_str : PySem.W.nsIn K mainGlobals "str" = some none)
    (z_tuple : PySem.W.nsIn K mainGlobals "tuple" = some none)
    (z_zip : PySem.W.nsIn K mainGlobals "zip" = some none)
    {ca_DAYS_IN_COMMON_YEAR : Addr} {cd_DAYS_IN_COMMON_YEAR : Option Addr} {cs_DAYS_IN_COMMON_YEAR : Array (Option Value)} {cn_DAYS_IN_COMMON_YEAR : Nat} {ct_DAYS_IN_COMMON_YEAR_0 ct_DAYS_IN_COMMON_YEAR_1 ct_DAYS_IN_COMMON_YEAR_2 ct_DAYS_IN_COMMON_YEAR_3 ct_DAYS_IN_COMMON_YEAR_4 ct_DAYS_IN_COMMON_YEAR_5 ct_DAYS_IN_COMMON_YEAR_6 ct_DAYS_IN_COMMON_YEAR_7 ct_DAYS_IN_COMMON_YEAR_8 ct_DAYS_IN_COMMON_YEAR_9 ct_DAYS_IN_COMMON_YEAR_10 ct_DAYS_IN_COMMON_YEAR_11 : Tok}
    (ga_DAYS_IN_COMMON_YEAR : PySem.W.nsIn K mainGlobals "_DAYS_IN_COMMON_YEAR" = some (some (.ref ca_DAYS_IN_COMMON_YEAR)))
    (gl_DAYS_IN_COMMON_YEAR : K.lookup ca_DAYS_IN_COMMON_YEAR = some ⟨.type "tuple", cd_DAYS_IN_COMMON_YEAR, .seq #[.int 31 ct_DAYS_IN_COMMON_YEAR_0, .int 28 ct_DAYS_IN_COMMON_YEAR_1, .int 31 ct_DAYS_IN_COMMON_YEAR_2, .int 30 ct_DAYS_IN_COMMON_YEAR_3, .int 31 ct_DAYS_IN_COMMON_YEAR_4, .int 30 ct_DAYS_IN_COMMON_YEAR_5, .int 31 ct_DAYS_IN_COMMON_YEAR_6, .int 31 ct_DAYS_IN_COMMON_YEAR_7, .int 30 ct_DAYS_IN_COMMON_YEAR_8, .int 31 ct_DAYS_IN_COMMON_YEAR_9, .int 30 ct_DAYS_IN_COMMON_YEAR_10, .int 31 ct_DAYS_IN_COMMON_YEAR_11] cn_DAYS_IN_COMMON_YEAR, cs_DAYS_IN_COMMON_YEAR⟩) :
    ∃ fd : FuncData, (∀ (s : Shared) (v : Value), BindsTo s fd ⟨[v], []⟩ [("script", v)]) ∧ ∀ base : Heap, K.In base → base.Ns mainGlobals mg → FnG l.prog w K mg base CX0 5 fa fd ["script"] (spLaw K) := by
  have e := hfa.symm.trans (PySem.W.mg_of X G a_law)
  cases e
  have F_is_leap := fun_mk (st := s_is_leap) l_is_leap c_is_leap k_is_leap
  have F_days_in := fun_mk (st := s_days_in) l_days_in c_days_in k_days_in
  have F_check_date := fun_mk (st := s_check_date) l_check_date c_check_date k_check_date
  have F_move := fun_mk (st := s_move) l_move c_move k_move
  have F_visits := fun_mk (st := s_visits) l_visits c_visits k_visits
  have F_law_source := fun_mk (st := s_law_source) l_law_source c_law_source k_law_source
  have F_law_draw := fun_mk (st := s_law_draw) l_law_draw c_law_draw k_law_draw
  have F_law_same := fun_mk (st := s_law_same) l_law_same c_law_same k_law_same
  have F_law_leap := fun_mk (st := s_law_leap) l_law_leap c_law_leap k_law_leap
  have F_law_length := fun_mk (st := s_law_length) l_law_length c_law_length k_law_length
  have F_law_count := fun_mk (st := s_law_count) l_law_count c_law_count k_law_count
  have F_law_date := fun_mk (st := s_law_date) l_law_date c_law_date k_law_date
  have F_law_jumps := fun_mk (st := s_law_jumps) l_law_jumps c_law_jumps k_law_jumps
  have F_law_sums := fun_mk (st := s_law_sums) l_law_sums c_law_sums k_law_sums
  have F_law_again := fun_mk (st := s_law_again) l_law_again c_law_again k_law_again
  have F_law := fun_mk (st := s_law) l_law c_law k_law
  let T : Top K mg := {
    f_is_leap := f_is_leap
    fd_is_leap := _
    F_is_leap := F_is_leap
    g_is_leap := PySem.W.mg_of X G a_is_leap
    b_is_leap := (F_is_leap.binds (ps := ["year"]) fun _ _ _ _ _ _ us hl => match us, hl with | [_], _ => rfl)
    f_days_in := f_days_in
    fd_days_in := _
    F_days_in := F_days_in
    g_days_in := PySem.W.mg_of X G a_days_in
    b_days_in := (F_days_in.binds (ps := ["year", "month"]) fun _ _ _ _ _ _ us hl => match us, hl with | [_, _], _ => rfl)
    f_check_date := f_check_date
    fd_check_date := _
    F_check_date := F_check_date
    g_check_date := PySem.W.mg_of X G a_check_date
    b_check_date := (F_check_date.binds (ps := ["date"]) fun _ _ _ _ _ _ us hl => match us, hl with | [_], _ => rfl)
    f_move := f_move
    fd_move := _
    F_move := F_move
    g_move := PySem.W.mg_of X G a_move
    b_move := (F_move.binds (ps := ["date", "steps"]) fun _ _ _ _ _ _ us hl => match us, hl with | [_, _], _ => rfl)
    f_visits := f_visits
    fd_visits := _
    F_visits := F_visits
    g_visits := PySem.W.mg_of X G a_visits
    b_visits := (F_visits.binds (ps := ["steps"]) fun _ _ _ _ _ _ us hl => match us, hl with | [_], _ => rfl)
    f_law_source := f_law_source
    fd_law_source := _
    F_law_source := F_law_source
    g_law_source := PySem.W.mg_of X G a_law_source
    b_law_source := (F_law_source.binds (ps := ["script"]) fun _ _ _ _ _ _ us hl => match us, hl with | [_], _ => rfl)
    f_law_draw := f_law_draw
    fd_law_draw := _
    F_law_draw := F_law_draw
    g_law_draw := PySem.W.mg_of X G a_law_draw
    b_law_draw := (F_law_draw.binds (ps := ["source", "many"]) fun _ _ _ _ _ _ us hl => match us, hl with | [_, _], _ => rfl)
    f_law_same := f_law_same
    fd_law_same := _
    F_law_same := F_law_same
    g_law_same := PySem.W.mg_of X G a_law_same
    b_law_same := (F_law_same.binds (ps := ["found", "wanted"]) fun _ _ _ _ _ _ us hl => match us, hl with | [_, _], _ => rfl)
    f_law_leap := f_law_leap
    fd_law_leap := _
    F_law_leap := F_law_leap
    g_law_leap := PySem.W.mg_of X G a_law_leap
    b_law_leap := (F_law_leap.binds (ps := ["count"]) fun _ _ _ _ _ _ us hl => match us, hl with | [_], _ => rfl)
    f_law_length := f_law_length
    fd_law_length := _
    F_law_length := F_law_length
    g_law_length := PySem.W.mg_of X G a_law_length
    b_law_length := (F_law_length.binds (ps := ["number"]) fun _ _ _ _ _ _ us hl => match us, hl with | [_], _ => rfl)
    f_law_count := f_law_count
    fd_law_count := _
    F_law_count := F_law_count
    g_law_count := PySem.W.mg_of X G a_law_count
    b_law_count := (F_law_count.binds (ps := ["source"]) fun _ _ _ _ _ _ us hl => match us, hl with | [_], _ => rfl)
    f_law_date := f_law_date
    fd_law_date := _
    F_law_date := F_law_date
    g_law_date := PySem.W.mg_of X G a_law_date
    b_law_date := (F_law_date.binds (ps := ["source"]) fun _ _ _ _ _ _ us hl => match us, hl with | [_], _ => rfl)
    f_law_jumps := f_law_jumps
    fd_law_jumps := _
    F_law_jumps := F_law_jumps
    g_law_jumps := PySem.W.mg_of X G a_law_jumps
    b_law_jumps := (F_law_jumps.binds (ps := ["source", "most"]) fun _ _ _ _ _ _ us hl => match us, hl with | [_, _], _ => rfl)
    f_law_sums := f_law_sums
    fd_law_sums := _
    F_law_sums := F_law_sums
    g_law_sums := PySem.W.mg_of X G a_law_sums
    b_law_sums := (F_law_sums.binds (ps := ["jumps"]) fun _ _ _ _ _ _ us hl => match us, hl with | [_], _ => rfl)
    f_law_again := f_law_again
    fd_law_again := _
    F_law_again := F_law_again
    g_law_again := PySem.W.mg_of X G a_law_again
    b_law_again := (F_law_again.binds (ps := ["source", "sums"]) fun _ _ _ _ _ _ us hl => match us, hl with | [_, _], _ => rfl)
    f_law := fa
    fd_law := _
    F_law := F_law
    g_law := PySem.W.mg_of X G a_law
    b_law := (F_law.binds (ps := ["script"]) fun _ _ _ _ _ _ us hl => match us, hl with | [_], _ => rfl)
    z_bool := PySem.W.mg_none_of X G z_bool
    z_int := PySem.W.mg_none_of X G z_int
    z_isinstance := PySem.W.mg_none_of X G z_isinstance
    z_len := PySem.W.mg_none_of X G z_len
    z_list := PySem.W.mg_none_of X G z_list
    z_max := PySem.W.mg_none_of X G z_max
    z_min := PySem.W.mg_none_of X G z_min
    z_range := PySem.W.mg_none_of X G z_range
    z_repr := PySem.W.mg_none_of X G z_repr
    z_set := PySem.W.mg_none_of X G z_set
    z_sorted := PySem.W.mg_none_of X G z_sorted
    z_str := PySem.W.mg_none_of X G z_str
    z_tuple := PySem.W.mg_none_of X G z_tuple
    z_zip := PySem.W.mg_none_of X G z_zip
    a_DAYS_IN_COMMON_YEAR := ca_DAYS_IN_COMMON_YEAR
    g_DAYS_IN_COMMON_YEAR := PySem.W.mg_of X G ga_DAYS_IN_COMMON_YEAR
    q_DAYS_IN_COMMON_YEAR := fun H => Or.inr ⟨_, _, _, gl_DAYS_IN_COMMON_YEAR, rfl, rfl, (by show 12 ≤ sizeLine; decide), .cons ⟨_, rfl⟩ (.cons ⟨_, rfl⟩ (.cons ⟨_, rfl⟩ (.cons ⟨_, rfl⟩ (.cons ⟨_, rfl⟩ (.cons ⟨_, rfl⟩ (.cons ⟨_, rfl⟩ (.cons ⟨_, rfl⟩ (.cons ⟨_, rfl⟩ (.cons ⟨_, rfl⟩ (.cons ⟨_, rfl⟩ (.cons ⟨_, rfl⟩ .nil)))))))))))⟩ }
  exact ⟨_, fun s v => .of_eq rfl, fun base _ _ => ok_law T⟩
end Mk

open PySem PySem.W PyProof.Rows
set_option maxRecDepth 100000 in
set_option maxHeartbeats 0 in
theorem PySem.Challenge.cw_monthclamp_k05_whole_visits_decide_the_d_holds : PySem.Challenge.rw_monthclamp_k05_whole_visits_decide_the_d.Holds := by
  w_on; o_law; k_head; (case hw => w_witness2)
  k_fill
  refine Mc.walk_ofG (l := PySem.Challenge.rw_monthclamp_k05_whole_visits_decide_the_d) (n := 63) (k := 5) (x := "script") (sp := fun w => Mk.spLaw _) rfl (by decide) rfl ⟨rfl, by decide, by decide⟩ (fun w h Y => PySem.W.kIn_of Y) ?F (fun _ _ a ns hl _ hS => ⟨a, ns, rfl, hS, hl, fun _ => rfl⟩)
  case F =>
    intro w mg fa h KX G hmg
    refine' Mk.all_mk KX G hmg ?a_is_leap ?l_is_leap ?c_is_leap ?k_is_leap ?a_days_in ?l_days_in ?c_days_in ?k_days_in ?a_check_date ?l_check_date ?c_check_date ?k_check_date ?a_move ?l_move ?c_move ?k_move ?a_visits ?l_visits ?c_visits ?k_visits ?a_law_source ?l_law_source ?c_law_source ?k_law_source ?a_law_draw ?l_law_draw ?c_law_draw ?k_law_draw ?a_law_same ?l_law_same ?c_law_same ?k_law_same ?a_law_leap ?l_law_leap ?c_law_leap ?k_law_leap ?a_law_length ?l_law_length ?c_law_length ?k_law_length ?a_law_count ?l_law_count ?c_law_count ?k_law_count ?a_law_date ?l_law_date ?c_law_date ?k_law_date ?a_law_jumps ?l_law_jumps ?c_law_jumps ?k_law_jumps ?a_law_sums ?l_law_sums ?c_law_sums ?k_law_sums ?a_law_again ?l_law_again ?c_law_again ?k_law_again ?a_law ?l_law ?c_law ?k_law ?z_bool ?z_int ?z_isinstance ?z_len ?z_list ?z_max ?z_min ?z_range ?z_repr ?z_set ?z_sorted ?z_str ?z_tuple ?z_zip ?ga_DAYS_IN_COMMON_YEAR ?gl_DAYS_IN_COMMON_YEAR
    (case a_is_leap => k_is)
    (case l_is_leap => k_is)
    (case c_is_leap => k_is)
    (case k_is_leap => k_is)
    (case a_days_in => k_is)
    (case l_days_in => k_is)
    (case c_days_in => k_is)
    (case k_days_in => k_is)
    (case a_check_date => k_is)
    (case l_check_date => k_is)
    (case c_check_date => k_is)
    (case k_check_date => k_is)
    (case a_move => k_is)
    (case l_move => k_is)
    (case c_move => k_is)
    (case k_move => k_is)
    (case a_visits => k_is)
    (case l_visits => k_is)
    (case c_visits => k_is)
    (case k_visits => k_is)
    (case a_law_source => k_is)
    (case l_law_source => k_is)
    (case c_law_source => k_is)
    (case k_law_source => k_is)
    (case a_law_draw => k_is)
    (case l_law_draw => k_is)
    (case c_law_draw => k_is)
    (case k_law_draw => k_is)
    (case a_law_same => k_is)
    (case l_law_same => k_is)
    (case c_law_same => k_is)
    (case k_law_same => k_is)
    (case a_law_leap => k_is)
    (case l_law_leap => k_is)
    (case c_law_leap => k_is)
    (case k_law_leap => k_is)
    (case a_law_length => k_is)
    (case l_law_length => k_is)
    (case c_law_length => k_is)
    (case k_law_length => k_is)
    (case a_law_count => k_is)
    (case l_law_count => k_is)
    (case c_law_count => k_is)
    (case k_law_count => k_is)
    (case a_law_date => k_is)
    (case l_law_date => k_is)
    (case c_law_date => k_is)
    (case k_law_date => k_is)
    (case a_law_jumps => k_is)
    (case l_law_jumps => k_is)
    (case c_law_jumps => k_is)
    (case k_law_jumps => k_is)
    (case a_law_sums => k_is)
    (case l_law_sums => k_is)
    (case c_law_sums => k_is)
    (case k_law_sums => k_is)
    (case a_law_again => k_is)
    (case l_law_again => k_is)
    (case c_law_again => k_is)
    (case k_law_again => k_is)
    (case a_law => k_is)
    (case l_law => k_is)
    (case c_law => k_is)
    (case k_law => k_is)
    (case z_bool => k_is)
    (case z_int => k_is)
    (case z_isinstance => k_is)
    (case z_len => k_is)
    (case z_list => k_is)
    (case z_max => k_is)
    (case z_min => k_is)
    (case z_range => k_is)
    (case z_repr => k_is)
    (case z_set => k_is)
    (case z_sorted => k_is)
    (case z_str => k_is)
    (case z_tuple => k_is)
    (case z_zip => k_is)
    (case ga_DAYS_IN_COMMON_YEAR => k_is)
    (case gl_DAYS_IN_COMMON_YEAR => k_is)
#print axioms PySem.Challenge.cw_monthclamp_k05_whole_visits_decide_the_d_holds
