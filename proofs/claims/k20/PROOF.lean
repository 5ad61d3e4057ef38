import PyProof.Rows.All
import Wide.All
import OpenK.AllK
import Wide.FinOn
import HandS.ForMost
import HandS.Wide
import HandS.IsInst
import HandS.Evl
import HandS.Defaults
import HandS.More
import HandS.Style
import HandS.Strs
import HandS.SetFor
import HandS.Zip
import PyProof.Rows.SortShellAny
import HandS.SetKeys
import HandS.Walk
import HandS.SetBool
import HandS.Dict
import PySem.Challenge.RW_monthclamp_k20_whole_very_many_renewals
set_option Elab.async false
set_option linter.all false
set_option maxRecDepth 100000
set_option maxHeartbeats 4000000
namespace Mc
open PySem L2

/-! ### forward rules: one for each head of a reading -/
section
variable {K : PySem.W.Frag} {σ : L2.St} {H : Hp} {Q : VK} {ta tb te tc : TE} {t u c : TT} {t1 t2 : TS} {D : Ends} {i : Nat} {v x y : V} {r : R2}
theorem f_var (h : σ[i]? = some (some v)) (q : Q v H) : tVar i σ H Q := ⟨v, h, q⟩
theorem f_c (q : Q v H) : tC v σ H Q := q
theorem f_op (h : ta σ H fun x H1 => tb σ H1 fun y H2 => r x y H2 Q) : tOp r ta tb σ H Q := h
theorem f_un {r : V → Hp → VK → Prop} (h : ta σ H fun x H1 => r x H1 Q) : tUn r ta σ H Q := h
theorem f_I0 {g : Int → Int → V} {a b : Int} (q : Q (g a b) H) : rI0 g (.int a) (.int b) H Q := ⟨a, b, rfl, rfl, q⟩
theorem f_I {C : Int → Int → Prop} {g : Int → Int → V} {a b : Int} (hc : C a b) (q : Q (g a b) H) : rI C g (.int a) (.int b) H Q := ⟨a, b, rfl, rfl, hc, q⟩
theorem f_U {g : Int → V} {a : Int} (q : Q (g a) H) : rU g (.int a) H Q := ⟨a, rfl, q⟩
theorem dec_int (a b : Int) : decide (V.int a = V.int b) = decide (a = b) := by
  by_cases h : a = b
  · subst h; simp
  · rw [decide_eq_false h, decide_eq_false (fun e => h (V.int.inj e))]
theorem f_eqI {a b : Int} (q : Q (.bl (decide (a = b))) H) : rEq (.int a) (.int b) H Q := ⟨rfl, by rw [dec_int]; exact q⟩
theorem f_neI {a b : Int} (q : Q (.bl (!decide (a = b))) H) : rNe (.int a) (.int b) H Q := ⟨rfl, by rw [dec_int]; exact q⟩
theorem dec_bl (a b : Bool) : decide (V.bl a = V.bl b) = (a == b) := by cases a <;> cases b <;> decide
theorem f_eqB {a b : Bool} (q : Q (.bl (a == b)) H) : rEq (.bl a) (.bl b) H Q := ⟨rfl, by rw [dec_bl]; exact q⟩
theorem f_neB {a b : Bool} (q : Q (.bl (!(a == b))) H) : rNe (.bl a) (.bl b) H Q := ⟨rfl, by rw [dec_bl]; exact q⟩
theorem f_test {Q : Bool → Hp → Prop} (h : te σ H fun x H' => ∃ k, x = .bl k ∧ Q k H') : tTest te σ H Q := h
theorem f_B {Q : Bool → Hp → Prop} (h : te σ H fun x H' => ∃ k, x = .bl k ∧ Q k H') : tB te σ H Q := h
theorem f_bl {b : Bool} {R : Bool → Prop} (q : R b) : ∃ k, V.bl b = V.bl k ∧ R k := ⟨b, rfl, q⟩
theorem f_and {Q : Bool → Hp → Prop} (h : t σ H fun c H1 => if c = true then u σ H1 Q else Q false H1) : tAnd t u σ H Q := h
theorem f_or {Q : Bool → Hp → Prop} (h : t σ H fun c H1 => if c = true then Q true H1 else u σ H1 Q) : tOr t u σ H Q := h
theorem f_not {Q : Bool → Hp → Prop} (h : t σ H fun c H1 => Q (!c) H1) : tNot t σ H Q := h
theorem f_seq (h : t1 { D with nx := t2 D } σ H) : tSeq t1 t2 D σ H := h
theorem f_next (q : D.nx σ H) : tNext D σ H := q
theorem f_asg {g : TG} (h : te σ H fun x H1 => g x σ H1 D.nx) : tAsg te g D σ H := h
theorem f_gName {R : L2.St → Hp → Prop} (q : R (σ.set i (some v)) H) : gName i v σ H R := q
theorem f_ret (h : te σ H D.rt) : tRet te D σ H := h
theorem f_drop (h : te σ H fun _ H1 => D.nx σ H1) : tDrop te D σ H := h
theorem f_ifS (h : c σ H fun b H1 => if b = true then t1 D σ H1 else t2 D σ H1) : tIfS c t1 t2 D σ H := h
theorem f_if (h : c σ H fun b H1 => if b = true then ta σ H1 Q else tb σ H1 Q) : tIf c ta tb σ H Q := h
theorem f_ite {p : Prop} [Decidable p] {A B : Prop} (h1 : p → A) (h2 : ¬ p → B) : if decide p = true then A else B := by
  by_cases h : p
  · rw [if_pos (decide_eq_true h)]; exact h1 h
  · rw [if_neg (by rw [decide_eq_false h]; decide)]; exact h2 h
theorem f_iteB {b : Bool} {A B : Prop} (h1 : b = true → A) (h2 : b = false → B) : if b = true then A else B := by
  cases b with
  | true => rw [if_pos rfl]; exact h1 rfl
  | false => rw [if_neg Bool.false_ne_true]; exact h2 rfl
theorem f_call {sp : Sp} {dvs : List V} {E : XK} {ta : TA} (h : ta σ H fun vs H1 => sp (vs ++ dvs) H1 Q E) : tCall sp dvs E ta σ H Q := h
theorem f_nil {Q : List V → Hp → Prop} (q : Q [] H) : tNil σ H Q := q
theorem f_cons {tr : TA} {Q : List V → Hp → Prop} (h : ta σ H fun x H1 => tr σ H1 fun xs H2 => Q (x :: xs) H2) : tCons ta tr σ H Q := h
theorem f_tup {ta : TA} (h : ta σ H fun xs H1 => xs.length ≤ sizeLine ∧ ∀ p, H1 p = none → Q (.ref p) (upd H1 p (.tup xs))) : tTup ta σ H Q := h
theorem f_lst {ta : TA} (h : ta σ H fun xs H1 => xs.length ≤ sizeLine ∧ ∀ p, H1 p = none → Q (.ref p) (upd H1 p (.lst xs))) : tLst ta σ H Q := h
theorem f_cb {r : List V → Hp → VK → Prop} {ta : TA} (h : ta σ H fun vs H1 => r vs H1 Q) : tCB r ta σ H Q := h
end

/-! ### pure defs -/
open Evl
/-- a def that gives z of vs by D and leaves all as it was -/
def spF (D : List V → V → Prop) : Sp := fun vs H Q _ => ∃ z, D vs z ∧ ∀ H', Ex H H' → Q z H'
theorem f_spF {D : List V → V → Prop} {vs : List V} {H : Hp} {Q : VK} {E : XK} (z : V) (h : D vs z) (q : ∀ H', Ex H H' → Q z H') : spF D vs H Q E := ⟨z, h, q⟩
theorem sv_F {D : List V → V → Prop} {vs : List V} {H : Hp} {z : V} (h : D vs z) : SpV (spF D) (vs ++ []) H z := fun H1 e Q q E => ⟨z, by rw [List.append_nil]; exact h, q⟩
theorem rv_eqI {H : Hp} {i j : Int} : RV rEq (.int i) (.int j) H (.bl (decide (i = j))) := fun H1 _ _ q => ⟨rfl, by rw [dec_int]; exact q H1 (Ex.refl H1)⟩
theorem rv_neI {H : Hp} {i j : Int} : RV rNe (.int i) (.int j) H (.bl (!decide (i = j))) := fun H1 _ _ q => ⟨rfl, by rw [dec_int]; exact q H1 (Ex.refl H1)⟩
theorem rv_eqB {H : Hp} {i j : Bool} : RV rEq (.bl i) (.bl j) H (.bl (i == j)) := fun H1 _ _ q => ⟨rfl, by rw [dec_bl]; exact q H1 (Ex.refl H1)⟩
theorem rv_neB {H : Hp} {i j : Bool} : RV rNe (.bl i) (.bl j) H (.bl (!(i == j))) := fun H1 _ _ q => ⟨rfl, by rw [dec_bl]; exact q H1 (Ex.refl H1)⟩
theorem rv_mod {H : Hp} {i j : Int} (h : 0 < j) : RV (rI (fun _ j => 0 < j) fun i j => .int (i % j)) (.int i) (.int j) H (.int (i % j)) := rv_I (C := fun _ j => 0 < j) h
def b2 (b : Bool) : Int := if b then 1 else 0
theorem ev_intB {te : TE} {σ : L2.St} {H : Hp} {b : Bool} (h : Ev te σ H (.bl b)) : Ev (tCB (fun xs H Q => (∃ i, xs = [.int i] ∧ Q (.int i) H) ∨ ∃ k, xs = [.bl k] ∧ Q (.int (if k then 1 else 0)) H) (tCons te tNil)) σ H (.int (b2 b)) :=
  fun H1 e Q q => h H1 e _ fun H2 e2 => Or.inr ⟨b, rfl, q H2 e2⟩
/-- f(k = v, ..): keywords alone -/
theorem pe_callN0 {X : Cx} {CX : CXT} {k : Nat} {f : Addr} {fd : FuncData} {ps ks : List Str} {sp : Sp} {x : Str} {p pos : Pos} {kws : List Keyword} {tk : TA} {E : XK} {g : List Value → List Value → List Value} {gV : List V → List V → List V}
    (F : FnOk X.prog X.w X.K X.mg X.base CX k f fd ps sp) (hr : Room k X.A) (hg : Gl X x) (hm : X.mg x = some (.ref f)) (kp : PySem.W.keepIn X.K (.ref f) = true) (hb : KBn X.K fd ps 0 ks g gV) (hx : Passes CX X E)
    (hkw : PK X kws tk) (hsome : (backToKw pos (keywordEach kws X.env)).all (·.1.isSome) = true := by rfl) (hnames : (backToKw pos (keywordEach kws X.env)).filterMap (·.1) = ks := by rfl)
    (hdeb : (x == ("__debug__" : Str)) = false := by decide)
    (hplain : ((backTo pos (starEach [] X.env)).any (·.1) || (backToKw pos (keywordEach kws X.env)).any (·.1.isNone)) = false := by rfl) :
    PE X (.Call (.Name x p) [] kws pos) (tCallN 0 ks.length sp gV E tNil tk) := by
  refine ⟨fun pins s σ H Q I h => wpAny_Call_Name_kw (ld_glob I hg hm ?_ hdeb)⟩
  refine PySem.W.callWith_KW0 (h₀ := X.base) I.ok.mod.kin kp hsome (thn (hkw.run pos pins s σ H _ I h) fun us s1 ⟨vs, H1, I1, r, l1, l2, q⟩ => ⟨I1.kIn, ?_⟩) hplain
  rw [hnames]
  exact run_fnN (us := []) F hr hb hx I1 .nil r l1 l2 q
theorem vals_rev : ∀ {xs : List V} {us : List Value}, Vals xs us → Vals xs.reverse us.reverse
  | _, _, .nil => .nil
  | _, _, .cons r t => by
    rw [List.reverse_cons, List.reverse_cons]
    exact (vals_rev t).append (.cons r .nil)

/-! ### == of data -/
theorem eqv_ints (xs ys : List Int) : PyData.eqvAll (xs.map PyData.int) (ys.map PyData.int) = decide (xs = ys) := by
  induction xs generalizing ys with
  | nil => cases ys <;> simp [PyData.eqvAll]
  | cons x xs ih =>
    cases ys with
    | nil => simp [PyData.eqvAll]
    | cons y ys =>
      simp only [List.map_cons, PyData.eqvAll, ih, PyData.eqv, List.cons.injEq]
      by_cases h : x = y <;> by_cases g : xs = ys <;> simp [h, g]
theorem dpa_ints {K : PySem.W.Frag} {H : Hp} : ∀ ns : List Int, DpAll K H (ns.map V.int) (ns.map PyData.int)
  | [] => .nil
  | n :: ns => .cons (.int n) (dpa_ints ns)
theorem dp_ints {K : PySem.W.Frag} {H : Hp} {a : Addr} {ns : List Int} (h : SqL K H a (ns.map V.int)) : Dp K H (.ref a) (.list (ns.map PyData.int)) := .lst h (dpa_ints ns)
/-- two lists of ints compared -/
theorem rv_eqL {K : PySem.W.Frag} {H : Hp} {a b : Addr} {xs ys : List Int} (ha : SqL K H a (xs.map V.int)) (hb : SqL K H b (ys.map V.int)) : RV (rEqD K) (.ref a) (.ref b) H (.bl (decide (xs = ys))) := fun H1 e Q q =>
  ⟨_, _, dp_ints (ex_l e ha), dp_ints (ex_l e hb), PySem.W.ke_shaped_ints xs, PySem.W.ke_shaped_ints ys, by
    show Q (.bl (PyData.eqvAll (xs.map PyData.int) (ys.map PyData.int))) H1
    rw [eqv_ints]; exact q H1 (Ex.refl H1)⟩
theorem rv_neL {K : PySem.W.Frag} {H : Hp} {a b : Addr} {xs ys : List Int} (ha : SqL K H a (xs.map V.int)) (hb : SqL K H b (ys.map V.int)) : RV (rNeD K) (.ref a) (.ref b) H (.bl (!decide (xs = ys))) := fun H1 e Q q =>
  ⟨_, _, dp_ints (ex_l e ha), dp_ints (ex_l e hb), PySem.W.ke_shaped_ints xs, PySem.W.ke_shaped_ints ys, by
    show Q (.bl (!PyData.eqvAll (xs.map PyData.int) (ys.map PyData.int))) H1
    rw [eqv_ints]; exact q H1 (Ex.refl H1)⟩
theorem ev_neL {K : PySem.W.Frag} {σ : L2.St} {H : Hp} {ta tb : TE} {a : Addr} {xs ys : List Int} (ha : Ev ta σ H (.ref a)) (hx : SqL K H a (xs.map V.int)) (hb : EvL tb σ H (ys.map V.int)) : Ev (tOp (rNeD K) ta tb) σ H (.bl (!decide (xs = ys))) :=
  ev_opL ha hb fun _ _ h e => rv_neL (ex_l e hx) (sq_of h)
theorem ev_eqL {K : PySem.W.Frag} {σ : L2.St} {H : Hp} {ta tb : TE} {a : Addr} {xs ys : List Int} (ha : Ev ta σ H (.ref a)) (hx : SqL K H a (xs.map V.int)) (hb : EvL tb σ H (ys.map V.int)) : Ev (tOp (rEqD K) ta tb) σ H (.bl (decide (xs = ys))) :=
  ev_opL ha hb fun _ _ h e => rv_eqL (ex_l e hx) (sq_of h)

/-! ### the source of draws: [digits, held, mix, turn] at s, digits at d; B draws may still come -/
structure Src (H : Hp) (s d : Addr) (B : Nat) : Prop where
  ex : ∃ (ds : List Int) (a m c : Int), H s = some (.lst [.ref d, .int a, .int m, .int c]) ∧ H d = some (.lst (ds.map V.int)) ∧ ds.length ≤ 63 ∧ 0 ≤ m ∧ m < 2 ^ 61 ∧ 0 ≤ c ∧ c + B ≤ 2 ^ 60
theorem Src.ne {H : Hp} {s d : Addr} {B : Nat} (S : Src H s d B) : s ≠ d := fun e => by
  obtain ⟨ds, a, m, c, h1, h2, _⟩ := S.ex
  rw [e, h2] at h1
  cases ds with
  | nil => simp at h1
  | cons x r => simp at h1
theorem Src.less {H : Hp} {s d : Addr} {B B' : Nat} (S : Src H s d B) (h : B' ≤ B) : Src H s d B' := by
  obtain ⟨ds, a, m, c, h1, h2, h3, h4, h5, h6, h7⟩ := S.ex
  exact ⟨ds, a, m, c, h1, h2, h3, h4, h5, h6, by omega⟩
theorem Src.ex_ {H H' : Hp} {s d : Addr} {B : Nat} (S : Src H s d B) (e : Ex H H') : Src H' s d B := by
  obtain ⟨ds, a, m, c, h1, h2, h⟩ := S.ex
  exact ⟨ds, a, m, c, e _ _ h1, e _ _ h2, h⟩
theorem Src.free {H : Hp} {s d : Addr} {B : Nat} (S : Src H s d B) {p : Addr} (h : H p = none) : p ≠ s ∧ p ≠ d := by
  obtain ⟨ds, a, m, c, h1, h2, _⟩ := S.ex
  exact ⟨(ne_of_none h1 h).symm, (ne_of_none h2 h).symm⟩
/-- all but the source is kept -/
def Kp (s d : Addr) (H H' : Hp) : Prop := ∀ b o, b ≠ s → b ≠ d → H b = some o → H' b = some o
theorem Kp.refl {s d : Addr} {H : Hp} : Kp s d H H := fun _ _ _ _ h => h
theorem Kp.trans {s d : Addr} {H H1 H2 : Hp} (a : Kp s d H H1) (b : Kp s d H1 H2) : Kp s d H H2 := fun c o h1 h2 h => b c o h1 h2 (a c o h1 h2 h)
theorem Kp.of {s d : Addr} {H H' : Hp} (e : Ex H H') : Kp s d H H' := fun c o _ _ h => e c o h
theorem Kp.l {s d : Addr} {H H1 H2 : Hp} (a : Kp s d H H1) (b : Ex H1 H2) : Kp s d H H2 := a.trans (.of b)
def spDraw : Sp := fun vs H Q _ => ∃ (s d : Addr) (many : Int) (B : Nat), vs = [.ref s, .int many] ∧ 0 < many ∧ many ≤ 10 ^ 60 ∧ Src H s d (B + 1) ∧ ∀ n H', 0 ≤ n → n < many → Src H' s d B → Kp s d H H' → Q (.int n) H'
def spSource (K : PySem.W.Frag) : Sp := fun vs H Q _ => ∃ (a : Addr) (ns : List Int), vs = [.ref a] ∧ SqL K H a (ns.map V.int) ∧ ns.length ≤ 63 ∧ ∀ s d H', H s = none → H d = none → Src H' s d (2 ^ 59) → Ex H H' → Q (.ref s) H'
theorem sz1000 {n : Nat} (h : n ≤ 1000) : n ≤ sizeLine := Nat.le_trans h (by decide)
theorem f_draw {H : Hp} {s d : Addr} {B : Nat} {many : Int} {Q : VK} {E : XK} (S : Src H s d (B + 1)) (h0 : 0 < many) (hb : many ≤ 10 ^ 60) (q : ∀ n H', 0 ≤ n → n < many → Src H' s d B → Kp s d H H' → Q (.int n) H') :
    spDraw ([.ref s, .int many] ++ []) H Q E := ⟨s, d, many, B, rfl, h0, hb, S, q⟩
theorem at_ints {L : List Int} {n : Int} (h0 : 0 ≤ n) (h1 : n < L.length) : ∃ z, z ∈ L ∧ atI (L.map V.int) n = some (.int z) := by
  obtain ⟨j, rfl⟩ : ∃ j : Nat, n = (j : Int) := ⟨n.toNat, by omega⟩
  have hj : j < L.length := by omega
  exact ⟨L[j], List.getElem_mem hj, atI_nat (by rw [List.getElem?_map, List.getElem?_eq_getElem hj]; rfl)⟩
theorem Kp.at {s d p : Addr} {H H' : Hp} {o : HO} (k : Kp s d H H') (f : p ≠ s ∧ p ≠ d) (h : H p = some o) : H' p = some o := k p o f.1 f.2 h
theorem upd_old {H : Hp} {p q : Addr} {o u : HO} (h : H p = some o) (n : H q = none) : upd H q u p = some o := by
  rw [upd_ne (ne_of_none h n)]; exact h
def spCount : Sp := fun vs H Q _ => ∃ (s d : Addr) (B : Nat), vs = [.ref s] ∧ Src H s d (B + 7) ∧ ∀ y H', y.natAbs ≤ 10 ^ 31 → Src H' s d B → Kp s d H H' → Q (.int y) H'

/-! ### data: what _law_same compares -/
def tyN : PyData → String
  | .none => "NoneType" | .bool _ => "bool" | .int _ => "int" | .str _ => "str" | .list _ => "list" | .tuple _ => "tuple" | .dict _ => "dict"
theorem ty_dp {K : PySem.W.Frag} {H : Hp} {x : V} {d : PyData} (h : Dp K H x d) : TyX K H x (.type (tyN d)) := by
  cases h with
  | non => exact .base .non
  | bl b => exact .base (.bl b)
  | int i => exact .base (.int i)
  | str x => exact .base (.str x)
  | lst h _ =>
    rcases h with (h | ⟨o, h⟩) | ⟨o, its, n, h, c, _⟩
    · exact .base (.lst h)
    · exact .base (.frz h)
    · exact .kList h c
  | tup h _ =>
    rcases h with (h | ⟨o, h⟩) | ⟨o, its, n, h, c, _⟩
    · exact .base (.tup h)
    · exact .fTuple h
    · exact .kTuple h c
mutual
theorem dp_ex {K : PySem.W.Frag} {H H' : Hp} (e : Ex H H') : ∀ {d : PyData} {x : V}, Dp K H x d → Dp K H' x d
  | _, _, .non => .non
  | _, _, .bl b => .bl b
  | _, _, .int i => .int i
  | _, _, .str x => .str x
  | _, _, .lst h a => .lst (ex_l e h) (dpa_ex e a)
  | _, _, .tup h a => .tup (ex_t e h) (dpa_ex e a)
theorem dpa_ex {K : PySem.W.Frag} {H H' : Hp} (e : Ex H H') : ∀ {ds : List PyData} {xs : List V}, DpAll K H xs ds → DpAll K H' xs ds
  | _, _, .nil => .nil
  | _, _, .cons h a => .cons (dp_ex e h) (dpa_ex e a)
end
theorem dpa_len {K : PySem.W.Frag} {H : Hp} : ∀ {xs : List V} {ds : List PyData}, DpAll K H xs ds → xs.length = ds.length
  | _, _, .nil => rfl
  | _, _, .cons _ a => congrArg Nat.succ (dpa_len a)
theorem dpa_get {K : PySem.W.Frag} {H : Hp} : ∀ {xs : List V} {ds : List PyData} {i : Nat}, DpAll K H xs ds → i < ds.length → ∃ x d, xs[i]? = some x ∧ ds[i]? = some d ∧ d ∈ ds ∧ Dp K H x d
  | _, _, _, .nil, h => by simp at h
  | _, _, 0, .cons h _, _ => ⟨_, _, rfl, rfl, List.mem_cons_self .., h⟩
  | _, _, i + 1, .cons _ a, h => by
    obtain ⟨x, d, h1, h2, h3, h4⟩ := dpa_get (i := i) a (by simpa using h)
    exact ⟨x, d, h1, h2, List.mem_cons_of_mem _ h3, h4⟩
/-- data of depth n, lists and tuples of at most 10000 -/
def okd : Nat → PyData → Prop
  | _, .none => True
  | _, .bool _ => True
  | _, .int _ => True
  | _, .str x => PyData.canLay0 (.str x) = true
  | n + 1, .list xs => xs.length ≤ 10000 ∧ ∀ x, x ∈ xs → okd n x
  | n + 1, .tuple xs => xs.length ≤ 10000 ∧ ∀ x, x ∈ xs → okd n x
  | _, _ => False
theorem shaped_str {x : Str} (h : PyData.canLay0 (.str x) = true) : SeqAt.shaped (.str x) = true := by
  unfold SeqAt.shaped
  rw [h]; rfl
theorem ev_isi {K : PySem.W.Frag} {σ : L2.St} {H : Hp} {te : TE} {x : V} {t : String} {n : String} {b : Bool} (h : Ev te σ H x) (ty : ∀ H1, Ex H H1 → TyX K H1 x (.type t)) (kb : kitB t n = some b) :
    Ev (tCB (rIsi K) (tCons te (tCons (tC (.ty n)) tNil))) σ H (.bl b) := fun H1 e Q q => h H1 e _ fun H2 e2 => ⟨x, .ty n, _, _, b, rfl, .ty n, ty H2 (e.trans e2), kit_ty kb, q H2 e2⟩
theorem rv_isN {H : Hp} {x : V} : RV (fun x y H Q => y = .non ∧ Q (.bl (decide (x = .non))) H) x .non H (.bl (decide (x = .non))) := fun H1 _ _ q => ⟨rfl, q H1 (Ex.refl H1)⟩
theorem rv_eqDp {K : PySem.W.Frag} {H : Hp} {x y : V} {d e : PyData} (hx : Dp K H x d) (hy : Dp K H y e) (sd : SeqAt.shaped d = true) (se : SeqAt.shaped e = true) : RV (rEqD K) x y H (.bl (PyData.eqv d e)) := fun H1 x1 _ q =>
  ⟨d, e, dp_ex x1 hx, dp_ex x1 hy, sd, se, q H1 (Ex.refl H1)⟩
/-- found[k], of a list or a tuple -/
theorem rv_ixAny {K : PySem.W.Frag} {H : Hp} {p : Addr} {xs : List V} {j : Nat} {v : V} (h : SqL K H p xs ∨ SqT K H p xs) (ha : xs[j]? = some v) : RV (rIx K) (.ref p) (.int (j : Int)) H v := fun H1 e _ q => by
  rcases h with h | h
  · exact Or.inl ⟨p, xs, _, v, rfl, rfl, ex_l e h, atI_nat ha, q H1 (Ex.refl H1)⟩
  · exact Or.inr (Or.inl ⟨p, xs, _, v, rfl, rfl, ex_t e h, atI_nat ha, q H1 (Ex.refl H1)⟩)
theorem ev_lenS {K : PySem.W.Frag} {σ : L2.St} {H : Hp} {ta : TE} {p : Addr} {xs : List V} (ha : Ev ta σ H (.ref p)) (h : SqL K H p xs ∨ SqT K H p xs) : Ev (tCB (rLenS K) (tCons ta tNil)) σ H (.int (xs.length : Int)) := fun H1 e Q q =>
  ha H1 e _ fun H2 e2 => ⟨p, xs, rfl, h.elim (fun h => Or.inl (ex_l (e.trans e2) h)) (fun h => Or.inr (ex_t (e.trans e2) h)), q H2 e2⟩
def spSame (K : PySem.W.Frag) (n : Nat) : Sp := fun vs H Q _ => ∃ (x y : V) (dt : PyData), vs = [x, y] ∧ Dp K H x dt ∧ Dp K H y dt ∧ okd n dt ∧ ∀ H', Ex H H' → Q (.bl true) H'
theorem given_none {n : Nat} {f : Nat → Bool} {v : Nat → V} (h : ∀ i, i < n → f i = false) : given n f v = [] := by
  unfold given
  rw [List.filter_eq_nil_iff.mpr (fun i hi => by rw [h i (List.mem_range.mp hi)]; decide)]; rfl

/-! ### steps of a law's own text -/
section
variable {K : PySem.W.Frag} {σ : L2.St} {H : Hp} {Q : VK} {te : TE} {t : TT}
theorem f_evL {xs : List V} (h : EvL te σ H xs) (k : ∀ p H1, H p = none → Ex H H1 → H1 p = some (.lst xs) → Q (.ref p) H1) : te σ H Q := h H (Ex.refl H) Q k
theorem f_ev {v : V} (h : Ev te σ H v) (k : ∀ H1, Ex H H1 → Q v H1) : te σ H Q := h H (Ex.refl H) Q k
theorem ev_callK {sp : Sp} {gV : List V → List V → List V} {E : XK} {ta tk : TA} {vs zs : List V} {n m : Nat} {z : V} (h : EvA ta σ H vs) (hk : EvA tk σ H zs) (hn : vs.length = n) (hm : zs.length = m) (hs : SpV sp (gV vs zs) H z) : Ev (tCallN n m sp gV E ta tk) σ H z := fun H1 e Q q =>
  h H1 e _ fun H2 e2 => hk H2 (e.trans e2) _ fun H3 e3 => ⟨hn, hm, hs H3 ((e.trans e2).trans e3) Q (fun H4 e4 => q H4 ((e2.trans e3).trans e4)) E⟩
theorem sv_Fk {D : List V → V → Prop} {vs : List V} {H : Hp} {z : V} (h : D vs z) : SpV (spF D) vs H z := fun H1 e Q q E => ⟨z, h, q⟩
/-- a def that gives a new list -/
def spNL (D : List V → List V → Prop) : Sp := fun vs H Q _ => ∃ xs, D vs xs ∧ ∀ p H', H p = none → Ex H H' → H' p = some (.lst xs) → Q (.ref p) H'
theorem sl_NL {D : List V → List V → Prop} {vs : List V} {H : Hp} {xs : List V} (h : D vs xs) : SpL (spNL D) (vs ++ []) H xs := fun H1 e Q q E => ⟨xs, by rw [List.append_nil]; exact h, q⟩
theorem el_lcR2 {ta : TA} {j : Nat} {vs : List Nat} {lo n : Int} (f : Nat → Bool) (v : Nat → V) (h : EvA ta σ H [.int lo, .int n]) (hn : -100000 ≤ lo ∧ lo ≤ 100000 ∧ lo ≤ n ∧ n ≤ lo + 40000) (hw : ∀ x, wipe ((wipe σ vs).set j (some x)) vs = wipe σ vs)
    (ht : ∀ (i : Nat) H1, Ex H H1 → lo + (i : Int) < n → EvT t ((wipe σ vs).set j (some (.int (lo + (i : Int))))) H1 (f i)) (he : ∀ (i : Nat) H1, Ex H H1 → lo + (i : Int) < n → f i = true → Ev te ((wipe σ vs).set j (some (.int (lo + (i : Int))))) H1 (v i)) :
    EvL (tLc (iRng2 ta) (gName j) t te vs) σ H (given (n - lo).toNat f v) := fun H0 e Q q => h H0 e _ fun H1 e1 => ⟨lo, n, rfl, by omega, fun Dl hD =>
  lc_range (lo := lo) (n := (n - lo).toNat) (Cw H1 f v Dl) ⟨hD, Ex.new hD, upd_same⟩ (fun i H' hi p =>
    ⟨hw _, cw_turn p (by omega) (ht i H1 (e.trans e1) (by omega)) (fun hf => he i H1 (e.trans e1) (by omega) hf)⟩) (fun H' p => q Dl H' (fresh_back e1 p.1) (e1.trans p.2.1) p.2.2)⟩
theorem et_yes {b : Bool} (h : b = true) : EvT tYes σ H b := fun H1 _ _ q => by subst h; exact q H1 (Ex.refl H1)
theorem ev_sumL {ns : List Int} (h : EvL te σ H (ns.map V.int)) : Ev (tCB (rSum K) (tCons te tNil)) σ H (.int ns.sum) := fun H1 e Q q =>
  h H1 e _ fun p H2 _ e2 hp => ⟨p, ns, rfl, sq_of hp, q H2 e2⟩
theorem given_all {n : Nat} {v : Nat → V} : given n (fun _ => true) v = (List.range n).map v := by
  unfold given
  rw [List.filter_eq_self.mpr (fun _ _ => rfl)]
theorem el_rep {te tk : TE} {xs : List V} {k : Int} (h : EvL te σ H xs) (hk : ∀ H1, Ex H H1 → Ev tk σ H1 (.int k)) (h0 : 0 ≤ k ∧ k ≤ 100) (hz : xs.length ≤ 100) : EvL (tOp rRep te tk) σ H ((List.replicate k.toNat xs).flatten) := fun H1 e Q q =>
  h H1 e _ fun p H2 np e2 hp => hk H2 (e.trans e2) H2 (Ex.refl H2) _ fun H3 e3 => ⟨p, k, xs, rfl, rfl, e3 _ _ hp, by omega, by omega, Nat.le_trans (Nat.mul_le_mul hz (show k.toNat ≤ 100 by omega)) (by decide), fun l hl => q l _ (fresh_back (e2.trans e3) hl) ((e2.trans e3).trans (Ex.new hl)) upd_same⟩
/-- a list of bools compared -/
theorem eqv_bools (xs : List Bool) : PyData.eqvAll (xs.map PyData.bool) (xs.map PyData.bool) = true := by
  induction xs with
  | nil => simp [PyData.eqvAll]
  | cons x xs ih => simp [PyData.eqvAll, PyData.eqv, ih]
theorem dpa_bools {H : Hp} : ∀ ns : List Bool, DpAll K H (ns.map V.bl) (ns.map PyData.bool)
  | [] => .nil
  | n :: ns => .cons (.bl n) (dpa_bools ns)
theorem dp_bools {H : Hp} {a : Addr} {ns : List Bool} (h : SqL K H a (ns.map V.bl)) : Dp K H (.ref a) (.list (ns.map PyData.bool)) := .lst h (dpa_bools ns)
end
end Mc
namespace Mc
open PySem L2 Evl
/-! ### defs that are called where no repr is under way -/
structure FnG (P : Program) (w : World) (K : PySem.W.Frag) (mg : Str → Option Value) (base : Heap) (CX : CXT) (k : Nat) (f : Addr) (fd : FuncData) (ps : List Str) (sp : Sp) : Prop where
  len : ∀ vs H Q E, sp vs H Q E → vs.length = ps.length
  run : ∀ (A : Around) (outer : List Env) (s : Shared) (H : Hp) (args : Args) (us : List Value) (vs : List V) (Q : VK) (E : XK), A.guards = some [] → Room k A → Env0 P w K mg base A outer s H →
    BindsTo s fd args (ps.zip us) → Vals vs us → sp vs H Q E → codeAny (model P w) A (.call (.ref f) args) (CR CX outer P w H s Q E) s
section
variable {P : Program} {w : World} {K : PySem.W.Frag} {mg : Str → Option Value} {base : Heap} {CX : CXT} {k : Nat} {f : Addr} {fd : FuncData} {N ps : List Str} {sp : Sp}
theorem FnG.of (F : FnOk P w K mg base CX k f fd ps sp) : FnG P w K mg base CX k f fd ps sp := ⟨F.len, fun A outer s H args us vs Q E _ hr => F.run A outer s H args us vs Q E hr⟩
theorem okG {x qual : Str} {st : Stmt} (F : Fun K x qual st f fd) (S : FnScope N ps (defScope st)) (len : ∀ vs H Q E, sp vs H Q E → vs.length = ps.length)
    (body : ∀ (cdv : Value) (A : Around) (outer : List Env) (s : Shared) (H : Hp) (vs : List V) (Q : VK) (E : XK), A.guards = some [] → Room k (A.deeper (PyProof.Rows.envOfC qual (defScope st) s.heap.objs.size f cdv)) → sp vs H Q E →
      ∃ t, PSs (cxOf CX P w K mg base N qual (defScope st) f cdv A outer s H E).nox (defBody st) t ∧ t { nx := fun _ H' => Q .non H', rt := Q } (L2.start N vs) H) : FnG P w K mg base CX (k + 1) f fd ps sp := by
  obtain ⟨oc, od, kV, doc, pm, an, cdv, ct, osl, rfl, lk, hcd⟩ := F.ex
  refine ⟨len, fun A outer s H args us vs Q E hG hr e0 hb r hsp => ?_⟩
  have kept : ∀ b o, base.get? b = some o → s.heap.get? b = some o := fun b o e => (e0.bs b o e).1
  have inK : K.In s.heap := e0.mod.kin.keeps kept
  refine codeAny_call_function hr.depth (inK _ _ lk) rfl S.co S.gen rfl (PySem.W.codeRec_of inK hcd) (hb _ _ _ _ ?_)
  refine wpAny_newFunctionEnv_cells S.kind (fun q hq => (S.par q.1 (List.of_mem_zip (show (q.1, q.2) ∈ _ from hq)).1).imp id fun z => ⟨z, PySem.W.cellsFrom_some _ _ _ (.inl z)⟩) fun env he s1 x => ?_
  subst he
  refine ⟨(e0.mod.nolimit.keeps kept).keeps x.toInCall.keep, codeAny_func ?_⟩
  obtain ⟨t, ht, hq⟩ := body cdv A outer s H vs Q E hG (hr.deeper _) hsp
  have I0 := inv_start (CX := CX) (E := E) S hr.hd e0 (len _ _ _ _ hsp) r x
  refine wpAny_mono (ht.nox.run [] s1 _ H _ I0 hq) (fun fl s' hs => ?_) fun _ _ hs => hs
  match fl, hs with
  | .ret _, ⟨v, _, H', J, rv, q⟩ => exact ⟨v, H', J.os, J.bare, J.base, J.hok, rv, q⟩
  | .next, ⟨_, H', J, q⟩ => exact ⟨.non, H', J.os, J.bare, J.base, J.hok, rfl, q⟩
  | .brk, ⟨_, _, _, q⟩ => exact q.elim
  | .cont, ⟨_, _, _, q⟩ => exact q.elim
end
section
variable {X : Cx} {CX : CXT} {k : Nat} {f : Addr} {fd : FuncData} {ps : List Str} {sp : Sp} {dvs : List V} {ds : List Value} {E : XK} {x : Str} {p pos : Pos} {e : Expr} {es : List Expr} {t : TA}
theorem run_fnG {pins : List (Addr × Obj)} {σ : L2.St} {H : Hp} {s : Shared} {Q : VK} {us : List Value} {vs : List V} (hG : X.A.guards = some []) (F : FnG X.prog X.w X.K X.mg X.base CX k f fd ps sp) (hr : Room k X.A) (hb : Binds X.K fd ps ds) (hd : Vals dvs ds)
    (hx : Passes CX X E) (I : Inv X pins σ H s) (r : Vals vs us) (h : sp (vs ++ dvs) H Q E) : wpAny (model X.prog X.w) X.A (call (.ref f) us) (EP X pins σ Q) X.xe s := by
  have rr := r.append hd
  have ln := rr.length.symm.trans (F.len _ _ _ _ h)
  refine wpAny_call (codeAny_mono (F.run X.A X.stack s H ⟨us, []⟩ _ _ Q E hG hr I.env0 (hb s us I.kIn ln) rr h) fun out s' hq => ?_)
  match out, hq with
  | .error e, hq => exact hx pins σ H s e s' I hq
  | .ok (.ret u), hq => exact I.after hq
  | .ok .next, hq => exact hq.elim
  | .ok .brk, hq => exact hq.elim
  | .ok .cont, hq => exact hq.elim
/-- f(e, ..) of such a def -/
theorem pe_callG (hG : X.A.guards = some []) (F : FnG X.prog X.w X.K X.mg X.base CX k f fd ps sp) (hr : Room k X.A) (hg : Gl X x) (hm : X.mg x = some (.ref f)) (kp : PySem.W.keepIn X.K (.ref f) = true) (hb : Binds X.K fd ps ds) (hd : Vals dvs ds)
    (hx : Passes CX X E) (ha : PA X (e :: es) t) (hdeb : (x == ("__debug__" : Str)) = false := by decide) (hst : starEach (e :: es) X.env = (false, eval e X.env) :: starEach es X.env := by rfl) (hplain : (backTo pos (starEach es X.env)).any (·.1) = false := by rfl) :
    PE X (.Call (.Name x p) (e :: es) [] pos) (tCall sp dvs E t) :=
  ⟨fun pins s σ H Q I h => wpAny_Call_Name_kw (ld_glob I hg hm (PySem.W.callWith_K (h₀ := X.base) I.ok.mod.kin kp (thn (ha.run pos pins s σ H _ I h) fun _ _ ⟨_, _, I1, r, q⟩ => ⟨I1.kIn, run_fnG hG F hr hb hd hx I1 r q⟩) hst hplain) hdeb)⟩
/-! ### repr of data -/
/-- the text of data fits -/
structure Fits (d : PyData) : Prop where
  nodict : d.hasDict = false
  show_ : d.showable = true
  deep : d.depth ≤ 20
  size : d.shown.length ≤ sizeLine
def rRepr (K : PySem.W.Frag) : List V → Hp → VK → Prop := fun xs H Q => ∃ (a : Addr) (d : PyData), xs = [.ref a] ∧ Dp K H (.ref a) d ∧ Fits d ∧ ∀ H', Ex H H' → Q (.str d.shown) H'
theorem call_repr_data (hG : X.A.guards = some []) (hu : X.A.units + 64 < cLine) : CallR X (.builtin "repr") (rRepr X.K) := by
  intro pins s σ H xs us Q I r h
  obtain ⟨a, d, rfl, hd, hf, q⟩ := h
  obtain ⟨u, rfl, rx⟩ := vals1 r
  have rx' : u = .ref a := rx
  subst rx'
  obtain ⟨as, hr⟩ := Dp.reads I d (.ref a) (.ref a) hd rfl
  have hdp := hf.deep
  refine repr_of_reads' hr hf.show_ (fun z => by rw [hf.nodict] at z; cases z) hG (by omega) (fun _ _ e => e) (fun h' u tk hk => ?_) hf.size
  exact ⟨.str d.shown, H, I.kept (h' := h') (t' := tk) hk, ⟨u, rfl⟩, q H (Ex.refl H)⟩
end
theorem ev_repr {K : PySem.W.Frag} {σ : L2.St} {H : Hp} {te : TE} {a : Addr} {d : PyData} (h : Ev te σ H (.ref a)) (hd : Dp K H (.ref a) d) (hf : Fits d) : Ev (tCB (rRepr K) (tCons te tNil)) σ H (.str d.shown) := fun H1 e Q q =>
  h H1 e _ fun H2 e2 => ⟨a, d, rfl, dp_ex (e.trans e2) hd, hf, fun H3 e3 => q H3 (e2.trans e3)⟩
/-! ### a law's end over such a def -/
section
open PySem.W PyProof.Rows
/-- the abstract heap at a law's call: nothing but the script -/
theorem script_heap {P : Program} {w : World} {K : PySem.W.Frag} {h : Heap} {a : Addr} {vs : List Value} {ns : List Int} (KX : K.In h) (ha : h.get? a = some { cls := .type "list", data := .seq vs.toArray }) (hi : IntsAre vs ns) (hl : ns.length ≤ sizeLine) :
    ∃ H : Hp, Only H ∧ SqL K H a (ns.map V.int) ∧ HOk P w H h ∧ (∀ b, H b ≠ none → b = a) ∧ (H a ≠ none → K.lookup a = none) := by
  have rv := vals_ints hi
  have ln : vs.toArray.size ≤ sizeLine := by rw [List.size_toArray, hi.length]; exact hl
  rcases e : K.lookup a with _ | o
  · let H : Hp := fun b => if b = a then some (.frz { cls := .type "list", data := .seq vs.toArray } (.lst (ns.map V.int))) else none
    have at_ : H a = some (.frz { cls := .type "list", data := .seq vs.toArray } (.lst (ns.map V.int))) := if_pos rfl
    have off : ∀ b, b ≠ a → H b = none := fun b hb => if_neg hb
    refine ⟨H, fun b => ?_, .inl (.inr ⟨_, at_⟩), fun b u z => ?_, fun b z => Classical.byContradiction fun hb => z (off b hb), fun _ => rfl⟩
    · rcases Classical.em (b = a) with rfl | hb
      · exact .inr ⟨_, _, at_⟩
      · exact .inl (off b hb)
    · rcases Classical.em (b = a) with rfl | hb
      · rw [at_] at z
        cases z
        exact ⟨ha, by rw [List.length_map]; exact hl, vs, _, rv, ha⟩
      · rw [off b hb] at z
        cases z
  · have eo := (KX a o e).symm.trans ha
    cases eo
    exact ⟨fun _ => none, fun _ => .inl rfl, .inr ⟨_, _, _, e, rfl, rfl, rfl, ln, rv⟩, fun b u z => by simp at z, fun b z => absurd rfl z, fun z => absurd rfl z⟩
theorem law_callG {P : Program} {w : World} {K : PySem.W.Frag} {mg mb : Str → Option Value} {k : Nat} {fa a : Addr} {fd : FuncData} {x : Str} {sp : Sp} {s : Shared} {vs : List Value} {ns : List Int}
    (KX : K.In s.heap) (hns : s.heap.Ns mainGlobals mg) (hb : s.heap.Ns builtinsNs mb) (hbb : ∀ x : Str, x ≠ "__name__" → mb x = bootBuiltins x) (hlim : s.heap.NoLimit) (hg : s.gens = #[])
    (ha : s.heap.get? a = some { cls := .type "list", data := .seq vs.toArray }) (hi : IntsAre vs ns) (hl : ns.length ≤ sizeLine) (hr : Room k callerA)
    (F : ∀ base : Heap, K.In base → base.Ns mainGlobals mg → FnG P w K mg base CX0 k fa fd [x] sp) (hbind : ∀ (s : Shared) (u : Value), BindsTo s fd ⟨[u], []⟩ [(x, u)])
    (hsp : ∀ H : Hp, Only H → SqL K H a (ns.map V.int) → sp [.ref a] H (fun v _ => v = .bl true) fun _ _ _ => False) :
    codeAny (model P w) callerA (.call (.ref fa) ⟨[.ref a], []⟩) (fun r s' => r = .ok (.ret (.bool true)) ∧ OldK s.heap s'.heap ∧ s'.os = s.os ∧ AllBare s'.gens) s := by
  obtain ⟨H, hO, hS, hok, hA, hK⟩ := script_heap (P := P) (w := w) KX ha hi hl
  have free : ∀ {b : Addr} {o : Obj} {es : Array DictEntry} {ep : Nat}, s.heap.get? b = some o → o.data = .dict es ep → H b = none := fun {b o es ep} e d => by
    rcases q : H b with _ | u
    · rfl
    · have eb := hA b (by rw [q]; exact Option.some_ne_none u)
      subst eb
      rw [ha] at e
      cases e
      cases d
  have nsB : ∀ {b : Addr} {m : Str → Option Value}, s.heap.Ns b m → (hidT s.heap H).Ns b m := fun ⟨o, es, ep, e, d, r⟩ => ⟨o, es, ep, hidT_get e (free e d), d, r⟩
  have inB : K.In (hidT s.heap H) := fun b o e => hidT_get (KX b o e) (by
    rcases q : H b with _ | u
    · rfl
    · have ne : H b ≠ none := by rw [q]; exact Option.some_ne_none u
      have eb := hA b ne
      subst eb
      rw [hK ne] at e
      cases e)
  have mod : Mod K mg (hidT s.heap H) := ⟨inB, nsB hns, ⟨mb, nsB hb, hbb⟩, hlim.elim fun mc h => ⟨mc, nsB h.1, h.2⟩⟩
  have e0 : Env0 P w K mg (hidT s.heap H) callerA [] s H := ⟨rfl, mod, fun b o e => of_hidT e, Nat.le_of_eq (hidT_size _ _), trivial, (fun b hb => absurd hb (by simp [frs])), hok, .of_eq hg⟩
  refine codeAny_mono ((F _ inB (nsB hns)).run callerA [] s H ⟨[.ref a], []⟩ [.ref a] [.ref a] _ _ rfl hr e0 (hbind s (.ref a)) (.cons rfl .nil) (hsp H hO hS)) fun out s' h => ?_
  match out, h with
  | .error e, h => exact h.elim
  | .ok .next, h => exact h.elim
  | .ok .brk, h => exact h.elim
  | .ok .cont, h => exact h.elim
  | .ok (.ret u), ⟨v, H', os, bare, un, hok', rl, (q : v = .bl true)⟩ =>
    subst q
    obtain rfl : u = Value.bool true := rl
    refine ⟨rfl, OldK.of_keep fun b o e => ?_, os, bare⟩
    rcases q : H b with _ | u
    · exact un.keep b o e q (fun z => nomatch z) (by simp)
    · rcases hO b with z | ⟨ob, xs, z⟩
      · rw [q] at z
        cases z
      · have e1 := (hok b _ z).1
        have e2 := (hok' b _ (un.frzs b ob _ z)).1
        rw [e] at e1
        cases e1
        exact e2
theorem walk_ofG {l : PySem.W.OpenLaw} {n k : Nat} {q : Program} {loose : List Str} {XP : (Str → Option Value) → Heap → Prop} {YP : World → Heap → Prop} {d : DefRec} {K : Params → PySem.W.Frag} {sp : World → Sp} {x : Str}
    (hn : l.most = some n) (hn2 : n ≤ sizeLine) (hdf : d.params.defaults = []) (hr : Room k callerA) (hY : ∀ (w : World) (h : Heap), YP w h → (K w.params).In h)
    (F : ∀ (w : World) (mg : Str → Option Value) (fa : Addr) (h : Heap), (K w.params).In h → h.Ns mainGlobals mg → mg d.name = some (.ref fa) →
      ∃ fd : FuncData, (∀ (s : Shared) (u : Value), BindsTo s fd ⟨[u], []⟩ [(x, u)]) ∧ ∀ base : Heap, (K w.params).In base → base.Ns mainGlobals mg → FnG l.prog w (K w.params) mg base CX0 k fa fd [x] (sp w))
    (hsp : ∀ (w : World) (H : Hp) (a : Addr) (ns : List Int), ns.length ≤ n → Only H → SqL (K w.params) H a (ns.map V.int) → sp w [.ref a] H (fun v _ => v = .bl true) fun _ _ _ => False) :
    PySem.W.WalkO q loose XP YP l.row.toRowW d [] (fun f vs => PySem.call f vs) :=
  Att.attach_call hn hdf fun w s₀ s₁ mg mb fa o pm cd doc a vs ns G Y _ _ _ hmg hobj hints hlen hg => by
    have KX := hY w _ Y
    obtain ⟨fd, hb, hF⟩ := F w mg fa _ KX G.T.g hmg
    exact law_callG KX G.T.g G.T.b G.T.builtins G.T.nolimit hg hobj hints (Nat.le_trans hlen hn2) hr hF hb fun H hO hS => hsp w H a ns hlen hO hS
end
/-! ### more of expressions and statements -/
section
variable {K : PySem.W.Frag} {σ : L2.St} {H : Hp} {Q : VK} {te ta tb : TE} {D : Ends}
theorem rv_div {i j : Int} (h : 0 < j) (hb : j ≤ 10 ^ 60) : RV (rI CDivW fun i j => .int (i / j)) (.int i) (.int j) H (.int (i / j)) := rv_I (wide_div (b := 200) h (by omega) (by decide) (by decide))
theorem rv_mul {i j : Int} (h : i.natAbs ≤ 10 ^ 100) (hb : j.natAbs ≤ 10 ^ 100) : RV (rI CMulW fun i j => .int (i * j)) (.int i) (.int j) H (.int (i * j)) := rv_I (wide_mul (a := 400) (b := 400) (Nat.lt_of_le_of_lt h (by decide +kernel)) (Nat.lt_of_le_of_lt hb (by decide +kernel)) (by decide) (by decide) (by decide))
/-- a def that gives z of vs, as the heap says, and leaves all as it was -/
def spH (D : Hp → List V → V → Prop) : Sp := fun vs H Q _ => ∃ z, D H vs z ∧ ∀ H', Ex H H' → Q z H'
theorem sv_H {D : Hp → List V → V → Prop} {vs : List V} {z : V} (h : ∀ H1, Ex H H1 → D H1 vs z) : SpV (spH D) (vs ++ []) H z := fun H1 e Q q E => ⟨z, by rw [List.append_nil]; exact h H1 e, q⟩
/-- .. that gives a new tuple -/
def spU (D : Hp → List V → List V → Prop) : Sp := fun vs H Q _ => ∃ xs, D H vs xs ∧ ∀ p H', H p = none → Ex H H' → H' p = some (.tup xs) → Q (.ref p) H'
theorem eu_call {D : Hp → List V → List V → Prop} {vs xs : List V} {E : XK} {ta : TA} (h : EvA ta σ H vs) (hs : ∀ H1, Ex H H1 → D H1 vs xs) : EvU (tCall (spU D) [] E ta) σ H xs := fun H1 e Q q =>
  h H1 e _ fun H2 e2 => ⟨xs, by rw [List.append_nil]; exact hs H2 (e.trans e2), fun p H3 hp e3 h3 => q p H3 (fresh_back e2 hp) (e2.trans e3) h3⟩
theorem eu_callN {D : Hp → List V → List V → Prop} {gV : List V → List V → List V} {vs zs xs : List V} {n m : Nat} {E : XK} {ta tk : TA} (h : EvA ta σ H vs) (hk : EvA tk σ H zs) (hn : vs.length = n) (hm : zs.length = m) (hs : ∀ H1, Ex H H1 → D H1 (gV vs zs) xs) : EvU (tCallN n m (spU D) gV E ta tk) σ H xs := fun H1 e Q q =>
  h H1 e _ fun H2 e2 => hk H2 (e.trans e2) _ fun H3 e3 => ⟨hn, hm, xs, hs H3 ((e.trans e2).trans e3), fun p H4 hp e4 h4 => q p H4 (fresh_back (e2.trans e3) hp) ((e2.trans e3).trans e4) h4⟩
theorem f_evU {xs : List V} (h : EvU te σ H xs) (k : ∀ p H1, H p = none → Ex H H1 → H1 p = some (.tup xs) → Q (.ref p) H1) : te σ H Q := h H (Ex.refl H) Q k
/-- a, b, c = e -/
theorem s_un3 {i j l : Nat} {p : Addr} {a b c : V} (h : Ev te σ H (.ref p)) (hT : SqT K H p [a, b, c]) (k : ∀ H1, Ex H H1 → D.nx (((σ.set i (some a)).set j (some b)).set l (some c)) H1) :
    tAsg te (gTup K 3 (gCons (gName i) (gCons (gName j) (gCons (gName l) gNil)))) D σ H := h H (Ex.refl H) _ fun H1 e => ⟨p, [a, b, c], rfl, ex_t e hT, rfl, a, [b, c], rfl, b, [c], rfl, c, [], rfl, rfl, k H1 e⟩
theorem rv_ixTn {p : Addr} {xs : List V} {j : Nat} {v : V} (h : SqT K H p xs) (ha : xs[j]? = some v) : RV (rIxT K) (.ref p) (.int (j : Int)) H v := rv_ixT h (atI_nat ha)
theorem ev_min2 {i j : Int} (ha : Ev ta σ H (.int i)) (hb : Ev tb σ H (.int j)) : Ev (tCB (fun xs H Q => ∃ i j, xs = [.int i, .int j] ∧ Q (.int (if j < i then j else i)) H) (tCons ta (tCons tb tNil))) σ H (.int (min i j)) := fun H1 e Q q =>
  ha H1 e _ fun H2 e2 => hb H2 (e.trans e2) _ fun H3 e3 => ⟨i, j, rfl, by
    have e : (if j < i then j else i) = min i j := by split <;> omega
    rw [e]; exact q H3 (e2.trans e3)⟩
end
/-! ### draws among other steps -/
section
variable {K : PySem.W.Frag} {σ : L2.St} {H : Hp} {Q : VK} {te ta tb : TE} {D : Ends}
theorem f_par {i j : Nat} {ta : TA} (h : ta σ H fun vs H1 => ∃ v w, vs = [v, w] ∧ D.nx ((σ.set i (some v)).set j (some w)) H1) : tPar i j ta D σ H := h
theorem f_par2 {v w : V} {R : V → V → Prop} (q : R v w) : ∃ a b, [v, w] = [a, b] ∧ R a b := ⟨v, w, rfl, q⟩
/-- a list, a tuple is made in the midst of draws -/
theorem f_newL {s d : Addr} {B : Nat} {xs : List V} {R : Addr → Prop} (S : Src H s d B) (hz : xs.length ≤ 1000) (q : ∀ p, H p = none → p ≠ s ∧ p ≠ d → Src (upd H p (.lst xs)) s d B → Ex H (upd H p (.lst xs)) → (upd H p (.lst xs)) p = some (.lst xs) → R p) : xs.length ≤ sizeLine ∧ ∀ p, H p = none → R p :=
  ⟨sz1000 hz, fun p hp => q p hp (S.free hp) (S.ex_ (Ex.new hp)) (Ex.new hp) upd_same⟩
theorem f_newU {s d : Addr} {B : Nat} {xs : List V} {R : Addr → Prop} (S : Src H s d B) (hz : xs.length ≤ 1000) (q : ∀ p, H p = none → p ≠ s ∧ p ≠ d → Src (upd H p (.tup xs)) s d B → Ex H (upd H p (.tup xs)) → (upd H p (.tup xs)) p = some (.tup xs) → R p) : xs.length ≤ sizeLine ∧ ∀ p, H p = none → R p :=
  ⟨sz1000 hz, fun p hp => q p hp (S.free hp) (S.ex_ (Ex.new hp)) (Ex.new hp) upd_same⟩
theorem f_catL {s d : Addr} {B : Nat} {a b : Addr} {xs ys : List V} (S : Src H s d B) (ha : H a = some (.lst xs)) (hb : H b = some (.lst ys)) (hz : xs.length + ys.length ≤ 1000) (q : ∀ p H', H p = none → p ≠ s ∧ p ≠ d → Src H' s d B → Ex H H' → H' p = some (.lst (xs ++ ys)) → Q (.ref p) H') : rCat (.ref a) (.ref b) H Q :=
  ⟨a, b, xs, ys, rfl, rfl, ha, hb, sz1000 hz, fun p hp => q p _ hp (S.free hp) (S.ex_ (Ex.new hp)) (Ex.new hp) upd_same⟩
theorem Kp.new {s d p : Addr} {B : Nat} {H H' : Hp} (k : Kp s d H H') (S : Src H' s d B) (h : H' p = none) : H p = none := by
  have f := S.free h
  rcases e : H p with _ | o
  · rfl
  · rw [k.at f e] at h; cases h
/-- a new date, in the midst of draws -/
def spDate (ok : Int → Int → Int → Prop) : Sp := fun vs H Q _ => ∃ (s d : Addr) (B : Nat), vs = [.ref s] ∧ Src H s d (B + 12) ∧ ∀ (y m e : Int) (p : Addr) (H' : Hp), ok y m e → y.natAbs ≤ 10 ^ 31 → H p = none → p ≠ s ∧ p ≠ d → Src H' s d B → Kp s d H H' → H' p = some (.tup [.int y, .int m, .int e]) → Q (.ref p) H'
/-- a new list of at most `most` ints -/
def spJumps : Sp := fun vs H Q _ => ∃ (s d : Addr) (B : Nat) (most : Int), vs = [.ref s, .int most] ∧ 0 ≤ most ∧ most ≤ 60 ∧ Src H s d (B + 1000) ∧
  ∀ (ks : List Int) (p : Addr) (H' : Hp), (ks.length : Int) ≤ most → (∀ k, k ∈ ks → k.natAbs ≤ 10 ^ 28) → H p = none → p ≠ s ∧ p ≠ d → Src H' s d B → Kp s d H H' → H' p = some (.lst (ks.map V.int)) → Q (.ref p) H'
end
section
variable {K : PySem.W.Frag} {σ : L2.St} {H : Hp} {Q : VK} {te ta tb to : TE} {D : Ends} {tu : TS} {g : TG}
theorem f_forR1 {ta : TA} (h : ta σ H fun vs H1 => ∃ j : Int, vs = [.int j] ∧ -(2 ^ 62) ≤ j ∧ j < 2 ^ 62 ∧ ∃ W : Nat → Nat → L2.St → Hp → Prop, (∃ m, W 0 m σ H1) ∧ ∀ i m σ H, W i m σ H →
    ((Itr 0 j.toNat).stop i H ∧ D.nx σ H) ∨ ((Itr 0 j.toNat).go i H ∧ ∃ N : L2.St → Hp → Prop, (∀ σ' H', N σ' H' → ∃ m', m' < m ∧ W (i + 1) m' σ' H') ∧ ∀ x H', (Itr 0 j.toNat).yld i H x H' → g x σ H' fun σ2 H2 => tu { D with nx := N, ct := N, bk := D.nx } σ2 H2)) : tFor (iRng1 ta) g tu D σ H := h
theorem f_bm {T : String} {r : V → List V → Hp → VK → Prop} {t : TA} (h : to σ H fun x H1 => tyV K T x H1 ∧ t σ H1 fun xs H2 => r x xs H2 Q) : tBM K T r to t σ H Q := h
theorem f_tyL {p : Addr} {xs : List V} {R : Prop} (h : H p = some (.lst xs)) (q : R) : tyV K "list" (.ref p) H ∧ R := ⟨.inl ⟨rfl, _, sq_of h⟩, q⟩
theorem at_m2 {L : List Int} (h : 2 ≤ L.length) : ∃ z, z ∈ L ∧ atI (L.map V.int) (-2) = some (.int z) := by
  have e : ixN (L.map V.int).length (-2) = some (L.length - 2) := by
    unfold ixN
    rw [List.length_map, if_neg (by decide), if_pos (by omega)]
    exact congrArg some (by omega)
  have hj : L.length - 2 < L.length := by omega
  refine ⟨L[L.length - 2], List.getElem_mem hj, ?_⟩
  unfold atI
  rw [e]
  show (L.map V.int)[L.length - 2]? = _
  rw [List.getElem?_map, List.getElem?_eq_getElem hj]; rfl
theorem ixN_m1 {n : Nat} (h : 0 < n) : ixN n (-1) = some (n - 1) := by
  unfold ixN
  rw [if_neg (by decide), if_pos (by omega)]
  exact congrArg some (by omega)
end
/-! ### texts that fit -/
theorem fits_of {d : PyData} (h1 : d.hasDict = false) (h2 : d.showable = true) (h3 : d.depth ≤ 20) (h4 : d.leavesShort 110 = true) (h5 : d.weight ≤ 140000) : Fits d :=
  ⟨h1, h2, h3, Nat.le_trans (PyData.shown_le 110 (by decide) d h4) (Nat.le_trans (Nat.add_le_add_right (Nat.mul_le_mul_left 112 h5) 110) (by decide))⟩
theorem log_le {i : Int} (h : i.natAbs ≤ 10 ^ 100) : i.natAbs.log2 < 334 := PySem.Flt.log2_lt_of (by decide) (Nat.lt_of_le_of_lt h (by decide +kernel))
theorem shows_int {i : Int} (h : i.natAbs ≤ 10 ^ 100) : PyData.showable (.int i) = true ∧ PyData.leavesShort 110 (.int i) = true ∧ PyData.weight (.int i) ≤ 335 := by
  have hl := log_le h
  refine ⟨?_, ?_, ?_⟩
  · simp only [PyData.showable]; exact decide_eq_true (by omega)
  · simp only [PyData.leavesShort]
    refine decide_eq_true ?_
    have e := int_text_length_le10 (k := 101) (a := i) (by decide) (Nat.lt_of_le_of_lt h (by decide +kernel))
    show (Str.ofString (toString i)).length ≤ 110
    rw [ofString_length]; omega
  · simp only [PyData.weight]; split <;> omega
theorem shows_ints : ∀ (ks : List Int), (∀ k, k ∈ ks → k.natAbs ≤ 10 ^ 100) → PyData.showableAll (ks.map PyData.int) = true ∧ PyData.leavesShortAll 110 (ks.map PyData.int) = true ∧ PyData.weightAll (ks.map PyData.int) ≤ 336 * ks.length ∧ PyData.hasDictAll (ks.map PyData.int) = false ∧ PyData.depthAll (ks.map PyData.int) = 0
  | [], _ => by simp [PyData.showableAll, PyData.leavesShortAll, PyData.weightAll, PyData.hasDictAll, PyData.depthAll]
  | k :: ks, h => by
    obtain ⟨a, b, c⟩ := shows_int (h k (List.mem_cons_self ..))
    obtain ⟨a', b', c', d', e'⟩ := shows_ints ks fun x hx => h x (List.mem_cons_of_mem _ hx)
    refine ⟨?_, ?_, ?_, ?_, ?_⟩
    · simp only [List.map_cons, PyData.showableAll, a, a']; rfl
    · simp only [List.map_cons, PyData.leavesShortAll, b, b']; rfl
    · simp only [List.map_cons, PyData.weightAll, List.length_cons]; omega
    · simp only [List.map_cons, PyData.hasDictAll, PyData.hasDict, d']; rfl
    · simp only [List.map_cons, PyData.depthAll, PyData.depth, e']; rfl
/-- [date, list] -/
def pairD (y m e : Int) (ks : List Int) : PyData := .list [.tuple ([y, m, e].map PyData.int), .list (ks.map PyData.int)]
theorem fits_pair {y m e : Int} {ks : List Int} (h : ∀ k, k ∈ [y, m, e] → k.natAbs ≤ 10 ^ 100) (hk : ∀ k, k ∈ ks → k.natAbs ≤ 10 ^ 100) (hl : ks.length ≤ 200) : Fits (pairD y m e ks) := by
  obtain ⟨a, b, c, d, f⟩ := shows_ints [y, m, e] h
  obtain ⟨a', b', c', d', f'⟩ := shows_ints ks hk
  refine fits_of ?_ ?_ ?_ ?_ ?_
  · simp only [pairD, PyData.hasDict, PyData.hasDictAll, d, d']; rfl
  · simp only [pairD, PyData.showable, PyData.showableAll, a, a']; rfl
  · simp only [pairD, PyData.depth, PyData.depthAll, f, f']; decide
  · simp only [pairD, PyData.leavesShort, PyData.leavesShortAll, b, b']; rfl
  · simp only [pairD, PyData.weight, PyData.weightAll]
    have : [y, m, e].length = 3 := rfl
    omega
theorem ev_reprL {K : PySem.W.Frag} {σ : L2.St} {H : Hp} {te : TE} {xs : List V} {d : PyData} (h : EvL te σ H xs) (hd : ∀ p H1, Ex H H1 → H1 p = some (.lst xs) → Dp K H1 (.ref p) d) (hf : Fits d) : Ev (tCB (rRepr K) (tCons te tNil)) σ H (.str d.shown) := fun H1 e Q q =>
  h H1 e _ fun p H2 _ e2 h2 => ⟨p, d, rfl, hd p H2 (e.trans e2) h2, hf, fun H3 e3 => q H3 (e2.trans e3)⟩
theorem dp_date {K : PySem.W.Frag} {H : Hp} {p : Addr} {xs : List Int} (h : SqT K H p (xs.map V.int)) : Dp K H (.ref p) (.tuple (xs.map PyData.int)) := .tup h (dpa_ints xs)
theorem dp_pair {K : PySem.W.Frag} {H : Hp} {p a b : Addr} {y m e : Int} {ks : List Int} (h : H p = some (.lst [.ref a, .ref b])) (ha : SqT K H a [.int y, .int m, .int e]) (hb : SqL K H b (ks.map V.int)) : Dp K H (.ref p) (pairD y m e ks) :=
  .lst (sq_of h) (.cons (dp_date (xs := [y, m, e]) ha) (.cons (dp_ints hb) .nil))
theorem rv_eqS {H : Hp} {x : Str} : RV rEq (.str x) (.str x) H (.bl true) := fun H1 _ _ q => ⟨rfl, by rw [decide_eq_true rfl]; exact q H1 (Ex.refl H1)⟩
theorem rv_neS {H : Hp} {x : Str} : RV rNe (.str x) (.str x) H (.bl false) := fun H1 _ _ q => ⟨rfl, by rw [decide_eq_true rfl]; exact q H1 (Ex.refl H1)⟩
theorem okd_ints (n : Nat) (ks : List Int) : ∀ d, d ∈ ks.map PyData.int → okd n d := fun d hd => by
  obtain ⟨z, _, rfl⟩ := List.mem_map.mp hd
  cases n <;> trivial
theorem eqv_tints {n : Nat} (xs : List Int) : SeqAt.shaped (.tuple (xs.map PyData.int)) = true := PySem.W.ke_shaped_ints xs
/-- tuples of ints compared -/
theorem rv_neT {K : PySem.W.Frag} {H : Hp} {a b : Addr} {xs : List Int} (ha : SqT K H a (xs.map V.int)) (hb : SqT K H b (xs.map V.int)) : RV (rNeD K) (.ref a) (.ref b) H (.bl false) := fun H1 e Q q =>
  ⟨_, _, dp_date (ex_t e ha), dp_date (ex_t e hb), PySem.W.ke_shaped_ints xs, PySem.W.ke_shaped_ints xs, by
    show Q (.bl (!PyData.eqvAll (xs.map PyData.int) (xs.map PyData.int))) H1
    rw [eqv_ints, decide_eq_true rfl]; exact q H1 (Ex.refl H1)⟩
theorem rv_eqT {K : PySem.W.Frag} {H : Hp} {a b : Addr} {xs : List Int} (ha : SqT K H a (xs.map V.int)) (hb : SqT K H b (xs.map V.int)) : RV (rEqD K) (.ref a) (.ref b) H (.bl true) := fun H1 e Q q =>
  ⟨_, _, dp_date (ex_t e ha), dp_date (ex_t e hb), PySem.W.ke_shaped_ints xs, PySem.W.ke_shaped_ints xs, by
    show Q (.bl (PyData.eqvAll (xs.map PyData.int) (xs.map PyData.int))) H1
    rw [eqv_ints, decide_eq_true rfl]; exact q H1 (Ex.refl H1)⟩
/-! ### comprehensions that draw; slices -/
section
variable {K : PySem.W.Frag} {σ : L2.St} {H : Hp} {Q : VK} {te ta tb to : TE} {tt : TT} {g : TG}
/-- what a comprehension over range(n) asks -/
def LcR (n : Nat) (g : TG) (tt : TT) (te : TE) (vs : List Nat) (σ : L2.St) (H : Hp) (Q : VK) : Prop := ∀ D, H D = none → ∃ W : Nat → Nat → Hp → Prop, (∃ m, W 0 m (upd H D (.lst []))) ∧ ∀ i m H, W i m H →
  ((Itr 0 n).stop i H ∧ Q (.ref D) H) ∨ ((Itr 0 n).go i H ∧ ∃ Nx : Hp → Prop, (∀ H', Nx H' → ∃ m', m' < m ∧ W (i + 1) m' H') ∧ ∀ x H', (Itr 0 n).yld i H x H' → g x (wipe σ vs) H' fun σ2 H2 => wipe σ2 vs = wipe σ vs ∧ tt σ2 H2 fun b H3 =>
    if b = true then te σ2 H3 fun y H4 => ∃ acc, H4 D = some (.lst acc) ∧ acc.length < sizeLine ∧ Nx (upd H4 D (.lst (acc ++ [y]))) else Nx H3)
theorem f_lcR1 {ta : TA} {vs : List Nat} (h : ta σ H fun us H1 => ∃ n : Int, us = [.int n] ∧ -(2 ^ 62) ≤ n ∧ n < 2 ^ 62 ∧ LcR n.toNat g tt te vs σ H1 Q) : tLc (iRng1 ta) g tt te vs σ H Q := h
theorem f_yes {R : Bool → Hp → Prop} (h : R true H) : tYes σ H R := h
/-- n turns, each of at most c draws and an int with φ -/
theorem lc_draws {vs : List Nat} {j n : Nat} {s d : Addr} {B c : Nat} (φ : Int → Prop) (S : Src H s d (B + c * n)) (hn : n ≤ 1000) (hw : ∀ x, wipe ((wipe σ vs).set j (some x)) vs = wipe σ vs)
    (turn : ∀ (i : Nat) H' b, i < n → Kp s d H H' → Src H' s d (b + c) → ∀ R : VK, (∀ z H2, φ z → Kp s d H' H2 → Src H2 s d b → R (.int z) H2) → te ((wipe σ vs).set j (some (.int ((0 : Int) + (i : Int))))) H' R)
    (hd : ∀ (ks : List Int) (p : Addr) (H' : Hp), H p = none → p ≠ s ∧ p ≠ d → ks.length = n → (∀ k, k ∈ ks → φ k) → Src H' s d B → Kp s d H H' → H' p = some (.lst (ks.map V.int)) → Q (.ref p) H') :
    LcR n (gName j) tYes te vs σ H Q := fun D hD => by
  have fD := S.free hD
  refine lc_range (lo := 0) (n := n) (fun i H' => ∃ ks : List Int, ks.length = i ∧ (∀ k, k ∈ ks → φ k) ∧ H' D = some (.lst (ks.map V.int)) ∧ Src H' s d (B + c * (n - i)) ∧ Kp s d H H') ⟨[], rfl, (fun _ h => by simp at h), upd_same, S.ex_ (Ex.new hD), .of (Ex.new hD)⟩ (fun i H' hi ⟨ks, h1, h2, h3, h4, h5⟩ => ⟨hw _, ?_⟩) (fun H' ⟨ks, h1, h2, h3, h4, h5⟩ => hd ks D H' hD fD h1 h2 (h4.less (by omega)) h5 h3)
  have e : B + c * (n - i) = B + c * (n - (i + 1)) + c := by
    rw [show n - i = (n - (i + 1)) + 1 by omega, Nat.mul_add, Nat.mul_one]; omega
  rw [e] at h4
  refine f_yes ?_
  rw [if_pos rfl]
  refine turn i H' _ hi h5 h4 _ fun z H2 hz k2 S2 => ⟨_, k2.at fD h3, Nat.lt_of_le_of_lt (by rw [List.length_map]; omega : _ ≤ 1000) (by decide), ks ++ [z], by simp [h1], fun k hk => ?_, by rw [upd_same, List.map_append]; rfl, ?_, fun b o g1 g2 g => ?_⟩
  · rcases List.mem_append.mp hk with h | h
    · exact h2 k h
    · rw [List.mem_singleton.mp h]; exact hz
  · obtain ⟨ds, a, m, q, g1, g2, g3⟩ := S2.ex
    exact ⟨ds, a, m, q, by rw [upd_ne fD.1.symm]; exact g1, by rw [upd_ne fD.2.symm]; exact g2, g3⟩
  · rw [upd_ne (ne_of_none g hD)]
    exact k2 b o g1 g2 (h5 b o g1 g2 g)
theorem cutV_take {xs : List V} {n : Nat} : cutV xs none (some (n : Int)) = xs.take n := by
  unfold cutV
  rw [HT.sIx_none, HT.sIx_nat, List.drop_zero, Nat.sub_zero]
  rcases Nat.le_total n xs.length with h | h
  · rw [Nat.min_eq_left h]
  · rw [Nat.min_eq_right h, List.take_of_length_le (Nat.le_refl _), List.take_of_length_le h]
theorem cutV_drop {xs : List V} {n : Nat} : cutV xs (some (n : Int)) none = xs.drop n := by
  unfold cutV
  rw [HT.sIx_none, HT.sIx_nat]
  rcases Nat.le_total n xs.length with h | h
  · rw [Nat.min_eq_left h, List.take_of_length_le (by rw [List.length_drop]; exact Nat.le_refl _)]
  · rw [Nat.min_eq_right h, Nat.sub_self, List.take_zero, List.drop_eq_nil_of_le h]
theorem el_take {a : Addr} {ks : List Int} {n : Int} (h : Ev te σ H (.ref a)) (hn : Ev ta σ H (.int n)) (h0 : 0 ≤ n) (hs : SqL K H a (ks.map V.int)) : EvL (tSl (rSlL K) te tNoPart (tPart ta)) σ H ((ks.take n.toNat).map V.int) := by
  obtain ⟨m, rfl⟩ : ∃ m : Nat, n = (m : Int) := ⟨n.toNat, by omega⟩
  have z := el_sl h eo_none (eo_some hn) hs
  rw [cutV_take] at z
  rw [List.map_take]; exact z
theorem el_drop {a : Addr} {ks : List Int} {n : Int} (h : Ev te σ H (.ref a)) (hn : Ev ta σ H (.int n)) (h0 : 0 ≤ n) (hs : SqL K H a (ks.map V.int)) : EvL (tSl (rSlL K) te (tPart ta) tNoPart) σ H ((ks.drop n.toNat).map V.int) := by
  obtain ⟨m, rfl⟩ : ∃ m : Nat, n = (m : Int) := ⟨n.toNat, by omega⟩
  have z := el_sl h (eo_some hn) eo_none hs
  rw [cutV_drop] at z
  rw [List.map_drop]; exact z
theorem el_cat {xs ys : List V} (h : EvL ta σ H xs) (hb : EvL tb σ H ys) (hz : xs.length + ys.length ≤ 1000) : EvL (tOp rCat ta tb) σ H (xs ++ ys) := fun H1 e Q q =>
  h H1 e _ fun p H2 _ e2 h2 => hb H2 (e.trans e2) _ fun r H3 _ e3 h3 => ⟨p, r, xs, ys, rfl, rfl, e3 _ _ h2, h3, sz1000 hz, fun l hl => q l _ (fresh_back (e2.trans e3) hl) ((e2.trans e3).trans (Ex.new hl)) upd_same⟩
end
section
variable {K : PySem.W.Frag} {σ : L2.St} {H : Hp} {Q : VK} {te ta tb to : TE}
theorem f_andV (h : ta σ H fun x H1 => ∃ c, x = .bl c ∧ if c = true then tb σ H1 Q else Q (.bl false) H1) : tAndV ta tb σ H Q := h
theorem f_orV (h : ta σ H fun x H1 => ∃ c, x = .bl c ∧ if c = true then Q (.bl true) H1 else tb σ H1 Q) : tOrV ta tb σ H Q := h
theorem f_rv {r : R2} {x y z : V} (h : RV r x y H z) (k : ∀ H1, Ex H H1 → Q z H1) : r x y H Q := h H (Ex.refl H) Q k
theorem f_spU {D : Hp → List V → List V → Prop} {vs : List V} (xs : List V) {E : XK} (h : D H vs xs) (q : ∀ p H', H p = none → Ex H H' → H' p = some (.tup xs) → Q (.ref p) H') : spU D (vs ++ []) H Q E := ⟨xs, by rw [List.append_nil]; exact h, q⟩
end
section
variable {K : PySem.W.Frag} {σ : L2.St} {H : Hp} {Q : VK} {te ta tb to : TE}
theorem ev_opU1 {r : R2} {xs : List V} {y z : V} (ha : EvU ta σ H xs) (hb : ∀ H1, Ex H H1 → Ev tb σ H1 y) (hr : ∀ p H1, H1 p = some (.tup xs) → Ex H H1 → RV r (.ref p) y H1 z) : Ev (tOp r ta tb) σ H z := fun H1 e Q q =>
  ha H1 e _ fun p H2 _ e2 hp => hb H2 (e.trans e2) H2 (Ex.refl H2) _ fun H3 e3 => hr p H3 (e3 p _ hp) ((e.trans e2).trans e3) H3 (Ex.refl H3) Q fun H4 e4 => q H4 ((e2.trans e3).trans e4)
theorem eu_call2L {D : Hp → List V → List V → Prop} {v : V} {ys xs : List V} {E : XK} (ha : Ev ta σ H v) (hb : EvL tb σ H ys) (hs : ∀ p H1, Ex H H1 → H1 p = some (.lst ys) → D H1 [v, .ref p] xs) : EvU (tCall (spU D) [] E (tCons ta (tCons tb tNil))) σ H xs := fun H1 e Q q =>
  ha H1 e _ fun H2 e2 => hb H2 (e.trans e2) _ fun p H3 _ e3 h3 => ⟨xs, hs p H3 ((e.trans e2).trans e3) h3, fun p' H4 hp e4 h4 => q p' H4 (fresh_back (e2.trans e3) hp) ((e2.trans e3).trans e4) h4⟩
theorem eu_call2UL {D : Hp → List V → List V → Prop} {us ys xs : List V} {E : XK} (ha : EvU ta σ H us) (hb : EvL tb σ H ys) (hs : ∀ p r H1, Ex H H1 → H1 p = some (.tup us) → H1 r = some (.lst ys) → D H1 [.ref p, .ref r] xs) : EvU (tCall (spU D) [] E (tCons ta (tCons tb tNil))) σ H xs := fun H1 e Q q =>
  ha H1 e _ fun p H2 _ e2 h2 => hb H2 (e.trans e2) _ fun r H3 _ e3 h3 => ⟨xs, hs p r H3 ((e.trans e2).trans e3) (e3 _ _ h2) h3, fun p' H4 hp e4 h4 => q p' H4 (fresh_back (e2.trans e3) hp) ((e2.trans e3).trans e4) h4⟩
theorem f_par3 {D : Ends} {i j l : Nat} {ta : TA} (h : ta σ H fun vs H1 => ∃ u v w, vs = [u, v, w] ∧ D.nx (((σ.set i (some u)).set j (some v)).set l (some w)) H1) : tPar3 i j l ta D σ H := h
theorem f_par33 {u v w : V} {R : V → V → V → Prop} (q : R u v w) : ∃ a b c, [u, v, w] = [a, b, c] ∧ R a b c := ⟨u, v, w, rfl, q⟩
end
/-! ### lists of tuples of ints -/
/-- all tuples are kept -/
def KT (H H' : Hp) : Prop := ∀ q xs, H q = some (.tup xs) → H' q = some (.tup xs)
theorem KT.ex {H H' : Hp} (e : Ex H H') : KT H H' := fun q xs h => e q _ h
theorem KT.trans {H H1 H2 : Hp} (a : KT H H1) (b : KT H1 H2) : KT H H2 := fun q xs h => b q xs (a q xs h)
theorem KT.kp {H H' : Hp} {s d : Addr} {B : Nat} (S : Src H s d B) (k : Kp s d H H') : KT H H' := fun q xs h => by
  obtain ⟨ds, a, m, c, g1, g2, _⟩ := S.ex
  exact k q _ (ne_of h g1 (by intro z; cases z)) (ne_of h g2 (by intro z; cases z)) h
theorem KT.upd {H : Hp} {l : Addr} {xs ys : List V} (h : H l = some (.lst xs)) : KT H (upd H l (.lst ys)) := fun q zs g => by
  rw [upd_ne (ne_of g h (by intro z; cases z))]; exact g
def TupsAt (H : Hp) : List V → List (List Int) → Prop := Paired fun v xs => ∃ q, v = .ref q ∧ H q = some (.tup (xs.map V.int))
theorem TupsAt.kt {H H' : Hp} (k : KT H H') : ∀ {vs : List V} {xs : List (List Int)}, TupsAt H vs xs → TupsAt H' vs xs
  | _, _, .nil => .nil
  | _, _, .cons ⟨q, e, h⟩ t => .cons ⟨q, e, k q _ h⟩ (TupsAt.kt k t)
theorem TupsAt.snoc {H : Hp} {q : Addr} {ys : List Int} (h : H q = some (.tup (ys.map V.int))) : ∀ {vs : List V} {xs : List (List Int)}, TupsAt H vs xs → TupsAt H (vs ++ [.ref q]) (xs ++ [ys])
  | _, _, .nil => .cons ⟨q, rfl, h⟩ .nil
  | _, _, .cons a t => .cons a (TupsAt.snoc h t)
theorem TupsAt.dpa {K : PySem.W.Frag} {H : Hp} : ∀ {vs : List V} {xs : List (List Int)}, TupsAt H vs xs → DpAll K H vs (xs.map fun x => PyData.tuple (x.map PyData.int))
  | _, _, .nil => .nil
  | _, _, .cons ⟨q, e, h⟩ t => by subst e; exact .cons (dp_date (st_of h)) (TupsAt.dpa t)
theorem TupsAt.len {H : Hp} {vs : List V} {xs : List (List Int)} (h : TupsAt H vs xs) : vs.length = xs.length := Paired.length h
theorem Src.upd {H : Hp} {s d l : Addr} {B : Nat} {o : HO} (S : Src H s d B) (f : l ≠ s ∧ l ≠ d) : Src (upd H l o) s d B := by
  obtain ⟨ds, a, m, c, g1, g2, g3⟩ := S.ex
  exact ⟨ds, a, m, c, by rw [upd_ne f.1.symm]; exact g1, by rw [upd_ne f.2.symm]; exact g2, g3⟩
theorem okd_tups {n : Nat} {xs : List (List Int)} (hl : xs.length ≤ 10000) (h : ∀ x, x ∈ xs → x.length ≤ 10000) : okd (n + 2) (.list (xs.map fun x => PyData.tuple (x.map PyData.int))) := by
  refine ⟨by rw [List.length_map]; exact hl, fun d hd => ?_⟩
  obtain ⟨x, hx, rfl⟩ := List.mem_map.mp hd
  exact ⟨by rw [List.length_map]; exact h x hx, okd_ints _ _⟩
end Mc
namespace Mc
open PySem L2 Evl
/-! ### set(xs) of a list of ints -/
section
variable {P : Program} {w : World} {A : Around} {E : Value → Shared → Prop} {s : Shared}
/-- the new set, empty -/
def freshSet (w : World) : Obj := { cls := .type "set", dict := none, data := .set #[] 0 (.fresh 0 0 (!w.params.followText "set-order")) }
/-- the list's iterator at its start -/
def freshIt (l : Addr) : Obj := { cls := .type "list_iterator", data := .fields #[.ref l, .int 0 0] }
/-- the fill of the new set from the list -/
theorem fill_set {l : Addr} {items : Array Value} {ns : List Int} {R : Result → Shared → Prop} (hh : A.in1.handled = none) (hl : s.heap.IsList l items) (hit : PyProof.Rows.IntsAre items.toList ns) (hb : ns.length + 1 < scanBound)
    (h : ∀ (h' : Heap) (tk c : Nat), SetR w h' s.heap.objs.size (fun j => decide (j ∈ ns)) c → c ≤ ns.length → (∀ b o, s.heap.get? b = some o → h'.get? b = some o) → R (.ok (.ret .none)) { s with heap := h', toks := tk }) (t0 : Nat) :
    codeAny (model P w) A (.builtin "set.update.loop" ⟨[.ref s.heap.objs.size, .ref (s.heap.push (freshSet w)).objs.size], []⟩) R { s with heap := (s.heap.push (freshSet w)).push (freshIt l), toks := t0 } := by
  have sz : (s.heap.push (freshSet w)).objs.size = s.heap.objs.size + 1 := Heap.size_push ..
  have lt : l < s.heap.objs.size := by obtain ⟨o, ho, _⟩ := hl; exact Heap.lt_size ho
  have n1 : items.size = ns.length := by have q := hit.length; rwa [Array.length_toList] at q
  have hl1 : (s.heap.push (freshSet w)).IsList l items := hl.push _
  have val : ∀ (i : Nat) (v : Value), items[i]? = some v → ∃ k t, ns[i]? = some k ∧ v = .int k t := fun i v hv => by
    have hi : i < ns.length := n1 ▸ (Array.getElem?_eq_some_iff.mp hv).1
    obtain ⟨t, e⟩ := PyProof.Rows.IntsAre.int_at hit i v (by rw [Array.getElem?_toList, hv])
    exact ⟨ns[i], t, List.getElem?_eq_getElem hi, by rw [e, List.getD_eq_getElem?_getD, List.getElem?_eq_getElem hi]; rfl⟩
  have far : s.heap.objs.size ∉ [(s.heap.push (freshSet w)).objs.size, l] := by
    rw [sz]; simp only [List.mem_cons, List.mem_singleton, List.not_mem_nil, or_false, not_or]; exact ⟨Nat.ne_of_lt (Nat.lt_succ_self _), Nat.ne_of_gt lt⟩
  have old : ((s.heap.push (freshSet w)).push (freshIt l)).get? s.heap.objs.size = some (freshSet w) := Heap.get?_push_of_some _ (Heap.get?_push_size _ rfl)
  refine set_update_ints ((Walks.list hh _ l (by rw [sz]; exact Nat.ne_of_lt (Nat.lt_succ_of_lt lt)) items).toS) s.heap.objs.size far ns n1 hb val items.size 0 _ (by omega) (Nat.zero_le _) ⟨⟨_, Heap.get?_push_size _ rfl, rfl, rfl⟩, hl1.push _⟩ ⟨0, Nat.le_refl 0, setR_new_at old⟩ fun s' c hm hc hS => ?_
  obtain ⟨h', g', d', tk, os'⟩ := s'
  cases hm.gens
  cases hm.drawn
  cases hm.os
  refine h h' tk c hS (n1 ▸ hc) fun b o e => hm.heap b o ?_ (Heap.get?_push_of_some _ (Heap.get?_push_of_some _ e))
  have lb := Heap.lt_size e
  rw [sz]; simp only [List.mem_cons, List.mem_singleton, List.not_mem_nil, or_false, not_or]; exact ⟨Nat.ne_of_lt lb, Nat.ne_of_lt (Nat.lt_succ_of_lt lb)⟩
/-- the state in which the set was made -/
def withSet (w : World) (s : Shared) : Shared := { s with heap := s.heap.push (freshSet w) }
/-- what the fill leaves -/
def Filled (w : World) (s : Shared) (ns : List Int) (s2 : Shared) : Prop := ∃ (h' : Heap) (tk c : Nat), s2 = { s with heap := h', toks := tk } ∧ SetR w h' s.heap.objs.size (fun j => decide (j ∈ ns)) c ∧ c ≤ ns.length ∧ ∀ b o, s.heap.get? b = some o → h'.get? b = some o
set_option maxHeartbeats 1000000 in
theorem set_init_list {l : Addr} {items : Array Value} (ns : List Int) (hh : A.handled = none) (hl : s.heap.IsList l items) (hit : PyProof.Rows.IntsAre items.toList ns) (hb : ns.length + 1 < scanBound) :
    codeAny (model P w) A (.call (.builtin "set.__init__") ⟨[.ref s.heap.objs.size, .ref l], []⟩) (wants (fun r s2 => r = .none ∧ Filled w s ns s2) E) (withSet w s) := by
  have made : (withSet w s).heap.get? s.heap.objs.size = some (freshSet w) := Heap.get?_push_size _ rfl
  have tyS : (withSet w s).TypeIs (.ref s.heap.objs.size) "set" := ⟨_, made, rfl⟩
  have hl0 := hl
  obtain ⟨⟨cl, dd, da, sl⟩, g1, g2, nn, g3⟩ := hl
  simp only at g2 g3
  subst g2; subst g3
  have g4 : (withSet w s).heap.get? l = some { cls := .type "list", dict := dd, data := .seq items nn, slots := sl } := Heap.get?_push_of_some _ g1
  have u1 := PySem.F.sub_list_set
  have u2 := PySem.F.sub_list_frozenset
  have u3 : (Value.type "list" == Value.type "dict") = false := by decide
  refine codeAny_call_builtin PySem.F.called_set.init.plain PySem.F.entry_set_init (check_set_init_1 tyS ?_)
  unfold Builtin.«set.__init__» noKeywords Builtin.Frozenset.updateFrom
  generalize hg : pyIter = walker
  wp_walk
  subst hg
  refine wpAny_pyIter_list (hl0.push _) ?_
  refine wpAny_bind (wpAny_runValue ?_)
  refine fill_set (by simp [hh]) hl0 hit hb (fun h' tk c a b d => ?_) _
  show wpAny _ _ _ _ _ _
  refine wpAny_pure ?_
  show wpAny _ _ (ret Value.none) _ _ _
  exact wpAny_pure ⟨rfl, h', tk, c, rfl, a, b, d⟩
set_option maxHeartbeats 1000000 in
theorem set_of_list {l : Addr} {items : Array Value} (ns : List Int) {Q : Value → Shared → Prop} (hh : A.handled = none) (hl : s.heap.IsList l items) (hit : PyProof.Rows.IntsAre items.toList ns) (hb : ns.length + 1 < scanBound)
    (done : ∀ (h' : Heap) (tk c : Nat), SetR w h' s.heap.objs.size (fun j => decide (j ∈ ns)) c → c ≤ ns.length → (∀ b o, s.heap.get? b = some o → h'.get? b = some o) → Q (.ref s.heap.objs.size) { s with heap := h', toks := tk }) :
    wpAny (model P w) A (call (.type "set") [.ref l]) Q E s := by
  have m1 := PySem.F.called_set.made
  have m2 := PySem.F.called_set.sub
  have m3 := PySem.F.called_set.notType
  have m4 := PySem.F.called_set.canCreate
  have m5 := PySem.F.typeCall_set_1 (.ref l)
  have m6 := PySem.F.called_set.init.lookup
  have m7 := PySem.F.called_set.init.bind (.ref s.heap.objs.size)
  obtain ⟨c0, tl0, m8⟩ := PySem.F.called_set.mro
  refine wpAny_call (codeAny_of_tree ?_)
  show wpAny _ _ (callAny (Value.type "set") _) _ _ _
  refine wpAny_pure ⟨Code.quiet_builtin _ (by decide +kernel), codeAny_builtin PySem.F.entry_type_call ?_⟩
  rw [Around.under_plain (weight_type_call_type "set" [.ref l] []) rfl]
  repeat (any_goals (first | assumption | wp_step))
  have made : (withSet w s).heap.get? s.heap.objs.size = some (freshSet w) := Heap.get?_push_size _ rfl
  refine codeAny_mono (code_set_led1 (.ref l) (E := E) (Q₁ := fun obj s₁ => obj = .ref s.heap.objs.size ∧ s₁ = withSet w s) ⟨rfl, rfl⟩) fun r s₁ hr => ?_
  match r, hr with
  | .error e, hr => exact hr
  | .ok (.ret obj), hr =>
    obtain ⟨rfl, rfl⟩ := hr
    have tyS : (withSet w s).TypeIs (.ref s.heap.objs.size) "set" := ⟨_, made, rfl⟩
    repeat (any_goals (first | assumption | wp_step))
    refine codeAny_mono (set_init_list (E := E) ns (by simp [hh]) hl hit hb) fun r2 s2 h2 => ?_
    match r2, h2 with
    | .error e, h2 => exact h2
    | .ok (.ret v), h2 =>
      obtain ⟨rfl, h', tk, c, rfl, a, b, d⟩ := h2
      repeat (any_goals (first | assumption | wp_step))
      exact done h' tk c a b d
end
/-! ### sorted, of a set of any size -/
section
open PySem.Spec PyProof.Rows
variable {P : Program} {w : World} {A : Around} {E : Value → Shared → Prop} {s : Shared} {a : Addr}
theorem sortedA {S : Int → Bool} {n : Nat} {Q : Value → Shared → Prop} (R : SetR w s.heap a S n) (hh : A.handled = none) (h64 : n ≤ 100000)
    (q : ∀ s' p (out : Array Value) (c : Nat) (ns : List Int), (∀ b o, s.heap.get? b = some o → s'.heap.get? b = some o) → s'.gens = s.gens → s'.os = s.os → s.heap.objs.size ≤ p → s'.heap.get? p = some (seqObj "list" out c) → IntsAre out.toList ns → ns.Pairwise (· < ·) → (∀ k, k ∈ ns ↔ S k = true) → ns.length = n → Q (.ref p) s') : wpAny (model P w) A (call (.builtin "sorted") [.ref a]) Q E s := by
  obtain ⟨o, es, ep, t, r1, r2, r3, r4, r5, r6, r7, r8, r9, r10, r11⟩ := R
  have hL : n ≤ sizeLine := by rw [sizeLine_eq]; omega
  refine Calls.call_function_entry kind_sorted plain_sorted entry_sorted (args_sorted1 _) ?_
  show wpAny _ _ (Builtin.«sorted» _) _ _ _
  unfold Builtin.«sorted»
  refine wpAny_bind (m := checkCount "sorted" 1 1 _) (wpAny_pure (wpAny_bind (collect_set (A := A.in1) hh ⟨o, r1, r2.1, r3⟩ r8 r7 r10 r11 fun s1 vs k1 hz g1 o1 pm => ?_)))
  have el : vs.length = n := by rw [pm.length_eq, List.length_map, Array.length_toList, ← r9]
  have iv : IntsAre vs (vs.map Builtin.Re.reRawOf) := ints_of vs fun v hv => by
    obtain ⟨e, he, rfl⟩ := List.mem_map.mp (pm.mem_iff.mp hv)
    obtain ⟨k, tk, z, _⟩ := r4 e he
    exact ⟨k, tk, z⟩
  have pk : (vs.map Builtin.Re.reRawOf).Perm (es.toList.map keyOf) := List.map_map (f := Prod.snd) (g := Builtin.Re.reRawOf) ▸ pm.map Builtin.Re.reRawOf
  have at_ : (s1.heap.push (seqObj "list" vs.toArray 0)).get? s1.heap.objs.size = some (seqObj "list" vs.toArray 0) := Heap.get?_push_size _ rfl
  refine wpAny_bind (wpAny_newList (wpAny_bind (wpAny_holding (wpAny_call_entry slot_list_sort ⟨_, at_, rfl⟩ entry_list_sort (list_sort_treeAny at_ iv (el ▸ hL) fun out zs a1 a2 a3 => ⟨_, rfl, ?_⟩) (args_list_sort _)))) (el ▸ hL))
  obtain ⟨c, hc⟩ := sortedHeap_at (vs := vs) (out := out) at_
  have pz : zs.Perm (es.toList.map keyOf) := a2.trans pk
  refine wpAny_pure ⟨_, rfl, q _ s1.heap.objs.size out c zs (fun b u g => ?_) g1 o1 hz hc a1 (lt_of_le_nodup zs a3 (pz.nodup_iff.mpr r5)) (fun k => (pz.mem_iff).trans (r6 k).symm) (by rw [pz.length_eq, List.length_map, Array.length_toList, ← r9])⟩
  have g' := k1 b u g
  have bl := Heap.lt_size g'
  exact (sortedHeap_old (Nat.ne_of_lt bl) (by rw [size_push']; exact Nat.lt_succ_of_lt bl)).trans (Heap.get?_push_of_some _ g')
end
section
variable {X : Cx}
/-- sorted(found) -/
def rSortedA (w : World) : List V → Hp → VK → Prop := fun vs H Q => ∃ (a : Addr) (S : Int → Bool) (n : Nat), vs = [V.ref a] ∧ H a = some (SetO w a S n) ∧ n ≤ 4000 ∧ ∀ (ns : List Int) (p : Addr), ns.Pairwise (· < ·) → (∀ k : Int, k ∈ ns ↔ S k = true) → ns.length = n → H p = none → Q (.ref p) (upd H p (.lst (ns.map V.int)))
theorem cr_sortedA (hc : X.calm = true) : CallR X (.builtin "sorted") (rSortedA X.w) := by
  intro pins s σ H vs us Q I r h
  obtain ⟨a, S, n, rfl, ha, hn, q⟩ := h
  have R := setO_get I ha
  rw [Vals.ref1 r]
  refine sortedA R (I.ok.hd hc) (by omega) fun s' p out c ns k g o hp hg hi hs hm hl => ?_
  have hz : (ns.map V.int).length ≤ sizeLine := by rw [List.length_map, sizeLine_eq, hl]; omega
  have np : H p = none := I.hok.fresh hp
  obtain ⟨h1, h2, h3, h4⟩ : s'.os = s.os ∧ True ∧ True ∧ True := ⟨o, trivial, trivial, trivial⟩
  have J : Inv X pins σ (upd H p (.lst (ns.map V.int))) { s with heap := s'.heap, gens := s'.gens, drawn := s'.drawn, toks := s'.toks } := I.call (ch := []) (Un.laid k hp np) (I.hok.laid k hp ⟨hz, out.toList, c, vals_of_ints hi, hg⟩) (by rw [g]; exact I.bare) fun _ z => nomatch z
  have es : s' = { s with heap := s'.heap, gens := s'.gens, drawn := s'.drawn, toks := s'.toks } := by
    cases s'; cases s; cases o; rfl
  rw [es]
  exact ⟨.ref p, _, J, rfl, q ns p hs hm hl np⟩
/-- sorted(xs) of a list of ints -/
def rSortedLA (K : PySem.W.Frag) : List V → Hp → VK → Prop := fun vs H Q => ∃ (a : Addr) (xs : List Int), vs = [V.ref a] ∧ SqL K H a (xs.map V.int) ∧ xs.length ≤ 100000 ∧ ∀ (ns : List Int) (p : Addr), ns.Perm xs → ns.Pairwise (· ≤ ·) → H p = none → Q (.ref p) (upd H p (.lst (ns.map V.int)))
theorem cr_sortedLA : CallR X (.builtin "sorted") (rSortedLA X.K) := by
  intro pins s σ H vs us Q I r h
  obtain ⟨a, xs, rfl, hs, hz, q⟩ := h
  obtain ⟨its, rv, pl, _⟩ := I.list hs
  have iv := rv.ints
  have hL : xs.length ≤ sizeLine := by rw [sizeLine_eq]; omega
  rw [Vals.ref1 r]
  refine PyProof.Rows.sorted_intsAny pl.isList iv (by rw [iv.length]; exact hL) fun out ns h1 h2 h3 => ?_
  obtain ⟨ep, he⟩ := PyProof.Rows.sortedAll_at s.heap its out
  have nz : (ns.map V.int).length ≤ sizeLine := by rw [List.length_map, h2.length_eq]; exact hL
  exact ⟨.ref _, upd H (s.heap.objs.size + 1) (.lst (ns.map V.int)), I.laid (t' := s.toks) (fun _ _ => PyProof.Rows.sortedAll_old) (Nat.le_succ _) ⟨nz, out.toList, ep, vals_of_ints h1, he⟩, rfl, q ns _ h2 h3 (I.hok.fresh (Nat.le_succ _))⟩
end
end Mc
namespace Mc
open PySem L2 Evl
section
variable {X : Cx}
def rSetL (K : PySem.W.Frag) (w : World) : List V → Hp → VK → Prop := fun xs H Q => ∃ (l : Addr) (ns : List Int), xs = [.ref l] ∧ SqL K H l (ns.map V.int) ∧ ns.length ≤ 4000 ∧ ∀ p c, H p = none → c ≤ ns.length → Q (.ref p) (upd H p (SetO w p (fun j => decide (j ∈ ns)) c))
theorem cr_setL (hc : X.calm = true) : CallR X (.type "set") (rSetL X.K X.w) := by
  intro pins s σ H xs us Q I r h
  obtain ⟨l, ns, rfl, hS, hl, q⟩ := h
  obtain ⟨its, rv, pl, hz⟩ := I.list hS
  rw [Vals.ref1 r]
  refine set_of_list ns (I.ok.hd hc) pl.isList (by simpa using rv.ints) (by unfold scanBound; omega) fun h' tk c R hcn k => ?_
  exact ⟨.ref _, upd H s.heap.objs.size (SetO X.w s.heap.objs.size (fun j => decide (j ∈ ns)) c), I.laid (t' := tk) k (Nat.le_refl _) (setO_new R), rfl, q _ _ (I.hok.fresh (Nat.le_refl _)) hcn⟩
end
/-! ### the members of a list, ascending -/
def insI (k : Int) : List Int → List Int
  | [] => [k]
  | x :: r => if k < x then k :: x :: r else if k = x then x :: r else x :: insI k r
def srt (ns : List Int) : List Int := ns.foldr insI []
theorem mem_insI {k j : Int} : ∀ {ns : List Int}, j ∈ insI k ns ↔ j = k ∨ j ∈ ns
  | [] => by simp [insI]
  | x :: r => by
    have ih := mem_insI (k := k) (j := j) (ns := r)
    unfold insI
    split
    · simp
    · split
      · next h => subst h; simp
      · rw [List.mem_cons, ih, List.mem_cons]
        constructor
        · rintro (h | h | h)
          · exact .inr (.inl h)
          · exact .inl h
          · exact .inr (.inr h)
        · rintro (h | h | h)
          · exact .inr (.inl h)
          · exact .inl h
          · exact .inr (.inr h)
theorem pw_insI {k : Int} : ∀ {ns : List Int}, ns.Pairwise (· < ·) → (insI k ns).Pairwise (· < ·)
  | [], _ => by simp [insI]
  | x :: r, h => by
    have h1 := List.pairwise_cons.mp h
    unfold insI
    split
    · next hk => exact List.pairwise_cons.mpr ⟨fun y hy => by
        rcases List.mem_cons.mp hy with rfl | hy
        · exact hk
        · exact Int.lt_trans hk (h1.1 y hy), h⟩
    · split
      · exact h
      · next hk he => exact List.pairwise_cons.mpr ⟨fun y hy => by
          rcases mem_insI.mp hy with rfl | hy
          · omega
          · exact h1.1 y hy, pw_insI h1.2⟩
theorem mem_srt {j : Int} : ∀ {ns : List Int}, j ∈ srt ns ↔ j ∈ ns
  | [] => by simp [srt]
  | x :: r => by
    have ih := mem_srt (j := j) (ns := r)
    show j ∈ insI x (srt r) ↔ _
    rw [mem_insI, ih, List.mem_cons]
theorem pw_srt : ∀ (ns : List Int), (srt ns).Pairwise (· < ·)
  | [] => List.Pairwise.nil
  | x :: r => pw_insI (pw_srt r)
theorem asc_uniq : ∀ {as bs : List Int}, as.Pairwise (· < ·) → bs.Pairwise (· < ·) → (∀ k, k ∈ as ↔ k ∈ bs) → as = bs
  | [], [], _, _, _ => rfl
  | [], b :: bs, _, _, h => absurd ((h b).mpr (List.mem_cons_self ..)) (by simp)
  | a :: as, [], _, _, h => absurd ((h a).mp (List.mem_cons_self ..)) (by simp)
  | a :: as, b :: bs, ha, hb, h => by
    have a1 := List.pairwise_cons.mp ha
    have b1 := List.pairwise_cons.mp hb
    have e : a = b := by
      rcases List.mem_cons.mp ((h a).mp (List.mem_cons_self ..)) with e | e
      · exact e
      · rcases List.mem_cons.mp ((h b).mpr (List.mem_cons_self ..)) with e' | e'
        · exact e'.symm
        · have := b1.1 a e; have := a1.1 b e'; omega
    subst e
    rw [asc_uniq a1.2 b1.2 fun k => ⟨fun hk => ?_, fun hk => ?_⟩]
    · rcases List.mem_cons.mp ((h k).mp (List.mem_cons_of_mem _ hk)) with e | e
      · subst e; exact absurd (a1.1 k hk) (Int.lt_irrefl _)
      · exact e
    · rcases List.mem_cons.mp ((h k).mpr (List.mem_cons_of_mem _ hk)) with e | e
      · subst e; exact absurd (b1.1 k hk) (Int.lt_irrefl _)
      · exact e
theorem srt_eq {as bs : List Int} (h : ∀ k, k ∈ as ↔ k ∈ bs) : srt as = srt bs := asc_uniq (pw_srt as) (pw_srt bs) fun k => by rw [mem_srt, mem_srt]; exact h k
section
variable {K : PySem.W.Frag} {w : World} {σ : L2.St} {H : Hp} {te : TE}
theorem sorted_step {l : Addr} {ns : List Int} {H H1 H2 : Hp} {Q : VK} (e : Ex H H1) (e2 : Ex H1 H2) (hs : SqL K H2 l (ns.map V.int)) (hn : ns.length ≤ 4000) (q : ∀ p H3, H1 p = none → Ex H1 H3 → H3 p = some (.lst ((srt ns).map V.int)) → Q (.ref p) H3) :
    tCons (fun _ H Q => rSetL K w [.ref l] H Q) tNil σ H2 fun vs H3 => rSortedA w vs H3 Q :=
  ⟨l, ns, rfl, hs, by omega, fun p c hp hc => ⟨p, _, c, rfl, upd_same, by omega, fun ks p2 k1 k2 k3 hp2 => by
    have e3 : ks = srt ns := asc_uniq k1 (pw_srt ns) fun k => by rw [k2 k, mem_srt]; simp
    subst e3
    exact q p2 _ (fresh_back (e2.trans (Ex.new hp)) hp2) ((e2.trans (Ex.new hp)).trans (Ex.new hp2)) upd_same⟩⟩
theorem el_sorted {a : Addr} {ns : List Int} (h : Ev te σ H (.ref a)) (hs : SqL K H a (ns.map V.int)) (hn : ns.length ≤ 4000) : EvL (tCB (rSortedA w) (tCons (tCB (rSetL K w) (tCons te tNil)) tNil)) σ H ((srt ns).map V.int) := fun H1 e Q q =>
  h H1 e _ fun H2 e2 => sorted_step (σ := σ) e e2 (ex_l (e.trans e2) hs) hn q
theorem el_sortedL {ns : List Int} (h : EvL te σ H (ns.map V.int)) (hn : ns.length ≤ 4000) : EvL (tCB (rSortedA w) (tCons (tCB (rSetL K w) (tCons te tNil)) tNil)) σ H ((srt ns).map V.int) := fun H1 e Q q =>
  h H1 e _ fun p H2 _ e2 h2 => sorted_step (σ := σ) e e2 (sq_of h2) hn q
/-- a def that gives a new list, as the heap says -/
def spHL (D : Hp → List V → List V → Prop) : Sp := fun vs H Q _ => ∃ xs, D H vs xs ∧ ∀ p H', H p = none → Ex H H' → H' p = some (.lst xs) → Q (.ref p) H'
theorem el_callH {D : Hp → List V → List V → Prop} {vs xs : List V} {E : XK} {ta : TA} (h : EvA ta σ H vs) (hs : ∀ H1, Ex H H1 → D H1 vs xs) : EvL (tCall (spHL D) [] E ta) σ H xs := fun H1 e Q q =>
  h H1 e _ fun H2 e2 => ⟨xs, by rw [List.append_nil]; exact hs H2 (e.trans e2), fun p H3 hp e3 h3 => q p H3 (fresh_back e2 hp) (e2.trans e3) h3⟩
theorem el_callHL {D : Hp → List V → List V → Prop} {ys xs : List V} {E : XK} (h : EvL te σ H ys) (hs : ∀ p H1, Ex H H1 → H1 p = some (.lst ys) → D H1 [.ref p] xs) : EvL (tCall (spHL D) [] E (tCons te tNil)) σ H xs := fun H1 e Q q =>
  h H1 e _ fun p H2 _ e2 h2 => ⟨xs, hs p H2 (e.trans e2) h2, fun p' H3 hp e3 h3 => q p' H3 (fresh_back e2 hp) (e2.trans e3) h3⟩
theorem el_callHN {D : Hp → List V → List V → Prop} {gV : List V → List V → List V} {vs zs xs : List V} {n m : Nat} {E : XK} {ta tk : TA} (h : EvA ta σ H vs) (hk : EvA tk σ H zs) (hn : vs.length = n) (hm : zs.length = m) (hs : ∀ H1, Ex H H1 → D H1 (gV vs zs) xs) : EvL (tCallN n m (spHL D) gV E ta tk) σ H xs := fun H1 e Q q =>
  h H1 e _ fun H2 e2 => hk H2 (e.trans e2) _ fun H3 e3 => ⟨hn, hm, xs, hs H3 ((e.trans e2).trans e3), fun p H4 hp e4 h4 => q p H4 (fresh_back (e2.trans e3) hp) ((e2.trans e3).trans e4) h4⟩
end
/-! ### slices with draws, zip -/
section
variable {K : PySem.W.Frag} {σ : L2.St} {H : Hp} {Q : VK} {te : TE} {tt : TT} {g : TG}
theorem f_sl {r : V → Option Int → Option Int → Hp → VK → Prop} {tl th : TO} (h : te σ H fun x H1 => tl σ H1 fun l H2 => th σ H2 fun u H3 => r x l u H3 Q) : tSl r te tl th σ H Q := h
theorem f_nop {R : Option Int → Hp → Prop} (h : R none H) : tNoPart σ H R := h
theorem f_part {R : Option Int → Hp → Prop} (h : te σ H fun x H1 => ∃ i, x = .int i ∧ R (some i) H1) : tPart te σ H R := h
/-- what a comprehension asks of its walk -/
def LcJ (J : It) (g : TG) (tt : TT) (te : TE) (vs : List Nat) (σ : L2.St) (H : Hp) (Q : VK) : Prop := ∀ D, H D = none → ∃ W : Nat → Nat → Hp → Prop, (∃ m, W 0 m (upd H D (.lst []))) ∧ ∀ i m H, W i m H →
  (J.stop i H ∧ Q (.ref D) H) ∨ (J.go i H ∧ ∃ Nx : Hp → Prop, (∀ H', Nx H' → ∃ m', m' < m ∧ W (i + 1) m' H') ∧ ∀ x H', J.yld i H x H' → g x (wipe σ vs) H' fun σ2 H2 => wipe σ2 vs = wipe σ vs ∧ tt σ2 H2 fun b H3 =>
    if b = true then te σ2 H3 fun y H4 => ∃ acc, H4 D = some (.lst acc) ∧ acc.length < sizeLine ∧ Nx (upd H4 D (.lst (acc ++ [y]))) else Nx H3)
theorem f_lc {wi : TI} {vs : List Nat} (h : wi σ H fun J H1 => LcJ J g tt te vs σ H1 Q) : tLc wi g tt te vs σ H Q := h
theorem f_zipL {ta : TA} {R : It → Hp → Prop} (h : ta σ H fun us H1 => ∃ (a b : Addr) (xs ys : List V), us = [.ref a, .ref b] ∧ ((SqL K H1 a xs ∧ SqL K H1 b ys ∧ R (Itz K a b) H1) ∨ (SqT K H1 a xs ∧ SqT K H1 b ys ∧ R (RZ.ItzT K a b) H1))) : RZ.iZipA K ta σ H R := h
theorem lcz {a b : Addr} {xs ys : List Int} {i j : Nat} {vs : List Nat} (f : Int → Int → Int) (hx : SqL K H a (xs.map V.int)) (hy : SqL K H b (ys.map V.int)) (hn : ys.length ≤ xs.length) (hz : ys.length ≤ 1000)
    (hw : ∀ x y : V, wipe (((wipe σ vs).set i (some x)).set j (some y)) vs = wipe σ vs) (he : ∀ (x y : Int) (H1 : Hp), Ev te (((wipe σ vs).set i (some (.int x))).set j (some (.int y))) H1 (.int (f x y)))
    (q : ∀ p H', H p = none → Ex H H' → H' p = some (.lst ((List.zipWith f xs ys).map V.int)) → Q (.ref p) H') : LcJ (Itz K a b) (gTup K 2 (gCons (gName i) (gCons (gName j) gNil))) tYes te vs σ H Q := fun D hD => by
  have zl : (List.zipWith f xs ys).length = ys.length := by rw [List.length_zipWith]; omega
  refine ⟨fun t m H' => m = ys.length - t ∧ t ≤ ys.length ∧ Ex H H' ∧ H' D = some (.lst (((List.zipWith f xs ys).take t).map V.int)), ⟨ys.length, rfl, Nat.zero_le _, Ex.new hD, upd_same⟩, ?_⟩
  rintro t m H' ⟨rfl, ht, e, hp⟩
  by_cases hlt : t < ys.length
  · have h1 : (xs.map V.int)[t]? = some (.int (xs[t]'(by omega))) := by rw [List.getElem?_map, List.getElem?_eq_getElem (by omega)]; rfl
    have h2 : (ys.map V.int)[t]? = some (.int ys[t]) := by rw [List.getElem?_map, List.getElem?_eq_getElem hlt]; rfl
    refine .inr ⟨⟨_, _, _, _, ex_l e hx, ex_l e hy, h1, h2⟩, fun H'' => Ex H H'' ∧ H'' D = some (.lst (((List.zipWith f xs ys).take (t + 1)).map V.int)), fun H'' z => ⟨ys.length - (t + 1), by omega, rfl, hlt, z⟩, ?_⟩
    rintro v H'' ⟨T, x, y, rfl, hT, rfl, f1, f2⟩
    have ex : x = .int (xs[t]'(by omega)) := Option.some.inj ((f1 _ (ex_l e hx)).symm.trans h1)
    have ey : y = .int ys[t] := Option.some.inj ((f2 _ (ex_l e hy)).symm.trans h2)
    subst ex; subst ey
    refine ⟨T, _, rfl, st_of upd_same, rfl, _, _, rfl, _, _, rfl, rfl, hw _ _, f_yes ?_⟩
    rw [if_pos rfl]
    refine f_ev (he _ _ _) fun H4 e4 => ⟨_, e4 _ _ (Ex.new hT _ _ hp), ?_, fun b o g => ?_, ?_⟩
    · exact Nat.lt_of_le_of_lt (by rw [List.length_map, List.length_take]; omega : _ ≤ 1000) (by decide)
    · rw [upd_ne (ne_of_none g hD)]; exact e4 _ _ (Ex.new hT _ _ (e _ _ g))
    · rw [upd_same, List.take_add_one, List.getElem?_eq_getElem (by omega), List.map_append, List.getElem_zipWith]; rfl
  · have et : t = ys.length := by omega
    subst et
    rw [← zl, List.take_length] at hp
    exact .inl ⟨⟨_, _, ex_l e hx, ex_l e hy, .inr (by rw [List.length_map]; exact Nat.le_refl _)⟩, q D H' hD e hp⟩
end
end Mc
namespace Mc
open PySem L2 Evl
/-! ### powers of wider numbers -/
def CPowW (i j : Int) : Prop := 0 ≤ j ∧ j ≤ 100 ∧ i.natAbs.log2 < 9000
section
variable {X : Cx}
theorem op_powW : OpR X (binaryOp .Pow) (rI CPowW fun i j => .int (i ^ j.toNat)) := opI fun i j _ _ _ _ _ hc q => by
  refine PyProof.Rows.pow_int hc.1 ?_ q
  have b : Builtin.Int.intBits i ≤ i.natAbs.log2 + 1 := by
    unfold Builtin.Int.intBits
    split <;> omega
  obtain ⟨h0, h1, h2⟩ := hc
  have z : (Builtin.Int.intBits i : Int) * j ≤ 9000 * 100 := Int.mul_le_mul (by omega) h1 h0 (by decide)
  exact Int.le_trans z (by decide)
end
theorem powW {i j : Int} {b : Nat} (h0 : 0 ≤ j) (h1 : j ≤ 100) (hb : i.natAbs < 2 ^ b) (h2 : 0 < b) (h3 : b ≤ 9000) : CPowW i j := ⟨h0, h1, Nat.lt_of_lt_of_le (PySem.Flt.log2_lt_of h2 hb) h3⟩
/-! ### the other source of draws: [digits, seed, turn] at r; B draws may still come -/
structure Rg (H : Hp) (r : Addr) (B : Nat) : Prop where
  ex : ∃ dg sd t : Int, H r = some (.lst [.int dg, .int sd, .int t]) ∧ 0 ≤ dg ∧ 0 ≤ sd ∧ sd < 2 ^ 62 ∧ 0 ≤ t ∧ t + B ≤ 2 ^ 30
theorem Rg.less {H : Hp} {r : Addr} {B B' : Nat} (S : Rg H r B) (h : B' ≤ B) : Rg H r B' := by
  obtain ⟨a, b, c, h1, h2, h3, h4, h5, h6⟩ := S.ex
  exact ⟨a, b, c, h1, h2, h3, h4, h5, by omega⟩
theorem Rg.ex_ {H H' : Hp} {r : Addr} {B : Nat} (S : Rg H r B) (e : Ex H H') : Rg H' r B := by
  obtain ⟨a, b, c, h1, h⟩ := S.ex
  exact ⟨a, b, c, e _ _ h1, h⟩
theorem Rg.free {H : Hp} {r : Addr} {B : Nat} (S : Rg H r B) {p : Addr} (h : H p = none) : p ≠ r := by
  obtain ⟨a, b, c, h1, _⟩ := S.ex
  exact (ne_of_none h1 h).symm
theorem Rg.upd {H : Hp} {r l : Addr} {B : Nat} {o : HO} (S : Rg H r B) (f : l ≠ r) : Rg (upd H l o) r B := by
  obtain ⟨a, b, c, h1, h⟩ := S.ex
  exact ⟨a, b, c, by rw [upd_ne f.symm]; exact h1, h⟩
/-- all but the source is kept -/
def Kr (r : Addr) (H H' : Hp) : Prop := ∀ b o, b ≠ r → H b = some o → H' b = some o
theorem Kr.refl {r : Addr} {H : Hp} : Kr r H H := fun _ _ _ h => h
theorem Kr.trans {r : Addr} {H H1 H2 : Hp} (a : Kr r H H1) (b : Kr r H1 H2) : Kr r H H2 := fun c o h1 h => b c o h1 (a c o h1 h)
theorem Kr.of {r : Addr} {H H' : Hp} (e : Ex H H') : Kr r H H' := fun c o _ h => e c o h
theorem Kr.l {r : Addr} {H H1 H2 : Hp} (a : Kr r H H1) (b : Ex H1 H2) : Kr r H H2 := a.trans (.of b)
theorem Kr.at {r p : Addr} {H H' : Hp} {o : HO} (k : Kr r H H') (f : p ≠ r) (h : H p = some o) : H' p = some o := k p o f h
theorem Kr.new {r p : Addr} {B : Nat} {H H' : Hp} (k : Kr r H H') (S : Rg H' r B) (h : H' p = none) : H p = none := by
  have f := S.free h
  rcases e : H p with _ | o
  · rfl
  · rw [k.at f e] at h; cases h
def spRng (K : PySem.W.Frag) : Sp := fun vs H Q _ => ∃ (a : Addr) (ns : List Int), vs = [.ref a] ∧ SqL K H a (ns.map V.int) ∧ ns.length ≤ 63 ∧ ∀ r H', H r = none → Rg H' r (2 ^ 29) → Ex H H' → Q (.ref r) H'
def spRdraw : Sp := fun vs H Q _ => ∃ (r : Addr) (many : Int) (B : Nat), vs = [.ref r, .int many] ∧ 0 < many ∧ many ≤ 10 ^ 60 ∧ Rg H r (B + 1) ∧ ∀ n H', 0 ≤ n → n < many → Rg H' r B → Kr r H H' → Q (.int n) H'
theorem f_rdraw {H : Hp} {r : Addr} {B : Nat} {many : Int} {Q : VK} {E : XK} (S : Rg H r (B + 1)) (h0 : 0 < many) (hb : many ≤ 10 ^ 60) (q : ∀ n H', 0 ≤ n → n < many → Rg H' r B → Kr r H H' → Q (.int n) H') :
    spRdraw ([.ref r, .int many] ++ []) H Q E := ⟨r, many, B, rfl, h0, hb, S, q⟩
section
variable {K : PySem.W.Frag} {σ : L2.St} {H : Hp} {Q : VK} {te : TE}
theorem f_newLr {r : Addr} {B : Nat} {xs : List V} {R : Addr → Prop} (S : Rg H r B) (hz : xs.length ≤ 1000) (q : ∀ p, H p = none → p ≠ r → Rg (upd H p (.lst xs)) r B → Ex H (upd H p (.lst xs)) → (upd H p (.lst xs)) p = some (.lst xs) → R p) : xs.length ≤ sizeLine ∧ ∀ p, H p = none → R p :=
  ⟨sz1000 hz, fun p hp => q p hp (S.free hp) (S.ex_ (Ex.new hp)) (Ex.new hp) upd_same⟩
theorem f_catLr {r : Addr} {B : Nat} {a b : Addr} {xs ys : List V} (S : Rg H r B) (ha : H a = some (.lst xs)) (hb : H b = some (.lst ys)) (hz : xs.length + ys.length ≤ 1000) (q : ∀ p H', H p = none → p ≠ r → Rg H' r B → Ex H H' → H' p = some (.lst (xs ++ ys)) → Q (.ref p) H') : rCat (.ref a) (.ref b) H Q :=
  ⟨a, b, xs, ys, rfl, rfl, ha, hb, sz1000 hz, fun p hp => q p _ hp (S.free hp) (S.ex_ (Ex.new hp)) (Ex.new hp) upd_same⟩
/-- a, b = two values -/
theorem s_un2 {i j : Nat} {D : Ends} {a b : V} (h : EvU te σ H [a, b]) (k : ∀ H1, Ex H H1 → D.nx ((σ.set i (some a)).set j (some b)) H1) : tAsg te (gTup K 2 (gCons (gName i) (gCons (gName j) gNil))) D σ H :=
  h H (Ex.refl H) _ fun p H1 _ e hp => ⟨p, [a, b], rfl, st_of hp, rfl, a, [b], rfl, b, [], rfl, rfl, k H1 e⟩
/-- n turns, each of at most c draws and an int with φ -/
theorem lc_drawsR {vs : List Nat} {j n : Nat} {r : Addr} {B c : Nat} (φ : Int → Prop) (S : Rg H r (B + c * n)) (hn : n ≤ 1000) (hw : ∀ x, wipe ((wipe σ vs).set j (some x)) vs = wipe σ vs)
    (turn : ∀ (i : Nat) H' b, i < n → Kr r H H' → Rg H' r (b + c) → ∀ R : VK, (∀ z H2, φ z → Kr r H' H2 → Rg H2 r b → R (.int z) H2) → te ((wipe σ vs).set j (some (.int ((0 : Int) + (i : Int))))) H' R)
    (hd : ∀ (ks : List Int) (p : Addr) (H' : Hp), H p = none → p ≠ r → ks.length = n → (∀ k, k ∈ ks → φ k) → Rg H' r B → Kr r H H' → H' p = some (.lst (ks.map V.int)) → Q (.ref p) H') :
    LcR n (gName j) tYes te vs σ H Q := fun D hD => by
  have fD := S.free hD
  refine lc_range (lo := 0) (n := n) (fun i H' => ∃ ks : List Int, ks.length = i ∧ (∀ k, k ∈ ks → φ k) ∧ H' D = some (.lst (ks.map V.int)) ∧ Rg H' r (B + c * (n - i)) ∧ Kr r H H') ⟨[], rfl, (fun _ h => by simp at h), upd_same, S.ex_ (Ex.new hD), .of (Ex.new hD)⟩ (fun i H' hi ⟨ks, h1, h2, h3, h4, h5⟩ => ⟨hw _, ?_⟩) (fun H' ⟨ks, h1, h2, h3, h4, h5⟩ => hd ks D H' hD fD h1 h2 (h4.less (by omega)) h5 h3)
  have e : B + c * (n - i) = B + c * (n - (i + 1)) + c := by
    rw [show n - i = (n - (i + 1)) + 1 by omega, Nat.mul_add, Nat.mul_one]; omega
  rw [e] at h4
  refine f_yes ?_
  rw [if_pos rfl]
  refine turn i H' _ hi h5 h4 _ fun z H2 hz k2 S2 => ⟨_, k2.at fD h3, Nat.lt_of_le_of_lt (by rw [List.length_map]; omega : _ ≤ 1000) (by decide), ks ++ [z], by simp [h1], fun k hk => ?_, by rw [upd_same, List.map_append]; rfl, S2.upd fD, fun b o g1 g => ?_⟩
  · rcases List.mem_append.mp hk with h | h
    · exact h2 k h
    · rw [List.mem_singleton.mp h]; exact hz
  · rw [upd_ne (ne_of_none g hD)]
    exact k2 b o g1 (h5 b o g1 g)
end
end Mc
namespace Mc
open PySem L2 Evl
/-! ### a dict that is made and walked in one expression -/
section
variable {X : Cx}
/-- the value is locked from here on -/
def tFrz (te : TE) : TE := fun σ H Q => te σ H fun x H1 => ∃ (d : Addr) (u : HO), x = .ref d ∧ H1 d = some u ∧ Mut (some u) ∧ ∀ od, Q x (upd H1 d (.frz od u))
theorem pe_frz {e : Expr} {te : TE} (h : PE X e te) : PE X e (tFrz te) := ⟨fun pins s σ H Q I hw => thn (h.run pins s σ H _ I hw) fun v s1 ⟨x, H1, I1, r, d, u, ex, hd, mu, q⟩ => by
  obtain ⟨od, I2⟩ := I1.lock hd mu
  exact ⟨x, _, I2, r, q od⟩⟩
end
/-! ### numbers grouped -/
def putG : List (Int × List Int) → Int → Int → List (Int × List Int)
  | [], k, v => [(k, [v])]
  | (j, l) :: g, k, v => if j = k then (j, l ++ [v]) :: g else (j, l) :: putG g k v
def grp (d : Int) (ns : List Int) : List (Int × List Int) := ns.foldl (fun g n => putG g (n % d) (n / d)) []
theorem putG_len : ∀ (g : List (Int × List Int)) (k v : Int), (putG g k v).length ≤ g.length + 1
  | [], _, _ => Nat.le_refl _
  | (j, l) :: g, k, v => by
    have ih := putG_len g k v
    unfold putG
    split <;> simp <;> omega
/-- the groups as they stand in a dict's entries, in lists that are new since H0 -/
inductive GAt (H0 H : Hp) : List (Key × V) → List (Int × List Int) → Prop
  | nil : GAt H0 H [] []
  | cons {k : Int} {p : Addr} {l : List Int} {kvs : List (Key × V)} {gs : List (Int × List Int)} (n : H0 p = none) (h : H p = some (.lst (l.map V.int))) (d : ∀ kv, kv ∈ kvs → kv.2 ≠ .ref p) (t : GAt H0 H kvs gs) : GAt H0 H ((.inl k, .ref p) :: kvs) ((k, l) :: gs)
theorem GAt.len {H0 H : Hp} : ∀ {kvs : List (Key × V)} {gs : List (Int × List Int)}, GAt H0 H kvs gs → kvs.length = gs.length
  | _, _, .nil => rfl
  | _, _, .cons _ _ _ t => congrArg Nat.succ t.len
/-- kept if its lists are -/
theorem GAt.keep {H0 H H' : Hp} : ∀ {kvs : List (Key × V)} {gs : List (Int × List Int)}, GAt H0 H kvs gs → (∀ kv, kv ∈ kvs → ∀ p xs, kv.2 = .ref p → H p = some (.lst xs) → H' p = some (.lst xs)) → GAt H0 H' kvs gs
  | _, _, .nil, _ => .nil
  | _, _, .cons n h d t, k => .cons n (k _ (List.mem_cons_self ..) _ _ rfl h) d (t.keep fun kv hkv => k kv (List.mem_cons_of_mem _ hkv))
theorem GAt.ex_ {H0 H H' : Hp} {kvs : List (Key × V)} {gs : List (Int × List Int)} (g : GAt H0 H kvs gs) (e : Ex H H') : GAt H0 H' kvs gs := g.keep fun _ _ _ _ _ h => e _ _ h
theorem GAt.hit {H0 H : Hp} {k : Int} {x : V} : ∀ {kvs : List (Key × V)} {gs : List (Int × List Int)}, GAt H0 H kvs gs → valV kvs (.inl k : Key) = some x →
    ∃ (p : Addr) (l : List Int), x = .ref p ∧ H0 p = none ∧ H p = some (.lst (l.map V.int)) ∧ (k, l) ∈ gs ∧ ∀ v : Int, GAt H0 (upd H p (.lst ((l ++ [v]).map V.int))) kvs (putG gs k v)
  | _, _, .nil, h => by simp [valV_nil] at h
  | _, _, .cons (k := j) (p := p) (l := l) (kvs := kvs) (gs := gs) n h d t, hv => by
    by_cases e : j = k
    · subst e
      rw [valV_pos rfl] at hv
      refine ⟨p, l, (Option.some.inj hv).symm, n, h, List.mem_cons_self .., fun v => ?_⟩
      unfold putG
      rw [if_pos rfl]
      exact .cons n upd_same d (t.keep fun kv hkv q xs e h' => by
        rw [upd_ne (fun z => d kv hkv (by rw [e, z]))]; exact h')
    · rw [valV_neg (show ¬ (Sum.inl j : Key) = Sum.inl k from fun z => e (Sum.inl.inj z))] at hv
      obtain ⟨q, m, rfl, n', h', hm', f⟩ := t.hit hv
      have hm : ∃ kv, kv ∈ kvs ∧ kv.2 = V.ref q := by
        unfold valV at hv
        cases z : kvs.find? (fun kv => decide (kv.1 = (Sum.inl k : Key))) with
        | none => rw [z] at hv; cases hv
        | some kv => rw [z] at hv; exact ⟨kv, List.mem_of_find?_eq_some z, Option.some.inj hv⟩
      obtain ⟨kv, hkv, ek⟩ := hm
      refine ⟨q, m, rfl, n', h', List.mem_cons_of_mem _ hm', fun v => ?_⟩
      unfold putG
      rw [if_neg e]
      exact .cons n (by rw [upd_ne (fun z => d kv hkv (by rw [ek, z]))]; exact h) d (f v)
theorem GAt.miss {H0 H : Hp} {k v : Int} {p : Addr} (n : H0 p = none) (hp : H p = some (.lst ([v].map V.int))) : ∀ {kvs : List (Key × V)} {gs : List (Int × List Int)}, GAt H0 H kvs gs → (∀ kv, kv ∈ kvs → kv.2 ≠ .ref p) → valV kvs (.inl k : Key) = none → GAt H0 H (kvs ++ [(.inl k, .ref p)]) (putG gs k v)
  | _, _, .nil, _, _ => .cons n hp (fun _ h => by simp at h) .nil
  | _, _, .cons (k := j) (p := q) (l := l) (kvs := kvs) (gs := gs) n' h d t, hn, hv => by
    have e : ¬ j = k := fun e => by
      subst e
      rw [valV_pos rfl] at hv; cases hv
    rw [valV_neg (show ¬ (Sum.inl j : Key) = Sum.inl k from fun z => e (Sum.inl.inj z))] at hv
    unfold putG
    rw [if_neg e]
    refine .cons n' h (fun kv hkv => ?_) (t.miss n hp (fun kv hkv => hn kv (List.mem_cons_of_mem _ hkv)) hv)
    rcases List.mem_append.mp hkv with h1 | h1
    · exact d kv h1
    · rw [List.mem_singleton.mp h1]
      exact fun z => hn _ (List.mem_cons_self ..) z.symm
theorem GAt.news {H0 H : Hp} : ∀ {kvs : List (Key × V)} {gs : List (Int × List Int)}, GAt H0 H kvs gs → ∀ kv, kv ∈ kvs → ∃ (p : Addr) (l : List Int), kv.2 = .ref p ∧ H p = some (.lst (l.map V.int))
  | _, _, .nil, _, h => by simp at h
  | _, _, .cons n h d t, kv, hkv => by
    rcases List.mem_cons.mp hkv with rfl | h1
    · exact ⟨_, _, rfl, h⟩
    · exact t.news kv h1
theorem grp_take {d : Int} {ns : List Int} {i : Nat} {n : Int} (h : ns[i]? = some n) : grp d (ns.take (i + 1)) = putG (grp d (ns.take i)) (n % d) (n / d) := by
  unfold grp
  rw [List.take_add_one, h, List.foldl_append]; rfl
theorem grp_len (d : Int) (ns : List Int) : ∀ i, (grp d (ns.take i)).length ≤ i
  | 0 => Nat.le_refl _
  | i + 1 => by
    have ih := grp_len d ns i
    cases h : ns[i]? with
    | some n => rw [grp_take h]; exact Nat.le_trans (putG_len _ _ _) (by omega)
    | none => rw [List.take_add_one, h, Option.toList_none, List.append_nil]; omega
theorem putG_short {k v : Int} {b : Nat} : ∀ {g : List (Int × List Int)}, (∀ x, x ∈ g → x.2.length ≤ b) → ∀ x, x ∈ putG g k v → x.2.length ≤ b + 1
  | [], _, x, hx => by
    rw [List.mem_singleton.mp hx]
    show 1 ≤ b + 1
    omega
  | (j, l) :: g, h, x, hx => by
    unfold putG at hx
    split at hx
    · rcases List.mem_cons.mp hx with rfl | hx
      · have := h (j, l) (List.mem_cons_self ..)
        show (l ++ [v]).length ≤ _
        rw [List.length_append]; exact Nat.succ_le_succ this
      · exact Nat.le_succ_of_le (h x (List.mem_cons_of_mem _ hx))
    · rcases List.mem_cons.mp hx with rfl | hx
      · exact Nat.le_succ_of_le (h _ (List.mem_cons_self ..))
      · exact putG_short (fun y hy => h y (List.mem_cons_of_mem _ hy)) x hx
theorem grp_short (d : Int) (ns : List Int) : ∀ i x, x ∈ grp d (ns.take i) → x.2.length ≤ i
  | 0, x, hx => by simp [grp] at hx
  | i + 1, x, hx => by
    have ih := grp_short d ns i
    cases h : ns[i]? with
    | some n => rw [grp_take h] at hx; exact putG_short ih x hx
    | none => rw [List.take_add_one, h, Option.toList_none, List.append_nil] at hx; exact Nat.le_succ_of_le (ih x hx)
def spSplit (K : PySem.W.Frag) : Sp := fun vs H Q _ => ∃ (l : Addr) (ns : List Int) (d : Int), vs = [.ref l, .int d] ∧ SqL K H l (ns.map V.int) ∧ 0 < d ∧ d ≤ 10 ^ 60 ∧ ns.length ≤ 1000 ∧
  ∀ (a : Addr) (kvs : List (Key × V)) (H' : Hp), H a = none → Ex H H' → H' a = some (.dK kvs) → GAt H H' kvs (grp d ns) → Q (.ref a) H'
section
variable {K : PySem.W.Frag} {σ : L2.St} {H : Hp} {Q : VK} {te td ty tx : TE}
theorem f_dnew (q : ∀ p, H p = none → Q (.ref p) (upd H p (.dK []))) : tDNewK σ H Q := q
theorem f_dsetd (h : td σ H fun x H1 => ∃ a, x = .ref a ∧ IsD H1 a ∧ ty σ H1 fun y H2 => tx σ H2 fun z H3 => ∃ (kvs : List (Key × V)) (k : Key), H3 a = some (.dK kvs) ∧ y = kV k ∧ kvs.length < sizeLine ∧
  (∀ v, valV kvs k = some v → Q v H3) ∧ (valV kvs k = none → Q z (upd H3 a (.dK (putK kvs k z))))) : tDSetd td ty tx σ H Q := h
end
end Mc
namespace Mc
open PySem L2 Evl
/-! ### a set of ints, by a comprehension -/
section
variable {X : Cx}
/-- {elt for target in iter if ..}, elt an int -/
def tScI (w : World) (wi : TI) (g : TG) (tt : TT) (te : TE) (vs : List Nat) : TE := fun σ H Q => wi σ H fun J G => ∀ D, G D = none → ∃ W : Nat → Nat → Hp → Prop, (∃ m, W 0 m (upd G D (SetO w D (fun _ => false) 0))) ∧ ∀ i m H', W i m H' →
  (J.stop i H' ∧ Q (.ref D) H') ∨ (J.go i H' ∧ ∃ Z : Hp → Prop, (∀ U, Z U → ∃ m', m' < m ∧ W (i + 1) m' U) ∧ ∀ x U, J.yld i H' x U → g x (wipe σ vs) U fun σ2 U2 => wipe σ2 vs = wipe σ vs ∧ tt σ2 U2 fun b U3 =>
    if b = true then te σ2 U3 fun y U4 => ∃ (k : Int) (S : Int → Bool) (n : Nat), y = .int k ∧ U4 D = some (SetO w D S n) ∧ n + 1 < scanBound ∧ Z (upd U4 D (SetO w D (fun j => S j || decide (j = k)) (if S k = true then n else n + 1))) else Z U3)
theorem set_zero {w : World} {h : Heap} : SetR w (h.push (freshSet w)) h.objs.size (fun _ => false) 0 := (setR_new_at (ns := []) (Heap.get?_push_size _ rfl)).congr fun j => by simp
/-- found.add of a tracked set -/
theorem add_int {pins : List (Addr × Obj)} {σ : L2.St} {H : Hp} {s : Shared} {E : Value → Shared → Prop} {D : Addr} {S : Int → Bool} {n : Nat} {k : Int} {v : Value} {R : Value → Shared → Prop} (I : Inv X pins σ H s) (hD : H D = some (SetO X.w D S n)) (room : n + 1 < scanBound) (r : RelV (.int k) v)
    (next : ∀ u s2, Inv X pins σ (upd H D (SetO X.w D (fun j => S j || decide (j = k)) (if S k = true then n else n + 1))) s2 → R u s2) : wpAny (model X.prog X.w) X.A (call (.builtin "set.add") [.ref D, v]) R E s := by
  obtain ⟨tk, rfl⟩ := r
  refine setR_add (setO_get I hD) room fun h' sb new => next _ _ ?_
  exact I.write (t' := s.toks + 1) (by rw [hD]; trivial) (.inl rfl) (fun b u hb hu => (sb.2 b hb).trans hu) (by obtain ⟨o, _, _, _, ho, _⟩ := new; exact ⟨o, ho⟩) (setO_new new)
/-- such a comprehension as a value -/
theorem pe_scI {elt tg iter : Expr} {ifs : List Expr} {scope : Scope} {own : List (Str × Nat)} {pos : Pos} {wi : TI} {g : TG} {tt : TT} {te : TE} (hc : X.calm = true) (hN : X.N.Nodup) (hi : PI X tg iter wi) (ok : BlkOk X.N X.env.scope scope own)
    (hg : ∀ (t : Shared) (G : Hp) (C : Addr) (cl : List (Str × Addr)) (fp : List Addr), PG (X.blk t G scope (compEnvC scope cl C X.env) fp) tg g)
    (ht : ∀ (t : Shared) (G : Hp) (C : Addr) (cl : List (Str × Addr)) (fp : List Addr), PTs (X.blk t G scope (compEnvC scope cl C X.env) fp) ifs tt)
    (he : ∀ (t : Shared) (G : Hp) (C : Addr) (cl : List (Str × Addr)) (fp : List Addr), PE (X.blk t G scope (compEnvC scope cl C X.env) fp) elt te) (hs : ∀ x, foldedSetIterable iter X.env x = pure x := by intro _; rfl) :
    PE X (.SetComp elt [⟨tg, iter, ifs, 0⟩] scope pos) (tScI X.w wi g tt te (own.map (·.2))) := by
  refine ⟨fun pins s σ H Q I h => ?_⟩
  rw [PpSet.eval_SetComp]
  have reach : ∀ y ∈ scope.names, y.2 = .free → ∃ c, X.env.cells.lookup y.1 = some c := fun y hy e => (ok.free y hy e).elim (fun k => I.ok.has _ (.inl k)) fun k => I.ok.has _ (.inr k)
  refine wpAny_comprehension_free (use := none) rfl hs (closure_ok reach) ok.kind (fun y hy e => by rw [ok.uniq y hy, e]) (thn (hi.run pins s σ H _ I h) fun _ _ a1 => thn a1 fun iv t2 a2 => ?_)
  obtain ⟨it, fp, tn, J, G2, rfl, J2, T, now2, far2, q⟩ := a2
  refine PpSet.newSet_ok (newEnv_comp ?_)
  have nD : G2 t2.heap.objs.size = none := J2.hok.fresh (Nat.le_refl _)
  have old : ∀ b, b ∈ fp → b < t2.heap.objs.size := fun b hb => by
    obtain ⟨o, e, _⟩ := T.obj _ _ now2 b hb
    exact Heap.lt_size e
  generalize hD : t2.heap.objs.size = D at nD old
  obtain ⟨W, ⟨m0, w0⟩, turn⟩ := q D nD
  have J3 : Inv X pins σ (upd G2 D (SetO X.w D (fun _ => false) 0)) { t2 with heap := t2.heap.push (freshSet X.w) } := by
    subst hD
    exact J2.laid (t' := t2.toks) (fun b o e => Heap.get?_push_of_some _ e) (Nat.le_refl _) (setO_new set_zero)
  have now3 : tn 0 (t2.heap.push (freshSet X.w)) := T.keep _ _ _ now2 fun b _ o e => Heap.get?_push_of_some _ e
  have far3 : ∀ b ∈ fp, FpOk X pins (upd G2 D (SetO X.w D (fun _ => false) 0)) b ∧ b < (t2.heap.push (freshSet X.w)).objs.size := fun b hb =>
    ⟨⟨by rw [upd_ne (Nat.ne_of_lt (old b hb))]; exact (far2 b hb).1, (far2 b hb).2⟩, by rw [Heap.size_push, hD]; exact Nat.lt_succ_of_lt (old b hb)⟩
  generalize ht3 : ({ t2 with heap := t2.heap.push (freshSet X.w) } : Shared) = t3 at J3
  have hh3 : t3.heap = t2.heap.push (freshSet X.w) := by rw [← ht3]
  rw [← hh3] at now3 far3
  generalize upd G2 D (SetO X.w D (fun _ => false) 0) = G3 at J3 far3 w0
  show codeAny _ _ (.compStart (.SetComp elt [⟨tg, iter, ifs, 0⟩] scope pos) 0 (.ref it) (.ref D) (compEnvC scope (cellsFrom (({ t2 with heap := t2.heap.push (freshSet X.w) } : Shared).heap.objs.size + 1) scope.names (cloFrom X.env.cells scope.names [])) ({ t2 with heap := t2.heap.push (freshSet X.w) } : Shared).heap.objs.size X.env))
    (compPost (model X.prog X.w) X.A X.xe none (EP X pins σ Q) (.ref D) ({ t2 with heap := t2.heap.push (freshSet X.w) } : Shared).heap.objs.size) { ({ t2 with heap := t2.heap.push (freshSet X.w) } : Shared) with heap := pushCells ((({ t2 with heap := t2.heap.push (freshSet X.w) } : Shared).heap).push { cls := .type "dict", data := .dict #[] }) scope.names }
  rw [ht3]
  have J4 := block_start J3 ok hN far3
  have rg := hg t3 G3 t3.heap.objs.size (cellsFrom (t3.heap.objs.size + 1) scope.names (cloFrom X.env.cells scope.names [])) fp
  have rt := ht t3 G3 t3.heap.objs.size (cellsFrom (t3.heap.objs.size + 1) scope.names (cloFrom X.env.cells scope.names [])) fp
  have re := he t3 G3 t3.heap.objs.size (cellsFrom (t3.heap.objs.size + 1) scope.names (cloFrom X.env.cells scope.names [])) fp
  generalize hE : compEnvC scope (cellsFrom (t3.heap.objs.size + 1) scope.names (cloFrom X.env.cells scope.names [])) t3.heap.objs.size X.env = env at J4 rg rt re ⊢
  have own_at : env.locals = t3.heap.objs.size := by rw [← hE]; rfl
  generalize ht4 : ({ t3 with heap := pushCells (t3.heap.push { cls := .type "dict", data := .dict #[] }) scope.names } : Shared) = t4 at J4 ⊢
  have now4 : tn 0 t4.heap := T.keep _ _ _ now3 fun b _ o e => by rw [← ht4]; exact pushCells_keeps _ _ _ _ (Heap.get?_push_of_some _ e)
  have apart : ∀ {τ : L2.St} {U : Hp} {u : Shared}, Inv (X.blk t3 G3 scope env fp) [] τ U u → (∀ b ∈ fp, U b = none) → ∀ b ∈ fp, FpOk (X.blk t3 G3 scope env fp) [] U b := fun {τ U u} K hn b hb =>
    ⟨hn b hb, (K.ok.exf b hb).1, K.ok.exfs b hb, .inl hb, fun x c e => (K.ok.exf b hb).2 x c e, fun p hp => absurd (show p ∈ ([] : List (Addr × Obj)) ++ [] from hp) (by simp)⟩
  have go : codeAny (model X.prog X.w) X.A (.compLoop (.SetComp elt [⟨tg, iter, ifs, 0⟩] scope pos) 0 (.ref it) (.ref D) env) (compPost (model X.prog X.w) X.A X.xe none (EP X pins σ Q) (.ref D) t3.heap.objs.size) t4 := by
    refine PpSet.compLoopS_any (fun n u => ∃ i U, Inv (X.blk t3 G3 scope env fp) [] (wipe σ (own.map (·.2))) U u ∧ tn i u.heap ∧ (∀ b ∈ fp, U b = none) ∧ W i n U) ?_ m0 ⟨0, G3, J4, now4, fun b hb => (far3 b hb).1.1, w0⟩
    rintro n u5 ⟨i, U5, K5, now5, free5, w5⟩
    rcases turn i n U5 w5 with ⟨stop, last⟩ | ⟨more, Z, hZ, step⟩
    · refine thnF (T.done (X.blk t3 G3 scope env fp) rfl rfl rfl hc i [] u5 _ U5 (fun _ _ => False) K5 (apart K5 free5) now5 stop) fun r u6 ⟨hr, K6⟩ => ?_
      subst hr
      have K7 : Inv X pins σ U5 u6 := J3.call' (ch := fp) K6.os K6.base K6.hok K6.bare fun b hb => by
        obtain ⟨⟨_, z1, z2, z3, z4, z5⟩, _⟩ := far3 b hb
        exact ⟨z3, z1, z4, z5⟩
      have none5 : U5 t3.heap.objs.size = none := own_at ▸ (show U5 env.locals = none from K6.free)
      obtain ⟨m, hm, _⟩ := K6.loc
      have hm' : u6.heap.Ns t3.heap.objs.size m := own_at ▸ (show u6.heap.Ns env.locals m from hm)
      obtain ⟨f0, f1, f2, f3, f4, f5⟩ := J3.fpOk (Nat.le_refl _) none5
      exact ⟨m, hm', fun h'' sb => ⟨.ref D, U5, K7.turned (t' := u6.toks) (fun b o hb e => (sb.2 b hb).trans e) f0 f1 f3 f4 f5, rfl, last⟩⟩
    · refine thnF (T.item (X.blk t3 G3 scope env fp) rfl rfl rfl hc i [] u5 _ U5 (fun _ _ => False) K5 (apart K5 free5) now5 more) fun r u6 ⟨v, hr, a6⟩ => ?_
      subst hr
      refine thnF a6 fun _ u7 ⟨x, U7, K7, r7, y7, now7, free7⟩ => ?_
      have objs := T.obj _ _ now7
      refine thnF (rg.run _ u7 _ U7 x v _ (K7.pinned (apart K7 free7) objs) r7 (step x U7 y7)) fun _ u8 ⟨τ, U8, K8, back, q8⟩ => ?_
      refine thnF (rt.run _ u8 τ U8 _ K8 q8) fun b u9 ⟨U9, K9, q9⟩ => ?_
      have over : ∀ {u : Shared} {U : Hp}, Inv (X.blk t3 G3 scope env fp) ([] ++ pinsAt fp u7.heap) τ U u → Z U → ∃ m, m < n ∧ ∃ i U, Inv (X.blk t3 G3 scope env fp) [] (wipe σ (own.map (·.2))) U u ∧ tn i u.heap ∧ (∀ b ∈ fp, U b = none) ∧ W i m U := fun {u U} K z => by
        obtain ⟨m', lt, w'⟩ := hZ U z
        have held : ∀ b ∈ fp, ∀ o, u7.heap.get? b = some o → u.heap.get? b = some o ∧ U b = none := fun b hb o e => by
          obtain ⟨z1, z2, _⟩ := K.pin (b, o) (List.mem_append_right _ (List.mem_append_right _ (mem_pinsAt hb e)))
          exact ⟨z1, z2⟩
        refine ⟨m', lt, i + 1, U, (K.unpinned (pins := [])).weak (by rw [← back, wipe_length]) (fun j v e => (wipe_some (back ▸ e)).1), T.keep _ _ _ now7 fun b hb o e => (held b hb o e).1, fun b hb => ?_, w'⟩
        obtain ⟨o, e, _⟩ := objs b hb
        exact (held b hb o e).2
      match b, q9 with
      | false, q9 => exact over K9 q9
      | true, q9 =>
        refine thnF (re.run _ u9 τ U9 _ K9 q9) fun z u10 ⟨_, U10, K10, r10, k, S, c, ey, at10, room, nx⟩ => ?_
        subst ey
        exact add_int (X := X.blk t3 G3 scope env fp) K10 at10 room r10 fun _ u11 K11 => over K11 nx
  exact PpSet.codeAny_compStart_set go (T.self X.A 0 _ _ _ now4 go)
end
section
variable {K : PySem.W.Frag} {w : World} {σ : L2.St} {H : Hp} {tl te : TE}
theorem el_sortedSc {a : Addr} {ns : List Int} {j : Nat} {vs : List Nat} (f : Int → Int) (h : Ev tl σ H (.ref a)) (hx : SqL K H a (ns.map V.int)) (hz : ns.length ≤ 1000) (hw : ∀ x, wipe ((wipe σ vs).set j (some x)) vs = wipe σ vs)
    (he : ∀ (x : Int) (H1 : Hp), Ev te ((wipe σ vs).set j (some (.int x))) H1 (.int (f x))) : EvL (tCB (rSortedA w) (tCons (tScI w (iList K tl) (gName j) tYes te vs) tNil)) σ H ((srt (ns.map f)).map V.int) := fun H1 e Q q =>
  h H1 e _ fun H2 e2 => ⟨a, rfl, ⟨_, ex_l (e.trans e2) hx⟩, fun D hD => by
    have hx2 := ex_l (e.trans e2) hx
    have z0 : (fun _ : Int => false) = fun y => decide (y ∈ ([] : List Int)) := by funext y; simp
    refine ⟨fun t m U => m = ns.length - t ∧ t ≤ ns.length ∧ Ex H2 U ∧ ∃ c, c ≤ t ∧ U D = some (SetO w D (fun y => decide (y ∈ (ns.take t).map f)) c), ⟨ns.length, rfl, Nat.zero_le _, Ex.new hD, 0, Nat.le_refl _, by rw [upd_same, z0]; rfl⟩, ?_⟩
    rintro t m U ⟨rfl, ht, eU, c, hc, hU⟩
    have q2 := ex_l eU hx2
    by_cases hlt : t < ns.length
    · have hat : (ns.map V.int)[t]? = some (.int ns[t]) := by rw [List.getElem?_map, List.getElem?_eq_getElem hlt]; rfl
      refine .inr ⟨⟨_, _, q2, hat⟩, fun U' => Ex H2 U' ∧ ∃ c, c ≤ t + 1 ∧ U' D = some (SetO w D (fun y => decide (y ∈ (ns.take (t + 1)).map f)) c), fun U' z => ⟨ns.length - (t + 1), by omega, rfl, hlt, z⟩, fun x U' y => ?_⟩
      obtain ⟨rfl, y⟩ := y
      have ex : x = .int ns[t] := Option.some.inj ((y _ q2).symm.trans hat)
      subst ex
      refine ⟨hw _, f_yes ?_⟩
      rw [if_pos rfl]
      refine f_ev (he _ _) fun U4 e4 => ⟨f ns[t], _, c, rfl, e4 _ _ hU, Nat.lt_of_le_of_lt (show c + 1 ≤ 1001 by omega) (by decide), fun b o g => ?_, ?_⟩
      · rw [upd_ne (ne_of_none g hD)]; exact e4 _ _ (eU _ _ g)
      · refine ⟨_, ?_, by rw [upd_same]; congr 2; funext y; rw [List.take_add_one, List.getElem?_eq_getElem hlt, List.map_append]; simp [List.mem_append]⟩
        split <;> omega
    · have et : t = ns.length := by omega
      subst et
      rw [List.take_length] at hU
      refine .inl ⟨⟨_, q2, by rw [List.length_map]; exact Nat.le_refl _⟩, f_nil ⟨D, _, c, rfl, hU, by omega, fun ks p k1 k2 k3 hp => ?_⟩⟩
      have e3 : ks = srt (ns.map f) := asc_uniq k1 (pw_srt _) fun k => by rw [k2 k, mem_srt]; simp
      subst e3
      exact q p _ (fresh_back (e2.trans eU) hp) ((e2.trans eU).trans (Ex.new hp)) upd_same⟩
end
/-! ### groups: what lies in them, and a walk over them -/
theorem putG_mem {k v : Int} : ∀ {g : List (Int × List Int)} {x : Int × List Int} {u : Int}, x ∈ putG g k v → u ∈ x.2 → (x.1 = k ∧ u = v) ∨ ∃ y, y ∈ g ∧ y.1 = x.1 ∧ u ∈ y.2
  | [], x, u, hx, hu => by
    rw [List.mem_singleton.mp hx] at hu ⊢
    exact .inl ⟨rfl, List.mem_singleton.mp hu⟩
  | (j, l) :: g, x, u, hx, hu => by
    unfold putG at hx
    split at hx
    · next e =>
      rcases List.mem_cons.mp hx with rfl | hx
      · rcases List.mem_append.mp hu with h | h
        · exact .inr ⟨(j, l), List.mem_cons_self .., rfl, h⟩
        · exact .inl ⟨e, List.mem_singleton.mp h⟩
      · exact .inr ⟨x, List.mem_cons_of_mem _ hx, rfl, hu⟩
    · rcases List.mem_cons.mp hx with rfl | hx
      · exact .inr ⟨_, List.mem_cons_self .., rfl, hu⟩
      · rcases putG_mem hx hu with h | ⟨y, h1, h2⟩
        · exact .inl h
        · exact .inr ⟨y, List.mem_cons_of_mem _ h1, h2⟩
theorem grp_mem_take (d : Int) (ns : List Int) : ∀ (i : Nat) (x : Int × List Int) (u : Int), x ∈ grp d (ns.take i) → u ∈ x.2 → ∃ n, n ∈ ns ∧ n % d = x.1 ∧ n / d = u
  | 0, x, u, hx, _ => by simp [grp] at hx
  | i + 1, x, u, hx, hu => by
    have ih := grp_mem_take d ns i
    cases h : ns[i]? with
    | some n =>
      rw [grp_take h] at hx
      rcases putG_mem hx hu with ⟨h1, h2⟩ | ⟨y, h1, h2, h3⟩
      · exact ⟨n, List.mem_of_getElem? h, h1.symm, h2.symm⟩
      · obtain ⟨m, m1, m2, m3⟩ := ih y u h1 h3
        exact ⟨m, m1, by rw [m2, h2], m3⟩
    | none => rw [List.take_add_one, h, Option.toList_none, List.append_nil] at hx; exact ih x u hx hu
theorem grp_mem {d : Int} {ns : List Int} {x : Int × List Int} {u : Int} (hx : x ∈ grp d ns) (hu : u ∈ x.2) : ∃ n, n ∈ ns ∧ n % d = x.1 ∧ n / d = u := grp_mem_take d ns ns.length x u (by rw [List.take_length]; exact hx) hu
theorem putG_ne {k v : Int} : ∀ {g : List (Int × List Int)}, (∀ x, x ∈ g → x.2 ≠ []) → ∀ x, x ∈ putG g k v → x.2 ≠ []
  | [], _, x, hx => by rw [List.mem_singleton.mp hx]; simp
  | (j, l) :: g, h, x, hx => by
    unfold putG at hx
    split at hx
    · rcases List.mem_cons.mp hx with rfl | hx
      · simp
      · exact h x (List.mem_cons_of_mem _ hx)
    · rcases List.mem_cons.mp hx with rfl | hx
      · exact h _ (List.mem_cons_self ..)
      · exact putG_ne (fun y hy => h y (List.mem_cons_of_mem _ hy)) x hx
theorem grp_ne (d : Int) (ns : List Int) : ∀ x, x ∈ grp d ns → x.2 ≠ [] := by
  have key : ∀ i x, x ∈ grp d (ns.take i) → x.2 ≠ [] := fun i => by
    induction i with
    | zero => intro x hx; simp [grp] at hx
    | succ i ih =>
      intro x hx
      cases h : ns[i]? with
      | some n => rw [grp_take h] at hx; exact putG_ne ih x hx
      | none => rw [List.take_add_one, h, Option.toList_none, List.append_nil] at hx; exact ih x hx
  intro x hx
  exact key ns.length x (by rw [List.take_length]; exact hx)
theorem GAt.get {H0 H : Hp} : ∀ {kvs : List (Key × V)} {gs : List (Int × List Int)} {n : Nat} {x : Int × List Int}, GAt H0 H kvs gs → gs[n]? = some x → ∃ p, kvs[n]? = some (.inl x.1, .ref p) ∧ H0 p = none ∧ H p = some (.lst (x.2.map V.int))
  | _, _, _, _, .nil, h => by simp at h
  | _, _, 0, _, .cons (p := p) m h d t, e => by
    cases Option.some.inj e
    exact ⟨p, rfl, m, h⟩
  | _, _, n + 1, _, .cons m h d t, e => t.get (n := n) e
theorem GAt.fresh {H0 H : Hp} : ∀ {kvs : List (Key × V)} {gs : List (Int × List Int)}, GAt H0 H kvs gs → ∀ kv, kv ∈ kvs → ∀ p, kv.2 = .ref p → H0 p = none
  | _, _, .nil, _, h, _, _ => by simp at h
  | _, _, .cons m h d t, kv, hkv, p, e => by
    rcases List.mem_cons.mp hkv with rfl | h1
    · cases e; exact m
    · exact t.fresh kv h1 p e
/-- for a, b in f(..).items(), where the list at k, older than the groups, is written meanwhile -/
theorem f_forItems {td : TE} {g : TG} {tu : TS} {D : Ends} {σ : L2.St} {H : Hp} (h : iItems td σ H fun J H1 => ∃ W : Nat → Nat → L2.St → Hp → Prop, (∃ m, W 0 m σ H1) ∧ ∀ i m σ H, W i m σ H →
    (J.stop i H ∧ D.nx σ H) ∨ (J.go i H ∧ ∃ N : L2.St → Hp → Prop, (∀ σ' H', N σ' H' → ∃ m', m' < m ∧ W (i + 1) m' σ' H') ∧ ∀ x H', J.yld i H x H' → g x σ H' fun σ2 H2 => tu { D with nx := N, ct := N, bk := D.nx } σ2 H2)) : tFor (iItems td) g tu D σ H := h
theorem for_grp {K : PySem.W.Frag} {a k : Addr} {o : Obj} {kvs : List (Key × V)} {gs : List (Int × List Int)} {H0 G : Hp} {i j : Nat} {tu : TS} {D : Ends} {σ : L2.St} (ha : G a = some (.frz o (.dK kvs))) (hg : GAt H0 G kvs gs) (hk : ∃ u, H0 k = some u) (hak : a ≠ k)
    (P : Nat → L2.St → Hp → Prop) (h0 : P 0 σ G) (hs : ∀ (n : Nat) (x : Int × List Int) (p : Addr) (τ : L2.St) (U : Hp), gs[n]? = some x → P n τ U → Kr k G U → U p = some (.lst (x.2.map V.int)) → ∀ T, U T = none →
      tu { D with nx := fun τ' U' => P (n + 1) τ' U' ∧ Kr k G U', ct := fun τ' U' => P (n + 1) τ' U' ∧ Kr k G U', bk := D.nx } ((τ.set i (some (.int x.1))).set j (some (.ref p))) (upd U T (.tup [.int x.1, .ref p])))
    (hd : ∀ τ U, P gs.length τ U → Kr k G U → D.nx τ U) :
    ∃ W : Nat → Nat → L2.St → Hp → Prop, (∃ m, W 0 m σ G) ∧ ∀ n m τ U, W n m τ U →
      ((Iti a o kvs).stop n U ∧ D.nx τ U) ∨ ((Iti a o kvs).go n U ∧ ∃ N : L2.St → Hp → Prop, (∀ τ' U', N τ' U' → ∃ m', m' < m ∧ W (n + 1) m' τ' U') ∧ ∀ x U', (Iti a o kvs).yld n U x U' → gTup K 2 (gCons (gName i) (gCons (gName j) gNil)) x τ U' fun τ2 U2 => tu { D with nx := N, ct := N, bk := D.nx } τ2 U2) := by
  have hl := hg.len
  refine ⟨fun n m τ U => m = kvs.length - n ∧ n ≤ kvs.length ∧ P n τ U ∧ Kr k G U, ⟨_, rfl, Nat.zero_le _, h0, Kr.refl⟩, ?_⟩
  rintro n m τ U ⟨rfl, hn, hp, kr⟩
  have haU : U a = some (.frz o (.dK kvs)) := kr.at hak ha
  by_cases hlt : n < kvs.length
  · refine .inr ⟨⟨haU, hlt⟩, fun τ' U' => P (n + 1) τ' U' ∧ Kr k G U', fun τ' U' z => ⟨kvs.length - (n + 1), by omega, rfl, hlt, z⟩, ?_⟩
    rintro x U' ⟨T, y, v, h1, rfl, hT, rfl⟩
    have hx : gs[n]? = some gs[n] := List.getElem?_eq_getElem (hl ▸ hlt)
    obtain ⟨p, h2, h3, h4⟩ := hg.get hx
    rw [h1] at h2
    cases h2
    have hpk : p ≠ k := fun z => by
      obtain ⟨u, hu⟩ := hk
      rw [z, hu] at h3; cases h3
    exact ⟨T, _, rfl, st_of upd_same, rfl, _, _, rfl, _, _, rfl, rfl, hs n _ p τ U hx hp kr (kr.at hpk h4) T hT⟩
  · have e : n = kvs.length := by omega
    subst e
    exact .inl ⟨⟨haU, Nat.le_refl _⟩, hd τ U (hl ▸ hp) kr⟩
theorem insI_len (x : Int) : ∀ l : List Int, (insI x l).length ≤ l.length + 1
  | [] => by simp [insI]
  | y :: l => by
    have ih := insI_len x l
    unfold insI
    split <;> (try split) <;> simp <;> omega
theorem srt_len' : ∀ ns : List Int, (srt ns).length ≤ ns.length
  | [] => Nat.le_refl _
  | x :: r => by
    have ih := srt_len' r
    have := insI_len x (srt r)
    show (insI x (srt r)).length ≤ r.length + 1
    omega
theorem range_map {α : Type} (v : Int → α) (L : List Int) : (List.range L.length).map (fun i => v (L.getD i 0)) = L.map v := by
  refine List.ext_getElem? fun i => ?_
  rw [List.getElem?_map, List.getElem?_map]
  by_cases h : i < L.length
  · rw [List.getElem?_range h, List.getElem?_eq_getElem h]
    show some (v (L.getD i 0)) = some (v L[i])
    rw [List.getD_eq_getElem?_getD, List.getElem?_eq_getElem h]; rfl
  · rw [List.getElem?_eq_none (by rw [List.length_range]; omega), List.getElem?_eq_none (by omega)]; rfl
/-- [f(x) for x in ns] -/
theorem el_lcI {K : PySem.W.Frag} {σ : L2.St} {H : Hp} {tl te : TE} {a : Addr} {ns : List Int} {j : Nat} {vs : List Nat} (v : Int → V) (h : Ev tl σ H (.ref a)) (hx : SqL K H a (ns.map V.int)) (hz : ns.length ≤ 40000) (hw : ∀ x, wipe ((wipe σ vs).set j (some x)) vs = wipe σ vs)
    (he : ∀ (x : Int) H1, Ex H H1 → x ∈ ns → Ev te ((wipe σ vs).set j (some (.int x))) H1 (v x)) : EvL (tLc (iList K tl) (gName j) tYes te vs) σ H (ns.map v) := by
  have z := el_lcL (t := tYes) (te := te) (j := j) (vs := vs) (fun _ => true) (fun i => v (ns.getD i 0)) h hx (by rw [List.length_map]; exact hz) hw (fun i x H1 _ _ => et_yes rfl) fun i x H1 e hi _ => by
    rw [List.getElem?_map] at hi
    obtain ⟨n, hn, rfl⟩ := Option.map_eq_some_iff.mp hi
    have e2 : ns.getD i 0 = n := by rw [List.getD_eq_getElem?_getD, hn]; rfl
    rw [e2]
    exact he n H1 e (List.mem_of_getElem? hn)
  rw [given_all, List.length_map, range_map v ns] at z
  exact z
theorem el_listT {K : PySem.W.Frag} {σ : L2.St} {H : Hp} {ta : TE} {p : Addr} {xs : List V} (ha : Ev ta σ H (.ref p)) (h : ∀ H1, SqT K H1 p xs) : EvL (tCB (rListS K) (tCons ta tNil)) σ H xs := fun H1 e Q q =>
  ha H1 e _ fun H2 e2 => ⟨p, xs, rfl, .inr (h H2), fun l hl => q l _ (fresh_back e2 hl) (e2.trans (Ex.new hl)) upd_same⟩
theorem ev_anyL {K : PySem.W.Frag} {σ : L2.St} {H : Hp} {te : TE} {bs : List Bool} (h : EvL te σ H (bs.map V.bl)) : Ev (tCB (rAny K) (tCons te tNil)) σ H (.bl (bs.any id)) := fun H1 e Q q =>
  h H1 e _ fun p H2 _ e2 h2 => ⟨p, bs, rfl, sq_of h2, q H2 e2⟩
theorem ev_anyM {K : PySem.W.Frag} {σ : L2.St} {H : Hp} {te : TE} {ns : List Int} (f : Int → Bool) (h : EvL te σ H (ns.map fun y => V.bl (f y))) : Ev (tCB (rAny K) (tCons te tNil)) σ H (.bl ((ns.map f).any id)) := ev_anyL (bs := ns.map f) (by rw [List.map_map]; exact h)
theorem range_filter {α : Type} (v : Int → α) (φ : Int → Bool) (L : List Int) : ((List.range L.length).filter (fun i => φ (L.getD i 0))).map (fun i => v (L.getD i 0)) = (L.filter φ).map v := by
  have e : (List.range L.length).map (fun i => L.getD i 0) = L := by rw [range_map (fun x => x) L]; exact List.map_id' L
  have z : (L.filter φ).map v = (((List.range L.length).map (fun i => L.getD i 0)).filter φ).map v := by rw [e]
  rw [z, List.filter_map, List.map_map]
  rfl
/-- [v(x) for x in ns if φ(x)] -/
theorem el_lcF {K : PySem.W.Frag} {σ : L2.St} {H : Hp} {tl te : TE} {tt : TT} {a : Addr} {ns : List Int} {j : Nat} {vs : List Nat} (φ : Int → Bool) (v : Int → V) (h : Ev tl σ H (.ref a)) (hx : SqL K H a (ns.map V.int)) (hz : ns.length ≤ 40000) (hw : ∀ x, wipe ((wipe σ vs).set j (some x)) vs = wipe σ vs)
    (ht : ∀ (x : Int) H1, Ex H H1 → x ∈ ns → EvT tt ((wipe σ vs).set j (some (.int x))) H1 (φ x)) (he : ∀ (x : Int) H1, Ex H H1 → x ∈ ns → Ev te ((wipe σ vs).set j (some (.int x))) H1 (v x)) : EvL (tLc (iList K tl) (gName j) tt te vs) σ H ((ns.filter φ).map v) := by
  have at_ {i : Nat} {x : V} (hi : (ns.map V.int)[i]? = some x) : ∃ n, x = .int n ∧ n ∈ ns ∧ ns.getD i 0 = n := by
    rw [List.getElem?_map] at hi
    obtain ⟨n, hn, rfl⟩ := Option.map_eq_some_iff.mp hi
    exact ⟨n, rfl, List.mem_of_getElem? hn, by rw [List.getD_eq_getElem?_getD, hn]; rfl⟩
  have z := el_lcL (t := tt) (te := te) (j := j) (vs := vs) (fun i => φ (ns.getD i 0)) (fun i => v (ns.getD i 0)) h hx (by rw [List.length_map]; exact hz) hw (fun i x H1 e hi => by
    obtain ⟨n, rfl, hn, e2⟩ := at_ hi
    rw [e2]; exact ht n H1 e hn) fun i x H1 e hi _ => by
    obtain ⟨n, rfl, hn, e2⟩ := at_ hi
    rw [e2]; exact he n H1 e hn
  have g : given (ns.map V.int).length (fun i => φ (ns.getD i 0)) (fun i => v (ns.getD i 0)) = (ns.filter φ).map v := by
    rw [List.length_map]
    exact range_filter v φ ns
  rw [g] at z
  exact z
end Mc
namespace Mc
open PySem L2 Evl
section
variable {K : PySem.W.Frag} {σ : L2.St} {H : Hp} {Q : VK} {te ta tb tk to : TE}
/-! ### longer lists -/
theorem el_repW {xs : List V} {k : Int} (h : EvL te σ H xs) (hk : ∀ H1, Ex H H1 → Ev tk σ H1 (.int k)) (h0 : 0 ≤ k ∧ k ≤ 10000) (hz : xs.length ≤ 100) : EvL (tOp rRep te tk) σ H ((List.replicate k.toNat xs).flatten) := fun H1 e Q q =>
  h H1 e _ fun p H2 np e2 hp => hk H2 (e.trans e2) H2 (Ex.refl H2) _ fun H3 e3 => ⟨p, k, xs, rfl, rfl, e3 _ _ hp, by omega, by omega, Nat.le_trans (Nat.mul_le_mul hz (show k.toNat ≤ 10000 by omega)) (by decide), fun l hl => q l _ (fresh_back (e2.trans e3) hl) ((e2.trans e3).trans (Ex.new hl)) upd_same⟩
theorem el_catW {xs ys : List V} (h : EvL ta σ H xs) (hb : EvL tb σ H ys) (hz : xs.length + ys.length ≤ 100000) : EvL (tOp rCat ta tb) σ H (xs ++ ys) := fun H1 e Q q =>
  h H1 e _ fun p H2 _ e2 h2 => hb H2 (e.trans e2) _ fun r H3 _ e3 h3 => ⟨p, r, xs, ys, rfl, rfl, e3 _ _ h2, h3, sz_of hz, fun l hl => q l _ (fresh_back (e2.trans e3) hl) ((e2.trans e3).trans (Ex.new hl)) upd_same⟩
theorem EvL.is {xs ys : List V} (h : EvL te σ H xs) (e : xs = ys) : EvL te σ H ys := e ▸ h
theorem flat_one (k : Nat) (x : V) : (List.replicate k [x]).flatten = List.replicate k x := by
  induction k with
  | zero => rfl
  | succ k ih => rw [List.replicate_succ, List.flatten_cons, ih]; rfl
/-! ### data compared -/
theorem rv_neDp {x y : V} {d e : PyData} (hx : Dp K H x d) (hy : Dp K H y e) (sd : SeqAt.shaped d = true) (se : SeqAt.shaped e = true) : RV (rNeD K) x y H (.bl (!PyData.eqv d e)) := fun H1 x1 _ q =>
  ⟨d, e, dp_ex x1 hx, dp_ex x1 hy, sd, se, q H1 (Ex.refl H1)⟩
theorem rv_neSame {x y : V} {d : PyData} (hx : Dp K H x d) (hy : Dp K H y d) (sd : SeqAt.shaped d = true) : RV (rNeD K) x y H (.bl false) := by
  have z := rv_neDp hx hy sd sd
  rw [SeqAt.eqv_refl d (SeqAt.canLay_of_shaped sd)] at z
  exact z
theorem rv_eqSame {x y : V} {d : PyData} (hx : Dp K H x d) (hy : Dp K H y d) (sd : SeqAt.shaped d = true) : RV (rEqD K) x y H (.bl true) := by
  have z := rv_eqDp hx hy sd sd
  rw [SeqAt.eqv_refl d (SeqAt.canLay_of_shaped sd)] at z
  exact z
/-- a list of tuples of ints -/
def tupsD (xs : List (List Int)) : PyData := .list (xs.map fun x => .tuple (x.map PyData.int))
theorem shaped_tups (xs : List (List Int)) : SeqAt.shaped (tupsD xs) = true := by
  have h : ∀ xs : List (List Int), PyData.canLayAll0 (xs.map fun x => PyData.tuple (x.map PyData.int)) = true ∧ PyData.depthAll (xs.map fun x => PyData.tuple (x.map PyData.int)) ≤ 1 := by
    intro xs
    induction xs with
    | nil => exact ⟨rfl, by decide⟩
    | cons x xs ih =>
      obtain ⟨a, b⟩ := ih
      have c : PyData.canLayAll0 (x.map PyData.int) = true := PySem.W.ke_canLayAll0 x
      have d : PyData.depthAll (x.map PyData.int) = 0 := PySem.W.ke_depthAll x
      refine ⟨?_, ?_⟩
      · simp only [List.map_cons, PyData.canLayAll0, PyData.canLay0, c, a]; rfl
      · simp only [List.map_cons, PyData.depthAll, PyData.depth, d]; omega
  obtain ⟨a, b⟩ := h xs
  have c : PyData.canLay0 (tupsD xs) = true := by simp only [tupsD, PyData.canLay0]; exact a
  have d : PyData.depth (tupsD xs) ≤ 64 := by simp only [tupsD, PyData.depth]; omega
  unfold SeqAt.shaped
  rw [c, decide_eq_true d]; rfl
/-! ### what evaluates to data -/
def EvD (K : PySem.W.Frag) (te : TE) (σ : L2.St) (H : Hp) (d : PyData) : Prop := ∀ H1, Ex H H1 → ∀ Q : VK, (∀ x H2, Ex H1 H2 → Dp K H2 x d → Q x H2) → te σ H1 Q
def EvDs (K : PySem.W.Frag) (ta : TA) (σ : L2.St) (H : Hp) (ds : List PyData) : Prop := ∀ H1, Ex H H1 → ∀ Q : List V → Hp → Prop, (∀ xs H2, Ex H1 H2 → DpAll K H2 xs ds → Q xs H2) → ta σ H1 Q
/-- a new list of data -/
def EvDL (K : PySem.W.Frag) (te : TE) (σ : L2.St) (H : Hp) (ds : List PyData) : Prop := ∀ H1, Ex H H1 → ∀ Q : VK, (∀ p xs H2, H1 p = none → Ex H1 H2 → H2 p = some (.lst xs) → DpAll K H2 xs ds → Q (.ref p) H2) → te σ H1 Q
def dI (xs : List Int) : PyData := .tuple (xs.map PyData.int)
def dL (xs : List Int) : PyData := .list (xs.map PyData.int)
theorem ed_val {x : V} {d : PyData} (h : Ev te σ H x) (hd : ∀ H1, Ex H H1 → Dp K H1 x d) : EvD K te σ H d := fun H1 e Q q => h H1 e _ fun H2 e2 => q x H2 e2 (hd H2 (e.trans e2))
theorem ed_valH {x : V} {d : PyData} (h : Ev te σ H x) (hd : Dp K H x d) : EvD K te σ H d := ed_val h fun _ e => dp_ex e hd
theorem ed_int {i : Int} (h : Ev te σ H (.int i)) : EvD K te σ H (.int i) := ed_val h fun _ _ => .int i
theorem ed_bl {i : Bool} (h : Ev te σ H (.bl i)) : EvD K te σ H (.bool i) := ed_val h fun _ _ => .bl i
theorem ed_non (h : Ev te σ H .non) : EvD K te σ H .none := ed_val h fun _ _ => .non
theorem ed_str {s : Str} (h : Ev te σ H (.str s)) : EvD K te σ H (.str s) := ed_val h fun _ _ => .str s
theorem ed_U {xs : List Int} (h : EvU te σ H (xs.map V.int)) : EvD K te σ H (dI xs) := fun H1 e Q q => h H1 e _ fun p H2 _ e2 h2 => q (.ref p) H2 e2 (dp_date (st_of h2))
theorem ed_L {xs : List Int} (h : EvL te σ H (xs.map V.int)) : EvD K te σ H (dL xs) := fun H1 e Q q => h H1 e _ fun p H2 _ e2 h2 => q (.ref p) H2 e2 (dp_ints (sq_of h2))
theorem eds_nil : EvDs K tNil σ H [] := fun H1 _ _ q => q [] H1 (Ex.refl H1) .nil
theorem eds_cons {tr : TA} {d : PyData} {ds : List PyData} (h : EvD K te σ H d) (hr : EvDs K tr σ H ds) : EvDs K (tCons te tr) σ H (d :: ds) := fun H1 e Q q =>
  h H1 e _ fun x H2 e2 hx => hr H2 (e.trans e2) _ fun xs H3 e3 hxs => q (x :: xs) H3 (e2.trans e3) (.cons (dp_ex e3 hx) hxs)
theorem edl_lst {ta : TA} {ds : List PyData} (h : EvDs K ta σ H ds) (hl : ds.length ≤ 100000) : EvDL K (tLst ta) σ H ds := fun H1 e Q q =>
  h H1 e _ fun xs H2 e2 hx => ⟨sz_of (by rw [dpa_len hx]; exact hl), fun p hp => q p xs _ (fresh_back e2 hp) (e2.trans (Ex.new hp)) upd_same (dpa_ex (Ex.new hp) hx)⟩
theorem ed_DL {ds : List PyData} (h : EvDL K te σ H ds) : EvD K te σ H (.list ds) := fun H1 e Q q => h H1 e _ fun p xs H2 _ e2 h2 hd => q (.ref p) H2 e2 (.lst (sq_of h2) hd)
theorem ed_lst {ta : TA} {ds : List PyData} (h : EvDs K ta σ H ds) (hl : ds.length ≤ 100000) : EvD K (tLst ta) σ H (.list ds) := ed_DL (edl_lst h hl)
theorem ed_tup {ta : TA} {ds : List PyData} (h : EvDs K ta σ H ds) (hl : ds.length ≤ 100000) : EvD K (tTup ta) σ H (.tuple ds) := fun H1 e Q q =>
  h H1 e _ fun xs H2 e2 hx => ⟨sz_of (by rw [dpa_len hx]; exact hl), fun p hp => q (.ref p) _ (e2.trans (Ex.new hp)) (.tup (st_of upd_same) (dpa_ex (Ex.new hp) hx))⟩
theorem dpa_app : ∀ {xs ys : List V} {ds es : List PyData}, DpAll K H xs ds → DpAll K H ys es → DpAll K H (xs ++ ys) (ds ++ es)
  | _, _, _, _, .nil, h => h
  | _, _, _, _, .cons a t, h => .cons a (dpa_app t h)
theorem dpa_rep {xs : List V} {ds : List PyData} (h : DpAll K H xs ds) : ∀ k : Nat, DpAll K H (List.replicate k xs).flatten (List.replicate k ds).flatten
  | 0 => .nil
  | k + 1 => by
    rw [List.replicate_succ, List.replicate_succ, List.flatten_cons, List.flatten_cons]
    exact dpa_app h (dpa_rep h k)
theorem edl_rep {ds : List PyData} {k : Int} (h : EvDL K te σ H ds) (hk : ∀ H1, Ex H H1 → Ev tk σ H1 (.int k)) (h0 : 0 ≤ k ∧ k ≤ 10000) (hz : ds.length ≤ 100) : EvDL K (tOp rRep te tk) σ H ((List.replicate k.toNat ds).flatten) := fun H1 e Q q =>
  h H1 e _ fun p xs H2 np e2 hp hd => hk H2 (e.trans e2) H2 (Ex.refl H2) _ fun H3 e3 => ⟨p, k, xs, rfl, rfl, e3 _ _ hp, by omega, by omega, Nat.le_trans (Nat.mul_le_mul (by rw [dpa_len hd]; exact hz : xs.length ≤ 100) (show k.toNat ≤ 10000 by omega)) (by decide), fun l hl => q l _ _ (fresh_back (e2.trans e3) hl) ((e2.trans e3).trans (Ex.new hl)) upd_same (dpa_rep (dpa_ex (e3.trans (Ex.new hl)) hd) _)⟩
theorem edl_cat {ds es : List PyData} (h : EvDL K ta σ H ds) (hb : EvDL K tb σ H es) (hz : ds.length + es.length ≤ 100000) : EvDL K (tOp rCat ta tb) σ H (ds ++ es) := fun H1 e Q q =>
  h H1 e _ fun p xs H2 _ e2 h2 hd => hb H2 (e.trans e2) _ fun r ys H3 _ e3 h3 he => ⟨p, r, xs, ys, rfl, rfl, e3 _ _ h2, h3, sz_of (by rw [dpa_len hd, dpa_len he]; exact hz), fun l hl => q l _ _ (fresh_back (e2.trans e3) hl) ((e2.trans e3).trans (Ex.new hl)) upd_same (dpa_app (dpa_ex (e3.trans (Ex.new hl)) hd) (dpa_ex (Ex.new hl) he))⟩
theorem ev_neD {d : PyData} (h : EvD K ta σ H d) (hb : EvD K tb σ H d) (sd : SeqAt.shaped d = true) : Ev (tOp (rNeD K) ta tb) σ H (.bl false) := fun H1 e Q q =>
  h H1 e _ fun x H2 e2 hx => hb H2 (e.trans e2) _ fun y H3 e3 hy => rv_neSame (dp_ex e3 hx) hy sd H3 (Ex.refl H3) Q fun H4 e4 => q H4 ((e2.trans e3).trans e4)
theorem ev_eqD {d : PyData} (h : EvD K ta σ H d) (hb : EvD K tb σ H d) (sd : SeqAt.shaped d = true) : Ev (tOp (rEqD K) ta tb) σ H (.bl true) := fun H1 e Q q =>
  h H1 e _ fun x H2 e2 hx => hb H2 (e.trans e2) _ fun y H3 e3 hy => rv_eqSame (dp_ex e3 hx) hy sd H3 (Ex.refl H3) Q fun H4 e4 => q H4 ((e2.trans e3).trans e4)
theorem ev_sameD {n : Nat} {E : XK} {d : PyData} (h : EvD K ta σ H d) (hb : EvD K tb σ H d) (ok : okd n d) : Ev (tCall (spSame K n) [] E (tCons ta (tCons tb tNil))) σ H (.bl true) := fun H1 e Q q =>
  h H1 e _ fun x H2 e2 hx => hb H2 (e.trans e2) _ fun y H3 e3 hy => ⟨x, y, d, rfl, dp_ex e3 hx, hy, ok, fun H4 e4 => q H4 ((e2.trans e3).trans e4)⟩
theorem shaped_I (xs : List Int) : SeqAt.shaped (dI xs) = true := PySem.W.ke_shaped_ints xs
theorem shaped_L (xs : List Int) : SeqAt.shaped (dL xs) = true := PySem.W.ke_shaped_ints xs
theorem tups_cons (x : List Int) (xs : List (List Int)) : PyData.list (dI x :: xs.map fun x => PyData.tuple (x.map PyData.int)) = tupsD (x :: xs) := rfl
/-! ### new lists of new tuples of ints -/
def EvTs (ta : TA) (σ : L2.St) (H : Hp) (xss : List (List Int)) : Prop := ∀ H1, Ex H H1 → ∀ Q : List V → Hp → Prop, (∀ vs H2, Ex H1 H2 → TupsAt H2 vs xss → Q vs H2) → ta σ H1 Q
def EvTL (te : TE) (σ : L2.St) (H : Hp) (xss : List (List Int)) : Prop := ∀ H1, Ex H H1 → ∀ Q : VK, (∀ p vs H2, H1 p = none → Ex H1 H2 → H2 p = some (.lst vs) → TupsAt H2 vs xss → Q (.ref p) H2) → te σ H1 Q
theorem ets_nil : EvTs tNil σ H [] := fun H1 _ _ q => q [] H1 (Ex.refl H1) .nil
theorem ets_cons {tr : TA} {xs : List Int} {xss : List (List Int)} (h : EvU te σ H (xs.map V.int)) (hr : EvTs tr σ H xss) : EvTs (tCons te tr) σ H (xs :: xss) := fun H1 e Q q =>
  h H1 e _ fun p H2 _ e2 h2 => hr H2 (e.trans e2) _ fun vs H3 e3 t => q _ H3 (e2.trans e3) (.cons ⟨p, rfl, e3 _ _ h2⟩ t)
theorem etl_lst {ta : TA} {xss : List (List Int)} (h : EvTs ta σ H xss) (hl : xss.length ≤ 100000) : EvTL (tLst ta) σ H xss := fun H1 e Q q =>
  h H1 e _ fun vs H2 e2 t => ⟨sz_of (by rw [t.len]; exact hl), fun p hp => q p vs _ (fresh_back e2 hp) (e2.trans (Ex.new hp)) upd_same (t.kt (KT.ex (Ex.new hp)))⟩
theorem TupsAt.app {H : Hp} : ∀ {vs ws : List V} {xs ys : List (List Int)}, TupsAt H vs xs → TupsAt H ws ys → TupsAt H (vs ++ ws) (xs ++ ys)
  | _, _, _, _, .nil, h => h
  | _, _, _, _, .cons a t, h => .cons a (TupsAt.app t h)
theorem TupsAt.at_ {H : Hp} {vs : List V} {xs : List (List Int)} (h : TupsAt H vs xs) {n : Int} (h0 : 0 ≤ n) (h1 : n < xs.length) : ∃ (q : Addr) (x : List Int), x ∈ xs ∧ atI vs n = some (.ref q) ∧ H q = some (.tup (x.map V.int)) := by
  obtain ⟨j, rfl⟩ : ∃ j : Nat, n = (j : Int) := ⟨n.toNat, by omega⟩
  have key : ∀ {vs : List V} {xs : List (List Int)} (j : Nat), TupsAt H vs xs → j < xs.length → ∃ (q : Addr) (x : List Int), x ∈ xs ∧ vs[j]? = some (.ref q) ∧ H q = some (.tup (x.map V.int)) := by
    intro vs xs j t
    induction t generalizing j with
    | nil => intro h; simp at h
    | @cons v x vs xs a t ih =>
      intro h
      obtain ⟨q, rfl, hq⟩ := a
      match j with
      | 0 => exact ⟨q, x, List.mem_cons_self .., rfl, hq⟩
      | j + 1 =>
        obtain ⟨q, y, a, b, c⟩ := ih j (by simpa using h)
        exact ⟨q, y, List.mem_cons_of_mem _ a, b, c⟩
  obtain ⟨q, x, a, b, c⟩ := key j h (by omega)
  exact ⟨q, x, a, atI_nat b, c⟩
theorem f_evTL {xss : List (List Int)} (h : EvTL te σ H xss) (k : ∀ p vs H1, H p = none → Ex H H1 → H1 p = some (.lst vs) → TupsAt H1 vs xss → Q (.ref p) H1) : te σ H Q := h H (Ex.refl H) Q k
theorem f_lcR2 {ta : TA} {g : TG} {tt : TT} {vs : List Nat} (h : ta σ H fun us H1 => ∃ i j : Int, us = [.int i, .int j] ∧ (-(2 ^ 62) ≤ i ∧ i < 2 ^ 62 ∧ -(2 ^ 62) ≤ j ∧ j < 2 ^ 62) ∧ ∀ D, H1 D = none → ∃ W : Nat → Nat → Hp → Prop, (∃ m, W 0 m (upd H1 D (.lst []))) ∧ ∀ k m H, W k m H →
    ((Itr i (j - i).toNat).stop k H ∧ Q (.ref D) H) ∨ ((Itr i (j - i).toNat).go k H ∧ ∃ Nx : Hp → Prop, (∀ H', Nx H' → ∃ m', m' < m ∧ W (k + 1) m' H') ∧ ∀ x H', (Itr i (j - i).toNat).yld k H x H' → g x (wipe σ vs) H' fun σ2 H2 => wipe σ2 vs = wipe σ vs ∧ tt σ2 H2 fun b H3 =>
      if b = true then te σ2 H3 fun y H4 => ∃ acc, H4 D = some (.lst acc) ∧ acc.length < sizeLine ∧ Nx (upd H4 D (.lst (acc ++ [y]))) else Nx H3)) : tLc (iRng2 ta) g tt te vs σ H Q := h
/-- a < b < c, as a value -/
theorem ev_chain {ra rb : R2} {tc : TE} {x y z : V} {a b : Bool} (h1 : Ev ta σ H x) (h2 : Ev tb σ H y) (hr : RV ra x y H (.bl a)) (h3 : a = true → Ev tc σ H z) (hs : a = true → RV rb y z H (.bl b)) : Ev (tChain ra rb ta tb tc) σ H (.bl (a && b)) := fun H1 e Q q =>
  h1 H1 e _ fun H2 e2 => h2 H2 (e.trans e2) _ fun H3 e3 => hr H3 ((e.trans e2).trans e3) _ fun H4 e4 => ⟨a, rfl, by
    have x4 := ((e.trans e2).trans e3).trans e4
    have y4 := (e2.trans e3).trans e4
    cases a with
    | true => exact h3 rfl H4 x4 _ fun H5 e5 => hs rfl H5 (x4.trans e5) Q fun H6 e6 => q H6 ((y4.trans e5).trans e6)
    | false => exact q H4 y4⟩
/-! ### going on from what is known -/
theorem f_cont {F : VK → Prop} {φ : V → Hp → Prop} {Q : VK} (h : ∀ R : VK, (∀ v H, φ v H → R v H) → F R) (q : ∀ v H, φ v H → Q v H) : F Q := h Q q
theorem f_seqX {t1 t2 : TS} {D : Ends} (h : ∀ N : L2.St → Hp → Prop, (∀ H', Ex H H' → N σ H') → t1 { D with nx := N } σ H) (k : ∀ H', Ex H H' → t2 D σ H') : tSeq t1 t2 D σ H := h _ k
theorem f_seqC {t1 t2 : TS} {D : Ends} (φ : L2.St → Hp → Prop) (h : ∀ N : L2.St → Hp → Prop, (∀ σ' H', φ σ' H' → N σ' H') → t1 { D with nx := N } σ H) (k : ∀ σ' H', φ σ' H' → t2 D σ' H') : tSeq t1 t2 D σ H := h _ k
/-- a tuple, new or not -/
def EvU0 (te : TE) (σ : L2.St) (H : Hp) (xs : List V) : Prop := ∀ H1, Ex H H1 → ∀ Q : VK, (∀ p H2, Ex H1 H2 → H2 p = some (.tup xs) → Q (.ref p) H2) → te σ H1 Q
theorem EvU0.is {xs ys : List V} (h : EvU0 te σ H xs) (e : xs = ys) : EvU0 te σ H ys := e ▸ h
theorem EvU.is {xs ys : List V} (h : EvU te σ H xs) (e : xs = ys) : EvU te σ H ys := e ▸ h
theorem EvU.u0 {xs : List V} (h : EvU te σ H xs) : EvU0 te σ H xs := fun H1 e Q q => h H1 e Q fun p H2 _ e2 h2 => q p H2 e2 h2
theorem ed_U0 {xs : List Int} (h : EvU0 te σ H (xs.map V.int)) : EvD K te σ H (dI xs) := fun H1 e Q q => h H1 e _ fun p H2 e2 h2 => q (.ref p) H2 e2 (dp_date (st_of h2))
theorem f_evU0 {xs : List V} (h : EvU0 te σ H xs) (k : ∀ p H1, Ex H H1 → H1 p = some (.tup xs) → Q (.ref p) H1) : te σ H Q := h H (Ex.refl H) Q k
theorem s_asgU0 {i : Nat} {D : Ends} {xs : List V} (h : EvU0 te σ H xs) (k : ∀ p H1, Ex H H1 → H1 p = some (.tup xs) → D.nx (σ.set i (some (.ref p))) H1) : tAsg te (gName i) D σ H := h H (Ex.refl H) _ fun p H1 e h1 => k p H1 e h1
/-- a slice of a tuple -/
theorem eu_take {tk : TE} {a : Addr} {xs : List V} {n : Nat} (h : Ev te σ H (.ref a)) (hn : Ev tk σ H (.int (n : Int))) (hs : SqT K H a xs) (hl : n < xs.length) : EvU0 (tSl (rSlT K) te tNoPart (tPart tk)) σ H (xs.take n) := by
  intro H1 e Q q
  refine h H1 e _ fun H2 e2 => eo_none H2 (e.trans e2) _ fun H3 e3 => eo_some hn H3 ((e.trans e2).trans e3) _ fun H4 e4 => ⟨a, xs, rfl, ex_t (((e.trans e2).trans e3).trans e4) hs, fun z => ?_, fun p hp => q p _ (((e2.trans e3).trans e4).trans (Ex.new hp)) ?_⟩
  · have z2 := z.2
    rw [HT.sIx_nat] at z2; omega
  · rw [upd_same, cutV_take]
/-- the script, kept by draws from a source that is new -/
theorem sq_kr {H H1 H' : Hp} {r a : Addr} {xs : List V} (hS : SqL K H a xs) (hn : H r = none) (e : Ex H H1) (k : Kr r H1 H') : SqL K H' a xs := by
  rcases hS with (h | ⟨o, h⟩) | h
  · exact .inl (.inl (k _ _ (ne_of_none h hn) (e _ _ h)))
  · exact .inl (.inr ⟨o, k _ _ (ne_of_none h hn) (e _ _ h)⟩)
  · exact .inr h
/-! ### more of the second source -/
theorem KT.kr {H H' : Hp} {r : Addr} {B : Nat} (S : Rg H r B) (k : Kr r H H') : KT H H' := fun q xs h => by
  obtain ⟨a, b, c, g1, _⟩ := S.ex
  exact k q _ (ne_of h g1 (by intro z; cases z)) h
/-- a new tuple is made in the midst of draws -/
theorem f_newUr {r : Addr} {B : Nat} {xs : List V} {R : Addr → Prop} (S : Rg H r B) (hz : xs.length ≤ 1000) (q : ∀ p, H p = none → p ≠ r → Rg (upd H p (.tup xs)) r B → Ex H (upd H p (.tup xs)) → (upd H p (.tup xs)) p = some (.tup xs) → R p) : xs.length ≤ sizeLine ∧ ∀ p, H p = none → R p :=
  ⟨sz1000 hz, fun p hp => q p hp (S.free hp) (S.ex_ (Ex.new hp)) (Ex.new hp) upd_same⟩
/-- [a, b, ..][draw], the list made ahead -/
theorem f_ixL {p : Addr} {xs : List V} {n : Int} {v : V} (h : H p = some (.lst xs)) (ha : atI xs n = some v) (q : Q v H) : rIxL K (.ref p) (.int n) H Q := ⟨p, xs, n, v, rfl, rfl, sq_of h, ha, q⟩
end
/-! ### a bag of draws: a dict of a list, what is left, the turn, a fold -/
section
variable {K : PySem.W.Frag} {σ : L2.St} {H : Hp} {Q : VK} {te ta tb tk td ty : TE}
def bagK (g : Addr) (l t f : Int) : List (Key × V) := [(.inr "great", .ref g), (.inr "left", .int l), (.inr "turn", .int t), (.inr "fold", .int f)]
structure Bg (H : Hp) (d g : Addr) (B : Nat) : Prop where
  ex : ∃ (gs : List Int) (l t f : Int), H d = some (.dK (bagK g l t f)) ∧ H g = some (.lst (gs.map V.int)) ∧ gs.length ≤ 63 ∧ 0 ≤ t ∧ t + B ≤ 2 ^ 30 ∧ 0 ≤ f ∧ f < 2 ^ 61
theorem Bg.less {H : Hp} {d g : Addr} {B B' : Nat} (S : Bg H d g B) (h : B' ≤ B) : Bg H d g B' := by
  obtain ⟨gs, l, t, f, h1, h2, h3, h4, h5, h6⟩ := S.ex
  exact ⟨gs, l, t, f, h1, h2, h3, h4, by omega, h6⟩
theorem Bg.ex_ {H H' : Hp} {d g : Addr} {B : Nat} (S : Bg H d g B) (e : Ex H H') : Bg H' d g B := by
  obtain ⟨gs, l, t, f, h1, h2, h⟩ := S.ex
  exact ⟨gs, l, t, f, e _ _ h1, e _ _ h2, h⟩
theorem Bg.free {H : Hp} {d g : Addr} {B : Nat} (S : Bg H d g B) {p : Addr} (h : H p = none) : p ≠ d ∧ p ≠ g := by
  obtain ⟨gs, l, t, f, h1, h2, _⟩ := S.ex
  exact ⟨(ne_of_none h1 h).symm, (ne_of_none h2 h).symm⟩
theorem Bg.upd {H : Hp} {d g l : Addr} {B : Nat} {o : HO} (S : Bg H d g B) (f : l ≠ d ∧ l ≠ g) : Bg (upd H l o) d g B := by
  obtain ⟨gs, l', t, fo, h1, h2, h⟩ := S.ex
  exact ⟨gs, l', t, fo, by rw [upd_ne f.1.symm]; exact h1, by rw [upd_ne f.2.symm]; exact h2, h⟩
theorem Kp.newB {d g p : Addr} {B : Nat} {H H' : Hp} (k : Kp d g H H') (S : Bg H' d g B) (h : H' p = none) : H p = none := by
  have f := S.free h
  rcases e : H p with _ | o
  · rfl
  · rw [k.at f e] at h; cases h
def spBag (K : PySem.W.Frag) : Sp := fun vs H Q _ => ∃ (a : Addr) (ns : List Int), vs = [.ref a] ∧ SqL K H a (ns.map V.int) ∧ ns.length ≤ 63 ∧ ∀ d g H', H d = none → H g = none → Bg H' d g (2 ^ 29) → Ex H H' → Q (.ref d) H'
def spBdraw : Sp := fun vs H Q _ => ∃ (d g : Addr) (many : Int) (B : Nat), vs = [.ref d, .int many] ∧ 0 < many ∧ many ≤ 10 ^ 60 ∧ Bg H d g (B + 1) ∧ ∀ n H', 0 ≤ n → n < many → Bg H' d g B → Kp d g H H' → Q (.int n) H'
theorem KT.kb {H H' : Hp} {d g : Addr} {B : Nat} (S : Bg H d g B) (k : Kp d g H H') : KT H H' := fun q xs h => by
  obtain ⟨gs, l, t, f, h1, h2, _⟩ := S.ex
  exact k q _ (ne_of h h1 (by intro z; cases z)) (ne_of h h2 (by intro z; cases z)) h
theorem f_bdraw {d g : Addr} {B : Nat} {many : Int} {E : XK} (S : Bg H d g (B + 1)) (h0 : 0 < many) (hb : many ≤ 10 ^ 60) (q : ∀ n H', 0 ≤ n → n < many → Bg H' d g B → Kp d g H H' → Q (.int n) H') :
    spBdraw ([.ref d, .int many] ++ []) H Q E := ⟨d, g, many, B, rfl, h0, hb, S, q⟩
theorem f_newLb {d g : Addr} {B : Nat} {xs : List V} {R : Addr → Prop} (S : Bg H d g B) (hz : xs.length ≤ 1000) (q : ∀ p, H p = none → p ≠ d ∧ p ≠ g → Bg (upd H p (.lst xs)) d g B → Ex H (upd H p (.lst xs)) → (upd H p (.lst xs)) p = some (.lst xs) → R p) : xs.length ≤ sizeLine ∧ ∀ p, H p = none → R p :=
  ⟨sz1000 hz, fun p hp => q p hp (S.free hp) (S.ex_ (Ex.new hp)) (Ex.new hp) upd_same⟩
theorem f_newUb {d g : Addr} {B : Nat} {xs : List V} {R : Addr → Prop} (S : Bg H d g B) (hz : xs.length ≤ 1000) (q : ∀ p, H p = none → p ≠ d ∧ p ≠ g → Bg (upd H p (.tup xs)) d g B → Ex H (upd H p (.tup xs)) → (upd H p (.tup xs)) p = some (.tup xs) → R p) : xs.length ≤ sizeLine ∧ ∀ p, H p = none → R p :=
  ⟨sz1000 hz, fun p hp => q p hp (S.free hp) (S.ex_ (Ex.new hp)) (Ex.new hp) upd_same⟩
theorem f_ixT {p : Addr} {xs : List V} {n : Int} {v : V} (h : H p = some (.tup xs)) (ha : atI xs n = some v) (q : Q v H) : rIxT K (.ref p) (.int n) H Q := ⟨p, xs, n, v, rfl, rfl, st_of h, ha, q⟩
/-- d["k"] -/
theorem ev_dg {d : Addr} {kvs : List (Key × V)} {k : Str} {v : V} (h : Ev td σ H (.ref d)) (hk : Ev ty σ H (.str k)) (hd : H d = some (.dK kvs)) (hv : valV kvs (.inr k) = some v) : Ev (tDGet td ty) σ H v := fun H1 e Q q =>
  h H1 e _ fun H2 e2 => hk H2 (e.trans e2) _ fun H3 e3 => ⟨d, v, rfl, by rw [← hv]; exact DGet.k (k := .inr k) (e3 _ _ (e2 _ _ (e _ _ hd))), q H3 (e2.trans e3)⟩
/-- d["k"] = e -/
theorem s_dput {D : Ends} {d : Addr} {kvs : List (Key × V)} {k : Str} {v : V} (hd : H d = some (.dK kvs)) (hz : kvs.length ≤ 1000) (h : Ev te σ H v) (ho : Ev td σ H (.ref d)) (hk : Ev ty σ H (.str k)) (q : ∀ H1, Ex H H1 → D.nx σ (upd H1 d (.dK (putK kvs (.inr k) v)))) : sDPut td ty te D σ H :=
  h H (Ex.refl H) _ fun H1 e1 => ho H1 e1 _ fun H2 e2 => hk H2 (e1.trans e2) _ fun H3 e3 => ⟨d, _, rfl, DPut.k (k := .inr k) (((e1.trans e2).trans e3) _ _ hd) (Nat.lt_of_le_of_lt hz (by decide)), q H3 ((e1.trans e2).trans e3)⟩
/-- n turns, each of at most c draws and an int with φ -/
theorem lc_drawsB {vs : List Nat} {j n : Nat} {d g : Addr} {B c : Nat} (φ : Int → Prop) (S : Bg H d g (B + c * n)) (hn : n ≤ 1000) (hw : ∀ x, wipe ((wipe σ vs).set j (some x)) vs = wipe σ vs)
    (turn : ∀ (i : Nat) H' b, i < n → Kp d g H H' → Bg H' d g (b + c) → ∀ R : VK, (∀ z H2, φ z → Kp d g H' H2 → Bg H2 d g b → R (.int z) H2) → te ((wipe σ vs).set j (some (.int ((0 : Int) + (i : Int))))) H' R)
    (hd : ∀ (ks : List Int) (p : Addr) (H' : Hp), H p = none → p ≠ d ∧ p ≠ g → ks.length = n → (∀ k, k ∈ ks → φ k) → Bg H' d g B → Kp d g H H' → H' p = some (.lst (ks.map V.int)) → Q (.ref p) H') :
    LcR n (gName j) tYes te vs σ H Q := fun D hD => by
  have fD := S.free hD
  refine lc_range (lo := 0) (n := n) (fun i H' => ∃ ks : List Int, ks.length = i ∧ (∀ k, k ∈ ks → φ k) ∧ H' D = some (.lst (ks.map V.int)) ∧ Bg H' d g (B + c * (n - i)) ∧ Kp d g H H') ⟨[], rfl, (fun _ h => by simp at h), upd_same, S.ex_ (Ex.new hD), .of (Ex.new hD)⟩ (fun i H' hi ⟨ks, h1, h2, h3, h4, h5⟩ => ⟨hw _, ?_⟩) (fun H' ⟨ks, h1, h2, h3, h4, h5⟩ => hd ks D H' hD fD h1 h2 (h4.less (by omega)) h5 h3)
  have e : B + c * (n - i) = B + c * (n - (i + 1)) + c := by
    rw [show n - i = (n - (i + 1)) + 1 by omega, Nat.mul_add, Nat.mul_one]; omega
  rw [e] at h4
  refine f_yes ?_
  rw [if_pos rfl]
  refine turn i H' _ hi h5 h4 _ fun z H2 hz k2 S2 => ⟨_, k2.at fD h3, Nat.lt_of_le_of_lt (by rw [List.length_map]; omega : _ ≤ 1000) (by decide), ks ++ [z], by simp [h1], fun k hk => ?_, by rw [upd_same, List.map_append]; rfl, S2.upd fD, fun b o g1 g2 g => ?_⟩
  · rcases List.mem_append.mp hk with h | h
    · exact h2 k h
    · rw [List.mem_singleton.mp h]; exact hz
  · rw [upd_ne (ne_of_none g hD)]
    exact k2 b o g1 g2 (h5 b o g1 g2 g)
end
end Mc
namespace Mk
open PySem L2 Mc Evl
def topS (i : Nat) : Stmt := PySem.Challenge.pw_monthclamp_k20_whole_very_many_renewals.main.body.getD i (.Pass ⟨0, 0, 0, 0⟩)
abbrev s_is_leap : Stmt := topS 7
theorem sc_is_leap : FnScope ["year"] ["year"] (defScope s_is_leap) := ⟨rfl, rfl, rfl, by decide +kernel, rfl, by decide +kernel, by decide +kernel⟩
abbrev s_days_in : Stmt := topS 8
theorem sc_days_in : FnScope ["year", "month"] ["year", "month"] (defScope s_days_in) := ⟨rfl, rfl, rfl, by decide +kernel, rfl, by decide +kernel, by decide +kernel⟩
abbrev s_check_date : Stmt := topS 10
theorem sc_check_date : FnScope ["date", "year", "month", "day"] ["date"] (defScope s_check_date) := ⟨rfl, rfl, rfl, by decide +kernel, rfl, by decide +kernel, by decide +kernel⟩
abbrev s_move : Stmt := topS 12
theorem sc_move : FnScope ["date", "steps", "year", "month", "day", "place", "step"] ["date", "steps"] (defScope s_move) := ⟨rfl, rfl, rfl, by decide +kernel, rfl, by decide +kernel, by decide +kernel⟩
abbrev s_renew : Stmt := topS 14
theorem sc_renew : FnScope ["date", "step", "times", "single"] ["date", "step", "times"] (defScope s_renew) := ⟨rfl, rfl, rfl, by decide +kernel, rfl, by decide +kernel, by decide +kernel⟩
abbrev s_check : Stmt := topS 15
theorem sc_check : FnScope ["date", "times"] ["date", "times"] (defScope s_check) := ⟨rfl, rfl, rfl, by decide +kernel, rfl, by decide +kernel, by decide +kernel⟩
abbrev s_law_pool : Stmt := topS 17
theorem sc_law_pool : FnScope ["script", "at", "cell"] ["script", "at"] (defScope s_law_pool) := ⟨rfl, rfl, rfl, by decide +kernel, rfl, by decide +kernel, by decide +kernel⟩
abbrev s_law_draw : Stmt := topS 18
theorem sc_law_draw : FnScope ["pool", "many", "drawn", "mixed"] ["pool", "many"] (defScope s_law_draw) := ⟨rfl, rfl, rfl, by decide +kernel, rfl, by decide +kernel, by decide +kernel⟩
abbrev s_law_days : Stmt := topS 19
theorem sc_law_days : FnScope ["number", "year", "month"] ["number"] (defScope s_law_days) := ⟨rfl, rfl, rfl, by decide +kernel, rfl, by decide +kernel, by decide +kernel⟩
abbrev s_law_great : Stmt := topS 20
theorem sc_law_great : FnScope ["pool", "found"] ["pool"] (defScope s_law_great) := ⟨rfl, rfl, rfl, by decide +kernel, rfl, by decide +kernel, by decide +kernel⟩
abbrev s_law_date : Stmt := topS 21
theorem sc_law_date : FnScope ["pool", "year", "month", "longest", "day"] ["pool"] (defScope s_law_date) := ⟨rfl, rfl, rfl, by decide +kernel, rfl, by decide +kernel, by decide +kernel⟩
abbrev s_law_stride : Stmt := topS 22
theorem sc_law_stride : FnScope ["pool", "most", "found"] ["pool", "most"] (defScope s_law_stride) := ⟨rfl, rfl, rfl, by decide +kernel, rfl, by decide +kernel, by decide +kernel⟩
abbrev s_law_due : Stmt := topS 23
theorem sc_law_due : FnScope ["date", "stride", "times", "number", "day", "turn"] ["date", "stride", "times"] (defScope s_law_due) := ⟨rfl, rfl, rfl, by decide +kernel, rfl, by decide +kernel, by decide +kernel⟩
abbrev s_law_right : Stmt := topS 24
theorem sc_law_right : FnScope ["pool", "date", "stride", "times", "year", "month", "day", "first", "second", "between"] ["pool"] (defScope s_law_right) := ⟨rfl, rfl, rfl, by decide +kernel, rfl, by decide +kernel, by decide +kernel⟩
abbrev s_law : Stmt := topS 25
theorem sc_law : FnScope ["script", "at", "pool", "turn"] ["script"] (defScope s_law) := ⟨rfl, rfl, rfl, by decide +kernel, rfl, by decide +kernel, by decide +kernel⟩
structure Top (K : PySem.W.Frag) (mg : Str → Option Value) where
  f_is_leap : Addr
  fd_is_leap : FuncData
  F_is_leap : Fun K "is_leap" "is_leap" s_is_leap f_is_leap fd_is_leap
  g_is_leap : mg "is_leap" = some (.ref f_is_leap)
  b_is_leap : Binds K fd_is_leap ["year"] []
  f_days_in : Addr
  fd_days_in : FuncData
  F_days_in : Fun K "days_in" "days_in" s_days_in f_days_in fd_days_in
  g_days_in : mg "days_in" = some (.ref f_days_in)
  b_days_in : Binds K fd_days_in ["year", "month"] []
  f_check_date : Addr
  fd_check_date : FuncData
  F_check_date : Fun K "check_date" "check_date" s_check_date f_check_date fd_check_date
  g_check_date : mg "check_date" = some (.ref f_check_date)
  b_check_date : Binds K fd_check_date ["date"] []
  f_move : Addr
  fd_move : FuncData
  F_move : Fun K "move" "move" s_move f_move fd_move
  g_move : mg "move" = some (.ref f_move)
  b_move : Binds K fd_move ["date", "steps"] []
  f_renew : Addr
  fd_renew : FuncData
  F_renew : Fun K "renew" "renew" s_renew f_renew fd_renew
  g_renew : mg "renew" = some (.ref f_renew)
  b_renew : Binds K fd_renew ["date", "step", "times"] []
  f_check : Addr
  fd_check : FuncData
  F_check : Fun K "_check" "_check" s_check f_check fd_check
  g_check : mg "_check" = some (.ref f_check)
  b_check : Binds K fd_check ["date", "times"] []
  f_law_pool : Addr
  fd_law_pool : FuncData
  F_law_pool : Fun K "_law_pool" "_law_pool" s_law_pool f_law_pool fd_law_pool
  g_law_pool : mg "_law_pool" = some (.ref f_law_pool)
  b_law_pool : Binds K fd_law_pool ["script", "at"] []
  f_law_draw : Addr
  fd_law_draw : FuncData
  F_law_draw : Fun K "_law_draw" "_law_draw" s_law_draw f_law_draw fd_law_draw
  g_law_draw : mg "_law_draw" = some (.ref f_law_draw)
  b_law_draw : Binds K fd_law_draw ["pool", "many"] []
  f_law_days : Addr
  fd_law_days : FuncData
  F_law_days : Fun K "_law_days" "_law_days" s_law_days f_law_days fd_law_days
  g_law_days : mg "_law_days" = some (.ref f_law_days)
  b_law_days : Binds K fd_law_days ["number"] []
  f_law_great : Addr
  fd_law_great : FuncData
  F_law_great : Fun K "_law_great" "_law_great" s_law_great f_law_great fd_law_great
  g_law_great : mg "_law_great" = some (.ref f_law_great)
  b_law_great : Binds K fd_law_great ["pool"] []
  f_law_date : Addr
  fd_law_date : FuncData
  F_law_date : Fun K "_law_date" "_law_date" s_law_date f_law_date fd_law_date
  g_law_date : mg "_law_date" = some (.ref f_law_date)
  b_law_date : Binds K fd_law_date ["pool"] []
  f_law_stride : Addr
  fd_law_stride : FuncData
  F_law_stride : Fun K "_law_stride" "_law_stride" s_law_stride f_law_stride fd_law_stride
  g_law_stride : mg "_law_stride" = some (.ref f_law_stride)
  b_law_stride : Binds K fd_law_stride ["pool", "most"] []
  f_law_due : Addr
  fd_law_due : FuncData
  F_law_due : Fun K "_law_due" "_law_due" s_law_due f_law_due fd_law_due
  g_law_due : mg "_law_due" = some (.ref f_law_due)
  b_law_due : Binds K fd_law_due ["date", "stride", "times"] []
  f_law_right : Addr
  fd_law_right : FuncData
  F_law_right : Fun K "_law_right" "_law_right" s_law_right f_law_right fd_law_right
  g_law_right : mg "_law_right" = some (.ref f_law_right)
  b_law_right : Binds K fd_law_right ["pool"] []
  f_law : Addr
  fd_law : FuncData
  F_law : Fun K "law" "law" s_law f_law fd_law
  g_law : mg "law" = some (.ref f_law)
  b_law : Binds K fd_law ["script"] []
  z_abs : mg "abs" = none
  z_int : mg "int" = none
  z_len : mg "len" = none
  z_max : mg "max" = none
  z_min : mg "min" = none
  z_range : mg "range" = none
  a_DAYS_IN_COMMON_YEAR : Addr
  g_DAYS_IN_COMMON_YEAR : mg "_DAYS_IN_COMMON_YEAR" = some (.ref a_DAYS_IN_COMMON_YEAR)
  q_DAYS_IN_COMMON_YEAR : ∀ H : Hp, SqT K H a_DAYS_IN_COMMON_YEAR [.int 31, .int 28, .int 31, .int 30, .int 31, .int 30, .int 31, .int 31, .int 30, .int 31, .int 30, .int 31]
  t_CYCLE : Tok
  g_CYCLE : mg "CYCLE" = some (.int 4800 t_CYCLE)
def spLaw (K : PySem.W.Frag) : Sp := fun vs H Q _ => ∃ (a : Addr) (ns : List Int), vs = [.ref a] ∧ SqL K H a (ns.map V.int) ∧ ns.length ≤ 63 ∧ ∀ H', Q (.bl true) H'
section
variable {P : Program} {w : World} {K : PySem.W.Frag} {mg : Str → Option Value} {base : Heap}
local macro_rules | `(tactic| walk_at "fw") => `(tactic| repeat (first
  | with_reducible refine f_seq ?_
  | with_reducible refine f_asg ?_
  | with_reducible refine f_gName ?_
  | with_reducible refine f_ret ?_
  | with_reducible refine f_op ?_
  | with_reducible refine f_un ?_
  | with_reducible refine f_c ?_
  | ((with_reducible apply f_var); exact rfl)
  | with_reducible refine f_I0 ?_
  | with_reducible refine f_U ?_
  | ((with_reducible refine f_I ?fwh ?_); case fwh => first | assumption | (unfold CPow; omega) | (unfold CDivW; omega) | (unfold CDiv; omega) | (exact wide_mul (a := 20) (b := 64) (by omega) (by omega) (by decide) (by decide) (by decide)) | (exact wide_mul (a := 64) (b := 20) (by omega) (by omega) (by decide) (by decide) (by decide)) | (exact wide_mul (a := 160) (b := 160) (by omega) (by omega) (by decide) (by decide) (by decide)) | decide | omega)
  | with_reducible refine f_eqI ?_
  | with_reducible refine f_neI ?_
  | with_reducible refine f_test ?_
  | with_reducible refine f_B ?_
  | with_reducible refine f_bl ?_
  | with_reducible refine f_and ?_
  | with_reducible refine f_or ?_
  | with_reducible refine f_not ?_
  | with_reducible refine f_next ?_
  | with_reducible refine f_drop ?_
  | with_reducible refine f_ifS ?_
  | with_reducible refine f_if ?_
  | with_reducible refine f_call ?_
  | with_reducible refine f_nil ?_
  | with_reducible refine f_cons ?_
  | with_reducible refine f_tup ?_
  | with_reducible refine f_lst ?_
  | with_reducible refine f_cb ?_))

local macro_rules | `(tactic| walk_at "fs") => `(tactic| repeat (first
  | with_reducible refine f_seq ?_
  | with_reducible refine f_asg ?_
  | with_reducible refine f_gName ?_
  | with_reducible refine f_ret ?_
  | with_reducible refine f_c ?_
  | ((with_reducible apply f_var); exact rfl)
  | with_reducible refine f_test ?_
  | with_reducible refine f_B ?_
  | with_reducible refine f_bl ?_
  | with_reducible refine f_and ?_
  | with_reducible refine f_or ?_
  | with_reducible refine f_not ?_
  | with_reducible refine f_next ?_
  | with_reducible refine f_drop ?_
  | with_reducible refine f_nil ?_
  | with_reducible refine f_ifS ?_))

def leap (y : Int) : Bool := decide (y % 4 = 0) && (!decide (y % 100 = 0) || decide (y % 400 = 0))
def D_leap (vs : List V) (z : V) : Prop := ∃ y : Int, vs = [.int y] ∧ z = .bl (leap y)
theorem ok_is_leap (T : Top K mg) : FnOk P w K mg base CX0 1 T.f_is_leap T.fd_is_leap ["year"] (spF D_leap) := by
  refine T.F_is_leap.ok sc_is_leap (fun vs H Q E h => ?_) (fun cdv A outer s H vs Q E hr h => ?_)
  · obtain ⟨z, ⟨y, rfl, _⟩, _⟩ := h; rfl
  · obtain ⟨z, ⟨y, rfl, rfl⟩, q⟩ := h
    refine ⟨_, (pss_one (ps_ret (pe_and (pe_cmpR op_eq (pe_op op_mod (pv 0) pe_int) pe_int (nomark _)) (pe_one (pe_or (pe_cmpR op_ne (pe_op op_mod (pv 0) pe_int) pe_int (nomark _)) (pe_one (pe_cmpR op_eq (pe_op op_mod (pv 0) pe_int) pe_int (nomark _)))))))), ?_⟩
    exact s_ret (ev_andV (ev_op (ev_op (ev_var rfl) ev_c (rv_I (by decide))) ev_c rv_eqI) fun _ => ev_orV (ev_op (ev_op (ev_var rfl) ev_c (rv_I (by decide))) ev_c rv_neI) fun _ => ev_op (ev_op (ev_var rfl) ev_c (rv_I (by decide))) ev_c rv_eqI) q
def lleap (y : Int) : Bool := decide (y % 400 = 0) || (decide (y % 4 = 0) && !decide (y % 100 = 0))
theorem lleap_eq (y : Int) : lleap y = leap y := by
  unfold lleap leap
  by_cases h4 : y % 400 = 0
  · have a : y % 4 = 0 := by omega
    have b : y % 100 = 0 := by omega
    simp [h4, a, b]
  · simp [h4]

/-! the lengths of months -/
def mlist (y : Int) : List Int := [31, 28 + b2 (leap y), 31, 30, 31, 30, 31, 31, 30, 31, 30, 31]
def dlen (y m : Int) : Int := (mlist y).getD (m - 1).toNat 0
def D_days (vs : List V) (z : V) : Prop := ∃ y m : Int, vs = [.int y, .int m] ∧ 1 ≤ m ∧ m ≤ 12 ∧ z = .int (dlen y m)
theorem ok_days_in (T : Top K mg) : FnOk P w K mg base CX0 2 T.f_days_in T.fd_days_in ["year", "month"] (spF D_days) := by
  have G_is_leap : FnOk P w K mg base CX0 1 T.f_is_leap T.fd_is_leap ["year"] (spF D_leap) := ok_is_leap T
  refine T.F_days_in.ok sc_days_in (fun vs H Q E h => ?_) (fun cdv A outer s H vs Q E hr h => ?_)
  · obtain ⟨z, ⟨y, m, rfl, _⟩, _⟩ := h; rfl
  · obtain ⟨z, ⟨y, m, rfl, h1, h12, rfl⟩, q⟩ := h
    refine ⟨_, (pss_cons (ps_if (PW.pt (pw_or (pt_cmpR op_lt (pv 1) pe_int (nomark _)) (pw_or1 (pt_cmpR op_gt (pv 1) pe_int (nomark _))))) (pss_one ps_never) pss_nil)
      (pss_cons (ps_if (PW.pt (pw_and (pt_cmpR op_eq (pv 1) pe_int (nomark _)) (pw_and1 (pt_val (pe_call G_is_leap (hr.mono (by first | decide | omega)) (by rfl) T.g_is_leap T.F_is_leap.kp T.b_is_leap .nil pass0 (pa_cons (pv 0) pa_nil)))))) (pss_one (ps_ret pe_int)) pss_nil)
      (pss_one (ps_ret (pe_ix (r := rIxT K) ix_tup (pe_glob (v := .ref T.a_DAYS_IN_COMMON_YEAR) (by rfl) T.g_DAYS_IN_COMMON_YEAR rfl) (pe_op op_sub (pv 1) pe_int) (fun _ _ => rfl)))))), ?_⟩
    refine f_seq (s_if (et_or (et_test (ev_op (ev_var rfl) ev_c rv_I0)) fun _ => et_test (ev_op (ev_var rfl) ev_c rv_I0)) (fun h => ?_) fun _ H1 e1 => ?_)
    · simp at h; omega
    refine f_seq (s_if (et_and (et_test (ev_op (ev_var rfl) ev_c rv_eqI)) fun _ => et_B (ev_call (ea_cons (ev_var rfl) ea_nil) (sv_F ⟨y, rfl, rfl⟩))) (fun h H2 e2 => ?_) fun h H2 e2 => ?_)
    · simp at h
      obtain ⟨rfl, h⟩ := h
      refine s_ret ev_c fun H3 e3 => ?_
      have e : dlen y 2 = 29 := by simp [dlen, mlist, h, b2]
      rw [e] at q
      exact q _ ((e1.trans e2).trans e3)
    · have hm : m = 1 ∨ m = 2 ∨ m = 3 ∨ m = 4 ∨ m = 5 ∨ m = 6 ∨ m = 7 ∨ m = 8 ∨ m = 9 ∨ m = 10 ∨ m = 11 ∨ m = 12 := by omega
      have hq : atI ([.int 31, .int 28, .int 31, .int 30, .int 31, .int 30, .int 31, .int 31, .int 30, .int 31, .int 30, .int 31] : List V) (m - 1) = some (.int (dlen y m)) := by
        rcases hm with rfl | rfl | rfl | rfl | rfl | rfl | rfl | rfl | rfl | rfl | rfl | rfl
        case inr.inl =>
          simp at h
          have e : dlen y 2 = 28 := by simp [dlen, mlist, h, b2]
          rw [e]; exact atI_nat (j := 1) rfl
        all_goals (first | exact atI_nat (j := 0) rfl | exact atI_nat (j := 2) rfl | exact atI_nat (j := 3) rfl | exact atI_nat (j := 4) rfl | exact atI_nat (j := 5) rfl | exact atI_nat (j := 6) rfl | exact atI_nat (j := 7) rfl | exact atI_nat (j := 8) rfl | exact atI_nat (j := 9) rfl | exact atI_nat (j := 10) rfl | exact atI_nat (j := 11) rfl)
      exact s_ret (ev_op ev_c (ev_op (ev_var rfl) ev_c rv_I0) (rv_ixT (T.q_DAYS_IN_COMMON_YEAR _) hq)) fun H3 e3 => q _ ((e1.trans e2).trans e3)

/-- the length of the month with a number, months counted on from January of year 0 -/
def mlen (n : Int) : Int := dlen (n / 12) (n % 12 + 1)
theorem dlen_bounds (y m : Int) (h1 : 1 ≤ m) (h2 : m ≤ 12) : 28 ≤ dlen y m ∧ dlen y m ≤ 31 := by
  have hm : m = 1 ∨ m = 2 ∨ m = 3 ∨ m = 4 ∨ m = 5 ∨ m = 6 ∨ m = 7 ∨ m = 8 ∨ m = 9 ∨ m = 10 ∨ m = 11 ∨ m = 12 := by omega
  have hb : b2 (leap y) = 0 ∨ b2 (leap y) = 1 := by unfold b2; split <;> simp
  rcases hm with rfl | rfl | rfl | rfl | rfl | rfl | rfl | rfl | rfl | rfl | rfl | rfl <;> simp [dlen, mlist] <;> omega
theorem mlen_bounds (n : Int) : 28 ≤ mlen n ∧ mlen n ≤ 31 := dlen_bounds _ _ (by omega) (by omega)
def D_mlen (vs : List V) (z : V) : Prop := ∃ n : Int, vs = [.int n] ∧ z = .int (mlen n)
/-- a date stands at p -/
def DateAt (K : PySem.W.Frag) (H : Hp) (p : Addr) (y m d : Int) : Prop := SqT K H p [.int y, .int m, .int d]
/-- it exists -/
def Exists_ (y m d : Int) : Prop := 1 ≤ m ∧ m ≤ 12 ∧ 1 ≤ d ∧ d ≤ dlen y m
def D_check (K : PySem.W.Frag) (H : Hp) (vs : List V) (z : V) : Prop := ∃ (p : Addr) (y m d : Int), vs = [.ref p] ∧ DateAt K H p y m d ∧ Exists_ y m d ∧ z = .non
theorem ok_check_date (T : Top K mg) : FnOk P w K mg base CX0 3 T.f_check_date T.fd_check_date ["date"] (spH (D_check K)) := by
  have G_days_in : FnOk P w K mg base CX0 2 T.f_days_in T.fd_days_in ["year", "month"] (spF D_days) := ok_days_in T
  refine T.F_check_date.ok sc_check_date (fun vs H Q E h => ?_) (fun cdv A outer s H vs Q E hr h => ?_)
  · obtain ⟨z, ⟨p, y, m, d, rfl, _⟩, _⟩ := h; rfl
  · obtain ⟨z, ⟨p, y, m, d, rfl, hD, ⟨h1, h2, h3, h4⟩, rfl⟩, q⟩ := h
    refine ⟨_, (pss_cons (ps_asg (pv 0) (pg_tup rfl (pgs_cons (pg_name (i := 1) sc_check_date.nd rfl (Or.inl rfl)) (pgs_cons (pg_name (i := 2) sc_check_date.nd rfl (Or.inl rfl)) (pgs_cons (pg_name (i := 3) sc_check_date.nd rfl (Or.inl rfl)) pgs_nil)))))
      (pss_cons (ps_if (PW.pt (pw_or (pt_cmpR op_lt (pv 2) pe_int (nomark _)) (pw_or1 (pt_cmpR op_gt (pv 2) pe_int (nomark _))))) (pss_one ps_never) pss_nil)
      (pss_one (ps_if (PW.pt (pw_or (pt_cmpR op_lt (pv 3) pe_int (nomark _)) (pw_or1 (pt_cmpR op_gt (pv 3) (pe_call G_days_in (hr.mono (by first | decide | omega)) (by rfl) T.g_days_in T.F_days_in.kp T.b_days_in .nil pass0 (pa_cons (pv 1) (pa_cons (pv 2) pa_nil))) (nomark _))))) (pss_one ps_never) pss_nil)))), ?_⟩
    refine f_seq (s_un3 (ev_var rfl) hD fun H1 e1 => ?_)
    refine f_seq (s_if (et_or (et_test (ev_op (ev_var rfl) ev_c rv_I0)) fun _ => et_test (ev_op (ev_var rfl) ev_c rv_I0)) (fun hb _ _ => ?_) fun _ H2 e2 => ?_)
    · simp at hb; omega
    refine s_if (et_or (et_test (ev_op (ev_var rfl) ev_c rv_I0)) fun _ => et_test (ev_op (ev_var rfl) (ev_call (ea_cons (ev_var rfl) (ea_cons (ev_var rfl) ea_nil)) (sv_F ⟨y, m, rfl, h1, h2, rfl⟩)) rv_I0)) (fun hb _ _ => ?_) fun _ H3 e3 => ?_
    · simp at hb; omega
    exact q H3 ((e1.trans e2).trans e3)
def mvs (st : Int × Int) (k : Int) : Int × Int := (st.1 + k, min st.2 (mlen (st.1 + k)))
def mrun (st : Int × Int) (ks : List Int) : Int × Int := ks.foldl mvs st
/-- the date at a place -/
def tupD (st : Int × Int) : List V := [.int (st.1 / 12), .int (st.1 % 12 + 1), .int st.2]
theorem mrun_take {st : Int × Int} {ks : List Int} {i : Nat} {k : Int} (h : ks[i]? = some k) : mrun st (ks.take (i + 1)) = mvs (mrun st (ks.take i)) k := by
  unfold mrun
  rw [List.take_add_one, h, List.foldl_append]
  rfl
def D_move (K : PySem.W.Frag) (H : Hp) (vs xs : List V) : Prop := ∃ (p l : Addr) (y m d : Int) (ks : List Int), vs = [.ref p, .ref l] ∧ DateAt K H p y m d ∧ Exists_ y m d ∧ SqL K H l (ks.map V.int) ∧ xs = tupD (mrun (12 * y + m - 1, d) ks) ∧ y.natAbs ≤ 10 ^ 100
theorem int_of_map {ns : List Int} {i : Nat} {x : V} (h : (ns.map V.int)[i]? = some x) : ∃ z, x = V.int z ∧ ns[i]? = some z := by
  rw [List.getElem?_map] at h
  cases e : ns[i]? with
  | none => rw [e] at h; cases h
  | some z => rw [e] at h; exact ⟨z, (Option.some.inj h).symm, rfl⟩
theorem ok_move (T : Top K mg) : FnOk P w K mg base CX0 4 T.f_move T.fd_move ["date", "steps"] (spU (D_move K)) := by
  have G_days_in : FnOk P w K mg base CX0 2 T.f_days_in T.fd_days_in ["year", "month"] (spF D_days) := ok_days_in T
  have G_check_date : FnOk P w K mg base CX0 3 T.f_check_date T.fd_check_date ["date"] (spH (D_check K)) := ok_check_date T
  refine T.F_move.ok sc_move (fun vs H Q E h => ?_) (fun cdv A outer s H vs Q E hr h => ?_)
  · obtain ⟨z, ⟨p, l, y, m, d, ks, rfl, _⟩, _⟩ := h; rfl
  · obtain ⟨z, ⟨p, l, y, m, d, ks, rfl, hD, hE, hL, rfl, hy⟩, q⟩ := h
    refine ⟨_, (pss_cons (ps_expr (pe_call G_check_date (hr.mono (by first | decide | omega)) (by rfl) T.g_check_date T.F_check_date.kp T.b_check_date .nil pass0 (pa_cons (pv 0) pa_nil)))
      (pss_cons (ps_asg (pv 0) (pg_tup rfl (pgs_cons (pg_name (i := 2) sc_move.nd rfl (Or.inl rfl)) (pgs_cons (pg_name (i := 3) sc_move.nd rfl (Or.inl rfl)) (pgs_cons (pg_name (i := 4) sc_move.nd rfl (Or.inl rfl)) pgs_nil)))))
      (pss_cons (ps_set (i := 5) sc_move.nd rfl (Or.inl rfl) (pe_op op_sub (pe_op op_add (pe_op op_mulW pe_int (pv 2)) (pv 3)) pe_int))
      (pss_cons (ps_for PassesOwn.never rfl (pi_list (pv 1)) (pg_name (i := 6) sc_move.nd rfl (Or.inl rfl)) (pss_cons (ps_set (i := 5) sc_move.nd rfl (Or.inl rfl) (pe_op op_add (pv 5) (pv 6)))
      (pss_one (ps_set (i := 4) sc_move.nd rfl (Or.inl rfl) (pe_callB (call_min2 rfl) (by rfl) T.z_min (by decide +kernel) (pa_cons (pv 4) (pa_cons (pe_call G_days_in (hr.mono (by first | decide | omega)) (by rfl) T.g_days_in T.F_days_in.kp T.b_days_in .nil pass0 (pa_cons (pe_op op_fdivW (pv 5) pe_int) (pa_cons (pe_op op_add (pe_op op_mod (pv 5) pe_int) pe_int) pa_nil))) pa_nil)))))))
      (pss_one (ps_ret (pe_tup (pa_cons (pe_op op_fdivW (pv 5) pe_int) (pa_cons (pe_op op_add (pe_op op_mod (pv 5) pe_int) pe_int) (pa_cons (pv 4) pa_nil)))))))))), ?_⟩
    refine f_seq (s_drop (ev_call (ea_cons (ev_var rfl) ea_nil) (sv_H (z := .non) fun H1 e1 => ⟨p, y, m, d, rfl, ex_t e1 hD, hE, rfl⟩)) fun H1 e1 => ?_)
    refine f_seq (s_un3 (ev_var rfl) (ex_t e1 hD) fun H2 e2 => ?_)
    refine f_seq (s_asg (ev_op (ev_op (ev_op ev_c (ev_var rfl) (rv_mul (by decide) hy)) (ev_var rfl) rv_I0) ev_c rv_I0) fun H3 e3 => ?_)
    have e03 := (e1.trans e2).trans e3
    refine f_seq (s_forL (xs := ks.map V.int) (ev_var rfl) (ex_l e03 hL) (fun i σ H' => ∃ v6 : Option V, σ = [some (.ref p), some (.ref l), some (.int y), some (.int m), some (.int (mrun (12 * y + m - 1, d) (ks.take i)).2), some (.int (mrun (12 * y + m - 1, d) (ks.take i)).1), v6] ∧ Ex H H')
      (fun H4 e4 => ⟨none, rfl, e03.trans e4⟩) (fun i σ H' _ ⟨_, _, e⟩ => ex_l e hL) (fun i x σ H' hx ⟨v6, hσ, e⟩ => ?_) fun σ H' ⟨v6, hσ, e⟩ => ?_)
    · subst hσ
      obtain ⟨k, rfl, hk⟩ := int_of_map hx
      rw [mrun_take hk]
      generalize mrun (12 * y + m - 1, d) (ks.take i) = st
      refine f_gName (f_seq (s_asg (ev_op (ev_var rfl) (ev_var rfl) rv_I0) fun H5 e5 => ?_))
      refine s_asg (ev_min2 (ev_var rfl) (ev_call (ea_cons (ev_op (ev_var rfl) ev_c (rv_div (by decide) (by decide))) (ea_cons (ev_op (ev_op (ev_var rfl) ev_c (rv_mod (by decide))) ev_c rv_I0) ea_nil)) (sv_F ⟨_, _, rfl, by omega, by omega, rfl⟩))) fun H6 e6 => ?_
      exact ⟨_, rfl, (e.trans e5).trans e6⟩
    · subst hσ
      rw [show ks.take (ks.map V.int).length = ks by rw [List.length_map]; exact List.take_of_length_le (Nat.le_refl _)]
      exact s_retU (eu_tup (ea_cons (ev_op (ev_var rfl) ev_c (rv_div (by decide) (by decide))) (ea_cons (ev_op (ev_op (ev_var rfl) ev_c (rv_mod (by decide))) ev_c rv_I0) (ea_cons (ev_var rfl) ea_nil))) (by show 3 ≤ 100000; decide)) fun p1 H1 hp e1 h1 => q p1 H1 (fresh_back e hp) (e.trans e1) h1

/-! the draws -/
def spPool (K : PySem.W.Frag) : Sp := fun vs H Q _ => ∃ (a : Addr) (ns : List Int) (t : Nat), vs = [.ref a, .int t] ∧ SqL K H a (ns.map V.int) ∧ t ≤ 60 ∧ ∀ r H', H r = none → Rg H' r (2 ^ 29) → Ex H H' → Q (.ref r) H'
theorem pool_body (T : Top K mg) : FnOk P w K mg base CX0 1 T.f_law_pool T.fd_law_pool ["script", "at"] (spPool K) := by
  refine T.F_law_pool.ok sc_law_pool (fun vs H Q E h => ?_) (fun cdv A outer s H vs Q E hr h => ?_)
  · obtain ⟨a, ns, t, rfl, _⟩ := h; rfl
  · obtain ⟨a, ns, t, rfl, hS, ht, q⟩ := h
    refine ⟨_, (pss_cons (ps_set (i := 2) sc_law_pool.nd rfl (Or.inl rfl) pe_int)
      (pss_cons (ps_if (pt_cmpR op_lt (pv 1) (pe_callB (r := rLenS K) call_len_seq (by rfl) T.z_len PySem.boot_len (pa_cons (pv 0) pa_nil)) (nomark _)) (pss_one (ps_set (i := 2) sc_law_pool.nd rfl (Or.inl rfl) (pe_ix (r := rIxL K) ix_list (pv 0) (pv 1) (fun _ _ => rfl)))) pss_nil)
      (pss_one (ps_ret (pe_lst (pa_cons (pe_callB (call_max2 rfl) (by rfl) T.z_max (by decide +kernel) (pa_cons pe_int (pa_cons (pe_op op_sub (pe_callB call_abs (by rfl) T.z_abs (by decide +kernel) (pa_cons (pv 2) pa_nil)) (pe_op op_pow pe_int pe_int)) pa_nil))) (pa_cons (pe_op op_add (pe_op op_mod (pv 2) pe_int) (pe_op op_mulW pe_int (pe_op op_add (pv 1) pe_int))) (pa_cons pe_int pa_nil)))))))), ?_⟩
    refine f_seq (s_asg ev_c fun H1 e1 => ?_)
    have fin : ∀ (cell : Int) H2, Ex H H2 → tRet (tLst (tCons (tCB rMax2 (tCons (tC (V.int 0)) (tCons (tOp (rI0 fun i j => V.int (i - j)) (tCB (fun xs H Q => ∃ i, xs = [V.int i] ∧ Q (V.int (if i < 0 then -i else i)) H) (tCons (tVar 2) tNil)) (tOp (rI CPow fun i j => V.int (i ^ j.toNat)) (tC (V.int 10)) (tC (V.int 18)))) tNil))) (tCons (tOp (rI0 fun i j => V.int (i + j)) (tOp (rI (fun _ j => 0 < j) fun i j => V.int (i % j)) (tVar 2) (tC (V.int 2305843009213693951))) (tOp (rI CMulW fun i j => V.int (i * j)) (tC (V.int 5915587277)) (tOp (rI0 fun i j => V.int (i + j)) (tVar 1) (tC (V.int 1))))) (tCons (tC (V.int 0)) tNil)))) { nx := fun _ H' => Q .non H', rt := Q } [some (.ref a), some (.int t), some (.int cell)] H2 := fun cell H2 e2 => by
      refine s_retL (el_lst (ea_cons (ev_max2 ev_c (ev_op (ev_cb (ea_cons (ev_var rfl) ea_nil) fun H3 _ Q' q' => ⟨_, rfl, q' H3 (Ex.refl H3)⟩) (ev_op ev_c ev_c (rv_I (by unfold CPow; decide))) rv_I0)) (ea_cons (ev_op (ev_op (ev_var rfl) ev_c (rv_mod (by decide))) (ev_op ev_c (ev_op (ev_var rfl) ev_c rv_I0) (rv_I (wide_mul (a := 34) (b := 34) (by decide) (by omega) (by decide) (by decide) (by decide)))) rv_I0) (ea_cons ev_c ea_nil))) (by show 3 ≤ 100000; decide)) fun r H3 nr e3 h3 => ?_
      have c0 := Int.emod_nonneg cell (show (2305843009213693951 : Int) ≠ 0 by decide)
      have c1 := Int.emod_lt_of_pos cell (show (0 : Int) < 2305843009213693951 by decide)
      exact q r H3 (fresh_back e2 nr) ⟨_, _, _, h3, by split <;> omega, by omega, by omega, by decide, by decide⟩ (e2.trans e3)
    refine f_seq (s_if (et_test (ev_op (ev_var rfl) (ev_lenS (ev_var rfl) (.inl (ex_l e1 hS))) rv_I0)) (fun hb H2 e2 => ?_) fun hb H2 e2 => ?_)
    · have hb' : (t : Int) < ((ns.map V.int).length : Int) := of_decide_eq_true hb
      obtain ⟨z, _, hat⟩ := at_ints (L := ns) (n := t) (by omega) (by rw [List.length_map] at hb'; exact hb')
      refine s_asg (ev_op (ev_var rfl) (ev_var rfl) (rv_ixL (ex_l (e1.trans e2) hS) hat)) fun H3 e3 => ?_
      exact fin z H3 ((e1.trans e2).trans e3)
    · exact fin 0 H2 (e1.trans e2)
theorem ok_law_pool (T : Top K mg) : FnOk P w K mg base CX0 1 T.f_law_pool T.fd_law_pool ["script", "at"] (spPool K) := pool_body T
theorem ok_law_draw (T : Top K mg) : FnOk P w K mg base CX0 1 T.f_law_draw T.fd_law_draw ["pool", "many"] spRdraw := by
  refine T.F_law_draw.ok sc_law_draw (fun vs H Q E h => ?_) (fun cdv A outer s H vs Q E hr h => ?_)
  · obtain ⟨r, many, B, rfl, _⟩ := h; rfl
  · obtain ⟨r, many, B, rfl, h0, hbig, S, q⟩ := h
    obtain ⟨dg, sd, t, hs, d0, s0, s1, t0, t1⟩ := S.ex
    refine ⟨_, (pss_cons (ps_if (pt_cmpR op_gt (pe_ix (r := rIxL K) ix_list (pv 0) pe_int (fun _ _ => rfl)) pe_int (nomark _)) (pss_cons (ps_set (i := 2) sc_law_draw.nd rfl (Or.inl rfl) (pe_op op_mod (pe_ix (r := rIxL K) ix_list (pv 0) pe_int (fun _ _ => rfl)) (pv 1)))
      (pss_cons (ps_asg (pe_op op_fdivW (pe_ix (r := rIxL K) ix_list (pv 0) pe_int (fun _ _ => rfl)) (pv 1)) (pg_sub (pv 0) pe_int set_list))
      (pss_one (ps_ret (pv 2))))) pss_nil)
      (pss_cons (ps_asg (pe_op op_add (pe_ix (r := rIxL K) ix_list (pv 0) pe_int (fun _ _ => rfl)) pe_int) (pg_sub (pv 0) pe_int set_list))
      (pss_cons (ps_set (i := 3) sc_law_draw.nd rfl (Or.inl rfl) (pe_op op_mod (pe_op op_pow (pe_op op_add (pe_ix (r := rIxL K) ix_list (pv 0) pe_int (fun _ _ => rfl)) (pe_op op_mulW pe_int (pe_ix (r := rIxL K) ix_list (pv 0) pe_int (fun _ _ => rfl)))) pe_int) pe_int))
      (pss_cons (ps_set (i := 3) sc_law_draw.nd rfl (Or.inl rfl) (pe_op op_mod (pe_op op_powW (pe_op op_add (pv 3) (pe_op op_mulW pe_int (pe_ix (r := rIxL K) ix_list (pv 0) pe_int (fun _ _ => rfl)))) pe_int) pe_int))
      (pss_one (ps_ret (pe_op op_mod (pe_op op_fdivW (pv 3) pe_int) (pv 1)))))))), ?_⟩
    refine f_seq (s_if (et_test (ev_op (ev_op (ev_var rfl) ev_c (rv_ixL (sq_of hs) (atI_nat (j := 0) rfl))) ev_c rv_I0)) (fun hb H2 e2 => ?_) fun hb H2 e2 => f_next ?_)
    · have hs2 := e2 _ _ hs
      refine f_seq (s_asg (ev_op (ev_op (ev_var rfl) ev_c (rv_ixL (sq_of hs2) (atI_nat (j := 0) rfl))) (ev_var rfl) (rv_mod h0)) fun H3 e3 => ?_)
      have hs3 := e3 _ _ hs2
      refine f_seq (s_setL (j := 0) hs3 (ev_op (ev_op (ev_var rfl) ev_c (rv_ixL (sq_of hs3) (atI_nat (j := 0) rfl))) (ev_var rfl) (rv_I (wide_div (b := 200) h0 (by omega) (by decide) (by decide)))) (ev_var rfl) ev_c (by show 0 < 3; decide) fun H4 e4 => ?_)
      refine s_ret (ev_var rfl) fun H5 e5 => ?_
      refine q _ _ (Int.emod_nonneg _ (by omega)) (Int.emod_lt_of_pos _ h0) (Rg.ex_ ⟨dg / many, sd, t, upd_same, Int.ediv_nonneg d0 (by omega), s0, s1, t0, by omega⟩ e5) fun b o h1 h => e5 _ _ ?_
      rw [upd_ne h1]
      exact ((e2.trans e3).trans e4) _ _ h
    · have hs2 := e2 _ _ hs
      refine f_seq (s_setL (j := 2) hs2 (ev_op (ev_op (ev_var rfl) ev_c (rv_ixL (sq_of hs2) (atI_nat (j := 2) rfl))) ev_c rv_I0) (ev_var rfl) ev_c (by show 2 < 3; decide) fun H3 e3 => ?_)
      have hs3 : (upd H3 r (.lst [.int dg, .int sd, .int (t + 1)])) r = some (.lst [.int dg, .int sd, .int (t + 1)]) := upd_same
      have K3 : SqL K (upd H3 r (.lst [.int dg, .int sd, .int (t + 1)])) r [.int dg, .int sd, .int (t + 1)] := sq_of hs3
      show tSeq _ _ _ _ (upd H3 r (.lst [.int dg, .int sd, .int (t + 1)]))
      refine f_seq (s_asg (ev_op (ev_op (ev_op (ev_op (ev_var rfl) ev_c (rv_ixL K3 (atI_nat (j := 1) rfl))) (ev_op ev_c (ev_op (ev_var rfl) ev_c (rv_ixL K3 (atI_nat (j := 2) rfl))) (rv_I (wide_mul (a := 31) (b := 61) (by decide) (by omega) (by decide) (by decide) (by decide)))) rv_I0) ev_c (rv_I (by unfold CPow; omega))) ev_c (rv_mod (by decide))) fun H4 e4 => ?_)
      generalize hx : (sd + 15485863 * (t + 1)) ^ (3 : Int).toNat % 162259276829213363391578010288127 = x
      have x0 : 0 ≤ x := by rw [← hx]; exact Int.emod_nonneg _ (by decide)
      have x1 : x < 162259276829213363391578010288127 := by rw [← hx]; exact Int.emod_lt_of_pos _ (by decide)
      refine f_seq (s_asg (ev_op (ev_op (ev_op (ev_var rfl) (ev_op ev_c (ev_op (ev_var rfl) ev_c (rv_ixL (ex_l e4 K3) (atI_nat (j := 2) rfl))) (rv_I (wide_mul (a := 31) (b := 61) (by decide) (by omega) (by decide) (by decide) (by decide)))) rv_I0) ev_c (rv_I (powW (b := 120) (by decide) (by decide) (by omega) (by decide) (by decide)))) ev_c (rv_mod (by decide))) fun H5 e5 => ?_)
      refine s_ret (ev_op (ev_op (ev_var rfl) ev_c (rv_I (by unfold CDivW; decide))) (ev_var rfl) (rv_mod h0)) fun H6 e6 => ?_
      refine q _ _ (Int.emod_nonneg _ (by omega)) (Int.emod_lt_of_pos _ h0) (Rg.ex_ ⟨dg, sd, t + 1, hs3, d0, s0, s1, by omega, by omega⟩ ((e4.trans e5).trans e6)) fun b o h1 h => ((e4.trans e5).trans e6) _ _ ?_
      rw [upd_ne h1]
      exact (e2.trans e3) _ _ h
/-- the length of the month with a number -/
theorem ok_law_days (T : Top K mg) : FnOk P w K mg base CX0 1 T.f_law_days T.fd_law_days ["number"] (spF D_mlen) := by
  refine T.F_law_days.ok sc_law_days (fun vs H Q E h => ?_) (fun cdv A outer s H vs Q E hr h => ?_)
  · obtain ⟨z, ⟨y, rfl, _⟩, _⟩ := h; rfl
  · obtain ⟨z, ⟨n, rfl, rfl⟩, q⟩ := h
    refine ⟨_, (pss_cons (ps_par (i := 1) (j := 2) (by rfl) sc_law_days.nd rfl rfl (by decide) rfl rfl (pa_cons (pe_op op_fdivW (pv 0) pe_int) (pa_cons (pe_op op_mod (pv 0) pe_int) pa_nil)) (by rfl))
      (pss_cons (ps_if (pt_cmpR op_eq (pv 2) pe_int (nomark _)) (pss_one (ps_ret (pe_op op_add pe_int (pe_callTy call_int1 (by rfl) T.z_int (by decide +kernel) (pa_cons (pe_or (pe_cmpR op_eq (pe_op op_mod (pv 1) pe_int) pe_int (nomark _)) (pe_one (pe_and (pe_cmpR op_eq (pe_op op_mod (pv 1) pe_int) pe_int (nomark _)) (pe_one (pe_cmpR op_ne (pe_op op_mod (pv 1) pe_int) pe_int (nomark _)))))) pa_nil))))) pss_nil)
      (pss_one (ps_ret (pe_ix (r := rIxL K) ix_list (pe_lst (pa_cons pe_int (pa_cons pe_int (pa_cons pe_int (pa_cons pe_int (pa_cons pe_int (pa_cons pe_int (pa_cons pe_int (pa_cons pe_int (pa_cons pe_int (pa_cons pe_int (pa_cons pe_int (pa_cons pe_int pa_nil))))))))))))) (pv 2) (fun _ _ => rfl)))))), ?_⟩
    refine f_seq (f_par (f_cons (f_ev (ev_op (ev_var rfl) ev_c (rv_div (by decide) (by decide))) fun H1 e1 => f_cons (f_ev (ev_op (ev_var rfl) ev_c (rv_mod (by decide))) fun H2 e2 => f_nil (f_par2 ?_)))))
    refine f_seq (s_if (et_test (ev_op (ev_var rfl) ev_c rv_eqI)) (fun hb H3 e3 => ?_) fun hb H3 e3 => f_next ?_)
    · have hn : n % 12 = 1 := of_decide_eq_true hb
      have e : mlen n = 28 + b2 (leap (n / 12)) := by simp [mlen, hn, dlen, mlist]
      rw [e, ← lleap_eq] at q
      exact s_ret (ev_op ev_c (ev_intB (ev_orV (ev_op (ev_op (ev_var rfl) ev_c (rv_mod (by decide))) ev_c rv_eqI) fun _ => ev_andV (ev_op (ev_op (ev_var rfl) ev_c (rv_mod (by decide))) ev_c rv_eqI) fun _ => ev_op (ev_op (ev_var rfl) ev_c (rv_mod (by decide))) ev_c rv_neI)) rv_I0) fun H4 e4 => q H4 (((e1.trans e2).trans e3).trans e4)
    · have hn : ¬ n % 12 = 1 := of_decide_eq_false hb
      have hat : atI ([.int 31, .int 0, .int 31, .int 30, .int 31, .int 30, .int 31, .int 31, .int 30, .int 31, .int 30, .int 31] : List V) (n % 12) = some (.int (mlen n)) := by
        have hc : n % 12 = 0 ∨ n % 12 = 2 ∨ n % 12 = 3 ∨ n % 12 = 4 ∨ n % 12 = 5 ∨ n % 12 = 6 ∨ n % 12 = 7 ∨ n % 12 = 8 ∨ n % 12 = 9 ∨ n % 12 = 10 ∨ n % 12 = 11 := by omega
        unfold mlen dlen mlist
        rcases hc with h | h | h | h | h | h | h | h | h | h | h <;> rw [h] <;> rfl
      refine s_ret (ev_opL1 (el_lst (ea_cons ev_c (ea_cons ev_c (ea_cons ev_c (ea_cons ev_c (ea_cons ev_c (ea_cons ev_c (ea_cons ev_c (ea_cons ev_c (ea_cons ev_c (ea_cons ev_c (ea_cons ev_c (ea_cons ev_c ea_nil)))))))))))) (by show 12 ≤ 100000; decide)) (fun _ _ => ev_var rfl) fun p H5 h5 _ => rv_ixL (sq_of h5) hat) fun H4 e4 => q H4 (((e1.trans e2).trans e3).trans e4)
/-- a number with a sign -/
def spGreat : Sp := fun vs H Q _ => ∃ (r : Addr) (B : Nat), vs = [.ref r] ∧ Rg H r (B + 3) ∧ ∀ z H', z.natAbs ≤ 10 ^ 30 → Rg H' r B → Kr r H H' → Q (.int z) H'
theorem ok_law_great (T : Top K mg) : FnOk P w K mg base CX0 2 T.f_law_great T.fd_law_great ["pool"] spGreat := by
  have G_law_draw : FnOk P w K mg base CX0 1 T.f_law_draw T.fd_law_draw ["pool", "many"] spRdraw := ok_law_draw T
  refine T.F_law_great.ok sc_law_great (fun vs H Q E h => ?_) (fun cdv A outer s H vs Q E hr h => ?_)
  · obtain ⟨r, B, rfl, _⟩ := h; rfl
  · obtain ⟨r, B, rfl, S, q⟩ := h
    refine ⟨_, (pss_cons (ps_set (i := 1) sc_law_great.nd rfl (Or.inl rfl) (pe_op op_add (pe_op op_mulW (pe_op op_pow pe_int pe_int) (pe_call G_law_draw (hr.mono (by first | decide | omega)) (by rfl) T.g_law_draw T.F_law_draw.kp T.b_law_draw .nil pass0 (pa_cons (pv 0) (pa_cons (pe_op op_pow pe_int pe_int) pa_nil)))) (pe_call G_law_draw (hr.mono (by first | decide | omega)) (by rfl) T.g_law_draw T.F_law_draw.kp T.b_law_draw .nil pass0 (pa_cons (pv 0) (pa_cons (pe_op op_pow pe_int pe_int) pa_nil)))))
      (pss_one (ps_ret (pe_op op_mulW (pv 1) (pe_ix (r := rIxL K) ix_list (pe_lst (pa_cons pe_int (pa_cons (pe_un un_neg pe_int) pa_nil))) (pe_call G_law_draw (hr.mono (by first | decide | omega)) (by rfl) T.g_law_draw T.F_law_draw.kp T.b_law_draw .nil pass0 (pa_cons (pv 0) (pa_cons pe_int pa_nil))) (fun _ _ => rfl)))))), ?_⟩
    walk_at "fw"
    refine f_rdraw (B := B + 2) S (by decide) (by decide) fun n1 H1 a1 b1 S1 k1 => ?_
    replace b1 : n1 < 10 ^ 15 := b1
    refine f_I (wide_mul (a := 60) (b := 60) (by decide) (by omega) (by decide) (by decide) (by decide)) ?_
    walk_at "fw"
    refine f_rdraw (B := B + 1) S1 (by decide) (by decide) fun n2 H2 a2 b2 S2 k2 => ?_
    walk_at "fw"
    refine f_newLr S2 (by simp) fun p np fp S3 e3 h3 => ?_
    walk_at "fw"
    refine f_rdraw (B := B) S3 (by decide) (by decide) fun n4 H4 a4 b4 S4 k4 => ?_
    obtain ⟨sg, hsg, hat⟩ := at_ints (L := [1, -1]) a4 b4
    refine f_ixL (k4.at fp h3) hat ?_
    have hs : sg = 1 ∨ sg = -1 := by simpa using hsg
    replace b2 : n2 < 10 ^ 14 := b2
    refine f_I (wide_mul (a := 200) (b := 10) (by show ((10 : Int) ^ 14 * n1 + n2).natAbs < 2 ^ 200; omega) (by omega) (by decide) (by decide) (by decide)) ?_
    refine q _ _ ?_ S4 (((k1.trans k2).l e3).trans k4)
    show (((10 : Int) ^ 14 * n1 + n2) * sg).natAbs ≤ 10 ^ 30
    rcases hs with rfl | rfl <;> omega
/-- a new date -/
def spRdate : Sp := fun vs H Q _ => ∃ (r : Addr) (B : Nat), vs = [.ref r] ∧ Rg H r (B + 20) ∧ ∀ (y m e : Int) (p : Addr) (H' : Hp), Exists_ y m e → y.natAbs ≤ 10 ^ 31 → H p = none → p ≠ r → Rg H' r B → Kr r H H' → H' p = some (.tup [.int y, .int m, .int e]) → Q (.ref p) H'
theorem ok_law_date (T : Top K mg) : FnOk P w K mg base CX0 3 T.f_law_date T.fd_law_date ["pool"] spRdate := by
  have G_law_draw : FnOk P w K mg base CX0 1 T.f_law_draw T.fd_law_draw ["pool", "many"] spRdraw := ok_law_draw T
  have G_law_great : FnOk P w K mg base CX0 2 T.f_law_great T.fd_law_great ["pool"] spGreat := ok_law_great T
  have G_law_days : FnOk P w K mg base CX0 1 T.f_law_days T.fd_law_days ["number"] (spF D_mlen) := ok_law_days T
  refine T.F_law_date.ok sc_law_date (fun vs H Q E h => ?_) (fun cdv A outer s H vs Q E hr h => ?_)
  · obtain ⟨r, B, rfl, _⟩ := h; rfl
  · obtain ⟨r, B, rfl, S, q⟩ := h
    refine ⟨_, (pss_cons (ps_set (i := 1) sc_law_date.nd rfl (Or.inl rfl) (pe_ix (r := rIxL K) ix_list (pe_lst (pa_cons (pe_op op_add pe_int (pe_call G_law_draw (hr.mono (by first | decide | omega)) (by rfl) T.g_law_draw T.F_law_draw.kp T.b_law_draw .nil pass0 (pa_cons (pv 0) (pa_cons pe_int pa_nil)))) (pa_cons (pe_op op_sub (pe_call G_law_draw (hr.mono (by first | decide | omega)) (by rfl) T.g_law_draw T.F_law_draw.kp T.b_law_draw .nil pass0 (pa_cons (pv 0) (pa_cons pe_int pa_nil))) pe_int) (pa_cons (pe_call G_law_great (hr.mono (by first | decide | omega)) (by rfl) T.g_law_great T.F_law_great.kp T.b_law_great .nil pass0 (pa_cons (pv 0) pa_nil)) pa_nil)))) (pe_call G_law_draw (hr.mono (by first | decide | omega)) (by rfl) T.g_law_draw T.F_law_draw.kp T.b_law_draw .nil pass0 (pa_cons (pv 0) (pa_cons pe_int pa_nil))) (fun _ _ => rfl)))
      (pss_cons (ps_set (i := 2) sc_law_date.nd rfl (Or.inl rfl) (pe_ix (r := rIxL K) ix_list (pe_lst (pa_cons (pe_call G_law_draw (hr.mono (by first | decide | omega)) (by rfl) T.g_law_draw T.F_law_draw.kp T.b_law_draw .nil pass0 (pa_cons (pv 0) (pa_cons pe_int pa_nil))) (pa_cons pe_int (pa_cons pe_int pa_nil)))) (pe_call G_law_draw (hr.mono (by first | decide | omega)) (by rfl) T.g_law_draw T.F_law_draw.kp T.b_law_draw .nil pass0 (pa_cons (pv 0) (pa_cons pe_int pa_nil))) (fun _ _ => rfl)))
      (pss_cons (ps_set (i := 3) sc_law_date.nd rfl (Or.inl rfl) (pe_call G_law_days (hr.mono (by first | decide | omega)) (by rfl) T.g_law_days T.F_law_days.kp T.b_law_days .nil pass0 (pa_cons (pe_op op_add (pe_op op_mulW pe_int (pv 1)) (pv 2)) pa_nil)))
      (pss_cons (ps_set (i := 4) sc_law_date.nd rfl (Or.inl rfl) (pe_ix (r := rIxL K) ix_list (pe_lst (pa_cons (pv 3) (pa_cons (pe_op op_add pe_int (pe_call G_law_draw (hr.mono (by first | decide | omega)) (by rfl) T.g_law_draw T.F_law_draw.kp T.b_law_draw .nil pass0 (pa_cons (pv 0) (pa_cons (pv 3) pa_nil)))) (pa_cons (pe_op op_sub (pv 3) (pe_call G_law_draw (hr.mono (by first | decide | omega)) (by rfl) T.g_law_draw T.F_law_draw.kp T.b_law_draw .nil pass0 (pa_cons (pv 0) (pa_cons pe_int pa_nil)))) pa_nil)))) (pe_call G_law_draw (hr.mono (by first | decide | omega)) (by rfl) T.g_law_draw T.F_law_draw.kp T.b_law_draw .nil pass0 (pa_cons (pv 0) (pa_cons pe_int pa_nil))) (fun _ _ => rfl)))
      (pss_one (ps_ret (pe_tup (pa_cons (pv 1) (pa_cons (pe_op op_add (pv 2) pe_int) (pa_cons (pv 4) pa_nil)))))))))), ?_⟩
    walk_at "fw"
    refine f_rdraw (B := B + 19) S (by decide) (by decide) fun n1 H1 a1 b1 S1 k1 => ?_
    walk_at "fw"
    refine f_rdraw (B := B + 18) S1 (by decide) (by decide) fun n2 H2 a2 b2 S2 k2 => ?_
    walk_at "fw"
    refine ⟨r, B + 15, rfl, S2, fun g H3 hg S3 k3 => ?_⟩
    walk_at "fw"
    refine f_newLr S3 (by simp) fun p4 np4 fp4 S4 e4 h4 => ?_
    walk_at "fw"
    refine f_rdraw (B := B + 14) S4 (by decide) (by decide) fun n5 H5 a5 b5 S5 k5 => ?_
    obtain ⟨y, hy, hat⟩ := at_ints (L := [1990 + n1, n2 - 400, g]) a5 b5
    refine f_ixL (k5.at fp4 h4) hat ?_
    have hyb : y.natAbs ≤ 10 ^ 31 := by simp at hy; omega
    have kk5 := ((((k1.trans k2).trans k3).l e4).trans k5)
    clear hat hy h4
    walk_at "fw"
    refine f_rdraw (B := B + 13) S5 (by decide) (by decide) fun n6 H6 a6 b6 S6 k6 => ?_
    walk_at "fw"
    refine f_newLr S6 (by simp) fun p7 np7 fp7 S7 e7 h7 => ?_
    walk_at "fw"
    refine f_rdraw (B := B + 12) S7 (by decide) (by decide) fun n8 H8 a8 b8 S8 k8 => ?_
    obtain ⟨mo, hmo, hat⟩ := at_ints (L := [n6, 0, 1]) a8 b8
    refine f_ixL (k8.at fp7 h7) hat ?_
    have hmb : 0 ≤ mo ∧ mo < 12 := by simp at hmo; omega
    have kk8 := ((kk5.trans k6).l e7).trans k8
    clear hat hmo h7
    walk_at "fs"
    refine f_ev (ev_call (ea_cons (ev_op (ev_op ev_c (ev_var rfl) (rv_mul (by decide) (by omega))) (ev_var rfl) rv_I0) ea_nil) (sv_F ⟨_, rfl, rfl⟩)) fun H9 e9 => ?_
    have em : mlen (12 * y + mo) = dlen y (mo + 1) := by
      unfold mlen
      rw [show (12 * y + mo) / 12 = y by omega, show (12 * y + mo) % 12 = mo by omega]
    rw [em]
    obtain ⟨l28, l31⟩ := dlen_bounds y (mo + 1) (by omega) (by omega)
    generalize hl : dlen y (mo + 1) = last at l28 l31
    walk_at "fw"
    refine f_rdraw (B := B + 11) (S8.ex_ e9) (by omega) (by omega) fun n10 H10 a10 b10 S10 k10 => ?_
    walk_at "fw"
    refine f_rdraw (B := B + 10) S10 (by decide) (by decide) fun n11 H11 a11 b11 S11 k11 => ?_
    walk_at "fw"
    refine f_newLr S11 (by simp) fun p12 np12 fp12 S12 e12 h12 => ?_
    walk_at "fw"
    refine f_rdraw (B := B + 9) S12 (by decide) (by decide) fun n13 H13 a13 b13 S13 k13 => ?_
    obtain ⟨da, hda, hat⟩ := at_ints (L := [last, 1 + n10, last - n11]) a13 b13
    refine f_ixL (k13.at fp12 h12) hat ?_
    have hdb : 1 ≤ da ∧ da ≤ last := by simp at hda; omega
    have kk13 := ((((kk8.l e9).trans k10).trans k11).l e12).trans k13
    walk_at "fw"
    refine f_newUr S13 (by simp) fun p14 np14 fp14 S14 e14 h14 => ?_
    exact q y (mo + 1) da p14 _ ⟨by omega, by omega, hdb.1, by rw [hl]; exact hdb.2⟩ hyb (kk13.new S13 np14) fp14 (S14.less (by omega)) (kk13.l e14) h14
/-- a step -/
def spStride : Sp := fun vs H Q _ => ∃ (r : Addr) (most : Int) (B : Nat), vs = [.ref r, .int most] ∧ 0 < most ∧ most ≤ 10 ^ 31 ∧ Rg H r (B + 20) ∧ ∀ z H', z.natAbs ≤ 10 ^ 32 → Rg H' r B → Kr r H H' → Q (.int z) H'
theorem ok_law_stride (T : Top K mg) : FnOk P w K mg base CX0 2 T.f_law_stride T.fd_law_stride ["pool", "most"] spStride := by
  have G_law_draw : FnOk P w K mg base CX0 1 T.f_law_draw T.fd_law_draw ["pool", "many"] spRdraw := ok_law_draw T
  refine T.F_law_stride.ok sc_law_stride (fun vs H Q E h => ?_) (fun cdv A outer s H vs Q E hr h => ?_)
  · obtain ⟨r, most, B, rfl, _⟩ := h; rfl
  · obtain ⟨r, most, B, rfl, m0, m1, S, q⟩ := h
    refine ⟨_, (pss_cons (ps_set (i := 2) sc_law_stride.nd rfl (Or.inl rfl) (pe_lst (pa_cons (pe_call G_law_draw (hr.mono (by first | decide | omega)) (by rfl) T.g_law_draw T.F_law_draw.kp T.b_law_draw .nil pass0 (pa_cons (pv 0) (pa_cons pe_int pa_nil))) (pa_cons (pe_op op_mulW pe_int (pe_call G_law_draw (hr.mono (by first | decide | omega)) (by rfl) T.g_law_draw T.F_law_draw.kp T.b_law_draw .nil pass0 (pa_cons (pv 0) (pa_cons pe_int pa_nil)))) (pa_cons (pe_op op_mulW pe_int (pe_call G_law_draw (hr.mono (by first | decide | omega)) (by rfl) T.g_law_draw T.F_law_draw.kp T.b_law_draw .nil pass0 (pa_cons (pv 0) (pa_cons pe_int pa_nil)))) (pa_cons (pe_op op_mulW pe_int (pe_call G_law_draw (hr.mono (by first | decide | omega)) (by rfl) T.g_law_draw T.F_law_draw.kp T.b_law_draw .nil pass0 (pa_cons (pv 0) (pa_cons pe_int pa_nil)))) pa_nil))))))
      (pss_cons (ps_expr (pe_bm PySem.F.plainAttrs_list PySem.F.slot_list_append PySem.F.type_list_append mt_append (pv 2) (pa_cons (pe_call G_law_draw (hr.mono (by first | decide | omega)) (by rfl) T.g_law_draw T.F_law_draw.kp T.b_law_draw .nil pass0 (pa_cons (pv 0) (pa_cons (pv 1) pa_nil))) pa_nil)))
      (pss_one (ps_ret (pe_op op_mulW (pe_ix (r := rIxL K) ix_list (pv 2) (pe_call G_law_draw (hr.mono (by first | decide | omega)) (by rfl) T.g_law_draw T.F_law_draw.kp T.b_law_draw .nil pass0 (pa_cons (pv 0) (pa_cons pe_int pa_nil))) (fun _ _ => rfl)) (pe_ix (r := rIxL K) ix_list (pe_lst (pa_cons pe_int (pa_cons (pe_un un_neg pe_int) pa_nil))) (pe_call G_law_draw (hr.mono (by first | decide | omega)) (by rfl) T.g_law_draw T.F_law_draw.kp T.b_law_draw .nil pass0 (pa_cons (pv 0) (pa_cons pe_int pa_nil))) (fun _ _ => rfl))))))), ?_⟩
    walk_at "fw"
    refine f_rdraw (B := B + 19) S (by decide) (by decide) fun n1 H1 a1 b1 S1 k1 => ?_
    walk_at "fw"
    refine f_rdraw (B := B + 18) S1 (by decide) (by decide) fun n2 H2 a2 b2 S2 k2 => ?_
    walk_at "fw"
    refine f_rdraw (B := B + 17) S2 (by decide) (by decide) fun n3 H3 a3 b3 S3 k3 => ?_
    walk_at "fw"
    refine f_rdraw (B := B + 16) S3 (by decide) (by decide) fun n4 H4 a4 b4 S4 k4 => ?_
    walk_at "fw"
    refine f_newLr S4 (by simp) fun p5 np5 fp5 S5 e5 h5 => ?_
    walk_at "fs"
    refine f_bm ?_
    walk_at "fs"
    refine f_tyL h5 ?_
    walk_at "fw"
    refine f_rdraw (B := B + 15) S5 (by omega) (by omega) fun n6 H6 a6 b6 S6 k6 => ?_
    have h6 := k6.at fp5 h5
    walk_at "fw"
    refine ⟨p5, _, _, rfl, rfl, h6, sz_lt (by simp), ?_⟩
    have S7 := S6.upd (o := .lst [.int n1, .int (12 * n2), .int (48 * n3), .int (1200 * n4), .int n6]) fp5
    have kk : Kr r H (upd H6 p5 (.lst [.int n1, .int (12 * n2), .int (48 * n3), .int (1200 * n4), .int n6])) := fun b o g1 g => by
      rw [upd_ne (ne_of_none ((((k1.trans k2).trans k3).trans k4) b o g1 g) np5)]
      exact (((((k1.trans k2).trans k3).trans k4).l e5).trans k6) b o g1 g
    show tSeq _ _ _ _ (upd H6 p5 (.lst [.int n1, .int (12 * n2), .int (48 * n3), .int (1200 * n4), .int n6]))
    have h7 : (upd H6 p5 (.lst [.int n1, .int (12 * n2), .int (48 * n3), .int (1200 * n4), .int n6])) p5 = some (.lst [.int n1, .int (12 * n2), .int (48 * n3), .int (1200 * n4), .int n6]) := upd_same
    generalize upd H6 p5 (.lst [.int n1, .int (12 * n2), .int (48 * n3), .int (1200 * n4), .int n6]) = H7 at S7 kk h7
    walk_at "fw"
    refine f_rdraw (B := B + 14) S7 (by decide) (by decide) fun n8 H8 a8 b8 S8 k8 => ?_
    obtain ⟨z, hz, hat⟩ := at_ints (L := [n1, 12 * n2, 48 * n3, 1200 * n4, n6]) a8 b8
    refine f_ixL (k8.at fp5 h7) hat ?_
    walk_at "fw"
    refine f_newLr S8 (by simp) fun p9 np9 fp9 S9 e9 h9 => ?_
    walk_at "fw"
    refine f_rdraw (B := B + 13) S9 (by decide) (by decide) fun n10 H10 a10 b10 S10 k10 => ?_
    obtain ⟨sg, hsg, hat2⟩ := at_ints (L := [1, -1]) a10 b10
    refine f_ixL (k10.at fp9 h9) hat2 ?_
    have hs : sg = 1 ∨ sg = -1 := by simpa using hsg
    have hzb : z.natAbs ≤ 10 ^ 31 := by simp at hz; omega
    refine f_I (wide_mul (a := 200) (b := 10) (by omega) (by omega) (by decide) (by decide) (by decide)) ?_
    exact q _ _ (by rcases hs with rfl | rfl <;> omega) (S10.less (by omega)) (((kk.trans k8).l e9).trans k10)

theorem mrun_append (st : Int × Int) (a b : List Int) : mrun st (a ++ b) = mrun (mrun st a) b := List.foldl_append ..
theorem mrun_fst (st : Int × Int) (ks : List Int) : (mrun st ks).1 = st.1 + ks.sum := by
  induction ks generalizing st with
  | nil => simp [mrun]
  | cons k ks ih =>
    show (mrun (mvs st k) ks).1 = _
    rw [ih, List.sum_cons]
    show st.1 + k + ks.sum = _
    omega
def fine (st : Int × Int) : Prop := 1 ≤ st.2 ∧ st.2 ≤ mlen st.1
theorem mvs_fine {st : Int × Int} (h : fine st) (k : Int) : fine (mvs st k) := by
  have b := mlen_bounds (st.1 + k)
  have h1 := h.1
  refine ⟨?_, Int.min_le_right _ _⟩
  show 1 ≤ min st.2 (mlen (st.1 + k))
  omega
theorem mrun_fine {st : Int × Int} (h : fine st) (ks : List Int) : fine (mrun st ks) := by
  induction ks generalizing st with
  | nil => exact h
  | cons k ks ih => exact ih (mvs_fine h k)
theorem fine_of {y m d : Int} (h : Exists_ y m d) : fine (12 * y + m - 1, d) := by
  obtain ⟨h1, h2, h3, h4⟩ := h
  refine ⟨h3, ?_⟩
  show d ≤ mlen (12 * y + m - 1)
  unfold mlen
  rw [show (12 * y + m - 1) / 12 = y by omega, show (12 * y + m - 1) % 12 + 1 = m by omega]
  exact h4
theorem of_fine {st : Int × Int} (h : fine st) : Exists_ (st.1 / 12) (st.1 % 12 + 1) st.2 := ⟨by omega, by omega, h.1, h.2⟩
theorem back_st (st : Int × Int) : (12 * (st.1 / 12) + (st.1 % 12 + 1) - 1, st.2) = st := by
  obtain ⟨a, b⟩ := st
  show (12 * (a / 12) + (a % 12 + 1) - 1, b) = (a, b)
  rw [show 12 * (a / 12) + (a % 12 + 1) - 1 = a by omega]
theorem mvs_zero {st : Int × Int} (h : fine st) : mvs st 0 = st := by
  obtain ⟨a, b⟩ := st
  have h2 : b ≤ mlen a := h.2
  show (a + 0, min b (mlen (a + 0))) = (a, b)
  rw [Int.add_zero, Int.min_eq_left h2]
theorem mlen_4800 (n : Int) : mlen (n + 4800) = mlen n := by
  unfold mlen
  rw [show (n + 4800) / 12 = n / 12 + 400 by omega, show (n + 4800) % 12 = n % 12 by omega]
  unfold dlen mlist
  rw [show leap (n / 12 + 400) = leap (n / 12) by
    unfold leap
    rw [show (n / 12 + 400) % 4 = n / 12 % 4 by omega, show (n / 12 + 400) % 100 = n / 12 % 100 by omega, show (n / 12 + 400) % 400 = n / 12 % 400 by omega]]
theorem mrun_4800 (st : Int × Int) (ks : List Int) : mrun (st.1 + 4800, st.2) ks = ((mrun st ks).1 + 4800, (mrun st ks).2) := by
  induction ks generalizing st with
  | nil => rfl
  | cons k ks ih =>
    show mrun (mvs (st.1 + 4800, st.2) k) ks = ((mrun (mvs st k) ks).1 + 4800, (mrun (mvs st k) ks).2)
    rw [← ih]
    congr 1
    show (st.1 + 4800 + k, min st.2 (mlen (st.1 + 4800 + k))) = (st.1 + k + 4800, min st.2 (mlen (st.1 + k)))
    rw [show st.1 + 4800 + k = st.1 + k + 4800 by omega, mlen_4800]
theorem mrun_snd_le (st : Int × Int) (ks : List Int) : (mrun st ks).2 ≤ st.2 := by
  induction ks generalizing st with
  | nil => exact Int.le_refl _
  | cons k ks ih => exact Int.le_trans (ih (mvs st k)) (Int.min_le_left _ _)
theorem sum_bound {ks : List Int} {b : Nat} (h : ∀ k, k ∈ ks → k.natAbs ≤ b) : ks.sum.natAbs ≤ ks.length * b := by
  induction ks with
  | nil => simp
  | cons k ks ih =>
    have h1 := h k (List.mem_cons_self ..)
    have h2 := ih fun x hx => h x (List.mem_cons_of_mem _ hx)
    rw [List.sum_cons, List.length_cons, Nat.add_mul]
    omega
/-- the date at a place, as ints -/
def tupI (st : Int × Int) : List Int := [st.1 / 12, st.1 % 12 + 1, st.2]
theorem tupI_map (st : Int × Int) : tupD st = (tupI st).map V.int := rfl

/-- the dates on the way -/
def along (st : Int × Int) (ks : List Int) : List (List Int) := (List.range (ks.length + 1)).map fun i => tupI (mrun st (ks.take i))
theorem tupI_of {y m d : Int} (h1 : 1 ≤ m) (h2 : m ≤ 12) : tupI (12 * y + m - 1, d) = [y, m, d] := by
  unfold tupI
  show [(12 * y + m - 1) / 12, (12 * y + m - 1) % 12 + 1, d] = _
  rw [show (12 * y + m - 1) / 12 = y by omega, show (12 * y + m - 1) % 12 + 1 = m by omega]
def spAlong (K : PySem.W.Frag) : Sp := fun vs H Q _ => ∃ (p l : Addr) (y m d : Int) (ks : List Int), vs = [.ref p, .ref l] ∧ H p = some (.tup [.int y, .int m, .int d]) ∧ Exists_ y m d ∧ SqL K H l (ks.map V.int) ∧ y.natAbs ≤ 10 ^ 100 ∧ ks.length ≤ 10000 ∧
  ∀ q ws H', H q = none → Ex H H' → H' q = some (.lst ws) → TupsAt H' ws (along (12 * y + m - 1, d) ks) → Q (.ref q) H'

def D_chk (K : PySem.W.Frag) (H : Hp) (vs : List V) (z : V) : Prop := ∃ (p : Addr) (y m d t : Int), vs = [.ref p, .int t] ∧ DateAt K H p y m d ∧ Exists_ y m d ∧ 0 ≤ t ∧ z = .non
theorem ok_check (T : Top K mg) : FnOk P w K mg base CX0 4 T.f_check T.fd_check ["date", "times"] (spH (D_chk K)) := by
  have G_check_date : FnOk P w K mg base CX0 3 T.f_check_date T.fd_check_date ["date"] (spH (D_check K)) := ok_check_date T
  refine T.F_check.ok sc_check (fun vs H Q E h => ?_) (fun cdv A outer s H vs Q E hr h => ?_)
  · obtain ⟨z, ⟨p, y, m, d, t, rfl, _⟩, _⟩ := h; rfl
  · obtain ⟨z, ⟨p, y, m, d, t, rfl, hD, hE, h0, rfl⟩, q⟩ := h
    refine ⟨_, (pss_cons (ps_expr (pe_call G_check_date (hr.mono (by first | decide | omega)) (by rfl) T.g_check_date T.F_check_date.kp T.b_check_date .nil pass0 (pa_cons (pv 0) pa_nil)))
      (pss_one (ps_if (pt_cmpR op_lt (pv 1) pe_int (nomark _)) (pss_one ps_never) pss_nil))), ?_⟩
    refine f_seq (s_drop (ev_call (ea_cons (ev_var rfl) ea_nil) (sv_H (z := .non) fun H1 e1 => ⟨p, y, m, d, rfl, ex_t e1 hD, hE, rfl⟩)) fun H1 e1 => ?_)
    refine s_if (b := false) (et_is (et_test (ev_op (ev_var rfl) ev_c rv_I0)) (decide_eq_false (by omega))) (fun hb _ _ => nomatch hb) fun _ H2 e2 => ?_
    exact q H2 (e1.trans e2)
/-- the steps that renew takes -/
def rks (s t : Int) : List Int := List.replicate (min t 4800).toNat s ++ [s * (t - min t 4800)]
def D_renew (K : PySem.W.Frag) (H : Hp) (vs xs : List V) : Prop := ∃ (p : Addr) (y m d s t : Int), vs = [.ref p, .int s, .int t] ∧ DateAt K H p y m d ∧ Exists_ y m d ∧ 0 ≤ t ∧ t ≤ 10 ^ 40 ∧ s.natAbs ≤ 10 ^ 90 ∧ xs = tupD (mrun (12 * y + m - 1, d) (rks s t)) ∧ y.natAbs ≤ 10 ^ 100
theorem ok_renew (T : Top K mg) : FnOk P w K mg base CX0 5 T.f_renew T.fd_renew ["date", "step", "times"] (spU (D_renew K)) := by
  have G_check : FnOk P w K mg base CX0 4 T.f_check T.fd_check ["date", "times"] (spH (D_chk K)) := ok_check T
  have G_move : FnOk P w K mg base CX0 4 T.f_move T.fd_move ["date", "steps"] (spU (D_move K)) := ok_move T
  refine T.F_renew.ok sc_renew (fun vs H Q E h => ?_) (fun cdv A outer st H vs Q E hr h => ?_)
  · obtain ⟨z, ⟨p, y, m, d, s, t, rfl, _⟩, _⟩ := h; rfl
  · obtain ⟨z, ⟨p, y, m, d, s, t, rfl, hD, hE, h0, h1, hs, rfl, hy⟩, q⟩ := h
    refine ⟨_, (pss_cons (ps_expr (pe_call G_check (hr.mono (by first | decide | omega)) (by rfl) T.g_check T.F_check.kp T.b_check .nil pass0 (pa_cons (pv 0) (pa_cons (pv 2) pa_nil))))
      (pss_cons (ps_set (i := 3) sc_renew.nd rfl (Or.inl rfl) (pe_callB (call_min2 rfl) (by rfl) T.z_min (by decide +kernel) (pa_cons (pv 2) (pa_cons (pe_glob (v := .int 4800) (by rfl) T.g_CYCLE ⟨_, rfl⟩) pa_nil))))
      (pss_one (ps_ret (pe_call G_move (hr.mono (by first | decide | omega)) (by rfl) T.g_move T.F_move.kp T.b_move .nil pass0 (pa_cons (pv 0) (pa_cons (pe_op op_cat (pe_op op_rep (pe_lst (pa_cons (pv 1) pa_nil)) (pv 3)) (pe_lst (pa_cons (pe_op op_mulW (pv 1) (pe_op op_sub (pv 2) (pv 3))) pa_nil))) pa_nil))))))), ?_⟩
    refine f_seq (s_drop (ev_call (ea_cons (ev_var rfl) (ea_cons (ev_var rfl) ea_nil)) (sv_H (z := .non) fun H1 e1 => ⟨p, y, m, d, t, rfl, ex_t e1 hD, hE, h0, rfl⟩)) fun H1 e1 => ?_)
    refine f_seq (s_asg (ev_min2 (ev_var rfl) ev_c) fun H2 e2 => ?_)
    have e12 := e1.trans e2
    have hm : 0 ≤ min t 4800 ∧ min t 4800 ≤ 4800 ∧ min t 4800 ≤ t := by omega
    refine s_retU (eu_call2L (xs := tupD (mrun (12 * y + m - 1, d) (rks s t))) (ev_var rfl) (EvL.is (el_catW (xs := (List.replicate (min t 4800).toNat [V.int s]).flatten) (ys := [.int (s * (t - min t 4800))]) (el_repW (el_lst (ea_cons (ev_var rfl) ea_nil) (by show 1 ≤ 100000; decide)) (fun _ _ => ev_var rfl) ⟨hm.1, by omega⟩ (by show 1 ≤ 100; decide)) (el_lst (ea_cons (ev_op (ev_var rfl) (ev_op (ev_var rfl) (ev_var rfl) rv_I0) (rv_mul (Nat.le_trans hs (by decide +kernel)) (Nat.le_trans (show (t - min t 4800).natAbs ≤ 10 ^ 40 by omega) (by decide +kernel)))) ea_nil) (by show 1 ≤ 100000; decide)) (by rw [flat_one, List.length_replicate]; show _ + 1 ≤ 100000; omega)) (ys := (rks s t).map V.int) (by rw [flat_one]; unfold rks; rw [List.map_append, List.map_replicate]; rfl)) fun l H3 e3 h3 => ⟨p, l, y, m, d, rks s t, rfl, ex_t (e12.trans e3) hD, hE, sq_of h3, rfl, hy⟩) fun p4 H4 np4 e4 h4 => ?_
    exact q p4 H4 (fresh_back e12 np4) (e12.trans e4) h4
def D_anch (K : PySem.W.Frag) (H : Hp) (vs xs : List V) : Prop := ∃ (p : Addr) (y m d s t : Int), vs = [.ref p, .int s, .int t] ∧ DateAt K H p y m d ∧ Exists_ y m d ∧ 0 ≤ t ∧ t ≤ 10 ^ 40 ∧ s.natAbs ≤ 10 ^ 90 ∧ xs = tupD (mvs (12 * y + m - 1, d) (s * t)) ∧ y.natAbs ≤ 10 ^ 100
theorem mrun_rep_fst (st : Int × Int) (s : Int) (k : Nat) : (mrun st (List.replicate k s)).1 = st.1 + k * s := by
  rw [mrun_fst]
  congr 1
  induction k with
  | zero => simp
  | succ k ih => rw [List.replicate_succ, List.sum_cons, ih, show ((k + 1 : Nat) : Int) = (k : Int) + 1 from rfl, Int.add_mul]; omega
theorem rks_fst (st : Int × Int) {s t : Int} (h : 0 ≤ t) : (mrun st (rks s t)).1 = st.1 + s * t := by
  unfold rks
  rw [mrun_append]
  show (mrun st (List.replicate (min t 4800).toNat s)).1 + s * (t - min t 4800) = _
  rw [mrun_rep_fst, Int.toNat_of_nonneg (by omega), Int.mul_comm (min t 4800) s, Int.mul_sub]
  omega
theorem rks_snd_le (st : Int × Int) {s t : Int} (h : 0 ≤ t) : (mrun st (rks s t)).2 ≤ (mvs st (s * t)).2 := by
  have e := rks_fst st (s := s) h
  have h1 := mrun_snd_le st (rks s t)
  have h2 : (mrun st (rks s t)).2 ≤ mlen (mrun st (rks s t)).1 := by
    unfold rks
    rw [mrun_append]
    exact Int.min_le_right _ _
  rw [e] at h2
  show _ ≤ min st.2 (mlen (st.1 + s * t))
  omega
theorem rks_one {st : Int × Int} (h : fine st) (s : Int) : mrun st (rks s 1) = mvs st s := by
  have e : rks s 1 = [s, 0] := by
    unfold rks
    rw [show min (1 : Int) 4800 = 1 by decide, show s * (1 - 1) = 0 by simp]; rfl
  rw [e]
  exact mvs_zero (mvs_fine h s)
theorem rks_zero {st : Int × Int} (h : fine st) (s : Int) : mrun st (rks s 0) = st := by
  have e : rks s 0 = [0] := by
    unfold rks
    rw [show min (0 : Int) 4800 = 0 by decide, show s * (0 - 0) = 0 by simp]; rfl
  rw [e]
  exact mvs_zero h

/-! the first difference -/
def rep (st : Int × Int) (s : Int) (n : Nat) : Int × Int := mrun st (List.replicate n s)
theorem rep_succ (st : Int × Int) (s : Int) (n : Nat) : rep st s (n + 1) = mvs (rep st s n) s := by
  unfold rep
  rw [List.replicate_succ', mrun_append]; rfl
theorem rep_fst (st : Int × Int) (s : Int) (n : Nat) : (rep st s n).1 = st.1 + n * s := mrun_rep_fst st s n
/-- the ways differ after n times -/
def fdP (st : Int × Int) (s : Int) (n : Nat) : Bool := !decide ((rep st s n).2 = (mvs st (s * n)).2)
def fdN (st : Int × Int) (s : Int) (N : Nat) : Option Nat := (List.range N).find? fun i => fdP st s (i + 1)
def optV : Option Nat → V
  | some i => .int ((1 : Int) + (i : Int))
  | none => .non
theorem fdN_some {st : Int × Int} {s : Int} {N i : Nat} (hi : i < N) (h : fdP st s (i + 1) = true) (hj : ∀ j, j < i → fdP st s (j + 1) = false) : fdN st s N = some i := by
  unfold fdN
  rw [List.find?_range_eq_some]
  exact ⟨h, List.mem_range.mpr hi, fun j hj' => by rw [hj j hj']; rfl⟩
theorem fdN_none {st : Int × Int} {s : Int} {N : Nat} (hj : ∀ j, j < N → fdP st s (j + 1) = false) : fdN st s N = none := by
  unfold fdN
  rw [List.find?_range_eq_none]
  exact fun j hj' => by rw [hj j hj']; rfl
theorem of_fdN_some {st : Int × Int} {s : Int} {N i : Nat} (h : fdN st s N = some i) : i < N ∧ fdP st s (i + 1) = true ∧ ∀ j, j < i → fdP st s (j + 1) = false := by
  unfold fdN at h
  rw [List.find?_range_eq_some] at h
  refine ⟨List.mem_range.mp h.2.1, h.1, fun j hj => ?_⟩
  have z := h.2.2 j hj
  cases e : fdP st s (j + 1) with
  | true => rw [e] at z; cases z
  | false => rfl
theorem of_fdN_none {st : Int × Int} {s : Int} {N : Nat} (h : fdN st s N = none) : ∀ j, j < N → fdP st s (j + 1) = false := by
  unfold fdN at h
  rw [List.find?_range_eq_none] at h
  intro j hj
  have z := h j hj
  cases e : fdP st s (j + 1) with
  | true => rw [e] at z; cases z
  | false => rfl
theorem tupI_fdP (st : Int × Int) (s : Int) (n : Nat) : (!decide (tupI (rep st s n) = tupI (mvs st (s * n)))) = fdP st s n := by
  have e : (rep st s n).1 = (mvs st (s * n)).1 := by rw [rep_fst, Int.mul_comm]; rfl
  have h : tupI (rep st s n) = tupI (mvs st (s * n)) ↔ (rep st s n).2 = (mvs st (s * n)).2 := by
    unfold tupI
    rw [e]
    simp
  unfold fdP
  by_cases g : (rep st s n).2 = (mvs st (s * n)).2
  · rw [decide_eq_true (h.mpr g), decide_eq_true g]
  · rw [decide_eq_false (fun z => g (h.mp z)), decide_eq_false g]
theorem mlen_mul (n : Int) (k : Nat) (s : Int) : mlen (n + 4800 * (k * s)) = mlen n := by
  have h : ∀ (j : Nat) (n : Int), mlen (n + 4800 * (j : Int)) = mlen n := fun j => by
    induction j with
    | zero => intro n; simp
    | succ j ih => intro n; rw [show n + 4800 * ((j + 1 : Nat) : Int) = (n + 4800 * (j : Int)) + 4800 by omega, mlen_4800, ih]
  rcases Int.le_total 0 (k * s) with g | g
  · have z := h (k * s).toNat n
    rw [Int.toNat_of_nonneg g] at z; exact z
  · have z := h (-(k * s)).toNat (n + 4800 * (k * s))
    rw [Int.toNat_of_nonneg (by omega), show n + 4800 * (k * s) + 4800 * -(k * s) = n by omega] at z
    exact z.symm
theorem rep_snd_le (st : Int × Int) (s : Int) : ∀ n k : Nat, (rep st s (n + k)).2 ≤ (rep st s n).2
  | n, 0 => Int.le_refl _
  | n, k + 1 => by
    rw [← Nat.add_assoc, rep_succ]
    exact Int.le_trans (Int.min_le_left _ _) (rep_snd_le st s n k)
theorem rep_snd_len (st : Int × Int) (s : Int) {n j : Nat} (h : j < n) : (rep st s n).2 ≤ mlen (st.1 + ((j + 1 : Nat) : Int) * s) := by
  have z := rep_snd_le st s (j + 1) (n - (j + 1))
  rw [show j + 1 + (n - (j + 1)) = n by omega] at z
  refine Int.le_trans z ?_
  rw [rep_succ]
  show min (rep st s j).2 (mlen ((rep st s j).1 + s)) ≤ _
  rw [rep_fst, show st.1 + (j : Int) * s + s = st.1 + ((j + 1 : Nat) : Int) * s by rw [show ((j + 1 : Nat) : Int) = (j : Int) + 1 from rfl, Int.add_mul]; omega]
  exact Int.min_le_right _ _
/-- every month that is visited is long enough -/
def allLong (st : Int × Int) (s : Int) : Prop := ∀ n : Nat, st.2 ≤ mlen (st.1 + (n : Int) * s)
theorem allLong_of {st : Int × Int} {s : Int} (hf : fine st) (h : fdN st s 4800 = none) : allLong st s := by
  have z := of_fdN_none h 4799 (by decide)
  unfold fdP at z
  have e : (rep st s 4800).2 = (mvs st (s * ((4800 : Nat) : Int))).2 := by
    simpa using z
  have e2 : (mvs st (s * ((4800 : Nat) : Int))).2 = st.2 := by
    show min st.2 (mlen (st.1 + s * ((4800 : Nat) : Int))) = st.2
    have m := mlen_mul st.1 1 s
    rw [show ((1 : Nat) : Int) * s = s by simp] at m
    rw [show s * ((4800 : Nat) : Int) = 4800 * s by rw [Int.mul_comm]; rfl, m]
    exact Int.min_eq_left hf.2
  rw [e2] at e
  have low : ∀ j : Nat, j < 4800 → st.2 ≤ mlen (st.1 + ((j + 1 : Nat) : Int) * s) := fun j hj => e ▸ rep_snd_len st s hj
  intro n
  have hm : mlen (st.1 + (n : Int) * s) = mlen (st.1 + ((n % 4800 : Nat) : Int) * s) := by
    have m := mlen_mul (st.1 + ((n % 4800 : Nat) : Int) * s) (n / 4800) s
    rw [← m]
    congr 1
    have d : (n : Int) = ((n % 4800 : Nat) : Int) + 4800 * ((n / 4800 : Nat) : Int) := by omega
    rw [show (n : Int) * s = (((n % 4800 : Nat) : Int) + 4800 * ((n / 4800 : Nat) : Int)) * s by rw [← d], Int.add_mul, Int.mul_assoc, Int.add_assoc]
  rw [hm]
  rcases Nat.eq_zero_or_pos (n % 4800) with h0 | h0
  · rw [h0]
    have m : st.1 + ((0 : Nat) : Int) * s = st.1 := by simp
    rw [m]; exact hf.2
  · have l := low (n % 4800 - 1) (by omega)
    rw [show n % 4800 - 1 + 1 = n % 4800 by omega] at l; exact l
theorem rep_long {st : Int × Int} {s : Int} (h : allLong st s) : ∀ n : Nat, (rep st s n).2 = st.2
  | 0 => rfl
  | n + 1 => by
    rw [rep_succ]
    show min (rep st s n).2 (mlen ((rep st s n).1 + s)) = _
    rw [rep_long h n, rep_fst, show st.1 + (n : Int) * s + s = st.1 + ((n + 1 : Nat) : Int) * s by rw [show ((n + 1 : Nat) : Int) = (n : Int) + 1 from rfl, Int.add_mul]; omega]
    exact Int.min_eq_left (h (n + 1))
theorem mvs_long {st : Int × Int} {s : Int} (h : allLong st s) (n : Nat) : (mvs st (s * n)).2 = st.2 := by
  show min st.2 (mlen (st.1 + s * n)) = _
  rw [Int.mul_comm]
  exact Int.min_eq_left (h n)
theorem fdP_long {st : Int × Int} {s : Int} (h : allLong st s) (n : Nat) : fdP st s n = false := by
  unfold fdP
  rw [rep_long h, mvs_long h, decide_eq_true rfl]; rfl
theorem fdN_9600 {st : Int × Int} {s : Int} (hf : fine st) : fdN st s 9600 = fdN st s 4800 := by
  cases e : fdN st s 4800 with
  | none => exact fdN_none fun j _ => fdP_long (allLong_of hf e) _
  | some i =>
    obtain ⟨h1, h2, h3⟩ := of_fdN_some e
    exact fdN_some (by omega) h2 h3
theorem rks_small {st : Int × Int} (hf : fine st) (s : Int) {n : Nat} (h : n ≤ 4800) : mrun st (rks s n) = rep st s n := by
  have e : min (n : Int) 4800 = n := by omega
  unfold rks
  rw [e, Int.sub_self, Int.mul_zero, mrun_append, Int.toNat_natCast]
  exact mvs_zero (mrun_fine hf _)
theorem rks_long {st : Int × Int} {s : Int} (h : allLong st s) (n : Nat) : tupI (mrun st (rks s n)) = tupI (mvs st (s * n)) := by
  have e1 := rks_fst st (s := s) (t := (n : Int)) (by omega)
  have e2 : (mrun st (rks s n)).2 = st.2 := by
    unfold rks
    rw [mrun_append]
    have r1 : (mrun st (List.replicate (min (n : Int) 4800).toNat s)).2 = st.2 := rep_long h _
    have r2 := mrun_rep_fst st s (min (n : Int) 4800).toNat
    show min (mrun st (List.replicate (min (n : Int) 4800).toNat s)).2 (mlen ((mrun st (List.replicate (min (n : Int) 4800).toNat s)).1 + s * (n - min (n : Int) 4800))) = _
    rw [r1, r2, Int.toNat_of_nonneg (by omega), Int.mul_comm (min (n : Int) 4800) s, Int.mul_sub, show st.1 + s * min (n : Int) 4800 + (s * n - s * min (n : Int) 4800) = st.1 + s * n by omega, Int.mul_comm]
    exact Int.min_eq_left (h n)
  unfold tupI
  rw [e1, e2, mvs_long h]; rfl
def D_fd (K : PySem.W.Frag) (H : Hp) (vs : List V) (z : V) : Prop := ∃ (p : Addr) (y m d s : Int), vs = [.ref p, .int s] ∧ DateAt K H p y m d ∧ Exists_ y m d ∧ s.natAbs ≤ 10 ^ 40 ∧ y.natAbs ≤ 10 ^ 60 ∧ z = optV (fdN (12 * y + m - 1, d) s 4800)

/-! the least of the day and the lengths of the visited months -/
def cutD (st : Int × Int) (s : Int) : Nat → Int
  | 0 => st.2
  | n + 1 => min (cutD st s n) (mlen (st.1 + (n : Int) * s))
theorem cut_mono (st : Int × Int) (s : Int) (n : Nat) : ∀ k : Nat, cutD st s (n + k) ≤ cutD st s n
  | 0 => Int.le_refl _
  | k + 1 => Int.le_trans (Int.min_le_left _ _) (cut_mono st s n k)
theorem cut_le (st : Int × Int) (s : Int) {n j : Nat} (h : j < n) : cutD st s n ≤ mlen (st.1 + (j : Int) * s) := by
  have z := cut_mono st s (j + 1) (n - (j + 1))
  rw [show j + 1 + (n - (j + 1)) = n by omega] at z
  exact Int.le_trans z (Int.min_le_right _ _)
theorem cut_rep {st : Int × Int} (hf : fine st) (s : Int) : ∀ n : Nat, (rep st s n).2 = cutD st s (n + 1)
  | 0 => by
    show st.2 = min st.2 (mlen (st.1 + ((0 : Nat) : Int) * s))
    rw [show st.1 + ((0 : Nat) : Int) * s = st.1 by simp]
    exact (Int.min_eq_left hf.2).symm
  | n + 1 => by
    rw [rep_succ]
    show min (rep st s n).2 (mlen ((rep st s n).1 + s)) = min (cutD st s (n + 1)) (mlen (st.1 + ((n + 1 : Nat) : Int) * s))
    rw [cut_rep hf s n, rep_fst, show st.1 + (n : Int) * s + s = st.1 + ((n + 1 : Nat) : Int) * s by rw [show ((n + 1 : Nat) : Int) = (n : Int) + 1 from rfl, Int.add_mul]; omega]
theorem mlen_cyc (n s : Int) (k : Nat) : mlen (n + (k : Int) * s) = mlen (n + ((k % 4800 : Nat) : Int) * s) := by
  have m := mlen_mul (n + ((k % 4800 : Nat) : Int) * s) (k / 4800) s
  rw [← m]
  congr 1
  have d : (k : Int) = ((k % 4800 : Nat) : Int) + 4800 * ((k / 4800 : Nat) : Int) := by omega
  rw [show (k : Int) * s = (((k % 4800 : Nat) : Int) + 4800 * ((k / 4800 : Nat) : Int)) * s by rw [← d], Int.add_mul, Int.mul_assoc, Int.add_assoc]
theorem cut_inf (st : Int × Int) (s : Int) : ∀ k : Nat, cutD st s (4800 + k) = cutD st s 4800
  | 0 => rfl
  | k + 1 => by
    show min (cutD st s (4800 + k)) (mlen (st.1 + ((4800 + k : Nat) : Int) * s)) = _
    rw [mlen_cyc, cut_inf st s k]
    exact Int.min_eq_left (cut_le st s (Nat.mod_lt _ (by decide)))
theorem cut_big (st : Int × Int) (s : Int) {n : Nat} (h : 4800 ≤ n) : cutD st s n = cutD st s 4800 := by
  have z := cut_inf st s (n - 4800)
  rw [show 4800 + (n - 4800) = n by omega] at z; exact z
/-- renew, said by the least length -/
theorem rks_cut {st : Int × Int} (hf : fine st) (s : Int) (n : Nat) : mrun st (rks s n) = (st.1 + s * n, cutD st s (n + 1)) := by
  refine Prod.ext (rks_fst st (by omega)) ?_
  rcases Nat.lt_or_ge 4800 n with h | h
  · have e : min (n : Int) 4800 = 4800 := by omega
    have f := rks_fst st (s := s) (t := (n : Int)) (by omega)
    unfold rks at f ⊢
    rw [e, mrun_append] at f ⊢
    show min (rep st s 4800).2 (mlen ((mrun (mrun st (List.replicate (4800 : Int).toNat s)) [s * (n - 4800)]).1)) = cutD st s (n + 1)
    rw [f, cut_rep hf, cut_big st s (n := 4800 + 1) (by omega), cut_big st s (n := n + 1) (by omega), Int.mul_comm s, mlen_cyc]
    exact Int.min_eq_left (cut_le st s (Nat.mod_lt _ (by decide)))
  · rw [rks_small hf s h]
    exact cut_rep hf s n
theorem cut_on (st : Int × Int) (s : Int) (f : Nat) : ∀ n : Nat, cutD (st.1 + s * f, cutD st s (f + 1)) s (n + 1) = cutD st s (f + n + 1)
  | 0 => by
    show min (cutD st s (f + 1)) (mlen (st.1 + s * f + ((0 : Nat) : Int) * s)) = cutD st s (f + 1)
    rw [show st.1 + s * f + ((0 : Nat) : Int) * s = st.1 + (f : Int) * s by rw [Int.mul_comm s]; simp]
    exact Int.min_eq_left (cut_le st s (Nat.lt_succ_self f))
  | n + 1 => by
    show min (cutD (st.1 + s * f, cutD st s (f + 1)) s (n + 1)) (mlen (st.1 + s * f + ((n + 1 : Nat) : Int) * s)) = min (cutD st s (f + n + 1)) (mlen (st.1 + ((f + n + 1 : Nat) : Int) * s))
    rw [cut_on st s f n, show st.1 + s * f + ((n + 1 : Nat) : Int) * s = st.1 + ((f + n + 1 : Nat) : Int) * s by
      rw [show ((f + n + 1 : Nat) : Int) = (f : Int) + ((n + 1 : Nat) : Int) by omega, Int.add_mul, Int.mul_comm s, Int.add_assoc]]
theorem rks_two {st : Int × Int} (hf : fine st) (s : Int) (f n : Nat) : mrun (mrun st (rks s f)) (rks s n) = mrun st (rks s ((f + n : Nat) : Int)) := by
  have hg : fine (mrun st (rks s f)) := mrun_fine hf _
  rw [rks_cut hg, rks_cut hf s (f + n), rks_cut hf s f, cut_on]
  refine Prod.ext ?_ rfl
  show st.1 + s * (f : Int) + s * (n : Int) = st.1 + s * ((f + n : Nat) : Int)
  rw [show ((f + n : Nat) : Int) = (f : Int) + (n : Int) by omega, Int.mul_add]; omega
def D_due20 (K : PySem.W.Frag) (H : Hp) (vs xs : List V) : Prop := ∃ (p : Addr) (y m d s t : Int), vs = [.ref p, .int s, .int t] ∧ DateAt K H p y m d ∧ Exists_ y m d ∧ 0 ≤ t ∧ t ≤ 10 ^ 40 ∧ s.natAbs ≤ 10 ^ 40 ∧ xs = tupD (mrun (12 * y + m - 1, d) (rks s t)) ∧ y.natAbs ≤ 10 ^ 60
theorem ok_law_due (T : Top K mg) : FnOk P w K mg base CX0 2 T.f_law_due T.fd_law_due ["date", "stride", "times"] (spU (D_due20 K)) := by
  have G_law_days : FnOk P w K mg base CX0 1 T.f_law_days T.fd_law_days ["number"] (spF D_mlen) := ok_law_days T
  refine T.F_law_due.ok sc_law_due (fun vs H Q E h => ?_) (fun cdv A outer st H vs Q E hr h => ?_)
  · obtain ⟨z, ⟨p, y, m, d, s, t, rfl, _⟩, _⟩ := h; rfl
  · obtain ⟨z, ⟨p, y, m, d, s, t, rfl, hD, hE, h0, ht, hs, rfl, hy⟩, q⟩ := h
    refine ⟨_, (pss_cons (ps_par (i := 3) (j := 4) (by rfl) sc_law_due.nd rfl rfl (by decide) rfl rfl (pa_cons (pe_op op_sub (pe_op op_add (pe_op op_mulW pe_int (pe_ix (r := rIxT K) ix_tup (pv 0) pe_int (fun _ _ => rfl))) (pe_ix (r := rIxT K) ix_tup (pv 0) pe_int (fun _ _ => rfl))) pe_int) (pa_cons (pe_ix (r := rIxT K) ix_tup (pv 0) pe_int (fun _ _ => rfl)) pa_nil)) (by rfl))
      (pss_cons (ps_for PassesOwn.never rfl (pi_range1 (by rfl) T.z_range (pa_cons (pe_callB (call_min2 rfl) (by rfl) T.z_min (by decide +kernel) (pa_cons (pe_op op_add (pv 2) pe_int) (pa_cons pe_int pa_nil))) pa_nil)) (pg_name (i := 5) sc_law_due.nd rfl (Or.inl rfl)) (pss_one (ps_set (i := 4) sc_law_due.nd rfl (Or.inl rfl) (pe_callB (call_min2 rfl) (by rfl) T.z_min (by decide +kernel) (pa_cons (pv 4) (pa_cons (pe_call G_law_days (hr.mono (by first | decide | omega)) (by rfl) T.g_law_days T.F_law_days.kp T.b_law_days .nil pass0 (pa_cons (pe_op op_add (pv 3) (pe_op op_mulW (pv 5) (pv 1))) pa_nil)) pa_nil))))))
      (pss_cons (ps_set (i := 3) sc_law_due.nd rfl (Or.inl rfl) (pe_op op_add (pv 3) (pe_op op_mulW (pv 2) (pv 1))))
      (pss_one (ps_ret (pe_tup (pa_cons (pe_op op_fdivW (pv 3) pe_int) (pa_cons (pe_op op_add (pe_op op_mod (pv 3) pe_int) pe_int) (pa_cons (pv 4) pa_nil))))))))), ?_⟩
    have hf0 : fine (12 * y + m - 1, d) := fine_of hE
    have hnum {σ : L2.St} {H1 : Hp} (e1 : Ex H H1) (h0 : σ[0]? = some (some (.ref p))) : Ev (tOp (rI0 fun i j => .int (i - j)) (tOp (rI0 fun i j => .int (i + j)) (tOp (rI CMulW fun i j => .int (i * j)) (tC (.int 12)) (tOp (rIxT K) (tVar 0) (tC (.int 0)))) (tOp (rIxT K) (tVar 0) (tC (.int 1)))) (tC (.int 1))) σ H1 (.int (12 * y + m - 1)) :=
      ev_op (ev_op (ev_op ev_c (ev_op (ev_var h0) ev_c (rv_ixTn (j := 0) (v := .int y) (ex_t e1 hD) rfl)) (rv_mul (by decide +kernel) (Nat.le_trans hy (by decide +kernel)))) (ev_op (ev_var h0) ev_c (rv_ixTn (j := 1) (v := .int m) (ex_t e1 hD) rfl)) rv_I0) ev_c rv_I0
    refine f_seq (f_par (f_cons (f_ev (hnum (Ex.refl _) rfl) fun H1 e1 => f_cons (f_ev (ev_op (ev_var rfl) ev_c (rv_ixTn (j := 2) (v := .int d) (ex_t e1 hD) rfl)) fun H2 e2 => f_nil (f_par2 ?_)))))
    have e12 := e1.trans e2
    generalize hst : (12 * y + m - 1, d) = st0 at hf0 q
    have hn0 : 12 * y + m - 1 = st0.1 := by rw [← hst]
    have hd0 : d = cutD st0 s 0 := by rw [← hst]; rfl
    rw [hn0, hd0]
    with_reducible refine f_seq ?_
    refine s_forR1 (n := min (t + 1) 4800) (ea_cons (ev_min2 (ev_op (ev_var rfl) ev_c rv_I0) ev_c) ea_nil) ⟨by omega, by omega⟩
      (fun i σ H' => ∃ v5 : Option V, σ = [some (.ref p), some (.int s), some (.int t), some (.int st0.1), some (.int (cutD st0 s i)), v5] ∧ Ex H H')
      (fun H4 e4 => ⟨none, rfl, e12.trans e4⟩) (fun i σ H' hi hp => ?_) fun σ H' hp => ?_
    · obtain ⟨v5, rfl, e⟩ := hp
      refine s_asg (ev_min2 (ev_var rfl) (ev_call (ea_cons (ev_op (ev_var rfl) (ev_op (ev_var rfl) (ev_var rfl) (rv_mul (Nat.le_trans (show (i : Int).natAbs ≤ 10000 by omega) (by decide +kernel)) (Nat.le_trans hs (by decide +kernel)))) rv_I0) ea_nil) (sv_F (z := .int (mlen (st0.1 + (i : Int) * s))) ⟨_, rfl, rfl⟩))) fun H5 e5 => ?_
      exact ⟨_, rfl, e.trans e5⟩
    · obtain ⟨v5, rfl, e⟩ := hp
      obtain ⟨n, rfl⟩ : ∃ n : Nat, t = (n : Int) := ⟨t.toNat, (Int.toNat_of_nonneg h0).symm⟩
      have hc : cutD st0 s (min ((n : Int) + 1) 4800).toNat = cutD st0 s (n + 1) := by
        rcases Nat.lt_or_ge n 4800 with h | h
        · rw [show (min ((n : Int) + 1) 4800).toNat = n + 1 by omega]
        · rw [show (min ((n : Int) + 1) 4800).toNat = 4800 by omega, cut_big st0 s (n := n + 1) (by omega)]
      rw [hc]
      rw [rks_cut hf0] at q
      with_reducible refine f_seq ?_
      refine s_asg (ev_op (ev_var rfl) (ev_op (ev_var rfl) (ev_var rfl) (rv_mul (Nat.le_trans (show (n : Int).natAbs ≤ 10 ^ 40 by omega) (by decide +kernel)) (Nat.le_trans hs (by decide +kernel)))) rv_I0) fun H5 e5 => ?_
      rw [show st0.1 + (n : Int) * s = st0.1 + s * (n : Int) by rw [Int.mul_comm]]
      refine s_retU (xs := tupD (st0.1 + s * (n : Int), cutD st0 s (n + 1))) (eu_tup (ea_cons (ev_op (ev_var rfl) ev_c (rv_div (by decide) (by decide))) (ea_cons (ev_op (ev_op (ev_var rfl) ev_c (rv_mod (by decide))) ev_c rv_I0) (ea_cons (ev_var rfl) ea_nil))) (by show 3 ≤ 100000; decide)) fun p6 H6 np6 e6 h6 => ?_
      exact q p6 H6 (fresh_back (e.trans e5) np6) ((e.trans e5).trans e6) h6

theorem KT.at {H H' : Hp} (k : KT H H') {p : Addr} {xs : List V} (h : H p = some (.tup xs)) : H' p = some (.tup xs) := k p xs h
/-- a part of the law: True, by at most B0 draws -/
def spRight (B0 : Nat) : Sp := fun vs H Q _ => ∃ (r : Addr) (B : Nat), vs = [.ref r] ∧ Rg H r (B + B0) ∧ ∀ H', Rg H' r B → Kr r H H' → Q (.bl true) H'
theorem pow30 : (10 : Int) ^ (30 : Int).toNat = 10 ^ 30 := rfl
theorem s_un3U {σ : L2.St} {H : Hp} {te : TE} {D : Ends} {i j l : Nat} {a b c : V} (h : EvU te σ H [a, b, c]) (k : ∀ H1, Ex H H1 → D.nx (((σ.set i (some a)).set j (some b)).set l (some c)) H1) :
    tAsg te (gTup K 3 (gCons (gName i) (gCons (gName j) (gCons (gName l) gNil)))) D σ H := h H (Ex.refl H) _ fun p H1 np e hp => ⟨p, [a, b, c], rfl, st_of hp, rfl, a, [b, c], rfl, b, [c], rfl, c, [], rfl, rfl, k H1 e⟩
theorem ok_law_right (T : Top K mg) : FnOk P w K mg base CX0 6 T.f_law_right T.fd_law_right ["pool"] (spRight 200) := by
  have G_law_draw : FnOk P w K mg base CX0 1 T.f_law_draw T.fd_law_draw ["pool", "many"] spRdraw := ok_law_draw T
  have G_law_date : FnOk P w K mg base CX0 3 T.f_law_date T.fd_law_date ["pool"] spRdate := ok_law_date T
  have G_law_stride : FnOk P w K mg base CX0 2 T.f_law_stride T.fd_law_stride ["pool", "most"] spStride := ok_law_stride T
  have G_law_due : FnOk P w K mg base CX0 2 T.f_law_due T.fd_law_due ["date", "stride", "times"] (spU (D_due20 K)) := ok_law_due T
  have G_renew : FnOk P w K mg base CX0 5 T.f_renew T.fd_renew ["date", "step", "times"] (spU (D_renew K)) := ok_renew T
  refine T.F_law_right.ok sc_law_right (fun vs H Q E h => ?_) (fun cdv A outer s H vs Q E hr h => ?_)
  · obtain ⟨r, B, rfl, _⟩ := h; rfl
  · obtain ⟨r, B, rfl, S, q⟩ := h
    refine ⟨_, (pss_cons (ps_par (i := 1) (j := 2) (by rfl) sc_law_right.nd rfl rfl (by decide) rfl rfl (pa_cons (pe_call G_law_date (hr.mono (by first | decide | omega)) (by rfl) T.g_law_date T.F_law_date.kp T.b_law_date .nil pass0 (pa_cons (pv 0) pa_nil)) (pa_cons (pe_call G_law_stride (hr.mono (by first | decide | omega)) (by rfl) T.g_law_stride T.F_law_stride.kp T.b_law_stride .nil pass0 (pa_cons (pv 0) (pa_cons (pe_ix (r := rIxL K) ix_list (pe_lst (pa_cons pe_int (pa_cons pe_int (pa_cons (pe_op op_pow pe_int pe_int) pa_nil)))) (pe_call G_law_draw (hr.mono (by first | decide | omega)) (by rfl) T.g_law_draw T.F_law_draw.kp T.b_law_draw .nil pass0 (pa_cons (pv 0) (pa_cons pe_int pa_nil))) (fun _ _ => rfl)) pa_nil))) pa_nil)) (by rfl))
      (pss_cons (ps_set (i := 3) sc_law_right.nd rfl (Or.inl rfl) (pe_ix (r := rIxL K) ix_list (pe_lst (pa_cons (pe_op op_add pe_int (pe_call G_law_draw (hr.mono (by first | decide | omega)) (by rfl) T.g_law_draw T.F_law_draw.kp T.b_law_draw .nil pass0 (pa_cons (pv 0) (pa_cons pe_int pa_nil)))) (pa_cons (pe_call G_law_draw (hr.mono (by first | decide | omega)) (by rfl) T.g_law_draw T.F_law_draw.kp T.b_law_draw .nil pass0 (pa_cons (pv 0) (pa_cons pe_int pa_nil))) (pa_cons (pe_call G_law_draw (hr.mono (by first | decide | omega)) (by rfl) T.g_law_draw T.F_law_draw.kp T.b_law_draw .nil pass0 (pa_cons (pv 0) (pa_cons (pe_op op_pow pe_int pe_int) pa_nil))) pa_nil)))) (pe_call G_law_draw (hr.mono (by first | decide | omega)) (by rfl) T.g_law_draw T.F_law_draw.kp T.b_law_draw .nil pass0 (pa_cons (pv 0) (pa_cons pe_int pa_nil))) (fun _ _ => rfl)))
      (pss_cons (ps_if (pt_cmpR (r := rNeD K) (op_neD hr.units) (pe_call G_renew (hr.mono (by first | decide | omega)) (by rfl) T.g_renew T.F_renew.kp T.b_renew .nil pass0 (pa_cons (pv 1) (pa_cons (pv 2) (pa_cons (pv 3) pa_nil)))) (pe_call G_law_due (hr.mono (by first | decide | omega)) (by rfl) T.g_law_due T.F_law_due.kp T.b_law_due .nil pass0 (pa_cons (pv 1) (pa_cons (pv 2) (pa_cons (pv 3) pa_nil)))) (nomark _)) (pss_one (ps_ret pe_bl)) pss_nil)
      (pss_cons (ps_if (pt_cmpR (r := rNeD K) (op_neD hr.units) (pe_call G_renew (hr.mono (by first | decide | omega)) (by rfl) T.g_renew T.F_renew.kp T.b_renew .nil pass0 (pa_cons (pv 1) (pa_cons (pv 2) (pa_cons (pe_op op_sub (pe_op op_pow pe_int pe_int) pe_int) pa_nil)))) (pe_call G_law_due (hr.mono (by first | decide | omega)) (by rfl) T.g_law_due T.F_law_due.kp T.b_law_due .nil pass0 (pa_cons (pv 1) (pa_cons (pv 2) (pa_cons (pe_op op_sub (pe_op op_pow pe_int pe_int) pe_int) pa_nil)))) (nomark _)) (pss_one (ps_ret pe_bl)) pss_nil)
      (pss_cons (ps_asg (pe_call G_renew (hr.mono (by first | decide | omega)) (by rfl) T.g_renew T.F_renew.kp T.b_renew .nil pass0 (pa_cons (pv 1) (pa_cons (pv 2) (pa_cons pe_int pa_nil)))) (pg_tup rfl (pgs_cons (pg_name (i := 4) sc_law_right.nd rfl (Or.inl rfl)) (pgs_cons (pg_name (i := 5) sc_law_right.nd rfl (Or.inl rfl)) (pgs_cons (pg_name (i := 6) sc_law_right.nd rfl (Or.inl rfl)) pgs_nil)))))
      (pss_cons (ps_if (pt_cmpR (r := rNeD K) (op_neD hr.units) (pe_call G_renew (hr.mono (by first | decide | omega)) (by rfl) T.g_renew T.F_renew.kp T.b_renew .nil pass0 (pa_cons (pv 1) (pa_cons (pv 2) (pa_cons pe_int pa_nil)))) (pe_tup (pa_cons (pe_op op_add (pv 4) (pe_op op_mulW pe_int (pv 2))) (pa_cons (pv 5) (pa_cons (pv 6) pa_nil)))) (nomark _)) (pss_one (ps_ret pe_bl)) pss_nil)
      (pss_cons (ps_par (i := 2) (j := 7) (by rfl) sc_law_right.nd rfl rfl (by decide) rfl rfl (pa_cons (pe_call G_law_stride (hr.mono (by first | decide | omega)) (by rfl) T.g_law_stride T.F_law_stride.kp T.b_law_stride .nil pass0 (pa_cons (pv 0) (pa_cons pe_int pa_nil))) (pa_cons (pe_call G_law_draw (hr.mono (by first | decide | omega)) (by rfl) T.g_law_draw T.F_law_draw.kp T.b_law_draw .nil pass0 (pa_cons (pv 0) (pa_cons (pe_ix (r := rIxL K) ix_list (pe_lst (pa_cons pe_int (pa_cons (pe_op op_pow pe_int pe_int) pa_nil))) (pe_call G_law_draw (hr.mono (by first | decide | omega)) (by rfl) T.g_law_draw T.F_law_draw.kp T.b_law_draw .nil pass0 (pa_cons (pv 0) (pa_cons pe_int pa_nil))) (fun _ _ => rfl)) pa_nil))) pa_nil)) (by rfl))
      (pss_cons (ps_set (i := 8) sc_law_right.nd rfl (Or.inl rfl) (pe_call G_law_draw (hr.mono (by first | decide | omega)) (by rfl) T.g_law_draw T.F_law_draw.kp T.b_law_draw .nil pass0 (pa_cons (pv 0) (pa_cons (pe_ix (r := rIxL K) ix_list (pe_lst (pa_cons pe_int (pa_cons (pe_op op_pow pe_int pe_int) pa_nil))) (pe_call G_law_draw (hr.mono (by first | decide | omega)) (by rfl) T.g_law_draw T.F_law_draw.kp T.b_law_draw .nil pass0 (pa_cons (pv 0) (pa_cons pe_int pa_nil))) (fun _ _ => rfl)) pa_nil))))
      (pss_cons (ps_set (i := 9) sc_law_right.nd rfl (Or.inl rfl) (pe_call G_renew (hr.mono (by first | decide | omega)) (by rfl) T.g_renew T.F_renew.kp T.b_renew .nil pass0 (pa_cons (pv 1) (pa_cons (pv 2) (pa_cons (pv 7) pa_nil)))))
      (pss_one (ps_ret (pe_cmpR (r := rEqD K) (op_eqD hr.units) (pe_call G_renew (hr.mono (by first | decide | omega)) (by rfl) T.g_renew T.F_renew.kp T.b_renew .nil pass0 (pa_cons (pv 9) (pa_cons (pv 2) (pa_cons (pv 8) pa_nil)))) (pe_call G_renew (hr.mono (by first | decide | omega)) (by rfl) T.g_renew T.F_renew.kp T.b_renew .nil pass0 (pa_cons (pv 1) (pa_cons (pv 2) (pa_cons (pe_op op_add (pv 7) (pv 8)) pa_nil)))) (nomark _))))))))))))), ?_⟩
    -- date, stride
    refine f_seq (f_par ?_)
    walk_at "fw"
    refine ⟨r, B + 180, rfl, S, fun y m d p H1 hE hy np fp S1 k1 h1 => ?_⟩
    walk_at "fw"
    refine f_newLr S1 (by simp) fun p2 np2 fp2 S2 e2 h2 => ?_
    walk_at "fw"
    refine f_rdraw (B := B + 179) S2 (by decide) (by decide) fun n3 H3 a3 b3 S3 k3 => ?_
    obtain ⟨most, hmost, hat⟩ := at_ints (L := [60, 9999, 10 ^ (29 : Int).toNat]) a3 b3
    refine f_ixL (k3.at fp2 h2) hat ?_
    have hmo : 0 < most ∧ most ≤ 10 ^ 31 := by
      have e : (10 : Int) ^ (29 : Int).toNat = 10 ^ 29 := rfl
      rw [e] at hmost; simp at hmost; omega
    refine f_nil ⟨r, most, B + 159, rfl, hmo.1, hmo.2, S3, fun s H4 hs S4 k4 => ?_⟩
    have h4 := k4.at fp (k3.at fp (e2 _ _ h1))
    have kk4 := ((k1.l e2).trans k3).trans k4
    clear h1 h2 hat
    refine f_nil (f_par2 ?_)
    -- times
    walk_at "fw"
    refine f_rdraw (B := B + 158) S4 (by decide) (by decide) fun n5 H5 a5 b5 S5 k5 => ?_
    walk_at "fw"
    refine f_rdraw (B := B + 157) S5 (by decide) (by decide) fun n6 H6 a6 b6 S6 k6 => ?_
    walk_at "fw"
    refine f_rdraw (B := B + 156) S6 (by decide) (by decide) fun n7 H7 a7 b7 S7 k7 => ?_
    walk_at "fw"
    refine f_newLr S7 (by simp) fun p8 np8 fp8 S8 e8 h8 => ?_
    walk_at "fw"
    refine f_rdraw (B := B + 155) S8 (by decide) (by decide) fun n9 H9 a9 b9 S9 k9 => ?_
    obtain ⟨t, ht, hat⟩ := at_ints (L := [4700 + n5, n6, n7]) a9 b9
    refine f_ixL (k9.at fp8 h8) hat ?_
    replace b7 : n7 < 10 ^ 30 := b7
    have ht0 : 0 ≤ t ∧ t ≤ 10 ^ 30 := by simp at ht; omega
    have h9 := k9.at fp (e8 _ _ (k7.at fp (k6.at fp (k5.at fp h4))))
    have kk9 := ((((kk4.trans k5).trans k6).trans k7).l e8).trans k9
    clear hat h8 h4
    refine f_gName ?_
    have hy100 : y.natAbs ≤ 10 ^ 100 := Nat.le_trans hy (by decide +kernel)
    have hy60 : y.natAbs ≤ 10 ^ 60 := Nat.le_trans hy (by decide +kernel)
    have hf0 : fine (12 * y + m - 1, d) := fine_of hE
    generalize hst1 : (12 * y + m - 1, d) = st0 at hf0
    have d_renew (z u : Int) (hz : z.natAbs ≤ 10 ^ 32) (hu : 0 ≤ u) (hu2 : u ≤ 10 ^ 40) (H8 : Hp) (h8 : H8 p = some (.tup [.int y, .int m, .int d])) : D_renew K H8 [.ref p, .int z, .int u] ((tupI (mrun st0 (rks z u))).map V.int) := ⟨p, y, m, d, z, u, rfl, st_of h8, hE, hu, hu2, Nat.le_trans hz (by decide +kernel), by rw [hst1]; rfl, hy100⟩
    have d_due (u : Int) (hu : 0 ≤ u) (hu2 : u ≤ 10 ^ 40) (H8 : Hp) (h8 : H8 p = some (.tup [.int y, .int m, .int d])) : D_due20 K H8 [.ref p, .int s, .int u] ((tupI (mrun st0 (rks s u))).map V.int) := ⟨p, y, m, d, s, u, rfl, st_of h8, hE, hu, hu2, Nat.le_trans hs (by decide +kernel), by rw [hst1]; rfl, hy60⟩
    have cmp {σ : L2.St} {H9 : Hp} (h9 : H9 p = some (.tup [.int y, .int m, .int d])) (u : Int) (hu : 0 ≤ u) (hu2 : u ≤ 10 ^ 40) {tu tu' : TE} (hv : Ev tu σ H9 (.int u)) (hv' : Ev tu' σ H9 (.int u)) (h0 : σ[1]? = some (some (.ref p))) (h2 : σ[2]? = some (some (.int s))) {E E' : XK} :
        Ev (tOp (rNeD K) (tCall (spU (D_renew K)) [] E (tCons (tVar 1) (tCons (tVar 2) (tCons tu tNil)))) (tCall (spU (D_due20 K)) [] E' (tCons (tVar 1) (tCons (tVar 2) (tCons tu' tNil))))) σ H9 (.bl false) :=
      ev_neD (d := dI (tupI (mrun st0 (rks s u)))) (ed_U (eu_call (ea_cons (ev_var h0) (ea_cons (ev_var h2) (ea_cons hv ea_nil))) fun H10 e10 => d_renew s u hs hu hu2 H10 (e10 _ _ h9))) (ed_U (eu_call (ea_cons (ev_var h0) (ea_cons (ev_var h2) (ea_cons hv' ea_nil))) fun H10 e10 => d_due u hu hu2 H10 (e10 _ _ h9))) (shaped_I _)
    with_reducible refine f_seq ?_
    refine s_if (b := false) (et_test (cmp h9 t ht0.1 (by omega) (ev_var rfl) (ev_var rfl) rfl rfl)) (fun hb => nomatch hb) fun _ H10 e10 => f_next ?_
    have h10 := e10 _ _ h9
    have evM {σ : L2.St} {H : Hp} : Ev (tOp (rI0 fun i j => .int (i - j)) (tOp (rI CPow fun i j => .int (i ^ j.toNat)) (tC (.int 10)) (tC (.int 30))) (tC (.int 1))) σ H (.int (10 ^ (30 : Int).toNat - 1)) := ev_op (ev_op ev_c ev_c (rv_I (by unfold CPow; decide))) ev_c rv_I0
    with_reducible refine f_seq ?_
    refine s_if (b := false) (et_test (cmp h10 (10 ^ (30 : Int).toNat - 1) (by rw [pow30]; decide) (by rw [pow30]; decide) evM evM rfl rfl)) (fun hb => nomatch hb) fun _ H11 e11 => f_next ?_
    have h11 := e11 _ _ h10
    -- year, month, day
    with_reducible refine f_seq ?_
    refine s_un3U (a := .int ((mrun st0 (rks s 4800)).1 / 12)) (b := .int ((mrun st0 (rks s 4800)).1 % 12 + 1)) (c := .int (mrun st0 (rks s 4800)).2) (eu_call (xs := (tupI (mrun st0 (rks s 4800))).map V.int) (ea_cons (ev_var rfl) (ea_cons (ev_var rfl) (ea_cons ev_c ea_nil))) fun H12 e12 => d_renew s 4800 hs (by decide) (by decide) H12 (e12 _ _ h11)) fun H12 e12 => ?_
    have h12 := e12 _ _ h11
    have h96 : tupI (mrun st0 (rks s 9600)) = [(mrun st0 (rks s 4800)).1 / 12 + 400 * s, (mrun st0 (rks s 4800)).1 % 12 + 1, (mrun st0 (rks s 4800)).2] := by
      have a := rks_cut hf0 s 4800
      have b := rks_cut hf0 s 9600
      rw [cut_big st0 s (n := 4800 + 1) (by omega)] at a
      rw [cut_big st0 s (n := 9600 + 1) (by omega)] at b
      rw [show ((4800 : Nat) : Int) = 4800 from rfl] at a
      rw [show ((9600 : Nat) : Int) = 9600 from rfl] at b
      rw [a, b]
      unfold tupI
      show [(st0.1 + s * 9600) / 12, (st0.1 + s * 9600) % 12 + 1, cutD st0 s 4800] = [(st0.1 + s * 4800) / 12 + 400 * s, (st0.1 + s * 4800) % 12 + 1, cutD st0 s 4800]
      rw [show (st0.1 + s * 9600) / 12 = (st0.1 + s * 4800) / 12 + 400 * s by omega, show (st0.1 + s * 9600) % 12 = (st0.1 + s * 4800) % 12 by omega]
    with_reducible refine f_seq ?_
    refine s_if (b := false) (et_test (ev_neD (d := dI (tupI (mrun st0 (rks s 9600)))) (ed_U (eu_call (ea_cons (ev_var rfl) (ea_cons (ev_var rfl) (ea_cons ev_c ea_nil))) fun H13 e13 => d_renew s 9600 hs (by decide) (by decide) H13 (e13 _ _ h12)))
      (by
        rw [h96]
        exact ed_U (xs := [(mrun st0 (rks s 4800)).1 / 12 + 400 * s, (mrun st0 (rks s 4800)).1 % 12 + 1, (mrun st0 (rks s 4800)).2]) (eu_tup (ea_cons (ev_op (ev_var rfl) (ev_op ev_c (ev_var rfl) (rv_mul (by decide +kernel) (Nat.le_trans hs (by decide +kernel)))) rv_I0) (ea_cons (ev_var rfl) (ea_cons (ev_var rfl) ea_nil))) (by show 3 ≤ 100000; decide))) (shaped_I _))) (fun hb => nomatch hb) fun _ H13 e13 => f_next ?_
    have x13 := ((e10.trans e11).trans e12).trans e13
    have h13 := e13 _ _ h12
    have S13 := S9.ex_ x13
    have kk13 := kk9.l x13
    clear h12 h11 h10 h9
    generalize hE3 : (mrun st0 (rks s 4800)).1 / 12 = yy
    generalize (mrun st0 (rks s 4800)).1 % 12 + 1 = mm
    generalize (mrun st0 (rks s 4800)).2 = dd
    -- stride, first
    with_reducible refine f_seq ?_
    refine f_par ?_
    walk_at "fw"
    refine ⟨r, 9999, B + 135, rfl, by decide, by decide, S13, fun s2 H14 hs2 S14 k14 => ?_⟩
    have h14 := k14.at fp h13
    walk_at "fw"
    refine f_newLr S14 (by simp) fun p15 np15 fp15 S15 e15 h15 => ?_
    walk_at "fw"
    refine f_rdraw (B := B + 134) S15 (by decide) (by decide) fun n16 H16 a16 b16 S16 k16 => ?_
    obtain ⟨mo1, hmo1, hat⟩ := at_ints (L := [500, 10 ^ (25 : Int).toNat]) a16 b16
    refine f_ixL (k16.at fp15 h15) hat ?_
    have p25 : (10 : Int) ^ (25 : Int).toNat = 10 ^ 25 := rfl
    have hm1 : 0 < mo1 ∧ mo1 ≤ 10 ^ 25 := by
      rw [p25] at hmo1; simp at hmo1; omega
    refine f_nil ?_
    refine f_rdraw (B := B + 133) S16 hm1.1 (by omega) fun n17 H17 a17 b17 S17 k17 => ?_
    have h17 := k17.at fp (k16.at fp (e15 _ _ h14))
    have kk17 := (((kk13.trans k14).l e15).trans k16).trans k17
    refine f_nil (f_par2 ?_)
    clear hat h15 h14
    -- second
    walk_at "fw"
    refine f_newLr S17 (by simp) fun p18 np18 fp18 S18 e18 h18 => ?_
    walk_at "fw"
    refine f_rdraw (B := B + 132) S18 (by decide) (by decide) fun n19 H19 a19 b19 S19 k19 => ?_
    obtain ⟨mo2, hmo2, hat⟩ := at_ints (L := [500, 10 ^ (25 : Int).toNat]) a19 b19
    refine f_ixL (k19.at fp18 h18) hat ?_
    have hm2 : 0 < mo2 ∧ mo2 ≤ 10 ^ 25 := by
      rw [p25] at hmo2; simp at hmo2; omega
    refine f_nil ?_
    refine f_rdraw (B := B + 131) S19 hm2.1 (by omega) fun n20 H20 a20 b20 S20 k20 => ?_
    have h20 := k20.at fp (k19.at fp (e18 _ _ h17))
    have kk20 := ((kk17.l e18).trans k19).trans k20
    refine f_gName ?_
    -- between
    obtain ⟨f, rfl⟩ : ∃ f : Nat, n17 = (f : Int) := ⟨n17.toNat, (Int.toNat_of_nonneg a17).symm⟩
    obtain ⟨g, rfl⟩ : ∃ g : Nat, n20 = (g : Int) := ⟨n20.toNat, (Int.toNat_of_nonneg a20).symm⟩
    have hfb : (f : Int) ≤ 10 ^ 25 := by omega
    have hgb : (g : Int) ≤ 10 ^ 25 := by omega
    with_reducible refine f_seq ?_
    refine s_asgU (eu_call (xs := (tupI (mrun st0 (rks s2 f))).map V.int) (ea_cons (ev_var rfl) (ea_cons (ev_var rfl) (ea_cons (ev_var rfl) ea_nil))) fun H21 e21 => d_renew s2 f hs2 (by omega) (by omega) H21 (e21 _ _ h20)) fun q21 H21 nq21 e21 h21 => ?_
    have p21 := e21 _ _ h20
    have hfb2 : fine (mrun st0 (rks s2 f)) := mrun_fine hf0 _
    have hby : ((mrun st0 (rks s2 f)).1 / 12).natAbs ≤ 10 ^ 100 := by
      rw [rks_fst st0 (show (0 : Int) ≤ (f : Int) by omega), ← hst1]
      have z : (s2 * (f : Int)).natAbs ≤ 10 ^ 32 * 10 ^ 25 := by
        rw [Int.natAbs_mul]; exact Nat.mul_le_mul hs2 (by omega)
      have := hE.1; have := hE.2.1
      exact Nat.le_trans (show ((12 * y + m - 1 + s2 * (f : Int)) / 12).natAbs ≤ 10 ^ 60 by omega) (by decide +kernel)
    with_reducible refine f_ret ?_
    refine f_ev (ev_eqD (d := dI (tupI (mrun st0 (rks s2 ((f + g : Nat) : Int))))) (ed_U (eu_call (ea_cons (ev_var rfl) (ea_cons (ev_var rfl) (ea_cons (ev_var rfl) ea_nil))) fun H22 e22 =>
        ⟨q21, (mrun st0 (rks s2 f)).1 / 12, (mrun st0 (rks s2 f)).1 % 12 + 1, (mrun st0 (rks s2 f)).2, s2, g, rfl, st_of (e22 _ _ h21), of_fine hfb2, by omega, by omega, Nat.le_trans hs2 (by decide +kernel), by rw [back_st, rks_two hf0]; rfl, hby⟩))
      (ed_U (eu_call (ea_cons (ev_var rfl) (ea_cons (ev_var rfl) (ea_cons (ev_is (ev_op (ev_var rfl) (ev_var rfl) rv_I0) (by rw [show (f : Int) + (g : Int) = ((f + g : Nat) : Int) by omega])) ea_nil))) fun H22 e22 => d_renew s2 ((f + g : Nat) : Int) hs2 (by omega) (by omega) H22 (e22 _ _ p21))) (shaped_I _)) fun H23 e23 => ?_
    exact q H23 ((S20.ex_ (e21.trans e23)).less (by omega)) (kk20.l (e21.trans e23))
theorem rks_still : mrun (12 * 2023 + 8 - 1, 31) (rks 0 (10 ^ (29 : Int).toNat)) = (24283, 31) := by
  have hf : fine (12 * 2023 + 8 - 1, 31) := ⟨by decide, by decide +kernel⟩
  have z := rks_cut hf 0 (10 ^ 29)
  rw [cut_big _ _ (n := 10 ^ 29 + 1) (by decide)] at z
  rw [show (10 : Int) ^ (29 : Int).toNat = ((10 ^ 29 : Nat) : Int) by decide +kernel, z]
  refine Prod.ext (by simp) ?_
  have r := cut_rep hf 0 4799
  show cutD _ 0 4800 = 31
  rw [← r]
  have e (n : Nat) : rep (12 * 2023 + 8 - 1, 31) 0 n = (12 * 2023 + 8 - 1, 31) := by
    induction n with
    | zero => rfl
    | succ n ih => rw [rep_succ, ih]; exact mvs_zero hf
  rw [e]
theorem ok_law (T : Top K mg) : FnOk P w K mg base CX0 7 T.f_law T.fd_law ["script"] (spLaw K) := by
  have G_law_pool : FnOk P w K mg base CX0 1 T.f_law_pool T.fd_law_pool ["script", "at"] (spPool K) := ok_law_pool T
  have G_law_right : FnOk P w K mg base CX0 6 T.f_law_right T.fd_law_right ["pool"] (spRight 200) := ok_law_right T
  have G_renew : FnOk P w K mg base CX0 5 T.f_renew T.fd_renew ["date", "step", "times"] (spU (D_renew K)) := ok_renew T
  refine T.F_law.ok sc_law (fun vs H Q E h => ?_) (fun cdv A outer st H vs Q E hr h => ?_)
  · obtain ⟨a, ns, rfl, _⟩ := h; rfl
  · obtain ⟨a, ns, rfl, hS, hlen, q⟩ := h
    refine ⟨_, (pss_cons (ps_for PassesOwn.never rfl (pi_range1 (by rfl) T.z_range (pa_cons (pe_callB (call_max2 rfl) (by rfl) T.z_max (by decide +kernel) (pa_cons pe_int (pa_cons (pe_callB (call_min2 rfl) (by rfl) T.z_min (by decide +kernel) (pa_cons pe_int (pa_cons (pe_callB (r := rLenS K) call_len_seq (by rfl) T.z_len PySem.boot_len (pa_cons (pv 0) pa_nil)) pa_nil))) pa_nil))) pa_nil)) (pg_name (i := 1) sc_law.nd rfl (Or.inl rfl)) (pss_cons (ps_set (i := 2) sc_law.nd rfl (Or.inl rfl) (pe_call G_law_pool (hr.mono (by first | decide | omega)) (by rfl) T.g_law_pool T.F_law_pool.kp T.b_law_pool .nil pass0 (pa_cons (pv 0) (pa_cons (pv 1) pa_nil))))
      (pss_one (ps_for PassesOwn.never rfl (pi_range1 (by rfl) T.z_range (pa_cons pe_int pa_nil)) (pg_name (i := 3) sc_law.nd rfl (Or.inl rfl)) (pss_one (ps_if (pt_not (pt_val (pe_call G_law_right (hr.mono (by first | decide | omega)) (by rfl) T.g_law_right T.F_law_right.kp T.b_law_right .nil pass0 (pa_cons (pv 2) pa_nil)))) (pss_one (ps_ret pe_bl)) pss_nil))))))
      (pss_one (ps_ret (pe_cmpR (r := rEqD K) (op_eqD hr.units) (pe_call G_renew (hr.mono (by first | decide | omega)) (by rfl) T.g_renew T.F_renew.kp T.b_renew .nil pass0 (pa_cons (pe_tup (pa_cons pe_int (pa_cons pe_int (pa_cons pe_int pa_nil)))) (pa_cons pe_int (pa_cons (pe_op op_pow pe_int pe_int) pa_nil)))) (pe_tup (pa_cons pe_int (pa_cons pe_int (pa_cons pe_int pa_nil)))) (nomark _))))), ?_⟩
    refine f_seq (s_forR1 (n := if (if ((ns.map V.int).length : Int) < 4 then ((ns.map V.int).length : Int) else 4) > 1 then (if ((ns.map V.int).length : Int) < 4 then ((ns.map V.int).length : Int) else 4) else 1) (ea_cons (ev_max2 ev_c (ev_cb (ea_cons ev_c (ea_cons (ev_lenS (ev_var rfl) (.inl hS)) ea_nil)) fun H2 _ Q' q' => ⟨_, _, rfl, q' H2 (Ex.refl H2)⟩)) ea_nil) ⟨by split <;> split <;> omega, by split <;> split <;> omega⟩
      (fun i σ H' => ∃ v1 v2 v3 : Option V, σ = [some (.ref a), v1, v2, v3] ∧ SqL K H' a (ns.map V.int)) (fun H2 e2 => ⟨_, _, _, rfl, ex_l e2 hS⟩) (fun i σ H' hi hp => ?_) (fun σ H' hp => ?_))
    · obtain ⟨v1, v2, v3, rfl, hS1⟩ := hp
      have hi8 : i < 8 := by split at hi <;> split at hi <;> omega
      refine f_seq (f_asg (f_call (f_cons (f_var rfl (f_cons (f_var rfl (f_nil ?_)))))))
      refine ⟨a, ns, i, rfl, hS1, by omega, fun r H1 nr S1 e1 => ?_⟩
      refine f_gName ?_
      refine s_forR1 (n := 2) (ea_cons ev_c ea_nil) ⟨by decide, by decide⟩ (fun j σ H' => ∃ v1 v3 : Option V, σ = [some (.ref a), v1, some (.ref r), v3] ∧ Kr r H1 H' ∧ Rg H' r (2 ^ 29 - 200 * j)) (fun H2 e2 => ⟨_, _, rfl, .of e2, S1.ex_ e2⟩) (fun j σ H' hj hp => ?_) (fun σ H' hp => ?_)
      · obtain ⟨v1, v3, rfl, k3, S3⟩ := hp
        have S3 : Rg H' r (2 ^ 29 - 200 * (j + 1) + 200) := S3.less (by omega)
        refine f_ifS (f_not (f_B (f_call (f_cons (f_var rfl (f_nil ⟨r, _, rfl, S3, fun H4 S4 k4 => ?_⟩))))))
        refine f_bl (f_iteB (fun h => nomatch h) fun _ => f_next ⟨_, _, rfl, k3.trans k4, S4⟩)
      · obtain ⟨v1, v3, rfl, k3, S3⟩ := hp
        exact ⟨_, _, _, rfl, sq_kr hS1 nr e1 k3⟩
    · obtain ⟨v1, v2, v3, rfl, hS1⟩ := hp
      refine s_ret (ev_eqD (d := dI [2023, 8, 31]) (ed_U (xs := [2023, 8, 31]) (fun H2 e2 R hR => f_call (f_cons (f_evU (eu_tup (ea_cons ev_c (ea_cons ev_c (ea_cons ev_c ea_nil))) (by show 3 ≤ 100000; decide)) fun p3 H3 np3 e3 h3 => f_cons (f_c (f_cons (f_ev (ev_op ev_c ev_c (rv_I (by unfold CPow; decide))) fun H4 e4 => f_nil ?_)))))))
        (ed_U (xs := [2023, 8, 31]) (eu_tup (ea_cons ev_c (ea_cons ev_c (ea_cons ev_c ea_nil))) (by show 3 ≤ 100000; decide))) (shaped_I _)) fun H5 e5 => q H5
      refine ⟨_, ⟨p3, 2023, 8, 31, 0, 10 ^ (29 : Int).toNat, rfl, st_of (e4 _ _ h3), ⟨by decide, by decide, by decide, by decide⟩, by decide +kernel, by decide +kernel, by decide +kernel, rfl, by decide +kernel⟩, fun p5 H5 np5 e5 h5 => hR p5 H5 (fresh_back (e3.trans e4) np5) ((e3.trans e4).trans e5) (by rw [h5, rks_still]; rfl)⟩

end
theorem all_mk {l : PySem.W.OpenLaw} {w : World} {K : PySem.W.Frag} {h : Heap} {mg : Str → Option Value} {fa : Addr} (X : K.In h) (G : h.Ns mainGlobals mg) (hfa : mg "law" = some (.ref fa))
    {od_is_leap an_is_leap : Option Addr} {sl_is_leap : Array (Option Value)} {oc_is_leap kV_is_leap dc_is_leap pm_is_leap cd_is_leap ct_is_leap : Value} {f_is_leap : Addr}
    (a_is_leap : PySem.W.nsIn K mainGlobals "is_leap" = some (some (.ref f_is_leap)))
    (l_is_leap : K.lookup f_is_leap = some ⟨oc_is_leap, od_is_leap, .func (PySem.W.fnOf "is_leap" "is_leap" (defArgs s_is_leap) (defBody s_is_leap) (defScope s_is_leap) .none kV_is_leap dc_is_leap pm_is_leap an_is_leap cd_is_leap ct_is_leap), sl_is_leap⟩)
    (c_is_leap : PySem.W.codeIn K cd_is_leap "is_leap" = true)
    (k_is_leap : PySem.W.keepIn K (.ref f_is_leap) = true)
    {od_days_in an_days_in : Option Addr} {sl_days_in : Array (Option Value)} {oc_days_in kV_days_in dc_days_in pm_days_in cd_days_in ct_days_in : Value} {f_days_in : Addr}
    (a_days_in : PySem.W.nsIn K mainGlobals "days_in" = some (some (.ref f_days_in)))
    (l_days_in : K.lookup f_days_in = some ⟨oc_days_in, od_days_in, .func (PySem.W.fnOf "days_in" "days_in" (defArgs s_days_in) (defBody s_days_in) (defScope s_days_in) .none kV_days_in dc_days_in pm_days_in an_days_in cd_days_in ct_days_in), sl_days_in⟩)
    (c_days_in : PySem.W.codeIn K cd_days_in "days_in" = true)
    (k_days_in : PySem.W.keepIn K (.ref f_days_in) = true)
    {od_check_date an_check_date : Option Addr} {sl_check_date : Array (Option Value)} {oc_check_date kV_check_date dc_check_date pm_check_date cd_check_date ct_check_date : Value} {f_check_date : Addr}
    (a_check_date : PySem.W.nsIn K mainGlobals "check_date" = some (some (.ref f_check_date)))
    (l_check_date : K.lookup f_check_date = some ⟨oc_check_date, od_check_date, .func (PySem.W.fnOf "check_date" "check_date" (defArgs s_check_date) (defBody s_check_date) (defScope s_check_date) .none kV_check_date dc_check_date pm_check_date an_check_date cd_check_date ct_check_date), sl_check_date⟩)
    (c_check_date : PySem.W.codeIn K cd_check_date "check_date" = true)
    (k_check_date : PySem.W.keepIn K (.ref f_check_date) = true)
    {od_move an_move : Option Addr} {sl_move : Array (Option Value)} {oc_move kV_move dc_move pm_move cd_move ct_move : Value} {f_move : Addr}
    (a_move : PySem.W.nsIn K mainGlobals "move" = some (some (.ref f_move)))
    (l_move : K.lookup f_move = some ⟨oc_move, od_move, .func (PySem.W.fnOf "move" "move" (defArgs s_move) (defBody s_move) (defScope s_move) .none kV_move dc_move pm_move an_move cd_move ct_move), sl_move⟩)
    (c_move : PySem.W.codeIn K cd_move "move" = true)
    (k_move : PySem.W.keepIn K (.ref f_move) = true)
    {od_renew an_renew : Option Addr} {sl_renew : Array (Option Value)} {oc_renew kV_renew dc_renew pm_renew cd_renew ct_renew : Value} {f_renew : Addr}
    (a_renew : PySem.W.nsIn K mainGlobals "renew" = some (some (.ref f_renew)))
    (l_renew : K.lookup f_renew = some ⟨oc_renew, od_renew, .func (PySem.W.fnOf "renew" "renew" (defArgs s_renew) (defBody s_renew) (defScope s_renew) .none kV_renew dc_renew pm_renew an_renew cd_renew ct_renew), sl_renew⟩)
    (c_renew : PySem.W.codeIn K cd_renew "renew" = true)
    (k_renew : PySem.W.keepIn K (.ref f_renew) = true)
    {od_check an_check : Option Addr} {sl_check : Array (Option Value)} {oc_check kV_check dc_check pm_check cd_check ct_check : Value} {f_check : Addr}
    (a_check : PySem.W.nsIn K mainGlobals "_check" = some (some (.ref f_check)))
    (l_check : K.lookup f_check = some ⟨oc_check, od_check, .func (PySem.W.fnOf "_check" "_check" (defArgs s_check) (defBody s_check) (defScope s_check) .none kV_check dc_check pm_check an_check cd_check ct_check), sl_check⟩)
    (c_check : PySem.W.codeIn K cd_check "_check" = true)
    (k_check : PySem.W.keepIn K (.ref f_check) = true)
    {od_law_pool an_law_pool : Option Addr} {sl_law_pool : Array (Option Value)} {oc_law_pool kV_law_pool dc_law_pool pm_law_pool cd_law_pool ct_law_pool : Value} {f_law_pool : Addr}
    (a_law_pool : PySem.W.nsIn K mainGlobals "_law_pool" = some (some (.ref f_law_pool)))
    (l_law_pool : K.lookup f_law_pool = some ⟨oc_law_pool, od_law_pool, .func (PySem.W.fnOf "_law_pool" "_law_pool" (defArgs s_law_pool) (defBody s_law_pool) (defScope s_law_pool) .none kV_law_pool dc_law_pool pm_law_pool an_law_pool cd_law_pool ct_law_pool), sl_law_pool⟩)
    (c_law_pool : PySem.W.codeIn K cd_law_pool "_law_pool" = true)
    (k_law_pool : PySem.W.keepIn K (.ref f_law_pool) = true)
    {od_law_draw an_law_draw : Option Addr} {sl_law_draw : Array (Option Value)} {oc_law_draw kV_law_draw dc_law_draw pm_law_draw cd_law_draw ct_law_draw : Value} {f_law_draw : Addr}
    (a_law_draw : PySem.W.nsIn K mainGlobals "_law_draw" = some (some (.ref f_law_draw)))
    (l_law_draw : K.lookup f_law_draw = some ⟨oc_law_draw, od_law_draw, .func (PySem.W.fnOf "_law_draw" "_law_draw" (defArgs s_law_draw) (defBody s_law_draw) (defScope s_law_draw) .none kV_law_draw dc_law_draw pm_law_draw an_law_draw cd_law_draw ct_law_draw), sl_law_draw⟩)
    (c_law_draw : PySem.W.codeIn K cd_law_draw "_law_draw" = true)
    (k_law_draw : PySem.W.keepIn K (.ref f_law_draw) = true)
    {od_law_days an_law_days : Option Addr} {sl_law_days : Array (Option Value)} {oc_law_days kV_law_days dc_law_days pm_law_days cd_law_days ct_law_days : Value} {f_law_days : Addr}
    (a_law_days : PySem.W.nsIn K mainGlobals "_law_days" = some (some (.ref f_law_days)))
    (l_law_days : K.lookup f_law_days = some ⟨oc_law_days, od_law_days, .func (PySem.W.fnOf "_law_days" "_law_days" (defArgs s_law_days) (defBody s_law_days) (defScope s_law_days) .none kV_law_days dc_law_days pm_law_days an_law_days cd_law_days ct_law_days), sl_law_days⟩)
    (c_law_days : PySem.W.codeIn K cd_law_days "_law_days" = true)
    (k_law_days : PySem.W.keepIn K (.ref f_law_days) = true)
    {od_law_great an_law_great : Option Addr} {sl_law_great : Array (Option Value)} {oc_law_great kV_law_great dc_law_great pm_law_great cd_law_great ct_law_great : Value} {f_law_great : Addr}
    (a_law_great : PySem.W.nsIn K mainGlobals "_law_great" = some (some (.ref f_law_great)))
    (l_law_great : K.lookup f_law_great = some ⟨oc_law_great, od_law_great, .func (PySem.W.fnOf "_law_great" "_law_great" (defArgs s_law_great) (defBody s_law_great) (defScope s_law_great) .none kV_law_great dc_law_great pm_law_great an_law_great cd_law_great ct_law_great), sl_law_great⟩)
    (c_law_great : PySem.W.codeIn K cd_law_great "_law_great" = true)
    (k_law_great : PySem.W.keepIn K (.ref f_law_great) = true)
    {od_law_date an_law_date : Option Addr} {sl_law_date : Array (Option Value)} {oc_law_date kV_law_date dc_law_date pm_law_date cd_law_date ct_law_date : Value} {f_law_date : Addr}
    (a_law_date : PySem.W.nsIn K mainGlobals "_law_date" = some (some (.ref f_law_date)))
    (l_law_date : K.lookup f_law_date = some ⟨oc_law_date, od_law_date, .func (PySem.W.fnOf "_law_date" "_law_date" (defArgs s_law_date) (defBody s_law_date) (defScope s_law_date) .none kV_law_date dc_law_date pm_law_date an_law_date cd_law_date ct_law_date), sl_law_date⟩)
    (c_law_date : PySem.W.codeIn K cd_law_date "_law_date" = true)
    (k_law_date : PySem.W.keepIn K (.ref f_law_date) = true)
    {od_law_stride an_law_stride : Option Addr} {sl_law_stride : Array (Option Value)} {oc_law_stride kV_law_stride dc_law_stride pm_law_stride cd_law_stride ct_law_stride : Value} {f_law_stride : Addr}
    (a_law_stride : PySem.W.nsIn K mainGlobals "_law_stride" = some (some (.ref f_law_stride)))
    (l_law_stride : K.lookup f_law_stride = some ⟨oc_law_stride, od_law_stride, .func (PySem.W.fnOf "_law_stride" "_law_stride" (defArgs s_law_stride) (defBody s_law_stride) (defScope s_law_stride) .none kV_law_stride dc_law_stride pm_law_stride an_law_stride cd_law_stride ct_law_stride), sl_law_stride⟩)
    (c_law_stride : PySem.W.codeIn K cd_law_stride "_law_stride" = true)
    (k_law_stride : PySem.W.keepIn K (.ref f_law_stride) = true)
    {od_law_due an_law_due : Option Addr} {sl_law_due : Array (Option Value)} {oc_law_due kV_law_due dc_law_due pm_law_due cd_law_due ct_law_due : Value} {f_law_due : Addr}
    (a_law_due : PySem.W.nsIn K mainGlobals "_law_due" = some (some (.ref f_law_due)))
    (l_law_due : K.lookup f_law_due = some ⟨oc_law_due, od_law_due, .func (PySem.W.fnOf "_law_due" "_law_due" (defArgs s_law_due) (defBody s_law_due) (defScope s_law_due) .none kV_law_due dc_law_due pm_law_due an_law_due cd_law_due ct_law_due), sl_law_due⟩)
    (c_law_due : PySem.W.codeIn K cd_law_due "_law_due" = true)
    (k_law_due : PySem.W.keepIn K (.ref f_law_due) = true)
    {od_law_right an_law_right : Option Addr} {sl_law_right : Array (Option Value)} {oc_law_right kV_law_right dc_law_right pm_law_right cd_law_right ct_law_right : Value} {f_law_right : Addr}
    (a_law_right : PySem.W.nsIn K mainGlobals "_law_right" = some (some (.ref f_law_right)))
    (l_law_right : K.lookup f_law_right = some ⟨oc_law_right, od_law_right, .func (PySem.W.fnOf "_law_right" "_law_right" (defArgs s_law_right) (defBody s_law_right) (defScope s_law_right) .none kV_law_right dc_law_right pm_law_right an_law_right cd_law_right ct_law_right), sl_law_right⟩)
    (c_law_right : PySem.W.codeIn K cd_law_right "_law_right" = true)
    (k_law_right : PySem.W.keepIn K (.ref f_law_right) = true)
    {od_law an_law : Option Addr} {sl_law : Array (Option Value)} {oc_law kV_law dc_law pm_law cd_law ct_law : Value} {f_law : Addr}
    (a_law : PySem.W.nsIn K mainGlobals "law" = some (some (.ref f_law)))
    (l_law : K.lookup f_law = some ⟨oc_law, od_law, .func (PySem.W.fnOf "law" "law" (defArgs s_law) (defBody s_law) (defScope s_law) .none kV_law dc_law pm_law an_law cd_law ct_law), sl_law⟩)
    (c_law : PySem.W.codeIn K cd_law "law" = true)
    (k_law : PySem.W.keepIn K (.ref f_law) = true)
    (z_abs : PySem.W.nsIn K mainGlobals "abs" = some none)
    (z_int : PySem.W.nsIn K mainGlobals "int" = some none)
    (z_len : PySem.W.nsIn K mainGlobals "len" = some none)
    (z_max : PySem.W.nsIn K mainGlobals "max" = some none)
    (z_min : PySem.W.nsIn K mainGlobals "min" = some none)
    (z_range : PySem.W.nsIn K mainGlobals "range" = some none)
    {ca_DAYS_IN_COMMON_YEAR : Addr} {cd_DAYS_IN_COMMON_YEAR : Option Addr} {cs_DAYS_IN_COMMON_YEAR : Array (Option Value)} {cn_DAYS_IN_COMMON_YEAR : Nat} {ct_DAYS_IN_COMMON_YEAR_0 ct_DAYS_IN_COMMON_YEAR_1 ct_DAYS_IN_COMMON_YEAR_2 ct_DAYS_IN_COMMON_YEAR_3 ct_DAYS_IN_COMMON_YEAR_4 ct_DAYS_IN_COMMON_YEAR_5 ct_DAYS_IN_COMMON_YEAR_6 ct_DAYS_IN_COMMON_YEAR_7 ct_DAYS_IN_COMMON_YEAR_8 ct_DAYS_IN_COMMON_YEAR_9 ct_DAYS_IN_COMMON_YEAR_10 ct_DAYS_IN_COMMON_YEAR_11 : Tok}
    (ga_DAYS_IN_COMMON_YEAR : PySem.W.nsIn K mainGlobals "_DAYS_IN_COMMON_YEAR" = some (some (.ref ca_DAYS_IN_COMMON_YEAR)))
    (gl_DAYS_IN_COMMON_YEAR : K.lookup ca_DAYS_IN_COMMON_YEAR = some ⟨.type "tuple", cd_DAYS_IN_COMMON_YEAR, .seq #[.int 31 ct_DAYS_IN_COMMON_YEAR_0, .int 28 ct_DAYS_IN_COMMON_YEAR_1, .int 31 ct_DAYS_IN_COMMON_YEAR_2, .int 30 ct_DAYS_IN_COMMON_YEAR_3, .int 31 ct_DAYS_IN_COMMON_YEAR_4, .int 30 ct_DAYS_IN_COMMON_YEAR_5, .int 31 ct_DAYS_IN_COMMON_YEAR_6, .int 31 ct_DAYS_IN_COMMON_YEAR_7, .int 30 ct_DAYS_IN_COMMON_YEAR_8, .int 31 ct_DAYS_IN_COMMON_YEAR_9, .int 30 ct_DAYS_IN_COMMON_YEAR_10, .int 31 ct_DAYS_IN_COMMON_YEAR_11] cn_DAYS_IN_COMMON_YEAR, cs_DAYS_IN_COMMON_YEAR⟩)
    {ct_CYCLE : Tok}
    (ga_CYCLE : PySem.W.nsIn K mainGlobals "CYCLE" = some (some (.int 4800 ct_CYCLE))) :
    ∃ fd : FuncData, (∀ (s : Shared) (v : Value), BindsTo s fd ⟨[v], []⟩ [("script", v)]) ∧ ∀ base : Heap, K.In base → base.Ns mainGlobals mg → FnOk l.prog w K mg base CX0 7 fa fd ["script"] (spLaw K) := by
  have e := hfa.symm.trans (PySem.W.mg_of X G a_law)
  cases e
  have F_is_leap := fun_mk (st := s_is_leap) l_is_leap c_is_leap k_is_leap
  have F_days_in := fun_mk (st := s_days_in) l_days_in c_days_in k_days_in
  have F_check_date := fun_mk (st := s_check_date) l_check_date c_check_date k_check_date
  have F_move := fun_mk (st := s_move) l_move c_move k_move
  have F_renew := fun_mk (st := s_renew) l_renew c_renew k_renew
  have F_check := fun_mk (st := s_check) l_check c_check k_check
  have F_law_pool := fun_mk (st := s_law_pool) l_law_pool c_law_pool k_law_pool
  have F_law_draw := fun_mk (st := s_law_draw) l_law_draw c_law_draw k_law_draw
  have F_law_days := fun_mk (st := s_law_days) l_law_days c_law_days k_law_days
  have F_law_great := fun_mk (st := s_law_great) l_law_great c_law_great k_law_great
  have F_law_date := fun_mk (st := s_law_date) l_law_date c_law_date k_law_date
  have F_law_stride := fun_mk (st := s_law_stride) l_law_stride c_law_stride k_law_stride
  have F_law_due := fun_mk (st := s_law_due) l_law_due c_law_due k_law_due
  have F_law_right := fun_mk (st := s_law_right) l_law_right c_law_right k_law_right
  have F_law := fun_mk (st := s_law) l_law c_law k_law
  let T : Top K mg := {
    f_is_leap := f_is_leap
    fd_is_leap := _
    F_is_leap := F_is_leap
    g_is_leap := PySem.W.mg_of X G a_is_leap
    b_is_leap := (F_is_leap.binds (ps := ["year"]) fun _ _ _ _ _ _ us hl => match us, hl with | [_], _ => rfl)
    f_days_in := f_days_in
    fd_days_in := _
    F_days_in := F_days_in
    g_days_in := PySem.W.mg_of X G a_days_in
    b_days_in := (F_days_in.binds (ps := ["year", "month"]) fun _ _ _ _ _ _ us hl => match us, hl with | [_, _], _ => rfl)
    f_check_date := f_check_date
    fd_check_date := _
    F_check_date := F_check_date
    g_check_date := PySem.W.mg_of X G a_check_date
    b_check_date := (F_check_date.binds (ps := ["date"]) fun _ _ _ _ _ _ us hl => match us, hl with | [_], _ => rfl)
    f_move := f_move
    fd_move := _
    F_move := F_move
    g_move := PySem.W.mg_of X G a_move
    b_move := (F_move.binds (ps := ["date", "steps"]) fun _ _ _ _ _ _ us hl => match us, hl with | [_, _], _ => rfl)
    f_renew := f_renew
    fd_renew := _
    F_renew := F_renew
    g_renew := PySem.W.mg_of X G a_renew
    b_renew := (F_renew.binds (ps := ["date", "step", "times"]) fun _ _ _ _ _ _ us hl => match us, hl with | [_, _, _], _ => rfl)
    f_check := f_check
    fd_check := _
    F_check := F_check
    g_check := PySem.W.mg_of X G a_check
    b_check := (F_check.binds (ps := ["date", "times"]) fun _ _ _ _ _ _ us hl => match us, hl with | [_, _], _ => rfl)
    f_law_pool := f_law_pool
    fd_law_pool := _
    F_law_pool := F_law_pool
    g_law_pool := PySem.W.mg_of X G a_law_pool
    b_law_pool := (F_law_pool.binds (ps := ["script", "at"]) fun _ _ _ _ _ _ us hl => match us, hl with | [_, _], _ => rfl)
    f_law_draw := f_law_draw
    fd_law_draw := _
    F_law_draw := F_law_draw
    g_law_draw := PySem.W.mg_of X G a_law_draw
    b_law_draw := (F_law_draw.binds (ps := ["pool", "many"]) fun _ _ _ _ _ _ us hl => match us, hl with | [_, _], _ => rfl)
    f_law_days := f_law_days
    fd_law_days := _
    F_law_days := F_law_days
    g_law_days := PySem.W.mg_of X G a_law_days
    b_law_days := (F_law_days.binds (ps := ["number"]) fun _ _ _ _ _ _ us hl => match us, hl with | [_], _ => rfl)
    f_law_great := f_law_great
    fd_law_great := _
    F_law_great := F_law_great
    g_law_great := PySem.W.mg_of X G a_law_great
    b_law_great := (F_law_great.binds (ps := ["pool"]) fun _ _ _ _ _ _ us hl => match us, hl with | [_], _ => rfl)
    f_law_date := f_law_date
    fd_law_date := _
    F_law_date := F_law_date
    g_law_date := PySem.W.mg_of X G a_law_date
    b_law_date := (F_law_date.binds (ps := ["pool"]) fun _ _ _ _ _ _ us hl => match us, hl with | [_], _ => rfl)
    f_law_stride := f_law_stride
    fd_law_stride := _
    F_law_stride := F_law_stride
    g_law_stride := PySem.W.mg_of X G a_law_stride
    b_law_stride := (F_law_stride.binds (ps := ["pool", "most"]) fun _ _ _ _ _ _ us hl => match us, hl with | [_, _], _ => rfl)
    f_law_due := f_law_due
    fd_law_due := _
    F_law_due := F_law_due
    g_law_due := PySem.W.mg_of X G a_law_due
    b_law_due := (F_law_due.binds (ps := ["date", "stride", "times"]) fun _ _ _ _ _ _ us hl => match us, hl with | [_, _, _], _ => rfl)
    f_law_right := f_law_right
    fd_law_right := _
    F_law_right := F_law_right
    g_law_right := PySem.W.mg_of X G a_law_right
    b_law_right := (F_law_right.binds (ps := ["pool"]) fun _ _ _ _ _ _ us hl => match us, hl with | [_], _ => rfl)
    f_law := fa
    fd_law := _
    F_law := F_law
    g_law := PySem.W.mg_of X G a_law
    b_law := (F_law.binds (ps := ["script"]) fun _ _ _ _ _ _ us hl => match us, hl with | [_], _ => rfl)
    z_abs := PySem.W.mg_none_of X G z_abs
    z_int := PySem.W.mg_none_of X G z_int
    z_len := PySem.W.mg_none_of X G z_len
    z_max := PySem.W.mg_none_of X G z_max
    z_min := PySem.W.mg_none_of X G z_min
    z_range := PySem.W.mg_none_of X G z_range
    a_DAYS_IN_COMMON_YEAR := ca_DAYS_IN_COMMON_YEAR
    g_DAYS_IN_COMMON_YEAR := PySem.W.mg_of X G ga_DAYS_IN_COMMON_YEAR
    q_DAYS_IN_COMMON_YEAR := fun H => Or.inr ⟨_, _, _, gl_DAYS_IN_COMMON_YEAR, rfl, rfl, (by show 12 ≤ sizeLine; decide), .cons ⟨_, rfl⟩ (.cons ⟨_, rfl⟩ (.cons ⟨_, rfl⟩ (.cons ⟨_, rfl⟩ (.cons ⟨_, rfl⟩ (.cons ⟨_, rfl⟩ (.cons ⟨_, rfl⟩ (.cons ⟨_, rfl⟩ (.cons ⟨_, rfl⟩ (.cons ⟨_, rfl⟩ (.cons ⟨_, rfl⟩ (.cons ⟨_, rfl⟩ .nil)))))))))))⟩
    t_CYCLE := ct_CYCLE
    g_CYCLE := PySem.W.mg_of X G ga_CYCLE }
  exact ⟨_, fun s v => .of_eq rfl, fun base _ _ => ok_law T⟩
end Mk

open PySem PySem.W PyProof.Rows
set_option maxRecDepth 100000 in
set_option maxHeartbeats 0 in
theorem PySem.Challenge.cw_monthclamp_k20_whole_very_many_renewals_holds : PySem.Challenge.rw_monthclamp_k20_whole_very_many_renewals.Holds := by
  w_on; o_law; k_head; (case hw => w_witness2)
  k_fill
  refine L2.walk_of (l := PySem.Challenge.rw_monthclamp_k20_whole_very_many_renewals) (n := 63) (k := 7) (x := "script") (CX := fun _ => L2.CX0) (sp := fun w => Mk.spLaw _) rfl (by decide) rfl ⟨rfl, by decide, by decide⟩ (fun w h Y => PySem.W.kIn_of Y) ?F (fun _ _ a ns hl _ hS => ⟨a, ns, rfl, hS, hl, fun _ => rfl⟩) (fun _ _ _ _ _ h => h)
  case F =>
    intro w mg fa h KX G hmg
    refine' Mk.all_mk KX G hmg ?a_is_leap ?l_is_leap ?c_is_leap ?k_is_leap ?a_days_in ?l_days_in ?c_days_in ?k_days_in ?a_check_date ?l_check_date ?c_check_date ?k_check_date ?a_move ?l_move ?c_move ?k_move ?a_renew ?l_renew ?c_renew ?k_renew ?a_check ?l_check ?c_check ?k_check ?a_law_pool ?l_law_pool ?c_law_pool ?k_law_pool ?a_law_draw ?l_law_draw ?c_law_draw ?k_law_draw ?a_law_days ?l_law_days ?c_law_days ?k_law_days ?a_law_great ?l_law_great ?c_law_great ?k_law_great ?a_law_date ?l_law_date ?c_law_date ?k_law_date ?a_law_stride ?l_law_stride ?c_law_stride ?k_law_stride ?a_law_due ?l_law_due ?c_law_due ?k_law_due ?a_law_right ?l_law_right ?c_law_right ?k_law_right ?a_law ?l_law ?c_law ?k_law ?z_abs ?z_int ?z_len ?z_max ?z_min ?z_range ?ga_DAYS_IN_COMMON_YEAR ?gl_DAYS_IN_COMMON_YEAR ?ga_CYCLE
    (case a_is_leap => k_is)
    (case l_is_leap => k_is)
    (case c_is_leap => k_is)
    (case k_is_leap => k_is)
    (case a_days_in => k_is)
    (case l_days_in => k_is)
    (case c_days_in => k_is)
    (case k_days_in => k_is)
    (case a_check_date => k_is)
    (case l_check_date => k_is)
    (case c_check_date => k_is)
    (case k_check_date => k_is)
    (case a_move => k_is)
    (case l_move => k_is)
    (case c_move => k_is)
    (case k_move => k_is)
    (case a_renew => k_is)
    (case l_renew => k_is)
    (case c_renew => k_is)
    (case k_renew => k_is)
    (case a_check => k_is)
    (case l_check => k_is)
    (case c_check => k_is)
    (case k_check => k_is)
    (case a_law_pool => k_is)
    (case l_law_pool => k_is)
    (case c_law_pool => k_is)
    (case k_law_pool => k_is)
    (case a_law_draw => k_is)
    (case l_law_draw => k_is)
    (case c_law_draw => k_is)
    (case k_law_draw => k_is)
    (case a_law_days => k_is)
    (case l_law_days => k_is)
    (case c_law_days => k_is)
    (case k_law_days => k_is)
    (case a_law_great => k_is)
    (case l_law_great => k_is)
    (case c_law_great => k_is)
    (case k_law_great => k_is)
    (case a_law_date => k_is)
    (case l_law_date => k_is)
    (case c_law_date => k_is)
    (case k_law_date => k_is)
    (case a_law_stride => k_is)
    (case l_law_stride => k_is)
    (case c_law_stride => k_is)
    (case k_law_stride => k_is)
    (case a_law_due => k_is)
    (case l_law_due => k_is)
    (case c_law_due => k_is)
    (case k_law_due => k_is)
    (case a_law_right => k_is)
    (case l_law_right => k_is)
    (case c_law_right => k_is)
    (case k_law_right => k_is)
    (case a_law => k_is)
    (case l_law => k_is)
    (case c_law => k_is)
    (case k_law => k_is)
    (case z_abs => k_is)
    (case z_int => k_is)
    (case z_len => k_is)
    (case z_max => k_is)
    (case z_min => k_is)
    (case z_range => k_is)
    (case ga_DAYS_IN_COMMON_YEAR => k_is)
    (case gl_DAYS_IN_COMMON_YEAR => k_is)
    (case ga_CYCLE => k_is)
#print axioms PySem.Challenge.cw_monthclamp_k20_whole_very_many_renewals_holds
