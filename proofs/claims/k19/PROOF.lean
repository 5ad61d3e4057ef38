import PyProof.Rows.All
import Wide.All
import OpenK.AllK
import Wide.FinOn
import HandS.ForMost
import HandS.Wide
import HandS.IsInst
import HandS.Evl
import HandS.Defaults
import HandS.More
import HandS.Style
import HandS.Strs
import HandS.SetFor
import HandS.Zip
import PyProof.Rows.SortShellAny
import HandS.SetKeys
import HandS.Walk
import HandS.SetBool
import HandS.Dict
import HandS.DictComp
import HandS.StrMore
import HandS.FStr
import HandS.Conv
import HandS.Deep
import KE.KxField
import KE.KExcIs
import HandS.ExcInit
import HandS.ExcCtx
import HandS.ExcIs
import HandS.ExcField
import HandS.ExcValue
import HandS.HotCalls
import HandS.RaiseFrom
import HandS.SuiteRaise
import HandS.ExcInitHot
import PyProof.StrOps2
import PyProof.SliceStr2
import KE.KRevSl
import HandS.Property
import HandS.Star
import HandS.MethStar
import HandS.SlotsOwn
import HandS.OwnEq
import PyProof.EqKinds
import HandS.ClsMeth
import HandS.MakeKwOnly
import HandS.GenList
import HandS.GenOver
import KE.GoesMore
import PySem.Challenge.RW_monthclamp_k19_renewals_one_by_one
set_option Elab.async false
set_option linter.all false
set_option maxRecDepth 100000
set_option maxHeartbeats 4000000
namespace Mc
open PySem L2

/-! ### forward rules: one for each head of a reading -/
section
variable {K : PySem.W.Frag} {σ : L2.St} {H : Hp} {Q : VK} {ta tb te tc : TE} {t u c : TT} {t1 t2 : TS} {D : Ends} {i : Nat} {v x y : V} {r : R2}
theorem f_var (h : σ[i]? = some (some v)) (q : Q v H) : tVar i σ H Q := ⟨v, h, q⟩
theorem f_c (q : Q v H) : tC v σ H Q := q
theorem f_op (h : ta σ H fun x H1 => tb σ H1 fun y H2 => r x y H2 Q) : tOp r ta tb σ H Q := h
theorem f_un {r : V → Hp → VK → Prop} (h : ta σ H fun x H1 => r x H1 Q) : tUn r ta σ H Q := h
theorem f_I0 {g : Int → Int → V} {a b : Int} (q : Q (g a b) H) : rI0 g (.int a) (.int b) H Q := ⟨a, b, rfl, rfl, q⟩
theorem f_I {C : Int → Int → Prop} {g : Int → Int → V} {a b : Int} (hc : C a b) (q : Q (g a b) H) : rI C g (.int a) (.int b) H Q := ⟨a, b, rfl, rfl, hc, q⟩
theorem f_U {g : Int → V} {a : Int} (q : Q (g a) H) : rU g (.int a) H Q := ⟨a, rfl, q⟩
theorem dec_int (a b : Int) : decide (V.int a = V.int b) = decide (a = b) := by
  by_cases h : a = b
  · subst h; simp
  · rw [decide_eq_false h, decide_eq_false (fun e => h (V.int.inj e))]
theorem f_eqI {a b : Int} (q : Q (.bl (decide (a = b))) H) : rEq (.int a) (.int b) H Q := ⟨rfl, by rw [dec_int]; exact q⟩
theorem f_neI {a b : Int} (q : Q (.bl (!decide (a = b))) H) : rNe (.int a) (.int b) H Q := ⟨rfl, by rw [dec_int]; exact q⟩
theorem dec_bl (a b : Bool) : decide (V.bl a = V.bl b) = (a == b) := by cases a <;> cases b <;> decide
theorem f_eqB {a b : Bool} (q : Q (.bl (a == b)) H) : rEq (.bl a) (.bl b) H Q := ⟨rfl, by rw [dec_bl]; exact q⟩
theorem f_neB {a b : Bool} (q : Q (.bl (!(a == b))) H) : rNe (.bl a) (.bl b) H Q := ⟨rfl, by rw [dec_bl]; exact q⟩
theorem f_test {Q : Bool → Hp → Prop} (h : te σ H fun x H' => ∃ k, x = .bl k ∧ Q k H') : tTest te σ H Q := h
theorem f_B {Q : Bool → Hp → Prop} (h : te σ H fun x H' => ∃ k, x = .bl k ∧ Q k H') : tB te σ H Q := h
theorem f_bl {b : Bool} {R : Bool → Prop} (q : R b) : ∃ k, V.bl b = V.bl k ∧ R k := ⟨b, rfl, q⟩
theorem f_and {Q : Bool → Hp → Prop} (h : t σ H fun c H1 => if c = true then u σ H1 Q else Q false H1) : tAnd t u σ H Q := h
theorem f_or {Q : Bool → Hp → Prop} (h : t σ H fun c H1 => if c = true then Q true H1 else u σ H1 Q) : tOr t u σ H Q := h
theorem f_not {Q : Bool → Hp → Prop} (h : t σ H fun c H1 => Q (!c) H1) : tNot t σ H Q := h
theorem f_seq (h : t1 { D with nx := t2 D } σ H) : tSeq t1 t2 D σ H := h
theorem f_next (q : D.nx σ H) : tNext D σ H := q
theorem f_asg {g : TG} (h : te σ H fun x H1 => g x σ H1 D.nx) : tAsg te g D σ H := h
theorem f_gName {R : L2.St → Hp → Prop} (q : R (σ.set i (some v)) H) : gName i v σ H R := q
theorem f_ret (h : te σ H D.rt) : tRet te D σ H := h
theorem f_drop (h : te σ H fun _ H1 => D.nx σ H1) : tDrop te D σ H := h
theorem f_ifS (h : c σ H fun b H1 => if b = true then t1 D σ H1 else t2 D σ H1) : tIfS c t1 t2 D σ H := h
theorem f_if (h : c σ H fun b H1 => if b = true then ta σ H1 Q else tb σ H1 Q) : tIf c ta tb σ H Q := h
theorem f_ite {p : Prop} [Decidable p] {A B : Prop} (h1 : p → A) (h2 : ¬ p → B) : if decide p = true then A else B := by
  by_cases h : p
  · rw [if_pos (decide_eq_true h)]; exact h1 h
  · rw [if_neg (by rw [decide_eq_false h]; decide)]; exact h2 h
theorem f_iteB {b : Bool} {A B : Prop} (h1 : b = true → A) (h2 : b = false → B) : if b = true then A else B := by
  cases b with
  | true => rw [if_pos rfl]; exact h1 rfl
  | false => rw [if_neg Bool.false_ne_true]; exact h2 rfl
theorem f_call {sp : Sp} {dvs : List V} {E : XK} {ta : TA} (h : ta σ H fun vs H1 => sp (vs ++ dvs) H1 Q E) : tCall sp dvs E ta σ H Q := h
theorem f_nil {Q : List V → Hp → Prop} (q : Q [] H) : tNil σ H Q := q
theorem f_cons {tr : TA} {Q : List V → Hp → Prop} (h : ta σ H fun x H1 => tr σ H1 fun xs H2 => Q (x :: xs) H2) : tCons ta tr σ H Q := h
theorem f_tup {ta : TA} (h : ta σ H fun xs H1 => xs.length ≤ sizeLine ∧ ∀ p, H1 p = none → Q (.ref p) (upd H1 p (.tup xs))) : tTup ta σ H Q := h
theorem f_lst {ta : TA} (h : ta σ H fun xs H1 => xs.length ≤ sizeLine ∧ ∀ p, H1 p = none → Q (.ref p) (upd H1 p (.lst xs))) : tLst ta σ H Q := h
theorem f_cb {r : List V → Hp → VK → Prop} {ta : TA} (h : ta σ H fun vs H1 => r vs H1 Q) : tCB r ta σ H Q := h
end

/-! ### pure defs -/
open Evl
/-- a def that gives z of vs by D and leaves all as it was -/
def spF (D : List V → V → Prop) : Sp := fun vs H Q _ => ∃ z, D vs z ∧ ∀ H', Ex H H' → Q z H'
theorem f_spF {D : List V → V → Prop} {vs : List V} {H : Hp} {Q : VK} {E : XK} (z : V) (h : D vs z) (q : ∀ H', Ex H H' → Q z H') : spF D vs H Q E := ⟨z, h, q⟩
theorem sv_F {D : List V → V → Prop} {vs : List V} {H : Hp} {z : V} (h : D vs z) : SpV (spF D) (vs ++ []) H z := fun H1 e Q q E => ⟨z, by rw [List.append_nil]; exact h, q⟩
theorem rv_eqI {H : Hp} {i j : Int} : RV rEq (.int i) (.int j) H (.bl (decide (i = j))) := fun H1 _ _ q => ⟨rfl, by rw [dec_int]; exact q H1 (Ex.refl H1)⟩
theorem rv_neI {H : Hp} {i j : Int} : RV rNe (.int i) (.int j) H (.bl (!decide (i = j))) := fun H1 _ _ q => ⟨rfl, by rw [dec_int]; exact q H1 (Ex.refl H1)⟩
theorem rv_eqB {H : Hp} {i j : Bool} : RV rEq (.bl i) (.bl j) H (.bl (i == j)) := fun H1 _ _ q => ⟨rfl, by rw [dec_bl]; exact q H1 (Ex.refl H1)⟩
theorem rv_neB {H : Hp} {i j : Bool} : RV rNe (.bl i) (.bl j) H (.bl (!(i == j))) := fun H1 _ _ q => ⟨rfl, by rw [dec_bl]; exact q H1 (Ex.refl H1)⟩
theorem rv_mod {H : Hp} {i j : Int} (h : 0 < j) : RV (rI (fun _ j => 0 < j) fun i j => .int (i % j)) (.int i) (.int j) H (.int (i % j)) := rv_I (C := fun _ j => 0 < j) h
def b2 (b : Bool) : Int := if b then 1 else 0
theorem ev_intB {te : TE} {σ : L2.St} {H : Hp} {b : Bool} (h : Ev te σ H (.bl b)) : Ev (tCB (fun xs H Q => (∃ i, xs = [.int i] ∧ Q (.int i) H) ∨ ∃ k, xs = [.bl k] ∧ Q (.int (if k then 1 else 0)) H) (tCons te tNil)) σ H (.int (b2 b)) :=
  fun H1 e Q q => h H1 e _ fun H2 e2 => Or.inr ⟨b, rfl, q H2 e2⟩
/-- f(k = v, ..): keywords alone -/
theorem pe_callN0 {X : Cx} {CX : CXT} {k : Nat} {f : Addr} {fd : FuncData} {ps ks : List Str} {sp : Sp} {x : Str} {p pos : Pos} {kws : List Keyword} {tk : TA} {E : XK} {g : List Value → List Value → List Value} {gV : List V → List V → List V}
    (F : FnOk X.prog X.w X.K X.mg X.base CX k f fd ps sp) (hr : Room k X.A) (hg : Gl X x) (hm : X.mg x = some (.ref f)) (kp : PySem.W.keepIn X.K (.ref f) = true) (hb : KBn X.K fd ps 0 ks g gV) (hx : Passes CX X E)
    (hkw : PK X kws tk) (hsome : (backToKw pos (keywordEach kws X.env)).all (·.1.isSome) = true := by rfl) (hnames : (backToKw pos (keywordEach kws X.env)).filterMap (·.1) = ks := by rfl)
    (hdeb : (x == ("__debug__" : Str)) = false := by decide)
    (hplain : ((backTo pos (starEach [] X.env)).any (·.1) || (backToKw pos (keywordEach kws X.env)).any (·.1.isNone)) = false := by rfl) :
    PE X (.Call (.Name x p) [] kws pos) (tCallN 0 ks.length sp gV E tNil tk) := by
  refine ⟨fun pins s σ H Q I h => wpAny_Call_Name_kw (ld_glob I hg hm ?_ hdeb)⟩
  refine PySem.W.callWith_KW0 (h₀ := X.base) I.ok.mod.kin kp hsome (thn (hkw.run pos pins s σ H _ I h) fun us s1 ⟨vs, H1, I1, r, l1, l2, q⟩ => ⟨I1.kIn, ?_⟩) hplain
  rw [hnames]
  exact run_fnN (us := []) F hr hb hx I1 .nil r l1 l2 q
theorem vals_rev : ∀ {xs : List V} {us : List Value}, Vals xs us → Vals xs.reverse us.reverse
  | _, _, .nil => .nil
  | _, _, .cons r t => by
    rw [List.reverse_cons, List.reverse_cons]
    exact (vals_rev t).append (.cons r .nil)

/-! ### == of data -/
theorem eqv_ints (xs ys : List Int) : PyData.eqvAll (xs.map PyData.int) (ys.map PyData.int) = decide (xs = ys) := by
  induction xs generalizing ys with
  | nil => cases ys <;> simp [PyData.eqvAll]
  | cons x xs ih =>
    cases ys with
    | nil => simp [PyData.eqvAll]
    | cons y ys =>
      simp only [List.map_cons, PyData.eqvAll, ih, PyData.eqv, List.cons.injEq]
      by_cases h : x = y <;> by_cases g : xs = ys <;> simp [h, g]
theorem dpa_ints {K : PySem.W.Frag} {H : Hp} : ∀ ns : List Int, DpAll K H (ns.map V.int) (ns.map PyData.int)
  | [] => .nil
  | n :: ns => .cons (.int n) (dpa_ints ns)
theorem dp_ints {K : PySem.W.Frag} {H : Hp} {a : Addr} {ns : List Int} (h : SqL K H a (ns.map V.int)) : Dp K H (.ref a) (.list (ns.map PyData.int)) := .lst h (dpa_ints ns)
/-- two lists of ints compared -/
theorem rv_eqL {K : PySem.W.Frag} {H : Hp} {a b : Addr} {xs ys : List Int} (ha : SqL K H a (xs.map V.int)) (hb : SqL K H b (ys.map V.int)) : RV (rEqD K) (.ref a) (.ref b) H (.bl (decide (xs = ys))) := fun H1 e Q q =>
  ⟨_, _, dp_ints (ex_l e ha), dp_ints (ex_l e hb), PySem.W.ke_shaped_ints xs, PySem.W.ke_shaped_ints ys, by
    show Q (.bl (PyData.eqvAll (xs.map PyData.int) (ys.map PyData.int))) H1
    rw [eqv_ints]; exact q H1 (Ex.refl H1)⟩
theorem rv_neL {K : PySem.W.Frag} {H : Hp} {a b : Addr} {xs ys : List Int} (ha : SqL K H a (xs.map V.int)) (hb : SqL K H b (ys.map V.int)) : RV (rNeD K) (.ref a) (.ref b) H (.bl (!decide (xs = ys))) := fun H1 e Q q =>
  ⟨_, _, dp_ints (ex_l e ha), dp_ints (ex_l e hb), PySem.W.ke_shaped_ints xs, PySem.W.ke_shaped_ints ys, by
    show Q (.bl (!PyData.eqvAll (xs.map PyData.int) (ys.map PyData.int))) H1
    rw [eqv_ints]; exact q H1 (Ex.refl H1)⟩
theorem ev_neL {K : PySem.W.Frag} {σ : L2.St} {H : Hp} {ta tb : TE} {a : Addr} {xs ys : List Int} (ha : Ev ta σ H (.ref a)) (hx : SqL K H a (xs.map V.int)) (hb : EvL tb σ H (ys.map V.int)) : Ev (tOp (rNeD K) ta tb) σ H (.bl (!decide (xs = ys))) :=
  ev_opL ha hb fun _ _ h e => rv_neL (ex_l e hx) (sq_of h)
theorem ev_eqL {K : PySem.W.Frag} {σ : L2.St} {H : Hp} {ta tb : TE} {a : Addr} {xs ys : List Int} (ha : Ev ta σ H (.ref a)) (hx : SqL K H a (xs.map V.int)) (hb : EvL tb σ H (ys.map V.int)) : Ev (tOp (rEqD K) ta tb) σ H (.bl (decide (xs = ys))) :=
  ev_opL ha hb fun _ _ h e => rv_eqL (ex_l e hx) (sq_of h)

/-! ### the source of draws: [digits, held, mix, turn] at s, digits at d; B draws may still come -/
structure Src (H : Hp) (s d : Addr) (B : Nat) : Prop where
  ex : ∃ (ds : List Int) (a m c : Int), H s = some (.lst [.ref d, .int a, .int m, .int c]) ∧ H d = some (.lst (ds.map V.int)) ∧ ds.length ≤ 63 ∧ 0 ≤ m ∧ m < 2 ^ 61 ∧ 0 ≤ c ∧ c + B ≤ 2 ^ 60
theorem Src.ne {H : Hp} {s d : Addr} {B : Nat} (S : Src H s d B) : s ≠ d := fun e => by
  obtain ⟨ds, a, m, c, h1, h2, _⟩ := S.ex
  rw [e, h2] at h1
  cases ds with
  | nil => simp at h1
  | cons x r => simp at h1
theorem Src.less {H : Hp} {s d : Addr} {B B' : Nat} (S : Src H s d B) (h : B' ≤ B) : Src H s d B' := by
  obtain ⟨ds, a, m, c, h1, h2, h3, h4, h5, h6, h7⟩ := S.ex
  exact ⟨ds, a, m, c, h1, h2, h3, h4, h5, h6, by omega⟩
theorem Src.ex_ {H H' : Hp} {s d : Addr} {B : Nat} (S : Src H s d B) (e : Ex H H') : Src H' s d B := by
  obtain ⟨ds, a, m, c, h1, h2, h⟩ := S.ex
  exact ⟨ds, a, m, c, e _ _ h1, e _ _ h2, h⟩
theorem Src.free {H : Hp} {s d : Addr} {B : Nat} (S : Src H s d B) {p : Addr} (h : H p = none) : p ≠ s ∧ p ≠ d := by
  obtain ⟨ds, a, m, c, h1, h2, _⟩ := S.ex
  exact ⟨(ne_of_none h1 h).symm, (ne_of_none h2 h).symm⟩
/-- all but the source is kept -/
def Kp (s d : Addr) (H H' : Hp) : Prop := ∀ b o, b ≠ s → b ≠ d → H b = some o → H' b = some o
theorem Kp.refl {s d : Addr} {H : Hp} : Kp s d H H := fun _ _ _ _ h => h
theorem Kp.trans {s d : Addr} {H H1 H2 : Hp} (a : Kp s d H H1) (b : Kp s d H1 H2) : Kp s d H H2 := fun c o h1 h2 h => b c o h1 h2 (a c o h1 h2 h)
theorem Kp.of {s d : Addr} {H H' : Hp} (e : Ex H H') : Kp s d H H' := fun c o _ _ h => e c o h
theorem Kp.l {s d : Addr} {H H1 H2 : Hp} (a : Kp s d H H1) (b : Ex H1 H2) : Kp s d H H2 := a.trans (.of b)
def spDraw : Sp := fun vs H Q _ => ∃ (s d : Addr) (many : Int) (B : Nat), vs = [.ref s, .int many] ∧ 0 < many ∧ many ≤ 10 ^ 60 ∧ Src H s d (B + 1) ∧ ∀ n H', 0 ≤ n → n < many → Src H' s d B → Kp s d H H' → Q (.int n) H'
def spSource (K : PySem.W.Frag) : Sp := fun vs H Q _ => ∃ (a : Addr) (ns : List Int), vs = [.ref a] ∧ SqL K H a (ns.map V.int) ∧ ns.length ≤ 63 ∧ ∀ s d H', H s = none → H d = none → Src H' s d (2 ^ 59) → Ex H H' → Q (.ref s) H'
theorem sz1000 {n : Nat} (h : n ≤ 1000) : n ≤ sizeLine := Nat.le_trans h (by decide)
theorem f_draw {H : Hp} {s d : Addr} {B : Nat} {many : Int} {Q : VK} {E : XK} (S : Src H s d (B + 1)) (h0 : 0 < many) (hb : many ≤ 10 ^ 60) (q : ∀ n H', 0 ≤ n → n < many → Src H' s d B → Kp s d H H' → Q (.int n) H') :
    spDraw ([.ref s, .int many] ++ []) H Q E := ⟨s, d, many, B, rfl, h0, hb, S, q⟩
theorem at_ints {L : List Int} {n : Int} (h0 : 0 ≤ n) (h1 : n < L.length) : ∃ z, z ∈ L ∧ atI (L.map V.int) n = some (.int z) := by
  obtain ⟨j, rfl⟩ : ∃ j : Nat, n = (j : Int) := ⟨n.toNat, by omega⟩
  have hj : j < L.length := by omega
  exact ⟨L[j], List.getElem_mem hj, atI_nat (by rw [List.getElem?_map, List.getElem?_eq_getElem hj]; rfl)⟩
theorem Kp.at {s d p : Addr} {H H' : Hp} {o : HO} (k : Kp s d H H') (f : p ≠ s ∧ p ≠ d) (h : H p = some o) : H' p = some o := k p o f.1 f.2 h
theorem upd_old {H : Hp} {p q : Addr} {o u : HO} (h : H p = some o) (n : H q = none) : upd H q u p = some o := by
  rw [upd_ne (ne_of_none h n)]; exact h
def spCount : Sp := fun vs H Q _ => ∃ (s d : Addr) (B : Nat), vs = [.ref s] ∧ Src H s d (B + 7) ∧ ∀ y H', y.natAbs ≤ 10 ^ 31 → Src H' s d B → Kp s d H H' → Q (.int y) H'

/-! ### data: what _law_same compares -/
def tyN : PyData → String
  | .none => "NoneType" | .bool _ => "bool" | .int _ => "int" | .str _ => "str" | .list _ => "list" | .tuple _ => "tuple" | .dict _ => "dict"
theorem ty_dp {K : PySem.W.Frag} {H : Hp} {x : V} {d : PyData} (h : Dp K H x d) : TyX K H x (.type (tyN d)) := by
  cases h with
  | non => exact .base .non
  | bl b => exact .base (.bl b)
  | int i => exact .base (.int i)
  | str x => exact .base (.str x)
  | lst h _ =>
    rcases h with (h | ⟨o, h⟩) | ⟨o, its, n, h, c, _⟩
    · exact .base (.lst h)
    · exact .base (.frz h)
    · exact .kList h c
  | tup h _ =>
    rcases h with (h | ⟨o, h⟩) | ⟨o, its, n, h, c, _⟩
    · exact .base (.tup h)
    · exact .fTuple h
    · exact .kTuple h c
mutual
theorem dp_ex {K : PySem.W.Frag} {H H' : Hp} (e : Ex H H') : ∀ {d : PyData} {x : V}, Dp K H x d → Dp K H' x d
  | _, _, .non => .non
  | _, _, .bl b => .bl b
  | _, _, .int i => .int i
  | _, _, .str x => .str x
  | _, _, .lst h a => .lst (ex_l e h) (dpa_ex e a)
  | _, _, .tup h a => .tup (ex_t e h) (dpa_ex e a)
theorem dpa_ex {K : PySem.W.Frag} {H H' : Hp} (e : Ex H H') : ∀ {ds : List PyData} {xs : List V}, DpAll K H xs ds → DpAll K H' xs ds
  | _, _, .nil => .nil
  | _, _, .cons h a => .cons (dp_ex e h) (dpa_ex e a)
end
theorem dpa_len {K : PySem.W.Frag} {H : Hp} : ∀ {xs : List V} {ds : List PyData}, DpAll K H xs ds → xs.length = ds.length
  | _, _, .nil => rfl
  | _, _, .cons _ a => congrArg Nat.succ (dpa_len a)
theorem dpa_get {K : PySem.W.Frag} {H : Hp} : ∀ {xs : List V} {ds : List PyData} {i : Nat}, DpAll K H xs ds → i < ds.length → ∃ x d, xs[i]? = some x ∧ ds[i]? = some d ∧ d ∈ ds ∧ Dp K H x d
  | _, _, _, .nil, h => by simp at h
  | _, _, 0, .cons h _, _ => ⟨_, _, rfl, rfl, List.mem_cons_self .., h⟩
  | _, _, i + 1, .cons _ a, h => by
    obtain ⟨x, d, h1, h2, h3, h4⟩ := dpa_get (i := i) a (by simpa using h)
    exact ⟨x, d, h1, h2, List.mem_cons_of_mem _ h3, h4⟩
/-- data of depth n, lists and tuples of at most 10000 -/
def okd : Nat → PyData → Prop
  | _, .none => True
  | _, .bool _ => True
  | _, .int _ => True
  | _, .str x => PyData.canLay0 (.str x) = true
  | n + 1, .list xs => xs.length ≤ 10000 ∧ ∀ x, x ∈ xs → okd n x
  | n + 1, .tuple xs => xs.length ≤ 10000 ∧ ∀ x, x ∈ xs → okd n x
  | _, _ => False
theorem shaped_str {x : Str} (h : PyData.canLay0 (.str x) = true) : SeqAt.shaped (.str x) = true := by
  unfold SeqAt.shaped
  rw [h]; rfl
theorem ev_isi {K : PySem.W.Frag} {σ : L2.St} {H : Hp} {te : TE} {x : V} {t : String} {n : String} {b : Bool} (h : Ev te σ H x) (ty : ∀ H1, Ex H H1 → TyX K H1 x (.type t)) (kb : kitB t n = some b) :
    Ev (tCB (rIsi K) (tCons te (tCons (tC (.ty n)) tNil))) σ H (.bl b) := fun H1 e Q q => h H1 e _ fun H2 e2 => ⟨x, .ty n, _, _, b, rfl, .ty n, ty H2 (e.trans e2), kit_ty kb, q H2 e2⟩
theorem rv_isN {H : Hp} {x : V} : RV (fun x y H Q => y = .non ∧ Q (.bl (decide (x = .non))) H) x .non H (.bl (decide (x = .non))) := fun H1 _ _ q => ⟨rfl, q H1 (Ex.refl H1)⟩
theorem rv_eqDp {K : PySem.W.Frag} {H : Hp} {x y : V} {d e : PyData} (hx : Dp K H x d) (hy : Dp K H y e) (sd : SeqAt.shaped d = true) (se : SeqAt.shaped e = true) : RV (rEqD K) x y H (.bl (PyData.eqv d e)) := fun H1 x1 _ q =>
  ⟨d, e, dp_ex x1 hx, dp_ex x1 hy, sd, se, q H1 (Ex.refl H1)⟩
/-- found[k], of a list or a tuple -/
theorem rv_ixAny {K : PySem.W.Frag} {H : Hp} {p : Addr} {xs : List V} {j : Nat} {v : V} (h : SqL K H p xs ∨ SqT K H p xs) (ha : xs[j]? = some v) : RV (rIx K) (.ref p) (.int (j : Int)) H v := fun H1 e _ q => by
  rcases h with h | h
  · exact Or.inl ⟨p, xs, _, v, rfl, rfl, ex_l e h, atI_nat ha, q H1 (Ex.refl H1)⟩
  · exact Or.inr (Or.inl ⟨p, xs, _, v, rfl, rfl, ex_t e h, atI_nat ha, q H1 (Ex.refl H1)⟩)
theorem ev_lenS {K : PySem.W.Frag} {σ : L2.St} {H : Hp} {ta : TE} {p : Addr} {xs : List V} (ha : Ev ta σ H (.ref p)) (h : SqL K H p xs ∨ SqT K H p xs) : Ev (tCB (rLenS K) (tCons ta tNil)) σ H (.int (xs.length : Int)) := fun H1 e Q q =>
  ha H1 e _ fun H2 e2 => ⟨p, xs, rfl, h.elim (fun h => Or.inl (ex_l (e.trans e2) h)) (fun h => Or.inr (ex_t (e.trans e2) h)), q H2 e2⟩
def spSame (K : PySem.W.Frag) (n : Nat) : Sp := fun vs H Q _ => ∃ (x y : V) (dt : PyData), vs = [x, y] ∧ Dp K H x dt ∧ Dp K H y dt ∧ okd n dt ∧ ∀ H', Ex H H' → Q (.bl true) H'
theorem given_none {n : Nat} {f : Nat → Bool} {v : Nat → V} (h : ∀ i, i < n → f i = false) : given n f v = [] := by
  unfold given
  rw [List.filter_eq_nil_iff.mpr (fun i hi => by rw [h i (List.mem_range.mp hi)]; decide)]; rfl

/-! ### steps of a law's own text -/
section
variable {K : PySem.W.Frag} {σ : L2.St} {H : Hp} {Q : VK} {te : TE} {t : TT}
theorem f_evL {xs : List V} (h : EvL te σ H xs) (k : ∀ p H1, H p = none → Ex H H1 → H1 p = some (.lst xs) → Q (.ref p) H1) : te σ H Q := h H (Ex.refl H) Q k
theorem f_ev {v : V} (h : Ev te σ H v) (k : ∀ H1, Ex H H1 → Q v H1) : te σ H Q := h H (Ex.refl H) Q k
theorem ev_callK {sp : Sp} {gV : List V → List V → List V} {E : XK} {ta tk : TA} {vs zs : List V} {n m : Nat} {z : V} (h : EvA ta σ H vs) (hk : EvA tk σ H zs) (hn : vs.length = n) (hm : zs.length = m) (hs : SpV sp (gV vs zs) H z) : Ev (tCallN n m sp gV E ta tk) σ H z := fun H1 e Q q =>
  h H1 e _ fun H2 e2 => hk H2 (e.trans e2) _ fun H3 e3 => ⟨hn, hm, hs H3 ((e.trans e2).trans e3) Q (fun H4 e4 => q H4 ((e2.trans e3).trans e4)) E⟩
theorem sv_Fk {D : List V → V → Prop} {vs : List V} {H : Hp} {z : V} (h : D vs z) : SpV (spF D) vs H z := fun H1 e Q q E => ⟨z, h, q⟩
/-- a def that gives a new list -/
def spNL (D : List V → List V → Prop) : Sp := fun vs H Q _ => ∃ xs, D vs xs ∧ ∀ p H', H p = none → Ex H H' → H' p = some (.lst xs) → Q (.ref p) H'
theorem sl_NL {D : List V → List V → Prop} {vs : List V} {H : Hp} {xs : List V} (h : D vs xs) : SpL (spNL D) (vs ++ []) H xs := fun H1 e Q q E => ⟨xs, by rw [List.append_nil]; exact h, q⟩
theorem el_lcR2 {ta : TA} {j : Nat} {vs : List Nat} {lo n : Int} (f : Nat → Bool) (v : Nat → V) (h : EvA ta σ H [.int lo, .int n]) (hn : -100000 ≤ lo ∧ lo ≤ 100000 ∧ lo ≤ n ∧ n ≤ lo + 40000) (hw : ∀ x, wipe ((wipe σ vs).set j (some x)) vs = wipe σ vs)
    (ht : ∀ (i : Nat) H1, Ex H H1 → lo + (i : Int) < n → EvT t ((wipe σ vs).set j (some (.int (lo + (i : Int))))) H1 (f i)) (he : ∀ (i : Nat) H1, Ex H H1 → lo + (i : Int) < n → f i = true → Ev te ((wipe σ vs).set j (some (.int (lo + (i : Int))))) H1 (v i)) :
    EvL (tLc (iRng2 ta) (gName j) t te vs) σ H (given (n - lo).toNat f v) := fun H0 e Q q => h H0 e _ fun H1 e1 => ⟨lo, n, rfl, by omega, fun Dl hD =>
  lc_range (lo := lo) (n := (n - lo).toNat) (Cw H1 f v Dl) ⟨hD, Ex.new hD, upd_same⟩ (fun i H' hi p =>
    ⟨hw _, cw_turn p (by omega) (ht i H1 (e.trans e1) (by omega)) (fun hf => he i H1 (e.trans e1) (by omega) hf)⟩) (fun H' p => q Dl H' (fresh_back e1 p.1) (e1.trans p.2.1) p.2.2)⟩
theorem et_yes {b : Bool} (h : b = true) : EvT tYes σ H b := fun H1 _ _ q => by subst h; exact q H1 (Ex.refl H1)
theorem ev_sumL {ns : List Int} (h : EvL te σ H (ns.map V.int)) : Ev (tCB (rSum K) (tCons te tNil)) σ H (.int ns.sum) := fun H1 e Q q =>
  h H1 e _ fun p H2 _ e2 hp => ⟨p, ns, rfl, sq_of hp, q H2 e2⟩
theorem given_all {n : Nat} {v : Nat → V} : given n (fun _ => true) v = (List.range n).map v := by
  unfold given
  rw [List.filter_eq_self.mpr (fun _ _ => rfl)]
theorem el_rep {te tk : TE} {xs : List V} {k : Int} (h : EvL te σ H xs) (hk : ∀ H1, Ex H H1 → Ev tk σ H1 (.int k)) (h0 : 0 ≤ k ∧ k ≤ 100) (hz : xs.length ≤ 100) : EvL (tOp rRep te tk) σ H ((List.replicate k.toNat xs).flatten) := fun H1 e Q q =>
  h H1 e _ fun p H2 np e2 hp => hk H2 (e.trans e2) H2 (Ex.refl H2) _ fun H3 e3 => ⟨p, k, xs, rfl, rfl, e3 _ _ hp, by omega, by omega, Nat.le_trans (Nat.mul_le_mul hz (show k.toNat ≤ 100 by omega)) (by decide), fun l hl => q l _ (fresh_back (e2.trans e3) hl) ((e2.trans e3).trans (Ex.new hl)) upd_same⟩
/-- a list of bools compared -/
theorem eqv_bools (xs : List Bool) : PyData.eqvAll (xs.map PyData.bool) (xs.map PyData.bool) = true := by
  induction xs with
  | nil => simp [PyData.eqvAll]
  | cons x xs ih => simp [PyData.eqvAll, PyData.eqv, ih]
theorem dpa_bools {H : Hp} : ∀ ns : List Bool, DpAll K H (ns.map V.bl) (ns.map PyData.bool)
  | [] => .nil
  | n :: ns => .cons (.bl n) (dpa_bools ns)
theorem dp_bools {H : Hp} {a : Addr} {ns : List Bool} (h : SqL K H a (ns.map V.bl)) : Dp K H (.ref a) (.list (ns.map PyData.bool)) := .lst h (dpa_bools ns)
end
end Mc
namespace Mc
open PySem L2 Evl
/-! ### defs that are called where no repr is under way -/
structure FnG (P : Program) (w : World) (K : PySem.W.Frag) (mg : Str → Option Value) (base : Heap) (CX : CXT) (k : Nat) (f : Addr) (fd : FuncData) (ps : List Str) (sp : Sp) : Prop where
  len : ∀ vs H Q E, sp vs H Q E → vs.length = ps.length
  run : ∀ (A : Around) (outer : List Env) (s : Shared) (H : Hp) (args : Args) (us : List Value) (vs : List V) (Q : VK) (E : XK), A.guards = some [] → Room k A → Env0 P w K mg base A outer s H →
    BindsTo s fd args (ps.zip us) → Vals vs us → sp vs H Q E → codeAny (model P w) A (.call (.ref f) args) (CR CX outer P w H s Q E) s
section
variable {P : Program} {w : World} {K : PySem.W.Frag} {mg : Str → Option Value} {base : Heap} {CX : CXT} {k : Nat} {f : Addr} {fd : FuncData} {N ps : List Str} {sp : Sp}
theorem FnG.of (F : FnOk P w K mg base CX k f fd ps sp) : FnG P w K mg base CX k f fd ps sp := ⟨F.len, fun A outer s H args us vs Q E _ hr => F.run A outer s H args us vs Q E hr⟩
theorem okG {x qual : Str} {st : Stmt} (F : Fun K x qual st f fd) (S : FnScope N ps (defScope st)) (len : ∀ vs H Q E, sp vs H Q E → vs.length = ps.length)
    (body : ∀ (cdv : Value) (A : Around) (outer : List Env) (s : Shared) (H : Hp) (vs : List V) (Q : VK) (E : XK), A.guards = some [] → Room k (A.deeper (PyProof.Rows.envOfC qual (defScope st) s.heap.objs.size f cdv)) → sp vs H Q E →
      ∃ t, PSs (cxOf CX P w K mg base N qual (defScope st) f cdv A outer s H E).nox (defBody st) t ∧ t { nx := fun _ H' => Q .non H', rt := Q } (L2.start N vs) H) : FnG P w K mg base CX (k + 1) f fd ps sp := by
  obtain ⟨oc, od, kV, doc, pm, an, cdv, ct, osl, rfl, lk, hcd⟩ := F.ex
  refine ⟨len, fun A outer s H args us vs Q E hG hr e0 hb r hsp => ?_⟩
  have kept : ∀ b o, base.get? b = some o → s.heap.get? b = some o := fun b o e => (e0.bs b o e).1
  have inK : K.In s.heap := e0.mod.kin.keeps kept
  refine codeAny_call_function hr.depth (inK _ _ lk) rfl S.co S.gen rfl (PySem.W.codeRec_of inK hcd) (hb _ _ _ _ ?_)
  refine wpAny_newFunctionEnv_cells S.kind (fun q hq => (S.par q.1 (List.of_mem_zip (show (q.1, q.2) ∈ _ from hq)).1).imp id fun z => ⟨z, PySem.W.cellsFrom_some _ _ _ (.inl z)⟩) fun env he s1 x => ?_
  subst he
  refine ⟨(e0.mod.nolimit.keeps kept).keeps x.toInCall.keep, codeAny_func ?_⟩
  obtain ⟨t, ht, hq⟩ := body cdv A outer s H vs Q E hG (hr.deeper _) hsp
  have I0 := inv_start (CX := CX) (E := E) S hr.hd e0 (len _ _ _ _ hsp) r x
  refine wpAny_mono (ht.nox.run [] s1 _ H _ I0 hq) (fun fl s' hs => ?_) fun _ _ hs => hs
  match fl, hs with
  | .ret _, ⟨v, _, H', J, rv, q⟩ => exact ⟨v, H', J.os, J.bare, J.base, J.hok, rv, q⟩
  | .next, ⟨_, H', J, q⟩ => exact ⟨.non, H', J.os, J.bare, J.base, J.hok, rfl, q⟩
  | .brk, ⟨_, _, _, q⟩ => exact q.elim
  | .cont, ⟨_, _, _, q⟩ => exact q.elim
end
section
variable {X : Cx} {CX : CXT} {k : Nat} {f : Addr} {fd : FuncData} {ps : List Str} {sp : Sp} {dvs : List V} {ds : List Value} {E : XK} {x : Str} {p pos : Pos} {e : Expr} {es : List Expr} {t : TA}
theorem run_fnG {pins : List (Addr × Obj)} {σ : L2.St} {H : Hp} {s : Shared} {Q : VK} {us : List Value} {vs : List V} (hG : X.A.guards = some []) (F : FnG X.prog X.w X.K X.mg X.base CX k f fd ps sp) (hr : Room k X.A) (hb : Binds X.K fd ps ds) (hd : Vals dvs ds)
    (hx : Passes CX X E) (I : Inv X pins σ H s) (r : Vals vs us) (h : sp (vs ++ dvs) H Q E) : wpAny (model X.prog X.w) X.A (call (.ref f) us) (EP X pins σ Q) X.xe s := by
  have rr := r.append hd
  have ln := rr.length.symm.trans (F.len _ _ _ _ h)
  refine wpAny_call (codeAny_mono (F.run X.A X.stack s H ⟨us, []⟩ _ _ Q E hG hr I.env0 (hb s us I.kIn ln) rr h) fun out s' hq => ?_)
  match out, hq with
  | .error e, hq => exact hx pins σ H s e s' I hq
  | .ok (.ret u), hq => exact I.after hq
  | .ok .next, hq => exact hq.elim
  | .ok .brk, hq => exact hq.elim
  | .ok .cont, hq => exact hq.elim
/-- f(e, ..) of such a def -/
theorem pe_callG (hG : X.A.guards = some []) (F : FnG X.prog X.w X.K X.mg X.base CX k f fd ps sp) (hr : Room k X.A) (hg : Gl X x) (hm : X.mg x = some (.ref f)) (kp : PySem.W.keepIn X.K (.ref f) = true) (hb : Binds X.K fd ps ds) (hd : Vals dvs ds)
    (hx : Passes CX X E) (ha : PA X (e :: es) t) (hdeb : (x == ("__debug__" : Str)) = false := by decide) (hst : starEach (e :: es) X.env = (false, eval e X.env) :: starEach es X.env := by rfl) (hplain : (backTo pos (starEach es X.env)).any (·.1) = false := by rfl) :
    PE X (.Call (.Name x p) (e :: es) [] pos) (tCall sp dvs E t) :=
  ⟨fun pins s σ H Q I h => wpAny_Call_Name_kw (ld_glob I hg hm (PySem.W.callWith_K (h₀ := X.base) I.ok.mod.kin kp (thn (ha.run pos pins s σ H _ I h) fun _ _ ⟨_, _, I1, r, q⟩ => ⟨I1.kIn, run_fnG hG F hr hb hd hx I1 r q⟩) hst hplain) hdeb)⟩
/-! ### repr of data -/
/-- the text of data fits -/
structure Fits (d : PyData) : Prop where
  nodict : d.hasDict = false
  show_ : d.showable = true
  deep : d.depth ≤ 20
  size : d.shown.length ≤ sizeLine
def rRepr (K : PySem.W.Frag) : List V → Hp → VK → Prop := fun xs H Q => ∃ (a : Addr) (d : PyData), xs = [.ref a] ∧ Dp K H (.ref a) d ∧ Fits d ∧ ∀ H', Ex H H' → Q (.str d.shown) H'
theorem call_repr_data (hG : X.A.guards = some []) (hu : X.A.units + 64 < cLine) : CallR X (.builtin "repr") (rRepr X.K) := by
  intro pins s σ H xs us Q I r h
  obtain ⟨a, d, rfl, hd, hf, q⟩ := h
  obtain ⟨u, rfl, rx⟩ := vals1 r
  have rx' : u = .ref a := rx
  subst rx'
  obtain ⟨as, hr⟩ := Dp.reads I d (.ref a) (.ref a) hd rfl
  have hdp := hf.deep
  refine repr_of_reads' hr hf.show_ (fun z => by rw [hf.nodict] at z; cases z) hG (by omega) (fun _ _ e => e) (fun h' u tk hk => ?_) hf.size
  exact ⟨.str d.shown, H, I.kept (h' := h') (t' := tk) hk, ⟨u, rfl⟩, q H (Ex.refl H)⟩
end
theorem ev_repr {K : PySem.W.Frag} {σ : L2.St} {H : Hp} {te : TE} {a : Addr} {d : PyData} (h : Ev te σ H (.ref a)) (hd : Dp K H (.ref a) d) (hf : Fits d) : Ev (tCB (rRepr K) (tCons te tNil)) σ H (.str d.shown) := fun H1 e Q q =>
  h H1 e _ fun H2 e2 => ⟨a, d, rfl, dp_ex (e.trans e2) hd, hf, fun H3 e3 => q H3 (e2.trans e3)⟩
/-! ### a law's end over such a def -/
section
open PySem.W PyProof.Rows
/-- the abstract heap at a law's call: nothing but the script -/
theorem script_heap {P : Program} {w : World} {K : PySem.W.Frag} {h : Heap} {a : Addr} {vs : List Value} {ns : List Int} (KX : K.In h) (ha : h.get? a = some { cls := .type "list", data := .seq vs.toArray }) (hi : IntsAre vs ns) (hl : ns.length ≤ sizeLine) :
    ∃ H : Hp, Only H ∧ SqL K H a (ns.map V.int) ∧ HOk P w H h ∧ (∀ b, H b ≠ none → b = a) ∧ (H a ≠ none → K.lookup a = none) := by
  have rv := vals_ints hi
  have ln : vs.toArray.size ≤ sizeLine := by rw [List.size_toArray, hi.length]; exact hl
  rcases e : K.lookup a with _ | o
  · let H : Hp := fun b => if b = a then some (.frz { cls := .type "list", data := .seq vs.toArray } (.lst (ns.map V.int))) else none
    have at_ : H a = some (.frz { cls := .type "list", data := .seq vs.toArray } (.lst (ns.map V.int))) := if_pos rfl
    have off : ∀ b, b ≠ a → H b = none := fun b hb => if_neg hb
    refine ⟨H, fun b => ?_, .inl (.inr ⟨_, at_⟩), fun b u z => ?_, fun b z => Classical.byContradiction fun hb => z (off b hb), fun _ => rfl⟩
    · rcases Classical.em (b = a) with rfl | hb
      · exact .inr ⟨_, _, at_⟩
      · exact .inl (off b hb)
    · rcases Classical.em (b = a) with rfl | hb
      · rw [at_] at z
        cases z
        exact ⟨ha, by rw [List.length_map]; exact hl, vs, _, rv, ha⟩
      · rw [off b hb] at z
        cases z
  · have eo := (KX a o e).symm.trans ha
    cases eo
    exact ⟨fun _ => none, fun _ => .inl rfl, .inr ⟨_, _, _, e, rfl, rfl, rfl, ln, rv⟩, fun b u z => by simp at z, fun b z => absurd rfl z, fun z => absurd rfl z⟩
theorem law_callG {P : Program} {w : World} {K : PySem.W.Frag} {mg mb : Str → Option Value} {k : Nat} {fa a : Addr} {fd : FuncData} {x : Str} {sp : Sp} {s : Shared} {vs : List Value} {ns : List Int}
    (KX : K.In s.heap) (hns : s.heap.Ns mainGlobals mg) (hb : s.heap.Ns builtinsNs mb) (hbb : ∀ x : Str, x ≠ "__name__" → mb x = bootBuiltins x) (hlim : s.heap.NoLimit) (hg : s.gens = #[])
    (ha : s.heap.get? a = some { cls := .type "list", data := .seq vs.toArray }) (hi : IntsAre vs ns) (hl : ns.length ≤ sizeLine) (hr : Room k callerA)
    (F : ∀ base : Heap, K.In base → base.Ns mainGlobals mg → FnG P w K mg base CX0 k fa fd [x] sp) (hbind : ∀ (s : Shared) (u : Value), BindsTo s fd ⟨[u], []⟩ [(x, u)])
    (hsp : ∀ H : Hp, Only H → SqL K H a (ns.map V.int) → sp [.ref a] H (fun v _ => v = .bl true) fun _ _ _ => False) :
    codeAny (model P w) callerA (.call (.ref fa) ⟨[.ref a], []⟩) (fun r s' => r = .ok (.ret (.bool true)) ∧ OldK s.heap s'.heap ∧ s'.os = s.os ∧ AllBare s'.gens) s := by
  obtain ⟨H, hO, hS, hok, hA, hK⟩ := script_heap (P := P) (w := w) KX ha hi hl
  have free : ∀ {b : Addr} {o : Obj} {es : Array DictEntry} {ep : Nat}, s.heap.get? b = some o → o.data = .dict es ep → H b = none := fun {b o es ep} e d => by
    rcases q : H b with _ | u
    · rfl
    · have eb := hA b (by rw [q]; exact Option.some_ne_none u)
      subst eb
      rw [ha] at e
      cases e
      cases d
  have nsB : ∀ {b : Addr} {m : Str → Option Value}, s.heap.Ns b m → (hidT s.heap H).Ns b m := fun ⟨o, es, ep, e, d, r⟩ => ⟨o, es, ep, hidT_get e (free e d), d, r⟩
  have inB : K.In (hidT s.heap H) := fun b o e => hidT_get (KX b o e) (by
    rcases q : H b with _ | u
    · rfl
    · have ne : H b ≠ none := by rw [q]; exact Option.some_ne_none u
      have eb := hA b ne
      subst eb
      rw [hK ne] at e
      cases e)
  have mod : Mod K mg (hidT s.heap H) := ⟨inB, nsB hns, ⟨mb, nsB hb, hbb⟩, hlim.elim fun mc h => ⟨mc, nsB h.1, h.2⟩⟩
  have e0 : Env0 P w K mg (hidT s.heap H) callerA [] s H := ⟨rfl, mod, fun b o e => of_hidT e, Nat.le_of_eq (hidT_size _ _), trivial, (fun b hb => absurd hb (by simp [frs])), hok, .of_eq hg⟩
  refine codeAny_mono ((F _ inB (nsB hns)).run callerA [] s H ⟨[.ref a], []⟩ [.ref a] [.ref a] _ _ rfl hr e0 (hbind s (.ref a)) (.cons rfl .nil) (hsp H hO hS)) fun out s' h => ?_
  match out, h with
  | .error e, h => exact h.elim
  | .ok .next, h => exact h.elim
  | .ok .brk, h => exact h.elim
  | .ok .cont, h => exact h.elim
  | .ok (.ret u), ⟨v, H', os, bare, un, hok', rl, (q : v = .bl true)⟩ =>
    subst q
    obtain rfl : u = Value.bool true := rl
    refine ⟨rfl, OldK.of_keep fun b o e => ?_, os, bare⟩
    rcases q : H b with _ | u
    · exact un.keep b o e q (fun z => nomatch z) (by simp)
    · rcases hO b with z | ⟨ob, xs, z⟩
      · rw [q] at z
        cases z
      · have e1 := (hok b _ z).1
        have e2 := (hok' b _ (un.frzs b ob _ z)).1
        rw [e] at e1
        cases e1
        exact e2
theorem walk_ofG {l : PySem.W.OpenLaw} {n k : Nat} {q : Program} {loose : List Str} {XP : (Str → Option Value) → Heap → Prop} {YP : World → Heap → Prop} {d : DefRec} {K : Params → PySem.W.Frag} {sp : World → Sp} {x : Str}
    (hn : l.most = some n) (hn2 : n ≤ sizeLine) (hdf : d.params.defaults = []) (hr : Room k callerA) (hY : ∀ (w : World) (h : Heap), YP w h → (K w.params).In h)
    (F : ∀ (w : World) (mg : Str → Option Value) (fa : Addr) (h : Heap), (K w.params).In h → h.Ns mainGlobals mg → mg d.name = some (.ref fa) →
      ∃ fd : FuncData, (∀ (s : Shared) (u : Value), BindsTo s fd ⟨[u], []⟩ [(x, u)]) ∧ ∀ base : Heap, (K w.params).In base → base.Ns mainGlobals mg → FnG l.prog w (K w.params) mg base CX0 k fa fd [x] (sp w))
    (hsp : ∀ (w : World) (H : Hp) (a : Addr) (ns : List Int), ns.length ≤ n → Only H → SqL (K w.params) H a (ns.map V.int) → sp w [.ref a] H (fun v _ => v = .bl true) fun _ _ _ => False) :
    PySem.W.WalkO q loose XP YP l.row.toRowW d [] (fun f vs => PySem.call f vs) :=
  Att.attach_call hn hdf fun w s₀ s₁ mg mb fa o pm cd doc a vs ns G Y _ _ _ hmg hobj hints hlen hg => by
    have KX := hY w _ Y
    obtain ⟨fd, hb, hF⟩ := F w mg fa _ KX G.T.g hmg
    exact law_callG KX G.T.g G.T.b G.T.builtins G.T.nolimit hg hobj hints (Nat.le_trans hlen hn2) hr hF hb fun H hO hS => hsp w H a ns hlen hO hS
end
/-! ### more of expressions and statements -/
section
variable {K : PySem.W.Frag} {σ : L2.St} {H : Hp} {Q : VK} {te ta tb : TE} {D : Ends}
theorem rv_div {i j : Int} (h : 0 < j) (hb : j ≤ 10 ^ 60) : RV (rI CDivW fun i j => .int (i / j)) (.int i) (.int j) H (.int (i / j)) := rv_I (wide_div (b := 200) h (by omega) (by decide) (by decide))
theorem rv_mul {i j : Int} (h : i.natAbs ≤ 10 ^ 100) (hb : j.natAbs ≤ 10 ^ 100) : RV (rI CMulW fun i j => .int (i * j)) (.int i) (.int j) H (.int (i * j)) := rv_I (wide_mul (a := 400) (b := 400) (Nat.lt_of_le_of_lt h (by decide +kernel)) (Nat.lt_of_le_of_lt hb (by decide +kernel)) (by decide) (by decide) (by decide))
/-- a def that gives z of vs, as the heap says, and leaves all as it was -/
def spH (D : Hp → List V → V → Prop) : Sp := fun vs H Q _ => ∃ z, D H vs z ∧ ∀ H', Ex H H' → Q z H'
theorem sv_H {D : Hp → List V → V → Prop} {vs : List V} {z : V} (h : ∀ H1, Ex H H1 → D H1 vs z) : SpV (spH D) (vs ++ []) H z := fun H1 e Q q E => ⟨z, by rw [List.append_nil]; exact h H1 e, q⟩
/-- .. that gives a new tuple -/
def spU (D : Hp → List V → List V → Prop) : Sp := fun vs H Q _ => ∃ xs, D H vs xs ∧ ∀ p H', H p = none → Ex H H' → H' p = some (.tup xs) → Q (.ref p) H'
theorem eu_call {D : Hp → List V → List V → Prop} {vs xs : List V} {E : XK} {ta : TA} (h : EvA ta σ H vs) (hs : ∀ H1, Ex H H1 → D H1 vs xs) : EvU (tCall (spU D) [] E ta) σ H xs := fun H1 e Q q =>
  h H1 e _ fun H2 e2 => ⟨xs, by rw [List.append_nil]; exact hs H2 (e.trans e2), fun p H3 hp e3 h3 => q p H3 (fresh_back e2 hp) (e2.trans e3) h3⟩
theorem eu_callN {D : Hp → List V → List V → Prop} {gV : List V → List V → List V} {vs zs xs : List V} {n m : Nat} {E : XK} {ta tk : TA} (h : EvA ta σ H vs) (hk : EvA tk σ H zs) (hn : vs.length = n) (hm : zs.length = m) (hs : ∀ H1, Ex H H1 → D H1 (gV vs zs) xs) : EvU (tCallN n m (spU D) gV E ta tk) σ H xs := fun H1 e Q q =>
  h H1 e _ fun H2 e2 => hk H2 (e.trans e2) _ fun H3 e3 => ⟨hn, hm, xs, hs H3 ((e.trans e2).trans e3), fun p H4 hp e4 h4 => q p H4 (fresh_back (e2.trans e3) hp) ((e2.trans e3).trans e4) h4⟩
theorem f_evU {xs : List V} (h : EvU te σ H xs) (k : ∀ p H1, H p = none → Ex H H1 → H1 p = some (.tup xs) → Q (.ref p) H1) : te σ H Q := h H (Ex.refl H) Q k
/-- a, b, c = e -/
theorem s_un3 {i j l : Nat} {p : Addr} {a b c : V} (h : Ev te σ H (.ref p)) (hT : SqT K H p [a, b, c]) (k : ∀ H1, Ex H H1 → D.nx (((σ.set i (some a)).set j (some b)).set l (some c)) H1) :
    tAsg te (gTup K 3 (gCons (gName i) (gCons (gName j) (gCons (gName l) gNil)))) D σ H := h H (Ex.refl H) _ fun H1 e => ⟨p, [a, b, c], rfl, ex_t e hT, rfl, a, [b, c], rfl, b, [c], rfl, c, [], rfl, rfl, k H1 e⟩
theorem rv_ixTn {p : Addr} {xs : List V} {j : Nat} {v : V} (h : SqT K H p xs) (ha : xs[j]? = some v) : RV (rIxT K) (.ref p) (.int (j : Int)) H v := rv_ixT h (atI_nat ha)
theorem ev_min2 {i j : Int} (ha : Ev ta σ H (.int i)) (hb : Ev tb σ H (.int j)) : Ev (tCB (fun xs H Q => ∃ i j, xs = [.int i, .int j] ∧ Q (.int (if j < i then j else i)) H) (tCons ta (tCons tb tNil))) σ H (.int (min i j)) := fun H1 e Q q =>
  ha H1 e _ fun H2 e2 => hb H2 (e.trans e2) _ fun H3 e3 => ⟨i, j, rfl, by
    have e : (if j < i then j else i) = min i j := by split <;> omega
    rw [e]; exact q H3 (e2.trans e3)⟩
end
/-! ### draws among other steps -/
section
variable {K : PySem.W.Frag} {σ : L2.St} {H : Hp} {Q : VK} {te ta tb : TE} {D : Ends}
theorem f_par {i j : Nat} {ta : TA} (h : ta σ H fun vs H1 => ∃ v w, vs = [v, w] ∧ D.nx ((σ.set i (some v)).set j (some w)) H1) : tPar i j ta D σ H := h
theorem f_par2 {v w : V} {R : V → V → Prop} (q : R v w) : ∃ a b, [v, w] = [a, b] ∧ R a b := ⟨v, w, rfl, q⟩
/-- a list, a tuple is made in the midst of draws -/
theorem f_newL {s d : Addr} {B : Nat} {xs : List V} {R : Addr → Prop} (S : Src H s d B) (hz : xs.length ≤ 1000) (q : ∀ p, H p = none → p ≠ s ∧ p ≠ d → Src (upd H p (.lst xs)) s d B → Ex H (upd H p (.lst xs)) → (upd H p (.lst xs)) p = some (.lst xs) → R p) : xs.length ≤ sizeLine ∧ ∀ p, H p = none → R p :=
  ⟨sz1000 hz, fun p hp => q p hp (S.free hp) (S.ex_ (Ex.new hp)) (Ex.new hp) upd_same⟩
theorem f_newU {s d : Addr} {B : Nat} {xs : List V} {R : Addr → Prop} (S : Src H s d B) (hz : xs.length ≤ 1000) (q : ∀ p, H p = none → p ≠ s ∧ p ≠ d → Src (upd H p (.tup xs)) s d B → Ex H (upd H p (.tup xs)) → (upd H p (.tup xs)) p = some (.tup xs) → R p) : xs.length ≤ sizeLine ∧ ∀ p, H p = none → R p :=
  ⟨sz1000 hz, fun p hp => q p hp (S.free hp) (S.ex_ (Ex.new hp)) (Ex.new hp) upd_same⟩
theorem f_catL {s d : Addr} {B : Nat} {a b : Addr} {xs ys : List V} (S : Src H s d B) (ha : H a = some (.lst xs)) (hb : H b = some (.lst ys)) (hz : xs.length + ys.length ≤ 1000) (q : ∀ p H', H p = none → p ≠ s ∧ p ≠ d → Src H' s d B → Ex H H' → H' p = some (.lst (xs ++ ys)) → Q (.ref p) H') : rCat (.ref a) (.ref b) H Q :=
  ⟨a, b, xs, ys, rfl, rfl, ha, hb, sz1000 hz, fun p hp => q p _ hp (S.free hp) (S.ex_ (Ex.new hp)) (Ex.new hp) upd_same⟩
theorem Kp.new {s d p : Addr} {B : Nat} {H H' : Hp} (k : Kp s d H H') (S : Src H' s d B) (h : H' p = none) : H p = none := by
  have f := S.free h
  rcases e : H p with _ | o
  · rfl
  · rw [k.at f e] at h; cases h
/-- a new date, in the midst of draws -/
def spDate (ok : Int → Int → Int → Prop) : Sp := fun vs H Q _ => ∃ (s d : Addr) (B : Nat), vs = [.ref s] ∧ Src H s d (B + 12) ∧ ∀ (y m e : Int) (p : Addr) (H' : Hp), ok y m e → y.natAbs ≤ 10 ^ 31 → H p = none → p ≠ s ∧ p ≠ d → Src H' s d B → Kp s d H H' → H' p = some (.tup [.int y, .int m, .int e]) → Q (.ref p) H'
/-- a new list of at most `most` ints -/
def spJumps : Sp := fun vs H Q _ => ∃ (s d : Addr) (B : Nat) (most : Int), vs = [.ref s, .int most] ∧ 0 ≤ most ∧ most ≤ 60 ∧ Src H s d (B + 1000) ∧
  ∀ (ks : List Int) (p : Addr) (H' : Hp), (ks.length : Int) ≤ most → (∀ k, k ∈ ks → k.natAbs ≤ 10 ^ 28) → H p = none → p ≠ s ∧ p ≠ d → Src H' s d B → Kp s d H H' → H' p = some (.lst (ks.map V.int)) → Q (.ref p) H'
end
section
variable {K : PySem.W.Frag} {σ : L2.St} {H : Hp} {Q : VK} {te ta tb to : TE} {D : Ends} {tu : TS} {g : TG}
theorem f_forR1 {ta : TA} (h : ta σ H fun vs H1 => ∃ j : Int, vs = [.int j] ∧ -(2 ^ 62) ≤ j ∧ j < 2 ^ 62 ∧ ∃ W : Nat → Nat → L2.St → Hp → Prop, (∃ m, W 0 m σ H1) ∧ ∀ i m σ H, W i m σ H →
    ((Itr 0 j.toNat).stop i H ∧ D.nx σ H) ∨ ((Itr 0 j.toNat).go i H ∧ ∃ N : L2.St → Hp → Prop, (∀ σ' H', N σ' H' → ∃ m', m' < m ∧ W (i + 1) m' σ' H') ∧ ∀ x H', (Itr 0 j.toNat).yld i H x H' → g x σ H' fun σ2 H2 => tu { D with nx := N, ct := N, bk := D.nx } σ2 H2)) : tFor (iRng1 ta) g tu D σ H := h
theorem f_bm {T : String} {r : V → List V → Hp → VK → Prop} {t : TA} (h : to σ H fun x H1 => tyV K T x H1 ∧ t σ H1 fun xs H2 => r x xs H2 Q) : tBM K T r to t σ H Q := h
theorem f_tyL {p : Addr} {xs : List V} {R : Prop} (h : H p = some (.lst xs)) (q : R) : tyV K "list" (.ref p) H ∧ R := ⟨.inl ⟨rfl, _, sq_of h⟩, q⟩
theorem at_m2 {L : List Int} (h : 2 ≤ L.length) : ∃ z, z ∈ L ∧ atI (L.map V.int) (-2) = some (.int z) := by
  have e : ixN (L.map V.int).length (-2) = some (L.length - 2) := by
    unfold ixN
    rw [List.length_map, if_neg (by decide), if_pos (by omega)]
    exact congrArg some (by omega)
  have hj : L.length - 2 < L.length := by omega
  refine ⟨L[L.length - 2], List.getElem_mem hj, ?_⟩
  unfold atI
  rw [e]
  show (L.map V.int)[L.length - 2]? = _
  rw [List.getElem?_map, List.getElem?_eq_getElem hj]; rfl
theorem ixN_m1 {n : Nat} (h : 0 < n) : ixN n (-1) = some (n - 1) := by
  unfold ixN
  rw [if_neg (by decide), if_pos (by omega)]
  exact congrArg some (by omega)
end
/-! ### texts that fit -/
theorem fits_of {d : PyData} (h1 : d.hasDict = false) (h2 : d.showable = true) (h3 : d.depth ≤ 20) (h4 : d.leavesShort 110 = true) (h5 : d.weight ≤ 140000) : Fits d :=
  ⟨h1, h2, h3, Nat.le_trans (PyData.shown_le 110 (by decide) d h4) (Nat.le_trans (Nat.add_le_add_right (Nat.mul_le_mul_left 112 h5) 110) (by decide))⟩
theorem log_le {i : Int} (h : i.natAbs ≤ 10 ^ 100) : i.natAbs.log2 < 334 := PySem.Flt.log2_lt_of (by decide) (Nat.lt_of_le_of_lt h (by decide +kernel))
theorem shows_int {i : Int} (h : i.natAbs ≤ 10 ^ 100) : PyData.showable (.int i) = true ∧ PyData.leavesShort 110 (.int i) = true ∧ PyData.weight (.int i) ≤ 335 := by
  have hl := log_le h
  refine ⟨?_, ?_, ?_⟩
  · simp only [PyData.showable]; exact decide_eq_true (by omega)
  · simp only [PyData.leavesShort]
    refine decide_eq_true ?_
    have e := int_text_length_le10 (k := 101) (a := i) (by decide) (Nat.lt_of_le_of_lt h (by decide +kernel))
    show (Str.ofString (toString i)).length ≤ 110
    rw [ofString_length]; omega
  · simp only [PyData.weight]; split <;> omega
theorem shows_ints : ∀ (ks : List Int), (∀ k, k ∈ ks → k.natAbs ≤ 10 ^ 100) → PyData.showableAll (ks.map PyData.int) = true ∧ PyData.leavesShortAll 110 (ks.map PyData.int) = true ∧ PyData.weightAll (ks.map PyData.int) ≤ 336 * ks.length ∧ PyData.hasDictAll (ks.map PyData.int) = false ∧ PyData.depthAll (ks.map PyData.int) = 0
  | [], _ => by simp [PyData.showableAll, PyData.leavesShortAll, PyData.weightAll, PyData.hasDictAll, PyData.depthAll]
  | k :: ks, h => by
    obtain ⟨a, b, c⟩ := shows_int (h k (List.mem_cons_self ..))
    obtain ⟨a', b', c', d', e'⟩ := shows_ints ks fun x hx => h x (List.mem_cons_of_mem _ hx)
    refine ⟨?_, ?_, ?_, ?_, ?_⟩
    · simp only [List.map_cons, PyData.showableAll, a, a']; rfl
    · simp only [List.map_cons, PyData.leavesShortAll, b, b']; rfl
    · simp only [List.map_cons, PyData.weightAll, List.length_cons]; omega
    · simp only [List.map_cons, PyData.hasDictAll, PyData.hasDict, d']; rfl
    · simp only [List.map_cons, PyData.depthAll, PyData.depth, e']; rfl
/-- [date, list] -/
def pairD (y m e : Int) (ks : List Int) : PyData := .list [.tuple ([y, m, e].map PyData.int), .list (ks.map PyData.int)]
theorem fits_pair {y m e : Int} {ks : List Int} (h : ∀ k, k ∈ [y, m, e] → k.natAbs ≤ 10 ^ 100) (hk : ∀ k, k ∈ ks → k.natAbs ≤ 10 ^ 100) (hl : ks.length ≤ 200) : Fits (pairD y m e ks) := by
  obtain ⟨a, b, c, d, f⟩ := shows_ints [y, m, e] h
  obtain ⟨a', b', c', d', f'⟩ := shows_ints ks hk
  refine fits_of ?_ ?_ ?_ ?_ ?_
  · simp only [pairD, PyData.hasDict, PyData.hasDictAll, d, d']; rfl
  · simp only [pairD, PyData.showable, PyData.showableAll, a, a']; rfl
  · simp only [pairD, PyData.depth, PyData.depthAll, f, f']; decide
  · simp only [pairD, PyData.leavesShort, PyData.leavesShortAll, b, b']; rfl
  · simp only [pairD, PyData.weight, PyData.weightAll]
    have : [y, m, e].length = 3 := rfl
    omega
theorem ev_reprL {K : PySem.W.Frag} {σ : L2.St} {H : Hp} {te : TE} {xs : List V} {d : PyData} (h : EvL te σ H xs) (hd : ∀ p H1, Ex H H1 → H1 p = some (.lst xs) → Dp K H1 (.ref p) d) (hf : Fits d) : Ev (tCB (rRepr K) (tCons te tNil)) σ H (.str d.shown) := fun H1 e Q q =>
  h H1 e _ fun p H2 _ e2 h2 => ⟨p, d, rfl, hd p H2 (e.trans e2) h2, hf, fun H3 e3 => q H3 (e2.trans e3)⟩
theorem dp_date {K : PySem.W.Frag} {H : Hp} {p : Addr} {xs : List Int} (h : SqT K H p (xs.map V.int)) : Dp K H (.ref p) (.tuple (xs.map PyData.int)) := .tup h (dpa_ints xs)
theorem dp_pair {K : PySem.W.Frag} {H : Hp} {p a b : Addr} {y m e : Int} {ks : List Int} (h : H p = some (.lst [.ref a, .ref b])) (ha : SqT K H a [.int y, .int m, .int e]) (hb : SqL K H b (ks.map V.int)) : Dp K H (.ref p) (pairD y m e ks) :=
  .lst (sq_of h) (.cons (dp_date (xs := [y, m, e]) ha) (.cons (dp_ints hb) .nil))
theorem rv_eqS {H : Hp} {x : Str} : RV rEq (.str x) (.str x) H (.bl true) := fun H1 _ _ q => ⟨rfl, by rw [decide_eq_true rfl]; exact q H1 (Ex.refl H1)⟩
theorem rv_neS {H : Hp} {x : Str} : RV rNe (.str x) (.str x) H (.bl false) := fun H1 _ _ q => ⟨rfl, by rw [decide_eq_true rfl]; exact q H1 (Ex.refl H1)⟩
theorem okd_ints (n : Nat) (ks : List Int) : ∀ d, d ∈ ks.map PyData.int → okd n d := fun d hd => by
  obtain ⟨z, _, rfl⟩ := List.mem_map.mp hd
  cases n <;> trivial
theorem eqv_tints {n : Nat} (xs : List Int) : SeqAt.shaped (.tuple (xs.map PyData.int)) = true := PySem.W.ke_shaped_ints xs
/-- tuples of ints compared -/
theorem rv_neT {K : PySem.W.Frag} {H : Hp} {a b : Addr} {xs : List Int} (ha : SqT K H a (xs.map V.int)) (hb : SqT K H b (xs.map V.int)) : RV (rNeD K) (.ref a) (.ref b) H (.bl false) := fun H1 e Q q =>
  ⟨_, _, dp_date (ex_t e ha), dp_date (ex_t e hb), PySem.W.ke_shaped_ints xs, PySem.W.ke_shaped_ints xs, by
    show Q (.bl (!PyData.eqvAll (xs.map PyData.int) (xs.map PyData.int))) H1
    rw [eqv_ints, decide_eq_true rfl]; exact q H1 (Ex.refl H1)⟩
theorem rv_eqT {K : PySem.W.Frag} {H : Hp} {a b : Addr} {xs : List Int} (ha : SqT K H a (xs.map V.int)) (hb : SqT K H b (xs.map V.int)) : RV (rEqD K) (.ref a) (.ref b) H (.bl true) := fun H1 e Q q =>
  ⟨_, _, dp_date (ex_t e ha), dp_date (ex_t e hb), PySem.W.ke_shaped_ints xs, PySem.W.ke_shaped_ints xs, by
    show Q (.bl (PyData.eqvAll (xs.map PyData.int) (xs.map PyData.int))) H1
    rw [eqv_ints, decide_eq_true rfl]; exact q H1 (Ex.refl H1)⟩
/-! ### comprehensions that draw; slices -/
section
variable {K : PySem.W.Frag} {σ : L2.St} {H : Hp} {Q : VK} {te ta tb to : TE} {tt : TT} {g : TG}
/-- what a comprehension over range(n) asks -/
def LcR (n : Nat) (g : TG) (tt : TT) (te : TE) (vs : List Nat) (σ : L2.St) (H : Hp) (Q : VK) : Prop := ∀ D, H D = none → ∃ W : Nat → Nat → Hp → Prop, (∃ m, W 0 m (upd H D (.lst []))) ∧ ∀ i m H, W i m H →
  ((Itr 0 n).stop i H ∧ Q (.ref D) H) ∨ ((Itr 0 n).go i H ∧ ∃ Nx : Hp → Prop, (∀ H', Nx H' → ∃ m', m' < m ∧ W (i + 1) m' H') ∧ ∀ x H', (Itr 0 n).yld i H x H' → g x (wipe σ vs) H' fun σ2 H2 => wipe σ2 vs = wipe σ vs ∧ tt σ2 H2 fun b H3 =>
    if b = true then te σ2 H3 fun y H4 => ∃ acc, H4 D = some (.lst acc) ∧ acc.length < sizeLine ∧ Nx (upd H4 D (.lst (acc ++ [y]))) else Nx H3)
theorem f_lcR1 {ta : TA} {vs : List Nat} (h : ta σ H fun us H1 => ∃ n : Int, us = [.int n] ∧ -(2 ^ 62) ≤ n ∧ n < 2 ^ 62 ∧ LcR n.toNat g tt te vs σ H1 Q) : tLc (iRng1 ta) g tt te vs σ H Q := h
theorem f_yes {R : Bool → Hp → Prop} (h : R true H) : tYes σ H R := h
/-- n turns, each of at most c draws and an int with φ -/
theorem lc_draws {vs : List Nat} {j n : Nat} {s d : Addr} {B c : Nat} (φ : Int → Prop) (S : Src H s d (B + c * n)) (hn : n ≤ 1000) (hw : ∀ x, wipe ((wipe σ vs).set j (some x)) vs = wipe σ vs)
    (turn : ∀ (i : Nat) H' b, i < n → Kp s d H H' → Src H' s d (b + c) → ∀ R : VK, (∀ z H2, φ z → Kp s d H' H2 → Src H2 s d b → R (.int z) H2) → te ((wipe σ vs).set j (some (.int ((0 : Int) + (i : Int))))) H' R)
    (hd : ∀ (ks : List Int) (p : Addr) (H' : Hp), H p = none → p ≠ s ∧ p ≠ d → ks.length = n → (∀ k, k ∈ ks → φ k) → Src H' s d B → Kp s d H H' → H' p = some (.lst (ks.map V.int)) → Q (.ref p) H') :
    LcR n (gName j) tYes te vs σ H Q := fun D hD => by
  have fD := S.free hD
  refine lc_range (lo := 0) (n := n) (fun i H' => ∃ ks : List Int, ks.length = i ∧ (∀ k, k ∈ ks → φ k) ∧ H' D = some (.lst (ks.map V.int)) ∧ Src H' s d (B + c * (n - i)) ∧ Kp s d H H') ⟨[], rfl, (fun _ h => by simp at h), upd_same, S.ex_ (Ex.new hD), .of (Ex.new hD)⟩ (fun i H' hi ⟨ks, h1, h2, h3, h4, h5⟩ => ⟨hw _, ?_⟩) (fun H' ⟨ks, h1, h2, h3, h4, h5⟩ => hd ks D H' hD fD h1 h2 (h4.less (by omega)) h5 h3)
  have e : B + c * (n - i) = B + c * (n - (i + 1)) + c := by
    rw [show n - i = (n - (i + 1)) + 1 by omega, Nat.mul_add, Nat.mul_one]; omega
  rw [e] at h4
  refine f_yes ?_
  rw [if_pos rfl]
  refine turn i H' _ hi h5 h4 _ fun z H2 hz k2 S2 => ⟨_, k2.at fD h3, Nat.lt_of_le_of_lt (by rw [List.length_map]; omega : _ ≤ 1000) (by decide), ks ++ [z], by simp [h1], fun k hk => ?_, by rw [upd_same, List.map_append]; rfl, ?_, fun b o g1 g2 g => ?_⟩
  · rcases List.mem_append.mp hk with h | h
    · exact h2 k h
    · rw [List.mem_singleton.mp h]; exact hz
  · obtain ⟨ds, a, m, q, g1, g2, g3⟩ := S2.ex
    exact ⟨ds, a, m, q, by rw [upd_ne fD.1.symm]; exact g1, by rw [upd_ne fD.2.symm]; exact g2, g3⟩
  · rw [upd_ne (ne_of_none g hD)]
    exact k2 b o g1 g2 (h5 b o g1 g2 g)
theorem cutV_take {xs : List V} {n : Nat} : cutV xs none (some (n : Int)) = xs.take n := by
  unfold cutV
  rw [HT.sIx_none, HT.sIx_nat, List.drop_zero, Nat.sub_zero]
  rcases Nat.le_total n xs.length with h | h
  · rw [Nat.min_eq_left h]
  · rw [Nat.min_eq_right h, List.take_of_length_le (Nat.le_refl _), List.take_of_length_le h]
theorem cutV_drop {xs : List V} {n : Nat} : cutV xs (some (n : Int)) none = xs.drop n := by
  unfold cutV
  rw [HT.sIx_none, HT.sIx_nat]
  rcases Nat.le_total n xs.length with h | h
  · rw [Nat.min_eq_left h, List.take_of_length_le (by rw [List.length_drop]; exact Nat.le_refl _)]
  · rw [Nat.min_eq_right h, Nat.sub_self, List.take_zero, List.drop_eq_nil_of_le h]
theorem el_take {a : Addr} {ks : List Int} {n : Int} (h : Ev te σ H (.ref a)) (hn : Ev ta σ H (.int n)) (h0 : 0 ≤ n) (hs : SqL K H a (ks.map V.int)) : EvL (tSl (rSlL K) te tNoPart (tPart ta)) σ H ((ks.take n.toNat).map V.int) := by
  obtain ⟨m, rfl⟩ : ∃ m : Nat, n = (m : Int) := ⟨n.toNat, by omega⟩
  have z := el_sl h eo_none (eo_some hn) hs
  rw [cutV_take] at z
  rw [List.map_take]; exact z
theorem el_drop {a : Addr} {ks : List Int} {n : Int} (h : Ev te σ H (.ref a)) (hn : Ev ta σ H (.int n)) (h0 : 0 ≤ n) (hs : SqL K H a (ks.map V.int)) : EvL (tSl (rSlL K) te (tPart ta) tNoPart) σ H ((ks.drop n.toNat).map V.int) := by
  obtain ⟨m, rfl⟩ : ∃ m : Nat, n = (m : Int) := ⟨n.toNat, by omega⟩
  have z := el_sl h (eo_some hn) eo_none hs
  rw [cutV_drop] at z
  rw [List.map_drop]; exact z
theorem el_cat {xs ys : List V} (h : EvL ta σ H xs) (hb : EvL tb σ H ys) (hz : xs.length + ys.length ≤ 1000) : EvL (tOp rCat ta tb) σ H (xs ++ ys) := fun H1 e Q q =>
  h H1 e _ fun p H2 _ e2 h2 => hb H2 (e.trans e2) _ fun r H3 _ e3 h3 => ⟨p, r, xs, ys, rfl, rfl, e3 _ _ h2, h3, sz1000 hz, fun l hl => q l _ (fresh_back (e2.trans e3) hl) ((e2.trans e3).trans (Ex.new hl)) upd_same⟩
end
section
variable {K : PySem.W.Frag} {σ : L2.St} {H : Hp} {Q : VK} {te ta tb to : TE}
theorem f_andV (h : ta σ H fun x H1 => ∃ c, x = .bl c ∧ if c = true then tb σ H1 Q else Q (.bl false) H1) : tAndV ta tb σ H Q := h
theorem f_orV (h : ta σ H fun x H1 => ∃ c, x = .bl c ∧ if c = true then Q (.bl true) H1 else tb σ H1 Q) : tOrV ta tb σ H Q := h
theorem f_rv {r : R2} {x y z : V} (h : RV r x y H z) (k : ∀ H1, Ex H H1 → Q z H1) : r x y H Q := h H (Ex.refl H) Q k
theorem f_spU {D : Hp → List V → List V → Prop} {vs : List V} (xs : List V) {E : XK} (h : D H vs xs) (q : ∀ p H', H p = none → Ex H H' → H' p = some (.tup xs) → Q (.ref p) H') : spU D (vs ++ []) H Q E := ⟨xs, by rw [List.append_nil]; exact h, q⟩
end
section
variable {K : PySem.W.Frag} {σ : L2.St} {H : Hp} {Q : VK} {te ta tb to : TE}
theorem ev_opU1 {r : R2} {xs : List V} {y z : V} (ha : EvU ta σ H xs) (hb : ∀ H1, Ex H H1 → Ev tb σ H1 y) (hr : ∀ p H1, H1 p = some (.tup xs) → Ex H H1 → RV r (.ref p) y H1 z) : Ev (tOp r ta tb) σ H z := fun H1 e Q q =>
  ha H1 e _ fun p H2 _ e2 hp => hb H2 (e.trans e2) H2 (Ex.refl H2) _ fun H3 e3 => hr p H3 (e3 p _ hp) ((e.trans e2).trans e3) H3 (Ex.refl H3) Q fun H4 e4 => q H4 ((e2.trans e3).trans e4)
theorem eu_call2L {D : Hp → List V → List V → Prop} {v : V} {ys xs : List V} {E : XK} (ha : Ev ta σ H v) (hb : EvL tb σ H ys) (hs : ∀ p H1, Ex H H1 → H1 p = some (.lst ys) → D H1 [v, .ref p] xs) : EvU (tCall (spU D) [] E (tCons ta (tCons tb tNil))) σ H xs := fun H1 e Q q =>
  ha H1 e _ fun H2 e2 => hb H2 (e.trans e2) _ fun p H3 _ e3 h3 => ⟨xs, hs p H3 ((e.trans e2).trans e3) h3, fun p' H4 hp e4 h4 => q p' H4 (fresh_back (e2.trans e3) hp) ((e2.trans e3).trans e4) h4⟩
theorem eu_call2UL {D : Hp → List V → List V → Prop} {us ys xs : List V} {E : XK} (ha : EvU ta σ H us) (hb : EvL tb σ H ys) (hs : ∀ p r H1, Ex H H1 → H1 p = some (.tup us) → H1 r = some (.lst ys) → D H1 [.ref p, .ref r] xs) : EvU (tCall (spU D) [] E (tCons ta (tCons tb tNil))) σ H xs := fun H1 e Q q =>
  ha H1 e _ fun p H2 _ e2 h2 => hb H2 (e.trans e2) _ fun r H3 _ e3 h3 => ⟨xs, hs p r H3 ((e.trans e2).trans e3) (e3 _ _ h2) h3, fun p' H4 hp e4 h4 => q p' H4 (fresh_back (e2.trans e3) hp) ((e2.trans e3).trans e4) h4⟩
theorem f_par3 {D : Ends} {i j l : Nat} {ta : TA} (h : ta σ H fun vs H1 => ∃ u v w, vs = [u, v, w] ∧ D.nx (((σ.set i (some u)).set j (some v)).set l (some w)) H1) : tPar3 i j l ta D σ H := h
theorem f_par33 {u v w : V} {R : V → V → V → Prop} (q : R u v w) : ∃ a b c, [u, v, w] = [a, b, c] ∧ R a b c := ⟨u, v, w, rfl, q⟩
end
/-! ### lists of tuples of ints -/
/-- all tuples are kept -/
def KT (H H' : Hp) : Prop := ∀ q xs, H q = some (.tup xs) → H' q = some (.tup xs)
theorem KT.ex {H H' : Hp} (e : Ex H H') : KT H H' := fun q xs h => e q _ h
theorem KT.trans {H H1 H2 : Hp} (a : KT H H1) (b : KT H1 H2) : KT H H2 := fun q xs h => b q xs (a q xs h)
theorem KT.kp {H H' : Hp} {s d : Addr} {B : Nat} (S : Src H s d B) (k : Kp s d H H') : KT H H' := fun q xs h => by
  obtain ⟨ds, a, m, c, g1, g2, _⟩ := S.ex
  exact k q _ (ne_of h g1 (by intro z; cases z)) (ne_of h g2 (by intro z; cases z)) h
theorem KT.upd {H : Hp} {l : Addr} {xs ys : List V} (h : H l = some (.lst xs)) : KT H (upd H l (.lst ys)) := fun q zs g => by
  rw [upd_ne (ne_of g h (by intro z; cases z))]; exact g
def TupsAt (H : Hp) : List V → List (List Int) → Prop := Paired fun v xs => ∃ q, v = .ref q ∧ H q = some (.tup (xs.map V.int))
theorem TupsAt.kt {H H' : Hp} (k : KT H H') : ∀ {vs : List V} {xs : List (List Int)}, TupsAt H vs xs → TupsAt H' vs xs
  | _, _, .nil => .nil
  | _, _, .cons ⟨q, e, h⟩ t => .cons ⟨q, e, k q _ h⟩ (TupsAt.kt k t)
theorem TupsAt.snoc {H : Hp} {q : Addr} {ys : List Int} (h : H q = some (.tup (ys.map V.int))) : ∀ {vs : List V} {xs : List (List Int)}, TupsAt H vs xs → TupsAt H (vs ++ [.ref q]) (xs ++ [ys])
  | _, _, .nil => .cons ⟨q, rfl, h⟩ .nil
  | _, _, .cons a t => .cons a (TupsAt.snoc h t)
theorem TupsAt.dpa {K : PySem.W.Frag} {H : Hp} : ∀ {vs : List V} {xs : List (List Int)}, TupsAt H vs xs → DpAll K H vs (xs.map fun x => PyData.tuple (x.map PyData.int))
  | _, _, .nil => .nil
  | _, _, .cons ⟨q, e, h⟩ t => by subst e; exact .cons (dp_date (st_of h)) (TupsAt.dpa t)
theorem TupsAt.len {H : Hp} {vs : List V} {xs : List (List Int)} (h : TupsAt H vs xs) : vs.length = xs.length := Paired.length h
theorem Src.upd {H : Hp} {s d l : Addr} {B : Nat} {o : HO} (S : Src H s d B) (f : l ≠ s ∧ l ≠ d) : Src (upd H l o) s d B := by
  obtain ⟨ds, a, m, c, g1, g2, g3⟩ := S.ex
  exact ⟨ds, a, m, c, by rw [upd_ne f.1.symm]; exact g1, by rw [upd_ne f.2.symm]; exact g2, g3⟩
theorem okd_tups {n : Nat} {xs : List (List Int)} (hl : xs.length ≤ 10000) (h : ∀ x, x ∈ xs → x.length ≤ 10000) : okd (n + 2) (.list (xs.map fun x => PyData.tuple (x.map PyData.int))) := by
  refine ⟨by rw [List.length_map]; exact hl, fun d hd => ?_⟩
  obtain ⟨x, hx, rfl⟩ := List.mem_map.mp hd
  exact ⟨by rw [List.length_map]; exact h x hx, okd_ints _ _⟩
end Mc
namespace Mc
open PySem L2 Evl
/-! ### set(xs) of a list of ints -/
section
variable {P : Program} {w : World} {A : Around} {E : Value → Shared → Prop} {s : Shared}
/-- the new set, empty -/
def freshSet (w : World) : Obj := { cls := .type "set", dict := none, data := .set #[] 0 (.fresh 0 0 (!w.params.followText "set-order")) }
/-- the list's iterator at its start -/
def freshIt (l : Addr) : Obj := { cls := .type "list_iterator", data := .fields #[.ref l, .int 0 0] }
/-- the fill of the new set from the list -/
theorem fill_set {l : Addr} {items : Array Value} {ns : List Int} {R : Result → Shared → Prop} (hh : A.in1.handled = none) (hl : s.heap.IsList l items) (hit : PyProof.Rows.IntsAre items.toList ns) (hb : ns.length + 1 < scanBound)
    (h : ∀ (h' : Heap) (tk c : Nat), SetR w h' s.heap.objs.size (fun j => decide (j ∈ ns)) c → c ≤ ns.length → (∀ b o, s.heap.get? b = some o → h'.get? b = some o) → R (.ok (.ret .none)) { s with heap := h', toks := tk }) (t0 : Nat) :
    codeAny (model P w) A (.builtin "set.update.loop" ⟨[.ref s.heap.objs.size, .ref (s.heap.push (freshSet w)).objs.size], []⟩) R { s with heap := (s.heap.push (freshSet w)).push (freshIt l), toks := t0 } := by
  have sz : (s.heap.push (freshSet w)).objs.size = s.heap.objs.size + 1 := Heap.size_push ..
  have lt : l < s.heap.objs.size := by obtain ⟨o, ho, _⟩ := hl; exact Heap.lt_size ho
  have n1 : items.size = ns.length := by have q := hit.length; rwa [Array.length_toList] at q
  have hl1 : (s.heap.push (freshSet w)).IsList l items := hl.push _
  have val : ∀ (i : Nat) (v : Value), items[i]? = some v → ∃ k t, ns[i]? = some k ∧ v = .int k t := fun i v hv => by
    have hi : i < ns.length := n1 ▸ (Array.getElem?_eq_some_iff.mp hv).1
    obtain ⟨t, e⟩ := PyProof.Rows.IntsAre.int_at hit i v (by rw [Array.getElem?_toList, hv])
    exact ⟨ns[i], t, List.getElem?_eq_getElem hi, by rw [e, List.getD_eq_getElem?_getD, List.getElem?_eq_getElem hi]; rfl⟩
  have far : s.heap.objs.size ∉ [(s.heap.push (freshSet w)).objs.size, l] := by
    rw [sz]; simp only [List.mem_cons, List.mem_singleton, List.not_mem_nil, or_false, not_or]; exact ⟨Nat.ne_of_lt (Nat.lt_succ_self _), Nat.ne_of_gt lt⟩
  have old : ((s.heap.push (freshSet w)).push (freshIt l)).get? s.heap.objs.size = some (freshSet w) := Heap.get?_push_of_some _ (Heap.get?_push_size _ rfl)
  refine set_update_ints ((Walks.list hh _ l (by rw [sz]; exact Nat.ne_of_lt (Nat.lt_succ_of_lt lt)) items).toS) s.heap.objs.size far ns n1 hb val items.size 0 _ (by omega) (Nat.zero_le _) ⟨⟨_, Heap.get?_push_size _ rfl, rfl, rfl⟩, hl1.push _⟩ ⟨0, Nat.le_refl 0, setR_new_at old⟩ fun s' c hm hc hS => ?_
  obtain ⟨h', g', d', tk, os'⟩ := s'
  cases hm.gens
  cases hm.drawn
  cases hm.os
  refine h h' tk c hS (n1 ▸ hc) fun b o e => hm.heap b o ?_ (Heap.get?_push_of_some _ (Heap.get?_push_of_some _ e))
  have lb := Heap.lt_size e
  rw [sz]; simp only [List.mem_cons, List.mem_singleton, List.not_mem_nil, or_false, not_or]; exact ⟨Nat.ne_of_lt lb, Nat.ne_of_lt (Nat.lt_succ_of_lt lb)⟩
/-- the state in which the set was made -/
def withSet (w : World) (s : Shared) : Shared := { s with heap := s.heap.push (freshSet w) }
/-- what the fill leaves -/
def Filled (w : World) (s : Shared) (ns : List Int) (s2 : Shared) : Prop := ∃ (h' : Heap) (tk c : Nat), s2 = { s with heap := h', toks := tk } ∧ SetR w h' s.heap.objs.size (fun j => decide (j ∈ ns)) c ∧ c ≤ ns.length ∧ ∀ b o, s.heap.get? b = some o → h'.get? b = some o
set_option maxHeartbeats 1000000 in
theorem set_init_list {l : Addr} {items : Array Value} (ns : List Int) (hh : A.handled = none) (hl : s.heap.IsList l items) (hit : PyProof.Rows.IntsAre items.toList ns) (hb : ns.length + 1 < scanBound) :
    codeAny (model P w) A (.call (.builtin "set.__init__") ⟨[.ref s.heap.objs.size, .ref l], []⟩) (wants (fun r s2 => r = .none ∧ Filled w s ns s2) E) (withSet w s) := by
  have made : (withSet w s).heap.get? s.heap.objs.size = some (freshSet w) := Heap.get?_push_size _ rfl
  have tyS : (withSet w s).TypeIs (.ref s.heap.objs.size) "set" := ⟨_, made, rfl⟩
  have hl0 := hl
  obtain ⟨⟨cl, dd, da, sl⟩, g1, g2, nn, g3⟩ := hl
  simp only at g2 g3
  subst g2; subst g3
  have g4 : (withSet w s).heap.get? l = some { cls := .type "list", dict := dd, data := .seq items nn, slots := sl } := Heap.get?_push_of_some _ g1
  have u1 := PySem.F.sub_list_set
  have u2 := PySem.F.sub_list_frozenset
  have u3 : (Value.type "list" == Value.type "dict") = false := by decide
  refine codeAny_call_builtin PySem.F.called_set.init.plain PySem.F.entry_set_init (check_set_init_1 tyS ?_)
  unfold Builtin.«set.__init__» noKeywords Builtin.Frozenset.updateFrom
  generalize hg : pyIter = walker
  wp_walk
  subst hg
  refine wpAny_pyIter_list (hl0.push _) ?_
  refine wpAny_bind (wpAny_runValue ?_)
  refine fill_set (by simp [hh]) hl0 hit hb (fun h' tk c a b d => ?_) _
  show wpAny _ _ _ _ _ _
  refine wpAny_pure ?_
  show wpAny _ _ (ret Value.none) _ _ _
  exact wpAny_pure ⟨rfl, h', tk, c, rfl, a, b, d⟩
set_option maxHeartbeats 1000000 in
theorem set_of_list {l : Addr} {items : Array Value} (ns : List Int) {Q : Value → Shared → Prop} (hh : A.handled = none) (hl : s.heap.IsList l items) (hit : PyProof.Rows.IntsAre items.toList ns) (hb : ns.length + 1 < scanBound)
    (done : ∀ (h' : Heap) (tk c : Nat), SetR w h' s.heap.objs.size (fun j => decide (j ∈ ns)) c → c ≤ ns.length → (∀ b o, s.heap.get? b = some o → h'.get? b = some o) → Q (.ref s.heap.objs.size) { s with heap := h', toks := tk }) :
    wpAny (model P w) A (call (.type "set") [.ref l]) Q E s := by
  have m1 := PySem.F.called_set.made
  have m2 := PySem.F.called_set.sub
  have m3 := PySem.F.called_set.notType
  have m4 := PySem.F.called_set.canCreate
  have m5 := PySem.F.typeCall_set_1 (.ref l)
  have m6 := PySem.F.called_set.init.lookup
  have m7 := PySem.F.called_set.init.bind (.ref s.heap.objs.size)
  obtain ⟨c0, tl0, m8⟩ := PySem.F.called_set.mro
  refine wpAny_call (codeAny_of_tree ?_)
  show wpAny _ _ (callAny (Value.type "set") _) _ _ _
  refine wpAny_pure ⟨Code.quiet_builtin _ (by decide +kernel), codeAny_builtin PySem.F.entry_type_call ?_⟩
  rw [Around.under_plain (weight_type_call_type "set" [.ref l] []) rfl]
  repeat (any_goals (first | assumption | wp_step))
  have made : (withSet w s).heap.get? s.heap.objs.size = some (freshSet w) := Heap.get?_push_size _ rfl
  refine codeAny_mono (code_set_led1 (.ref l) (E := E) (Q₁ := fun obj s₁ => obj = .ref s.heap.objs.size ∧ s₁ = withSet w s) ⟨rfl, rfl⟩) fun r s₁ hr => ?_
  match r, hr with
  | .error e, hr => exact hr
  | .ok (.ret obj), hr =>
    obtain ⟨rfl, rfl⟩ := hr
    have tyS : (withSet w s).TypeIs (.ref s.heap.objs.size) "set" := ⟨_, made, rfl⟩
    repeat (any_goals (first | assumption | wp_step))
    refine codeAny_mono (set_init_list (E := E) ns (by simp [hh]) hl hit hb) fun r2 s2 h2 => ?_
    match r2, h2 with
    | .error e, h2 => exact h2
    | .ok (.ret v), h2 =>
      obtain ⟨rfl, h', tk, c, rfl, a, b, d⟩ := h2
      repeat (any_goals (first | assumption | wp_step))
      exact done h' tk c a b d
end
/-! ### sorted, of a set of any size -/
section
open PySem.Spec PyProof.Rows
variable {P : Program} {w : World} {A : Around} {E : Value → Shared → Prop} {s : Shared} {a : Addr}
theorem sortedA {S : Int → Bool} {n : Nat} {Q : Value → Shared → Prop} (R : SetR w s.heap a S n) (hh : A.handled = none) (h64 : n ≤ 100000)
    (q : ∀ s' p (out : Array Value) (c : Nat) (ns : List Int), (∀ b o, s.heap.get? b = some o → s'.heap.get? b = some o) → s'.gens = s.gens → s'.os = s.os → s.heap.objs.size ≤ p → s'.heap.get? p = some (seqObj "list" out c) → IntsAre out.toList ns → ns.Pairwise (· < ·) → (∀ k, k ∈ ns ↔ S k = true) → ns.length = n → Q (.ref p) s') : wpAny (model P w) A (call (.builtin "sorted") [.ref a]) Q E s := by
  obtain ⟨o, es, ep, t, r1, r2, r3, r4, r5, r6, r7, r8, r9, r10, r11⟩ := R
  have hL : n ≤ sizeLine := by rw [sizeLine_eq]; omega
  refine Calls.call_function_entry kind_sorted plain_sorted entry_sorted (args_sorted1 _) ?_
  show wpAny _ _ (Builtin.«sorted» _) _ _ _
  unfold Builtin.«sorted»
  refine wpAny_bind (m := checkCount "sorted" 1 1 _) (wpAny_pure (wpAny_bind (collect_set (A := A.in1) hh ⟨o, r1, r2.1, r3⟩ r8 r7 r10 r11 fun s1 vs k1 hz g1 o1 pm => ?_)))
  have el : vs.length = n := by rw [pm.length_eq, List.length_map, Array.length_toList, ← r9]
  have iv : IntsAre vs (vs.map Builtin.Re.reRawOf) := ints_of vs fun v hv => by
    obtain ⟨e, he, rfl⟩ := List.mem_map.mp (pm.mem_iff.mp hv)
    obtain ⟨k, tk, z, _⟩ := r4 e he
    exact ⟨k, tk, z⟩
  have pk : (vs.map Builtin.Re.reRawOf).Perm (es.toList.map keyOf) := List.map_map (f := Prod.snd) (g := Builtin.Re.reRawOf) ▸ pm.map Builtin.Re.reRawOf
  have at_ : (s1.heap.push (seqObj "list" vs.toArray 0)).get? s1.heap.objs.size = some (seqObj "list" vs.toArray 0) := Heap.get?_push_size _ rfl
  refine wpAny_bind (wpAny_newList (wpAny_bind (wpAny_holding (wpAny_call_entry slot_list_sort ⟨_, at_, rfl⟩ entry_list_sort (list_sort_treeAny at_ iv (el ▸ hL) fun out zs a1 a2 a3 => ⟨_, rfl, ?_⟩) (args_list_sort _)))) (el ▸ hL))
  obtain ⟨c, hc⟩ := sortedHeap_at (vs := vs) (out := out) at_
  have pz : zs.Perm (es.toList.map keyOf) := a2.trans pk
  refine wpAny_pure ⟨_, rfl, q _ s1.heap.objs.size out c zs (fun b u g => ?_) g1 o1 hz hc a1 (lt_of_le_nodup zs a3 (pz.nodup_iff.mpr r5)) (fun k => (pz.mem_iff).trans (r6 k).symm) (by rw [pz.length_eq, List.length_map, Array.length_toList, ← r9])⟩
  have g' := k1 b u g
  have bl := Heap.lt_size g'
  exact (sortedHeap_old (Nat.ne_of_lt bl) (by rw [size_push']; exact Nat.lt_succ_of_lt bl)).trans (Heap.get?_push_of_some _ g')
end
section
variable {X : Cx}
/-- sorted(found) -/
def rSortedA (w : World) : List V → Hp → VK → Prop := fun vs H Q => ∃ (a : Addr) (S : Int → Bool) (n : Nat), vs = [V.ref a] ∧ H a = some (SetO w a S n) ∧ n ≤ 4000 ∧ ∀ (ns : List Int) (p : Addr), ns.Pairwise (· < ·) → (∀ k : Int, k ∈ ns ↔ S k = true) → ns.length = n → H p = none → Q (.ref p) (upd H p (.lst (ns.map V.int)))
theorem cr_sortedA (hc : X.calm = true) : CallR X (.builtin "sorted") (rSortedA X.w) := by
  intro pins s σ H vs us Q I r h
  obtain ⟨a, S, n, rfl, ha, hn, q⟩ := h
  have R := setO_get I ha
  rw [Vals.ref1 r]
  refine sortedA R (I.ok.hd hc) (by omega) fun s' p out c ns k g o hp hg hi hs hm hl => ?_
  have hz : (ns.map V.int).length ≤ sizeLine := by rw [List.length_map, sizeLine_eq, hl]; omega
  have np : H p = none := I.hok.fresh hp
  obtain ⟨h1, h2, h3, h4⟩ : s'.os = s.os ∧ True ∧ True ∧ True := ⟨o, trivial, trivial, trivial⟩
  have J : Inv X pins σ (upd H p (.lst (ns.map V.int))) { s with heap := s'.heap, gens := s'.gens, drawn := s'.drawn, toks := s'.toks } := I.call (ch := []) (Un.laid k hp np) (I.hok.laid k hp ⟨hz, out.toList, c, vals_of_ints hi, hg⟩) (by rw [g]; exact I.bare) fun _ z => nomatch z
  have es : s' = { s with heap := s'.heap, gens := s'.gens, drawn := s'.drawn, toks := s'.toks } := by
    cases s'; cases s; cases o; rfl
  rw [es]
  exact ⟨.ref p, _, J, rfl, q ns p hs hm hl np⟩
/-- sorted(xs) of a list of ints -/
def rSortedLA (K : PySem.W.Frag) : List V → Hp → VK → Prop := fun vs H Q => ∃ (a : Addr) (xs : List Int), vs = [V.ref a] ∧ SqL K H a (xs.map V.int) ∧ xs.length ≤ 100000 ∧ ∀ (ns : List Int) (p : Addr), ns.Perm xs → ns.Pairwise (· ≤ ·) → H p = none → Q (.ref p) (upd H p (.lst (ns.map V.int)))
theorem cr_sortedLA : CallR X (.builtin "sorted") (rSortedLA X.K) := by
  intro pins s σ H vs us Q I r h
  obtain ⟨a, xs, rfl, hs, hz, q⟩ := h
  obtain ⟨its, rv, pl, _⟩ := I.list hs
  have iv := rv.ints
  have hL : xs.length ≤ sizeLine := by rw [sizeLine_eq]; omega
  rw [Vals.ref1 r]
  refine PyProof.Rows.sorted_intsAny pl.isList iv (by rw [iv.length]; exact hL) fun out ns h1 h2 h3 => ?_
  obtain ⟨ep, he⟩ := PyProof.Rows.sortedAll_at s.heap its out
  have nz : (ns.map V.int).length ≤ sizeLine := by rw [List.length_map, h2.length_eq]; exact hL
  exact ⟨.ref _, upd H (s.heap.objs.size + 1) (.lst (ns.map V.int)), I.laid (t' := s.toks) (fun _ _ => PyProof.Rows.sortedAll_old) (Nat.le_succ _) ⟨nz, out.toList, ep, vals_of_ints h1, he⟩, rfl, q ns _ h2 h3 (I.hok.fresh (Nat.le_succ _))⟩
end
end Mc
namespace Mc
open PySem L2 Evl
section
variable {X : Cx}
def rSetL (K : PySem.W.Frag) (w : World) : List V → Hp → VK → Prop := fun xs H Q => ∃ (l : Addr) (ns : List Int), xs = [.ref l] ∧ SqL K H l (ns.map V.int) ∧ ns.length ≤ 4000 ∧ ∀ p c, H p = none → c ≤ ns.length → Q (.ref p) (upd H p (SetO w p (fun j => decide (j ∈ ns)) c))
theorem cr_setL (hc : X.calm = true) : CallR X (.type "set") (rSetL X.K X.w) := by
  intro pins s σ H xs us Q I r h
  obtain ⟨l, ns, rfl, hS, hl, q⟩ := h
  obtain ⟨its, rv, pl, hz⟩ := I.list hS
  rw [Vals.ref1 r]
  refine set_of_list ns (I.ok.hd hc) pl.isList (by simpa using rv.ints) (by unfold scanBound; omega) fun h' tk c R hcn k => ?_
  exact ⟨.ref _, upd H s.heap.objs.size (SetO X.w s.heap.objs.size (fun j => decide (j ∈ ns)) c), I.laid (t' := tk) k (Nat.le_refl _) (setO_new R), rfl, q _ _ (I.hok.fresh (Nat.le_refl _)) hcn⟩
end
/-! ### the members of a list, ascending -/
def insI (k : Int) : List Int → List Int
  | [] => [k]
  | x :: r => if k < x then k :: x :: r else if k = x then x :: r else x :: insI k r
def srt (ns : List Int) : List Int := ns.foldr insI []
theorem mem_insI {k j : Int} : ∀ {ns : List Int}, j ∈ insI k ns ↔ j = k ∨ j ∈ ns
  | [] => by simp [insI]
  | x :: r => by
    have ih := mem_insI (k := k) (j := j) (ns := r)
    unfold insI
    split
    · simp
    · split
      · next h => subst h; simp
      · rw [List.mem_cons, ih, List.mem_cons]
        constructor
        · rintro (h | h | h)
          · exact .inr (.inl h)
          · exact .inl h
          · exact .inr (.inr h)
        · rintro (h | h | h)
          · exact .inr (.inl h)
          · exact .inl h
          · exact .inr (.inr h)
theorem pw_insI {k : Int} : ∀ {ns : List Int}, ns.Pairwise (· < ·) → (insI k ns).Pairwise (· < ·)
  | [], _ => by simp [insI]
  | x :: r, h => by
    have h1 := List.pairwise_cons.mp h
    unfold insI
    split
    · next hk => exact List.pairwise_cons.mpr ⟨fun y hy => by
        rcases List.mem_cons.mp hy with rfl | hy
        · exact hk
        · exact Int.lt_trans hk (h1.1 y hy), h⟩
    · split
      · exact h
      · next hk he => exact List.pairwise_cons.mpr ⟨fun y hy => by
          rcases mem_insI.mp hy with rfl | hy
          · omega
          · exact h1.1 y hy, pw_insI h1.2⟩
theorem mem_srt {j : Int} : ∀ {ns : List Int}, j ∈ srt ns ↔ j ∈ ns
  | [] => by simp [srt]
  | x :: r => by
    have ih := mem_srt (j := j) (ns := r)
    show j ∈ insI x (srt r) ↔ _
    rw [mem_insI, ih, List.mem_cons]
theorem pw_srt : ∀ (ns : List Int), (srt ns).Pairwise (· < ·)
  | [] => List.Pairwise.nil
  | x :: r => pw_insI (pw_srt r)
theorem asc_uniq : ∀ {as bs : List Int}, as.Pairwise (· < ·) → bs.Pairwise (· < ·) → (∀ k, k ∈ as ↔ k ∈ bs) → as = bs
  | [], [], _, _, _ => rfl
  | [], b :: bs, _, _, h => absurd ((h b).mpr (List.mem_cons_self ..)) (by simp)
  | a :: as, [], _, _, h => absurd ((h a).mp (List.mem_cons_self ..)) (by simp)
  | a :: as, b :: bs, ha, hb, h => by
    have a1 := List.pairwise_cons.mp ha
    have b1 := List.pairwise_cons.mp hb
    have e : a = b := by
      rcases List.mem_cons.mp ((h a).mp (List.mem_cons_self ..)) with e | e
      · exact e
      · rcases List.mem_cons.mp ((h b).mpr (List.mem_cons_self ..)) with e' | e'
        · exact e'.symm
        · have := b1.1 a e; have := a1.1 b e'; omega
    subst e
    rw [asc_uniq a1.2 b1.2 fun k => ⟨fun hk => ?_, fun hk => ?_⟩]
    · rcases List.mem_cons.mp ((h k).mp (List.mem_cons_of_mem _ hk)) with e | e
      · subst e; exact absurd (a1.1 k hk) (Int.lt_irrefl _)
      · exact e
    · rcases List.mem_cons.mp ((h k).mpr (List.mem_cons_of_mem _ hk)) with e | e
      · subst e; exact absurd (b1.1 k hk) (Int.lt_irrefl _)
      · exact e
theorem srt_eq {as bs : List Int} (h : ∀ k, k ∈ as ↔ k ∈ bs) : srt as = srt bs := asc_uniq (pw_srt as) (pw_srt bs) fun k => by rw [mem_srt, mem_srt]; exact h k
section
variable {K : PySem.W.Frag} {w : World} {σ : L2.St} {H : Hp} {te : TE}
theorem sorted_step {l : Addr} {ns : List Int} {H H1 H2 : Hp} {Q : VK} (e : Ex H H1) (e2 : Ex H1 H2) (hs : SqL K H2 l (ns.map V.int)) (hn : ns.length ≤ 4000) (q : ∀ p H3, H1 p = none → Ex H1 H3 → H3 p = some (.lst ((srt ns).map V.int)) → Q (.ref p) H3) :
    tCons (fun _ H Q => rSetL K w [.ref l] H Q) tNil σ H2 fun vs H3 => rSortedA w vs H3 Q :=
  ⟨l, ns, rfl, hs, by omega, fun p c hp hc => ⟨p, _, c, rfl, upd_same, by omega, fun ks p2 k1 k2 k3 hp2 => by
    have e3 : ks = srt ns := asc_uniq k1 (pw_srt ns) fun k => by rw [k2 k, mem_srt]; simp
    subst e3
    exact q p2 _ (fresh_back (e2.trans (Ex.new hp)) hp2) ((e2.trans (Ex.new hp)).trans (Ex.new hp2)) upd_same⟩⟩
theorem el_sorted {a : Addr} {ns : List Int} (h : Ev te σ H (.ref a)) (hs : SqL K H a (ns.map V.int)) (hn : ns.length ≤ 4000) : EvL (tCB (rSortedA w) (tCons (tCB (rSetL K w) (tCons te tNil)) tNil)) σ H ((srt ns).map V.int) := fun H1 e Q q =>
  h H1 e _ fun H2 e2 => sorted_step (σ := σ) e e2 (ex_l (e.trans e2) hs) hn q
theorem el_sortedL {ns : List Int} (h : EvL te σ H (ns.map V.int)) (hn : ns.length ≤ 4000) : EvL (tCB (rSortedA w) (tCons (tCB (rSetL K w) (tCons te tNil)) tNil)) σ H ((srt ns).map V.int) := fun H1 e Q q =>
  h H1 e _ fun p H2 _ e2 h2 => sorted_step (σ := σ) e e2 (sq_of h2) hn q
/-- a def that gives a new list, as the heap says -/
def spHL (D : Hp → List V → List V → Prop) : Sp := fun vs H Q _ => ∃ xs, D H vs xs ∧ ∀ p H', H p = none → Ex H H' → H' p = some (.lst xs) → Q (.ref p) H'
theorem el_callH {D : Hp → List V → List V → Prop} {vs xs : List V} {E : XK} {ta : TA} (h : EvA ta σ H vs) (hs : ∀ H1, Ex H H1 → D H1 vs xs) : EvL (tCall (spHL D) [] E ta) σ H xs := fun H1 e Q q =>
  h H1 e _ fun H2 e2 => ⟨xs, by rw [List.append_nil]; exact hs H2 (e.trans e2), fun p H3 hp e3 h3 => q p H3 (fresh_back e2 hp) (e2.trans e3) h3⟩
theorem el_callHL {D : Hp → List V → List V → Prop} {ys xs : List V} {E : XK} (h : EvL te σ H ys) (hs : ∀ p H1, Ex H H1 → H1 p = some (.lst ys) → D H1 [.ref p] xs) : EvL (tCall (spHL D) [] E (tCons te tNil)) σ H xs := fun H1 e Q q =>
  h H1 e _ fun p H2 _ e2 h2 => ⟨xs, hs p H2 (e.trans e2) h2, fun p' H3 hp e3 h3 => q p' H3 (fresh_back e2 hp) (e2.trans e3) h3⟩
theorem el_callHN {D : Hp → List V → List V → Prop} {gV : List V → List V → List V} {vs zs xs : List V} {n m : Nat} {E : XK} {ta tk : TA} (h : EvA ta σ H vs) (hk : EvA tk σ H zs) (hn : vs.length = n) (hm : zs.length = m) (hs : ∀ H1, Ex H H1 → D H1 (gV vs zs) xs) : EvL (tCallN n m (spHL D) gV E ta tk) σ H xs := fun H1 e Q q =>
  h H1 e _ fun H2 e2 => hk H2 (e.trans e2) _ fun H3 e3 => ⟨hn, hm, xs, hs H3 ((e.trans e2).trans e3), fun p H4 hp e4 h4 => q p H4 (fresh_back (e2.trans e3) hp) ((e2.trans e3).trans e4) h4⟩
end
/-! ### slices with draws, zip -/
section
variable {K : PySem.W.Frag} {σ : L2.St} {H : Hp} {Q : VK} {te : TE} {tt : TT} {g : TG}
theorem f_sl {r : V → Option Int → Option Int → Hp → VK → Prop} {tl th : TO} (h : te σ H fun x H1 => tl σ H1 fun l H2 => th σ H2 fun u H3 => r x l u H3 Q) : tSl r te tl th σ H Q := h
theorem f_nop {R : Option Int → Hp → Prop} (h : R none H) : tNoPart σ H R := h
theorem f_part {R : Option Int → Hp → Prop} (h : te σ H fun x H1 => ∃ i, x = .int i ∧ R (some i) H1) : tPart te σ H R := h
/-- what a comprehension asks of its walk -/
def LcJ (J : It) (g : TG) (tt : TT) (te : TE) (vs : List Nat) (σ : L2.St) (H : Hp) (Q : VK) : Prop := ∀ D, H D = none → ∃ W : Nat → Nat → Hp → Prop, (∃ m, W 0 m (upd H D (.lst []))) ∧ ∀ i m H, W i m H →
  (J.stop i H ∧ Q (.ref D) H) ∨ (J.go i H ∧ ∃ Nx : Hp → Prop, (∀ H', Nx H' → ∃ m', m' < m ∧ W (i + 1) m' H') ∧ ∀ x H', J.yld i H x H' → g x (wipe σ vs) H' fun σ2 H2 => wipe σ2 vs = wipe σ vs ∧ tt σ2 H2 fun b H3 =>
    if b = true then te σ2 H3 fun y H4 => ∃ acc, H4 D = some (.lst acc) ∧ acc.length < sizeLine ∧ Nx (upd H4 D (.lst (acc ++ [y]))) else Nx H3)
theorem f_lc {wi : TI} {vs : List Nat} (h : wi σ H fun J H1 => LcJ J g tt te vs σ H1 Q) : tLc wi g tt te vs σ H Q := h
theorem f_zipL {ta : TA} {R : It → Hp → Prop} (h : ta σ H fun us H1 => ∃ (a b : Addr) (xs ys : List V), us = [.ref a, .ref b] ∧ ((SqL K H1 a xs ∧ SqL K H1 b ys ∧ R (Itz K a b) H1) ∨ (SqT K H1 a xs ∧ SqT K H1 b ys ∧ R (RZ.ItzT K a b) H1))) : RZ.iZipA K ta σ H R := h
theorem lcz {a b : Addr} {xs ys : List Int} {i j : Nat} {vs : List Nat} (f : Int → Int → Int) (hx : SqL K H a (xs.map V.int)) (hy : SqL K H b (ys.map V.int)) (hn : ys.length ≤ xs.length) (hz : ys.length ≤ 1000)
    (hw : ∀ x y : V, wipe (((wipe σ vs).set i (some x)).set j (some y)) vs = wipe σ vs) (he : ∀ (x y : Int) (H1 : Hp), Ev te (((wipe σ vs).set i (some (.int x))).set j (some (.int y))) H1 (.int (f x y)))
    (q : ∀ p H', H p = none → Ex H H' → H' p = some (.lst ((List.zipWith f xs ys).map V.int)) → Q (.ref p) H') : LcJ (Itz K a b) (gTup K 2 (gCons (gName i) (gCons (gName j) gNil))) tYes te vs σ H Q := fun D hD => by
  have zl : (List.zipWith f xs ys).length = ys.length := by rw [List.length_zipWith]; omega
  refine ⟨fun t m H' => m = ys.length - t ∧ t ≤ ys.length ∧ Ex H H' ∧ H' D = some (.lst (((List.zipWith f xs ys).take t).map V.int)), ⟨ys.length, rfl, Nat.zero_le _, Ex.new hD, upd_same⟩, ?_⟩
  rintro t m H' ⟨rfl, ht, e, hp⟩
  by_cases hlt : t < ys.length
  · have h1 : (xs.map V.int)[t]? = some (.int (xs[t]'(by omega))) := by rw [List.getElem?_map, List.getElem?_eq_getElem (by omega)]; rfl
    have h2 : (ys.map V.int)[t]? = some (.int ys[t]) := by rw [List.getElem?_map, List.getElem?_eq_getElem hlt]; rfl
    refine .inr ⟨⟨_, _, _, _, ex_l e hx, ex_l e hy, h1, h2⟩, fun H'' => Ex H H'' ∧ H'' D = some (.lst (((List.zipWith f xs ys).take (t + 1)).map V.int)), fun H'' z => ⟨ys.length - (t + 1), by omega, rfl, hlt, z⟩, ?_⟩
    rintro v H'' ⟨T, x, y, rfl, hT, rfl, f1, f2⟩
    have ex : x = .int (xs[t]'(by omega)) := Option.some.inj ((f1 _ (ex_l e hx)).symm.trans h1)
    have ey : y = .int ys[t] := Option.some.inj ((f2 _ (ex_l e hy)).symm.trans h2)
    subst ex; subst ey
    refine ⟨T, _, rfl, st_of upd_same, rfl, _, _, rfl, _, _, rfl, rfl, hw _ _, f_yes ?_⟩
    rw [if_pos rfl]
    refine f_ev (he _ _ _) fun H4 e4 => ⟨_, e4 _ _ (Ex.new hT _ _ hp), ?_, fun b o g => ?_, ?_⟩
    · exact Nat.lt_of_le_of_lt (by rw [List.length_map, List.length_take]; omega : _ ≤ 1000) (by decide)
    · rw [upd_ne (ne_of_none g hD)]; exact e4 _ _ (Ex.new hT _ _ (e _ _ g))
    · rw [upd_same, List.take_add_one, List.getElem?_eq_getElem (by omega), List.map_append, List.getElem_zipWith]; rfl
  · have et : t = ys.length := by omega
    subst et
    rw [← zl, List.take_length] at hp
    exact .inl ⟨⟨_, _, ex_l e hx, ex_l e hy, .inr (by rw [List.length_map]; exact Nat.le_refl _)⟩, q D H' hD e hp⟩
end
end Mc
namespace Mc
open PySem L2 Evl
/-! ### powers of wider numbers -/
def CPowW (i j : Int) : Prop := 0 ≤ j ∧ j ≤ 100 ∧ i.natAbs.log2 < 9000
section
variable {X : Cx}
theorem op_powW : OpR X (binaryOp .Pow) (rI CPowW fun i j => .int (i ^ j.toNat)) := opI fun i j _ _ _ _ _ hc q => by
  refine PyProof.Rows.pow_int hc.1 ?_ q
  have b : Builtin.Int.intBits i ≤ i.natAbs.log2 + 1 := by
    unfold Builtin.Int.intBits
    split <;> omega
  obtain ⟨h0, h1, h2⟩ := hc
  have z : (Builtin.Int.intBits i : Int) * j ≤ 9000 * 100 := Int.mul_le_mul (by omega) h1 h0 (by decide)
  exact Int.le_trans z (by decide)
end
theorem powW {i j : Int} {b : Nat} (h0 : 0 ≤ j) (h1 : j ≤ 100) (hb : i.natAbs < 2 ^ b) (h2 : 0 < b) (h3 : b ≤ 9000) : CPowW i j := ⟨h0, h1, Nat.lt_of_lt_of_le (PySem.Flt.log2_lt_of h2 hb) h3⟩
/-! ### the other source of draws: [digits, seed, turn] at r; B draws may still come -/
structure Rg (H : Hp) (r : Addr) (B : Nat) : Prop where
  ex : ∃ dg sd t : Int, H r = some (.lst [.int dg, .int sd, .int t]) ∧ 0 ≤ dg ∧ 0 ≤ sd ∧ sd < 2 ^ 62 ∧ 0 ≤ t ∧ t + B ≤ 2 ^ 30
theorem Rg.less {H : Hp} {r : Addr} {B B' : Nat} (S : Rg H r B) (h : B' ≤ B) : Rg H r B' := by
  obtain ⟨a, b, c, h1, h2, h3, h4, h5, h6⟩ := S.ex
  exact ⟨a, b, c, h1, h2, h3, h4, h5, by omega⟩
theorem Rg.ex_ {H H' : Hp} {r : Addr} {B : Nat} (S : Rg H r B) (e : Ex H H') : Rg H' r B := by
  obtain ⟨a, b, c, h1, h⟩ := S.ex
  exact ⟨a, b, c, e _ _ h1, h⟩
theorem Rg.free {H : Hp} {r : Addr} {B : Nat} (S : Rg H r B) {p : Addr} (h : H p = none) : p ≠ r := by
  obtain ⟨a, b, c, h1, _⟩ := S.ex
  exact (ne_of_none h1 h).symm
theorem Rg.upd {H : Hp} {r l : Addr} {B : Nat} {o : HO} (S : Rg H r B) (f : l ≠ r) : Rg (upd H l o) r B := by
  obtain ⟨a, b, c, h1, h⟩ := S.ex
  exact ⟨a, b, c, by rw [upd_ne f.symm]; exact h1, h⟩
/-- all but the source is kept -/
def Kr (r : Addr) (H H' : Hp) : Prop := ∀ b o, b ≠ r → H b = some o → H' b = some o
theorem Kr.refl {r : Addr} {H : Hp} : Kr r H H := fun _ _ _ h => h
theorem Kr.trans {r : Addr} {H H1 H2 : Hp} (a : Kr r H H1) (b : Kr r H1 H2) : Kr r H H2 := fun c o h1 h => b c o h1 (a c o h1 h)
theorem Kr.of {r : Addr} {H H' : Hp} (e : Ex H H') : Kr r H H' := fun c o _ h => e c o h
theorem Kr.l {r : Addr} {H H1 H2 : Hp} (a : Kr r H H1) (b : Ex H1 H2) : Kr r H H2 := a.trans (.of b)
theorem Kr.at {r p : Addr} {H H' : Hp} {o : HO} (k : Kr r H H') (f : p ≠ r) (h : H p = some o) : H' p = some o := k p o f h
theorem Kr.new {r p : Addr} {B : Nat} {H H' : Hp} (k : Kr r H H') (S : Rg H' r B) (h : H' p = none) : H p = none := by
  have f := S.free h
  rcases e : H p with _ | o
  · rfl
  · rw [k.at f e] at h; cases h
def spRng (K : PySem.W.Frag) : Sp := fun vs H Q _ => ∃ (a : Addr) (ns : List Int), vs = [.ref a] ∧ SqL K H a (ns.map V.int) ∧ ns.length ≤ 63 ∧ ∀ r H', H r = none → Rg H' r (2 ^ 29) → Ex H H' → Q (.ref r) H'
def spRdraw : Sp := fun vs H Q _ => ∃ (r : Addr) (many : Int) (B : Nat), vs = [.ref r, .int many] ∧ 0 < many ∧ many ≤ 10 ^ 60 ∧ Rg H r (B + 1) ∧ ∀ n H', 0 ≤ n → n < many → Rg H' r B → Kr r H H' → Q (.int n) H'
theorem f_rdraw {H : Hp} {r : Addr} {B : Nat} {many : Int} {Q : VK} {E : XK} (S : Rg H r (B + 1)) (h0 : 0 < many) (hb : many ≤ 10 ^ 60) (q : ∀ n H', 0 ≤ n → n < many → Rg H' r B → Kr r H H' → Q (.int n) H') :
    spRdraw ([.ref r, .int many] ++ []) H Q E := ⟨r, many, B, rfl, h0, hb, S, q⟩
section
variable {K : PySem.W.Frag} {σ : L2.St} {H : Hp} {Q : VK} {te : TE}
theorem f_newLr {r : Addr} {B : Nat} {xs : List V} {R : Addr → Prop} (S : Rg H r B) (hz : xs.length ≤ 1000) (q : ∀ p, H p = none → p ≠ r → Rg (upd H p (.lst xs)) r B → Ex H (upd H p (.lst xs)) → (upd H p (.lst xs)) p = some (.lst xs) → R p) : xs.length ≤ sizeLine ∧ ∀ p, H p = none → R p :=
  ⟨sz1000 hz, fun p hp => q p hp (S.free hp) (S.ex_ (Ex.new hp)) (Ex.new hp) upd_same⟩
theorem f_catLr {r : Addr} {B : Nat} {a b : Addr} {xs ys : List V} (S : Rg H r B) (ha : H a = some (.lst xs)) (hb : H b = some (.lst ys)) (hz : xs.length + ys.length ≤ 1000) (q : ∀ p H', H p = none → p ≠ r → Rg H' r B → Ex H H' → H' p = some (.lst (xs ++ ys)) → Q (.ref p) H') : rCat (.ref a) (.ref b) H Q :=
  ⟨a, b, xs, ys, rfl, rfl, ha, hb, sz1000 hz, fun p hp => q p _ hp (S.free hp) (S.ex_ (Ex.new hp)) (Ex.new hp) upd_same⟩
/-- a, b = two values -/
theorem s_un2 {i j : Nat} {D : Ends} {a b : V} (h : EvU te σ H [a, b]) (k : ∀ H1, Ex H H1 → D.nx ((σ.set i (some a)).set j (some b)) H1) : tAsg te (gTup K 2 (gCons (gName i) (gCons (gName j) gNil))) D σ H :=
  h H (Ex.refl H) _ fun p H1 _ e hp => ⟨p, [a, b], rfl, st_of hp, rfl, a, [b], rfl, b, [], rfl, rfl, k H1 e⟩
/-- n turns, each of at most c draws and an int with φ -/
theorem lc_drawsR {vs : List Nat} {j n : Nat} {r : Addr} {B c : Nat} (φ : Int → Prop) (S : Rg H r (B + c * n)) (hn : n ≤ 1000) (hw : ∀ x, wipe ((wipe σ vs).set j (some x)) vs = wipe σ vs)
    (turn : ∀ (i : Nat) H' b, i < n → Kr r H H' → Rg H' r (b + c) → ∀ R : VK, (∀ z H2, φ z → Kr r H' H2 → Rg H2 r b → R (.int z) H2) → te ((wipe σ vs).set j (some (.int ((0 : Int) + (i : Int))))) H' R)
    (hd : ∀ (ks : List Int) (p : Addr) (H' : Hp), H p = none → p ≠ r → ks.length = n → (∀ k, k ∈ ks → φ k) → Rg H' r B → Kr r H H' → H' p = some (.lst (ks.map V.int)) → Q (.ref p) H') :
    LcR n (gName j) tYes te vs σ H Q := fun D hD => by
  have fD := S.free hD
  refine lc_range (lo := 0) (n := n) (fun i H' => ∃ ks : List Int, ks.length = i ∧ (∀ k, k ∈ ks → φ k) ∧ H' D = some (.lst (ks.map V.int)) ∧ Rg H' r (B + c * (n - i)) ∧ Kr r H H') ⟨[], rfl, (fun _ h => by simp at h), upd_same, S.ex_ (Ex.new hD), .of (Ex.new hD)⟩ (fun i H' hi ⟨ks, h1, h2, h3, h4, h5⟩ => ⟨hw _, ?_⟩) (fun H' ⟨ks, h1, h2, h3, h4, h5⟩ => hd ks D H' hD fD h1 h2 (h4.less (by omega)) h5 h3)
  have e : B + c * (n - i) = B + c * (n - (i + 1)) + c := by
    rw [show n - i = (n - (i + 1)) + 1 by omega, Nat.mul_add, Nat.mul_one]; omega
  rw [e] at h4
  refine f_yes ?_
  rw [if_pos rfl]
  refine turn i H' _ hi h5 h4 _ fun z H2 hz k2 S2 => ⟨_, k2.at fD h3, Nat.lt_of_le_of_lt (by rw [List.length_map]; omega : _ ≤ 1000) (by decide), ks ++ [z], by simp [h1], fun k hk => ?_, by rw [upd_same, List.map_append]; rfl, S2.upd fD, fun b o g1 g => ?_⟩
  · rcases List.mem_append.mp hk with h | h
    · exact h2 k h
    · rw [List.mem_singleton.mp h]; exact hz
  · rw [upd_ne (ne_of_none g hD)]
    exact k2 b o g1 (h5 b o g1 g)
end
end Mc
namespace Mc
open PySem L2 Evl
/-! ### a dict that is made and walked in one expression -/
section
variable {X : Cx}
/-- the value is locked from here on -/
def tFrz (te : TE) : TE := fun σ H Q => te σ H fun x H1 => ∃ (d : Addr) (u : HO), x = .ref d ∧ H1 d = some u ∧ Mut (some u) ∧ ∀ od, Q x (upd H1 d (.frz od u))
theorem pe_frz {e : Expr} {te : TE} (h : PE X e te) : PE X e (tFrz te) := ⟨fun pins s σ H Q I hw => thn (h.run pins s σ H _ I hw) fun v s1 ⟨x, H1, I1, r, d, u, ex, hd, mu, q⟩ => by
  obtain ⟨od, I2⟩ := I1.lock hd mu
  exact ⟨x, _, I2, r, q od⟩⟩
end
/-! ### numbers grouped -/
def putG : List (Int × List Int) → Int → Int → List (Int × List Int)
  | [], k, v => [(k, [v])]
  | (j, l) :: g, k, v => if j = k then (j, l ++ [v]) :: g else (j, l) :: putG g k v
def grp (d : Int) (ns : List Int) : List (Int × List Int) := ns.foldl (fun g n => putG g (n % d) (n / d)) []
theorem putG_len : ∀ (g : List (Int × List Int)) (k v : Int), (putG g k v).length ≤ g.length + 1
  | [], _, _ => Nat.le_refl _
  | (j, l) :: g, k, v => by
    have ih := putG_len g k v
    unfold putG
    split <;> simp <;> omega
/-- the groups as they stand in a dict's entries, in lists that are new since H0 -/
inductive GAt (H0 H : Hp) : List (Key × V) → List (Int × List Int) → Prop
  | nil : GAt H0 H [] []
  | cons {k : Int} {p : Addr} {l : List Int} {kvs : List (Key × V)} {gs : List (Int × List Int)} (n : H0 p = none) (h : H p = some (.lst (l.map V.int))) (d : ∀ kv, kv ∈ kvs → kv.2 ≠ .ref p) (t : GAt H0 H kvs gs) : GAt H0 H ((.inl k, .ref p) :: kvs) ((k, l) :: gs)
theorem GAt.len {H0 H : Hp} : ∀ {kvs : List (Key × V)} {gs : List (Int × List Int)}, GAt H0 H kvs gs → kvs.length = gs.length
  | _, _, .nil => rfl
  | _, _, .cons _ _ _ t => congrArg Nat.succ t.len
/-- kept if its lists are -/
theorem GAt.keep {H0 H H' : Hp} : ∀ {kvs : List (Key × V)} {gs : List (Int × List Int)}, GAt H0 H kvs gs → (∀ kv, kv ∈ kvs → ∀ p xs, kv.2 = .ref p → H p = some (.lst xs) → H' p = some (.lst xs)) → GAt H0 H' kvs gs
  | _, _, .nil, _ => .nil
  | _, _, .cons n h d t, k => .cons n (k _ (List.mem_cons_self ..) _ _ rfl h) d (t.keep fun kv hkv => k kv (List.mem_cons_of_mem _ hkv))
theorem GAt.ex_ {H0 H H' : Hp} {kvs : List (Key × V)} {gs : List (Int × List Int)} (g : GAt H0 H kvs gs) (e : Ex H H') : GAt H0 H' kvs gs := g.keep fun _ _ _ _ _ h => e _ _ h
theorem GAt.hit {H0 H : Hp} {k : Int} {x : V} : ∀ {kvs : List (Key × V)} {gs : List (Int × List Int)}, GAt H0 H kvs gs → valV kvs (.inl k : Key) = some x →
    ∃ (p : Addr) (l : List Int), x = .ref p ∧ H0 p = none ∧ H p = some (.lst (l.map V.int)) ∧ (k, l) ∈ gs ∧ ∀ v : Int, GAt H0 (upd H p (.lst ((l ++ [v]).map V.int))) kvs (putG gs k v)
  | _, _, .nil, h => by simp [valV_nil] at h
  | _, _, .cons (k := j) (p := p) (l := l) (kvs := kvs) (gs := gs) n h d t, hv => by
    by_cases e : j = k
    · subst e
      rw [valV_pos rfl] at hv
      refine ⟨p, l, (Option.some.inj hv).symm, n, h, List.mem_cons_self .., fun v => ?_⟩
      unfold putG
      rw [if_pos rfl]
      exact .cons n upd_same d (t.keep fun kv hkv q xs e h' => by
        rw [upd_ne (fun z => d kv hkv (by rw [e, z]))]; exact h')
    · rw [valV_neg (show ¬ (Sum.inl j : Key) = Sum.inl k from fun z => e (Sum.inl.inj z))] at hv
      obtain ⟨q, m, rfl, n', h', hm', f⟩ := t.hit hv
      have hm : ∃ kv, kv ∈ kvs ∧ kv.2 = V.ref q := by
        unfold valV at hv
        cases z : kvs.find? (fun kv => decide (kv.1 = (Sum.inl k : Key))) with
        | none => rw [z] at hv; cases hv
        | some kv => rw [z] at hv; exact ⟨kv, List.mem_of_find?_eq_some z, Option.some.inj hv⟩
      obtain ⟨kv, hkv, ek⟩ := hm
      refine ⟨q, m, rfl, n', h', List.mem_cons_of_mem _ hm', fun v => ?_⟩
      unfold putG
      rw [if_neg e]
      exact .cons n (by rw [upd_ne (fun z => d kv hkv (by rw [ek, z]))]; exact h) d (f v)
theorem GAt.miss {H0 H : Hp} {k v : Int} {p : Addr} (n : H0 p = none) (hp : H p = some (.lst ([v].map V.int))) : ∀ {kvs : List (Key × V)} {gs : List (Int × List Int)}, GAt H0 H kvs gs → (∀ kv, kv ∈ kvs → kv.2 ≠ .ref p) → valV kvs (.inl k : Key) = none → GAt H0 H (kvs ++ [(.inl k, .ref p)]) (putG gs k v)
  | _, _, .nil, _, _ => .cons n hp (fun _ h => by simp at h) .nil
  | _, _, .cons (k := j) (p := q) (l := l) (kvs := kvs) (gs := gs) n' h d t, hn, hv => by
    have e : ¬ j = k := fun e => by
      subst e
      rw [valV_pos rfl] at hv; cases hv
    rw [valV_neg (show ¬ (Sum.inl j : Key) = Sum.inl k from fun z => e (Sum.inl.inj z))] at hv
    unfold putG
    rw [if_neg e]
    refine .cons n' h (fun kv hkv => ?_) (t.miss n hp (fun kv hkv => hn kv (List.mem_cons_of_mem _ hkv)) hv)
    rcases List.mem_append.mp hkv with h1 | h1
    · exact d kv h1
    · rw [List.mem_singleton.mp h1]
      exact fun z => hn _ (List.mem_cons_self ..) z.symm
theorem GAt.news {H0 H : Hp} : ∀ {kvs : List (Key × V)} {gs : List (Int × List Int)}, GAt H0 H kvs gs → ∀ kv, kv ∈ kvs → ∃ (p : Addr) (l : List Int), kv.2 = .ref p ∧ H p = some (.lst (l.map V.int))
  | _, _, .nil, _, h => by simp at h
  | _, _, .cons n h d t, kv, hkv => by
    rcases List.mem_cons.mp hkv with rfl | h1
    · exact ⟨_, _, rfl, h⟩
    · exact t.news kv h1
theorem grp_take {d : Int} {ns : List Int} {i : Nat} {n : Int} (h : ns[i]? = some n) : grp d (ns.take (i + 1)) = putG (grp d (ns.take i)) (n % d) (n / d) := by
  unfold grp
  rw [List.take_add_one, h, List.foldl_append]; rfl
theorem grp_len (d : Int) (ns : List Int) : ∀ i, (grp d (ns.take i)).length ≤ i
  | 0 => Nat.le_refl _
  | i + 1 => by
    have ih := grp_len d ns i
    cases h : ns[i]? with
    | some n => rw [grp_take h]; exact Nat.le_trans (putG_len _ _ _) (by omega)
    | none => rw [List.take_add_one, h, Option.toList_none, List.append_nil]; omega
theorem putG_short {k v : Int} {b : Nat} : ∀ {g : List (Int × List Int)}, (∀ x, x ∈ g → x.2.length ≤ b) → ∀ x, x ∈ putG g k v → x.2.length ≤ b + 1
  | [], _, x, hx => by
    rw [List.mem_singleton.mp hx]
    show 1 ≤ b + 1
    omega
  | (j, l) :: g, h, x, hx => by
    unfold putG at hx
    split at hx
    · rcases List.mem_cons.mp hx with rfl | hx
      · have := h (j, l) (List.mem_cons_self ..)
        show (l ++ [v]).length ≤ _
        rw [List.length_append]; exact Nat.succ_le_succ this
      · exact Nat.le_succ_of_le (h x (List.mem_cons_of_mem _ hx))
    · rcases List.mem_cons.mp hx with rfl | hx
      · exact Nat.le_succ_of_le (h _ (List.mem_cons_self ..))
      · exact putG_short (fun y hy => h y (List.mem_cons_of_mem _ hy)) x hx
theorem grp_short (d : Int) (ns : List Int) : ∀ i x, x ∈ grp d (ns.take i) → x.2.length ≤ i
  | 0, x, hx => by simp [grp] at hx
  | i + 1, x, hx => by
    have ih := grp_short d ns i
    cases h : ns[i]? with
    | some n => rw [grp_take h] at hx; exact putG_short ih x hx
    | none => rw [List.take_add_one, h, Option.toList_none, List.append_nil] at hx; exact Nat.le_succ_of_le (ih x hx)
def spSplit (K : PySem.W.Frag) : Sp := fun vs H Q _ => ∃ (l : Addr) (ns : List Int) (d : Int), vs = [.ref l, .int d] ∧ SqL K H l (ns.map V.int) ∧ 0 < d ∧ d ≤ 10 ^ 60 ∧ ns.length ≤ 1000 ∧
  ∀ (a : Addr) (kvs : List (Key × V)) (H' : Hp), H a = none → Ex H H' → H' a = some (.dK kvs) → GAt H H' kvs (grp d ns) → Q (.ref a) H'
section
variable {K : PySem.W.Frag} {σ : L2.St} {H : Hp} {Q : VK} {te td ty tx : TE}
theorem f_dnew (q : ∀ p, H p = none → Q (.ref p) (upd H p (.dK []))) : tDNewK σ H Q := q
theorem f_dsetd (h : td σ H fun x H1 => ∃ a, x = .ref a ∧ IsD H1 a ∧ ty σ H1 fun y H2 => tx σ H2 fun z H3 => ∃ (kvs : List (Key × V)) (k : Key), H3 a = some (.dK kvs) ∧ y = kV k ∧ kvs.length < sizeLine ∧
  (∀ v, valV kvs k = some v → Q v H3) ∧ (valV kvs k = none → Q z (upd H3 a (.dK (putK kvs k z))))) : tDSetd td ty tx σ H Q := h
end
end Mc
namespace Mc
open PySem L2 Evl
/-! ### a set of ints, by a comprehension -/
section
variable {X : Cx}
/-- {elt for target in iter if ..}, elt an int -/
def tScI (w : World) (wi : TI) (g : TG) (tt : TT) (te : TE) (vs : List Nat) : TE := fun σ H Q => wi σ H fun J G => ∀ D, G D = none → ∃ W : Nat → Nat → Hp → Prop, (∃ m, W 0 m (upd G D (SetO w D (fun _ => false) 0))) ∧ ∀ i m H', W i m H' →
  (J.stop i H' ∧ Q (.ref D) H') ∨ (J.go i H' ∧ ∃ Z : Hp → Prop, (∀ U, Z U → ∃ m', m' < m ∧ W (i + 1) m' U) ∧ ∀ x U, J.yld i H' x U → g x (wipe σ vs) U fun σ2 U2 => wipe σ2 vs = wipe σ vs ∧ tt σ2 U2 fun b U3 =>
    if b = true then te σ2 U3 fun y U4 => ∃ (k : Int) (S : Int → Bool) (n : Nat), y = .int k ∧ U4 D = some (SetO w D S n) ∧ n + 1 < scanBound ∧ Z (upd U4 D (SetO w D (fun j => S j || decide (j = k)) (if S k = true then n else n + 1))) else Z U3)
theorem set_zero {w : World} {h : Heap} : SetR w (h.push (freshSet w)) h.objs.size (fun _ => false) 0 := (setR_new_at (ns := []) (Heap.get?_push_size _ rfl)).congr fun j => by simp
/-- found.add of a tracked set -/
theorem add_int {pins : List (Addr × Obj)} {σ : L2.St} {H : Hp} {s : Shared} {E : Value → Shared → Prop} {D : Addr} {S : Int → Bool} {n : Nat} {k : Int} {v : Value} {R : Value → Shared → Prop} (I : Inv X pins σ H s) (hD : H D = some (SetO X.w D S n)) (room : n + 1 < scanBound) (r : RelV (.int k) v)
    (next : ∀ u s2, Inv X pins σ (upd H D (SetO X.w D (fun j => S j || decide (j = k)) (if S k = true then n else n + 1))) s2 → R u s2) : wpAny (model X.prog X.w) X.A (call (.builtin "set.add") [.ref D, v]) R E s := by
  obtain ⟨tk, rfl⟩ := r
  refine setR_add (setO_get I hD) room fun h' sb new => next _ _ ?_
  exact I.write (t' := s.toks + 1) (by rw [hD]; trivial) (.inl rfl) (fun b u hb hu => (sb.2 b hb).trans hu) (by obtain ⟨o, _, _, _, ho, _⟩ := new; exact ⟨o, ho⟩) (setO_new new)
/-- such a comprehension as a value -/
theorem pe_scI {elt tg iter : Expr} {ifs : List Expr} {scope : Scope} {own : List (Str × Nat)} {pos : Pos} {wi : TI} {g : TG} {tt : TT} {te : TE} (hc : X.calm = true) (hN : X.N.Nodup) (hi : PI X tg iter wi) (ok : BlkOk X.N X.env.scope scope own)
    (hg : ∀ (t : Shared) (G : Hp) (C : Addr) (cl : List (Str × Addr)) (fp : List Addr), PG (X.blk t G scope (compEnvC scope cl C X.env) fp) tg g)
    (ht : ∀ (t : Shared) (G : Hp) (C : Addr) (cl : List (Str × Addr)) (fp : List Addr), PTs (X.blk t G scope (compEnvC scope cl C X.env) fp) ifs tt)
    (he : ∀ (t : Shared) (G : Hp) (C : Addr) (cl : List (Str × Addr)) (fp : List Addr), PE (X.blk t G scope (compEnvC scope cl C X.env) fp) elt te) (hs : ∀ x, foldedSetIterable iter X.env x = pure x := by intro _; rfl) :
    PE X (.SetComp elt [⟨tg, iter, ifs, 0⟩] scope pos) (tScI X.w wi g tt te (own.map (·.2))) := by
  refine ⟨fun pins s σ H Q I h => ?_⟩
  rw [PpSet.eval_SetComp]
  have reach : ∀ y ∈ scope.names, y.2 = .free → ∃ c, X.env.cells.lookup y.1 = some c := fun y hy e => (ok.free y hy e).elim (fun k => I.ok.has _ (.inl k)) fun k => I.ok.has _ (.inr k)
  refine wpAny_comprehension_free (use := none) rfl hs (closure_ok reach) ok.kind (fun y hy e => by rw [ok.uniq y hy, e]) (thn (hi.run pins s σ H _ I h) fun _ _ a1 => thn a1 fun iv t2 a2 => ?_)
  obtain ⟨it, fp, tn, J, G2, rfl, J2, T, now2, far2, q⟩ := a2
  refine PpSet.newSet_ok (newEnv_comp ?_)
  have nD : G2 t2.heap.objs.size = none := J2.hok.fresh (Nat.le_refl _)
  have old : ∀ b, b ∈ fp → b < t2.heap.objs.size := fun b hb => by
    obtain ⟨o, e, _⟩ := T.obj _ _ now2 b hb
    exact Heap.lt_size e
  generalize hD : t2.heap.objs.size = D at nD old
  obtain ⟨W, ⟨m0, w0⟩, turn⟩ := q D nD
  have J3 : Inv X pins σ (upd G2 D (SetO X.w D (fun _ => false) 0)) { t2 with heap := t2.heap.push (freshSet X.w) } := by
    subst hD
    exact J2.laid (t' := t2.toks) (fun b o e => Heap.get?_push_of_some _ e) (Nat.le_refl _) (setO_new set_zero)
  have now3 : tn 0 (t2.heap.push (freshSet X.w)) := T.keep _ _ _ now2 fun b _ o e => Heap.get?_push_of_some _ e
  have far3 : ∀ b ∈ fp, FpOk X pins (upd G2 D (SetO X.w D (fun _ => false) 0)) b ∧ b < (t2.heap.push (freshSet X.w)).objs.size := fun b hb =>
    ⟨⟨by rw [upd_ne (Nat.ne_of_lt (old b hb))]; exact (far2 b hb).1, (far2 b hb).2⟩, by rw [Heap.size_push, hD]; exact Nat.lt_succ_of_lt (old b hb)⟩
  generalize ht3 : ({ t2 with heap := t2.heap.push (freshSet X.w) } : Shared) = t3 at J3
  have hh3 : t3.heap = t2.heap.push (freshSet X.w) := by rw [← ht3]
  rw [← hh3] at now3 far3
  generalize upd G2 D (SetO X.w D (fun _ => false) 0) = G3 at J3 far3 w0
  show codeAny _ _ (.compStart (.SetComp elt [⟨tg, iter, ifs, 0⟩] scope pos) 0 (.ref it) (.ref D) (compEnvC scope (cellsFrom (({ t2 with heap := t2.heap.push (freshSet X.w) } : Shared).heap.objs.size + 1) scope.names (cloFrom X.env.cells scope.names [])) ({ t2 with heap := t2.heap.push (freshSet X.w) } : Shared).heap.objs.size X.env))
    (compPost (model X.prog X.w) X.A X.xe none (EP X pins σ Q) (.ref D) ({ t2 with heap := t2.heap.push (freshSet X.w) } : Shared).heap.objs.size) { ({ t2 with heap := t2.heap.push (freshSet X.w) } : Shared) with heap := pushCells ((({ t2 with heap := t2.heap.push (freshSet X.w) } : Shared).heap).push { cls := .type "dict", data := .dict #[] }) scope.names }
  rw [ht3]
  have J4 := block_start J3 ok hN far3
  have rg := hg t3 G3 t3.heap.objs.size (cellsFrom (t3.heap.objs.size + 1) scope.names (cloFrom X.env.cells scope.names [])) fp
  have rt := ht t3 G3 t3.heap.objs.size (cellsFrom (t3.heap.objs.size + 1) scope.names (cloFrom X.env.cells scope.names [])) fp
  have re := he t3 G3 t3.heap.objs.size (cellsFrom (t3.heap.objs.size + 1) scope.names (cloFrom X.env.cells scope.names [])) fp
  generalize hE : compEnvC scope (cellsFrom (t3.heap.objs.size + 1) scope.names (cloFrom X.env.cells scope.names [])) t3.heap.objs.size X.env = env at J4 rg rt re ⊢
  have own_at : env.locals = t3.heap.objs.size := by rw [← hE]; rfl
  generalize ht4 : ({ t3 with heap := pushCells (t3.heap.push { cls := .type "dict", data := .dict #[] }) scope.names } : Shared) = t4 at J4 ⊢
  have now4 : tn 0 t4.heap := T.keep _ _ _ now3 fun b _ o e => by rw [← ht4]; exact pushCells_keeps _ _ _ _ (Heap.get?_push_of_some _ e)
  have apart : ∀ {τ : L2.St} {U : Hp} {u : Shared}, Inv (X.blk t3 G3 scope env fp) [] τ U u → (∀ b ∈ fp, U b = none) → ∀ b ∈ fp, FpOk (X.blk t3 G3 scope env fp) [] U b := fun {τ U u} K hn b hb =>
    ⟨hn b hb, (K.ok.exf b hb).1, K.ok.exfs b hb, .inl hb, fun x c e => (K.ok.exf b hb).2 x c e, fun p hp => absurd (show p ∈ ([] : List (Addr × Obj)) ++ [] from hp) (by simp)⟩
  have go : codeAny (model X.prog X.w) X.A (.compLoop (.SetComp elt [⟨tg, iter, ifs, 0⟩] scope pos) 0 (.ref it) (.ref D) env) (compPost (model X.prog X.w) X.A X.xe none (EP X pins σ Q) (.ref D) t3.heap.objs.size) t4 := by
    refine PpSet.compLoopS_any (fun n u => ∃ i U, Inv (X.blk t3 G3 scope env fp) [] (wipe σ (own.map (·.2))) U u ∧ tn i u.heap ∧ (∀ b ∈ fp, U b = none) ∧ W i n U) ?_ m0 ⟨0, G3, J4, now4, fun b hb => (far3 b hb).1.1, w0⟩
    rintro n u5 ⟨i, U5, K5, now5, free5, w5⟩
    rcases turn i n U5 w5 with ⟨stop, last⟩ | ⟨more, Z, hZ, step⟩
    · refine thnF (T.done (X.blk t3 G3 scope env fp) rfl rfl rfl hc i [] u5 _ U5 (fun _ _ => False) K5 (apart K5 free5) now5 stop) fun r u6 ⟨hr, K6⟩ => ?_
      subst hr
      have K7 : Inv X pins σ U5 u6 := J3.call' (ch := fp) K6.os K6.base K6.hok K6.bare fun b hb => by
        obtain ⟨⟨_, z1, z2, z3, z4, z5⟩, _⟩ := far3 b hb
        exact ⟨z3, z1, z4, z5⟩
      have none5 : U5 t3.heap.objs.size = none := own_at ▸ (show U5 env.locals = none from K6.free)
      obtain ⟨m, hm, _⟩ := K6.loc
      have hm' : u6.heap.Ns t3.heap.objs.size m := own_at ▸ (show u6.heap.Ns env.locals m from hm)
      obtain ⟨f0, f1, f2, f3, f4, f5⟩ := J3.fpOk (Nat.le_refl _) none5
      exact ⟨m, hm', fun h'' sb => ⟨.ref D, U5, K7.turned (t' := u6.toks) (fun b o hb e => (sb.2 b hb).trans e) f0 f1 f3 f4 f5, rfl, last⟩⟩
    · refine thnF (T.item (X.blk t3 G3 scope env fp) rfl rfl rfl hc i [] u5 _ U5 (fun _ _ => False) K5 (apart K5 free5) now5 more) fun r u6 ⟨v, hr, a6⟩ => ?_
      subst hr
      refine thnF a6 fun _ u7 ⟨x, U7, K7, r7, y7, now7, free7⟩ => ?_
      have objs := T.obj _ _ now7
      refine thnF (rg.run _ u7 _ U7 x v _ (K7.pinned (apart K7 free7) objs) r7 (step x U7 y7)) fun _ u8 ⟨τ, U8, K8, back, q8⟩ => ?_
      refine thnF (rt.run _ u8 τ U8 _ K8 q8) fun b u9 ⟨U9, K9, q9⟩ => ?_
      have over : ∀ {u : Shared} {U : Hp}, Inv (X.blk t3 G3 scope env fp) ([] ++ pinsAt fp u7.heap) τ U u → Z U → ∃ m, m < n ∧ ∃ i U, Inv (X.blk t3 G3 scope env fp) [] (wipe σ (own.map (·.2))) U u ∧ tn i u.heap ∧ (∀ b ∈ fp, U b = none) ∧ W i m U := fun {u U} K z => by
        obtain ⟨m', lt, w'⟩ := hZ U z
        have held : ∀ b ∈ fp, ∀ o, u7.heap.get? b = some o → u.heap.get? b = some o ∧ U b = none := fun b hb o e => by
          obtain ⟨z1, z2, _⟩ := K.pin (b, o) (List.mem_append_right _ (List.mem_append_right _ (mem_pinsAt hb e)))
          exact ⟨z1, z2⟩
        refine ⟨m', lt, i + 1, U, (K.unpinned (pins := [])).weak (by rw [← back, wipe_length]) (fun j v e => (wipe_some (back ▸ e)).1), T.keep _ _ _ now7 fun b hb o e => (held b hb o e).1, fun b hb => ?_, w'⟩
        obtain ⟨o, e, _⟩ := objs b hb
        exact (held b hb o e).2
      match b, q9 with
      | false, q9 => exact over K9 q9
      | true, q9 =>
        refine thnF (re.run _ u9 τ U9 _ K9 q9) fun z u10 ⟨_, U10, K10, r10, k, S, c, ey, at10, room, nx⟩ => ?_
        subst ey
        exact add_int (X := X.blk t3 G3 scope env fp) K10 at10 room r10 fun _ u11 K11 => over K11 nx
  exact PpSet.codeAny_compStart_set go (T.self X.A 0 _ _ _ now4 go)
end
section
variable {K : PySem.W.Frag} {w : World} {σ : L2.St} {H : Hp} {tl te : TE}
theorem el_sortedSc {a : Addr} {ns : List Int} {j : Nat} {vs : List Nat} (f : Int → Int) (h : Ev tl σ H (.ref a)) (hx : SqL K H a (ns.map V.int)) (hz : ns.length ≤ 1000) (hw : ∀ x, wipe ((wipe σ vs).set j (some x)) vs = wipe σ vs)
    (he : ∀ (x : Int) (H1 : Hp), Ev te ((wipe σ vs).set j (some (.int x))) H1 (.int (f x))) : EvL (tCB (rSortedA w) (tCons (tScI w (iList K tl) (gName j) tYes te vs) tNil)) σ H ((srt (ns.map f)).map V.int) := fun H1 e Q q =>
  h H1 e _ fun H2 e2 => ⟨a, rfl, ⟨_, ex_l (e.trans e2) hx⟩, fun D hD => by
    have hx2 := ex_l (e.trans e2) hx
    have z0 : (fun _ : Int => false) = fun y => decide (y ∈ ([] : List Int)) := by funext y; simp
    refine ⟨fun t m U => m = ns.length - t ∧ t ≤ ns.length ∧ Ex H2 U ∧ ∃ c, c ≤ t ∧ U D = some (SetO w D (fun y => decide (y ∈ (ns.take t).map f)) c), ⟨ns.length, rfl, Nat.zero_le _, Ex.new hD, 0, Nat.le_refl _, by rw [upd_same, z0]; rfl⟩, ?_⟩
    rintro t m U ⟨rfl, ht, eU, c, hc, hU⟩
    have q2 := ex_l eU hx2
    by_cases hlt : t < ns.length
    · have hat : (ns.map V.int)[t]? = some (.int ns[t]) := by rw [List.getElem?_map, List.getElem?_eq_getElem hlt]; rfl
      refine .inr ⟨⟨_, _, q2, hat⟩, fun U' => Ex H2 U' ∧ ∃ c, c ≤ t + 1 ∧ U' D = some (SetO w D (fun y => decide (y ∈ (ns.take (t + 1)).map f)) c), fun U' z => ⟨ns.length - (t + 1), by omega, rfl, hlt, z⟩, fun x U' y => ?_⟩
      obtain ⟨rfl, y⟩ := y
      have ex : x = .int ns[t] := Option.some.inj ((y _ q2).symm.trans hat)
      subst ex
      refine ⟨hw _, f_yes ?_⟩
      rw [if_pos rfl]
      refine f_ev (he _ _) fun U4 e4 => ⟨f ns[t], _, c, rfl, e4 _ _ hU, Nat.lt_of_le_of_lt (show c + 1 ≤ 1001 by omega) (by decide), fun b o g => ?_, ?_⟩
      · rw [upd_ne (ne_of_none g hD)]; exact e4 _ _ (eU _ _ g)
      · refine ⟨_, ?_, by rw [upd_same]; congr 2; funext y; rw [List.take_add_one, List.getElem?_eq_getElem hlt, List.map_append]; simp [List.mem_append]⟩
        split <;> omega
    · have et : t = ns.length := by omega
      subst et
      rw [List.take_length] at hU
      refine .inl ⟨⟨_, q2, by rw [List.length_map]; exact Nat.le_refl _⟩, f_nil ⟨D, _, c, rfl, hU, by omega, fun ks p k1 k2 k3 hp => ?_⟩⟩
      have e3 : ks = srt (ns.map f) := asc_uniq k1 (pw_srt _) fun k => by rw [k2 k, mem_srt]; simp
      subst e3
      exact q p _ (fresh_back (e2.trans eU) hp) ((e2.trans eU).trans (Ex.new hp)) upd_same⟩
end
/-! ### groups: what lies in them, and a walk over them -/
theorem putG_mem {k v : Int} : ∀ {g : List (Int × List Int)} {x : Int × List Int} {u : Int}, x ∈ putG g k v → u ∈ x.2 → (x.1 = k ∧ u = v) ∨ ∃ y, y ∈ g ∧ y.1 = x.1 ∧ u ∈ y.2
  | [], x, u, hx, hu => by
    rw [List.mem_singleton.mp hx] at hu ⊢
    exact .inl ⟨rfl, List.mem_singleton.mp hu⟩
  | (j, l) :: g, x, u, hx, hu => by
    unfold putG at hx
    split at hx
    · next e =>
      rcases List.mem_cons.mp hx with rfl | hx
      · rcases List.mem_append.mp hu with h | h
        · exact .inr ⟨(j, l), List.mem_cons_self .., rfl, h⟩
        · exact .inl ⟨e, List.mem_singleton.mp h⟩
      · exact .inr ⟨x, List.mem_cons_of_mem _ hx, rfl, hu⟩
    · rcases List.mem_cons.mp hx with rfl | hx
      · exact .inr ⟨_, List.mem_cons_self .., rfl, hu⟩
      · rcases putG_mem hx hu with h | ⟨y, h1, h2⟩
        · exact .inl h
        · exact .inr ⟨y, List.mem_cons_of_mem _ h1, h2⟩
theorem grp_mem_take (d : Int) (ns : List Int) : ∀ (i : Nat) (x : Int × List Int) (u : Int), x ∈ grp d (ns.take i) → u ∈ x.2 → ∃ n, n ∈ ns ∧ n % d = x.1 ∧ n / d = u
  | 0, x, u, hx, _ => by simp [grp] at hx
  | i + 1, x, u, hx, hu => by
    have ih := grp_mem_take d ns i
    cases h : ns[i]? with
    | some n =>
      rw [grp_take h] at hx
      rcases putG_mem hx hu with ⟨h1, h2⟩ | ⟨y, h1, h2, h3⟩
      · exact ⟨n, List.mem_of_getElem? h, h1.symm, h2.symm⟩
      · obtain ⟨m, m1, m2, m3⟩ := ih y u h1 h3
        exact ⟨m, m1, by rw [m2, h2], m3⟩
    | none => rw [List.take_add_one, h, Option.toList_none, List.append_nil] at hx; exact ih x u hx hu
theorem grp_mem {d : Int} {ns : List Int} {x : Int × List Int} {u : Int} (hx : x ∈ grp d ns) (hu : u ∈ x.2) : ∃ n, n ∈ ns ∧ n % d = x.1 ∧ n / d = u := grp_mem_take d ns ns.length x u (by rw [List.take_length]; exact hx) hu
theorem putG_ne {k v : Int} : ∀ {g : List (Int × List Int)}, (∀ x, x ∈ g → x.2 ≠ []) → ∀ x, x ∈ putG g k v → x.2 ≠ []
  | [], _, x, hx => by rw [List.mem_singleton.mp hx]; simp
  | (j, l) :: g, h, x, hx => by
    unfold putG at hx
    split at hx
    · rcases List.mem_cons.mp hx with rfl | hx
      · simp
      · exact h x (List.mem_cons_of_mem _ hx)
    · rcases List.mem_cons.mp hx with rfl | hx
      · exact h _ (List.mem_cons_self ..)
      · exact putG_ne (fun y hy => h y (List.mem_cons_of_mem _ hy)) x hx
theorem grp_ne (d : Int) (ns : List Int) : ∀ x, x ∈ grp d ns → x.2 ≠ [] := by
  have key : ∀ i x, x ∈ grp d (ns.take i) → x.2 ≠ [] := fun i => by
    induction i with
    | zero => intro x hx; simp [grp] at hx
    | succ i ih =>
      intro x hx
      cases h : ns[i]? with
      | some n => rw [grp_take h] at hx; exact putG_ne ih x hx
      | none => rw [List.take_add_one, h, Option.toList_none, List.append_nil] at hx; exact ih x hx
  intro x hx
  exact key ns.length x (by rw [List.take_length]; exact hx)
theorem GAt.get {H0 H : Hp} : ∀ {kvs : List (Key × V)} {gs : List (Int × List Int)} {n : Nat} {x : Int × List Int}, GAt H0 H kvs gs → gs[n]? = some x → ∃ p, kvs[n]? = some (.inl x.1, .ref p) ∧ H0 p = none ∧ H p = some (.lst (x.2.map V.int))
  | _, _, _, _, .nil, h => by simp at h
  | _, _, 0, _, .cons (p := p) m h d t, e => by
    cases Option.some.inj e
    exact ⟨p, rfl, m, h⟩
  | _, _, n + 1, _, .cons m h d t, e => t.get (n := n) e
theorem GAt.fresh {H0 H : Hp} : ∀ {kvs : List (Key × V)} {gs : List (Int × List Int)}, GAt H0 H kvs gs → ∀ kv, kv ∈ kvs → ∀ p, kv.2 = .ref p → H0 p = none
  | _, _, .nil, _, h, _, _ => by simp at h
  | _, _, .cons m h d t, kv, hkv, p, e => by
    rcases List.mem_cons.mp hkv with rfl | h1
    · cases e; exact m
    · exact t.fresh kv h1 p e
/-- for a, b in f(..).items(), where the list at k, older than the groups, is written meanwhile -/
theorem f_forItems {td : TE} {g : TG} {tu : TS} {D : Ends} {σ : L2.St} {H : Hp} (h : iItems td σ H fun J H1 => ∃ W : Nat → Nat → L2.St → Hp → Prop, (∃ m, W 0 m σ H1) ∧ ∀ i m σ H, W i m σ H →
    (J.stop i H ∧ D.nx σ H) ∨ (J.go i H ∧ ∃ N : L2.St → Hp → Prop, (∀ σ' H', N σ' H' → ∃ m', m' < m ∧ W (i + 1) m' σ' H') ∧ ∀ x H', J.yld i H x H' → g x σ H' fun σ2 H2 => tu { D with nx := N, ct := N, bk := D.nx } σ2 H2)) : tFor (iItems td) g tu D σ H := h
theorem for_grp {K : PySem.W.Frag} {a k : Addr} {o : Obj} {kvs : List (Key × V)} {gs : List (Int × List Int)} {H0 G : Hp} {i j : Nat} {tu : TS} {D : Ends} {σ : L2.St} (ha : G a = some (.frz o (.dK kvs))) (hg : GAt H0 G kvs gs) (hk : ∃ u, H0 k = some u) (hak : a ≠ k)
    (P : Nat → L2.St → Hp → Prop) (h0 : P 0 σ G) (hs : ∀ (n : Nat) (x : Int × List Int) (p : Addr) (τ : L2.St) (U : Hp), gs[n]? = some x → P n τ U → Kr k G U → U p = some (.lst (x.2.map V.int)) → ∀ T, U T = none →
      tu { D with nx := fun τ' U' => P (n + 1) τ' U' ∧ Kr k G U', ct := fun τ' U' => P (n + 1) τ' U' ∧ Kr k G U', bk := D.nx } ((τ.set i (some (.int x.1))).set j (some (.ref p))) (upd U T (.tup [.int x.1, .ref p])))
    (hd : ∀ τ U, P gs.length τ U → Kr k G U → D.nx τ U) :
    ∃ W : Nat → Nat → L2.St → Hp → Prop, (∃ m, W 0 m σ G) ∧ ∀ n m τ U, W n m τ U →
      ((Iti a o kvs).stop n U ∧ D.nx τ U) ∨ ((Iti a o kvs).go n U ∧ ∃ N : L2.St → Hp → Prop, (∀ τ' U', N τ' U' → ∃ m', m' < m ∧ W (n + 1) m' τ' U') ∧ ∀ x U', (Iti a o kvs).yld n U x U' → gTup K 2 (gCons (gName i) (gCons (gName j) gNil)) x τ U' fun τ2 U2 => tu { D with nx := N, ct := N, bk := D.nx } τ2 U2) := by
  have hl := hg.len
  refine ⟨fun n m τ U => m = kvs.length - n ∧ n ≤ kvs.length ∧ P n τ U ∧ Kr k G U, ⟨_, rfl, Nat.zero_le _, h0, Kr.refl⟩, ?_⟩
  rintro n m τ U ⟨rfl, hn, hp, kr⟩
  have haU : U a = some (.frz o (.dK kvs)) := kr.at hak ha
  by_cases hlt : n < kvs.length
  · refine .inr ⟨⟨haU, hlt⟩, fun τ' U' => P (n + 1) τ' U' ∧ Kr k G U', fun τ' U' z => ⟨kvs.length - (n + 1), by omega, rfl, hlt, z⟩, ?_⟩
    rintro x U' ⟨T, y, v, h1, rfl, hT, rfl⟩
    have hx : gs[n]? = some gs[n] := List.getElem?_eq_getElem (hl ▸ hlt)
    obtain ⟨p, h2, h3, h4⟩ := hg.get hx
    rw [h1] at h2
    cases h2
    have hpk : p ≠ k := fun z => by
      obtain ⟨u, hu⟩ := hk
      rw [z, hu] at h3; cases h3
    exact ⟨T, _, rfl, st_of upd_same, rfl, _, _, rfl, _, _, rfl, rfl, hs n _ p τ U hx hp kr (kr.at hpk h4) T hT⟩
  · have e : n = kvs.length := by omega
    subst e
    exact .inl ⟨⟨haU, Nat.le_refl _⟩, hd τ U (hl ▸ hp) kr⟩
theorem insI_len (x : Int) : ∀ l : List Int, (insI x l).length ≤ l.length + 1
  | [] => by simp [insI]
  | y :: l => by
    have ih := insI_len x l
    unfold insI
    split <;> (try split) <;> simp <;> omega
theorem srt_len' : ∀ ns : List Int, (srt ns).length ≤ ns.length
  | [] => Nat.le_refl _
  | x :: r => by
    have ih := srt_len' r
    have := insI_len x (srt r)
    show (insI x (srt r)).length ≤ r.length + 1
    omega
theorem range_map {α : Type} (v : Int → α) (L : List Int) : (List.range L.length).map (fun i => v (L.getD i 0)) = L.map v := by
  refine List.ext_getElem? fun i => ?_
  rw [List.getElem?_map, List.getElem?_map]
  by_cases h : i < L.length
  · rw [List.getElem?_range h, List.getElem?_eq_getElem h]
    show some (v (L.getD i 0)) = some (v L[i])
    rw [List.getD_eq_getElem?_getD, List.getElem?_eq_getElem h]; rfl
  · rw [List.getElem?_eq_none (by rw [List.length_range]; omega), List.getElem?_eq_none (by omega)]; rfl
/-- [f(x) for x in ns] -/
theorem el_lcI {K : PySem.W.Frag} {σ : L2.St} {H : Hp} {tl te : TE} {a : Addr} {ns : List Int} {j : Nat} {vs : List Nat} (v : Int → V) (h : Ev tl σ H (.ref a)) (hx : SqL K H a (ns.map V.int)) (hz : ns.length ≤ 40000) (hw : ∀ x, wipe ((wipe σ vs).set j (some x)) vs = wipe σ vs)
    (he : ∀ (x : Int) H1, Ex H H1 → x ∈ ns → Ev te ((wipe σ vs).set j (some (.int x))) H1 (v x)) : EvL (tLc (iList K tl) (gName j) tYes te vs) σ H (ns.map v) := by
  have z := el_lcL (t := tYes) (te := te) (j := j) (vs := vs) (fun _ => true) (fun i => v (ns.getD i 0)) h hx (by rw [List.length_map]; exact hz) hw (fun i x H1 _ _ => et_yes rfl) fun i x H1 e hi _ => by
    rw [List.getElem?_map] at hi
    obtain ⟨n, hn, rfl⟩ := Option.map_eq_some_iff.mp hi
    have e2 : ns.getD i 0 = n := by rw [List.getD_eq_getElem?_getD, hn]; rfl
    rw [e2]
    exact he n H1 e (List.mem_of_getElem? hn)
  rw [given_all, List.length_map, range_map v ns] at z
  exact z
theorem el_listT {K : PySem.W.Frag} {σ : L2.St} {H : Hp} {ta : TE} {p : Addr} {xs : List V} (ha : Ev ta σ H (.ref p)) (h : ∀ H1, SqT K H1 p xs) : EvL (tCB (rListS K) (tCons ta tNil)) σ H xs := fun H1 e Q q =>
  ha H1 e _ fun H2 e2 => ⟨p, xs, rfl, .inr (h H2), fun l hl => q l _ (fresh_back e2 hl) (e2.trans (Ex.new hl)) upd_same⟩
theorem ev_anyL {K : PySem.W.Frag} {σ : L2.St} {H : Hp} {te : TE} {bs : List Bool} (h : EvL te σ H (bs.map V.bl)) : Ev (tCB (rAny K) (tCons te tNil)) σ H (.bl (bs.any id)) := fun H1 e Q q =>
  h H1 e _ fun p H2 _ e2 h2 => ⟨p, bs, rfl, sq_of h2, q H2 e2⟩
theorem ev_anyM {K : PySem.W.Frag} {σ : L2.St} {H : Hp} {te : TE} {ns : List Int} (f : Int → Bool) (h : EvL te σ H (ns.map fun y => V.bl (f y))) : Ev (tCB (rAny K) (tCons te tNil)) σ H (.bl ((ns.map f).any id)) := ev_anyL (bs := ns.map f) (by rw [List.map_map]; exact h)
theorem range_filter {α : Type} (v : Int → α) (φ : Int → Bool) (L : List Int) : ((List.range L.length).filter (fun i => φ (L.getD i 0))).map (fun i => v (L.getD i 0)) = (L.filter φ).map v := by
  have e : (List.range L.length).map (fun i => L.getD i 0) = L := by rw [range_map (fun x => x) L]; exact List.map_id' L
  have z : (L.filter φ).map v = (((List.range L.length).map (fun i => L.getD i 0)).filter φ).map v := by rw [e]
  rw [z, List.filter_map, List.map_map]
  rfl
/-- [v(x) for x in ns if φ(x)] -/
theorem el_lcF {K : PySem.W.Frag} {σ : L2.St} {H : Hp} {tl te : TE} {tt : TT} {a : Addr} {ns : List Int} {j : Nat} {vs : List Nat} (φ : Int → Bool) (v : Int → V) (h : Ev tl σ H (.ref a)) (hx : SqL K H a (ns.map V.int)) (hz : ns.length ≤ 40000) (hw : ∀ x, wipe ((wipe σ vs).set j (some x)) vs = wipe σ vs)
    (ht : ∀ (x : Int) H1, Ex H H1 → x ∈ ns → EvT tt ((wipe σ vs).set j (some (.int x))) H1 (φ x)) (he : ∀ (x : Int) H1, Ex H H1 → x ∈ ns → Ev te ((wipe σ vs).set j (some (.int x))) H1 (v x)) : EvL (tLc (iList K tl) (gName j) tt te vs) σ H ((ns.filter φ).map v) := by
  have at_ {i : Nat} {x : V} (hi : (ns.map V.int)[i]? = some x) : ∃ n, x = .int n ∧ n ∈ ns ∧ ns.getD i 0 = n := by
    rw [List.getElem?_map] at hi
    obtain ⟨n, hn, rfl⟩ := Option.map_eq_some_iff.mp hi
    exact ⟨n, rfl, List.mem_of_getElem? hn, by rw [List.getD_eq_getElem?_getD, hn]; rfl⟩
  have z := el_lcL (t := tt) (te := te) (j := j) (vs := vs) (fun i => φ (ns.getD i 0)) (fun i => v (ns.getD i 0)) h hx (by rw [List.length_map]; exact hz) hw (fun i x H1 e hi => by
    obtain ⟨n, rfl, hn, e2⟩ := at_ hi
    rw [e2]; exact ht n H1 e hn) fun i x H1 e hi _ => by
    obtain ⟨n, rfl, hn, e2⟩ := at_ hi
    rw [e2]; exact he n H1 e hn
  have g : given (ns.map V.int).length (fun i => φ (ns.getD i 0)) (fun i => v (ns.getD i 0)) = (ns.filter φ).map v := by
    rw [List.length_map]
    exact range_filter v φ ns
  rw [g] at z
  exact z
end Mc
namespace Mc
open PySem L2 Evl
section
variable {K : PySem.W.Frag} {σ : L2.St} {H : Hp} {Q : VK} {te ta tb tk to : TE}
/-! ### longer lists -/
theorem el_repW {xs : List V} {k : Int} (h : EvL te σ H xs) (hk : ∀ H1, Ex H H1 → Ev tk σ H1 (.int k)) (h0 : 0 ≤ k ∧ k ≤ 10000) (hz : xs.length ≤ 100) : EvL (tOp rRep te tk) σ H ((List.replicate k.toNat xs).flatten) := fun H1 e Q q =>
  h H1 e _ fun p H2 np e2 hp => hk H2 (e.trans e2) H2 (Ex.refl H2) _ fun H3 e3 => ⟨p, k, xs, rfl, rfl, e3 _ _ hp, by omega, by omega, Nat.le_trans (Nat.mul_le_mul hz (show k.toNat ≤ 10000 by omega)) (by decide), fun l hl => q l _ (fresh_back (e2.trans e3) hl) ((e2.trans e3).trans (Ex.new hl)) upd_same⟩
theorem el_catW {xs ys : List V} (h : EvL ta σ H xs) (hb : EvL tb σ H ys) (hz : xs.length + ys.length ≤ 100000) : EvL (tOp rCat ta tb) σ H (xs ++ ys) := fun H1 e Q q =>
  h H1 e _ fun p H2 _ e2 h2 => hb H2 (e.trans e2) _ fun r H3 _ e3 h3 => ⟨p, r, xs, ys, rfl, rfl, e3 _ _ h2, h3, sz_of hz, fun l hl => q l _ (fresh_back (e2.trans e3) hl) ((e2.trans e3).trans (Ex.new hl)) upd_same⟩
theorem EvL.is {xs ys : List V} (h : EvL te σ H xs) (e : xs = ys) : EvL te σ H ys := e ▸ h
theorem flat_one (k : Nat) (x : V) : (List.replicate k [x]).flatten = List.replicate k x := by
  induction k with
  | zero => rfl
  | succ k ih => rw [List.replicate_succ, List.flatten_cons, ih]; rfl
/-! ### data compared -/
theorem rv_neDp {x y : V} {d e : PyData} (hx : Dp K H x d) (hy : Dp K H y e) (sd : SeqAt.shaped d = true) (se : SeqAt.shaped e = true) : RV (rNeD K) x y H (.bl (!PyData.eqv d e)) := fun H1 x1 _ q =>
  ⟨d, e, dp_ex x1 hx, dp_ex x1 hy, sd, se, q H1 (Ex.refl H1)⟩
theorem rv_neSame {x y : V} {d : PyData} (hx : Dp K H x d) (hy : Dp K H y d) (sd : SeqAt.shaped d = true) : RV (rNeD K) x y H (.bl false) := by
  have z := rv_neDp hx hy sd sd
  rw [SeqAt.eqv_refl d (SeqAt.canLay_of_shaped sd)] at z
  exact z
theorem rv_eqSame {x y : V} {d : PyData} (hx : Dp K H x d) (hy : Dp K H y d) (sd : SeqAt.shaped d = true) : RV (rEqD K) x y H (.bl true) := by
  have z := rv_eqDp hx hy sd sd
  rw [SeqAt.eqv_refl d (SeqAt.canLay_of_shaped sd)] at z
  exact z
/-- a list of tuples of ints -/
def tupsD (xs : List (List Int)) : PyData := .list (xs.map fun x => .tuple (x.map PyData.int))
theorem shaped_tups (xs : List (List Int)) : SeqAt.shaped (tupsD xs) = true := by
  have h : ∀ xs : List (List Int), PyData.canLayAll0 (xs.map fun x => PyData.tuple (x.map PyData.int)) = true ∧ PyData.depthAll (xs.map fun x => PyData.tuple (x.map PyData.int)) ≤ 1 := by
    intro xs
    induction xs with
    | nil => exact ⟨rfl, by decide⟩
    | cons x xs ih =>
      obtain ⟨a, b⟩ := ih
      have c : PyData.canLayAll0 (x.map PyData.int) = true := PySem.W.ke_canLayAll0 x
      have d : PyData.depthAll (x.map PyData.int) = 0 := PySem.W.ke_depthAll x
      refine ⟨?_, ?_⟩
      · simp only [List.map_cons, PyData.canLayAll0, PyData.canLay0, c, a]; rfl
      · simp only [List.map_cons, PyData.depthAll, PyData.depth, d]; omega
  obtain ⟨a, b⟩ := h xs
  have c : PyData.canLay0 (tupsD xs) = true := by simp only [tupsD, PyData.canLay0]; exact a
  have d : PyData.depth (tupsD xs) ≤ 64 := by simp only [tupsD, PyData.depth]; omega
  unfold SeqAt.shaped
  rw [c, decide_eq_true d]; rfl
/-! ### what evaluates to data -/
def EvD (K : PySem.W.Frag) (te : TE) (σ : L2.St) (H : Hp) (d : PyData) : Prop := ∀ H1, Ex H H1 → ∀ Q : VK, (∀ x H2, Ex H1 H2 → Dp K H2 x d → Q x H2) → te σ H1 Q
def EvDs (K : PySem.W.Frag) (ta : TA) (σ : L2.St) (H : Hp) (ds : List PyData) : Prop := ∀ H1, Ex H H1 → ∀ Q : List V → Hp → Prop, (∀ xs H2, Ex H1 H2 → DpAll K H2 xs ds → Q xs H2) → ta σ H1 Q
/-- a new list of data -/
def EvDL (K : PySem.W.Frag) (te : TE) (σ : L2.St) (H : Hp) (ds : List PyData) : Prop := ∀ H1, Ex H H1 → ∀ Q : VK, (∀ p xs H2, H1 p = none → Ex H1 H2 → H2 p = some (.lst xs) → DpAll K H2 xs ds → Q (.ref p) H2) → te σ H1 Q
def dI (xs : List Int) : PyData := .tuple (xs.map PyData.int)
def dL (xs : List Int) : PyData := .list (xs.map PyData.int)
theorem ed_val {x : V} {d : PyData} (h : Ev te σ H x) (hd : ∀ H1, Ex H H1 → Dp K H1 x d) : EvD K te σ H d := fun H1 e Q q => h H1 e _ fun H2 e2 => q x H2 e2 (hd H2 (e.trans e2))
theorem ed_valH {x : V} {d : PyData} (h : Ev te σ H x) (hd : Dp K H x d) : EvD K te σ H d := ed_val h fun _ e => dp_ex e hd
theorem ed_int {i : Int} (h : Ev te σ H (.int i)) : EvD K te σ H (.int i) := ed_val h fun _ _ => .int i
theorem ed_bl {i : Bool} (h : Ev te σ H (.bl i)) : EvD K te σ H (.bool i) := ed_val h fun _ _ => .bl i
theorem ed_non (h : Ev te σ H .non) : EvD K te σ H .none := ed_val h fun _ _ => .non
theorem ed_str {s : Str} (h : Ev te σ H (.str s)) : EvD K te σ H (.str s) := ed_val h fun _ _ => .str s
theorem ed_U {xs : List Int} (h : EvU te σ H (xs.map V.int)) : EvD K te σ H (dI xs) := fun H1 e Q q => h H1 e _ fun p H2 _ e2 h2 => q (.ref p) H2 e2 (dp_date (st_of h2))
theorem ed_L {xs : List Int} (h : EvL te σ H (xs.map V.int)) : EvD K te σ H (dL xs) := fun H1 e Q q => h H1 e _ fun p H2 _ e2 h2 => q (.ref p) H2 e2 (dp_ints (sq_of h2))
theorem eds_nil : EvDs K tNil σ H [] := fun H1 _ _ q => q [] H1 (Ex.refl H1) .nil
theorem eds_cons {tr : TA} {d : PyData} {ds : List PyData} (h : EvD K te σ H d) (hr : EvDs K tr σ H ds) : EvDs K (tCons te tr) σ H (d :: ds) := fun H1 e Q q =>
  h H1 e _ fun x H2 e2 hx => hr H2 (e.trans e2) _ fun xs H3 e3 hxs => q (x :: xs) H3 (e2.trans e3) (.cons (dp_ex e3 hx) hxs)
theorem edl_lst {ta : TA} {ds : List PyData} (h : EvDs K ta σ H ds) (hl : ds.length ≤ 100000) : EvDL K (tLst ta) σ H ds := fun H1 e Q q =>
  h H1 e _ fun xs H2 e2 hx => ⟨sz_of (by rw [dpa_len hx]; exact hl), fun p hp => q p xs _ (fresh_back e2 hp) (e2.trans (Ex.new hp)) upd_same (dpa_ex (Ex.new hp) hx)⟩
theorem ed_DL {ds : List PyData} (h : EvDL K te σ H ds) : EvD K te σ H (.list ds) := fun H1 e Q q => h H1 e _ fun p xs H2 _ e2 h2 hd => q (.ref p) H2 e2 (.lst (sq_of h2) hd)
theorem ed_lst {ta : TA} {ds : List PyData} (h : EvDs K ta σ H ds) (hl : ds.length ≤ 100000) : EvD K (tLst ta) σ H (.list ds) := ed_DL (edl_lst h hl)
theorem ed_tup {ta : TA} {ds : List PyData} (h : EvDs K ta σ H ds) (hl : ds.length ≤ 100000) : EvD K (tTup ta) σ H (.tuple ds) := fun H1 e Q q =>
  h H1 e _ fun xs H2 e2 hx => ⟨sz_of (by rw [dpa_len hx]; exact hl), fun p hp => q (.ref p) _ (e2.trans (Ex.new hp)) (.tup (st_of upd_same) (dpa_ex (Ex.new hp) hx))⟩
theorem dpa_app : ∀ {xs ys : List V} {ds es : List PyData}, DpAll K H xs ds → DpAll K H ys es → DpAll K H (xs ++ ys) (ds ++ es)
  | _, _, _, _, .nil, h => h
  | _, _, _, _, .cons a t, h => .cons a (dpa_app t h)
theorem dpa_rep {xs : List V} {ds : List PyData} (h : DpAll K H xs ds) : ∀ k : Nat, DpAll K H (List.replicate k xs).flatten (List.replicate k ds).flatten
  | 0 => .nil
  | k + 1 => by
    rw [List.replicate_succ, List.replicate_succ, List.flatten_cons, List.flatten_cons]
    exact dpa_app h (dpa_rep h k)
theorem edl_rep {ds : List PyData} {k : Int} (h : EvDL K te σ H ds) (hk : ∀ H1, Ex H H1 → Ev tk σ H1 (.int k)) (h0 : 0 ≤ k ∧ k ≤ 10000) (hz : ds.length ≤ 100) : EvDL K (tOp rRep te tk) σ H ((List.replicate k.toNat ds).flatten) := fun H1 e Q q =>
  h H1 e _ fun p xs H2 np e2 hp hd => hk H2 (e.trans e2) H2 (Ex.refl H2) _ fun H3 e3 => ⟨p, k, xs, rfl, rfl, e3 _ _ hp, by omega, by omega, Nat.le_trans (Nat.mul_le_mul (by rw [dpa_len hd]; exact hz : xs.length ≤ 100) (show k.toNat ≤ 10000 by omega)) (by decide), fun l hl => q l _ _ (fresh_back (e2.trans e3) hl) ((e2.trans e3).trans (Ex.new hl)) upd_same (dpa_rep (dpa_ex (e3.trans (Ex.new hl)) hd) _)⟩
theorem edl_cat {ds es : List PyData} (h : EvDL K ta σ H ds) (hb : EvDL K tb σ H es) (hz : ds.length + es.length ≤ 100000) : EvDL K (tOp rCat ta tb) σ H (ds ++ es) := fun H1 e Q q =>
  h H1 e _ fun p xs H2 _ e2 h2 hd => hb H2 (e.trans e2) _ fun r ys H3 _ e3 h3 he => ⟨p, r, xs, ys, rfl, rfl, e3 _ _ h2, h3, sz_of (by rw [dpa_len hd, dpa_len he]; exact hz), fun l hl => q l _ _ (fresh_back (e2.trans e3) hl) ((e2.trans e3).trans (Ex.new hl)) upd_same (dpa_app (dpa_ex (e3.trans (Ex.new hl)) hd) (dpa_ex (Ex.new hl) he))⟩
theorem ev_neD {d : PyData} (h : EvD K ta σ H d) (hb : EvD K tb σ H d) (sd : SeqAt.shaped d = true) : Ev (tOp (rNeD K) ta tb) σ H (.bl false) := fun H1 e Q q =>
  h H1 e _ fun x H2 e2 hx => hb H2 (e.trans e2) _ fun y H3 e3 hy => rv_neSame (dp_ex e3 hx) hy sd H3 (Ex.refl H3) Q fun H4 e4 => q H4 ((e2.trans e3).trans e4)
theorem ev_eqD {d : PyData} (h : EvD K ta σ H d) (hb : EvD K tb σ H d) (sd : SeqAt.shaped d = true) : Ev (tOp (rEqD K) ta tb) σ H (.bl true) := fun H1 e Q q =>
  h H1 e _ fun x H2 e2 hx => hb H2 (e.trans e2) _ fun y H3 e3 hy => rv_eqSame (dp_ex e3 hx) hy sd H3 (Ex.refl H3) Q fun H4 e4 => q H4 ((e2.trans e3).trans e4)
theorem ev_sameD {n : Nat} {E : XK} {d : PyData} (h : EvD K ta σ H d) (hb : EvD K tb σ H d) (ok : okd n d) : Ev (tCall (spSame K n) [] E (tCons ta (tCons tb tNil))) σ H (.bl true) := fun H1 e Q q =>
  h H1 e _ fun x H2 e2 hx => hb H2 (e.trans e2) _ fun y H3 e3 hy => ⟨x, y, d, rfl, dp_ex e3 hx, hy, ok, fun H4 e4 => q H4 ((e2.trans e3).trans e4)⟩
theorem shaped_I (xs : List Int) : SeqAt.shaped (dI xs) = true := PySem.W.ke_shaped_ints xs
theorem shaped_L (xs : List Int) : SeqAt.shaped (dL xs) = true := PySem.W.ke_shaped_ints xs
theorem tups_cons (x : List Int) (xs : List (List Int)) : PyData.list (dI x :: xs.map fun x => PyData.tuple (x.map PyData.int)) = tupsD (x :: xs) := rfl
/-! ### new lists of new tuples of ints -/
def EvTs (ta : TA) (σ : L2.St) (H : Hp) (xss : List (List Int)) : Prop := ∀ H1, Ex H H1 → ∀ Q : List V → Hp → Prop, (∀ vs H2, Ex H1 H2 → TupsAt H2 vs xss → Q vs H2) → ta σ H1 Q
def EvTL (te : TE) (σ : L2.St) (H : Hp) (xss : List (List Int)) : Prop := ∀ H1, Ex H H1 → ∀ Q : VK, (∀ p vs H2, H1 p = none → Ex H1 H2 → H2 p = some (.lst vs) → TupsAt H2 vs xss → Q (.ref p) H2) → te σ H1 Q
theorem ets_nil : EvTs tNil σ H [] := fun H1 _ _ q => q [] H1 (Ex.refl H1) .nil
theorem ets_cons {tr : TA} {xs : List Int} {xss : List (List Int)} (h : EvU te σ H (xs.map V.int)) (hr : EvTs tr σ H xss) : EvTs (tCons te tr) σ H (xs :: xss) := fun H1 e Q q =>
  h H1 e _ fun p H2 _ e2 h2 => hr H2 (e.trans e2) _ fun vs H3 e3 t => q _ H3 (e2.trans e3) (.cons ⟨p, rfl, e3 _ _ h2⟩ t)
theorem etl_lst {ta : TA} {xss : List (List Int)} (h : EvTs ta σ H xss) (hl : xss.length ≤ 100000) : EvTL (tLst ta) σ H xss := fun H1 e Q q =>
  h H1 e _ fun vs H2 e2 t => ⟨sz_of (by rw [t.len]; exact hl), fun p hp => q p vs _ (fresh_back e2 hp) (e2.trans (Ex.new hp)) upd_same (t.kt (KT.ex (Ex.new hp)))⟩
theorem TupsAt.app {H : Hp} : ∀ {vs ws : List V} {xs ys : List (List Int)}, TupsAt H vs xs → TupsAt H ws ys → TupsAt H (vs ++ ws) (xs ++ ys)
  | _, _, _, _, .nil, h => h
  | _, _, _, _, .cons a t, h => .cons a (TupsAt.app t h)
theorem TupsAt.at_ {H : Hp} {vs : List V} {xs : List (List Int)} (h : TupsAt H vs xs) {n : Int} (h0 : 0 ≤ n) (h1 : n < xs.length) : ∃ (q : Addr) (x : List Int), x ∈ xs ∧ atI vs n = some (.ref q) ∧ H q = some (.tup (x.map V.int)) := by
  obtain ⟨j, rfl⟩ : ∃ j : Nat, n = (j : Int) := ⟨n.toNat, by omega⟩
  have key : ∀ {vs : List V} {xs : List (List Int)} (j : Nat), TupsAt H vs xs → j < xs.length → ∃ (q : Addr) (x : List Int), x ∈ xs ∧ vs[j]? = some (.ref q) ∧ H q = some (.tup (x.map V.int)) := by
    intro vs xs j t
    induction t generalizing j with
    | nil => intro h; simp at h
    | @cons v x vs xs a t ih =>
      intro h
      obtain ⟨q, rfl, hq⟩ := a
      match j with
      | 0 => exact ⟨q, x, List.mem_cons_self .., rfl, hq⟩
      | j + 1 =>
        obtain ⟨q, y, a, b, c⟩ := ih j (by simpa using h)
        exact ⟨q, y, List.mem_cons_of_mem _ a, b, c⟩
  obtain ⟨q, x, a, b, c⟩ := key j h (by omega)
  exact ⟨q, x, a, atI_nat b, c⟩
theorem f_evTL {xss : List (List Int)} (h : EvTL te σ H xss) (k : ∀ p vs H1, H p = none → Ex H H1 → H1 p = some (.lst vs) → TupsAt H1 vs xss → Q (.ref p) H1) : te σ H Q := h H (Ex.refl H) Q k
theorem f_lcR2 {ta : TA} {g : TG} {tt : TT} {vs : List Nat} (h : ta σ H fun us H1 => ∃ i j : Int, us = [.int i, .int j] ∧ (-(2 ^ 62) ≤ i ∧ i < 2 ^ 62 ∧ -(2 ^ 62) ≤ j ∧ j < 2 ^ 62) ∧ ∀ D, H1 D = none → ∃ W : Nat → Nat → Hp → Prop, (∃ m, W 0 m (upd H1 D (.lst []))) ∧ ∀ k m H, W k m H →
    ((Itr i (j - i).toNat).stop k H ∧ Q (.ref D) H) ∨ ((Itr i (j - i).toNat).go k H ∧ ∃ Nx : Hp → Prop, (∀ H', Nx H' → ∃ m', m' < m ∧ W (k + 1) m' H') ∧ ∀ x H', (Itr i (j - i).toNat).yld k H x H' → g x (wipe σ vs) H' fun σ2 H2 => wipe σ2 vs = wipe σ vs ∧ tt σ2 H2 fun b H3 =>
      if b = true then te σ2 H3 fun y H4 => ∃ acc, H4 D = some (.lst acc) ∧ acc.length < sizeLine ∧ Nx (upd H4 D (.lst (acc ++ [y]))) else Nx H3)) : tLc (iRng2 ta) g tt te vs σ H Q := h
/-- a < b < c, as a value -/
theorem ev_chain {ra rb : R2} {tc : TE} {x y z : V} {a b : Bool} (h1 : Ev ta σ H x) (h2 : Ev tb σ H y) (hr : RV ra x y H (.bl a)) (h3 : a = true → Ev tc σ H z) (hs : a = true → RV rb y z H (.bl b)) : Ev (tChain ra rb ta tb tc) σ H (.bl (a && b)) := fun H1 e Q q =>
  h1 H1 e _ fun H2 e2 => h2 H2 (e.trans e2) _ fun H3 e3 => hr H3 ((e.trans e2).trans e3) _ fun H4 e4 => ⟨a, rfl, by
    have x4 := ((e.trans e2).trans e3).trans e4
    have y4 := (e2.trans e3).trans e4
    cases a with
    | true => exact h3 rfl H4 x4 _ fun H5 e5 => hs rfl H5 (x4.trans e5) Q fun H6 e6 => q H6 ((y4.trans e5).trans e6)
    | false => exact q H4 y4⟩
/-! ### going on from what is known -/
theorem f_cont {F : VK → Prop} {φ : V → Hp → Prop} {Q : VK} (h : ∀ R : VK, (∀ v H, φ v H → R v H) → F R) (q : ∀ v H, φ v H → Q v H) : F Q := h Q q
theorem f_seqX {t1 t2 : TS} {D : Ends} (h : ∀ N : L2.St → Hp → Prop, (∀ H', Ex H H' → N σ H') → t1 { D with nx := N } σ H) (k : ∀ H', Ex H H' → t2 D σ H') : tSeq t1 t2 D σ H := h _ k
theorem f_seqC {t1 t2 : TS} {D : Ends} (φ : L2.St → Hp → Prop) (h : ∀ N : L2.St → Hp → Prop, (∀ σ' H', φ σ' H' → N σ' H') → t1 { D with nx := N } σ H) (k : ∀ σ' H', φ σ' H' → t2 D σ' H') : tSeq t1 t2 D σ H := h _ k
/-- a tuple, new or not -/
def EvU0 (te : TE) (σ : L2.St) (H : Hp) (xs : List V) : Prop := ∀ H1, Ex H H1 → ∀ Q : VK, (∀ p H2, Ex H1 H2 → H2 p = some (.tup xs) → Q (.ref p) H2) → te σ H1 Q
theorem EvU0.is {xs ys : List V} (h : EvU0 te σ H xs) (e : xs = ys) : EvU0 te σ H ys := e ▸ h
theorem EvU.is {xs ys : List V} (h : EvU te σ H xs) (e : xs = ys) : EvU te σ H ys := e ▸ h
theorem EvU.u0 {xs : List V} (h : EvU te σ H xs) : EvU0 te σ H xs := fun H1 e Q q => h H1 e Q fun p H2 _ e2 h2 => q p H2 e2 h2
theorem ed_U0 {xs : List Int} (h : EvU0 te σ H (xs.map V.int)) : EvD K te σ H (dI xs) := fun H1 e Q q => h H1 e _ fun p H2 e2 h2 => q (.ref p) H2 e2 (dp_date (st_of h2))
theorem f_evU0 {xs : List V} (h : EvU0 te σ H xs) (k : ∀ p H1, Ex H H1 → H1 p = some (.tup xs) → Q (.ref p) H1) : te σ H Q := h H (Ex.refl H) Q k
theorem s_asgU0 {i : Nat} {D : Ends} {xs : List V} (h : EvU0 te σ H xs) (k : ∀ p H1, Ex H H1 → H1 p = some (.tup xs) → D.nx (σ.set i (some (.ref p))) H1) : tAsg te (gName i) D σ H := h H (Ex.refl H) _ fun p H1 e h1 => k p H1 e h1
/-- a slice of a tuple -/
theorem eu_take {tk : TE} {a : Addr} {xs : List V} {n : Nat} (h : Ev te σ H (.ref a)) (hn : Ev tk σ H (.int (n : Int))) (hs : SqT K H a xs) (hl : n < xs.length) : EvU0 (tSl (rSlT K) te tNoPart (tPart tk)) σ H (xs.take n) := by
  intro H1 e Q q
  refine h H1 e _ fun H2 e2 => eo_none H2 (e.trans e2) _ fun H3 e3 => eo_some hn H3 ((e.trans e2).trans e3) _ fun H4 e4 => ⟨a, xs, rfl, ex_t (((e.trans e2).trans e3).trans e4) hs, fun z => ?_, fun p hp => q p _ (((e2.trans e3).trans e4).trans (Ex.new hp)) ?_⟩
  · have z2 := z.2
    rw [HT.sIx_nat] at z2; omega
  · rw [upd_same, cutV_take]
/-- the script, kept by draws from a source that is new -/
theorem sq_kr {H H1 H' : Hp} {r a : Addr} {xs : List V} (hS : SqL K H a xs) (hn : H r = none) (e : Ex H H1) (k : Kr r H1 H') : SqL K H' a xs := by
  rcases hS with (h | ⟨o, h⟩) | h
  · exact .inl (.inl (k _ _ (ne_of_none h hn) (e _ _ h)))
  · exact .inl (.inr ⟨o, k _ _ (ne_of_none h hn) (e _ _ h)⟩)
  · exact .inr h
/-! ### more of the second source -/
theorem KT.kr {H H' : Hp} {r : Addr} {B : Nat} (S : Rg H r B) (k : Kr r H H') : KT H H' := fun q xs h => by
  obtain ⟨a, b, c, g1, _⟩ := S.ex
  exact k q _ (ne_of h g1 (by intro z; cases z)) h
/-- a new tuple is made in the midst of draws -/
theorem f_newUr {r : Addr} {B : Nat} {xs : List V} {R : Addr → Prop} (S : Rg H r B) (hz : xs.length ≤ 1000) (q : ∀ p, H p = none → p ≠ r → Rg (upd H p (.tup xs)) r B → Ex H (upd H p (.tup xs)) → (upd H p (.tup xs)) p = some (.tup xs) → R p) : xs.length ≤ sizeLine ∧ ∀ p, H p = none → R p :=
  ⟨sz1000 hz, fun p hp => q p hp (S.free hp) (S.ex_ (Ex.new hp)) (Ex.new hp) upd_same⟩
/-- [a, b, ..][draw], the list made ahead -/
theorem f_ixL {p : Addr} {xs : List V} {n : Int} {v : V} (h : H p = some (.lst xs)) (ha : atI xs n = some v) (q : Q v H) : rIxL K (.ref p) (.int n) H Q := ⟨p, xs, n, v, rfl, rfl, sq_of h, ha, q⟩
end
/-! ### a bag of draws: a dict of a list, what is left, the turn, a fold -/
section
variable {K : PySem.W.Frag} {σ : L2.St} {H : Hp} {Q : VK} {te ta tb tk td ty : TE}
def bagK (g : Addr) (l t f : Int) : List (Key × V) := [(.inr "great", .ref g), (.inr "left", .int l), (.inr "turn", .int t), (.inr "fold", .int f)]
structure Bg (H : Hp) (d g : Addr) (B : Nat) : Prop where
  ex : ∃ (gs : List Int) (l t f : Int), H d = some (.dK (bagK g l t f)) ∧ H g = some (.lst (gs.map V.int)) ∧ gs.length ≤ 63 ∧ 0 ≤ t ∧ t + B ≤ 2 ^ 30 ∧ 0 ≤ f ∧ f < 2 ^ 61
theorem Bg.less {H : Hp} {d g : Addr} {B B' : Nat} (S : Bg H d g B) (h : B' ≤ B) : Bg H d g B' := by
  obtain ⟨gs, l, t, f, h1, h2, h3, h4, h5, h6⟩ := S.ex
  exact ⟨gs, l, t, f, h1, h2, h3, h4, by omega, h6⟩
theorem Bg.ex_ {H H' : Hp} {d g : Addr} {B : Nat} (S : Bg H d g B) (e : Ex H H') : Bg H' d g B := by
  obtain ⟨gs, l, t, f, h1, h2, h⟩ := S.ex
  exact ⟨gs, l, t, f, e _ _ h1, e _ _ h2, h⟩
theorem Bg.free {H : Hp} {d g : Addr} {B : Nat} (S : Bg H d g B) {p : Addr} (h : H p = none) : p ≠ d ∧ p ≠ g := by
  obtain ⟨gs, l, t, f, h1, h2, _⟩ := S.ex
  exact ⟨(ne_of_none h1 h).symm, (ne_of_none h2 h).symm⟩
theorem Bg.upd {H : Hp} {d g l : Addr} {B : Nat} {o : HO} (S : Bg H d g B) (f : l ≠ d ∧ l ≠ g) : Bg (upd H l o) d g B := by
  obtain ⟨gs, l', t, fo, h1, h2, h⟩ := S.ex
  exact ⟨gs, l', t, fo, by rw [upd_ne f.1.symm]; exact h1, by rw [upd_ne f.2.symm]; exact h2, h⟩
theorem Kp.newB {d g p : Addr} {B : Nat} {H H' : Hp} (k : Kp d g H H') (S : Bg H' d g B) (h : H' p = none) : H p = none := by
  have f := S.free h
  rcases e : H p with _ | o
  · rfl
  · rw [k.at f e] at h; cases h
def spBag (K : PySem.W.Frag) : Sp := fun vs H Q _ => ∃ (a : Addr) (ns : List Int), vs = [.ref a] ∧ SqL K H a (ns.map V.int) ∧ ns.length ≤ 63 ∧ ∀ d g H', H d = none → H g = none → Bg H' d g (2 ^ 29) → Ex H H' → Q (.ref d) H'
def spBdraw : Sp := fun vs H Q _ => ∃ (d g : Addr) (many : Int) (B : Nat), vs = [.ref d, .int many] ∧ 0 < many ∧ many ≤ 10 ^ 60 ∧ Bg H d g (B + 1) ∧ ∀ n H', 0 ≤ n → n < many → Bg H' d g B → Kp d g H H' → Q (.int n) H'
theorem KT.kb {H H' : Hp} {d g : Addr} {B : Nat} (S : Bg H d g B) (k : Kp d g H H') : KT H H' := fun q xs h => by
  obtain ⟨gs, l, t, f, h1, h2, _⟩ := S.ex
  exact k q _ (ne_of h h1 (by intro z; cases z)) (ne_of h h2 (by intro z; cases z)) h
theorem f_bdraw {d g : Addr} {B : Nat} {many : Int} {E : XK} (S : Bg H d g (B + 1)) (h0 : 0 < many) (hb : many ≤ 10 ^ 60) (q : ∀ n H', 0 ≤ n → n < many → Bg H' d g B → Kp d g H H' → Q (.int n) H') :
    spBdraw ([.ref d, .int many] ++ []) H Q E := ⟨d, g, many, B, rfl, h0, hb, S, q⟩
theorem f_newLb {d g : Addr} {B : Nat} {xs : List V} {R : Addr → Prop} (S : Bg H d g B) (hz : xs.length ≤ 1000) (q : ∀ p, H p = none → p ≠ d ∧ p ≠ g → Bg (upd H p (.lst xs)) d g B → Ex H (upd H p (.lst xs)) → (upd H p (.lst xs)) p = some (.lst xs) → R p) : xs.length ≤ sizeLine ∧ ∀ p, H p = none → R p :=
  ⟨sz1000 hz, fun p hp => q p hp (S.free hp) (S.ex_ (Ex.new hp)) (Ex.new hp) upd_same⟩
theorem f_newUb {d g : Addr} {B : Nat} {xs : List V} {R : Addr → Prop} (S : Bg H d g B) (hz : xs.length ≤ 1000) (q : ∀ p, H p = none → p ≠ d ∧ p ≠ g → Bg (upd H p (.tup xs)) d g B → Ex H (upd H p (.tup xs)) → (upd H p (.tup xs)) p = some (.tup xs) → R p) : xs.length ≤ sizeLine ∧ ∀ p, H p = none → R p :=
  ⟨sz1000 hz, fun p hp => q p hp (S.free hp) (S.ex_ (Ex.new hp)) (Ex.new hp) upd_same⟩
theorem f_ixT {p : Addr} {xs : List V} {n : Int} {v : V} (h : H p = some (.tup xs)) (ha : atI xs n = some v) (q : Q v H) : rIxT K (.ref p) (.int n) H Q := ⟨p, xs, n, v, rfl, rfl, st_of h, ha, q⟩
/-- d["k"] -/
theorem ev_dg {d : Addr} {kvs : List (Key × V)} {k : Str} {v : V} (h : Ev td σ H (.ref d)) (hk : Ev ty σ H (.str k)) (hd : H d = some (.dK kvs)) (hv : valV kvs (.inr k) = some v) : Ev (tDGet td ty) σ H v := fun H1 e Q q =>
  h H1 e _ fun H2 e2 => hk H2 (e.trans e2) _ fun H3 e3 => ⟨d, v, rfl, by rw [← hv]; exact DGet.k (k := .inr k) (e3 _ _ (e2 _ _ (e _ _ hd))), q H3 (e2.trans e3)⟩
/-- d["k"] = e -/
theorem s_dput {D : Ends} {d : Addr} {kvs : List (Key × V)} {k : Str} {v : V} (hd : H d = some (.dK kvs)) (hz : kvs.length ≤ 1000) (h : Ev te σ H v) (ho : Ev td σ H (.ref d)) (hk : Ev ty σ H (.str k)) (q : ∀ H1, Ex H H1 → D.nx σ (upd H1 d (.dK (putK kvs (.inr k) v)))) : sDPut td ty te D σ H :=
  h H (Ex.refl H) _ fun H1 e1 => ho H1 e1 _ fun H2 e2 => hk H2 (e1.trans e2) _ fun H3 e3 => ⟨d, _, rfl, DPut.k (k := .inr k) (((e1.trans e2).trans e3) _ _ hd) (Nat.lt_of_le_of_lt hz (by decide)), q H3 ((e1.trans e2).trans e3)⟩
/-- n turns, each of at most c draws and an int with φ -/
theorem lc_drawsB {vs : List Nat} {j n : Nat} {d g : Addr} {B c : Nat} (φ : Int → Prop) (S : Bg H d g (B + c * n)) (hn : n ≤ 1000) (hw : ∀ x, wipe ((wipe σ vs).set j (some x)) vs = wipe σ vs)
    (turn : ∀ (i : Nat) H' b, i < n → Kp d g H H' → Bg H' d g (b + c) → ∀ R : VK, (∀ z H2, φ z → Kp d g H' H2 → Bg H2 d g b → R (.int z) H2) → te ((wipe σ vs).set j (some (.int ((0 : Int) + (i : Int))))) H' R)
    (hd : ∀ (ks : List Int) (p : Addr) (H' : Hp), H p = none → p ≠ d ∧ p ≠ g → ks.length = n → (∀ k, k ∈ ks → φ k) → Bg H' d g B → Kp d g H H' → H' p = some (.lst (ks.map V.int)) → Q (.ref p) H') :
    LcR n (gName j) tYes te vs σ H Q := fun D hD => by
  have fD := S.free hD
  refine lc_range (lo := 0) (n := n) (fun i H' => ∃ ks : List Int, ks.length = i ∧ (∀ k, k ∈ ks → φ k) ∧ H' D = some (.lst (ks.map V.int)) ∧ Bg H' d g (B + c * (n - i)) ∧ Kp d g H H') ⟨[], rfl, (fun _ h => by simp at h), upd_same, S.ex_ (Ex.new hD), .of (Ex.new hD)⟩ (fun i H' hi ⟨ks, h1, h2, h3, h4, h5⟩ => ⟨hw _, ?_⟩) (fun H' ⟨ks, h1, h2, h3, h4, h5⟩ => hd ks D H' hD fD h1 h2 (h4.less (by omega)) h5 h3)
  have e : B + c * (n - i) = B + c * (n - (i + 1)) + c := by
    rw [show n - i = (n - (i + 1)) + 1 by omega, Nat.mul_add, Nat.mul_one]; omega
  rw [e] at h4
  refine f_yes ?_
  rw [if_pos rfl]
  refine turn i H' _ hi h5 h4 _ fun z H2 hz k2 S2 => ⟨_, k2.at fD h3, Nat.lt_of_le_of_lt (by rw [List.length_map]; omega : _ ≤ 1000) (by decide), ks ++ [z], by simp [h1], fun k hk => ?_, by rw [upd_same, List.map_append]; rfl, S2.upd fD, fun b o g1 g2 g => ?_⟩
  · rcases List.mem_append.mp hk with h | h
    · exact h2 k h
    · rw [List.mem_singleton.mp h]; exact hz
  · rw [upd_ne (ne_of_none g hD)]
    exact k2 b o g1 g2 (h5 b o g1 g2 g)
end
end Mc
namespace Mc
open PySem L2 Evl
/-! ### groups: their keys; a dict made by a comprehension -/
theorem putG_keys (k v : Int) : ∀ g : List (Int × List Int), (putG g k v).map Prod.fst = if k ∈ g.map Prod.fst then g.map Prod.fst else g.map Prod.fst ++ [k]
  | [] => rfl
  | (j, l) :: g => by
    have ih := putG_keys k v g
    unfold putG
    by_cases e : j = k
    · subst e
      rw [if_pos rfl, if_pos (by simp)]; rfl
    · have e2 : (k ∈ ((j, l) :: g).map Prod.fst) ↔ k ∈ g.map Prod.fst := by
        rw [List.map_cons, List.mem_cons]
        exact ⟨fun h => h.elim (fun z => absurd z.symm e) id, .inr⟩
      rw [if_neg e, List.map_cons, ih]
      by_cases h : k ∈ g.map Prod.fst
      · rw [if_pos h, if_pos (e2.mpr h)]; rfl
      · rw [if_neg h, if_neg (fun z => h (e2.mp z))]; rfl
theorem grp_nodup (d : Int) (ns : List Int) : ((grp d ns).map Prod.fst).Nodup := by
  have key : ∀ i, ((grp d (ns.take i)).map Prod.fst).Nodup := fun i => by
    induction i with
    | zero => exact List.nodup_nil
    | succ i ih =>
      cases h : ns[i]? with
      | none => rw [List.take_add_one, h, Option.toList_none, List.append_nil]; exact ih
      | some n =>
        rw [grp_take h, putG_keys]
        split
        · exact ih
        · next hn => exact List.nodup_append.mpr ⟨ih, (by simp), fun a ha b hb => by
            rw [List.mem_singleton.mp hb]
            exact fun z => hn (z ▸ ha)⟩
  have z := key ns.length
  rw [List.take_length] at z
  exact z
/-- one more group -/
theorem GAt.snoc {H0 H : Hp} {k : Int} {p : Addr} {l : List Int} (n : H0 p = none) (h : H p = some (.lst (l.map V.int))) : ∀ {kvs : List (Key × V)} {gs : List (Int × List Int)}, GAt H0 H kvs gs → (∀ kv, kv ∈ kvs → kv.2 ≠ .ref p) → GAt H0 H (kvs ++ [(.inl k, .ref p)]) (gs ++ [(k, l)])
  | _, _, .nil, _ => .cons n h (fun _ h => by simp at h) .nil
  | _, _, .cons (p := q) m h1 d t, far => .cons m h1 (fun kv hkv => by
      rcases List.mem_append.mp hkv with h2 | h2
      · exact d kv h2
      · rw [List.mem_singleton.mp h2]
        exact fun z => far _ (List.mem_cons_self ..) z.symm) (t.snoc n h fun kv hkv => far kv (List.mem_cons_of_mem _ hkv))
theorem GAt.none_ {H0 H : Hp} {k : Int} : ∀ {kvs : List (Key × V)} {gs : List (Int × List Int)}, GAt H0 H kvs gs → k ∉ gs.map Prod.fst → valV kvs (.inl k : Key) = none
  | _, _, .nil, _ => valV_nil
  | _, _, .cons (k := j) n h d t, hk => by
    rw [List.map_cons, List.mem_cons] at hk
    rw [valV_neg (show ¬ (Sum.inl j : Key) = Sum.inl k from fun z => hk (.inl (Sum.inl.inj z).symm))]
    exact t.none_ fun z => hk (.inr z)
theorem GAt.some_ {H0 H : Hp} : ∀ {kvs : List (Key × V)} {gs : List (Int × List Int)} {i : Nat} {x : Int × List Int}, GAt H0 H kvs gs → (gs.map Prod.fst).Nodup → gs[i]? = some x → ∃ p, kvs[i]? = some (.inl x.1, .ref p) ∧ valV kvs (.inl x.1 : Key) = some (.ref p) ∧ H0 p = none ∧ H p = some (.lst (x.2.map V.int))
  | _, _, _, _, .nil, _, h => by simp at h
  | _, _, 0, _, .cons (p := p) m h d t, _, e => by
    cases Option.some.inj e
    exact ⟨p, rfl, valV_pos rfl, m, h⟩
  | _, _, i + 1, x, .cons (k := j) (gs := gs) m h d t, nd, e => by
    rw [List.map_cons] at nd
    have e : gs[i]? = some x := e
    have nd2 := List.nodup_cons.mp nd
    obtain ⟨p, a, b, c⟩ := t.some_ (i := i) nd2.2 e
    have hx : x.1 ≠ j := fun z => nd2.1 (List.mem_map.mpr ⟨x, List.mem_of_getElem? e, z⟩)
    exact ⟨p, a, by rw [valV_neg (show ¬ (Sum.inl j : Key) = Sum.inl x.1 from fun z => hx (Sum.inl.inj z).symm)]; exact b, c⟩
theorem GAt.far {H0 H : Hp} {p : Addr} {o : Option HO} (np : H p = o) (hn : ∀ xs, o ≠ some (.lst xs)) : ∀ {kvs : List (Key × V)} {gs : List (Int × List Int)}, GAt H0 H kvs gs → ∀ kv, kv ∈ kvs → kv.2 ≠ .ref p
  | _, _, g, kv, hkv, z => by
    obtain ⟨q, l, e, h⟩ := g.news kv hkv
    rw [e] at z
    cases z
    rw [np] at h
    exact hn _ h
theorem f_dc {wi : TI} {g : TG} {tt : TT} {tk tv : TE} {vs : List Nat} {σ : L2.St} {H : Hp} {Q : VK} (h : wi σ H fun J H1 => ∀ D, H1 D = none → ∃ W : Nat → Nat → Hp → Prop, (∃ m, W 0 m (upd H1 D (.dK []))) ∧ ∀ i m H, W i m H →
    (J.stop i H ∧ Q (.ref D) H) ∨ (J.go i H ∧ ∃ Nx : Hp → Prop, (∀ H', Nx H' → ∃ m', m' < m ∧ W (i + 1) m' H') ∧ ∀ x H', J.yld i H x H' → g x (wipe σ vs) H' fun σ2 H2 => wipe σ2 vs = wipe σ vs ∧ tt σ2 H2 fun b H3 =>
      if b = true then tk σ2 H3 fun y H4 => tv σ2 H4 fun z H5 => ∃ kvs k, y = kV k ∧ H5 D = some (.dK kvs) ∧ kvs.length < sizeLine ∧ Nx (upd H5 D (.dK (putK kvs k z))) else Nx H3)) : tDc wi g tt tk tv vs σ H Q := h
theorem f_keys {td : TE} {σ : L2.St} {H : Hp} {R : It → Hp → Prop} (h : td σ H fun x H1 => ∃ d o, x = .ref d ∧ ((∃ kvs, H1 d = some (.frz o (.dK kvs)) ∧ R (Itk d o kvs) H1) ∨ ∃ kvs, H1 d = some (.frz o (.dT kvs)) ∧ R (Itkt d o kvs) H1)) : iKeys td σ H R := h
theorem f_frz {te : TE} {σ : L2.St} {H : Hp} {Q : VK} (h : te σ H fun x H1 => ∃ (d : Addr) (u : HO), x = .ref d ∧ H1 d = some u ∧ Mut (some u) ∧ ∀ od, Q x (upd H1 d (.frz od u))) : tFrz te σ H Q := h
theorem for_grp2 {K : PySem.W.Frag} {a k : Addr} {o : Obj} {kvs : List (Key × V)} {gs : List (Int × List Int)} {H0 G : Hp} {i j : Nat} {tu : TS} {D : Ends} {σ : L2.St} (ha : G a = some (.frz o (.dK kvs))) (hg : GAt H0 G kvs gs) (hk : ∃ u, H0 k = some u) (hak : a ≠ k)
    (P : Nat → L2.St → Hp → Prop) (h0 : P 0 σ G) (hs : ∀ (n : Nat) (x : Int × List Int) (p : Addr) (τ : L2.St) (U : Hp), gs[n]? = some x → P n τ U → Kr k G U → p ≠ k → U p = some (.lst (x.2.map V.int)) → ∀ T, U T = none →
      tu { D with nx := fun τ' U' => P (n + 1) τ' U' ∧ Kr k G U', ct := fun τ' U' => P (n + 1) τ' U' ∧ Kr k G U', bk := D.nx } ((τ.set i (some (.int x.1))).set j (some (.ref p))) (upd U T (.tup [.int x.1, .ref p])))
    (hd : ∀ τ U, P gs.length τ U → Kr k G U → D.nx τ U) :
    ∃ W : Nat → Nat → L2.St → Hp → Prop, (∃ m, W 0 m σ G) ∧ ∀ n m τ U, W n m τ U →
      ((Iti a o kvs).stop n U ∧ D.nx τ U) ∨ ((Iti a o kvs).go n U ∧ ∃ N : L2.St → Hp → Prop, (∀ τ' U', N τ' U' → ∃ m', m' < m ∧ W (n + 1) m' τ' U') ∧ ∀ x U', (Iti a o kvs).yld n U x U' → gTup K 2 (gCons (gName i) (gCons (gName j) gNil)) x τ U' fun τ2 U2 => tu { D with nx := N, ct := N, bk := D.nx } τ2 U2) := by
  have hl := hg.len
  refine ⟨fun n m τ U => m = kvs.length - n ∧ n ≤ kvs.length ∧ P n τ U ∧ Kr k G U, ⟨_, rfl, Nat.zero_le _, h0, Kr.refl⟩, ?_⟩
  rintro n m τ U ⟨rfl, hn, hp, kr⟩
  have haU : U a = some (.frz o (.dK kvs)) := kr.at hak ha
  by_cases hlt : n < kvs.length
  · refine .inr ⟨⟨haU, hlt⟩, fun τ' U' => P (n + 1) τ' U' ∧ Kr k G U', fun τ' U' z => ⟨kvs.length - (n + 1), by omega, rfl, hlt, z⟩, ?_⟩
    rintro x U' ⟨T, y, v, h1, rfl, hT, rfl⟩
    have hx : gs[n]? = some gs[n] := List.getElem?_eq_getElem (hl ▸ hlt)
    obtain ⟨p, h2, h3, h4⟩ := hg.get hx
    rw [h1] at h2
    cases h2
    have hpk : p ≠ k := fun z => by
      obtain ⟨u, hu⟩ := hk
      rw [z, hu] at h3; cases h3
    exact ⟨T, _, rfl, st_of upd_same, rfl, _, _, rfl, _, _, rfl, rfl, hs n _ p τ U hx hp kr hpk (kr.at hpk h4) T hT⟩
  · have e : n = kvs.length := by omega
    subst e
    exact .inl ⟨⟨haU, Nat.le_refl _⟩, hd τ U (hl ▸ hp) kr⟩
/-- [v(x) for x in a new list of ints] -/
theorem el_lcNI {K : PySem.W.Frag} {σ : L2.St} {H : Hp} {tl te : TE} {ns : List Int} {j : Nat} {vs : List Nat} (v : Int → V) (h : EvL tl σ H (ns.map V.int)) (hz : ns.length ≤ 40000) (hw : ∀ x, wipe ((wipe σ vs).set j (some x)) vs = wipe σ vs)
    (he : ∀ (x : Int) H1, Ex H H1 → x ∈ ns → Ev te ((wipe σ vs).set j (some (.int x))) H1 (v x)) : EvL (tLc (iList K tl) (gName j) tYes te vs) σ H (ns.map v) := by
  have z := el_lcNL (K := K) (t := tYes) (te := te) (j := j) (vs := vs) (fun _ => true) (fun i => v (ns.getD i 0)) h (by rw [List.length_map]; exact hz) hw (fun i x H1 _ _ => et_yes rfl) fun i x H1 e hi _ => by
    rw [List.getElem?_map] at hi
    obtain ⟨n, hn, rfl⟩ := Option.map_eq_some_iff.mp hi
    have e2 : ns.getD i 0 = n := by rw [List.getD_eq_getElem?_getD, hn]; rfl
    rw [e2]
    exact he n H1 e (List.mem_of_getElem? hn)
  rw [given_all, List.length_map, range_map v ns] at z
  exact z
section
variable {K : PySem.W.Frag} {σ : L2.St} {H : Hp} {Q : VK}
theorem f_callN {n m : Nat} {sp : Sp} {gV : List V → List V → List V} {E : XK} {ta tk : TA} (h : ta σ H fun vs H1 => tk σ H1 fun zs H2 => vs.length = n ∧ zs.length = m ∧ sp (gV vs zs) H2 Q E) : tCallN n m sp gV E ta tk σ H Q := h
/-- for x in a list, told as it comes -/
theorem f_forN {tl : TE} {g : TG} {tu : TS} {D : Ends} (h : tl σ H fun x H1 => ∃ a, x = .ref a ∧ (∃ xs, SqL K H1 a xs) ∧ ∃ W : Nat → Nat → L2.St → Hp → Prop, (∃ m, W 0 m σ H1) ∧ ∀ i m σ H, W i m σ H →
    ((Itl K a).stop i H ∧ D.nx σ H) ∨ ((Itl K a).go i H ∧ ∃ N : L2.St → Hp → Prop, (∀ σ' H', N σ' H' → ∃ m', m' < m ∧ W (i + 1) m' σ' H') ∧ ∀ x H', (Itl K a).yld i H x H' → g x σ H' fun σ2 H2 => tu { D with nx := N, ct := N, bk := D.nx } σ2 H2)) : tFor (iList K tl) g tu D σ H := h
end
section
variable {K : PySem.W.Frag} {w : World} {σ : L2.St} {H : Hp} {ta tb te tl : TE} {t tt : TT}
theorem eu_if {b : Bool} {xs : List V} (h : EvT t σ H b) (h1 : b = true → EvU ta σ H xs) (h2 : b = false → EvU tb σ H xs) : EvU (tIf t ta tb) σ H xs := fun H1 e Q q => h H1 e _ fun H2 e2 => by
  cases b with
  | true =>
    show ta σ H2 Q
    exact h1 rfl H2 (e.trans e2) Q fun p H3 np e3 h3 => q p H3 (fresh_back e2 np) (e2.trans e3) h3
  | false =>
    show tb σ H2 Q
    exact h2 rfl H2 (e.trans e2) Q fun p H3 np e3 h3 => q p H3 (fresh_back e2 np) (e2.trans e3) h3
theorem inV_ints (z : Int) : ∀ ks : List Int, inV (.int z) (ks.map V.int) = decide (z ∈ ks)
  | [] => by simp [inV]
  | k :: ks => by
    have ih := inV_ints z ks
    unfold inV at ih ⊢
    rw [List.map_cons, List.any_cons, ih]
    by_cases h : k = z
    · subst h
      rw [decide_eq_true (List.mem_cons_self ..)]
      have e : eqV (V.int k) (V.int k) = true := by simp [eqV]
      rw [e]; rfl
    · have e : eqV (V.int k) (V.int z) = false := by simp [eqV]; exact h
      rw [e, Bool.false_or]
      exact decide_eq_decide.mpr ⟨fun q => List.mem_cons_of_mem _ q, fun q => (List.mem_cons.mp q).elim (fun e => absurd e.symm h) id⟩
theorem flat_ints (ks : List Int) : (ks.map V.int).all flatV = true := by
  rw [List.all_map, List.all_eq_true]
  intro x _
  rfl
/-- sorted({f(x) for x in ns if φ(x)}) -/
theorem el_sortedScF {a : Addr} {ns : List Int} {j : Nat} {vs : List Nat} (φ : Int → Bool) (f : Int → Int) (h : Ev tl σ H (.ref a)) (hx : SqL K H a (ns.map V.int)) (hz : ns.length ≤ 1000) (hw : ∀ x, wipe ((wipe σ vs).set j (some x)) vs = wipe σ vs)
    (ht : ∀ (x : Int) (H1 : Hp), Ex H H1 → EvT tt ((wipe σ vs).set j (some (.int x))) H1 (φ x)) (he : ∀ (x : Int) (H1 : Hp), Ex H H1 → Ev te ((wipe σ vs).set j (some (.int x))) H1 (.int (f x))) : EvL (tCB (rSortedA w) (tCons (tScI w (iList K tl) (gName j) tt te vs) tNil)) σ H ((srt ((ns.filter φ).map f)).map V.int) := fun H1 e Q q =>
  h H1 e _ fun H2 e2 => ⟨a, rfl, ⟨_, ex_l (e.trans e2) hx⟩, fun D hD => by
    have hx2 := ex_l (e.trans e2) hx
    have z0 : (fun _ : Int => false) = fun y => decide (y ∈ ([] : List Int)) := by funext y; simp
    refine ⟨fun t m U => m = ns.length - t ∧ t ≤ ns.length ∧ Ex H2 U ∧ ∃ c, c ≤ t ∧ U D = some (SetO w D (fun y => decide (y ∈ ((ns.take t).filter φ).map f)) c), ⟨ns.length, rfl, Nat.zero_le _, Ex.new hD, 0, Nat.le_refl _, by rw [upd_same, z0]; rfl⟩, ?_⟩
    rintro t m U ⟨rfl, hlt', eU, c, hc, hU⟩
    have q2 := ex_l eU hx2
    have x2 := (e.trans e2).trans eU
    by_cases hlt : t < ns.length
    · have hat : (ns.map V.int)[t]? = some (.int ns[t]) := by rw [List.getElem?_map, List.getElem?_eq_getElem hlt]; rfl
      have htk : ns.take (t + 1) = ns.take t ++ [ns[t]] := by rw [List.take_add_one, List.getElem?_eq_getElem hlt]; rfl
      refine .inr ⟨⟨_, _, q2, hat⟩, fun U' => Ex H2 U' ∧ ∃ c, c ≤ t + 1 ∧ U' D = some (SetO w D (fun y => decide (y ∈ ((ns.take (t + 1)).filter φ).map f)) c), fun U' z => ⟨ns.length - (t + 1), by omega, rfl, hlt, z⟩, fun x U' y => ?_⟩
      obtain ⟨rfl, y⟩ := y
      have ex : x = .int ns[t] := Option.some.inj ((y _ q2).symm.trans hat)
      subst ex
      refine ⟨hw _, ht _ _ x2 _ (Ex.refl _) _ fun U3 e3 => ?_⟩
      rw [htk, List.filter_append, List.map_append]
      cases hφ : φ ns[t] with
      | true =>
        rw [if_pos rfl, List.filter_cons_of_pos hφ]
        refine f_ev (he _ _ (x2.trans e3)) fun U4 e4 => ⟨f ns[t], _, c, rfl, e4 _ _ (e3 _ _ hU), Nat.lt_of_le_of_lt (show c + 1 ≤ 1001 by omega) (by decide), fun b o g => ?_, ?_⟩
        · rw [upd_ne (ne_of_none g hD)]; exact e4 _ _ (e3 _ _ (eU _ _ g))
        · refine ⟨_, ?_, by rw [upd_same]; congr 2; funext y; simp only [List.filter_nil, List.map_cons, List.map_nil, List.mem_append, List.mem_singleton, Bool.decide_or]⟩
          split <;> omega
      | false =>
        rw [if_neg (fun z => nomatch z), List.filter_cons_of_neg (by rw [hφ]; decide)]
        refine ⟨fun b o g => e3 _ _ (eU _ _ g), c, by omega, ?_⟩
        rw [e3 _ _ hU, List.filter_nil, List.map_nil, List.append_nil]
    · have et : t = ns.length := by omega
      subst et
      rw [List.take_length] at hU
      refine .inl ⟨⟨_, q2, by rw [List.length_map]; exact Nat.le_refl _⟩, f_nil ⟨D, _, c, rfl, hU, by omega, fun ks p k1 k2 k3 hp => ?_⟩⟩
      have e3 : ks = srt ((ns.filter φ).map f) := asc_uniq k1 (pw_srt _) fun k => by rw [k2 k, mem_srt]; simp
      subst e3
      exact q p _ (fresh_back (e2.trans eU) hp) ((e2.trans eU).trans (Ex.new hp)) upd_same⟩
end
/-- what a dict of groups holds at a key -/
theorem GAt.at_ {H0 H : Hp} {r : Int} : ∀ {kvs : List (Key × V)} {gs : List (Int × List Int)}, GAt H0 H kvs gs → (valV kvs (.inl r : Key) = none ∧ r ∉ gs.map Prod.fst) ∨ ∃ p l, valV kvs (.inl r : Key) = some (.ref p) ∧ H p = some (.lst (l.map V.int)) ∧ gs.find? (fun x => decide (x.1 = r)) = some (r, l)
  | _, _, .nil => .inl ⟨valV_nil, by simp⟩
  | _, _, .cons (k := j) (p := p) (l := l) n h d t => by
    by_cases e : j = r
    · subst e
      exact .inr ⟨p, l, valV_pos rfl, h, by rw [List.find?_cons_of_pos (by simp)]⟩
    · have e1 : ¬ (Sum.inl j : Key) = Sum.inl r := fun z => e (Sum.inl.inj z)
      rcases t.at_ (r := r) with ⟨a, b⟩ | ⟨p', l', a, b, c⟩
      · exact .inl ⟨by rw [valV_neg e1]; exact a, by rw [List.map_cons, List.mem_cons]; exact fun z => z.elim (fun q => e q.symm) b⟩
      · exact .inr ⟨p', l', by rw [valV_neg e1]; exact a, b, by rw [List.find?_cons_of_neg (by simp [e])]; exact c⟩
section
variable {K : PySem.W.Frag} {σ : L2.St} {H : Hp} {ta tb : TE}
/-- a list of a name, and a new one behind it -/
theorem el_catV {a : Addr} {xs ys : List V} (h : Ev ta σ H (.ref a)) (hs : H a = some (.lst xs)) (hb : EvL tb σ H ys) (hz : xs.length + ys.length ≤ 100000) : EvL (tOp rCat ta tb) σ H (xs ++ ys) := fun H1 e Q q =>
  h H1 e _ fun H2 e2 => hb H2 (e.trans e2) _ fun r H3 _ e3 h3 => ⟨a, r, xs, ys, rfl, rfl, ((e.trans e2).trans e3) _ _ hs, h3, sz_of hz, fun l hl => q l _ (fresh_back (e2.trans e3) hl) ((e2.trans e3).trans (Ex.new hl)) upd_same⟩
theorem el_catVV {a b : Addr} {xs ys : List V} (h : Ev ta σ H (.ref a)) (hs : H a = some (.lst xs)) (h2 : Ev tb σ H (.ref b)) (hs2 : H b = some (.lst ys)) (hz : xs.length + ys.length ≤ 100000) : EvL (tOp rCat ta tb) σ H (xs ++ ys) := fun H1 e Q q =>
  h H1 e _ fun H2 e2 => h2 H2 (e.trans e2) _ fun H3 e3 => ⟨a, b, xs, ys, rfl, rfl, ((e.trans e2).trans e3) _ _ hs, ((e.trans e2).trans e3) _ _ hs2, sz_of hz, fun l hl => q l _ (fresh_back (e2.trans e3) hl) ((e2.trans e3).trans (Ex.new hl)) upd_same⟩
/-- a list's truth -/
theorem et_truL {a : Addr} {xs : List V} (h : Ev ta σ H (.ref a)) (hs : SqL K H a xs) : EvT (fun σ H Q => ta σ H fun x H' => ∃ k, TruV K x H' k ∧ Q k H') σ H (!xs.isEmpty) := fun H1 e Q q =>
  h H1 e _ fun H2 e2 => ⟨!xs.isEmpty, .inl ⟨xs, ex_l (e.trans e2) hs, rfl⟩, q H2 e2⟩
theorem ev_sumV {a : Addr} {ks : List Int} (h : Ev ta σ H (.ref a)) (hs : SqL K H a (ks.map V.int)) : Ev (tCB (rSum K) (tCons ta tNil)) σ H (.int ks.sum) := ev_cb (ea_cons h ea_nil) fun H2 e2 Q' q' => ⟨a, ks, rfl, ex_l e2 hs, q' H2 (Ex.refl H2)⟩
end
/-! ### repr of a bool, of an int -/
section
variable {X : Cx}
def rReprB : List V → Hp → VK → Prop := fun xs H Q => ∃ b : Bool, xs = [.bl b] ∧ Q (.str (if b then "True" else "False")) H
theorem cr_reprB : CallR X (.builtin "repr") rReprB := by
  intro pins s σ H xs us Q I r h
  obtain ⟨b, rfl, q⟩ := h
  obtain ⟨u, rfl, rfl⟩ := vals1 r
  exact PySem.P.repr_of_bool ⟨.str _, H, I.tok _, ⟨_, rfl⟩, q⟩
def rReprI : List V → Hp → VK → Prop := fun xs H Q => ∃ i : Int, xs = [.int i] ∧ i.natAbs.log2 < 1920 ∧ Q (.str (toString i)) H
theorem cr_reprI : CallR X (.builtin "repr") rReprI := by
  intro pins s σ H xs us Q I r h
  obtain ⟨i, rfl, hz, q⟩ := h
  obtain ⟨u, rfl, t, rfl⟩ := vals1 r
  exact PySem.P.repr_of_int hz ⟨.str _, H, I.tok _, ⟨_, rfl⟩, q⟩
end
section
variable {σ : L2.St} {H : Hp} {te : TE}
theorem ev_reprB {b : Bool} (h : Ev te σ H (.bl b)) : Ev (tCB rReprB (tCons te tNil)) σ H (.str (if b then "True" else "False")) := ev_cb (ea_cons h ea_nil) fun H2 e2 Q' q' => ⟨b, rfl, q' H2 (Ex.refl H2)⟩
theorem ev_reprI {i : Int} (h : Ev te σ H (.int i)) (hi : i.natAbs.log2 < 1920) : Ev (tCB rReprI (tCons te tNil)) σ H (.str (toString i)) := ev_cb (ea_cons h ea_nil) fun H2 e2 Q' q' => ⟨i, rfl, hi, q' H2 (Ex.refl H2)⟩
end
end Mc
namespace Mc
open PySem L2 Evl TL
/-! ### words of numbers: how they are written -/
/-- the signs of an int -/
def intL (k : Int) : List Nat := (if k < 0 then [45] else []) ++ numL k.natAbs
theorem tl_int (k : Int) : tl (Str.ofString (toString k)) = intL k := by
  unfold intL
  by_cases h : k < 0
  · rw [if_pos h, tl_ofString]
    obtain ⟨m, rfl⟩ := Int.eq_negSucc_of_lt_zero h
    show (String.append "-" (Nat.repr (m + 1))).toList.map Char.toNat = _
    rw [show (String.append "-" (Nat.repr (m + 1))).toList = '-' :: (Nat.repr (m + 1)).toList from String.toList_append, Nat.toList_repr]
    rfl
  · obtain ⟨m, rfl⟩ := Int.eq_ofNat_of_zero_le (Int.not_lt.mp h)
    rw [if_neg h]
    exact tl_num m
theorem numL_head : ∀ (n : Nat), 0 < n → ∃ c r, numL n = c :: r ∧ c ≠ 48 := by
  intro n
  induction n using Nat.strongRecOn with
  | _ n ih =>
    intro h0
    by_cases h : n < 10
    · exact ⟨48 + n, [], numL_lt h, by omega⟩
    · obtain ⟨c, r, e, hc⟩ := ih (n / 10) (by omega) (by omega)
      exact ⟨c, r ++ [48 + n % 10], by rw [numL_step (by omega), e]; rfl, hc⟩
/-- a word of a list of steps -/
def plusL (k : Int) : List Nat := if k = 0 then [48] else (if k < 0 then [45] else [43]) ++ numL k.natAbs
theorem len_le_of {k : Int} {n : Nat} (hn : 0 < n) (h : k.natAbs < 10 ^ n) : (numL k.natAbs).length ≤ n := numL_len hn h
/-! ### words of numbers: how they are read -/
/-- a positive number of at most sixty digits -/
def posL (l : List Nat) : Bool := decide (l.length ≤ 60) && !(l.head? == some 48) && decide (0 < l.length) && l.all fun c => decide (48 ≤ c) && decide (c ≤ 57)
theorem digit_sign : ∀ c : Nat, c < 128 → Unicode.isDigit c = (decide (48 ≤ c) && decide (c ≤ 57)) := by decide +kernel
theorem sw_one {x y : Str} {c : Nat} (ey : tl y = [c]) : Txt.startswith x y = ((tl x).head? == some c) := by
  have hy : tl y ≠ [] := by rw [ey]; simp
  have hl : y.length = 1 := by rw [len_tl, ey]; rfl
  have hx := len_tl x
  unfold Txt.startswith
  rw [StrLaws.subAt_eq, show y.cps.toList = [c] from ey, hl, List.drop_zero]
  show (decide (0 + 1 ≤ x.length) && (List.take 1 (tl x) == [c])) = _
  cases e : tl x with
  | nil =>
    rw [e] at hx
    rw [hx]; rfl
  | cons d r =>
    rw [e] at hx
    rw [show decide (0 + 1 ≤ x.length) = true from decide_eq_true (by rw [hx, List.length_cons]; omega), Bool.true_and]
    show ([d] == [c]) = (some d == some c)
    by_cases h : d = c
    · subst h; simp
    · rw [show ([d] == [c]) = false from by simpa using h, show (some d == some c) = false from by simpa using h]
theorem sw_nil {x y : Str} (ey : tl y = []) : Txt.startswith x y = true := by
  have hl : y.length = 0 := by rw [len_tl, ey]; rfl
  unfold Txt.startswith
  rw [StrLaws.subAt_eq, show y.cps.toList = [] from ey, hl]
  simp
theorem tl_cut {x : Str} {n : Nat} : tl (cutS x (some (n : Int)) none) = (tl x).drop n := by
  show (((x.cps.toList.drop (HT.sIx x.length 0 (some (n : Int)))).take (HT.sIx x.length x.length none - HT.sIx x.length 0 (some (n : Int)))).toArray).toList = _
  rw [HT.sIx_none, HT.sIx_nat]
  have hx : x.length = (tl x).length := len_tl x
  show ((tl x).drop (min n x.length)).take (x.length - min n x.length) = _
  rw [hx, List.take_of_length_le (by rw [List.length_drop]; exact Nat.le_refl _)]
  rcases Nat.le_total n (tl x).length with h | h
  · rw [Nat.min_eq_left h]
  · rw [Nat.min_eq_right h, List.drop_length, List.drop_eq_nil_of_le h]
theorem pos_is (d : Str) : (if (decide ((d.length : Int) > 60) || Txt.startswith d "0") = true then false else (Txt.isascii d && Txt.isdigit d)) = posL (tl d) := by
  have hl := len_tl d
  rw [sw_one (y := "0") (c := 48) (by decide +kernel)]
  unfold posL Txt.isascii Txt.isdigit
  rw [← Array.all_toList, ← Array.all_toList, show d.cps.toList = tl d from rfl, hl]
  by_cases h1 : (tl d).length ≤ 60
  · rw [show decide (((tl d).length : Int) > 60) = false from decide_eq_false (by omega), decide_eq_true h1, Bool.false_or, Bool.true_and]
    cases h2 : (tl d).head? == some 48 with
    | true => rfl
    | false =>
      rw [if_neg (fun z => nomatch z), Bool.not_false, Bool.true_and]
      have key : ∀ l : List Nat, (l.all (fun c => decide (c < 128)) && l.all Unicode.isDigit) = l.all fun c => decide (48 ≤ c) && decide (c ≤ 57) := fun l => by
        induction l with
        | nil => rfl
        | cons c r ih =>
          rw [List.all_cons, List.all_cons, List.all_cons, ← ih]
          by_cases hc : c < 128
          · rw [decide_eq_true hc, digit_sign c hc]
            cases (decide (48 ≤ c) && decide (c ≤ 57)) <;> cases r.all (fun c => decide (c < 128)) <;> rfl
          · rw [decide_eq_false hc, show decide (c ≤ 57) = false from decide_eq_false (by omega)]
            simp
      rw [← key]
      cases (tl d).all (fun c => decide (c < 128)) <;> cases (tl d).all Unicode.isDigit <;> simp
  · rw [show decide (((tl d).length : Int) > 60) = true from decide_eq_true (by omega), decide_eq_false h1]
    rfl
/-- the integer of a word, in which positive ones begin with this sign -/
def readL (w p : List Nat) : Option Int :=
  if w = [48] then some 0 else
  if w.head? = some 45 then (if posL w.tail = true then some (-(NumText.digitsVal w.tail : Nat)) else none) else
  if p = [] then (if posL w = true then some (NumText.digitsVal w : Nat) else none) else
  if w.head? = p.head? then (if posL (w.drop 1) = true then some (NumText.digitsVal (w.drop 1) : Nat) else none) else none
theorem posL_digits {l : List Nat} (h : posL l = true) : NumText.AllDigits l ∧ l ≠ [] ∧ l.length ≤ 60 := by
  unfold posL at h
  simp only [Bool.and_eq_true, decide_eq_true_eq, List.all_eq_true] at h
  obtain ⟨⟨⟨h1, h2⟩, h3⟩, h4⟩ := h
  exact ⟨fun c hc => h4 c hc, List.length_pos_iff.mp h3, h1⟩
theorem posL_int {d : Str} (h : posL (tl d) = true) : PySem.intText? d = some ((NumText.digitsVal (tl d) : Nat) : Int) ∧ d.length ≤ 640 := by
  obtain ⟨a, b, c⟩ := posL_digits h
  have hl := len_tl d
  exact ⟨intText_digits a b (by omega), by omega⟩
theorem posL_num {n : Nat} (h0 : 0 < n) (h : n < 10 ^ 60) : posL (numL n) = true := by
  obtain ⟨c, r, e, hc⟩ := numL_head n h0
  have hd := numL_digits n
  have hl := numL_len (n := n) (k := 60) (by decide) h
  unfold posL
  simp only [Bool.and_eq_true, decide_eq_true_eq, List.all_eq_true]
  refine ⟨⟨⟨hl, ?_⟩, ?_⟩, fun c hc => hd c hc⟩
  · rw [e]; simpa using hc
  · rw [e]; simp
/-- what is written is read -/
theorem read_neg {l p : List Nat} : readL (45 :: l) p = if posL l = true then some (-((NumText.digitsVal l : Nat) : Int)) else none := by
  unfold readL
  rw [if_neg (show ¬ (45 :: l) = [48] by simp), if_pos (show (45 :: l).head? = some 45 from rfl)]; rfl
theorem read_pos {l : List Nat} : readL (43 :: l) [43] = if posL l = true then some ((NumText.digitsVal l : Nat) : Int) else none := by
  unfold readL
  rw [if_neg (show ¬ (43 :: l) = [48] by simp), if_neg (show ¬ (43 :: l).head? = some 45 by simp), if_neg (show ¬ ([43] : List Nat) = [] by simp), if_pos (show (43 :: l).head? = [43].head? from rfl)]; rfl
theorem read_plain {l : List Nat} (h0 : l ≠ [48]) (h1 : l.head? ≠ some 45) : readL l [] = if posL l = true then some ((NumText.digitsVal l : Nat) : Int) else none := by
  unfold readL
  rw [if_neg h0, if_neg h1, if_pos rfl]
theorem nat_neg {k : Int} (h : k < 0) : -((k.natAbs : Nat) : Int) = k := by omega
theorem nat_pos {k : Int} (h : ¬ k < 0) : ((k.natAbs : Nat) : Int) = k := by omega
theorem read_plus {k : Int} (h : k.natAbs < 10 ^ 60) : readL (plusL k) [43] = some k := by
  unfold plusL
  by_cases h0 : k = 0
  · subst h0; rfl
  rw [if_neg h0]
  have hz := posL_num (show 0 < k.natAbs by omega) h
  have hv := numL_val k.natAbs
  by_cases hn : k < 0
  · rw [if_pos hn]
    show readL (45 :: numL k.natAbs) [43] = _
    rw [read_neg, if_pos hz, hv, nat_neg hn]
  · rw [if_neg hn]
    show readL (43 :: numL k.natAbs) [43] = _
    rw [read_pos, if_pos hz, hv, nat_pos hn]
theorem read_int {k : Int} (h : k.natAbs < 10 ^ 60) : readL (intL k) [] = some k := by
  unfold intL
  by_cases h0 : k = 0
  · subst h0; rfl
  have hp : 0 < k.natAbs := by omega
  have hz := posL_num hp h
  have hv := numL_val k.natAbs
  by_cases hn : k < 0
  · rw [if_pos hn]
    show readL (45 :: numL k.natAbs) [] = _
    rw [read_neg, if_pos hz, hv, nat_neg hn]
  · rw [if_neg hn, List.nil_append]
    obtain ⟨c, r, e, hc⟩ := numL_head _ hp
    have hd := numL_digits k.natAbs c (by rw [e]; exact List.mem_cons_self ..)
    rw [read_plain (by rw [e]; intro z; exact hc (List.cons.inj z).1) (by rw [e]; intro z; have := Option.some.inj z; omega), if_pos hz, hv, nat_pos hn]
/-! ### f"{k:+d}" -/
end Mc
namespace Mc
open PySem PySem.Builtin PySem.Builtin.Float L2 Evl TL PyProof.Rows
def signedL (k : Int) : List Nat := (if k < 0 then [45] else [43]) ++ numL k.natAbs
def signedText (k : Int) : Str := ⟨(signedL k).toArray⟩
/-- what the spec +d says -/
def plusF : FormatSpec := { fill := 32, align := 62, sign := some 43, type := some 100 }
theorem plus_read : ∀ name, parseFormatSpec (Str.ofString "+d").cps.toList name 62 = .ok plusF := fun name => by
  rfl
theorem plus_text (neg : Bool) {ds : List Nat} (h : ds ≠ []) : intField' plusF neg [] ds [] 3 = ⟨((if neg = true then [45] else [43]) ++ ds).toArray⟩ := by
  have he : ds.isEmpty = false := by cases ds with | nil => exact absurd rfl h | cons _ _ => rfl
  have z : ((-1 : Int) - ((1 : Nat) + (0 : Nat) + (0 : Nat)) - (ds.length : Nat)).toNat = 0 := by omega
  cases neg <;> (unfold intField' plusF; simp [he, z])
theorem numL_log {i : Int} (h : i.natAbs.log2 < 1920) : (numL i.natAbs).length ≤ 1000 := numL_len (by decide) (Nat.lt_of_lt_of_le (Nat.lt_of_lt_of_le (Nat.lt_log2_self) (Nat.pow_le_pow_right (by decide) h)) (by decide +kernel))
section
variable {M : Model} {A : Around} {E : Value → Shared → Prop} {s : Shared} {α : Type} {Q : α → Shared → Prop} {c : Prop} [Decidable c] {a b : Sem α}
theorem wp_no (hc : ¬ c) (h : wpAny M A b Q E s) : wpAny M A (if c then a else b) Q E s := by rw [if_neg hc]; exact h
theorem wp_yes (hc : c) (h : wpAny M A a Q E s) : wpAny M A (if c then a else b) Q E s := by rw [if_pos hc]; exact h
end
theorem plus_meets (i : Int) (t : Tok) (hz : i.natAbs.log2 < 1920) : ∀ u, Meets (Builtin.«int.__format__» ⟨[.int i t, .str (Str.ofString "+d") u], []⟩) (fun _ R s => ∀ t' k, R (.ok (.ret (.str (signedText i) t'))) { s with toks := k }) := by
  intro u
  refine PySem.W.KPc.meets_of fun prog w A s Q E done => ?_
  unfold Builtin.«int.__format__»
  refine wpAny_bind (wpAny_of_eq (a := (_, _)) rfl ?_)
  refine wpAny_bind (wpAny_of_eq (a := _) rfl ?_)
  refine wpAny_ite (PySem.W.KPc.ite_no (fun z => Bool.false_ne_true z) ?_)
  refine wpAny_bind (wpAny_typeNameOf (T := "str") (typeIs_str _ _ _) (by decide) fun _ => ?_)
  refine wpAny_bind (wpAny_of_eq (a := some _) rfl ?_)
  refine wpAny_ite (PySem.W.KPc.ite_no (by decide +kernel) ?_)
  refine wpAny_ite (PySem.W.KPc.ite_no (fun z => Bool.false_ne_true z) ?_)
  refine wpAny_bind (wpAny_typeNameOfCut_int ?_)
  rw [plus_read]
  show wpAny _ _ (if _ then _ else _) _ _ _
  refine wp_yes (by decide +kernel) ?_
  show wpAny _ _ (overDigitLimit? i >>= _) _ _ _
  refine wpAny_bind (wpAny_of_eq (PyProof.Rows.overDigitLimit_small hz) ?_)
  have hd : (Nat.toDigits 10 i.natAbs).map (fun c => (if ((100 : Nat) == 88) = true then c.toUpper else c).toNat) = numL i.natAbs := rfl
  refine PySem.W.KXf.ret_text (T := signedText i) ?_ ?_ done
  · show intField' plusF (decide (i < 0)) [] (numL i.natAbs) [] 3 = signedText i
    rw [plus_text _ (numL_ne _)]
    unfold signedText signedL
    by_cases h : i < 0
    · rw [decide_eq_true h, if_pos rfl, if_pos h]
    · rw [decide_eq_false h, if_neg (fun z => nomatch z), if_neg h]
  · show (intField' plusF (decide (i < 0)) [] (numL i.natAbs) [] 3).length ≤ sizeLine
    rw [plus_text _ (numL_ne _)]
    have e := numL_log hz
    show (((if decide (i < 0) = true then [45] else [43]) ++ numL i.natAbs).toArray).size ≤ sizeLine
    rw [List.size_toArray, List.length_append, sizeLine_eq]
    split <;> (simp; omega)
section
variable {X : Cx}
/-- {k:+d}, of an int -/
def tFmtP (te : TE) : TE := fun σ H Q => te σ H fun x H1 => ∃ i : Int, x = .int i ∧ i.natAbs.log2 < 1920 ∧ Q (.str (signedText i)) H1
theorem pe_fmtP {e : Expr} {te : TE} {p1 p2 p3 : Pos} (he : PE X e te) : PE X (.FormattedValue e (-1) (some (.JoinedStr [.Constant (.str "+d") 0 p1] p2)) p3) (tFmtP te) := by
  refine ⟨fun pins s σ H Q I h => wpAny_FormattedValue_spec (thn (he.run pins s σ H _ I h) fun v s1 ⟨x, H1, I1, r1, i, ex, hz, q⟩ => ?_)⟩
  subst ex
  obtain ⟨t, rfl⟩ := r1
  refine thn ((pe_joined1 (pos := p2) (pe_str (X := X) (x := "+d") (j := 0) (pos := p1))).run pins s1 σ H1 (fun y H2 => y = .str "+d" ∧ H2 = H1) I1 ⟨rfl, rfl⟩) fun u s2 ⟨y, H2, I2, r2, ey, eH⟩ => ?_
  subst ey
  subst eH
  obtain ⟨t2, rfl⟩ := r2
  exact ⟨_, t2, rfl, PySem.W.KXf.field_int rfl (by decide) (by decide) (plus_meets i t hz) fun t' k => ⟨.str (signedText i), H2, I2.tok k, ⟨t', rfl⟩, q⟩⟩
end
end Mc
namespace Mc
open PySem L2 Evl TL
/-! ### readings of texts -/
section
variable {K : PySem.W.Frag} {σ : L2.St} {H : Hp} {Q : VK} {te to ta tb tk : TE}
abbrev rSw : V → List V → Hp → VK → Prop := fun x xs H Q => ∃ a b, x = .str a ∧ xs = [.str b] ∧ Q (.bl (Txt.startswith a b)) H
theorem ev_sw {a b : Str} (h : Ev to σ H (.str a)) (hb : Ev te σ H (.str b)) : Ev (tM1 rSw to te) σ H (.bl (Txt.startswith a b)) := fun H1 e Q q =>
  h H1 e _ fun H2 e2 => ⟨⟨a, rfl⟩, hb H2 (e.trans e2) _ fun H3 e3 => ⟨a, b, rfl, rfl, q H3 (e2.trans e3)⟩⟩
theorem ev_m0 {a : Str} {g : Str → Bool} (h : Ev to σ H (.str a)) : Ev (tM0 (fun x xs H Q => ∃ a, x = .str a ∧ xs = [] ∧ True ∧ Q (.bl (g a)) H) to) σ H (.bl (g a)) := fun H1 e Q q =>
  h H1 e _ fun H2 e2 => ⟨⟨a, rfl⟩, a, rfl, rfl, trivial, q H2 e2⟩
theorem ev_lenT {a : Str} (h : Ev te σ H (.str a)) (hz : a.length ≤ 1000000) : Ev (tCB (fun xs H Q => ∃ z, xs = [.str z] ∧ z.length ≤ sizeLine ∧ Q (.int z.length) H) (tCons te tNil)) σ H (.int (a.length : Int)) :=
  ev_cb (ea_cons h ea_nil) fun H2 e2 Q' q' => ⟨a, rfl, Nat.le_trans hz (by decide), q' H2 (Ex.refl H2)⟩
theorem ev_from {a : Str} {n : Int} (h : Ev te σ H (.str a)) (hn : Ev tk σ H (.int n)) (hz : a.length ≤ 1000000) : Ev (tSl rSlS te (tPart tk) tNoPart) σ H (.str (cutS a (some n) none)) := fun H1 e Q q =>
  h H1 e _ fun H2 e2 => eo_some hn H2 (e.trans e2) _ fun H3 e3 => eo_none H3 ((e.trans e2).trans e3) _ fun H4 e4 => ⟨a, rfl, Nat.le_trans hz (by decide), q H4 ((e2.trans e3).trans e4)⟩
theorem ev_intT {a : Str} {n : Int} (h : Ev te σ H (.str a)) (hn : PySem.intText? a = some n) (hz : a.length ≤ 640) : Ev (tCB (fun xs H Q => ∃ a n, xs = [.str a] ∧ PySem.intText? a = some n ∧ a.length ≤ 640 ∧ Q (.int n) H) (tCons te tNil)) σ H (.int n) :=
  ev_cb (ea_cons h ea_nil) fun H2 e2 Q' q' => ⟨a, n, rfl, hn, hz, q' H2 (Ex.refl H2)⟩
abbrev rAddS : R2 := fun x y H Q => ∃ i j : Str, x = .str i ∧ y = .str j ∧ i.length + j.length ≤ sizeLine ∧ Q (.str (i ++ j)) H
theorem ev_addS {a b : Str} (h : Ev ta σ H (.str a)) (hb : Ev tb σ H (.str b)) (hz : a.length + b.length ≤ 1000000) : Ev (tOp rAddS ta tb) σ H (.str (a ++ b)) :=
  ev_op h hb fun H1 _ Q q => ⟨_, _, rfl, rfl, Nat.le_trans hz (by decide), q H1 (Ex.refl H1)⟩
theorem ev_strI {i : Int} (h : Ev te σ H (.int i)) (hi : i.natAbs ≤ 10 ^ 100) : Ev (tCB (fun xs H Q => ∃ i : Int, xs = [.int i] ∧ i.natAbs.log2 < 1920 ∧ Q (.str (toString i)) H) (tCons te tNil)) σ H (.str (Str.ofString (toString i))) :=
  ev_cb (ea_cons h ea_nil) fun H2 e2 Q' q' => ⟨i, rfl, Nat.lt_of_lt_of_le (log_le hi) (by decide), q' H2 (Ex.refl H2)⟩
theorem rv_eqT2 {x y : Str} : RV rEq (.str x) (.str y) H (.bl (decide (x = y))) := fun H1 _ _ q => ⟨rfl, by
  have e : decide (V.str x = V.str y) = decide (x = y) := by
    by_cases h : x = y
    · subst h; simp
    · rw [decide_eq_false h, decide_eq_false (fun e => h (V.str.inj e))]
  rw [e]; exact q H1 (Ex.refl H1)⟩
theorem ev_fmtI {i : Int} (h : Ev te σ H (.int i)) (hi : i.natAbs ≤ 10 ^ 100) : Ev (tFmt te) σ H (.str (Str.ofString (toString i))) := fun H1 e Q q =>
  h H1 e _ fun H2 e2 => .inr ⟨i, rfl, Nat.lt_of_lt_of_le (log_le hi) (by decide), q H2 e2⟩
theorem ev_fmtP {i : Int} (h : Ev te σ H (.int i)) (hi : i.natAbs ≤ 10 ^ 100) : Ev (tFmtP te) σ H (.str (signedText i)) := fun H1 e Q q =>
  h H1 e _ fun H2 e2 => ⟨i, rfl, Nat.lt_of_lt_of_le (log_le hi) (by decide), q H2 e2⟩
theorem ev_if' {b : Bool} {v1 v2 : V} {t : TT} (h : EvT t σ H b) (h1 : b = true → Ev ta σ H v1) (h2 : b = false → Ev tb σ H v2) : Ev (tIf t ta tb) σ H (if b = true then v1 else v2) := by
  refine ev_if h (fun e => ?_) (fun e => ?_)
  · subst e; exact h1 rfl
  · subst e; exact h2 rfl
/-- a new list of texts, split -/
theorem el_split {a b : Str} (h : Ev to σ H (.str a)) (hb : Ev te σ H (.str b)) (hn : (b.length == 0) = false) (hz : a.length ≤ 1000000) :
    EvL (tM1 (fun x xs H Q => ∃ a b, x = .str a ∧ xs = [.str b] ∧ (b.length == 0) = false ∧ a.length + 2 ≤ sizeLine ∧ rNewStrs (Txt.split a b) H Q) to te) σ H ((Txt.split a b).map V.str) := fun H1 e Q q =>
  h H1 e _ fun H2 e2 => ⟨⟨a, rfl⟩, hb H2 (e.trans e2) _ fun H3 e3 => ⟨a, b, rfl, rfl, hn, Nat.le_trans (Nat.add_le_add_right hz 2) (by decide), fun p hp => q p _ (fresh_back (e2.trans e3) hp) ((e2.trans e3).trans (Ex.new hp)) upd_same⟩⟩
/-- joined -/
theorem ev_joinV {a : Str} {p : Addr} {ys : List Str} (h : Ev to σ H (.str a)) (hp : Ev te σ H (.ref p)) (hs : SqL K H p (ys.map V.str)) (hz : (ys.map (·.length)).sum + ys.length * a.length ≤ 1000000) :
    Ev (tM1 (fun x xs H Q => ∃ a p, ∃ ys : List Str, x = .str a ∧ xs = [.ref p] ∧ (SqL K H p (ys.map V.str) ∨ SqT K H p (ys.map V.str)) ∧ (ys.map (·.length)).sum + ys.length * a.length ≤ 16777216 ∧ Q (.str (Txt.join a ys)) H) to te) σ H (.str (Txt.join a ys)) := fun H1 e Q q =>
  h H1 e _ fun H2 e2 => ⟨⟨a, rfl⟩, hp H2 (e.trans e2) _ fun H3 e3 => ⟨a, p, ys, rfl, rfl, .inl (ex_l ((e.trans e2).trans e3) hs), Nat.le_trans hz (by decide), q H3 (e2.trans e3)⟩⟩
theorem ev_joinL {a : Str} {ys : List Str} (h : Ev to σ H (.str a)) (hp : EvL te σ H (ys.map V.str)) (hz : (ys.map (·.length)).sum + ys.length * a.length ≤ 1000000) :
    Ev (tM1 (fun x xs H Q => ∃ a p, ∃ ys : List Str, x = .str a ∧ xs = [.ref p] ∧ (SqL K H p (ys.map V.str) ∨ SqT K H p (ys.map V.str)) ∧ (ys.map (·.length)).sum + ys.length * a.length ≤ 16777216 ∧ Q (.str (Txt.join a ys)) H) to te) σ H (.str (Txt.join a ys)) := fun H1 e Q q =>
  h H1 e _ fun H2 e2 => ⟨⟨a, rfl⟩, hp H2 (e.trans e2) _ fun p H3 _ e3 h3 => ⟨a, p, ys, rfl, rfl, .inl (sq_of h3), Nat.le_trans hz (by decide), q H3 (e2.trans e3)⟩⟩
/-- [f(z) for z in a list of texts] -/
theorem el_lcS {tl : TE} {zs : List Str} {j : Nat} {vs : List Nat} (v : Str → V) (h : EvL tl σ H (zs.map V.str)) (hz : zs.length ≤ 40000) (hw : ∀ x, wipe ((wipe σ vs).set j (some x)) vs = wipe σ vs)
    (he : ∀ (z : Str) H1, Ex H H1 → z ∈ zs → Ev te ((wipe σ vs).set j (some (.str z))) H1 (v z)) : EvL (tLc (iList K tl) (gName j) tYes te vs) σ H (zs.map v) := by
  have z := el_lcNL (K := K) (t := tYes) (te := te) (j := j) (vs := vs) (fun _ => true) (fun i => v (zs.getD i Str.empty)) h (by rw [List.length_map]; exact hz) hw (fun i x H1 _ _ => et_yes rfl) fun i x H1 e hi _ => by
    rw [List.getElem?_map] at hi
    obtain ⟨n, hn, rfl⟩ := Option.map_eq_some_iff.mp hi
    have e2 : zs.getD i Str.empty = n := by rw [List.getD_eq_getElem?_getD, hn]; rfl
    rw [e2]
    exact he n H1 e (List.mem_of_getElem? hn)
  rw [given_all, List.length_map] at z
  have e3 : (List.range zs.length).map (fun i => v (zs.getD i Str.empty)) = zs.map v := by
    refine List.ext_getElem (by simp) fun i h1 h2 => ?_
    simp at h1 h2
    simp [List.getElem?_eq_getElem h1]
  rw [e3] at z
  exact z
end
/-- None, or an int -/
def oV : Option Int → V
  | none => .non
  | some k => .int k
theorem inV_none (os : List (Option Int)) : inV .non (os.map oV) = os.any Option.isNone := by
  induction os with
  | nil => rfl
  | cons o os ih =>
    unfold inV at ih ⊢
    rw [List.map_cons, List.any_cons, ih, List.any_cons]
    cases o <;> rfl
theorem flat_oV (os : List (Option Int)) : (os.map oV).all flatV = true := by
  rw [List.all_map, List.all_eq_true]
  intro x _
  cases x <;> rfl
theorem sv_Hk {D : Hp → List V → V → Prop} {H : Hp} {vs : List V} {z : V} (h : ∀ H1, Ex H H1 → D H1 vs z) : SpV (spH D) vs H z := fun H1 e Q q E => ⟨z, h H1 e, q⟩
theorem eu_tupleL {K : PySem.W.Frag} {σ : L2.St} {H : Hp} {te : TE} {xs : List V} (h : EvL te σ H xs) : EvU (tCB (fun xs H Q => ∃ p ys, xs = [.ref p] ∧ ((SqL K H p ys ∧ ∀ l, H l = none → Q (.ref l) (upd H l (.tup ys))) ∨ (SqT K H p ys ∧ Q (.ref p) H))) (tCons te tNil)) σ H xs := fun H1 e Q q =>
  h H1 e _ fun p H2 _ e2 h2 => ⟨p, _, rfl, .inl ⟨sq_of h2, fun l hl => q l _ (fresh_back e2 hl) (e2.trans (Ex.new hl)) upd_same⟩⟩
/-! ### how many members a set has -/
theorem insI_new {k : Int} : ∀ {ns : List Int}, k ∉ ns → (insI k ns).length = ns.length + 1
  | [], _ => rfl
  | x :: r, h => by
    have ih := insI_new (k := k) (ns := r) fun z => h (List.mem_cons_of_mem _ z)
    unfold insI
    split
    · rfl
    · split
      · next e => exact absurd (e ▸ List.mem_cons_self ..) h
      · rw [List.length_cons, ih, List.length_cons]
theorem srt_nodup : ∀ {ns : List Int}, ns.Nodup → (srt ns).length = ns.length
  | [], _ => rfl
  | x :: r, h => by
    have hd := List.nodup_cons.mp h
    show (insI x (srt r)).length = _
    rw [insI_new (fun z => hd.1 (mem_srt.mp z)), srt_nodup hd.2, List.length_cons]
section
open PySem.Spec PyProof.Rows
variable {X : Cx}
/-- len of a set of ints -/
def rLenSet (w : World) : List V → Hp → VK → Prop := fun xs H Q => ∃ (a : Addr) (ns : List Int) (c : Nat), xs = [.ref a] ∧ H a = some (SetO w a (fun j => decide (j ∈ ns)) c) ∧ Q (.int ((srt ns).length : Nat)) H
theorem cr_lenSet (hc : X.calm = true) : CallR X (.builtin "len") (rLenSet X.w) := by
  intro pins s σ H xs us Q I r h
  obtain ⟨a, ns, c, rfl, ha, q⟩ := h
  have R := setO_get I ha
  rw [Vals.ref1 r]
  obtain ⟨o, es, ep, t, ho, hex, hd, _, hnd, hm, hs, hf, _⟩ := R
  have e1 : srt (es.toList.map keyOf) = srt ns := asc_uniq (pw_srt _) (pw_srt _) fun k => by
    rw [mem_srt, mem_srt, ← hm k]
    exact decide_eq_true_iff
  have e2 : (srt ns).length = es.size := by
    rw [← e1, srt_nodup hnd, List.length_map]
    exact Array.length_toList
  rw [e2] at q
  refine call_len_set ho hex hd hf ?_ ⟨.int es.size, H, I.tok _, ⟨_, rfl⟩, q⟩
  unfold scanBound at hs
  omega
end
section
variable {K : PySem.W.Frag} {w : World} {σ : L2.St} {H : Hp} {te : TE}
theorem ev_lenSetL {ns : List Int} (h : EvL te σ H (ns.map V.int)) (hn : ns.length ≤ 1000) : Ev (tCB (rLenSet w) (tCons (tCB (rSetL K w) (tCons te tNil)) tNil)) σ H (.int ((srt ns).length : Nat)) := fun H1 e Q q =>
  f_cb (f_cons (f_cb (f_cons (h H1 e _ fun p H2 _ e2 h2 => f_nil ⟨p, ns, rfl, sq_of h2, Nat.le_trans hn (by decide), fun r c nr _ => f_nil ⟨r, ns, c, rfl, upd_same, q _ (e2.trans (Ex.new nr))⟩⟩))))
end
/-! ### comprehensions over a new tuple -/
theorem el_lcNU {K : PySem.W.Frag} {σ : L2.St} {H : Hp} {t : TT} {te : TE} {xs : List V} {tl : TE} {j : Nat} {vs : List Nat} (f : Nat → Bool) (v : Nat → V) (h : EvU tl σ H xs) (hz : xs.length ≤ 40000) (hw : ∀ x, wipe ((wipe σ vs).set j (some x)) vs = wipe σ vs)
    (ht : ∀ (i : Nat) (x : V) H1, Ex H H1 → xs[i]? = some x → EvT t ((wipe σ vs).set j (some x)) H1 (f i)) (he : ∀ (i : Nat) (x : V) H1, Ex H H1 → xs[i]? = some x → f i = true → Ev te ((wipe σ vs).set j (some x)) H1 (v i)) :
    EvL (tLc (iTup K tl) (gName j) t te vs) σ H (given xs.length f v) := fun H0 e Q q => h H0 e _ fun a H1 ha e1 hx => ⟨a, rfl, ⟨xs, st_of hx⟩, fun Dl hD =>
  lc_tup (xs := xs) (Cw H1 f v Dl) ⟨hD, Ex.new hD, upd_same⟩ (fun i H' _ p => st_of (p.2.1 a _ hx)) (fun i x H' hi p => ⟨hw x, cw_turn p (by have := (List.getElem?_eq_some_iff.mp hi).1; omega) (ht i x H1 (e.trans e1) hi) (fun hf => he i x H1 (e.trans e1) hi hf)⟩)
    (fun H' p => q Dl H' (fresh_back e1 p.1) (e1.trans p.2.1) p.2.2)⟩
theorem el_lcUF {K : PySem.W.Frag} {σ : L2.St} {H : Hp} {tl te : TE} {tt : TT} {ns : List Int} {j : Nat} {vs : List Nat} (φ : Int → Bool) (v : Int → V) (h : EvU tl σ H (ns.map V.int)) (hz : ns.length ≤ 40000) (hw : ∀ x, wipe ((wipe σ vs).set j (some x)) vs = wipe σ vs)
    (ht : ∀ (x : Int) H1, Ex H H1 → x ∈ ns → EvT tt ((wipe σ vs).set j (some (.int x))) H1 (φ x)) (he : ∀ (x : Int) H1, Ex H H1 → x ∈ ns → Ev te ((wipe σ vs).set j (some (.int x))) H1 (v x)) : EvL (tLc (iTup K tl) (gName j) tt te vs) σ H ((ns.filter φ).map v) := by
  have at_ {i : Nat} {x : V} (hi : (ns.map V.int)[i]? = some x) : ∃ n, x = .int n ∧ n ∈ ns ∧ ns.getD i 0 = n := by
    rw [List.getElem?_map] at hi
    obtain ⟨n, hn, rfl⟩ := Option.map_eq_some_iff.mp hi
    exact ⟨n, rfl, List.mem_of_getElem? hn, by rw [List.getD_eq_getElem?_getD, hn]; rfl⟩
  have z := el_lcNU (K := K) (t := tt) (te := te) (j := j) (vs := vs) (fun i => φ (ns.getD i 0)) (fun i => v (ns.getD i 0)) h (by rw [List.length_map]; exact hz) hw (fun i x H1 e hi => by
    obtain ⟨n, rfl, hn, e2⟩ := at_ hi
    rw [e2]; exact ht n H1 e hn) fun i x H1 e hi _ => by
    obtain ⟨n, rfl, hn, e2⟩ := at_ hi
    rw [e2]; exact he n H1 e hn
  rw [List.length_map] at z
  have g : given ns.length (fun i => φ (ns.getD i 0)) (fun i => v (ns.getD i 0)) = (ns.filter φ).map v := range_filter v φ ns
  rw [g] at z
  exact z
theorem ev_sumL_at {K : PySem.W.Frag} {σ : L2.St} {H : Hp} {ta : TE} {a : Addr} {ks : List Int} (h : Ev ta σ H (.ref a)) (hs : SqL K H a (ks.map V.int)) : Ev (tCB (rSum K) (tCons ta tNil)) σ H (.int ks.sum) := ev_sumV h hs
theorem room65 {k : Nat} {A : Around} (r : Room k A) : A.units + 65 < cLine := by have := r.un; omega
/-! ### joined texts -/
theorem joinL_len (S : List Nat) : ∀ ps : List (List Nat), (joinL S ps).length ≤ (ps.map List.length).sum + ps.length * S.length
  | [] => Nat.zero_le _
  | [p] => by show p.length ≤ _; simp
  | p :: q :: r => by
    have ih := joinL_len S (q :: r)
    show (p ++ (S ++ joinL S (q :: r))).length ≤ _
    rw [List.length_append, List.length_append, List.map_cons, List.sum_cons, List.length_cons (as := q :: r), Nat.succ_mul]
    omega
theorem tl_space : tl (" " : Str) = [32] := by decide +kernel
theorem joinT_len (s : Str) (ys : List Str) : (Txt.join s ys).length ≤ (ys.map (·.length)).sum + ys.length * s.length := by
  have h := joinL_len (tl s) (ys.map tl)
  rw [List.length_map, List.map_map, ← len_tl s] at h
  rw [len_tl, join_eq, tl_join]
  refine Nat.le_trans h (Nat.le_of_eq ?_)
  rw [show ys.map (List.length ∘ tl) = ys.map (·.length) from List.map_congr_left fun z _ => (len_tl z).symm]
/-- none of a word's signs is a blank or a slash -/
theorem plusL_free {k : Int} {s : Nat} (h : s < 43 ∨ 57 < s ∨ s = 47 ∨ s = 46 ∨ s = 44) : s ∉ plusL k := fun hm => by
  unfold plusL at hm
  split at hm
  · have := List.mem_singleton.mp hm; omega
  · rcases List.mem_append.mp hm with hm | hm
    · split at hm <;> (have := List.mem_singleton.mp hm; omega)
    · have := numL_digits _ s hm; omega
theorem plusL_head (k : Int) : ∃ c r, plusL k = c :: r ∧ c < 58 := by
  unfold plusL
  split
  · exact ⟨48, [], rfl, by decide⟩
  · split
    · exact ⟨45, _, rfl, by decide⟩
    · exact ⟨43, _, rfl, by decide⟩
theorem join_head {S : List Nat} : ∀ {ps : List (List Nat)} {c : Nat} {r : List Nat}, ps.head? = some (c :: r) → ∃ r', joinL S ps = c :: r'
  | [p], c, r, h => by cases h; exact ⟨r, rfl⟩
  | p :: q :: t, c, r, h => by cases h; exact ⟨r ++ (S ++ joinL S (q :: t)), rfl⟩
/-! ### f-strings of several parts; texts as data -/
def cats : Str → List Str → Str
  | acc, [] => acc
  | acc, y :: ys => cats (acc ++ y) ys
theorem js_ev {σ : L2.St} {H : Hp} : ∀ {ts : List TE} {ys : List Str} (acc : Str), Paired (fun t y => Ev t σ H (.str y)) ts ys → acc.length + (ys.map (·.length)).sum ≤ 1000000 → ∀ H1, Ex H H1 → ∀ Q : Str → Hp → Prop, (∀ H2, Ex H1 H2 → Q (cats acc ys) H2) → tJs ts acc σ H1 Q
  | _, _, acc, .nil, _, H1, _, Q, q => q H1 (Ex.refl H1)
  | _, _, acc, .cons (b := y) h t, hz, H1, e, Q, q => h H1 e _ fun H2 e2 => ⟨y, rfl, by
      rw [List.map_cons, List.sum_cons] at hz
      rw [Str.length_append]
      exact Nat.le_trans (by omega) (show 1000000 ≤ sizeLine by decide), js_ev (acc ++ y) t (by
      rw [List.map_cons, List.sum_cons] at hz
      rw [Str.length_append]; omega) H2 (e.trans e2) Q fun H3 e3 => q H3 (e2.trans e3)⟩
theorem dpa_strs {K : PySem.W.Frag} {H : Hp} : ∀ zs : List Str, DpAll K H (zs.map V.str) (zs.map PyData.str)
  | [] => .nil
  | z :: zs => .cons (.str z) (dpa_strs zs)
theorem lay_strs : ∀ zs : List Str, (∀ z, z ∈ zs → ∀ c, c ∈ tl z → c < 128) → PyData.canLayAll0 (zs.map PyData.str) = true ∧ PyData.depthAll (zs.map PyData.str) = 0
  | [], _ => ⟨rfl, rfl⟩
  | z :: zs, h => by
    obtain ⟨a, b⟩ := lay_strs zs fun x hx => h x (List.mem_cons_of_mem _ hx)
    have e : PyData.strOk z = true := by
      unfold PyData.strOk
      rw [← Array.all_toList, List.all_eq_true]
      intro c hc
      exact decide_eq_true (Nat.lt_trans (h z (List.mem_cons_self ..) c hc) (by decide))
    constructor
    · show (PyData.strOk z && PyData.canLayAll0 (zs.map PyData.str)) = true
      rw [e, a]; rfl
    · show max (PyData.depth (.str z)) (PyData.depthAll (zs.map PyData.str)) = 0
      rw [b]; rfl
theorem shaped_strs {zs : List Str} (h : ∀ z, z ∈ zs → ∀ c, c ∈ tl z → c < 128) : SeqAt.shaped (.list (zs.map PyData.str)) = true := by
  obtain ⟨a, b⟩ := lay_strs zs h
  show (PyData.canLayAll0 (zs.map PyData.str) && decide (PyData.depthAll (zs.map PyData.str) + 1 ≤ 64)) = true
  rw [a, b]; rfl
end Mc
namespace Mc
open PySem PySem.Spec PyProof.Rows L2 Evl
/-! ### exceptions that are held as values -/
/-- the very object at a -/
def Pin (a : Addr) (oe : Obj) : HO := .ext fun h => h.get? a = some oe
theorem pin_ok {P : Program} {w : World} {H : Hp} {h : Heap} {a : Addr} {oe : Obj} (e : h.get? a = some oe) : ObjOk P w H h a (Pin a oe) := ⟨e, ⟨oe, e⟩, fun _ _ z k => k _ z⟩
theorem pin_at {P : Program} {w : World} {H : Hp} {h : Heap} {a : Addr} {oe : Obj} (ok : HOk P w H h) (e : H a = some (Pin a oe)) : h.get? a = some oe := by
  have z : ObjOk P w H h a (.ext fun h => h.get? a = some oe) := ok a _ e
  exact z.1
theorem pin_ne {a : Addr} {oe : Obj} {xs : List V} : Pin a oe ≠ .lst xs := fun z => by
  have z' : HO.ext _ = HO.lst xs := z
  cases z'
/-- an exception of the class at C stands at a, its dict at d -/
structure Exc (H : Hp) (a C d : Addr) (fs : List (Str × V)) : Prop where
  ob : ∃ (oe : Obj) (vs : Array Value), H a = some (Pin a oe) ∧ oe.cls = .ref C ∧ oe.dict = some d ∧ oe.data = .fields vs ∧ vs[2]? = some .none
  di : H d = some (.xd fs)
theorem Exc.ex_ {H H' : Hp} {a C d : Addr} {fs : List (Str × V)} (x : Exc H a C d fs) (e : Ex H H') : Exc H' a C d fs := by
  obtain ⟨⟨oe, vs, h, r⟩, k⟩ := x
  exact ⟨⟨oe, vs, e _ _ h, r⟩, e _ _ k⟩
/-- what is asked of an own exception class for isinstance and the field "value" -/
structure XCls (K : PySem.W.Frag) (C : Addr) : Prop where
  cl : (PySem.W.clsIn K C).isSome = true
  ga : PySem.W.findIn K (.ref C) "__getattribute__" = some (some (.builtin "BaseException.__getattribute__"))
  gg : PySem.W.findIn K (.ref C) "__getattr__" = some none
  sb : PySem.W.subIn K (.ref C) (.type "BaseException") = some true
  hd : PySem.W.hasDictIn K C = true
  ca : PySem.W.findIn K (.ref C) "__class__" = some (some (.builtin "object.__class__"))
  sg : PySem.W.specialIn K (.builtin "object.__class__") "__get__" = some (some (.builtin "getset_descriptor.__get__"))
  tk : PySem.W.takesIn K (.builtin "object.__class__") = some true
  mo : PySem.W.mroIn K C (.type "object") = some true
  nv : PySem.W.findIn K (.ref C) "value" = some none
section
variable {X : Cx} {pins : List (Addr × Obj)} {σ : L2.St} {H : Hp} {s : Shared}
theorem Exc.inst {a C d : Addr} {fs : List (Str × V)} (x : Exc H a C d fs) (I : Inv X pins σ H s) : ∃ ox od mA, PySem.W.InstAt s.heap a ox C (some od) ∧ s.heap.get? d = some od ∧ s.heap.Ns1 d mA ∧ ∀ f, RelO (fs.lookup f) (mA f) := by
  obtain ⟨⟨oe, vs, h, hc, hd, hf, _⟩, di⟩ := x
  have g := pin_at I.hok h
  obtain ⟨mA, hn, hr⟩ := (show ∃ mA, s.heap.Ns1 d mA ∧ ∀ f, RelO (fs.lookup f) (mA f) from I.hok d _ di)
  obtain ⟨od, es, ep, ho, r⟩ := hn
  refine ⟨oe, od, mA, ⟨g, hc, ?_, ?_⟩, ho, ⟨od, es, ep, ho, r⟩, hr⟩
  · unfold PySem.W.notCls; rw [hf]
  · rw [hd]; exact ho
/-- isinstance(e, c) of such an exception -/
def rIsX (K : PySem.W.Frag) : List V → Hp → VK → Prop := fun xs H Q => ∃ (a C d : Addr) (fs : List (Str × V)) (c : V) (u : Value) (b : Bool), xs = [.ref a, c] ∧ Exc H a C d fs ∧ XCls K C ∧ ClsV c u ∧ PySem.W.kitOne K (.ref C) u = some b ∧ Q (.bl b) H
theorem call_isX : CallR X (.builtin "isinstance") (rIsX X.K) := by
  intro pins s σ H xs us Q I r h
  obtain ⟨a, C, d, fs, c, u, b, rfl, x, k, cv, e, q⟩ := h
  obtain ⟨u1, u2, rfl, r1, r2⟩ := vals2 r
  have e2 := cv.eq r2
  subst e2
  obtain rfl : u1 = Value.ref a := r1
  obtain ⟨ox, od, mA, J, _⟩ := x.inst I
  exact PySem.W.kia_one (PySem.W.kitx_exc k.cl k.ga k.gg k.sb k.ca k.sg k.tk k.mo) I.kIn J e (fun z => nomatch z) fun t => ⟨.bl b, H, I.tok t, rfl, q⟩
/-- isinstance(e, (c1, c2, ..)) -/
def rIsXT (K : PySem.W.Frag) : List V → Hp → VK → Prop := fun xs H Q => ∃ (a C d : Addr) (fs : List (Str × V)) (tp : Addr) (cs : List V) (us : List Value) (b : Bool), xs = [.ref a, .ref tp] ∧ Exc H a C d fs ∧ XCls K C ∧ H tp = some (.tup cs) ∧ Paired ClsV cs us ∧ PySem.W.kitAny K (.ref C) us = some b ∧ Q (.bl b) H
theorem call_isXT : CallR X (.builtin "isinstance") (rIsXT X.K) := by
  intro pins s σ H xs us Q I r h
  obtain ⟨a, C, d, fs, tp, cs, ws, b, rfl, x, k, hT, cv, e, q⟩ := h
  obtain ⟨u1, u2, rfl, r1, r2⟩ := vals2 r
  obtain rfl : u2 = Value.ref tp := r2
  obtain rfl : u1 = Value.ref a := r1
  obtain ⟨ox, od, mA, J, _⟩ := x.inst I
  have tup := I.hok tp _ hT
  obtain ⟨_, its, rv, o, h1, h2, n, h3⟩ := (show ObjOk X.prog X.w H s.heap tp (.tup cs) from tup)
  obtain rfl := ClsV.all cv rv
  obtain ⟨oc, od', dt, sl⟩ := o
  dsimp only at h2 h3
  subst h2; subst h3
  exact PySem.W.kia_tup (PySem.W.kitx_exc k.cl k.ga k.gg k.sb k.ca k.sg k.tk k.mo) I.kIn J h1 e (fun z => nomatch z) fun t => ⟨.bl b, H, I.tok t, rfl, q⟩
/-- e.value -/
def tXv (K : PySem.W.Frag) (te : TE) : TE := fun σ H Q => te σ H fun x H1 => ∃ (a C d : Addr) (fs : List (Str × V)) (v : V), x = .ref a ∧ Exc H1 a C d fs ∧ XCls K C ∧ fs.lookup ("value" : Str) = some v ∧ Q v H1
theorem pe_xv {e : Expr} {te : TE} {pos : Pos} (he : PE X e te) (hb : attributeBase e "value" X.env (eval e X.env) = eval e X.env := by rfl) : PE X (.Attribute e "value" pos) (tXv X.K te) := by
  refine ⟨fun pins s σ H Q I h => attr_of hb (thn (he.run pins s σ H _ I h) fun u s1 ⟨x, H1, I1, rx, a, C, d, fs, v, ex, xc, k, l, q⟩ => ?_)⟩
  subst ex
  obtain rfl : u = Value.ref a := rx
  obtain ⟨ox, od, mA, J, ho, hns, hr⟩ := xc.inst I1
  obtain ⟨od', ho', hl⟩ := lookIn_ns hns
  obtain rfl : od' = od := Option.some.inj (ho'.symm.trans ho)
  obtain ⟨u, hu, ru⟩ := RelO.some_of (v := v) (o := mA "value") (by rw [← l]; exact hr "value")
  exact HandSPX.exc_get I1.kIn J k.ga k.gg k.sb (PySem.W.findObj_own k.hd k.nv rfl (by rw [hl, hu])) (handed_of ru) ⟨v, H1, I1.tok _, ru, q⟩
/-- an object that came into being on the way is tracked from now on -/
theorem Inv.track {a : Addr} {o : HO} (I : Inv X pins σ H s) (n0 : X.s_0.heap.get? a = none) (hn : H a = none) (new : ObjOk X.prog X.w (upd H a o) s.heap a o) (nL : a ≠ X.env.locals) (nC : ∀ x c, X.env.cells.lookup x = some c → c ≠ a) (nP : ∀ p ∈ X.pn ++ pins, p.1 ≠ a) :
    Inv X pins σ (upd H a o) s where
  ok := I.ok
  os := I.os
  bare := I.bare
  base := { keep := I.base.keep, slot := I.base.slot, there := I.base.there
            free := fun b u e n hx => by rw [upd_ne (fun z => by rw [z, n0] at e; cases e)]; exact I.base.free b u e n hx
            tups := fun b xs e => by rw [upd_ne (ne_of_none (I.base.tups b xs e) hn)]; exact I.base.tups b xs e
            frzs := fun b u xs e => by rw [upd_ne (ne_of_none (I.base.frzs b u xs e) hn)]; exact I.base.frzs b u xs e
            tbls := fun b ps e => by
              obtain ⟨m, z⟩ := I.base.tbls b ps e
              exact ⟨m, by rw [upd_ne (ne_of_none z hn)]; exact z⟩ }
  loc := I.loc
  cell := I.cell
  free := by rw [upd_ne (Ne.symm nL)]; exact I.free
  freeC := fun x c e => by rw [upd_ne (nC x c e)]; exact I.freeC x c e
  pin := fun p hp => by
    obtain ⟨h1, h2, h3⟩ := I.pin p hp
    exact ⟨h1, by rw [upd_ne (nP p hp)]; exact h2, h3⟩
  hok := I.hok.laidN (fun _ _ z => z) hn new
  len := I.len
/-- what 'except x as n' wishes: the exception is held as a value from then on -/
def wKp (K : PySem.W.Frag) (c : Value) (i : Nat) (ts : Addr → TS) (Wout : WX) (D : Ends) : WX := fun cls d σ H => ∃ b, PySem.W.exmOne K cls c = some b ∧ (b = false → Wout cls d σ H) ∧
  (b = true → ∀ (a : Addr) (oe : Obj) (vs : Array Value), H a = none → oe.cls = cls → oe.dict = d → oe.data = .fields vs → vs[2]? = some .none → ts a { rt := D.rt, nx := fun σ' H' => D.nx (σ'.set i none) H', bk := fun σ' H' => D.bk (σ'.set i none) H', ct := fun σ' H' => D.ct (σ'.set i none) H' } (σ.set i (some (.ref a))) (upd H a (Pin a oe)))
theorem Inv.inSuite (I : Inv X pins σ H s) (a : Addr) : Inv (X.suite a (X.pn ++ pins)) [] σ H s := { I with ok := I.ok.suite _ _, pin := fun p hp => I.pin p (by rw [List.append_nil] at hp; exact hp) }
theorem Inv.outSuite {a : Addr} {pn' : List (Addr × Obj)} (I : Inv (X.suite a (X.pn ++ pins)) pn' σ H s) (ok : X.Ok) : Inv X pins σ H s := { I with ok := ok, pin := fun p hp => I.pin p (List.mem_append_left _ hp) }
end
section
variable {X : Cx} {x n : Str} {c : Value} {i : Nat} {body suite : List Stmt} {st0 : Stmt} {np pos pos' : Pos} {tb : WX → TS} {ts : Addr → TS} {Wout : WX}
/-- where a body's exception lands: the state of the clauses -/
theorem land_catch {pins : List (Addr × Obj)} {D : Ends} (hs : X.stack = X.env :: X.outer) (hf : X.env.frame = some X.env.locals) (hex : X.ex = []) (hN : X.N.Nodup) (hi : X.N[i]? = some n) (hln : X.env.kindOf n = some .local) (hc : Names X x c) (tk : L2N.Takes X Wout)
    (hsu : ∀ (a : Addr) (pn : List (Addr × Obj)), PSs (X.suite a pn) (st0 :: suite) (ts a)) (ok : X.Ok) {u : Value} {s' : Shared} {xe : Value → Shared → Prop} {pn : List (Addr × Obj)} (hpn : pn = X.pn ++ pins) (air : L2N.XE (X.tr pn xe) (wKp X.K c i ts Wout D) u s') :
    wpAny (model X.prog X.w) X.A (noteFrame u X.env) (fun _ s₂ => wpAny (model X.prog X.w) X.A (setFlight u none) (fun _ s₃ =>
      wpAny (model X.prog X.w) X.A (handleBy u X.env [.ExceptHandler (some (.Name x np)) (some n) (st0 :: suite) pos']) (SP X pins D) X.xe s₃) X.xe s₂) X.xe s' := by
  subst hpn
  obtain ⟨a, B, sI, pins', σ', H', cls, d, eu, J0, nb, up, sky, na, hos, hag, b, hb1, hno, hyes⟩ := air
  subst eu
  have frames : X.A.frames = some (X.env :: X.outer) := ok.frames.trans (congrArg some hs)
  have J : Inv X pins σ' H' sI := J0.ofTry ok
  refine L2N.Sky.land L2N.Zn.steady frames hf (hs ▸ sky) fun g fl upg => ?_
  have Jg : Inv X pins σ' H' { s' with heap := g } := J.landed nb fl.1 (up.trans upg) hos hag
  obtain ⟨og, vg, eg, zg, dg⟩ := fl.there
  -- the exception is no frame, no cell, no pin, and new
  have noFrame : a ∉ frs (X.env :: X.outer) := fun hm => by
    obtain ⟨_, o2, e2, hnf⟩ := fl.2.2.1.mem hm
    cases Option.some.inj (e2.symm.trans eg)
    exact hnf _ dg
  have nLoc : a ≠ X.env.locals := fun z => noFrame (List.mem_filterMap.mpr ⟨X.env, List.mem_cons_self .., by rw [hf, z]⟩)
  have nI : sI.heap.get? a = none := by
    rcases e : sI.heap.get? a with _ | o2
    · rfl
    · have z := nb a o2 e (by rw [hs]; exact noFrame)
      rw [fl.2.1] at z
      cases z
  have n0 : X.s_0.heap.get? a = none := by
    rcases e : X.s_0.heap.get? a with _ | o2
    · rfl
    · obtain ⟨o3, e3⟩ := J.base.there a o2 e (by rw [hex]; exact fun z => nomatch z)
      rw [nI] at e3
      cases e3
  have nCell : ∀ y c', X.env.cells.lookup y = some c' → c' ≠ a := fun y c' e z => by
    obtain ⟨v, o2, e2, _⟩ := J.cell y c' e
    rw [z, nI] at e2
    cases e2
  have nPin : ∀ p ∈ X.pn ++ pins, p.1 ≠ a := fun p hp z => by
    have e2 := (J.pin p hp).1
    rw [z, nI] at e2
    cases e2
  have known : PySem.W.Looks (model X.prog X.w) g (typeOf (.ref a)) cls := fun _ _ _ _ k q => wpAny_typeOf_ref (k _ _ eg) (by rw [zg.1]; exact q)
  have told := PySem.W.exm_one (M := model X.prog X.w) Jg.kIn known hb1
  have named : ∀ {Q : Value → Shared → Prop} {E : Value → Shared → Prop}, Q c { s' with heap := g } → wpAny (model X.prog X.w) (X.A.mark (some (.ref a))) (eval (.Name x np) X.env) Q E { s' with heap := g } := fun {Q E} q => by
    obtain ⟨hg, hdb, hm⟩ := hc
    rcases hm with hm | ⟨hm, hv, hne⟩
    · exact ld_glob (X := X.suite a (X.pn ++ pins)) (Inv.inSuite Jg a) hg hm q hdb
    · exact ld_blt (X := X.suite a (X.pn ++ pins)) (Inv.inSuite Jg a) hg hm hv q hne hdb
  refine wpAny_handleBy_cons (codeAny_handlers_test (named (told.here ?_))) (fun q => nomatch q)
  match b, hno, hyes with
  | true, _, hyes =>
    refine codeAny_handlers_suite_as (HandSPX.lands_againZ fl fun g2 fl2 up2 => ?_)
    have J2 : Inv X pins σ' H' { s' with heap := g2 } := J.landed nb fl2.1 ((up.trans upg).trans up2) hos hag
    obtain ⟨o2, v2, e2, z2, d2⟩ := fl2.there
    have T2 := Inv.inSuite (Inv.track (o := Pin a o2) J2 n0 na (pin_ok e2) nLoc nCell nPin) a
    refine store_ok (X := X.suite a (X.pn ++ pins)) (v := .ref a) T2 hN hi (.inl hln) rfl (fun s5 T5 => ?_) (.inr hln)
    refine wpAny_mono ((hsu a (X.pn ++ pins)).run [] s5 _ _ _ T5 (hyes rfl a o2 v2 na z2.1 z2.2.1 d2 (z2.2.2 _ d2))) (fun f s6 q6 => ?_) fun _ _ z => z.elim
    have close : ∀ {σ6 : L2.St} {H6 : Hp} {R : Shared → Prop}, Inv (X.suite a (X.pn ++ pins)) [] σ6 H6 s6 → (∀ s7, Inv X pins (σ6.set i none) H6 s7 → R s7) → wpAny (model X.prog X.w) X.A (do bindName X.env n .none; unbindBehindTheSuite X.env n pos') (fun _ s7 => R s7) X.xe s6 :=
      fun {_ _ _} T6 k => gone_ok (Inv.outSuite T6 ok) hN hi hln k
    match f, q6 with
    | .next, ⟨_, _, T6, r6⟩ => exact close T6 fun _ J7 => ⟨_, _, J7, r6⟩
    | .brk, ⟨_, _, T6, r6⟩ => exact close T6 fun _ J7 => ⟨_, _, J7, r6⟩
    | .cont, ⟨_, _, T6, r6⟩ => exact close T6 fun _ J7 => ⟨_, _, J7, r6⟩
    | .ret _, ⟨_, _, _, T6, v6, r6⟩ => exact close T6 fun _ J7 => ⟨_, _, _, J7, v6, r6⟩
  | false, hno, _ =>
    refine wpAny_handleBy_nil ?_
    obtain ⟨_, _, _, o3, v3, T3, oT, ts', e3, _, d3, t3, _⟩ := id fl
    unfold PySem.passOn
    refine wpAny_bind (wpAny_field e3 d3 t3 ?_)
    rw [if_neg (fun z => by simp at z)]
    have away : wpAny (model X.prog X.w) X.A (setFlight (.ref a) X.env.frame) (fun _ s4 => wpAny (model X.prog X.w) X.A (throw (.ref a) : Sem Flow) (SP X pins D) X.xe s4) X.xe { s' with heap := g } := by
      rw [hf]
      exact HandSPX.setFlight_upZ fl fun g2 held up2 => wpAny_throw (tk _ _ ⟨a, B, sI, pins, σ', H', cls, d, rfl, J, nb, (up.trans upg).trans up2, .inr (.inr (hs ▸ held)), na, hos, hag, hno rfl⟩)
    first
      | exact wpAny_bind away
      | exact wpAny_bind (wpAny_pure (wpAny_bind away))
/-- try: body, except x as n: suite; the exception stays a value -/
theorem ps_try_kept (hs : X.stack = X.env :: X.outer) (hf : X.env.frame = some X.env.locals) (hex : X.ex = []) (hN : X.N.Nodup) (hi : X.N[i]? = some n) (hln : X.env.kindOf n = some .local) (hc : Names X x c) (tk : L2N.Takes X Wout)
    (hb : ∀ (W : WX) (pn : List (Addr × Obj)) (xe : Value → Shared → Prop), L2N.Takes (X.tr pn xe) W → PassesOwn (model X.prog X.w) X.A X.env xe → PSs (X.tr pn xe) body (tb W)) (hsu : ∀ (a : Addr) (pn : List (Addr × Obj)), PSs (X.suite a pn) (st0 :: suite) (ts a)) :
    PS X (.Try body [.ExceptHandler (some (.Name x np)) (some n) (st0 :: suite) pos'] [] [] pos) (fun D σ H => tb (wKp X.K c i ts Wout D) D σ H) :=
  ⟨fun pins s σ H D I h => wpAny_Try_except (wpAny_mono ((hb (wKp X.K c i ts Wout D) (X.pn ++ pins) _ (fun _ _ air => land_catch (pins := pins) hs hf hex hN hi hln hc tk hsu I.ok rfl air) PassesOwn.looking).run [] s σ H D (I.toTry _) h)
    (fun f s1 q => by
      match f, q with
      | .next, ⟨_, _, J, r⟩ => exact wpAny_execs_nil ⟨_, _, J.ofTry I.ok, r⟩
      | .brk, ⟨_, _, J, r⟩ => exact ⟨_, _, J.ofTry I.ok, r⟩
      | .cont, ⟨_, _, J, r⟩ => exact ⟨_, _, J.ofTry I.ok, r⟩
      | .ret _, ⟨_, _, _, J, v, r⟩ => exact ⟨_, _, _, J.ofTry I.ok, v, r⟩) fun _ _ z => z)⟩
end
/-! ### own exceptions are made -/
/-- what __init__(self, value) does -/
def spIni (K : PySem.W.Frag) : Sp := fun vs H Q _ => ∃ (a C : Addr) (v : V), vs = [.ref a, v] ∧ OexC K C ∧ PySem.W.findIn K (.ref C) "value" = some none ∧ H a = some (exo a C none) ∧ ∀ d, H d = none → d ≠ a → Q .non (upd (upd H d (exd d [("value", v)])) a (exo a C (some d)))
theorem ini_ok {P : Program} {w : World} {K : PySem.W.Frag} {mg : Str → Option Value} {base : Heap} {qual : Str} {st : Stmt} {f : Addr} {fd : FuncData} (F : Fun K "__init__" qual st f fd) (S : FnScope ["self", "value"] ["self", "value"] (defScope st))
    (body : ∀ (cdv : Value) (A : Around) (outer : List Env) (s : Shared) (H : Hp) (E : XK), PSs (cxOf CX0 P w K mg base ["self", "value"] qual (defScope st) f cdv A outer s H E).nox (defBody st) (tOst K "value" (tVar 0) (tVar 1))) : FnOk P w K mg base CX0 1 f fd ["self", "value"] (spIni K) := by
  refine F.ok S (fun vs H Q E h => ?_) fun cdv A outer s H vs Q E hr h => ?_
  · obtain ⟨a, C, v, rfl, _⟩ := h; rfl
  · obtain ⟨a, C, v, rfl, T, nv, ha, q⟩ := h
    refine ⟨_, body _ _ _ _ _ _, ?_⟩
    exact ⟨v, rfl, .ref a, rfl, a, C, rfl, T, nv, .inl ⟨ha, fun dx n ne => q dx n ne⟩⟩
/-- what is asked of a class that is made -/
structure XMk (K : PySem.W.Frag) (C fI : Addr) (fd : FuncData) : Prop where
  o : OexC K C
  ini : PySem.W.findIn K (.ref C) "__init__" = some (some (.ref fI))
  ty : PySem.W.typeIn K (.ref fI) = some (.type "function")
  bi : Binds K fd ["self", "value"] []
  nv : PySem.W.findIn K (.ref C) "value" = some none
section
variable {X : Cx} {pins : List (Addr × Obj)} {σ : L2.St} {H : Hp} {s : Shared} {C fI : Addr} {fd : FuncData} {k : Nat} {v : V}
theorem made_x {u : Value} {R : Value → Shared → Prop} (M : XMk X.K C fI fd) (F : FnOk X.prog X.w X.K X.mg X.base CX0 k fI fd ["self", "value"] (spIni X.K)) (hr : Room (k + 1) X.A) (I : Inv X pins σ H s) (rv : RelV v u)
    (q : ∀ (a d t : Addr) (sI s2 : Shared), Inv X pins σ (upd H d (.xd [("value", v)])) sI → (∀ b o, sI.heap.get? b = some o → s2.heap.get? b = some o) → sI.heap.get? a = none → H a = none → H d = none → d ≠ a →
      s2.heap.get? a = some { cls := .ref C, dict := some d, data := .fields #[.ref t, .none, .none, .none, .bool false, .none] } → s2 = { sI with heap := s2.heap } → R (.ref a) s2) : wpAny (model X.prog X.w) X.A (call (.ref C) [u]) R X.xe s := by
  obtain ⟨nm, qn, N, bs, bm, sn, sub, ab, col, dd, k0, k1, k2, k3, k5, hC, hbm⟩ := M.o.cls
  obtain ⟨hp, g, dr, tk, os⟩ := s
  have big : hp.objs.size ≤ hp.objs.size + 1 := Nat.le_succ _
  have fresh : H (hp.objs.size + 1) = none := I.hok.fresh big
  generalize ea : hp.objs.size + 1 = a at big fresh
  have keep : ∀ b o, hp.get? b = some o → ((hp.push (PySem.W.kdv_tup [u])).push (PySem.HandSPX.excO C hp.objs.size)).get? b = some o := fun b o e => Heap.get?_push_of_some _ (Heap.get?_push_of_some _ e)
  have there : ((hp.push (PySem.W.kdv_tup [u])).push (PySem.HandSPX.excO C hp.objs.size)).get? a = some (PySem.HandSPX.excO C hp.objs.size) := by subst ea; heap_get
  have I2 : Inv X pins σ (upd H a (exo a C none)) ⟨(hp.push (PySem.W.kdv_tup [u])).push (PySem.HandSPX.excO C hp.objs.size), g, dr, tk, os⟩ := I.laid (t' := tk) keep big (exo_ok there)
  have r2 : Vals [V.ref a, v] [Value.ref a, u] := .cons rfl (.cons rv .nil)
  have want : spIni X.K [.ref a, v] (upd H a (exo a C none)) (fun z H2 => z = .non ∧ ∃ d, d ≠ a ∧ H d = none ∧ H2 = upd (upd (upd H a (exo a C none)) d (exd d [("value", v)])) a (exo a C (some d))) (fun _ _ _ => False) :=
    ⟨a, C, v, rfl, M.o, M.nv, upd_same, fun d n ne => ⟨rfl, d, ne, by rw [upd_ne ne] at n; exact n, rfl⟩⟩
  have bnd := M.bi ⟨(hp.push (PySem.W.kdv_tup [u])).push (PySem.HandSPX.excO C hp.objs.size), g, dr, tk, os⟩ [.ref a, u] I2.kIn rfl
  subst ea
  refine wpAny_call (PySem.HandSPX.call_own PySem.F.excBase_ValueError (fun Y => PySem.HandSPX.refsVE_contains Y bm hbm) (I.kIn _ _ hC) (PySem.W.looks_findIn I.kIn M.ini) (fun self => PySem.W.bind_fn I.kIn self M.ty) (rest := [u]) (by show 1 ≤ sizeLine; rw [sizeLine_eq]; omega)
    (codeAny_mono (F.run _ X.stack ⟨(hp.push (PySem.W.kdv_tup [u])).push (PySem.HandSPX.excO C hp.objs.size), g, dr, tk, os⟩ (upd H (hp.objs.size + 1) (exo (hp.objs.size + 1) C none)) ⟨[.ref (hp.objs.size + 1), u], []⟩ [.ref (hp.objs.size + 1), u] _ _ (fun _ _ _ => False) (hr.make C [u] []) (I2.env0.make C [u] []) bnd r2 want) fun out s2 hq => ?_))
  match out, hq with
  | .error _, hq => exact hq.elim
  | .ok .next, hq => exact hq.elim
  | .ok .brk, hq => exact hq.elim
  | .ok .cont, hq => exact hq.elim
  | .ok (.ret u2), ⟨z, H2, os2, bare2, un2, ok2, rz, ez, d, nda, hd, eH⟩ =>
    subst ez
    obtain ⟨h2, g2, d2, t2, os'⟩ := s2
    have ed : H2 d = some (exd d [("value", v)]) := by rw [eH, upd_ne nda, upd_same]
    have ee : H2 (hp.objs.size + 1) = some (exo (hp.objs.size + 1) C (some d)) := by rw [eH, upd_same]
    obtain ⟨t0, G, J, kG, gone, obj, na⟩ := mk_end0 (d2 := d2) (t2 := t2) I big keep un2 ok2 os2 bare2 ee ed hd
    have eq : upd (del H2 (hp.objs.size + 1)) d (.xd [("value", v)]) = upd H d (.xd [("value", v)]) := by
      funext b
      by_cases hb : b = d
      · rw [hb, upd_same, upd_same]
      · rw [upd_ne hb, upd_ne hb]
        by_cases hba : b = hp.objs.size + 1
        · rw [hba, del_same, fresh]
        · rw [del_ne hba, eH, upd_ne hba, upd_ne hb, upd_ne hba]
    rw [eq] at J
    exact ⟨rz, q _ d t0 _ _ J kG gone fresh hd nda obj rfl⟩
/-- C(e), to be raised -/
theorem pmk_val {x : Str} {e : Expr} {te : TE} {p pos : Pos} (M : XMk X.K C fI fd) (F : FnOk X.prog X.w X.K X.mg X.base CX0 k fI fd ["self", "value"] (spIni X.K)) (hr : Room (k + 1) X.A) (hg : Gl X x) (hm : X.mg x = some (.ref C)) (he : PE X e te)
    (hs : starEach [e] X.env = (false, eval e X.env) :: starEach [] X.env := by rfl) (hdb : (x == ("__debug__" : Str)) = false := by decide) :
    L2N.PMk X (.Call (.Name x p) [e] [] pos) (fun σ H Q => te σ H fun v H1 => ∀ d, H1 d = none → Q (.ref C) (some d) (upd H1 d (.xd [("value", v)]))) := by
  intro pins s σ H Q I h
  refine wpAny_Call_Name_kw (ld_glob I hg hm ?_ hdb)
  refine PySem.W.callWith_K (h₀ := X.base) I.ok.mod.kin M.o.kC ?_ hs (by rfl)
  rw [hs]
  refine Calls.spliced_cons (thn (he.run pins s σ H _ I h) fun u s1 ⟨v, H1, I1, r1, q1⟩ => Calls.spliced_nil ⟨I1.kIn, ?_⟩)
  refine made_x M F hr I1 r1 fun a d t sI s2 J kG gone na nd nda ob es => ?_
  exact ⟨a, _, _, sI, _, .ref C, some d, rfl, J, kG, gone, ob, ⟨rfl, rfl, fun vs hv => by cases hv; rfl⟩, rfl, rfl, by rw [upd_ne (Ne.symm nda)]; exact na, by rw [es], by rw [es]; exact J.bare, raises_own M.o.exC M.o.tyC, q1 d nd⟩
/-- C(e) as a value -/
theorem pe_mkV {x : Str} {e : Expr} {te : TE} {p pos : Pos} (M : XMk X.K C fI fd) (F : FnOk X.prog X.w X.K X.mg X.base CX0 k fI fd ["self", "value"] (spIni X.K)) (hr : Room (k + 1) X.A) (hg : Gl X x) (hm : X.mg x = some (.ref C)) (he : PE X e te)
    (hs : starEach [e] X.env = (false, eval e X.env) :: starEach [] X.env := by rfl) (hdb : (x == ("__debug__" : Str)) = false := by decide) :
    PE X (.Call (.Name x p) [e] [] pos) (fun σ H Q => te σ H fun v H1 => ∀ a d H2, H1 a = none → H1 d = none → Ex H1 H2 → Exc H2 a C d [("value", v)] → Q (.ref a) H2) := by
  refine ⟨fun pins s σ H Q I h => ?_⟩
  refine wpAny_Call_Name_kw (ld_glob I hg hm ?_ hdb)
  refine PySem.W.callWith_K (h₀ := X.base) I.ok.mod.kin M.o.kC ?_ hs (by rfl)
  rw [hs]
  refine Calls.spliced_cons (thn (he.run pins s σ H _ I h) fun u s1 ⟨v, H1, I1, r1, q1⟩ => Calls.spliced_nil ⟨I1.kIn, ?_⟩)
  refine made_x M F hr I1 r1 fun a d t sI s2 J kG gone na nd nda ob es => ?_
  have nu : (upd H1 d (.xd [("value", v)])) a = none := by rw [upd_ne (Ne.symm nda)]; exact na
  have J2 := J.laidN (h' := s2.heap) (t' := sI.toks) (o := Pin a _) kG gone nu (pin_ok ob)
  have es2 : ({ sI with heap := s2.heap, toks := sI.toks } : Shared) = s2 := by rw [es]
  rw [es2] at J2
  exact ⟨.ref a, _, J2, rfl, q1 a d _ na nd ((Ex.new nd).trans (Ex.new nu)) ⟨⟨_, _, upd_same, rfl, rfl, rfl, rfl⟩, by rw [upd_ne nda, upd_same]⟩⟩
theorem takesN0 : L2N.Takes X (fun _ _ _ _ => False) := fun _ _ x => by
  obtain ⟨_, _, _, _, _, _, _, _, _, _, _, _, _, _, _, _, z⟩ := x
  exact z.elim
/-- what a def lets out goes on -/
abbrev passN {E : XK} (tk : L2N.Takes X (fun cls d _ H => E cls d H)) : Passes (L2N.CX X.prog X.w) X E := L2N.passes_call tk fun _ _ _ _ h => h
end
section
variable {P : Program} {w : World} {K : PySem.W.Frag} {mg : Str → Option Value} {base : Heap}
/-- a def that may raise -/
theorem okN {x qual : Str} {st : Stmt} {f : Addr} {fd : FuncData} {N ps : List Str} {k : Nat} {sp : Sp} (F : Fun K x qual st f fd) (S : FnScope N ps (defScope st)) (len : ∀ vs H Q E, sp vs H Q E → vs.length = ps.length)
    (body : ∀ (cdv : Value) (A : Around) (outer : List Env) (s : Shared) (H : Hp) (vs : List V) (Q : VK) (E : XK), Room k (A.deeper (envOfC qual (defScope st) s.heap.objs.size f cdv)) → sp vs H Q E →
      ∃ t, PSs (cxOf (L2N.CX P w) P w K mg base N qual (defScope st) f cdv A outer s H E) (defBody st) t ∧ t { rt := Q, nx := fun _ H' => Q .non H' } (L2.start N vs) H) : FnOk P w K mg base (L2N.CX P w) (k + 1) f fd ps sp := by
  obtain ⟨oc, od, kV, doc, pm, an, cdv, ct, osl, rfl, lk, hcd⟩ := F.ex
  exact fn_of lk hcd S len fun A outer s H vs Q E => body cdv A outer s H vs Q E
end
theorem clsOf {K : PySem.W.Frag} {C : Addr} (h : PySem.W.hasDictIn K C = true) : (PySem.W.clsIn K C).isSome = true := by
  obtain ⟨cd, hc, _⟩ := PySem.W.any_some h
  rw [hc]; rfl
/-- the statements of a class -/
def clsBody : Stmt → List Stmt
  | .ClassDef (body := b) .. => b
  | _ => []
def tRz (te : TE) (C : Addr) (W : WX) : TS := fun _ σ H => te σ H fun v H1 => ∀ d, H1 d = none → W (.ref C) (some d) σ (upd H1 d (.xd [("value", v)]))
end Mc
namespace Mc
open PySem PySem.Spec PyProof.Rows L2 Evl
/-! ### raising while an exception with a context is handled -/
section
variable {prog : Program} {w : World} {A : Around} {E : Value → Shared → Prop} {s : Shared}
theorem unchain_two {y b t : Addr} {oy ob : Obj} {vy vb : Array Value} {Q : Value → Shared → Prop} (gy : s.heap.get? y = some oy) (dy : oy.data = .fields vy) (cy : vy[2]? = some (.ref b)) (gb : s.heap.get? b = some ob) (db : ob.data = .fields vb) (cb : vb[2]? = some .none) (nbt : b ≠ t) (nby : b ≠ y) (q : Q .none s) :
    wpAny (model prog w) A (holding [Value.ref t] (runValue (.builtin "proto.unchain" ⟨[.ref t, .ref y, .ref y, .bool false], []⟩))) Q E s := by
  have n0 : ¬ (Value.ref b == Value.none) = true := by simp
  have n1 : ¬ (Value.ref b == Value.ref t) = true := by simpa using nbt
  have n2 : ¬ (Value.ref b == Value.ref y) = true := by simpa using nby
  refine wpAny_holding (wpAny_runValue (codeAny_builtin HotX.entry_unchain (show wpAny _ _ (field (.ref y) 2 >>= _) _ _ s from wpAny_bind (wpAny_field gy dy cy ?_))))
  rw [if_neg n0, if_neg n1, if_neg n2]
  dsimp only
  rw [if_neg Bool.false_ne_true]
  refine wpAny_bind (wpAny_pure (wpAny_pure ⟨Code.quiet_builtin _ (by decide +kernel), codeAny_builtin HotX.entry_unchain (show wpAny _ _ (field (.ref b) 2 >>= _) _ _ s from wpAny_bind (wpAny_field gb db cb ?_))⟩))
  first | (rw [if_pos (show (Value.none == Value.none) = true from rfl)]; exact wpAny_pure q) | (rw [if_pos (show (Value.none == Value.none) = true from rfl)]; exact wpAny_bind (wpAny_pure (wpAny_pure q)))
/-- the exception at x1 is handled; its context is None, or the exception at b, whose context is None -/
structure HotG (A : Around) (x1 : Addr) (c : Option Addr) (h : Heap) : Prop where
  hd : A.handled = some (.ref x1)
  ob : ∃ (o : Obj) (vs : Array Value), h.get? x1 = some o ∧ o.data = .fields vs ∧ vs[2]? = some (match c with | none => .none | some b => .ref b)
  cx : ∀ b, c = some b → b ≠ x1 ∧ ∃ (o : Obj) (vs : Array Value), h.get? b = some o ∧ o.data = .fields vs ∧ vs[2]? = some .none
/-- neither the exception nor its context -/
def Far (x1 : Addr) (c : Option Addr) (t : Addr) : Prop := x1 ≠ t ∧ ∀ b, c = some b → b ≠ t
theorem hot_on {h h' : Heap} {x1 : Addr} {c : Option Addr} (hot : HotG A x1 c h) (k : ∀ b o, (b = x1 ∨ c = some b) → h.get? b = some o → h'.get? b = some o) : HotG A x1 c h' := by
  obtain ⟨a, ⟨o, vs, g, r⟩, cx⟩ := hot
  exact ⟨a, ⟨o, vs, k x1 o (.inl rfl) g, r⟩, fun b e => by
    obtain ⟨n, ob, vb, g2, r2⟩ := cx b e
    exact ⟨n, ob, vb, k b ob (.inr e) g2, r2⟩⟩
theorem hot_far {h : Heap} {x1 : Addr} {c : Option Addr} (hot : HotG A x1 c h) {t : Addr} (n : h.objs.size ≤ t) : Far x1 c t := by
  obtain ⟨_, ⟨o, _, g, _⟩, cx⟩ := hot
  refine ⟨Nat.ne_of_lt (Nat.lt_of_lt_of_le (Heap.lt_size g) n), fun b e => ?_⟩
  obtain ⟨_, ob, _, g2, _⟩ := cx b e
  exact Nat.ne_of_lt (Nat.lt_of_lt_of_le (Heap.lt_size g2) n)
theorem raiseNew_g {α : Type} {t y : Addr} {c : Option Addr} {ot : Obj} {vt : Array Value} {Q : α → Shared → Prop} (hot : HotG A y c s.heap) (far : Far y c t) (gt : s.heap.get? t = some ot) (dt : ot.data = .fields vt) (lt : 2 < vt.size)
    (out : E (.ref t) { s with heap := s.heap.update t (Obj.mapFields (·.setIfInBounds 2 (.ref y))) }) : wpAny (model prog w) A (raiseNew (.ref t) : Sem α) Q E s := by
  obtain ⟨hh, ⟨oy, vy, gy, dy, cy⟩, cx⟩ := hot
  have away : wpAny (model prog w) A (holding [Value.ref t] (runValue (.builtin "proto.unchain" ⟨[.ref t, .ref y, .ref y, .bool false], []⟩))) (fun _ s' => wpAny (model prog w) A (updateField t 2 (.ref y)) (fun _ s'' => wpAny (model prog w) A (throw (.ref t) : Sem α) Q E s'') E s') E s := by
    cases c with
    | none => exact HotX.unchained gy dy cy (HotX.chained gt dt lt (wpAny_throw out))
    | some b =>
      obtain ⟨nb, ob, vb, gb, db, cb⟩ := cx b rfl
      exact unchain_two gy dy cy gb db cb (far.2 b rfl) nb (HotX.chained gt dt lt (wpAny_throw out))
  have ne : (Value.ref y != Value.ref t) = true := HotX.ref_bne far.1
  have both : wpAny (model prog w) A (do let _ ← holding [Value.ref t] (runValue (.builtin "proto.unchain" ⟨[.ref t, .ref y, .ref y, .bool false], []⟩)); updateField t 2 (.ref y); (throw (.ref t) : Sem α)) Q E s := wpAny_bind (wpAny_mono away (fun _ _ h => wpAny_bind h) fun _ _ x => x)
  unfold raiseNew
  refine wpAny_bind (wpAny_handled (hh.symm ▸ ?_))
  first
  | (show wpAny _ _ (if (Value.ref y != Value.ref t) = true then _ else _) _ _ _; rw [if_pos ne]; first | exact both | exact wpAny_bind (wpAny_bind away))
  | (refine wpAny_bind ?_; show wpAny _ _ (if (Value.ref y != Value.ref t) = true then _ else _) _ _ _; rw [if_pos ne]; exact wpAny_bind away)
end
/-! ### walking while an exception is handled -/
section
variable {prog : Program} {w : World} {A : Around} {E : Value → Shared → Prop} {s : Shared} {x1 it l : Addr} {i : Nat} {items : Array Value} {c : Option Addr}
/-- a list's iterator at its end -/
theorem end_list_hot {Q : Option Value → Shared → Prop} (hot : HotG A x1 c s.heap) (nx : Far x1 c it) (at_ : s.heap.IsListIter it l i) (ls : s.heap.IsList l items) (none_ : items[i]? = none) (q : ∀ h', Heap.ExtBut it s.heap h' → Q none { s with heap := h' }) :
    wpAny (model prog w) A (pyNext (.ref it)) Q E s := by
  obtain ⟨o, ho, hc, hd⟩ := id at_
  obtain ⟨ol, hol, _, nl, hdl⟩ := ls
  unfold pyNext
  refine wpAny_bind (wpAny_attempt (wpAny_callSpecial?_slot (name := Str.ofString "__next__") at_.typeIs slot_listiter_next (wpAny_call_entry slot_listiter_next at_.typeIs entry_listiter_next ?_ (args_listiter_next _))))
  show wpAny _ _ (field (.ref it) 0 >>= _) _ _ s
  refine wpAny_bind (wpAny_field ho hd (x := .ref l) rfl ?_)
  show wpAny _ _ (if (Value.ref l == Value.none) = true then _ else _) _ _ s
  rw [if_neg (fun z : (Value.ref l == Value.none) = true => Bool.false_ne_true z)]
  show wpAny _ _ (field (.ref it) 1 >>= _) _ _ s
  refine wpAny_bind (wpAny_field ho hd (x := .int i 0) rfl ?_)
  show wpAny _ _ (seqItems? (.ref l) >>= _) _ _ s
  refine wpAny_bind (wpAny_seqItems hol hdl ?_)
  simp only [Int.toNat_natCast, none_]
  refine wpAny_bind (wpAny_rule (wpAny_bind (wpAny_setField ho hd (by simp) (show wpAny _ _ (newExc (.type "StopIteration") [] >>= _) _ _ _ from wpAny_bind ?_))))
  simp only [newExc, newTuple]
  (refine wpAny_bind (wpAny_newObj_type ?tp (by size_fits)); refine wpAny_bind (m := firstArgMember _ _) (wpAny_of_eq (a := Value.none) (by first | rfl | (simp only [firstArgMember]; rfl)) ?mk); refine wpAny_newObj_type ?up (by size_fits))
  have k : ∀ b u, b ≠ it → s.heap.get? b = some u → (s.heap.update it (Obj.mapFields (·.setIfInBounds 0 Value.none))).get? b = some u := fun b u hb e => by rw [Heap.get?_update_other _ _ (Ne.symm hb)]; exact e
  have hot2 := hot_on (h' := s.heap.update it (Obj.mapFields (·.setIfInBounds 0 Value.none))) hot fun b u hb e => k b u (hb.elim (fun z => z ▸ nx.1) fun z => nx.2 b z) e
  have hot3 : HotG A.in1 x1 c (s.heap.update it (Obj.mapFields (·.setIfInBounds 0 Value.none))) := ⟨hot2.hd, hot2.ob, hot2.cx⟩
  refine raiseNew_g (hot_on hot3 fun b u _ e => Heap.get?_push_of_some _ (Heap.get?_push_of_some _ e)) (hot_far (hot_on hot3 fun b u _ e => Heap.get?_push_of_some _ e) (Nat.le_refl _)) (Heap.get?_push_size _ rfl) rfl (by first | (simp; done) | (simp; omega)) ?_
  refine wpAny_bind (wpAny_isInstance (T := "StopIteration") (b := true) ⟨_, Heap.get?_update_self _ (Heap.get?_push_size _ rfl) rfl, rfl⟩ isSubtype_stop (wpAny_pure (q _ fun b u hb e => ?_)))
  have e2 := Heap.get?_push_of_some { cls := .type "tuple", data := .seq #[] } (k b u hb e)
  rw [Heap.get?_update_other _ _ (Nat.ne_of_gt (Heap.lt_size e2))]
  exact Heap.get?_push_of_some _ e2
/-- a tuple's iterator at its end -/
theorem end_tuple_hot {Q : Option Value → Shared → Prop} (hot : HotG A x1 c s.heap) (nx : Far x1 c it) (at_ : IsTupIter s.heap it l i) (ls : IsTup s.heap l items) (none_ : items[i]? = none) (q : ∀ h', Heap.ExtBut it s.heap h' → Q none { s with heap := h' }) :
    wpAny (model prog w) A (pyNext (.ref it)) Q E s := by
  obtain ⟨o, ho, hc, hd⟩ := id at_
  obtain ⟨ol, hol, _, nl, hdl⟩ := ls
  unfold pyNext
  refine wpAny_bind (wpAny_attempt (wpAny_callSpecial?_slot (name := Str.ofString "__next__") at_.typeIs slot_tupleiter_next (wpAny_call_entry slot_tupleiter_next at_.typeIs entry_tupleiter_next ?_ (args_tupleiter_next _))))
  show wpAny _ _ (field (.ref it) 0 >>= _) _ _ s
  refine wpAny_bind (wpAny_field ho hd (x := .ref l) rfl ?_)
  show wpAny _ _ (if (Value.ref l == Value.none) = true then _ else _) _ _ s
  rw [if_neg (fun z : (Value.ref l == Value.none) = true => Bool.false_ne_true z)]
  show wpAny _ _ (field (.ref it) 1 >>= _) _ _ s
  refine wpAny_bind (wpAny_field ho hd (x := .int i 0) rfl ?_)
  show wpAny _ _ (seqItems? (.ref l) >>= _) _ _ s
  refine wpAny_bind (wpAny_seqItems hol hdl ?_)
  simp only [Int.toNat_natCast, none_]
  refine wpAny_bind (wpAny_rule (wpAny_bind (wpAny_setField ho hd (by simp) (show wpAny _ _ (newExc (.type "StopIteration") [] >>= _) _ _ _ from wpAny_bind ?_))))
  simp only [newExc, newTuple]
  (refine wpAny_bind (wpAny_newObj_type ?tp (by size_fits)); refine wpAny_bind (m := firstArgMember _ _) (wpAny_of_eq (a := Value.none) (by first | rfl | (simp only [firstArgMember]; rfl)) ?mk); refine wpAny_newObj_type ?up (by size_fits))
  have k : ∀ b u, b ≠ it → s.heap.get? b = some u → (s.heap.update it (Obj.mapFields (·.setIfInBounds 0 Value.none))).get? b = some u := fun b u hb e => by rw [Heap.get?_update_other _ _ (Ne.symm hb)]; exact e
  have hot2 := hot_on (h' := s.heap.update it (Obj.mapFields (·.setIfInBounds 0 Value.none))) hot fun b u hb e => k b u (hb.elim (fun z => z ▸ nx.1) fun z => nx.2 b z) e
  have hot3 : HotG A.in1 x1 c (s.heap.update it (Obj.mapFields (·.setIfInBounds 0 Value.none))) := ⟨hot2.hd, hot2.ob, hot2.cx⟩
  refine raiseNew_g (hot_on hot3 fun b u _ e => Heap.get?_push_of_some _ (Heap.get?_push_of_some _ e)) (hot_far (hot_on hot3 fun b u _ e => Heap.get?_push_of_some _ e) (Nat.le_refl _)) (Heap.get?_push_size _ rfl) rfl (by first | (simp; done) | (simp; omega)) ?_
  refine wpAny_bind (wpAny_isInstance (T := "StopIteration") (b := true) ⟨_, Heap.get?_update_self _ (Heap.get?_push_size _ rfl) rfl, rfl⟩ isSubtype_stop (wpAny_pure (q _ fun b u hb e => ?_)))
  have e2 := Heap.get?_push_of_some { cls := .type "tuple", data := .seq #[] } (k b u hb e)
  rw [Heap.get?_update_other _ _ (Nat.ne_of_gt (Heap.lt_size e2))]
  exact Heap.get?_push_of_some _ e2
/-- a tuple is taken apart -/
theorem unpack_hot {t : Addr} {targets : List (Bool × (Value → Sem Unit))} {Q : Unit → Shared → Prop} (hot : HotG A x1 c s.heap) (ht : IsTup s.heap t items) (hn : targets.length = items.size) (hstar : targets.findIdx? (·.1) = none)
    (q : ∀ h', Heap.ExtBut s.heap.objs.size s.heap h' → wpAny (model prog w) A (assignInOrder (targets.map (·.2)) items.toList) Q E { s with heap := h' }) : wpAny (model prog w) A (unpack (.ref t) targets) Q E s := by
  have far : ∀ {b : Addr} {o : Obj}, s.heap.get? b = some o → b ≠ s.heap.objs.size := fun e => Nat.ne_of_lt (Heap.lt_size e)
  have nt : t ≠ s.heap.objs.size := by obtain ⟨o, ho, _⟩ := ht; exact far ho
  unfold unpack
  rw [hn, hstar]
  refine wpAny_bind (wpAny_holding ?_)
  unfold unpackItems notIterableAtAll
  refine wpAny_bind (wpAny_bind (wpAny_specialOf ht.typeIs slot_tuple_iter.lookup (wpAny_pure ?_)))
  simp only [Bool.false_eq_true, if_false]
  refine wpAny_bind (wpAny_holding (iter_tuple ht (wpAny_bind (wpAny_holding (draw_tuple nt items.size 0 _ _ ⟨_, Heap.get?_push_size _ rfl, rfl, rfl⟩ (ht.push _) (by omega) fun h1 it1 sb1 => ?_)))))
  rw [List.drop_zero, List.take_of_length_le (by simp), if_neg (by simp)]
  have hot1 : HotG A x1 c h1 := hot_on hot fun b o _ e => sb1.extBut _ _ (far e) (Heap.get?_push_of_some _ e)
  refine wpAny_bind (wpAny_holding (end_tuple_hot (s := { s with heap := h1 }) hot1 (hot_far hot (Nat.le_refl _)) it1 ((ht.push _).extBut sb1.extBut nt) (by simp) fun h2 eb2 => ?_))
  simp only [Option.isSome_none, Bool.false_eq_true, if_false]
  exact wpAny_pure (q h2 fun b o hb e => eb2 b o hb (sb1.extBut b o hb (Heap.get?_push_of_some _ e)))
end
/-- the exception at a is held as a value; so is its context, if it has one -/
def HotC2 (H : Hp) (a : Addr) (c : Option Addr) : Prop := (∃ (oe : Obj) (vs : Array Value), H a = some (Pin a oe) ∧ oe.data = .fields vs ∧ vs[2]? = some (match c with | none => .none | some b => .ref b)) ∧ ∀ b, c = some b → b ≠ a ∧ ∃ (oe : Obj) (vs : Array Value), H b = some (Pin b oe) ∧ oe.data = .fields vs ∧ vs[2]? = some .none
def HotV (H : Hp) (a : Addr) : Prop := ∃ c, HotC2 H a c
theorem HotC2.ex_ {H H' : Hp} {a : Addr} {c : Option Addr} (v : HotC2 H a c) (e : Ex H H') : HotC2 H' a c := by
  obtain ⟨⟨oe, vs, h, r⟩, k⟩ := v
  exact ⟨⟨oe, vs, e _ _ h, r⟩, fun b z => by
    obtain ⟨n, ob, vb, g, r2⟩ := k b z
    exact ⟨n, ob, vb, e _ _ g, r2⟩⟩
theorem HotV.ex_ {H H' : Hp} {a : Addr} (v : HotV H a) (e : Ex H H') : HotV H' a := v.elim fun c k => ⟨c, k.ex_ e⟩
theorem HotC2.far {H : Hp} {a t : Addr} {c : Option Addr} (v : HotC2 H a c) (n : H t = none) : Far a c t := by
  obtain ⟨⟨oe, vs, h, _⟩, k⟩ := v
  refine ⟨fun z => ?_, fun b z => ?_⟩
  · rw [z, n] at h; cases h
  · obtain ⟨_, ob, vb, g, _⟩ := k b z
    exact fun y => by rw [y, n] at g; cases g
theorem HotV.ne {H : Hp} {a b : Addr} (v : HotV H a) (n : H b = none) : a ≠ b := v.elim fun _ k => (k.far n).1
theorem Exc.hot {H : Hp} {a C d : Addr} {fs : List (Str × V)} (x : Exc H a C d fs) : HotV H a := by
  obtain ⟨⟨oe, vs, h, _, _, r⟩, _⟩ := x
  exact ⟨none, ⟨oe, vs, h, r⟩, fun b z => nomatch z⟩
section
variable {X : Cx} {a : Addr}
theorem HotC2.at_ {pins : List (Addr × Obj)} {σ : L2.St} {H : Hp} {s : Shared} {c : Option Addr} (v : HotC2 H a c) (hh : X.A.handled = some (.ref a)) (I : Inv X pins σ H s) : HotG X.A a c s.heap := by
  obtain ⟨⟨oe, vs, h, r1, r2⟩, k⟩ := v
  exact ⟨hh, ⟨oe, vs, pin_at I.hok h, r1, r2⟩, fun b z => by
    obtain ⟨n, ob, vb, g, d1, d2⟩ := k b z
    exact ⟨n, ob, vb, pin_at I.hok g, d1, d2⟩⟩
/-- (x, y, ..) = a tuple, where the exception at a is handled -/
def gTupX (K : PySem.W.Frag) (a : Addr) (n : Nat) (t : TGs) : TG := fun x σ H Q => HotV H a ∧ gTup K n t x σ H Q
theorem pg_tupX {es : List Expr} {k : Nat} {t : TGs} {n : Nat} {pos : Pos} (hh : X.A.handled = some (.ref a)) (h : PGs X es t) (hn : (assignEach es X.env).length = n := by rfl) (hst : (assignEach es X.env).findIdx? (·.1) = none := by rfl) : PG X (.Tuple es k pos) (gTupX X.K a n t) := by
  refine ⟨fun pins s σ H v u Q I r ⟨⟨c, hot⟩, t1, xs, ev, hq, hl, hw⟩ => ?_⟩
  subst ev
  obtain rfl : u = Value.ref t1 := r
  obtain ⟨its, rv, ht, hz⟩ := I.tuple hq
  rw [assign_Tuple]
  refine wpAny_bind (wpAny_standAt (unpack_hot (hot.at_ hh I) ht (by simp [hn, ← hl, rv.length]) hst fun h' hx => ?_))
  exact h.run pins _ σ H xs _ Q (I.kept (t' := s.toks) fun b o e => hx b o (Nat.ne_of_lt (Heap.lt_size e)) e) (by simpa using rv) hw
end
/-! ### a list comprehension there -/
/-- [elt for target in (a list) if ..]: P by the turn -/
def tLcH (K : PySem.W.Frag) (a : Addr) (tl : TE) (g : TG) (tt : TT) (te : TE) (vs : List Nat) : TE := fun σ H Q => tl σ H fun x H1 => ∃ (l : Addr) (xs : List V), x = .ref l ∧ SqL K H1 l xs ∧ ∀ D, H1 D = none → ∃ P : Nat → Hp → Prop, P 0 (upd H1 D (.lst [])) ∧ (∀ i H', P i H' → SqL K H' l xs ∧ HotV H' a) ∧
  (∀ i y H', xs[i]? = some y → P i H' → g y (wipe σ vs) H' fun σ2 H2 => wipe σ2 vs = wipe σ vs ∧ tt σ2 H2 fun b H3 => if b = true then te σ2 H3 fun z H4 => ∃ acc, H4 D = some (.lst acc) ∧ acc.length < sizeLine ∧ P (i + 1) (upd H4 D (.lst (acc ++ [z]))) else P (i + 1) H3) ∧ ∀ H', P xs.length H' → Q (.ref D) H'
section
variable {X : Cx} {pins : List (Addr × Obj)} {s : Shared} {σ : L2.St} {H : Hp} {Q : VK} {elt tg iter : Expr} {ifs : List Expr} {scope : Scope} {own : List (Str × Nat)} {pos pos' : Pos} {tl : TE} {g : TG} {tt : TT} {te : TE}
theorem lc_hot {use : Option (Value → Sem Unit)} {Qf : Value → Shared → Prop} {a : Addr} (hh : X.A.handled = some (.ref a)) (hN : X.N.Nodup) (I : Inv X pins σ H s) (hl : PE X iter tl) (ok : BlkOk X.N X.env.scope scope own)
    (hg : ∀ (sB : Shared) (HB : Hp) (C : Addr) (cl : List (Str × Addr)) (fp : List Addr), PG (X.blk sB HB scope (compEnvC scope cl C X.env) fp) tg g)
    (ht : ∀ (sB : Shared) (HB : Hp) (C : Addr) (cl : List (Str × Addr)) (fp : List Addr), PTs (X.blk sB HB scope (compEnvC scope cl C X.env) fp) ifs tt) (he : ∀ (sB : Shared) (HB : Hp) (C : Addr) (cl : List (Str × Addr)) (fp : List Addr), PE (X.blk sB HB scope (compEnvC scope cl C X.env) fp) elt te)
    (hs : ∀ x, foldedSetIterable iter X.env x = pure x) (h : tLcH X.K a tl g tt te (own.map (·.2)) σ H Q)
    (fin : ∀ D C s' m H', Inv X pins σ H' s' → Q (.ref D) H' → s'.heap.Ns C m → FpOk X pins H' C → compPost (model X.prog X.w) X.A X.xe use Qf (.ref D) C (.ok .next) s') :
    wpAny (model X.prog X.w) X.A (comprehension (.ListComp elt [⟨tg, iter, ifs, 0⟩] scope pos) scope X.env pos' (newList []) false (eval iter X.env) use) Qf X.xe s := by
  refine wpAny_comprehension_free (use := use) rfl hs (closure_ok fun y hy e => (ok.free y hy e).elim (fun k => I.ok.has _ (.inl k)) fun k => I.ok.has _ (.inr k)) ok.kind (fun y hy e => (ok.uniq y hy).trans (congrArg some e)) (thn (hl.run pins s σ H _ I h) fun v sa ⟨x, Ha, Ia, rx, l, xs, ex, hq, q⟩ => ?_)
  subst ex
  obtain rfl : v = Value.ref l := rx
  obtain ⟨its, rv, pl, hz⟩ := Ia.list hq
  refine wpAny_pyIter_list pl.isList (wpAny_newObj_type (newEnv_comp ?_) (by show 0 ≤ sizeLine; decide))
  have lenI := rv.length
  -- the iterator, the new list
  generalize eit : sa.heap.objs.size = it
  generalize esb : ({ sa with heap := sa.heap.push { cls := .type "list_iterator", data := .fields #[.ref l, .int 0 0] } } : Shared) = sb
  have hb : sb.heap = sa.heap.push { cls := .type "list_iterator", data := .fields #[.ref l, .int 0 0] } := by rw [← esb]
  have Ib : Inv X pins σ Ha sb := by rw [← esb]; exact Ia.kept (t' := sa.toks) fun b o e => Heap.get?_push_of_some _ e
  have stb : sb.heap.IsListIter it l 0 := by rw [hb, ← eit]; exact ⟨_, Heap.get?_push_size _ rfl, rfl, rfl⟩
  have fb : FpOk X pins Ha it := by rw [← eit]; exact Ia.fpOk (Nat.le_refl _) (Ia.hok.fresh (Nat.le_refl _))
  have big : sa.heap.objs.size ≤ it := Nat.le_of_eq eit
  show codeAny _ _ _ (compPost _ _ _ use Qf _ _) ({ sb with heap := pushCells ((sb.heap.push { cls := .type "list", data := .seq ([] : List Value).toArray }).push { cls := .type "dict", data := .dict #[] }) scope.names } : Shared)
  generalize eD : sb.heap.objs.size = D
  have nD : Ha D = none := Ib.hok.fresh (Nat.le_of_eq eD)
  have itD : it < D := by rw [← eD, hb, Heap.size_push, ← eit]; exact Nat.lt_succ_self _
  obtain ⟨P, P0, Pl, Pt, Pe⟩ := q D nD
  generalize esc : ({ sb with heap := sb.heap.push { cls := .type "list", data := .seq ([] : List Value).toArray } } : Shared) = sc
  have hc : sc.heap = sb.heap.push { cls := .type "list", data := .seq ([] : List Value).toArray } := by rw [← esc]
  have Ic : Inv X pins σ (upd Ha D (.lst [])) sc := by
    rw [← esc]
    exact Ib.laid (t' := sb.toks) (fun b o e => Heap.get?_push_of_some _ e) (Nat.le_of_eq eD) ⟨Nat.zero_le _, [], 0, .nil, by rw [← eD]; exact Heap.get?_push_size _ rfl⟩
  have fc : FpOk X pins (upd Ha D (.lst [])) it := ⟨by rw [upd_ne (Nat.ne_of_lt itD)]; exact fb.1, fb.2⟩
  have ltc : it < sc.heap.objs.size := by rw [hc, Heap.size_push, eD]; exact Nat.lt_succ_of_lt itD
  have farI : ∀ b ∈ [it], FpOk X pins (upd Ha D (.lst [])) b ∧ b < sc.heap.objs.size := by
    intro b hb'
    obtain rfl : b = it := by simpa using hb'
    exact ⟨fc, ltc⟩
  have stc : sc.heap.IsListIter it l 0 := stb.at fun o e => by rw [hc]; exact Heap.get?_push_of_some _ e
  have es : ({ sb with heap := pushCells ((sb.heap.push { cls := .type "list", data := .seq ([] : List Value).toArray }).push { cls := .type "dict", data := .dict #[] }) scope.names } : Shared) = { sc with heap := pushCells (sc.heap.push { cls := .type "dict", data := .dict #[] }) scope.names } := by rw [← esc]
  show codeAny (model X.prog X.w) X.A (.compStart (.ListComp elt [⟨tg, iter, ifs, 0⟩] scope pos) 0 (.ref it) (.ref D) (compEnvC scope (cellsFrom (sc.heap.objs.size + 1) scope.names (cloFrom X.env.cells scope.names [])) sc.heap.objs.size X.env))
    (compPost (model X.prog X.w) X.A X.xe use Qf (.ref D) sc.heap.objs.size) ({ sb with heap := pushCells ((sb.heap.push { cls := .type "list", data := .seq ([] : List Value).toArray }).push { cls := .type "dict", data := .dict #[] }) scope.names } : Shared)
  rw [es]
  have Id := block_start Ic ok hN farI
  have rg := hg sc (upd Ha D (.lst [])) sc.heap.objs.size (cellsFrom (sc.heap.objs.size + 1) scope.names (cloFrom X.env.cells scope.names [])) [it]
  have rt := ht sc (upd Ha D (.lst [])) sc.heap.objs.size (cellsFrom (sc.heap.objs.size + 1) scope.names (cloFrom X.env.cells scope.names [])) [it]
  have re := he sc (upd Ha D (.lst [])) sc.heap.objs.size (cellsFrom (sc.heap.objs.size + 1) scope.names (cloFrom X.env.cells scope.names [])) [it]
  generalize hE : compEnvC scope (cellsFrom (sc.heap.objs.size + 1) scope.names (cloFrom X.env.cells scope.names [])) sc.heap.objs.size X.env = env at Id rg rt re ⊢
  have own_at : env.locals = sc.heap.objs.size := by rw [← hE]; rfl
  generalize hd0 : ({ sc with heap := pushCells (sc.heap.push { cls := .type "dict", data := .dict #[] }) scope.names } : Shared) = sd at Id ⊢
  have std : sd.heap.IsListIter it l 0 := stc.at fun o e => by rw [← hd0]; exact pushCells_keeps _ _ _ _ (Heap.get?_push_of_some _ e)
  have itOk : ∀ {τ : L2.St} {U : Hp} {u : Shared}, Inv (X.blk sc (upd Ha D (.lst [])) scope env [it]) [] τ U u → U it = none → FpOk (X.blk sc (upd Ha D (.lst [])) scope env [it]) [] U it := fun {τ U u} J n =>
    ⟨n, (J.ok.exf it (List.mem_singleton.mpr rfl)).1, J.ok.exfs it (List.mem_singleton.mpr rfl), .inl (List.mem_singleton.mpr rfl), fun x c e => (J.ok.exf it (List.mem_singleton.mpr rfl)).2 x c e, fun q hq => absurd (show q ∈ ([] : List (Addr × Obj)) ++ [] from hq) (by simp)⟩
  have go : codeAny (model X.prog X.w) X.A (.compLoop (.ListComp elt [⟨tg, iter, ifs, 0⟩] scope pos) 0 (.ref it) (.ref D) env) (compPost (model X.prog X.w) X.A X.xe use Qf (.ref D) sc.heap.objs.size) sd := by
    refine compLoop_any (fun m u => ∃ i U, m = xs.length - i ∧ i ≤ xs.length ∧ Inv (X.blk sc (upd Ha D (.lst [])) scope env [it]) [] (wipe σ (own.map (·.2))) U u ∧ u.heap.IsListIter it l i ∧ U it = none ∧ P i U) ?_ _ ⟨0, _, rfl, Nat.zero_le _, Id, std, fc.1, P0⟩
    rintro m u ⟨i, U, rfl, hi, J, st, no, pi⟩
    obtain ⟨f0, f1, f2, f3, f4, f5⟩ := itOk J no
    obtain ⟨lU, hotU⟩ := Pl i U pi
    obtain ⟨itv, rvU, pl2, _⟩ := J.list lU
    have lenU := rvU.length
    rcases Nat.lt_or_ge i xs.length with lt | ge
    · obtain ⟨y, ey⟩ : ∃ y, xs[i]? = some y := ⟨_, List.getElem?_eq_getElem lt⟩
      obtain ⟨v, ev, ry⟩ := rvU.get ey
      refine wpAny_pyNext_list_item st pl2.isList (x := v) (by simpa using ev) fun h1 st1 sb1 => ?_
      have J1 := J.turned (h' := h1) (t' := u.toks) (fun b o hb e => (sb1.2 b hb).trans e) f0 f1 f3 f4 f5
      obtain ⟨oi, e1, c1, d1⟩ := id st1
      refine go_of (s := { u with heap := h1 }) e1 c1 d1 (by decide) ?_
      have fit : ∀ b ∈ [it], FpOk (X.blk sc (upd Ha D (.lst [])) scope env [it]) [] U b := by
        intro b hb
        obtain rfl : b = it := by simpa using hb
        exact itOk J no
      have objs : ∀ b ∈ [it], ∃ o, h1.get? b = some o ∧ ∀ v, o.data ≠ .cell v := by
        intro b hb
        obtain rfl : b = it := by simpa using hb
        exact ⟨oi, e1, fun v z => by rw [d1] at z; cases z⟩
      refine thnF (rg.run _ _ _ U y v _ (J1.pinned fit objs) ry (Pt i y U ey pi)) fun _ u2 ⟨τ, U2, J2, back, q2⟩ => ?_
      refine thnF (rt.run _ u2 τ U2 _ J2 q2) fun b u3 ⟨U3, J3, q3⟩ => ?_
      have next : ∀ {u' : Shared} {U' : Hp}, Inv (X.blk sc (upd Ha D (.lst [])) scope env [it]) ([] ++ pinsAt [it] h1) τ U' u' → P (i + 1) U' → ∃ m', m' < xs.length - i ∧ ∃ j V, m' = xs.length - j ∧ j ≤ xs.length ∧ Inv (X.blk sc (upd Ha D (.lst [])) scope env [it]) [] (wipe σ (own.map (·.2))) V u' ∧ u'.heap.IsListIter it l j ∧ V it = none ∧ P j V := fun {u' U'} J' p' => by
        obtain ⟨k1, k2, _⟩ := J'.pin (it, oi) (List.mem_append_right _ (List.mem_append_right _ (mem_pinsAt (List.mem_singleton.mpr rfl) e1)))
        exact ⟨xs.length - (i + 1), by omega, i + 1, U', rfl, lt, (J'.unpinned (pins := [])).weak (by rw [← back, wipe_length]) (fun j v e => (wipe_some (back ▸ e)).1), ⟨oi, k1, c1, d1⟩, k2, p'⟩
      match b, q3 with
      | false, q3 => exact next J3 q3
      | true, q3 =>
        refine thnF (re.run _ u3 τ U3 _ J3 q3) fun z u4 ⟨x4, U4, J4, r4, acc, at4, room, q4⟩ => ?_
        exact app_ok (X := X.blk sc (upd Ha D (.lst [])) scope env [it]) J4 at4 room r4 fun u5 J5 => next J5 q4
    · have ei : i = xs.length := Nat.le_antisymm hi ge
      obtain ⟨cU, hotC⟩ := hotU
      refine end_list_hot (hotC.at_ (X := X.blk sc (upd Ha D (.lst [])) scope env [it]) hh J) (hotC.far no) st pl2.isList ?_ fun h1 eb => ?_
      · simp; omega
      have J1 := J.turned (h' := h1) (t' := u.toks) (fun b o hb e => eb b o hb e) f0 f1 f3 f4 f5
      have J2 : Inv X pins σ U { u with heap := h1 } := Ic.call' (ch := [it]) J1.os J1.base J1.hok J1.bare fun b hb => by
        obtain ⟨⟨_, z1, z2, z3, z4, z5⟩, _⟩ := farI b hb
        exact ⟨z3, z1, z4, z5⟩
      have noC : U sc.heap.objs.size = none := own_at ▸ (show U env.locals = none from J1.free)
      obtain ⟨mm, hm, _⟩ := J1.loc
      have hm' : h1.Ns sc.heap.objs.size mm := own_at ▸ (show h1.Ns env.locals mm from hm)
      exact fin D sc.heap.objs.size _ mm U J2 (Pe U (ei ▸ pi)) hm' (Ic.fpOk (Nat.le_refl _) noC)
  exact codeAny_compStart_list go (wpAny_pyIter_listiter std go)
theorem pe_lcX {a : Addr} (hh : X.A.handled = some (.ref a)) (hN : X.N.Nodup) (hl : PE X iter tl) (ok : BlkOk X.N X.env.scope scope own)
    (hg : ∀ (sB : Shared) (HB : Hp) (C : Addr) (cl : List (Str × Addr)) (fp : List Addr), PG (X.blk sB HB scope (compEnvC scope cl C X.env) fp) tg g)
    (ht : ∀ (sB : Shared) (HB : Hp) (C : Addr) (cl : List (Str × Addr)) (fp : List Addr), PTs (X.blk sB HB scope (compEnvC scope cl C X.env) fp) ifs tt)
    (he : ∀ (sB : Shared) (HB : Hp) (C : Addr) (cl : List (Str × Addr)) (fp : List Addr), PE (X.blk sB HB scope (compEnvC scope cl C X.env) fp) elt te) (hs : ∀ x, foldedSetIterable iter X.env x = pure x := by intro _; rfl) :
    PE X (.ListComp elt [⟨tg, iter, ifs, 0⟩] scope pos) (tLcH X.K a tl g tt te (own.map (·.2))) := by
  refine ⟨fun pins s σ H Q I h => (eval_ListComp ..).symm ▸ ?_⟩
  refine lc_hot hh hN I hl ok hg ht he hs h fun D C u m U J q ns at_ => ⟨m, ns, fun h'' sb => ⟨.ref D, U, ?_, rfl, q⟩⟩
  exact J.turned (t' := u.toks) (fun b o nb e => (sb.2 b nb).trans e) at_.1 at_.2.1 at_.2.2.2.1 at_.2.2.2.2.1 at_.2.2.2.2.2
/-- y = [..] on one line, y a local -/
theorem ps_setLcX {a : Addr} {i : Nat} {y : Str} {py spos : Pos} (hh : X.A.handled = some (.ref a)) (hN : X.N.Nodup) (hy : X.N[i]? = some y) (hyl : X.env.scope.names.lookup y = some .local)
    (hsw : swapsWith (.ListComp elt [⟨tg, iter, ifs, 0⟩] scope pos) (some (.Name y py)) spos.line X.env = pure true) (hl : PE X iter tl) (ok : BlkOk X.N X.env.scope scope own)
    (hg : ∀ (sB : Shared) (HB : Hp) (C : Addr) (cl : List (Str × Addr)) (fp : List Addr), PG (X.blk sB HB scope (compEnvC scope cl C X.env) fp) tg g)
    (ht : ∀ (sB : Shared) (HB : Hp) (C : Addr) (cl : List (Str × Addr)) (fp : List Addr), PTs (X.blk sB HB scope (compEnvC scope cl C X.env) fp) ifs tt)
    (he : ∀ (sB : Shared) (HB : Hp) (C : Addr) (cl : List (Str × Addr)) (fp : List Addr), PE (X.blk sB HB scope (compEnvC scope cl C X.env) fp) elt te) (hs : ∀ x, foldedSetIterable iter X.env x = pure x := by intro _; rfl) :
    PS X (.Assign [.Name y py] (.ListComp elt [⟨tg, iter, ifs, 0⟩] scope pos) spos) (tAsg (tLcH X.K a tl g tt te (own.map (·.2))) (gName i)) := by
  refine ⟨fun pins s σ H D I h => (exec_Assign_Name_used _ _ _ _ hsw).symm ▸ wpAny_bind (wpAny_standAt (wpAny_bind ?_))⟩
  have key : wpAny (model X.prog X.w) X.A (comprehension (.ListComp elt [⟨tg, iter, ifs, 0⟩] scope pos) scope X.env (firstIterPos [⟨tg, iter, ifs, 0⟩] pos) (newList []) false (eval iter X.env) (some (assign (.Name y py) X.env))) (fun _ u => SP X pins D .next u) X.xe s := by
    refine lc_hot (Q := fun x U => gName i x σ U D.nx) hh hN I hl ok hg ht he hs h fun L C u m U J q ns at_ => ?_
    refine wpAny_assign_Name (store_ok2 (v := V.ref L) J hN hy (.inl hyl) rfl (fun u2 J2 ⟨c, sb, hc⟩ => ?_) (.inr hyl))
    have apart : C ≠ c := hc.elim (fun z => z ▸ at_.2.1) fun z w => at_.2.2.2.2.1 y c z w.symm
    exact ⟨m, ns.sameBut sb apart, fun h3 sb3 => ⟨_, U, J2.turned (t' := u2.toks) (fun b o nb e => (sb3.2 b nb).trans e) at_.1 at_.2.1 at_.2.2.2.1 at_.2.2.2.2.1 at_.2.2.2.2.2, q⟩⟩
  exact wpAny_bind (thn key fun _ _ q => wpAny_pure (wpAny_pure q))
end
/-! ### a def that is called with the exception that is handled -/
structure FnT (P : Program) (w : World) (K : PySem.W.Frag) (mg : Str → Option Value) (base : Heap) (k : Nat) (f : Addr) (fd : FuncData) (ps : List Str) (sp : Addr → Sp) : Prop where
  len : ∀ a vs H Q E, sp a vs H Q E → vs.length = ps.length
  run : ∀ (a : Addr) (A : Around) (outer : List Env) (s : Shared) (H : Hp) (args : Args) (us : List Value) (vs : List V) (Q : VK) (E : XK), L2H.RoomH k A → A.handled = some (.ref a) → Env0 P w K mg base A outer s H → BindsTo s fd args (ps.zip us) → Vals vs us → sp a vs H Q E →
    codeAny (model P w) A (.call (.ref f) args) (CR CX0 outer P w H s Q E) s
theorem fnT {P : Program} {w : World} {K : PySem.W.Frag} {mg : Str → Option Value} {base : Heap} {x qual : Str} {st : Stmt} {f : Addr} {fd : FuncData} {N ps : List Str} {k : Nat} {sp : Addr → Sp} (F : Fun K x qual st f fd) (S : FnScope N ps (defScope st)) (len : ∀ a vs H Q E, sp a vs H Q E → vs.length = ps.length)
    (body : ∀ (cdv : Value) (a : Addr) (A : Around) (outer : List Env) (s : Shared) (H : Hp) (vs : List V) (Q : VK) (E : XK) (p : Addr × Obj), A.handled = some (.ref a) → L2H.RoomH k (A.deeper (envOfC qual (defScope st) s.heap.objs.size f cdv)) → sp a vs H Q E →
      ∃ t, PSs (L2H.cxH CX0 P w K mg base N qual (defScope st) f cdv A outer s H E p) (defBody st) t ∧ t { rt := Q, nx := fun _ H' => Q .non H' } (L2.start N vs) H) : FnT P w K mg base (k + 1) f fd ps sp := by
  obtain ⟨oc, od, kV, doc, pm, an, cdv, ct, osl, rfl, lk, hcd⟩ := F.ex
  refine ⟨len, fun a A outer s H args us vs Q E room hh e0 bnd rv want => ?_⟩
  have stays : ∀ b o, base.get? b = some o → s.heap.get? b = some o := fun b o e => (e0.bs b o e).1
  have kin := e0.mod.kin.keeps stays
  have fb := e0.mod.kin _ _ lk
  have pin : L2H.PinOk outer H s (f, ⟨oc, od, .func (PySem.W.fnOf x qual (defArgs st) (defBody st) (defScope st) .none kV doc pm an cdv ct), osl⟩) :=
    { get := kin _ _ lk, free := (e0.bs _ _ fb).2, nocell := fun v z => (nomatch z), nofs := fun m => by have z := (e0.funs.mem m).1; rw [fb] at z; cases z }
  have names : ∀ y ∈ ps.zip us, (defScope st).names.lookup y.1 = some .local ∨ ((defScope st).names.lookup y.1 = some .cell ∧ ((cellsFrom (s.heap.objs.size + 1) (defScope st).names []).lookup y.1).isSome = true) := fun y hy =>
    (S.par y.1 (List.of_mem_zip hy).1).imp id fun z => ⟨z, PySem.W.cellsFrom_some _ _ _ (.inl z)⟩
  refine codeAny_call_function room.depth (kin _ _ lk) rfl S.co S.gen rfl (PySem.W.codeRec_of kin hcd) (bnd _ _ _ _ (wpAny_newFunctionEnv_cells S.kind names fun env he s1 opened => ?_))
  subst he
  obtain ⟨t, ht, q⟩ := body cdv a A outer s H vs Q E _ hh (room.deeper _) want
  refine ⟨(e0.mod.nolimit.keeps stays).keeps opened.toInCall.keep, codeAny_func (wpAny_mono (ht.run [] s1 _ H _ (L2H.inv_startH S pin e0 (len _ _ _ _ _ want) rv opened) q) (fun r s2 z => ?_) fun _ _ z => z)⟩
  match r, z with
  | .ret _, ⟨v, _, U, J, rr, qq⟩ => exact ⟨v, U, J.os, J.bare, J.base, J.hok, rr, qq⟩
  | .next, ⟨_, U, J, qq⟩ => exact ⟨V.non, U, J.os, J.bare, J.base, J.hok, rfl, qq⟩
  | .brk, ⟨_, _, _, qq⟩ => exact qq.elim
  | .cont, ⟨_, _, _, qq⟩ => exact qq.elim
theorem roomT {A : Around} {k : Nat} {v : Option Value} (r : Room k A) : L2H.RoomH k (A.mark v) := ⟨r.dp, r.un⟩
section
variable {X : Cx}
def tCallT (a : Addr) (sp : Addr → Sp) (E : XK) (t : TA) : TE := fun σ H Q => t σ H fun vs H1 => sp a vs H1 Q E
theorem pe_callT {k : Nat} {f a : Addr} {fd : FuncData} {ps : List Str} {sp : Addr → Sp} {x : Str} {q pos : Pos} {E : XK} {e : Expr} {es : List Expr} {ta : TA} (F : FnT X.prog X.w X.K X.mg X.base k f fd ps sp) (hh : X.A.handled = some (.ref a)) (hr : L2H.RoomH k X.A) (hg : Gl X x) (hm : X.mg x = some (.ref f)) (kp : PySem.W.keepIn X.K (.ref f) = true) (hb : Binds X.K fd ps [])
    (ha : PA X (e :: es) ta) (hdb : (x == ("__debug__" : Str)) = false := by decide) (he : starEach (e :: es) X.env = (false, eval e X.env) :: starEach es X.env := by rfl) (hpl : (backTo pos (starEach es X.env)).any (·.1) = false := by rfl) : PE X (.Call (.Name x q) (e :: es) [] pos) (tCallT a sp E ta) := by
  refine ⟨fun pins s σ H Q I h => wpAny_Call_Name_kw (ld_glob I hg hm ?_ hdb)⟩
  refine PySem.W.callWith_K (h₀ := X.base) I.ok.mod.kin kp (thn (ha.run pos pins s σ H _ I h) fun us s1 ⟨vs, H1, I1, r, want⟩ => ⟨I1.kIn, ?_⟩) he hpl
  have bd := hb s1 us I1.kIn ((List.append_nil us).symm ▸ r.length.symm.trans (F.len _ _ _ _ _ want))
  rw [List.append_nil] at bd
  refine wpAny_call (codeAny_mono (F.run a X.A X.stack s1 H1 ⟨us, []⟩ us vs Q E hr hh I1.env0 bd r want) fun out s2 z => ?_)
  match out, z with
  | .ok (.ret _), z => exact I1.after z
  | .ok .next, z => exact False.elim z
  | .ok .brk, z => exact False.elim z
  | .ok .cont, z => exact False.elim z
  | .error _, z => exact False.elim z
end
end Mc
namespace Mc
open PySem PySem.Spec PyProof.Rows L2 Evl
/-! ### exceptions of which more is known than class and dict -/
theorem steady_at (x : Value) : PXN.Steady1 fun o : Obj => ∀ vs : Array Value, o.data = .fields vs → vs[2]? = some x := fun o v k => by
  obtain ⟨oc, od, dt, sl⟩ := o
  cases dt with
  | fields ws =>
    intro vs e
    obtain rfl : ws.setIfInBounds 1 v = vs := Data.fields.inj e
    rw [HotX.set_other (i := 1) (j := 2) (y := x) (by decide) (k ws rfl)]
  | _ => intro vs e; first | exact Data.noConfusion e | cases e
/-- class, dict, and the context: None, or an exception that is tracked and has none -/
def Z2 (H : Hp) (cls : Value) (d : Option Addr) (o : Obj) : Prop := ∃ c : Option Addr, (o.cls = cls ∧ o.dict = d ∧ ∀ vs : Array Value, o.data = .fields vs → vs[2]? = some (match c with | none => .none | some b => .ref b)) ∧ ∀ b, c = some b → ∃ (ob : Obj) (vb : Array Value), H b = some (Pin b ob) ∧ ob.data = .fields vb ∧ vb[2]? = some .none
theorem z2_steady {H : Hp} {cls : Value} {d : Option Addr} : PXN.Steady1 (Z2 H cls d) := fun o v ⟨c, ⟨k1, k2, k3⟩, k4⟩ => ⟨c, ⟨PXN.steady_cls o v k1, PXN.steady_dict o v k2, steady_at _ o v k3⟩, k4⟩
theorem z2_of {H : Hp} {cls : Value} {d : Option Addr} {o : Obj} (z : L2N.Zn cls d o) : Z2 H cls d o := ⟨none, ⟨z.1, z.2.1, z.2.2⟩, fun b e => nomatch e⟩
theorem traced_of {h B : Heap} {a : Addr} {Y Z : Obj → Prop} {fl : Value} (k : ∀ o, Y o → Z o) (x : HandSPX.TracedZ h B a Y fl) : HandSPX.TracedZ h B a Z fl := x.elim fun oe ⟨vs, t, ot, ts, g, y, r⟩ => ⟨oe, vs, t, ot, ts, g, k oe y, r⟩
theorem sky_of {h B : Heap} {l : List Env} {a L : Addr} {Y Z : Obj → Prop} (k : ∀ o, Y o → Z o) (x : Sky B l a Y L h) : Sky B l a Z L h := by
  rcases x with ⟨s1, s2, s3, oe, vs, g, y, r⟩ | ⟨s1, s2, s3, t⟩ | ⟨s1, s2, s3, t⟩
  · exact .inl ⟨s1, s2, s3, oe, vs, g, k oe y, r⟩
  · exact .inr (.inl ⟨s1, s2, s3, traced_of k t⟩)
  · exact .inr (.inr ⟨s1, s2, s3, traced_of k t⟩)
/-- in the air of X -/
def Air (X : Cx) (W : WX) (u : Value) (s' : Shared) : Prop := ∃ (a : Addr) (B : Heap) (sI : Shared) (pins : List (Addr × Obj)) (τ : L2.St) (U : Hp) (cls : Value) (d : Option Addr), u = .ref a ∧ Inv X pins τ U sI ∧ (∀ b o, sI.heap.get? b = some o → b ∉ frs X.stack → B.get? b = some o) ∧ sI.heap.UpToSlots s'.heap ∧ Sky B X.stack a (Z2 U cls d) X.env.locals s'.heap ∧ U a = none ∧ s'.os = sI.os ∧ AllBare s'.gens ∧ W cls d τ U
def Tk (X : Cx) (W : WX) : Prop := ∀ u s', Air X W u s' → X.xe u s'
theorem air_n {X : Cx} {W : WX} {u : Value} {s' : Shared} (x : L2N.XE X W u s') : Air X W u s' := by
  obtain ⟨a, B, sI, pins, τ, U, cls, d, e1, e2, e3, e4, sky, r⟩ := x
  exact ⟨a, B, sI, pins, τ, U, cls, d, e1, e2, e3, e4, sky_of (fun _ => z2_of) sky, r⟩
theorem Tk.n {X : Cx} {W : WX} (t : Tk X W) : L2N.Takes X W := fun u s' x => t u s' (air_n x)
/-- behind a call -/
def CY (P : Program) (w : World) (outer : List Env) (H : Hp) (s : Shared) (E : XK) (u : Value) (s' : Shared) : Prop := ∃ (a : Addr) (B : Heap) (U : Hp) (cls : Value) (d : Option Addr), u = .ref a ∧ HandSPX.FlyingZ B outer a (Z2 U cls d) s'.heap ∧ HOk P w U B ∧ UB (frs outer) H U s.heap B s'.heap ∧ U a = none ∧ s'.os = s.os ∧ AllBare s'.gens ∧ E cls d U
section
variable {X : Cx} {pins : List (Addr × Obj)} {τ : L2.St} {H : Hp} {s s' : Shared} {W : WX} {E : XK}
theorem air_call (I : Inv X pins τ H s) (k : ∀ cls d U, E cls d U → W cls d τ U) {u : Value} (x : CY X.prog X.w X.stack H s E u s') : Air X W u s' := by
  obtain ⟨a, B, U, cls, d, rfl, fly, ok, ub, nU, os, bare, out⟩ := x
  -- what stands behind: the ground and the frames
  obtain ⟨G, in_, off⟩ := restrict s'.heap fun b => (B.get? b).isSome || decide (b ∈ frs X.stack)
  have ground : ∀ b o, B.get? b = some o → G.get? b = some o := fun b o e => (in_ b (by simp [e])).trans (fly.1 b o e)
  have frame : ∀ b, b ∈ frs X.stack → G.get? b = s'.heap.get? b := fun b m => in_ b (by simp [m])
  have back : ∀ b o, G.get? b = some o → s'.heap.get? b = some o ∧ ((B.get? b).isSome = true ∨ b ∈ frs X.stack) := fun b o e => by
    rcases z : ((B.get? b).isSome || decide (b ∈ frs X.stack)) with _ | _
    · rw [off b z] at e; exact nomatch e
    · exact ⟨(in_ b z).symm.trans e, by simpa [Bool.or_eq_true] using z⟩
  have J : Inv X pins τ U { s with heap := G, gens := s'.gens, drawn := s'.drawn, toks := s'.toks } := by
    refine I.call (ch := []) ⟨fun b o e n m _ => ground b o (ub.keep b o e n m), fun b o e n m _ => ?_, fun b o e n _ => ub.free b o e n, fun b o e _ => ?_, ub.tups, ub.frzs, ub.tbls⟩ (ok.kept ground) bare (fun _ z => nomatch z)
    · exact (ub.slot b o e m).imp fun sl z => (frame b m).trans z
    · by_cases m : b ∈ frs X.stack
      · exact (ub.slot b o e m).elim fun sl z => ⟨_, (frame b m).trans z⟩
      · exact (ub.there b o e m).imp fun o' z => ground b o' z
  refine ⟨a, B, _, pins, τ, U, cls, d, rfl, J, fun b o e m => ?_, Heap.UpToSlots.of_keeps fun b o e => (back b o e).1, .inr (.inl fly), nU, os, bare, k _ _ _ out⟩
  obtain ⟨e2, h⟩ := back b o e
  rcases h with h | h
  · obtain ⟨o2, z⟩ := Option.isSome_iff_exists.mp h
    rw [z]; exact (fly.1 b o2 z).symm.trans e2
  · exact absurd h m
theorem passY (t : Tk X W) (τ : L2.St) : PassesAt (CY X.prog X.w) X τ (WE W τ) := fun _ _ _ e s' I x => t e s' (air_call I (fun _ _ _ h => h) x)
/-- out of the def -/
theorem air_out (hs : X.stack = X.env :: X.outer) (hf : X.env.frame = some X.env.locals) (hex : X.ex = []) {E₁ : Value → Shared → Prop} (k : ∀ cls d τ U, W cls d τ U → E cls d U) {u : Value} (x : Air X W u s') :
    wpAny (model X.prog X.w) X.A (leaving X.env u) (fun _ s'' => CY X.prog X.w X.outer X.H_0 X.s_0 E u s'') E₁ s' := by
  obtain ⟨a, B, sI, pins, τ, U, cls, d, rfl, I, nb, up, sky, nU, os, bare, out⟩ := x
  have frames : X.A.frames = some (X.env :: X.outer) := I.ok.frames.trans (congrArg some hs)
  have old : ∀ b o, X.s_0.heap.get? b = some o → b ∉ X.fs → b ∉ frs X.stack := fun b o e m hm => by
    rcases List.mem_cons.mp (I.stkSub b hm) with z | z
    · have l1 := Heap.lt_size e
      rw [z] at l1
      exact Nat.lt_irrefl _ (Nat.lt_of_lt_of_le l1 I.ok.above)
    · exact m z
  have nex : ∀ b, b ∉ X.ex := fun b m => by rw [hex] at m; exact nomatch m
  have away : ∀ g, HandSPX.FlyingZ B X.outer a (Z2 U cls d) g → s'.heap.UpToSlots g → CY X.prog X.w X.outer X.H_0 X.s_0 E (.ref a) { s' with heap := g } := fun g fly up2 => by
    refine ⟨a, B, U, cls, d, rfl, fly, I.inGround nb, ⟨fun b o e n m => nb b o (I.base.keep b o e n m (nex b)) (old b o e m), fun b o e m => ?_, fun b o e n => I.base.free b o e n (nex b), fun b o e m => ?_, I.base.tups, I.base.frzs, I.base.tbls⟩, nU, os.trans I.os, bare, k _ _ _ _ out⟩
    · obtain ⟨_, o2, e2, nd⟩ := I.ok.funs.mem m
      obtain rfl : o = o2 := Option.some.inj (e.symm.trans e2)
      obtain ⟨_, y1⟩ := I.base.slot b o e (I.ok.frf b m) m (nex b)
      obtain ⟨_, y2⟩ := up b _ y1 nd
      obtain ⟨w3, y3⟩ := up2 b _ y2 nd
      exact ⟨w3, y3⟩
    · exact (I.base.there b o e (nex b)).imp fun o2 y => nb b o2 y (old b o e m)
  rw [hs] at sky
  rcases sky with ⟨c1, c2, c3, oe, vs, g, z, dd, v1⟩ | fly | held
  · exact PXN.leaving_firstZ z2_steady frames c3 hf g c1 c2 dd v1 z away
  · exact PXN.leaves_onZ z2_steady frames hf fly away
  · exact HandSPX.leaves_heldZ hf held away
theorem tk_of (hs : X.stack = X.env :: X.outer) (hf : X.env.frame = some X.env.locals) (hex : X.ex = []) {E₁ : Value → Shared → Prop} (hx : X.xe = fun e s' => wpAny (model X.prog X.w) X.A (leaving X.env e) (fun _ s'' => CY X.prog X.w X.outer X.H_0 X.s_0 E e s'') E₁ s') : Tk X (fun cls d _ U => E cls d U) := fun u s' x => by
  rw [hx]; exact air_out (W := fun cls d _ U => E cls d U) (E := E) hs hf hex (fun _ _ _ _ h => h) x
end
/-- a def that lets such an exception out -/
theorem okY {P : Program} {w : World} {K : PySem.W.Frag} {mg : Str → Option Value} {base : Heap} {x qual : Str} {st : Stmt} {f : Addr} {fd : FuncData} {N ps : List Str} {k : Nat} {sp : Sp} (F : Fun K x qual st f fd) (S : FnScope N ps (defScope st)) (len : ∀ vs H Q E, sp vs H Q E → vs.length = ps.length)
    (body : ∀ (cdv : Value) (A : Around) (outer : List Env) (s : Shared) (H : Hp) (vs : List V) (Q : VK) (E : XK), Room k (A.deeper (envOfC qual (defScope st) s.heap.objs.size f cdv)) → sp vs H Q E →
      ∃ t, PSs (cxOf (CY P w) P w K mg base N qual (defScope st) f cdv A outer s H E) (defBody st) t ∧ t { rt := Q, nx := fun _ H' => Q .non H' } (L2.start N vs) H) : FnOk P w K mg base (CY P w) (k + 1) f fd ps sp := by
  obtain ⟨oc, od, kV, doc, pm, an, cdv, ct, osl, rfl, lk, hcd⟩ := F.ex
  exact fn_of lk hcd S len fun A outer s H vs Q E => body cdv A outer s H vs Q E
end Mc
namespace Mc
open PySem PySem.Spec PyProof.Rows L2 Evl
/-! ### raise .. from None in a suite -/
section
variable {X : Cx} {pins : List (Addr × Obj)} {τ : L2.St} {U : Hp} {sI s' : Shared} {W : WX}
theorem air_new {a : Addr} {oa : Obj} {va : Array Value} {cls : Value} {d : Option Addr} (I : Inv X pins τ U sI) (keep : ∀ b o, sI.heap.get? b = some o → s'.heap.get? b = some o) (new : sI.heap.get? a = none) (ga : s'.heap.get? a = some oa)
    (z : Z2 U cls d oa) (da : oa.data = .fields va) (tb : va[1]? = some .none) (nU : U a = none) (os : s'.os = sI.os) (bare : AllBare s'.gens) (out : W cls d τ U) : Air X W (.ref a) s' := by
  have hid : (PySem.W.hideAll sI.heap (frs X.stack)).get? a = none := by
    rcases q : (PySem.W.hideAll sI.heap (frs X.stack)).get? a with _ | o
    · rfl
    · exact nomatch new.symm.trans (PySem.W.of_hideAll _ q)
  exact ⟨a, PySem.W.hideAll sI.heap (frs X.stack), sI, pins, τ, U, cls, d, rfl, I, fun b o g m => PySem.W.hideAll_get _ g m, Heap.UpToSlots.of_keeps keep,
    .inl ⟨fun b o g => keep b o (PySem.W.of_hideAll _ g), hid, Heap.FunFrames.of_keeps (fun b o g _ => ⟨o, keep b o g, rfl⟩) (funFrames_none I.stack fun b m => PySem.W.hideAll_none _ m), oa, va, ga, z, da, tb⟩, nU, os, bare, out⟩
/-- what such a raise wishes of the heap: what is handled is tracked and has no context -/
def Held0 (x0 : Addr) (U : Hp) : Prop := ∃ (o : Obj) (vs : Array Value), U x0 = some (Pin x0 o) ∧ o.data = .fields vs ∧ vs[2]? = some .none
theorem ps_raiseHY {e : Expr} {t : L2.St → Hp → XK → Prop} {j : Nat} {cpos pos : Pos} {x0 : Addr} (hh : X.A.handled = some (.ref x0)) (tk : Tk X W) (mk : L2H.PMk5 X e t) :
    PS X (.Raise (some e) (some (.Constant .none j cpos)) pos) (fun _ τ H => t τ H fun cls d U => Held0 x0 U ∧ W cls d τ U) := by
  constructor
  intro pins s τ H D I h
  have cause : ∀ (s2 : Shared) (Q2 : Value → Shared → Prop), Q2 .none s2 → wpAny (model X.prog X.w) X.A (do let v ← eval (.Constant .none j cpos) X.env; standAt pos; pure v) Q2 X.xe s2 := fun s2 Q2 q2 => wpAny_bind (Constant_none (wpAny_bind (wpAny_standAt (wpAny_pure q2))))
  refine wpAny_bind (wpAny_standAt (HotX.raise_made_hotN (x1 := x0) cause (wpAny_bind (wpAny_mono (mk pins s τ H _ I h) (fun u s1 made => wpAny_bind (wpAny_standAt (wpAny_pure ?_))) fun _ _ x => x))))
  obtain ⟨⟨a, oa, va, sI, U, cls, d, rfl, J, keep, new, ga, zn, da, tb, nU, os, bare, rz, ⟨⟨o0, v0, p0, d0, c0⟩, out⟩⟩, six⟩ := made
  have room : 4 < va.size := six a oa va rfl ga da
  have g0 : sI.heap.get? x0 = some o0 := pin_at J.hok p0
  have ne : x0 ≠ a := fun z => by rw [z, new] at g0; cases g0
  have apart : ∀ b u, sI.heap.get? b = some u → a ≠ b := fun b u g z => by rw [← z, new] at g; cases g
  have keep2 : ∀ b u, sI.heap.get? b = some u → (HotX.noneFrom s1.heap a).get? b = some u := fun b u g => (HotX.noneFrom_other (apart b u g)).trans (keep b u g)
  obtain ⟨ga2, da2⟩ := HotX.noneFrom_at ga da
  have upd3 := Heap.get?_update_self (Obj.mapFields (·.setIfInBounds 2 (.ref x0))) ga2 (Obj.isFreed_of_fields (Obj.data_mapFields da2 _))
  have tb2 : (((va.setIfInBounds 3 Value.none).setIfInBounds 4 (Value.bool true)).setIfInBounds 2 (Value.ref x0))[1]? = some Value.none := HotX.set_other (by decide) (HotX.set_other (by decide) (HotX.set_other (by decide) tb))
  have here : 2 < ((va.setIfInBounds 3 Value.none).setIfInBounds 4 (Value.bool true)).size := by rw [HotX.set_size, HotX.set_size]; omega
  have ctx : (((va.setIfInBounds 3 Value.none).setIfInBounds 4 (Value.bool true)).setIfInBounds 2 (Value.ref x0))[2]? = some (Value.ref x0) := by
    simp [Array.getElem?_setIfInBounds, room]
    omega
  refine ⟨a, oa, va, cls, rfl, ga, zn.1, da, tb, room, ne, ⟨hh, o0, v0, keep _ _ g0, d0, c0⟩, (rz _ s1.heap (J.kIn.keeps keep)).1, (rz _ (HotX.noneFrom s1.heap a) (J.kIn.keeps keep2)).2, tk _ _ (air_new J (fun b u g => ?_) new upd3 ⟨some x0, ⟨?_, ?_, fun vs e => ?_⟩, fun b e => ?_⟩ (Obj.data_mapFields da2 _) tb2 nU os bare out)⟩
  · exact (Heap.get?_update_other _ _ (apart b u g)).trans (keep2 b u g)
  · rw [Obj.cls_mapFields, Obj.cls_mapFields, Obj.cls_mapFields]; exact zn.1
  · rw [HandSPX.dict_mapFields, HandSPX.dict_mapFields, HandSPX.dict_mapFields]; exact zn.2.1
  · have e2 := Data.fields.inj ((Obj.data_mapFields da2 _).symm.trans e)
    rw [← e2]; exact ctx
  · obtain rfl : x0 = b := Option.some.inj e
    exact ⟨o0, v0, p0, d0, c0⟩
end
/-! ### try: body, except x: suite; the suite may raise, what is caught is tracked -/
def wBare (K : PySem.W.Frag) (c : Value) (ts : Addr → TS) (Wout : WX) (D : Ends) : WX := fun cls d τ U => ∃ b, PySem.W.exmOne K cls c = some b ∧ (b = false → Wout cls d τ U) ∧ (b = true → ∀ (a : Addr) (oe : Obj) (vs : Array Value), U a = none → oe.cls = cls → oe.dict = d → oe.data = .fields vs → vs[2]? = some .none → ts a D τ (upd U a (Pin a oe)))
section
variable {X : Cx} {x : Str} {c : Value} {body suite : List Stmt} {st0 : Stmt} {np pos pos' : Pos} {tb : WX → TS} {ts : Addr → TS} {Wout : WX}
theorem outSuiteX {a : Addr} {pins pn' : List (Addr × Obj)} {τ : L2.St} {U : Hp} {s : Shared} (I : Inv (L2H.suiteX X a (X.pn ++ pins)) pn' τ U s) (ok : X.Ok) : Inv X pins τ U s := Inv.outSuite (a := a) (show Inv (X.suite a (X.pn ++ pins)) pn' τ U s from I.wish fun _ _ => False) ok
theorem tkSuite {a : Addr} {pins : List (Addr × Obj)} (ok : X.Ok) (tk : Tk X Wout) : Tk (L2H.suiteX X a (X.pn ++ pins)) Wout := fun u s' ⟨b, B, sI, _, τ, U, cls, d, e1, I, e3, e4, e5, r⟩ => tk u s' ⟨b, B, sI, pins, τ, U, cls, d, e1, outSuiteX I ok, e3, e4, e5, r⟩
theorem land_bare {pins : List (Addr × Obj)} {D : Ends} (hs : X.stack = X.env :: X.outer) (hf : X.env.frame = some X.env.locals) (hex : X.ex = []) (hc : Names X x c) (out : ∀ hd : Option Value, PassesOwnAt (model X.prog X.w) (X.A.mark hd) X.A X.env X.xe) (tk : Tk X Wout)
    (hsu : ∀ (a : Addr) (pn : List (Addr × Obj)), Tk (L2H.suiteX X a pn) Wout → PSs (L2H.suiteX X a pn) (st0 :: suite) (ts a)) (ok : X.Ok) {u : Value} {s' : Shared} {xe : Value → Shared → Prop} {pn : List (Addr × Obj)} (hpn : pn = X.pn ++ pins) (air : L2N.XE (X.tr pn xe) (wBare X.K c ts Wout D) u s') :
    wpAny (model X.prog X.w) X.A (noteFrame u X.env) (fun _ s₂ => wpAny (model X.prog X.w) X.A (setFlight u none) (fun _ s₃ =>
      wpAny (model X.prog X.w) X.A (handleBy u X.env [.ExceptHandler (some (.Name x np)) none (st0 :: suite) pos']) (SP X pins D) X.xe s₃) X.xe s₂) X.xe s' := by
  subst hpn
  obtain ⟨a, B, sI, pins', τ, U, cls, d, eu, J0, nb, up, sky, nU, hos, hag, b, hb1, hno, hyes⟩ := air
  subst eu
  have frames : X.A.frames = some (X.env :: X.outer) := ok.frames.trans (congrArg some hs)
  have J : Inv X pins τ U sI := J0.ofTry ok
  refine L2N.Sky.land L2N.Zn.steady frames hf (hs ▸ sky) fun g fl upg => ?_
  have Jg : Inv X pins τ U { s' with heap := g } := J.landed nb fl.1 (up.trans upg) hos hag
  obtain ⟨og, vg, eg, zg, dg⟩ := fl.there
  have noFrame : a ∉ frs (X.env :: X.outer) := fun hm => by
    obtain ⟨_, o2, e2, hnf⟩ := fl.2.2.1.mem hm
    cases Option.some.inj (e2.symm.trans eg)
    exact hnf _ dg
  have nLoc : a ≠ X.env.locals := fun z => noFrame (List.mem_filterMap.mpr ⟨X.env, List.mem_cons_self .., by rw [hf, z]⟩)
  have nI : sI.heap.get? a = none := by
    rcases e : sI.heap.get? a with _ | o2
    · rfl
    · have z := nb a o2 e (by rw [hs]; exact noFrame)
      rw [fl.2.1] at z
      cases z
  have n0 : X.s_0.heap.get? a = none := by
    rcases e : X.s_0.heap.get? a with _ | o2
    · rfl
    · obtain ⟨o3, e3⟩ := J.base.there a o2 e (by rw [hex]; exact fun z => nomatch z)
      rw [nI] at e3
      cases e3
  have nCell : ∀ y c', X.env.cells.lookup y = some c' → c' ≠ a := fun y c' e z => by
    obtain ⟨v, o2, e2, _⟩ := J.cell y c' e
    rw [z, nI] at e2
    cases e2
  have nPin : ∀ p ∈ X.pn ++ pins, p.1 ≠ a := fun p hp z => by
    have e2 := (J.pin p hp).1
    rw [z, nI] at e2
    cases e2
  have known : PySem.W.Looks (model X.prog X.w) g (typeOf (.ref a)) cls := fun _ _ _ _ k q => wpAny_typeOf_ref (k _ _ eg) (by rw [zg.1]; exact q)
  have told := PySem.W.exm_one (M := model X.prog X.w) Jg.kIn known hb1
  have named : ∀ {Q : Value → Shared → Prop} {E : Value → Shared → Prop}, Q c { s' with heap := g } → wpAny (model X.prog X.w) (X.A.mark (some (.ref a))) (eval (.Name x np) X.env) Q E { s' with heap := g } := fun {Q E} q => by
    obtain ⟨hg, hdb, hm⟩ := hc
    rcases hm with hm | ⟨hm, hv, hne⟩
    · exact ld_glob (X := X.suite a (X.pn ++ pins)) (Inv.inSuite Jg a) hg hm q hdb
    · exact ld_blt (X := X.suite a (X.pn ++ pins)) (Inv.inSuite Jg a) hg hm hv q hne hdb
  refine wpAny_handleBy_cons (codeAny_handlers_test (named (told.here ?_))) (fun q => nomatch q)
  match b, hno, hyes with
  | true, _, hyes =>
    refine codeAny_handlers_suite (HandSPX.lands_againZ fl fun g2 fl2 up2 => ?_)
    have J2 : Inv X pins τ U { s' with heap := g2 } := J.landed nb fl2.1 ((up.trans upg).trans up2) hos hag
    obtain ⟨o2, v2, e2, z2, d2⟩ := fl2.there
    have T2 := L2H.suiteX_of (Inv.inSuite (Inv.track (o := Pin a o2) J2 n0 nU (pin_ok e2) nLoc nCell nPin) a)
    refine wpAny_mono ((hsu a (X.pn ++ pins) (tkSuite ok tk)).run [] _ _ _ _ T2 (hyes rfl a o2 v2 nU z2.1 z2.2.1 d2 (z2.2.2 _ d2))) (fun f s6 q6 => ?_) fun e6 s6 z => out (some (.ref a)) e6 s6 z
    match f, q6 with
    | .next, ⟨_, _, T6, r6⟩ => exact ⟨_, _, outSuiteX T6 ok, r6⟩
    | .brk, ⟨_, _, T6, r6⟩ => exact ⟨_, _, outSuiteX T6 ok, r6⟩
    | .cont, ⟨_, _, T6, r6⟩ => exact ⟨_, _, outSuiteX T6 ok, r6⟩
    | .ret _, ⟨_, _, _, T6, v6, r6⟩ => exact ⟨_, _, _, outSuiteX T6 ok, v6, r6⟩
  | false, hno, _ =>
    refine wpAny_handleBy_nil ?_
    obtain ⟨_, _, _, o3, v3, T3, oT, ts', e3, _, d3, t3, _⟩ := id fl
    unfold PySem.passOn
    refine wpAny_bind (wpAny_field e3 d3 t3 ?_)
    rw [if_neg (fun z => by simp at z)]
    have away : wpAny (model X.prog X.w) X.A (setFlight (.ref a) X.env.frame) (fun _ s4 => wpAny (model X.prog X.w) X.A (throw (.ref a) : Sem Flow) (SP X pins D) X.xe s4) X.xe { s' with heap := g } := by
      rw [hf]
      exact HandSPX.setFlight_upZ fl fun g2 held up2 => wpAny_throw (tk.n _ _ ⟨a, B, sI, pins, τ, U, cls, d, rfl, J, nb, (up.trans upg).trans up2, .inr (.inr (hs ▸ held)), nU, hos, hag, hno rfl⟩)
    first
      | exact wpAny_bind away
      | exact wpAny_bind (wpAny_pure (wpAny_bind away))
theorem ps_try_bare (hs : X.stack = X.env :: X.outer) (hf : X.env.frame = some X.env.locals) (hex : X.ex = []) (hc : Names X x c) (out : ∀ hd : Option Value, PassesOwnAt (model X.prog X.w) (X.A.mark hd) X.A X.env X.xe) (tk : Tk X Wout)
    (hb : ∀ (W : WX) (pn : List (Addr × Obj)) (xe : Value → Shared → Prop), L2N.Takes (X.tr pn xe) W → PassesOwn (model X.prog X.w) X.A X.env xe → PSs (X.tr pn xe) body (tb W)) (hsu : ∀ (a : Addr) (pn : List (Addr × Obj)), Tk (L2H.suiteX X a pn) Wout → PSs (L2H.suiteX X a pn) (st0 :: suite) (ts a)) :
    PS X (.Try body [.ExceptHandler (some (.Name x np)) none (st0 :: suite) pos'] [] [] pos) (fun D τ H => tb (wBare X.K c ts Wout D) D τ H) :=
  ⟨fun pins s τ H D I h => wpAny_Try_except (wpAny_mono ((hb (wBare X.K c ts Wout D) (X.pn ++ pins) _ (fun _ _ air => land_bare (pins := pins) hs hf hex hc out tk hsu I.ok rfl air) PassesOwn.looking).run [] s τ H D (I.toTry _) h)
    (fun f s1 q => by
      match f, q with
      | .next, ⟨_, _, J, r⟩ => exact wpAny_execs_nil ⟨_, _, J.ofTry I.ok, r⟩
      | .brk, ⟨_, _, J, r⟩ => exact ⟨_, _, J.ofTry I.ok, r⟩
      | .cont, ⟨_, _, J, r⟩ => exact ⟨_, _, J.ofTry I.ok, r⟩
      | .ret _, ⟨_, _, _, J, v, r⟩ => exact ⟨_, _, _, J.ofTry I.ok, v, r⟩) fun _ _ z => z)⟩
end
/-! ### try: body, except x as n: suite, of such an exception; it stays a value -/
theorem z2_cls {H : Hp} {cls : Value} {d : Option Addr} {o : Obj} (z : Z2 H cls d o) : o.cls = cls := z.elim fun _ k => k.1.1
/-- what 'except x as n' wishes here -/
def wKpY (K : PySem.W.Frag) (c : Value) (i : Nat) (ts : Addr → TS) (Wout : WX) (D : Ends) : WX := fun cls d σ H => ∃ b, PySem.W.exmOne K cls c = some b ∧ (b = false → Wout cls d σ H) ∧
  (b = true → ∀ (a : Addr) (oe : Obj) (vs : Array Value), H a = none → Z2 H cls d oe → oe.data = .fields vs → ts a { rt := D.rt, nx := fun σ' H' => D.nx (σ'.set i none) H', bk := fun σ' H' => D.bk (σ'.set i none) H', ct := fun σ' H' => D.ct (σ'.set i none) H' } (σ.set i (some (.ref a))) (upd H a (Pin a oe)))
section
variable {X : Cx} {x n : Str} {c : Value} {i : Nat} {body suite : List Stmt} {st0 : Stmt} {np pos pos' : Pos} {tb : WX → TS} {ts : Addr → TS} {Wout : WX}
theorem land_catchY {pins : List (Addr × Obj)} {D : Ends} (hs : X.stack = X.env :: X.outer) (hf : X.env.frame = some X.env.locals) (hex : X.ex = []) (hN : X.N.Nodup) (hi : X.N[i]? = some n) (hln : X.env.kindOf n = some .local) (hc : Names X x c) (tk : Tk X Wout)
    (hsu : ∀ (a : Addr) (pn : List (Addr × Obj)), PSs (X.suite a pn) (st0 :: suite) (ts a)) (ok : X.Ok) {u : Value} {s' : Shared} {xe : Value → Shared → Prop} {pn : List (Addr × Obj)} (hpn : pn = X.pn ++ pins) (air : Air (X.tr pn xe) (wKpY X.K c i ts Wout D) u s') :
    wpAny (model X.prog X.w) X.A (noteFrame u X.env) (fun _ s₂ => wpAny (model X.prog X.w) X.A (setFlight u none) (fun _ s₃ =>
      wpAny (model X.prog X.w) X.A (handleBy u X.env [.ExceptHandler (some (.Name x np)) (some n) (st0 :: suite) pos']) (SP X pins D) X.xe s₃) X.xe s₂) X.xe s' := by
  subst hpn
  obtain ⟨a, B, sI, pins', σ', H', cls, d, eu, J0, nb, up, sky, na, hos, hag, b, hb1, hno, hyes⟩ := air
  subst eu
  have frames : X.A.frames = some (X.env :: X.outer) := ok.frames.trans (congrArg some hs)
  have J : Inv X pins σ' H' sI := J0.ofTry ok
  refine L2N.Sky.land z2_steady frames hf (hs ▸ sky) fun g fl upg => ?_
  have Jg : Inv X pins σ' H' { s' with heap := g } := J.landed nb fl.1 (up.trans upg) hos hag
  obtain ⟨og, vg, eg, zg, dg⟩ := fl.there
  -- the exception is no frame, no cell, no pin, and new
  have noFrame : a ∉ frs (X.env :: X.outer) := fun hm => by
    obtain ⟨_, o2, e2, hnf⟩ := fl.2.2.1.mem hm
    cases Option.some.inj (e2.symm.trans eg)
    exact hnf _ dg
  have nLoc : a ≠ X.env.locals := fun z => noFrame (List.mem_filterMap.mpr ⟨X.env, List.mem_cons_self .., by rw [hf, z]⟩)
  have nI : sI.heap.get? a = none := by
    rcases e : sI.heap.get? a with _ | o2
    · rfl
    · have z := nb a o2 e (by rw [hs]; exact noFrame)
      rw [fl.2.1] at z
      cases z
  have n0 : X.s_0.heap.get? a = none := by
    rcases e : X.s_0.heap.get? a with _ | o2
    · rfl
    · obtain ⟨o3, e3⟩ := J.base.there a o2 e (by rw [hex]; exact fun z => nomatch z)
      rw [nI] at e3
      cases e3
  have nCell : ∀ y c', X.env.cells.lookup y = some c' → c' ≠ a := fun y c' e z => by
    obtain ⟨v, o2, e2, _⟩ := J.cell y c' e
    rw [z, nI] at e2
    cases e2
  have nPin : ∀ p ∈ X.pn ++ pins, p.1 ≠ a := fun p hp z => by
    have e2 := (J.pin p hp).1
    rw [z, nI] at e2
    cases e2
  have known : PySem.W.Looks (model X.prog X.w) g (typeOf (.ref a)) cls := fun _ _ _ _ k q => wpAny_typeOf_ref (k _ _ eg) (by rw [z2_cls zg]; exact q)
  have told := PySem.W.exm_one (M := model X.prog X.w) Jg.kIn known hb1
  have named : ∀ {Q : Value → Shared → Prop} {E : Value → Shared → Prop}, Q c { s' with heap := g } → wpAny (model X.prog X.w) (X.A.mark (some (.ref a))) (eval (.Name x np) X.env) Q E { s' with heap := g } := fun {Q E} q => by
    obtain ⟨hg, hdb, hm⟩ := hc
    rcases hm with hm | ⟨hm, hv, hne⟩
    · exact ld_glob (X := X.suite a (X.pn ++ pins)) (Inv.inSuite Jg a) hg hm q hdb
    · exact ld_blt (X := X.suite a (X.pn ++ pins)) (Inv.inSuite Jg a) hg hm hv q hne hdb
  refine wpAny_handleBy_cons (codeAny_handlers_test (named (told.here ?_))) (fun q => nomatch q)
  match b, hno, hyes with
  | true, _, hyes =>
    refine codeAny_handlers_suite_as (HandSPX.lands_againZ fl fun g2 fl2 up2 => ?_)
    have J2 : Inv X pins σ' H' { s' with heap := g2 } := J.landed nb fl2.1 ((up.trans upg).trans up2) hos hag
    obtain ⟨o2, v2, e2, z2, d2⟩ := fl2.there
    have T2 := Inv.inSuite (Inv.track (o := Pin a o2) J2 n0 na (pin_ok e2) nLoc nCell nPin) a
    refine store_ok (X := X.suite a (X.pn ++ pins)) (v := .ref a) T2 hN hi (.inl hln) rfl (fun s5 T5 => ?_) (.inr hln)
    refine wpAny_mono ((hsu a (X.pn ++ pins)).run [] s5 _ _ _ T5 (hyes rfl a o2 v2 na z2 d2)) (fun f s6 q6 => ?_) fun _ _ z => z.elim
    have close : ∀ {σ6 : L2.St} {H6 : Hp} {R : Shared → Prop}, Inv (X.suite a (X.pn ++ pins)) [] σ6 H6 s6 → (∀ s7, Inv X pins (σ6.set i none) H6 s7 → R s7) → wpAny (model X.prog X.w) X.A (do bindName X.env n .none; unbindBehindTheSuite X.env n pos') (fun _ s7 => R s7) X.xe s6 :=
      fun {_ _ _} T6 k => gone_ok (Inv.outSuite T6 ok) hN hi hln k
    match f, q6 with
    | .next, ⟨_, _, T6, r6⟩ => exact close T6 fun _ J7 => ⟨_, _, J7, r6⟩
    | .brk, ⟨_, _, T6, r6⟩ => exact close T6 fun _ J7 => ⟨_, _, J7, r6⟩
    | .cont, ⟨_, _, T6, r6⟩ => exact close T6 fun _ J7 => ⟨_, _, J7, r6⟩
    | .ret _, ⟨_, _, _, T6, v6, r6⟩ => exact close T6 fun _ J7 => ⟨_, _, _, J7, v6, r6⟩
  | false, hno, _ =>
    refine wpAny_handleBy_nil ?_
    obtain ⟨_, _, _, o3, v3, T3, oT, ts', e3, _, d3, t3, _⟩ := id fl
    unfold PySem.passOn
    refine wpAny_bind (wpAny_field e3 d3 t3 ?_)
    rw [if_neg (fun z => by simp at z)]
    have away : wpAny (model X.prog X.w) X.A (setFlight (.ref a) X.env.frame) (fun _ s4 => wpAny (model X.prog X.w) X.A (throw (.ref a) : Sem Flow) (SP X pins D) X.xe s4) X.xe { s' with heap := g } := by
      rw [hf]
      exact HandSPX.setFlight_upZ fl fun g2 held up2 => wpAny_throw (tk _ _ ⟨a, B, sI, pins, σ', H', cls, d, rfl, J, nb, (up.trans upg).trans up2, .inr (.inr (hs ▸ held)), na, hos, hag, hno rfl⟩)
    first
      | exact wpAny_bind away
      | exact wpAny_bind (wpAny_pure (wpAny_bind away))
/-- try: body, except x as n: suite; the exception stays a value -/
theorem ps_try_keptY (hs : X.stack = X.env :: X.outer) (hf : X.env.frame = some X.env.locals) (hex : X.ex = []) (hN : X.N.Nodup) (hi : X.N[i]? = some n) (hln : X.env.kindOf n = some .local) (hc : Names X x c) (tk : Tk X Wout)
    (hb : ∀ (W : WX) (pn : List (Addr × Obj)) (xe : Value → Shared → Prop), Tk (X.tr pn xe) W → PassesOwn (model X.prog X.w) X.A X.env xe → PSs (X.tr pn xe) body (tb W)) (hsu : ∀ (a : Addr) (pn : List (Addr × Obj)), PSs (X.suite a pn) (st0 :: suite) (ts a)) :
    PS X (.Try body [.ExceptHandler (some (.Name x np)) (some n) (st0 :: suite) pos'] [] [] pos) (fun D σ H => tb (wKpY X.K c i ts Wout D) D σ H) :=
  ⟨fun pins s σ H D I h => wpAny_Try_except (wpAny_mono ((hb (wKpY X.K c i ts Wout D) (X.pn ++ pins) _ (fun _ _ air => land_catchY (pins := pins) hs hf hex hN hi hln hc tk hsu I.ok rfl air) PassesOwn.looking).run [] s σ H D (I.toTry _) h)
    (fun f s1 q => by
      match f, q with
      | .next, ⟨_, _, J, r⟩ => exact wpAny_execs_nil ⟨_, _, J.ofTry I.ok, r⟩
      | .brk, ⟨_, _, J, r⟩ => exact ⟨_, _, J.ofTry I.ok, r⟩
      | .cont, ⟨_, _, J, r⟩ => exact ⟨_, _, J.ofTry I.ok, r⟩
      | .ret _, ⟨_, _, _, J, v, r⟩ => exact ⟨_, _, _, J.ofTry I.ok, v, r⟩) fun _ _ z => z)⟩
end
end Mc
namespace Mc
open PySem PySem.Spec PyProof.Rows L2 Evl
/-! ### an exception as a value, whatever its context -/
structure Exd (H : Hp) (a C d : Addr) (fs : List (Str × V)) : Prop where
  ob : ∃ (oe : Obj) (vs : Array Value), H a = some (Pin a oe) ∧ oe.cls = .ref C ∧ oe.dict = some d ∧ oe.data = .fields vs
  di : H d = some (.xd fs)
theorem Exd.ex_ {H H' : Hp} {a C d : Addr} {fs : List (Str × V)} (x : Exd H a C d fs) (e : Ex H H') : Exd H' a C d fs := by
  obtain ⟨⟨oe, vs, h, r⟩, k⟩ := x
  exact ⟨⟨oe, vs, e _ _ h, r⟩, e _ _ k⟩
section
variable {X : Cx} {pins : List (Addr × Obj)} {σ : L2.St} {H : Hp} {s : Shared}
theorem Exd.at_ {a C d : Addr} {fs : List (Str × V)} (x : Exd H a C d fs) (I : Inv X pins σ H s) : ∃ ox od mA, PySem.W.InstAt s.heap a ox C (some od) ∧ s.heap.get? d = some od ∧ s.heap.Ns1 d mA ∧ ∀ f, RelO (fs.lookup f) (mA f) := by
  obtain ⟨⟨oe, vs, h, hc, hd, hf⟩, di⟩ := x
  have g := pin_at I.hok h
  obtain ⟨mA, hn, hr⟩ := (show ∃ mA, s.heap.Ns1 d mA ∧ ∀ f, RelO (fs.lookup f) (mA f) from I.hok d _ di)
  obtain ⟨od, es, ep, ho, r⟩ := hn
  refine ⟨oe, od, mA, ⟨g, hc, ?_, ?_⟩, ho, ⟨od, es, ep, ho, r⟩, hr⟩
  · unfold PySem.W.notCls; rw [hf]
  · rw [hd]; exact ho
/-- isinstance(e, c) -/
def rIsD (K : PySem.W.Frag) : List V → Hp → VK → Prop := fun xs H Q => ∃ (a C d : Addr) (fs : List (Str × V)) (c : V) (u : Value) (b : Bool), xs = [.ref a, c] ∧ Exd H a C d fs ∧ XCls K C ∧ ClsV c u ∧ PySem.W.kitOne K (.ref C) u = some b ∧ Q (.bl b) H
theorem call_isD : CallR X (.builtin "isinstance") (rIsD X.K) := by
  intro pins s σ H xs us Q I r h
  obtain ⟨a, C, d, fs, c, u, b, rfl, x, k, cv, e, q⟩ := h
  obtain ⟨u1, u2, rfl, r1, r2⟩ := vals2 r
  have e2 := cv.eq r2
  subst e2
  obtain rfl : u1 = Value.ref a := r1
  obtain ⟨ox, od, mA, J, _⟩ := x.at_ I
  exact PySem.W.kia_one (PySem.W.kitx_exc k.cl k.ga k.gg k.sb k.ca k.sg k.tk k.mo) I.kIn J e (fun z => nomatch z) fun t => ⟨.bl b, H, I.tok t, rfl, q⟩
/-- e.value -/
def tXd (K : PySem.W.Frag) (te : TE) : TE := fun σ H Q => te σ H fun x H1 => ∃ (a C d : Addr) (fs : List (Str × V)) (v : V), x = .ref a ∧ Exd H1 a C d fs ∧ XCls K C ∧ fs.lookup ("value" : Str) = some v ∧ Q v H1
theorem pe_xd {e : Expr} {te : TE} {pos : Pos} (he : PE X e te) (hb : attributeBase e "value" X.env (eval e X.env) = eval e X.env := by rfl) : PE X (.Attribute e "value" pos) (tXd X.K te) := by
  refine ⟨fun pins s σ H Q I h => attr_of hb (thn (he.run pins s σ H _ I h) fun u s1 ⟨x, H1, I1, rx, a, C, d, fs, v, ex, xc, k, l, q⟩ => ?_)⟩
  subst ex
  obtain rfl : u = Value.ref a := rx
  obtain ⟨ox, od, mA, J, ho, hns, hr⟩ := xc.at_ I1
  obtain ⟨od', ho', hl⟩ := lookIn_ns hns
  obtain rfl : od' = od := Option.some.inj (ho'.symm.trans ho)
  obtain ⟨u, hu, ru⟩ := RelO.some_of (v := v) (o := mA "value") (by rw [← l]; exact hr "value")
  exact HandSPX.exc_get I1.kIn J k.ga k.gg k.sb (PySem.W.findObj_own k.hd k.nv rfl (by rw [hl, hu])) (handed_of ru) ⟨v, H1, I1.tok _, ru, q⟩
end
/-- what is caught of such an exception: the value, its class, and that it may be worked with while it is handled -/
theorem caughtY {H : Hp} {a C dd : Addr} {v : V} {oe : Obj} {vs : Array Value} (na : H a = none) (z : Z2 H (.ref C) (some dd) oe) (hd : oe.data = .fields vs) (hdd : H dd = some (.xd [("value", v)])) : Exd (upd H a (Pin a oe)) a C dd [("value", v)] ∧ HotV (upd H a (Pin a oe)) a := by
  obtain ⟨c, ⟨k1, k2, k3⟩, k4⟩ := z
  have nda : dd ≠ a := ne_of_none hdd na
  refine ⟨⟨⟨oe, vs, upd_same, k1, k2, hd⟩, by rw [upd_ne nda]; exact hdd⟩, c, ⟨oe, vs, upd_same, hd, k3 vs hd⟩, fun b e => ?_⟩
  obtain ⟨ob, vb, p, d1, d2⟩ := k4 b e
  have nba : b ≠ a := ne_of_none p na
  exact ⟨nba, ob, vb, by rw [upd_ne nba]; exact p, d1, d2⟩
/-! ### own exceptions are made while one is handled -/
theorem ini_okT {P : Program} {w : World} {K : PySem.W.Frag} {mg : Str → Option Value} {base : Heap} {qual : Str} {st : Stmt} {f : Addr} {fd : FuncData} (F : Fun K "__init__" qual st f fd) (S : FnScope ["self", "value"] ["self", "value"] (defScope st))
    (body : ∀ (cdv : Value) (A : Around) (outer : List Env) (s : Shared) (H : Hp) (E : XK) (p : Addr × Obj), PSs (L2H.cxH CX0 P w K mg base ["self", "value"] qual (defScope st) f cdv A outer s H E p) (defBody st) (tOst K "value" (tVar 0) (tVar 1))) : FnT P w K mg base 1 f fd ["self", "value"] (fun _ => spIni K) := by
  refine fnT F S (fun _ vs H Q E h => ?_) fun cdv _ A outer s H vs Q E p _ _ h => ?_
  · obtain ⟨a, C, v, rfl, _⟩ := h; rfl
  · obtain ⟨a, C, v, rfl, T, nv, ha, q⟩ := h
    refine ⟨_, body _ _ _ _ _ _ _, ?_⟩
    exact ⟨v, rfl, .ref a, rfl, a, C, rfl, T, nv, .inl ⟨ha, fun dx n ne => q dx n ne⟩⟩
section
variable {X : Cx} {pins : List (Addr × Obj)} {σ : L2.St} {H : Hp} {s : Shared} {C fI : Addr} {fd : FuncData} {k : Nat} {v : V}
theorem made_xT {x0 : Addr} {u : Value} {R : Value → Shared → Prop} (M : XMk X.K C fI fd) (F : FnT X.prog X.w X.K X.mg X.base k fI fd ["self", "value"] (fun _ => spIni X.K)) (hh : X.A.handled = some (.ref x0)) (hr : L2H.RoomH (k + 1) X.A) (I : Inv X pins σ H s) (rv : RelV v u)
    (q : ∀ (a d t : Addr) (sI s2 : Shared), Inv X pins σ (upd H d (.xd [("value", v)])) sI → (∀ b o, sI.heap.get? b = some o → s2.heap.get? b = some o) → sI.heap.get? a = none → H a = none → H d = none → d ≠ a →
      s2.heap.get? a = some { cls := .ref C, dict := some d, data := .fields #[.ref t, .none, .none, .none, .bool false, .none] } → s2 = { sI with heap := s2.heap } → R (.ref a) s2) : wpAny (model X.prog X.w) X.A (call (.ref C) [u]) R X.xe s := by
  obtain ⟨nm, qn, N, bs, bm, sn, sub, ab, col, dd, k0, k1, k2, k3, k5, hC, hbm⟩ := M.o.cls
  obtain ⟨hp, g, dr, tk, os⟩ := s
  have big : hp.objs.size ≤ hp.objs.size + 1 := Nat.le_succ _
  have fresh : H (hp.objs.size + 1) = none := I.hok.fresh big
  generalize ea : hp.objs.size + 1 = a at big fresh
  have keep : ∀ b o, hp.get? b = some o → ((hp.push (PySem.W.kdv_tup [u])).push (PySem.HandSPX.excO C hp.objs.size)).get? b = some o := fun b o e => Heap.get?_push_of_some _ (Heap.get?_push_of_some _ e)
  have there : ((hp.push (PySem.W.kdv_tup [u])).push (PySem.HandSPX.excO C hp.objs.size)).get? a = some (PySem.HandSPX.excO C hp.objs.size) := by subst ea; heap_get
  have I2 : Inv X pins σ (upd H a (exo a C none)) ⟨(hp.push (PySem.W.kdv_tup [u])).push (PySem.HandSPX.excO C hp.objs.size), g, dr, tk, os⟩ := I.laid (t' := tk) keep big (exo_ok there)
  have r2 : Vals [V.ref a, v] [Value.ref a, u] := .cons rfl (.cons rv .nil)
  have want : spIni X.K [.ref a, v] (upd H a (exo a C none)) (fun z H2 => z = .non ∧ ∃ d, d ≠ a ∧ H d = none ∧ H2 = upd (upd (upd H a (exo a C none)) d (exd d [("value", v)])) a (exo a C (some d))) (fun _ _ _ => False) :=
    ⟨a, C, v, rfl, M.o, M.nv, upd_same, fun d n ne => ⟨rfl, d, ne, by rw [upd_ne ne] at n; exact n, rfl⟩⟩
  have bnd := M.bi ⟨(hp.push (PySem.W.kdv_tup [u])).push (PySem.HandSPX.excO C hp.objs.size), g, dr, tk, os⟩ [.ref a, u] I2.kIn rfl
  subst ea
  refine wpAny_call (PySem.HandSPX.call_own PySem.F.excBase_ValueError (fun Y => PySem.HandSPX.refsVE_contains Y bm hbm) (I.kIn _ _ hC) (PySem.W.looks_findIn I.kIn M.ini) (fun self => PySem.W.bind_fn I.kIn self M.ty) (rest := [u]) (by show 1 ≤ sizeLine; rw [sizeLine_eq]; omega)
    (codeAny_mono (F.run x0 _ X.stack ⟨(hp.push (PySem.W.kdv_tup [u])).push (PySem.HandSPX.excO C hp.objs.size), g, dr, tk, os⟩ (upd H (hp.objs.size + 1) (exo (hp.objs.size + 1) C none)) ⟨[.ref (hp.objs.size + 1), u], []⟩ [.ref (hp.objs.size + 1), u] _ _ (fun _ _ _ => False) (hr.make C [u] []) hh (I2.env0.make C [u] []) bnd r2 want) fun out s2 hq => ?_))
  match out, hq with
  | .error _, hq => exact hq.elim
  | .ok .next, hq => exact hq.elim
  | .ok .brk, hq => exact hq.elim
  | .ok .cont, hq => exact hq.elim
  | .ok (.ret u2), ⟨z, H2, os2, bare2, un2, ok2, rz, ez, d, nda, hd, eH⟩ =>
    subst ez
    obtain ⟨h2, g2, d2, t2, os'⟩ := s2
    have ed : H2 d = some (exd d [("value", v)]) := by rw [eH, upd_ne nda, upd_same]
    have ee : H2 (hp.objs.size + 1) = some (exo (hp.objs.size + 1) C (some d)) := by rw [eH, upd_same]
    obtain ⟨t0, G, J, kG, gone, obj, na⟩ := mk_end0 (d2 := d2) (t2 := t2) I big keep un2 ok2 os2 bare2 ee ed hd
    have eq : upd (del H2 (hp.objs.size + 1)) d (.xd [("value", v)]) = upd H d (.xd [("value", v)]) := by
      funext b
      by_cases hb : b = d
      · rw [hb, upd_same, upd_same]
      · rw [upd_ne hb, upd_ne hb]
        by_cases hba : b = hp.objs.size + 1
        · rw [hba, del_same, fresh]
        · rw [del_ne hba, eH, upd_ne hba, upd_ne hb, upd_ne hba]
    rw [eq] at J
    exact ⟨rz, q _ d t0 _ _ J kG gone fresh hd nda obj rfl⟩
theorem pmk_valT {x0 : Addr} {x : Str} {e : Expr} {te : TE} {p pos : Pos} (M : XMk X.K C fI fd) (F : FnT X.prog X.w X.K X.mg X.base k fI fd ["self", "value"] (fun _ => spIni X.K)) (hh : X.A.handled = some (.ref x0)) (hr : L2H.RoomH (k + 1) X.A) (hg : Gl X x) (hm : X.mg x = some (.ref C)) (he : PE X e te)
    (hs : starEach [e] X.env = (false, eval e X.env) :: starEach [] X.env := by rfl) (hdb : (x == ("__debug__" : Str)) = false := by decide) :
    L2H.PMk5 X (.Call (.Name x p) [e] [] pos) (fun σ H Q => te σ H fun v H1 => ∀ d, H1 d = none → Q (.ref C) (some d) (upd H1 d (.xd [("value", v)]))) := by
  intro pins s σ H Q I h
  refine wpAny_Call_Name_kw (ld_glob I hg hm ?_ hdb)
  refine PySem.W.callWith_K (h₀ := X.base) I.ok.mod.kin M.o.kC ?_ hs (by rfl)
  rw [hs]
  refine Calls.spliced_cons (thn (he.run pins s σ H _ I h) fun u s1 ⟨v, H1, I1, r1, q1⟩ => Calls.spliced_nil ⟨I1.kIn, ?_⟩)
  refine made_xT M F hh hr I1 r1 fun a d t sI s2 J kG gone na nd nda ob es => ?_
  refine ⟨⟨a, _, _, sI, _, .ref C, some d, rfl, J, kG, gone, ob, ⟨rfl, rfl, fun vs hv => by cases hv; rfl⟩, rfl, rfl, by rw [upd_ne (Ne.symm nda)]; exact na, by rw [es], by rw [es]; exact J.bare, raises_own M.o.exC M.o.tyC, q1 d nd⟩, fun a2 oe vs ea ga da => ?_⟩
  cases ea
  have o2 := Option.some.inj (ga.symm.trans ob)
  subst o2
  cases da
  show (4 : Nat) < 6
  decide
end
theorem takesY0 {X : Cx} : Tk X (fun _ _ _ _ => False) := fun _ _ ⟨_, _, _, _, _, _, _, _, _, _, _, _, _, _, _, _, z⟩ => z.elim
end Mc
namespace Mc
open PySem PySem.Spec PyProof.Rows L2 Evl TL
/-! ### text[::-1] -/
def revS (z : Str) : Str := ⟨z.cps.toList.reverse.toArray⟩
def tRevS (te : TE) : TE := fun σ H Q => te σ H fun x H1 => ∃ z : Str, x = .str z ∧ z.length ≤ 1000000 ∧ Q (.str (revS z)) H1
theorem made_rev {z : Str} {t : Tok} {l u st : Option (Int × Tok)} (hl : l.map (·.1) = none) (hu : u.map (·.1) = none) (hs : st.map (·.1) = some (-1)) : sliceMade z t l u st = Made.str (revS z) := by
  have e : slicePicked z l u st = (List.range z.cps.size).reverse := by
    unfold slicePicked
    rw [hl, hu, hs]
    show Builtin.Str.strSliceIndices none none (-1) z.cps.size = _
    rw [← PySem.W.krv_range, ← PySem.W.krv_sliceRange]
    rfl
  unfold sliceMade
  rw [e, hs]
  rw [List.filterMap_reverse, PySem.W.krv_all]
  rfl
theorem pe_revS {X : Cx} {te : TE} {e : Expr} {k : Nat} {p1 p2 p3 pos : Pos} (he : PE X e te) : PE X (.Subscript e (.Slice none none (some (.UnaryOp .USub (.Constant (.int 1) k p1) p2)) p3) pos) (tRevS te) := by
  refine ⟨fun pins s σ H Q I h => ?_⟩
  refine Subscript_ (thn (he.run pins s σ H _ I h) fun v s1 ⟨x, H1, I1, r1, q1⟩ => ?_)
  obtain ⟨z, ex, hz, q⟩ := q1
  subst ex
  obtain ⟨t, rfl⟩ := r1
  have hst : PO X (some (.UnaryOp .USub (.Constant (.int 1) k p1) p2)) (tPart (tUn (rU fun i => .int (-i)) (tC (.int 1)))) := po_some (pe_un un_neg pe_int)
  refine wpAny_Slice (thn (po_none.run pins s1 σ H1 (fun o H2 => o = none ∧ H2 = H1) I1 ⟨rfl, rfl⟩) fun vl s2 ⟨l, H2, I2, pl, el, e2⟩ => ?_)
  subst el e2
  refine thn (po_none.run pins s2 σ H2 (fun o H3 => o = none ∧ H3 = H2) I2 ⟨rfl, rfl⟩) fun vu s3 ⟨u, H3, I3, pu, eu, e3⟩ => ?_
  subst eu e3
  refine thn (hst.run pins s3 σ H3 (fun o H4 => o = some (-1) ∧ H4 = H3) I3 ⟨1, rfl, -1, rfl, rfl, rfl⟩) fun vs s4 ⟨o, H4, I4, ps, eo, e4⟩ => ?_
  subst eo e4
  have I5 : Inv X pins σ H4 { s4 with heap := s4.heap.push { cls := .type "slice", data := .fields #[vl, vu, vs] } } := I4.kept (t' := s4.toks) fun b ob q => Heap.get?_push_of_some _ q
  show wpAny (model X.prog X.w) X.A (subscriptTail e (.Slice none none (some (.UnaryOp .USub (.Constant (.int 1) k p1) p2)) p3) (.str z t) (.ref s4.heap.objs.size)) (EP X pins σ Q) X.xe { s4 with heap := s4.heap.push { cls := .type "slice", data := .fields #[vl, vu, vs] } }
  refine tail_any (ops := [.ref s4.heap.objs.size, .str z t]) (typeIs_str _ z t) (F.slot_str_getitem.lookup) ?_ (by with_unfolding_all rfl)
  obtain ⟨l, rfl, hl⟩ := IsPart.raw pl
  obtain ⟨u, rfl, hu⟩ := IsPart.raw pu
  obtain ⟨o, rfl, hs⟩ := IsPart.raw ps
  refine wpAny_getItem_str_slice (l := l) (u := u) (st := o) ⟨_, Heap.get?_push_size _ rfl, rfl, rfl⟩ (by rw [hs]; rfl) ?_
  rw [made_rev hl hu hs]
  refine ⟨?_, .str _, H4, I5.tok _, ⟨_, rfl⟩, q⟩
  show (revS z).length ≤ sizeLine
  refine Nat.le_trans (Nat.le_trans (Nat.le_of_eq ?_) hz) (show 1000000 ≤ sizeLine by decide)
  show (z.cps.toList.reverse.toArray).size = z.cps.size
  rw [List.size_toArray, List.length_reverse, Array.length_toList]
/-! ### text * n -/
def repS (z : Str) (n : Nat) : Str := ⟨(List.replicate n z.cps).foldl (· ++ ·) #[]⟩
theorem fold_app (a : Array Nat) : ∀ (n : Nat) (b : Array Nat), ((List.replicate n a).foldl (· ++ ·) b).toList = b.toList ++ (List.replicate n a.toList).flatten
  | 0, b => by simp
  | n + 1, b => by
    rw [List.replicate_succ, List.foldl_cons, fold_app a n, Array.toList_append, List.replicate_succ, List.flatten_cons, List.append_assoc]
theorem tl_rep (z : Str) (n : Nat) : tl (repS z n) = (List.replicate n (tl z)).flatten := by
  show ((List.replicate n z.cps).foldl (· ++ ·) #[]).toList = _
  rw [fold_app]; rfl
theorem repS_len (z : Str) (n : Nat) : (repS z n).length = z.length * n := by
  rw [len_tl, tl_rep, len_tl z]
  induction n with
  | zero => simp
  | succ n ih => rw [List.replicate_succ, List.flatten_cons, List.length_append, ih, Nat.mul_succ, Nat.add_comm]
def rMulS : R2 := fun x y H Q => ∃ (z : Str) (n : Nat), x = .str z ∧ y = .int (n : Int) ∧ 0 < z.length ∧ z.length * n ≤ 1000000 ∧ Q (.str (repS z n)) H
theorem op_mulS {X : Cx} : OpR X (binaryOp .Mult) rMulS := by
  intro pins s σ H x y v u Q I rx ry h
  obtain ⟨z, n, rfl, rfl, h0, hz, q⟩ := h
  obtain ⟨t, rfl⟩ := rx
  obtain ⟨t', rfl⟩ := ry
  have hn : n ≤ 1000000 := Nat.le_trans (Nat.le_mul_of_pos_left n h0) hz
  have hzl : n ≠ 0 → z.length ≤ 1000000 := fun z0 => Nat.le_trans (Nat.le_mul_of_pos_right z.length (by omega)) hz
  have one : repS z 1 = z := by
    show (⟨#[] ++ z.cps⟩ : Str) = z
    rw [Array.empty_append]
  refine PySem.P.mul_str (by rw [decide_eq_false (by omega), decide_eq_false (by omega)]; rfl) (fun h1 h2 => ?_) (fun _ _ => ?_) ?_
  · intro h3
    have h4 := Int.mul_le_of_le_ediv (by omega : (0 : Int) < (n : Int)) (Int.le_refl ((2 ^ 63 - 1) / (n : Int)))
    have h5 : (2 ^ 63 - 1) / (n : Int) ≥ 1000000 := (Int.le_ediv_iff_mul_le (by omega)).mpr (by
      have : (n : Int) ≤ 1000000 := by omega
      omega)
    have := hzl (by omega)
    omega
  · rw [Int.toNat_natCast]
    exact decide_eq_false (by have : (1000000 : Nat) ≤ sizeLine := by decide
                              omega)
  · by_cases c1 : (n : Int) < 1
    · rw [if_pos c1]
      obtain rfl : n = 0 := by omega
      exact ⟨by decide, .str _, H, I.tok _, ⟨_, rfl⟩, q⟩
    · rw [if_neg c1]
      by_cases c2 : ((n : Int) == 1 || z.length == 0) = true
      · rw [if_pos c2]
        have e1 : n = 1 := by
          have : ¬ z.length = 0 := by omega
          simp at c2
          omega
        subst e1
        rw [one] at q
        exact ⟨.str z, H, I, ⟨t, rfl⟩, q⟩
      · rw [if_neg c2, Int.toNat_natCast]
        refine ⟨?_, .str _, H, I.tok _, ⟨_, rfl⟩, q⟩
        have := repS_len z n
        show (repS z n).length ≤ sizeLine
        rw [this]
        exact Nat.le_trans hz (by decide)
/-! ### a call by name, within a try -/
def tCallN0S (m : Nat) (sp : Sp) (gV : List V → List V → List V) (E : L2.St → XK) (tk : TA) : TE := fun σ H Q => tk σ H fun zs H2 => zs.length = m ∧ sp (gV [] zs) H2 Q (E σ)
section
variable {X : Cx} {CX : CXT} {k n : Nat} {f : Addr} {fd : FuncData} {ps ks : List Str} {sp : Sp} {E : L2.St → XK} {x : Str} {p pos : Pos} {kws : List Keyword} {tk : TA} {g : List Value → List Value → List Value} {gV : List V → List V → List V}
theorem run_fnNS {pins : List (Addr × Obj)} {σ : L2.St} {H : Hp} {s : Shared} {Q : VK} {us ws : List Value} {vs zs : List V} (F : FnOk X.prog X.w X.K X.mg X.base CX k f fd ps sp) (hr : Room k X.A) (hb : KBn X.K fd ps n ks g gV) (hx : PassesAt CX X σ (E σ))
    (I : Inv X pins σ H s) (r : Vals vs us) (rz : Vals zs ws) (l1 : vs.length = n) (l2 : zs.length = ks.length) (h : sp (gV vs zs) H Q (E σ)) : wpAny (model X.prog X.w) X.A (call (.ref f) us (ks.zip ws)) (EP X pins σ Q) X.xe s := by
  have r2 := hb.rel r rz
  refine wpAny_call (codeAny_mono (F.run X.A X.stack s H ⟨us, ks.zip ws⟩ (g us ws) (gV vs zs) Q (E σ) hr I.env0 (hb.to s us ws I.kIn (r.length.symm.trans l1) (rz.length.symm.trans l2)) r2 h) fun r s' hq => ?_)
  cases r with
  | error e => exact hx pins H s e s' I hq
  | ok fl =>
    cases fl with
    | ret u => exact I.after hq
    | next => exact False.elim hq
    | brk => exact False.elim hq
    | cont => exact False.elim hq
theorem pe_callN0S (F : FnOk X.prog X.w X.K X.mg X.base CX k f fd ps sp) (hr : Room k X.A) (hg : Gl X x) (hm : X.mg x = some (.ref f)) (kp : PySem.W.keepIn X.K (.ref f) = true) (hb : KBn X.K fd ps 0 ks g gV) (hx : ∀ σ, PassesAt CX X σ (E σ))
    (hkw : PK X kws tk) (hsome : (backToKw pos (keywordEach kws X.env)).all (·.1.isSome) = true := by rfl) (hnames : (backToKw pos (keywordEach kws X.env)).filterMap (·.1) = ks := by rfl)
    (hdeb : (x == ("__debug__" : Str)) = false := by decide)
    (hplain : ((backTo pos (starEach [] X.env)).any (·.1) || (backToKw pos (keywordEach kws X.env)).any (·.1.isNone)) = false := by rfl) :
    PE X (.Call (.Name x p) [] kws pos) (tCallN0S ks.length sp gV E tk) := by
  refine ⟨fun pins s σ H Q I h => wpAny_Call_Name_kw (ld_glob I hg hm ?_ hdeb)⟩
  refine PySem.W.callWith_KW0 (h₀ := X.base) I.ok.mod.kin kp hsome (thn (hkw.run pos pins s σ H _ I h) fun us s1 ⟨vs, H1, I1, r, l2, q⟩ => ⟨I1.kIn, ?_⟩) hplain
  rw [hnames]
  exact run_fnNS (us := []) F hr hb (hx σ) I1 .nil r rfl l2 q
end
/-! ### reckoning with texts -/
section
variable {K : PySem.W.Frag} {σ : L2.St} {H : Hp} {te ta tb tk tl : TE}
theorem ev_revS {a : Str} (h : Ev te σ H (.str a)) (hz : a.length ≤ 1000000) : Ev (tRevS te) σ H (.str (revS a)) := fun H1 e Q q => h H1 e _ fun H2 e2 => ⟨a, rfl, hz, q H2 e2⟩
theorem ev_cut {a : Str} {i j : Int} (h : Ev te σ H (.str a)) (hi : Ev ta σ H (.int i)) (hj : Ev tb σ H (.int j)) (hz : a.length ≤ 1000000) : Ev (tSl rSlS te (tPart ta) (tPart tb)) σ H (.str (cutS a (some i) (some j))) := fun H1 e Q q =>
  h H1 e _ fun H2 e2 => eo_some hi H2 (e.trans e2) _ fun H3 e3 => eo_some hj H3 ((e.trans e2).trans e3) _ fun H4 e4 => ⟨a, rfl, Nat.le_trans hz (by decide), q H4 ((e2.trans e3).trans e4)⟩
theorem ev_upto {a : Str} {j : Int} (h : Ev te σ H (.str a)) (hj : Ev tb σ H (.int j)) (hz : a.length ≤ 1000000) : Ev (tSl rSlS te tNoPart (tPart tb)) σ H (.str (cutS a none (some j))) := fun H1 e Q q =>
  h H1 e _ fun H2 e2 => eo_none H2 (e.trans e2) _ fun H3 e3 => eo_some hj H3 ((e.trans e2).trans e3) _ fun H4 e4 => ⟨a, rfl, Nat.le_trans hz (by decide), q H4 ((e2.trans e3).trans e4)⟩
theorem ev_mulS {z : Str} {n : Nat} {i : Int} (h : Ev ta σ H (.str z)) (hn : Ev tb σ H (.int i)) (e : i = (n : Int)) (h0 : 0 < z.length) (hz : z.length * n ≤ 1000000) : Ev (tOp rMulS ta tb) σ H (.str (repS z n)) := by
  subst e
  exact ev_op h hn fun H1 _ Q q => ⟨z, n, rfl, rfl, h0, hz, q H1 (Ex.refl H1)⟩
def rNis : R2 := fun x y H Q => ∃ (c : Nat) (z : Str), x = .str ⟨#[c]⟩ ∧ y = .str z ∧ Q (.bl (!decide (c ∈ z.cps.toList))) H
theorem op_niS {X : Cx} : OpR X (compareOp .NotIn) rNis := op_notIn_sign
theorem rv_niS {c : Nat} {z : Str} : RV rNis (.str ⟨#[c]⟩) (.str z) H (.bl (!decide (c ∈ TL.tl z))) := fun H1 _ _ q => ⟨c, z, rfl, rfl, q H1 (Ex.refl H1)⟩
/-- [.. for c in text if ..] -/
theorem el_lcT {tt : TT} {z : Str} {j : Nat} {vs : List Nat} (φ : Nat → Bool) (v : Nat → V) (h : Ev tl σ H (.str z)) (hz : z.length ≤ 40000) (hw : ∀ x, wipe ((wipe σ vs).set j (some x)) vs = wipe σ vs)
    (ht : ∀ (c : Nat) H1, Ex H H1 → c ∈ TL.tl z → EvT tt ((wipe σ vs).set j (some (.str ⟨#[c]⟩))) H1 (φ c)) (he : ∀ (c : Nat) H1, Ex H H1 → c ∈ TL.tl z → Ev te ((wipe σ vs).set j (some (.str ⟨#[c]⟩))) H1 (v c)) : EvL (tLc (iStr tl) (gName j) tt te vs) σ H (((TL.tl z).filter φ).map v) := fun H0 e Q q => h H0 e _ fun H1 e1 => ⟨z, rfl, fun D nD => by
  have at_ {i : Nat} {c : Nat} (hi : z.cps[i]? = some c) : c ∈ TL.tl z ∧ (TL.tl z).getD i 0 = c := by
    have h2 : (TL.tl z)[i]? = some c := by rw [← hi]; exact Array.getElem?_toList
    exact ⟨List.mem_of_getElem? h2, by rw [List.getD_eq_getElem?_getD, h2]; rfl⟩
  have hl : z.cps.size = (TL.tl z).length := len_tl z
  refine ⟨fun i m U => m = z.cps.size - i ∧ i ≤ z.cps.size ∧ Cw H1 (fun i => φ ((TL.tl z).getD i 0)) (fun i => v ((TL.tl z).getD i 0)) D i U, ⟨_, rfl, Nat.zero_le _, nD, Ex.new nD, upd_same⟩, ?_⟩
  rintro i m U ⟨rfl, hi, p⟩
  have hz2 : z.cps.size ≤ 40000 := hz
  by_cases hlt : i < z.cps.size
  · refine .inr ⟨hlt, fun U' => Cw H1 (fun i => φ ((TL.tl z).getD i 0)) (fun i => v ((TL.tl z).getD i 0)) D (i + 1) U', fun U' zz => ⟨z.cps.size - (i + 1), by omega, rfl, hlt, zz⟩, ?_⟩
    rintro x U' ⟨rfl, c, hc, rfl⟩
    obtain ⟨hm, hd⟩ := at_ hc
    exact ⟨hw _, cw_turn p (by omega) (by rw [hd]; exact ht c H1 (e.trans e1) hm) (fun _ => by rw [hd]; exact he c H1 (e.trans e1) hm)⟩
  · have ei : i = z.cps.size := by omega
    subst ei
    refine .inl ⟨Nat.le_refl _, q D U (fresh_back e1 p.1) (e1.trans p.2.1) ?_⟩
    have hp := p.2.2
    rw [hl] at hp
    have g : given (TL.tl z).length (fun i => φ ((TL.tl z).getD i 0)) (fun i => v ((TL.tl z).getD i 0)) = ((TL.tl z).filter φ).map v := by
      generalize TL.tl z = l
      unfold given
      have key : (List.range l.length).map (fun i => l.getD i 0) = l := by
        refine List.ext_getElem (by simp) fun i h1 h2 => ?_
        rw [List.getElem_map, List.getElem_range, List.getD_eq_getElem?_getD, List.getElem?_eq_getElem h2]; rfl
      have : ((List.range l.length).filter (fun i => φ (l.getD i 0))).map (fun i => v (l.getD i 0)) = (((List.range l.length).map fun i => l.getD i 0).filter φ).map v := by
        rw [List.filter_map, List.map_map]; rfl
      rw [this, key]
    rw [g] at hp
    exact hp⟩
/-- a list of single signs != [] -/
theorem ev_neNil {cs : List Nat} (h : EvL ta σ H (cs.map fun c => V.str ⟨#[c]⟩)) (hb : EvL tb σ H []) (ha : ∀ c, c ∈ cs → c < 128) : Ev (tOp (rNeD K) ta tb) σ H (.bl (decide (cs ≠ []))) := fun H1 e Q q =>
  h H1 e _ fun p H2 _ e2 hp => hb H2 (e.trans e2) _ fun p2 H3 _ e3 hp2 => by
    have d1 : Dp K H3 (.ref p) (.list ((cs.map fun c => (⟨#[c]⟩ : Str)).map PyData.str)) := .lst (sq_of (e3 _ _ hp)) (by
      rw [show (cs.map fun c => V.str ⟨#[c]⟩) = (cs.map fun c => (⟨#[c]⟩ : Str)).map V.str from by rw [List.map_map]; rfl]
      exact dpa_strs _)
    have d2 : Dp K H3 (.ref p2) (.list []) := .lst (sq_of hp2) .nil
    refine ⟨_, _, d1, d2, shaped_strs (fun z hz c hc => ?_), (by decide +kernel), ?_⟩
    · obtain ⟨y, hy, rfl⟩ := List.mem_map.mp hz
      have : c = y := by simpa using (show c ∈ [y] from hc)
      exact this ▸ ha y hy
    · have e4 : (!PyData.eqv (.list ((cs.map fun c => (⟨#[c]⟩ : Str)).map PyData.str)) (.list [])) = decide (cs ≠ []) := by
        cases cs with
        | nil => rfl
        | cons c cs => simp [PyData.eqv, PyData.eqvAll]
      rw [e4]
      exact q H3 (e2.trans e3)
end
/-- a sign in a list of texts -/
theorem inV_strs (x : Str) (ys : List Str) : inV (.str x) (ys.map V.str) = decide (x ∈ ys) := by
  induction ys with
  | nil => rfl
  | cons y ys ih =>
    unfold inV at ih ⊢
    rw [List.map_cons, List.any_cons, ih]
    have e : eqV (.str y) (.str x) = decide (y = x) := by
      show eqV (.str y) (.str x) = decide (y = x)
      unfold eqV
      by_cases h : y = x
      · subst h; simp
      · simp [h]
    rw [e]
    by_cases h1 : y = x
    · subst h1; simp
    · by_cases h2 : x ∈ ys
      · simp [h1, h2]
      · have h3 : ¬ x = y := fun z => h1 z.symm
        simp [h1, h2, h3]
theorem flat_strs (ys : List Str) : (ys.map V.str).all flatV = true := by
  rw [List.all_map, List.all_eq_true]
  intro x _
  rfl
/-! ### tuple(xs) where an exception is handled -/
def rTupOf (K : PySem.W.Frag) : List V → Hp → VK → Prop := fun xs H Q => ∃ p ys, xs = [.ref p] ∧ ((SqL K H p ys ∧ ∀ l, H l = none → Q (.ref l) (upd H l (.tup ys))) ∨ (SqT K H p ys ∧ Q (.ref p) H))
theorem cr_tupOf {X : Cx} : CallR X (.type "tuple") (rTupOf X.K) := call_tuple_of
end Mc
namespace Mc
open PySem PySem.Spec PyProof.Rows L2 Evl TL
/-! ### xs.extend(a tuple) -/
set_option maxRecDepth 8000 in
theorem extend_tup (l : Addr) (items : Array Value) (n : Nat) (b : Addr) (dd : Option Addr) (sl : Array (Option Value)) (items2 : Array Value) (n2 : Nat) (hs0 : ¬(!items.isEmpty && Builtin.List.listTooLong (items.size + items2.size)) = true) (hs1 : items.size ≤ sizeLine) (hs2 : items.size + items2.size ≤ sizeLine + 1) :
    Meets (Builtin.«list.extend» ⟨[.ref l, .ref b], []⟩) (fun _ R s => s.heap.get? l = some { cls := .type "list", dict := none, data := .seq items n, slots := #[] } ∧ s.heap.get? b = some { cls := .type "tuple", dict := dd, data := .seq items2 n2, slots := sl } ∧ R (.ok (.ret Value.none)) { s with heap := s.heap.update l (Obj.mapSeq fun x => x ++ items2), toks := s.toks }) :=
  .of_wp fun prog w A R s h => by
    obtain ⟨hp, g, d, tk, os⟩ := s
    obtain ⟨hl, hb, h⟩ := h
    have f5 := AutoSeq1.sub_list_tuple
    have f4 := AutoSeq1.sub_tuple_list
    have f3 := AutoSeq1.sub_list_list
    have f2 := AutoSeq1.sub_tuple_tuple
    have hz' : (items ++ items2).size ≤ sizeLine + 1 := by rw [Array.size_append]; exact hs2
    wp_walk using (wpAny_updateSeq hl rfl (hz := hs1) (_hz' := hz')), wpAny_loadPart' hl, wpAny_loadPart' hb
    exact ⟨_, rfl, h⟩
def rExtendT : V → List V → Hp → VK → Prop := fun x vs H Q => ∃ l b xs zs, x = .ref l ∧ vs = [.ref b] ∧ H l = some (.lst xs) ∧ H b = some (.tup zs) ∧ xs.length + zs.length ≤ sizeLine ∧ Q .non (upd H l (.lst (xs ++ zs)))
theorem mt_extendT {X : Cx} : MtM X "list.extend" rExtendT := by
  intro pins s σ H x vs v us Q I rx rv h
  obtain ⟨l, b, xs, zs, rfl, rfl, hH, hB, hz, q⟩ := h
  cases rx
  obtain ⟨u, rfl, ru⟩ := rv.one
  cases ru
  obtain ⟨z, its, n, r, hl, e⟩ := I.lstM hH
  obtain ⟨hlen2, its2, r2, ht⟩ := I.hok b _ hB
  have hl2 : its2.length = zs.length := r2.length.symm
  obtain ⟨⟨cls, dd, data, sl⟩, e2, hc, n2, hd⟩ := ht
  simp only at hc hd
  subst hc hd
  have hsz : its.toArray.size + its2.toArray.size ≤ sizeLine := by rw [List.size_toArray, List.size_toArray]; omega
  have hlong : ¬ (!its.toArray.isEmpty && Builtin.List.listTooLong (its.toArray.size + its2.toArray.size)) = true := by
    rw [notLongL hsz, Bool.and_false]
    exact Bool.false_ne_true
  refine call_meets PySem.F.slot_list_extend ⟨_, e, rfl⟩ PySem.F.entry_list_extend (PySem.F.args_list_extend_2 _ _)
    (extend_tup l its.toArray n b dd sl its2.toArray n2 hlong (by rw [List.size_toArray]; omega) (by omega)) ⟨e, e2, ?_⟩
  refine ⟨.non, _, I.lset (its' := its ++ its2) hH e (by simp) (r.append r2) ?_, rfl, q⟩
  rw [List.length_append]
  omega
/-! ### instances -/
section
variable {K : PySem.W.Frag} {σ : L2.St} {H : Hp} {Q : VK} {D : Ends} {ta tv : TE} {t : TA} {C g : Addr} {f m : Str} {sp : Sp} {E : XK} {dvs : List V}
theorem f_fld (h : ta σ H fun x H1 => ∃ a C dx fs v, x = .ref a ∧ H1 a = some (.ins C dx fs) ∧ Cls K C ∧ NoAttr K C f ∧ fs.lookup f = some v ∧ Q v H1) : tFld K ta f σ H Q := h
theorem s_fld (h : tv σ H fun y H1 => ta σ H1 fun x H2 => ∃ a C dx fs, x = .ref a ∧ H2 a = some (.ins C dx fs) ∧ Cls K C ∧ NoAttr K C f ∧ fs.length < 1000 ∧ D.nx σ (upd H2 a (.ins C dx (putF f y fs)))) : sFld K ta tv f D σ H := h
theorem f_make (h : t σ H fun vs H1 => ∀ x dx, H1 x = none → H1 dx = none → dx ≠ x → sp (.ref x :: (vs ++ dvs)) (upd (upd H1 dx (.own x)) x (.ins C dx [])) (fun v H2 => v = .non ∧ Q (.ref x) H2) E) : tMake C sp dvs E t σ H Q := h
theorem f_meth (h : ta σ H fun x H1 => ∃ a dx fs, x = .ref a ∧ H1 a = some (.ins C dx fs) ∧ fs.lookup m = none ∧ t σ H1 fun vs H2 => sp (x :: (vs ++ dvs)) H2 Q E) : tMeth C m sp dvs E ta t σ H Q := h
theorem f_methR (h : ta σ H fun x H1 => ∃ a dx fs, x = .ref a ∧ H1 a = some (.ins C dx fs) ∧ fs.lookup m = none ∧ t σ H1 fun vs H2 => sp (x :: vs) H2 Q E) : tMethR C m sp E ta t σ H Q := h
theorem f_prop (h : ta σ H fun x H1 => ∃ a dx fs, x = .ref a ∧ H1 a = some (.ins C dx fs) ∧ sp (.ref a :: dvs) H1 Q E) : tProp C sp dvs E ta σ H Q := h
/-- a field of an instance that stands -/
theorem ev_fld {a dx : Addr} {fs : List (Str × V)} {v : V} (h : Ev ta σ H (.ref a)) (ha : H a = some (.ins C dx fs)) (c : Cls K C) (n : NoAttr K C f) (l : fs.lookup f = some v) : Ev (tFld K ta f) σ H v := fun H1 e1 Q q =>
  h H1 e1 _ fun H2 e2 => ⟨a, C, dx, fs, v, rfl, e2 _ _ (e1 _ _ ha), c, n, l, q H2 e2⟩
end
end Mc
namespace Mc
open PySem PySem.Spec PyProof.Rows L2 Evl TL SlX
/-! ### == of an own instance and anything, by the own __eq__ -/
def rEqI (K : PySem.W.Frag) (C : Addr) (sp : Sp) (E : XK) : R2 := fun x y H Q => ∃ a dx fs t, x = .ref a ∧ H a = some (.ins C dx fs) ∧ TyX K H y t ∧ PySem.W.notFirst K C t = true ∧ sp [x, y] H Q E
theorem op_eqI {X : Cx} {CX : CXT} {n : Nat} {C g : Addr} {sp : Sp} {E : XK} {fd : FuncData} (hs : PySem.W.findIn X.K (.ref C) "__eq__" = some (some (.ref g))) (hf : PySem.W.isFn X.K (.ref g) = true) (F : FnOk X.prog X.w X.K X.mg X.base CX n g fd ["self", "other"] sp) (hb : Binds X.K fd ["self", "other"] [])
    (hr : Room n X.A) (hx : Passes CX X E) : OpR X (compareOp .Eq) (rEqI X.K C sp E) := by
  intro pins s σ H x y v u Q I rx ry h
  obtain ⟨a, dx, fs, t, rfl, ha, ty, hn, q⟩ := h
  cases (show v = Value.ref a from rx)
  obtain ⟨mA, O, _⟩ := ins_get I.hok ha
  obtain ⟨od, J, _⟩ := O.look
  obtain ⟨P, Z, p, _⟩ := kit_of I ry ty
  obtain ⟨m, hF⟩ := I.fr
  show wpAny _ _ (richCompare .Eq (.ref a) u) _ _ _
  refine PySem.W.cmp_K (op := .Eq) (tb := t) hr.units0 hF I.ok.mod.kin J (Z.ty _ _ I.kIn p) hn hs hf ?_
  refine wpAny_mono (run_fn (us := [.ref a, u]) (vs := [.ref a, y]) F hr hb .nil hx I (.cons rfl (.cons ry .nil)) q) (fun w s' z => ?_) fun _ _ x => x
  obtain ⟨z', H', I', rz, qz⟩ := z
  exact cmpback rz ⟨z', H', I', rz, qz⟩
/-! ### != of an own instance and anything: the opposite of the own __eq__ -/
theorem ne_bind (self : Value) : bindSpecial (.builtin "object.__ne__") self = pure (.builtin "object.__ne__", [self]) :=
  (Slot.of (T := "object") (name := "__ne__") (owner := "object") (n := "__ne__") (by rw [typeLookup_type, builtinLookup_eq_fast]; kernel_rfl) (by decide +kernel) (by decide +kernel) (by decide +kernel)
    (.inl (by decide +kernel)) (by rw [isSubtype_type]; kernel_rfl)).bind self
section
variable {prog : Program} {w : World} {A : Around} {E : Value → Shared → Prop} {s : Shared} {K : PySem.W.Frag} {x C f L : Addr} {h₀ : Heap} {m : Str → Option Value} {ox : Obj} {od : Option Obj} {b tb : Value}
theorem ifBound_B {M : Model} {name : Str} {id : String} {args : List Value} {Q : Option Value → Shared → Prop} (X : K.In s.heap) (I : PySem.W.InstAt s.heap x ox C od) (hs : PySem.W.findIn K (.ref C) name = some (some (.builtin id)))
    (hb : ∀ self, bindSpecial (.builtin id) self = pure (.builtin id, [self])) (h : wpAny M A (call (.builtin id) (.ref x :: args)) (fun v => Q (some v)) E s) : wpAny M A (callSpecialIfBound? (.ref x) name args) Q E s := by
  simp only [callSpecialIfBound?, bindSpecialIfBound?]
  refine wpAny_holding (wpAny_bind (wpAny_bind (wpAny_bind (I.type.here ((PySem.W.looks_findIn X hs).here ?_)))))
  refine wpAny_bind (wpAny_askSetting (wpAny_ite ?_))
  have fin : wpAny M A (call (.builtin id) ([.ref x] ++ args) >>= fun v => pure (some v)) Q E s := wpAny_bind (wpAny_mono h (fun v s' h' => wpAny_pure h') fun _ _ h' => h')
  split
  · exact wpAny_bind ((PySem.W.Looks.of_pure (hb _)).here (wpAny_pure (by exact fin)))
  · exact wpAny_tryCatch (wpAny_bind ((PySem.W.Looks.of_pure (hb _)).here (wpAny_pure (by exact fin))))
open Builtin in
theorem objNe_own {Q : Value → Shared → Prop} (hu : A.in1.units < cLine) (X : K.In s.heap) (I : PySem.W.InstAt s.heap x ox C od) (hm : PySem.W.mroIn K C (.type "object") = some true) (he : PySem.W.findIn K (.ref C) "__eq__" = some (some (.ref f))) (hf : PySem.W.isFn K (.ref f) = true)
    (h : wpAny (model prog w) A.in1 (call (.ref f) [.ref x, b]) (fun v s' => ∃ c, v = .bool c ∧ Q (.bool (!c)) s') E s) : wpAny (model prog w) A (call (.builtin "object.__ne__") [.ref x, b]) Q E s := by
  refine wpAny_call (codeAny_call_builtin (by decide +kernel) PySem.F.cmpEntry_ne (PySem.W.check_slot (i := "object.__ne__") (owner := "object") (n := "__ne__") (by decide +kernel) (by decide +kernel) (I.type.andThen (PySem.W.looks_mroIn X hm)) (PySem.F.cmpArgs_ne _ _) ?_))
  unfold Builtin.«object.__ne__»
  repeat (first
    | with_reducible refine wpAny_cRoomFor hu ?_
    | (refine wpAny_bind (m := callSpecialIfBound? (.ref x) (Str.ofString "__eq__") [b])
        (PySem.W.ifBound_K X I he hf (wpAny_mono h (fun r s' hr => by
          obtain ⟨c, rfl, hq⟩ := hr
          repeat (first | exact hq | exact wpAny_pure hq | exact wpAny_truthy_bool hq | (refine wpAny_bind (m := truthy (.bool _)) (wpAny_truthy_bool ?_)) | wp_step)) fun _ _ e => e)))
    | wp_step)
theorem cmp_one {op : CmpOp} {Q : Value → Shared → Prop} (hu : A.units < cLine) (X : K.In s.heap) (I : PySem.W.InstAt s.heap x ox C od) (hb : PySem.W.Looks (model prog w) s.heap (typeOf b) tb) (hn : PySem.W.notFirst K C tb = true)
    (one : wpAny (model prog w) A (tryCompare (.ref x) (cmpInfo op).2.1 b) (fun r s' => ∃ v, r = some v ∧ Q v s') E s) : wpAny (model prog w) A (richCompare op (.ref x) b) Q E s := by
  unfold richCompare
  simp only [oneThing_ref]
  refine wpAny_holding (wpAny_bind (wpAny_cRoomFor hu ?_))
  refine wpAny_bind (I.type.here (wpAny_bind (hb.here ?_)))
  split
  · rename_i q
    have e : PySem.W.subIn K tb (.ref C) = some false := by
      rcases Bool.or_eq_true_iff.mp hn with e | e
      · rw [beq_iff_eq.mp e] at q; simp at q
      · exact beq_iff_eq.mp e
    refine wpAny_bind ((PySem.W.looks_subIn X e).here ?_)
    simp only [Bool.false_eq_true, if_false]
    refine wpAny_bind (wpAny_mono one (fun r s' z => ?_) fun _ _ e => e)
    obtain ⟨v, rfl, hq⟩ := z
    exact wpAny_pure hq
  · refine wpAny_bind (wpAny_pure ?_)
    simp only [Bool.false_eq_true, if_false]
    refine wpAny_bind (wpAny_mono one (fun r s' z => ?_) fun _ _ e => e)
    obtain ⟨v, rfl, hq⟩ := z
    exact wpAny_pure hq
end
def rNeI (K : PySem.W.Frag) (C : Addr) (sp : Sp) (E : XK) : R2 := fun x y H Q => ∃ a dx fs t, x = .ref a ∧ H a = some (.ins C dx fs) ∧ TyX K H y t ∧ PySem.W.notFirst K C t = true ∧ sp [x, y] H (fun v H' => ∃ c, v = .bl c ∧ Q (.bl (!c)) H') E
theorem op_neI {X : Cx} {CX : CXT} {n : Nat} {C g : Addr} {sp : Sp} {E : XK} {fd : FuncData} (hm : PySem.W.mroIn X.K C (.type "object") = some true) (hne : PySem.W.findIn X.K (.ref C) "__ne__" = some (some (.builtin "object.__ne__"))) (hs : PySem.W.findIn X.K (.ref C) "__eq__" = some (some (.ref g))) (hf : PySem.W.isFn X.K (.ref g) = true)
    (F : FnOk X.prog X.w X.K X.mg X.base CX n g fd ["self", "other"] sp) (hb : Binds X.K fd ["self", "other"] []) (hr : Room (n + 1) X.A) (hx : Passes CX X.nox E) : OpR X (compareOp .NotEq) (rNeI X.K C sp E) := by
  intro pins s σ H x y v u Q I rx ry h
  obtain ⟨a, dx, fs, t, rfl, ha, ty, hn, q⟩ := h
  cases (show v = Value.ref a from rx)
  obtain ⟨mA, O, _⟩ := ins_get I.hok ha
  obtain ⟨od, J, _⟩ := O.look
  obtain ⟨P, Z, p, _⟩ := kit_of I ry ty
  show wpAny _ _ (richCompare .NotEq (.ref a) u) _ _ _
  refine cmp_one (op := .NotEq) hr.units0 I.kIn J (Z.ty _ _ I.kIn p) hn ?_
  unfold tryCompare
  refine wpAny_bind (ifBound_B I.kIn J hne ne_bind (wpAny_mono (objNe_own (prog := X.prog) (w := X.w) (E := X.xe) (Q := fun v s' => ∃ c, v = .bool c ∧ EP X pins σ Q (.bool c) s') hr.in1.units0 I.kIn J hm hs hf ?_) (fun v s' z => ?_) fun _ _ e => e))
  · refine wpAny_call (codeAny_mono (F.run X.A.in1 X.stack s H ⟨[.ref a, u], []⟩ [.ref a, u] [.ref a, y] _ E hr.in1 I.env0.in1 (hb _ [.ref a, u] I.kIn rfl) (.cons rfl (.cons ry .nil)) q) fun r s' hq => ?_)
    cases r with
    | error er => exact False.elim (hx pins σ H s er s' (I.wish _) hq)
    | ok fl =>
      cases fl with
      | ret u' =>
        obtain ⟨v', H', I3, rv, c, ev, q3⟩ := I.after hq
        subst ev
        cases (show u' = Value.bool c from rv)
        exact ⟨c, rfl, !c, rfl, ⟨.bl (!c), H', I3, rfl, q3⟩⟩
      | next => exact False.elim hq
      | brk => exact False.elim hq
      | cont => exact False.elim hq
  · obtain ⟨c, rfl, h⟩ := z
    exact wpAny_pure ⟨_, rfl, h⟩
end Mc
namespace Mc
open PySem PySem.Spec PyProof.Rows L2 Evl TL
/-! ### x not in a list none of whose items is equal, where == may run defs -/
section
variable {prog : Program} {w : World} {A : Around} {R : Result → Shared → Prop}
def NoneI (prog : Program) (w : World) (A : Around) (E : Value → Shared → Prop) (l : Addr) (x : Value) (N : Nat) (I : Nat → Shared → Prop) : Prop :=
  ∀ i s, I i s → ∃ (items : Array Value) (n : Nat), s.heap.get? l = some { cls := .type "list", data := .seq items n } ∧ items.size = N ∧ ∀ (h1 : i < items.size), wpAny (model prog w) A.in1 (eqBool items[i] x) (fun r s' => r = false ∧ I (i + 1) s') E s
theorem none_loop (l : Addr) (x : Value) (N : Nat) (I : Nat → Shared → Prop) (hl : NoneI prog w A (fun e s' => R (.error e) s') l x N I) (fin : ∀ s, I N s → R (.ok (.ret (.bool false))) s) (k : Nat) :
    ∀ i : Nat, N - i = k → i ≤ N → ∀ s, I i s → wpAny (model prog w) A.in1 (Builtin.«list.__contains__.loop» ⟨[.ref l, x, rawInt i], []⟩) (GQ.FinOf prog w A R) (fun e s' => R (.error e) s') s := by
  induction k with
  | zero =>
    intro i hk hi s h
    obtain ⟨items, n, hl1, hs1, _⟩ := hl _ _ h
    have hi' : i = N := by omega
    have hR : R (.ok (.ret (.bool false))) s := fin s (hi' ▸ h)
    obtain ⟨hp, g, d, tk, os⟩ := s
    wp_walk using wpAny_loadPart' hl1
    have hi1 : items[((i : Nat) : Int).toNat]? = none := by simp; omega
    rw [hi1]
    wp_walk
    exact hR
  | succ k ih =>
    intro i hk hi s h
    obtain ⟨items, n, hl1, hs1, turn⟩ := hl _ _ h
    have hlt : i < items.size := by omega
    have ht := turn hlt
    obtain ⟨hp, g, d, tk, os⟩ := s
    wp_walk using wpAny_loadPart' hl1
    have hi1 : items[((i : Nat) : Int).toNat]? = some items[i] := by simp [hlt]
    have hc : ((i : Int) + 1) = ((i + 1 : Nat) : Int) := by omega
    rw [hi1]
    refine wpAny_bind (wpAny_mono ht (fun r s2 h2 => ?_) fun _ _ x => x)
    obtain ⟨hr, h2⟩ := h2
    subst hr
    have hrec := ih (i + 1) (by omega) (by omega) s2 h2
    obtain ⟨hp2, g2, d2, tk2, os2⟩ := s2
    wp_walk
    rw [hc]
    exact ⟨plainId_quiet MeetsSeq.plain_contains_loop _, codeAny_builtin MeetsSeq.entry_contains_loop (by
      rw [Around.under_plainId MeetsSeq.plain_contains_loop _]
      exact hrec)⟩
theorem list_none (l : Addr) (x : Value) (N : Nat) (I : Nat → Shared → Prop) (hl : NoneI prog w A (fun e s' => R (.error e) s') l x N I) (fin : ∀ s, I N s → R (.ok (.ret (.bool false))) s) {s : Shared} (h : I 0 s) :
    wpAny (model prog w) A.in1 (Builtin.«list.__contains__» ⟨[.ref l, x], []⟩) (GQ.FinOf prog w A R) (fun e s' => R (.error e) s') s := by
  obtain ⟨items, n, hl1, hs1, _⟩ := hl _ _ h
  have hrec := none_loop (A := A) (R := R) l x N I hl fin _ 0 rfl (Nat.zero_le _) s h
  obtain ⟨hp, g, d, tk, os⟩ := s
  wp_walk using wpAny_loadPart' hl1
  exact ⟨plainId_quiet MeetsSeq.plain_contains_loop _, codeAny_builtin MeetsSeq.entry_contains_loop (by
    rw [Around.under_plainId MeetsSeq.plain_contains_loop _]
    exact hrec)⟩
end
theorem notIn_none {prog : Program} {w : World} {A : Around} {E : Value → Shared → Prop} {s : Shared} {l : Addr} {x : Value} {N : Nat} {Q : Value → Shared → Prop} (I : Nat → Shared → Prop) (hl : NoneI prog w A E l x N I) (fin : ∀ s, I N s → Q (.bool true) s) (h : I 0 s) :
    wpAny (model prog w) A (compareOp .NotIn x (.ref l)) Q E s := by
  show wpAny _ A (do return .bool (!(← contains (.ref l) x))) Q E s
  obtain ⟨items, n, hl1, _⟩ := hl _ _ h
  refine wpAny_bind (wpAny_contains_slot ⟨_, hl1, rfl⟩ PySem.F.slot_list_contains (wpAny_mono (GQ.call_here (Q := fun v s' => ∃ b, v = .bool b ∧ Q (.bool (!b)) s') (E := E) PySem.F.slot_list_contains ⟨_, hl1, rfl⟩ PySem.F.entry_list_contains (PySem.F.args_list_contains_2 _ _)
    (list_none (R := wants (fun v s' => ∃ b, v = .bool b ∧ Q (.bool (!b)) s') E) l x N I hl (fun s' q => ⟨false, rfl, fin s' q⟩) h)) (fun v s' hv => ?_) fun _ _ e => e))
  obtain ⟨b, rfl, hq⟩ := hv
  exact wpAny_truthy_bool (wpAny_pure hq)
end Mc
namespace Mc
open PySem PySem.Spec PyProof.Rows L2 Evl TL
/-! ### built-in == an own instance: declined, then the own __eq__ is asked -/
section
variable {prog : Program} {w : World} {A : Around} {E : Value → Shared → Prop} {R : Result → Shared → Prop} {s : Shared} {K : PySem.W.Frag} {x C f dx : Addr} {ox : Obj} {od : Option Obj}
theorem isInst_own {T : String} {b : Bool} {Q : Bool → Shared → Prop} (X : K.In s.heap) (I : PySem.W.InstAt s.heap x ox C od) (e : PySem.W.subIn K (.ref C) (.type T) = some b) (q : Q b s) : wpAny (model prog w) A (isInstance (.ref x) (.type T)) Q E s := by
  simp only [isInstance]
  exact wpAny_bind (I.type.here ((PySem.W.looks_subIn X e).here q))
theorem list_decl {l : Addr} (X : K.In s.heap) (I : PySem.W.InstAt s.heap x ox C od) (e : PySem.W.subIn K (.ref C) (.type "list") = some false) (h : R (.ok (.ret .notImplemented)) s) :
    wpAny (model prog w) A.in1 (Builtin.«list.__eq__» ⟨[.ref l, .ref x], []⟩) (GQ.FinOf prog w A R) (fun e s' => R (.error e) s') s := by
  have f : ∀ {A : Around} {E : Value → Shared → Prop} {Q : Bool → Shared → Prop}, Q false s → wpAny (model prog w) A (isInstance (.ref x) (.type "list")) Q E s := fun q => isInst_own X I e q
  obtain ⟨hp, g, d, tk, os⟩ := s
  wp_walk using f
  exact h
theorem tup_decl {l : Addr} (X : K.In s.heap) (I : PySem.W.InstAt s.heap x ox C od) (e : PySem.W.subIn K (.ref C) (.type "tuple") = some false) (h : R (.ok (.ret .notImplemented)) s) :
    wpAny (model prog w) A.in1 (Builtin.«tuple.__eq__» ⟨[.ref l, .ref x], []⟩) (GQ.FinOf prog w A R) (fun e s' => R (.error e) s') s := by
  have f : ∀ {A : Around} {E : Value → Shared → Prop} {Q : Bool → Shared → Prop}, Q false s → wpAny (model prog w) A (isInstance (.ref x) (.type "tuple")) Q E s := fun q => isInst_own X I e q
  obtain ⟨hp, g, d, tk, os⟩ := s
  wp_walk using f
  exact h
theorem int_decl {i : Int} {t : Tok} (hx : s.heap.get? x = some (PySem.W.instObj C dx)) (h : R (.ok (.ret .notImplemented)) s) :
    wpAny (model prog w) A.in1 (Builtin.«int.__eq__» ⟨[.int i t, .ref x], []⟩) (GQ.FinOf prog w A R) (fun e s' => R (.error e) s') s := by
  unfold PySem.W.instObj at hx
  obtain ⟨hp, g, d, tk, os⟩ := s
  wp_walk using wpAny_loadPart' hx, wpAny_load hx
  exact h
theorem str_decl {i : Str} {t : Tok} (hx : s.heap.get? x = some (PySem.W.instObj C dx)) (h : R (.ok (.ret .notImplemented)) s) :
    wpAny (model prog w) A.in1 (Builtin.«str.__eq__» ⟨[.str i t, .ref x], []⟩) (GQ.FinOf prog w A R) (fun e s' => R (.error e) s') s := by
  unfold PySem.W.instObj at hx
  obtain ⟨hp, g, d, tk, os⟩ := s
  wp_walk using wpAny_loadPart' hx, wpAny_load hx
  exact h
theorem rc_refl {T : String} {y : Value} {Q : Value → Shared → Prop} (hu : A.units < cLine) (X : K.In s.heap) (I : PySem.W.InstAt s.heap x ox C od) (hT : s.TypeIs y T) (hsub : PySem.W.subIn K (.ref C) (.type T) = some false) (he : PySem.W.findIn K (.ref C) "__eq__" = some (some (.ref f))) (hf : PySem.W.isFn K (.ref f) = true)
    (decl : ∀ Q' : Option Value → Shared → Prop, Q' none s → wpAny (model prog w) A (tryCompare y (cmpInfo .Eq).2.1 (.ref x)) Q' E s)
    (h : wpAny (model prog w) A (call (.ref f) [.ref x, y]) (PySem.W.CmpBack Q) E s) : wpAny (model prog w) A (richCompare .Eq y (.ref x)) Q E s := by
  have one : wpAny (model prog w) A (tryCompare (.ref x) (cmpInfo .Eq).2.2 y) (fun r s' => ∃ v, r = some v ∧ Q v s') E s := by
    unfold tryCompare
    refine wpAny_bind (PySem.W.ifBound_K X I he hf (wpAny_mono h (fun v s' hv => ?_) fun _ _ e => e))
    cases v <;> first | exact hv.elim | exact wpAny_pure ⟨_, rfl, hv⟩
  unfold richCompare
  simp only [hT.oneThing_none]
  refine wpAny_holding (wpAny_bind (wpAny_cRoomFor hu ?_))
  refine wpAny_bind (wpAny_typeOf hT (wpAny_bind (I.type.here ?_)))
  rw [if_pos (show (Value.type T != Value.ref C) = true from rfl)]
  refine wpAny_bind ((PySem.W.looks_subIn X hsub).here ?_)
  simp only [Bool.false_eq_true, if_false]
  refine wpAny_bind (decl _ ?_)
  simp only [Bool.not_false, if_true]
  refine wpAny_bind (wpAny_mono one (fun r s' z => ?_) fun _ _ e => e)
  obtain ⟨v, rfl, hq⟩ := z
  exact wpAny_pure hq
end
/-- an item of another kind than an instance -/
inductive Itm (H : Hp) : V → String → Prop where
  | non : Itm H .non "NoneType"
  | int (i : Int) : Itm H (.int i) "int"
  | str (z : Str) : Itm H (.str z) "str"
  | lst {p : Addr} {xs : List V} (h : H p = some (.lst xs)) : Itm H (.ref p) "list"
  | tup {p : Addr} {xs : List V} (h : H p = some (.tup xs)) : Itm H (.ref p) "tuple"
theorem Itm.ex {H H' : Hp} {v : V} {T : String} (h : Itm H v T) (e : Ex H H') : Itm H' v T := by
  cases h with
  | non => exact .non
  | int i => exact .int i
  | str z => exact .str z
  | lst h => exact .lst (e _ _ h)
  | tup h => exact .tup (e _ _ h)
theorem Itm.ty {K : PySem.W.Frag} {H : Hp} {v : V} {T : String} (h : Itm H v T) : TyX K H v (.type T) := by
  cases h with
  | non => exact .base .non
  | int i => exact .base (.int i)
  | str z => exact .base (.str z)
  | lst h => exact .base (.lst h)
  | tup h => exact .base (.tup h)
theorem itm_decl {X : Cx} {pins : List (Addr × Obj)} {σ : L2.St} {H : Hp} {s : Shared} {A : Around} {E : Value → Shared → Prop} {C a dx : Addr} {fs : List (Str × V)} {v : V} {u : Value} {T : String} (I : L2.Inv X pins σ H s) (ha : H a = some (.ins C dx fs)) (it : Itm H v T) (r : RelV v u) (hsub : PySem.W.subIn X.K (.ref C) (.type T) = some false) :
    s.TypeIs u T ∧ (∀ Q1 : Bool → Shared → Prop, wpAny (model X.prog X.w) A (richCompare .Eq u (.ref a)) (fun v s' => ∃ b, v = .bool b ∧ Q1 b s') E s → wpAny (model X.prog X.w) A (eqBool u (.ref a)) Q1 E s) ∧ ∀ Q' : Option Value → Shared → Prop, Q' none s → wpAny (model X.prog X.w) A (tryCompare u (cmpInfo .Eq).2.1 (.ref a)) Q' E s := by
  obtain ⟨mA, O, _⟩ := ins_get I.hok ha
  obtain ⟨od, J, _⟩ := O.look
  cases it with
  | non =>
    cases (show u = Value.none from r)
    refine ⟨rfl, (fun Q1 h => by
      unfold eqBool
      refine wpAny_holding ?_
      refine wpAny_ite_split (fun hab => by simp at hab) (fun _ => ?_)
      refine wpAny_bind (wpAny_mono h (fun v s' hv => ?_) fun _ _ x => x)
      obtain ⟨b, rfl, q⟩ := hv
      exact wpAny_truthy_bool q), fun Q' q => wpAny_tryCompare_declines (T := "NoneType") rfl PySem.F.slot_NoneType_eq (call_gives PySem.F.slot_NoneType_eq rfl PySem.F.entry_NoneType_eq (PySem.F.args_NoneType_eq_2 _ _) (PySem.SeqAt.NoneType___eq___none_ref_0 a) ⟨rfl, q⟩)⟩
  | int i =>
    obtain ⟨t, rfl⟩ := (show ∃ t, u = Value.int i t from r)
    refine ⟨rfl, (fun Q1 h => by
      unfold eqBool
      refine wpAny_holding ?_
      refine wpAny_ite_split (fun hab => by simp at hab) (fun _ => ?_)
      refine wpAny_bind (wpAny_mono h (fun v s' hv => ?_) fun _ _ x => x)
      obtain ⟨b, rfl, q⟩ := hv
      exact wpAny_truthy_bool q), fun Q' q => wpAny_tryCompare_declines (T := "int") rfl PySem.F.slot_int_eq (GQ.call_here PySem.F.slot_int_eq rfl PySem.F.entry_int_eq (PySem.F.args_int_eq_2 _ _) (int_decl O.obj ⟨rfl, q⟩))⟩
  | str z =>
    obtain ⟨t, rfl⟩ := (show ∃ t, u = Value.str z t from r)
    refine ⟨rfl, (fun Q1 h => by
      unfold eqBool
      refine wpAny_holding ?_
      refine wpAny_ite_split (fun hab => by simp at hab) (fun _ => ?_)
      refine wpAny_bind (wpAny_mono h (fun v s' hv => ?_) fun _ _ x => x)
      obtain ⟨b, rfl, q⟩ := hv
      exact wpAny_truthy_bool q), fun Q' q => wpAny_tryCompare_declines (T := "str") rfl PySem.F.slot_str_eq (GQ.call_here PySem.F.slot_str_eq rfl PySem.F.entry_str_eq (PySem.F.args_str_eq_2 _ _) (str_decl O.obj ⟨rfl, q⟩))⟩
  | lst h =>
    cases (show u = Value.ref _ from r)
    obtain ⟨z, its, n, rv, hl, e⟩ := I.lstM h
    have ty : s.TypeIs (Value.ref _) "list" := ⟨_, e, rfl⟩
    refine ⟨ty, ?_, fun Q' q => wpAny_tryCompare_declines ty PySem.F.slot_list_eq (GQ.call_here PySem.F.slot_list_eq ty PySem.F.entry_list_eq (PySem.F.args_list_eq_2 _ _) (list_decl I.kIn J hsub ⟨rfl, q⟩))⟩
    exact fun Q1 h1 => GQ.eqBool_refG (fun z => by rw [z, ha] at h; cases h) h1
  | tup h =>
    cases (show u = Value.ref _ from r)
    obtain ⟨_, its, rv, ht⟩ := I.hok _ _ h
    have ty : s.TypeIs (Value.ref _) "tuple" := ht.typeIs
    refine ⟨ty, ?_, fun Q' q => wpAny_tryCompare_declines ty PySem.F.slot_tuple_eq (GQ.call_here PySem.F.slot_tuple_eq ty PySem.F.entry_tuple_eq (PySem.F.args_tuple_eq_2 _ _) (tup_decl I.kIn J hsub ⟨rfl, q⟩))⟩
    exact fun Q1 h1 => GQ.eqBool_refG (fun z => by rw [z, ha] at h; cases h) h1
def rNotInI (K : PySem.W.Frag) (C : Addr) (sp : Sp) (E : XK) : R2 := fun x y H Q => ∃ a dx fs p xs, x = .ref a ∧ y = .ref p ∧ H a = some (.ins C dx fs) ∧ H p = some (.lst xs) ∧
  (∀ v, v ∈ xs → ∃ T, Itm H v T ∧ PySem.W.subIn K (.ref C) (.type T) = some false ∧ ∀ H1, Ex H H1 → sp [.ref a, v] H1 (fun z H2 => z = .bl false ∧ Ex H1 H2) E) ∧ ∀ H1, Ex H H1 → Q (.bl true) H1
theorem op_notInI {X : Cx} {CX : CXT} {n : Nat} {C g : Addr} {sp : Sp} {E : XK} {fd : FuncData} (hs : PySem.W.findIn X.K (.ref C) "__eq__" = some (some (.ref g))) (hf : PySem.W.isFn X.K (.ref g) = true)
    (F : FnOk X.prog X.w X.K X.mg X.base CX n g fd ["self", "other"] sp) (hb : Binds X.K fd ["self", "other"] []) (hr : Room (n + 1) X.A) (hx : Passes CX X.nox E) : OpR X (compareOp .NotIn) (rNotInI X.K C sp E) := by
  intro pins s σ H x y v u Q I rx ry h
  obtain ⟨a, dx, fs, p, xs, rfl, rfl, ha, hp, hi, q⟩ := h
  cases (show v = Value.ref a from rx)
  cases (show u = Value.ref p from ry)
  refine notIn_none (N := xs.length) (fun i s' => ∃ H', Ex H H' ∧ L2.Inv X pins σ H' s') (fun i s' hI => ?_) (fun s' hI => ?_) ⟨H, Ex.refl H, I⟩
  · obtain ⟨H', e, I'⟩ := hI
    obtain ⟨z, its, n', rv, hl, e'⟩ := I'.lstM (e _ _ hp)
    have hsz : its.toArray.size = xs.length := by rw [List.size_toArray]; exact rv.length.symm
    refine ⟨its.toArray, n', e', hsz, fun h1 => ?_⟩
    have hix : i < xs.length := by rw [← hsz]; exact h1
    obtain ⟨u', hu', ru⟩ := rv.get (List.getElem?_eq_getElem hix)
    have hu2 : its.toArray[i] = u' := by
      have : its.toArray[i]? = some u' := by simpa using hu'
      exact (Array.getElem?_eq_some_iff.mp this).2
    rw [hu2]
    obtain ⟨T, it, hsub, call_⟩ := hi xs[i] (List.getElem_mem hix)
    have ha' := e _ _ ha
    obtain ⟨ty, ne, decl⟩ := itm_decl (A := X.A.in1) (E := X.xe) I' ha' (it.ex e) ru hsub
    obtain ⟨mA, O, _⟩ := ins_get I'.hok ha'
    obtain ⟨od, J, _⟩ := O.look
    refine ne _ (rc_refl hr.in1.units0 I'.kIn J ty hsub hs hf decl ?_)
    refine wpAny_call (codeAny_mono (F.run X.A.in1 X.stack s' H' ⟨[.ref a, u'], []⟩ [.ref a, u'] [.ref a, xs[i]] _ E hr.in1 I'.env0.in1 (hb _ [.ref a, u'] I'.kIn rfl) (.cons rfl (.cons ru .nil)) (call_ H' e)) fun r s'' hq => ?_)
    cases r with
    | error er => exact False.elim (hx pins σ H' s' er s'' (I'.wish _) hq)
    | ok fl =>
      cases fl with
      | ret w' =>
        obtain ⟨v', H'', I3, rv', ev, e3⟩ := I'.after hq
        subst ev
        cases (show w' = Value.bool false from rv')
        exact ⟨false, rfl, rfl, H'', e.trans e3, I3⟩
      | next => exact False.elim hq
      | brk => exact False.elim hq
      | cont => exact False.elim hq
  · obtain ⟨H', e, I'⟩ := hI
    exact ⟨.bl true, H', I', rfl, q H' e⟩
end Mc
namespace Mc
open PySem PySem.Spec PyProof.Rows L2 Evl GenW
/-! ### for, in a generator's body -/
section
variable {prog : Program} {w : World} {A : Around} {R : GenEnd} {Y : Protocol} {n : Nat} {s₀ : Shared} {fs : List Frame} {s : Shared} {env : Env}
/-- how an exception leaves a loop's own code -/
abbrev offLoop (env : Env) (e : Value) : Sem PySem.Fin := (do noteFrame e env; theTreesLotGoes e : Sem Unit).wrap (fun _ => .raise e) .raise id id
theorem seg_forLoop {target : Expr} {it : Value} {body : List Stmt}
    (h : wpAny (model prog w) (A.over (.forLoop target it body [] env) fs) (pyNext it) (fun r s1 => match r with
        | none => Seg (model prog w) A R Y n s₀ (.forLoop target it body [] env) (.pure (.again (.block [] env))) fs s1
        | some v => wpAny (model prog w) (A.over (.forLoop target it body [] env) fs) (letOwnedTupleGo target it v) (fun _ s2 =>
            wpAny (model prog w) (A.over (.forLoop target it body [] env) fs) (assign target env v) (fun _ s3 =>
              Seg (model prog w) A R Y n s₀ (.forLoop target it body [] env) ((execs body env).wrap (fun f => match f with
                | .next | .cont => .pure (.again (.forLoop target it body [] env))
                | .brk => .pure (.done .next)
                | .ret v => .pure (.done (.ret v))) (offLoop env) id id) fs s3)
              (fun x s' => Seg (model prog w) A R Y n s₀ (.forLoop target it body [] env) (offLoop env x) fs s') s2)
            (fun x s' => Seg (model prog w) A R Y n s₀ (.forLoop target it body [] env) (offLoop env x) fs s') s1)
      (fun x s' => Seg (model prog w) A R Y n s₀ (.forLoop target it body [] env) (offLoop env x) fs s') s) :
    Seg (model prog w) A R Y n s₀ (.forLoop target it body [] env) ((model prog w).den (.forLoop target it body [] env)) fs s := by
  have off : ∀ e : Value, ((do noteFrame e env; theTreesLotGoes e : Sem Unit).bind fun _ => (.raise e : Sem PySem.Fin)) = offLoop env e := fun e => Sem.bind_eq_wrap _ _
  show Seg _ A R Y n s₀ _ ((forTurn target it body [] env).onRaise (fun x => do noteFrame x env; theTreesLotGoes x)) fs s
  unfold forTurn
  rw [Sem.onRaise_eq_wrap]
  refine seg_bind_wrap (wpAny_standAt ?_)
  refine seg_bind_wrap (wpAny_onRaise (wpAny_mono h (fun r s1 h1 => ?_) fun x s' hx => wpAny_standAt ?_))
  · cases r with
    | none => exact h1
    | some v =>
      refine seg_bind_wrap (wpAny_mono h1 (fun _ s2 h2 => ?_) fun x s' hx => by rw [off]; exact hx)
      refine seg_bind_wrap (wpAny_mono h2 (fun _ s3 h3 => ?_) fun x s' hx => by rw [off]; exact hx)
      rw [Sem.bind_eq_wrap', Sem.wrap_wrap]
      refine cast (congrArg (fun t => Seg (model prog w) A R Y n s₀ (.forLoop target it body [] env) t fs s3) (Eq.symm ?_)) h3
      exact Sem.wrap_congr (execs body env) _ _ (fun f => by cases f <;> rfl) (fun e => off e)
  · rw [off]; exact hx
theorem seg_block_nil {k : Result → Sem PySem.Fin} {hd : Option Value} {g : Bool} {l : List Value} {c₁ : Code} {p₁ : Pos} {kp : List Value} {c : Code} (h : Seg (model prog w) A R Y n s₀ c₁ (k (.ok .next)) fs s) :
    Seg (model prog w) A R Y n s₀ c (.pure (.again (.block [] env))) (.ret k hd g l c₁ p₁ kp :: fs) s := by
  refine seg_again rfl ?_
  show Seg _ _ _ _ _ _ _ (leafOf (.ok .next)) _ _
  exact seg_leaf (.ok .next) h
end
section
variable {X : Cx} {tg : Expr}
def tGFor (wi : TI) (g : TG) (tb : TGn) : TGn := fun D ys σ H => wi σ H fun J H1 => ∃ W : Nat → Nat → List V → L2.St → Hp → Prop, (∃ m, W 0 m ys σ H1) ∧ ∀ i m ys σ H, W i m ys σ H →
  (J.stop i H ∧ D.nx ys σ H) ∨ (J.go i H ∧ ∃ N : List V → L2.St → Hp → Prop, (∀ ys' σ' H', N ys' σ' H' → ∃ m', m' < m ∧ W (i + 1) m' ys' σ' H') ∧ ∀ x H', J.yld i H x H' → g x σ H' fun σ2 H2 => tb { D with nx := N, ct := N, bk := D.nx } ys σ2 H2)
theorem fpOk_pin {X : Cx} {S : Addr} {o o' : Obj} {ip : List (Addr × Obj)} {H H' : Hp} {b : Addr} (h : FpOk X ((S, o) :: ip) H b) (n : H' b = none) : FpOk X ((S, o') :: ip) H' b := by
  obtain ⟨_, h1, h2, h3, h4, h5⟩ := h
  refine ⟨n, h1, h2, h3, h4, fun p hp => ?_⟩
  rcases List.mem_append.mp hp with hp | hp
  · exact h5 p (List.mem_append_left _ hp)
  · rcases List.mem_cons.mp hp with hp | hp
    · rw [hp]; exact h5 (S, o) (List.mem_append_right _ List.mem_cons_self)
    · exact h5 p (List.mem_append_right _ (List.mem_cons_of_mem _ hp))
theorem gs_for {iter : Expr} {body : List Stmt} {wi : TI} {g : TG} {tb : TGn} {pos : Pos} (hp : PassesOwn (model X.prog X.w) X.A X.env X.xe) (hc : X.calm = true) (hi : PI X tg iter wi) (hg : PG X tg g) (hb : GSs X body tb)
    (hs : ∀ x, foldedSetIterable iter X.env x = pure x := by intro _; rfl) : GS X (.For tg iter body [] pos) (tGFor wi g tb) := by
  refine ⟨fun A S ip R n ys s₀ c fs K J gd lv s σ H D gc hn k hI ht => ?_⟩
  obtain ⟨acc, cc, r, I⟩ := hI
  have ex0 : ∀ (n : Nat) (s₀ : Shared) (x : Value) (s' : Shared), X.xe x s' → Seg (model X.prog X.w) A R (GY X S) n s₀ c (J x) fs s' := k.exc
  rw [exec_For]
  refine seg_bind_wrap (wpAny_standAt ?_)
  refine seg_bind_wrap ?_
  rw [gc.over]
  refine wpAny_mono (hi.run _ s σ H _ I ht) (fun v s1 h1 => ?_) fun x s' hx => ex0 _ _ x s' hx
  refine seg_bind_wrap (wpAny_of_eq (hs v) ?_)
  refine seg_bind_wrap (wpAny_standAt ?_)
  refine seg_bind_wrap (wpAny_holding ?_)
  rw [gc.over]
  refine wpAny_mono h1 (fun itv s2 h2 => ?_) fun x s' hx => ex0 _ _ x s' hx
  obtain ⟨it, fp, tn, JJ, H2, e, I2, T, st2, f2, W, ⟨m0, w0⟩, turn⟩ := h2
  subst e
  refine seg_call fun p => ?_
  have gl := fun (kk : Result → Sem PySem.Fin) => gc_loop (k := kk) (c' := .forLoop tg (.ref it) body [] X.env) (l := lv []) (kp := []) (p := p) gc rfl rfl
  have fpS : ∀ b ∈ fp, b ≠ S := fun b hb z => (f2 b hb).2.2.2.2.2 (S, lstObj acc cc) (List.mem_append_right _ List.mem_cons_self) z.symm
  have loop : ∀ (m i n : Nat) (ys : List V) (s₀ s : Shared) (σ : L2.St) (H : Hp), n + ys.length = sizeLine → W i m ys σ H → GI X S ip ys σ H s → tn i s.heap → (∀ b ∈ fp, H b = none) →
      Seg (model X.prog X.w) A R (GY X S) n s₀ (.forLoop tg (.ref it) body [] X.env) ((model X.prog X.w).den (.forLoop tg (.ref it) body [] X.env))
        (.ret (fun r => ((match r with | .ok f => (.pure f : Sem Flow) | .error e => .raise e).onRaise (cameBack X.env)).wrap K J gd lv) none (gd false) (lv []) c p [] :: fs) s := by
    intro m
    induction m using Nat.strongRecOn with
    | ind m ih =>
      intro i n ys s₀ s σ H hn w hI st fr
      have ee : ∀ (n : Nat) (s₀ : Shared) (x : Value) (s' : Shared), X.xe x s' → Seg (model X.prog X.w) A R (GY X S) n s₀ (.forLoop tg (.ref it) body [] X.env) (offLoop X.env x)
          (.ret (fun r => ((match r with | .ok f => (.pure f : Sem Flow) | .error e => .raise e).onRaise (cameBack X.env)).wrap K J gd lv) none (gd false) (lv []) c p [] :: fs) s' := fun n s₀ x s' hx => by
        refine seg_wrap ?_
        rw [(gl _).over]
        refine wpAny_bind (wpAny_mono (hp x s' hx) (fun _ s'' hcb => wpAny_theTreesLotGoes ?_) fun y s'' hcb => ?_)
        · exact seg_leaf (.error x) (seg_cameBack gc k hcb)
        · exact seg_leaf (.error y) (seg_cameBack gc k hcb)
      obtain ⟨acc, cc, r, I⟩ := hI
      have stat : ∀ {H' : Hp}, (∀ b ∈ fp, H' b = none) → ∀ b ∈ fp, FpOk X ((S, lstObj acc cc) :: ip) H' b := fun hn b hb => fpOk_pin (f2 b hb) (hn b hb)
      refine seg_forLoop ?_
      rw [(gl _).over]
      rcases turn i m ys σ H w with ⟨stop, qn⟩ | ⟨go, N, hN, step⟩
      · refine wpAny_mono (T.done X rfl rfl rfl hc i _ s σ H X.xe I (stat fr) st stop) (fun r' s' hr => ?_) fun x s' hx => ee n s₀ x s' hx
        obtain ⟨hr, I'⟩ := hr
        subst hr
        exact seg_block_nil (k.ok n ys s₀ s' .next hn ⟨σ, H, ⟨acc, cc, r, I'⟩, qn⟩)
      · refine wpAny_mono (T.item X rfl rfl rfl hc i _ s σ H X.xe I (stat fr) st go) (fun r' s' hr => ?_) fun x s' hx => ee n s₀ x s' hx
        obtain ⟨u, hr, h4⟩ := hr
        subst hr
        refine wpAny_mono h4 (fun _ s5 h5 => ?_) fun x s' hx => ee n s₀ x s' hx
        obtain ⟨x, H5, I5, r5, y5, st5, fr5⟩ := h5
        have I5' := I5.pinned (stat fr5) (T.obj _ _ st5)
        refine wpAny_mono (hg.run _ s5 σ H5 x u _ I5' r5 (step x H5 y5)) (fun _ s6 h6 => ?_) fun x s' hx => ee n s₀ x s' hx
        obtain ⟨σ6, H6, I6, q6⟩ := h6
        have gl2 : ∀ kk : Result → Sem PySem.Fin, GC X S (ip ++ pinsAt fp s5.heap) A (.forLoop tg (.ref it) body [] X.env) (.ret kk none (gd false) (lv []) c p [] :: fs) id := fun kk =>
          ⟨gc.pn, fun q hq => (List.mem_append.mp hq).elim (fun z => gc.ip q z) fun z => fpS q.1 (of_pinsAt z).1, gc.apart, (gl kk).over, (gl kk).split, (gl kk).guard, rfl⟩
        have back : ∀ {ys' : List V} {σ' : L2.St} {H' : Hp} {s' : Shared}, GI X S (ip ++ pinsAt fp s5.heap) ys' σ' H' s' → GI X S ip ys' σ' H' s' ∧ tn (i + 1) s'.heap ∧ ∀ b ∈ fp, H' b = none := fun {ys' σ' H' s'} h => by
          obtain ⟨a', c', r', I'⟩ := h
          have I'' : Inv X (((S, lstObj a' c') :: ip) ++ pinsAt fp s5.heap) σ' H' s' := I'
          refine ⟨⟨a', c', r', I''.unpinned⟩, T.keep _ _ _ st5 fun b hb o e => (I''.pin (b, o) (List.mem_append_right _ (List.mem_append_right _ (mem_pinsAt hb e)))).1, fun b hb => ?_⟩
          obtain ⟨o, e, d⟩ := T.obj _ _ st5 b hb
          exact (I''.pin (b, o) (List.mem_append_right _ (List.mem_append_right _ (mem_pinsAt hb e)))).2.1
        refine hb.run A S (ip ++ pinsAt fp s5.heap) R n ys s₀ _ _ _ _ id id s6 σ6 H6 { D with nx := N, ct := N, bk := D.nx } (gl2 _) hn ⟨fun n' ys' s₀' s3 f hn' hs' => ?_, fun n' s₀' x s3 hx => ee n' s₀' x s3 hx⟩ ⟨acc, cc, r, I6⟩ q6
        cases f with
        | next =>
          obtain ⟨σ3, H3, I3, n3⟩ := hs'
          obtain ⟨m', hm, w3⟩ := hN ys' σ3 H3 n3
          obtain ⟨b1, b2, b3⟩ := back I3
          exact seg_again rfl (ih m' hm (i + 1) n' ys' s₀' s3 σ3 H3 hn' w3 b1 b2 b3)
        | cont =>
          obtain ⟨σ3, H3, I3, n3⟩ := hs'
          obtain ⟨m', hm, w3⟩ := hN ys' σ3 H3 n3
          obtain ⟨b1, b2, b3⟩ := back I3
          exact seg_again rfl (ih m' hm (i + 1) n' ys' s₀' s3 σ3 H3 hn' w3 b1 b2 b3)
        | brk =>
          obtain ⟨σ3, H3, I3, n3⟩ := hs'
          exact seg_leaf (.ok .next) (k.ok n' ys' s₀' s3 .next hn' ⟨σ3, H3, (back I3).1, n3⟩)
        | ret v =>
          obtain ⟨x3, σ3, H3, I3, r3, n3⟩ := hs'
          exact seg_leaf (.ok (.ret v)) (k.ok n' ys' s₀' s3 (.ret v) hn' ⟨x3, σ3, H3, (back I3).1, r3, n3⟩)
  exact loop m0 0 n ys s₀ s2 σ H2 hn w0 ⟨acc, cc, r, I2⟩ st2 fun b hb => (f2 b hb).1
end
/-! ### forward rules -/
theorem gfor_list {K : PySem.W.Frag} {a : Addr} {xs : List V} {g : TG} {tb : TGn} {D : GEnds} {ys : List V} {σ : L2.St} {H : Hp} (Pv : Nat → List V → L2.St → Hp → Prop) (h0 : Pv 0 ys σ H) (hl : ∀ i ys σ H, i ≤ xs.length → Pv i ys σ H → SqL K H a xs)
    (hs : ∀ i x ys σ H, xs[i]? = some x → Pv i ys σ H → g x σ H fun σ2 H2 => tb { D with nx := Pv (i + 1), ct := Pv (i + 1), bk := D.nx } ys σ2 H2) (hd : ∀ ys σ H, Pv xs.length ys σ H → D.nx ys σ H) :
    ∃ W : Nat → Nat → List V → L2.St → Hp → Prop, (∃ m, W 0 m ys σ H) ∧ ∀ i m ys σ H, W i m ys σ H →
      ((Itl K a).stop i H ∧ D.nx ys σ H) ∨ ((Itl K a).go i H ∧ ∃ N : List V → L2.St → Hp → Prop, (∀ ys' σ' H', N ys' σ' H' → ∃ m', m' < m ∧ W (i + 1) m' ys' σ' H') ∧ ∀ x H', (Itl K a).yld i H x H' → g x σ H' fun σ2 H2 => tb { D with nx := N, ct := N, bk := D.nx } ys σ2 H2) := by
  refine ⟨fun i m ys σ H => m = xs.length - i ∧ i ≤ xs.length ∧ Pv i ys σ H, ⟨xs.length, by simp, Nat.zero_le _, h0⟩, ?_⟩
  rintro i m ys σ H ⟨rfl, hi, p⟩
  have q := hl i ys σ H hi p
  rcases Nat.lt_or_ge i xs.length with hlt | hge
  · refine .inr ⟨⟨xs, xs[i], q, List.getElem?_eq_getElem hlt⟩, Pv (i + 1), fun ys' σ' H' p' => ⟨xs.length - (i + 1), by omega, rfl, hlt, p'⟩, fun x H' y => ?_⟩
    obtain ⟨rfl, y⟩ := y
    exact hs i x ys σ _ (y xs q) p
  · obtain rfl : i = xs.length := Nat.le_antisymm hi hge
    exact .inl ⟨⟨xs, q, Nat.le_refl _⟩, hd ys σ H p⟩
section
variable {σ : L2.St} {H : Hp} {ys : List V} {D : GEnds} {te : TE} {t u : TGn}
theorem g_seq (h : t { D with nx := fun ys' σ' H' => u D ys' σ' H' } ys σ H) : tGThen t u D ys σ H := h
theorem g_end (h : D.nx ys σ H) : tG0 D ys σ H := h
theorem g_plain {t : TS} (h : t (D.at ys) σ H) : tPlain t D ys σ H := h
theorem g_yield {v : V} (hlt : ys.length < sizeLine) (h : Ev te σ H v) (k : ∀ H1, Ex H H1 → D.nx (ys ++ [v]) σ H1) : tGYield te D ys σ H := ⟨hlt, f_ev h fun H1 e1 => k H1 e1⟩
end
/-- over a new list -/
theorem g_forN {K : PySem.W.Frag} {σ : L2.St} {H : Hp} {ys : List V} {D : GEnds} {tl : TE} {g : TG} {tb : TGn} {xs : List V} (h : EvL tl σ H xs) (k : ∀ c H1, H c = none → Ex H H1 → H1 c = some (.lst xs) → ∃ W : Nat → Nat → List V → L2.St → Hp → Prop, (∃ m, W 0 m ys σ H1) ∧ ∀ i m ys σ H, W i m ys σ H →
      ((Itl K c).stop i H ∧ D.nx ys σ H) ∨ ((Itl K c).go i H ∧ ∃ N : List V → L2.St → Hp → Prop, (∀ ys' σ' H', N ys' σ' H' → ∃ m', m' < m ∧ W (i + 1) m' ys' σ' H') ∧ ∀ x H', (Itl K c).yld i H x H' → g x σ H' fun σ2 H2 => tb { D with nx := N, ct := N, bk := D.nx } ys σ2 H2)) :
    tGFor (iList K tl) g tb D ys σ H := f_evL h fun c H1 nc e hc => ⟨c, rfl, ⟨_, sq_of hc⟩, k c H1 nc e hc⟩
theorem noStop0 {K : PySem.W.Frag} : NoStop K (fun _ _ _ => False) := fun _ _ _ h => h.elim
theorem passC0 {X : Cx} : Passes (CX X.prog X.w) X (fun _ _ _ => False) := fun _ _ _ _ _ _ _ h => by
  obtain ⟨_, _, _, _, _, _, _, _, _, _, _, _, z⟩ := h
  exact z.elim
end Mc
namespace Mc
open PySem PySem.Spec PyProof.Rows L2 Evl
/-! ### raise .. from None where what is handled has a context -/
theorem raise_fromGx {prog : Program} {w : World} {A : Around} {E : Value → Shared → Prop} {env : Env} {s : Shared} {mk cz : Sem Value} {Q : Flow → Shared → Prop} {y : Addr}
    (cause : ∀ (s2 : Shared) (Q2 : Value → Shared → Prop), Q2 .none s2 → wpAny (model prog w) A cz Q2 E s2)
    (made : wpAny (model prog w) A mk (fun v s1 => ∃ c t ot vt cls, v = .ref t ∧ s1.heap.get? t = some ot ∧ ot.cls = cls ∧ ot.data = .fields vt ∧ vt[1]? = some .none ∧ 4 < vt.size ∧ Far y c t ∧ HotG A y c s1.heap ∧
      PySem.W.Looks (model prog w) s1.heap (isSubtype cls (.type "BaseException")) true ∧ PySem.W.Looks (model prog w) (HotX.noneFrom s1.heap t) (typeOf cls) (.type "type") ∧
      E (.ref t) { s1 with heap := (HotX.noneFrom s1.heap t).update t (Obj.mapFields (·.setIfInBounds 2 (.ref y))) }) E s) : wpAny (model prog w) A (raiseStmt env (some mk) (some cz)) Q E s := by
  unfold raiseStmt
  dsimp only
  refine wpAny_bind (wpAny_mono made (fun v s1 hm => ?_) fun _ _ z => z)
  obtain ⟨c, t, ot, vt, cls, rfl, gt, ct, dt, t1, room, far, hot, sub, meta_, out⟩ := hm
  have tyT : PySem.W.Looks (model prog w) s1.heap (typeOf (.ref t)) cls := fun _ _ _ _ k q => wpAny_typeOf_ref (k _ _ gt) (ct.symm ▸ q)
  have inst : PySem.W.Looks (model prog w) s1.heap (isInstance (.ref t) (.type "BaseException")) true := tyT.andThen sub
  have noType : ∀ {h : Heap} {o : Obj} {us : Array Value} {Q' : Bool → Shared → Prop}, h.get? t = some o → o.data = .fields us → Q' false { s1 with heap := h } → wpAny (model prog w) A (isType (.ref t)) Q' E { s1 with heap := h } := fun {h o us Q'} g d q => by
    simp only [isType, loadHead]; exact wpAny_bind (wpAny_loadPart (s := { s1 with heap := h }) g (d.symm ▸ wpAny_pure q))
  have dt3 := Obj.data_mapFields dt (·.setIfInBounds 3 .none); have gt3 := Heap.get?_update_self (Obj.mapFields (·.setIfInBounds 3 .none)) gt (Obj.isFreed_of_fields dt3)
  obtain ⟨gt4, dt4⟩ := HotX.noneFrom_at gt dt
  have r3 : 3 < vt.size := Nat.lt_of_succ_lt room
  have r4 : 4 < (vt.setIfInBounds 3 Value.none).size := (HotX.set_size (vs := vt) (i := 3) (x := .none)).symm ▸ room
  have r2 : 2 < ((vt.setIfInBounds 3 Value.none).setIfInBounds 4 (Value.bool true)).size := by rw [HotX.set_size, HotX.set_size]; exact Nat.lt_of_succ_lt r3
  have t14 : ((vt.setIfInBounds 3 Value.none).setIfInBounds 4 (Value.bool true))[1]? = some Value.none := HotX.set_other (by decide) (HotX.set_other (by decide) t1)
  have ct4 : ((ot.mapFields (·.setIfInBounds 3 .none)).mapFields (·.setIfInBounds 4 (.bool true))).cls = cls := (Obj.cls_mapFields ..).trans ((Obj.cls_mapFields ..).trans ct)
  have tyT4 : PySem.W.Looks (model prog w) (HotX.noneFrom s1.heap t) (typeOf (.ref t)) cls := fun _ _ _ _ k q => wpAny_typeOf_ref (k _ _ gt4) (ct4.symm ▸ q)
  have hot4 : HotG A y c (HotX.noneFrom s1.heap t) := hot_on hot fun b o hb g => (HotX.noneFrom_other (fun z => hb.elim (fun z2 => far.1 (z2.symm.trans z.symm)) fun z2 => far.2 b z2 z.symm)).trans g
  have last : wpAny (model prog w) A (do
      let b ← isType (.ref t)
      if b = true then (do let e ← holding [.ref t] (raisedFor (.ref t) (.ref t)); setFlight e none; raiseNew e)
      else (do let e ← raisedInstance (.ref t); setFlight e none; raiseNew e) : Sem Flow) Q E { s1 with heap := HotX.noneFrom s1.heap t } := by
    refine wpAny_bind (noType gt4 dt4 ?_)
    rw [if_neg Bool.false_ne_true]
    unfold raisedInstance
    refine wpAny_bind (wpAny_bind (tyT4.here (wpAny_bind (meta_.here ?_))))
    rw [if_pos (BEq.rfl : (Value.type "type" == Value.type "type") = true)]
    refine wpAny_pure (show wpAny _ _ (setFlight _ _ >>= _) _ _ _ from ?_)
    unfold setFlight
    refine wpAny_bind (wpAny_bind (wpAny_field gt4 dt4 t14 ?_))
    rw [if_neg (show ¬ (Value.none != Value.none) = true by decide)]
    exact wpAny_pure (raiseNew_g hot4 far gt4 dt4 r2 out)
  refine wpAny_bind (wpAny_holding (cause _ _ (wpAny_bind (wpAny_pure (show wpAny _ _ (_ >>= _) _ _ _ from wpAny_bind (wpAny_holding ?_))))))
  unfold excFromValue isExcClass
  refine wpAny_bind (wpAny_bind (noType gt dt ?_))
  rw [if_neg Bool.false_ne_true]
  refine wpAny_pure ?_
  rw [if_neg Bool.false_ne_true]
  refine wpAny_bind (inst.here ?_)
  rw [if_pos rfl]
  refine wpAny_pure ?_
  dsimp only
  rw [if_pos (BEq.rfl : (Value.none == Value.none) = true)]
  exact wpAny_bind (wpAny_pure (wpAny_bind (wpAny_setField gt dt r3 (wpAny_bind (wpAny_setField gt3 dt3 r4 last)))))
section
variable {X : Cx} {pins : List (Addr × Obj)} {τ : L2.St} {U : Hp} {W : WX}
theorem zc_of {U : Hp} {cls : Value} {d : Option Addr} {o : Obj} (z : Z2 U cls d o) : Zc cls d o := z.elim fun _ k => ⟨k.1.1, k.1.2.1⟩
theorem ps_raiseHZ {e : Expr} {t : L2.St → Hp → XK → Prop} {j : Nat} {cpos pos : Pos} {x0 : Addr} (hh : X.A.handled = some (.ref x0)) (tk : L2.Takes X W) (mk : L2H.PMk5 X e t) :
    PS X (.Raise (some e) (some (.Constant .none j cpos)) pos) (fun _ τ H => t τ H fun cls d U => HotV U x0 ∧ W cls d τ U) := by
  constructor
  intro pins s τ H D I h
  have cause : ∀ (s2 : Shared) (Q2 : Value → Shared → Prop), Q2 .none s2 → wpAny (model X.prog X.w) X.A (do let v ← eval (.Constant .none j cpos) X.env; standAt pos; pure v) Q2 X.xe s2 := fun s2 Q2 q2 => wpAny_bind (Constant_none (wpAny_bind (wpAny_standAt (wpAny_pure q2))))
  -- which context the handled one has is said by what is made
  refine wpAny_bind (wpAny_standAt ?_)
  have made := mk pins s τ H _ I h
  refine raise_fromGx (y := x0) cause (wpAny_bind (wpAny_mono made (fun u s1 made => wpAny_bind (wpAny_standAt (wpAny_pure ?_))) fun _ _ x => x))
  obtain ⟨⟨a, oa, va, sI, U, cls, d, rfl, J, keep, new, ga, zn, da, tb, nU, os, bare, rz, ⟨c, hv⟩, out⟩, six⟩ := made
  have room : 4 < va.size := six a oa va rfl ga da
  have far := hv.far nU
  have hotI := hv.at_ hh J
  have apart : ∀ b u, sI.heap.get? b = some u → a ≠ b := fun b u g z => by rw [← z, new] at g; cases g
  have keep2 : ∀ b u, sI.heap.get? b = some u → (HotX.noneFrom s1.heap a).get? b = some u := fun b u g => (HotX.noneFrom_other (apart b u g)).trans (keep b u g)
  obtain ⟨ga2, da2⟩ := HotX.noneFrom_at ga da
  have upd3 := Heap.get?_update_self (Obj.mapFields (·.setIfInBounds 2 (.ref x0))) ga2 (Obj.isFreed_of_fields (Obj.data_mapFields da2 _))
  have tb2 : (((va.setIfInBounds 3 Value.none).setIfInBounds 4 (Value.bool true)).setIfInBounds 2 (Value.ref x0))[1]? = some Value.none := HotX.set_other (by decide) (HotX.set_other (by decide) (HotX.set_other (by decide) tb))
  refine ⟨c, a, oa, va, cls, rfl, ga, zn.1, da, tb, room, far, hot_on hotI fun b o _ g => keep b o g, (rz _ s1.heap (J.kIn.keeps keep)).1, (rz _ (HotX.noneFrom s1.heap a) (J.kIn.keeps keep2)).2,
    tk _ _ (L2.XE.new J (fun b u g => (Heap.get?_update_other _ _ (apart b u g)).trans (keep2 b u g)) new upd3 ⟨?_, ?_⟩ (Obj.data_mapFields da2 _) tb2 nU os bare out)⟩
  · rw [Obj.cls_mapFields, Obj.cls_mapFields, Obj.cls_mapFields]; exact zn.1
  · rw [HandSPX.dict_mapFields, HandSPX.dict_mapFields, HandSPX.dict_mapFields]; exact zn.2.1
end
/-! ### try: body, except x: suite that raises; what is caught may have a context -/
def wBareY (K : PySem.W.Frag) (c : Value) (ts : Addr → TS) (Wout : WX) (D : Ends) : WX := fun cls d τ U => ∃ b, PySem.W.exmOne K cls c = some b ∧ (b = false → Wout cls d τ U) ∧ (b = true → ∀ (a : Addr) (oe : Obj) (vs : Array Value), U a = none → Z2 U cls d oe → oe.data = .fields vs → ts a D τ (upd U a (Pin a oe)))
section
variable {X : Cx} {x : Str} {c : Value} {body suite : List Stmt} {st0 : Stmt} {np pos pos' : Pos} {tb : WX → TS} {ts : Addr → TS} {Wout : WX}
theorem tkSuiteZ {a : Addr} {pins : List (Addr × Obj)} (ok : X.Ok) (tk : L2.Takes X Wout) : L2.Takes (L2H.suiteX X a (X.pn ++ pins)) Wout := fun u s' ⟨b, B, sI, _, τ, U, cls, d, e1, I, e3, e4, e5, r⟩ => tk u s' ⟨b, B, sI, pins, τ, U, cls, d, e1, outSuiteX I ok, e3, e4, e5, r⟩
theorem land_bareY {pins : List (Addr × Obj)} {D : Ends} (hs : X.stack = X.env :: X.outer) (hf : X.env.frame = some X.env.locals) (hex : X.ex = []) (hc : Names X x c) (out : ∀ hd : Option Value, PassesOwnAt (model X.prog X.w) (X.A.mark hd) X.A X.env X.xe) (tk : L2.Takes X Wout)
    (hsu : ∀ (a : Addr) (pn : List (Addr × Obj)), L2.Takes (L2H.suiteX X a pn) Wout → PSs (L2H.suiteX X a pn) (st0 :: suite) (ts a)) (ok : X.Ok) {u : Value} {s' : Shared} {xe : Value → Shared → Prop} {pn : List (Addr × Obj)} (hpn : pn = X.pn ++ pins) (air : Air (X.tr pn xe) (wBareY X.K c ts Wout D) u s') :
    wpAny (model X.prog X.w) X.A (noteFrame u X.env) (fun _ s₂ => wpAny (model X.prog X.w) X.A (setFlight u none) (fun _ s₃ =>
      wpAny (model X.prog X.w) X.A (handleBy u X.env [.ExceptHandler (some (.Name x np)) none (st0 :: suite) pos']) (SP X pins D) X.xe s₃) X.xe s₂) X.xe s' := by
  subst hpn
  obtain ⟨a, B, sI, pins', τ, U, cls, d, eu, J0, nb, up, sky, nU, hos, hag, b, hb1, hno, hyes⟩ := air
  subst eu
  have frames : X.A.frames = some (X.env :: X.outer) := ok.frames.trans (congrArg some hs)
  have J : Inv X pins τ U sI := J0.ofTry ok
  refine L2N.Sky.land z2_steady frames hf (hs ▸ sky) fun g fl upg => ?_
  have Jg : Inv X pins τ U { s' with heap := g } := J.landed nb fl.1 (up.trans upg) hos hag
  obtain ⟨og, vg, eg, zg, dg⟩ := fl.there
  have noFrame : a ∉ frs (X.env :: X.outer) := fun hm => by
    obtain ⟨_, o2, e2, hnf⟩ := fl.2.2.1.mem hm
    cases Option.some.inj (e2.symm.trans eg)
    exact hnf _ dg
  have nLoc : a ≠ X.env.locals := fun z => noFrame (List.mem_filterMap.mpr ⟨X.env, List.mem_cons_self .., by rw [hf, z]⟩)
  have nI : sI.heap.get? a = none := by
    rcases e : sI.heap.get? a with _ | o2
    · rfl
    · have z := nb a o2 e (by rw [hs]; exact noFrame)
      rw [fl.2.1] at z
      cases z
  have n0 : X.s_0.heap.get? a = none := by
    rcases e : X.s_0.heap.get? a with _ | o2
    · rfl
    · obtain ⟨o3, e3⟩ := J.base.there a o2 e (by rw [hex]; exact fun z => nomatch z)
      rw [nI] at e3
      cases e3
  have nCell : ∀ y c', X.env.cells.lookup y = some c' → c' ≠ a := fun y c' e z => by
    obtain ⟨v, o2, e2, _⟩ := J.cell y c' e
    rw [z, nI] at e2
    cases e2
  have nPin : ∀ p ∈ X.pn ++ pins, p.1 ≠ a := fun p hp z => by
    have e2 := (J.pin p hp).1
    rw [z, nI] at e2
    cases e2
  have known : PySem.W.Looks (model X.prog X.w) g (typeOf (.ref a)) cls := fun _ _ _ _ k q => wpAny_typeOf_ref (k _ _ eg) (by rw [z2_cls zg]; exact q)
  have told := PySem.W.exm_one (M := model X.prog X.w) Jg.kIn known hb1
  have named : ∀ {Q : Value → Shared → Prop} {E : Value → Shared → Prop}, Q c { s' with heap := g } → wpAny (model X.prog X.w) (X.A.mark (some (.ref a))) (eval (.Name x np) X.env) Q E { s' with heap := g } := fun {Q E} q => by
    obtain ⟨hg, hdb, hm⟩ := hc
    rcases hm with hm | ⟨hm, hv, hne⟩
    · exact ld_glob (X := X.suite a (X.pn ++ pins)) (Inv.inSuite Jg a) hg hm q hdb
    · exact ld_blt (X := X.suite a (X.pn ++ pins)) (Inv.inSuite Jg a) hg hm hv q hne hdb
  refine wpAny_handleBy_cons (codeAny_handlers_test (named (told.here ?_))) (fun q => nomatch q)
  match b, hno, hyes with
  | true, _, hyes =>
    refine codeAny_handlers_suite (HandSPX.lands_againZ fl fun g2 fl2 up2 => ?_)
    have J2 : Inv X pins τ U { s' with heap := g2 } := J.landed nb fl2.1 ((up.trans upg).trans up2) hos hag
    obtain ⟨o2, v2, e2, z2, d2⟩ := fl2.there
    have T2 := L2H.suiteX_of (Inv.inSuite (Inv.track (o := Pin a o2) J2 n0 nU (pin_ok e2) nLoc nCell nPin) a)
    refine wpAny_mono ((hsu a (X.pn ++ pins) (tkSuiteZ ok tk)).run [] _ _ _ _ T2 (hyes rfl a o2 v2 nU z2 d2)) (fun f s6 q6 => ?_) fun e6 s6 z => out (some (.ref a)) e6 s6 z
    match f, q6 with
    | .next, ⟨_, _, T6, r6⟩ => exact ⟨_, _, outSuiteX T6 ok, r6⟩
    | .brk, ⟨_, _, T6, r6⟩ => exact ⟨_, _, outSuiteX T6 ok, r6⟩
    | .cont, ⟨_, _, T6, r6⟩ => exact ⟨_, _, outSuiteX T6 ok, r6⟩
    | .ret _, ⟨_, _, _, T6, v6, r6⟩ => exact ⟨_, _, _, outSuiteX T6 ok, v6, r6⟩
  | false, hno, _ =>
    refine wpAny_handleBy_nil ?_
    obtain ⟨_, _, _, o3, v3, T3, oT, ts', e3, _, d3, t3, _⟩ := id fl
    unfold PySem.passOn
    refine wpAny_bind (wpAny_field e3 d3 t3 ?_)
    rw [if_neg (fun z => by simp at z)]
    have away : wpAny (model X.prog X.w) X.A (setFlight (.ref a) X.env.frame) (fun _ s4 => wpAny (model X.prog X.w) X.A (throw (.ref a) : Sem Flow) (SP X pins D) X.xe s4) X.xe { s' with heap := g } := by
      rw [hf]
      exact HandSPX.setFlight_upZ fl fun g2 held up2 => wpAny_throw (tk _ _ ⟨a, B, sI, pins, τ, U, cls, d, rfl, J, nb, (up.trans upg).trans up2, sky_of (fun _ => zc_of) (.inr (.inr (hs ▸ held))), nU, hos, hag, hno rfl⟩)
    first
      | exact wpAny_bind away
      | exact wpAny_bind (wpAny_pure (wpAny_bind away))
theorem ps_try_bareY (hs : X.stack = X.env :: X.outer) (hf : X.env.frame = some X.env.locals) (hex : X.ex = []) (hc : Names X x c) (out : ∀ hd : Option Value, PassesOwnAt (model X.prog X.w) (X.A.mark hd) X.A X.env X.xe) (tk : L2.Takes X Wout)
    (hb : ∀ (W : WX) (pn : List (Addr × Obj)) (xe : Value → Shared → Prop), Tk (X.tr pn xe) W → PassesOwn (model X.prog X.w) X.A X.env xe → PSs (X.tr pn xe) body (tb W)) (hsu : ∀ (a : Addr) (pn : List (Addr × Obj)), L2.Takes (L2H.suiteX X a pn) Wout → PSs (L2H.suiteX X a pn) (st0 :: suite) (ts a)) :
    PS X (.Try body [.ExceptHandler (some (.Name x np)) none (st0 :: suite) pos'] [] [] pos) (fun D τ H => tb (wBareY X.K c ts Wout D) D τ H) :=
  ⟨fun pins s τ H D I h => wpAny_Try_except (wpAny_mono ((hb (wBareY X.K c ts Wout D) (X.pn ++ pins) _ (fun _ _ air => land_bareY (pins := pins) hs hf hex hc out tk hsu I.ok rfl air) PassesOwn.looking).run [] s τ H D (I.toTry _) h)
    (fun f s1 q => by
      match f, q with
      | .next, ⟨_, _, J, r⟩ => exact wpAny_execs_nil ⟨_, _, J.ofTry I.ok, r⟩
      | .brk, ⟨_, _, J, r⟩ => exact ⟨_, _, J.ofTry I.ok, r⟩
      | .cont, ⟨_, _, J, r⟩ => exact ⟨_, _, J.ofTry I.ok, r⟩
      | .ret _, ⟨_, _, _, J, v, r⟩ => exact ⟨_, _, _, J.ofTry I.ok, v, r⟩) fun _ _ z => z)⟩
end
/-! ### try: body, except x as n: suite; of what is caught class and dict are known -/
def wKpZ (K : PySem.W.Frag) (c : Value) (i : Nat) (ts : Addr → TS) (Wout : WX) (D : Ends) : WX := fun cls d σ H => ∃ b, PySem.W.exmOne K cls c = some b ∧ (b = false → Wout cls d σ H) ∧
  (b = true → ∀ (a : Addr) (oe : Obj) (vs : Array Value), H a = none → oe.cls = cls → oe.dict = d → oe.data = .fields vs → ts a { rt := D.rt, nx := fun σ' H' => D.nx (σ'.set i none) H', bk := fun σ' H' => D.bk (σ'.set i none) H', ct := fun σ' H' => D.ct (σ'.set i none) H' } (σ.set i (some (.ref a))) (upd H a (Pin a oe)))
section
variable {X : Cx} {x n : Str} {c : Value} {i : Nat} {body suite : List Stmt} {st0 : Stmt} {np pos pos' : Pos} {tb : WX → TS} {ts : Addr → TS} {Wout : WX}
theorem land_catchZ {pins : List (Addr × Obj)} {D : Ends} (hs : X.stack = X.env :: X.outer) (hf : X.env.frame = some X.env.locals) (hex : X.ex = []) (hN : X.N.Nodup) (hi : X.N[i]? = some n) (hln : X.env.kindOf n = some .local) (hc : Names X x c) (tk : L2.Takes X Wout)
    (hsu : ∀ (a : Addr) (pn : List (Addr × Obj)), PSs (X.suite a pn) (st0 :: suite) (ts a)) (ok : X.Ok) {u : Value} {s' : Shared} {xe : Value → Shared → Prop} {pn : List (Addr × Obj)} (hpn : pn = X.pn ++ pins) (air : L2.XE (X.tr pn xe) (wKpZ X.K c i ts Wout D) u s') :
    wpAny (model X.prog X.w) X.A (noteFrame u X.env) (fun _ s₂ => wpAny (model X.prog X.w) X.A (setFlight u none) (fun _ s₃ =>
      wpAny (model X.prog X.w) X.A (handleBy u X.env [.ExceptHandler (some (.Name x np)) (some n) (st0 :: suite) pos']) (SP X pins D) X.xe s₃) X.xe s₂) X.xe s' := by
  subst hpn
  obtain ⟨a, B, sI, pins', σ', H', cls, d, eu, J0, nb, up, sky, na, hos, hag, b, hb1, hno, hyes⟩ := air
  subst eu
  have frames : X.A.frames = some (X.env :: X.outer) := ok.frames.trans (congrArg some hs)
  have J : Inv X pins σ' H' sI := J0.ofTry ok
  refine L2.Sky.land Zc.steady frames hf (hs ▸ sky) fun g fl upg => ?_
  have Jg : Inv X pins σ' H' { s' with heap := g } := J.landed nb fl.1 (up.trans upg) hos hag
  obtain ⟨og, vg, eg, zg, dg⟩ := fl.there
  -- the exception is no frame, no cell, no pin, and new
  have noFrame : a ∉ frs (X.env :: X.outer) := fun hm => by
    obtain ⟨_, o2, e2, hnf⟩ := fl.2.2.1.mem hm
    cases Option.some.inj (e2.symm.trans eg)
    exact hnf _ dg
  have nLoc : a ≠ X.env.locals := fun z => noFrame (List.mem_filterMap.mpr ⟨X.env, List.mem_cons_self .., by rw [hf, z]⟩)
  have nI : sI.heap.get? a = none := by
    rcases e : sI.heap.get? a with _ | o2
    · rfl
    · have z := nb a o2 e (by rw [hs]; exact noFrame)
      rw [fl.2.1] at z
      cases z
  have n0 : X.s_0.heap.get? a = none := by
    rcases e : X.s_0.heap.get? a with _ | o2
    · rfl
    · obtain ⟨o3, e3⟩ := J.base.there a o2 e (by rw [hex]; exact fun z => nomatch z)
      rw [nI] at e3
      cases e3
  have nCell : ∀ y c', X.env.cells.lookup y = some c' → c' ≠ a := fun y c' e z => by
    obtain ⟨v, o2, e2, _⟩ := J.cell y c' e
    rw [z, nI] at e2
    cases e2
  have nPin : ∀ p ∈ X.pn ++ pins, p.1 ≠ a := fun p hp z => by
    have e2 := (J.pin p hp).1
    rw [z, nI] at e2
    cases e2
  have known : PySem.W.Looks (model X.prog X.w) g (typeOf (.ref a)) cls := fun _ _ _ _ k q => wpAny_typeOf_ref (k _ _ eg) (by rw [zg.1]; exact q)
  have told := PySem.W.exm_one (M := model X.prog X.w) Jg.kIn known hb1
  have named : ∀ {Q : Value → Shared → Prop} {E : Value → Shared → Prop}, Q c { s' with heap := g } → wpAny (model X.prog X.w) (X.A.mark (some (.ref a))) (eval (.Name x np) X.env) Q E { s' with heap := g } := fun {Q E} q => by
    obtain ⟨hg, hdb, hm⟩ := hc
    rcases hm with hm | ⟨hm, hv, hne⟩
    · exact ld_glob (X := X.suite a (X.pn ++ pins)) (Inv.inSuite Jg a) hg hm q hdb
    · exact ld_blt (X := X.suite a (X.pn ++ pins)) (Inv.inSuite Jg a) hg hm hv q hne hdb
  refine wpAny_handleBy_cons (codeAny_handlers_test (named (told.here ?_))) (fun q => nomatch q)
  match b, hno, hyes with
  | true, _, hyes =>
    refine codeAny_handlers_suite_as (HandSPX.lands_againZ fl fun g2 fl2 up2 => ?_)
    have J2 : Inv X pins σ' H' { s' with heap := g2 } := J.landed nb fl2.1 ((up.trans upg).trans up2) hos hag
    obtain ⟨o2, v2, e2, z2, d2⟩ := fl2.there
    have T2 := Inv.inSuite (Inv.track (o := Pin a o2) J2 n0 na (pin_ok e2) nLoc nCell nPin) a
    refine store_ok (X := X.suite a (X.pn ++ pins)) (v := .ref a) T2 hN hi (.inl hln) rfl (fun s5 T5 => ?_) (.inr hln)
    refine wpAny_mono ((hsu a (X.pn ++ pins)).run [] s5 _ _ _ T5 (hyes rfl a o2 v2 na z2.1 z2.2 d2)) (fun f s6 q6 => ?_) fun _ _ z => z.elim
    have close : ∀ {σ6 : L2.St} {H6 : Hp} {R : Shared → Prop}, Inv (X.suite a (X.pn ++ pins)) [] σ6 H6 s6 → (∀ s7, Inv X pins (σ6.set i none) H6 s7 → R s7) → wpAny (model X.prog X.w) X.A (do bindName X.env n .none; unbindBehindTheSuite X.env n pos') (fun _ s7 => R s7) X.xe s6 :=
      fun {_ _ _} T6 k => gone_ok (Inv.outSuite T6 ok) hN hi hln k
    match f, q6 with
    | .next, ⟨_, _, T6, r6⟩ => exact close T6 fun _ J7 => ⟨_, _, J7, r6⟩
    | .brk, ⟨_, _, T6, r6⟩ => exact close T6 fun _ J7 => ⟨_, _, J7, r6⟩
    | .cont, ⟨_, _, T6, r6⟩ => exact close T6 fun _ J7 => ⟨_, _, J7, r6⟩
    | .ret _, ⟨_, _, _, T6, v6, r6⟩ => exact close T6 fun _ J7 => ⟨_, _, _, J7, v6, r6⟩
  | false, hno, _ =>
    refine wpAny_handleBy_nil ?_
    obtain ⟨_, _, _, o3, v3, T3, oT, ts', e3, _, d3, t3, _⟩ := id fl
    unfold PySem.passOn
    refine wpAny_bind (wpAny_field e3 d3 t3 ?_)
    rw [if_neg (fun z => by simp at z)]
    have away : wpAny (model X.prog X.w) X.A (setFlight (.ref a) X.env.frame) (fun _ s4 => wpAny (model X.prog X.w) X.A (throw (.ref a) : Sem Flow) (SP X pins D) X.xe s4) X.xe { s' with heap := g } := by
      rw [hf]
      exact HandSPX.setFlight_upZ fl fun g2 held up2 => wpAny_throw (tk _ _ ⟨a, B, sI, pins, σ', H', cls, d, rfl, J, nb, (up.trans upg).trans up2, .inr (.inr (hs ▸ held)), na, hos, hag, hno rfl⟩)
    first
      | exact wpAny_bind away
      | exact wpAny_bind (wpAny_pure (wpAny_bind away))
/-- try: body, except x as n: suite; the exception stays a value -/
theorem ps_try_keptZ (hs : X.stack = X.env :: X.outer) (hf : X.env.frame = some X.env.locals) (hex : X.ex = []) (hN : X.N.Nodup) (hi : X.N[i]? = some n) (hln : X.env.kindOf n = some .local) (hc : Names X x c) (tk : L2.Takes X Wout)
    (hb : ∀ (W : WX) (pn : List (Addr × Obj)) (xe : Value → Shared → Prop), L2.Takes (X.tr pn xe) W → PassesOwn (model X.prog X.w) X.A X.env xe → PSs (X.tr pn xe) body (tb W)) (hsu : ∀ (a : Addr) (pn : List (Addr × Obj)), PSs (X.suite a pn) (st0 :: suite) (ts a)) :
    PS X (.Try body [.ExceptHandler (some (.Name x np)) (some n) (st0 :: suite) pos'] [] [] pos) (fun D σ H => tb (wKpZ X.K c i ts Wout D) D σ H) :=
  ⟨fun pins s σ H D I h => wpAny_Try_except (wpAny_mono ((hb (wKpZ X.K c i ts Wout D) (X.pn ++ pins) _ (fun _ _ air => land_catchZ (pins := pins) hs hf hex hN hi hln hc tk hsu I.ok rfl air) PassesOwn.looking).run [] s σ H D (I.toTry _) h)
    (fun f s1 q => by
      match f, q with
      | .next, ⟨_, _, J, r⟩ => exact wpAny_execs_nil ⟨_, _, J.ofTry I.ok, r⟩
      | .brk, ⟨_, _, J, r⟩ => exact ⟨_, _, J.ofTry I.ok, r⟩
      | .cont, ⟨_, _, J, r⟩ => exact ⟨_, _, J.ofTry I.ok, r⟩
      | .ret _, ⟨_, _, _, J, v, r⟩ => exact ⟨_, _, _, J.ofTry I.ok, v, r⟩) fun _ _ z => z)⟩
end
theorem caughtZ {H : Hp} {a C dd : Addr} {v : V} {oe : Obj} {vs : Array Value} (na : H a = none) (hc : oe.cls = .ref C) (hx : oe.dict = some dd) (hd : oe.data = .fields vs) (hdd : H dd = some (.xd [("value", v)])) : Exd (upd H a (Pin a oe)) a C dd [("value", v)] :=
  ⟨⟨oe, vs, upd_same, hc, hx, hd⟩, by rw [upd_ne (ne_of_none hdd na)]; exact hdd⟩
theorem takesZ0 {X : Cx} : L2.Takes X (fun _ _ _ _ => False) := fun _ _ x => by
  obtain ⟨_, _, _, _, _, _, _, _, _, _, _, _, _, _, _, _, z⟩ := x
  exact z.elim
section
variable {P : Program} {w : World} {K : PySem.W.Frag} {mg : Str → Option Value} {base : Heap}
/-- a def that lets out exceptions of which class and dict are known -/
theorem okZ {x qual : Str} {st : Stmt} {f : Addr} {fd : FuncData} {N ps : List Str} {k : Nat} {sp : Sp} (F : Fun K x qual st f fd) (S : FnScope N ps (defScope st)) (len : ∀ vs H Q E, sp vs H Q E → vs.length = ps.length)
    (body : ∀ (cdv : Value) (A : Around) (outer : List Env) (s : Shared) (H : Hp) (vs : List V) (Q : VK) (E : XK), Room k (A.deeper (envOfC qual (defScope st) s.heap.objs.size f cdv)) → sp vs H Q E →
      ∃ t, PSs (cxOf (L2.CX P w) P w K mg base N qual (defScope st) f cdv A outer s H E) (defBody st) t ∧ t { rt := Q, nx := fun _ H' => Q .non H' } (L2.start N vs) H) : FnOk P w K mg base (L2.CX P w) (k + 1) f fd ps sp := by
  obtain ⟨oc, od, kV, doc, pm, an, cdv, ct, osl, rfl, lk, hcd⟩ := F.ex
  exact fn_of lk hcd S len fun A outer s H vs Q E => body cdv A outer s H vs Q E
end
end Mc
namespace Mc
open PySem PySem.Spec PyProof.Rows L2 Evl
/-! ### methods, classes and classmethods, called where what they raise hangs on the slots -/
abbrev MethForm (X : Cx) (o : Expr) (m : Str) (apos pos : Pos) (args : List Expr) (kws : List Keyword) (pl : Sem Bool) : Prop :=
  eval (.Call (.Attribute o m apos) args kws pos) X.env = (do let ov ← eval o X.env; standAt apos.atName; let (f, first) ← holding [ov] (getMethod ov m pl); callWith pos f first (backTo pos (starEach args X.env)) (backToKw pos (keywordEach kws X.env)))
section
variable {X : Cx} {CX : CXT} {k n : Nat} {f C : Addr} {fd : FuncData} {ps ks : List Str} {sp : Sp} {E : L2.St → XK} {E1 : XK} {m x : Str} {p pos apos : Pos} {e o : Expr} {es : List Expr} {kws : List Keyword} {ta te tl : TE} {t tk : TA} {gg : List Value → List Value → List Value} {gV : List V → List V → List V} {pl : Sem Bool}
def tMethT (C : Addr) (m : Str) (sp : Sp) (E : L2.St → XK) (ta : TE) (t : TA) : TE := fun σ H Q => ta σ H fun x H1 => ∃ a dx fs, x = .ref a ∧ H1 a = some (.ins C dx fs) ∧ fs.lookup m = none ∧ t σ H1 fun vs H2 => sp (x :: vs) H2 Q (E σ)
theorem pe_methT0 (he : PE X o ta) (c : Cls X.K C) (hm : Meth X.K C m f) (F : FnOk X.prog X.w X.K X.mg X.base CX k f fd ps sp) (hr : Room k X.A) (hb : Binds X.K fd ps []) (hx : ∀ σ, PassesAt CX X σ (E σ)) (ht : MethForm X o m apos pos [] [] pl := by rfl) :
    PE X (.Call (.Attribute o m apos) [] [] pos) (tMethT C m sp E ta tNil) := by
  constructor
  intro pins s σ H Q I h
  refine PySem.W.methodCall_KW (pl := pl) (thn (he.run pins s σ H _ I h) fun u s1 ⟨y, H1, I1, ry, a, dx, fs, ey, ea, l, q⟩ => ?_) ht
  cases ey; cases ry
  exact getmeth_ok I1 ea c hm l (PySem.W.callWith_K0 (first := [.ref a]) I1.kIn hm.kp (run_fnS (us := [.ref a]) (vs := [.ref a]) F hr hb (hx σ) I1 (.cons rfl .nil) q))
theorem pe_methT (he : PE X o ta) (c : Cls X.K C) (hm : Meth X.K C m f) (F : FnOk X.prog X.w X.K X.mg X.base CX k f fd ps sp) (hr : Room k X.A) (hb : Binds X.K fd ps []) (hx : ∀ σ, PassesAt CX X σ (E σ)) (ha : PA X (e :: es) t)
    (h1 : starEach (e :: es) X.env = (false, eval e X.env) :: starEach es X.env := by rfl) (h2 : (backTo pos (starEach es X.env)).any (·.1) = false := by rfl) (ht : MethForm X o m apos pos (e :: es) [] pl := by rfl) :
    PE X (.Call (.Attribute o m apos) (e :: es) [] pos) (tMethT C m sp E ta t) := by
  constructor
  intro pins s σ H Q I h
  refine PySem.W.methodCall_KW (pl := pl) (thn (he.run pins s σ H _ I h) fun u s1 ⟨y, H1, I1, ry, a, dx, fs, ey, ea, l, q⟩ => ?_) ht
  cases ey; cases ry
  refine getmeth_ok I1 ea c hm l (PySem.W.callWith_K (first := [.ref a]) (h₀ := X.base) I.ok.mod.kin hm.kp (thn (ha.run pos pins s1 σ H1 _ I1 q) fun ws s2 ⟨vs, H2, I2, r, want⟩ => ⟨I2.kIn, ?_⟩) h1 h2)
  exact run_fnS (us := .ref a :: ws) (vs := .ref a :: vs) F hr hb (hx σ) I2 (.cons rfl r) want
def tMethTK (C : Addr) (m : Str) (n : Nat) (sp : Sp) (gV : List V → List V → List V) (E : L2.St → XK) (ta : TE) (tk : TA) : TE := fun σ H Q => ta σ H fun x H1 => ∃ a dx fs, x = .ref a ∧ H1 a = some (.ins C dx fs) ∧ fs.lookup m = none ∧ tk σ H1 fun zs H2 => zs.length = n ∧ sp (gV [x] zs) H2 Q (E σ)
/-- o.m(k = v, ..) -/
theorem pe_methTK (he : PE X o ta) (c : Cls X.K C) (hm : Meth X.K C m f) (F : FnOk X.prog X.w X.K X.mg X.base CX k f fd ps sp) (hr : Room k X.A) (hb : KBn X.K fd ps 1 ks gg gV) (hx : ∀ σ, PassesAt CX X σ (E σ)) (hkw : PK X kws tk)
    (hsome : (backToKw pos (keywordEach kws X.env)).all (·.1.isSome) = true := by rfl) (hnames : (backToKw pos (keywordEach kws X.env)).filterMap (·.1) = ks := by rfl)
    (hplain : ((backTo pos (starEach [] X.env)).any (·.1) || (backToKw pos (keywordEach kws X.env)).any (·.1.isNone)) = false := by rfl) (ht : MethForm X o m apos pos [] kws pl := by rfl) :
    PE X (.Call (.Attribute o m apos) [] kws pos) (tMethTK C m ks.length sp gV E ta tk) := by
  constructor
  intro pins s σ H Q I h
  refine PySem.W.methodCall_KW (pl := pl) (thn (he.run pins s σ H _ I h) fun u s1 ⟨y, H1, I1, ry, a, dx, fs, ey, ea, l, q⟩ => ?_) ht
  cases ey; cases ry
  refine getmeth_ok I1 ea c hm l (PySem.W.callWith_KW0 (first := [.ref a]) (h₀ := X.base) I.ok.mod.kin hm.kp hsome (thn (hkw.run pos pins s1 σ H1 _ I1 q) fun ws s2 ⟨zs, H2, I2, rz, lz, want⟩ => ⟨I2.kIn, ?_⟩) hplain)
  rw [hnames]
  exact run_fnNS (us := [.ref a]) (vs := [.ref a]) F hr hb (hx σ) I2 (.cons rfl .nil) rz rfl lz want
/-- C(e, ..) -/
def tMakeT (C : Addr) (sp : Sp) (E : L2.St → XK) (t : TA) : TE := fun σ H Q => t σ H fun vs H1 => ∀ x dx, H1 x = none → H1 dx = none → dx ≠ x → sp (.ref x :: vs) (upd (upd H1 dx (.own x)) x (.ins C dx [])) (fun v H2 => v = .non ∧ Q (.ref x) H2) (E σ)
theorem pe_makeT (M : Mk X.K C f) (F : FnOk X.prog X.w X.K X.mg X.base CX k f fd ps sp) (hr : Room (k + 1) X.A) (hg : Gl X x) (hm : X.mg x = some (.ref C)) (hb : Binds X.K fd ps []) (hx : ∀ σ, PassesAt CX X σ (E σ)) (ha : PA X (e :: es) t)
    (hdb : (x == ("__debug__" : Str)) = false := by decide) (h1 : starEach (e :: es) X.env = (false, eval e X.env) :: starEach es X.env := by rfl) (h2 : (backTo pos (starEach es X.env)).any (·.1) = false := by rfl) :
    PE X (.Call (.Name x p) (e :: es) [] pos) (tMakeT C sp E t) := by
  constructor
  intro pins s σ H Q I h
  refine wpAny_Call_Name_kw (ld_glob I hg hm (PySem.W.callWith_K (h₀ := X.base) I.ok.mod.kin M.kp (thn (ha.run pos pins s σ H _ I h) fun us s1 ⟨vs, H1, I1, r, q⟩ => ⟨I1.kIn, ?_⟩) h1 h2) hdb)
  have want := q (s1.heap.objs.size + 1) s1.heap.objs.size (I1.hok.fresh (Nat.le_succ _)) (I1.hok.fresh (Nat.le_refl _)) (Nat.ne_of_lt (Nat.lt_succ_self _))
  have J := Inv.made (C := C) I1
  have r2 : Vals (V.ref (s1.heap.objs.size + 1) :: vs) (Value.ref (s1.heap.objs.size + 1) :: us) := .cons rfl r
  have bd := hb _ (Value.ref (s1.heap.objs.size + 1) :: us) J.kIn (by rw [List.append_nil]; exact r2.length.symm.trans (F.len _ _ _ _ want))
  rw [List.append_nil] at bd
  refine wpAny_call (make_map (f := f) I1.kIn M.makes M.init (beq_iff_eq.mp M.fn) (codeAny_mono (F.run _ X.stack _ _ ⟨Value.ref (s1.heap.objs.size + 1) :: us, []⟩ (Value.ref (s1.heap.objs.size + 1) :: us) _ _ (E σ) (hr.make C us []) (J.env0.make C us []) bd r2 want) fun out s2 z => ?_))
  match out, z with
  | .error e, z => exact hx σ pins _ _ e s2 J z
  | .ok (.ret u), z =>
    obtain ⟨v, H2, J2, rv, ev, q2⟩ := J.after z
    subst ev
    exact ⟨rv, V.ref (s1.heap.objs.size + 1), H2, J2, rfl, q2⟩
  | .ok .next, z => exact False.elim z
  | .ok .brk, z => exact False.elim z
  | .ok .cont, z => exact False.elim z
/-- y(e, ..), y a name whose value is the class at C -/
theorem pe_makeV (hn : PE X (.Name x p) te) (M : Mk X.K C f) (F : FnOk X.prog X.w X.K X.mg X.base CX k f fd ps sp) (hr : Room (k + 1) X.A) (hb : Binds X.K fd ps []) (hx : Passes CX X E1) (ha : PA X (e :: es) t)
    (hdb : (x == ("__debug__" : Str)) = false := by decide) (h1 : starEach (e :: es) X.env = (false, eval e X.env) :: starEach es X.env := by rfl) (h2 : (backTo pos (starEach es X.env)).any (·.1) = false := by rfl) :
    PE X (.Call (.Name x p) (e :: es) [] pos) (fun σ H Q => te σ H fun y H1 => y = .ref C ∧ tMake C sp [] E1 t σ H1 Q) := by
  constructor
  intro pins s σ H Q I h
  refine wpAny_Call_Name_kw (thn (hn.run pins s σ H _ I h) fun u s0 ⟨y, H0, I0, ry, ey, h0⟩ => ?_)
  cases ey; cases ry
  exact PySem.W.callWith_K (h₀ := X.base) I.ok.mod.kin M.kp (thn (ha.run pos pins s0 σ H0 _ I0 h0) fun us s1 ⟨vs, H1, I1, r, q⟩ => ⟨I1.kIn, run_make M F hr hb .nil hx I1 r q⟩) h1 h2
/-- o.m( *e), e a list or a tuple -/
def tMethSA (K : PySem.W.Frag) (C : Addr) (m : Str) (g : Addr) (sp : Sp) (E1 : XK) (ta te : TE) : TE := fun σ H Q => ta σ H fun x H1 => ∃ a dx fs, x = .ref a ∧ H1 a = some (.ins C dx fs) ∧ fs.lookup m = none ∧
  ∀ q, H1 q = none → te σ (upd H1 q (.met g a)) fun y H2 => ∃ b vs, y = .ref b ∧ (SqT K H2 b vs ∨ SqL K H2 b vs) ∧ H2 q = some (.met g a) ∧ sp (.ref a :: vs) H2 Q E1
theorem pe_methSA {g : Addr} (he : PE X o ta) (c : Cls X.K C) (b : BMeth X.K C m g) (F : FnR X.prog X.w X.K X.mg X.base CX k g sp) (hr : Room k X.A) (hx : Passes CX X E1) (ha : PE X e te) (hbase : attributeBase o m X.env (eval o X.env) = eval o X.env := by rfl) :
    PE X (.Call (.Attribute o m apos) [.Starred e p] [] pos) (tMethSA X.K C m g sp E1 ta te) := by
  constructor
  intro pins s σ H Q I h
  refine starcall_of hbase (thn (he.run pins s σ H _ I h) fun u s1 ⟨y, H1, I1, ry, a, dx, fs, ey, ea, l, q⟩ => ?_)
  cases ey; cases ry
  refine getbound_ok I1 ea c b l fun r s2 nr I2 => PySem.W.ks_call (P := PySem.W.MethP X.K r g (.ref a)) rfl (PySem.W.keeps_M b.fi) (PySem.W.ks_lone (thn (ha.run pins s2 σ _ _ I2 (q r nr)) fun v s3 ⟨z, H2, I3, rz, tp, vs, ez, ht, hm, want⟩ => ?_))
  cases ez; cases rz
  exact StX.star_any I3 ht fun us s4 I4 rv => ⟨met_P I4 hm, wpAny_call (PySem.W.method_call (met_P I4 hm).1 (run_fnR (us := Value.ref a :: us) (vs := V.ref a :: vs) F hr hx I4 (.cons rfl rv) want))⟩
end
section
variable {X : Cx} {CX : CXT} {k : Nat} {C g c0 : Addr} {mc : Value} {fd : FuncData} {ps ks : List Str} {sp : Sp} {E : L2.St → XK} {E1 : XK} {m : Str} {pos apos : Pos} {e o : Expr} {es : List Expr} {kws : List Keyword} {ta : TE} {t tk : TA} {gg : List Value → List Value → List Value} {gV : List V → List V → List V} {pl : Sem Bool}
/-- the call of a classmethod's record -/
theorem run_cmT {pins : List (Addr × Obj)} {σ : L2.St} {H : Hp} {s : Shared} {q : Addr} {Ex1 : XK} {Q : VK} {us all : List Value} {kw : List (Str × Value)} {vs : List V} (F : FnOk X.prog X.w X.K X.mg X.base CX k g fd ps sp) (hr : Room k X.A) (hx : PassesAt CX X σ Ex1) (I : Inv X ((q, PySem.W.methodObj (.ref g) (.ref C)) :: pins) σ H s)
    (bd : BindsTo s fd ⟨.ref C :: us, kw⟩ (ps.zip all)) (r : Vals vs all) (h : sp vs H Q Ex1) : wpAny (model X.prog X.w) X.A (call (.ref q) us kw) (EP X pins σ Q) X.xe s := by
  refine wpAny_call (PySem.W.method_call (ClX.pin_at I) (codeAny_mono (F.run X.A X.stack s H ⟨.ref C :: us, kw⟩ all vs Q Ex1 hr I.env0 bd r h) fun out s2 z => ?_))
  match out, z with
  | .error e, z => exact hx pins H s e s2 (ClX.unpin I) z
  | .ok (.ret u), z => exact ClX.unpinE (I.after z)
  | .ok .next, z => exact False.elim z
  | .ok .brk, z => exact False.elim z
  | .ok .cont, z => exact False.elim z
def tCMethT (C : Addr) (sp : Sp) (E : L2.St → XK) (ta : TE) (t : TA) : TE := fun σ H Q => ta σ H fun x H1 => x = .ref C ∧ t σ H1 fun vs H2 => sp (.ref C :: vs) H2 Q (E σ)
/-- C.m(e, ..) -/
theorem pe_cmethT (he : PE X o ta) (r : ClX.CRead X.K C mc) (c : ClX.CMet X.K C mc m c0 g) (F : FnOk X.prog X.w X.K X.mg X.base CX k g fd ps sp) (hr : Room k X.A) (hb : Binds X.K fd ps []) (hx : ∀ σ, PassesAt CX X σ (E σ)) (ha : PA X (e :: es) t)
    (h1 : starEach (e :: es) X.env = (false, eval e X.env) :: starEach es X.env := by rfl) (h2 : (backTo pos (starEach es X.env)).any (·.1) = false := by rfl) (ht : MethForm X o m apos pos (e :: es) [] pl := by rfl) :
    PE X (.Call (.Attribute o m apos) (e :: es) [] pos) (tCMethT C sp E ta t) := by
  constructor
  intro pins s σ H Q I h
  refine PySem.W.methodCall_KW (pl := pl) (thn (he.run pins s σ H _ I h) fun u s1 ⟨y, H1, I1, ry, ey, q⟩ => ?_) ht
  cases ey; cases ry
  refine ClX.getmethcm_ok I1 r c fun s2 I2 => ClX.callwith_cm I2 (ClX.base_none I1 (Nat.le_refl _)) c.fi (thn (ha.run pos _ s2 σ H1 _ I2 q) fun us s3 ⟨vs, H2, I3, rv, want⟩ => ⟨⟨ClX.pin_at I3, I3.kIn⟩, ?_⟩) h1 h2
  have r2 : Vals (V.ref C :: vs) (Value.ref C :: us) := .cons rfl rv
  have bd := hb s3 (Value.ref C :: us) I3.kIn (by rw [List.append_nil]; exact r2.length.symm.trans (F.len _ _ _ _ want))
  rw [List.append_nil] at bd
  exact run_cmT F hr (hx σ) I3 bd r2 want
def tCMethTK (C : Addr) (n : Nat) (sp : Sp) (gV : List V → List V → List V) (E : L2.St → XK) (ta : TE) (tk : TA) : TE := fun σ H Q => ta σ H fun x H1 => x = .ref C ∧ tk σ H1 fun zs H2 => zs.length = n ∧ sp (gV [.ref C] zs) H2 Q (E σ)
/-- C.m(k = v, ..) -/
theorem pe_cmethTK (he : PE X o ta) (r : ClX.CRead X.K C mc) (c : ClX.CMet X.K C mc m c0 g) (F : FnOk X.prog X.w X.K X.mg X.base CX k g fd ps sp) (hr : Room k X.A) (hb : KBn X.K fd ps 1 ks gg gV) (hx : ∀ σ, PassesAt CX X σ (E σ)) (hkw : PK X kws tk)
    (hsome : (backToKw pos (keywordEach kws X.env)).all (·.1.isSome) = true := by rfl) (hnames : (backToKw pos (keywordEach kws X.env)).filterMap (·.1) = ks := by rfl)
    (hplain : ((backTo pos (starEach [] X.env)).any (·.1) || (backToKw pos (keywordEach kws X.env)).any (·.1.isNone)) = false := by rfl) (ht : MethForm X o m apos pos [] kws pl := by rfl) :
    PE X (.Call (.Attribute o m apos) [] kws pos) (tCMethTK C ks.length sp gV E ta tk) := by
  constructor
  intro pins s σ H Q I h
  refine PySem.W.methodCall_KW (pl := pl) (thn (he.run pins s σ H _ I h) fun u s1 ⟨y, H1, I1, ry, ey, q⟩ => ?_) ht
  cases ey; cases ry
  refine ClX.getmethcm_ok I1 r c fun s2 I2 => PySem.W.callWith_of (P := PySem.W.MethP X.K s1.heap.objs.size g (.ref C)) hplain (PySem.W.keeps_M c.fi) (PyProof.Rows.evalArgs_kw2_nil hsome (thn (hkw.run pos _ s2 σ H1 _ I2 q) fun ws s3 ⟨zs, H2, I3, rz, lz, want⟩ => ⟨⟨ClX.pin_at I3, I3.kIn⟩, ?_⟩))
  rw [hnames]
  exact run_cmT (us := []) F hr (hx σ) I3 (hb.to s3 [.ref C] ws I3.kIn rfl (rz.length.symm.trans lz)) (hb.rel (vs := [.ref C]) (us := [.ref C]) (.cons rfl .nil) rz) want
end
theorem passAt0 {X : Cx} {σ : L2.St} : PassesAt CX0 X σ (fun _ _ _ => False) := fun _ _ _ _ _ _ h => h.elim
theorem passAtC0 {X : Cx} {σ : L2.St} : PassesAt (L2.CX X.prog X.w) X σ (fun _ _ _ => False) := fun _ _ _ _ _ _ h => by
  obtain ⟨_, _, _, _, _, _, _, _, _, _, _, _, z⟩ := h
  exact z.elim
/-! ### xs.count(y), flat items -/
def rCountF (K : PySem.W.Frag) : V → List V → Hp → VK → Prop := fun x xs H Q => ∃ (a : Addr) (ys : List V) (y : V), x = .ref a ∧ xs = [y] ∧ SqL K H a ys ∧ flatV y = true ∧ ys.all flatV = true ∧ Q (.int ((ys.countP fun z => eqV z y : Nat) : Int)) H
theorem count_flat {y : V} : ∀ {ys : List V} {us : List Value}, Vals ys us → ys.all flatV = true → us.countP (eqU y) = ys.countP fun z => eqV z y
  | _, _, .nil, _ => rfl
  | z :: zs, u :: us, .cons r t, f => by
    rw [List.all_cons, Bool.and_eq_true] at f
    rw [List.countP_cons, List.countP_cons, count_flat t f.2, eqU_of r f.1]
theorem mt_countF {X : Cx} : MtR X "list.count" (rCountF X.K) := by
  intro pins s σ H x xs v us Q I rx rxs h
  obtain ⟨a, ys, y, rfl, rfl, hs, fy, fys, q⟩ := h
  cases rx
  obtain ⟨u, rfl, ru⟩ := rxs.one
  obtain ⟨its, rv, ⟨⟨oc, od, dt, sl⟩, n, ho, hc, _, hd⟩, hlen⟩ := I.list hs
  simp only at hc hd
  subst hc hd
  refine call_meets PySem.F.slot_list_count ⟨_, ho, rfl⟩ PySem.F.entry_list_count (PySem.F.args_list_count_2 _ _) (SeqAt.list_countAt a its.toArray n od sl u (eqU y)) ⟨ho, fun w hw => mem_eqAt ru fy rv fys w (by simpa using hw), ?_⟩
  have e : its.toArray.toList.countP (eqU y) = ys.countP fun z => eqV z y := count_flat rv fys
  exact ⟨.int ((ys.countP fun z => eqV z y : Nat) : Int), H, I.tok _, ⟨s.toks, by rw [e]⟩, q⟩
end Mc
namespace GenFz
open PySem
open Sem (wp)
/-! ### sleeping generators stay as they are -/
/-- where a generator sleeps, no other generator's frame stands -/
def NG (fs : List Frame) : Prop := splitAtGen fs = none
theorem NG.nil : NG [] := rfl
theorem NG.one {k h g l c p kp} : NG [Frame.ret k h g l c p kp] := rfl
theorem NG.app : ∀ {fs gs : List Frame}, NG fs → NG gs → NG (fs ++ gs)
  | [], _, _, b => b
  | .gen .. :: _, _, a, _ => by cases a
  | .ret k h g l c p kp :: fs, gs, a, b => by
    have ha : NG fs := by
      have z : (splitAtGen fs).map _ = none := a
      cases e : splitAtGen fs with
      | none => exact e
      | some x => rw [e] at z; cases z
    have q := NG.app (gs := gs) ha b
    show (splitAtGen (fs ++ gs)).map _ = none
    rw [show splitAtGen (fs ++ gs) = none from q]; rfl
theorem NG.tail {F : Frame} {fs : List Frame} (h : NG (F :: fs)) : NG fs := by
  cases F with
  | gen => cases h
  | ret k h' g l c p kp =>
    have z : (splitAtGen fs).map _ = none := h
    cases e : splitAtGen fs with
    | none => exact e
    | some x => rw [e] at z; cases z
/-- what stands ahead of the first such frame -/
theorem NG.pre : ∀ {fs pre rest : List Frame} {b}, splitAtGen fs = some (pre, b, rest) → NG pre
  | [], _, _, _, h => by cases h
  | .gen g k l c p :: fs, pre, rest, b, h => by
    have z : some (([] : List Frame), (g, k, c, p), fs) = some (pre, b, rest) := h
    cases z; rfl
  | .ret k h' g l c p kp :: fs, pre, rest, b, h => by
    have z : (splitAtGen fs).map (fun (x : List Frame × _ × List Frame) => (Frame.ret k h' g l c p kp :: x.1, x.2.1, x.2.2)) = some (pre, b, rest) := h
    cases e : splitAtGen fs with
    | none => rw [e] at z; cases z
    | some x =>
      obtain ⟨p0, b0, r0⟩ := x
      rw [e] at z
      cases z
      have q := NG.pre e
      show (splitAtGen p0).map _ = none
      rw [show splitAtGen p0 = none from q]; rfl
/-- how a run ends -/
def NGe : End → Prop
  | .susp _ _ _ _ _ _ fs => NG fs
  | _ => True
theorem runs_ng {M : Model} {Γ : Ctx} {p : Pos} {t : Sem PySem.Fin} {fs : List Frame} {s s' : Shared} {e : End} (h : Runs M Γ p t fs s e s') : NGe e := by
  induction h with
  | done => trivial
  | raise => trivial
  | yield => exact NG.nil
  | callSusp _ ih => exact NG.app ih NG.one
  | segSuspOut hs _ ih => exact NG.app ih hs
  | _ => assumption
def Clean : GenState → Prop
  | .suspended _ _ _ _ fs _ => NG fs
  | _ => True
theorem clean_end {e : End} (h : NGe e) : Clean e.genState := by
  cases e with
  | ret => trivial
  | susp => exact h
/-- asleep for good; gl: a word that is left with it -/
def stk (gl : List Value) : GenState → GenState
  | .suspended _ _ c p fs cl => .suspended (fun _ => .unsupported "asleep") gl c p fs cl
  | x => x
def Sus : GenState → Prop
  | .suspended .. => True
  | _ => False
theorem stk_seen (gl : List Value) (x : GenState) : (stk gl x).seen = x.seen := by cases x <;> rfl
theorem stk_bare (gl : List Value) (x : GenState) : (stk gl x).bare = x.bare := by cases x <;> rfl
theorem no_unsup {M : Model} {Γ : Ctx} {p : Pos} {t : Sem PySem.Fin} {fs : List Frame} {s s' : Shared} {e : End} {w : String} (h : Runs M Γ p t fs s e s') : t ≠ .unsupported w := by
  induction h <;> first | assumption | (intro z; cases z)
/-- the generators of S stand still: as they are in B, asleep for good in A; all else is the same -/
structure Rz (gl : List Value) (S : Nat → Option GenState) (A B : Array GenState) : Prop where
  size : A.size = B.size
  fz : ∀ i x, S i = some x → Sus x ∧ A[i]? = some (stk gl x) ∧ B[i]? = some x
  eq : ∀ i, S i = none → A[i]? = B[i]?
  cl : ∀ i x, S i = none → A[i]? = some x → Clean x
theorem Rz.set {gl : List Value} {S : Nat → Option GenState} {A B : Array GenState} {g : Nat} {y : GenState} (h : Rz gl S A B) (n : S g = none) (c : Clean y) : Rz gl S (A.setIfInBounds g y) (B.setIfInBounds g y) := by
  refine ⟨by rw [Array.size_setIfInBounds, Array.size_setIfInBounds, h.size], fun i x hi => ?_, fun i hi => ?_, fun i x hi hx => ?_⟩
  · have ne : g ≠ i := fun z => by rw [z, hi] at n; cases n
    rw [Array.getElem?_setIfInBounds_ne ne, Array.getElem?_setIfInBounds_ne ne]
    exact h.fz i x hi
  · by_cases ne : g = i
    · subst ne
      rw [Array.getElem?_setIfInBounds, Array.getElem?_setIfInBounds, h.size, if_pos rfl, if_pos rfl]
    · rw [Array.getElem?_setIfInBounds_ne ne, Array.getElem?_setIfInBounds_ne ne]
      exact h.eq i hi
  · by_cases ne : g = i
    · subst ne
      rw [Array.getElem?_setIfInBounds, if_pos rfl] at hx
      split at hx
      · cases hx; exact c
      · cases hx
    · rw [Array.getElem?_setIfInBounds_ne ne] at hx
      exact h.cl i x hi hx
theorem Rz.push {gl : List Value} {S : Nat → Option GenState} {A B : Array GenState} {c : Code} (h : Rz gl S A B) : Rz gl S (A.push (.fresh c)) (B.push (.fresh c)) := by
  refine ⟨by rw [Array.size_push, Array.size_push, h.size], fun i x hi => ?_, fun i hi => ?_, fun i x hi hx => ?_⟩
  · obtain ⟨a, b, d⟩ := h.fz i x hi
    have lt := (Array.getElem?_eq_some_iff.mp b).1
    have lt2 := (Array.getElem?_eq_some_iff.mp d).1
    refine ⟨a, ?_, ?_⟩
    · rw [Array.getElem?_push, if_neg (by omega)]; exact b
    · rw [Array.getElem?_push, if_neg (by omega)]; exact d
  · rw [Array.getElem?_push, Array.getElem?_push, h.size, h.eq i hi]
  · rw [Array.getElem?_push] at hx
    split at hx
    · cases hx; trivial
    · exact h.cl i x hi hx
/-- awake in A: not of S, and so in B -/
theorem Rz.at {gl : List Value} {S : Nat → Option GenState} {A B : Array GenState} {g : Nat} {y : GenState} (h : Rz gl S A B) (hy : A[g]? = some y) (ns : ∀ x, Sus x → stk gl x ≠ y) : S g = none ∧ B[g]? = some y := by
  cases e : S g with
  | none => exact ⟨rfl, (h.eq g e).symm.trans hy⟩
  | some x =>
    obtain ⟨a, b, _⟩ := h.fz g x e
    rw [hy] at b
    cases b
    exact absurd rfl (ns x a)
theorem Rz.seen {gl : List Value} {S : Nat → Option GenState} {A B : Array GenState} {g : Nat} {y : GenState} (r : Rz gl S A B) (hy : A[g]? = some y) : ∃ x, B[g]? = some x ∧ x.seen = y.seen := by
  cases e : S g with
  | none => exact ⟨y, (r.eq g e).symm.trans hy, rfl⟩
  | some x =>
    obtain ⟨_, b, d⟩ := r.fz g x e
    rw [hy] at b
    cases b
    exact ⟨x, d, (stk_seen gl x).symm⟩
theorem Rz.susp {gl : List Value} {S : Nat → Option GenState} {A B : Array GenState} {g : Nat} {k : Resume → Sem PySem.Fin} {l : List Value} {c : Code} {p : Pos} {fs : List Frame} {cl : Bool} (r : Rz gl S A B) (hy : A[g]? = some (.suspended k l c p fs cl)) (ns : ∀ w, k = (fun _ => .unsupported w) → False) : S g = none ∧ B[g]? = some (.suspended k l c p fs cl) ∧ NG fs := by
  cases e : S g with
  | none => exact ⟨rfl, (r.eq g e).symm.trans hy, r.cl g _ e hy⟩
  | some x =>
    obtain ⟨a, b, _⟩ := r.fz g x e
    rw [hy] at b
    cases x with
    | suspended => cases b; exact (ns _ rfl).elim
    | _ => exact a.elim
theorem runs_thaw {gl : List Value} {M : Model} {S : Nat → Option GenState} {Γ : Ctx} {p : Pos} {t : Sem PySem.Fin} {fs : List Frame} {s s' : Shared} {e : End} (h : Runs M Γ p t fs s e s') :
    NG fs → ∀ B, Rz gl S s.gens B → ∃ B', Rz gl S s'.gens B' ∧ Runs M Γ p t fs { s with gens := B } e { s' with gens := B' } := by
  induction h with
  | done => intro _ B r; exact ⟨B, r, .done⟩
  | raise => intro _ B r; exact ⟨B, r, .raise⟩
  | again hq _ ih => intro n B r; obtain ⟨B', r', h'⟩ := ih n B r; exact ⟨B', r', .again hq h'⟩
  | rule _ ih => intro n B r; obtain ⟨B', r', h'⟩ := ih n B r; exact ⟨B', r', .rule h'⟩
  | «at» _ ih => intro n B r; obtain ⟨B', r', h'⟩ := ih n B r; exact ⟨B', r', .at h'⟩
  | load ho _ ih => intro n B r; obtain ⟨B', r', h'⟩ := ih n B r; exact ⟨B', r', .load ho h'⟩
  | update ho _ ih => intro n B r; obtain ⟨B', r', h'⟩ := ih n B r; exact ⟨B', r', .update ho h'⟩
  | loadIfAlive _ ih => intro n B r; obtain ⟨B', r', h'⟩ := ih n B r; exact ⟨B', r', .loadIfAlive h'⟩
  | point _ ih => intro n B r; obtain ⟨B', r', h'⟩ := ih n B r; exact ⟨B', r', .point h'⟩
  | alloc _ ih => intro n B r; obtain ⟨B', r', h'⟩ := ih n B r; exact ⟨B', r', .alloc h'⟩
  | fresh _ ih => intro n B r; obtain ⟨B', r', h'⟩ := ih n B r; exact ⟨B', r', .fresh h'⟩
  | ask _ ih => intro n B r; obtain ⟨B', r', h'⟩ := ih n B r; exact ⟨B', r', .ask h'⟩
  | choose hn _ ih => intro n B r; obtain ⟨B', r', h'⟩ := ih n B r; exact ⟨B', r', .choose hn h'⟩
  | os _ ih => intro n B r; obtain ⟨B', r', h'⟩ := ih n B r; exact ⟨B', r', .os h'⟩
  | handled _ ih => intro n B r; obtain ⟨B', r', h'⟩ := ih n B r; exact ⟨B', r', .handled h'⟩
  | genState hg hr ih =>
    intro n B r
    obtain ⟨B', r', h'⟩ := ih n B r
    obtain ⟨st', hB, hs⟩ := r.seen hg
    rw [← hs] at h'
    exact ⟨B', r', .genState hB h'⟩
  | stack _ ih => intro n B r; obtain ⟨B', r', h'⟩ := ih n B r; exact ⟨B', r', .stack h'⟩
  | thread _ ih => intro n B r; obtain ⟨B', r', h'⟩ := ih n B r; exact ⟨B', r', .thread h'⟩
  | newGen hr ih =>
    intro n B r
    obtain ⟨B', r', h'⟩ := ih n _ r.push
    refine ⟨B', r', .newGen ?_⟩
    rw [r.size] at h'
    exact h'
  | call _ _ ih1 ih2 =>
    intro n B r
    obtain ⟨B1, r1, h1⟩ := ih1 NG.nil B r
    obtain ⟨B2, r2, h2⟩ := ih2 n B1 r1
    exact ⟨B2, r2, .call h1 h2⟩
  | callSusp _ ih =>
    intro n B r
    obtain ⟨B1, r1, h1⟩ := ih NG.nil B r
    exact ⟨B1, r1, .callSusp h1⟩
  | yield => intro _ B r; exact ⟨B, r, .yield⟩
  | resumeFresh hg ha hq hb ih1 ih2 =>
    intro n B r
    obtain ⟨n0, hB⟩ := r.at hg fun x a z => by cases x <;> first | exact a.elim | cases z
    obtain ⟨B1, r1, h1⟩ := ih1 NG.nil _ (r.set (y := .running) n0 trivial)
    obtain ⟨B2, r2, h2⟩ := ih2 n _ (r1.set n0 (clean_end (runs_ng ha)))
    exact ⟨B2, r2, .resumeFresh hB h1 hq h2⟩
  | resumeSuspended hg ha hq hb ih1 ih2 =>
    intro n B r
    obtain ⟨n0, hB, hc⟩ := r.susp hg fun w z => by
      rw [z] at ha
      exact absurd rfl (no_unsup ha)
    obtain ⟨B1, r1, h1⟩ := ih1 hc _ (r.set (y := .running) n0 trivial)
    obtain ⟨B2, r2, h2⟩ := ih2 n _ (r1.set n0 (clean_end (runs_ng ha)))
    exact ⟨B2, r2, .resumeSuspended hB h1 hq h2⟩
  | resumeJustStarted hg hv _ ih =>
    intro n B r
    obtain ⟨n0, hB⟩ := r.at hg fun x a z => by cases x <;> first | exact a.elim | cases z
    obtain ⟨B', r', h'⟩ := ih n B r
    exact ⟨B', r', .resumeJustStarted hB hv h'⟩
  | resumeThrowFresh hg _ ih =>
    intro n B r
    obtain ⟨n0, hB⟩ := r.at hg fun x a z => by cases x <;> first | exact a.elim | cases z
    obtain ⟨B', r', h'⟩ := ih n _ (r.set (y := .finished) n0 trivial)
    exact ⟨B', r', .resumeThrowFresh hB h'⟩
  | resumeRunning hg _ ih =>
    intro n B r
    obtain ⟨n0, hB⟩ := r.at hg fun x a z => by cases x <;> first | exact a.elim | cases z
    obtain ⟨B', r', h'⟩ := ih n B r
    exact ⟨B', r', .resumeRunning hB h'⟩
  | resumeFinished hg _ ih =>
    intro n B r
    obtain ⟨n0, hB⟩ := r.at hg fun x a z => by cases x <;> first | exact a.elim | cases z
    obtain ⟨B', r', h'⟩ := ih n B r
    exact ⟨B', r', .resumeFinished hB h'⟩
  | segRet _ _ ih1 ih2 =>
    intro n B r
    obtain ⟨B1, r1, h1⟩ := ih1 NG.nil B r
    obtain ⟨B2, r2, h2⟩ := ih2 n.tail B1 r1
    exact ⟨B2, r2, .segRet h1 h2⟩
  | segGen => intro n; cases n
  | segSuspOut hs _ ih =>
    intro n B r
    obtain ⟨B1, r1, h1⟩ := ih NG.nil B r
    exact ⟨B1, r1, .segSuspOut hs h1⟩
  | segSuspGen hs => intro n; rw [show splitAtGen _ = none from n] at hs; cases hs
theorem wakes_thaw {gl : List Value} {M : Model} {S : Nat → Option GenState} {Γ : Ctx} {p : Pos} {g : Nat} {r : Resume} {s s' : Shared} {res : GenResult} {B : Array GenState} (h : Wakes M Γ p g r s res s') (R : Rz gl S s.gens B) :
    ∃ B', Rz gl S s'.gens B' ∧ Wakes M Γ p g r { s with gens := B } res { s' with gens := B' } := by
  unfold Wakes at h
  cases hg : s.gens[g]? with
  | none => rw [hg] at h; exact h.elim
  | some y =>
    rw [hg] at h
    cases y with
    | fresh c =>
      obtain ⟨n0, hB⟩ := R.at hg fun x a z => by cases x <;> first | exact a.elim | cases z
      have hB' : ({ s with gens := B } : Shared).gens[g]? = some (.fresh c) := hB
      cases r with
      | send v =>
        by_cases hv : v = .none
        · subst hv
          obtain ⟨e1, s1, hr, hq, hres, rfl⟩ := h
          obtain ⟨B1, r1, h1⟩ := runs_thaw hr NG.nil _ (R.set (y := .running) n0 trivial)
          refine ⟨_, r1.set n0 (clean_end (runs_ng hr)), ?_⟩
          unfold Wakes
          rw [hB']
          exact ⟨e1, _, h1, hq, hres, rfl⟩
        · have h' : res = .justStarted ∧ s' = s := by cases v <;> first | exact absurd rfl hv | exact h
          obtain ⟨rfl, rfl⟩ := h'
          refine ⟨B, R, ?_⟩
          unfold Wakes
          rw [hB']
          cases v <;> first | exact absurd rfl hv | exact ⟨rfl, rfl⟩
      | throw x =>
        obtain ⟨rfl, rfl⟩ := h
        refine ⟨_, R.set (y := .finished) n0 trivial, ?_⟩
        unfold Wakes
        rw [hB']
        exact ⟨rfl, rfl⟩
    | suspended k l c q fs cl =>
      obtain ⟨e1, s1, hr, hq, hres, rfl⟩ := h
      obtain ⟨n0, hB, hc⟩ := R.susp hg fun w z => by
        rw [z] at hr
        exact absurd rfl (no_unsup hr)
      have hB' : ({ s with gens := B } : Shared).gens[g]? = some (.suspended k l c q fs cl) := hB
      obtain ⟨B1, r1, h1⟩ := runs_thaw hr hc _ (R.set (y := .running) n0 trivial)
      refine ⟨_, r1.set n0 (clean_end (runs_ng hr)), ?_⟩
      unfold Wakes
      rw [hB']
      exact ⟨e1, _, h1, hq, hres, rfl⟩
    | running =>
      obtain ⟨rfl, rfl⟩ := h
      obtain ⟨n0, hB⟩ := R.at hg fun x a z => by cases x <;> first | exact a.elim | cases z
      have hB' : ({ s' with gens := B } : Shared).gens[g]? = some .running := hB
      refine ⟨B, R, ?_⟩
      unfold Wakes
      rw [hB']
      exact ⟨rfl, rfl⟩
    | finished =>
      obtain ⟨rfl, rfl⟩ := h
      obtain ⟨n0, hB⟩ := R.at hg fun x a z => by cases x <;> first | exact a.elim | cases z
      have hB' : ({ s' with gens := B } : Shared).gens[g]? = some .finished := hB
      refine ⟨B, R, ?_⟩
      unfold Wakes
      rw [hB']
      exact ⟨rfl, rfl⟩
/-- what holds behind a run with the sleepers held holds behind the run itself, and they sleep on -/
abbrev Thw {α : Type} (gl : List Value) (S : Nat → Option GenState) (Q : α → Shared → Prop) (a : α) (s' : Shared) : Prop := ∃ A', Rz gl S A' s'.gens ∧ Q a { s' with gens := A' }
theorem wp_thaw {gl : List Value} {α : Type} {M : Model} {S : Nat → Option GenState} {Γ : Ctx} (t : Sem α) : ∀ {Q : α → Pos → Shared → Prop} {E : Value → Pos → Shared → Prop} {p : Pos} {s : Shared} {B : Array GenState}, Rz gl S s.gens B → wp M Γ t Q E p s →
    wp M Γ t (fun a p' s' => ∃ A', Rz gl S A' s'.gens ∧ Q a p' { s' with gens := A' }) (fun e p' s' => ∃ A', Rz gl S A' s'.gens ∧ E e p' { s' with gens := A' }) p { s with gens := B } := by
  induction t with
  | pure a => intro Q E p s B R h; exact ⟨s.gens, R, h⟩
  | raise e => intro Q E p s B R h; exact ⟨s.gens, R, h⟩
  | unsupported _ => intro Q E p s B R h; exact h.elim
  | finish _ => intro Q E p s B R h; exact h.elim
  | rule _ k ih => intro Q E p s B R h; exact ih () (s := s) R h
  | «at» p' k ih => intro Q E p s B R h; exact ih () (s := s) R h
  | load a _ k ih => intro Q E p s B R h; obtain ⟨o, ho, h⟩ := h; exact ⟨o, ho, ih o (s := s) R h⟩
  | update a _ f k ih => intro Q E p s B R h; exact ⟨h.1, ih () (s := { s with heap := s.heap.update a f }) R h.2⟩
  | loadIfAlive a k ih => intro Q E p s B R h; exact ih _ (s := s) R h
  | point _ k ih => intro Q E p s B R h; exact ih () (s := s) R h
  | register _ _ => intro Q E p s B R h; exact h.elim
  | alloc o k ih => intro Q E p s B R h; exact ih _ (s := { s with heap := s.heap.push o }) R h
  | fresh k ih => intro Q E p s B R h; exact ih _ (s := { s with toks := s.toks + 1 }) R h
  | ask k ih => intro Q E p s B R h; exact ih _ (s := s) R h
  | choose src m k ih => intro Q E p s B R h; exact ⟨h.1, ih _ (s := { s with drawn := s.drawn.bump src }) R h.2⟩
  | os q _ k ih => intro Q E p s B R h; exact ih _ (s := { s with os := (Os.step s.os q).1 }) R h
  | call c hd _ _ k ih =>
    intro Q E p s B R h
    obtain ⟨r, s', hr, h⟩ := h
    obtain ⟨B', R', hr'⟩ := runs_thaw hr NG.nil B R
    exact ⟨r, _, hr', ih r (s := s') R' h⟩
  | handled own k ih => intro Q E p s B R h; exact ih _ (s := s) R h
  | genState g k ih =>
    intro Q E p s B R h
    obtain ⟨st, hs, h⟩ := h
    obtain ⟨st', hB, he⟩ := R.seen hs
    refine ⟨st', hB, ?_⟩
    rw [he]
    exact ih _ (s := s) R h
  | newGen c k ih =>
    intro Q E p s B R h
    have z := ih _ (s := { s with gens := s.gens.push (.fresh c) }) R.push h
    rw [R.size] at z
    exact z
  | resume g r _ k ih =>
    intro Q E p s B R h
    obtain ⟨res, s', hw, h⟩ := h
    obtain ⟨B', R', hw'⟩ := wakes_thaw hw R
    exact ⟨res, _, hw', ih res (s := s') R' h⟩
  | yield _ _ _ _ => intro Q E p s B R h; exact h.elim
  | stack k ih => intro Q E p s B R h; exact ih _ (s := s) R h
  | fork _ _ => intro Q E p s B R h; exact h.elim
  | thread k ih => intro Q E p s B R h; exact ih _ (s := s) R h
  | await _ _ _ _ _ => intro Q E p s B R h; exact h.elim
theorem wpAny_thaw {gl : List Value} {α : Type} {M : Model} {S : Nat → Option GenState} {A : Around} {t : Sem α} {Q : α → Shared → Prop} {E : Value → Shared → Prop} {s : Shared} {G : Array GenState} (R : Rz gl S G s.gens) (h : wpAny M A t Q E { s with gens := G }) :
    wpAny M A t (Thw gl S Q) (Thw gl S E) s := fun Γ p hΓ => wp_thaw t (s := { s with gens := G }) R (h Γ p hΓ)
/-- all that sleep are held -/
def sleepers (B : Array GenState) (i : Nat) : Option GenState := match B[i]? with
  | some (.suspended k l c p fs cl) => some (.suspended k l c p fs cl)
  | _ => none
theorem rz_all (gl : List Value) (B : Array GenState) : Rz gl (sleepers B) (B.map (stk gl)) B := by
  refine ⟨Array.size_map .., fun i x h => ?_, fun i h => ?_, fun i x h hx => ?_⟩
  · unfold sleepers at h
    split at h
    · rename_i hb
      cases h
      exact ⟨trivial, by rw [Array.getElem?_map, hb]; rfl, hb⟩
    · cases h
  · unfold sleepers at h
    rw [Array.getElem?_map]
    cases e : B[i]? with
    | none => rfl
    | some y =>
      rw [e] at h
      cases y <;> first | rfl | cases h
  · unfold sleepers at h
    rw [Array.getElem?_map] at hx
    cases e : B[i]? with
    | none => rw [e] at hx; cases hx
    | some y =>
      rw [e] at h hx
      cases y with
      | suspended => cases h
      | _ => cases hx; trivial
/-- all that sleep but one are held -/
def sleepBut (g : Nat) (B : Array GenState) (i : Nat) : Option GenState := if i = g then none else sleepers B i
theorem rz_but (gl : List Value) {g : Nat} {B : Array GenState} (c : ∀ x, B[g]? = some x → Clean x) : Rz gl (sleepBut g B) ((B.map (stk gl)).setIfInBounds g (B[g]?.getD .finished)) B := by
  have z := rz_all gl B
  refine ⟨by rw [Array.size_setIfInBounds]; exact z.size, fun i x h => ?_, fun i h => ?_, fun i x h hx => ?_⟩
  · unfold sleepBut at h
    split at h
    · cases h
    · rename_i ne
      rw [Array.getElem?_setIfInBounds_ne (fun e => ne e.symm)]
      exact z.fz i x h
  · unfold sleepBut at h
    by_cases ne : i = g
    · subst ne
      rw [Array.getElem?_setIfInBounds, if_pos rfl]
      by_cases hi : i < B.size
      · rw [if_pos (by rw [Array.size_map]; exact hi), Array.getElem?_eq_getElem hi]; rfl
      · rw [if_neg (by rw [Array.size_map]; exact hi), Array.getElem?_eq_none (by omega)]
    · rw [if_neg ne] at h
      rw [Array.getElem?_setIfInBounds_ne (fun e => ne e.symm)]
      exact z.eq i h
  · unfold sleepBut at h
    by_cases ne : i = g
    · subst ne
      rw [Array.getElem?_setIfInBounds, if_pos rfl] at hx
      split at hx
      · rename_i hi
        have hi : i < B.size := by rw [Array.size_map] at hi; exact hi
        rw [Array.getElem?_eq_getElem hi] at hx
        cases hx
        exact c _ (Array.getElem?_eq_getElem hi)
      · cases hx
    · rw [if_neg ne] at h
      rw [Array.getElem?_setIfInBounds_ne (fun e => ne e.symm)] at hx
      exact z.cl i x h hx
end GenFz
namespace Mc
open PySem PySem.Spec PyProof.Rows L2 Evl GenW GenFz
/-! ### a generator that is asked for its first item alone -/
section
variable (P : Program) (w : World) (outer : List Env) (H : Hp) (s : Shared) (a : Addr) (g : Nat) (Q : VK) (E : XK)
def R1st : GenEnd := fun n s₀ r s1 => ((r = .ok (.ret .none) ∨ r = .ok .next) ∧ False) ∨ ∃ e, r = .error e ∧ (CX P w outer H s E e s1 ∧ s1.heap.IsGen a g)
def Y1st : Protocol := fun n s₀ v s1 kap => ∃ x H', s1.os = s.os ∧ AllBare s1.gens ∧ Un (frs outer) [] H H' s.heap s1.heap ∧ HOk P w H' s1.heap ∧ RelV x v ∧ Q x H'
end
/-- what such a call gives -/
def Made1 (P : Program) (w : World) (k : Nat) (outer : List Env) (H : Hp) (s : Shared) (Q : VK) (E : XK) (u : Value) (s' : Shared) : Prop :=
  ∃ (a : Addr) (g : Nat) (c : Code), u = .ref a ∧ s'.heap.IsGen a g ∧ s'.gens[g]? = some (.fresh c) ∧ s'.heap.NoLimit ∧
    ∀ (A : Around) (s2 : Shared), Room k A → A.frames = some outer → (∀ b o, s'.heap.get? b = some o → s2.heap.get? b = some o) → s2.os = s'.os → AllBare s2.gens →
      Seg (model P w) A (R1st P w outer H s a g E) (Y1st P w outer H s Q) 1 s2 c ((model P w).den c) [] s2
structure G1Fn (P : Program) (w : World) (K : PySem.W.Frag) (mg : Str → Option Value) (base : Heap) (k : Nat) (f : Addr) (fd : FuncData) (ps : List Str) (sp : Sp) : Prop where
  len : ∀ vs H Q E, sp vs H Q E → vs.length = ps.length
  run : ∀ (A : Around) (outer : List Env) (s : Shared) (H : Hp) (args : Args) (us : List Value) (vs : List V) (Q : VK) (E : XK), Room k A → Env0 P w K mg base A outer s H → BindsTo s fd args (ps.zip us) → Vals vs us → sp vs H Q E →
    codeAny (model P w) A (.call (.ref f) args) (fun r s' => ∃ u, r = .ok (.ret u) ∧ Made1 P w k outer H s Q E u s' ∧ s'.os = s.os ∧ AllBare s'.gens) s
/-- calm: no exception leaves -/
def stillX (X : Cx) : Cx := { X with xe := fun _ _ => False }
theorem Inv.still {X : Cx} {pins : List (Addr × Obj)} {σ : L2.St} {H : Hp} {s : Shared} (I : Inv X pins σ H s) : Inv (stillX X) pins σ H s :=
  ⟨⟨I.ok.mod, I.ok.kind, I.ok.glob, I.ok.blt, I.ok.above, I.ok.inj, I.ok.has, I.ok.cab, I.ok.hd, I.ok.frames, I.ok.stk, I.ok.exf, I.ok.bs, I.ok.bsz, I.ok.noex, I.ok.exfs, I.ok.funs, I.ok.frf⟩, I.os, I.bare, I.base, I.loc, I.cell, I.free, I.freeC, I.pin, I.hok, I.len⟩
theorem Inv.unstill {X : Cx} {pins : List (Addr × Obj)} {σ : L2.St} {H : Hp} {s : Shared} (I : Inv (stillX X) pins σ H s) : Inv X pins σ H s :=
  ⟨⟨I.ok.mod, I.ok.kind, I.ok.glob, I.ok.blt, I.ok.above, I.ok.inj, I.ok.has, I.ok.cab, I.ok.hd, I.ok.frames, I.ok.stk, I.ok.exf, I.ok.bs, I.ok.bsz, I.ok.noex, I.ok.exfs, I.ok.funs, I.ok.frf⟩, I.os, I.bare, I.base, I.loc, I.cell, I.free, I.freeC, I.pin, I.hok, I.len⟩
def t1st (t1 : TS) (tc : TT) (te : TE) (Q : VK) : L2.St → Hp → Prop := fun σ H => t1 { nx := fun σ H => tc σ H fun b H1 => b = true ∧ te σ H1 Q, rt := fun _ _ => False, bk := fun _ _ => False, ct := fun _ _ => False } σ H
/-- its body: a statement, then a loop that hands out at once -/
theorem seg_1st {P : Program} {w : World} {X : Cx} {A : Around} {R : GenEnd} {Y : Protocol} {s₀ s : Shared} {st1 : Stmt} {test e : Expr} {rest : List Stmt} {yp p1 p2 : Pos} {t1 : TS} {tc : TT} {te : TE} {Q : VK} {σ : L2.St} {H : Hp}
    (hP : X.prog = P) (hw : X.w = w) (hA : A.deeper X.env = X.A) (h1 : PS X st1 t1) (hc : PT (stillX X) test tc) (he : PE (stillX X) e te) (I : Inv X [] σ H s) (h : t1st t1 tc te Q σ H) (hco : X.env.scope.isCoroutine = false) (hi : interactive X.env = false)
    (hY : ∀ (v : Value) (s' : Shared) (x : V) (σ' : L2.St) (H' : Hp) (kap : Resume → Shared → Prop), Inv X [] σ' H' s' → RelV x v → Q x H' → Y 0 s₀ v s' kap)
    (hX : ∀ e s', X.xe e s' → wpAny (model P w) (A.deeper X.env) (leaving X.env e) (fun _ s'' => R 1 s₀ (.error e) s'') (fun _ _ => False) s') :
    Seg (model P w) A R Y 1 s₀ (.func (st1 :: [.While test (.Expr (.Yield (some e) yp) p1 :: rest) [] p2]) X.env) ((model P w).den (.func (st1 :: [.While test (.Expr (.Yield (some e) yp) p1 :: rest) [] p2]) X.env)) [] s := by
  subst hP hw
  refine seg_func (seg_execs_cons (seg_wrap ?_))
  rw [over_func, hA]
  refine wpAny_mono (h1.run [] s σ H _ I h) (fun f s1 hs => ?_) fun x s1 hx => ?_
  · cases f with
    | brk => obtain ⟨_, _, _, z⟩ := hs; exact z.elim
    | cont => obtain ⟨_, _, _, z⟩ := hs; exact z.elim
    | ret u => obtain ⟨_, _, _, _, _, z⟩ := hs; exact z.elim
    | next =>
      obtain ⟨σ1, H1, I1, q1⟩ := hs
      refine seg_execs_cons (seg_While fun p => seg_whileLoop ?_)
      rw [over_loop (c := .func _ X.env) rfl rfl, over_func, hA]
      refine wpAny_mono (hc.run [] s1 σ1 H1 _ (Inv.still I1) q1) (fun b s2 hb => ?_) fun _ _ z => z.elim
      obtain ⟨H2, I2, rfl, q2⟩ := hb
      rw [if_pos rfl]
      refine seg_execs_cons (seg_Expr_Yield rfl rfl rfl ?_ hco hi)
      rw [over_loop (c := .func _ X.env) rfl rfl, over_func, hA]
      refine wpAny_mono (he.run [] s2 σ1 H2 _ I2 q2) (fun v s3 hv => ?_) fun _ _ z => z.elim
      obtain ⟨x, H3, I3, r3, q3⟩ := hv
      exact fun kap _ => hY v s3 x σ1 H3 kap (Inv.unstill I3) r3 q3
  · refine seg_wrap ?_
    rw [over_func]
    exact wpAny_mono (hX x s1 hx) (fun _ s2 q => seg_end (.error x) q) fun _ _ z => z.elim
/-- THE RULE: such a def, by its body -/
theorem g1fn_of {P : Program} {w : World} {K : PySem.W.Frag} {mg : Str → Option Value} {base : Heap} {k : Nat} {f : Addr} {name qual : Str} {params : Arguments} {st1 : Stmt} {test e : Expr} {rest : List Stmt} {yp p1 p2 : Pos} {scope : Scope} {dV kV doc pm cdv ct oc : Value} {an od : Option Addr}
    {osl : Array (Option Value)} {N ps : List Str} {sp : Sp} (lk : K.lookup f = some ⟨oc, od, .func (PySem.W.fnOf name qual params (st1 :: [.While test (.Expr (.Yield (some e) yp) p1 :: rest) [] p2]) scope dV kV doc pm an cdv ct), osl⟩) (hcd : PySem.W.codeIn K cdv qual = true) (S : GScope N ps scope)
    (len : ∀ vs H Q E, sp vs H Q E → vs.length = ps.length) (calm : ∀ L, interactive (envOfC qual scope L f cdv) = false)
    (body : ∀ (A : Around) (outer : List Env) (s : Shared) (H : Hp) (vs : List V) (Q : VK) (E : XK) (pn : List (Addr × Obj)), Room k (A.deeper (envOfC qual scope s.heap.objs.size f cdv)) → sp vs H Q E →
      ∃ t1 tc te, PS (gcxOf P w K mg base N qual scope f cdv A outer s H E pn) st1 t1 ∧ PT (stillX (gcxOf P w K mg base N qual scope f cdv A outer s H E pn)) test tc ∧ PE (stillX (gcxOf P w K mg base N qual scope f cdv A outer s H E pn)) e te ∧ t1st t1 tc te Q (start N vs) H) :
    G1Fn P w K mg base (k + 1) f (PySem.W.fnOf name qual params (st1 :: [.While test (.Expr (.Yield (some e) yp) p1 :: rest) [] p2]) scope dV kV doc pm an cdv ct) ps sp := by
  refine ⟨len, fun A outer s H args us vs Q E hr e0 hb r hsp => ?_⟩
  have kx : K.In s.heap := e0.mod.kin.keeps fun b o q => (e0.bs b o q).1
  have roomy : s.heap.NoLimit := e0.mod.nolimit.keeps fun b o q => (e0.bs b o q).1
  refine codeAny_call_generator hr.depth (kx _ _ lk) rfl S.co S.gen rfl (PySem.W.codeRec_of kx hcd) (hb _ _ _ _ ?_)
  refine wpAny_newFunctionEnv_cells S.kind (fun ⟨n, v⟩ hy => ?_) fun env he s1 x => ?_
  · rcases S.par n (List.of_mem_zip hy).1 with q | q
    · exact .inl q
    · exact .inr ⟨q, PySem.W.cellsFrom_some _ _ _ (.inl q)⟩
  subst he
  have roomy1 : s1.heap.NoLimit := roomy.keeps x.toInCall.keep
  refine ⟨roomy1, ?_⟩
  obtain ⟨h1, tk, es1, hk1⟩ := x.done
  have os1 : s1.os = s.os := by rw [es1]
  have gens1 : s1.gens = s.gens := by rw [es1]
  have lt1 : s.heap.objs.size < s1.heap.objs.size := x.toInCall.ns.lt
  have young : ∀ (go : Obj) (nm qn : Value) (tk2 : Nat), go.cls = .type "generator" → go.data = .fields #[.int s1.gens.size 0, nm, qn] → go.slots = #[] → (∀ h : Heap, (h.push go).get? h.objs.size = some go) →
      Made1 P w (k + 1) outer H s Q E (.ref s1.heap.objs.size) { s1 with gens := s1.gens.push (.fresh (.func (st1 :: [.While test (.Expr (.Yield (some e) yp) p1 :: rest) [] p2]) (envOfC qual scope s.heap.objs.size f cdv))), toks := tk2, heap := s1.heap.push go } ∧ s1.os = s.os ∧ AllBare (s1.gens.push (.fresh (.func (st1 :: [.While test (.Expr (.Yield (some e) yp) p1 :: rest) [] p2]) (envOfC qual scope s.heap.objs.size f cdv)))) := by
    intro go nm qn tk2 gc gd gs gp
    have isg : ∀ h : Heap, h.get? s1.heap.objs.size = some go → h.IsGen s1.heap.objs.size s1.gens.size := fun h q => ⟨go, nm, qn, q, gc, gd, gs⟩
    refine ⟨⟨s1.heap.objs.size, s1.gens.size, _, rfl, isg _ (gp _), Array.getElem?_push_size .., roomy1.keeps fun b o q => Heap.get?_push_of_some _ q, fun Aw s2 hrw hfr hk2 hos hba => ?_⟩, os1, AllBare.push (by rw [gens1]; exact e0.bare) rfl⟩
    have e0w : Env0 P w K mg base Aw outer s H := ⟨hfr, e0.mod, e0.bs, e0.bsz, e0.funs, e0.frf, e0.hok, e0.bare⟩
    obtain ⟨t1, tc, te, hs1, hsc, hse, want⟩ := body Aw outer s H vs Q E [(s1.heap.objs.size, go)] (hrw.deeper _) hsp
    have I1 : Inv (gcxOf P w K mg base N qual scope f cdv Aw outer s H E []) [] (start N vs) H s1 := inv_startG S hrw.hd e0w (len _ _ _ _ hsp) r x
    have kp2 : ∀ b o, s1.heap.get? b = some o → s2.heap.get? b = some o := fun b o q => hk2 b o (Heap.get?_push_of_some _ q)
    have I2 : Inv (gcxOf P w K mg base N qual scope f cdv Aw outer s H E []) [] (start N vs) H s2 := I1.call' (ch := []) hos (Un.kept kp2) (I1.hok.kept kp2) hba fun b z => by simp at z
    have I3 : Inv (gcxOf P w K mg base N qual scope f cdv Aw outer s H E [(s1.heap.objs.size, go)]) [] (start N vs) H s2 := Inv.pinnedG I2 fun p hp => by
      have hp1 : p = (s1.heap.objs.size, go) := by simpa using hp
      rw [hp1]
      exact ⟨hk2 s1.heap.objs.size go (gp _), I1.hok.fresh (Nat.le_refl _), Nat.ne_of_gt lt1, I1.nofs (Nat.le_refl _), fun v q => by rw [gd] at q; cases q⟩
    refine seg_1st (X := gcxOf P w K mg base N qual scope f cdv Aw outer s H E [(s1.heap.objs.size, go)]) rfl rfl rfl hs1 hsc hse I3 want S.co (calm _) (fun v s' x' σ' H' kap I' rv q => ?_) fun e' s' hx => ?_
    · exact ⟨x', H', I'.os, I'.bare, I'.base, I'.hok, rv, q⟩
    · exact wpAny_mono hx (fun _ s'' q => .inr ⟨e', rfl, q.1, isg _ (q.2 (s1.heap.objs.size, go) (List.mem_singleton.mpr rfl))⟩) fun _ _ z => z.elim
  refine ⟨_, rfl, ?_⟩
  exact young _ _ _ _ rfl rfl rfl fun h => Heap.get?_push_size _ rfl
/-! ### for x in such a call: break -/
section
variable {X : Cx} {k : Nat} {f : Addr} {fd : FuncData} {ps : List Str} {sp : Sp} {E : L2.St → XK} {x : Str} {p pos : Pos} {e : Expr} {es : List Expr} {t : TA} {g : TG}
abbrev TG1 := L2.St → Hp → VK → Prop
structure PG1 (X : Cx) (k : Nat) (e : Expr) (tg : TG1) (E : L2.St → XK) : Prop where
  run : ∀ (pins : List (Addr × Obj)) (s : Shared) (σ : L2.St) (H : Hp) (cont : VK), Inv X pins σ H s → tg σ H cont →
    wpAny (model X.prog X.w) X.A (eval e X.env) (fun u s' => ∃ H1 sc, Inv X pins σ H1 sc ∧ Made1 X.prog X.w k X.stack H1 sc cont (E σ) u s' ∧ s'.os = sc.os ∧ AllBare s'.gens) X.xe s
def tCall1 (sp : Sp) (E : L2.St → XK) (t : TA) : TG1 := fun σ H cont => t σ H fun vs H1 => sp vs H1 cont (E σ)
/-- f(e, ..) of such a def -/
theorem pg1_call (F : G1Fn X.prog X.w X.K X.mg X.base k f fd ps sp) (hr : Room k X.A) (hg : Gl X x) (hm : X.mg x = some (.ref f)) (hk : PySem.W.keepIn X.K (.ref f) = true) (hb : Binds X.K fd ps []) (ha : PA X (e :: es) t)
    (hdb : (x == ("__debug__" : Str)) = false := by decide) (h1 : starEach (e :: es) X.env = (false, eval e X.env) :: starEach es X.env := by rfl) (h2 : (backTo pos (starEach es X.env)).any (·.1) = false := by rfl) :
    PG1 X k (.Call (.Name x p) (e :: es) [] pos) (tCall1 sp E t) E := by
  constructor
  intro pins s σ H cont I h
  refine wpAny_Call_Name_kw (ld_glob I hg hm (PySem.W.callWith_K (h₀ := X.base) I.ok.mod.kin hk (thn (ha.run pos pins s σ H _ I h) fun us s1 ⟨vs, H1, I1, r, q⟩ => ⟨I1.kIn, ?_⟩) h1 h2) hdb)
  have hl : us.length = ps.length := by rw [← r.length]; exact F.len _ _ _ _ q
  have bd := hb s1 us I1.kIn (by rw [List.append_nil]; exact hl)
  rw [List.append_nil] at bd
  refine wpAny_call (codeAny_mono (F.run X.A X.stack s1 H1 ⟨us, []⟩ us vs cont (E σ) hr I1.env0 bd r q) fun r' s' hq => ?_)
  obtain ⟨u, rfl, m1, m2, m3⟩ := hq
  exact ⟨H1, s1, I1, m1, m2, m3⟩
def tFor1 (tg : TG1) (g : TG) : TS := fun D σ H => tg σ H fun x H1 => g x σ H1 fun σ2 H2 => D.nx σ2 H2
theorem ps_for1 {y : Str} {py bp : Pos} {tg : TG1} (hp : PassesOwn (model X.prog X.w) X.A X.env X.xe) (hc : X.calm = true) (h1 : PG1 X k e tg E) (hr : Room (k + 1) X.A) (hx : ∀ σ, PassesAt (L2.CX X.prog X.w) X σ (E σ)) (hn : ∀ σ, NoStop X.K (E σ)) (hg : PG X (.Name y py) g)
    (hs : ∀ x, foldedSetIterable e X.env x = pure x := by intro _; rfl) : PS X (.For (.Name y py) e [.Break bp] [] pos) (tFor1 tg g) := by
  constructor
  intro pins s σ H D I h
  refine wpAny_For (thn (h1.run pins s σ H _ I h) fun u s1 ⟨H1, sc, I1, hM, os1, b1⟩ => ?_) hs
  obtain ⟨a, gn, c, rfl, isg, hgs, roomy, wake⟩ := hM
  refine wpAny_pyIter_gen isg (codeAny_forLoop_any (fun _ s' => s' = s1) (fun n s' hs1 => ?_) 0 rfl)
  subst hs1
  refine wpAny_passesOwn hp (next_genG (n := 1) (gs := .fresh c) (F := fun _ _ _ => False) (Er := fun e s₁ => CX X.prog X.w X.stack H1 sc (E σ) e s₁ ∧ s₁.heap.IsGen a gn) (Y := Y1st X.prog X.w X.stack H1 sc fun x H1 => g x σ H1 fun σ2 H2 => D.nx σ2 H2) (I1.ok.hd hc) roomy hr.depth isg hgs ⟨rfl, ?_⟩ (fun v s2 gs' hb hy => ?_) (fun s2 z => z.elim) fun x s2 hE => ?_)
  · exact wake X.A.in1 _ hr.in1 I1.ok.frames (fun b o q => q) rfl (allBare_setGen b1 rfl)
  · obtain ⟨x, H2, o2, b2, un, ok2, rv, q2⟩ := hy
    have I2 : Inv X pins σ H2 (s2.setGen gn gs') := I1.call' (ch := []) o2 un ok2 (allBare_setGen b2 hb) fun b z => by simp at z
    refine wpAny_pure ?_
    refine wpAny_passesOwn hp (thn (hg.run pins _ σ H2 x v _ I2 rv q2) fun _ s3 ⟨σ3, H3, I3, q3⟩ => ?_)
    exact wpAny_passesOwn hp (thn (PSs.run (pss_one ps_break) pins s3 σ3 H3 { nx := fun _ _ => False, rt := fun _ _ => False, bk := D.nx, ct := fun _ _ => False } I3 q3) fun f s4 q4 => by
      cases f with
      | brk => exact q4
      | next => obtain ⟨_, _, _, z⟩ := q4; exact z.elim
      | cont => obtain ⟨_, _, _, z⟩ := q4; exact z.elim
      | ret _ => obtain ⟨_, _, _, _, _, z⟩ := q4; exact z.elim)
  · obtain ⟨c1, c2⟩ := hE
    have nst : ∀ b o, X.base.get? b = some o → b ∉ frs X.stack := fun b o eb hm => by
      rcases List.mem_cons.mp (I1.stkSub b hm) with z | z
      · have lt := Heap.lt_size eb
        have le := Nat.le_trans I1.ok.bsz I1.ok.above
        rw [z] at lt
        exact Nat.lt_irrefl _ (Nat.lt_of_lt_of_le lt le)
      · exact I1.ok.nofr eb z
    have kin : X.K.In s2.heap := by
      obtain ⟨_, B, _, _, _, _, fl, _, ub, _⟩ := id c1
      exact I1.ok.mod.kin.keeps fun b o eb => fl.1 b o (ub.keep b o (I1.bs b o eb).1 (I1.bs b o eb).2 (nst b o eb))
    refine ⟨c2, notStop_of (hn σ) kin c1, hx σ pins H1 sc x _ I1 ?_⟩
    obtain ⟨a', B, H', cls, d, z1, fl, z2, ub, z3, z4, z5, z6⟩ := c1
    exact ⟨a', B, H', cls, d, z1, fl, z2, ub, z3, z4, allBare_setGen z5 rfl, z6⟩
end
/-- who takes any exception takes those without a context -/
theorem takesZn {X : Cx} {W : WX} (t : L2.Takes X W) : L2N.Takes X W := fun u s' ⟨a, B, sI, pins, σ, H, cls, d, e1, e2, e3, e4, sky, r⟩ =>
  t u s' ⟨a, B, sI, pins, σ, H, cls, d, e1, e2, e3, e4, sky_of (fun _ => L2N.Zn.zc) sky, r⟩
/-- o.m(), where the method takes any number -/
theorem pe_methR0 {X : Cx} {CX : CXT} {k : Nat} {C f : Addr} {m : Str} {sp : Sp} {E : XK} {o : Expr} {ta : TE} {apos pos : Pos} {pl : Sem Bool} (he : PE X o ta) (c : Cls X.K C) (hm : Meth X.K C m f) (F : FnR X.prog X.w X.K X.mg X.base CX k f sp) (hr : Room k X.A) (hx : Passes CX X E)
    (ht : MethForm X o m apos pos [] [] pl := by rfl) : PE X (.Call (.Attribute o m apos) [] [] pos) (tMethR C m sp E ta tNil) := by
  constructor
  intro pins s σ H Q I h
  refine PySem.W.methodCall_KW (pl := pl) (thn (he.run pins s σ H _ I h) fun u s1 ⟨y, H1, I1, ry, a, dx, fs, ey, ea, l, q⟩ => ?_) ht
  cases ey; cases ry
  refine getmeth_ok I1 ea c hm l (PySem.W.callWith_K0 (first := [.ref a]) I1.kIn hm.kp ?_)
  exact wpAny_call (run_fnR (us := [.ref a]) (vs := [.ref a]) F hr hx I1 (.cons rfl .nil) q)
/-! ### o.m(e, ..) with so many arguments that the attribute is read first -/
theorem longcall_of {M : Model} {A : Around} {E : Value → Shared → Prop} {s : Shared} {env : Env} {o : Expr} {es : List Expr} {m : Str} {apos pos : Pos} {Q : Value → Shared → Prop} (hb : attributeBase o m env (eval o env) = eval o env)
    (hf : methodCallForm (es.length + 0) (backTo pos (starEach es env)) [] = false)
    (h : wpAny M A (eval o env) (fun ov s1 => wpAny M A (getAttr ov m true) (fun f s2 => wpAny M A (callWith pos f [] (backTo pos (starEach es env)) []) Q E s2) E s1) E s) :
    wpAny M A (eval (.Call (.Attribute o m apos) es [] pos) env) Q E s := by
  have kw0 : backToKw pos (keywordEach [] env) = [] := rfl
  have n0 : methodCallForm (es.length + ([] : List Keyword).length) (backTo pos (starEach es env)) [] = false := hf
  have c0 : ∀ ov, calleeOf false o env ov m = (getAttr ov m true >>= fun v => pure (v, [])) := fun _ => rfl
  have p0 : methodCallPos false o env apos pos = pure pos := rfl
  rw [arm_eval_Call, hb, kw0]
  refine wpAny_bind (wpAny_mono h (fun ov s1 h1 => wpAny_bind (wpAny_standAt ?_)) fun _ _ z => z)
  unfold methodCall
  rw [n0, p0, c0]
  exact wpAny_bind (wpAny_holding (wpAny_bind (wpAny_mono h1 (fun f s2 h2 => wpAny_pure (wpAny_bind (wpAny_pure h2))) fun _ _ z => z)))
def tMethB (C : Addr) (m : Str) (g : Addr) (sp : Sp) (E1 : XK) (ta : TE) (t : TA) : TE := fun σ H Q => ta σ H fun x H1 => ∃ a dx fs, x = .ref a ∧ H1 a = some (.ins C dx fs) ∧ fs.lookup m = none ∧
  ∀ q, H1 q = none → t σ (upd H1 q (.met g a)) fun vs H2 => H2 q = some (.met g a) ∧ sp (.ref a :: vs) H2 Q E1
theorem pe_methB {X : Cx} {CX : CXT} {k : Nat} {C g : Addr} {m : Str} {sp : Sp} {E1 : XK} {o e : Expr} {es : List Expr} {ta : TE} {t : TA} {apos pos : Pos} (he : PE X o ta) (c : Cls X.K C) (b : BMeth X.K C m g) (F : FnR X.prog X.w X.K X.mg X.base CX k g sp) (hr : Room k X.A) (hx : Passes CX X E1) (ha : PA X (e :: es) t)
    (hf : methodCallForm ((e :: es).length + 0) (backTo pos (starEach (e :: es) X.env)) [] = false := by rfl) (hbase : attributeBase o m X.env (eval o X.env) = eval o X.env := by rfl)
    (h1 : starEach (e :: es) X.env = (false, eval e X.env) :: starEach es X.env := by rfl) (h2 : (backTo pos (starEach es X.env)).any (·.1) = false := by rfl) :
    PE X (.Call (.Attribute o m apos) (e :: es) [] pos) (tMethB C m g sp E1 ta t) := by
  constructor
  intro pins s σ H Q I h
  refine longcall_of hbase hf (thn (he.run pins s σ H _ I h) fun u s1 ⟨y, H1, I1, ry, a, dx, fs, ey, ea, l, q⟩ => ?_)
  cases ey; cases ry
  refine getbound_ok I1 ea c b l fun r s2 nr I2 => ?_
  have z := thn (ha.run pos pins s2 σ _ _ I2 (q r nr)) (Q' := fun us s3 => PySem.W.MethP X.K r g (.ref a) s3.heap ∧ wpAny (model X.prog X.w) X.A (call (.ref r) ([] ++ us)) (EP X pins σ Q) X.xe s3) fun us s3 ⟨vs, H2, I3, rv, hm, want⟩ =>
    ⟨met_P I3 hm, wpAny_call (PySem.W.method_call (met_P I3 hm).1 (run_fnR (us := Value.ref a :: us) (vs := V.ref a :: vs) F hr hx I3 (.cons rfl rv) want))⟩
  rw [h1] at z ⊢
  exact PySem.W.callWith_of (by show ((false || (backTo pos (starEach es X.env)).any (·.1)) || false) = false; rw [h2]; rfl) (PySem.W.keeps_M b.fi) (PySem.Calls.evalArgs_plain z)
end Mc
namespace Mc
open PySem PySem.Spec PyProof.Rows L2 Evl GenW GenFz
/-! ### a heap cut -/
def cutH (h : Heap) (n : Nat) : Heap := ⟨h.objs.extract 0 n, h.life⟩
theorem cut_size {h : Heap} {n : Nat} (hn : n ≤ h.objs.size) : (cutH h n).objs.size = n := by
  show (h.objs.extract 0 n).size = n
  rw [Array.size_extract]; omega
theorem cut_get {h : Heap} {n b : Nat} (hb : b < n) : (cutH h n).get? b = h.get? b := by
  have e : (h.objs.extract 0 n)[b]? = h.objs[b]? := by
    rw [Array.getElem?_extract]
    by_cases hs : b < h.objs.size
    · rw [if_pos (by omega), Nat.zero_add]
    · rw [if_neg (by omega), Array.getElem?_eq_none (by omega)]
  unfold Heap.get? cutH
  rw [e]
theorem cut_none {h : Heap} {n b : Nat} (hb : n ≤ b) : (cutH h n).get? b = none := by
  have e : (h.objs.extract 0 n)[b]? = none := by
    rw [Array.getElem?_eq_none (by rw [Array.size_extract]; omega)]
  unfold Heap.get? cutH
  rw [e]
theorem cut_of {h : Heap} {n b : Nat} {o : Obj} (q : (cutH h n).get? b = some o) : b < n ∧ h.get? b = some o := by
  by_cases hb : b < n
  · exact ⟨hb, by rw [← cut_get hb]; exact q⟩
  · rw [cut_none (by omega)] at q; cases q
theorem cut_frames {h base : Heap} {n : Nat} : ∀ {l : List Env}, h.FunFrames base l → (∀ b ∈ frs l, b < n) → (cutH h n).FunFrames base l
  | [], _, _ => trivial
  | env :: rest, ⟨k, ⟨L, o, hf, hb, ho, hd⟩, r⟩, lt => by
    have hL : L < n := lt L (by
      show L ∈ (env :: rest).filterMap (·.frame)
      rw [List.filterMap_cons, hf]
      exact List.mem_cons_self)
    refine ⟨k, ⟨L, o, hf, hb, (cut_get hL).trans ho, hd⟩, cut_frames r fun b hm => lt b ?_⟩
    show b ∈ (env :: rest).filterMap (·.frame)
    rw [List.filterMap_cons, hf]
    exact List.mem_cons_of_mem _ hm
/-- a generator's body at a waking: the ground is what is older than its frame -/
theorem gen_inv {P : Program} {w : World} {K : PySem.W.Frag} {mg : Str → Option Value} {base : Heap} {N ps : List Str} {qual : Str} {scope : Scope} {f L : Addr} {cd : Value} {A : Around} {outer : List Env} {s : Shared} {H : Hp} {E : XK} {pn pins : List (Addr × Obj)} {σ : L2.St}
    (S : GScope N ps scope) (nc : ∀ y ∈ scope.names, y.2 ≠ .cell) (c0 : ∀ n, cellsFrom n scope.names [] = []) (hd : A.handled = none) (e0 : Env0 P w K mg base A outer s H) (hL : L < s.heap.objs.size) (hb : base.objs.size ≤ L) (hf : ∀ b ∈ frs outer, b < L)
    (loc : ∃ m, s.heap.Ns L m ∧ ∀ (i : Nat) (x : Str) (v : V), N[i]? = some x → σ[i]? = some (some v) → Vis scope x → ∃ u, L2.RelV v u ∧ Look (envOfC qual scope L f cd) s.heap m x u) (free : H L = none)
    (hp : ∀ p ∈ pn ++ pins, s.heap.get? p.1 = some p.2 ∧ H p.1 = none ∧ p.1 ≠ L ∧ p.1 ∉ frs outer ∧ ∀ v, p.2.data ≠ .cell v) (len : σ.length = N.length) :
    Inv (gcxOf P w K mg base N qual scope f cd A outer { s with heap := cutH s.heap L } H E pn) pins σ H s := by
  have e : (cutH s.heap L).objs.size = L := cut_size (Nat.le_of_lt hL)
  have nk : ∀ x, ¬ (scope.names.lookup x = some .cell ∨ scope.names.lookup x = some .free) := fun x h => by
    rcases h with h | h
    · exact nc _ (PySem.mem_of_lookup h) rfl
    · exact S.nofree _ (PySem.mem_of_lookup h) rfl
  have nl : ∀ (n : Nat) (x : Str) (c : Addr), (cellsFrom n scope.names []).lookup x = some c → False := fun n x c h => by
    rw [c0 n] at h; cases h
  refine ⟨⟨e0.mod, S.kind, rfl, rfl, Nat.le_refl _, fun x y c h1 _ => (nl _ _ _ h1).elim, fun x h => (nk x h).elim, fun x c _ h => (nl _ _ _ h).elim, fun _ => hd, Around.frames_deeper e0.frames, .inr ⟨rfl, rfl⟩, fun b z => absurd (show b ∈ ([] : List Addr) from z) (by simp), fun b o h => ?_, by show base.objs.size ≤ (cutH s.heap L).objs.size; rw [e]; exact hb, fun b o _ z => absurd (show b ∈ ([] : List Addr) from z) (by simp), fun b z => absurd (show b ∈ ([] : List Addr) from z) (by simp), cut_frames e0.funs hf, e0.frf⟩,
    rfl, e0.bare, ⟨fun b o h n _ _ => (cut_of h).2, fun b o h n _ _ => ⟨o.slots, (cut_of h).2⟩, fun b o _ n _ => n, fun b o h _ => ⟨o, (cut_of h).2⟩, fun _ _ h => h, fun _ _ _ h => h, fun b ps h => ⟨#[], by have h : H b = some (.tbl ps) := h; rw [h]; simp⟩⟩, ?_, fun x c h => (nl _ _ _ h).elim, ?_, fun x c h => (nl _ _ _ h).elim, fun p h => ?_, e0.hok, len⟩
  · have lt := Heap.lt_size h
    exact ⟨(cut_get (Nat.lt_of_lt_of_le lt hb)).trans (e0.bs b o h).1, (e0.bs b o h).2⟩
  · obtain ⟨m, hn, hl⟩ := loc
    refine ⟨m, ?_, fun i x v h1 h2 h3 => ?_⟩
    · show s.heap.Ns (cutH s.heap L).objs.size m
      rw [e]; exact hn
    · obtain ⟨u, ru, lk⟩ := hl i x v h1 h2 h3
      refine ⟨u, ru, ?_⟩
      rcases lk with z | ⟨z, _⟩
      · exact .inl z
      · exact (nk x z).elim
  · show H (cutH s.heap L).objs.size = none
    rw [e]; exact free
  · obtain ⟨h1, h2, h3, h4, h5⟩ := hp p h
    refine ⟨h1, h2, ?_, h4, h5⟩
    show p.1 ≠ (cutH s.heap L).objs.size
    rw [e]; exact h3
/-- behind its segment: what the consumer may take for granted (ch: what is the generator's own, and young cells) -/
theorem gen_un {P : Program} {w : World} {K : PySem.W.Frag} {mg : Str → Option Value} {base : Heap} {N : List Str} {qual : Str} {scope : Scope} {f L : Addr} {cd : Value} {A : Around} {outer : List Env} {s s1 : Shared} {H H1 : Hp} {E : XK} {pn pins : List (Addr × Obj)} {σ : L2.St} {ch : List Addr}
    (I : Inv (gcxOf P w K mg base N qual scope f cd A outer { s with heap := cutH s.heap L } H E pn) pins σ H1 s1) (hf : ∀ b ∈ frs outer, b < L) (ex : Ex H H1)
    (cover : ∀ b o, L ≤ b → s.heap.get? b = some o → H b = none → b ∉ ch → (b, o) ∈ pn ++ pins) : Un (frs outer) ch H H1 s.heap s1.heap := by
  have no : ∀ b : Addr, b ∉ (gcxOf P w K mg base N qual scope f cd A outer { s with heap := cutH s.heap L } H E pn).ex := fun b z => absurd (show b ∈ ([] : List Addr) from z) (by simp)
  have cg : ∀ {b o}, b < L → s.heap.get? b = some o → (cutH s.heap L).get? b = some o := fun lt q => (cut_get lt).trans q
  refine ⟨fun b o q n hb hc => ?_, fun b o q n hb _ => I.base.slot b o (cg (hf b hb) q) n hb (no b), fun b o q n hc => ?_, fun b o q hc => ?_, fun b xs h => ex _ _ h, fun b o u h => ex _ _ h, fun b ps h => ⟨#[], by rw [ex _ _ h]; simp⟩⟩
  · by_cases lt : b < L
    · exact I.base.keep b o (cg lt q) n hb (no b)
    · exact (I.pin (b, o) (cover b o (Nat.le_of_not_lt lt) q n hc)).1
  · by_cases lt : b < L
    · exact I.base.free b o (cg lt q) n (no b)
    · exact (I.pin (b, o) (cover b o (Nat.le_of_not_lt lt) q n hc)).2.1
  · by_cases lt : b < L
    · exact I.base.there b o (cg lt q) (no b)
    · by_cases n : H b = none
      · exact ⟨o, (I.pin (b, o) (cover b o (Nat.le_of_not_lt lt) q n hc)).1⟩
      · cases g : s1.heap.get? b with
        | some o' => exact ⟨o', rfl⟩
        | none =>
          have z := HOk.gone I.hok g
          cases u : H b with
          | none => exact absurd u n
          | some v => rw [ex _ _ u] at z; cases z
end Mc
namespace GenFz
open PySem
open Sem (wp)
/-! ### a run has one end -/
theorem runs_one {M : Model} {Γ : Ctx} {p : Pos} {t : Sem PySem.Fin} {fs : List Frame} {s s' : Shared} {e : End} (h : Runs M Γ p t fs s e s') : ∀ {e2 : End} {s2 : Shared}, Runs M Γ p t fs s e2 s2 → e2 = e ∧ s2 = s' := by
  induction h with
  | done => intro e2 s2 h2; cases h2; exact ⟨rfl, rfl⟩
  | raise => intro e2 s2 h2; cases h2; exact ⟨rfl, rfl⟩
  | yield => intro e2 s2 h2; cases h2; exact ⟨rfl, rfl⟩
  | again _ _ ih => intro e2 s2 h2; cases h2 with | again _ x => exact ih x
  | rule _ ih => intro e2 s2 h2; cases h2 with | rule x => exact ih x
  | «at» _ ih => intro e2 s2 h2; cases h2 with | «at» x => exact ih x
  | load ho _ ih => intro e2 s2 h2; cases h2 with | load ho2 x => rw [ho] at ho2; cases ho2; exact ih x
  | update _ _ ih => intro e2 s2 h2; cases h2 with | update _ x => exact ih x
  | loadIfAlive _ ih => intro e2 s2 h2; cases h2 with | loadIfAlive x => exact ih x
  | point _ ih => intro e2 s2 h2; cases h2 with | point x => exact ih x
  | alloc _ ih => intro e2 s2 h2; cases h2 with | alloc x => exact ih x
  | fresh _ ih => intro e2 s2 h2; cases h2 with | fresh x => exact ih x
  | ask _ ih => intro e2 s2 h2; cases h2 with | ask x => exact ih x
  | choose _ _ ih => intro e2 s2 h2; cases h2 with | choose _ x => exact ih x
  | os _ ih => intro e2 s2 h2; cases h2 with | os x => exact ih x
  | handled _ ih => intro e2 s2 h2; cases h2 with | handled x => exact ih x
  | genState hg _ ih => intro e2 s2 h2; cases h2 with | genState hg2 x => rw [hg] at hg2; cases hg2; exact ih x
  | stack _ ih => intro e2 s2 h2; cases h2 with | stack x => exact ih x
  | thread _ ih => intro e2 s2 h2; cases h2 with | thread x => exact ih x
  | newGen _ ih => intro e2 s2 h2; cases h2 with | newGen x => exact ih x
  | call _ _ ih1 ih2 =>
    intro e2 s2 h2
    cases h2 with
    | call a b => obtain ⟨z, rfl⟩ := ih1 a; cases z; exact ih2 b
    | callSusp a => obtain ⟨z, _⟩ := ih1 a; cases z
  | callSusp _ ih =>
    intro e2 s2 h2
    cases h2 with
    | call a b => obtain ⟨z, _⟩ := ih a; cases z
    | callSusp a => obtain ⟨z, rfl⟩ := ih a; cases z; exact ⟨rfl, rfl⟩
  | resumeFresh hg _ _ _ ih1 ih2 =>
    intro e2 s2 h2
    cases h2 with
    | resumeFresh hg2 a _ b => rw [hg] at hg2; cases hg2; obtain ⟨rfl, rfl⟩ := ih1 a; exact ih2 b
    | resumeSuspended hg2 => rw [hg] at hg2; cases hg2
    | resumeJustStarted _ n => exact absurd rfl n
    | resumeRunning hg2 => rw [hg] at hg2; cases hg2
    | resumeFinished hg2 => rw [hg] at hg2; cases hg2
  | resumeSuspended hg _ _ _ ih1 ih2 =>
    intro e2 s2 h2
    cases h2 with
    | resumeFresh hg2 => rw [hg] at hg2; cases hg2
    | resumeSuspended hg2 a _ b => rw [hg] at hg2; cases hg2; obtain ⟨rfl, rfl⟩ := ih1 a; exact ih2 b
    | resumeJustStarted hg2 => rw [hg] at hg2; cases hg2
    | resumeThrowFresh hg2 => rw [hg] at hg2; cases hg2
    | resumeRunning hg2 => rw [hg] at hg2; cases hg2
    | resumeFinished hg2 => rw [hg] at hg2; cases hg2
  | resumeJustStarted hg hv _ ih =>
    intro e2 s2 h2
    cases h2 with
    | resumeFresh => exact absurd rfl hv
    | resumeSuspended hg2 => rw [hg] at hg2; cases hg2
    | resumeJustStarted _ _ x => exact ih x
    | resumeRunning hg2 => rw [hg] at hg2; cases hg2
    | resumeFinished hg2 => rw [hg] at hg2; cases hg2
  | resumeThrowFresh hg _ ih =>
    intro e2 s2 h2
    cases h2 with
    | resumeSuspended hg2 => rw [hg] at hg2; cases hg2
    | resumeThrowFresh _ x => exact ih x
    | resumeRunning hg2 => rw [hg] at hg2; cases hg2
    | resumeFinished hg2 => rw [hg] at hg2; cases hg2
  | resumeRunning hg _ ih =>
    intro e2 s2 h2
    cases h2 with
    | resumeRunning _ x => exact ih x
    | resumeFresh hg2 => rw [hg] at hg2; cases hg2
    | resumeSuspended hg2 => rw [hg] at hg2; cases hg2
    | resumeJustStarted hg2 => rw [hg] at hg2; cases hg2
    | resumeThrowFresh hg2 => rw [hg] at hg2; cases hg2
    | resumeFinished hg2 => rw [hg] at hg2; cases hg2
  | resumeFinished hg _ ih =>
    intro e2 s2 h2
    cases h2 with
    | resumeFinished _ x => exact ih x
    | resumeFresh hg2 => rw [hg] at hg2; cases hg2
    | resumeSuspended hg2 => rw [hg] at hg2; cases hg2
    | resumeJustStarted hg2 => rw [hg] at hg2; cases hg2
    | resumeThrowFresh hg2 => rw [hg] at hg2; cases hg2
    | resumeRunning hg2 => rw [hg] at hg2; cases hg2
  | segRet _ _ ih1 ih2 =>
    intro e2 s2 h2
    cases h2 with
    | segRet a b => obtain ⟨z, rfl⟩ := ih1 a; cases z; exact ih2 b
    | segSuspOut _ a => obtain ⟨z, _⟩ := ih1 a; cases z
    | segSuspGen _ a => obtain ⟨z, _⟩ := ih1 a; cases z
  | segGen _ _ ih1 ih2 =>
    intro e2 s2 h2
    cases h2 with
    | segGen a b => obtain ⟨z, rfl⟩ := ih1 a; cases z; exact ih2 b
    | segSuspOut _ a => obtain ⟨z, _⟩ := ih1 a; cases z
    | segSuspGen _ a => obtain ⟨z, _⟩ := ih1 a; cases z
  | segSuspOut n _ ih =>
    intro e2 s2 h2
    cases h2 with
    | segRet a => obtain ⟨z, _⟩ := ih a; cases z
    | segGen a => obtain ⟨z, _⟩ := ih a; cases z
    | segSuspOut _ a => obtain ⟨z, rfl⟩ := ih a; cases z; exact ⟨rfl, rfl⟩
    | segSuspGen m _ => rw [n] at m; cases m
  | segSuspGen m _ _ _ ih1 ih2 =>
    intro e2 s2 h2
    cases h2 with
    | segRet a => obtain ⟨z, _⟩ := ih1 a; cases z
    | segGen a => obtain ⟨z, _⟩ := ih1 a; cases z
    | segSuspOut n _ => rw [n] at m; cases m
    | segSuspGen m2 a _ b => rw [m] at m2; cases m2; obtain ⟨z, rfl⟩ := ih1 a; cases z; exact ih2 b
theorem wakes_one {M : Model} {Γ : Ctx} {p : Pos} {g : Nat} {r : Resume} {s s1 s2 : Shared} {x1 x2 : GenResult} (h1 : Wakes M Γ p g r s x1 s1) (h2 : Wakes M Γ p g r s x2 s2) : x2 = x1 ∧ s2 = s1 := by
  unfold Wakes at h1 h2
  split at h1
  · exact h1.elim
  · rename_i c hg
    rw [hg] at h2
    split at h1
    · obtain ⟨e, u, a, _, rfl, rfl⟩ := h1
      obtain ⟨e', u', a', _, rfl, rfl⟩ := h2
      obtain ⟨rfl, rfl⟩ := runs_one a a'
      exact ⟨rfl, rfl⟩
    · rename_i v hv
      obtain ⟨rfl, rfl⟩ := h1
      cases v <;> first | exact ⟨h2.1, h2.2⟩ | exact absurd rfl (hv · )
    · obtain ⟨rfl, rfl⟩ := h1
      exact ⟨h2.1, h2.2⟩
  · rename_i hg
    rw [hg] at h2
    obtain ⟨e, u, a, _, rfl, rfl⟩ := h1
    obtain ⟨e', u', a', _, rfl, rfl⟩ := h2
    obtain ⟨rfl, rfl⟩ := runs_one a a'
    exact ⟨rfl, rfl⟩
  · rename_i hg
    rw [hg] at h2
    obtain ⟨rfl, rfl⟩ := h1
    exact ⟨h2.1, h2.2⟩
  · rename_i hg
    rw [hg] at h2
    obtain ⟨rfl, rfl⟩ := h1
    exact ⟨h2.1, h2.2⟩
/-- what two proofs say of one piece holds at once -/
theorem wp_both {α : Type} {M : Model} {Γ : Ctx} (t : Sem α) : ∀ {Q1 Q2 : α → Pos → Shared → Prop} {E1 E2 : Value → Pos → Shared → Prop} {p : Pos} {s : Shared}, wp M Γ t Q1 E1 p s → wp M Γ t Q2 E2 p s → wp M Γ t (fun a p' s' => Q1 a p' s' ∧ Q2 a p' s') (fun e p' s' => E1 e p' s' ∧ E2 e p' s') p s := by
  induction t with
  | pure a => intro Q1 Q2 E1 E2 p s a b; exact ⟨a, b⟩
  | raise e => intro Q1 Q2 E1 E2 p s a b; exact ⟨a, b⟩
  | unsupported _ => intro Q1 Q2 E1 E2 p s a; exact a.elim
  | finish _ => intro Q1 Q2 E1 E2 p s a; exact a.elim
  | rule _ k ih => intro Q1 Q2 E1 E2 p s a b; exact ih () (s := s) a b
  | «at» p' k ih => intro Q1 Q2 E1 E2 p s a b; exact ih () (s := s) a b
  | load a _ k ih =>
    intro Q1 Q2 E1 E2 p s h1 h2
    obtain ⟨o, ho, h1⟩ := h1
    obtain ⟨o2, ho2, h2⟩ := h2
    rw [ho] at ho2; cases ho2
    exact ⟨o, ho, ih o (s := s) h1 h2⟩
  | update a _ f k ih => intro Q1 Q2 E1 E2 p s h1 h2; exact ⟨h1.1, ih () (s := { s with heap := s.heap.update a f }) h1.2 h2.2⟩
  | loadIfAlive a k ih => intro Q1 Q2 E1 E2 p s h1 h2; exact ih _ (s := s) h1 h2
  | point _ k ih => intro Q1 Q2 E1 E2 p s h1 h2; exact ih () (s := s) h1 h2
  | register _ _ => intro Q1 Q2 E1 E2 p s h1; exact h1.elim
  | alloc o k ih => intro Q1 Q2 E1 E2 p s h1 h2; exact ih _ (s := { s with heap := s.heap.push o }) h1 h2
  | fresh k ih => intro Q1 Q2 E1 E2 p s h1 h2; exact ih _ (s := { s with toks := s.toks + 1 }) h1 h2
  | ask k ih => intro Q1 Q2 E1 E2 p s h1 h2; exact ih _ (s := s) h1 h2
  | choose src m k ih => intro Q1 Q2 E1 E2 p s h1 h2; exact ⟨h1.1, ih _ (s := { s with drawn := s.drawn.bump src }) h1.2 h2.2⟩
  | os q _ k ih => intro Q1 Q2 E1 E2 p s h1 h2; exact ih _ (s := { s with os := (Os.step s.os q).1 }) h1 h2
  | call c hd _ _ k ih =>
    intro Q1 Q2 E1 E2 p s h1 h2
    obtain ⟨r, s', hr, h1⟩ := h1
    obtain ⟨r2, s2, hr2, h2⟩ := h2
    obtain ⟨z, rfl⟩ := runs_one hr hr2
    cases z
    exact ⟨r, _, hr, ih r (s := s2) h1 h2⟩
  | handled own k ih => intro Q1 Q2 E1 E2 p s h1 h2; exact ih _ (s := s) h1 h2
  | genState g k ih =>
    intro Q1 Q2 E1 E2 p s h1 h2
    obtain ⟨st, hs, h1⟩ := h1
    obtain ⟨st2, hs2, h2⟩ := h2
    rw [hs] at hs2; cases hs2
    exact ⟨st, hs, ih _ (s := s) h1 h2⟩
  | newGen c k ih => intro Q1 Q2 E1 E2 p s h1 h2; exact ih _ (s := { s with gens := s.gens.push (.fresh c) }) h1 h2
  | resume g r _ k ih =>
    intro Q1 Q2 E1 E2 p s h1 h2
    obtain ⟨res, s', hw, h1⟩ := h1
    obtain ⟨res2, s2, hw2, h2⟩ := h2
    obtain ⟨rfl, rfl⟩ := wakes_one hw hw2
    exact ⟨_, _, hw, ih _ (s := s2) h1 h2⟩
  | yield _ _ _ _ => intro Q1 Q2 E1 E2 p s h1; exact h1.elim
  | stack k ih => intro Q1 Q2 E1 E2 p s h1 h2; exact ih _ (s := s) h1 h2
  | fork _ _ => intro Q1 Q2 E1 E2 p s h1; exact h1.elim
  | thread k ih => intro Q1 Q2 E1 E2 p s h1 h2; exact ih _ (s := s) h1 h2
  | await _ _ _ _ _ => intro Q1 Q2 E1 E2 p s h1; exact h1.elim
theorem wpAny_both {α : Type} {M : Model} {A : Around} {t : Sem α} {Q1 Q2 : α → Shared → Prop} {E1 E2 : Value → Shared → Prop} {s : Shared} (h1 : wpAny M A t Q1 E1 s) (h2 : wpAny M A t Q2 E2 s) :
    wpAny M A t (fun a s' => Q1 a s' ∧ Q2 a s') (fun e s' => E1 e s' ∧ E2 e s') s := fun Γ p hΓ => wp_both t (h1 Γ p hΓ) (h2 Γ p hΓ)
end GenFz
namespace Mc
open PySem PySem.Spec PyProof.Rows L2 Evl GenW GenFz
/-! ### generators that sleep: what they know, what is theirs -/
abbrev E00 : XK := fun _ _ _ => False
/-- one generator: all that stays the same while it lives -/
structure GFam where
  P : Program
  w : World
  K : PySem.W.Frag
  mg : Str → Option Value
  base : Heap
  N : List Str
  qual : Str
  scope : Scope
  f : Addr
  cd : Value
  A : Around
  outer : List Env
  L : Addr
  Hb : Hp
  O : Shared → List Addr
  it : Nat → List V
  tot : Nat
  ends : Prop
def GFam.env (F : GFam) : Env := envOfC F.qual F.scope F.L F.f F.cd
def GFam.X (F : GFam) (s0 : Shared) (H0 : Hp) : Cx := gcxOf F.P F.w F.K F.mg F.base F.N F.qual F.scope F.f F.cd F.A F.outer { s0 with heap := cutH s0.heap F.L } H0 E00 []
theorem GFam.env_at (F : GFam) {s0 : Shared} (H0 : Hp) (h : F.L < s0.heap.objs.size) : (F.X s0 H0).env = F.env := by
  show envOfC F.qual F.scope (cutH s0.heap F.L).objs.size F.f F.cd = envOfC F.qual F.scope F.L F.f F.cd
  rw [cut_size (Nat.le_of_lt h)]
theorem GFam.A_at (F : GFam) {s0 : Shared} (H0 : Hp) (h : F.L < s0.heap.objs.size) : (F.X s0 H0).A = F.A.deeper F.env := by
  show F.A.deeper (envOfC F.qual F.scope (cutH s0.heap F.L).objs.size F.f F.cd) = F.A.deeper F.env
  rw [cut_size (Nat.le_of_lt h)]; rfl
/-- what is so of the family -/
structure GFam.Ok (F : GFam) (ps : List Str) : Prop where
  S : GScope F.N ps F.scope
  nc : ∀ y ∈ F.scope.names, y.2 ≠ .cell
  c0 : ∀ n, cellsFrom n F.scope.names [] = []
  hd : F.A.handled = none
  hb : F.base.objs.size ≤ F.L
  fr : ∀ b ∈ frs F.outer, b < F.L
  smp : ∀ b u, F.Hb b = some u → (∃ xs, u = .lst xs) ∨ (∃ xs, u = .tup xs) ∨ (∃ x C fs, u = .own x ∧ F.Hb x = some (.ins C b fs)) ∨ ∃ C dx fs, u = .ins C dx fs ∧ F.Hb dx = some (.own b)
/-- nothing that others knew of -/
def GFam.Free (F : GFam) (s0 : Shared) (b : Addr) : Prop := b ∈ F.O s0 ∨ s0.heap.get? b = none
/-- it may have more of its own than its frame -/
def GFam.Many (F : GFam) : Prop := ¬ ∀ s, F.O s = []
/-- from a waking on: what is neither known nor its own stands as it stood -/
structure GFam.Kept (F : GFam) (s0 s1 : Shared) : Prop where
  os : s1.os = s0.os
  bare : AllBare s1.gens
  keep : ∀ b o, s0.heap.get? b = some o → F.Hb b = none → b ∉ frs F.outer → b ≠ F.L → b ∉ F.O s0 → s1.heap.get? b = some o
  slot : ∀ b o, s0.heap.get? b = some o → b ∈ frs F.outer → ∃ sl, s1.heap.get? b = some { o with slots := sl }
  hok : HOk F.P F.w F.Hb s1.heap
/-- it may be woken: its own stands as it was, and its last item -/
structure GFam.Wk (F : GFam) (own : List (Addr × Obj)) (q : Addr) (oq : Obj) (s1 s : Shared) : Prop where
  env : Env0 F.P F.w F.K F.mg F.base F.A F.outer s F.Hb
  os : s.os = s1.os
  stays : ∀ p ∈ own, s.heap.get? p.1 = some p.2
  item : F.Hb q = none → s.heap.get? q = some oq
  sub : ∀ p ∈ own, p.1 = F.L ∨ p.1 ∈ F.O s
/-- what it owns behind an item -/
def GFam.Own (F : GFam) (s0 s1 : Shared) (q : Addr) (own : List (Addr × Obj)) : Prop := ∀ p ∈ own, s1.heap.get? p.1 = some p.2 ∧ F.Hb p.1 = none ∧ p.1 ≠ q ∧ p.1 ∉ frs F.outer ∧ (∀ v, p.2.data ≠ .cell v) ∧ (p.1 = F.L ∨ (F.Free s0 p.1 ∧ F.Many))
/-- the j-th item -/
def GFam.Item (F : GFam) (j : Nat) (s0 s1 : Shared) (q : Addr) (oq : Obj) : Prop := s1.heap.get? q = some oq ∧ (∀ H, ObjOk F.P F.w H s1.heap q (.tup (F.it j))) ∧ (F.Hb q = some (.tup (F.it j)) ∨ (F.Hb q = none ∧ F.Free s0 q))
/-- an item is handed out -/
def GFam.Y (F : GFam) : Protocol := fun n s0 v s1 kap => ∃ (q : Addr) (oq : Obj) (own : List (Addr × Obj)), v = .ref q ∧ 0 < n ∧ F.Kept s0 s1 ∧ F.Item (F.tot - n) s0 s1 q oq ∧ F.Own s0 s1 q own ∧ (∃ fo, (F.L, fo) ∈ own) ∧ ((1 < n ∨ F.ends) → ∀ s, F.Wk own q oq s1 s → kap (.send .none) s)
/-- it ends -/
def GFam.R (F : GFam) : GenEnd := fun n s0 r s1 => ((r = .ok (.ret .none) ∨ r = .ok .next) ∧ (n = 1 ∧ F.ends ∧ F.Kept s0 s1)) ∨ ∃ e : Value, r = .error e ∧ False
/-- all else that is young is known, frozen -/
def GFam.Cov (F : GFam) (s0 : Shared) (H0 : Hp) : Prop := ∀ b o, F.L ≤ b → s0.heap.get? b = some o → F.Hb b = none → b ≠ F.L → b ∉ F.O s0 → ∃ w, H0 b = some (.frz o w)
/-- what it knows at a waking: what it always knows, and frozen what it knew -/
def GFam.Lrn (F : GFam) (s0 : Shared) (H0 : Hp) : Prop := Ex F.Hb H0 ∧ ∀ b u, H0 b = some u → F.Hb b = some u ∨ ∃ o w, u = .frz o w ∧ s0.heap.get? b = some o ∧ F.Hb b = none ∧ (b ∈ F.O s0 ∨ (∃ xs, w = .tup xs) ∨ ∃ x, w = .own x)
/-- running since the waking in s0; ip: its own iterators as they stand -/
structure GFam.I (F : GFam) (s0 : Shared) (ip : List (Addr × Obj)) (σ : L2.St) (H : Hp) (s : Shared) : Prop where
  lt : F.L < s0.heap.objs.size
  main : ∃ H0 : Hp, F.Lrn s0 H0 ∧ Ex H0 H ∧ F.Cov s0 H0 ∧ Inv (F.X s0 H0) ip σ H s
  ipO : ∀ p ∈ ip, F.L ≤ p.1 ∧ F.Free s0 p.1 ∧ F.Many
section
variable {F : GFam} {ps : List Str} {s0 s s' : Shared} {ip : List (Addr × Obj)} {σ : L2.St} {H : Hp}
/-- less is known: that holds too -/
theorem hok_sub (ok : F.Ok ps) {h : Heap} (e : Ex F.Hb H) (x : HOk F.P F.w H h) : HOk F.P F.w F.Hb h := fun a o q => by
  have z := x a o (e _ _ q)
  rcases ok.smp a o q with ⟨xs, rfl⟩ | ⟨xs, rfl⟩ | ⟨y, _, _, rfl, _⟩ | ⟨C, dx, fs, rfl, d⟩
  · exact z
  · exact z
  · exact z
  · obtain ⟨_, r⟩ := z
    exact ⟨d, r⟩
theorem GFam.I.ex (I : F.I s0 ip σ H s) : Ex F.Hb H := by
  obtain ⟨_, l, e, _⟩ := I.main
  exact l.1.trans e
theorem GFam.noex (F : GFam) {H0 : Hp} (b : Addr) : b ∉ (F.X s0 H0).ex := fun z => absurd (show b ∈ ([] : List Addr) from z) (by simp)
/-- what is known and was not known all the time -/
theorem GFam.I.young (I : F.I s0 ip σ H s) {b : Addr} {u : HO} (h : H b = some u) (n : F.Hb b = none) : F.Free s0 b ∨ ∃ o w, u = .frz o w ∧ ((∃ xs, w = .tup xs) ∨ ∃ x, w = .own x) := by
  obtain ⟨H0, l, e, cv, inv⟩ := I.main
  cases g : s0.heap.get? b with
  | none => exact .inl (.inr g)
  | some o =>
    by_cases hO : b ∈ F.O s0
    · exact .inl (.inl hO)
    cases g0 : H0 b with
    | some u0 =>
      have hu := e _ _ g0
      rw [h] at hu; cases hu
      rcases l.2 b _ g0 with z | ⟨o', w, rfl, _, _, z | z⟩
      · rw [n] at z; cases z
      · exact absurd z hO
      · exact .inr ⟨o', w, rfl, z⟩
    | none =>
      by_cases lt : b < F.L
      · have z := inv.base.free b o ((cut_get lt).trans g) g0 (F.noex b)
        rw [h] at z; cases z
      · by_cases hL : b = F.L
        · have z : H (cutH s0.heap F.L).objs.size = none := inv.free
          rw [cut_size (Nat.le_of_lt I.lt), ← hL, h] at z; cases z
        · obtain ⟨w, z⟩ := cv b o (Nat.le_of_not_lt lt) g n hL hO
          rw [g0] at z; cases z
theorem GFam.I.kept (ok : F.Ok ps) (I : F.I s0 ip σ H s) : F.Kept s0 s := by
  have ex := I.ex
  obtain ⟨H0, l, e, cv, inv⟩ := I.main
  refine ⟨inv.os, inv.bare, fun b o g n hf hL hO => ?_, fun b o g hf => ?_, hok_sub ok ex inv.hok⟩
  · cases g0 : H0 b with
    | some u0 =>
      rcases l.2 b _ g0 with z | ⟨o', w, rfl, z, _⟩
      · rw [n] at z; cases z
      · rw [g] at z; cases z
        exact (inv.hok b _ (e _ _ g0)).1
    | none =>
      by_cases lt : b < F.L
      · exact inv.base.keep b o ((cut_get lt).trans g) g0 hf (F.noex b)
      · obtain ⟨w, z⟩ := cv b o (Nat.le_of_not_lt lt) g n hL hO
        rw [g0] at z; cases z
  · exact inv.base.slot b o ((cut_get (ok.fr b hf)).trans g) (inv.ok.frf b hf) hf (F.noex b)
theorem GFam.I.step {σ' : L2.St} {H0 H' : Hp} (I : F.I s0 ip σ H s) (l : F.Lrn s0 H0) (e : Ex H0 H) (cv : F.Cov s0 H0) (J : Inv (F.X s0 H0) ip σ' H' s') (e' : Ex H H') : F.I s0 ip σ' H' s' :=
  ⟨I.lt, ⟨H0, l, e.trans e', cv, J⟩, I.ipO⟩
end
/-! ### the judgement for a body; n: the items still to come -/
structure GNEnds where
  nx : Nat → L2.St → Hp → Prop
  rt : Nat → VK
  bk : Nat → L2.St → Hp → Prop := fun _ _ _ => False
  ct : Nat → L2.St → Hp → Prop := fun _ _ _ => False
abbrev TGN := GNEnds → Nat → L2.St → Hp → Prop
structure GNC (F : GFam) (c : Code) (fs : List Frame) (gd : Bool → Bool) : Prop where
  over : F.A.over c fs = F.A.deeper F.env
  split : splitAtGen fs = none
  guard : fs.any Frame.guarded = false
  gd : gd false = false
def GFam.SP (F : GFam) (n : Nat) (s0 : Shared) (ip : List (Addr × Obj)) (D : GNEnds) (f : Flow) (s : Shared) : Prop := match f with
  | .next => ∃ σ H, F.I s0 ip σ H s ∧ D.nx n σ H
  | .brk => ∃ σ H, F.I s0 ip σ H s ∧ D.bk n σ H
  | .cont => ∃ σ H, F.I s0 ip σ H s ∧ D.ct n σ H
  | .ret u => ∃ v σ H, F.I s0 ip σ H s ∧ L2.RelV v u ∧ D.rt n v H
structure GNK (F : GFam) (ip : List (Addr × Obj)) (R : GenEnd) (c : Code) (fs : List Frame) (K : Flow → Sem PySem.Fin) (J : Value → Sem PySem.Fin) (D : GNEnds) : Prop where
  ok : ∀ (n : Nat) (s0 s : Shared) (f : Flow), F.SP n s0 ip D f s → Seg (model F.P F.w) F.A R F.Y (n + 1) s0 c (K f) fs s
  exc : ∀ (n : Nat) (s0 : Shared) (H0 : Hp) (e : Value) (s : Shared), F.L < s0.heap.objs.size → (F.X s0 H0).xe e s → Seg (model F.P F.w) F.A R F.Y (n + 1) s0 c (J e) fs s
structure GN (F : GFam) (st : Stmt) (t : TGN) : Prop where
  run : ∀ (ip : List (Addr × Obj)) (R : GenEnd) (n : Nat) (s0 : Shared) (c : Code) (fs : List Frame) (K : Flow → Sem PySem.Fin) (J : Value → Sem PySem.Fin) (gd : Bool → Bool) (lv : List Value → List Value) (s : Shared) (σ : L2.St) (H : Hp) (D : GNEnds),
    GNC F c fs gd → GNK F ip R c fs K J D → F.I s0 ip σ H s → t D n σ H → Seg (model F.P F.w) F.A R F.Y (n + 1) s0 c ((exec st F.env).wrap K J gd lv) fs s
structure GNs (F : GFam) (st : List Stmt) (t : TGN) : Prop where
  run : ∀ (ip : List (Addr × Obj)) (R : GenEnd) (n : Nat) (s0 : Shared) (c : Code) (fs : List Frame) (K : Flow → Sem PySem.Fin) (J : Value → Sem PySem.Fin) (gd : Bool → Bool) (lv : List Value → List Value) (s : Shared) (σ : L2.St) (H : Hp) (D : GNEnds),
    GNC F c fs gd → GNK F ip R c fs K J D → F.I s0 ip σ H s → t D n σ H → Seg (model F.P F.w) F.A R F.Y (n + 1) s0 c ((execs st F.env).wrap K J gd lv) fs s
section
variable {F : GFam} {st : Stmt} {rest : List Stmt}
def tKeep (t : TS) : TGN := fun D n σ H => t { nx := fun σ' H' => Ex H H' ∧ D.nx n σ' H', rt := fun v H' => Ex H H' ∧ D.rt n v H', bk := fun σ' H' => Ex H H' ∧ D.bk n σ' H', ct := fun σ' H' => Ex H H' ∧ D.ct n σ' H' } σ H
theorem gn_ps {t : TS} (h : ∀ s0 H0, PS (F.X s0 H0) st t) : GN F st (tKeep t) := by
  refine ⟨fun ip R n s0 c fs K J gd lv s σ H D g k I ht => ?_⟩
  obtain ⟨H0, l, e0, cv, inv⟩ := I.main
  have lt := I.lt
  refine seg_wrap ?_
  rw [g.over, ← F.A_at H0 lt, ← F.env_at H0 lt]
  refine wpAny_mono ((h s0 H0).run _ s σ H _ inv ht) (fun f s' hs => k.ok n s0 s' f ?_) fun x s' hx => k.exc n s0 H0 x s' lt hx
  cases f with
  | next => obtain ⟨σ', H', J', e, q⟩ := hs; exact ⟨σ', H', I.step l e0 cv J' e, q⟩
  | brk => obtain ⟨σ', H', J', e, q⟩ := hs; exact ⟨σ', H', I.step l e0 cv J' e, q⟩
  | cont => obtain ⟨σ', H', J', e, q⟩ := hs; exact ⟨σ', H', I.step l e0 cv J' e, q⟩
  | ret u => obtain ⟨v, σ', H', J', r, e, q⟩ := hs; exact ⟨v, σ', H', I.step l e0 cv J' e, r, q⟩
def tN0 : TGN := fun D n σ H => D.nx n σ H
theorem gns_nil : GNs F [] tN0 := by
  refine ⟨fun ip R n s0 c fs K J gd lv s σ H D g k I ht => ?_⟩
  exact seg_execs_nil (k.ok n s0 s .next ⟨σ, H, I, ht⟩)
def tNThen (t u : TGN) : TGN := fun D n σ H => t { D with nx := fun n' σ' H' => u D n' σ' H' } n σ H
theorem gns_cons {t u : TGN} (a : GN F st t) (b : GNs F rest u) : GNs F (st :: rest) (tNThen t u) := by
  refine ⟨fun ip R n s0 c fs K J gd lv s σ H D g k I ht => ?_⟩
  refine seg_execs_cons (a.run ip R n s0 c fs _ J gd lv s σ H { D with nx := fun n' σ' H' => u D n' σ' H' } g ⟨fun n' s0' s' f hs => ?_, k.exc⟩ I ht)
  cases f with
  | next =>
    obtain ⟨σ', H', I', q⟩ := hs
    exact b.run ip R n' s0' c fs K J gd lv s' σ' H' D g k I' q
  | brk => exact k.ok n' s0' s' .brk hs
  | cont => exact k.ok n' s0' s' .cont hs
  | ret u => exact k.ok n' s0' s' (.ret u) hs
open Classical in
/-- the young objects of a heap with a property, as they stand -/
theorem young_list (h : Heap) (p : Addr → Obj → Prop) : ∃ l : List (Addr × Obj), ∀ b o, (b, o) ∈ l ↔ h.get? b = some o ∧ p b o := by
  refine ⟨((List.range h.objs.size).filterMap fun b => (h.get? b).map fun o => (b, o)).filter fun q => decide (p q.1 q.2), fun b o => ?_⟩
  rw [List.mem_filter, List.mem_filterMap]
  constructor
  · rintro ⟨⟨a, _, e⟩, z⟩
    cases g : h.get? a with
    | none => rw [g] at e; cases e
    | some u =>
      rw [g] at e
      cases e
      exact ⟨g, of_decide_eq_true z⟩
  · rintro ⟨g, z⟩
    exact ⟨⟨b, List.mem_range.mpr (Heap.lt_size g), by rw [g]; rfl⟩, decide_eq_true z⟩
/-! what it knew, frozen -/
def lrn (H : Hp) : List (Addr × Obj × HO) → Hp
  | [] => H
  | e :: es => upd (lrn H es) e.1 (.frz e.2.1 e.2.2)
theorem lrn_none {H : Hp} {b : Addr} (n : H b = none) : ∀ {es : List (Addr × Obj × HO)}, (∀ e ∈ es, e.1 ≠ b) → lrn H es b = none
  | [], _ => n
  | e :: es, h => by
    show upd _ _ _ b = none
    rw [upd_ne (fun z => h e List.mem_cons_self z.symm)]
    exact lrn_none n fun e he => h e (List.mem_cons_of_mem _ he)
theorem lrn_of {H : Hp} {b : Addr} {u : HO} : ∀ {es : List (Addr × Obj × HO)}, lrn H es b = some u → H b = some u ∨ ∃ e ∈ es, e.1 = b ∧ u = .frz e.2.1 e.2.2
  | [], h => .inl h
  | e :: es, h => by
    have h : upd (lrn H es) e.1 (.frz e.2.1 e.2.2) b = some u := h
    by_cases hb : b = e.1
    · rw [hb, upd_same] at h; cases h
      exact .inr ⟨e, List.mem_cons_self, hb.symm, rfl⟩
    · rw [upd_ne hb] at h
      rcases lrn_of h with z | ⟨e', he, z⟩
      · exact .inl z
      · exact .inr ⟨e', List.mem_cons_of_mem _ he, z⟩
theorem lrn_ex {H : Hp} : ∀ {es : List (Addr × Obj × HO)}, (∀ e ∈ es, H e.1 = none) → Ex H (lrn H es)
  | [], _ => Ex.refl _
  | e :: es, h => fun b u q => by
    have z := lrn_ex (fun e he => h e (List.mem_cons_of_mem _ he)) b u q
    show upd _ _ _ b = some u
    rw [upd_ne (ne_of_none q (h e List.mem_cons_self))]
    exact z
theorem lrn_at {H : Hp} {ys : List (Addr × Obj × HO)} : ∀ {es : List (Addr × Obj × HO)}, (es.map (·.1)).Nodup → ∀ e ∈ es, lrn H (es ++ ys) e.1 = some (.frz e.2.1 e.2.2)
  | [], _, _, h => by simp at h
  | a :: es, n, e, h => by
    have n := List.nodup_cons.mp n
    rcases List.mem_cons.mp h with z | z
    · rw [z]; exact upd_same
    · show upd (lrn H (es ++ ys)) a.1 _ e.1 = _
      rw [upd_ne (fun q => n.1 (List.mem_map.mpr ⟨e, z, q⟩))]
      exact lrn_at n.2 e z
theorem lrn_some {H : Hp} : ∀ {es : List (Addr × Obj × HO)}, ∀ e ∈ es, ∃ e' ∈ es, e'.1 = e.1 ∧ lrn H es e.1 = some (.frz e'.2.1 e'.2.2)
  | [], _, h => by simp at h
  | a :: es, e, h => by
    by_cases q : e.1 = a.1
    · exact ⟨a, List.mem_cons_self, q.symm, by rw [q]; exact upd_same⟩
    · rcases List.mem_cons.mp h with z | z
      · exact absurd (by rw [z]) q
      · obtain ⟨e', h1, h2, h3⟩ := lrn_some e z
        refine ⟨e', List.mem_cons_of_mem _ h1, h2, ?_⟩
        show upd (lrn H es) a.1 _ e.1 = _
        rw [upd_ne q]; exact h3
theorem lrn_hok {P : Program} {w : World} {H : Hp} {h : Heap} {es : List (Addr × Obj × HO)} (x : HOk P w H h) (n : ∀ e ∈ es, H e.1 = none) (q : ∀ e ∈ es, h.get? e.1 = some e.2.1 ∧ ∀ H, ObjOk P w H h e.1 e.2.2) : HOk P w (lrn H es) h := fun a o g => by
  rcases lrn_of g with z | ⟨e, he, rfl, rfl⟩
  · exact (x a o z).stay (fun b u _ r => r) (fun b r => lrn_ex n _ _ r) fun b xs r => lrn_ex n _ _ r
  · obtain ⟨q1, q2⟩ := q e he
    exact ⟨q1, q2 _⟩
/-- woken: the context anew -/
theorem GFam.woken {F : GFam} {ps : List Str} (ok : F.Ok ps) {q : Addr} {oq : Obj} {s1 s : Shared} {own ip : List (Addr × Obj)} {es : List (Addr × Obj × HO)} {σ : L2.St} {fo : Obj} {m : Str → Option Value} (W : F.Wk own q oq s1 s) (hL : (F.L, fo) ∈ own) (hLn : F.Hb F.L = none)
    (hip : ∀ p ∈ ip, p ∈ own ∧ F.Hb p.1 = none ∧ p.1 ≠ F.L ∧ F.L ≤ p.1 ∧ ∀ v, p.2.data ≠ .cell v)
    (hes : ∀ e ∈ es, s.heap.get? e.1 = some e.2.1 ∧ F.Hb e.1 = none ∧ F.base.get? e.1 = none ∧ e.1 ∉ frs F.outer ∧ e.1 ≠ F.L ∧ (∀ p ∈ ip, p.1 ≠ e.1) ∧ (∀ h : Heap, h.get? e.1 = some e.2.1 → ∀ H, ObjOk F.P F.w H h e.1 e.2.2) ∧ (e.1 ∈ F.O s ∨ (∃ xs, e.2.2 = .tup xs) ∨ ∃ x, e.2.2 = .own x))
    (ns : ∀ h : Heap, h.get? F.L = some fo → h.Ns F.L m) (vars : ∀ (i : Nat) (x : Str) (v : V), F.N[i]? = some x → σ[i]? = some (some v) → Vis F.scope x → ∃ u, L2.RelV v u ∧ F.scope.names.lookup x = some .local ∧ m x = some u) (len : σ.length = F.N.length) :
    ∃ ys, F.I s ip σ (lrn F.Hb (es ++ ys)) s := by
  obtain ⟨e0, os, st, _, sub⟩ := W
  have gL := st _ hL
  have lt : F.L < s.heap.objs.size := Heap.lt_size gL
  obtain ⟨yl, hy⟩ := young_list s.heap fun b o => F.L ≤ b ∧ F.Hb b = none ∧ b ≠ F.L ∧ b ∉ F.O s
  have ipO : ∀ p ∈ ip, p.1 ∈ F.O s := fun p hp => by
    obtain ⟨a, _, c, _⟩ := hip p hp
    rcases sub p a with z | z
    · exact absurd z c
    · exact z
  have hes : ∀ e ∈ es ++ yl.map (fun p => ((p.1, p.2, HO.own 0) : Addr × Obj × HO)), s.heap.get? e.1 = some e.2.1 ∧ F.Hb e.1 = none ∧ F.base.get? e.1 = none ∧ e.1 ∉ frs F.outer ∧ e.1 ≠ F.L ∧ (∀ p ∈ ip, p.1 ≠ e.1) ∧ (∀ h : Heap, h.get? e.1 = some e.2.1 → ∀ H, ObjOk F.P F.w H h e.1 e.2.2) ∧ (e.1 ∈ F.O s ∨ (∃ xs, e.2.2 = .tup xs) ∨ ∃ x, e.2.2 = .own x) := fun e he => by
    rcases List.mem_append.mp he with z | z
    · exact hes e z
    · obtain ⟨p, hp, rfl⟩ := List.mem_map.mp z
      obtain ⟨g, le, n, ne, nO⟩ := (hy p.1 p.2).mp hp
      refine ⟨g, n, ?_, fun z => absurd le (Nat.not_le_of_lt (ok.fr _ z)), ne, fun p' hp' z => nO (z ▸ ipO p' hp'), fun h z H => ⟨_, z⟩, .inr (.inr ⟨0, rfl⟩)⟩
      cases z : F.base.get? p.1 with
      | none => rfl
      | some o => exact absurd (Nat.lt_of_lt_of_le (Heap.lt_size z) ok.hb) (Nat.not_lt_of_le le)
  refine ⟨yl.map (fun p => (p.1, p.2, HO.own 0)), ?_⟩
  have cov : ∀ b o, F.L ≤ b → s.heap.get? b = some o → F.Hb b = none → b ≠ F.L → b ∉ F.O s → (b, o, HO.own 0) ∈ es ++ yl.map (fun p => ((p.1, p.2, HO.own 0) : Addr × Obj × HO)) := fun b o h1 h2 h3 h4 h5 => List.mem_append_right _ (List.mem_map.mpr ⟨(b, o), (hy b o).mpr ⟨h2, h1, h3, h4, h5⟩, rfl⟩)
  generalize es ++ yl.map (fun p => ((p.1, p.2, HO.own 0) : Addr × Obj × HO)) = E at hes cov ⊢
  have hn : ∀ e ∈ E, F.Hb e.1 = none := fun e he => (hes e he).2.1
  refine ⟨lt, ⟨lrn F.Hb E, ⟨lrn_ex hn, fun b u g => ?_⟩, Ex.refl _, fun b o h1 h2 h3 h4 h5 => ?_, ?_⟩, fun p hp => ⟨(hip p hp).2.2.2.1, .inl (ipO p hp), fun z => by
    have y := ipO p hp
    rw [z s] at y; cases y⟩⟩
  · rcases lrn_of g with z | ⟨e, he, rfl, rfl⟩
    · exact .inl z
    · obtain ⟨a, b, _, _, _, _, _, d⟩ := hes e he
      exact .inr ⟨_, _, rfl, a, b, d⟩
  · obtain ⟨e', he', z1, z2⟩ := lrn_some (H := F.Hb) _ (cov b o h1 h2 h3 h4 h5)
    have z3 := (hes e' he').1
    have z1 : e'.1 = b := z1
    rw [z1, h2] at z3; cases z3
    exact ⟨_, z2⟩
  · have e1 : Env0 F.P F.w F.K F.mg F.base F.A F.outer s (lrn F.Hb E) := ⟨e0.frames, e0.mod, fun b o g => ⟨(e0.bs b o g).1, lrn_none (e0.bs b o g).2 fun e he z => by
      have := (hes e he).2.2.1
      rw [z, g] at this; cases this⟩, e0.bsz, e0.funs, fun b hb => lrn_none (e0.frf b hb) fun e he z => (hes e he).2.2.2.1 (z ▸ hb), lrn_hok e0.hok hn fun e he => ⟨(hes e he).1, (hes e he).2.2.2.2.2.2.1 _ (hes e he).1⟩, e0.bare⟩
    refine gen_inv ok.S ok.nc ok.c0 ok.hd e1 lt ok.hb ok.fr ⟨m, ns _ gL, fun i x v h1 h2 h3 => ?_⟩ (lrn_none hLn fun e he => (hes e he).2.2.2.2.1) (fun p hp => ?_) len
    · obtain ⟨u, r, k, e⟩ := vars i x v h1 h2 h3
      exact ⟨u, r, .inl ⟨k, e⟩⟩
    · have hp : p ∈ ip := by simpa using hp
      obtain ⟨a, b, c, d, f⟩ := hip p hp
      exact ⟨st p a, lrn_none b fun e he q => (hes e he).2.2.2.2.2.1 p hp q.symm, c, fun q => absurd d (Nat.not_le_of_lt (ok.fr _ q)), f⟩
end
end Mc
namespace Mc
open PySem PySem.Spec PyProof.Rows L2 Evl GenW GenFz
section
variable {F : GFam} {st : Stmt} {rest : List Stmt}
/-! ### yield -/
def tYldQ (b : Prop) (Hb : Hp) (it : Nat → List V) (tot : Nat) (ends : Prop) (te : TE) : TGN := fun D n σ H => ∃ m, n = m + 1 ∧ te σ H fun x H1 => Ex H H1 ∧ ∃ (q : Addr) (kn : Option (Addr × List V)), x = .ref q ∧ H1 q = some (.tup (it (tot - (m + 1)))) ∧ (∀ c ks, kn = some (c, ks) → b ∧ Rd H1 c (.lst ks) ∧ Hb c = none) ∧
  ((0 < m ∨ ends) → ∀ H2, Ex Hb H2 → Rd H2 q (.tup (it (tot - (m + 1)))) → (∀ c ks, kn = some (c, ks) → Rd H2 c (.lst ks)) → D.nx m σ H2)
abbrev tYldP : Hp → (Nat → List V) → Nat → Prop → TE → TGN := tYldQ True
abbrev tYld (F : GFam) (te : TE) : TGN := tYldP F.Hb F.it F.tot F.ends te
theorem rd_lst {P : Program} {w : World} {H : Hp} {h : Heap} {c : Addr} {ks : List V} (x : HOk P w H h) (r : Rd H c (.lst ks)) : ∃ oc : Obj, h.get? c = some oc ∧ (∀ v, oc.data ≠ .cell v) ∧ ∀ (h' : Heap) (H' : Hp), h'.get? c = some oc → ObjOk P w H' h' c (.lst ks) := by
  obtain ⟨z, its, n, rv, e⟩ := r.ok x
  exact ⟨_, e, (fun v q => by cases q), fun h' H' q => ⟨z, its, n, rv, q⟩⟩
theorem rd_tup {P : Program} {w : World} {H : Hp} {h : Heap} {c : Addr} {ks : List V} (x : HOk P w H h) (r : Rd H c (.tup ks)) : ∃ oc : Obj, h.get? c = some oc ∧ ∀ (h' : Heap) (H' : Hp), h'.get? c = some oc → ObjOk P w H' h' c (.tup ks) := by
  obtain ⟨z, its, rv, ob, e, d⟩ := r.ok x
  exact ⟨ob, e, fun h' H' q => ⟨z, its, rv, ob, q, d⟩⟩
theorem gn_yield {ps : List Str} {e : Expr} {yp0 pos : Pos} {te : TE} {bM : Prop} (ok : F.Ok ps) (hM : bM → F.Many) (he : ∀ s0 H0, PE (F.X s0 H0) e te) (hi : interactive F.env = false) : GN F (.Expr (.Yield (some e) yp0) pos) (tYldQ bM F.Hb F.it F.tot F.ends te) := by
  refine ⟨fun ip R n s0 c fs K J gd lv s σ H D g k I ht => ?_⟩
  obtain ⟨n, rfl, ht⟩ := ht
  obtain ⟨H0, l, e0, cv, inv⟩ := I.main
  have lt := I.lt
  refine seg_Expr_Yield g.split g.gd g.guard ?_ ok.S.co hi
  rw [g.over, ← F.A_at H0 lt, ← F.env_at H0 lt]
  refine wpAny_mono ((he s0 H0).run _ s σ H _ inv ht) (fun v s1 hv => ?_) fun x s1 hx => k.exc (n + 1) s0 H0 x s1 lt hx
  obtain ⟨x, H1, inv1, rv, ex, q, kn, rfl, hq, hkn, hnx⟩ := hv
  have I1 : F.I s0 ip σ H1 s1 := I.step l e0 cv inv1 ex
  intro kap hk
  have exb := I1.ex
  have eL : (cutH s0.heap F.L).objs.size = F.L := cut_size (Nat.le_of_lt lt)
  obtain ⟨m, hns, hvars⟩ := inv1.loc
  have hns : s1.heap.Ns (cutH s0.heap F.L).objs.size m := hns
  rw [eL] at hns
  obtain ⟨fo, es, ep, hfo, hdat, hkeys, hfind⟩ := hns
  have freeL : H1 F.L = none := by
    have z : H1 (cutH s0.heap F.L).objs.size = none := inv1.free
    rw [eL] at z; exact z
  have bno : ∀ {b : Addr}, H1 b = none → F.Hb b = none := fun {b} z => by
    cases g : F.Hb b with
    | none => rfl
    | some u => rw [exb _ _ g] at z; cases z
  have frn : ∀ b ∈ frs F.outer, H1 b = none := fun b hb => by
    obtain ⟨_, o, ho, _⟩ := inv1.ok.funs.mem hb
    exact inv1.base.free b o ho (inv1.ok.frf b hb) (F.noex b)
  have ban : ∀ b o, F.base.get? b = some o → H1 b = none := fun b o z => (inv1.bs b o z).2
  have pin : ∀ p ∈ ip, s1.heap.get? p.1 = some p.2 ∧ H1 p.1 = none ∧ p.1 ≠ F.L ∧ p.1 ∉ frs F.outer ∧ ∀ v, p.2.data ≠ .cell v := fun p hp => by
    obtain ⟨a, b, c, f, d⟩ := inv1.pin p (List.mem_append_right _ hp)
    have c : p.1 ≠ (cutH s0.heap F.L).objs.size := c
    rw [eL] at c
    exact ⟨a, b, c, f, d⟩
  obtain ⟨oq, gq, obq⟩ := rd_tup inv1.hok (Rd.of hq)
  have qL : q ≠ F.L := fun z => by rw [z, freeL] at hq; cases hq
  -- the list of its own
  obtain ⟨kl, hMk, hkl, hkl2⟩ : ∃ kl : List (Addr × Obj × List V), (∀ e ∈ kl, F.Many) ∧ (∀ e ∈ kl, s1.heap.get? e.1 = some e.2.1 ∧ F.Hb e.1 = none ∧ (∀ v, e.2.1.data ≠ .cell v) ∧ Rd H1 e.1 (.lst e.2.2) ∧ ∀ (h' : Heap) (H' : Hp), h'.get? e.1 = some e.2.1 → ObjOk F.P F.w H' h' e.1 (.lst e.2.2)) ∧
      (kl = [] ∧ kn = none ∨ ∃ e, kl = [e] ∧ kn = some (e.1, e.2.2)) := by
    cases kn with
    | none => exact ⟨[], (fun e he => by simp at he), (fun e he => by simp at he), .inl ⟨rfl, rfl⟩⟩
    | some p =>
      obtain ⟨bm, a, b⟩ := hkn p.1 p.2 rfl
      obtain ⟨oc, g1, g2, g3⟩ := rd_lst inv1.hok a
      refine ⟨[(p.1, oc, p.2)], fun _ _ => hM bm, fun e he => ?_, .inr ⟨_, rfl, rfl⟩⟩
      rw [List.mem_singleton.mp he]
      exact ⟨g1, b, g2, a, g3⟩
  have klk : ∀ e ∈ kl, H1 e.1 ≠ none := fun e he z => by
    obtain ⟨_, _, _, r, _⟩ := hkl e he
    rcases r with r | ⟨_, r⟩ <;> rw [z] at r <;> cases r
  have klq : ∀ e ∈ kl, e.1 ≠ q := fun e he z => by
    obtain ⟨_, _, _, r, _⟩ := hkl e he
    rcases r with r | ⟨_, r⟩ <;> rw [z, hq] at r <;> cases r
  have kept := I1.kept ok
  refine ⟨q, oq, (F.L, fo) :: (ip ++ kl.map fun e => (e.1, e.2.1)), rv, Nat.succ_pos n, kept, ⟨gq, fun H => obq _ H gq, ?_⟩, fun p hp => ?_, ⟨fo, List.mem_cons_self⟩, fun hn s2 W => hk .none s2 ?_⟩
  · cases g : F.Hb q with
    | some u =>
      have z := exb _ _ g
      rw [hq] at z; cases z
      exact .inl rfl
    | none =>
      refine .inr ⟨rfl, ?_⟩
      rcases I1.young hq g with z | ⟨o, w, z, _⟩
      · exact z
      · cases z
  · rcases List.mem_cons.mp hp with z | z
    · rw [z]
      exact ⟨hfo, bno freeL, fun z => qL z.symm, fun z => absurd (ok.fr _ z) (Nat.lt_irrefl _), (fun v q => by rw [hdat] at q; cases q), .inl rfl⟩
    · rcases List.mem_append.mp z with z | z
      · obtain ⟨a, b, c, f, d⟩ := pin p z
        exact ⟨a, bno b, (fun z => by rw [z, hq] at b; cases b), f, d, .inr (I1.ipO p z).2⟩
      · obtain ⟨e, he, rfl⟩ := List.mem_map.mp z
        obtain ⟨a, b, d, r, _⟩ := hkl e he
        refine ⟨a, b, klq e he, fun z => klk e he (frn _ z), d, .inr ⟨?_, hMk e he⟩⟩
        rcases r with r | ⟨o', r⟩
        · rcases I1.young r b with z | ⟨o, w, z, _⟩
          · exact z
          · cases z
        · rcases I1.young r b with z | ⟨o, w, z, ⟨xs, y⟩ | ⟨x, y⟩⟩
          · exact z
          · cases z; cases y
          · cases z; cases y
  · obtain ⟨es0, hes0, hnd, hq2⟩ : ∃ es0 : List (Addr × Obj × HO), (∀ e ∈ es0, e = (q, oq, .tup (F.it (F.tot - (n + 1)))) ∧ F.Hb q = none) ∧ (es0.map (·.1)).Nodup ∧ (F.Hb q = none → (q, oq, .tup (F.it (F.tot - (n + 1)))) ∈ es0) := by
      cases g : F.Hb q with
      | none => exact ⟨[(q, oq, .tup (F.it (F.tot - (n + 1))))], fun e he => ⟨List.mem_singleton.mp he, rfl⟩, by simp, fun _ => List.mem_cons_self⟩
      | some u => exact ⟨[], fun e he => by simp at he, by simp, fun z => nomatch z⟩
    have memE : ∀ e ∈ es0 ++ kl.map (fun e => ((e.1, e.2.1, HO.lst e.2.2) : Addr × Obj × HO)), (e = (q, oq, .tup (F.it (F.tot - (n + 1)))) ∧ F.Hb q = none) ∨ ∃ e' ∈ kl, e = (e'.1, e'.2.1, .lst e'.2.2) := fun e he => by
      rcases List.mem_append.mp he with z | z
      · exact .inl (hes0 e z)
      · obtain ⟨e', h', z⟩ := List.mem_map.mp z
        exact .inr ⟨e', h', z.symm⟩
    have nodE : ((es0 ++ kl.map (fun e => ((e.1, e.2.1, HO.lst e.2.2) : Addr × Obj × HO))).map (·.1)).Nodup := by
      rcases hkl2 with ⟨z, _⟩ | ⟨e, z, _⟩
      · rw [z]; simpa using hnd
      · subst z
        rw [List.map_append]
        refine List.nodup_append.mpr ⟨hnd, by simp, fun a ha b hb z => ?_⟩
        obtain ⟨e1, h1, rfl⟩ := List.mem_map.mp ha
        have hb : b = e.1 := by simpa using hb
        have := (hes0 e1 h1).1
        rw [this] at z
        exact klq e List.mem_cons_self (hb ▸ z.symm)
    obtain ⟨ys, I2⟩ := F.woken ok (q := q) (oq := oq) (s1 := s1) (s := s2) (ip := ip) (es := es0 ++ kl.map (fun e => ((e.1, e.2.1, HO.lst e.2.2) : Addr × Obj × HO))) (σ := σ) (fo := fo) (m := m) W List.mem_cons_self (bno freeL)
      (fun p hp => ⟨List.mem_cons_of_mem _ (List.mem_append_left _ hp), bno (pin p hp).2.1, (pin p hp).2.2.1, (I1.ipO p hp).1, (pin p hp).2.2.2.2⟩)
      (fun e he => by
        rcases memE e he with ⟨rfl, z⟩ | ⟨e', h', rfl⟩
        · refine ⟨W.item z, z, ?_, fun y => ?_, qL, fun p hp y => ?_, fun h y H => obq h H y, .inr (.inl ⟨_, rfl⟩)⟩
          · cases g : F.base.get? q with
            | none => rfl
            | some o => rw [ban q o g] at hq; cases hq
          · rw [frn _ y] at hq; cases hq
          · have := (pin p hp).2.1
            have y : p.1 = q := y
            rw [y, hq] at this; cases this
        · obtain ⟨a, b, d, r, f⟩ := hkl e' h'
          have mo : (e'.1, e'.2.1) ∈ (F.L, fo) :: (ip ++ kl.map fun e => (e.1, e.2.1)) := List.mem_cons_of_mem _ (List.mem_append_right _ (List.mem_map.mpr ⟨e', h', rfl⟩))
          have nL : e'.1 ≠ F.L := fun y => klk e' h' (by rw [y]; exact freeL)
          refine ⟨W.stays _ mo, b, ?_, fun y => klk e' h' (frn _ y), nL, fun p hp y => ?_, fun h y H => f h H y, ?_⟩
          · cases g : F.base.get? e'.1 with
            | none => rfl
            | some o => exact absurd (ban _ o g) (klk e' h')
          · have := (pin p hp).2.1
            have y : p.1 = e'.1 := y
            rw [y] at this
            exact klk e' h' this
          · rcases W.sub _ mo with y | y
            · exact absurd y nL
            · exact .inl y) (fun h q => ⟨fo, es, ep, q, hdat, hkeys, hfind⟩) (fun i y v h1 h2 h3 => by
        obtain ⟨u, r, lk⟩ := hvars i y v h1 h2 h3
        refine ⟨u, r, ?_⟩
        rcases lk with z | ⟨z | z, _⟩
        · exact z
        · exact absurd rfl (ok.nc _ (PySem.mem_of_lookup z))
        · exact absurd rfl (ok.S.nofree _ (PySem.mem_of_lookup z))) inv1.len
    refine k.ok n s2 s2 .next ⟨σ, _, I2, hnx (hn.imp (fun z => by omega) id) _ I2.ex ?_ fun c ks hc => ?_⟩
    · cases g : F.Hb q with
      | none => exact .inr ⟨oq, lrn_at nodE _ (List.mem_append_left _ (hq2 g))⟩
      | some u =>
        have z := exb _ _ g
        rw [hq] at z; cases z
        exact .inl (I2.ex _ _ g)
    · rcases hkl2 with ⟨_, z⟩ | ⟨e, z, z2⟩
      · rw [z] at hc; cases hc
      · rw [z2] at hc; cases hc
        exact .inr ⟨e.2.1, lrn_at nodE (e.1, e.2.1, .lst e.2.2) (List.mem_append_right _ (List.mem_map.mpr ⟨e, by rw [z]; exact List.mem_cons_self, rfl⟩))⟩
/-! ### loops -/
theorem gnc_loop {c c' : Code} {fs : List Frame} {gd : Bool → Bool} {kk : Result → Sem PySem.Fin} {l kp : List Value} {p : Pos} (g : GNC F c fs gd) (hw : c'.weight = 0) (hu : c'.cUnits = 0) : GNC F c' (.ret kk none (gd false) l c p kp :: fs) id := by
  refine ⟨(over_loop hw hu).trans g.over, ?_, ?_, rfl⟩
  · show (splitAtGen fs).map _ = none
    rw [g.split]; rfl
  · show (gd false || fs.any Frame.guarded) = false
    rw [g.gd, g.guard]; rfl
theorem gn_back {ip : List (Addr × Obj)} {R : GenEnd} {c : Code} {fs : List Frame} {K : Flow → Sem PySem.Fin} {J : Value → Sem PySem.Fin} {gd : Bool → Bool} {lv : List Value → List Value} {D : GNEnds} {n : Nat} {s0 s : Shared} {H0 : Hp} {e : Value} (g : GNC F c fs gd) (k : GNK F ip R c fs K J D) (lt : F.L < s0.heap.objs.size)
    (h : cameBackBy (model F.P F.w) (F.A.deeper F.env) F.env (F.X s0 H0).xe e s) : Seg (model F.P F.w) F.A R F.Y (n + 1) s0 c (((Sem.raise e : Sem Flow).onRaise (cameBack F.env)).wrap K J gd lv) fs s := by
  show Seg _ _ _ _ _ _ _ (((cameBack F.env e).bind fun _ => (Sem.raise e : Sem Flow)).wrap K J gd lv) _ _
  rw [Sem.bind_eq_wrap, Sem.wrap_wrap]
  refine seg_wrap ?_
  rw [g.over]
  exact wpAny_mono h (fun _ s1 hx => k.exc n s0 H0 e s1 lt hx) fun x s1 hx => k.exc n s0 H0 x s1 lt hx
theorem gn_off {ip : List (Addr × Obj)} {R : GenEnd} {c c' : Code} {fs : List Frame} {K : Flow → Sem PySem.Fin} {J : Value → Sem PySem.Fin} {gd : Bool → Bool} {lv : List Value → List Value} {D : GNEnds} {p : Pos} (hp : ∀ s0 H0, PassesOwn (model F.P F.w) (F.X s0 H0).A (F.X s0 H0).env (F.X s0 H0).xe) (g : GNC F c fs gd) (k : GNK F ip R c fs K J D) (hw : c'.weight = 0) (hu : c'.cUnits = 0)
    (n : Nat) (s0 : Shared) (H0 : Hp) (x : Value) (s1 : Shared) (lt : F.L < s0.heap.objs.size) (hx : (F.X s0 H0).xe x s1) : Seg (model F.P F.w) F.A R F.Y (n + 1) s0 c' (offLoop F.env x)
      (.ret (fun r => ((match r with | .ok f => (.pure f : Sem Flow) | .error e => .raise e).onRaise (cameBack F.env)).wrap K J gd lv) none (gd false) (lv []) c p [] :: fs) s1 := by
  have po := hp s0 H0
  rw [F.A_at H0 lt, F.env_at H0 lt] at po
  refine seg_wrap ?_
  rw [(gnc_loop g hw hu).over]
  refine wpAny_bind (wpAny_mono (po x s1 hx) (fun _ s2 hcb => wpAny_theTreesLotGoes ?_) fun y s2 hcb => ?_)
  · exact seg_leaf (.error x) (gn_back g k lt hcb)
  · exact seg_leaf (.error y) (gn_back g k lt hcb)
def tNWhile (tc : TT) (tb : TGN) : TGN := fun D n σ H => ∃ W : Nat → Nat → L2.St → Hp → Prop, (∃ m, W m n σ H) ∧ ∀ m n σ H, W m n σ H →
  tc σ H fun b H1 => Ex H H1 ∧ if b = true then ∃ Nx : Nat → L2.St → Hp → Prop, (∀ n' σ' H', Nx n' σ' H' → ∃ m', m' < m ∧ W m' n' σ' H') ∧ tb { D with nx := Nx, ct := Nx, bk := D.nx } n σ H1 else D.nx n σ H1
theorem gn_while {test : Expr} {body : List Stmt} {pos : Pos} {tc : TT} {tb : TGN} (hp : ∀ s0 H0, PassesOwn (model F.P F.w) (F.X s0 H0).A (F.X s0 H0).env (F.X s0 H0).xe) (hc : ∀ s0 H0, PT (F.X s0 H0) test tc) (hb : GNs F body tb) : GN F (.While test body [] pos) (tNWhile tc tb) := by
  refine ⟨fun ip R n s0 c fs K J gd lv s σ H D g k I ht => ?_⟩
  obtain ⟨W, ⟨m0, w0⟩, turn⟩ := ht
  refine seg_While fun p => ?_
  have out := gn_off (c' := .whileLoop test body [] F.env) (lv := lv) (p := p) hp g k rfl rfl
  have loop : ∀ (m n : Nat) (s0 s : Shared) (σ : L2.St) (H : Hp), W m n σ H → F.I s0 ip σ H s →
      Seg (model F.P F.w) F.A R F.Y (n + 1) s0 (.whileLoop test body [] F.env) ((model F.P F.w).den (.whileLoop test body [] F.env))
        (.ret (fun r => ((match r with | .ok f => (.pure f : Sem Flow) | .error e => .raise e).onRaise (cameBack F.env)).wrap K J gd lv) none (gd false) (lv []) c p [] :: fs) s := by
    intro m
    induction m using Nat.strongRecOn with
    | ind m ih =>
      intro n s0 s σ H w I
      obtain ⟨H0, l, e0, cv, inv⟩ := I.main
      have lt := I.lt
      refine seg_whileLoop ?_
      rw [(gnc_loop g rfl rfl).over, ← F.A_at H0 lt, ← F.env_at H0 lt]
      refine wpAny_mono ((hc s0 H0).run _ s σ H _ inv (turn m n σ H w)) (fun b s1 hb1 => ?_) fun x s1 hx => by rw [F.env_at H0 lt]; exact out n s0 H0 x s1 lt hx
      obtain ⟨H1, inv1, ex, q⟩ := hb1
      have I1 : F.I s0 ip σ H1 s1 := I.step l e0 cv inv1 ex
      rw [F.env_at H0 lt]
      cases b with
      | true =>
        obtain ⟨Nx, hN, q⟩ := q
        rw [if_pos rfl]
        refine hb.run ip R n s0 _ _ _ _ id id s1 σ H1 { D with nx := Nx, ct := Nx, bk := D.nx } (gnc_loop g rfl rfl) ⟨fun n' s0' s2 f hs => ?_, fun n' s0' H0' x s2 lt' hx => out n' s0' H0' x s2 lt' hx⟩ I1 q
        cases f with
        | next =>
          obtain ⟨σ2, H2, I2, z⟩ := hs
          obtain ⟨m', hm, w2⟩ := hN n' σ2 H2 z
          exact seg_again rfl (ih m' hm n' s0' s2 σ2 H2 w2 I2)
        | cont =>
          obtain ⟨σ2, H2, I2, z⟩ := hs
          obtain ⟨m', hm, w2⟩ := hN n' σ2 H2 z
          exact seg_again rfl (ih m' hm n' s0' s2 σ2 H2 w2 I2)
        | brk => exact seg_leaf (.ok .next) (k.ok n' s0' s2 .next hs)
        | ret v => exact seg_leaf (.ok (.ret v)) (k.ok n' s0' s2 (.ret v) hs)
      | false =>
        rw [if_neg Bool.false_ne_true]
        exact seg_execs_nil (seg_leaf (.ok .next) (k.ok n s0 s1 .next ⟨σ, H1, I1, q⟩))
  exact loop m0 n s0 s σ H w0 I
end
end Mc
namespace Mc
open PySem PySem.Spec PyProof.Rows L2 Evl GenW GenFz
section
variable {F : GFam}
/-! ### for -/
def tNFor (wi : TI) (g : TG) (tb : TGN) : TGN := fun D n σ H => wi σ H fun J H1 => Ex H H1 ∧ ∃ W : Nat → Nat → Nat → L2.St → Hp → Prop, (∃ m, W 0 m n σ H1) ∧ ∀ i m n σ H, W i m n σ H →
  (J.stop i H ∧ D.nx n σ H) ∨ (J.go i H ∧ ∃ Nx : Nat → L2.St → Hp → Prop, (∀ n' σ' H', Nx n' σ' H' → ∃ m', m' < m ∧ W (i + 1) m' n' σ' H') ∧ ∀ x H', J.yld i H x H' → Ex H H' ∧ g x σ H' fun σ2 H2 => Ex H' H2 ∧ tb { D with nx := Nx, ct := Nx, bk := D.nx } n σ2 H2)
/-- an iterator's records, as a body may lean on them -/
def GFam.Rec (F : GFam) (s0 : Shared) (ip : List (Addr × Obj)) (H : Hp) (fp : List Addr) : Prop := ∀ b ∈ fp, H b = none ∧ F.L ≤ b ∧ b ≠ F.L ∧ F.Free s0 b ∧ ∀ p ∈ ip, p.1 ≠ b
theorem GFam.Rec.fpOk {ps : List Str} (ok : F.Ok ps) {s0 s : Shared} {ip : List (Addr × Obj)} {H H0 : Hp} {fp : List Addr} (r : F.Rec s0 ip H fp) (lt : F.L < s0.heap.objs.size) : ∀ b ∈ fp, FpOk (F.X s0 H0) ip H b := fun b hb => by
  obtain ⟨n, le, ne, fr, hi⟩ := r b hb
  have eL : (cutH s0.heap F.L).objs.size = F.L := cut_size (Nat.le_of_lt lt)
  refine ⟨n, ?_, fun z => absurd (ok.fr b z) (Nat.not_lt_of_le le), .inr ?_, fun x c e => ?_, fun p hp => hi p (by simpa using (show p ∈ [] ++ ip from hp))⟩
  · show b ≠ (cutH s0.heap F.L).objs.size
    rw [eL]; exact ne
  · show (cutH s0.heap F.L).objs.size ≤ b
    rw [eL]; exact le
  · have e : (cellsFrom ((cutH s0.heap F.L).objs.size + 1) F.scope.names []).lookup x = some c := e
    rw [ok.c0] at e; cases e
theorem gn_for {ps : List Str} {tg iter : Expr} {body : List Stmt} {wi : TI} {g : TG} {tb : TGN} {pos : Pos} (ok : F.Ok ps) (hM : F.Many) (hp : ∀ s0 H0, PassesOwn (model F.P F.w) (F.X s0 H0).A (F.X s0 H0).env (F.X s0 H0).xe) (hc : ∀ s0 H0, (F.X s0 H0).calm = true) (hi : ∀ s0 H0, PI (F.X s0 H0) tg iter wi) (hg : ∀ s0 H0, PG (F.X s0 H0) tg g) (hb : GNs F body tb)
    (hs : ∀ x, foldedSetIterable iter F.env x = pure x) : GN F (.For tg iter body [] pos) (tNFor wi g tb) := by
  refine ⟨fun ip R n s0 c fs K J gd lv s σ H D gc k I ht => ?_⟩
  obtain ⟨H0, l, e0, cv, inv⟩ := I.main
  have lt := I.lt
  rw [exec_For]
  refine seg_bind_wrap (wpAny_standAt (seg_bind_wrap ?_))
  rw [gc.over, ← F.A_at H0 lt, ← F.env_at H0 lt]
  refine wpAny_mono ((hi s0 H0).run _ s σ H _ inv ht) (fun v s1 h1 => ?_) fun x s' hx => k.exc n s0 H0 x s' lt hx
  rw [F.env_at H0 lt]
  refine seg_bind_wrap (wpAny_of_eq (hs v) (seg_bind_wrap (wpAny_standAt (seg_bind_wrap (wpAny_holding ?_)))))
  rw [gc.over, ← F.A_at H0 lt]
  refine wpAny_mono h1 (fun itv s2 h2 => ?_) fun x s' hx => k.exc n s0 H0 x s' lt hx
  obtain ⟨it, fp, tn, JJ, H2, rfl, inv2, T, st2, f2, ex2, W, ⟨m0, w0⟩, turn⟩ := h2
  refine seg_call fun p => ?_
  have out := gn_off (c' := .forLoop tg (.ref it) body [] F.env) (lv := lv) (p := p) hp gc k rfl rfl
  have I2 : F.I s0 ip σ H2 s2 := I.step l e0 cv inv2 ex2
  have eL : (cutH s0.heap F.L).objs.size = F.L := cut_size (Nat.le_of_lt lt)
  have r2 : F.Rec s0 ip H2 fp := fun b hb => by
    obtain ⟨a1, a2, a3, a4, _, a6⟩ := f2 b hb
    have a2 : b ≠ (cutH s0.heap F.L).objs.size := a2
    have a4 : F.L ≤ b := by
      rcases a4 with z | z
      · exact absurd z (F.noex b)
      · have z : (cutH s0.heap F.L).objs.size ≤ b := z
        rw [eL] at z; exact z
    rw [eL] at a2
    refine ⟨a1, a4, a2, ?_, fun q hq => a6 q (List.mem_append_right _ hq)⟩
    cases g0 : s0.heap.get? b with
    | none => exact .inr g0
    | some o =>
      by_cases hO : b ∈ F.O s0
      · exact .inl hO
      have nb : F.Hb b = none := by
        cases z : F.Hb b with
        | none => rfl
        | some u => rw [I2.ex _ _ z] at a1; cases a1
      obtain ⟨w, z⟩ := cv b o a4 g0 nb a2 hO
      rw [ex2 _ _ (e0 _ _ z)] at a1; cases a1
  have loop : ∀ (m i n : Nat) (s0 s : Shared) (σ : L2.St) (H : Hp), W i m n σ H → F.I s0 ip σ H s → tn i s.heap → F.Rec s0 ip H fp →
      Seg (model F.P F.w) F.A R F.Y (n + 1) s0 (.forLoop tg (.ref it) body [] F.env) ((model F.P F.w).den (.forLoop tg (.ref it) body [] F.env))
        (.ret (fun r => ((match r with | .ok f => (.pure f : Sem Flow) | .error e => .raise e).onRaise (cameBack F.env)).wrap K J gd lv) none (gd false) (lv []) c p [] :: fs) s := by
    intro m
    induction m using Nat.strongRecOn with
    | ind m ih =>
      intro i n s0 s σ H w I st r
      obtain ⟨H0, l, e0, cv, inv⟩ := I.main
      have lt := I.lt
      have fo := r.fpOk (H0 := H0) (s := s) ok lt
      have gl := gnc_loop (c' := .forLoop tg (.ref it) body [] F.env) (l := lv []) (kp := []) (p := p) (kk := fun r => ((match r with | .ok f => (.pure f : Sem Flow) | .error e => .raise e).onRaise (cameBack F.env)).wrap K J gd lv) gc rfl rfl
      refine seg_forLoop ?_
      rw [gl.over, ← F.A_at H0 lt]
      rcases turn i m n σ H w with ⟨stop, qn⟩ | ⟨go, Nx, hN, step⟩
      · refine wpAny_mono (T.done (F.X s0 H0) rfl rfl rfl (hc s0 H0) i _ s σ H (F.X s0 H0).xe inv fo st stop) (fun r' s' hr => ?_) fun x s' hx => out n s0 H0 x s' lt hx
        obtain ⟨rfl, inv'⟩ := hr
        exact seg_block_nil (k.ok n s0 s' .next ⟨σ, H, I.step l e0 cv inv' (Ex.refl _), qn⟩)
      · refine wpAny_mono (T.item (F.X s0 H0) rfl rfl rfl (hc s0 H0) i _ s σ H (F.X s0 H0).xe inv fo st go) (fun r' s' hr => ?_) fun x s' hx => out n s0 H0 x s' lt hx
        obtain ⟨u, rfl, h4⟩ := hr
        refine wpAny_mono h4 (fun _ s5 h5 => ?_) fun x s' hx => out n s0 H0 x s' lt hx
        obtain ⟨x, H5, inv5, r5, y5, st5, fr5⟩ := h5
        obtain ⟨ex5, q5⟩ := step x H5 y5
        have rr5 : F.Rec s0 ip H5 fp := fun b hb => ⟨fr5 b hb, (r b hb).2⟩
        have inv5' := inv5.pinned (rr5.fpOk (H0 := H0) (s := s) ok lt) (T.obj _ _ st5)
        rw [← F.env_at H0 lt]
        refine wpAny_mono ((hg s0 H0).run _ s5 σ H5 x u _ inv5' r5 q5) (fun _ s6 h6 => ?_) fun x s' hx => by rw [F.env_at H0 lt]; exact out n s0 H0 x s' lt hx
        obtain ⟨σ6, H6, inv6, ex6, q6⟩ := h6
        rw [F.env_at H0 lt]
        have I6 : F.I s0 (ip ++ pinsAt fp s5.heap) σ6 H6 s6 := by
          refine ⟨lt, ⟨H0, l, (e0.trans ex5).trans ex6, cv, inv6⟩, fun p' hp' => ?_⟩
          · rcases List.mem_append.mp hp' with z | z
            · exact I.ipO p' z
            · obtain ⟨_, a, _, b, _⟩ := rr5 p'.1 (of_pinsAt z).1
              exact ⟨a, b, hM⟩
        have back : ∀ {s0' s' : Shared} {σ' : L2.St} {H' : Hp}, F.I s0' (ip ++ pinsAt fp s5.heap) σ' H' s' → F.I s0' ip σ' H' s' ∧ tn (i + 1) s'.heap ∧ F.Rec s0' ip H' fp := fun {s0' s' σ' H'} I' => by
          obtain ⟨H0', l', e0', cv', inv'⟩ := I'.main
          have lt' := I'.lt
          have pin' : ∀ b ∈ fp, ∀ o, s5.heap.get? b = some o → s'.heap.get? b = some o ∧ H' b = none ∧ b ≠ F.L ∧ F.L ≤ b ∧ F.Free s0' b := fun b hb o e => by
            have mm := mem_pinsAt hb e
            obtain ⟨z1, z2, z3, _⟩ := inv'.pin (b, o) (List.mem_append_right _ (List.mem_append_right _ mm))
            have z3 : b ≠ (cutH s0'.heap F.L).objs.size := z3
            rw [cut_size (Nat.le_of_lt lt')] at z3
            obtain ⟨z4, z5, _⟩ := I'.ipO (b, o) (List.mem_append_right _ mm)
            exact ⟨z1, z2, z3, z4, z5⟩
          refine ⟨⟨lt', ⟨H0', l', e0', cv', inv'.unpinned⟩, fun p' hp' => I'.ipO p' (List.mem_append_left _ hp')⟩, T.keep _ _ _ st5 fun b hb o e => (pin' b hb o e).1, fun b hb => ?_⟩
          · obtain ⟨o, e, _⟩ := T.obj _ _ st5 b hb
            obtain ⟨_, z2, z3, z4, z5⟩ := pin' b hb o e
            exact ⟨z2, z4, z3, z5, (r b hb).2.2.2.2⟩
        refine hb.run (ip ++ pinsAt fp s5.heap) R n s0 _ _ _ _ id id s6 σ6 H6 { D with nx := Nx, ct := Nx, bk := D.nx } gl ⟨fun n' s0' s3 f hs' => ?_, fun n' s0' H0' x s3 lt' hx => out n' s0' H0' x s3 lt' hx⟩ I6 q6
        cases f with
        | next =>
          obtain ⟨σ3, H3, I3, n3⟩ := hs'
          obtain ⟨m', hm, w3⟩ := hN n' σ3 H3 n3
          obtain ⟨b1, b2, b3⟩ := back I3
          exact seg_again rfl (ih m' hm (i + 1) n' s0' s3 σ3 H3 w3 b1 b2 b3)
        | cont =>
          obtain ⟨σ3, H3, I3, n3⟩ := hs'
          obtain ⟨m', hm, w3⟩ := hN n' σ3 H3 n3
          obtain ⟨b1, b2, b3⟩ := back I3
          exact seg_again rfl (ih m' hm (i + 1) n' s0' s3 σ3 H3 w3 b1 b2 b3)
        | brk =>
          obtain ⟨σ3, H3, I3, n3⟩ := hs'
          exact seg_leaf (.ok .next) (k.ok n' s0' s3 .next ⟨σ3, H3, (back I3).1, n3⟩)
        | ret v =>
          obtain ⟨x3, σ3, H3, I3, r3, n3⟩ := hs'
          exact seg_leaf (.ok (.ret v)) (k.ok n' s0' s3 (.ret v) ⟨x3, σ3, H3, (back I3).1, r3, n3⟩)
  exact loop m0 0 n s0 s2 σ H2 w0 I2 st2 r2
/-! ### the start -/
/-- its code, woken for the first time -/
theorem gn_start {ps : List Str} (ok : F.Ok ps) {body : List Stmt} {t : TGN} (hb : GNs F body t) {n : Nat} {s : Shared} {σ : L2.St} {H : Hp} (I : F.I s [] σ H s) (ht : t { nx := fun k _ _ => k = 0 ∧ F.ends, rt := fun _ _ _ => False } n σ H) :
    Seg (model F.P F.w) F.A F.R F.Y (n + 1) s (.func body F.env) ((model F.P F.w).den (.func body F.env)) [] s := by
  refine seg_func (hb.run [] _ n s (.func body F.env) [] _ _ id id s σ H _ ⟨over_func, rfl, rfl, rfl⟩ ⟨fun n' s0 s1 f hs => ?_, fun n' s0 H0 x s1 lt hx => ?_⟩ I ht)
  · cases f with
    | next =>
      obtain ⟨σ1, H1, I1, rfl, z⟩ := hs
      exact seg_end (.ok (.ret .none)) (.inl ⟨.inl rfl, rfl, z, I1.kept ok⟩)
    | brk => obtain ⟨_, _, _, z⟩ := hs; exact z.elim
    | cont => obtain ⟨_, _, _, z⟩ := hs; exact z.elim
    | ret u => obtain ⟨_, _, _, _, _, z⟩ := hs; exact z.elim
  · have hx' : wpAny (model F.P F.w) (F.A.deeper (F.X s0 H0).env) (leaving (F.X s0 H0).env x) (fun _ s2 => CX F.P F.w F.outer H0 { s0 with heap := cutH s0.heap F.L } E00 x s2 ∧ ∀ p ∈ ([] : List (Addr × Obj)), s2.heap.get? p.1 = some p.2) (fun _ _ => False) s1 := hx
    rw [F.env_at H0 lt] at hx'
    refine seg_wrap ?_
    rw [over_func]
    refine wpAny_mono hx' (fun _ s2 q => ?_) fun _ _ z => z.elim
    obtain ⟨⟨_, _, _, _, _, _, _, _, _, _, _, _, z⟩, _⟩ := q
    exact z.elim
/-- what lies ahead of a sleeping generator: n items -/
def GFam.Fut (F : GFam) (n : Nat) (gs : GenState) (own : List (Addr × Obj)) (q : Addr) (oq : Obj) (s1 : Shared) : Prop := ∀ s, F.Wk own q oq s1 s → gs.Goes (model F.P F.w) F.A F.R F.Y (n + 1) (.send .none) s
/-- one that has not begun; it has its frame alone -/
theorem fresh_fut {ps : List Str} {body : List Stmt} {t : TGN} {n : Nat} {s1 : Shared} {fo : Obj} {m : Str → Option Value} {σ : L2.St} {q : Addr} {oq : Obj} (ok : F.Ok ps) (hb : GNs F body t) (hLn : F.Hb F.L = none) (ns : ∀ h : Heap, h.get? F.L = some fo → h.Ns F.L m)
    (vars : ∀ (i : Nat) (x : Str) (v : V), F.N[i]? = some x → σ[i]? = some (some v) → Vis F.scope x → ∃ u, L2.RelV v u ∧ F.scope.names.lookup x = some .local ∧ m x = some u) (len : σ.length = F.N.length)
    (ht : ∀ H, Ex F.Hb H → t { nx := fun k _ _ => k = 0 ∧ F.ends, rt := fun _ _ _ => False } n σ H) : F.Fut n (.fresh (.func body F.env)) [(F.L, fo)] q oq s1 := fun s W =>
  ⟨rfl, by
    obtain ⟨ys, I⟩ := F.woken ok (es := []) (ip := []) W List.mem_cons_self hLn (fun p hp => by simp at hp) (fun e he => by simp at he) ns vars len
    exact gn_start ok hb I (ht _ I.ex)⟩
end
end Mc
namespace GenFz
open PySem
open Sem (wp)
section
variable {P : Program} {w : World} {A : Around} {E : Value → Shared → Prop} {s : Shared}
/-- what lies ahead, one waking less -/
def Later (M : Model) (A : Around) (R : GenEnd) (Y : Protocol) (gs : GenState) : Nat → Resume → Shared → Prop
  | 0 => fun _ _ => False
  | m + 1 => fun r s => gs.Goes M A R Y m r s
/-- a generator that is woken: where it sleeps again it is suspended -/
theorem wpAny_resumeS {M : Model} {A : Around} {R : GenEnd} {Y : Protocol} {n : Nat} {E : Value → Shared → Prop} {s : Shared} {g : Nat} {gs : GenState} {r : Resume} {l : List Value} {α : Type} {k : GenResult → Sem α} {Q : α → Shared → Prop} (at_ : s.gens[g]? = some gs) (go : gs.Goes M A R Y n r (s.setGen g .running))
    (ends : ∀ x s1, R n (s.setGen g .running) x s1 → wpAny M A (k (End.ret x).result) Q E (s1.setGen g .finished))
    (item : ∀ v s1 gs', gs'.bare = true → Sus gs' → Y (n - 1) (s.setGen g .running) v s1 (Later M A R Y gs' n) → wpAny M A (k (.yielded v)) Q E (s1.setGen g gs')) : wpAny M A (.resume g r l k) Q E s := fun Γ p hΓ => by
  rw [Sem.wp_resume]
  have quiet {e s1} (h : SegEnd R Y n (Seg.next M A R Y n) (s.setGen g .running) e s1) : e.quiet = true := by
    cases e <;> first | rfl | exact h.1
  have rest {e s1} (h : SegEnd R Y n (Seg.next M A R Y n) (s.setGen g .running) e s1) : wp M Γ (k e.result) (fun a _ s' => Q a s') (fun e _ s' => E e s') p (s1.setGen g e.genState) := by
    cases e with
    | ret x => exact ends x s1 h Γ p hΓ
    | susp v gd lv kk c q fs =>
      refine item v s1 _ (End.bare_of_quiet (quiet h)) trivial ?_ Γ p hΓ
      cases n <;> exact h.2
  have woken (c : Code) : (Γ.wake c p).Woken A := hΓ.wake c p
  cases gs with
  | running => exact go.elim
  | finished => exact go.elim
  | fresh c =>
    obtain ⟨rfl, sg⟩ := go
    obtain ⟨e, s1, run, h⟩ := seg_iff.mp sg (Γ.wake c p) p rfl (woken c)
    exact ⟨_, _, by unfold Wakes; rw [at_]; exact ⟨e, s1, run, quiet h, rfl, rfl⟩, rest h⟩
  | suspended kk lv c q fs cl =>
    obtain ⟨e, s1, run, h⟩ := seg_iff.mp go (Γ.wake c p) q rfl (woken c)
    exact ⟨_, _, by unfold Wakes; rw [at_]; exact ⟨e, s1, run, quiet h, rfl, rfl⟩, rest h⟩
/-- what ends an iterator -/
def StopAt (e : Value) (h : Heap) : Prop := ∃ (a : Addr) (o : Obj), e = .ref a ∧ h.get? a = some o ∧ o.cls = .type "StopIteration"
theorem wpAny_nextOf_gen {a : Addr} {g n : Nat} {gs : GenState} {Fn : Nat → Shared → Shared → Prop} {Y : Protocol} {Q : Value → Shared → Prop} (hh : A.handled = none)
    (hl : s.heap.NoLimit) (hroom : A.depth < recursionLimit) (hg : s.heap.IsGen a g) (hgs : s.gens[g]? = some gs)
    (hgo : gs.Goes (model P w) A.in1 (fun n s0 r s1 => ((r = .ok (.ret .none) ∨ r = .ok .next) ∧ Fn n s0 s1) ∨ ∃ e : Value, r = .error e ∧ False) Y n (.send .none) (s.setGen g .running))
    (hY : ∀ v s1 gs', gs'.bare = true → Sus gs' → Y (n - 1) (s.setGen g .running) v s1 (Later (model P w) A.in1 (fun n s0 r s1 => ((r = .ok (.ret .none) ∨ r = .ok .next) ∧ Fn n s0 s1) ∨ ∃ e : Value, r = .error e ∧ False) Y gs' n) → Q v (s1.setGen g gs'))
    (hE : ∀ s1, Fn n (s.setGen g .running) s1 → ∀ h' e, (∀ b o, s1.heap.get? b = some o → h'.get? b = some o) → StopAt e h' → E e { s1.setGen g .finished with heap := h' }) :
    wpAny (model P w) A (Builtin.SmallTypes.nextOf (.ref a)) Q E s := by
  unfold Builtin.SmallTypes.nextOf
  refine wpAny_bind (wpAny_callSpecial?_slot (name := Str.ofString "__next__") hg.typeIs slot_gen_next (wpAny_call_entry slot_gen_next hg.typeIs entry_gen_next ?_ (args_gen_next _)))
  show wpAny _ A.in1 (Builtin.Generator.genWake (.ref a) (.send .none)) _ _ s
  unfold Builtin.Generator.genWake
  refine wpAny_bind (wpAny_holding (wpAny_genNumber hg (wpAny_bind (wpAny_genState hgs ?_))))
  cases gs with
  | running => exact hgo.elim
  | finished => exact hgo.elim
  | _ =>
    refine wpAny_bind (wpAny_roomToWake hl hroom ?_)
    show wpAny _ A.in1 (.resume g (.send .none) [] _) _ _ s
    refine wpAny_resumeS hgs hgo (fun x s1 hx => ?_) (fun v s1 gs' hb hsu hv => ?_)
    · rcases hx with ⟨hr, hp⟩ | ⟨_, _, z⟩
      · have hres : End.result (.ret x) = .returned .none := by rcases hr with hr | hr <;> rw [hr] <;> rfl
        first | rw [hres] | simp only [hres]
        show wpAny _ A.in1 (newExc (.type "StopIteration") [] >>= _) _ _ _
        refine wpAny_bind ?_
        simp only [newExc, newTuple]
        refine wpAny_bind (wpAny_newObj_type ?_ (by size_fits))
        refine wpAny_bind (m := firstArgMember _ _) (wpAny_of_eq (a := Value.none) (by first | rfl | (simp only [firstArgMember]; rfl)) ?_)
        refine wpAny_newObj_type ?_ (by size_fits)
        simp only [raiseNew]
        refine wpAny_bind (wpAny_bind (wpAny_handled ?_))
        first | rw [show A.in1.handled = none from hh] | rw [hh]
        refine wpAny_throw ?_
        exact hE s1 hp _ _ (fun b o hb => Heap.get?_push_of_some _ (Heap.get?_push_of_some _ hb)) ⟨_, _, rfl, Heap.get?_push_size _ rfl, rfl⟩
      · exact z.elim
    · exact wpAny_pure ⟨v, rfl, wpAny_pure (hY v s1 gs' hb hsu hv)⟩
/-- the records of zip of two iterators -/
structure ZipRec (h : Heap) (z TI TO i1 i2 : Addr) (a b : Value) : Prop where
  hz : IsZip h z TI TO .none
  hTI : IsPair h TI (.ref i1) (.ref i2)
  hTO : IsPair h TO a b
  zI : TI ≠ z
  zO : TO ≠ z
  IO : TI ≠ TO
/-- next(zip(i1, i2)), by what its iterators do -/
theorem pyNext_zipG {z TI TO i1 i2 : Addr} {a b : Value} {Q : Option Value → Shared → Prop} (hh : A.handled = none) (D : ZipRec s.heap z TI TO i1 i2 a b)
    (h : ∀ h1, IsZip h1 z TI TO .ellipsis → Heap.SameBut z s.heap h1 → wpAny (model P w) A.in1 (Builtin.SmallTypes.nextOf (.ref i1)) (fun x s2 => IsPair s2.heap TO a b ∧ ∀ h3, IsPair h3 TO x b → Heap.SameBut TO s2.heap h3 →
        wpAny (model P w) A.in1 (Builtin.SmallTypes.nextOf (.ref i2)) (fun y s4 => IsPair s4.heap TO x b ∧ IsZip s4.heap z TI TO .ellipsis ∧ ∀ h8, IsZip h8 z TI TO (rawInt s4.heap.objs.size) → IsPair h8 TO x y → IsPair h8 s4.heap.objs.size x y → h8.objs.size = s4.heap.objs.size + 1 →
            (∀ c o, c ≠ z → c ≠ TO → s4.heap.get? c = some o → h8.get? c = some o) → Q (some (.ref s4.heap.objs.size)) { s4 with heap := h8 })
          (fun e s4 => IsZip s4.heap z TI TO .ellipsis ∧ StopAt e s4.heap ∧ ∀ h5, (∀ c o, c ≠ z → s4.heap.get? c = some o → h5.get? c = some o) → Q none { s4 with heap := h5 }) { s2 with heap := h3 })
      (fun e s2 => IsZip s2.heap z TI TO .ellipsis ∧ StopAt e s2.heap ∧ ∀ h5, (∀ c o, c ≠ z → s2.heap.get? c = some o → h5.get? c = some o) → Q none { s2 with heap := h5 }) { s with heap := h1 }) :
    wpAny (model P w) A (pyNext (.ref z)) Q E s := by
  obtain ⟨hz, hTI, hTO, D1, D2, D3⟩ := D
  have hT : s.TypeIs (.ref z) "zip" := ⟨_, hz, rfl⟩
  have stop : ∀ (e : Value) (s5 : Shared), (IsZip s5.heap z TI TO .ellipsis ∧ StopAt e s5.heap ∧ ∀ h5, (∀ c o, c ≠ z → s5.heap.get? c = some o → h5.get? c = some o) → Q none { s5 with heap := h5 }) →
      wpAny (model P w) A.in1 (setField (.ref z) 0 .none) (fun _ s6 => wpAny (model P w) A (isInstance e (.type "StopIteration")) (fun b s7 => wpAny (model P w) A (if b = true then pure none else throw e : Sem (Option Value)) Q E s7) E s6) (fun _ _ => False) s5 := fun e s5 ⟨hz5, ⟨ea, oe, ee, hoe, hce⟩, q5⟩ => by
    subst ee
    have hez : ea ≠ z := fun x => by subst x; rw [hz5] at hoe; cases hoe; simp at hce
    refine wpAny_setField_rec hz5 (by simp) fun h6 _ hs6 => ?_
    refine wpAny_isInstance (T := "StopIteration") (b := true) ⟨oe, hs6.extBut _ _ hez hoe, hce⟩ isSubtype_stop ?_
    exact wpAny_pure (q5 h6 fun c o c1 x => hs6.extBut _ _ c1 x)
  unfold pyNext
  refine wpAny_bind (wpAny_attempt (wpAny_callSpecial?_slot (name := Str.ofString "__next__") hT F.slot_zip_next (wpAny_call_entry F.slot_zip_next hT F.entry_zip_next ?_ (F.args_zip_next_1 _))))
  show wpAny _ A.in1 (field (.ref z) 2 >>= _) _ _ _
  refine wpAny_bind (wpAny_field hz rfl (x := .bool false) rfl ?_)
  show wpAny _ _ (field (.ref z) 3 >>= _) _ _ _
  refine wpAny_bind (wpAny_field hz rfl (x := .ref TI) rfl (wpAny_bind (wpAny_seqItems hTI rfl ?_)))
  show wpAny _ _ (Builtin.SmallTypes.ownedTupleIsFree (.ref z) >>= _) _ _ _
  refine wpAny_bind ?_
  unfold Builtin.SmallTypes.ownedTupleIsFree
  refine wpAny_bind (wpAny_field hz rfl (x := .none) rfl (wpAny_pure ?_))
  simp only [if_true]
  refine wpAny_bind (wpAny_rule (wpAny_bind (wpAny_field hz rfl (x := .ref TO) rfl (wpAny_bind (wpAny_setField_rec hz (by simp) fun h1 hz1 hs1 => ?_)))))
  replace hz1 : IsZip h1 z TI TO .ellipsis := hz1
  refine wpAny_bind ?_
  simp only [List.zipIdx_cons, List.zipIdx_nil, List.forIn_cons, List.forIn_nil]
  refine wpAny_bind (wpAny_bind (wpAny_onRaise ?_))
  show wpAny _ _ (Builtin.SmallTypes.nextOf (.ref i1) >>= _) _ _ _
  refine wpAny_bind (wpAny_mono (h h1 hz1 hs1) (fun x s2 ⟨hTO2, k2⟩ => wpAny_pure ?_) fun e s2 he => ?_)
  · refine wpAny_bind (wpAny_seqItems hTO2 rfl (wpAny_bind (wpAny_updateSeq_pair hTO2 fun h3 hTO3 hs3 => ?_)))
    replace hTO3 : IsPair h3 TO x b := hTO3
    refine wpAny_bind (wpAny_letGo (wpAny_pure ?_))
    refine wpAny_bind (wpAny_bind (wpAny_onRaise ?_))
    show wpAny _ _ (Builtin.SmallTypes.nextOf (.ref i2) >>= _) _ _ _
    refine wpAny_bind (wpAny_mono (k2 h3 hTO3 hs3) (fun y s4 ⟨hTO4, hz4, k4⟩ => wpAny_pure ?_) fun e s4 he => ?_)
    · refine wpAny_bind (wpAny_seqItems hTO4 rfl (wpAny_bind (wpAny_updateSeq_pair hTO4 fun h5 hTO5 hs5 => ?_)))
      replace hTO5 : IsPair h5 TO x y := hTO5
      refine wpAny_bind (wpAny_letGo (wpAny_pure (wpAny_pure ?_)))
      refine wpAny_bind (wpAny_seqItems hTO5 rfl (wpAny_bind (wpAny_newTuple ?_)))
      have hz5 : IsZip h5 z TI TO .ellipsis := hs5.extBut _ _ D2.symm hz4
      have hsz : h5.objs.size = s4.heap.objs.size := hs5.1
      have hzl : z < h5.objs.size := Heap.lt_size hz5
      show wpAny _ _ (Builtin.SmallTypes.ownedTupleHandOut (.ref z) (.ref h5.objs.size) >>= _) _ _ _
      refine wpAny_bind ?_
      unfold Builtin.SmallTypes.ownedTupleHandOut
      have hz6 : IsZip (h5.push { cls := .type "tuple", data := .seq #[x, y] }) z TI TO .ellipsis := Heap.get?_push_of_some _ hz5
      refine wpAny_bind (wpAny_setField_rec hz6 (by simp) fun h7 hz7 hs7 => ?_)
      replace hz7 : IsZip h7 z TI TO (rawInt h5.objs.size) := hz7
      refine wpAny_setField_rec hz7 (by simp) fun h8 hz8 hs8 => ?_
      replace hz8 : IsZip h8 z TI TO (rawInt h5.objs.size) := hz8
      have up : ∀ c o, c ≠ z → h5.get? c = some o → h8.get? c = some o := fun c o c1 e => hs8.extBut _ _ c1 (hs7.extBut _ _ c1 (Heap.get?_push_of_some _ e))
      have hT8 : IsPair h8 h5.objs.size x y := hs8.extBut _ _ (Nat.ne_of_gt hzl) (hs7.extBut _ _ (Nat.ne_of_gt hzl) (Heap.get?_push_size _ rfl))
      have sz8 : h8.objs.size = h5.objs.size + 1 := by rw [hs8.1, hs7.1, Heap.size_push]
      refine wpAny_pure ⟨_, rfl, wpAny_pure ?_⟩
      rw [hsz] at hz8 hT8 sz8
      show Q (some (.ref h5.objs.size)) _
      rw [hsz]
      exact k4 h8 hz8 (up _ _ D2 hTO5) hT8 sz8 fun c o c1 c2 e => up c o c1 (hs5.extBut _ _ c2 e)
    · exact wpAny_mono (stop e s4 he) (fun _ s6 h6 => wpAny_bind h6) fun _ _ z => z.elim
  · exact wpAny_mono (stop e s2 he) (fun _ s6 h6 => wpAny_bind h6) fun _ _ z => z.elim
end
abbrev zgH1 (h : Heap) (a1 a2 : Addr) : Heap := h.push { cls := .type "tuple", data := .seq #[.ref a1, .ref a2] }
abbrev zgH2 (h : Heap) (a1 a2 : Addr) : Heap := (zgH1 h a1 a2).push { cls := .type "tuple", data := .seq #[.none, .none] }
abbrev zgH3 (h : Heap) (a1 a2 : Addr) : Heap := (zgH2 h a1 a2).push { cls := .type "zip", data := .fields #[.none, .bool false, .bool false, .ref h.objs.size, .ref (zgH1 h a1 a2).objs.size] }
theorem meets_zipG (a1 a2 : Addr) (g1 g2 : Nat) :
    Meets (Builtin.«zip.__new__» ⟨[.type "zip", .ref a1, .ref a2], []⟩) (fun _ R s => s.heap.IsGen a1 g1 ∧ s.heap.IsGen a2 g2 ∧ R (.ok (.ret (.ref (zgH2 s.heap a1 a2).objs.size))) { s with heap := zgH3 s.heap a1 a2 }) :=
  .of_wp fun prog w A R s h => by
    obtain ⟨hp, g, d, tk, os⟩ := s
    obtain ⟨hl1, hl2, h⟩ := h
    have hsub := sub_zip
    have e1 : Heap.IsGen (Shared.heap ⟨hp, g, d, tk, os⟩) a1 g1 := hl1
    have e2 : Heap.IsGen (Shared.heap ⟨hp, g, d, tk, os⟩) a2 g2 := hl2
    wp_walk using wpAny_pyIter_gen e1, wpAny_pyIter_gen e2
    exact ⟨_, rfl, h⟩
theorem call_zipG {P : Program} {w : World} {A : Around} {E : Value → Shared → Prop} {s : Shared} {a1 a2 : Addr} {g1 g2 : Nat} {Q : Value → Shared → Prop} (h1 : s.heap.IsGen a1 g1) (h2 : s.heap.IsGen a2 g2)
    (h : ∀ h', ZipRec h' (s.heap.objs.size + 2) s.heap.objs.size (s.heap.objs.size + 1) a1 a2 .none .none → h'.objs.size = s.heap.objs.size + 3 → (∀ c o, s.heap.get? c = some o → h'.get? c = some o) → Q (.ref (s.heap.objs.size + 2)) { s with heap := h' }) :
    wpAny (model P w) A (call (.type "zip") [.ref a1, .ref a2]) Q E s := by
  refine callType_new F.called_zip (by decide) (F.typeCall_zip_2 _ _) (F.newCall_zip_2 _ _) (fun obj => F.args_object_init_3 obj _ _) F.entry_zip_new (meets_zipG a1 a2 g1 g2) ⟨h1, h2, ?_⟩
  have z1 : (zgH1 s.heap a1 a2).objs.size = s.heap.objs.size + 1 := Heap.size_push ..
  have z2 : (zgH2 s.heap a1 a2).objs.size = s.heap.objs.size + 2 := by rw [Heap.size_push, z1]
  have z3 : (zgH3 s.heap a1 a2).objs.size = s.heap.objs.size + 3 := by rw [Heap.size_push, z2]
  have q3 : (zgH3 s.heap a1 a2).get? (zgH2 s.heap a1 a2).objs.size = some _ := Heap.get?_push_size _ rfl
  have q2 : (zgH3 s.heap a1 a2).get? (zgH1 s.heap a1 a2).objs.size = some _ := Heap.get?_push_of_some _ (Heap.get?_push_size _ rfl)
  have q1 : (zgH3 s.heap a1 a2).get? s.heap.objs.size = some _ := Heap.get?_push_of_some _ (Heap.get?_push_of_some _ (Heap.get?_push_size _ rfl))
  show _ ∧ _
  rw [z1, z2] at q3
  rw [z1] at q2
  rw [z2]
  exact ⟨⟨_, q3, rfl⟩, h _ ⟨q3, q1, q2, Nat.ne_of_lt (Nat.lt_add_of_pos_right (by decide)), Nat.ne_of_lt (Nat.lt_succ_self _), Nat.ne_of_lt (Nat.lt_succ_self _)⟩ z3 fun c o x => Heap.get?_push_of_some _ (Heap.get?_push_of_some _ (Heap.get?_push_of_some _ x))⟩
end GenFz
namespace GenFz
open PySem
open Sem (wp)
/-! ### what is gone stays gone -/
def Dead (b : Addr) (s : Shared) : Prop := b < s.heap.objs.size ∧ s.heap.get? b = none
theorem Dead.alloc {b : Addr} {s : Shared} {o : Obj} (h : Dead b s) : Dead b { s with heap := s.heap.push o } := by
  refine ⟨by show b < (s.heap.push o).objs.size; rw [Heap.size_push]; exact Nat.lt_succ_of_lt h.1, ?_⟩
  have e : (s.heap.push o).objs[b]? = s.heap.objs[b]? := by
    show (s.heap.objs.push o)[b]? = _
    rw [Array.getElem?_push, if_neg (Nat.ne_of_lt h.1)]
  have z := h.2
  unfold Heap.get? at z ⊢
  rw [e]; exact z
theorem Dead.update {b a : Addr} {s : Shared} {f : Obj → Obj} (h : Dead b s) (ha : (s.heap.get? a).isSome) : Dead b { s with heap := s.heap.update a f } := by
  have ne : a ≠ b := fun z => by rw [z, h.2] at ha; cases ha
  have u := Heap.SameBut.update s.heap a f
  refine ⟨by show b < (s.heap.update a f).objs.size; rw [u.1]; exact h.1, (u.2 b (Ne.symm ne)).trans h.2⟩
theorem runs_dead {M : Model} {Γ : Ctx} {p : Pos} {t : Sem PySem.Fin} {fs : List Frame} {s s' : Shared} {e : End} {b : Addr} (h : Runs M Γ p t fs s e s') : Dead b s → Dead b s' := by
  induction h with
  | done => exact id
  | raise => exact id
  | yield => exact id
  | again _ _ ih => exact ih
  | rule _ ih => exact ih
  | «at» _ ih => exact ih
  | load _ _ ih => exact ih
  | update hs _ ih => exact fun d => ih (d.update hs)
  | loadIfAlive _ ih => exact ih
  | point _ ih => exact ih
  | alloc _ ih => exact fun d => ih d.alloc
  | fresh _ ih => exact ih
  | ask _ ih => exact ih
  | choose _ _ ih => exact ih
  | os _ ih => exact ih
  | handled _ ih => exact ih
  | genState _ _ ih => exact ih
  | stack _ ih => exact ih
  | thread _ ih => exact ih
  | newGen _ ih => exact ih
  | call _ _ ih1 ih2 => exact fun d => ih2 (ih1 d)
  | callSusp _ ih => exact ih
  | resumeFresh _ _ _ _ ih1 ih2 => exact fun d => ih2 (ih1 d)
  | resumeSuspended _ _ _ _ ih1 ih2 => exact fun d => ih2 (ih1 d)
  | resumeJustStarted _ _ _ ih => exact ih
  | resumeThrowFresh _ _ ih => exact ih
  | resumeRunning _ _ ih => exact ih
  | resumeFinished _ _ ih => exact ih
  | segRet _ _ ih1 ih2 => exact fun d => ih2 (ih1 d)
  | segGen _ _ ih1 ih2 => exact fun d => ih2 (ih1 d)
  | segSuspOut _ _ ih => exact ih
  | segSuspGen _ _ _ _ ih1 ih2 => exact fun d => ih2 (ih1 d)
theorem wakes_dead {M : Model} {Γ : Ctx} {p : Pos} {g : Nat} {r : Resume} {s s' : Shared} {x : GenResult} {b : Addr} (h : Wakes M Γ p g r s x s') (d : Dead b s) : Dead b s' := by
  unfold Wakes at h
  split at h
  · exact h.elim
  · split at h
    · obtain ⟨e1, s1, a, _, _, rfl⟩ := h
      have z := runs_dead a (show Dead b (s.setGen g .running) from d)
      exact z
    · rw [h.2]; exact d
    · rw [h.2]; exact d
  · obtain ⟨e1, s1, a, _, _, rfl⟩ := h
    have z := runs_dead a (show Dead b (s.setGen g .running) from d)
    exact z
  · rw [h.2]; exact d
  · rw [h.2]; exact d
def Holes (s s' : Shared) : Prop := ∀ b, Dead b s → Dead b s'
theorem wp_holes {α : Type} {M : Model} {Γ : Ctx} {s0 : Shared} (t : Sem α) : ∀ {Q : α → Pos → Shared → Prop} {E : Value → Pos → Shared → Prop} {p : Pos} {s : Shared}, Holes s0 s → wp M Γ t Q E p s → wp M Γ t (fun a p' s' => Holes s0 s' ∧ Q a p' s') (fun e p' s' => Holes s0 s' ∧ E e p' s') p s := by
  induction t with
  | pure a => intro Q E p s hn h; exact ⟨hn, h⟩
  | raise e => intro Q E p s hn h; exact ⟨hn, h⟩
  | unsupported _ => intro Q E p s _ h; exact h
  | finish _ => intro Q E p s _ h; exact h
  | rule _ k ih => intro Q E p s hn h; exact ih () hn h
  | «at» p' k ih => intro Q E p s hn h; exact ih () hn h
  | load a _ k ih => intro Q E p s hn h; obtain ⟨o, ho, h⟩ := h; exact ⟨o, ho, ih o hn h⟩
  | update a _ f k ih => intro Q E p s hn h; exact ⟨h.1, ih () (s := { s with heap := s.heap.update a f }) (fun b d => (hn b d).update h.1) h.2⟩
  | loadIfAlive a k ih => intro Q E p s hn h; exact ih _ hn h
  | point _ k ih => intro Q E p s hn h; exact ih () hn h
  | register _ _ => intro Q E p s _ h; exact h
  | alloc o k ih => intro Q E p s hn h; exact ih _ (s := { s with heap := s.heap.push o }) (fun b d => (hn b d).alloc) h
  | fresh k ih => intro Q E p s hn h; exact ih _ (s := { s with toks := s.toks + 1 }) hn h
  | ask k ih => intro Q E p s hn h; exact ih _ hn h
  | choose src m k ih => intro Q E p s hn h; exact ⟨h.1, ih _ (s := { s with drawn := s.drawn.bump src }) hn h.2⟩
  | os q _ k ih => intro Q E p s hn h; exact ih _ (s := { s with os := (Os.step s.os q).1 }) hn h
  | call c hd _ _ k ih => intro Q E p s hn h; obtain ⟨r, s', hr, h⟩ := h; exact ⟨r, s', hr, ih r (fun b d => runs_dead hr (hn b d)) h⟩
  | handled own k ih => intro Q E p s hn h; exact ih _ hn h
  | genState g k ih => intro Q E p s hn h; obtain ⟨st, hs, h⟩ := h; exact ⟨st, hs, ih _ hn h⟩
  | newGen c k ih => intro Q E p s hn h; exact ih _ (s := { s with gens := s.gens.push (.fresh c) }) hn h
  | resume g r _ k ih => intro Q E p s hn h; obtain ⟨res, s', hw, h⟩ := h; exact ⟨res, s', hw, ih res (fun b d => wakes_dead hw (hn b d)) h⟩
  | yield _ _ _ _ => intro Q E p s _ h; exact h
  | stack k ih => intro Q E p s hn h; exact ih _ hn h
  | fork _ _ => intro Q E p s _ h; exact h
  | thread k ih => intro Q E p s hn h; exact ih _ hn h
  | await _ _ _ _ _ => intro Q E p s _ h; exact h
theorem wpAny_holes {α : Type} {M : Model} {A : Around} {t : Sem α} {Q : α → Shared → Prop} {E : Value → Shared → Prop} {s : Shared} (h : wpAny M A t (fun a s' => Holes s s' → Q a s') (fun e s' => Holes s s' → E e s') s) : wpAny M A t Q E s :=
  wpAny_mono (fun Γ p hΓ => wp_holes t (s0 := s) (fun _ d => d) (h Γ p hΓ) : wpAny M A t (fun a s' => Holes s s' ∧ (Holes s s' → Q a s')) (fun e s' => Holes s s' ∧ (Holes s s' → E e s')) s) (fun _ _ x => x.2 x.1) fun _ _ x => x.2 x.1
theorem Holes.new {s s' : Shared} {b : Addr} {o : Obj} (h : Holes s s') (n : s.heap.get? b = none) (q : s'.heap.get? b = some o) : s.heap.objs.size ≤ b := by
  by_cases lt : b < s.heap.objs.size
  · have z := (h b ⟨lt, n⟩).2
    rw [q] at z; cases z
  · exact Nat.le_of_not_lt lt
end GenFz
namespace Mc
open PySem PySem.Spec PyProof.Rows L2 Evl GenW GenFz
/-! ### the consumer: a generator is woken -/
/-- the family stands in the consumer's context -/
structure Stands (F : GFam) (X : Cx) (A : Around) : Prop where
  P : F.P = X.prog
  w : F.w = X.w
  K : F.K = X.K
  mg : F.mg = X.mg
  base : F.base = X.base
  A : F.A = A.in1
  outer : F.outer = X.stack
  frames : F.A.frames = X.A.frames
/-- what the consumer must have in hand -/
structure Hand (X : Cx) (F : GFam) (own pl : List (Addr × Obj)) (H : Hp) (s : Shared) : Prop where
  hb : Ex F.Hb H
  hL : F.L ∈ X.ex ∨ X.s_0.heap.objs.size ≤ F.L
  hLl : F.L ≠ X.env.locals
  hLn : H F.L = none
  cl : ∀ x c, X.env.cells.lookup x = some c → c ≠ F.L
  apart : ∀ p ∈ X.pn ++ pl, p.1 ≠ F.L ∧ ∀ o ∈ own, p.1 ≠ o.1
  mine : ∀ p ∈ own, s.heap.get? p.1 = some p.2 ∧ H p.1 = none ∧ p.1 ≠ X.env.locals ∧ (p.1 = F.L ∨ X.s_0.heap.objs.size ≤ p.1) ∧ (∀ x c, X.env.cells.lookup x = some c → c ≠ p.1)
  gh1 : ∀ p ∈ own, p.1 = F.L ∨ p.1 ∈ F.O s
  gh2 : ∀ b ∈ F.O s, ∃ p ∈ own, p.1 = b
section
variable {X : Cx} {F : GFam} {ps : List Str} {A : Around} {own pl : List (Addr × Obj)} {σ : L2.St} {H : Hp} {s s1 : Shared}
theorem Hand.gone (I : Inv X pl σ H s) {b : Addr} (h : Hand X F own pl H s) (fr : F.Free s b) : H b = none := by
  rcases fr with z | z
  · obtain ⟨p, hp, rfl⟩ := h.gh2 b z
    exact (h.mine p hp).2.1
  · exact I.hok.gone z
/-- behind a waking: all that the consumer knew and pinned stands -/
theorem kept_inv (ok : F.Ok ps) (fit : Stands F X A) (I : Inv X pl σ H s) (h : Hand X F own pl H s) (K : F.Kept s s1) {H' : Hp} (hH : H' = H ∨ ∃ q oq xs, H' = upd H q (.frz oq (.tup xs)) ∧ F.Free s q ∧ s1.heap.get? q = some oq ∧ ∀ U, ObjOk F.P F.w U s1.heap q (.tup xs)) : Inv X pl σ H' s1 := by
  have bn : ∀ {b : Addr}, H b = none → F.Hb b = none := fun {b} n => by
    cases g : F.Hb b with
    | none => rfl
    | some u => rw [h.hb _ _ g] at n; cases n
  have fo : frs F.outer = frs X.stack := by rw [fit.outer]
  have stay : ∀ b o, s.heap.get? b = some o → F.Hb b = none → b ∉ frs X.stack → b ∉ F.L :: F.O s → s1.heap.get? b = some o := fun b o g n hf hc =>
    K.keep b o g n (fo ▸ hf) (fun z => hc (z ▸ List.mem_cons_self)) fun z => hc (List.mem_cons_of_mem _ z)
  have ex' : Ex H H' := by
    rcases hH with rfl | ⟨q, oq, xs, rfl, fr, _⟩
    · exact Ex.refl _
    · exact Ex.new (h.gone I fr)
  have known : ∀ b u, H b = some u → b ∉ F.L :: F.O s ∧ b ∉ frs X.stack := fun b u g => by
    refine ⟨fun z => ?_, fun z => by rw [I.stkFree b z] at g; cases g⟩
    rcases List.mem_cons.mp z with z | z
    · rw [z, h.hLn] at g; cases g
    · obtain ⟨p, hp, e⟩ := h.gh2 b z
      have y := (h.mine p hp).2.1
      rw [e, g] at y; cases y
  refine I.call' (ch := F.L :: F.O s) K.os ⟨fun b o g n hf hc => stay b o g (bn n) hf hc, fun b o g n hf hc => K.slot b o g (fo ▸ hf), fun b o g n hc => ?_, fun b o g hc => ?_, fun b xs e => ex' _ _ e, fun b o u e => ex' _ _ e, fun b ps e => ⟨#[], by rw [ex' _ _ e]; simp⟩⟩ (fun a u e => ?_) K.bare fun b hb => ?_
  · rcases hH with rfl | ⟨q, oq, xs, rfl, fr, _⟩
    · exact n
    · rw [upd_ne (fun z => ?_)]
      · exact n
      rw [z] at g hc
      rcases fr with f | f
      · exact hc (List.mem_cons_of_mem _ f)
      · rw [f] at g; cases g
  · by_cases hf : b ∈ frs X.stack
    · obtain ⟨sl, e⟩ := K.slot b o g (fo ▸ hf)
      exact ⟨_, e⟩
    · cases n : F.Hb b with
      | none => exact ⟨o, stay b o g n hf hc⟩
      | some u =>
        cases z : s1.heap.get? b with
        | some o' => exact ⟨o', rfl⟩
        | none =>
          have y := K.hok.gone z
          rw [n] at y; cases y
  · have main : H a = some u → ObjOk X.prog X.w H' s1.heap a u := fun e => by
      cases n : F.Hb a with
      | some u' =>
        have z := h.hb _ _ n
        rw [e] at z; cases z
        have x := K.hok a u n
        rw [fit.P, fit.w] at x
        exact x.stay (fun b o _ q => q) (fun b q => ex' _ _ (h.hb _ _ q)) fun b xs q => ex' _ _ (h.hb _ _ q)
      | none =>
        refine (I.hok a u e).stay (fun b o hb q => ?_) (fun b q => ex' _ _ q) fun b xs q => ex' _ _ q
        have kb : ∃ u', H b = some u' := by
          rcases hb with rfl | hb
          · exact ⟨u, e⟩
          · exact ⟨_, hb⟩
        obtain ⟨u', ku⟩ := kb
        have nb : F.Hb b = none := by
          rcases hb with rfl | hb
          · exact n
          · cases g : F.Hb b with
            | none => rfl
            | some v =>
              have z := h.hb _ _ g
              rw [hb] at z; cases z
              rcases ok.smp b _ g with ⟨xs, z⟩ | ⟨xs, z⟩ | ⟨x, C, fs, z, y⟩ | ⟨C, dx, fs, z, _⟩
              · cases z
              · cases z
              · cases z; rw [n] at y; cases y
              · cases z
        obtain ⟨c1, c2⟩ := known b u' ku
        exact stay b o q nb c2 c1
    rcases hH with rfl | ⟨q, oq, xs, rfl, fr, gq, oo⟩
    · exact main e
    · by_cases hq : a = q
      · subst hq
        rw [upd_same] at e; cases e
        refine ⟨gq, ?_⟩
        have x := oo (upd H a (.frz oq (.tup xs)))
        rw [fit.P, fit.w] at x
        exact x
      · rw [upd_ne hq] at e
        exact main e
  · rcases List.mem_cons.mp hb with z | z
    · rw [z]
      exact ⟨h.hL, h.hLl, h.cl, fun p hp => (h.apart p hp).1⟩
    · obtain ⟨p, hp, e⟩ := h.gh2 b z
      obtain ⟨_, _, a3, a4, a5⟩ := h.mine p hp
      rw [e] at a3 a4 a5
      refine ⟨?_, a3, a5, fun p' hp' y => (h.apart p' hp').2 p hp (y.trans e.symm)⟩
      rcases a4 with y | y
      · rw [y]; exact h.hL
      · exact .inr y
end
end Mc
namespace Mc
open PySem PySem.Spec PyProof.Rows L2 Evl GenW GenFz
section
variable {X : Cx} {F : GFam} {ps : List Str} {A : Around} {own pl : List (Addr × Obj)} {σ : L2.St} {H : Hp} {s s1 : Shared}
theorem inv_gens {G : Array GenState} (I : Inv X pl σ H s) (b : AllBare G) : Inv X pl σ H { s with gens := G } := I.call' (ch := []) rfl Un.refl I.hok b fun b z => by simp at z
theorem fs_stack (I : Inv X pl σ H s) : ∀ b ∈ X.fs, b ∈ frs X.stack := fun b hb => by
  rcases I.ok.stk with e | ⟨e, hf⟩
  · rw [e]; exact hb
  · rw [e]
    show b ∈ (X.env :: X.outer).filterMap (·.frame)
    rw [List.filterMap_cons, hf]
    exact List.mem_cons_of_mem _ hb
/-- what the consumer has behind an item -/
structure Got (X : Cx) (F : GFam) (m : Nat) (own pl : List (Addr × Obj)) (σ : L2.St) (H H' : Hp) (q : Addr) (oq : Obj) (own' : List (Addr × Obj)) (gs' : GenState) (s s2 : Shared) : Prop where
  inv : Inv X (pl ++ own') σ H' s2
  kn : (F.Hb q = some (.tup (F.it (F.tot - (m + 1)))) ∧ H' = H) ∨ (F.Hb q = none ∧ H q = none ∧ H' = upd H q (.frz oq (.tup (F.it (F.tot - (m + 1))))))
  fut : (0 < m ∨ F.ends) → F.Fut m gs' own' q oq s2
  adr : ∀ p ∈ own', (p.1 = F.L ∨ X.s_0.heap.objs.size ≤ p.1) ∧ (∀ x c, X.env.cells.lookup x = some c → c ≠ p.1) ∧ ((p.1 = F.L ∨ ∃ o ∈ own, o.1 = p.1) ∨ s.heap.objs.size ≤ p.1)
  frame : ∃ fo, (F.L, fo) ∈ own'
  lone : ∀ p ∈ own', p.1 = F.L ∨ F.Many
/-- next of a generator -/
theorem next_in (ok : F.Ok ps) (fit : Stands F X A) (hh : A.handled = none) (hd : A.depth < recursionLimit) {a q : Addr} {oq : Obj} {g n : Nat} {gs : GenState} (I : Inv X pl σ H s) (isg : s.heap.IsGen a g) (hgs : s.gens[g]? = some gs) (h : Hand X F own pl H (s.setGen g .running))
    (q0 : F.Hb q = none → s.heap.get? q = some oq) (fut : F.Fut n gs own q oq s1) (os1 : s.os = s1.os) {Q : Value → Shared → Prop} {E : Value → Shared → Prop}
    (hItem : ∀ (m : Nat) (q' : Addr) (oq' : Obj) (own' : List (Addr × Obj)) (gs' : GenState) (s2 : Shared) (H' : Hp), n = m + 1 → gs'.bare = true → Sus gs' → s2.gens[g]? = some gs' → Got X F m own pl σ H H' q' oq' own' gs' s s2 → Q (.ref q') s2)
    (hEnd : ∀ (s2 : Shared) (e : Value), n = 0 → F.ends → Inv X pl σ H s2 → StopAt e s2.heap → E e s2) : wpAny (model X.prog X.w) A (Builtin.SmallTypes.nextOf (.ref a)) Q E s := by
  have I0 : Inv X pl σ H (s.setGen g .running) := inv_gens I (allBare_setGen I.bare rfl)
  have W : F.Wk own q oq s1 (s.setGen g .running) := by
    have e := I0.env0
    refine ⟨?_, os1, fun p hp => (h.mine p hp).1, q0, h.gh1⟩
    have bn : ∀ {b : Addr}, H b = none → F.Hb b = none := fun {b} n => by
      cases g : F.Hb b with
      | none => rfl
      | some u => rw [h.hb _ _ g] at n; cases n
    have ho : HOk F.P F.w H (s.setGen g .running).heap := by rw [fit.P, fit.w]; exact e.hok
    have fr : F.A.frames = some F.outer := by rw [fit.frames, fit.outer]; exact I.ok.frames
    exact ⟨fr, by rw [fit.K, fit.mg, fit.base]; exact e.mod, fun b o z => by rw [fit.base] at z; exact ⟨(e.bs b o z).1, bn (e.bs b o z).2⟩, by rw [fit.base]; exact e.bsz, by rw [fit.base, fit.outer]; exact e.funs, fun b hb => by rw [fit.outer] at hb; exact bn (e.frf b hb), hok_sub ok h.hb ho, e.bare⟩
  have go := fut _ W
  rw [fit.P, fit.w, fit.A] at go
  have gl : g < s.gens.size := by
    obtain ⟨z, _⟩ := Array.getElem?_eq_some_iff.mp hgs
    exact z
  have nfresh : ∀ {b : Addr} {s2 : Shared} {o : Obj}, Holes s s2 → F.Free (s.setGen g .running) b → s2.heap.get? b = some o → (∃ p ∈ own, p.1 = b) ∨ s.heap.objs.size ≤ b := fun {b s2 o} hol fr e => by
    rcases fr with z | z
    · exact .inl (h.gh2 b z)
    · exact .inr (hol.new z e)
  refine wpAny_gsz (n := s.gens.size) (Nat.le_refl _) (wpAny_holes (wpAny_nextOf_gen (n := n + 1) (Fn := fun n s0 s1 => n = 1 ∧ F.ends ∧ F.Kept s0 s1) (Y := F.Y) hh I.nolimit hd isg hgs go (fun v s2 gs' hb hsu hy hol gsz => ?_) fun s2 hr h' e hk st hol gsz => ?_))
  · obtain ⟨q', oq', own', rfl, hpos, K, hi, ho, hfo, later⟩ := hy
    obtain ⟨m, rfl⟩ : ∃ m, n = m + 1 := ⟨n - 1, by have : 0 < n := hpos; omega⟩
    have K : F.Kept (s.setGen g .running) s2 := K
    have hi : F.Item (F.tot - (m + 1)) (s.setGen g .running) s2 q' oq' := hi
    have ho : F.Own (s.setGen g .running) s2 q' own' := ho
    have hol : Holes s s2 := hol
    have gsz : g < s2.gens.size := by
      have z : s.gens.size ≤ (s2.setGen g gs').gens.size := gsz
      rw [setGen_size] at z
      exact Nat.lt_of_lt_of_le gl z
    obtain ⟨i1, i2, i3⟩ := hi
    obtain ⟨H', hkn, hH⟩ : ∃ H', ((F.Hb q' = some (.tup (F.it (F.tot - (m + 1)))) ∧ H' = H) ∨ (F.Hb q' = none ∧ H q' = none ∧ H' = upd H q' (.frz oq' (.tup (F.it (F.tot - (m + 1))))))) ∧
        (H' = H ∨ ∃ q oq xs, H' = upd H q (.frz oq (.tup xs)) ∧ F.Free (s.setGen g .running) q ∧ s2.heap.get? q = some oq ∧ ∀ U, ObjOk F.P F.w U s2.heap q (.tup xs)) := by
      rcases i3 with z | ⟨z, fr⟩
      · exact ⟨H, .inl ⟨z, rfl⟩, .inl rfl⟩
      · exact ⟨_, .inr ⟨z, h.gone I0 fr, rfl⟩, .inr ⟨q', oq', _, rfl, fr, i1, i2⟩⟩
    have J := kept_inv ok fit I0 h K hH
    have J2 : Inv X pl σ H' (s2.setGen g gs') := inv_gens J (allBare_setGen J.bare hb)
    have own' : ∀ p ∈ own', s2.heap.get? p.1 = some p.2 ∧ H' p.1 = none ∧ p.1 ≠ X.env.locals ∧ p.1 ∉ X.fs ∧ (∀ v, p.2.data ≠ .cell v) ∧ (p.1 = F.L ∨ X.s_0.heap.objs.size ≤ p.1) ∧ (∀ x c, X.env.cells.lookup x = some c → c ≠ p.1) ∧ ((p.1 = F.L ∨ ∃ o ∈ own, o.1 = p.1) ∨ s.heap.objs.size ≤ p.1) := fun p hp => by
      obtain ⟨o1, o2, o3, o4, o5, o6⟩ := ho p hp
      have n1 : H p.1 = none := by
        rcases o6 with z | z
        · rw [z]; exact h.hLn
        · exact h.gone I0 z.1
      have n2 : H' p.1 = none := by
        rcases hkn with ⟨_, rfl⟩ | ⟨_, _, rfl⟩
        · exact n1
        · rw [upd_ne o3]; exact n1
      have nf : p.1 ∉ X.fs := fun z => o4 (by rw [fit.outer]; exact fs_stack I p.1 z)
      rcases o6 with z | z
      · refine ⟨o1, n2, ?_, nf, o5, .inl z, ?_, .inl (.inl z)⟩
        · rw [z]; exact h.hLl
        · rw [z]; exact h.cl
      · rcases nfresh hol z.1 o1 with ⟨o, q1, q2⟩ | le
        · obtain ⟨_, _, a3, a4, a5⟩ := h.mine o q1
          rw [q2] at a3 a4 a5
          exact ⟨o1, n2, a3, nf, o5, a4, a5, .inl (.inr ⟨o, q1, q2⟩)⟩
        · refine ⟨o1, n2, fun z => ?_, nf, o5, .inr (Nat.le_trans I.sz le), fun x c e z => ?_, .inr le⟩
          · exact absurd I.lt (by rw [← z]; exact Nat.not_lt_of_le le)
          · obtain ⟨v, ob, g1, _⟩ := I.cell x c e
            have := Heap.lt_size g1
            rw [z] at this
            exact absurd this (Nat.not_lt_of_le le)
    refine hItem m q' oq' _ gs' (s2.setGen g gs') H' rfl hb hsu (setGen_at gsz) ⟨J2.pins_of fun p hp => ?_, hkn, fun hm s3 w3 => ?_, fun p hp => (own' p hp).2.2.2.2.2, hfo, fun p hp => (ho p hp).2.2.2.2.2.imp id fun z => z.2⟩
    · rcases List.mem_append.mp hp with z | z
      · exact J2.pin p (List.mem_append_right _ z)
      · obtain ⟨a1, a2, a3, a4, a5, _⟩ := own' p z
        exact ⟨a1, a2, a3, a4, a5⟩
    · have w4 : F.Wk _ q' oq' s2 s3 := ⟨w3.env, w3.os, w3.stays, w3.item, w3.sub⟩
      have z := later (hm.imp (fun z => by show 1 < m + 1; omega) id) s3 w4
      rw [fit.P, fit.w, fit.A]
      exact z
  · obtain ⟨e1, en, K⟩ := hr
    have J := kept_inv ok fit I0 h K (.inl rfl)
    have J2 : Inv X pl σ H (s2.setGen g .finished) := inv_gens J (allBare_setGen J.bare rfl)
    have J3 := J2.kept (t' := s2.toks) (h' := h') hk
    exact hEnd _ e (by omega) en J3 st
end
end Mc
namespace GenFz
open PySem PyProof.Rows
theorem Rz.of {gl : List Value} {S : Nat → Option GenState} {A B : Array GenState} (R : Rz gl S A B) (i : Nat) : (∃ x, S i = some x ∧ A[i]? = some (stk gl x) ∧ B[i]? = some x) ∨ (S i = none ∧ A[i]? = B[i]?) := by
  cases e : S i with
  | none => exact .inr ⟨rfl, R.eq i e⟩
  | some x => exact .inl ⟨x, rfl, (R.fz i x e).2⟩
theorem Rz.bareA {gl : List Value} {S : Nat → Option GenState} {A B : Array GenState} (R : Rz gl S A B) (b : AllBare B) : AllBare A := fun y hy => by
  obtain ⟨i, hi⟩ := Array.mem_iff_getElem?.mp hy
  rcases R.of i with ⟨x, _, a, c⟩ | ⟨_, a⟩
  · rw [hi] at a; cases a
    rw [stk_bare]
    exact b x (Array.mem_of_getElem? c)
  · rw [hi] at a
    exact b y (Array.mem_of_getElem? a.symm)
theorem Rz.bareB {gl : List Value} {S : Nat → Option GenState} {A B : Array GenState} (R : Rz gl S A B) (b : AllBare A) : AllBare B := fun y hy => by
  obtain ⟨i, hi⟩ := Array.mem_iff_getElem?.mp hy
  rcases R.of i with ⟨x, _, a, c⟩ | ⟨_, a⟩
  · rw [hi] at c; cases c
    rw [← stk_bare gl]
    exact b _ (Array.mem_of_getElem? a)
  · rw [hi] at a
    exact b y (Array.mem_of_getElem? a)
/-- the addresses that are left as a word with a sleeper -/
def ghO (gh : Nat) (s : Shared) : List Addr := match s.gens[gh]? with
  | some (.suspended _ l _ _ _ _) => l.filterMap fun v => match v with | .ref a => some a | _ => none
  | _ => []
theorem gh_list (as : List Addr) : (as.map Value.ref).filterMap (fun v => match v with | .ref a => some a | _ => none) = as := by
  induction as with
  | nil => rfl
  | cons a as ih => simp only [List.map_cons, List.filterMap_cons, ih]
/-- the other one sleeps: the word stands there -/
theorem ghO_at {gl : List Addr} {s : Shared} {g gh : Nat} {x : GenState} {G : Array GenState} (R : Rz (gl.map Value.ref) (sleepBut g s.gens) G s.gens) (ne : gh ≠ g) (hx : s.gens[gh]? = some x) (sx : Sus x) : ghO gh (({ s with gens := G } : Shared).setGen g .running) = gl := by
  have e : sleepBut g s.gens gh = some x := by
    unfold sleepBut sleepers
    rw [if_neg ne, hx]
    cases x <;> first | rfl | exact sx.elim
  obtain ⟨_, a, _⟩ := R.fz gh x e
  have z : (({ s with gens := G } : Shared).setGen g .running).gens[gh]? = some (stk (gl.map Value.ref) x) := by
    show (G.setIfInBounds g .running)[gh]? = _
    rw [Array.getElem?_setIfInBounds_ne (Ne.symm ne)]; exact a
  unfold ghO
  rw [z]
  cases x with
  | suspended k l c p fs cl => exact gh_list gl
  | _ => exact sx.elim
theorem ghO_no {gl : List Value} {s : Shared} {g gh : Nat} {c : Code} {G : Array GenState} (R : Rz gl (sleepBut g s.gens) G s.gens) (ne : gh ≠ g) (hx : s.gens[gh]? = some (.fresh c)) : ghO gh (({ s with gens := G } : Shared).setGen g .running) = [] := by
  have e : sleepBut g s.gens gh = none := by
    unfold sleepBut sleepers
    rw [if_neg ne, hx]
  have z : (({ s with gens := G } : Shared).setGen g .running).gens[gh]? = some (.fresh c) := by
    show (G.setIfInBounds g .running)[gh]? = _
    rw [Array.getElem?_setIfInBounds_ne (Ne.symm ne), R.eq gh e]; exact hx
  unfold ghO
  rw [z]
theorem many_gh (gh : Nat) : ¬ ∀ s, ghO gh s = [] := fun h => by
  have z := h { gens := Array.replicate (gh + 1) (.suspended (fun _ => .unsupported "") [.ref 0] (.call .none ⟨[], []⟩) default [] false) }
  unfold ghO at z
  rw [Array.getElem?_replicate, if_pos (Nat.lt_succ_self gh)] at z
  cases z
end GenFz
namespace Mc
open PySem PySem.Spec PyProof.Rows L2 Evl GenW GenFz
section
variable {X : Cx} {F : GFam} {ps : List Str} {A : Around} {own pl : List (Addr × Obj)} {σ : L2.St} {H : Hp} {s s1 : Shared}
/-- what stands of a consumer's hand whatever the sleepers are -/
structure Palm (X : Cx) (F : GFam) (own pl : List (Addr × Obj)) (H : Hp) (s : Shared) : Prop where
  hb : Ex F.Hb H
  hL : F.L ∈ X.ex ∨ X.s_0.heap.objs.size ≤ F.L
  hLl : F.L ≠ X.env.locals
  hLn : H F.L = none
  cl : ∀ x c, X.env.cells.lookup x = some c → c ≠ F.L
  apart : ∀ p ∈ X.pn ++ pl, p.1 ≠ F.L ∧ ∀ o ∈ own, p.1 ≠ o.1
  mine : ∀ p ∈ own, s.heap.get? p.1 = some p.2 ∧ H p.1 = none ∧ p.1 ≠ X.env.locals ∧ (p.1 = F.L ∨ X.s_0.heap.objs.size ≤ p.1) ∧ (∀ x c, X.env.cells.lookup x = some c → c ≠ p.1)
/-- the word is the generator's own -/
def Word (F : GFam) (g : Nat) (own : List (Addr × Obj)) (gl : List Value) (s : Shared) : Prop := ∀ G, Rz gl (sleepBut g s.gens) G s.gens → (∀ p ∈ own, p.1 = F.L ∨ p.1 ∈ F.O (({ s with gens := G } : Shared).setGen g .running)) ∧ ∀ b ∈ F.O (({ s with gens := G } : Shared).setGen g .running), ∃ p ∈ own, p.1 = b
theorem word_at {g gh : Nat} {x : GenState} (ne : gh ≠ g) (hx : s.gens[gh]? = some x) (sx : Sus x) (hO : F.O = ghO gh) : Word F g own ((own.map (·.1)).map Value.ref) s := fun G R => by
  rw [hO, ghO_at R ne hx sx]
  exact ⟨fun p hp => .inr (List.mem_map.mpr ⟨p, hp, rfl⟩), fun b hb => by
    obtain ⟨p, hp, e⟩ := List.mem_map.mp hb
    exact ⟨p, hp, e⟩⟩
theorem word_no {g gh : Nat} {c : Code} (ne : gh ≠ g) (hx : s.gens[gh]? = some (.fresh c)) (hO : F.O = ghO gh) (h : ∀ p ∈ own, p.1 = F.L) : Word F g own [] s := fun G R => by
  rw [hO, ghO_no R ne hx]
  exact ⟨fun p hp => .inl (h p hp), fun b hb => by simp at hb⟩
/-- next of a generator: the other sleepers sleep on -/
theorem next_th (ok : F.Ok ps) (fit : Stands F X A) (hh : A.handled = none) (hd : A.depth < recursionLimit) {a q : Addr} {oq : Obj} {g n : Nat} {gs : GenState} (I : Inv X pl σ H s) (isg : s.heap.IsGen a g) (hgs : s.gens[g]? = some gs) (cln : Clean gs) (h : Palm X F own pl H s) {gl : List Value} (wd : Word F g own gl s)
    (q0 : F.Hb q = none → s.heap.get? q = some oq) (fut : F.Fut n gs own q oq s1) (os1 : s.os = s1.os) {Q : Value → Shared → Prop} {E : Value → Shared → Prop}
    (hItem : ∀ (m : Nat) (q' : Addr) (oq' : Obj) (own' : List (Addr × Obj)) (gs' : GenState) (s2 : Shared) (H' : Hp), n = m + 1 → Sus gs' → s2.gens[g]? = some gs' → Clean gs' → (∀ i x, i ≠ g → Sus x → s.gens[i]? = some x → s2.gens[i]? = some x) → Got X F m own pl σ H H' q' oq' own' gs' s s2 → Q (.ref q') s2)
    (hEnd : ∀ (s2 : Shared) (e : Value), n = 0 → F.ends → Inv X pl σ H s2 → StopAt e s2.heap → E e s2) : wpAny (model X.prog X.w) A (Builtin.SmallTypes.nextOf (.ref a)) Q E s := by
  have R := rz_but gl (g := g) (B := s.gens) (fun x hx => by rw [hgs] at hx; cases hx; exact cln)
  generalize hG : (s.gens.map (stk gl)).setIfInBounds g (s.gens[g]?.getD .finished) = G at R
  have Sg : sleepBut g s.gens g = none := if_pos rfl
  have gat : G[g]? = some gs := (R.eq g Sg).trans hgs
  have IA : Inv X pl σ H { s with gens := G } := inv_gens I (R.bareA I.bare)
  obtain ⟨w1, w2⟩ := wd G R
  have main := next_in (s := { s with gens := G }) (s1 := s1) (Q := fun v s2 => ∃ (m : Nat) (q' : Addr) (oq' : Obj) (own' : List (Addr × Obj)) (gs' : GenState) (H' : Hp), v = .ref q' ∧ n = m + 1 ∧ Sus gs' ∧ s2.gens[g]? = some gs' ∧ Got X F m own pl σ H H' q' oq' own' gs' { s with gens := G } s2)
    (E := fun e s2 => n = 0 ∧ F.ends ∧ Inv X pl σ H s2 ∧ StopAt e s2.heap) ok fit hh hd IA isg gat ⟨h.hb, h.hL, h.hLl, h.hLn, h.cl, h.apart, h.mine, w1, w2⟩ q0 fut os1
    (fun m q' oq' own' gs' s2 H' e1 _ e2 e3 e4 => ⟨m, q', oq', own', gs', H', rfl, e1, e2, e3, e4⟩) fun s2 e e1 e2 e3 e4 => ⟨e1, e2, e3, e4⟩
  refine wpAny_mono (wpAny_thaw R main) (fun v s2 hv => ?_) fun e s2 he => ?_
  · obtain ⟨A', R', m, q', oq', own', gs', H', rfl, e1, e2, e3, e4⟩ := hv
    have e3 : A'[g]? = some gs' := e3
    refine hItem m q' oq' own' gs' s2 H' e1 e2 ((R'.eq g Sg).symm.trans e3) (R'.cl g gs' Sg e3) (fun i x ne sx hx => ?_) ⟨inv_gens (s := { s2 with gens := A' }) (G := s2.gens) e4.inv (R'.bareB e4.inv.bare), e4.kn, fun hm s3 w3 => ?_, e4.adr, e4.frame, e4.lone⟩
    · have e : sleepBut g s.gens i = some x := by
        unfold sleepBut sleepers
        rw [if_neg ne, hx]
        cases x <;> first | rfl | exact sx.elim
      exact (R'.fz i x e).2.2
    · exact e4.fut hm s3 ⟨w3.env, w3.os, w3.stays, w3.item, w3.sub⟩
  · obtain ⟨A', R', e1, e2, e3, e4⟩ := he
    exact hEnd s2 e e1 e2 (inv_gens (s := { s2 with gens := A' }) (G := s2.gens) e3 (R'.bareB e3.bare)) e4
end
end Mc
namespace Mc
open PySem PySem.Spec PyProof.Rows L2 Evl GenW GenFz
/-! ### zip of two generators, turn by turn -/
abbrev zObj (TI TO : Addr) (f0 : Value) : Obj := { cls := .type "zip", dict := none, data := .fields #[f0, .bool false, .bool false, .ref TI, .ref TO], slots := #[] }
abbrev pObj (x y : Value) : Obj := { cls := .type "tuple", data := .seq #[x, y] }
theorem isub {X : Cx} {pins pins' : List (Addr × Obj)} {σ : L2.St} {H : Hp} {s : Shared} (I : Inv X pins σ H s) (h : ∀ p ∈ pins', p ∈ pins) : Inv X pins' σ H s := I.pins_of fun p hp => I.pin p (List.mem_append_right _ (h p hp))
/-- a record of ours has changed: it is pinned as it stands now -/
theorem repin {X : Cx} {b : Addr} {o o' : Obj} {rest : List (Addr × Obj)} {σ : L2.St} {H : Hp} {s : Shared} {h' : Heap} (I : Inv X ((b, o) :: rest) σ H s) (k : ∀ c u, c ≠ b → s.heap.get? c = some u → h'.get? c = some u) (g : h'.get? b = some o') (nc : ∀ v, o'.data ≠ .cell v)
    (h1 : b ∈ X.ex ∨ X.s_0.heap.objs.size ≤ b) (h2 : ∀ x c, X.env.cells.lookup x = some c → c ≠ b) (h3 : ∀ p ∈ X.pn ++ rest, p.1 ≠ b) : Inv X ((b, o') :: rest) σ H { s with heap := h' } := by
  obtain ⟨_, n, ne, nf, _⟩ := I.pin (b, o) (List.mem_append_right _ List.mem_cons_self)
  have J : Inv X rest σ H { s with heap := h' } := (isub I fun p hp => List.mem_cons_of_mem _ hp).turned (t' := s.toks) k n ne h1 h2 h3
  refine J.pins_of fun p hp => ?_
  rcases List.mem_cons.mp hp with z | z
  · rw [z]; exact ⟨g, n, ne, nf, nc⟩
  · exact J.pin p (List.mem_append_right _ z)
/-- what stays the same all the time -/
structure ZFix (X : Cx) (F1 F2 : GFam) (ps1 ps2 : List Str) (z TI TO a1 a2 : Addr) (o1 o2 : Obj) (g1 g2 : Nat) : Prop where
  ok1 : F1.Ok ps1
  ok2 : F2.Ok ps2
  fit1 : Stands F1 X X.A.in1
  fit2 : Stands F2 X X.A.in1
  hh : X.A.handled = none
  hd : X.A.in1.depth < recursionLimit
  gen1 : ∀ h : Heap, h.get? a1 = some o1 → h.IsGen a1 g1
  gen2 : ∀ h : Heap, h.get? a2 = some o2 → h.IsGen a2 g2
  gne : g1 ≠ g2
  O1 : F1.O = ghO g2
  O2 : F2.O = ghO g1
  pn : X.pn = []
  ex : ∀ b, b = z ∨ b = TO ∨ b = F1.L ∨ b = F2.L → b ∈ X.ex ∨ X.s_0.heap.objs.size ≤ b
  cel : ∀ b, b = z ∨ b = TO ∨ b = F1.L ∨ b = F2.L → ∀ x c, X.env.cells.lookup x = some c → c ≠ b
  nz : TO ≠ z ∧ TI ≠ z ∧ TI ≠ TO ∧ a1 ≠ z ∧ a2 ≠ z ∧ a1 ≠ TO ∧ a2 ≠ TO
  nL : ∀ b, b = z ∨ b = TO ∨ b = TI ∨ b = a1 ∨ b = a2 → b ≠ F1.L ∧ b ≠ F2.L
  LL : F1.L ≠ F2.L
  N : F1.tot = F2.tot
abbrev zFive (TI TO z a1 a2 : Addr) (o1 o2 : Obj) (f0 x y : Value) : List (Addr × Obj) := [(z, zObj TI TO f0), (TO, pObj x y), (TI, pObj (.ref a1) (.ref a2)), (a1, o1), (a2, o2)]
/-- one generator at rest -/
structure Rest (X : Cx) (F : GFam) (g n : Nat) (gs : GenState) (own : List (Addr × Obj)) (q : Addr) (oq : Obj) (H : Hp) (s : Shared) : Prop where
  at_ : s.gens[g]? = some gs
  cln : Clean gs
  fut : (0 < n ∨ F.ends) → ∃ s1 : Shared, s.os = s1.os ∧ F.Fut n gs own q oq s1
  item : F.Hb q = none → ∃ u, H q = some (.frz oq u)
  hb : Ex F.Hb H
  adr : ∀ p ∈ own, (p.1 = F.L ∨ X.s_0.heap.objs.size ≤ p.1) ∧ ∀ x c, X.env.cells.lookup x = some c → c ≠ p.1
  frame : ∃ fo, (F.L, fo) ∈ own
/-- it has not begun: its first item leaves the others alone -/
structure New (F : GFam) (gs : GenState) (own : List (Addr × Obj)) (q : Addr) (oq : Obj) (s : Shared) : Prop where
  fresh : ∃ c, gs = .fresh c
  lone : ∀ p ∈ own, p.1 = F.L
  hush : ∀ s', s'.os = s.os → F.Wk own q oq s s' → gs.Goes (model F.P F.w) F.A (fun _ s0 r s1 => ((r = .ok (.ret .none) ∨ r = .ok .next) ∧ s1.gens = s0.gens) ∨ ∃ e : Value, r = .error e ∧ False) (fun _ s0 _ s1 _ => s1.gens = s0.gens) 1 (.send .none) s'
structure ZAt (X : Cx) (F1 F2 : GFam) (z TI TO a1 a2 : Addr) (o1 o2 : Obj) (g1 g2 n : Nat) (H : Hp) (s : Shared) (pl : List (Addr × Obj)) : Prop where
  main : ∃ (own1 own2 : List (Addr × Obj)) (gs1 gs2 : GenState) (q1 q2 : Addr) (oq1 oq2 : Obj) (x y : Value), pl = zFive TI TO z a1 a2 o1 o2 .none x y ++ (own1 ++ own2) ∧ Rest X F1 g1 n gs1 own1 q1 oq1 H s ∧ Rest X F2 g2 n gs2 own2 q2 oq2 H s ∧
    (∀ p ∈ own1, ∀ o ∈ own2, p.1 ≠ o.1) ∧ (∀ b, b = z ∨ b = TO ∨ b = TI ∨ b = a1 ∨ b = a2 → ∀ o ∈ own1 ++ own2, b ≠ o.1) ∧
    ((Sus gs1 ∧ Sus gs2) ∨ ((∃ c, gs2 = .fresh c) ∧ (∀ p ∈ own2, p.1 = F2.L) ∧ ∃ sn : Shared, s.os = sn.os ∧ New F1 gs1 own1 q1 oq1 sn))
/-- what a consumer leaves alone between its turns -/
theorem ZAt.keep {X : Cx} {F1 F2 : GFam} {z TI TO a1 a2 : Addr} {o1 o2 : Obj} {g1 g2 n : Nat} {H H' : Hp} {s s' : Shared} {pl : List (Addr × Obj)} (Z : ZAt X F1 F2 z TI TO a1 a2 o1 o2 g1 g2 n H s pl) (os : s'.os = s.os) (hb1 : Ex F1.Hb H') (hb2 : Ex F2.Hb H') (fz : ∀ b o u, H b = some (.frz o u) → H' b = some (.frz o u))
    (gs : s'.gens = s.gens ∨ ((∀ gs1, s.gens[g1]? = some gs1 → Sus gs1) ∧ ∀ (i : Nat) (x : GenState), s.gens[i]? = some x → Sus x → s'.gens[i]? = some x)) (two : ∀ gs1 gs2, s.gens[g1]? = some gs1 → s.gens[g2]? = some gs2 → Sus gs1 → Sus gs2) : ZAt X F1 F2 z TI TO a1 a2 o1 o2 g1 g2 n H' s' pl := by
  obtain ⟨own1, own2, gs1, gs2, q1, q2, oq1, oq2, x, y, e, r1, r2, d1, d2, ph⟩ := Z.main
  have at1 : s'.gens[g1]? = some gs1 := by
    rcases gs with z | ⟨z1, z2⟩
    · rw [z]; exact r1.at_
    · exact z2 g1 gs1 r1.at_ (z1 gs1 r1.at_)
  have at2 : s'.gens[g2]? = some gs2 := by
    rcases gs with z | ⟨z1, z2⟩
    · rw [z]; exact r2.at_
    · exact z2 g2 gs2 r2.at_ (two gs1 gs2 r1.at_ r2.at_ (z1 gs1 r1.at_))
  refine ⟨own1, own2, gs1, gs2, q1, q2, oq1, oq2, x, y, e, ⟨at1, r1.cln, fun hn => ?_, fun hn => ?_, hb1, r1.adr, r1.frame⟩, ⟨at2, r2.cln, fun hn => ?_, fun hn => ?_, hb2, r2.adr, r2.frame⟩, d1, d2, ?_⟩
  · obtain ⟨t, a, b⟩ := r1.fut hn
    exact ⟨t, os.trans a, b⟩
  · obtain ⟨u, a⟩ := r1.item hn
    exact ⟨u, fz _ _ _ a⟩
  · obtain ⟨t, a, b⟩ := r2.fut hn
    exact ⟨t, os.trans a, b⟩
  · obtain ⟨u, a⟩ := r2.item hn
    exact ⟨u, fz _ _ _ a⟩
  · rcases ph with z | ⟨c, l, sn, a, b⟩
    · exact .inl z
    · exact .inr ⟨c, l, sn, os.trans a, b⟩
/-- what is there behind one generator's item, behind its end -/
def Nxt (X : Cx) (F : GFam) (g n : Nat) (own pl : List (Addr × Obj)) (σ : L2.St) (H : Hp) (s : Shared) (v : Value) (s2 : Shared) : Prop := ∃ (m : Nat) (q' : Addr) (oq' : Obj) (own' : List (Addr × Obj)) (gs' : GenState) (H' : Hp), v = .ref q' ∧ n = m + 1 ∧ Sus gs' ∧
  (∀ (i : Nat) (x : GenState), i ≠ g → Sus x → s.gens[i]? = some x → s2.gens[i]? = some x) ∧ Inv X (pl ++ own') σ H' s2 ∧ Rest X F g m gs' own' q' oq' H' s2 ∧ Ex H H' ∧ Rd H' q' (.tup (F.it (F.tot - (m + 1)))) ∧ ∀ p ∈ own', (p.1 = F.L ∨ ∃ o ∈ own, o.1 = p.1) ∨ s.heap.objs.size ≤ p.1
/-- one generator's turn, from a state in which all is pinned -/
theorem rest_next {X : Cx} {F : GFam} {ps : List Str} {A : Around} {a q : Addr} {oq : Obj} {g n : Nat} {gs : GenState} {own pl : List (Addr × Obj)} {σ : L2.St} {H : Hp} {s : Shared} {gl : List Value}
    (ok : F.Ok ps) (fit : Stands F X A) (hh : A.handled = none) (hd : A.depth < recursionLimit) (pn : X.pn = []) (hL : F.L ∈ X.ex ∨ X.s_0.heap.objs.size ≤ F.L) (cl : ∀ x c, X.env.cells.lookup x = some c → c ≠ F.L) (I : Inv X (pl ++ own) σ H s) (r : Rest X F g n gs own q oq H s) (isg : s.heap.IsGen a g) (hn : 0 < n ∨ F.ends)
    (apart : ∀ p ∈ pl, ∀ o ∈ own, p.1 ≠ o.1) (wd : Word F g own gl s) : wpAny (model X.prog X.w) A (Builtin.SmallTypes.nextOf (.ref a)) (Nxt X F g n own pl σ H s) (fun e s2 => n = 0 ∧ Inv X pl σ H s2 ∧ StopAt e s2.heap) s := by
  obtain ⟨s1, os1, fut⟩ := r.fut hn
  obtain ⟨fo, hfo⟩ := r.frame
  have pin : ∀ p ∈ own, s.heap.get? p.1 = some p.2 ∧ H p.1 = none ∧ p.1 ≠ X.env.locals ∧ p.1 ∉ X.fs ∧ ∀ v, p.2.data ≠ .cell v := fun p hp => I.pin p (List.mem_append_right _ (List.mem_append_right _ hp))
  have I0 : Inv X pl σ H s := isub I fun p hp => List.mem_append_left _ hp
  have pL := pin _ hfo
  refine next_th ok fit hh hd I0 isg r.at_ r.cln ⟨r.hb, hL, pL.2.2.1, pL.2.1, cl, fun p hp => ?_, fun p hp => ?_⟩ wd (fun hq => ?_) fut os1 (fun m q' oq' own' gs' s2 H' e1 e2 e3 e4 e5 e6 => ?_) fun s2 e e1 _ e3 e4 => ⟨e1, e3, e4⟩
  · rw [pn] at hp
    exact ⟨apart p (by simpa using hp) _ hfo, fun o ho => apart p (by simpa using hp) o ho⟩
  · obtain ⟨a1, a2, a3, _⟩ := pin p hp
    obtain ⟨b1, b2⟩ := r.adr p hp
    exact ⟨a1, a2, a3, b1, b2⟩
  · obtain ⟨u, z⟩ := r.item hq
    exact (I.hok _ _ z).1
  · have ex : Ex H H' := by
      rcases e6.kn with ⟨_, z⟩ | ⟨_, z1, z2⟩
      · rw [z]; exact Ex.refl _
      · rw [z2]; exact Ex.new z1
    refine ⟨m, q', oq', own', gs', H', rfl, e1, e2, e5, e6.inv, ⟨e3, e4, fun hm => ⟨s2, rfl, e6.fut hm⟩, fun hq => ?_, r.hb.trans ex, fun p hp => ⟨(e6.adr p hp).1, (e6.adr p hp).2.1⟩, e6.frame⟩, ex, ?_, fun p hp => (e6.adr p hp).2.2⟩
    · rcases e6.kn with ⟨z, _⟩ | ⟨_, _, z⟩
      · rw [hq] at z; cases z
      · exact ⟨_, by rw [z]; exact upd_same⟩
    · rcases e6.kn with ⟨z1, z2⟩ | ⟨_, _, z⟩
      · rw [z2]; exact .inl (r.hb _ _ z1)
      · rw [z]; exact .inr ⟨_, upd_same⟩
end Mc
namespace Mc
open PySem PySem.Spec PyProof.Rows L2 Evl GenW GenFz
section
variable {X : Cx} {F1 F2 : GFam} {ps1 ps2 : List Str} {z TI TO a1 a2 : Addr} {o1 o2 : Obj} {g1 g2 : Nat} {σ : L2.St} {H : Hp} {s : Shared} {pl : List (Addr × Obj)}
theorem Rest.heap {X : Cx} {F : GFam} {g n : Nat} {gs : GenState} {own : List (Addr × Obj)} {q : Addr} {oq : Obj} {H : Hp} {s : Shared} (r : Rest X F g n gs own q oq H s) (h' : Heap) : Rest X F g n gs own q oq H { s with heap := h' } := ⟨r.at_, r.cln, r.fut, r.item, r.hb, r.adr, r.frame⟩
theorem Rest.later {X : Cx} {F : GFam} {g n : Nat} {gs : GenState} {own : List (Addr × Obj)} {q : Addr} {oq : Obj} {H H' : Hp} {s s' : Shared} (r : Rest X F g n gs own q oq H s) (os : s'.os = s.os) (at_ : s'.gens[g]? = some gs) (e : Ex H H') : Rest X F g n gs own q oq H' s' :=
  ⟨at_, r.cln, fun hn => let ⟨t, a, b⟩ := r.fut hn; ⟨t, os.trans a, b⟩, fun hn => let ⟨u, a⟩ := r.item hn; ⟨u, e _ _ a⟩, r.hb.trans e, r.adr, r.frame⟩
/-- the first item of the first: the second, where it has not begun, stays so -/
theorem first_alone (Z : ZFix X F1 F2 ps1 ps2 z TI TO a1 a2 o1 o2 g1 g2) {A : Around} (fit : Stands F1 X A) (hh : A.handled = none) (hd : A.depth < recursionLimit) {pl own1 : List (Addr × Obj)} {n : Nat} {gs1 gs2 : GenState} {q1 : Addr} {oq1 : Obj} {sn : Shared} (I : Inv X (pl ++ own1) σ H s) (r1 : Rest X F1 g1 n gs1 own1 q1 oq1 H s) (at2 : s.gens[g2]? = some gs2) (isg : s.heap.IsGen a1 g1) (os : s.os = sn.os) (nw : New F1 gs1 own1 q1 oq1 sn) :
    wpAny (model X.prog X.w) A (Builtin.SmallTypes.nextOf (.ref a1)) (fun _ s2 => s2.gens[g2]? = some gs2) (fun _ _ => True) s := by
  have I0 : Inv X (pl ++ own1) σ H (s.setGen g1 .running) := inv_gens I (allBare_setGen I.bare rfl)
  have pin : ∀ p ∈ own1, s.heap.get? p.1 = some p.2 := fun p hp => (I.pin p (List.mem_append_right _ (List.mem_append_right _ hp))).1
  have W : F1.Wk own1 q1 oq1 sn (s.setGen g1 .running) := by
    have e := I0.env0
    have bn : ∀ {b : Addr}, H b = none → F1.Hb b = none := fun {b} n => by
      cases g : F1.Hb b with
      | none => rfl
      | some u => rw [r1.hb _ _ g] at n; cases n
    have ho : HOk F1.P F1.w H (s.setGen g1 .running).heap := by rw [fit.P, fit.w]; exact e.hok
    have fr : F1.A.frames = some F1.outer := by rw [fit.frames, fit.outer]; exact I.ok.frames
    refine ⟨⟨fr, by rw [fit.K, fit.mg, fit.base]; exact e.mod, fun b o z => by rw [fit.base] at z; exact ⟨(e.bs b o z).1, bn (e.bs b o z).2⟩, by rw [fit.base]; exact e.bsz, by rw [fit.base, fit.outer]; exact e.funs, fun b hb => by rw [fit.outer] at hb; exact bn (e.frf b hb), hok_sub Z.ok1 r1.hb ho, e.bare⟩, os, pin, fun hq => ?_, fun p hp => .inl (nw.lone p hp)⟩
    obtain ⟨u, y⟩ := r1.item hq
    exact (I.hok _ _ y).1
  have go := nw.hush (s.setGen g1 .running) os W
  rw [fit.P, fit.w, fit.A] at go
  refine wpAny_nextOf_gen (n := 1) (Fn := fun _ s0 s1 => s1.gens = s0.gens) (Y := fun _ s0 _ s1 _ => s1.gens = s0.gens) hh I.nolimit hd isg r1.at_ go (fun v s2 gs' hb hsu hy => ?_) fun s2 hr h' e hk st => trivial
  have hy : s2.gens = (s.setGen g1 .running).gens := hy
  show (s2.gens.setIfInBounds g1 gs')[g2]? = some gs2
  rw [Array.getElem?_setIfInBounds_ne Z.gne, hy]
  show (s.gens.setIfInBounds g1 .running)[g2]? = some gs2
  rw [Array.getElem?_setIfInBounds_ne Z.gne]
  exact at2
theorem zip_turn (Z : ZFix X F1 F2 ps1 ps2 z TI TO a1 a2 o1 o2 g1 g2) {m : Nat} (I : Inv X pl σ H s) (zt : ZAt X F1 F2 z TI TO a1 a2 o1 o2 g1 g2 (m + 1) H s pl) {elts : List Expr} {kk : Nat} {tpos : Pos} {E : Value → Shared → Prop} :
    wpAny (model X.prog X.w) X.A (pyNext (.ref z)) (fun r s6 => ∃ u, r = some u ∧ wpAny (model X.prog X.w) X.A (letOwnedTupleGo (.Tuple elts kk tpos) (.ref z) u) (fun _ s7 => ∃ (T q1 q2 : Addr) (H' : Hp) (pl' : List (Addr × Obj)), u = .ref T ∧ Inv X pl' σ H' s7 ∧ ZAt X F1 F2 z TI TO a1 a2 o1 o2 g1 g2 m H' s7 pl' ∧
      (∀ gs1, s7.gens[g1]? = some gs1 → Sus gs1) ∧ (∀ gs2, s7.gens[g2]? = some gs2 → Sus gs2) ∧ Ex H H' ∧ H' T = some (.tup [.ref q1, .ref q2]) ∧ Rd H' q1 (.tup (F1.it (F1.tot - (m + 1)))) ∧ Rd H' q2 (.tup (F2.it (F2.tot - (m + 1))))) E s6) E s := by
  obtain ⟨own1, own2, gs1, gs2, q1, q2, oq1, oq2, x, y, rfl, r1, r2, d1, d2, ph⟩ := zt.main
  obtain ⟨TOz, TIz, TITO, a1z, a2z, a1TO, a2TO⟩ := Z.nz
  have pin : ∀ p ∈ zFive TI TO z a1 a2 o1 o2 .none x y ++ (own1 ++ own2), s.heap.get? p.1 = some p.2 := fun p hp => (I.pin p (List.mem_append_right _ hp)).1
  have five : ∀ {l : List (Addr × Obj)} {p : Addr × Obj}, p ∈ zFive TI TO z a1 a2 o1 o2 .none x y → p ∈ zFive TI TO z a1 a2 o1 o2 .none x y ++ l := fun h => List.mem_append_left _ h
  have hz : IsZip s.heap z TI TO .none := pin (z, _) (five (by simp))
  have hTO : IsPair s.heap TO x y := pin (TO, _) (five (by simp))
  have hTI : IsPair s.heap TI (.ref a1) (.ref a2) := pin (TI, _) (five (by simp))
  have d2a : ∀ b, b = z ∨ b = TO ∨ b = TI ∨ b = a1 ∨ b = a2 → ∀ o ∈ own1, b ≠ o.1 := fun b hb o ho => d2 b hb o (List.mem_append_left _ ho)
  have d2b : ∀ b, b = z ∨ b = TO ∨ b = TI ∨ b = a1 ∨ b = a2 → ∀ o ∈ own2, b ≠ o.1 := fun b hb o ho => d2 b hb o (List.mem_append_right _ ho)
  refine pyNext_zipG Z.hh ⟨hz, hTI, hTO, TIz, TOz, TITO⟩ fun h1 hz1 hs1 => ?_
  have nin : ∀ p ∈ X.pn ++ ((TO, pObj x y) :: (TI, pObj (.ref a1) (.ref a2)) :: (a1, o1) :: (a2, o2) :: (own1 ++ own2)), p.1 ≠ z := fun p hp => by
    rw [Z.pn] at hp
    have hp : p ∈ (TO, pObj x y) :: (TI, pObj (.ref a1) (.ref a2)) :: (a1, o1) :: (a2, o2) :: (own1 ++ own2) := by simpa using hp
    rcases List.mem_cons.mp hp with e | hp
    · rw [e]; exact TOz
    rcases List.mem_cons.mp hp with e | hp
    · rw [e]; exact TIz
    rcases List.mem_cons.mp hp with e | hp
    · rw [e]; exact a1z
    rcases List.mem_cons.mp hp with e | hp
    · rw [e]; exact a2z
    exact fun e => d2 z (.inl rfl) p hp e.symm
  have I1 : Inv X ((z, zObj TI TO .ellipsis) :: (TO, pObj x y) :: (TI, pObj (.ref a1) (.ref a2)) :: (a1, o1) :: (a2, o2) :: (own1 ++ own2)) σ H { s with heap := h1 } :=
    repin I (fun c u ne e => (hs1.2 c ne).trans e) hz1 (fun v e => nomatch e) (Z.ex z (.inl rfl)) (Z.cel z (.inl rfl)) nin
  have pin1 : ∀ p ∈ (z, zObj TI TO .ellipsis) :: (TO, pObj x y) :: (TI, pObj (.ref a1) (.ref a2)) :: (a1, o1) :: (a2, o2) :: (own1 ++ own2), h1.get? p.1 = some p.2 := fun p hp => (I1.pin p (List.mem_append_right _ hp)).1
  have lt1 : ∀ p ∈ (z, zObj TI TO .ellipsis) :: (TO, pObj x y) :: (TI, pObj (.ref a1) (.ref a2)) :: (a1, o1) :: (a2, o2) :: (own1 ++ own2), p.1 < h1.objs.size := fun p hp => Heap.lt_size (pin1 p hp)
  have J1 : Inv X (((z, zObj TI TO .ellipsis) :: (TO, pObj x y) :: (TI, pObj (.ref a1) (.ref a2)) :: (a1, o1) :: (a2, o2) :: own2) ++ own1) σ H { s with heap := h1 } := isub I1 fun p hp => by
    simp only [List.mem_append, List.mem_cons] at hp ⊢
    rcases hp with (e | e | e | e | e | e) | e <;> simp [e]
  have sep1 : ∀ p ∈ (z, zObj TI TO .ellipsis) :: (TO, pObj x y) :: (TI, pObj (.ref a1) (.ref a2)) :: (a1, o1) :: (a2, o2) :: own2, ∀ o ∈ own1, p.1 ≠ o.1 := fun p hp o ho => by
    rcases List.mem_cons.mp hp with e | hp
    · rw [e]; exact d2a z (.inl rfl) o ho
    rcases List.mem_cons.mp hp with e | hp
    · rw [e]; exact d2a TO (.inr (.inl rfl)) o ho
    rcases List.mem_cons.mp hp with e | hp
    · rw [e]; exact d2a TI (.inr (.inr (.inl rfl))) o ho
    rcases List.mem_cons.mp hp with e | hp
    · rw [e]; exact d2a a1 (.inr (.inr (.inr (.inl rfl)))) o ho
    rcases List.mem_cons.mp hp with e | hp
    · rw [e]; exact d2a a2 (.inr (.inr (.inr (.inr rfl)))) o ho
    exact fun e => d1 o ho p hp e.symm
  have isg1 : ({ s with heap := h1 } : Shared).heap.IsGen a1 g1 := Z.gen1 _ (pin1 (a1, o1) (by simp))
  obtain ⟨gl1, wd1⟩ : ∃ gl, Word F1 g1 own1 gl { s with heap := h1 } := by
    rcases ph with ⟨_, b⟩ | ⟨⟨c, e⟩, _, _, _, nw⟩
    · exact ⟨_, word_at (Ne.symm Z.gne) r2.at_ b Z.O1⟩
    · exact ⟨_, word_no (Ne.symm Z.gne) (e ▸ r2.at_) Z.O1 nw.lone⟩
  have turn1 := rest_next (σ := σ) (gl := gl1) Z.ok1 Z.fit1 Z.hh Z.hd Z.pn (Z.ex _ (.inr (.inr (.inl rfl)))) (Z.cel _ (.inr (.inr (.inl rfl)))) J1 (r1.heap h1) isg1 (.inl (Nat.succ_pos m)) sep1 wd1
  have stays2 : wpAny (model X.prog X.w) X.A.in1 (Builtin.SmallTypes.nextOf (.ref a1)) (fun _ s2 => s2.gens[g2]? = some gs2) (fun _ _ => True) { s with heap := h1 } := by
    rcases ph with ⟨_, b⟩ | ⟨_, _, sn, os, nw⟩
    · refine wpAny_mono turn1 (fun v s2 h => ?_) fun _ _ _ => trivial
      obtain ⟨_, _, _, _, _, _, _, _, _, h, _⟩ := h
      exact h g2 gs2 (Ne.symm Z.gne) b r2.at_
    · exact first_alone Z Z.fit1 Z.hh Z.hd J1 (r1.heap h1) r2.at_ isg1 os nw
  refine wpAny_mono (wpAny_both turn1 stays2) (fun v1 s2 hv => ?_) fun e s2 he => absurd he.1.1 (Nat.succ_ne_zero m)
  obtain ⟨⟨m1, q1', oq1', own1', gs1', H1, rfl, e1, su1, _, J2, r1', ex1, rd1, ad1⟩, at2⟩ := hv
  obtain rfl : m1 = m := by omega
  have pin2 : ∀ p ∈ ((z, zObj TI TO .ellipsis) :: (TO, pObj x y) :: (TI, pObj (.ref a1) (.ref a2)) :: (a1, o1) :: (a2, o2) :: own2) ++ own1', s2.heap.get? p.1 = some p.2 := fun p hp => (J2.pin p (List.mem_append_right _ hp)).1
  -- the new own records stand apart
  have far1 : ∀ (b : Addr), b < h1.objs.size → (∀ o ∈ own1, b ≠ o.1) → b ≠ F1.L → ∀ o ∈ own1', b ≠ o.1 := fun b lt no nL o ho e => by
    rcases ad1 o ho with (q | ⟨o', h', q⟩) | q
    · exact nL (e.trans q)
    · exact no o' h' (e.trans q.symm)
    · have q : h1.objs.size ≤ o.1 := q
      exact absurd lt (by rw [e]; exact Nat.not_lt_of_le q)
  have d2a' : ∀ b, b = z ∨ b = TO ∨ b = TI ∨ b = a1 ∨ b = a2 → ∀ o ∈ own1', b ≠ o.1 := fun b hb => by
    refine far1 b ?_ (d2a b hb) (Z.nL b hb).1
    rcases hb with e | e | e | e | e
    · rw [e]; exact lt1 (z, zObj TI TO .ellipsis) (by simp)
    · rw [e]; exact lt1 (TO, pObj x y) (by simp)
    · rw [e]; exact lt1 (TI, pObj (.ref a1) (.ref a2)) (by simp)
    · rw [e]; exact lt1 (a1, o1) (by simp)
    · rw [e]; exact lt1 (a2, o2) (by simp)
  have d12' : ∀ p ∈ own1', ∀ o ∈ own2, p.1 ≠ o.1 := fun p hp o ho e => by
    obtain ⟨fo, hfo⟩ := r1.frame
    exact far1 o.1 (lt1 o (by simp [ho])) (fun o' h' q => d1 o' h' o ho q.symm) (fun q => d1 _ hfo o ho q.symm) p hp e.symm
  refine ⟨pin2 (TO, pObj x y) (by simp), fun h3 hTO3 hs3 => ?_⟩
  have nin2 : ∀ p ∈ X.pn ++ ((z, zObj TI TO .ellipsis) :: (TI, pObj (.ref a1) (.ref a2)) :: (a1, o1) :: (a2, o2) :: (own2 ++ own1')), p.1 ≠ TO := fun p hp => by
    rw [Z.pn] at hp
    have hp : p ∈ (z, zObj TI TO .ellipsis) :: (TI, pObj (.ref a1) (.ref a2)) :: (a1, o1) :: (a2, o2) :: (own2 ++ own1') := by simpa using hp
    rcases List.mem_cons.mp hp with e | hp
    · rw [e]; exact TOz.symm
    rcases List.mem_cons.mp hp with e | hp
    · rw [e]; exact TITO
    rcases List.mem_cons.mp hp with e | hp
    · rw [e]; exact a1TO
    rcases List.mem_cons.mp hp with e | hp
    · rw [e]; exact a2TO
    rcases List.mem_append.mp hp with hp | hp
    · exact fun e => d2b TO (.inr (.inl rfl)) p hp e.symm
    · exact fun e => d2a' TO (.inr (.inl rfl)) p hp e.symm
  have I3 : Inv X ((TO, pObj (.ref q1') y) :: (z, zObj TI TO .ellipsis) :: (TI, pObj (.ref a1) (.ref a2)) :: (a1, o1) :: (a2, o2) :: (own2 ++ own1')) σ H1 { s2 with heap := h3 } := by
    refine repin (o := pObj x y) (isub J2 fun p hp => ?_) (fun c u ne e => (hs3.2 c ne).trans e) hTO3 (fun v e => nomatch e) (Z.ex TO (.inr (.inl rfl))) (Z.cel TO (.inr (.inl rfl))) nin2
    simp only [List.mem_append, List.mem_cons] at hp ⊢
    rcases hp with e | e | e | e | e | e | e <;> simp [e]
  have J3 : Inv X (((TO, pObj (.ref q1') y) :: (z, zObj TI TO .ellipsis) :: (TI, pObj (.ref a1) (.ref a2)) :: (a1, o1) :: (a2, o2) :: own1') ++ own2) σ H1 { s2 with heap := h3 } := isub I3 fun p hp => by
    simp only [List.mem_append, List.mem_cons] at hp ⊢
    rcases hp with (e | e | e | e | e | e) | e <;> simp [e]
  have pin3 : ∀ p ∈ ((TO, pObj (.ref q1') y) :: (z, zObj TI TO .ellipsis) :: (TI, pObj (.ref a1) (.ref a2)) :: (a1, o1) :: (a2, o2) :: own1') ++ own2, h3.get? p.1 = some p.2 := fun p hp => (J3.pin p (List.mem_append_right _ hp)).1
  have lt3 : ∀ p ∈ ((TO, pObj (.ref q1') y) :: (z, zObj TI TO .ellipsis) :: (TI, pObj (.ref a1) (.ref a2)) :: (a1, o1) :: (a2, o2) :: own1') ++ own2, p.1 < h3.objs.size := fun p hp => Heap.lt_size (pin3 p hp)
  have sep3 : ∀ p ∈ (TO, pObj (.ref q1') y) :: (z, zObj TI TO .ellipsis) :: (TI, pObj (.ref a1) (.ref a2)) :: (a1, o1) :: (a2, o2) :: own1', ∀ o ∈ own2, p.1 ≠ o.1 := fun p hp o ho => by
    rcases List.mem_cons.mp hp with e | hp
    · rw [e]; exact d2b TO (.inr (.inl rfl)) o ho
    rcases List.mem_cons.mp hp with e | hp
    · rw [e]; exact d2b z (.inl rfl) o ho
    rcases List.mem_cons.mp hp with e | hp
    · rw [e]; exact d2b TI (.inr (.inr (.inl rfl))) o ho
    rcases List.mem_cons.mp hp with e | hp
    · rw [e]; exact d2b a1 (.inr (.inr (.inr (.inl rfl)))) o ho
    rcases List.mem_cons.mp hp with e | hp
    · rw [e]; exact d2b a2 (.inr (.inr (.inr (.inr rfl)))) o ho
    exact d12' p hp o ho
  have isg2 : ({ s2 with heap := h3 } : Shared).heap.IsGen a2 g2 := Z.gen2 _ (pin3 (a2, o2) (by simp))
  have osS : ∀ {pins : List (Addr × Obj)} {σ' : L2.St} {H' : Hp} {s' : Shared}, Inv X pins σ' H' s' → s'.os = s.os := fun I' => I'.os.trans I.os.symm
  have r2' : Rest X F2 g2 (m1 + 1) gs2 own2 q2 oq2 H1 { s2 with heap := h3 } := r2.later (s' := { s2 with heap := h3 }) (show s2.os = s.os from osS J2) at2 ex1
  have turn2 := rest_next (σ := σ) Z.ok2 Z.fit2 Z.hh Z.hd Z.pn (Z.ex _ (.inr (.inr (.inr rfl)))) (Z.cel _ (.inr (.inr (.inr rfl)))) J3 r2' isg2 (.inl (Nat.succ_pos m1)) sep3 (word_at (own := own2) (s := { s2 with heap := h3 }) Z.gne r1'.at_ su1 Z.O2)
  refine wpAny_mono turn2 (fun v2 s4 hv => ?_) fun e s4 he => absurd he.1 (Nat.succ_ne_zero m1)
  obtain ⟨m2, q2', oq2', own2', gs2', H2, rfl, e2, su2, keep2, J4, r2'', ex2, rd2, ad2⟩ := hv
  obtain rfl : m2 = m1 := by omega
  have pin4 : ∀ p ∈ ((TO, pObj (.ref q1') y) :: (z, zObj TI TO .ellipsis) :: (TI, pObj (.ref a1) (.ref a2)) :: (a1, o1) :: (a2, o2) :: own1') ++ own2', s4.heap.get? p.1 = some p.2 := fun p hp => (J4.pin p (List.mem_append_right _ hp)).1
  have pn4 : ∀ p ∈ ((TO, pObj (.ref q1') y) :: (z, zObj TI TO .ellipsis) :: (TI, pObj (.ref a1) (.ref a2)) :: (a1, o1) :: (a2, o2) :: own1') ++ own2', H2 p.1 = none ∧ p.1 ≠ X.env.locals ∧ p.1 ∉ X.fs := fun p hp => let ⟨_, b, c, d, _⟩ := J4.pin p (List.mem_append_right _ hp); ⟨b, c, d⟩
  have far2 : ∀ (b : Addr), b < h3.objs.size → (∀ o ∈ own2, b ≠ o.1) → b ≠ F2.L → ∀ o ∈ own2', b ≠ o.1 := fun b lt no nL o ho e => by
    rcases ad2 o ho with (q | ⟨o', h', q⟩) | q
    · exact nL (e.trans q)
    · exact no o' h' (e.trans q.symm)
    · have q : h3.objs.size ≤ o.1 := q
      exact absurd lt (by rw [e]; exact Nat.not_lt_of_le q)
  have d2b' : ∀ b, b = z ∨ b = TO ∨ b = TI ∨ b = a1 ∨ b = a2 → ∀ o ∈ own2', b ≠ o.1 := fun b hb => by
    refine far2 b ?_ (d2b b hb) (Z.nL b hb).2
    rcases hb with e | e | e | e | e
    · rw [e]; exact lt3 (z, zObj TI TO .ellipsis) (by simp)
    · rw [e]; exact lt3 (TO, pObj (.ref q1') y) (by simp)
    · rw [e]; exact lt3 (TI, pObj (.ref a1) (.ref a2)) (by simp)
    · rw [e]; exact lt3 (a1, o1) (by simp)
    · rw [e]; exact lt3 (a2, o2) (by simp)
  have d3' : ∀ p ∈ own1', ∀ o ∈ own2', p.1 ≠ o.1 := fun p hp => by
    obtain ⟨fo, hfo⟩ := r2.frame
    exact far2 p.1 (lt3 p (by simp [hp])) (d12' p hp) (fun q => d12' p hp _ hfo q)
  refine ⟨pin4 (TO, pObj (.ref q1') y) (by simp), pin4 (z, zObj TI TO .ellipsis) (by simp), fun h8 hz8 hTO8 hT8 sz8 k8 => ⟨_, rfl, wpAny_letOwnedTupleGo_zip (s := { s4 with heap := h8 }) hz8 fun h9 hz9 hs9 => ?_⟩⟩
  have zlt : z < s4.heap.objs.size := Heap.lt_size (pin4 (z, zObj TI TO .ellipsis) (by simp))
  have TOlt : TO < s4.heap.objs.size := Heap.lt_size (pin4 (TO, pObj (.ref q1') y) (by simp))
  have nT : H2 s4.heap.objs.size = none := J4.hok.fresh (Nat.le_refl _)
  have K4 : Inv X ((TI, pObj (.ref a1) (.ref a2)) :: (a1, o1) :: (a2, o2) :: (own1' ++ own2')) σ H2 s4 := isub J4 fun p hp => by
    simp only [List.mem_append, List.mem_cons] at hp ⊢
    rcases hp with e | e | e | e | e <;> simp [e]
  have fp : ∀ b ∈ [z, TO], FpOk X ((TI, pObj (.ref a1) (.ref a2)) :: (a1, o1) :: (a2, o2) :: (own1' ++ own2')) H2 b := fun b hb => by
    have hb : b = z ∨ b = TO := by simpa using hb
    have hq : ∃ o, (b, o) ∈ ((TO, pObj (.ref q1') y) :: (z, zObj TI TO .ellipsis) :: (TI, pObj (.ref a1) (.ref a2)) :: (a1, o1) :: (a2, o2) :: own1') ++ own2' := by
      rcases hb with e | e
      · exact ⟨zObj TI TO .ellipsis, by rw [e]; simp⟩
      · exact ⟨pObj (.ref q1') y, by rw [e]; simp⟩
    obtain ⟨o, hq⟩ := hq
    obtain ⟨n1, n2, n3⟩ := pn4 _ hq
    have hb' : b = z ∨ b = TO ∨ b = F1.L ∨ b = F2.L := hb.elim .inl fun e => .inr (.inl e)
    have hb5 : b = z ∨ b = TO ∨ b = TI ∨ b = a1 ∨ b = a2 := hb.elim .inl fun e => .inr (.inl e)
    refine ⟨n1, n2, n3, Z.ex b hb', Z.cel b hb', fun p hp => ?_⟩
    rw [Z.pn] at hp
    have hp : p ∈ (TI, pObj (.ref a1) (.ref a2)) :: (a1, o1) :: (a2, o2) :: (own1' ++ own2') := by simpa using hp
    rcases List.mem_cons.mp hp with e | hp
    · rw [e]; rcases hb with q | q <;> rw [q]
      · exact TIz
      · exact TITO
    rcases List.mem_cons.mp hp with e | hp
    · rw [e]; rcases hb with q | q <;> rw [q]
      · exact a1z
      · exact a1TO
    rcases List.mem_cons.mp hp with e | hp
    · rw [e]; rcases hb with q | q <;> rw [q]
      · exact a2z
      · exact a2TO
    rcases List.mem_append.mp hp with hp | hp
    · exact fun e => d2a' b hb5 p hp e.symm
    · exact fun e => d2b' b hb5 p hp e.symm
  have hT9 : h9.get? s4.heap.objs.size = some (pObj (.ref q1') (.ref q2')) := (hs9.2 _ (Nat.ne_of_gt zlt)).trans hT8
  have I5 : Inv X ((TI, pObj (.ref a1) (.ref a2)) :: (a1, o1) :: (a2, o2) :: (own1' ++ own2')) σ (upd H2 s4.heap.objs.size (.tup [.ref q1', .ref q2'])) { s4 with heap := h9 } :=
    K4.turnedNew (t' := s4.toks) (ch := [z, TO]) (fun c o hb e => (hs9.2 c (fun q => hb (by simp [q]))).trans (k8 c o (fun q => hb (by simp [q])) (fun q => hb (by simp [q])) e)) fp (Nat.le_refl _) ⟨by show 2 ≤ sizeLine; decide, [.ref q1', .ref q2'], .cons rfl (.cons rfl .nil), ⟨_, hT9, rfl, _, rfl⟩⟩
  have ex5 : Ex H2 (upd H2 s4.heap.objs.size (.tup [.ref q1', .ref q2'])) := Ex.new nT
  have I6 : Inv X (zFive TI TO z a1 a2 o1 o2 .none (.ref q1') (.ref q2') ++ (own1' ++ own2')) σ (upd H2 s4.heap.objs.size (.tup [.ref q1', .ref q2'])) { s4 with heap := h9 } := by
    refine I5.pins_of fun p hp => ?_
    have hp : p ∈ (z, zObj TI TO .none) :: (TO, pObj (.ref q1') (.ref q2')) :: (TI, pObj (.ref a1) (.ref a2)) :: (a1, o1) :: (a2, o2) :: (own1' ++ own2') := hp
    rcases List.mem_cons.mp hp with e | hp
    · obtain ⟨n1, n2, n3⟩ := pn4 (z, zObj TI TO .ellipsis) (by simp)
      rw [e]
      exact ⟨hz9, by rw [upd_ne (Nat.ne_of_lt zlt)]; exact n1, n2, n3, fun v q => nomatch q⟩
    rcases List.mem_cons.mp hp with e | hp
    · obtain ⟨n1, n2, n3⟩ := pn4 (TO, pObj (.ref q1') y) (by simp)
      rw [e]
      exact ⟨(hs9.2 _ TOz).trans hTO8, by rw [upd_ne (Nat.ne_of_lt TOlt)]; exact n1, n2, n3, fun v q => nomatch q⟩
    exact I5.pin p (List.mem_append_right _ hp)
  have at1' : s4.gens[g1]? = some gs1' := keep2 g1 gs1' Z.gne su1 r1'.at_
  refine ⟨_, q1', q2', _, _, rfl, I6, ⟨own1', own2', gs1', gs2', q1', q2', oq1', oq2', _, _, rfl, ?_, ?_, d3', fun b hb o ho => ?_, .inl ⟨su1, su2⟩⟩, fun gs h => ?_, fun gs h => ?_, (ex1.trans ex2).trans ex5, upd_same, ?_, ?_⟩
  · exact r1'.later (s' := { s4 with heap := h9 }) (show s4.os = s2.os from (osS J4).trans (osS J2).symm) at1' (ex2.trans ex5)
  · exact r2''.later (s' := { s4 with heap := h9 }) rfl r2''.at_ ex5
  · rcases List.mem_append.mp ho with ho | ho
    · exact d2a' b hb o ho
    · exact d2b' b hb o ho
  · have h : s4.gens[g1]? = some gs := h
    rw [at1'] at h; cases h; exact su1
  · have h : s4.gens[g2]? = some gs := h
    rw [r2''.at_] at h; cases h; exact su2
  · rcases rd1 with e | ⟨o, e⟩
    · exact .inl (ex5 _ _ (ex2 _ _ e))
    · exact .inr ⟨o, ex5 _ _ (ex2 _ _ e)⟩
  · rcases rd2 with e | ⟨o, e⟩
    · exact .inl (ex5 _ _ e)
    · exact .inr ⟨o, ex5 _ _ e⟩
end
end Mc
namespace Mc
open PySem PySem.Spec PyProof.Rows L2 Evl GenW GenFz
/-! ### a generator is made -/
/-- what a call gives: its object at a, its frame at L, its code that has not begun -/
structure GNew (N : List Str) (qual : Str) (scope : Scope) (f : Addr) (cdv : Value) (body : List Stmt) (s : Shared) (vs : List V) (s' : Shared) (a L : Addr) (go fo : Obj) (m : Str → Option Value) : Prop where
  eqL : L = s.heap.objs.size
  La : L < a
  alt : a < s'.heap.objs.size
  obj : s'.heap.get? a = some go
  gen : ∀ h : Heap, h.get? a = some go → h.IsGen a s.gens.size
  gnc : ∀ v, go.data ≠ .cell v
  gens : s'.gens = s.gens.push (.fresh (.func body (envOfC qual scope L f cdv)))
  frm : s'.heap.get? L = some fo
  fnc : ∀ v, fo.data ≠ .cell v
  ns : ∀ h : Heap, h.get? L = some fo → h.Ns L m
  vars : ∀ (i : Nat) (x : Str) (v : V), N[i]? = some x → (start N vs)[i]? = some (some v) → Vis scope x → ∃ u, L2.RelV v u ∧ scope.names.lookup x = some .local ∧ m x = some u
  len : (start N vs).length = N.length
  os : s'.os = s.os
  keep : ∀ b o, s.heap.get? b = some o → s'.heap.get? b = some o
theorem gnew_of {P : Program} {w : World} {K : PySem.W.Frag} {mg : Str → Option Value} {base : Heap} {f : Addr} {name qual : Str} {params : Arguments} {body : List Stmt} {scope : Scope} {dV kV doc pm cdv ct oc : Value} {an od : Option Addr} {osl : Array (Option Value)} {N ps : List Str}
    (lk : K.lookup f = some ⟨oc, od, .func (PySem.W.fnOf name qual params body scope dV kV doc pm an cdv ct), osl⟩) (hcd : PySem.W.codeIn K cdv qual = true) (S : GScope N ps scope) (nc : ∀ y ∈ scope.names, y.2 ≠ .cell) {A : Around} {outer : List Env} {s : Shared} {H : Hp} {args : Args} {us : List Value} {vs : List V}
    (hr : Room 1 A) (e0 : Env0 P w K mg base A outer s H) (hb : BindsTo s (PySem.W.fnOf name qual params body scope dV kV doc pm an cdv ct) args (ps.zip us)) (r : Vals vs us) (hl : vs.length = ps.length) :
    codeAny (model P w) A (.call (.ref f) args) (fun res s' => ∃ (a L : Addr) (go fo : Obj) (m : Str → Option Value), res = .ok (.ret (.ref a)) ∧ GNew N qual scope f cdv body s vs s' a L go fo m) s := by
  have kx : K.In s.heap := e0.mod.kin.keeps fun b o q => (e0.bs b o q).1
  have roomy : s.heap.NoLimit := e0.mod.nolimit.keeps fun b o q => (e0.bs b o q).1
  refine codeAny_call_generator hr.depth (kx _ _ lk) rfl S.co S.gen rfl (PySem.W.codeRec_of kx hcd) (hb _ _ _ _ ?_)
  refine wpAny_newFunctionEnv_cells S.kind (fun ⟨n, v⟩ hy => ?_) fun env he s1 x => ?_
  · rcases S.par n (List.of_mem_zip hy).1 with q | q
    · exact .inl q
    · exact .inr ⟨q, PySem.W.cellsFrom_some _ _ _ (.inl q)⟩
  subst he
  refine ⟨roomy.keeps x.toInCall.keep, ?_⟩
  obtain ⟨h1, tk, es1, hk1⟩ := x.done
  have os1 : s1.os = s.os := by rw [es1]
  have gens1 : s1.gens = s.gens := by rw [es1]
  have lt1 : s.heap.objs.size < s1.heap.objs.size := x.toInCall.ns.lt
  have I1 : Inv (gcxOf P w K mg base N qual scope f cdv A outer s H E00 []) [] (start N vs) H s1 := inv_startG S hr.hd e0 hl r x
  obtain ⟨m, hns, hvars⟩ := I1.loc
  have hns : s1.heap.Ns s.heap.objs.size m := hns
  obtain ⟨fo, es, ep, hfo, hdat, hkeys, hfind⟩ := hns
  have made : ∀ (go : Obj) (nm qn : Value) (tk2 : Nat), go.cls = .type "generator" → go.data = .fields #[.int s1.gens.size 0, nm, qn] → go.slots = #[] → (∀ h : Heap, (h.push go).get? h.objs.size = some go) →
      ∃ (a L : Addr) (go' fo : Obj) (m : Str → Option Value), (Except.ok (Flow.ret (Value.ref s1.heap.objs.size)) : Result) = .ok (.ret (.ref a)) ∧ GNew N qual scope f cdv body s vs { s1 with gens := s1.gens.push (.fresh (.func body (envOfC qual scope s.heap.objs.size f cdv))), toks := tk2, heap := s1.heap.push go } a L go' fo m := by
    intro go nm qn tk2 gc gd gs gp
    refine ⟨s1.heap.objs.size, s.heap.objs.size, go, fo, m, rfl, ⟨rfl, lt1, ?_, gp _, fun h q => ⟨go, nm, qn, q, gc, by rw [← gens1]; exact gd, gs⟩, (fun v q => by rw [gd] at q; cases q), by rw [← gens1], Heap.get?_push_of_some _ hfo, (fun v q => by rw [hdat] at q; cases q), fun h q => ⟨fo, es, ep, q, hdat, hkeys, hfind⟩, fun i y v a1 a2 a3 => ?_, I1.len, os1, fun b o q => Heap.get?_push_of_some _ (x.toInCall.keep b o q)⟩⟩
    · show _ < (s1.heap.push go).objs.size
      rw [Heap.size_push]; exact Nat.lt_succ_self _
    · obtain ⟨u, ru, lk⟩ := hvars i y v a1 a2 a3
      refine ⟨u, ru, ?_⟩
      rcases lk with q | ⟨q | q, _⟩
      · exact q
      · exact absurd rfl (nc _ (PySem.mem_of_lookup q))
      · exact absurd rfl (S.nofree _ (PySem.mem_of_lookup q))
  exact made { cls := .type "generator", data := .fields #[.int s1.gens.size 0, .str (PySem.W.fnOf name qual params body scope dV kV doc pm an cdv ct).name s1.toks, .str (PySem.W.fnOf name qual params body scope dV kV doc pm an cdv ct).qualname (s1.toks + 1)] } _ _ (s1.toks + 1 + 1) rfl rfl rfl fun h => Heap.get?_push_size _ rfl
/-- a name is loaded: nothing changes -/
theorem name_same {X : Cx} {pins : List (Addr × Obj)} {σ : L2.St} {H : Hp} {s : Shared} {i : Nat} {x : Str} {pos : Pos} {v : V} {Q : Value → Shared → Prop} {E : Value → Shared → Prop} (I : Inv X pins σ H s) (hN : X.N[i]? = some x) (hv : Vis X.env.scope x) (e : σ[i]? = some (some v)) (h : ∀ u, RelV v u → Q u s)
    (hd : (x == ("__debug__" : Str)) = false := by decide) (hcd : (x == ("__classdict__" : Str)) = false := by decide) : wpAny (model X.prog X.w) X.A (eval (.Name x pos) X.env) Q E s := by
  obtain ⟨m, hn, hl⟩ := I.loc
  obtain ⟨u, r, l⟩ := hl i x v hN e hv
  have z := h u r
  rcases l with ⟨hk, hm⟩ | ⟨hk | hk, c, hc, hcell⟩
  · exact wpAny_Name (wpAny_loadName_local I.ok.kind hk hn hm z) hd
  · exact wpAny_Name (wpAny_loadName_cell I.ok.kind hk hc hcell z) hd
  · exact wpAny_Name (wpAny_loadName_free I.ok.kind hk hc hcell z hcd) hd
/-- the end of the first ends the walk -/
theorem zip_end {X : Cx} {F1 F2 : GFam} {ps1 ps2 : List Str} {z TI TO a1 a2 : Addr} {o1 o2 : Obj} {g1 g2 : Nat} {σ : L2.St} {H : Hp} {s : Shared} {pl : List (Addr × Obj)} (Z : ZFix X F1 F2 ps1 ps2 z TI TO a1 a2 o1 o2 g1 g2) (en : F1.ends) (I : Inv X pl σ H s) (zt : ZAt X F1 F2 z TI TO a1 a2 o1 o2 g1 g2 0 H s pl) {E : Value → Shared → Prop} :
    wpAny (model X.prog X.w) X.A (pyNext (.ref z)) (fun r s6 => r = none ∧ Inv X [] σ H s6) E s := by
  obtain ⟨own1, own2, gs1, gs2, q1, q2, oq1, oq2, x, y, rfl, r1, r2, d1, d2, ph⟩ := zt.main
  obtain ⟨TOz, TIz, TITO, a1z, a2z, a1TO, a2TO⟩ := Z.nz
  have pin : ∀ p ∈ zFive TI TO z a1 a2 o1 o2 .none x y ++ (own1 ++ own2), s.heap.get? p.1 = some p.2 := fun p hp => (I.pin p (List.mem_append_right _ hp)).1
  have hz : IsZip s.heap z TI TO .none := pin (z, _) (by simp)
  have hTO : IsPair s.heap TO x y := pin (TO, _) (by simp)
  have hTI : IsPair s.heap TI (.ref a1) (.ref a2) := pin (TI, _) (by simp)
  have d2a : ∀ b, b = z ∨ b = TO ∨ b = TI ∨ b = a1 ∨ b = a2 → ∀ o ∈ own1, b ≠ o.1 := fun b hb o ho => d2 b hb o (List.mem_append_left _ ho)
  refine pyNext_zipG Z.hh ⟨hz, hTI, hTO, TIz, TOz, TITO⟩ fun h1 hz1 hs1 => ?_
  have nin : ∀ p ∈ X.pn ++ ((a1, o1) :: own1), p.1 ≠ z := fun p hp => by
    rw [Z.pn] at hp
    rcases List.mem_cons.mp (show p ∈ (a1, o1) :: own1 by simpa using hp) with e | hp
    · rw [e]; exact a1z
    · exact fun e => d2a z (.inl rfl) p hp e.symm
  have I1 : Inv X ((z, zObj TI TO .ellipsis) :: (a1, o1) :: own1) σ H { s with heap := h1 } :=
    repin (o := zObj TI TO .none) (isub I fun p hp => by
      simp only [List.mem_append, List.mem_cons] at hp ⊢
      rcases hp with e | e | e <;> simp [e]) (fun c u ne e => (hs1.2 c ne).trans e) hz1 (fun v e => nomatch e) (Z.ex z (.inl rfl)) (Z.cel z (.inl rfl)) nin
  have isg1 : ({ s with heap := h1 } : Shared).heap.IsGen a1 g1 := Z.gen1 _ (I1.pin (a1, o1) (List.mem_append_right _ (by simp))).1
  obtain ⟨gl1, wd1⟩ : ∃ gl, Word F1 g1 own1 gl { s with heap := h1 } := by
    rcases ph with ⟨_, b⟩ | ⟨⟨c, e⟩, _, _, _, nw⟩
    · exact ⟨_, word_at (Ne.symm Z.gne) r2.at_ b Z.O1⟩
    · exact ⟨_, word_no (Ne.symm Z.gne) (e ▸ r2.at_) Z.O1 nw.lone⟩
  have turn1 := rest_next (σ := σ) (gl := gl1) (pl := [(z, zObj TI TO .ellipsis), (a1, o1)]) Z.ok1 Z.fit1 Z.hh Z.hd Z.pn (Z.ex _ (.inr (.inr (.inl rfl)))) (Z.cel _ (.inr (.inr (.inl rfl)))) I1 (r1.heap h1) isg1 (.inr en) (fun p hp o ho => by
    have hp : p = (z, zObj TI TO .ellipsis) ∨ p = (a1, o1) := by simpa using hp
    rcases hp with e | e <;> rw [e]
    · exact d2a z (.inl rfl) o ho
    · exact d2a a1 (.inr (.inr (.inr (.inl rfl)))) o ho) wd1
  refine wpAny_mono turn1 (fun v s2 h => ?_) fun e s2 he => ?_
  · obtain ⟨m, _, _, _, _, _, _, e, _⟩ := h
    exact absurd e (Nat.succ_ne_zero m).symm
  · obtain ⟨_, J, st⟩ := he
    refine ⟨(J.pin (z, zObj TI TO .ellipsis) (List.mem_append_right _ (by simp))).1, st, fun h5 k5 => ⟨rfl, ?_⟩⟩
    obtain ⟨_, n1, n2, n3, _⟩ := J.pin (z, zObj TI TO .ellipsis) (List.mem_append_right _ (by simp))
    exact (isub J (pins' := []) fun p hp => by simp at hp).turned (t' := s2.toks) (fun b o hb e => k5 b o hb e) n1 n2 (Z.ex z (.inl rfl)) (Z.cel z (.inl rfl)) fun p hp => by rw [Z.pn] at hp; simp at hp
end Mc
namespace Mc
open PySem PySem.Spec PyProof.Rows L2 Evl GenW GenFz
/-! ### a comprehension over sleeping generators -/
/-- those that sleep sleep on -/
def SleepOn (s s' : Shared) : Prop := ∀ (i : Nat) (x : GenState), s.gens[i]? = some x → Sus x → s'.gens[i]? = some x
theorem SleepOn.trans {a b c : Shared} (h : SleepOn a b) (k : SleepOn b c) : SleepOn a c := fun i x e u => k i x (h i x e u) u
theorem asleep {α : Type} {M : Model} {A : Around} {t : Sem α} {Q Q' : α → Shared → Prop} {E : Value → Shared → Prop} {s : Shared} (h : wpAny M A t Q (fun _ _ => False) { s with gens := s.gens.map (stk []) })
    (k : ∀ (a : α) (s' : Shared) (G : Array GenState), Q a { s' with gens := G } → (AllBare G → AllBare s'.gens) → SleepOn s s' → Q' a s') : wpAny M A t Q' E s :=
  wpAny_mono (wpAny_thaw (rz_all [] s.gens) h) (fun a s' ⟨G, R, q⟩ => k a s' G q (fun b => R.bareB b) fun i x e u => by
    have z : sleepers s.gens i = some x := by
      unfold sleepers
      rw [e]
      cases x <;> first | rfl | exact u.elim
    exact (R.fz i x z).2.2) fun _ _ ⟨_, _, z⟩ => z.elim
section
variable {X : Cx} {pins : List (Addr × Obj)} {σ : L2.St} {H : Hp} {s : Shared}
theorem inv_stk (I : Inv X pins σ H s) : Inv X pins σ H { s with gens := s.gens.map (stk []) } := inv_gens I ((rz_all [] s.gens).bareA I.bare)
theorem inv_back {s' : Shared} {G : Array GenState} (I : Inv X pins σ H { s' with gens := G }) (b : AllBare G → AllBare s'.gens) : Inv X pins σ H s' := inv_gens (s := { s' with gens := G }) (G := s'.gens) I (b I.bare)
end
/-- a walk over sleeping generators, in a block: turn by turn -/
structure TurnG (X : Cx) (tg : Expr) (it D : Addr) (yld : Nat → Hp → V → Hp → Prop) (aw : Shared → Prop) (tn : Nat → Hp → List (Addr × Obj) → Shared → Prop) : Prop where
  item : ∀ (n : Nat) (pl : List (Addr × Obj)) (σ : L2.St) (H : Hp) (s : Shared), Inv X pl σ H s → tn (n + 1) H pl s → wpAny (model X.prog X.w) X.A (pyNext (.ref it)) (fun r s6 => ∃ u, r = some u ∧ wpAny (model X.prog X.w) X.A (letOwnedTupleGo tg (.ref it) u) (fun _ s7 => ∃ (v : V) (H' : Hp) (pl' : List (Addr × Obj)), L2.RelV v u ∧ Inv X pl' σ H' s7 ∧ tn n H' pl' s7 ∧ aw s7 ∧ yld n H v H') (fun _ _ => False) s6) (fun _ _ => False) s
  done : ∀ (pl : List (Addr × Obj)) (σ : L2.St) (H : Hp) (s : Shared), Inv X pl σ H s → tn 0 H pl s → wpAny (model X.prog X.w) X.A (pyNext (.ref it)) (fun r s6 => r = none ∧ Inv X [] σ H s6) (fun _ _ => False) s
  keep : ∀ (n : Nat) (H H' : Hp) (pl : List (Addr × Obj)) (s s' : Shared), tn n H pl s → aw s → s'.os = s.os → (∀ o u, H D ≠ some (.frz o u)) → (∀ b u, b ≠ D → H b = some u → H' b = some u) → SleepOn s s' → tn n H' pl s'
/-- what a comprehension asks of such a walk; n: the items still to come -/
def LcG (yld : Nat → Hp → V → Hp → Prop) (g : TG) (te : TE) (vs : List Nat) (σ : L2.St) (N : Nat) (H1 : Hp) (Q : VK) : Prop := ∀ D, H1 D = none → ∃ W : Nat → Hp → Prop, W N (upd H1 D (.lst [])) ∧ (∀ H, W 0 H → Q (.ref D) H) ∧ ∀ n H, n < N → W (n + 1) H → ∀ x H', yld n H x H' →
  g x (wipe σ vs) H' fun σ2 H2 => wipe σ2 vs = wipe σ vs ∧ te σ2 H2 fun y H4 => Ex H' H4 ∧ ∃ acc, H4 D = some (.lst acc) ∧ acc.length < sizeLine ∧ W n (upd H4 D (.lst (acc ++ [y])))
/-- such an iterator has come -/
def PIG (X : Cx) (pins : List (Addr × Obj)) (σ : L2.St) (tg : Expr) (scope : Scope) (R : (Nat → Hp → V → Hp → Prop) → Nat → Hp → Prop) (itv : Value) (s2 : Shared) : Prop := ∃ (it : Addr) (fp : List Addr) (H2 : Hp) (yld : Nat → Hp → V → Hp → Prop) (N : Nat), itv = .ref it ∧ Inv X pins σ H2 s2 ∧ (∀ b ∈ fp, FpOk X pins H2 b ∧ b < s2.heap.objs.size) ∧ R yld N H2 ∧
  (∀ (A : Around) (E : Value → Shared → Prop) (Q : Value → Shared → Prop) (s' : Shared), (∀ b o, s2.heap.get? b = some o → s'.heap.get? b = some o) → Q (.ref it) s' → wpAny (model X.prog X.w) A (pyIter (.ref it)) Q E s') ∧
  ∀ (s3 s4 : Shared) (D : Addr) (ce : Env) (σ' : L2.St), s4.gens = s2.gens → s4.os = s2.os → (∀ b o, s2.heap.get? b = some o → s4.heap.get? b = some o) → H2 D = none → D = s2.heap.objs.size → D < s3.heap.objs.size → Inv (X.blk s3 (upd H2 D (.lst [])) scope ce fp) [] σ' (upd H2 D (.lst [])) s4 →
    ∃ (aw : Shared → Prop) (tn : Nat → Hp → List (Addr × Obj) → Shared → Prop) (pl : List (Addr × Obj)), Inv (X.blk s3 (upd H2 D (.lst [])) scope ce fp) pl σ' (upd H2 D (.lst [])) s4 ∧ tn N (upd H2 D (.lst [])) pl s4 ∧ TurnG (X.blk s3 (upd H2 D (.lst [])) scope ce fp) tg it D yld aw tn
structure PG2 (X : Cx) (tg iter : Expr) (scope : Scope) (wi : L2.St → Hp → ((Nat → Hp → V → Hp → Prop) → Nat → Hp → Prop) → Prop) : Prop where
  run : ∀ (pins : List (Addr × Obj)) (s : Shared) (σ : L2.St) (H : Hp) (R : (Nat → Hp → V → Hp → Prop) → Nat → Hp → Prop), Inv X pins σ H s → wi σ H R →
    wpAny (model X.prog X.w) X.A (eval iter X.env) (fun v s1 => wpAny (model X.prog X.w) X.A (pyIter v) (PIG X pins σ tg scope R) X.xe s1) X.xe s
def tLcG (wi : L2.St → Hp → ((Nat → Hp → V → Hp → Prop) → Nat → Hp → Prop) → Prop) (g : TG) (te : TE) (vs : List Nat) : TE := fun σ H Q => wi σ H fun yld N H1 => LcG yld g te vs σ N H1 Q
section
variable {X : Cx} {pins : List (Addr × Obj)} {σ : L2.St} {H : Hp} {s : Shared}
theorem pe_lcG {elt tg iter : Expr} {scope : Scope} {own : List (Str × Nat)} {pos : Pos} {wi : L2.St → Hp → ((Nat → Hp → V → Hp → Prop) → Nat → Hp → Prop) → Prop} {g : TG} {te : TE} (hc : X.calm = true) (hN : X.N.Nodup) (hi : PG2 X tg iter scope wi) (ok : BlkOk X.N X.env.scope scope own)
    (hg : ∀ (s : Shared) (H : Hp) (C : Addr) (cl : List (Str × Addr)) (fp : List Addr), PG (X.blk s H scope (compEnvC scope cl C X.env) fp) tg g) (he : ∀ (s : Shared) (H : Hp) (C : Addr) (cl : List (Str × Addr)) (fp : List Addr), PE (X.blk s H scope (compEnvC scope cl C X.env) fp) elt te)
    (hs : ∀ x, foldedSetIterable iter X.env x = pure x := by intro _; rfl) : PE X (.ListComp elt [⟨tg, iter, [], 0⟩] scope pos) (tLcG wi g te (own.map (·.2))) := by
  refine ⟨fun pins s σ H Q I h => ?_⟩
  rw [eval_ListComp]
  have hfree : ∀ y ∈ scope.names, y.2 = .free → ∃ c, X.env.cells.lookup y.1 = some c := fun y hy e => by
    rcases ok.free y hy e with k | k
    · exact I.ok.has _ (.inl k)
    · exact I.ok.has _ (.inr k)
  refine wpAny_comprehension_free (use := none) rfl hs (closure_ok hfree) ok.kind (fun y hy e => by rw [ok.uniq y hy, e]) (thn (hi.run pins s σ H _ I h) fun xv s1 hx => thn hx fun itv s2 h2 => ?_)
  obtain ⟨it, fp, H2, yld, N, rfl, I2, f2, q, self, mk⟩ := h2
  refine wpAny_newObj_type (newEnv_comp ?_) (by show 0 ≤ sizeLine; decide)
  generalize hD : s2.heap.objs.size = D
  have hDn : H2 D = none := I2.hok.fresh (Nat.le_of_eq hD)
  obtain ⟨W, w0, wend, turn⟩ := q D hDn
  generalize hs3 : ({ s2 with heap := s2.heap.push { cls := .type "list", data := .seq ([] : List Value).toArray } } : Shared) = s3
  have h3 : s3.heap = s2.heap.push { cls := .type "list", data := .seq ([] : List Value).toArray } := by rw [← hs3]
  have g3 : s3.gens = s2.gens := by rw [← hs3]
  have k3 : ∀ b o, s2.heap.get? b = some o → s3.heap.get? b = some o := fun b o e => by rw [h3]; exact Heap.get?_push_of_some _ e
  have I3 : Inv X pins σ (upd H2 D (.lst [])) s3 := by
    rw [← hs3]
    refine I2.laid (t' := s2.toks) (fun b o e => Heap.get?_push_of_some _ e) (Nat.le_of_eq hD) ⟨Nat.zero_le _, [], 0, .nil, ?_⟩
    rw [← hD]
    exact Heap.get?_push_size _ rfl
  have D3 : D < s3.heap.objs.size := by rw [h3, Heap.size_push, hD]; exact Nat.lt_succ_self _
  have f3 : ∀ b ∈ fp, FpOk X pins (upd H2 D (.lst [])) b ∧ b < s3.heap.objs.size := fun b hb => by
    obtain ⟨a, lt⟩ := f2 b hb
    refine ⟨⟨?_, a.2⟩, by rw [h3, Heap.size_push]; exact Nat.lt_succ_of_lt lt⟩
    rw [upd_ne (by rw [← hD]; exact Nat.ne_of_lt lt)]
    exact a.1
  have I4 := block_start I3 ok hN f3
  have pg := hg s3 (upd H2 D (.lst [])) s3.heap.objs.size (cellsFrom (s3.heap.objs.size + 1) scope.names (cloFrom X.env.cells scope.names [])) fp
  have pe := he s3 (upd H2 D (.lst [])) s3.heap.objs.size (cellsFrom (s3.heap.objs.size + 1) scope.names (cloFrom X.env.cells scope.names [])) fp
  show codeAny _ _ (.compStart (.ListComp elt [⟨tg, iter, [], 0⟩] scope pos) 0 (.ref it) (.ref D) (compEnvC scope (cellsFrom (s3.heap.objs.size + 1) scope.names (cloFrom X.env.cells scope.names [])) s3.heap.objs.size X.env)) (compPost (model X.prog X.w) X.A X.xe none _ (.ref D) s3.heap.objs.size) { s3 with heap := pushCells (s3.heap.push { cls := .type "dict", data := .dict #[] }) scope.names }
  have k4 : ∀ b o, s3.heap.get? b = some o → (pushCells (s3.heap.push { cls := .type "dict", data := .dict #[] }) scope.names).get? b = some o := fun b o e => pushCells_keeps _ _ _ _ (Heap.get?_push_of_some _ e)
  obtain ⟨aw, tn, pl0, J4, t0, T⟩ := mk s3 _ D _ _ (by exact g3) (by rw [← hs3]) (fun b o e => k4 b o (k3 b o e)) hDn hD.symm D3 I4
  generalize hce : compEnvC scope (cellsFrom (s3.heap.objs.size + 1) scope.names (cloFrom X.env.cells scope.names [])) s3.heap.objs.size X.env = ce at I4 J4 T pg pe ⊢
  have cL : ce.locals = s3.heap.objs.size := by subst hce; rfl
  generalize hH3 : upd H2 D (.lst []) = H3 at I3 I4 J4 T t0 pg pe w0 f3
  generalize hs4 : ({ s3 with heap := pushCells (s3.heap.push { cls := .type "dict", data := .dict #[] }) scope.names } : Shared) = s4 at I4 J4 t0 ⊢
  have k24 : ∀ b o, s2.heap.get? b = some o → s4.heap.get? b = some o := fun b o e => by rw [← hs4]; exact k4 b o (k3 b o e)
  have loop : codeAny (model X.prog X.w) X.A (.compLoop (.ListComp elt [⟨tg, iter, [], 0⟩] scope pos) 0 (.ref it) (.ref D) ce) (compPost (model X.prog X.w) X.A X.xe none (EP X pins σ Q) (.ref D) s3.heap.objs.size) s4 := by
    refine compLoop_any (fun n s' => n ≤ N ∧ ∃ H' pl, Inv (X.blk s3 H3 scope ce fp) pl (wipe σ (own.map (·.2))) H' s' ∧ tn n H' pl s' ∧ W n H') ?_ N ⟨Nat.le_refl _, H3, pl0, J4, t0, w0⟩
    rintro n s5 ⟨hnN, H5, pl5, I5, t5, w5⟩
    cases n with
    | zero =>
      refine thnF (T.done pl5 _ H5 s5 I5 t5) fun r s6 ⟨hr, I6⟩ => ?_
      subst hr
      have I7 : Inv X pins σ H5 s6 := I3.call' (ch := fp) I6.os I6.base I6.hok I6.bare fun b hb => ⟨(f3 b hb).1.2.2.2.1, (f3 b hb).1.2.1, (f3 b hb).1.2.2.2.2.1, (f3 b hb).1.2.2.2.2.2⟩
      have nC : H5 s3.heap.objs.size = none := by
        have z : H5 ce.locals = none := I6.free
        rw [cL] at z; exact z
      obtain ⟨m, hn, _⟩ := I6.loc
      have hn : s6.heap.Ns ce.locals m := hn
      rw [cL] at hn
      obtain ⟨f0, f1, _, f3', f4, f5⟩ := I3.fpOk (H' := H5) (Nat.le_refl _) nC
      exact ⟨m, hn, fun h'' sb => ⟨.ref D, H5, I7.turned (t' := s6.toks) (fun b o hb e => (sb.2 b hb).trans e) f0 f1 f3' f4 f5, rfl, wend H5 w5⟩⟩
    | succ n =>
      refine thnF (T.item n pl5 _ H5 s5 I5 t5) fun r s6 ⟨u, hr, h6⟩ => ?_
      subst hr
      refine thnF h6 fun _ s7 ⟨x, H7, pl7, r7, I7, t7, aw7, y7⟩ => ?_
      refine asleep (pg.run _ _ _ H7 x u _ (inv_stk I7) r7 (turn n H5 hnN w5 x H7 y7)) fun _ s8 G8 h8 b8 on8 => ?_
      obtain ⟨σ8, H8, I8, hw8, q8⟩ := h8
      have I8 := inv_back I8 b8
      refine wpAny_tests_nil ?_
      rw [if_pos rfl]
      refine asleep (pe.run _ _ σ8 H8 _ (inv_stk I8) q8) fun z s9 G9 h9 b9 on9 => ?_
      obtain ⟨yv, H9, I9, r9, ex9, acc, hD9, hz9, w9⟩ := h9
      have I9 := inv_back I9 b9
      refine asleep (app_ok (X := X.blk s3 H3 scope ce fp) (E := fun _ _ => False) (Q := fun v s' => v = .none ∧ Inv (X.blk s3 H3 scope ce fp) pl7 σ8 (upd H9 D (.lst (acc ++ [yv]))) s') (inv_stk I9) hD9 hz9 r9 fun s' I' => ⟨rfl, I'⟩) fun _ s10 G10 h10 b10 on10 => ?_
      obtain ⟨_, I10⟩ := h10
      have I10 := inv_back I10 b10
      have hl : (wipe σ (own.map (·.2))).length = σ8.length := by rw [← hw8, wipe_length]
      refine ⟨n, Nat.lt_succ_self n, Nat.le_of_succ_le hnN, _, pl7, I10.weak hl (fun j v e => ?_), T.keep n H7 _ pl7 s7 s10 t7 aw7 (I10.os.trans I7.os.symm) (fun o u e => by rw [ex9 _ _ e] at hD9; cases hD9) (fun b u ne e => ?_) ((on8.trans on9).trans on10), w9⟩
      · rw [← hw8] at e
        exact (wipe_some e).1
      · rw [upd_ne ne]; exact ex9 _ _ e
  exact codeAny_compStart_list loop (self X.A _ _ s4 k24 loop)
end
end Mc
namespace Mc
open PySem PySem.Spec PyProof.Rows L2 Evl GenW GenFz
/-! ### the first item, by hand -/
section
variable {X : Cx} {pins : List (Addr × Obj)} {σ : L2.St} {H : Hp} {s : Shared}
theorem getattr_gens {A : Around} {a C dx : Addr} {fs : List (Str × V)} {f : Str} {v : V} {b : Bool} {E : Value → Shared → Prop} (I : Inv X pins σ H s) (e : H a = some (.ins C dx fs)) (c : Cls X.K C) (n : NoAttr X.K C f) (l : fs.lookup f = some v) : wpAny (model X.prog X.w) A (getAttr (.ref a) f b) (fun _ s' => s'.gens = s.gens) E s := by
  obtain ⟨mA, O, r, _, _, _⟩ := ins_get I.hok e
  obtain ⟨u, hu, ru⟩ := RelO.some_of (v := v) (o := mA f) (by rw [← l]; exact r f)
  exact get_map I.kIn O (c.get f) c.hd n hu (handed_of ru) rfl
/-- name = an attribute's value: no generator moves -/
theorem set_gens {i j : Nat} {x y f : Str} {p1 p2 p3 pos : Pos} {Q : L2.St → Hp → Prop} {a C dx : Addr} {fs : List (Str × V)} {v : V} (I : Inv X pins σ H s) (hN : X.N.Nodup) (hi : X.N[i]? = some x) (hx : X.env.scope.names.lookup x = some .local) (hj : X.N[j]? = some y) (hv : Vis X.env.scope y) (ej : σ[j]? = some (some (.ref a)))
    (e : H a = some (.ins C dx fs)) (c : Cls X.K C) (n : NoAttr X.K C f) (l : fs.lookup f = some v) (hq : Q (σ.set i (some v)) H) (hb : attributeBase (.Name y p2) f X.env (eval (.Name y p2) X.env) = eval (.Name y p2) X.env) (hs : swapsWith (.Attribute (.Name y p2) f p3) (some (.Name x p1)) pos.line X.env = pure false)
    (hd : (y == ("__debug__" : Str)) = false := by decide) (hcd : (y == ("__classdict__" : Str)) = false := by decide) :
    wpAny (model X.prog X.w) X.A (exec (.Assign [.Name x p1] (.Attribute (.Name y p2) f p3) pos) X.env) (fun fl s' => fl = .next ∧ s'.gens = s.gens ∧ ∃ σ' H', Inv X pins σ' H' s' ∧ Q σ' H') (fun _ _ => False) s := by
  refine wpAny_Assign_Name (attr_of hb (name_same I hj hv ej (fun u ru => ?_) hd hcd)) hs
  cases ru
  refine wpAny_mono (wpAny_both (getattr_ok (E := fun _ _ => False) (Q := fun u s' => Inv X pins σ H s' ∧ L2.RelV v u) I e c n l fun u s' I' ru => ⟨I', ru⟩) (getattr_gens (E := fun _ _ => False) I e c n l)) (fun u s1 ⟨⟨I1, ru⟩, g1⟩ => ?_) fun _ _ z => z.1.elim
  obtain ⟨m, hn, _⟩ := id I1.loc
  have both := wpAny_both (store_ok (M := model X.prog X.w) (A := X.A) (E := fun _ _ => False) (Q := fun _ s2 => Inv X pins (σ.set i (some v)) H s2) I1 hN hi (.inl hx) ru (fun s2 I2 => I2) (.inr hx))
    (wpAny_storeName_local (M := model X.prog X.w) (A := X.A) (E := fun _ _ => False) (Q := fun _ s2 => s2.gens = s1.gens) hx hn (fun h' hn' hs' => rfl) (by rw [I1.ok.kind]; rfl))
  exact wpAny_mono both (fun _ s2 ⟨I2, g2⟩ => ⟨rfl, g2.trans g1, _, _, I2, hq⟩) fun _ _ z => z.1.elim
end
/-- an attribute is taken and handed out: the others stay as they are -/
theorem hush_of {F : GFam} {ps : List Str} (ok : F.Ok ps) {st1 : Stmt} {y : Str} {p1 yp pos : Pos} {rest : List Stmt} {j : Nat} {fo : Obj} {m : Str → Option Value} {σ : L2.St} {own : List (Addr × Obj)} {q : Addr} {oq : Obj} {sn : Shared} {Q2 : L2.St → Hp → Prop} (hi : interactive F.env = false) (hL : own = [(F.L, fo)]) (hLn : F.Hb F.L = none) (ns : ∀ h : Heap, h.get? F.L = some fo → h.Ns F.L m)
    (vars : ∀ (i : Nat) (x : Str) (v : V), F.N[i]? = some x → σ[i]? = some (some v) → Vis F.scope x → ∃ u, L2.RelV v u ∧ F.scope.names.lookup x = some .local ∧ m x = some u) (len : σ.length = F.N.length)
    (h1 : ∀ s0 H0 H s, Inv (F.X s0 H0) [] σ H s → Ex F.Hb H → wpAny (model F.P F.w) (F.X s0 H0).A (exec st1 (F.X s0 H0).env) (fun fl s' => fl = .next ∧ s'.gens = s.gens ∧ ∃ σ' H', Inv (F.X s0 H0) [] σ' H' s' ∧ Q2 σ' H') (fun _ _ => False) s)
    (hj : F.N[j]? = some y) (hv : Vis F.scope y) (h2 : ∀ σ' H', Q2 σ' H' → ∃ v, σ'[j]? = some (some v)) (hd : (y == ("__debug__" : Str)) = false := by decide) (hcd : (y == ("__classdict__" : Str)) = false := by decide) :
    ∀ s', s'.os = sn.os → F.Wk own q oq sn s' → (GenState.fresh (.func (st1 :: .Expr (.Yield (some (.Name y p1)) yp) pos :: rest) F.env)).Goes (model F.P F.w) F.A (fun _ s0 r s1 => ((r = .ok (.ret .none) ∨ r = .ok .next) ∧ s1.gens = s0.gens) ∨ ∃ e : Value, r = .error e ∧ False) (fun _ s0 _ s1 _ => s1.gens = s0.gens) 1 (.send .none) s' := fun s' _ W => by
  subst hL
  obtain ⟨ys, I⟩ := F.woken ok (es := []) (ip := []) W List.mem_cons_self hLn (fun p hp => by simp at hp) (fun e he => by simp at he) ns vars len
  obtain ⟨H0, l, e0, cv, inv⟩ := I.main
  have lt := I.lt
  refine ⟨rfl, seg_func (seg_execs_cons (seg_wrap ?_))⟩
  rw [over_func, ← F.A_at H0 lt, ← F.env_at H0 lt]
  refine wpAny_mono (h1 s' H0 _ s' inv I.ex) (fun fl s2 h => ?_) fun _ _ z => z.elim
  obtain ⟨rfl, g2, σ', H', inv2, q2⟩ := h
  obtain ⟨v, ev⟩ := h2 σ' H' q2
  rw [F.env_at H0 lt]
  refine seg_execs_cons (seg_Expr_Yield rfl rfl rfl ?_ ok.S.co hi)
  rw [over_func, ← F.A_at H0 lt, ← F.env_at H0 lt]
  exact name_same inv2 hj hv ev (fun u _ => fun kap _ => g2) hd hcd
end Mc
namespace Mc
open PySem PySem.Spec PyProof.Rows L2 Evl GenW GenFz
/-! ### zip(x.m(), x.m()) -/
/-- known things that may be known all the time -/
def SmpH (Hb : Hp) : Prop := ∀ b u, Hb b = some u → (∃ xs, u = .lst xs) ∨ (∃ xs, u = .tup xs) ∨ (∃ x C fs, u = .own x ∧ Hb x = some (.ins C b fs)) ∨ ∃ C dx fs, u = .ins C dx fs ∧ Hb dx = some (.own b)
def yZip (it : Nat → List V) (tot : Nat) (n : Nat) (H : Hp) (v : V) (H' : Hp) : Prop := ∃ T q1 q2 : Addr, v = .ref T ∧ Ex H H' ∧ H' T = some (.tup [.ref q1, .ref q2]) ∧ Rd H' q1 (.tup (it (tot - (n + 1)))) ∧ Rd H' q2 (.tup (it (tot - (n + 1))))
/-- the family of such a call -/
abbrev famM (X : Cx) (N : List Str) (qual : Str) (scope : Scope) (f : Addr) (cdv : Value) (L : Addr) (Hb : Hp) (O : Shared → List Addr) (it : Nat → List V) (tot : Nat) : GFam := ⟨X.prog, X.w, X.K, X.mg, X.base, N, qual, scope, f, cdv, X.A.in1.in1, X.stack, L, Hb, O, it, tot, True⟩
abbrev GEnd : GNEnds := { nx := fun k _ _ => k = 0 ∧ True, rt := fun _ _ _ => False }
def tZipM (C : Addr) (m : Str) (i : Nat) (N : List Str) (tb : Hp → (Nat → List V) → Nat → TGN) (Hc : Hp → Addr → Prop) : L2.St → Hp → ((Nat → Hp → V → Hp → Prop) → Nat → Hp → Prop) → Prop := fun σ H R => ∃ (x0 dx : Addr) (fs : List (Str × V)) (Hb : Hp) (it : Nat → List V) (tot : Nat), σ[i]? = some (some (.ref x0)) ∧ H x0 = some (.ins C dx fs) ∧ fs.lookup m = none ∧
  Ex Hb H ∧ Hb x0 ≠ none ∧ SmpH Hb ∧ Hc Hb x0 ∧ (∀ H', Ex Hb H' → tb Hb it tot GEnd tot (start N [.ref x0]) H') ∧ R (yZip it tot) tot H
/-- o.m() of a name: a generator -/
theorem new_meth {X : Cx} {pins : List (Addr × Obj)} {σ : L2.St} {H : Hp} {s : Shared} {i : Nat} {y m : Str} {p1 apos cpos : Pos} {C f : Addr} {name qual : Str} {params : Arguments} {body : List Stmt} {scope : Scope} {dV kV doc pm cdv ct oc : Value} {an od : Option Addr} {osl : Array (Option Value)} {N : List Str} {ps1 : Str} {pl : Sem Bool} {x0 dx : Addr} {fs : List (Str × V)} {Q : Value → Shared → Prop} {E : Value → Shared → Prop}
    (I : Inv X pins σ H s) (hN : X.N[i]? = some y) (hv : Vis X.env.scope y) (lk : X.K.lookup f = some ⟨oc, od, .func (PySem.W.fnOf name qual params body scope dV kV doc pm an cdv ct), osl⟩) (hcd : PySem.W.codeIn X.K cdv qual = true) (S : GScope N [ps1] scope) (nc : ∀ y ∈ scope.names, y.2 ≠ .cell)
    (c : Cls X.K C) (hm : Meth X.K C m f) (hb : Binds X.K (PySem.W.fnOf name qual params body scope dV kV doc pm an cdv ct) [ps1] []) (hr : Room 1 X.A) (e : σ[i]? = some (some (.ref x0))) (ex : H x0 = some (.ins C dx fs)) (l : fs.lookup m = none)
    (h : ∀ (s' : Shared) (a L : Addr) (go fo : Obj) (mm : Str → Option Value), GNew N qual scope f cdv body s [.ref x0] s' a L go fo mm → Q (.ref a) s')
    (ht : MethForm X (.Name y p1) m apos cpos [] [] pl := by rfl) (hd : (y == ("__debug__" : Str)) = false := by decide) (hcdn : (y == ("__classdict__" : Str)) = false := by decide) :
    wpAny (model X.prog X.w) X.A (eval (.Call (.Attribute (.Name y p1) m apos) [] [] cpos) X.env) Q E s := by
  refine PySem.W.methodCall_KW (pl := pl) (name_same I hN hv e (fun u ru => ?_) hd hcdn) ht
  cases ru
  refine getmeth_ok I ex c hm l (PySem.W.callWith_K0 (first := [.ref x0]) I.kIn hm.kp ?_)
  have bd := hb s [.ref x0] I.kIn rfl
  rw [List.append_nil] at bd
  refine wpAny_call (codeAny_mono (gnew_of lk hcd S nc hr I.env0 bd (vs := [.ref x0]) (.cons rfl .nil) rfl) fun r s' hq => ?_)
  obtain ⟨a, L, go, fo, mm, rfl, G⟩ := hq
  exact h s' a L go fo mm G
/-- the context behind it -/
theorem GNew.inv {X : Cx} {pins : List (Addr × Obj)} {σ : L2.St} {H : Hp} {s s' : Shared} {N : List Str} {qual : Str} {scope : Scope} {f : Addr} {cdv : Value} {body : List Stmt} {vs : List V} {a L : Addr} {go fo : Obj} {m : Str → Option Value} (G : GNew N qual scope f cdv body s vs s' a L go fo m) (I : Inv X pins σ H s) : Inv X pins σ H s' :=
  I.call' (ch := []) G.os (Un.kept G.keep) (I.hok.kept G.keep) (by rw [G.gens]; exact AllBare.push I.bare rfl) fun b z => by simp at z
theorem chain8 (s L1 a1 L2 a2 TI TO z h : Nat) (q0 : s ≤ L1) (q1 : L1 < a1) (q2 : a1 < L2) (q3 : L2 < a2) (q4 : a2 < TI) (q5 : TI < TO) (q6 : TO < z) (q7 : z < h) :
    (s ≤ a1 ∧ s ≤ L2 ∧ s ≤ a2 ∧ s ≤ TI ∧ s ≤ TO ∧ s ≤ z) ∧ (L1 < h ∧ a1 < h ∧ L2 < h ∧ a2 < h ∧ TI < h ∧ TO < h) ∧ (TO ≠ z ∧ TI ≠ z ∧ TI ≠ TO ∧ a1 ≠ z ∧ a2 ≠ z ∧ a1 ≠ TO ∧ a2 ≠ TO) ∧
    (z ≠ L1 ∧ TO ≠ L1 ∧ TI ≠ L1 ∧ a1 ≠ L1 ∧ a2 ≠ L1) ∧ (z ≠ L2 ∧ TO ≠ L2 ∧ TI ≠ L2 ∧ a1 ≠ L2 ∧ a2 ≠ L2) ∧ L1 ≠ L2 := by omega
theorem pg2_zipM {X : Cx} {k i : Nat} {y m : Str} {p p1 p2 ap1 ap2 cp1 cp2 pos tpos : Pos} {elts : List Expr} {kk : Nat} {scope0 : Scope} {C f : Addr} {name qual : Str} {params : Arguments} {body : List Stmt} {scope : Scope} {dV kV doc pm cdv ct oc : Value} {an od : Option Addr} {osl : Array (Option Value)} {N : List Str} {ps1 : Str} {pl1 pl2 : Sem Bool} {tb : Hp → (Nat → List V) → Nat → TGN} {Hc : Hp → Addr → Prop}
    (hc : X.calm = true) (hg : Gl X "zip") (hm0 : X.mg "zip" = none) (hN : X.N[i]? = some y) (hv : Vis X.env.scope y) (lk : X.K.lookup f = some ⟨oc, od, .func (PySem.W.fnOf name qual params body scope dV kV doc pm an cdv ct), osl⟩) (hcd : PySem.W.codeIn X.K cdv qual = true) (S : GScope N [ps1] scope) (nc : ∀ y ∈ scope.names, y.2 ≠ .cell) (c0 : ∀ n, cellsFrom n scope.names [] = [])
    (c : Cls X.K C) (hm : Meth X.K C m f) (hb : Binds X.K (PySem.W.fnOf name qual params body scope dV kV doc pm an cdv ct) [ps1] []) (hr : Room (k + 3) X.A)
    (bodyJ : ∀ (L : Addr) (Hb : Hp) (O : Shared → List Addr) (it : Nat → List V) (tot : Nat), (famM X N qual scope f cdv L Hb O it tot).Ok [ps1] → (¬ ∀ s, O s = []) → Room k (X.A.in1.in1.deeper (envOfC qual scope L f cdv)) → GNs (famM X N qual scope f cdv L Hb O it tot) body (tb Hb it tot))
    (hush : ∀ (L : Addr) (Hb : Hp) (O : Shared → List Addr) (it : Nat → List V) (tot : Nat) (x0 : Addr) (fo : Obj) (mm : Str → Option Value) (q : Addr) (oq : Obj) (sn : Shared), (famM X N qual scope f cdv L Hb O it tot).Ok [ps1] → Hc Hb x0 → Hb L = none → (∀ h : Heap, h.get? L = some fo → h.Ns L mm) →
      (∀ (i : Nat) (x : Str) (v : V), N[i]? = some x → (start N [.ref x0])[i]? = some (some v) → Vis scope x → ∃ u, L2.RelV v u ∧ scope.names.lookup x = some .local ∧ mm x = some u) → (start N [.ref x0]).length = N.length →
      ∀ s', s'.os = sn.os → (famM X N qual scope f cdv L Hb O it tot).Wk [(L, fo)] q oq sn s' → (GenState.fresh (.func body (envOfC qual scope L f cdv))).Goes (model X.prog X.w) X.A.in1.in1 (fun _ s0 r s1 => ((r = .ok (.ret .none) ∨ r = .ok .next) ∧ s1.gens = s0.gens) ∨ ∃ e : Value, r = .error e ∧ False) (fun _ s0 _ s1 _ => s1.gens = s0.gens) 1 (.send .none) s')
    (ht1 : MethForm X (.Name y p1) m ap1 cp1 [] [] pl1 := by rfl) (ht2 : MethForm X (.Name y p2) m ap2 cp2 [] [] pl2 := by rfl)
    (hs : starEach [.Call (.Attribute (.Name y p1) m ap1) [] [] cp1, .Call (.Attribute (.Name y p2) m ap2) [] [] cp2] X.env = (false, eval (.Call (.Attribute (.Name y p1) m ap1) [] [] cp1) X.env) :: starEach [.Call (.Attribute (.Name y p2) m ap2) [] [] cp2] X.env := by rfl)
    (hs2 : starEach [.Call (.Attribute (.Name y p2) m ap2) [] [] cp2] X.env = (false, eval (.Call (.Attribute (.Name y p2) m ap2) [] [] cp2) X.env) :: starEach [] X.env := by rfl)
    (hpl : (backTo pos (starEach [.Call (.Attribute (.Name y p2) m ap2) [] [] cp2] X.env)).any (·.1) = false := by rfl)
    (hd : (y == ("__debug__" : Str)) = false := by decide) (hcdn : (y == ("__classdict__" : Str)) = false := by decide) :
    PG2 X (.Tuple elts kk tpos) (.Call (.Name "zip" p) [.Call (.Attribute (.Name y p1) m ap1) [] [] cp1, .Call (.Attribute (.Name y p2) m ap2) [] [] cp2] [] pos) scope0 (tZipM C m i N tb Hc) := by
  refine ⟨fun pins s σ H R I h => ?_⟩
  obtain ⟨x0, dx, fs, Hb, it, tot, e, ex, l, exb, hx0, smp, hHc, tm, hR⟩ := h
  refine Call_ (ld_blt I hg hm0 PyProof.Rows.boot_zip (PyProof.Rows.callWith_type1 (PyProof.Rows.args_cons ?_ hs) hs hpl))
  refine new_meth I hN hv lk hcd S nc c hm hb (hr.mono (by omega)) e ex l (fun s1 a1 L1 go1 fo1 mm1 G1 => ?_) ht1 hd hcdn
  have I1 := G1.inv I
  refine PyProof.Rows.args_cons ?_ hs2
  refine new_meth I1 hN hv lk hcd S nc c hm hb (hr.mono (by omega)) e ex l (fun s2 a2 L2 go2 fo2 mm2 G2 => ?_) ht2 hd hcdn
  have I2 := G2.inv I1
  refine PyProof.Rows.args_nil ?_
  have ga1 : s2.heap.get? a1 = some go1 := G2.keep _ _ G1.obj
  have gL1 : s2.heap.get? L1 = some fo1 := G2.keep _ _ G1.frm
  refine call_zipG (G1.gen _ ga1) (G2.gen _ G2.obj) fun h' D sz kp => wpAny_pyIter_zip D.hz ?_
  -- the sizes
  have e1 := G1.eqL
  have e2 := G2.eqL
  have o1 := G1.La
  have o2 := G1.alt
  have o3 := G2.La
  have o4 := G2.alt
  generalize hz : s2.heap.objs.size + 2 = z at D
  generalize hTO : s2.heap.objs.size + 1 = TO at D
  generalize hTI : s2.heap.objs.size = TI at D
  have q0 : s.heap.objs.size ≤ L1 := Nat.le_of_eq e1.symm
  have q1 : L1 < a1 := o1
  have q2 : a1 < L2 := by rw [e2]; exact o2
  have q3 : L2 < a2 := o3
  have q4 : a2 < TI := by rw [← hTI]; exact o4
  have q5 : TI < TO := by rw [← hTI, ← hTO]; exact Nat.lt_succ_self _
  have q6 : TO < z := by rw [← hTO, ← hz]; exact Nat.lt_succ_self _
  have q7 : z < h'.objs.size := by rw [sz, ← hz]; exact Nat.lt_succ_self _
  have I3 : Inv X pins σ H { s2 with heap := h' } := I2.kept (t' := s2.toks) kp
  have nH : ∀ b, s.heap.objs.size ≤ b → H b = none := fun b le => I.hok.fresh le
  have fpk : ∀ b, s.heap.objs.size ≤ b → FpOk X pins H b := fun b le => I.fpOk le (nH b le)
  obtain ⟨⟨s1', s2', s3', s4', s5', s6'⟩, ⟨h1', h2', h3', h4', h5', h6'⟩, nz, nL1, nL2, LL⟩ := chain8 s.heap.objs.size L1 a1 L2 a2 TI TO z h'.objs.size q0 q1 q2 q3 q4 q5 q6 q7
  have ge : ∀ b, b = z ∨ b = TO ∨ b = L1 ∨ b = L2 → s.heap.objs.size ≤ b ∧ b < h'.objs.size := fun b hb => by
    rcases hb with rfl | rfl | rfl | rfl
    · exact ⟨s6', q7⟩
    · exact ⟨s5', h6'⟩
    · exact ⟨q0, h1'⟩
    · exact ⟨s2', h3'⟩
  have memfp : ∀ b, b ∈ [z, TO, L1, L2] ↔ b = z ∨ b = TO ∨ b = L1 ∨ b = L2 := fun b => by simp
  have fnum : ∀ b, b = z ∨ b = TO ∨ b = TI ∨ b = a1 ∨ b = a2 → b ≠ L1 ∧ b ≠ L2 := fun b hb => by
    obtain ⟨u1, u2, u3, u4, u5⟩ := nL1
    obtain ⟨v1, v2, v3, v4, v5⟩ := nL2
    rcases hb with rfl | rfl | rfl | rfl | rfl
    · exact ⟨u1, v1⟩
    · exact ⟨u2, v2⟩
    · exact ⟨u3, v3⟩
    · exact ⟨u4, v4⟩
    · exact ⟨u5, v5⟩
  have Hbn : ∀ b, s.heap.objs.size ≤ b → Hb b = none := fun b le => by
    cases g : Hb b with
    | none => rfl
    | some u => have z := exb _ _ g; rw [nH b le] at z; cases z
  have okF : ∀ (L : Addr) (O : Shared → List Addr), s.heap.objs.size ≤ L → (famM X N qual scope f cdv L Hb O it tot).Ok [ps1] := fun L O le =>
    ⟨S, nc, c0, hr.hd, Nat.le_trans (Nat.le_trans I.ok.bsz I.sz) le, fun b hb => by
      obtain ⟨_, o, ho, _⟩ := I.stack.mem hb
      exact Nat.lt_of_lt_of_le (Heap.lt_size ho) le, smp⟩
  have gens2 : s2.gens = (s.gens.push (.fresh (.func body (envOfC qual scope L1 f cdv)))).push (.fresh (.func body (envOfC qual scope L2 f cdv))) := by rw [G2.gens, G1.gens]
  have gs1 : s1.gens.size = s.gens.size + 1 := by rw [G1.gens, Array.size_push]
  have at1 : s2.gens[s.gens.size]? = some (.fresh (.func body (envOfC qual scope L1 f cdv))) := by
    rw [gens2, Array.getElem?_push, Array.size_push, if_neg (by omega), Array.getElem?_push, if_pos rfl]
  have at2 : s2.gens[s1.gens.size]? = some (.fresh (.func body (envOfC qual scope L2 f cdv))) := by
    rw [gens2, gs1, Array.getElem?_push, Array.size_push, if_pos rfl]
  refine ⟨z, [z, TO, L1, L2], H, yZip it tot, tot, rfl, I3, fun b hb => ⟨fpk b (ge b ((memfp b).mp hb)).1, (ge b ((memfp b).mp hb)).2⟩, hR, fun A E Q s' k4 hQ => wpAny_pyIter_zip (k4 _ _ D.hz) hQ, fun s3 s4 Dl ce σ' g4 os4 k4 nD eD lD I4 => ?_⟩
  have eD : Dl = h'.objs.size := eD
  have gg4 : s4.gens = s2.gens := g4
  have k4 : ∀ b o, h'.get? b = some o → s4.heap.get? b = some o := k4
  have locge : s3.heap.objs.size ≤ ce.locals := I4.ok.above
  have exD : Ex H (upd H Dl (.lst [])) := Ex.new nD
  have low : ∀ b, b < h'.objs.size → b ≠ Dl ∧ b ≠ ce.locals := fun b lt => ⟨by rw [eD]; exact Nat.ne_of_lt lt, Nat.ne_of_lt (Nat.lt_of_lt_of_le (Nat.lt_trans lt (by rw [← eD]; exact lD)) locge)⟩
  have pinOk : ∀ b o, s.heap.objs.size ≤ b → h'.get? b = some o → (∀ v, o.data ≠ .cell v) → s4.heap.get? b = some o ∧ (upd H Dl (.lst [])) b = none ∧ b ≠ ce.locals ∧ b ∉ frs X.stack ∧ ∀ v, o.data ≠ .cell v := fun b o le g nc => by
    obtain ⟨l1, l2⟩ := low b (Heap.lt_size g)
    refine ⟨k4 b o g, by rw [upd_ne l1]; exact nH b le, l2, fun hb => ?_, nc⟩
    obtain ⟨_, o, ho, _⟩ := I.stack.mem hb
    exact absurd (Heap.lt_size ho) (Nat.not_lt_of_le le)
  have celOk : ∀ b o, h'.get? b = some o → (∀ v, o.data ≠ .cell v) → ∀ x c, ce.cells.lookup x = some c → c ≠ b := fun b o g nc x c e q => by
    obtain ⟨v, o', g', d⟩ := I4.cell x c e
    rw [q, k4 b o g] at g'; cases g'
    exact nc _ d
  have uz := D.hz
  have uTO := D.hTO
  have uTI := D.hTI
  have ua1 := kp _ _ ga1
  have ua2 := kp _ _ G2.obj
  have uL1 := kp _ _ gL1
  have uL2 := kp _ _ G2.frm
  have J4 : Inv (X.blk s3 (upd H Dl (.lst [])) scope0 ce [z, TO, L1, L2]) (zFive TI TO z a1 a2 go1 go2 .none .none .none ++ ([(L1, fo1)] ++ [(L2, fo2)])) σ' (upd H Dl (.lst [])) s4 := by
    refine I4.pins_of fun p hp => ?_
    have hp : p = (z, zObj TI TO .none) ∨ p = (TO, pObj .none .none) ∨ p = (TI, pObj (.ref a1) (.ref a2)) ∨ p = (a1, go1) ∨ p = (a2, go2) ∨ p = (L1, fo1) ∨ p = (L2, fo2) := by simpa using hp
    rcases hp with rfl | rfl | rfl | rfl | rfl | rfl | rfl
    · exact pinOk z _ s6' uz fun v q => nomatch q
    · exact pinOk TO _ s5' uTO fun v q => nomatch q
    · exact pinOk TI _ s4' uTI fun v q => nomatch q
    · exact pinOk a1 _ s1' ua1 G1.gnc
    · exact pinOk a2 _ s3' ua2 G2.gnc
    · exact pinOk L1 _ q0 uL1 G1.fnc
    · exact pinOk L2 _ s2' uL2 G2.fnc
  have roomy : Room k X.A.in1.in1 := (Room.in1 (Room.in1 (hr.mono (by omega) : Room (k + 2) X.A)))
  have roomd : ∀ env : Env, Room k (X.A.in1.in1.deeper env) := fun env => Room.deeper (Room.in1 (Room.in1 (hr : Room (k + 1 + 1 + 1) X.A))) env
  have Z : ZFix (X.blk s3 (upd H Dl (.lst [])) scope0 ce [z, TO, L1, L2]) (famM X N qual scope f cdv L1 Hb (ghO s1.gens.size) it tot) (famM X N qual scope f cdv L2 Hb (ghO s.gens.size) it tot) [ps1] [ps1] z TI TO a1 a2 go1 go2 s.gens.size s1.gens.size := by
    refine ⟨okF L1 _ q0, okF L2 _ s2', ⟨rfl, rfl, rfl, rfl, rfl, rfl, rfl, rfl⟩, ⟨rfl, rfl, rfl, rfl, rfl, rfl, rfl, rfl⟩, hr.hd, (Room.in1 (hr : Room (k + 2 + 1) X.A)).depth, G1.gen, G2.gen, by rw [gs1]; omega, rfl, rfl, rfl, fun b hb => .inl ((memfp b).mpr hb), fun b hb => ?_, nz, fnum, LL, rfl⟩
    rcases hb with rfl | rfl | rfl | rfl
    · exact celOk _ _ uz fun v q => nomatch q
    · exact celOk _ _ uTO fun v q => nomatch q
    · exact celOk _ _ uL1 G1.fnc
    · exact celOk _ _ uL2 G2.fnc
  have ro : ∀ (L a : Addr) (O : Shared → List Addr) (fo : Obj) (mm : Str → Option Value), (¬ ∀ s, O s = []) → s.heap.objs.size ≤ L → (∀ h : Heap, h.get? L = some fo → h.Ns L mm) → (∀ (i : Nat) (x : Str) (v : V), N[i]? = some x → (start N [.ref x0])[i]? = some (some v) → Vis scope x → ∃ u, _root_.L2.RelV v u ∧ scope.names.lookup x = some .local ∧ mm x = some u) → (start N [.ref x0]).length = N.length →
      ∀ (q : Addr) (oq : Obj) (sn : Shared), (famM X N qual scope f cdv L Hb O it tot).Fut tot (.fresh (.func body (envOfC qual scope L f cdv))) [(L, fo)] q oq sn := fun L a O fo mm hO le ns vars len q oq sn =>
    fresh_fut (okF L O le) (bodyJ L Hb O it tot (okF L O le) hO (roomd _)) (Hbn L le) ns vars len fun H' e' => tm H' e'
  refine ⟨fun s' => (∀ gs1, s'.gens[s.gens.size]? = some gs1 → Sus gs1) ∧ ∀ gs2, s'.gens[s1.gens.size]? = some gs2 → Sus gs2, fun n H' pl s' => ZAt (X.blk s3 (upd H Dl (.lst [])) scope0 ce [z, TO, L1, L2]) (famM X N qual scope f cdv L1 Hb (ghO s1.gens.size) it tot) (famM X N qual scope f cdv L2 Hb (ghO s.gens.size) it tot) z TI TO a1 a2 go1 go2 s.gens.size s1.gens.size n H' s' pl, _, J4, ?_, ?_⟩
  · refine ⟨[(L1, fo1)], [(L2, fo2)], .fresh (.func body (envOfC qual scope L1 f cdv)), .fresh (.func body (envOfC qual scope L2 f cdv)), x0, x0, go1, go1, _, _, rfl, ⟨by rw [gg4]; exact at1, trivial, fun _ => ⟨s4, rfl, ro L1 a1 _ fo1 mm1 (many_gh _) q0 G1.ns G1.vars G1.len x0 go1 s4⟩, fun hn => absurd hn hx0, exb.trans exD, fun p hp => ?_, fo1, List.mem_cons_self⟩, ⟨by rw [gg4]; exact at2, trivial, fun _ => ⟨s4, rfl, ro L2 a2 _ fo2 mm2 (many_gh _) s2' G2.ns G2.vars G2.len x0 go1 s4⟩, fun hn => absurd hn hx0, exb.trans exD, fun p hp => ?_, fo2, List.mem_cons_self⟩, fun p hp o ho => ?_, fun b hb o ho => ?_, .inr ⟨⟨_, rfl⟩, fun p hp => ?_, s4, rfl, ⟨_, rfl⟩, fun p hp => ?_, ?_⟩⟩
    · rw [List.mem_singleton.mp hp]; exact ⟨.inl rfl, celOk _ _ uL1 G1.fnc⟩
    · rw [List.mem_singleton.mp hp]; exact ⟨.inl rfl, celOk _ _ uL2 G2.fnc⟩
    · rw [List.mem_singleton.mp hp, List.mem_singleton.mp ho]; exact LL
    · have ho : o = (L1, fo1) ∨ o = (L2, fo2) := by simpa using ho
      rcases ho with rfl | rfl
      · exact (fnum b hb).1
      · exact (fnum b hb).2
    · rw [List.mem_singleton.mp hp]
    · rw [List.mem_singleton.mp hp]
    · exact hush L1 Hb _ it tot x0 fo1 mm1 x0 go1 s4 (okF L1 _ q0) hHc (Hbn L1 q0) G1.ns G1.vars G1.len
  · refine ⟨fun n pl σ1 H1 s5 J zt => ?_, fun pl σ1 H1 s5 J zt => zip_end Z trivial J zt, fun n H1 H1' pl s5 s6 zt aw os nfz kk on => ?_⟩
    · refine wpAny_mono (zip_turn (elts := elts) (kk := kk) (tpos := tpos) (E := fun _ _ => False) Z J zt) (fun r s6 hr => ?_) fun _ _ z => z
      obtain ⟨u, rfl, h6⟩ := hr
      refine ⟨u, rfl, wpAny_mono h6 (fun _ s7 h7 => ?_) fun _ _ z => z⟩
      obtain ⟨T, q1, q2, H', pl', rfl, J', zt', w1, w2, ex', hT, r1, r2⟩ := h7
      exact ⟨.ref T, H', pl', rfl, J', zt', ⟨w1, w2⟩, T, q1, q2, rfl, ex', hT, r1, r2⟩
    · have nb : ∀ {b u}, Hb b = some u → b ≠ Dl := fun {b u} g q => by
        have y := exb _ _ g
        rw [q, nD] at y; cases y
      obtain ⟨_, _, _, _, _, _, _, _, _, _, _, r1, r2, _⟩ := id zt.main
      have hb' : Ex Hb H1' := fun b u g => kk b u (nb g) (r1.hb _ _ g)
      refine zt.keep os hb' hb' (fun b o u g => kk b _ (fun q => nfz o u (q ▸ g)) g) (.inr ⟨aw.1, on⟩) fun gs1 gs2 g1 g2 _ => aw.2 gs2 g2
end Mc
namespace Mc
open PySem PySem.Spec PyProof.Rows L2 Evl GenW GenFz
/-! ### no generator moves: the few rules that the check of a date wants -/
abbrev Stl {α : Type} (Q : α → Shared → Prop) (s : Shared) : α → Shared → Prop := fun a s' => Q a s' ∧ s'.gens = s.gens
theorem thnG {α : Type} {M : Model} {A : Around} {t : Sem α} {Q Q' : α → Shared → Prop} {E : Value → Shared → Prop} {s0 s : Shared} (h : wpAny M A t (Stl Q s) E s) (g : s.gens = s0.gens) (hQ : ∀ a s', Q a s' → s'.gens = s0.gens → Q' a s') : wpAny M A t Q' E s :=
  wpAny_mono h (fun a s' q => hQ a s' q.1 (q.2.trans g)) fun _ _ z => z
structure GE (X : Cx) (e : Expr) (t : TE) : Prop where
  go : ∀ {pins : List (Addr × Obj)} {s : Shared} {σ : L2.St} {H : Hp} {Q : VK}, Inv X pins σ H s → t σ H Q → wpAny (model X.prog X.w) X.A (eval e X.env) (Stl (EP X pins σ Q) s) X.xe s
structure GT (X : Cx) (e : Expr) (t : TT) : Prop where
  go : ∀ {pins : List (Addr × Obj)} {s : Shared} {σ : L2.St} {H : Hp} {Q : Bool → Hp → Prop}, Inv X pins σ H s → t σ H Q → wpAny (model X.prog X.w) X.A (isTrue e X.env (eval e X.env)) (Stl (TP X pins σ Q) s) X.xe s
structure GW (X : Cx) (e : Expr) (t : TT) : Prop where
  go : ∀ {wh : Sem Value} {pins : List (Addr × Obj)} {s : Shared} {σ : L2.St} {H : Hp} {Q : Bool → Hp → Prop}, Inv X pins σ H s → t σ H Q → wpAny (model X.prog X.w) X.A (isTrue e X.env wh) (Stl (TP X pins σ Q) s) X.xe s
structure GA (X : Cx) (es : List Expr) (t : TA) : Prop where
  go : ∀ (pos : Pos) {pins : List (Addr × Obj)} {s : Shared} {σ : L2.St} {H : Hp} {Q : List V → Hp → Prop}, Inv X pins σ H s → t σ H Q → wpAny (model X.prog X.w) X.A (spliced (backTo pos (starEach es X.env))) (Stl (AP X pins σ Q) s) X.xe s
structure StG (X : Cx) (st : Stmt) (t : TS) : Prop where
  go : ∀ {pins : List (Addr × Obj)} {s : Shared} {σ : L2.St} {H : Hp} {D : Ends}, Inv X pins σ H s → t D σ H → wpAny (model X.prog X.w) X.A (exec st X.env) (Stl (SP X pins D) s) X.xe s
structure StGs (X : Cx) (st : List Stmt) (t : TS) : Prop where
  go : ∀ {pins : List (Addr × Obj)} {s : Shared} {σ : L2.St} {H : Hp} {D : Ends}, Inv X pins σ H s → t D σ H → wpAny (model X.prog X.w) X.A (execs st X.env) (Stl (SP X pins D) s) X.xe s
/-- two values in, one out -/
def OpG (X : Cx) (f : Value → Value → Sem Value) (r : R2) : Prop :=
  ∀ {pins : List (Addr × Obj)} {s : Shared} {σ : L2.St} {H : Hp} {x y : V} {v u : Value} {Q : VK}, Inv X pins σ H s → RelV x v → RelV y u → r x y H Q → wpAny (model X.prog X.w) X.A (f v u) (Stl (EP X pins σ Q) s) X.xe s
section
variable {X : Cx} {a b e : Expr} {ta tb te : TE} {tA tB' : TT} {pos : Pos} {rest es : List Expr}
theorem ge_var (i : Nat) {x : Str} {p : Pos} (hN : X.N[i]? = some x := by rfl) (hv : Vis X.env.scope x := by first | exact Or.inl rfl | exact Or.inr (Or.inl rfl) | exact Or.inr (Or.inr rfl)) (hd : (x == ("__debug__" : Str)) = false := by decide) (hcd : (x == ("__classdict__" : Str)) = false := by decide) : GE X (.Name x p) (tVar i) :=
  ⟨fun {pins s σ H Q} I ⟨v, ev, q⟩ => name_same I hN hv ev (fun u ru => ⟨⟨v, H, I, ru, q⟩, rfl⟩) hd hcd⟩
theorem ge_int {i : Int} {j pos} : GE X (.Constant (.int i) j pos) (tC (.int i)) := ⟨fun {pins s σ H Q} I q => wpAny_Constant_int ⟨⟨.int i, H, I.tok _, ⟨_, rfl⟩, q⟩, rfl⟩⟩
theorem ge_glob {x : Str} {v : V} {u : Value} {p : Pos} (hg : Gl X x) (hm : X.mg x = some u) (r : RelV v u) (hd : (x == ("__debug__" : Str)) = false := by decide) : GE X (.Name x p) (tC v) :=
  ⟨fun {pins s σ H Q} I q => ld_glob I hg hm ⟨⟨v, H, I, r, q⟩, rfl⟩ hd⟩
theorem og_I {f : Value → Value → Sem Value} {C : Int → Int → Prop} {g : Int → Int → Int}
    (rule : ∀ (i j : Int) (t u : Tok) (s : Shared) (Q E : Value → Shared → Prop), C i j → Q (.int (g i j) s.toks) { s with toks := s.toks + 1 } → wpAny (model X.prog X.w) X.A (f (.int i t) (.int j u)) Q E s) : OpG X f (rI C fun i j => .int (g i j)) :=
  fun {pins s σ H x y v u Q} I rx ry ⟨i, j, ex, ey, hc, q⟩ => by
    subst ex; subst ey
    obtain ⟨⟨t, rfl⟩, ⟨t', rfl⟩⟩ := And.intro rx ry
    exact rule i j t t' s _ _ hc ⟨⟨.int (g i j), H, I.tok _, ⟨_, rfl⟩, q⟩, rfl⟩
theorem og_B {f : Value → Value → Sem Value} {g : Int → Int → Bool}
    (rule : ∀ (i j : Int) (t u : Tok) (s : Shared) (Q E : Value → Shared → Prop), Q (.bool (g i j)) s → wpAny (model X.prog X.w) X.A (f (.int i t) (.int j u)) Q E s) : OpG X f (rI0 fun i j => .bl (g i j)) :=
  fun {pins s σ H x y v u Q} I rx ry ⟨i, j, ex, ey, q⟩ => by
    subst ex; subst ey
    obtain ⟨⟨t, rfl⟩, ⟨t', rfl⟩⟩ := And.intro rx ry
    exact rule i j t t' s _ _ ⟨⟨.bl (g i j), H, I, rfl, q⟩, rfl⟩
theorem og_lt : OpG X (compareOp .Lt) (rI0 fun i j => .bl (decide (i < j))) := og_B fun _ _ _ _ _ _ _ q => lt_int q
theorem og_gt : OpG X (compareOp .Gt) (rI0 fun i j => .bl (decide (j < i))) := og_B fun _ _ _ _ _ _ _ q => gt_int q
theorem og_eq : OpG X (compareOp .Eq) (rI0 fun i j => .bl (decide (i = j))) := og_B fun _ _ _ _ _ _ _ q => eq_int (by rw [Bool.beq_eq_decide_eq]; exact q)
theorem og_ne : OpG X (compareOp .NotEq) (rI0 fun i j => .bl (!decide (i = j))) := og_B fun _ _ _ _ _ _ _ q => ne_int (by rw [bne, Bool.beq_eq_decide_eq]; exact q)
theorem og_sub : OpG X (binaryOp .Sub) (rI (fun _ _ => True) fun i j => .int (i - j)) := og_I fun _ _ _ _ _ _ _ _ q => sub_int q
theorem og_mod : OpG X (binaryOp .Mod) (rI (fun _ j => 0 < j) fun i j => .int (i % j)) := og_I fun i j _ _ _ _ _ hc q => by
  have hj : (0 : Int) < j := hc
  refine mod_int' (by omega) ?_
  rw [Int.fmod_eq_emod_of_nonneg i (by omega)]
  exact q
theorem bin_g (ha : GE X a ta) (hb : GE X b tb) {r : R2} {f : Value → Value → Sem Value} (ho : OpG X f r) {pins : List (Addr × Obj)} {s : Shared} {σ : L2.St} {H : Hp} {Q : VK} (I : Inv X pins σ H s) (h : tOp r ta tb σ H Q) :
    wpAny (model X.prog X.w) X.A (eval a X.env) (fun v s₁ => wpAny (model X.prog X.w) X.A (eval b X.env) (fun u s₂ => wpAny (model X.prog X.w) X.A (f v u) (Stl (EP X pins σ Q) s) X.xe s₂) X.xe s₁) X.xe s :=
  thnG (ha.go I h) rfl fun v s1 ⟨x, H1, I1, r1, q1⟩ g1 => thnG (hb.go I1 q1) g1 fun u s2 ⟨y, H2, I2, r2, q2⟩ g2 => thnG (ho I2 r1 r2 q2) g2 fun _ _ q g => ⟨q, g⟩
theorem ge_op {op : Operator} {r : R2} (ho : OpG X (binaryOp op) r) (ha : GE X a ta) (hb : GE X b tb) : GE X (.BinOp a op b pos) (tOp r ta tb) := ⟨fun I h => wpAny_BinOp (bin_g ha hb ho I h)⟩
theorem ge_cmp {op : CmpOp} {r : R2} (ho : OpG X (compareOp op) r) (ha : GE X a ta) (hb : GE X b tb) (hm : behindInMarks op b = false) : GE X (.Compare a [op] [b] pos) (tOp r ta tb) := ⟨fun I h => wpAny_Compare1 (bin_g ha hb ho I h) hm⟩
theorem gt_cmp {op : CmpOp} {r : R2} (ho : OpG X (compareOp op) r) (ha : GE X a ta) (hb : GE X b tb) (hm : behindInMarks op b = false) : GT X (.Compare a [op] [b] pos) (tTest (tOp r ta tb)) := by
  refine ⟨fun {pins s σ H Q} I h => wpAny_isTrue_Compare1 (wpAny_mono (bin_g ha hb ho I h) (fun v s1 h1 => wpAny_mono h1 (fun u s2 h2 => wpAny_mono h2 (fun c s3 h3 => ?_) fun _ _ z => z) fun _ _ z => z) fun _ _ z => z) hm⟩
  obtain ⟨⟨x, H3, I3, r3, k, ek, q3⟩, g3⟩ := h3
  subst ek; cases r3
  exact wpAny_truthy_bool ⟨⟨H3, I3, q3⟩, g3⟩
theorem gt_val (h : GE X e te) (he : ∀ whole, isTrue e X.env whole = (do let v ← whole; standAt e.pos; holding [v] (truthy v)) := by intro _; rfl) : GT X e (tB te) := by
  refine ⟨fun {pins s σ H Q} I hw => isTrue_plain (thnG (h.go I hw) rfl fun v s1 ⟨x, H1, I1, r1, c, ec, q1⟩ g1 => ?_) (he _)⟩
  subst ec; cases r1
  exact wpAny_truthy_bool ⟨⟨H1, I1, q1⟩, g1⟩
theorem gw_and1 (ha : GT X a tA) : GW X (.BoolOp .And [a] pos) tA := by
  refine ⟨fun I h => isTrue_and (thnG (ha.go I h) rfl fun c s1 q g1 => ?_)⟩
  cases c with
  | true => exact isTrue_and_nil ⟨q, g1⟩
  | false => exact ⟨q, g1⟩
theorem gw_or1 (ha : GT X a tA) : GW X (.BoolOp .Or [a] pos) tA := by
  refine ⟨fun I h => isTrue_or (thnG (ha.go I h) rfl fun c s1 q g1 => ?_)⟩
  cases c with
  | false => exact isTrue_or_nil ⟨q, g1⟩
  | true => exact ⟨q, g1⟩
theorem gw_and (ha : GT X a tA) (hb : GW X (.BoolOp .And (b :: rest) pos) tB') : GW X (.BoolOp .And (a :: b :: rest) pos) (tAnd tA tB') := by
  refine ⟨fun I h => isTrue_and (thnG (ha.go I h) rfl fun c s1 ⟨H1, I1, q1⟩ g1 => ?_)⟩
  cases c with
  | true => exact thnG (hb.go I1 q1) g1 fun _ _ q g => ⟨q, g⟩
  | false => exact ⟨⟨H1, I1, q1⟩, g1⟩
theorem gw_or (ha : GT X a tA) (hb : GW X (.BoolOp .Or (b :: rest) pos) tB') : GW X (.BoolOp .Or (a :: b :: rest) pos) (tOr tA tB') := by
  refine ⟨fun I h => isTrue_or (thnG (ha.go I h) rfl fun c s1 ⟨H1, I1, q1⟩ g1 => ?_)⟩
  cases c with
  | true => exact ⟨⟨H1, I1, q1⟩, g1⟩
  | false => exact thnG (hb.go I1 q1) g1 fun _ _ q g => ⟨q, g⟩
theorem GW.gt {t : TT} (h : GW X e t) : GT X e t := ⟨fun I q => h.go I q⟩
theorem ge_one {op : BoolOp} {t : TE} (h : GE X a t) : GE X (.BoolOp op [a] pos) t := ⟨fun I q => BoolOp_one (h.go I q)⟩
theorem ge_and (ha : GE X a ta) (hb : GE X (.BoolOp .And (b :: rest) pos) tb) : GE X (.BoolOp .And (a :: b :: rest) pos) (tAndV ta tb) := by
  refine ⟨fun I h => BoolOp_and (thnG (ha.go I h) rfl fun v s1 ⟨x, H1, I1, r1, c, ec, q1⟩ g1 => ?_)⟩
  subst ec; cases r1
  refine wpAny_truthy_bool ?_
  cases c with
  | true => exact thnG (hb.go I1 q1) g1 fun _ _ q g => ⟨q, g⟩
  | false => exact ⟨⟨.bl false, H1, I1, rfl, q1⟩, g1⟩
theorem ge_or (ha : GE X a ta) (hb : GE X (.BoolOp .Or (b :: rest) pos) tb) : GE X (.BoolOp .Or (a :: b :: rest) pos) (tOrV ta tb) := by
  refine ⟨fun I h => BoolOp_or (thnG (ha.go I h) rfl fun v s1 ⟨x, H1, I1, r1, c, ec, q1⟩ g1 => ?_)⟩
  subst ec; cases r1
  refine wpAny_truthy_bool ?_
  cases c with
  | false => exact thnG (hb.go I1 q1) g1 fun _ _ q g => ⟨q, g⟩
  | true => exact ⟨⟨.bl true, H1, I1, rfl, q1⟩, g1⟩
/-- a tuple's item -/
theorem ge_ixT (ha : GE X a ta) (hb : GE X b tb) (hs : PlainIx b) : GE X (.Subscript a b pos) (tOp (rIxT X.K) ta tb) := by
  refine ⟨fun {pins s σ H Q} I h => Subscript_ (thnG (ha.go I h) rfl fun v s1 ⟨x, H1, I1, r1, q1⟩ g1 => thnG (hb.go I1 q1) g1 fun u s2 ⟨y, H2, I2, r2, p, xs, i, z, ex, ey, hq, he, q⟩ g2 => ?_)⟩
  subst ex; subst ey; cases r1
  obtain ⟨t, rfl⟩ := r2
  obtain ⟨its, r, pl, hz⟩ := I2.tuple hq
  obtain ⟨j, k1, k2, k3, k4, k5⟩ := atI_get he
  obtain ⟨o, eo, ro⟩ := r.get k2
  have hl := r.length
  have hn := line63
  exact subscriptTail_builtinR (x := o) pl.typeIs slot_tuple_getitem.lookup (getItem_tuple (j := j) (Q := fun r' s' => r' = o ∧ Stl (EP X pins σ Q) s r' s') pl (by omega) (by omega) (by rw [List.size_toArray, ← hl]; exact k1) (by simpa using eo) ⟨rfl, ⟨_, H2, I2, ro, q⟩, g2⟩) (hs _ _)
theorem ga_nil : GA X [] tNil := ⟨fun pos {pins s σ H Q} I h => Calls.spliced_nil ⟨⟨[], H, I, .nil, h⟩, rfl⟩⟩
theorem ga_cons {t : TA} (ha : GE X e te) (hr : GA X es t) (hs : starEach (e :: es) X.env = (false, eval e X.env) :: starEach es X.env := by rfl) : GA X (e :: es) (tCons te t) := by
  refine ⟨fun pos {pins s σ H Q} I h => ?_⟩
  rw [hs]
  exact Calls.spliced_cons (thnG (ha.go I h) rfl fun u s1 ⟨x, H1, I1, r1, q1⟩ g1 => thnG (hr.go pos I1 q1) g1 fun us s2 ⟨xs, H2, I2, r2, q2⟩ g2 => ⟨⟨x :: xs, H2, I2, .cons r1 r2, q2⟩, g2⟩)
end
section
variable {X : Cx} {st : Stmt} {rest : List Stmt} {t u : TS} {e : Expr} {te : TE} {pos : Pos}
theorem gss_nil : StGs X [] tNext := ⟨fun {pins s σ H D} I h => wpAny_execs_nil ⟨⟨σ, H, I, h⟩, rfl⟩⟩
theorem gss_cons (h1 : StG X st t) (h2 : StGs X rest u) : StGs X (st :: rest) (tSeq t u) := by
  refine ⟨fun {pins s σ H D} I h => wpAny_execs_cons (thnG (h1.go (D := { D with nx := u D }) I h) rfl fun f s1 q g1 => ?_)⟩
  cases f with
  | next =>
    obtain ⟨σ', H', I', q⟩ := q
    exact thnG (h2.go I' q) g1 fun _ _ q g => ⟨q, g⟩
  | ret v => exact ⟨q, g1⟩
  | brk => exact ⟨q, g1⟩
  | cont => exact ⟨q, g1⟩
theorem gss_one (h1 : StG X st t) : StGs X [st] t := by
  refine ⟨fun {pins s σ H D} I h => wpAny_execs_cons (thnG (h1.go I h) rfl fun f s1 q g1 => ?_)⟩
  cases f with
  | next => exact wpAny_execs_nil ⟨q, g1⟩
  | ret v => exact ⟨q, g1⟩
  | brk => exact ⟨q, g1⟩
  | cont => exact ⟨q, g1⟩
theorem gs_never : StG X st tNever := ⟨fun _ h => h.elim⟩
theorem gs_ret (he : GE X e te) : StG X (.Return (some e) pos) (tRet te) :=
  ⟨fun {pins s σ H D} I h => wpAny_Return_some (thnG (he.go I h) rfl fun v s1 ⟨x, H1, I1, r1, q1⟩ g1 => ⟨⟨x, σ, H1, I1, r1, q1⟩, g1⟩)⟩
theorem gs_expr (he : GE X e te) (hs : swapsWith e none pos.line X.env = pure false := by rfl) : StG X (.Expr e pos) (tDrop te) :=
  ⟨fun {pins s σ H D} I h => wpAny_Expr_any (thnG (he.go I h) rfl fun v s1 ⟨x, H1, I1, r1, q1⟩ g1 => ⟨⟨σ, H1, I1, q1⟩, g1⟩) I.quiet hs⟩
theorem gs_if {c : Expr} {a b : List Stmt} {tc : TT} (hc : GT X c tc) (ha : StGs X a t) (hb : StGs X b u) : StG X (.If c a b pos) (tIfS tc t u) := by
  refine ⟨fun {pins s σ H D} I h => wpAny_If (thnG (hc.go I h) rfl fun d s1 ⟨H1, I1, q1⟩ g1 => ?_)⟩
  cases d with
  | true => exact thnG (ha.go I1 q1) g1 fun _ _ q g => ⟨q, g⟩
  | false => exact thnG (hb.go I1 q1) g1 fun _ _ q g => ⟨q, g⟩
end
/-! targets: plain names, and a tuple of them -/
structure GG (X : Cx) (target : Expr) (t : TG) : Prop where
  go : ∀ {pins : List (Addr × Obj)} {s : Shared} {σ : L2.St} {H : Hp} {v : V} {u : Value} {Q : L2.St → Hp → Prop}, Inv X pins σ H s → RelV v u → t v σ H Q → wpAny (model X.prog X.w) X.A (assign target X.env u) (Stl (fun _ s' => ∃ σ' H', Inv X pins σ' H' s' ∧ Q σ' H') s) X.xe s
structure GGs (X : Cx) (ts : List Expr) (t : TGs) : Prop where
  go : ∀ {pins : List (Addr × Obj)} {s : Shared} {σ : L2.St} {H : Hp} {vs : List V} {us : List Value} {Q : L2.St → Hp → Prop}, Inv X pins σ H s → Vals vs us → t vs σ H Q → wpAny (model X.prog X.w) X.A (assignInOrder ((assignEach ts X.env).map (·.2)) us) (Stl (fun _ s' => ∃ σ' H', Inv X pins σ' H' s' ∧ Q σ' H') s) X.xe s
section
variable {X : Cx} {pos : Pos}
theorem gg_name {i : Nat} {x : Str} (hN : X.N.Nodup) (hi : X.N[i]? = some x) (hx : X.env.scope.names.lookup x = some .local) : GG X (.Name x pos) (gName i) := by
  refine ⟨fun {pins s σ H v u Q} I r h => wpAny_assign_Name ?_⟩
  obtain ⟨m, hn, _⟩ := id I.loc
  exact wpAny_both (E1 := X.xe) (E2 := X.xe) (store_ok (M := model X.prog X.w) I hN hi (.inl hx) r (fun s2 I2 => ⟨_, H, I2, h⟩) (.inr hx)) (wpAny_storeName_local (M := model X.prog X.w) (Q := fun _ s2 => s2.gens = s.gens) hx hn (fun h' hn' hs' => rfl) (by rw [I.ok.kind]; rfl)) |> fun z => wpAny_mono z (fun _ _ q => q) fun _ _ q => q.1
theorem ggs_nil : GGs X [] gNil := ⟨fun {pins s σ H vs us Q} I r ⟨e, h⟩ => by
  subst e; cases r
  exact assignInOrder_nil ⟨⟨σ, H, I, h⟩, rfl⟩⟩
theorem ggs_cons {e : Expr} {es : List Expr} {t : TG} {u : TGs} (h1 : GG X e t) (h2 : GGs X es u) (hs : (assignEach (e :: es) X.env).map (·.2) = assign e X.env :: (assignEach es X.env).map (·.2) := by rfl) : GGs X (e :: es) (gCons t u) := ⟨fun {pins s σ H vs us Q} I r ⟨v, vr, e1, h⟩ => by
  subst e1
  cases r with
  | cons r rr =>
    rw [hs]
    exact assignInOrder_cons (thnG (h1.go I r h) rfl fun _ s1 ⟨σ1, H1, I1, q1⟩ g1 => thnG (h2.go I1 rr q1) g1 fun _ _ q g => ⟨q, g⟩)⟩
theorem gg_tup {es : List Expr} {k : Nat} {t : TGs} {n : Nat} (hc : X.calm = true) (h : GGs X es t) (hn : (assignEach es X.env).length = n := by rfl) (hst : (assignEach es X.env).findIdx? (·.1) = none := by rfl) : GG X (.Tuple es k pos) (gTup X.K n t) := ⟨fun {pins s σ H v u Q} I r ⟨a, xs, e1, hq, hl, hw⟩ => by
  subst e1; cases r
  obtain ⟨its, rv, ht, hz⟩ := I.tuple hq
  refine assign_Tuple_tuple (I.ok.hd hc) ht (by simp [hn, ← hl, rv.length]) hst fun h' hx => ?_
  exact thnG (h.go (I.kept (t' := s.toks) fun b o e => hx b o (Nat.ne_of_lt (Heap.lt_size e)) e) (by simpa using rv) hw) rfl fun _ _ q g => ⟨q, g⟩⟩
theorem gs_asg {tg e : Expr} {te : TE} {g : TG} (he : GE X e te) (hg : GG X tg g) (hs : swapsWithSole [tg] e pos.line X.env = pure false := by rfl) (hw : swappedStores [tg] e X.env = pure none := by rfl) (h1 : (assignEach [tg] X.env).map (·.2) = [assign tg X.env] := by rfl) : StG X (.Assign [tg] e pos) (tAsg te g) := ⟨fun {pins s σ H D} I h => by
  refine wpAny_Assign_stores (thnG (he.go I h) rfl fun v s1 ⟨x, H1, I1, r1, q1⟩ g1 => ?_) hs hw
  rw [h1]
  exact thnG (hg.go I1 r1 q1) g1 fun _ s2 q g => ⟨q, g⟩⟩
end
/-! ### defs that move no generator -/
structure FnS (P : Program) (w : World) (K : PySem.W.Frag) (mg : Str → Option Value) (base : Heap) (CX : CXT) (k : Nat) (f : Addr) (fd : FuncData) (ps : List Str) (sp : Sp) : Prop where
  len : ∀ vs H Q E, sp vs H Q E → vs.length = ps.length
  go : ∀ (A : Around) (outer : List Env) (s : Shared) (H : Hp) (args : Args) (us : List Value) (vs : List V) (Q : VK) (E : XK), Room k A → Env0 P w K mg base A outer s H → BindsTo s fd args (ps.zip us) → Vals vs us → sp vs H Q E → codeAny (model P w) A (.call (.ref f) args) (Stl (CR CX outer P w H s Q E) s) s
section
variable {X : Cx} {CX : CXT} {k : Nat} {f : Addr} {fd : FuncData} {ps : List Str} {sp : Sp} {dvs : List V} {ds : List Value} {E : XK} {x : Str} {p pos : Pos} {e : Expr} {es : List Expr} {t : TA}
theorem call_still {pins : List (Addr × Obj)} {σ : L2.St} {H : Hp} {s : Shared} {Q : VK} {us : List Value} {vs : List V} (F : FnS X.prog X.w X.K X.mg X.base CX k f fd ps sp) (hr : Room k X.A) (hb : Binds X.K fd ps ds) (hd : Vals dvs ds) (hx : Passes CX X E) (I : Inv X pins σ H s) (r : Vals vs us) (h : sp (vs ++ dvs) H Q E) :
    wpAny (model X.prog X.w) X.A (call (.ref f) us) (Stl (EP X pins σ Q) s) X.xe s := by
  have r2 : Vals (vs ++ dvs) (us ++ ds) := r.append hd
  refine wpAny_call (codeAny_mono (F.go X.A X.stack s H ⟨us, []⟩ (us ++ ds) _ Q E hr I.env0 (hb s us I.kIn (by rw [← r2.length]; exact F.len _ _ _ _ h)) r2 h) fun r s' hq => ?_)
  match r, hq with
  | .error e, hq => exact hx pins σ H s e s' I hq.1
  | .ok (.ret u), hq => exact ⟨I.after hq.1, hq.2⟩
  | .ok .next, hq => exact hq.1.elim
  | .ok .brk, hq => exact hq.1.elim
  | .ok .cont, hq => exact hq.1.elim
theorem ge_call (F : FnS X.prog X.w X.K X.mg X.base CX k f fd ps sp) (hr : Room k X.A) (hg : Gl X x) (hm : X.mg x = some (.ref f)) (hk : PySem.W.keepIn X.K (.ref f) = true) (hb : Binds X.K fd ps ds) (hd : Vals dvs ds) (hx : Passes CX X E) (ha : GA X (e :: es) t)
    (hdb : (x == ("__debug__" : Str)) = false := by decide) (he : starEach (e :: es) X.env = (false, eval e X.env) :: starEach es X.env := by rfl) (hpl : (backTo pos (starEach es X.env)).any (·.1) = false := by rfl) : GE X (.Call (.Name x p) (e :: es) [] pos) (tCall sp dvs E t) :=
  ⟨fun {pins s σ H Q} I h => wpAny_Call_Name_kw (ld_glob I hg hm (PySem.W.callWith_K (h₀ := X.base) I.ok.mod.kin hk (thnG (ha.go pos I h) rfl fun us s1 ⟨vs, H1, I1, r, q⟩ g1 => ⟨I1.kIn, thnG (call_still F hr hb hd hx I1 r q) g1 fun _ _ q g => ⟨q, g⟩⟩) he hpl) hdb)⟩
end
theorem fun_still {P : Program} {w : World} {K : PySem.W.Frag} {mg : Str → Option Value} {base : Heap} {x qual : Str} {st : Stmt} {f : Addr} {fd : FuncData} {N ps : List Str} {k : Nat} {sp : Sp} (F : Fun K x qual st f fd) (S : FnScope N ps (defScope st)) (len : ∀ vs H Q E, sp vs H Q E → vs.length = ps.length)
    (hbody : ∀ (cdv : Value) (A : Around) (outer : List Env) (s : Shared) (H : Hp) (vs : List V) (Q : VK) (E : XK), Room k (A.deeper (envOfC qual (defScope st) s.heap.objs.size f cdv)) → sp vs H Q E →
      ∃ t, StGs (cxOf CX0 P w K mg base N qual (defScope st) f cdv A outer s H E).nox (defBody st) t ∧ t { nx := fun _ H' => Q .non H', rt := Q } (start N vs) H) : FnS P w K mg base CX0 (k + 1) f fd ps sp := by
  obtain ⟨oc, od, kV, doc, pm, an, cdv, ct, osl, rfl, lk, hcd⟩ := F.ex
  refine ⟨len, fun A outer s H args us vs Q E hr e0 hb r hsp => ?_⟩
  have kx : K.In s.heap := e0.mod.kin.keeps fun b o e => (e0.bs b o e).1
  have kind : ∀ y ∈ ps.zip us, (defScope st).names.lookup y.1 = some .local ∨ ((defScope st).names.lookup y.1 = some .cell ∧ ((cellsFrom (s.heap.objs.size + 1) (defScope st).names []).lookup y.1).isSome = true) := fun ⟨n, v⟩ hy =>
    (S.par n (List.of_mem_zip hy).1).imp id fun q => ⟨q, PySem.W.cellsFrom_some _ _ _ (.inl q)⟩
  refine codeAny_call_function hr.depth (kx _ _ lk) rfl S.co S.gen rfl (PySem.W.codeRec_of kx hcd) (hb _ _ _ _ (wpAny_newFunctionEnv_cells S.kind kind fun env he s1 ic => ?_))
  subst he
  obtain ⟨t, ht, hq⟩ := hbody cdv A outer s H vs Q E (hr.deeper _) hsp
  have I := inv_start (CX := CX0) (E := E) S hr.hd e0 (len _ _ _ _ hsp) r ic
  obtain ⟨h1, tk, es, _⟩ := ic.done
  have g0 : s1.gens = s.gens := by rw [es]
  refine ⟨(e0.mod.nolimit.keeps fun b o e => (e0.bs b o e).1).keeps ic.toInCall.keep, codeAny_func (wpAny_mono (ht.go (I.wish _) hq) (fun fl s' hs => ?_) fun e s' hs => False.elim hs)⟩
  obtain ⟨hs, g⟩ := hs
  match fl, hs with
  | .ret u, ⟨v, σ', H', J, rv, q⟩ => exact ⟨⟨v, H', J.unwish.os, J.unwish.bare, J.unwish.base, J.unwish.hok, rv, q⟩, g.trans g0⟩
  | .next, ⟨σ', H', J, q⟩ => exact ⟨⟨.non, H', J.unwish.os, J.unwish.bare, J.unwish.base, J.unwish.hok, rfl, q⟩, g.trans g0⟩
  | .brk, ⟨_, _, _, q⟩ => exact q.elim
  | .cont, ⟨_, _, _, q⟩ => exact q.elim
end Mc
namespace Mc
open PySem PySem.Spec PyProof.Rows L2 Evl GenW GenFz
/-- a statement, then a loop whose body hands a name out: the first item leaves the others alone -/
theorem hush_loop {F : GFam} {ps : List Str} (ok : F.Ok ps) {st1 : Stmt} {test : Expr} {y : Str} {p1 yp pos wpos : Pos} {rest after : List Stmt} {j : Nat} {fo : Obj} {m : Str → Option Value} {σ : L2.St} {own : List (Addr × Obj)} {q : Addr} {oq : Obj} {sn : Shared} (hi : interactive F.env = false) (hL : own = [(F.L, fo)]) (hLn : F.Hb F.L = none) (ns : ∀ h : Heap, h.get? F.L = some fo → h.Ns F.L m)
    (vars : ∀ (i : Nat) (x : Str) (v : V), F.N[i]? = some x → σ[i]? = some (some v) → Vis F.scope x → ∃ u, L2.RelV v u ∧ F.scope.names.lookup x = some .local ∧ m x = some u) (len : σ.length = F.N.length)
    (h1 : ∀ s0 H0 H s, Inv (F.X s0 H0) [] σ H s → Ex F.Hb H → wpAny (model F.P F.w) (F.X s0 H0).A (exec st1 (F.X s0 H0).env) (fun fl s' => fl = .next ∧ s'.gens = s.gens ∧ ∃ H', Inv (F.X s0 H0) [] σ H' s') (fun _ _ => False) s)
    (ht : ∀ s0 H0, GT (F.X s0 H0).nox test (tB (tC (.bl true))))
    (hj : F.N[j]? = some y) (hv : Vis F.scope y) {v : V} (h2 : σ[j]? = some (some v)) (hd : (y == ("__debug__" : Str)) = false := by decide) (hcd : (y == ("__classdict__" : Str)) = false := by decide) :
    ∀ s', s'.os = sn.os → F.Wk own q oq sn s' → (GenState.fresh (.func (st1 :: .While test (.Expr (.Yield (some (.Name y p1)) yp) pos :: rest) [] wpos :: after) F.env)).Goes (model F.P F.w) F.A (fun _ s0 r s1 => ((r = .ok (.ret .none) ∨ r = .ok .next) ∧ s1.gens = s0.gens) ∨ ∃ e : Value, r = .error e ∧ False) (fun _ s0 _ s1 _ => s1.gens = s0.gens) 1 (.send .none) s' := fun s' _ W => by
  subst hL
  obtain ⟨ys, I⟩ := F.woken ok (es := []) (ip := []) W List.mem_cons_self hLn (fun p hp => by simp at hp) (fun e he => by simp at he) ns vars len
  obtain ⟨H0, l, e0, cv, inv⟩ := I.main
  have lt := I.lt
  refine ⟨rfl, seg_func (seg_execs_cons (seg_wrap ?_))⟩
  rw [over_func, ← F.A_at H0 lt, ← F.env_at H0 lt]
  refine wpAny_mono (h1 s' H0 _ s' inv I.ex) (fun fl s2 h => ?_) fun _ _ z => z.elim
  obtain ⟨rfl, g2, H', inv2⟩ := h
  rw [F.env_at H0 lt]
  have g0 : GNC F (.func (st1 :: .While test (.Expr (.Yield (some (.Name y p1)) yp) pos :: rest) [] wpos :: after) F.env) [] id := ⟨over_func, rfl, rfl, rfl⟩
  refine seg_execs_cons (seg_While fun p => seg_whileLoop ?_)
  rw [(gnc_loop g0 rfl rfl).over, ← F.A_at H0 lt, ← F.env_at H0 lt]
  refine wpAny_mono ((ht s' H0).go (Q := fun b _ => b = true) (inv2.wish _) ⟨true, rfl, rfl⟩) (fun b s3 h3 => ?_) fun e s3 hx => False.elim hx
  obtain ⟨⟨H3, inv3, rfl⟩, g3⟩ := h3
  rw [if_pos rfl, F.env_at H0 lt]
  refine seg_execs_cons (seg_Expr_Yield ?_ ?_ ?_ ?_ ok.S.co hi)
  · rfl
  · rfl
  · rfl
  rw [(gnc_loop g0 rfl rfl).over, ← F.A_at H0 lt, ← F.env_at H0 lt]
  exact name_same inv3.unwish hj hv h2 (fun u _ => fun kap _ => g3.trans g2) hd hcd
theorem ge_bl {X : Cx} {b : Bool} {j pos} : GE X (.Constant (.bool b) j pos) (tC (.bl b)) := ⟨fun {pins s σ H Q} I q => Constant_bool ⟨⟨.bl b, H, I, rfl, q⟩, rfl⟩⟩
end Mc
namespace GenFz
open PySem
open Sem (wp)
/-! ### zip(range(..), g1, g2) -/
section
variable {P : Program} {w : World} {A : Around} {E : Value → Shared → Prop} {s : Shared}
theorem nextOf_range {it : Addr} {x left step : Int} {Q : Value → Shared → Prop} (hit : IsRangeIter s.heap it x left step) (hleft : 0 < left)
    (hQ : ∀ h', IsRangeIter h' it (x + step) (left - 1) step → Heap.SameBut it s.heap h' → Q (.int x s.toks) { s with heap := h', toks := s.toks + 1 }) : wpAny (model P w) A (Builtin.SmallTypes.nextOf (.ref it)) Q E s := by
  have ty : s.TypeIs (.ref it) "range_iterator" := ⟨_, hit, rfl⟩
  unfold Builtin.SmallTypes.nextOf
  refine wpAny_bind (wpAny_callSpecial?_slot (name := Str.ofString "__next__") ty F.slot_range_iterator_next (call_meets F.slot_range_iterator_next ty F.entry_range_iterator_next (F.args_range_iterator_next_1 _) (AutoRange.range_iterator___next___range_iterator_1 it x left step (by omega)) ⟨hit, ?_⟩))
  exact wpAny_pure (hQ _ (Heap.get?_update_self _ (Heap.get?_update_self _ hit rfl) rfl) ((Heap.SameBut.update ..).trans (Heap.SameBut.update ..)))
theorem nextOf_range_end {it : Addr} {x left step : Int} {Q : Value → Shared → Prop} (hh : A.handled = none) (hit : IsRangeIter s.heap it x left step) (hleft : left ≤ 0)
    (hE : ∀ h' e, (∀ b o, s.heap.get? b = some o → h'.get? b = some o) → StopAt e h' → E e { s with heap := h' }) : wpAny (model P w) A (Builtin.SmallTypes.nextOf (.ref it)) Q E s := by
  have ty : s.TypeIs (.ref it) "range_iterator" := ⟨_, hit, rfl⟩
  unfold Builtin.SmallTypes.nextOf
  refine wpAny_bind (wpAny_callSpecial?_slot (name := Str.ofString "__next__") ty F.slot_range_iterator_next (wpAny_call_entry F.slot_range_iterator_next ty F.entry_range_iterator_next ?_ (F.args_range_iterator_next_1 _)))
  show wpAny _ _ (field (.ref it) 0 >>= _) _ _ s
  refine wpAny_bind (wpAny_field hit rfl (x := rawInt x) rfl ?_)
  show wpAny _ _ (field (.ref it) 1 >>= _) _ _ s
  refine wpAny_bind (wpAny_field hit rfl (x := rawInt left) rfl ?_)
  show wpAny _ _ (field (.ref it) 2 >>= _) _ _ s
  refine wpAny_bind (wpAny_field hit rfl (x := rawInt step) rfl ?_)
  show wpAny _ _ (if left ≤ 0 then _ else _) _ _ s
  rw [if_pos hleft]
  refine wpAny_bind (wpAny_rule (wpAny_bind ?_))
  show wpAny _ _ (newExc (.type "StopIteration") [] >>= _) _ _ _
  refine wpAny_bind ?_
  simp only [newExc, newTuple]
  refine wpAny_bind (wpAny_newObj_type ?_ (by size_fits))
  refine wpAny_bind (m := firstArgMember _ _) (wpAny_of_eq (a := Value.none) (by first | rfl | (simp only [firstArgMember]; rfl)) ?_)
  refine wpAny_newObj_type ?_ (by size_fits)
  simp only [raiseNew]
  refine wpAny_bind (wpAny_handled ?_)
  first | rw [show A.in1.handled = none from hh] | rw [hh]
  refine wpAny_bind (wpAny_pure (wpAny_throw ?_))
  exact hE _ _ (fun b o hb => Heap.get?_push_of_some _ (Heap.get?_push_of_some _ hb)) ⟨_, _, rfl, Heap.get?_push_size _ rfl, rfl⟩
abbrev tObj (x y u : Value) : Obj := { cls := .type "tuple", data := .seq #[x, y, u] }
abbrev Trip (h : Heap) (T : Addr) (x y u : Value) : Prop := h.get? T = some (tObj x y u)
theorem upd_three {T : Addr} {a b c x : Value} {k : Nat} {Q : Unit → Shared → Prop} (hT : Trip s.heap T a b c)
    (h : ∀ h', h'.get? T = some { cls := .type "tuple", data := .seq ((#[a, b, c] : Array Value).setIfInBounds k x) } → Heap.SameBut T s.heap h' → Q () { s with heap := h' }) : wpAny (model P w) A (updateSeq T (·.setIfInBounds k x)) Q E s := by
  refine wpAny_updateSeq hT rfl (h _ ?_ (Heap.SameBut.update ..))
  rw [Heap.get?_update_self _ hT rfl]
  simp [Obj.mapSeq]
/-- the records of zip of three iterators -/
structure ZipRec3 (h : Heap) (z TI TO i0 i1 i2 : Addr) (a b c : Value) : Prop where
  hz : IsZip h z TI TO .none
  hTI : Trip h TI (.ref i0) (.ref i1) (.ref i2)
  hTO : Trip h TO a b c
  zI : TI ≠ z
  zO : TO ≠ z
  IO : TI ≠ TO
/-- next(zip(i0, i1, i2)), by what its iterators do; the first may end -/
theorem pyNext_zip3G {z TI TO i0 i1 i2 : Addr} {a b c : Value} {Q : Option Value → Shared → Prop} (hh : A.handled = none) (D : ZipRec3 s.heap z TI TO i0 i1 i2 a b c)
    (h : ∀ h1, IsZip h1 z TI TO .ellipsis → Heap.SameBut z s.heap h1 → wpAny (model P w) A.in1 (Builtin.SmallTypes.nextOf (.ref i0)) (fun x s2 => Trip s2.heap TO a b c ∧ ∀ h3, Trip h3 TO x b c → Heap.SameBut TO s2.heap h3 →
        wpAny (model P w) A.in1 (Builtin.SmallTypes.nextOf (.ref i1)) (fun y s4 => Trip s4.heap TO x b c ∧ ∀ h5, Trip h5 TO x y c → Heap.SameBut TO s4.heap h5 →
          wpAny (model P w) A.in1 (Builtin.SmallTypes.nextOf (.ref i2)) (fun u s6 => Trip s6.heap TO x y c ∧ IsZip s6.heap z TI TO .ellipsis ∧ ∀ h8, IsZip h8 z TI TO (rawInt s6.heap.objs.size) → Trip h8 TO x y u → Trip h8 s6.heap.objs.size x y u → h8.objs.size = s6.heap.objs.size + 1 →
            (∀ c o, c ≠ z → c ≠ TO → s6.heap.get? c = some o → h8.get? c = some o) → Q (some (.ref s6.heap.objs.size)) { s6 with heap := h8 }) (fun _ _ => False) { s4 with heap := h5 }) (fun _ _ => False) { s2 with heap := h3 })
      (fun e s2 => IsZip s2.heap z TI TO .ellipsis ∧ StopAt e s2.heap ∧ ∀ h5, (∀ c o, c ≠ z → s2.heap.get? c = some o → h5.get? c = some o) → Q none { s2 with heap := h5 }) { s with heap := h1 }) :
    wpAny (model P w) A (pyNext (.ref z)) Q E s := by
  obtain ⟨hz, hTI, hTO, D1, D2, D3⟩ := D
  have hT : s.TypeIs (.ref z) "zip" := ⟨_, hz, rfl⟩
  have stop : ∀ (e : Value) (s5 : Shared), (IsZip s5.heap z TI TO .ellipsis ∧ StopAt e s5.heap ∧ ∀ h5, (∀ c o, c ≠ z → s5.heap.get? c = some o → h5.get? c = some o) → Q none { s5 with heap := h5 }) →
      wpAny (model P w) A.in1 (setField (.ref z) 0 .none) (fun _ s6 => wpAny (model P w) A (isInstance e (.type "StopIteration")) (fun b s7 => wpAny (model P w) A (if b = true then pure none else throw e : Sem (Option Value)) Q E s7) E s6) (fun _ _ => False) s5 := fun e s5 ⟨hz5, ⟨ea, oe, ee, hoe, hce⟩, q5⟩ => by
    subst ee
    have hez : ea ≠ z := fun x => by subst x; rw [hz5] at hoe; cases hoe; simp at hce
    refine wpAny_setField_rec hz5 (by simp) fun h6 _ hs6 => ?_
    refine wpAny_isInstance (T := "StopIteration") (b := true) ⟨oe, hs6.extBut _ _ hez hoe, hce⟩ isSubtype_stop ?_
    exact wpAny_pure (q5 h6 fun c o c1 x => hs6.extBut _ _ c1 x)
  unfold pyNext
  refine wpAny_bind (wpAny_attempt (wpAny_callSpecial?_slot (name := Str.ofString "__next__") hT F.slot_zip_next (wpAny_call_entry F.slot_zip_next hT F.entry_zip_next ?_ (F.args_zip_next_1 _))))
  show wpAny _ A.in1 (field (.ref z) 2 >>= _) _ _ _
  refine wpAny_bind (wpAny_field hz rfl (x := .bool false) rfl ?_)
  show wpAny _ _ (field (.ref z) 3 >>= _) _ _ _
  refine wpAny_bind (wpAny_field hz rfl (x := .ref TI) rfl (wpAny_bind (wpAny_seqItems hTI rfl ?_)))
  show wpAny _ _ (Builtin.SmallTypes.ownedTupleIsFree (.ref z) >>= _) _ _ _
  refine wpAny_bind ?_
  unfold Builtin.SmallTypes.ownedTupleIsFree
  refine wpAny_bind (wpAny_field hz rfl (x := .none) rfl (wpAny_pure ?_))
  simp only [if_true]
  refine wpAny_bind (wpAny_rule (wpAny_bind (wpAny_field hz rfl (x := .ref TO) rfl (wpAny_bind (wpAny_setField_rec hz (by simp) fun h1 hz1 hs1 => ?_)))))
  replace hz1 : IsZip h1 z TI TO .ellipsis := hz1
  refine wpAny_bind ?_
  simp only [List.zipIdx_cons, List.zipIdx_nil, List.forIn_cons, List.forIn_nil]
  refine wpAny_bind (wpAny_bind (wpAny_onRaise ?_))
  show wpAny _ _ (Builtin.SmallTypes.nextOf (.ref i0) >>= _) _ _ _
  refine wpAny_bind (wpAny_mono (h h1 hz1 hs1) (fun x s2 ⟨hTO2, k2⟩ => wpAny_pure ?_) fun e s2 he => ?_)
  · refine wpAny_bind (wpAny_seqItems hTO2 rfl (wpAny_bind (upd_three hTO2 fun h3 hTO3 hs3 => ?_)))
    replace hTO3 : Trip h3 TO x b c := hTO3
    refine wpAny_bind (wpAny_letGo (wpAny_pure ?_))
    refine wpAny_bind (wpAny_bind (wpAny_onRaise ?_))
    show wpAny _ _ (Builtin.SmallTypes.nextOf (.ref i1) >>= _) _ _ _
    refine wpAny_bind (wpAny_mono (k2 h3 hTO3 hs3) (fun y s4 ⟨hTO4, k4⟩ => wpAny_pure ?_) fun e s4 he => False.elim he)
    refine wpAny_bind (wpAny_seqItems hTO4 rfl (wpAny_bind (upd_three hTO4 fun h5 hTO5 hs5 => ?_)))
    replace hTO5 : Trip h5 TO x y c := hTO5
    refine wpAny_bind (wpAny_letGo (wpAny_pure ?_))
    refine wpAny_bind (wpAny_bind (wpAny_onRaise ?_))
    show wpAny _ _ (Builtin.SmallTypes.nextOf (.ref i2) >>= _) _ _ _
    refine wpAny_bind (wpAny_mono (k4 h5 hTO5 hs5) (fun u s6 ⟨hTO6, hz6, k6⟩ => wpAny_pure ?_) fun e s6 he => False.elim he)
    refine wpAny_bind (wpAny_seqItems hTO6 rfl (wpAny_bind (upd_three hTO6 fun h7 hTO7 hs7 => ?_)))
    replace hTO7 : Trip h7 TO x y u := hTO7
    refine wpAny_bind (wpAny_letGo (wpAny_pure (wpAny_pure ?_)))
    refine wpAny_bind (wpAny_seqItems hTO7 rfl (wpAny_bind (wpAny_newTuple ?_)))
    have hz7 : IsZip h7 z TI TO .ellipsis := hs7.extBut _ _ D2.symm hz6
    have hsz : h7.objs.size = s6.heap.objs.size := hs7.1
    have hzl : z < h7.objs.size := Heap.lt_size hz7
    show wpAny _ _ (Builtin.SmallTypes.ownedTupleHandOut (.ref z) (.ref h7.objs.size) >>= _) _ _ _
    refine wpAny_bind ?_
    unfold Builtin.SmallTypes.ownedTupleHandOut
    have hz8 : IsZip (h7.push { cls := .type "tuple", data := .seq #[x, y, u] }) z TI TO .ellipsis := Heap.get?_push_of_some _ hz7
    refine wpAny_bind (wpAny_setField_rec hz8 (by simp) fun h9 hz9 hs9 => ?_)
    replace hz9 : IsZip h9 z TI TO (rawInt h7.objs.size) := hz9
    refine wpAny_setField_rec hz9 (by simp) fun ha hza hsa => ?_
    replace hza : IsZip ha z TI TO (rawInt h7.objs.size) := hza
    have up : ∀ c o, c ≠ z → h7.get? c = some o → ha.get? c = some o := fun c o c1 e => hsa.extBut _ _ c1 (hs9.extBut _ _ c1 (Heap.get?_push_of_some _ e))
    have hTa : Trip ha h7.objs.size x y u := hsa.extBut _ _ (Nat.ne_of_gt hzl) (hs9.extBut _ _ (Nat.ne_of_gt hzl) (Heap.get?_push_size _ rfl))
    have sza : ha.objs.size = h7.objs.size + 1 := by rw [hsa.1, hs9.1, Heap.size_push]
    refine wpAny_pure ⟨_, rfl, wpAny_pure ?_⟩
    rw [hsz] at hza hTa sza
    show Q (some (.ref h7.objs.size)) _
    rw [hsz]
    exact k6 ha hza (up _ _ D2 hTO7) hTa sza fun c o c1 c2 e => up c o c1 (hs7.extBut _ _ c2 e)
  · exact wpAny_mono (stop e s2 he) (fun _ s6 h6 => wpAny_bind h6) fun _ _ z => z.elim
end
abbrev rObj (x left step : Int) : Obj := { cls := .type "range_iterator", dict := none, data := .fields #[rawInt x, rawInt left, rawInt step], slots := #[] }
abbrev y3R (h : Heap) (a b c : Int) : Heap := h.push { cls := .type "range_iterator", data := .fields #[rawInt a, rawInt (Builtin.Range.rangeSize a b c), rawInt c] }
abbrev y3I (h : Heap) (a b c : Int) (a1 a2 : Addr) : Heap := (y3R h a b c).push { cls := .type "tuple", data := .seq #[.ref h.objs.size, .ref a1, .ref a2] }
abbrev y3O (h : Heap) (a b c : Int) (a1 a2 : Addr) : Heap := (y3I h a b c a1 a2).push { cls := .type "tuple", data := .seq #[.none, .none, .none] }
abbrev y3Z (h : Heap) (a b c : Int) (a1 a2 : Addr) : Heap := (y3O h a b c a1 a2).push { cls := .type "zip", data := .fields #[.none, .bool false, .bool false, .ref (y3R h a b c).objs.size, .ref (y3I h a b c a1 a2).objs.size] }
theorem meets_zip3G (r a1 a2 : Addr) (g1 g2 : Nat) (a b c : Int) (t u v : Tok) (small : Builtin.Range.small a b c = true) :
    Meets (Builtin.«zip.__new__» ⟨[.type "zip", .ref r, .ref a1, .ref a2], []⟩) (fun _ R s => (IsRange s.heap r a b c t u v ∧ s.heap.IsGen a1 g1 ∧ s.heap.IsGen a2 g2) ∧ R (.ok (.ret (.ref (y3O s.heap a b c a1 a2).objs.size))) { s with heap := y3Z s.heap a b c a1 a2 }) :=
  .of_wp fun prog w A R s h => by
    obtain ⟨hp, g, d, tk, os⟩ := s
    obtain ⟨⟨hr, hl1, hl2⟩, h⟩ := h
    have hsub := sub_zip
    have up : ∀ (x : Addr) (k : Nat), hp.IsGen x k → (y3R hp a b c).IsGen x k := fun x k ⟨o, n1, n2, e, z⟩ => ⟨o, n1, n2, Heap.get?_push_of_some _ e, z⟩
    have e1 : Heap.IsGen (Shared.heap ⟨y3R hp a b c, g, d, tk, os⟩) a1 g1 := up _ _ hl1
    have e2 : Heap.IsGen (Shared.heap ⟨y3R hp a b c, g, d, tk, os⟩) a2 g2 := up _ _ hl2
    have q0 : ∀ {A' : Around} {E : Value → Shared → Prop} {Q : Value → Shared → Prop}, Q (.ref hp.objs.size) ⟨y3R hp a b c, g, d, tk, os⟩ → wpAny (model prog w) A' (pyIter (.ref r)) Q E ⟨hp, g, d, tk, os⟩ := fun q => wpAny_pyIter_range (s := ⟨hp, g, d, tk, os⟩) hr small q
    wp_walk using q0, wpAny_pyIter_gen e1, wpAny_pyIter_gen e2
    exact ⟨_, rfl, h⟩
theorem call_zip3G {P : Program} {w : World} {A : Around} {E : Value → Shared → Prop} {s : Shared} {r a1 a2 : Addr} {g1 g2 : Nat} {a b c : Int} {t u v : Tok} {Q : Value → Shared → Prop} (small : Builtin.Range.small a b c = true) (hr : IsRange s.heap r a b c t u v) (h1 : s.heap.IsGen a1 g1) (h2 : s.heap.IsGen a2 g2)
    (h : ∀ h', ZipRec3 h' (s.heap.objs.size + 3) (s.heap.objs.size + 1) (s.heap.objs.size + 2) s.heap.objs.size a1 a2 .none .none .none → IsRangeIter h' s.heap.objs.size a (Builtin.Range.rangeSize a b c) c → h'.objs.size = s.heap.objs.size + 4 → (∀ x o, s.heap.get? x = some o → h'.get? x = some o) → Q (.ref (s.heap.objs.size + 3)) { s with heap := h' }) :
    wpAny (model P w) A (call (.type "zip") [.ref r, .ref a1, .ref a2]) Q E s := by
  refine callType_new F.called_zip (by decide) (F.typeCall_zip_3 _ _ _) (F.newCall_zip_3 _ _ _) (fun obj => F.args_object_init_4 obj _ _ _) F.entry_zip_new (meets_zip3G r a1 a2 g1 g2 a b c t u v small) ⟨⟨hr, h1, h2⟩, ?_⟩
  have z0 : (y3R s.heap a b c).objs.size = s.heap.objs.size + 1 := Heap.size_push ..
  have z1 : (y3I s.heap a b c a1 a2).objs.size = s.heap.objs.size + 2 := by rw [Heap.size_push, z0]
  have z2 : (y3O s.heap a b c a1 a2).objs.size = s.heap.objs.size + 3 := by rw [Heap.size_push, z1]
  have z3 : (y3Z s.heap a b c a1 a2).objs.size = s.heap.objs.size + 4 := by rw [Heap.size_push, z2]
  have q3 : (y3Z s.heap a b c a1 a2).get? (y3O s.heap a b c a1 a2).objs.size = some _ := Heap.get?_push_size _ rfl
  have q2 : (y3Z s.heap a b c a1 a2).get? (y3I s.heap a b c a1 a2).objs.size = some _ := Heap.get?_push_of_some _ (Heap.get?_push_size _ rfl)
  have q1 : (y3Z s.heap a b c a1 a2).get? (y3R s.heap a b c).objs.size = some _ := Heap.get?_push_of_some _ (Heap.get?_push_of_some _ (Heap.get?_push_size _ rfl))
  have q0 : (y3Z s.heap a b c a1 a2).get? s.heap.objs.size = some _ := Heap.get?_push_of_some _ (Heap.get?_push_of_some _ (Heap.get?_push_of_some _ (Heap.get?_push_size _ rfl)))
  have n3 : ∀ {i j : Nat}, i ≠ j → s.heap.objs.size + i ≠ s.heap.objs.size + j := fun n e => n (Nat.add_left_cancel e)
  show _ ∧ _
  rw [z0, z1, z2] at q3
  rw [z1] at q2
  rw [z0] at q1
  rw [z2]
  exact ⟨⟨_, q3, rfl⟩, h _ ⟨q3, q1, q2, n3 (by decide), n3 (by decide), n3 (by decide)⟩ q0 z3 fun x o e => Heap.get?_push_of_some _ (Heap.get?_push_of_some _ (Heap.get?_push_of_some _ (Heap.get?_push_of_some _ e)))⟩
end GenFz
namespace Mc
open PySem PySem.Spec PyProof.Rows L2 Evl GenW GenFz
/-! ### zip(range(..), g1, g2), turn by turn -/
def Off (b : Addr) (l : List (Addr × Obj)) : Prop := ∀ p ∈ l, p.1 ≠ b
theorem off_nil {b : Addr} : Off b [] := fun p h => by simp at h
theorem off_cons {b : Addr} {x : Addr × Obj} {l : List (Addr × Obj)} (h : x.1 ≠ b) (t : Off b l) : Off b (x :: l) := fun p hp => by
  rcases List.mem_cons.mp hp with e | e
  · rw [e]; exact h
  · exact t p e
theorem off_app {b : Addr} {l k : List (Addr × Obj)} (h : Off b l) (t : Off b k) : Off b (l ++ k) := fun p hp => (List.mem_append.mp hp).elim (h p) (t p)
def Offs (l k : List (Addr × Obj)) : Prop := ∀ p ∈ l, Off p.1 k
theorem offs_nil {k : List (Addr × Obj)} : Offs [] k := fun p h => by simp at h
theorem offs_cons {x : Addr × Obj} {l k : List (Addr × Obj)} (h : Off x.1 k) (t : Offs l k) : Offs (x :: l) k := fun p hp => by
  rcases List.mem_cons.mp hp with e | e
  · rw [e]; exact h
  · exact t p e
theorem Offs.apart {l k : List (Addr × Obj)} (h : Offs l k) : ∀ p ∈ l, ∀ o ∈ k, p.1 ≠ o.1 := fun p hp o ho e => h p hp o ho e.symm
theorem Offs.swap {l k : List (Addr × Obj)} (h : Offs l k) : Offs k l := fun p hp o ho e => h o ho p hp e.symm
/-- the six that are always there -/
def six (z TO TI i0 a1 a2 b : Addr) : Prop := b = z ∨ b = TO ∨ b = TI ∨ b = i0 ∨ b = a1 ∨ b = a2
structure ZFix3 (X : Cx) (F1 F2 : GFam) (ps1 ps2 : List Str) (z TI TO i0 a1 a2 : Addr) (o1 o2 : Obj) (g1 g2 : Nat) : Prop where
  ok1 : F1.Ok ps1
  ok2 : F2.Ok ps2
  fit1 : Stands F1 X X.A.in1
  fit2 : Stands F2 X X.A.in1
  hh : X.A.handled = none
  hd : X.A.in1.depth < recursionLimit
  gen1 : ∀ h : Heap, h.get? a1 = some o1 → h.IsGen a1 g1
  gen2 : ∀ h : Heap, h.get? a2 = some o2 → h.IsGen a2 g2
  gne : g1 ≠ g2
  O1 : F1.O = ghO g2
  O2 : F2.O = ghO g1
  pn : X.pn = []
  ex : ∀ b, b = z ∨ b = TO ∨ b = i0 ∨ b = F1.L ∨ b = F2.L → b ∈ X.ex ∨ X.s_0.heap.objs.size ≤ b
  cel : ∀ b, b = z ∨ b = TO ∨ b = i0 ∨ b = F1.L ∨ b = F2.L → ∀ x c, X.env.cells.lookup x = some c → c ≠ b
  nz : TO ≠ z ∧ TI ≠ z ∧ i0 ≠ z ∧ a1 ≠ z ∧ a2 ≠ z
  nO : TI ≠ TO ∧ i0 ≠ TO ∧ a1 ≠ TO ∧ a2 ≠ TO
  ni : TI ≠ i0 ∧ a1 ≠ i0 ∧ a2 ≠ i0
  nL : ∀ b, six z TO TI i0 a1 a2 b → b ≠ F1.L ∧ b ≠ F2.L
  LL : F1.L ≠ F2.L
abbrev zSix (TI TO z i0 a1 a2 : Addr) (ro o1 o2 : Obj) (f0 u x y : Value) : List (Addr × Obj) := [(z, zObj TI TO f0), (TO, tObj u x y), (i0, ro), (TI, tObj (.ref i0) (.ref a1) (.ref a2)), (a1, o1), (a2, o2)]
structure ZAt3 (X : Cx) (F1 F2 : GFam) (z TI TO i0 a1 a2 : Addr) (o1 o2 : Obj) (g1 g2 n : Nat) (H : Hp) (s : Shared) (pl : List (Addr × Obj)) : Prop where
  main : ∃ (own1 own2 : List (Addr × Obj)) (gs1 gs2 : GenState) (q1 q2 : Addr) (oq1 oq2 : Obj) (u x y : Value) (i : Int), pl = zSix TI TO z i0 a1 a2 (rObj i n 1) o1 o2 .none u x y ++ (own1 ++ own2) ∧ Rest X F1 g1 n gs1 own1 q1 oq1 H s ∧ Rest X F2 g2 n gs2 own2 q2 oq2 H s ∧
    Offs own1 own2 ∧ (∀ b, six z TO TI i0 a1 a2 b → Off b (own1 ++ own2)) ∧ ((Sus gs1 ∧ Sus gs2) ∨ ((∃ c, gs2 = .fresh c) ∧ (∀ p ∈ own2, p.1 = F2.L) ∧ ∃ sn : Shared, s.os = sn.os ∧ New F1 gs1 own1 q1 oq1 sn))
/-- what a consumer leaves alone between its turns -/
theorem ZAt3.keep {X : Cx} {F1 F2 : GFam} {z TI TO i0 a1 a2 : Addr} {o1 o2 : Obj} {g1 g2 n : Nat} {H H' : Hp} {s s' : Shared} {pl : List (Addr × Obj)} (Z : ZAt3 X F1 F2 z TI TO i0 a1 a2 o1 o2 g1 g2 n H s pl) (os : s'.os = s.os) (hb1 : Ex F1.Hb H') (hb2 : Ex F2.Hb H') (fz : ∀ b o u, H b = some (.frz o u) → H' b = some (.frz o u))
    (gs : s'.gens = s.gens ∨ ((∀ gs1, s.gens[g1]? = some gs1 → Sus gs1) ∧ ∀ (i : Nat) (x : GenState), s.gens[i]? = some x → Sus x → s'.gens[i]? = some x)) (two : ∀ gs1 gs2, s.gens[g1]? = some gs1 → s.gens[g2]? = some gs2 → Sus gs1 → Sus gs2) : ZAt3 X F1 F2 z TI TO i0 a1 a2 o1 o2 g1 g2 n H' s' pl := by
  obtain ⟨own1, own2, gs1, gs2, q1, q2, oq1, oq2, u, x, y, i, e, r1, r2, d1, d2, ph⟩ := Z.main
  have at1 : s'.gens[g1]? = some gs1 := by
    rcases gs with z | ⟨z1, z2⟩
    · rw [z]; exact r1.at_
    · exact z2 g1 gs1 r1.at_ (z1 gs1 r1.at_)
  have at2 : s'.gens[g2]? = some gs2 := by
    rcases gs with z | ⟨z1, z2⟩
    · rw [z]; exact r2.at_
    · exact z2 g2 gs2 r2.at_ (two gs1 gs2 r1.at_ r2.at_ (z1 gs1 r1.at_))
  refine ⟨own1, own2, gs1, gs2, q1, q2, oq1, oq2, u, x, y, i, e, ⟨at1, r1.cln, fun hn => ?_, fun hn => ?_, hb1, r1.adr, r1.frame⟩, ⟨at2, r2.cln, fun hn => ?_, fun hn => ?_, hb2, r2.adr, r2.frame⟩, d1, d2, ?_⟩
  · obtain ⟨t, a, b⟩ := r1.fut hn
    exact ⟨t, os.trans a, b⟩
  · obtain ⟨u, a⟩ := r1.item hn
    exact ⟨u, fz _ _ _ a⟩
  · obtain ⟨t, a, b⟩ := r2.fut hn
    exact ⟨t, os.trans a, b⟩
  · obtain ⟨u, a⟩ := r2.item hn
    exact ⟨u, fz _ _ _ a⟩
  · rcases ph with z | ⟨c, l, sn, a, b⟩
    · exact .inl z
    · exact .inr ⟨c, l, sn, os.trans a, b⟩
section
variable {X : Cx} {F1 F2 : GFam} {ps1 ps2 : List Str} {z TI TO i0 a1 a2 : Addr} {o1 o2 : Obj} {g1 g2 : Nat} {σ : L2.St} {H : Hp} {s : Shared} {pl : List (Addr × Obj)}
/-- the first item of one: another that has not begun stays so -/
theorem alone {F : GFam} {ps : List Str} (ok : F.Ok ps) (gne : g1 ≠ g2) {A : Around} (fit : Stands F X A) (hh : A.handled = none) (hd : A.depth < recursionLimit) {pl own : List (Addr × Obj)} {n : Nat} {gs1 gs2 : GenState} {q : Addr} {oq : Obj} {sn : Shared} (I : Inv X (pl ++ own) σ H s) (r : Rest X F g1 n gs1 own q oq H s) (at2 : s.gens[g2]? = some gs2) (isg : s.heap.IsGen a1 g1) (os : s.os = sn.os) (nw : New F gs1 own q oq sn) :
    wpAny (model X.prog X.w) A (Builtin.SmallTypes.nextOf (.ref a1)) (fun _ s2 => s2.gens[g2]? = some gs2) (fun _ _ => True) s := by
  have I0 : Inv X (pl ++ own) σ H (s.setGen g1 .running) := inv_gens I (allBare_setGen I.bare rfl)
  have W : F.Wk own q oq sn (s.setGen g1 .running) := by
    have e := I0.env0
    have bn : ∀ {b : Addr}, H b = none → F.Hb b = none := fun {b} n => by
      cases g : F.Hb b with
      | none => rfl
      | some u => rw [r.hb _ _ g] at n; cases n
    have ho : HOk F.P F.w H (s.setGen g1 .running).heap := by rw [fit.P, fit.w]; exact e.hok
    have fr : F.A.frames = some F.outer := by rw [fit.frames, fit.outer]; exact I.ok.frames
    refine ⟨⟨fr, by rw [fit.K, fit.mg, fit.base]; exact e.mod, fun b o z => by rw [fit.base] at z; exact ⟨(e.bs b o z).1, bn (e.bs b o z).2⟩, by rw [fit.base]; exact e.bsz, by rw [fit.base, fit.outer]; exact e.funs, fun b hb => by rw [fit.outer] at hb; exact bn (e.frf b hb), hok_sub ok r.hb ho, e.bare⟩, os, fun p hp => (I.pin p (List.mem_append_right _ (List.mem_append_right _ hp))).1, fun hq => ?_, fun p hp => .inl (nw.lone p hp)⟩
    obtain ⟨u, y⟩ := r.item hq
    exact (I.hok _ _ y).1
  have go := nw.hush (s.setGen g1 .running) os W
  rw [fit.P, fit.w, fit.A] at go
  refine wpAny_nextOf_gen (n := 1) (Fn := fun _ s0 s1 => s1.gens = s0.gens) (Y := fun _ s0 _ s1 _ => s1.gens = s0.gens) hh I.nolimit hd isg r.at_ go (fun v s2 gs' hb hsu hy => ?_) fun s2 hr h' e hk st => trivial
  have hy : s2.gens = (s.setGen g1 .running).gens := hy
  show (s2.gens.setIfInBounds g1 gs')[g2]? = some gs2
  rw [Array.getElem?_setIfInBounds_ne gne, hy]
  show (s.gens.setIfInBounds g1 .running)[g2]? = some gs2
  rw [Array.getElem?_setIfInBounds_ne gne]
  exact at2
theorem zip_turn3 (Z : ZFix3 X F1 F2 ps1 ps2 z TI TO i0 a1 a2 o1 o2 g1 g2) {m : Nat} (I : Inv X pl σ H s) (zt : ZAt3 X F1 F2 z TI TO i0 a1 a2 o1 o2 g1 g2 (m + 1) H s pl) {elts : List Expr} {kk : Nat} {tpos : Pos} {E : Value → Shared → Prop} :
    wpAny (model X.prog X.w) X.A (pyNext (.ref z)) (fun r s6 => ∃ u, r = some u ∧ wpAny (model X.prog X.w) X.A (letOwnedTupleGo (.Tuple elts kk tpos) (.ref z) u) (fun _ s7 => ∃ (T q1 q2 : Addr) (i : Int) (H' : Hp) (pl' : List (Addr × Obj)), u = .ref T ∧ Inv X pl' σ H' s7 ∧ ZAt3 X F1 F2 z TI TO i0 a1 a2 o1 o2 g1 g2 m H' s7 pl' ∧
      (∀ gs1, s7.gens[g1]? = some gs1 → Sus gs1) ∧ (∀ gs2, s7.gens[g2]? = some gs2 → Sus gs2) ∧ Ex H H' ∧ H' T = some (.tup [.int i, .ref q1, .ref q2]) ∧ Rd H' q1 (.tup (F1.it (F1.tot - (m + 1)))) ∧ Rd H' q2 (.tup (F2.it (F2.tot - (m + 1))))) E s6) E s := by
  obtain ⟨own1, own2, gs1, gs2, q1, q2, oq1, oq2, u, x, y, i, rfl, r1, r2, d1, d2, ph⟩ := zt.main
  obtain ⟨TOz, TIz, i0z, a1z, a2z⟩ := Z.nz
  obtain ⟨TIO, i0O, a1O, a2O⟩ := Z.nO
  obtain ⟨TIi, a1i, a2i⟩ := Z.ni
  have pin : ∀ p ∈ zSix TI TO z i0 a1 a2 (rObj i (m + 1 : Nat) 1) o1 o2 .none u x y ++ (own1 ++ own2), s.heap.get? p.1 = some p.2 := fun p hp => (I.pin p (List.mem_append_right _ hp)).1
  have hz : IsZip s.heap z TI TO .none := pin (z, _) (by simp)
  have hTO : Trip s.heap TO u x y := pin (TO, _) (by simp)
  have hTI : Trip s.heap TI (.ref i0) (.ref a1) (.ref a2) := pin (TI, _) (by simp)
  have s6z : six z TO TI i0 a1 a2 z := .inl rfl
  have s6O : six z TO TI i0 a1 a2 TO := .inr (.inl rfl)
  have s6I : six z TO TI i0 a1 a2 TI := .inr (.inr (.inl rfl))
  have s6i : six z TO TI i0 a1 a2 i0 := .inr (.inr (.inr (.inl rfl)))
  have s61 : six z TO TI i0 a1 a2 a1 := .inr (.inr (.inr (.inr (.inl rfl))))
  have s62 : six z TO TI i0 a1 a2 a2 := .inr (.inr (.inr (.inr (.inr rfl))))
  have da : ∀ {b}, six z TO TI i0 a1 a2 b → Off b own1 := fun hb o ho => d2 _ hb o (List.mem_append_left _ ho)
  have db : ∀ {b}, six z TO TI i0 a1 a2 b → Off b own2 := fun hb o ho => d2 _ hb o (List.mem_append_right _ ho)
  have osS : ∀ {pins : List (Addr × Obj)} {σ' : L2.St} {H' : Hp} {s' : Shared}, Inv X pins σ' H' s' → s'.os = s.os := fun I' => I'.os.trans I.os.symm
  have pnl : ∀ {b : Addr} {l : List (Addr × Obj)}, Off b l → ∀ p ∈ X.pn ++ l, p.1 ≠ b := fun h p hp => by
    rw [Z.pn] at hp
    exact h p (by simpa using hp)
  refine pyNext_zip3G Z.hh ⟨hz, hTI, hTO, TIz, TOz, TIO⟩ fun h1 hz1 hs1 => ?_
  -- the zip is busy
  have I1 : Inv X ((z, zObj TI TO .ellipsis) :: (TO, tObj u x y) :: (i0, rObj i (m + 1 : Nat) 1) :: (TI, tObj (.ref i0) (.ref a1) (.ref a2)) :: (a1, o1) :: (a2, o2) :: (own1 ++ own2)) σ H { s with heap := h1 } :=
    repin I (fun c v ne e => (hs1.2 c ne).trans e) hz1 (fun v e => nomatch e) (Z.ex z (.inl rfl)) (Z.cel z (.inl rfl)) (pnl (off_cons TOz (off_cons i0z (off_cons TIz (off_cons a1z (off_cons a2z (d2 z s6z)))))))
  -- the range's item
  refine nextOf_range (I1.pin (i0, rObj i (m + 1 : Nat) 1) (List.mem_append_right _ (by simp))).1 (by omega) fun h2 hr2 hs2 => ?_
  have hr2 : h2.get? i0 = some (rObj (i + 1) (m : Nat) 1) := by
    have e : ((m + 1 : Nat) : Int) - 1 = (m : Nat) := by omega
    rw [e] at hr2; exact hr2
  have I2' : Inv X ((i0, rObj (i + 1) (m : Nat) 1) :: (z, zObj TI TO .ellipsis) :: (TO, tObj u x y) :: (TI, tObj (.ref i0) (.ref a1) (.ref a2)) :: (a1, o1) :: (a2, o2) :: (own1 ++ own2)) σ H { s with heap := h2 } :=
    repin (s := { s with heap := h1 }) (o := rObj i (m + 1 : Nat) 1) (isub I1 fun p hp => by
      simp only [List.mem_append, List.mem_cons] at hp ⊢
      rcases hp with e | e | e | e | e | e | e <;> simp [e]) (fun c v ne e => (hs2.2 c ne).trans e) hr2 (fun v e => nomatch e) (Z.ex i0 (.inr (.inr (.inl rfl)))) (Z.cel i0 (.inr (.inr (.inl rfl)))) (pnl (off_cons i0z.symm (off_cons i0O.symm (off_cons TIi (off_cons a1i (off_cons a2i (d2 i0 s6i)))))))
  have I2 := I2'.tok (s.toks + 1)
  have pin2 : ∀ p ∈ (i0, rObj (i + 1) (m : Nat) 1) :: (z, zObj TI TO .ellipsis) :: (TO, tObj u x y) :: (TI, tObj (.ref i0) (.ref a1) (.ref a2)) :: (a1, o1) :: (a2, o2) :: (own1 ++ own2), h2.get? p.1 = some p.2 := fun p hp => (I2.pin p (List.mem_append_right _ hp)).1
  refine ⟨pin2 (TO, _) (by simp), fun h3 hTO3 hs3 => ?_⟩
  generalize hv0 : (Value.int i s.toks : Value) = v0 at hTO3
  have I3 : Inv X ((TO, tObj v0 x y) :: (i0, rObj (i + 1) (m : Nat) 1) :: (z, zObj TI TO .ellipsis) :: (TI, tObj (.ref i0) (.ref a1) (.ref a2)) :: (a1, o1) :: (a2, o2) :: (own1 ++ own2)) σ H { s with heap := h3, toks := s.toks + 1 } :=
    repin (s := { s with heap := h2, toks := s.toks + 1 }) (o := tObj u x y) (isub I2 fun p hp => by
      simp only [List.mem_append, List.mem_cons] at hp ⊢
      rcases hp with e | e | e | e | e | e | e <;> simp [e]) (fun c v ne e => (hs3.2 c ne).trans e) hTO3 (fun v e => nomatch e) (Z.ex TO (.inr (.inl rfl))) (Z.cel TO (.inr (.inl rfl))) (pnl (off_cons i0O (off_cons TOz.symm (off_cons TIO (off_cons a1O (off_cons a2O (d2 TO s6O)))))))
  have pin3 : ∀ p ∈ (TO, tObj v0 x y) :: (i0, rObj (i + 1) (m : Nat) 1) :: (z, zObj TI TO .ellipsis) :: (TI, tObj (.ref i0) (.ref a1) (.ref a2)) :: (a1, o1) :: (a2, o2) :: (own1 ++ own2), h3.get? p.1 = some p.2 := fun p hp => (I3.pin p (List.mem_append_right _ hp)).1
  have lt3 : ∀ p ∈ (TO, tObj v0 x y) :: (i0, rObj (i + 1) (m : Nat) 1) :: (z, zObj TI TO .ellipsis) :: (TI, tObj (.ref i0) (.ref a1) (.ref a2)) :: (a1, o1) :: (a2, o2) :: (own1 ++ own2), p.1 < h3.objs.size := fun p hp => Heap.lt_size (pin3 p hp)
  have J3 : Inv X (((TO, tObj v0 x y) :: (i0, rObj (i + 1) (m : Nat) 1) :: (z, zObj TI TO .ellipsis) :: (TI, tObj (.ref i0) (.ref a1) (.ref a2)) :: (a1, o1) :: (a2, o2) :: own2) ++ own1) σ H { s with heap := h3, toks := s.toks + 1 } := isub I3 fun p hp => by
    simp only [List.mem_append, List.mem_cons] at hp ⊢
    rcases hp with (e | e | e | e | e | e | e) | e <;> simp [e]
  have isg1 : ({ s with heap := h3, toks := s.toks + 1 } : Shared).heap.IsGen a1 g1 := Z.gen1 _ (pin3 (a1, o1) (by simp))
  have rr1 : Rest X F1 g1 (m + 1) gs1 own1 q1 oq1 H { s with heap := h3, toks := s.toks + 1 } := r1.later rfl r1.at_ (Ex.refl _)
  obtain ⟨gl1, wd1⟩ : ∃ gl, Word F1 g1 own1 gl { s with heap := h3, toks := s.toks + 1 } := by
    rcases ph with ⟨_, b⟩ | ⟨⟨c, e⟩, _, _, _, nw⟩
    · exact ⟨_, word_at (Ne.symm Z.gne) r2.at_ b Z.O1⟩
    · exact ⟨_, word_no (Ne.symm Z.gne) (e ▸ r2.at_) Z.O1 nw.lone⟩
  have turn1 := rest_next (σ := σ) (gl := gl1) Z.ok1 Z.fit1 Z.hh Z.hd Z.pn (Z.ex _ (.inr (.inr (.inr (.inl rfl))))) (Z.cel _ (.inr (.inr (.inr (.inl rfl))))) J3 rr1 isg1 (.inl (Nat.succ_pos m)) (Offs.apart (offs_cons (da s6O) (offs_cons (da s6i) (offs_cons (da s6z) (offs_cons (da s6I) (offs_cons (da s61) (offs_cons (da s62) d1.swap))))))) wd1
  have stays2 : wpAny (model X.prog X.w) X.A.in1 (Builtin.SmallTypes.nextOf (.ref a1)) (fun _ s2 => s2.gens[g2]? = some gs2) (fun _ _ => True) { s with heap := h3, toks := s.toks + 1 } := by
    rcases ph with ⟨_, b⟩ | ⟨_, _, sn, os, nw⟩
    · refine wpAny_mono turn1 (fun v s2 h => ?_) fun _ _ _ => trivial
      obtain ⟨_, _, _, _, _, _, _, _, _, h, _⟩ := h
      exact h g2 gs2 (Ne.symm Z.gne) b r2.at_
    · exact alone Z.ok1 Z.gne Z.fit1 Z.hh Z.hd J3 rr1 r2.at_ isg1 os nw
  refine wpAny_mono (wpAny_both turn1 stays2) (fun v1 s4 hv => ?_) fun e s2 he => absurd he.1.1 (Nat.succ_ne_zero m)
  obtain ⟨⟨m1, q1', oq1', own1', gs1', H1, rfl, e1, su1, _, J4, r1', ex1, rd1, ad1⟩, at2⟩ := hv
  obtain rfl : m1 = m := by omega
  have lt6 : ∀ {b}, six z TO TI i0 a1 a2 b → b < h3.objs.size := fun hb => by
    rcases hb with e | e | e | e | e | e <;> rw [e]
    · exact lt3 (z, zObj TI TO .ellipsis) (by simp)
    · exact lt3 (TO, tObj v0 x y) (by simp)
    · exact lt3 (TI, tObj (.ref i0) (.ref a1) (.ref a2)) (by simp)
    · exact lt3 (i0, rObj (i + 1) (m1 : Nat) 1) (by simp)
    · exact lt3 (a1, o1) (by simp)
    · exact lt3 (a2, o2) (by simp)
  have far1 : ∀ {b : Addr}, b < h3.objs.size → Off b own1 → b ≠ F1.L → Off b own1' := fun {b} lt no nL o ho e => by
    rcases ad1 o ho with (q | ⟨o', h', q⟩) | q
    · exact nL (e.symm.trans q)
    · exact no o' h' (q.trans e)
    · have q : h3.objs.size ≤ o.1 := q
      rw [e] at q
      exact absurd lt (Nat.not_lt_of_le q)
  have da' : ∀ {b}, six z TO TI i0 a1 a2 b → Off b own1' := fun {b} hb => far1 (lt6 hb) (da hb) (Z.nL b hb).1
  have d12' : Offs own2 own1' := fun o ho => by
    obtain ⟨fo, hfo⟩ := r1.frame
    exact far1 (lt3 o (by simp [ho])) (d1.swap o ho) (d1 (F1.L, fo) hfo o ho)
  have pin4 : ∀ p ∈ ((TO, tObj v0 x y) :: (i0, rObj (i + 1) (m1 : Nat) 1) :: (z, zObj TI TO .ellipsis) :: (TI, tObj (.ref i0) (.ref a1) (.ref a2)) :: (a1, o1) :: (a2, o2) :: own2) ++ own1', s4.heap.get? p.1 = some p.2 := fun p hp => (J4.pin p (List.mem_append_right _ hp)).1
  refine ⟨pin4 (TO, tObj v0 x y) (by simp), fun h5 hTO5 hs5 => ?_⟩
  have I5 : Inv X ((TO, tObj v0 (.ref q1') y) :: (i0, rObj (i + 1) (m1 : Nat) 1) :: (z, zObj TI TO .ellipsis) :: (TI, tObj (.ref i0) (.ref a1) (.ref a2)) :: (a1, o1) :: (a2, o2) :: (own2 ++ own1')) σ H1 { s4 with heap := h5 } :=
    repin (o := tObj v0 x y) (isub J4 fun p hp => by
      simp only [List.mem_append, List.mem_cons] at hp ⊢
      rcases hp with e | e | e | e | e | e | e | e <;> simp [e]) (fun c v ne e => (hs5.2 c ne).trans e) hTO5 (fun v e => nomatch e) (Z.ex TO (.inr (.inl rfl))) (Z.cel TO (.inr (.inl rfl))) (pnl (off_cons i0O (off_cons TOz.symm (off_cons TIO (off_cons a1O (off_cons a2O (off_app (db s6O) (da' s6O))))))))
  have J5 : Inv X (((TO, tObj v0 (.ref q1') y) :: (i0, rObj (i + 1) (m1 : Nat) 1) :: (z, zObj TI TO .ellipsis) :: (TI, tObj (.ref i0) (.ref a1) (.ref a2)) :: (a1, o1) :: (a2, o2) :: own1') ++ own2) σ H1 { s4 with heap := h5 } := isub I5 fun p hp => by
    simp only [List.mem_append, List.mem_cons] at hp ⊢
    rcases hp with (e | e | e | e | e | e | e) | e <;> simp [e]
  have pin5 : ∀ p ∈ ((TO, tObj v0 (.ref q1') y) :: (i0, rObj (i + 1) (m1 : Nat) 1) :: (z, zObj TI TO .ellipsis) :: (TI, tObj (.ref i0) (.ref a1) (.ref a2)) :: (a1, o1) :: (a2, o2) :: own1') ++ own2, h5.get? p.1 = some p.2 := fun p hp => (J5.pin p (List.mem_append_right _ hp)).1
  have lt5 : ∀ p ∈ ((TO, tObj v0 (.ref q1') y) :: (i0, rObj (i + 1) (m1 : Nat) 1) :: (z, zObj TI TO .ellipsis) :: (TI, tObj (.ref i0) (.ref a1) (.ref a2)) :: (a1, o1) :: (a2, o2) :: own1') ++ own2, p.1 < h5.objs.size := fun p hp => Heap.lt_size (pin5 p hp)
  have isg2 : ({ s4 with heap := h5 } : Shared).heap.IsGen a2 g2 := Z.gen2 _ (pin5 (a2, o2) (by simp))
  have r2' : Rest X F2 g2 (m1 + 1) gs2 own2 q2 oq2 H1 { s4 with heap := h5 } := r2.later (s' := { s4 with heap := h5 }) (show s4.os = s.os from osS J4) at2 ex1
  have turn2 := rest_next (σ := σ) Z.ok2 Z.fit2 Z.hh Z.hd Z.pn (Z.ex _ (.inr (.inr (.inr (.inr rfl))))) (Z.cel _ (.inr (.inr (.inr (.inr rfl))))) J5 r2' isg2 (.inl (Nat.succ_pos m1)) (Offs.apart (offs_cons (db s6O) (offs_cons (db s6i) (offs_cons (db s6z) (offs_cons (db s6I) (offs_cons (db s61) (offs_cons (db s62) d12'.swap))))))) (word_at (own := own2) (s := { s4 with heap := h5 }) Z.gne r1'.at_ su1 Z.O2)
  refine wpAny_mono turn2 (fun v2 s6 hv => ?_) fun e s4 he => absurd he.1 (Nat.succ_ne_zero m1)
  obtain ⟨m2, q2', oq2', own2', gs2', H2, rfl, e2, su2, keep2, J6, r2'', ex2, rd2, ad2⟩ := hv
  obtain rfl : m2 = m1 := by omega
  have lt6b : ∀ {b}, six z TO TI i0 a1 a2 b → b < h5.objs.size := fun hb => by
    rcases hb with e | e | e | e | e | e <;> rw [e]
    · exact lt5 (z, zObj TI TO .ellipsis) (by simp)
    · exact lt5 (TO, tObj v0 (.ref q1') y) (by simp)
    · exact lt5 (TI, tObj (.ref i0) (.ref a1) (.ref a2)) (by simp)
    · exact lt5 (i0, rObj (i + 1) (m2 : Nat) 1) (by simp)
    · exact lt5 (a1, o1) (by simp)
    · exact lt5 (a2, o2) (by simp)
  have far2 : ∀ {b : Addr}, b < h5.objs.size → Off b own2 → b ≠ F2.L → Off b own2' := fun {b} lt no nL o ho e => by
    rcases ad2 o ho with (q | ⟨o', h', q⟩) | q
    · exact nL (e.symm.trans q)
    · exact no o' h' (q.trans e)
    · have q : h5.objs.size ≤ o.1 := q
      rw [e] at q
      exact absurd lt (Nat.not_lt_of_le q)
  have db' : ∀ {b}, six z TO TI i0 a1 a2 b → Off b own2' := fun {b} hb => far2 (lt6b hb) (db hb) (Z.nL b hb).2
  have d3' : Offs own1' own2' := fun o ho => by
    obtain ⟨fo, hfo⟩ := r2.frame
    exact far2 (lt5 o (by simp [ho])) (d12'.swap o ho) (d12' (F2.L, fo) hfo o ho)
  have pin6 : ∀ p ∈ ((TO, tObj v0 (.ref q1') y) :: (i0, rObj (i + 1) (m2 : Nat) 1) :: (z, zObj TI TO .ellipsis) :: (TI, tObj (.ref i0) (.ref a1) (.ref a2)) :: (a1, o1) :: (a2, o2) :: own1') ++ own2', s6.heap.get? p.1 = some p.2 := fun p hp => (J6.pin p (List.mem_append_right _ hp)).1
  have pn6 : ∀ p ∈ ((TO, tObj v0 (.ref q1') y) :: (i0, rObj (i + 1) (m2 : Nat) 1) :: (z, zObj TI TO .ellipsis) :: (TI, tObj (.ref i0) (.ref a1) (.ref a2)) :: (a1, o1) :: (a2, o2) :: own1') ++ own2', H2 p.1 = none ∧ p.1 ≠ X.env.locals ∧ p.1 ∉ X.fs := fun p hp => let ⟨_, b, c, d, _⟩ := J6.pin p (List.mem_append_right _ hp); ⟨b, c, d⟩
  refine ⟨pin6 (TO, tObj v0 (.ref q1') y) (by simp), pin6 (z, zObj TI TO .ellipsis) (by simp), fun h8 hz8 hTO8 hT8 sz8 k8 => ⟨_, rfl, wpAny_letOwnedTupleGo_zip (s := { s6 with heap := h8 }) hz8 fun h9 hz9 hs9 => ?_⟩⟩
  have zlt : z < s6.heap.objs.size := Heap.lt_size (pin6 (z, zObj TI TO .ellipsis) (by simp))
  have TOlt : TO < s6.heap.objs.size := Heap.lt_size (pin6 (TO, tObj v0 (.ref q1') y) (by simp))
  have nT : H2 s6.heap.objs.size = none := J6.hok.fresh (Nat.le_refl _)
  have K6 : Inv X ((i0, rObj (i + 1) (m2 : Nat) 1) :: (TI, tObj (.ref i0) (.ref a1) (.ref a2)) :: (a1, o1) :: (a2, o2) :: (own1' ++ own2')) σ H2 s6 := isub J6 fun p hp => by
    simp only [List.mem_append, List.mem_cons] at hp ⊢
    rcases hp with e | e | e | e | e | e <;> simp [e]
  have fp : ∀ b ∈ [z, TO], FpOk X ((i0, rObj (i + 1) (m2 : Nat) 1) :: (TI, tObj (.ref i0) (.ref a1) (.ref a2)) :: (a1, o1) :: (a2, o2) :: (own1' ++ own2')) H2 b := fun b hb => by
    have hb : b = z ∨ b = TO := by simpa using hb
    rcases hb with rfl | rfl
    · obtain ⟨n1, n2, n3⟩ := pn6 (b, zObj TI TO .ellipsis) (by simp)
      exact ⟨n1, n2, n3, Z.ex _ (.inl rfl), Z.cel _ (.inl rfl), pnl (off_cons i0z (off_cons TIz (off_cons a1z (off_cons a2z (off_app (da' s6z) (db' s6z))))))⟩
    · obtain ⟨n1, n2, n3⟩ := pn6 (b, tObj v0 (.ref q1') y) (by simp)
      exact ⟨n1, n2, n3, Z.ex _ (.inr (.inl rfl)), Z.cel _ (.inr (.inl rfl)), pnl (off_cons i0O (off_cons TIO (off_cons a1O (off_cons a2O (off_app (da' s6O) (db' s6O))))))⟩
  have hT9 : h9.get? s6.heap.objs.size = some (tObj v0 (.ref q1') (.ref q2')) := (hs9.2 _ (Nat.ne_of_gt zlt)).trans hT8
  have I7 : Inv X ((i0, rObj (i + 1) (m2 : Nat) 1) :: (TI, tObj (.ref i0) (.ref a1) (.ref a2)) :: (a1, o1) :: (a2, o2) :: (own1' ++ own2')) σ (upd H2 s6.heap.objs.size (.tup [.int i, .ref q1', .ref q2'])) { s6 with heap := h9 } :=
    K6.turnedNew (t' := s6.toks) (ch := [z, TO]) (fun c o hb e => (hs9.2 c (fun q => hb (by simp [q]))).trans (k8 c o (fun q => hb (by simp [q])) (fun q => hb (by simp [q])) e)) fp (Nat.le_refl _) ⟨by show 3 ≤ sizeLine; decide, [v0, .ref q1', .ref q2'], .cons ⟨_, hv0.symm⟩ (.cons rfl (.cons rfl .nil)), ⟨_, hT9, rfl, _, rfl⟩⟩
  have ex7 : Ex H2 (upd H2 s6.heap.objs.size (.tup [.int i, .ref q1', .ref q2'])) := Ex.new nT
  have I8 : Inv X (zSix TI TO z i0 a1 a2 (rObj (i + 1) (m2 : Nat) 1) o1 o2 .none v0 (.ref q1') (.ref q2') ++ (own1' ++ own2')) σ (upd H2 s6.heap.objs.size (.tup [.int i, .ref q1', .ref q2'])) { s6 with heap := h9 } := by
    refine I7.pins_of fun p hp => ?_
    have hp : p ∈ (z, zObj TI TO .none) :: (TO, tObj v0 (.ref q1') (.ref q2')) :: (i0, rObj (i + 1) (m2 : Nat) 1) :: (TI, tObj (.ref i0) (.ref a1) (.ref a2)) :: (a1, o1) :: (a2, o2) :: (own1' ++ own2') := hp
    rcases List.mem_cons.mp hp with e | hp
    · obtain ⟨n1, n2, n3⟩ := pn6 (z, zObj TI TO .ellipsis) (by simp)
      rw [e]
      exact ⟨hz9, by rw [upd_ne (Nat.ne_of_lt zlt)]; exact n1, n2, n3, fun v q => nomatch q⟩
    rcases List.mem_cons.mp hp with e | hp
    · obtain ⟨n1, n2, n3⟩ := pn6 (TO, tObj v0 (.ref q1') y) (by simp)
      rw [e]
      exact ⟨(hs9.2 _ TOz).trans hTO8, by rw [upd_ne (Nat.ne_of_lt TOlt)]; exact n1, n2, n3, fun v q => nomatch q⟩
    exact I7.pin p (List.mem_append_right _ hp)
  have at1' : s6.gens[g1]? = some gs1' := keep2 g1 gs1' Z.gne su1 r1'.at_
  have rd : ∀ {q : Addr} {w : HO} {Ha Hb : Hp}, Ex Ha Hb → (Ha q = some w ∨ ∃ o, Ha q = some (.frz o w)) → (Hb q = some w ∨ ∃ o, Hb q = some (.frz o w)) := fun ex h => h.imp (fun e => ex _ _ e) fun ⟨o, e⟩ => ⟨o, ex _ _ e⟩
  refine ⟨_, q1', q2', i, _, _, rfl, I8, ⟨own1', own2', gs1', gs2', q1', q2', oq1', oq2', _, _, _, i + 1, rfl, ?_, ?_, d3', fun b hb => off_app (da' hb) (db' hb), .inl ⟨su1, su2⟩⟩, fun gs h => ?_, fun gs h => ?_, (ex1.trans ex2).trans ex7, upd_same, rd (ex2.trans ex7) rd1, rd ex7 rd2⟩
  · exact r1'.later (s' := { s6 with heap := h9 }) (show s6.os = s4.os from (osS J6).trans (osS J4).symm) at1' (ex2.trans ex7)
  · exact r2''.later (s' := { s6 with heap := h9 }) rfl r2''.at_ ex7
  · have h : s6.gens[g1]? = some gs := h
    rw [at1'] at h; cases h; exact su1
  · have h : s6.gens[g2]? = some gs := h
    rw [r2''.at_] at h; cases h; exact su2
/-- the range ends: the walk ends -/
theorem zip_end3 (Z : ZFix3 X F1 F2 ps1 ps2 z TI TO i0 a1 a2 o1 o2 g1 g2) (I : Inv X pl σ H s) (zt : ZAt3 X F1 F2 z TI TO i0 a1 a2 o1 o2 g1 g2 0 H s pl) {E : Value → Shared → Prop} :
    wpAny (model X.prog X.w) X.A (pyNext (.ref z)) (fun r s6 => r = none ∧ Inv X [] σ H s6) E s := by
  obtain ⟨own1, own2, gs1, gs2, q1, q2, oq1, oq2, u, x, y, i, rfl, r1, r2, d1, d2, ph⟩ := zt.main
  obtain ⟨TOz, TIz, i0z, a1z, a2z⟩ := Z.nz
  have pin : ∀ p ∈ zSix TI TO z i0 a1 a2 (rObj i (0 : Nat) 1) o1 o2 .none u x y ++ (own1 ++ own2), s.heap.get? p.1 = some p.2 := fun p hp => (I.pin p (List.mem_append_right _ hp)).1
  have hz : IsZip s.heap z TI TO .none := pin (z, zObj TI TO .none) (by simp)
  have hTO : Trip s.heap TO u x y := pin (TO, tObj u x y) (by simp)
  have hTI : Trip s.heap TI (.ref i0) (.ref a1) (.ref a2) := pin (TI, tObj (.ref i0) (.ref a1) (.ref a2)) (by simp)
  refine pyNext_zip3G Z.hh ⟨hz, hTI, hTO, TIz, TOz, Z.nO.1⟩ fun h1 hz1 hs1 => ?_
  have I1 : Inv X ((z, zObj TI TO .ellipsis) :: [(i0, rObj i (0 : Nat) 1)]) σ H { s with heap := h1 } :=
    repin (o := zObj TI TO .none) (isub I fun p hp => by
      simp only [List.mem_append, List.mem_cons, List.not_mem_nil, or_false] at hp ⊢
      rcases hp with e | e <;> simp [e]) (fun c v ne e => (hs1.2 c ne).trans e) hz1 (fun v e => nomatch e) (Z.ex z (.inl rfl)) (Z.cel z (.inl rfl)) (by
        rw [Z.pn]
        exact fun p hp => off_cons i0z off_nil p (by simpa using hp))
  refine nextOf_range_end Z.hh (I1.pin (i0, rObj i (0 : Nat) 1) (List.mem_append_right _ (by simp))).1 (by simp) fun h2 e k2 st => ?_
  have I2 := I1.kept (t' := s.toks) (h' := h2) k2
  obtain ⟨g, n1, n2, n3, _⟩ := I2.pin (z, zObj TI TO .ellipsis) (List.mem_append_right _ (by simp))
  exact ⟨g, st, fun h5 k5 => ⟨rfl, (isub I2 (pins' := []) fun p hp => by simp at hp).turned (t' := s.toks) (fun b o hb e => k5 b o hb e) n1 n2 (Z.ex z (.inl rfl)) (Z.cel z (.inl rfl)) fun p hp => by rw [Z.pn] at hp; simp at hp⟩⟩
end
end Mc
namespace Mc
open PySem PySem.Spec PyProof.Rows L2 Evl GenW GenFz
/-! ### zip(range(k), f(x, y), f(x, y)) -/
def yZip3 (it : Nat → List V) (tot : Nat) (n : Nat) (H : Hp) (v : V) (H' : Hp) : Prop := ∃ (T q1 q2 : Addr) (i : Int), v = .ref T ∧ Ex H H' ∧ H' T = some (.tup [.int i, .ref q1, .ref q2]) ∧ Rd H' q1 (.tup (it (tot - (n + 1)))) ∧ Rd H' q2 (.tup (it (tot - (n + 1))))
/-- the family of such a call; it does not end -/
abbrev famR (X : Cx) (N : List Str) (qual : Str) (scope : Scope) (f : Addr) (cdv : Value) (A : Around) (L : Addr) (Hb : Hp) (O : Shared → List Addr) (it : Nat → List V) (tot : Nat) : GFam := ⟨X.prog, X.w, X.K, X.mg, X.base, N, qual, scope, f, cdv, A, X.stack, L, Hb, O, it, tot, False⟩
abbrev GEnd0 : GNEnds := { nx := fun k _ _ => k = 0 ∧ False, rt := fun _ _ _ => False }
def tZip3 (k i j : Nat) (N : List Str) (tb : Hp → (Nat → List V) → Nat → TGN) (Hc : Hp → V → V → Prop) : L2.St → Hp → ((Nat → Hp → V → Hp → Prop) → Nat → Hp → Prop) → Prop := fun σ H R => ∃ (v1 v2 : V) (x0 : Addr) (Hb : Hp) (it : Nat → List V), σ[i]? = some (some v1) ∧ σ[j]? = some (some v2) ∧
  Ex Hb H ∧ Hb x0 ≠ none ∧ SmpH Hb ∧ Hc Hb v1 v2 ∧ (∀ H', Ex Hb H' → tb Hb it k GEnd0 k (start N [v1, v2]) H') ∧ R (yZip3 it k) k H
/-- f(x, y) of two names: a generator -/
theorem new_fn {X : Cx} {pins : List (Addr × Obj)} {σ : L2.St} {H : Hp} {s : Shared} {i j : Nat} {fnm y1 y2 : Str} {p p1 p2 pos : Pos} {f : Addr} {name qual : Str} {params : Arguments} {body : List Stmt} {scope : Scope} {dV kV doc pm cdv ct oc : Value} {an od : Option Addr} {osl : Array (Option Value)} {N : List Str} {n1 n2 : Str} {v1 v2 : V} {Q : Value → Shared → Prop} {E : Value → Shared → Prop}
    (I : Inv X pins σ H s) (hgf : Gl X fnm) (hmf : X.mg fnm = some (.ref f)) (hkp : PySem.W.keepIn X.K (.ref f) = true) (hN1 : X.N[i]? = some y1) (hv1 : Vis X.env.scope y1) (hN2 : X.N[j]? = some y2) (hv2 : Vis X.env.scope y2) (lk : X.K.lookup f = some ⟨oc, od, .func (PySem.W.fnOf name qual params body scope dV kV doc pm an cdv ct), osl⟩) (hcd : PySem.W.codeIn X.K cdv qual = true) (S : GScope N [n1, n2] scope) (nc : ∀ y ∈ scope.names, y.2 ≠ .cell)
    (hb : Binds X.K (PySem.W.fnOf name qual params body scope dV kV doc pm an cdv ct) [n1, n2] []) (hr : Room 1 X.A) (e1 : σ[i]? = some (some v1)) (e2 : σ[j]? = some (some v2))
    (h : ∀ (s' : Shared) (a L : Addr) (go fo : Obj) (mm : Str → Option Value), GNew N qual scope f cdv body s [v1, v2] s' a L go fo mm → Q (.ref a) s')
    (hs1 : starEach [.Name y1 p1, .Name y2 p2] X.env = (false, eval (.Name y1 p1) X.env) :: starEach [.Name y2 p2] X.env := by rfl) (hs2 : starEach [.Name y2 p2] X.env = (false, eval (.Name y2 p2) X.env) :: starEach [] X.env := by rfl) (hpl : (backTo pos (starEach [.Name y2 p2] X.env)).any (·.1) = false := by rfl)
    (hd0 : (fnm == ("__debug__" : Str)) = false := by decide) (hd1 : (y1 == ("__debug__" : Str)) = false := by decide) (hcd1 : (y1 == ("__classdict__" : Str)) = false := by decide) (hd2 : (y2 == ("__debug__" : Str)) = false := by decide) (hcd2 : (y2 == ("__classdict__" : Str)) = false := by decide) :
    wpAny (model X.prog X.w) X.A (eval (.Call (.Name fnm p) [.Name y1 p1, .Name y2 p2] [] pos) X.env) Q E s := by
  refine wpAny_Call_Name_kw (ld_glob I hgf hmf (PySem.W.callWith_K (h₀ := X.base) I.ok.mod.kin hkp (PyProof.Rows.args_cons (name_same I hN1 hv1 e1 (fun u1 r1 => PyProof.Rows.args_cons (name_same I hN2 hv2 e2 (fun u2 r2 => PyProof.Rows.args_nil ⟨I.kIn, ?_⟩) hd2 hcd2) hs2) hd1 hcd1) hs1) hs1 hpl) hd0)
  have bd := hb s [u1, u2] I.kIn rfl
  rw [List.append_nil] at bd
  refine wpAny_call (codeAny_mono (gnew_of lk hcd S nc hr I.env0 bd (vs := [v1, v2]) (.cons r1 (.cons r2 .nil)) rfl) fun r s' hq => ?_)
  obtain ⟨a, L, go, fo, mm, rfl, G⟩ := hq
  exact h s' a L go fo mm G
theorem chain10 (s L1 a1 L2 a2 i0 TI TO z h : Nat) (q0 : s < L1) (q1 : L1 < a1) (q2 : a1 < L2) (q3 : L2 < a2) (q4 : a2 < i0) (q5 : i0 < TI) (q6 : TI < TO) (q7 : TO < z) (q8 : z < h) :
    (s ≤ L1 ∧ s ≤ a1 ∧ s ≤ L2 ∧ s ≤ a2 ∧ s ≤ i0 ∧ s ≤ TI ∧ s ≤ TO ∧ s ≤ z) ∧ (L1 < h ∧ a1 < h ∧ L2 < h ∧ a2 < h ∧ i0 < h ∧ TI < h ∧ TO < h) ∧ (TO ≠ z ∧ TI ≠ z ∧ i0 ≠ z ∧ a1 ≠ z ∧ a2 ≠ z) ∧ (TI ≠ TO ∧ i0 ≠ TO ∧ a1 ≠ TO ∧ a2 ≠ TO) ∧ (TI ≠ i0 ∧ a1 ≠ i0 ∧ a2 ≠ i0) ∧
    (z ≠ L1 ∧ TO ≠ L1 ∧ TI ≠ L1 ∧ i0 ≠ L1 ∧ a1 ≠ L1 ∧ a2 ≠ L1) ∧ (z ≠ L2 ∧ TO ≠ L2 ∧ TI ≠ L2 ∧ i0 ≠ L2 ∧ a1 ≠ L2 ∧ a2 ≠ L2) ∧ L1 ≠ L2 := by omega
theorem pg2_zip3 {X : Cx} {k kr i j : Nat} {ki : Int} {fnm y1 y2 : Str} {p pr p1 p2 p3 p4 q1p q2p f1 f2 pos rpos c1 tpos : Pos} {cj : Nat} {elts : List Expr} {kk : Nat} {scope0 : Scope} {f : Addr} {name qual : Str} {params : Arguments} {body : List Stmt} {scope : Scope} {dV kV doc pm cdv ct oc : Value} {an od : Option Addr} {osl : Array (Option Value)} {N : List Str} {n1 n2 : Str} {tb : Hp → (Nat → List V) → Nat → TGN} {Hc : Hp → V → V → Prop}
    (hki : ki = (k : Nat)) (hsz : Builtin.Range.rangeSize 0 ki 1 = ki) (hsm : Builtin.Range.small 0 ki 1 = true)
    (hc : X.calm = true) (hg : Gl X "zip") (hm0 : X.mg "zip" = none) (hgr : Gl X "range") (hmr : X.mg "range" = none) (hgf : Gl X fnm) (hmf : X.mg fnm = some (.ref f)) (hkp : PySem.W.keepIn X.K (.ref f) = true) (hN1 : X.N[i]? = some y1) (hv1 : Vis X.env.scope y1) (hN2 : X.N[j]? = some y2) (hv2 : Vis X.env.scope y2) (lk : X.K.lookup f = some ⟨oc, od, .func (PySem.W.fnOf name qual params body scope dV kV doc pm an cdv ct), osl⟩) (hcd : PySem.W.codeIn X.K cdv qual = true) (S : GScope N [n1, n2] scope) (nc : ∀ y ∈ scope.names, y.2 ≠ .cell) (c0 : ∀ n, cellsFrom n scope.names [] = [])
    (hb : Binds X.K (PySem.W.fnOf name qual params body scope dV kV doc pm an cdv ct) [n1, n2] []) (hr : Room (kr + 3) X.A)
    (bodyJ : ∀ (L : Addr) (Hb : Hp) (O : Shared → List Addr) (it : Nat → List V) (tot : Nat), (famR X N qual scope f cdv X.A.in1.in1 L Hb O it tot).Ok [n1, n2] → Room kr (X.A.in1.in1.deeper (envOfC qual scope L f cdv)) → GNs (famR X N qual scope f cdv X.A.in1.in1 L Hb O it tot) body (tb Hb it tot))
    (hush : ∀ (L : Addr) (Hb : Hp) (O : Shared → List Addr) (it : Nat → List V) (tot : Nat) (v1 v2 : V) (fo : Obj) (mm : Str → Option Value) (q : Addr) (oq : Obj) (sn : Shared), (famR X N qual scope f cdv X.A.in1.in1 L Hb O it tot).Ok [n1, n2] → Room kr (X.A.in1.in1.deeper (envOfC qual scope L f cdv)) → Hc Hb v1 v2 → Hb L = none → (∀ h : Heap, h.get? L = some fo → h.Ns L mm) →
      (∀ (i : Nat) (x : Str) (v : V), N[i]? = some x → (start N [v1, v2])[i]? = some (some v) → Vis scope x → ∃ u, L2.RelV v u ∧ scope.names.lookup x = some .local ∧ mm x = some u) → (start N [v1, v2]).length = N.length →
      ∀ s', s'.os = sn.os → (famR X N qual scope f cdv X.A.in1.in1 L Hb O it tot).Wk [(L, fo)] q oq sn s' → (GenState.fresh (.func body (envOfC qual scope L f cdv))).Goes (model X.prog X.w) X.A.in1.in1 (fun _ s0 r s1 => ((r = .ok (.ret .none) ∨ r = .ok .next) ∧ s1.gens = s0.gens) ∨ ∃ e : Value, r = .error e ∧ False) (fun _ s0 _ s1 _ => s1.gens = s0.gens) 1 (.send .none) s')
    (hs0 : starEach [.Call (.Name "range" pr) [.Constant (.int ki) cj rpos] [] c1, .Call (.Name fnm f1) [.Name y1 p1, .Name y2 p2] [] q1p, .Call (.Name fnm f2) [.Name y1 p3, .Name y2 p4] [] q2p] X.env = (false, eval (.Call (.Name "range" pr) [.Constant (.int ki) cj rpos] [] c1) X.env) :: starEach [.Call (.Name fnm f1) [.Name y1 p1, .Name y2 p2] [] q1p, .Call (.Name fnm f2) [.Name y1 p3, .Name y2 p4] [] q2p] X.env := by rfl)
    (hs1 : starEach [.Call (.Name fnm f1) [.Name y1 p1, .Name y2 p2] [] q1p, .Call (.Name fnm f2) [.Name y1 p3, .Name y2 p4] [] q2p] X.env = (false, eval (.Call (.Name fnm f1) [.Name y1 p1, .Name y2 p2] [] q1p) X.env) :: starEach [.Call (.Name fnm f2) [.Name y1 p3, .Name y2 p4] [] q2p] X.env := by rfl)
    (hs2 : starEach [.Call (.Name fnm f2) [.Name y1 p3, .Name y2 p4] [] q2p] X.env = (false, eval (.Call (.Name fnm f2) [.Name y1 p3, .Name y2 p4] [] q2p) X.env) :: starEach [] X.env := by rfl)
    (hpl : (backTo pos (starEach [.Call (.Name fnm f1) [.Name y1 p1, .Name y2 p2] [] q1p, .Call (.Name fnm f2) [.Name y1 p3, .Name y2 p4] [] q2p] X.env)).any (·.1) = false := by rfl)
    (hd0 : (fnm == ("__debug__" : Str)) = false := by decide) (hd1 : (y1 == ("__debug__" : Str)) = false := by decide) (hcd1 : (y1 == ("__classdict__" : Str)) = false := by decide) (hd2 : (y2 == ("__debug__" : Str)) = false := by decide) (hcd2 : (y2 == ("__classdict__" : Str)) = false := by decide) :
    PG2 X (.Tuple elts kk tpos) (.Call (.Name "zip" p) [.Call (.Name "range" pr) [.Constant (.int ki) cj rpos] [] c1, .Call (.Name fnm f1) [.Name y1 p1, .Name y2 p2] [] q1p, .Call (.Name fnm f2) [.Name y1 p3, .Name y2 p4] [] q2p] [] pos) scope0 (tZip3 k i j N tb Hc) := by
  refine ⟨fun pins s σ H R I h => ?_⟩
  obtain ⟨v1, v2, x0, Hb, it, e1, e2, exb, hx0, smp, hHc, tm, hR⟩ := h
  refine Call_ (ld_blt I hg hm0 PyProof.Rows.boot_zip (PyProof.Rows.callWith_type1 (PyProof.Rows.args_cons ?_ hs0) hs0 hpl))
  refine Call_ (ld_blt I hgr hmr boot_range (PyProof.Rows.callWith_type1 (PyProof.Rows.args_cons (wpAny_Constant_int (PyProof.Rows.args_nil (call_range_1 ?_)))) rfl rfl))
  have ask0 : ∃ (s0 : Shared) (t u v : Tok), s0 = { ({ s with toks := s.toks + 1 } : Shared) with heap := s.heap.push { cls := .type "range", data := .fields #[.int 0 (s.toks + 1), .int ki s.toks, .int 1 (s.toks + 1 + 1)] }, toks := s.toks + 1 + 1 + 1 } ∧ IsRange s0.heap s.heap.objs.size 0 ki 1 t u v ∧ s0.heap.objs.size = s.heap.objs.size + 1 ∧ s0.gens = s.gens ∧ s0.os = s.os ∧ ∀ b o, s.heap.get? b = some o → s0.heap.get? b = some o :=
    ⟨_, _, _, _, rfl, Heap.get?_push_size _ rfl, Heap.size_push .., rfl, rfl, fun b o e => Heap.get?_push_of_some _ e⟩
  obtain ⟨s0, tt, tu, tv, hs0e, rng0, sz0, gens0, os0, kp0⟩ := ask0
  have I0 : Inv X pins σ H s0 := by
    rw [hs0e]
    exact (I.tok (s.toks + 1)).kept (t' := s.toks + 1 + 1 + 1) fun b o e => Heap.get?_push_of_some _ e
  show wpAny _ _ _ _ _ { ({ s with toks := s.toks + 1 } : Shared) with heap := s.heap.push { cls := .type "range", data := .fields #[.int 0 (s.toks + 1), .int ki s.toks, .int 1 (s.toks + 1 + 1)] }, toks := s.toks + 1 + 1 + 1 }
  rw [← hs0e]
  refine PyProof.Rows.args_cons ?_ hs1
  refine new_fn I0 hgf hmf hkp hN1 hv1 hN2 hv2 lk hcd S nc hb (hr.mono (by omega)) e1 e2 (fun s1 a1 L1 go1 fo1 mm1 G1 => ?_) rfl rfl rfl hd0 hd1 hcd1 hd2 hcd2
  have I1 := G1.inv I0
  refine PyProof.Rows.args_cons ?_ hs2
  refine new_fn I1 hgf hmf hkp hN1 hv1 hN2 hv2 lk hcd S nc hb (hr.mono (by omega)) e1 e2 (fun s2 a2 L2 go2 fo2 mm2 G2 => ?_) rfl rfl rfl hd0 hd1 hcd1 hd2 hcd2
  have I2 := G2.inv I1
  refine PyProof.Rows.args_nil ?_
  have ga1 : s2.heap.get? a1 = some go1 := G2.keep _ _ G1.obj
  have gL1 : s2.heap.get? L1 = some fo1 := G2.keep _ _ G1.frm
  refine call_zip3G hsm (G2.keep _ _ (G1.keep _ _ rng0)) (G1.gen _ ga1) (G2.gen _ G2.obj) fun h' D rit sz kp => wpAny_pyIter_zip D.hz ?_
  rw [hsz, hki] at rit
  -- the sizes
  have eq1 := G1.eqL
  have eq2 := G2.eqL
  have o1 := G1.La
  have o2 := G1.alt
  have o3 := G2.La
  have o4 := G2.alt
  generalize hz : s2.heap.objs.size + 3 = z at D
  generalize hTO : s2.heap.objs.size + 2 = TO at D
  generalize hTI : s2.heap.objs.size + 1 = TI at D
  generalize hi0 : s2.heap.objs.size = i0 at D rit
  have q0 : s.heap.objs.size < L1 := by rw [eq1, sz0]; exact Nat.lt_succ_self _
  have q2 : a1 < L2 := by rw [eq2]; exact o2
  have q4 : a2 < i0 := by rw [← hi0]; exact o4
  have q5 : i0 < TI := by rw [← hi0, ← hTI]; exact Nat.lt_succ_self _
  have q6 : TI < TO := by rw [← hTI, ← hTO]; exact Nat.lt_succ_self _
  have q7 : TO < z := by rw [← hTO, ← hz]; exact Nat.lt_succ_self _
  have q8 : z < h'.objs.size := by rw [sz, ← hz]; exact Nat.lt_succ_self _
  have I3 : Inv X pins σ H { s2 with heap := h' } := I2.kept (t' := s2.toks) kp
  have nH : ∀ b, s.heap.objs.size ≤ b → H b = none := fun b le => I.hok.fresh le
  have fpk : ∀ b, s.heap.objs.size ≤ b → FpOk X pins H b := fun b le => I.fpOk le (nH b le)
  obtain ⟨⟨w1, w2, w3, w4, w5, w6, w7, w8⟩, ⟨l1, l2, l3, l4, l5, l6, l7⟩, nz, nO, ni, nL1, nL2, LL⟩ := chain10 s.heap.objs.size L1 a1 L2 a2 i0 TI TO z h'.objs.size q0 o1 q2 o3 q4 q5 q6 q7 q8
  have ge : ∀ b, b = z ∨ b = TO ∨ b = i0 ∨ b = L1 ∨ b = L2 → s.heap.objs.size ≤ b ∧ b < h'.objs.size := fun b hb => by
    rcases hb with rfl | rfl | rfl | rfl | rfl
    · exact ⟨w8, q8⟩
    · exact ⟨w7, l7⟩
    · exact ⟨w5, l5⟩
    · exact ⟨w1, l1⟩
    · exact ⟨w3, l3⟩
  have memfp : ∀ b, b ∈ [z, TO, i0, L1, L2] ↔ b = z ∨ b = TO ∨ b = i0 ∨ b = L1 ∨ b = L2 := fun b => by simp
  have fnum : ∀ b, six z TO TI i0 a1 a2 b → b ≠ L1 ∧ b ≠ L2 := fun b hb => by
    obtain ⟨u1, u2, u3, u4, u5, u6⟩ := nL1
    obtain ⟨v1, v2, v3, v4, v5, v6⟩ := nL2
    rcases hb with rfl | rfl | rfl | rfl | rfl | rfl
    · exact ⟨u1, v1⟩
    · exact ⟨u2, v2⟩
    · exact ⟨u3, v3⟩
    · exact ⟨u4, v4⟩
    · exact ⟨u5, v5⟩
    · exact ⟨u6, v6⟩
  have Hbn : ∀ b, s.heap.objs.size ≤ b → Hb b = none := fun b le => by
    cases g : Hb b with
    | none => rfl
    | some u => have z := exb _ _ g; rw [nH b le] at z; cases z
  have okF : ∀ (L : Addr) (O : Shared → List Addr) (tot : Nat), s.heap.objs.size ≤ L → (famR X N qual scope f cdv X.A.in1.in1 L Hb O it tot).Ok [n1, n2] := fun L O tot le =>
    ⟨S, nc, c0, hr.hd, Nat.le_trans (Nat.le_trans I.ok.bsz I.sz) le, fun b hb => by
      obtain ⟨_, o, ho, _⟩ := I.stack.mem hb
      exact Nat.lt_of_lt_of_le (Heap.lt_size ho) le, smp⟩
  have gens2 : s2.gens = (s.gens.push (.fresh (.func body (envOfC qual scope L1 f cdv)))).push (.fresh (.func body (envOfC qual scope L2 f cdv))) := by rw [G2.gens, G1.gens, gens0]
  have gs1 : s1.gens.size = s.gens.size + 1 := by rw [G1.gens, Array.size_push, gens0]
  have at1 : s2.gens[s.gens.size]? = some (.fresh (.func body (envOfC qual scope L1 f cdv))) := by
    rw [gens2, Array.getElem?_push, Array.size_push, if_neg (by omega), Array.getElem?_push, if_pos rfl]
  have at2 : s2.gens[s1.gens.size]? = some (.fresh (.func body (envOfC qual scope L2 f cdv))) := by
    rw [gens2, gs1, Array.getElem?_push, Array.size_push, if_pos rfl]
  have gn1 : ∀ h : Heap, h.get? a1 = some go1 → h.IsGen a1 s.gens.size := fun h g => by
    have z := G1.gen h g
    rw [gens0] at z; exact z
  refine ⟨z, [z, TO, i0, L1, L2], H, yZip3 it k, k, rfl, I3, fun b hb => ⟨fpk b (ge b ((memfp b).mp hb)).1, (ge b ((memfp b).mp hb)).2⟩, hR, fun A E Q s' k4 hQ => wpAny_pyIter_zip (k4 _ _ D.hz) hQ, fun s3 s4 Dl ce σ' g4 os4 k4 nD eD lD I4 => ?_⟩
  have eD : Dl = h'.objs.size := eD
  have gg4 : s4.gens = s2.gens := g4
  have k4 : ∀ b o, h'.get? b = some o → s4.heap.get? b = some o := k4
  have locge : s3.heap.objs.size ≤ ce.locals := I4.ok.above
  have exD : Ex H (upd H Dl (.lst [])) := Ex.new nD
  have low : ∀ b, b < h'.objs.size → b ≠ Dl ∧ b ≠ ce.locals := fun b lt => ⟨by rw [eD]; exact Nat.ne_of_lt lt, Nat.ne_of_lt (Nat.lt_of_lt_of_le (Nat.lt_trans lt (by rw [← eD]; exact lD)) locge)⟩
  have pinOk : ∀ b o, s.heap.objs.size ≤ b → h'.get? b = some o → (∀ v, o.data ≠ .cell v) → s4.heap.get? b = some o ∧ (upd H Dl (.lst [])) b = none ∧ b ≠ ce.locals ∧ b ∉ frs X.stack ∧ ∀ v, o.data ≠ .cell v := fun b o le g nc => by
    obtain ⟨l1, l2⟩ := low b (Heap.lt_size g)
    refine ⟨k4 b o g, by rw [upd_ne l1]; exact nH b le, l2, fun hb => ?_, nc⟩
    obtain ⟨_, o, ho, _⟩ := I.stack.mem hb
    exact absurd (Heap.lt_size ho) (Nat.not_lt_of_le le)
  have celOk : ∀ b o, h'.get? b = some o → (∀ v, o.data ≠ .cell v) → ∀ x c, ce.cells.lookup x = some c → c ≠ b := fun b o g nc x c e q => by
    obtain ⟨v, o', g', d⟩ := I4.cell x c e
    rw [q, k4 b o g] at g'; cases g'
    exact nc _ d
  have uz := D.hz
  have uTO := D.hTO
  have uTI := D.hTI
  have ua1 := kp _ _ ga1
  have ua2 := kp _ _ G2.obj
  have uL1 := kp _ _ gL1
  have uL2 := kp _ _ G2.frm
  have J4 : Inv (X.blk s3 (upd H Dl (.lst [])) scope0 ce [z, TO, i0, L1, L2]) (zSix TI TO z i0 a1 a2 (rObj 0 (k : Nat) 1) go1 go2 .none .none .none .none ++ ([(L1, fo1)] ++ [(L2, fo2)])) σ' (upd H Dl (.lst [])) s4 := by
    refine I4.pins_of fun p hp => ?_
    have hp : p = (z, zObj TI TO .none) ∨ p = (TO, tObj .none .none .none) ∨ p = (i0, rObj 0 (k : Nat) 1) ∨ p = (TI, tObj (.ref i0) (.ref a1) (.ref a2)) ∨ p = (a1, go1) ∨ p = (a2, go2) ∨ p = (L1, fo1) ∨ p = (L2, fo2) := by simpa using hp
    rcases hp with rfl | rfl | rfl | rfl | rfl | rfl | rfl | rfl
    · exact pinOk z _ w8 uz fun v q => nomatch q
    · exact pinOk TO _ w7 uTO fun v q => nomatch q
    · exact pinOk i0 _ w5 rit fun v q => nomatch q
    · exact pinOk TI _ w6 uTI fun v q => nomatch q
    · exact pinOk a1 _ w2 ua1 G1.gnc
    · exact pinOk a2 _ w4 ua2 G2.gnc
    · exact pinOk L1 _ w1 uL1 G1.fnc
    · exact pinOk L2 _ w3 uL2 G2.fnc
  have roomd : ∀ env : Env, Room kr (X.A.in1.in1.deeper env) := fun env => Room.deeper (Room.in1 (Room.in1 (hr : Room (kr + 1 + 1 + 1) X.A))) env
  have Z : ZFix3 (X.blk s3 (upd H Dl (.lst [])) scope0 ce [z, TO, i0, L1, L2]) (famR X N qual scope f cdv X.A.in1.in1 L1 Hb (ghO s1.gens.size) it k) (famR X N qual scope f cdv X.A.in1.in1 L2 Hb (ghO s.gens.size) it k) [n1, n2] [n1, n2] z TI TO i0 a1 a2 go1 go2 s.gens.size s1.gens.size := by
    refine ⟨okF L1 _ k w1, okF L2 _ k w3, ⟨rfl, rfl, rfl, rfl, rfl, rfl, rfl, rfl⟩, ⟨rfl, rfl, rfl, rfl, rfl, rfl, rfl, rfl⟩, hr.hd, (Room.in1 (hr : Room (kr + 2 + 1) X.A)).depth, gn1, G2.gen, by rw [gs1]; omega, rfl, rfl, rfl, fun b hb => .inl ((memfp b).mpr hb), fun b hb => ?_, nz, nO, ni, fnum, LL⟩
    rcases hb with rfl | rfl | rfl | rfl | rfl
    · exact celOk _ _ uz fun v q => nomatch q
    · exact celOk _ _ uTO fun v q => nomatch q
    · exact celOk _ _ rit fun v q => nomatch q
    · exact celOk _ _ uL1 G1.fnc
    · exact celOk _ _ uL2 G2.fnc
  have ro : ∀ (L a : Addr) (O : Shared → List Addr) (fo : Obj) (mm : Str → Option Value), s.heap.objs.size ≤ L → (∀ h : Heap, h.get? L = some fo → h.Ns L mm) → (∀ (i : Nat) (x : Str) (v : V), N[i]? = some x → (start N [v1, v2])[i]? = some (some v) → Vis scope x → ∃ u, _root_.L2.RelV v u ∧ scope.names.lookup x = some .local ∧ mm x = some u) → (start N [v1, v2]).length = N.length →
      ∀ (q : Addr) (oq : Obj) (sn : Shared), (famR X N qual scope f cdv X.A.in1.in1 L Hb O it k).Fut k (.fresh (.func body (envOfC qual scope L f cdv))) [(L, fo)] q oq sn := fun L a O fo mm le ns vars len q oq sn =>
    fresh_fut (okF L O k le) (bodyJ L Hb O it k (okF L O k le) (roomd _)) (Hbn L le) ns vars len fun H' e' => tm H' e'
  refine ⟨fun s' => (∀ gs1, s'.gens[s.gens.size]? = some gs1 → Sus gs1) ∧ ∀ gs2, s'.gens[s1.gens.size]? = some gs2 → Sus gs2, fun n H' pl s' => ZAt3 (X.blk s3 (upd H Dl (.lst [])) scope0 ce [z, TO, i0, L1, L2]) (famR X N qual scope f cdv X.A.in1.in1 L1 Hb (ghO s1.gens.size) it k) (famR X N qual scope f cdv X.A.in1.in1 L2 Hb (ghO s.gens.size) it k) z TI TO i0 a1 a2 go1 go2 s.gens.size s1.gens.size n H' s' pl, _, J4, ?_, ?_⟩
  · refine ⟨[(L1, fo1)], [(L2, fo2)], .fresh (.func body (envOfC qual scope L1 f cdv)), .fresh (.func body (envOfC qual scope L2 f cdv)), x0, x0, go1, go1, _, _, _, 0, rfl, ⟨by rw [gg4]; exact at1, trivial, fun _ => ⟨s4, rfl, ro L1 a1 _ fo1 mm1 w1 G1.ns G1.vars G1.len x0 go1 s4⟩, fun hn => absurd hn hx0, exb.trans exD, fun p hp => ?_, fo1, List.mem_cons_self⟩, ⟨by rw [gg4]; exact at2, trivial, fun _ => ⟨s4, rfl, ro L2 a2 _ fo2 mm2 w3 G2.ns G2.vars G2.len x0 go1 s4⟩, fun hn => absurd hn hx0, exb.trans exD, fun p hp => ?_, fo2, List.mem_cons_self⟩, offs_cons (off_cons LL.symm off_nil) offs_nil, fun b hb => off_cons (fnum b hb).1.symm (off_cons (fnum b hb).2.symm off_nil), .inr ⟨⟨_, rfl⟩, fun p hp => ?_, s4, rfl, ⟨_, rfl⟩, fun p hp => ?_, ?_⟩⟩
    · rw [List.mem_singleton.mp hp]; exact ⟨.inl rfl, celOk _ _ uL1 G1.fnc⟩
    · rw [List.mem_singleton.mp hp]; exact ⟨.inl rfl, celOk _ _ uL2 G2.fnc⟩
    · rw [List.mem_singleton.mp hp]
    · rw [List.mem_singleton.mp hp]
    · exact hush L1 Hb _ it k v1 v2 fo1 mm1 x0 go1 s4 (okF L1 _ k w1) (roomd _) hHc (Hbn L1 w1) G1.ns G1.vars G1.len
  · refine ⟨fun n pl σ1 H1 s5 J zt => ?_, fun pl σ1 H1 s5 J zt => zip_end3 Z J zt, fun n H1 H1' pl s5 s6 zt aw os nfz kk on => ?_⟩
    · refine wpAny_mono (zip_turn3 (elts := elts) (kk := kk) (tpos := tpos) (E := fun _ _ => False) Z J zt) (fun r s6 hr => ?_) fun _ _ z => z
      obtain ⟨u, rfl, h6⟩ := hr
      refine ⟨u, rfl, wpAny_mono h6 (fun _ s7 h7 => ?_) fun _ _ z => z⟩
      obtain ⟨T, q1, q2, i', H', pl', rfl, J', zt', w1, w2, ex', hT, r1, r2⟩ := h7
      exact ⟨.ref T, H', pl', rfl, J', zt', ⟨w1, w2⟩, T, q1, q2, i', rfl, ex', hT, r1, r2⟩
    · have nb : ∀ {b u}, Hb b = some u → b ≠ Dl := fun {b u} g q => by
        have y := exb _ _ g
        rw [q, nD] at y; cases y
      obtain ⟨_, _, _, _, _, _, _, _, _, _, _, _, _, r1, r2, _⟩ := id zt.main
      have hb' : Ex Hb H1' := fun b u g => kk b u (nb g) (r1.hb _ _ g)
      refine zt.keep os hb' hb' (fun b o u g => kk b _ (fun q => nfz o u (q ▸ g)) g) (.inr ⟨aw.1, on⟩) fun gs1 gs2 g1 g2 _ => aw.2 gs2 g2
end Mc
namespace GenFz
open PySem
open Sem (wp)
section
variable {P : Program} {w : World} {A : Around} {E : Value → Shared → Prop} {s : Shared}
/-- a generator that does not end is asked by a for -/
theorem pyNext_genS {a : Addr} {g n : Nat} {gs : GenState} {Fn : Nat → Shared → Shared → Prop} {Y : Protocol} {Q : Option Value → Shared → Prop} (hh : A.handled = none)
    (hl : s.heap.NoLimit) (hroom : A.depth < recursionLimit) (hg : s.heap.IsGen a g) (hgs : s.gens[g]? = some gs)
    (hgo : gs.Goes (model P w) A.in1 (fun n s0 r s1 => ((r = .ok (.ret .none) ∨ r = .ok .next) ∧ Fn n s0 s1) ∨ ∃ e : Value, r = .error e ∧ False) Y n (.send .none) (s.setGen g .running))
    (hY : ∀ v s1 gs', gs'.bare = true → Sus gs' → Y (n - 1) (s.setGen g .running) v s1 (Later (model P w) A.in1 (fun n s0 r s1 => ((r = .ok (.ret .none) ∨ r = .ok .next) ∧ Fn n s0 s1) ∨ ∃ e : Value, r = .error e ∧ False) Y gs' n) → Q (some v) (s1.setGen g gs'))
    (hE : ∀ s1, Fn n (s.setGen g .running) s1 → False) : wpAny (model P w) A (pyNext (.ref a)) Q E s := by
  unfold pyNext
  refine wpAny_bind (wpAny_attempt (wpAny_callSpecial?_slot (name := Str.ofString "__next__") hg.typeIs slot_gen_next (wpAny_call_entry slot_gen_next hg.typeIs entry_gen_next ?_ (args_gen_next _))))
  show wpAny _ A.in1 (Builtin.Generator.genWake (.ref a) (.send .none)) _ _ s
  unfold Builtin.Generator.genWake
  refine wpAny_bind (wpAny_holding (wpAny_genNumber hg (wpAny_bind (wpAny_genState hgs ?_))))
  cases gs with
  | running => exact hgo.elim
  | finished => exact hgo.elim
  | _ =>
    refine wpAny_bind (wpAny_roomToWake hl hroom ?_)
    show wpAny _ A.in1 (.resume g (.send .none) [] _) _ _ s
    refine wpAny_resumeS hgs hgo (fun x s1 hx => ?_) (fun v s1 gs' hb hsu hv => ?_)
    · rcases hx with ⟨_, hp⟩ | ⟨_, _, z⟩
      · exact (hE s1 hp).elim
      · exact z.elim
    · exact wpAny_pure ⟨v, rfl, wpAny_pure (hY v s1 gs' hb hsu hv)⟩
end
end GenFz
namespace Mc
open PySem PySem.Spec PyProof.Rows L2 Evl GenW GenFz
section
variable {X : Cx} {F : GFam} {ps : List Str} {A : Around} {own pl : List (Addr × Obj)} {σ : L2.St} {H : Hp} {s s1 : Shared}
/-- next of a generator -/
theorem pnext_in (ok : F.Ok ps) (fit : Stands F X A) (hh : A.handled = none) (hd : A.depth < recursionLimit) {a q : Addr} {oq : Obj} {g n : Nat} {gs : GenState} (I : Inv X pl σ H s) (isg : s.heap.IsGen a g) (hgs : s.gens[g]? = some gs) (h : Hand X F own pl H (s.setGen g .running))
    (q0 : F.Hb q = none → s.heap.get? q = some oq) (fut : F.Fut n gs own q oq s1) (os1 : s.os = s1.os) {Q : Option Value → Shared → Prop} {E : Value → Shared → Prop} (ne : ¬F.ends)
    (hItem : ∀ (m : Nat) (q' : Addr) (oq' : Obj) (own' : List (Addr × Obj)) (gs' : GenState) (s2 : Shared) (H' : Hp), n = m + 1 → gs'.bare = true → Sus gs' → s2.gens[g]? = some gs' → Got X F m own pl σ H H' q' oq' own' gs' s s2 → Q (some (.ref q')) s2) : wpAny (model X.prog X.w) A (pyNext (.ref a)) Q E s := by
  have I0 : Inv X pl σ H (s.setGen g .running) := inv_gens I (allBare_setGen I.bare rfl)
  have W : F.Wk own q oq s1 (s.setGen g .running) := by
    have e := I0.env0
    refine ⟨?_, os1, fun p hp => (h.mine p hp).1, q0, h.gh1⟩
    have bn : ∀ {b : Addr}, H b = none → F.Hb b = none := fun {b} n => by
      cases g : F.Hb b with
      | none => rfl
      | some u => rw [h.hb _ _ g] at n; cases n
    have ho : HOk F.P F.w H (s.setGen g .running).heap := by rw [fit.P, fit.w]; exact e.hok
    have fr : F.A.frames = some F.outer := by rw [fit.frames, fit.outer]; exact I.ok.frames
    exact ⟨fr, by rw [fit.K, fit.mg, fit.base]; exact e.mod, fun b o z => by rw [fit.base] at z; exact ⟨(e.bs b o z).1, bn (e.bs b o z).2⟩, by rw [fit.base]; exact e.bsz, by rw [fit.base, fit.outer]; exact e.funs, fun b hb => by rw [fit.outer] at hb; exact bn (e.frf b hb), hok_sub ok h.hb ho, e.bare⟩
  have go := fut _ W
  rw [fit.P, fit.w, fit.A] at go
  have gl : g < s.gens.size := by
    obtain ⟨z, _⟩ := Array.getElem?_eq_some_iff.mp hgs
    exact z
  have nfresh : ∀ {b : Addr} {s2 : Shared} {o : Obj}, Holes s s2 → F.Free (s.setGen g .running) b → s2.heap.get? b = some o → (∃ p ∈ own, p.1 = b) ∨ s.heap.objs.size ≤ b := fun {b s2 o} hol fr e => by
    rcases fr with z | z
    · exact .inl (h.gh2 b z)
    · exact .inr (hol.new z e)
  refine wpAny_gsz (n := s.gens.size) (Nat.le_refl _) (wpAny_holes (pyNext_genS (n := n + 1) (Fn := fun n s0 s1 => n = 1 ∧ F.ends ∧ F.Kept s0 s1) (Y := F.Y) hh I.nolimit hd isg hgs go (fun v s2 gs' hb hsu hy hol gsz => ?_) fun s2 hr => absurd hr.2.1 ne))
  · obtain ⟨q', oq', own', rfl, hpos, K, hi, ho, hfo, later⟩ := hy
    obtain ⟨m, rfl⟩ : ∃ m, n = m + 1 := ⟨n - 1, by have : 0 < n := hpos; omega⟩
    have K : F.Kept (s.setGen g .running) s2 := K
    have hi : F.Item (F.tot - (m + 1)) (s.setGen g .running) s2 q' oq' := hi
    have ho : F.Own (s.setGen g .running) s2 q' own' := ho
    have hol : Holes s s2 := hol
    have gsz : g < s2.gens.size := by
      have z : s.gens.size ≤ (s2.setGen g gs').gens.size := gsz
      rw [setGen_size] at z
      exact Nat.lt_of_lt_of_le gl z
    obtain ⟨i1, i2, i3⟩ := hi
    obtain ⟨H', hkn, hH⟩ : ∃ H', ((F.Hb q' = some (.tup (F.it (F.tot - (m + 1)))) ∧ H' = H) ∨ (F.Hb q' = none ∧ H q' = none ∧ H' = upd H q' (.frz oq' (.tup (F.it (F.tot - (m + 1))))))) ∧
        (H' = H ∨ ∃ q oq xs, H' = upd H q (.frz oq (.tup xs)) ∧ F.Free (s.setGen g .running) q ∧ s2.heap.get? q = some oq ∧ ∀ U, ObjOk F.P F.w U s2.heap q (.tup xs)) := by
      rcases i3 with z | ⟨z, fr⟩
      · exact ⟨H, .inl ⟨z, rfl⟩, .inl rfl⟩
      · exact ⟨_, .inr ⟨z, h.gone I0 fr, rfl⟩, .inr ⟨q', oq', _, rfl, fr, i1, i2⟩⟩
    have J := kept_inv ok fit I0 h K hH
    have J2 : Inv X pl σ H' (s2.setGen g gs') := inv_gens J (allBare_setGen J.bare hb)
    have own' : ∀ p ∈ own', s2.heap.get? p.1 = some p.2 ∧ H' p.1 = none ∧ p.1 ≠ X.env.locals ∧ p.1 ∉ X.fs ∧ (∀ v, p.2.data ≠ .cell v) ∧ (p.1 = F.L ∨ X.s_0.heap.objs.size ≤ p.1) ∧ (∀ x c, X.env.cells.lookup x = some c → c ≠ p.1) ∧ ((p.1 = F.L ∨ ∃ o ∈ own, o.1 = p.1) ∨ s.heap.objs.size ≤ p.1) := fun p hp => by
      obtain ⟨o1, o2, o3, o4, o5, o6⟩ := ho p hp
      have n1 : H p.1 = none := by
        rcases o6 with z | z
        · rw [z]; exact h.hLn
        · exact h.gone I0 z.1
      have n2 : H' p.1 = none := by
        rcases hkn with ⟨_, rfl⟩ | ⟨_, _, rfl⟩
        · exact n1
        · rw [upd_ne o3]; exact n1
      have nf : p.1 ∉ X.fs := fun z => o4 (by rw [fit.outer]; exact fs_stack I p.1 z)
      rcases o6 with z | z
      · refine ⟨o1, n2, ?_, nf, o5, .inl z, ?_, .inl (.inl z)⟩
        · rw [z]; exact h.hLl
        · rw [z]; exact h.cl
      · rcases nfresh hol z.1 o1 with ⟨o, q1, q2⟩ | le
        · obtain ⟨_, _, a3, a4, a5⟩ := h.mine o q1
          rw [q2] at a3 a4 a5
          exact ⟨o1, n2, a3, nf, o5, a4, a5, .inl (.inr ⟨o, q1, q2⟩)⟩
        · refine ⟨o1, n2, fun z => ?_, nf, o5, .inr (Nat.le_trans I.sz le), fun x c e z => ?_, .inr le⟩
          · exact absurd I.lt (by rw [← z]; exact Nat.not_lt_of_le le)
          · obtain ⟨v, ob, g1, _⟩ := I.cell x c e
            have := Heap.lt_size g1
            rw [z] at this
            exact absurd this (Nat.not_lt_of_le le)
    refine hItem m q' oq' _ gs' (s2.setGen g gs') H' rfl hb hsu (setGen_at gsz) ⟨J2.pins_of fun p hp => ?_, hkn, fun hm s3 w3 => ?_, fun p hp => (own' p hp).2.2.2.2.2, hfo, fun p hp => (ho p hp).2.2.2.2.2.imp id fun z => z.2⟩
    · rcases List.mem_append.mp hp with z | z
      · exact J2.pin p (List.mem_append_right _ z)
      · obtain ⟨a1, a2, a3, a4, a5, _⟩ := own' p z
        exact ⟨a1, a2, a3, a4, a5⟩
    · have w4 : F.Wk _ q' oq' s2 s3 := ⟨w3.env, w3.os, w3.stays, w3.item, w3.sub⟩
      have z := later (hm.imp (fun z => by show 1 < m + 1; omega) id) s3 w4
      rw [fit.P, fit.w, fit.A]
      exact z

/-- next of a generator: the other sleepers sleep on -/
theorem pnext_th (ok : F.Ok ps) (fit : Stands F X A) (hh : A.handled = none) (hd : A.depth < recursionLimit) {a q : Addr} {oq : Obj} {g n : Nat} {gs : GenState} (I : Inv X pl σ H s) (isg : s.heap.IsGen a g) (hgs : s.gens[g]? = some gs) (cln : Clean gs) (h : Palm X F own pl H s) {gl : List Value} (wd : Word F g own gl s)
    (q0 : F.Hb q = none → s.heap.get? q = some oq) (fut : F.Fut n gs own q oq s1) (os1 : s.os = s1.os) {Q : Option Value → Shared → Prop} {E : Value → Shared → Prop} (ne : ¬F.ends)
    (hItem : ∀ (m : Nat) (q' : Addr) (oq' : Obj) (own' : List (Addr × Obj)) (gs' : GenState) (s2 : Shared) (H' : Hp), n = m + 1 → Sus gs' → s2.gens[g]? = some gs' → Clean gs' → (∀ i x, i ≠ g → Sus x → s.gens[i]? = some x → s2.gens[i]? = some x) → Got X F m own pl σ H H' q' oq' own' gs' s s2 → Q (some (.ref q')) s2) : wpAny (model X.prog X.w) A (pyNext (.ref a)) Q E s := by
  have R := rz_but gl (g := g) (B := s.gens) (fun x hx => by rw [hgs] at hx; cases hx; exact cln)
  generalize hG : (s.gens.map (stk gl)).setIfInBounds g (s.gens[g]?.getD .finished) = G at R
  have Sg : sleepBut g s.gens g = none := if_pos rfl
  have gat : G[g]? = some gs := (R.eq g Sg).trans hgs
  have IA : Inv X pl σ H { s with gens := G } := inv_gens I (R.bareA I.bare)
  obtain ⟨w1, w2⟩ := wd G R
  have main := pnext_in (s := { s with gens := G }) (s1 := s1) (Q := fun v s2 => ∃ (m : Nat) (q' : Addr) (oq' : Obj) (own' : List (Addr × Obj)) (gs' : GenState) (H' : Hp), v = some (.ref q') ∧ n = m + 1 ∧ Sus gs' ∧ s2.gens[g]? = some gs' ∧ Got X F m own pl σ H H' q' oq' own' gs' { s with gens := G } s2)
    (E := fun _ _ => False) ok fit hh hd IA isg gat ⟨h.hb, h.hL, h.hLl, h.hLn, h.cl, h.apart, h.mine, w1, w2⟩ q0 fut os1 ne
    (fun m q' oq' own' gs' s2 H' e1 _ e2 e3 e4 => ⟨m, q', oq', own', gs', H', rfl, e1, e2, e3, e4⟩)
  refine wpAny_mono (wpAny_thaw R main) (fun v s2 hv => ?_) fun e s2 he => ?_
  · obtain ⟨A', R', m, q', oq', own', gs', H', rfl, e1, e2, e3, e4⟩ := hv
    have e3 : A'[g]? = some gs' := e3
    refine hItem m q' oq' own' gs' s2 H' e1 e2 ((R'.eq g Sg).symm.trans e3) (R'.cl g gs' Sg e3) (fun i x ne sx hx => ?_) ⟨inv_gens (s := { s2 with gens := A' }) (G := s2.gens) e4.inv (R'.bareB e4.inv.bare), e4.kn, fun hm s3 w3 => ?_, e4.adr, e4.frame, e4.lone⟩
    · have e : sleepBut g s.gens i = some x := by
        unfold sleepBut sleepers
        rw [if_neg ne, hx]
        cases x <;> first | rfl | exact sx.elim
      exact (R'.fz i x e).2.2
    · exact e4.fut hm s3 ⟨w3.env, w3.os, w3.stays, w3.item, w3.sub⟩
  · obtain ⟨_, _, z⟩ := he
    exact z.elim

end
/-- what is there behind one generator's item, behind its end -/
def NxtL (X : Cx) (F : GFam) (g n : Nat) (own pl : List (Addr × Obj)) (σ : L2.St) (H : Hp) (s : Shared) (v : Value) (s2 : Shared) : Prop := ∃ (m : Nat) (q' : Addr) (oq' : Obj) (own' : List (Addr × Obj)) (gs' : GenState) (H' : Hp), v = .ref q' ∧ n = m + 1 ∧ Sus gs' ∧
  (∀ (i : Nat) (x : GenState), i ≠ g → Sus x → s.gens[i]? = some x → s2.gens[i]? = some x) ∧ Inv X (pl ++ own') σ H' s2 ∧ Rest X F g m gs' own' q' oq' H' s2 ∧ Ex H H' ∧ Rd H' q' (.tup (F.it (F.tot - (m + 1)))) ∧ (∀ p ∈ own', p.1 = F.L ∨ F.Many) ∧ ∀ p ∈ own', (p.1 = F.L ∨ ∃ o ∈ own, o.1 = p.1) ∨ s.heap.objs.size ≤ p.1
/-- one generator's turn, from a state in which all is pinned -/
theorem prest_next {X : Cx} {F : GFam} {ps : List Str} {A : Around} {a q : Addr} {oq : Obj} {g n : Nat} {gs : GenState} {own pl : List (Addr × Obj)} {σ : L2.St} {H : Hp} {s : Shared} {gl : List Value}
    (ok : F.Ok ps) (fit : Stands F X A) (hh : A.handled = none) (hd : A.depth < recursionLimit) (pn : X.pn = []) (hL : F.L ∈ X.ex ∨ X.s_0.heap.objs.size ≤ F.L) (cl : ∀ x c, X.env.cells.lookup x = some c → c ≠ F.L) (I : Inv X (pl ++ own) σ H s) (r : Rest X F g n gs own q oq H s) (isg : s.heap.IsGen a g) (ne : ¬F.ends) (hn : 0 < n)
    (apart : ∀ p ∈ pl, ∀ o ∈ own, p.1 ≠ o.1) (wd : Word F g own gl s) : wpAny (model X.prog X.w) A (pyNext (.ref a)) (fun r s2 => ∃ v, r = some v ∧ NxtL X F g n own pl σ H s v s2) (fun _ _ => False) s := by
  obtain ⟨s1, os1, fut⟩ := r.fut (.inl hn)
  obtain ⟨fo, hfo⟩ := r.frame
  have pin : ∀ p ∈ own, s.heap.get? p.1 = some p.2 ∧ H p.1 = none ∧ p.1 ≠ X.env.locals ∧ p.1 ∉ X.fs ∧ ∀ v, p.2.data ≠ .cell v := fun p hp => I.pin p (List.mem_append_right _ (List.mem_append_right _ hp))
  have I0 : Inv X pl σ H s := isub I fun p hp => List.mem_append_left _ hp
  have pL := pin _ hfo
  refine pnext_th ok fit hh hd I0 isg r.at_ r.cln ⟨r.hb, hL, pL.2.2.1, pL.2.1, cl, fun p hp => ?_, fun p hp => ?_⟩ wd (fun hq => ?_) fut os1 ne (fun m q' oq' own' gs' s2 H' e1 e2 e3 e4 e5 e6 => ?_)
  · rw [pn] at hp
    exact ⟨apart p (by simpa using hp) _ hfo, fun o ho => apart p (by simpa using hp) o ho⟩
  · obtain ⟨a1, a2, a3, _⟩ := pin p hp
    obtain ⟨b1, b2⟩ := r.adr p hp
    exact ⟨a1, a2, a3, b1, b2⟩
  · obtain ⟨u, z⟩ := r.item hq
    exact (I.hok _ _ z).1
  · have ex : Ex H H' := by
      rcases e6.kn with ⟨_, z⟩ | ⟨_, z1, z2⟩
      · rw [z]; exact Ex.refl _
      · rw [z2]; exact Ex.new z1
    refine ⟨_, rfl, m, q', oq', own', gs', H', rfl, e1, e2, e5, e6.inv, ⟨e3, e4, fun hm => ⟨s2, rfl, e6.fut hm⟩, fun hq => ?_, r.hb.trans ex, fun p hp => ⟨(e6.adr p hp).1, (e6.adr p hp).2.1⟩, e6.frame⟩, ex, ?_, e6.lone, fun p hp => (e6.adr p hp).2.2⟩
    · rcases e6.kn with ⟨z, _⟩ | ⟨_, _, z⟩
      · rw [hq] at z; cases z
      · exact ⟨_, by rw [z]; exact upd_same⟩
    · rcases e6.kn with ⟨z1, z2⟩ | ⟨_, _, z⟩
      · rw [z2]; exact .inl (r.hb _ _ z1)
      · rw [z]; exact .inr ⟨_, upd_same⟩
end Mc
namespace Mc
open PySem PySem.Spec PyProof.Rows L2 Evl GenW GenFz
/-! ### for x in f(y1, y2), a generator without end: the body breaks -/
/-- an expression that makes a generator of the values in two slots -/
structure PGen (X : Cx) (e : Expr) (N : List Str) (qual : Str) (scope : Scope) (f : Addr) (cdv : Value) (body : List Stmt) (i j : Nat) : Prop where
  run : ∀ (pins : List (Addr × Obj)) (s : Shared) (σ : L2.St) (H : Hp) (v1 v2 : V) (Q E : Value → Shared → Prop), Inv X pins σ H s → σ[i]? = some (some v1) → σ[j]? = some (some v2) →
    (∀ (s' : Shared) (a L : Addr) (go fo : Obj) (mm : Str → Option Value), GNew N qual scope f cdv body s [v1, v2] s' a L go fo mm → Q (.ref a) s') → wpAny (model X.prog X.w) X.A (eval e X.env) Q E s
def tForG (i j : Nat) (N : List Str) (tb : Hp → (Nat → List V) → Nat → TGN) (g : TG) (t : TS) : TS := fun D σ H => ∃ (v1 v2 : V) (x0 : Addr) (Hb : Hp) (it : Nat → List V) (tot : Nat), σ[i]? = some (some v1) ∧ σ[j]? = some (some v2) ∧
  Ex Hb H ∧ Hb x0 ≠ none ∧ SmpH Hb ∧ (∀ H', Ex Hb H' → tb Hb it tot GEnd0 tot (start N [v1, v2]) H') ∧ ∃ W : Nat → L2.St → Hp → Prop, W tot σ H ∧ (∀ σ H, ¬ W 0 σ H) ∧ ∀ n σ1 H1, W (n + 1) σ1 H1 → ∀ q H', Ex H1 H' → Rd H' q (.tup (it (tot - (n + 1)))) →
    g (.ref q) σ1 H' fun σ2 H2 => t { D with nx := fun σ' H'' => Ex Hb H'' ∧ (∀ b o u, H' b = some (.frz o u) → H'' b = some (.frz o u)) ∧ W n σ' H'', ct := fun σ' H'' => Ex Hb H'' ∧ (∀ b o u, H' b = some (.frz o u) → H'' b = some (.frz o u)) ∧ W n σ' H'', bk := D.nx } σ2 H2
theorem ps_forG {X : Cx} {kr i j : Nat} {y : Str} {py pos : Pos} {e : Expr} {N : List Str} {qual : Str} {scope : Scope} {f : Addr} {cdv : Value} {gbody body : List Stmt} {n1 n2 : Str} {tb : Hp → (Nat → List V) → Nat → TGN} {g : TG} {t : TS} (hpn : X.pn = []) (hxe : X.xe = fun _ _ => False) (S : GScope N [n1, n2] scope) (nc : ∀ y ∈ scope.names, y.2 ≠ .cell) (c0 : ∀ n, cellsFrom n scope.names [] = [])
    (hG : PGen X e N qual scope f cdv gbody i j) (hr : Room (kr + 2) X.A)
    (bodyJ : ∀ (L : Addr) (Hb : Hp) (it : Nat → List V) (tot : Nat), (famR X N qual scope f cdv X.A.in1 L Hb (fun _ => []) it tot).Ok [n1, n2] → Room kr (X.A.in1.deeper (envOfC qual scope L f cdv)) → GNs (famR X N qual scope f cdv X.A.in1 L Hb (fun _ => []) it tot) gbody (tb Hb it tot))
    (hg : PG X (.Name y py) g) (hb : PSs X body t) (hs : ∀ x, foldedSetIterable e X.env x = pure x := by intro _; rfl) : PS X (.For (.Name y py) e body [] pos) (tForG i j N tb g t) := by
  refine ⟨fun pins s σ H D I h => ?_⟩
  obtain ⟨v1, v2, x0, Hb, it, tot, e1, e2, exb, hx0, smp, tm, W, w0, w00, turn⟩ := h
  refine wpAny_For (hG.run pins s σ H v1 v2 _ _ I e1 e2 fun s1 a L go fo mm G => ?_) hs
  have I1 := G.inv I
  have eL := G.eqL
  have La := G.La
  have leL : s.heap.objs.size ≤ L := Nat.le_of_eq eL.symm
  have nH : ∀ b, s.heap.objs.size ≤ b → H b = none := fun b le => I.hok.fresh le
  have Hbn : Hb L = none := by
    cases g : Hb L with
    | none => rfl
    | some u => have z := exb _ _ g; rw [nH L leL] at z; cases z
  have ok : (famR X N qual scope f cdv X.A.in1 L Hb (fun _ => []) it tot).Ok [n1, n2] :=
    ⟨S, nc, c0, hr.hd, Nat.le_trans (Nat.le_trans I.ok.bsz I.sz) leL, fun b hb => by
      obtain ⟨_, o, ho, _⟩ := I.stack.mem hb
      exact Nat.lt_of_lt_of_le (Heap.lt_size ho) leL, smp⟩
  have fit : Stands (famR X N qual scope f cdv X.A.in1 L Hb (fun _ => []) it tot) X X.A := ⟨rfl, rfl, rfl, rfl, rfl, rfl, rfl, rfl⟩
  have noM : ¬ (famR X N qual scope f cdv X.A.in1 L Hb (fun _ => []) it tot).Many := fun h => h fun _ => rfl
  have hL : L ∈ X.ex ∨ X.s_0.heap.objs.size ≤ L := .inr (Nat.le_trans I.sz leL)
  have young : ∀ b, s.heap.objs.size ≤ b → b ≠ X.env.locals ∧ b ∉ X.fs ∧ ∀ x c, X.env.cells.lookup x = some c → c ≠ b := fun b le => ⟨fun z => absurd I.lt (by rw [← z]; exact Nat.not_lt_of_le le), I.nofs le, fun x c e z => by
    obtain ⟨v, o, ho, _⟩ := I.cell x c e
    have := Heap.lt_size ho
    rw [z] at this
    exact absurd this (Nat.not_lt_of_le le)⟩
  have lea : s.heap.objs.size ≤ a := Nat.le_of_lt (Nat.lt_of_le_of_lt leL La)
  have far : ∀ p ∈ pins ++ [(a, go)], p.1 ≠ L := fun p hp => by
    rcases List.mem_append.mp hp with z | z
    · have lt := Heap.lt_size (I.pin p (List.mem_append_right _ z)).1
      exact Nat.ne_of_lt (Nat.lt_of_lt_of_le lt leL)
    · rw [List.mem_singleton.mp z]
      exact Nat.ne_of_gt La
  refine wpAny_pyIter_gen (G.gen _ G.obj) (codeAny_forLoop_any (fun n s' => ∃ (σ' : L2.St) (H' : Hp) (own : List (Addr × Obj)) (gs : GenState) (q : Addr) (oq : Obj), Inv X ((pins ++ [(a, go)]) ++ own) σ' H' s' ∧ Rest X (famR X N qual scope f cdv X.A.in1 L Hb (fun _ => []) it tot) s.gens.size n gs own q oq H' s' ∧ (∀ p ∈ own, p.1 = L) ∧ W n σ' H') (fun n s3 h3 => ?_) tot ?_)
  · obtain ⟨σ3, H3, own, gs, q, oq, I3, r3, lone, w3⟩ := h3
    cases n with
    | zero => exact absurd w3 (w00 _ _)
    | succ n =>
      have turn1 := prest_next (A := X.A) (gl := []) ok fit hr.hd hr.depth hpn hL (young L leL).2.2 I3 r3 (G.gen _ (I3.pin (a, go) (List.mem_append_right _ (by simp))).1) id (Nat.succ_pos n) (fun p hp o ho e => far p hp (e.trans (lone o ho))) (fun G' R' => ⟨fun p hp => .inl (lone p hp), fun b hb => by cases hb⟩)
      refine wpAny_mono turn1 (fun r s4 h4 => ?_) fun _ _ z => z.elim
      obtain ⟨v, rfl, m, q', oq', own', gs', H', rfl, em, sus, _, J, r4, ex, rd, ln, _⟩ := h4
      obtain rfl : m = n := by omega
      have lone' : ∀ p ∈ own', p.1 = L := fun p hp => (ln p hp).elim id fun z => absurd z noM
      refine wpAny_pure ?_
      have hgr := hg.run _ _ σ3 H' (.ref q') (.ref q') _ (inv_stk J) rfl (turn m σ3 H3 w3 q' H' ex rd)
      rw [hxe] at hgr
      refine asleep hgr fun _ s6 G6 h6 b6 on6 => ?_
      obtain ⟨σ6, H6, I6, q6⟩ := h6
      have I6 := inv_back I6 b6
      have hbr := hb.run _ _ σ6 H6 _ (inv_stk I6) q6
      rw [hxe] at hbr
      refine asleep hbr fun fl s7 G7 h7 b7 on7 => ?_
      have again : ∀ {σ7 : L2.St} {H7 : Hp}, Inv X ((pins ++ [(a, go)]) ++ own') σ7 H7 { s7 with gens := G7 } → Ex Hb H7 → (∀ b o u, H' b = some (.frz o u) → H7 b = some (.frz o u)) → W m σ7 H7 → ∃ m', m' < m + 1 ∧ ∃ (σ' : L2.St) (H'' : Hp) (own : List (Addr × Obj)) (gs : GenState) (q : Addr) (oq : Obj), Inv X ((pins ++ [(a, go)]) ++ own) σ' H'' s7 ∧ Rest X (famR X N qual scope f cdv X.A.in1 L Hb (fun _ => []) it tot) s.gens.size m' gs own q oq H'' s7 ∧ (∀ p ∈ own, p.1 = L) ∧ W m' σ' H'' := fun {σ7 H7} I7 ke kf w7 => by
        have I7 := inv_back I7 b7
        refine ⟨m, Nat.lt_succ_self m, σ7, H7, own', gs', q', oq', I7, ⟨on7 _ _ (on6 _ _ r4.at_ sus) sus, r4.cln, fun hn => ?_, fun hn => ?_, ke, r4.adr, r4.frame⟩, lone', w7⟩
        · obtain ⟨u, os, fu⟩ := r4.fut hn
          exact ⟨u, (I7.os.trans J.os.symm).trans os, fu⟩
        · obtain ⟨u, z⟩ := r4.item hn
          exact ⟨u, kf _ _ _ z⟩
      cases fl with
      | next => obtain ⟨σ7, H7, I7, ke, kf, w7⟩ := h7; exact again I7 ke kf w7
      | cont => obtain ⟨σ7, H7, I7, ke, kf, w7⟩ := h7; exact again I7 ke kf w7
      | brk =>
        obtain ⟨σ7, H7, I7, q7⟩ := h7
        exact ⟨σ7, H7, isub (inv_back I7 b7) fun p hp => List.mem_append_left _ (List.mem_append_left _ hp), q7⟩
      | ret u =>
        obtain ⟨v7, σ7, H7, I7, r7, q7⟩ := h7
        exact ⟨v7, σ7, H7, isub (inv_back I7 b7) fun p hp => List.mem_append_left _ (List.mem_append_left _ hp), r7, q7⟩
  · refine ⟨σ, H, [(L, fo)], .fresh (.func gbody (envOfC qual scope L f cdv)), x0, go, I1.pins_of fun p hp => ?_, ⟨?_, trivial, fun _ => ⟨s1, rfl, fresh_fut ok (bodyJ L Hb it tot ok (Room.deeper (Room.in1 (hr : Room (kr + 1 + 1) X.A)) _)) Hbn G.ns G.vars G.len fun H' e' => tm H' e'⟩, fun hn => absurd hn hx0, exb, fun p hp => ?_, fo, List.mem_cons_self⟩, fun p hp => by rw [List.mem_singleton.mp hp], w0⟩
    · have old : ∀ p ∈ pins, s1.heap.get? p.1 = some p.2 ∧ H p.1 = none ∧ p.1 ≠ X.env.locals ∧ p.1 ∉ X.fs ∧ ∀ v, p.2.data ≠ .cell v := fun p hp => I1.pin p (List.mem_append_right _ hp)
      rcases List.mem_append.mp hp with z | z
      · rcases List.mem_append.mp z with z | z
        · exact old p z
        · rw [List.mem_singleton.mp z]
          exact ⟨G.obj, nH a lea, (young a lea).1, (young a lea).2.1, G.gnc⟩
      · rw [List.mem_singleton.mp z]
        exact ⟨G.frm, nH L leL, (young L leL).1, (young L leL).2.1, G.fnc⟩
    · rw [G.gens, Array.getElem?_push, if_pos rfl]
    · rw [List.mem_singleton.mp hp]
      exact ⟨.inl rfl, (young L leL).2.2⟩
end Mc
namespace Mc
open PySem PySem.Spec PyProof.Rows L2 Evl GenW GenFz
section
variable {X : Cx} {pins : List (Addr × Obj)} {σ : L2.St} {H : Hp} {s : Shared}
theorem lcG_core {Q : VK} {use : Option (Value → Sem Unit)} {Qf : Value → Shared → Prop} {elt tg iter : Expr} {scope : Scope} {own : List (Str × Nat)} {pos pos' : Pos} {wi : L2.St → Hp → ((Nat → Hp → V → Hp → Prop) → Nat → Hp → Prop) → Prop} {g : TG} {te : TE} (hc : X.calm = true) (hN : X.N.Nodup) (I : Inv X pins σ H s) (hi : PG2 X tg iter scope wi) (ok : BlkOk X.N X.env.scope scope own)
    (hg : ∀ (s : Shared) (H : Hp) (C : Addr) (cl : List (Str × Addr)) (fp : List Addr), PG (X.blk s H scope (compEnvC scope cl C X.env) fp) tg g) (he : ∀ (s : Shared) (H : Hp) (C : Addr) (cl : List (Str × Addr)) (fp : List Addr), PE (X.blk s H scope (compEnvC scope cl C X.env) fp) elt te)
    (hs : ∀ x, foldedSetIterable iter X.env x = pure x) (h : tLcG wi g te (own.map (·.2)) σ H Q)
    (hRR : ∀ D C s' m H', Inv X pins σ H' s' → Q (.ref D) H' → s'.heap.Ns C m → FpOk X pins H' C → compPost (model X.prog X.w) X.A X.xe use Qf (.ref D) C (.ok .next) s') :
    wpAny (model X.prog X.w) X.A (comprehension (.ListComp elt [⟨tg, iter, [], 0⟩] scope pos) scope X.env pos' (newList []) false (eval iter X.env) use) Qf X.xe s := by
  have hfree : ∀ y ∈ scope.names, y.2 = .free → ∃ c, X.env.cells.lookup y.1 = some c := fun y hy e => by
    rcases ok.free y hy e with k | k
    · exact I.ok.has _ (.inl k)
    · exact I.ok.has _ (.inr k)
  refine wpAny_comprehension_free (use := use) rfl hs (closure_ok hfree) ok.kind (fun y hy e => by rw [ok.uniq y hy, e]) (thn (hi.run pins s σ H _ I h) fun xv s1 hx => thn hx fun itv s2 h2 => ?_)
  obtain ⟨it, fp, H2, yld, N, rfl, I2, f2, q, self, mk⟩ := h2
  refine wpAny_newObj_type (newEnv_comp ?_) (by show 0 ≤ sizeLine; decide)
  generalize hD : s2.heap.objs.size = D
  have hDn : H2 D = none := I2.hok.fresh (Nat.le_of_eq hD)
  obtain ⟨W, w0, wend, turn⟩ := q D hDn
  generalize hs3 : ({ s2 with heap := s2.heap.push { cls := .type "list", data := .seq ([] : List Value).toArray } } : Shared) = s3
  have h3 : s3.heap = s2.heap.push { cls := .type "list", data := .seq ([] : List Value).toArray } := by rw [← hs3]
  have g3 : s3.gens = s2.gens := by rw [← hs3]
  have k3 : ∀ b o, s2.heap.get? b = some o → s3.heap.get? b = some o := fun b o e => by rw [h3]; exact Heap.get?_push_of_some _ e
  have I3 : Inv X pins σ (upd H2 D (.lst [])) s3 := by
    rw [← hs3]
    refine I2.laid (t' := s2.toks) (fun b o e => Heap.get?_push_of_some _ e) (Nat.le_of_eq hD) ⟨Nat.zero_le _, [], 0, .nil, ?_⟩
    rw [← hD]
    exact Heap.get?_push_size _ rfl
  have D3 : D < s3.heap.objs.size := by rw [h3, Heap.size_push, hD]; exact Nat.lt_succ_self _
  have f3 : ∀ b ∈ fp, FpOk X pins (upd H2 D (.lst [])) b ∧ b < s3.heap.objs.size := fun b hb => by
    obtain ⟨a, lt⟩ := f2 b hb
    refine ⟨⟨?_, a.2⟩, by rw [h3, Heap.size_push]; exact Nat.lt_succ_of_lt lt⟩
    rw [upd_ne (by rw [← hD]; exact Nat.ne_of_lt lt)]
    exact a.1
  have I4 := block_start I3 ok hN f3
  have pg := hg s3 (upd H2 D (.lst [])) s3.heap.objs.size (cellsFrom (s3.heap.objs.size + 1) scope.names (cloFrom X.env.cells scope.names [])) fp
  have pe := he s3 (upd H2 D (.lst [])) s3.heap.objs.size (cellsFrom (s3.heap.objs.size + 1) scope.names (cloFrom X.env.cells scope.names [])) fp
  show codeAny _ _ (.compStart (.ListComp elt [⟨tg, iter, [], 0⟩] scope pos) 0 (.ref it) (.ref D) (compEnvC scope (cellsFrom (s3.heap.objs.size + 1) scope.names (cloFrom X.env.cells scope.names [])) s3.heap.objs.size X.env)) (compPost (model X.prog X.w) X.A X.xe use Qf (.ref D) s3.heap.objs.size) { s3 with heap := pushCells (s3.heap.push { cls := .type "dict", data := .dict #[] }) scope.names }
  have k4 : ∀ b o, s3.heap.get? b = some o → (pushCells (s3.heap.push { cls := .type "dict", data := .dict #[] }) scope.names).get? b = some o := fun b o e => pushCells_keeps _ _ _ _ (Heap.get?_push_of_some _ e)
  obtain ⟨aw, tn, pl0, J4, t0, T⟩ := mk s3 _ D _ _ (by exact g3) (by rw [← hs3]) (fun b o e => k4 b o (k3 b o e)) hDn hD.symm D3 I4
  generalize hce : compEnvC scope (cellsFrom (s3.heap.objs.size + 1) scope.names (cloFrom X.env.cells scope.names [])) s3.heap.objs.size X.env = ce at I4 J4 T pg pe ⊢
  have cL : ce.locals = s3.heap.objs.size := by subst hce; rfl
  generalize hH3 : upd H2 D (.lst []) = H3 at I3 I4 J4 T t0 pg pe w0 f3
  generalize hs4 : ({ s3 with heap := pushCells (s3.heap.push { cls := .type "dict", data := .dict #[] }) scope.names } : Shared) = s4 at I4 J4 t0 ⊢
  have k24 : ∀ b o, s2.heap.get? b = some o → s4.heap.get? b = some o := fun b o e => by rw [← hs4]; exact k4 b o (k3 b o e)
  have loop : codeAny (model X.prog X.w) X.A (.compLoop (.ListComp elt [⟨tg, iter, [], 0⟩] scope pos) 0 (.ref it) (.ref D) ce) (compPost (model X.prog X.w) X.A X.xe use Qf (.ref D) s3.heap.objs.size) s4 := by
    refine compLoop_any (fun n s' => n ≤ N ∧ ∃ H' pl, Inv (X.blk s3 H3 scope ce fp) pl (wipe σ (own.map (·.2))) H' s' ∧ tn n H' pl s' ∧ W n H') ?_ N ⟨Nat.le_refl _, H3, pl0, J4, t0, w0⟩
    rintro n s5 ⟨hnN, H5, pl5, I5, t5, w5⟩
    cases n with
    | zero =>
      refine thnF (T.done pl5 _ H5 s5 I5 t5) fun r s6 ⟨hr, I6⟩ => ?_
      subst hr
      have I7 : Inv X pins σ H5 s6 := I3.call' (ch := fp) I6.os I6.base I6.hok I6.bare fun b hb => ⟨(f3 b hb).1.2.2.2.1, (f3 b hb).1.2.1, (f3 b hb).1.2.2.2.2.1, (f3 b hb).1.2.2.2.2.2⟩
      have nC : H5 s3.heap.objs.size = none := by
        have z : H5 ce.locals = none := I6.free
        rw [cL] at z; exact z
      obtain ⟨m, hn, _⟩ := I6.loc
      have hn : s6.heap.Ns ce.locals m := hn
      rw [cL] at hn
      exact hRR D _ s6 m H5 I7 (wend H5 w5) hn (I3.fpOk (H' := H5) (Nat.le_refl _) nC)
    | succ n =>
      refine thnF (T.item n pl5 _ H5 s5 I5 t5) fun r s6 ⟨u, hr, h6⟩ => ?_
      subst hr
      refine thnF h6 fun _ s7 ⟨x, H7, pl7, r7, I7, t7, aw7, y7⟩ => ?_
      refine asleep (pg.run _ _ _ H7 x u _ (inv_stk I7) r7 (turn n H5 hnN w5 x H7 y7)) fun _ s8 G8 h8 b8 on8 => ?_
      obtain ⟨σ8, H8, I8, hw8, q8⟩ := h8
      have I8 := inv_back I8 b8
      refine wpAny_tests_nil ?_
      rw [if_pos rfl]
      refine asleep (pe.run _ _ σ8 H8 _ (inv_stk I8) q8) fun z s9 G9 h9 b9 on9 => ?_
      obtain ⟨yv, H9, I9, r9, ex9, acc, hD9, hz9, w9⟩ := h9
      have I9 := inv_back I9 b9
      refine asleep (app_ok (X := X.blk s3 H3 scope ce fp) (E := fun _ _ => False) (Q := fun v s' => v = .none ∧ Inv (X.blk s3 H3 scope ce fp) pl7 σ8 (upd H9 D (.lst (acc ++ [yv]))) s') (inv_stk I9) hD9 hz9 r9 fun s' I' => ⟨rfl, I'⟩) fun _ s10 G10 h10 b10 on10 => ?_
      obtain ⟨_, I10⟩ := h10
      have I10 := inv_back I10 b10
      have hl : (wipe σ (own.map (·.2))).length = σ8.length := by rw [← hw8, wipe_length]
      refine ⟨n, Nat.lt_succ_self n, Nat.le_of_succ_le hnN, _, pl7, I10.weak hl (fun j v e => ?_), T.keep n H7 _ pl7 s7 s10 t7 aw7 (I10.os.trans I7.os.symm) (fun o u e => by rw [ex9 _ _ e] at hD9; cases hD9) (fun b u ne e => ?_) ((on8.trans on9).trans on10), w9⟩
      · rw [← hw8] at e
        exact (wipe_some e).1
      · rw [upd_ne ne]; exact ex9 _ _ e
  exact codeAny_compStart_list loop (self X.A _ _ s4 k24 loop)
end
/-- name = such a comprehension -/
theorem ps_setLcG {X : Cx} {i : Nat} {y : Str} {py : Pos} {elt tg iter : Expr} {scope : Scope} {own : List (Str × Nat)} {pos spos : Pos} {wi : L2.St → Hp → ((Nat → Hp → V → Hp → Prop) → Nat → Hp → Prop) → Prop} {g : TG} {te : TE} (hc : X.calm = true) (hN : X.N.Nodup) (hy : X.N[i]? = some y) (hyl : X.env.scope.names.lookup y = some .local)
    (hsw : swapsWith (.ListComp elt [⟨tg, iter, [], 0⟩] scope pos) (some (.Name y py)) spos.line X.env = pure true) (hi : PG2 X tg iter scope wi) (ok : BlkOk X.N X.env.scope scope own)
    (hg : ∀ (s : Shared) (H : Hp) (C : Addr) (cl : List (Str × Addr)) (fp : List Addr), PG (X.blk s H scope (compEnvC scope cl C X.env) fp) tg g) (he : ∀ (s : Shared) (H : Hp) (C : Addr) (cl : List (Str × Addr)) (fp : List Addr), PE (X.blk s H scope (compEnvC scope cl C X.env) fp) elt te) (hs : ∀ x, foldedSetIterable iter X.env x = pure x := by intro _; rfl) :
    PS X (.Assign [.Name y py] (.ListComp elt [⟨tg, iter, [], 0⟩] scope pos) spos) (tAsg (tLcG wi g te (own.map (·.2))) (gName i)) := by
  constructor
  intro pins s σ H D I h
  rw [exec_Assign_Name_used _ _ _ _ hsw]
  refine wpAny_bind (wpAny_standAt (wpAny_bind ?_))
  show wpAny _ X.A (do let _ ← comprehension (.ListComp elt [⟨tg, iter, [], 0⟩] scope pos) scope X.env (firstIterPos [⟨tg, iter, [], 0⟩] pos) (newList []) false (eval iter X.env) (some (assign (.Name y py) X.env))) _ _ s
  have h : tLcG wi g te (own.map (·.2)) σ H (fun x H1 => gName i x σ H1 D.nx) := h
  refine wpAny_bind (thn (lcG_core (Qf := fun _ s' => SP X pins D .next s') hc hN I hi ok hg he hs h fun L C s' m H' I' q hn fo => wpAny_assign_Name (store_ok2 (v := V.ref L) I' hN hy (.inl hyl) rfl (fun s2 I2 ⟨a, sb, ha⟩ => ?_) (.inr hyl))) fun _ s' hq => wpAny_pure (wpAny_pure hq))
  obtain ⟨f0, f1, f2, f3, f4, f5⟩ := fo
  have nCa : C ≠ a := by
    rcases ha with z | z
    · rw [z]; exact f1
    · exact fun e => f4 y a z e.symm
  exact ⟨m, hn.sameBut sb nCa, fun h3 sb3 => ⟨_, H', I2.turned (t' := s2.toks) (fun b o hb e => (sb3.2 b hb).trans e) f0 f1 f3 f4 f5, q⟩⟩
end Mc
namespace Mk
open PySem L2 Mc Evl
def topS (i : Nat) : Stmt := PySem.Challenge.pw_monthclamp_k19_renewals_one_by_one.main.body.getD i (.Pass ⟨0, 0, 0, 0⟩)
abbrev s_is_leap : Stmt := topS 7
theorem sc_is_leap : FnScope ["year"] ["year"] (defScope s_is_leap) := ⟨rfl, rfl, rfl, by decide +kernel, rfl, by decide +kernel, by decide +kernel⟩
abbrev s_days_in : Stmt := topS 8
theorem sc_days_in : FnScope ["year", "month"] ["year", "month"] (defScope s_days_in) := ⟨rfl, rfl, rfl, by decide +kernel, rfl, by decide +kernel, by decide +kernel⟩
abbrev s_check_date : Stmt := topS 10
theorem sc_check_date : FnScope ["date", "year", "month", "day"] ["date"] (defScope s_check_date) := ⟨rfl, rfl, rfl, by decide +kernel, rfl, by decide +kernel, by decide +kernel⟩
abbrev s_move : Stmt := topS 12
theorem sc_move : FnScope ["date", "steps", "year", "month", "day", "place", "step"] ["date", "steps"] (defScope s_move) := ⟨rfl, rfl, rfl, by decide +kernel, rfl, by decide +kernel, by decide +kernel⟩
abbrev s_renew : Stmt := topS 14
theorem sc_renew : FnScope ["date", "step", "times", "single"] ["date", "step", "times"] (defScope s_renew) := ⟨rfl, rfl, rfl, by decide +kernel, rfl, by decide +kernel, by decide +kernel⟩
abbrev s_anchored : Stmt := topS 15
theorem sc_anchored : FnScope ["date", "step", "times"] ["date", "step", "times"] (defScope s_anchored) := ⟨rfl, rfl, rfl, by decide +kernel, rfl, by decide +kernel, by decide +kernel⟩
abbrev s_renewal_dates : Stmt := topS 16
theorem sc_renewal_dates : GScope ["date", "step"] ["date", "step"] (defScope s_renewal_dates) := ⟨rfl, rfl, rfl, by decide +kernel, rfl, by decide +kernel, by decide +kernel⟩
abbrev s_check : Stmt := topS 17
theorem sc_check : FnScope ["date", "times"] ["date", "times"] (defScope s_check) := ⟨rfl, rfl, rfl, by decide +kernel, rfl, by decide +kernel, by decide +kernel⟩
abbrev s_law_pool : Stmt := topS 19
theorem sc_law_pool : FnScope ["script", "at", "cell"] ["script", "at"] (defScope s_law_pool) := ⟨rfl, rfl, rfl, by decide +kernel, rfl, by decide +kernel, by decide +kernel⟩
abbrev s_law_draw : Stmt := topS 20
theorem sc_law_draw : FnScope ["pool", "many", "drawn", "mixed"] ["pool", "many"] (defScope s_law_draw) := ⟨rfl, rfl, rfl, by decide +kernel, rfl, by decide +kernel, by decide +kernel⟩
abbrev s_law_days : Stmt := topS 21
theorem sc_law_days : FnScope ["number", "year", "month"] ["number"] (defScope s_law_days) := ⟨rfl, rfl, rfl, by decide +kernel, rfl, by decide +kernel, by decide +kernel⟩
abbrev s_law_great : Stmt := topS 22
theorem sc_law_great : FnScope ["pool", "found"] ["pool"] (defScope s_law_great) := ⟨rfl, rfl, rfl, by decide +kernel, rfl, by decide +kernel, by decide +kernel⟩
abbrev s_law_date : Stmt := topS 23
theorem sc_law_date : FnScope ["pool", "year", "month", "longest", "day"] ["pool"] (defScope s_law_date) := ⟨rfl, rfl, rfl, by decide +kernel, rfl, by decide +kernel, by decide +kernel⟩
abbrev s_law_stride : Stmt := topS 24
theorem sc_law_stride : FnScope ["pool", "most", "found"] ["pool", "most"] (defScope s_law_stride) := ⟨rfl, rfl, rfl, by decide +kernel, rfl, by decide +kernel, by decide +kernel⟩
abbrev s_law_along : Stmt := topS 25
theorem sc_law_along : FnScope ["begun", "strides", "found", "number", "day", "stride"] ["begun", "strides"] (defScope s_law_along) := ⟨rfl, rfl, rfl, by decide +kernel, rfl, by decide +kernel, by decide +kernel⟩
abbrev s_law_first : Stmt := topS 26
theorem sc_law_first : FnScope ["begun", "stride", "many", "found", "one"] ["begun", "stride", "many"] (defScope s_law_first) := ⟨rfl, rfl, rfl, by decide +kernel, rfl, by decide +kernel, by decide +kernel⟩
abbrev s_law_right : Stmt := topS 27
theorem sc_law_right : FnScope ["pool", "begun", "stride", "due", "often", "told", "named", "at_once", "few", "both", "at", "one", "two"] ["pool"] (defScope s_law_right) := ⟨rfl, rfl, rfl, by decide +kernel, rfl, by decide +kernel, by decide +kernel⟩
abbrev s_law : Stmt := topS 28
theorem sc_law : FnScope ["script", "at", "pool", "turn", "begun", "stride"] ["script"] (defScope s_law) := ⟨rfl, rfl, rfl, by decide +kernel, rfl, by decide +kernel, by decide +kernel⟩
structure Top (K : PySem.W.Frag) (mg : Str → Option Value) where
  f_is_leap : Addr
  fd_is_leap : FuncData
  F_is_leap : Fun K "is_leap" "is_leap" s_is_leap f_is_leap fd_is_leap
  g_is_leap : mg "is_leap" = some (.ref f_is_leap)
  b_is_leap : Binds K fd_is_leap ["year"] []
  f_days_in : Addr
  fd_days_in : FuncData
  F_days_in : Fun K "days_in" "days_in" s_days_in f_days_in fd_days_in
  g_days_in : mg "days_in" = some (.ref f_days_in)
  b_days_in : Binds K fd_days_in ["year", "month"] []
  f_check_date : Addr
  fd_check_date : FuncData
  F_check_date : Fun K "check_date" "check_date" s_check_date f_check_date fd_check_date
  g_check_date : mg "check_date" = some (.ref f_check_date)
  b_check_date : Binds K fd_check_date ["date"] []
  f_move : Addr
  fd_move : FuncData
  F_move : Fun K "move" "move" s_move f_move fd_move
  g_move : mg "move" = some (.ref f_move)
  b_move : Binds K fd_move ["date", "steps"] []
  f_renew : Addr
  fd_renew : FuncData
  F_renew : Fun K "renew" "renew" s_renew f_renew fd_renew
  g_renew : mg "renew" = some (.ref f_renew)
  b_renew : Binds K fd_renew ["date", "step", "times"] []
  f_anchored : Addr
  fd_anchored : FuncData
  F_anchored : Fun K "anchored" "anchored" s_anchored f_anchored fd_anchored
  g_anchored : mg "anchored" = some (.ref f_anchored)
  b_anchored : Binds K fd_anchored ["date", "step", "times"] []
  f_renewal_dates : Addr
  fd_renewal_dates : FuncData
  F_renewal_dates : Fun K "renewal_dates" "renewal_dates" s_renewal_dates f_renewal_dates fd_renewal_dates
  g_renewal_dates : mg "renewal_dates" = some (.ref f_renewal_dates)
  b_renewal_dates : Binds K fd_renewal_dates ["date", "step"] []
  f_check : Addr
  fd_check : FuncData
  F_check : Fun K "_check" "_check" s_check f_check fd_check
  g_check : mg "_check" = some (.ref f_check)
  b_check : Binds K fd_check ["date", "times"] []
  f_law_pool : Addr
  fd_law_pool : FuncData
  F_law_pool : Fun K "_law_pool" "_law_pool" s_law_pool f_law_pool fd_law_pool
  g_law_pool : mg "_law_pool" = some (.ref f_law_pool)
  b_law_pool : Binds K fd_law_pool ["script", "at"] []
  f_law_draw : Addr
  fd_law_draw : FuncData
  F_law_draw : Fun K "_law_draw" "_law_draw" s_law_draw f_law_draw fd_law_draw
  g_law_draw : mg "_law_draw" = some (.ref f_law_draw)
  b_law_draw : Binds K fd_law_draw ["pool", "many"] []
  f_law_days : Addr
  fd_law_days : FuncData
  F_law_days : Fun K "_law_days" "_law_days" s_law_days f_law_days fd_law_days
  g_law_days : mg "_law_days" = some (.ref f_law_days)
  b_law_days : Binds K fd_law_days ["number"] []
  f_law_great : Addr
  fd_law_great : FuncData
  F_law_great : Fun K "_law_great" "_law_great" s_law_great f_law_great fd_law_great
  g_law_great : mg "_law_great" = some (.ref f_law_great)
  b_law_great : Binds K fd_law_great ["pool"] []
  f_law_date : Addr
  fd_law_date : FuncData
  F_law_date : Fun K "_law_date" "_law_date" s_law_date f_law_date fd_law_date
  g_law_date : mg "_law_date" = some (.ref f_law_date)
  b_law_date : Binds K fd_law_date ["pool"] []
  f_law_stride : Addr
  fd_law_stride : FuncData
  F_law_stride : Fun K "_law_stride" "_law_stride" s_law_stride f_law_stride fd_law_stride
  g_law_stride : mg "_law_stride" = some (.ref f_law_stride)
  b_law_stride : Binds K fd_law_stride ["pool", "most"] []
  f_law_along : Addr
  fd_law_along : FuncData
  F_law_along : Fun K "_law_along" "_law_along" s_law_along f_law_along fd_law_along
  g_law_along : mg "_law_along" = some (.ref f_law_along)
  b_law_along : Binds K fd_law_along ["begun", "strides"] []
  f_law_first : Addr
  fd_law_first : FuncData
  F_law_first : Fun K "_law_first" "_law_first" s_law_first f_law_first fd_law_first
  g_law_first : mg "_law_first" = some (.ref f_law_first)
  b_law_first : Binds K fd_law_first ["begun", "stride", "many"] []
  f_law_right : Addr
  fd_law_right : FuncData
  F_law_right : Fun K "_law_right" "_law_right" s_law_right f_law_right fd_law_right
  g_law_right : mg "_law_right" = some (.ref f_law_right)
  b_law_right : Binds K fd_law_right ["pool"] []
  f_law : Addr
  fd_law : FuncData
  F_law : Fun K "law" "law" s_law f_law fd_law
  g_law : mg "law" = some (.ref f_law)
  b_law : Binds K fd_law ["script"] []
  z_abs : mg "abs" = none
  z_int : mg "int" = none
  z_isinstance : mg "isinstance" = none
  z_len : mg "len" = none
  z_max : mg "max" = none
  z_min : mg "min" = none
  z_range : mg "range" = none
  z_tuple : mg "tuple" = none
  z_zip : mg "zip" = none
  a_DAYS_IN_COMMON_YEAR : Addr
  g_DAYS_IN_COMMON_YEAR : mg "_DAYS_IN_COMMON_YEAR" = some (.ref a_DAYS_IN_COMMON_YEAR)
  q_DAYS_IN_COMMON_YEAR : ∀ H : Hp, SqT K H a_DAYS_IN_COMMON_YEAR [.int 31, .int 28, .int 31, .int 30, .int 31, .int 30, .int 31, .int 31, .int 30, .int 31, .int 30, .int 31]
  t_CYCLE : Tok
  g_CYCLE : mg "CYCLE" = some (.int 4800 t_CYCLE)
def spLaw (K : PySem.W.Frag) : Sp := fun vs H Q _ => ∃ (a : Addr) (ns : List Int), vs = [.ref a] ∧ SqL K H a (ns.map V.int) ∧ ns.length ≤ 63 ∧ ∀ H', Q (.bl true) H'
section
variable {P : Program} {w : World} {K : PySem.W.Frag} {mg : Str → Option Value} {base : Heap}
def kg_anchored_date_step_times {α : Type} : List α → List α → List α := fun us ws => us ++ ws
theorem kb_anchored_date_step_times {K : PySem.W.Frag} {f : Addr} {fd : FuncData} (F : Fun K "anchored" "anchored" s_anchored f fd) : KBn K fd ["date", "step", "times"] 0 ["date", "step", "times"] kg_anchored_date_step_times kg_anchored_date_step_times := by
  obtain ⟨oc, od, kV, doc, pm, an, cdv, ct, osl, rfl, lk, hcd⟩ := F.ex
  refine ⟨fun s us ws _ hl hm => ?_, fun {vs us zs ws} r rz => r.append rz⟩
  match us, ws, hl, hm with
  | [], [w0, w1, w2], _, _ => exact .of_eq rfl

def kg_renew_date_step_times {α : Type} : List α → List α → List α := fun us ws => us ++ ws
theorem kb_renew_date_step_times {K : PySem.W.Frag} {f : Addr} {fd : FuncData} (F : Fun K "renew" "renew" s_renew f fd) : KBn K fd ["date", "step", "times"] 0 ["date", "step", "times"] kg_renew_date_step_times kg_renew_date_step_times := by
  obtain ⟨oc, od, kV, doc, pm, an, cdv, ct, osl, rfl, lk, hcd⟩ := F.ex
  refine ⟨fun s us ws _ hl hm => ?_, fun {vs us zs ws} r rz => r.append rz⟩
  match us, ws, hl, hm with
  | [], [w0, w1, w2], _, _ => exact .of_eq rfl
local macro_rules | `(tactic| walk_at "fw") => `(tactic| repeat (first
  | with_reducible refine f_seq ?_
  | with_reducible refine f_asg ?_
  | with_reducible refine f_gName ?_
  | with_reducible refine f_ret ?_
  | with_reducible refine f_op ?_
  | with_reducible refine f_un ?_
  | with_reducible refine f_c ?_
  | ((with_reducible apply f_var); exact rfl)
  | with_reducible refine f_I0 ?_
  | with_reducible refine f_U ?_
  | ((with_reducible refine f_I ?fwh ?_); case fwh => first | assumption | (unfold CPow; omega) | (unfold CDivW; omega) | (unfold CDiv; omega) | (exact wide_mul (a := 20) (b := 64) (by omega) (by omega) (by decide) (by decide) (by decide)) | (exact wide_mul (a := 64) (b := 20) (by omega) (by omega) (by decide) (by decide) (by decide)) | (exact wide_mul (a := 160) (b := 160) (by omega) (by omega) (by decide) (by decide) (by decide)) | decide | omega)
  | with_reducible refine f_eqI ?_
  | with_reducible refine f_neI ?_
  | with_reducible refine f_test ?_
  | with_reducible refine f_B ?_
  | with_reducible refine f_bl ?_
  | with_reducible refine f_and ?_
  | with_reducible refine f_or ?_
  | with_reducible refine f_not ?_
  | with_reducible refine f_next ?_
  | with_reducible refine f_drop ?_
  | with_reducible refine f_ifS ?_
  | with_reducible refine f_if ?_
  | with_reducible refine f_call ?_
  | with_reducible refine f_nil ?_
  | with_reducible refine f_cons ?_
  | with_reducible refine f_tup ?_
  | with_reducible refine f_lst ?_
  | with_reducible refine f_cb ?_))

local macro_rules | `(tactic| walk_at "fs") => `(tactic| repeat (first
  | with_reducible refine f_seq ?_
  | with_reducible refine f_asg ?_
  | with_reducible refine f_gName ?_
  | with_reducible refine f_ret ?_
  | with_reducible refine f_c ?_
  | ((with_reducible apply f_var); exact rfl)
  | with_reducible refine f_test ?_
  | with_reducible refine f_B ?_
  | with_reducible refine f_bl ?_
  | with_reducible refine f_and ?_
  | with_reducible refine f_or ?_
  | with_reducible refine f_not ?_
  | with_reducible refine f_next ?_
  | with_reducible refine f_drop ?_
  | with_reducible refine f_nil ?_
  | with_reducible refine f_ifS ?_))

def leap (y : Int) : Bool := decide (y % 4 = 0) && (!decide (y % 100 = 0) || decide (y % 400 = 0))
def D_leap (vs : List V) (z : V) : Prop := ∃ y : Int, vs = [.int y] ∧ z = .bl (leap y)
theorem ok_is_leap (T : Top K mg) : FnOk P w K mg base CX0 1 T.f_is_leap T.fd_is_leap ["year"] (spF D_leap) := by
  refine T.F_is_leap.ok sc_is_leap (fun vs H Q E h => ?_) (fun cdv A outer s H vs Q E hr h => ?_)
  · obtain ⟨z, ⟨y, rfl, _⟩, _⟩ := h; rfl
  · obtain ⟨z, ⟨y, rfl, rfl⟩, q⟩ := h
    refine ⟨_, (pss_one (ps_ret (pe_and (pe_cmpR op_eq (pe_op op_mod (pv 0) pe_int) pe_int (nomark _)) (pe_one (pe_or (pe_cmpR op_ne (pe_op op_mod (pv 0) pe_int) pe_int (nomark _)) (pe_one (pe_cmpR op_eq (pe_op op_mod (pv 0) pe_int) pe_int (nomark _)))))))), ?_⟩
    exact s_ret (ev_andV (ev_op (ev_op (ev_var rfl) ev_c (rv_I (by decide))) ev_c rv_eqI) fun _ => ev_orV (ev_op (ev_op (ev_var rfl) ev_c (rv_I (by decide))) ev_c rv_neI) fun _ => ev_op (ev_op (ev_var rfl) ev_c (rv_I (by decide))) ev_c rv_eqI) q
def lleap (y : Int) : Bool := decide (y % 400 = 0) || (decide (y % 4 = 0) && !decide (y % 100 = 0))
theorem lleap_eq (y : Int) : lleap y = leap y := by
  unfold lleap leap
  by_cases h4 : y % 400 = 0
  · have a : y % 4 = 0 := by omega
    have b : y % 100 = 0 := by omega
    simp [h4, a, b]
  · simp [h4]

/-! the lengths of months -/
def mlist (y : Int) : List Int := [31, 28 + b2 (leap y), 31, 30, 31, 30, 31, 31, 30, 31, 30, 31]
def dlen (y m : Int) : Int := (mlist y).getD (m - 1).toNat 0
def D_days (vs : List V) (z : V) : Prop := ∃ y m : Int, vs = [.int y, .int m] ∧ 1 ≤ m ∧ m ≤ 12 ∧ z = .int (dlen y m)
theorem ok_days_in (T : Top K mg) : FnOk P w K mg base CX0 2 T.f_days_in T.fd_days_in ["year", "month"] (spF D_days) := by
  have G_is_leap : FnOk P w K mg base CX0 1 T.f_is_leap T.fd_is_leap ["year"] (spF D_leap) := ok_is_leap T
  refine T.F_days_in.ok sc_days_in (fun vs H Q E h => ?_) (fun cdv A outer s H vs Q E hr h => ?_)
  · obtain ⟨z, ⟨y, m, rfl, _⟩, _⟩ := h; rfl
  · obtain ⟨z, ⟨y, m, rfl, h1, h12, rfl⟩, q⟩ := h
    refine ⟨_, (pss_cons (ps_if (PW.pt (pw_or (pt_cmpR op_lt (pv 1) pe_int (nomark _)) (pw_or1 (pt_cmpR op_gt (pv 1) pe_int (nomark _))))) (pss_one ps_never) pss_nil)
      (pss_cons (ps_if (PW.pt (pw_and (pt_cmpR op_eq (pv 1) pe_int (nomark _)) (pw_and1 (pt_val (pe_call G_is_leap (hr.mono (by first | decide | omega)) (by rfl) T.g_is_leap T.F_is_leap.kp T.b_is_leap .nil pass0 (pa_cons (pv 0) pa_nil)))))) (pss_one (ps_ret pe_int)) pss_nil)
      (pss_one (ps_ret (pe_ix (r := rIxT K) ix_tup (pe_glob (v := .ref T.a_DAYS_IN_COMMON_YEAR) (by rfl) T.g_DAYS_IN_COMMON_YEAR rfl) (pe_op op_sub (pv 1) pe_int) (fun _ _ => rfl)))))), ?_⟩
    refine f_seq (s_if (et_or (et_test (ev_op (ev_var rfl) ev_c rv_I0)) fun _ => et_test (ev_op (ev_var rfl) ev_c rv_I0)) (fun h => ?_) fun _ H1 e1 => ?_)
    · simp at h; omega
    refine f_seq (s_if (et_and (et_test (ev_op (ev_var rfl) ev_c rv_eqI)) fun _ => et_B (ev_call (ea_cons (ev_var rfl) ea_nil) (sv_F ⟨y, rfl, rfl⟩))) (fun h H2 e2 => ?_) fun h H2 e2 => ?_)
    · simp at h
      obtain ⟨rfl, h⟩ := h
      refine s_ret ev_c fun H3 e3 => ?_
      have e : dlen y 2 = 29 := by simp [dlen, mlist, h, b2]
      rw [e] at q
      exact q _ ((e1.trans e2).trans e3)
    · have hm : m = 1 ∨ m = 2 ∨ m = 3 ∨ m = 4 ∨ m = 5 ∨ m = 6 ∨ m = 7 ∨ m = 8 ∨ m = 9 ∨ m = 10 ∨ m = 11 ∨ m = 12 := by omega
      have hq : atI ([.int 31, .int 28, .int 31, .int 30, .int 31, .int 30, .int 31, .int 31, .int 30, .int 31, .int 30, .int 31] : List V) (m - 1) = some (.int (dlen y m)) := by
        rcases hm with rfl | rfl | rfl | rfl | rfl | rfl | rfl | rfl | rfl | rfl | rfl | rfl
        case inr.inl =>
          simp at h
          have e : dlen y 2 = 28 := by simp [dlen, mlist, h, b2]
          rw [e]; exact atI_nat (j := 1) rfl
        all_goals (first | exact atI_nat (j := 0) rfl | exact atI_nat (j := 2) rfl | exact atI_nat (j := 3) rfl | exact atI_nat (j := 4) rfl | exact atI_nat (j := 5) rfl | exact atI_nat (j := 6) rfl | exact atI_nat (j := 7) rfl | exact atI_nat (j := 8) rfl | exact atI_nat (j := 9) rfl | exact atI_nat (j := 10) rfl | exact atI_nat (j := 11) rfl)
      exact s_ret (ev_op ev_c (ev_op (ev_var rfl) ev_c rv_I0) (rv_ixT (T.q_DAYS_IN_COMMON_YEAR _) hq)) fun H3 e3 => q _ ((e1.trans e2).trans e3)

/-- the length of the month with a number, months counted on from January of year 0 -/
def mlen (n : Int) : Int := dlen (n / 12) (n % 12 + 1)
theorem dlen_bounds (y m : Int) (h1 : 1 ≤ m) (h2 : m ≤ 12) : 28 ≤ dlen y m ∧ dlen y m ≤ 31 := by
  have hm : m = 1 ∨ m = 2 ∨ m = 3 ∨ m = 4 ∨ m = 5 ∨ m = 6 ∨ m = 7 ∨ m = 8 ∨ m = 9 ∨ m = 10 ∨ m = 11 ∨ m = 12 := by omega
  have hb : b2 (leap y) = 0 ∨ b2 (leap y) = 1 := by unfold b2; split <;> simp
  rcases hm with rfl | rfl | rfl | rfl | rfl | rfl | rfl | rfl | rfl | rfl | rfl | rfl <;> simp [dlen, mlist] <;> omega
theorem mlen_bounds (n : Int) : 28 ≤ mlen n ∧ mlen n ≤ 31 := dlen_bounds _ _ (by omega) (by omega)
def D_mlen (vs : List V) (z : V) : Prop := ∃ n : Int, vs = [.int n] ∧ z = .int (mlen n)
/-- a date stands at p -/
def DateAt (K : PySem.W.Frag) (H : Hp) (p : Addr) (y m d : Int) : Prop := SqT K H p [.int y, .int m, .int d]
/-- it exists -/
def Exists_ (y m d : Int) : Prop := 1 ≤ m ∧ m ≤ 12 ∧ 1 ≤ d ∧ d ≤ dlen y m
def D_check (K : PySem.W.Frag) (H : Hp) (vs : List V) (z : V) : Prop := ∃ (p : Addr) (y m d : Int), vs = [.ref p] ∧ DateAt K H p y m d ∧ Exists_ y m d ∧ z = .non
theorem ok_check_date (T : Top K mg) : FnOk P w K mg base CX0 3 T.f_check_date T.fd_check_date ["date"] (spH (D_check K)) := by
  have G_days_in : FnOk P w K mg base CX0 2 T.f_days_in T.fd_days_in ["year", "month"] (spF D_days) := ok_days_in T
  refine T.F_check_date.ok sc_check_date (fun vs H Q E h => ?_) (fun cdv A outer s H vs Q E hr h => ?_)
  · obtain ⟨z, ⟨p, y, m, d, rfl, _⟩, _⟩ := h; rfl
  · obtain ⟨z, ⟨p, y, m, d, rfl, hD, ⟨h1, h2, h3, h4⟩, rfl⟩, q⟩ := h
    refine ⟨_, (pss_cons (ps_asg (pv 0) (pg_tup rfl (pgs_cons (pg_name (i := 1) sc_check_date.nd rfl (Or.inl rfl)) (pgs_cons (pg_name (i := 2) sc_check_date.nd rfl (Or.inl rfl)) (pgs_cons (pg_name (i := 3) sc_check_date.nd rfl (Or.inl rfl)) pgs_nil)))))
      (pss_cons (ps_if (PW.pt (pw_or (pt_cmpR op_lt (pv 2) pe_int (nomark _)) (pw_or1 (pt_cmpR op_gt (pv 2) pe_int (nomark _))))) (pss_one ps_never) pss_nil)
      (pss_one (ps_if (PW.pt (pw_or (pt_cmpR op_lt (pv 3) pe_int (nomark _)) (pw_or1 (pt_cmpR op_gt (pv 3) (pe_call G_days_in (hr.mono (by first | decide | omega)) (by rfl) T.g_days_in T.F_days_in.kp T.b_days_in .nil pass0 (pa_cons (pv 1) (pa_cons (pv 2) pa_nil))) (nomark _))))) (pss_one ps_never) pss_nil)))), ?_⟩
    refine f_seq (s_un3 (ev_var rfl) hD fun H1 e1 => ?_)
    refine f_seq (s_if (et_or (et_test (ev_op (ev_var rfl) ev_c rv_I0)) fun _ => et_test (ev_op (ev_var rfl) ev_c rv_I0)) (fun hb _ _ => ?_) fun _ H2 e2 => ?_)
    · simp at hb; omega
    refine s_if (et_or (et_test (ev_op (ev_var rfl) ev_c rv_I0)) fun _ => et_test (ev_op (ev_var rfl) (ev_call (ea_cons (ev_var rfl) (ea_cons (ev_var rfl) ea_nil)) (sv_F ⟨y, m, rfl, h1, h2, rfl⟩)) rv_I0)) (fun hb _ _ => ?_) fun _ H3 e3 => ?_
    · simp at hb; omega
    exact q H3 ((e1.trans e2).trans e3)
def mvs (st : Int × Int) (k : Int) : Int × Int := (st.1 + k, min st.2 (mlen (st.1 + k)))
def mrun (st : Int × Int) (ks : List Int) : Int × Int := ks.foldl mvs st
/-- the date at a place -/
def tupD (st : Int × Int) : List V := [.int (st.1 / 12), .int (st.1 % 12 + 1), .int st.2]
theorem mrun_take {st : Int × Int} {ks : List Int} {i : Nat} {k : Int} (h : ks[i]? = some k) : mrun st (ks.take (i + 1)) = mvs (mrun st (ks.take i)) k := by
  unfold mrun
  rw [List.take_add_one, h, List.foldl_append]
  rfl
def D_move (K : PySem.W.Frag) (H : Hp) (vs xs : List V) : Prop := ∃ (p l : Addr) (y m d : Int) (ks : List Int), vs = [.ref p, .ref l] ∧ DateAt K H p y m d ∧ Exists_ y m d ∧ SqL K H l (ks.map V.int) ∧ xs = tupD (mrun (12 * y + m - 1, d) ks) ∧ y.natAbs ≤ 10 ^ 100
theorem int_of_map {ns : List Int} {i : Nat} {x : V} (h : (ns.map V.int)[i]? = some x) : ∃ z, x = V.int z ∧ ns[i]? = some z := by
  rw [List.getElem?_map] at h
  cases e : ns[i]? with
  | none => rw [e] at h; cases h
  | some z => rw [e] at h; exact ⟨z, (Option.some.inj h).symm, rfl⟩
theorem ok_move (T : Top K mg) : FnOk P w K mg base CX0 4 T.f_move T.fd_move ["date", "steps"] (spU (D_move K)) := by
  have G_days_in : FnOk P w K mg base CX0 2 T.f_days_in T.fd_days_in ["year", "month"] (spF D_days) := ok_days_in T
  have G_check_date : FnOk P w K mg base CX0 3 T.f_check_date T.fd_check_date ["date"] (spH (D_check K)) := ok_check_date T
  refine T.F_move.ok sc_move (fun vs H Q E h => ?_) (fun cdv A outer s H vs Q E hr h => ?_)
  · obtain ⟨z, ⟨p, l, y, m, d, ks, rfl, _⟩, _⟩ := h; rfl
  · obtain ⟨z, ⟨p, l, y, m, d, ks, rfl, hD, hE, hL, rfl, hy⟩, q⟩ := h
    refine ⟨_, (pss_cons (ps_expr (pe_call G_check_date (hr.mono (by first | decide | omega)) (by rfl) T.g_check_date T.F_check_date.kp T.b_check_date .nil pass0 (pa_cons (pv 0) pa_nil)))
      (pss_cons (ps_asg (pv 0) (pg_tup rfl (pgs_cons (pg_name (i := 2) sc_move.nd rfl (Or.inl rfl)) (pgs_cons (pg_name (i := 3) sc_move.nd rfl (Or.inl rfl)) (pgs_cons (pg_name (i := 4) sc_move.nd rfl (Or.inl rfl)) pgs_nil)))))
      (pss_cons (ps_set (i := 5) sc_move.nd rfl (Or.inl rfl) (pe_op op_sub (pe_op op_add (pe_op op_mulW pe_int (pv 2)) (pv 3)) pe_int))
      (pss_cons (ps_for PassesOwn.never rfl (pi_list (pv 1)) (pg_name (i := 6) sc_move.nd rfl (Or.inl rfl)) (pss_cons (ps_set (i := 5) sc_move.nd rfl (Or.inl rfl) (pe_op op_add (pv 5) (pv 6)))
      (pss_one (ps_set (i := 4) sc_move.nd rfl (Or.inl rfl) (pe_callB (call_min2 rfl) (by rfl) T.z_min (by decide +kernel) (pa_cons (pv 4) (pa_cons (pe_call G_days_in (hr.mono (by first | decide | omega)) (by rfl) T.g_days_in T.F_days_in.kp T.b_days_in .nil pass0 (pa_cons (pe_op op_fdivW (pv 5) pe_int) (pa_cons (pe_op op_add (pe_op op_mod (pv 5) pe_int) pe_int) pa_nil))) pa_nil)))))))
      (pss_one (ps_ret (pe_tup (pa_cons (pe_op op_fdivW (pv 5) pe_int) (pa_cons (pe_op op_add (pe_op op_mod (pv 5) pe_int) pe_int) (pa_cons (pv 4) pa_nil)))))))))), ?_⟩
    refine f_seq (s_drop (ev_call (ea_cons (ev_var rfl) ea_nil) (sv_H (z := .non) fun H1 e1 => ⟨p, y, m, d, rfl, ex_t e1 hD, hE, rfl⟩)) fun H1 e1 => ?_)
    refine f_seq (s_un3 (ev_var rfl) (ex_t e1 hD) fun H2 e2 => ?_)
    refine f_seq (s_asg (ev_op (ev_op (ev_op ev_c (ev_var rfl) (rv_mul (by decide) hy)) (ev_var rfl) rv_I0) ev_c rv_I0) fun H3 e3 => ?_)
    have e03 := (e1.trans e2).trans e3
    refine f_seq (s_forL (xs := ks.map V.int) (ev_var rfl) (ex_l e03 hL) (fun i σ H' => ∃ v6 : Option V, σ = [some (.ref p), some (.ref l), some (.int y), some (.int m), some (.int (mrun (12 * y + m - 1, d) (ks.take i)).2), some (.int (mrun (12 * y + m - 1, d) (ks.take i)).1), v6] ∧ Ex H H')
      (fun H4 e4 => ⟨none, rfl, e03.trans e4⟩) (fun i σ H' _ ⟨_, _, e⟩ => ex_l e hL) (fun i x σ H' hx ⟨v6, hσ, e⟩ => ?_) fun σ H' ⟨v6, hσ, e⟩ => ?_)
    · subst hσ
      obtain ⟨k, rfl, hk⟩ := int_of_map hx
      rw [mrun_take hk]
      generalize mrun (12 * y + m - 1, d) (ks.take i) = st
      refine f_gName (f_seq (s_asg (ev_op (ev_var rfl) (ev_var rfl) rv_I0) fun H5 e5 => ?_))
      refine s_asg (ev_min2 (ev_var rfl) (ev_call (ea_cons (ev_op (ev_var rfl) ev_c (rv_div (by decide) (by decide))) (ea_cons (ev_op (ev_op (ev_var rfl) ev_c (rv_mod (by decide))) ev_c rv_I0) ea_nil)) (sv_F ⟨_, _, rfl, by omega, by omega, rfl⟩))) fun H6 e6 => ?_
      exact ⟨_, rfl, (e.trans e5).trans e6⟩
    · subst hσ
      rw [show ks.take (ks.map V.int).length = ks by rw [List.length_map]; exact List.take_of_length_le (Nat.le_refl _)]
      exact s_retU (eu_tup (ea_cons (ev_op (ev_var rfl) ev_c (rv_div (by decide) (by decide))) (ea_cons (ev_op (ev_op (ev_var rfl) ev_c (rv_mod (by decide))) ev_c rv_I0) (ea_cons (ev_var rfl) ea_nil))) (by show 3 ≤ 100000; decide)) fun p1 H1 hp e1 h1 => q p1 H1 (fresh_back e hp) (e.trans e1) h1

/-! the draws -/
def spPool (K : PySem.W.Frag) : Sp := fun vs H Q _ => ∃ (a : Addr) (ns : List Int) (t : Nat), vs = [.ref a, .int t] ∧ SqL K H a (ns.map V.int) ∧ t ≤ 60 ∧ ∀ r H', H r = none → Rg H' r (2 ^ 29) → Ex H H' → Q (.ref r) H'
theorem pool_body (T : Top K mg) : FnOk P w K mg base CX0 1 T.f_law_pool T.fd_law_pool ["script", "at"] (spPool K) := by
  refine T.F_law_pool.ok sc_law_pool (fun vs H Q E h => ?_) (fun cdv A outer s H vs Q E hr h => ?_)
  · obtain ⟨a, ns, t, rfl, _⟩ := h; rfl
  · obtain ⟨a, ns, t, rfl, hS, ht, q⟩ := h
    refine ⟨_, (pss_cons (ps_set (i := 2) sc_law_pool.nd rfl (Or.inl rfl) pe_int)
      (pss_cons (ps_if (pt_cmpR op_lt (pv 1) (pe_callB (r := rLenS K) call_len_seq (by rfl) T.z_len PySem.boot_len (pa_cons (pv 0) pa_nil)) (nomark _)) (pss_one (ps_set (i := 2) sc_law_pool.nd rfl (Or.inl rfl) (pe_ix (r := rIxL K) ix_list (pv 0) (pv 1) (fun _ _ => rfl)))) pss_nil)
      (pss_one (ps_ret (pe_lst (pa_cons (pe_callB (call_max2 rfl) (by rfl) T.z_max (by decide +kernel) (pa_cons pe_int (pa_cons (pe_op op_sub (pe_callB call_abs (by rfl) T.z_abs (by decide +kernel) (pa_cons (pv 2) pa_nil)) (pe_op op_pow pe_int pe_int)) pa_nil))) (pa_cons (pe_op op_add (pe_op op_mod (pv 2) pe_int) (pe_op op_mulW pe_int (pe_op op_add (pv 1) pe_int))) (pa_cons pe_int pa_nil)))))))), ?_⟩
    refine f_seq (s_asg ev_c fun H1 e1 => ?_)
    have fin : ∀ (cell : Int) H2, Ex H H2 → tRet (tLst (tCons (tCB rMax2 (tCons (tC (V.int 0)) (tCons (tOp (rI0 fun i j => V.int (i - j)) (tCB (fun xs H Q => ∃ i, xs = [V.int i] ∧ Q (V.int (if i < 0 then -i else i)) H) (tCons (tVar 2) tNil)) (tOp (rI CPow fun i j => V.int (i ^ j.toNat)) (tC (V.int 10)) (tC (V.int 18)))) tNil))) (tCons (tOp (rI0 fun i j => V.int (i + j)) (tOp (rI (fun _ j => 0 < j) fun i j => V.int (i % j)) (tVar 2) (tC (V.int 2305843009213693951))) (tOp (rI CMulW fun i j => V.int (i * j)) (tC (V.int 5915587277)) (tOp (rI0 fun i j => V.int (i + j)) (tVar 1) (tC (V.int 1))))) (tCons (tC (V.int 0)) tNil)))) { nx := fun _ H' => Q .non H', rt := Q } [some (.ref a), some (.int t), some (.int cell)] H2 := fun cell H2 e2 => by
      refine s_retL (el_lst (ea_cons (ev_max2 ev_c (ev_op (ev_cb (ea_cons (ev_var rfl) ea_nil) fun H3 _ Q' q' => ⟨_, rfl, q' H3 (Ex.refl H3)⟩) (ev_op ev_c ev_c (rv_I (by unfold CPow; decide))) rv_I0)) (ea_cons (ev_op (ev_op (ev_var rfl) ev_c (rv_mod (by decide))) (ev_op ev_c (ev_op (ev_var rfl) ev_c rv_I0) (rv_I (wide_mul (a := 34) (b := 34) (by decide) (by omega) (by decide) (by decide) (by decide)))) rv_I0) (ea_cons ev_c ea_nil))) (by show 3 ≤ 100000; decide)) fun r H3 nr e3 h3 => ?_
      have c0 := Int.emod_nonneg cell (show (2305843009213693951 : Int) ≠ 0 by decide)
      have c1 := Int.emod_lt_of_pos cell (show (0 : Int) < 2305843009213693951 by decide)
      exact q r H3 (fresh_back e2 nr) ⟨_, _, _, h3, by split <;> omega, by omega, by omega, by decide, by decide⟩ (e2.trans e3)
    refine f_seq (s_if (et_test (ev_op (ev_var rfl) (ev_lenS (ev_var rfl) (.inl (ex_l e1 hS))) rv_I0)) (fun hb H2 e2 => ?_) fun hb H2 e2 => ?_)
    · have hb' : (t : Int) < ((ns.map V.int).length : Int) := of_decide_eq_true hb
      obtain ⟨z, _, hat⟩ := at_ints (L := ns) (n := t) (by omega) (by rw [List.length_map] at hb'; exact hb')
      refine s_asg (ev_op (ev_var rfl) (ev_var rfl) (rv_ixL (ex_l (e1.trans e2) hS) hat)) fun H3 e3 => ?_
      exact fin z H3 ((e1.trans e2).trans e3)
    · exact fin 0 H2 (e1.trans e2)
theorem ok_law_pool (T : Top K mg) : FnOk P w K mg base CX0 1 T.f_law_pool T.fd_law_pool ["script", "at"] (spPool K) := pool_body T
theorem ok_law_draw (T : Top K mg) : FnOk P w K mg base CX0 1 T.f_law_draw T.fd_law_draw ["pool", "many"] spRdraw := by
  refine T.F_law_draw.ok sc_law_draw (fun vs H Q E h => ?_) (fun cdv A outer s H vs Q E hr h => ?_)
  · obtain ⟨r, many, B, rfl, _⟩ := h; rfl
  · obtain ⟨r, many, B, rfl, h0, hbig, S, q⟩ := h
    obtain ⟨dg, sd, t, hs, d0, s0, s1, t0, t1⟩ := S.ex
    refine ⟨_, (pss_cons (ps_if (pt_cmpR op_gt (pe_ix (r := rIxL K) ix_list (pv 0) pe_int (fun _ _ => rfl)) pe_int (nomark _)) (pss_cons (ps_set (i := 2) sc_law_draw.nd rfl (Or.inl rfl) (pe_op op_mod (pe_ix (r := rIxL K) ix_list (pv 0) pe_int (fun _ _ => rfl)) (pv 1)))
      (pss_cons (ps_asg (pe_op op_fdivW (pe_ix (r := rIxL K) ix_list (pv 0) pe_int (fun _ _ => rfl)) (pv 1)) (pg_sub (pv 0) pe_int set_list))
      (pss_one (ps_ret (pv 2))))) pss_nil)
      (pss_cons (ps_asg (pe_op op_add (pe_ix (r := rIxL K) ix_list (pv 0) pe_int (fun _ _ => rfl)) pe_int) (pg_sub (pv 0) pe_int set_list))
      (pss_cons (ps_set (i := 3) sc_law_draw.nd rfl (Or.inl rfl) (pe_op op_mod (pe_op op_pow (pe_op op_add (pe_ix (r := rIxL K) ix_list (pv 0) pe_int (fun _ _ => rfl)) (pe_op op_mulW pe_int (pe_ix (r := rIxL K) ix_list (pv 0) pe_int (fun _ _ => rfl)))) pe_int) pe_int))
      (pss_cons (ps_set (i := 3) sc_law_draw.nd rfl (Or.inl rfl) (pe_op op_mod (pe_op op_powW (pe_op op_add (pv 3) (pe_op op_mulW pe_int (pe_ix (r := rIxL K) ix_list (pv 0) pe_int (fun _ _ => rfl)))) pe_int) pe_int))
      (pss_one (ps_ret (pe_op op_mod (pe_op op_fdivW (pv 3) pe_int) (pv 1)))))))), ?_⟩
    refine f_seq (s_if (et_test (ev_op (ev_op (ev_var rfl) ev_c (rv_ixL (sq_of hs) (atI_nat (j := 0) rfl))) ev_c rv_I0)) (fun hb H2 e2 => ?_) fun hb H2 e2 => f_next ?_)
    · have hs2 := e2 _ _ hs
      refine f_seq (s_asg (ev_op (ev_op (ev_var rfl) ev_c (rv_ixL (sq_of hs2) (atI_nat (j := 0) rfl))) (ev_var rfl) (rv_mod h0)) fun H3 e3 => ?_)
      have hs3 := e3 _ _ hs2
      refine f_seq (s_setL (j := 0) hs3 (ev_op (ev_op (ev_var rfl) ev_c (rv_ixL (sq_of hs3) (atI_nat (j := 0) rfl))) (ev_var rfl) (rv_I (wide_div (b := 200) h0 (by omega) (by decide) (by decide)))) (ev_var rfl) ev_c (by show 0 < 3; decide) fun H4 e4 => ?_)
      refine s_ret (ev_var rfl) fun H5 e5 => ?_
      refine q _ _ (Int.emod_nonneg _ (by omega)) (Int.emod_lt_of_pos _ h0) (Rg.ex_ ⟨dg / many, sd, t, upd_same, Int.ediv_nonneg d0 (by omega), s0, s1, t0, by omega⟩ e5) fun b o h1 h => e5 _ _ ?_
      rw [upd_ne h1]
      exact ((e2.trans e3).trans e4) _ _ h
    · have hs2 := e2 _ _ hs
      refine f_seq (s_setL (j := 2) hs2 (ev_op (ev_op (ev_var rfl) ev_c (rv_ixL (sq_of hs2) (atI_nat (j := 2) rfl))) ev_c rv_I0) (ev_var rfl) ev_c (by show 2 < 3; decide) fun H3 e3 => ?_)
      have hs3 : (upd H3 r (.lst [.int dg, .int sd, .int (t + 1)])) r = some (.lst [.int dg, .int sd, .int (t + 1)]) := upd_same
      have K3 : SqL K (upd H3 r (.lst [.int dg, .int sd, .int (t + 1)])) r [.int dg, .int sd, .int (t + 1)] := sq_of hs3
      show tSeq _ _ _ _ (upd H3 r (.lst [.int dg, .int sd, .int (t + 1)]))
      refine f_seq (s_asg (ev_op (ev_op (ev_op (ev_op (ev_var rfl) ev_c (rv_ixL K3 (atI_nat (j := 1) rfl))) (ev_op ev_c (ev_op (ev_var rfl) ev_c (rv_ixL K3 (atI_nat (j := 2) rfl))) (rv_I (wide_mul (a := 31) (b := 61) (by decide) (by omega) (by decide) (by decide) (by decide)))) rv_I0) ev_c (rv_I (by unfold CPow; omega))) ev_c (rv_mod (by decide))) fun H4 e4 => ?_)
      generalize hx : (sd + 15485863 * (t + 1)) ^ (3 : Int).toNat % 162259276829213363391578010288127 = x
      have x0 : 0 ≤ x := by rw [← hx]; exact Int.emod_nonneg _ (by decide)
      have x1 : x < 162259276829213363391578010288127 := by rw [← hx]; exact Int.emod_lt_of_pos _ (by decide)
      refine f_seq (s_asg (ev_op (ev_op (ev_op (ev_var rfl) (ev_op ev_c (ev_op (ev_var rfl) ev_c (rv_ixL (ex_l e4 K3) (atI_nat (j := 2) rfl))) (rv_I (wide_mul (a := 31) (b := 61) (by decide) (by omega) (by decide) (by decide) (by decide)))) rv_I0) ev_c (rv_I (powW (b := 120) (by decide) (by decide) (by omega) (by decide) (by decide)))) ev_c (rv_mod (by decide))) fun H5 e5 => ?_)
      refine s_ret (ev_op (ev_op (ev_var rfl) ev_c (rv_I (by unfold CDivW; decide))) (ev_var rfl) (rv_mod h0)) fun H6 e6 => ?_
      refine q _ _ (Int.emod_nonneg _ (by omega)) (Int.emod_lt_of_pos _ h0) (Rg.ex_ ⟨dg, sd, t + 1, hs3, d0, s0, s1, by omega, by omega⟩ ((e4.trans e5).trans e6)) fun b o h1 h => ((e4.trans e5).trans e6) _ _ ?_
      rw [upd_ne h1]
      exact (e2.trans e3) _ _ h
/-- the length of the month with a number -/
theorem ok_law_days (T : Top K mg) : FnOk P w K mg base CX0 1 T.f_law_days T.fd_law_days ["number"] (spF D_mlen) := by
  refine T.F_law_days.ok sc_law_days (fun vs H Q E h => ?_) (fun cdv A outer s H vs Q E hr h => ?_)
  · obtain ⟨z, ⟨y, rfl, _⟩, _⟩ := h; rfl
  · obtain ⟨z, ⟨n, rfl, rfl⟩, q⟩ := h
    refine ⟨_, (pss_cons (ps_par (i := 1) (j := 2) (by rfl) sc_law_days.nd rfl rfl (by decide) rfl rfl (pa_cons (pe_op op_fdivW (pv 0) pe_int) (pa_cons (pe_op op_mod (pv 0) pe_int) pa_nil)) (by rfl))
      (pss_cons (ps_if (pt_cmpR op_eq (pv 2) pe_int (nomark _)) (pss_one (ps_ret (pe_op op_add pe_int (pe_callTy call_int1 (by rfl) T.z_int (by decide +kernel) (pa_cons (pe_or (pe_cmpR op_eq (pe_op op_mod (pv 1) pe_int) pe_int (nomark _)) (pe_one (pe_and (pe_cmpR op_eq (pe_op op_mod (pv 1) pe_int) pe_int (nomark _)) (pe_one (pe_cmpR op_ne (pe_op op_mod (pv 1) pe_int) pe_int (nomark _)))))) pa_nil))))) pss_nil)
      (pss_one (ps_ret (pe_ix (r := rIxL K) ix_list (pe_lst (pa_cons pe_int (pa_cons pe_int (pa_cons pe_int (pa_cons pe_int (pa_cons pe_int (pa_cons pe_int (pa_cons pe_int (pa_cons pe_int (pa_cons pe_int (pa_cons pe_int (pa_cons pe_int (pa_cons pe_int pa_nil))))))))))))) (pv 2) (fun _ _ => rfl)))))), ?_⟩
    refine f_seq (f_par (f_cons (f_ev (ev_op (ev_var rfl) ev_c (rv_div (by decide) (by decide))) fun H1 e1 => f_cons (f_ev (ev_op (ev_var rfl) ev_c (rv_mod (by decide))) fun H2 e2 => f_nil (f_par2 ?_)))))
    refine f_seq (s_if (et_test (ev_op (ev_var rfl) ev_c rv_eqI)) (fun hb H3 e3 => ?_) fun hb H3 e3 => f_next ?_)
    · have hn : n % 12 = 1 := of_decide_eq_true hb
      have e : mlen n = 28 + b2 (leap (n / 12)) := by simp [mlen, hn, dlen, mlist]
      rw [e, ← lleap_eq] at q
      exact s_ret (ev_op ev_c (ev_intB (ev_orV (ev_op (ev_op (ev_var rfl) ev_c (rv_mod (by decide))) ev_c rv_eqI) fun _ => ev_andV (ev_op (ev_op (ev_var rfl) ev_c (rv_mod (by decide))) ev_c rv_eqI) fun _ => ev_op (ev_op (ev_var rfl) ev_c (rv_mod (by decide))) ev_c rv_neI)) rv_I0) fun H4 e4 => q H4 (((e1.trans e2).trans e3).trans e4)
    · have hn : ¬ n % 12 = 1 := of_decide_eq_false hb
      have hat : atI ([.int 31, .int 0, .int 31, .int 30, .int 31, .int 30, .int 31, .int 31, .int 30, .int 31, .int 30, .int 31] : List V) (n % 12) = some (.int (mlen n)) := by
        have hc : n % 12 = 0 ∨ n % 12 = 2 ∨ n % 12 = 3 ∨ n % 12 = 4 ∨ n % 12 = 5 ∨ n % 12 = 6 ∨ n % 12 = 7 ∨ n % 12 = 8 ∨ n % 12 = 9 ∨ n % 12 = 10 ∨ n % 12 = 11 := by omega
        unfold mlen dlen mlist
        rcases hc with h | h | h | h | h | h | h | h | h | h | h <;> rw [h] <;> rfl
      refine s_ret (ev_opL1 (el_lst (ea_cons ev_c (ea_cons ev_c (ea_cons ev_c (ea_cons ev_c (ea_cons ev_c (ea_cons ev_c (ea_cons ev_c (ea_cons ev_c (ea_cons ev_c (ea_cons ev_c (ea_cons ev_c (ea_cons ev_c ea_nil)))))))))))) (by show 12 ≤ 100000; decide)) (fun _ _ => ev_var rfl) fun p H5 h5 _ => rv_ixL (sq_of h5) hat) fun H4 e4 => q H4 (((e1.trans e2).trans e3).trans e4)
/-- a number with a sign -/
def spGreat : Sp := fun vs H Q _ => ∃ (r : Addr) (B : Nat), vs = [.ref r] ∧ Rg H r (B + 3) ∧ ∀ z H', z.natAbs ≤ 10 ^ 30 → Rg H' r B → Kr r H H' → Q (.int z) H'
theorem ok_law_great (T : Top K mg) : FnOk P w K mg base CX0 2 T.f_law_great T.fd_law_great ["pool"] spGreat := by
  have G_law_draw : FnOk P w K mg base CX0 1 T.f_law_draw T.fd_law_draw ["pool", "many"] spRdraw := ok_law_draw T
  refine T.F_law_great.ok sc_law_great (fun vs H Q E h => ?_) (fun cdv A outer s H vs Q E hr h => ?_)
  · obtain ⟨r, B, rfl, _⟩ := h; rfl
  · obtain ⟨r, B, rfl, S, q⟩ := h
    refine ⟨_, (pss_cons (ps_set (i := 1) sc_law_great.nd rfl (Or.inl rfl) (pe_op op_add (pe_op op_mulW (pe_op op_pow pe_int pe_int) (pe_call G_law_draw (hr.mono (by first | decide | omega)) (by rfl) T.g_law_draw T.F_law_draw.kp T.b_law_draw .nil pass0 (pa_cons (pv 0) (pa_cons (pe_op op_pow pe_int pe_int) pa_nil)))) (pe_call G_law_draw (hr.mono (by first | decide | omega)) (by rfl) T.g_law_draw T.F_law_draw.kp T.b_law_draw .nil pass0 (pa_cons (pv 0) (pa_cons (pe_op op_pow pe_int pe_int) pa_nil)))))
      (pss_one (ps_ret (pe_op op_mulW (pv 1) (pe_ix (r := rIxL K) ix_list (pe_lst (pa_cons pe_int (pa_cons (pe_un un_neg pe_int) pa_nil))) (pe_call G_law_draw (hr.mono (by first | decide | omega)) (by rfl) T.g_law_draw T.F_law_draw.kp T.b_law_draw .nil pass0 (pa_cons (pv 0) (pa_cons pe_int pa_nil))) (fun _ _ => rfl)))))), ?_⟩
    walk_at "fw"
    refine f_rdraw (B := B + 2) S (by decide) (by decide) fun n1 H1 a1 b1 S1 k1 => ?_
    replace b1 : n1 < 10 ^ 15 := b1
    refine f_I (wide_mul (a := 60) (b := 60) (by decide) (by omega) (by decide) (by decide) (by decide)) ?_
    walk_at "fw"
    refine f_rdraw (B := B + 1) S1 (by decide) (by decide) fun n2 H2 a2 b2 S2 k2 => ?_
    walk_at "fw"
    refine f_newLr S2 (by simp) fun p np fp S3 e3 h3 => ?_
    walk_at "fw"
    refine f_rdraw (B := B) S3 (by decide) (by decide) fun n4 H4 a4 b4 S4 k4 => ?_
    obtain ⟨sg, hsg, hat⟩ := at_ints (L := [1, -1]) a4 b4
    refine f_ixL (k4.at fp h3) hat ?_
    have hs : sg = 1 ∨ sg = -1 := by simpa using hsg
    replace b2 : n2 < 10 ^ 14 := b2
    refine f_I (wide_mul (a := 200) (b := 10) (by show ((10 : Int) ^ 14 * n1 + n2).natAbs < 2 ^ 200; omega) (by omega) (by decide) (by decide) (by decide)) ?_
    refine q _ _ ?_ S4 (((k1.trans k2).l e3).trans k4)
    show (((10 : Int) ^ 14 * n1 + n2) * sg).natAbs ≤ 10 ^ 30
    rcases hs with rfl | rfl <;> omega
/-- a new date -/
def spRdate : Sp := fun vs H Q _ => ∃ (r : Addr) (B : Nat), vs = [.ref r] ∧ Rg H r (B + 20) ∧ ∀ (y m e : Int) (p : Addr) (H' : Hp), Exists_ y m e → y.natAbs ≤ 10 ^ 31 → H p = none → p ≠ r → Rg H' r B → Kr r H H' → H' p = some (.tup [.int y, .int m, .int e]) → Q (.ref p) H'
theorem ok_law_date (T : Top K mg) : FnOk P w K mg base CX0 3 T.f_law_date T.fd_law_date ["pool"] spRdate := by
  have G_law_draw : FnOk P w K mg base CX0 1 T.f_law_draw T.fd_law_draw ["pool", "many"] spRdraw := ok_law_draw T
  have G_law_great : FnOk P w K mg base CX0 2 T.f_law_great T.fd_law_great ["pool"] spGreat := ok_law_great T
  have G_law_days : FnOk P w K mg base CX0 1 T.f_law_days T.fd_law_days ["number"] (spF D_mlen) := ok_law_days T
  refine T.F_law_date.ok sc_law_date (fun vs H Q E h => ?_) (fun cdv A outer s H vs Q E hr h => ?_)
  · obtain ⟨r, B, rfl, _⟩ := h; rfl
  · obtain ⟨r, B, rfl, S, q⟩ := h
    refine ⟨_, (pss_cons (ps_set (i := 1) sc_law_date.nd rfl (Or.inl rfl) (pe_ix (r := rIxL K) ix_list (pe_lst (pa_cons (pe_op op_add pe_int (pe_call G_law_draw (hr.mono (by first | decide | omega)) (by rfl) T.g_law_draw T.F_law_draw.kp T.b_law_draw .nil pass0 (pa_cons (pv 0) (pa_cons pe_int pa_nil)))) (pa_cons (pe_op op_sub (pe_call G_law_draw (hr.mono (by first | decide | omega)) (by rfl) T.g_law_draw T.F_law_draw.kp T.b_law_draw .nil pass0 (pa_cons (pv 0) (pa_cons pe_int pa_nil))) pe_int) (pa_cons (pe_call G_law_great (hr.mono (by first | decide | omega)) (by rfl) T.g_law_great T.F_law_great.kp T.b_law_great .nil pass0 (pa_cons (pv 0) pa_nil)) pa_nil)))) (pe_call G_law_draw (hr.mono (by first | decide | omega)) (by rfl) T.g_law_draw T.F_law_draw.kp T.b_law_draw .nil pass0 (pa_cons (pv 0) (pa_cons pe_int pa_nil))) (fun _ _ => rfl)))
      (pss_cons (ps_set (i := 2) sc_law_date.nd rfl (Or.inl rfl) (pe_ix (r := rIxL K) ix_list (pe_lst (pa_cons (pe_call G_law_draw (hr.mono (by first | decide | omega)) (by rfl) T.g_law_draw T.F_law_draw.kp T.b_law_draw .nil pass0 (pa_cons (pv 0) (pa_cons pe_int pa_nil))) (pa_cons pe_int (pa_cons pe_int pa_nil)))) (pe_call G_law_draw (hr.mono (by first | decide | omega)) (by rfl) T.g_law_draw T.F_law_draw.kp T.b_law_draw .nil pass0 (pa_cons (pv 0) (pa_cons pe_int pa_nil))) (fun _ _ => rfl)))
      (pss_cons (ps_set (i := 3) sc_law_date.nd rfl (Or.inl rfl) (pe_call G_law_days (hr.mono (by first | decide | omega)) (by rfl) T.g_law_days T.F_law_days.kp T.b_law_days .nil pass0 (pa_cons (pe_op op_add (pe_op op_mulW pe_int (pv 1)) (pv 2)) pa_nil)))
      (pss_cons (ps_set (i := 4) sc_law_date.nd rfl (Or.inl rfl) (pe_ix (r := rIxL K) ix_list (pe_lst (pa_cons (pv 3) (pa_cons (pe_op op_add pe_int (pe_call G_law_draw (hr.mono (by first | decide | omega)) (by rfl) T.g_law_draw T.F_law_draw.kp T.b_law_draw .nil pass0 (pa_cons (pv 0) (pa_cons (pv 3) pa_nil)))) (pa_cons (pe_op op_sub (pv 3) (pe_call G_law_draw (hr.mono (by first | decide | omega)) (by rfl) T.g_law_draw T.F_law_draw.kp T.b_law_draw .nil pass0 (pa_cons (pv 0) (pa_cons pe_int pa_nil)))) pa_nil)))) (pe_call G_law_draw (hr.mono (by first | decide | omega)) (by rfl) T.g_law_draw T.F_law_draw.kp T.b_law_draw .nil pass0 (pa_cons (pv 0) (pa_cons pe_int pa_nil))) (fun _ _ => rfl)))
      (pss_one (ps_ret (pe_tup (pa_cons (pv 1) (pa_cons (pe_op op_add (pv 2) pe_int) (pa_cons (pv 4) pa_nil)))))))))), ?_⟩
    walk_at "fw"
    refine f_rdraw (B := B + 19) S (by decide) (by decide) fun n1 H1 a1 b1 S1 k1 => ?_
    walk_at "fw"
    refine f_rdraw (B := B + 18) S1 (by decide) (by decide) fun n2 H2 a2 b2 S2 k2 => ?_
    walk_at "fw"
    refine ⟨r, B + 15, rfl, S2, fun g H3 hg S3 k3 => ?_⟩
    walk_at "fw"
    refine f_newLr S3 (by simp) fun p4 np4 fp4 S4 e4 h4 => ?_
    walk_at "fw"
    refine f_rdraw (B := B + 14) S4 (by decide) (by decide) fun n5 H5 a5 b5 S5 k5 => ?_
    obtain ⟨y, hy, hat⟩ := at_ints (L := [1990 + n1, n2 - 400, g]) a5 b5
    refine f_ixL (k5.at fp4 h4) hat ?_
    have hyb : y.natAbs ≤ 10 ^ 31 := by simp at hy; omega
    have kk5 := ((((k1.trans k2).trans k3).l e4).trans k5)
    clear hat hy h4
    walk_at "fw"
    refine f_rdraw (B := B + 13) S5 (by decide) (by decide) fun n6 H6 a6 b6 S6 k6 => ?_
    walk_at "fw"
    refine f_newLr S6 (by simp) fun p7 np7 fp7 S7 e7 h7 => ?_
    walk_at "fw"
    refine f_rdraw (B := B + 12) S7 (by decide) (by decide) fun n8 H8 a8 b8 S8 k8 => ?_
    obtain ⟨mo, hmo, hat⟩ := at_ints (L := [n6, 0, 1]) a8 b8
    refine f_ixL (k8.at fp7 h7) hat ?_
    have hmb : 0 ≤ mo ∧ mo < 12 := by simp at hmo; omega
    have kk8 := ((kk5.trans k6).l e7).trans k8
    clear hat hmo h7
    walk_at "fs"
    refine f_ev (ev_call (ea_cons (ev_op (ev_op ev_c (ev_var rfl) (rv_mul (by decide) (by omega))) (ev_var rfl) rv_I0) ea_nil) (sv_F ⟨_, rfl, rfl⟩)) fun H9 e9 => ?_
    have em : mlen (12 * y + mo) = dlen y (mo + 1) := by
      unfold mlen
      rw [show (12 * y + mo) / 12 = y by omega, show (12 * y + mo) % 12 = mo by omega]
    rw [em]
    obtain ⟨l28, l31⟩ := dlen_bounds y (mo + 1) (by omega) (by omega)
    generalize hl : dlen y (mo + 1) = last at l28 l31
    walk_at "fw"
    refine f_rdraw (B := B + 11) (S8.ex_ e9) (by omega) (by omega) fun n10 H10 a10 b10 S10 k10 => ?_
    walk_at "fw"
    refine f_rdraw (B := B + 10) S10 (by decide) (by decide) fun n11 H11 a11 b11 S11 k11 => ?_
    walk_at "fw"
    refine f_newLr S11 (by simp) fun p12 np12 fp12 S12 e12 h12 => ?_
    walk_at "fw"
    refine f_rdraw (B := B + 9) S12 (by decide) (by decide) fun n13 H13 a13 b13 S13 k13 => ?_
    obtain ⟨da, hda, hat⟩ := at_ints (L := [last, 1 + n10, last - n11]) a13 b13
    refine f_ixL (k13.at fp12 h12) hat ?_
    have hdb : 1 ≤ da ∧ da ≤ last := by simp at hda; omega
    have kk13 := ((((kk8.l e9).trans k10).trans k11).l e12).trans k13
    walk_at "fw"
    refine f_newUr S13 (by simp) fun p14 np14 fp14 S14 e14 h14 => ?_
    exact q y (mo + 1) da p14 _ ⟨by omega, by omega, hdb.1, by rw [hl]; exact hdb.2⟩ hyb (kk13.new S13 np14) fp14 (S14.less (by omega)) (kk13.l e14) h14
/-- a step -/
def spStride : Sp := fun vs H Q _ => ∃ (r : Addr) (most : Int) (B : Nat), vs = [.ref r, .int most] ∧ 0 < most ∧ most ≤ 10 ^ 31 ∧ Rg H r (B + 20) ∧ ∀ z H', z.natAbs ≤ 10 ^ 32 → Rg H' r B → Kr r H H' → Q (.int z) H'
theorem ok_law_stride (T : Top K mg) : FnOk P w K mg base CX0 2 T.f_law_stride T.fd_law_stride ["pool", "most"] spStride := by
  have G_law_draw : FnOk P w K mg base CX0 1 T.f_law_draw T.fd_law_draw ["pool", "many"] spRdraw := ok_law_draw T
  refine T.F_law_stride.ok sc_law_stride (fun vs H Q E h => ?_) (fun cdv A outer s H vs Q E hr h => ?_)
  · obtain ⟨r, most, B, rfl, _⟩ := h; rfl
  · obtain ⟨r, most, B, rfl, m0, m1, S, q⟩ := h
    refine ⟨_, (pss_cons (ps_set (i := 2) sc_law_stride.nd rfl (Or.inl rfl) (pe_lst (pa_cons (pe_call G_law_draw (hr.mono (by first | decide | omega)) (by rfl) T.g_law_draw T.F_law_draw.kp T.b_law_draw .nil pass0 (pa_cons (pv 0) (pa_cons pe_int pa_nil))) (pa_cons (pe_op op_mulW pe_int (pe_call G_law_draw (hr.mono (by first | decide | omega)) (by rfl) T.g_law_draw T.F_law_draw.kp T.b_law_draw .nil pass0 (pa_cons (pv 0) (pa_cons pe_int pa_nil)))) (pa_cons (pe_op op_mulW pe_int (pe_call G_law_draw (hr.mono (by first | decide | omega)) (by rfl) T.g_law_draw T.F_law_draw.kp T.b_law_draw .nil pass0 (pa_cons (pv 0) (pa_cons pe_int pa_nil)))) (pa_cons (pe_op op_mulW pe_int (pe_call G_law_draw (hr.mono (by first | decide | omega)) (by rfl) T.g_law_draw T.F_law_draw.kp T.b_law_draw .nil pass0 (pa_cons (pv 0) (pa_cons pe_int pa_nil)))) pa_nil))))))
      (pss_cons (ps_expr (pe_bm PySem.F.plainAttrs_list PySem.F.slot_list_append PySem.F.type_list_append mt_append (pv 2) (pa_cons (pe_call G_law_draw (hr.mono (by first | decide | omega)) (by rfl) T.g_law_draw T.F_law_draw.kp T.b_law_draw .nil pass0 (pa_cons (pv 0) (pa_cons (pv 1) pa_nil))) pa_nil)))
      (pss_one (ps_ret (pe_op op_mulW (pe_ix (r := rIxL K) ix_list (pv 2) (pe_call G_law_draw (hr.mono (by first | decide | omega)) (by rfl) T.g_law_draw T.F_law_draw.kp T.b_law_draw .nil pass0 (pa_cons (pv 0) (pa_cons pe_int pa_nil))) (fun _ _ => rfl)) (pe_ix (r := rIxL K) ix_list (pe_lst (pa_cons pe_int (pa_cons (pe_un un_neg pe_int) pa_nil))) (pe_call G_law_draw (hr.mono (by first | decide | omega)) (by rfl) T.g_law_draw T.F_law_draw.kp T.b_law_draw .nil pass0 (pa_cons (pv 0) (pa_cons pe_int pa_nil))) (fun _ _ => rfl))))))), ?_⟩
    walk_at "fw"
    refine f_rdraw (B := B + 19) S (by decide) (by decide) fun n1 H1 a1 b1 S1 k1 => ?_
    walk_at "fw"
    refine f_rdraw (B := B + 18) S1 (by decide) (by decide) fun n2 H2 a2 b2 S2 k2 => ?_
    walk_at "fw"
    refine f_rdraw (B := B + 17) S2 (by decide) (by decide) fun n3 H3 a3 b3 S3 k3 => ?_
    walk_at "fw"
    refine f_rdraw (B := B + 16) S3 (by decide) (by decide) fun n4 H4 a4 b4 S4 k4 => ?_
    walk_at "fw"
    refine f_newLr S4 (by simp) fun p5 np5 fp5 S5 e5 h5 => ?_
    walk_at "fs"
    refine f_bm ?_
    walk_at "fs"
    refine f_tyL h5 ?_
    walk_at "fw"
    refine f_rdraw (B := B + 15) S5 (by omega) (by omega) fun n6 H6 a6 b6 S6 k6 => ?_
    have h6 := k6.at fp5 h5
    walk_at "fw"
    refine ⟨p5, _, _, rfl, rfl, h6, sz_lt (by simp), ?_⟩
    have S7 := S6.upd (o := .lst [.int n1, .int (12 * n2), .int (48 * n3), .int (1200 * n4), .int n6]) fp5
    have kk : Kr r H (upd H6 p5 (.lst [.int n1, .int (12 * n2), .int (48 * n3), .int (1200 * n4), .int n6])) := fun b o g1 g => by
      rw [upd_ne (ne_of_none ((((k1.trans k2).trans k3).trans k4) b o g1 g) np5)]
      exact (((((k1.trans k2).trans k3).trans k4).l e5).trans k6) b o g1 g
    show tSeq _ _ _ _ (upd H6 p5 (.lst [.int n1, .int (12 * n2), .int (48 * n3), .int (1200 * n4), .int n6]))
    have h7 : (upd H6 p5 (.lst [.int n1, .int (12 * n2), .int (48 * n3), .int (1200 * n4), .int n6])) p5 = some (.lst [.int n1, .int (12 * n2), .int (48 * n3), .int (1200 * n4), .int n6]) := upd_same
    generalize upd H6 p5 (.lst [.int n1, .int (12 * n2), .int (48 * n3), .int (1200 * n4), .int n6]) = H7 at S7 kk h7
    walk_at "fw"
    refine f_rdraw (B := B + 14) S7 (by decide) (by decide) fun n8 H8 a8 b8 S8 k8 => ?_
    obtain ⟨z, hz, hat⟩ := at_ints (L := [n1, 12 * n2, 48 * n3, 1200 * n4, n6]) a8 b8
    refine f_ixL (k8.at fp5 h7) hat ?_
    walk_at "fw"
    refine f_newLr S8 (by simp) fun p9 np9 fp9 S9 e9 h9 => ?_
    walk_at "fw"
    refine f_rdraw (B := B + 13) S9 (by decide) (by decide) fun n10 H10 a10 b10 S10 k10 => ?_
    obtain ⟨sg, hsg, hat2⟩ := at_ints (L := [1, -1]) a10 b10
    refine f_ixL (k10.at fp9 h9) hat2 ?_
    have hs : sg = 1 ∨ sg = -1 := by simpa using hsg
    have hzb : z.natAbs ≤ 10 ^ 31 := by simp at hz; omega
    refine f_I (wide_mul (a := 200) (b := 10) (by omega) (by omega) (by decide) (by decide) (by decide)) ?_
    exact q _ _ (by rcases hs with rfl | rfl <;> omega) (S10.less (by omega)) (((kk.trans k8).l e9).trans k10)

theorem mrun_append (st : Int × Int) (a b : List Int) : mrun st (a ++ b) = mrun (mrun st a) b := List.foldl_append ..
theorem mrun_fst (st : Int × Int) (ks : List Int) : (mrun st ks).1 = st.1 + ks.sum := by
  induction ks generalizing st with
  | nil => simp [mrun]
  | cons k ks ih =>
    show (mrun (mvs st k) ks).1 = _
    rw [ih, List.sum_cons]
    show st.1 + k + ks.sum = _
    omega
def fine (st : Int × Int) : Prop := 1 ≤ st.2 ∧ st.2 ≤ mlen st.1
theorem mvs_fine {st : Int × Int} (h : fine st) (k : Int) : fine (mvs st k) := by
  have b := mlen_bounds (st.1 + k)
  have h1 := h.1
  refine ⟨?_, Int.min_le_right _ _⟩
  show 1 ≤ min st.2 (mlen (st.1 + k))
  omega
theorem mrun_fine {st : Int × Int} (h : fine st) (ks : List Int) : fine (mrun st ks) := by
  induction ks generalizing st with
  | nil => exact h
  | cons k ks ih => exact ih (mvs_fine h k)
theorem fine_of {y m d : Int} (h : Exists_ y m d) : fine (12 * y + m - 1, d) := by
  obtain ⟨h1, h2, h3, h4⟩ := h
  refine ⟨h3, ?_⟩
  show d ≤ mlen (12 * y + m - 1)
  unfold mlen
  rw [show (12 * y + m - 1) / 12 = y by omega, show (12 * y + m - 1) % 12 + 1 = m by omega]
  exact h4
theorem of_fine {st : Int × Int} (h : fine st) : Exists_ (st.1 / 12) (st.1 % 12 + 1) st.2 := ⟨by omega, by omega, h.1, h.2⟩
theorem back_st (st : Int × Int) : (12 * (st.1 / 12) + (st.1 % 12 + 1) - 1, st.2) = st := by
  obtain ⟨a, b⟩ := st
  show (12 * (a / 12) + (a % 12 + 1) - 1, b) = (a, b)
  rw [show 12 * (a / 12) + (a % 12 + 1) - 1 = a by omega]
theorem mvs_zero {st : Int × Int} (h : fine st) : mvs st 0 = st := by
  obtain ⟨a, b⟩ := st
  have h2 : b ≤ mlen a := h.2
  show (a + 0, min b (mlen (a + 0))) = (a, b)
  rw [Int.add_zero, Int.min_eq_left h2]
theorem mlen_4800 (n : Int) : mlen (n + 4800) = mlen n := by
  unfold mlen
  rw [show (n + 4800) / 12 = n / 12 + 400 by omega, show (n + 4800) % 12 = n % 12 by omega]
  unfold dlen mlist
  rw [show leap (n / 12 + 400) = leap (n / 12) by
    unfold leap
    rw [show (n / 12 + 400) % 4 = n / 12 % 4 by omega, show (n / 12 + 400) % 100 = n / 12 % 100 by omega, show (n / 12 + 400) % 400 = n / 12 % 400 by omega]]
theorem mrun_4800 (st : Int × Int) (ks : List Int) : mrun (st.1 + 4800, st.2) ks = ((mrun st ks).1 + 4800, (mrun st ks).2) := by
  induction ks generalizing st with
  | nil => rfl
  | cons k ks ih =>
    show mrun (mvs (st.1 + 4800, st.2) k) ks = ((mrun (mvs st k) ks).1 + 4800, (mrun (mvs st k) ks).2)
    rw [← ih]
    congr 1
    show (st.1 + 4800 + k, min st.2 (mlen (st.1 + 4800 + k))) = (st.1 + k + 4800, min st.2 (mlen (st.1 + k)))
    rw [show st.1 + 4800 + k = st.1 + k + 4800 by omega, mlen_4800]
theorem mrun_snd_le (st : Int × Int) (ks : List Int) : (mrun st ks).2 ≤ st.2 := by
  induction ks generalizing st with
  | nil => exact Int.le_refl _
  | cons k ks ih => exact Int.le_trans (ih (mvs st k)) (Int.min_le_left _ _)
theorem sum_bound {ks : List Int} {b : Nat} (h : ∀ k, k ∈ ks → k.natAbs ≤ b) : ks.sum.natAbs ≤ ks.length * b := by
  induction ks with
  | nil => simp
  | cons k ks ih =>
    have h1 := h k (List.mem_cons_self ..)
    have h2 := ih fun x hx => h x (List.mem_cons_of_mem _ hx)
    rw [List.sum_cons, List.length_cons, Nat.add_mul]
    omega
/-- the date at a place, as ints -/
def tupI (st : Int × Int) : List Int := [st.1 / 12, st.1 % 12 + 1, st.2]
theorem tupI_map (st : Int × Int) : tupD st = (tupI st).map V.int := rfl

/-- the dates on the way -/
def along (st : Int × Int) (ks : List Int) : List (List Int) := (List.range (ks.length + 1)).map fun i => tupI (mrun st (ks.take i))
theorem tupI_of {y m d : Int} (h1 : 1 ≤ m) (h2 : m ≤ 12) : tupI (12 * y + m - 1, d) = [y, m, d] := by
  unfold tupI
  show [(12 * y + m - 1) / 12, (12 * y + m - 1) % 12 + 1, d] = _
  rw [show (12 * y + m - 1) / 12 = y by omega, show (12 * y + m - 1) % 12 + 1 = m by omega]
def spAlong (K : PySem.W.Frag) : Sp := fun vs H Q _ => ∃ (p l : Addr) (y m d : Int) (ks : List Int), vs = [.ref p, .ref l] ∧ H p = some (.tup [.int y, .int m, .int d]) ∧ Exists_ y m d ∧ SqL K H l (ks.map V.int) ∧ y.natAbs ≤ 10 ^ 100 ∧ ks.length ≤ 10000 ∧
  ∀ q ws H', H q = none → Ex H H' → H' q = some (.lst ws) → TupsAt H' ws (along (12 * y + m - 1, d) ks) → Q (.ref q) H'
theorem ok_law_along (T : Top K mg) : FnOk P w K mg base CX0 2 T.f_law_along T.fd_law_along ["begun", "strides"] (spAlong K) := by
  have G_law_days : FnOk P w K mg base CX0 1 T.f_law_days T.fd_law_days ["number"] (spF D_mlen) := ok_law_days T
  refine T.F_law_along.ok sc_law_along (fun vs H Q E h => ?_) (fun cdv A outer s H vs Q E hr h => ?_)
  · obtain ⟨p, l, y, m, d, ks, rfl, _⟩ := h; rfl
  · obtain ⟨p, l, y, m, d, ks, rfl, hp, hE, hL, hy, hlen, q⟩ := h
    refine ⟨_, (pss_cons (ps_set (i := 2) sc_law_along.nd rfl (Or.inl rfl) (pe_lst (pa_cons (pv 0) pa_nil)))
      (pss_cons (ps_par (i := 3) (j := 4) (by rfl) sc_law_along.nd rfl rfl (by decide) rfl rfl (pa_cons (pe_op op_sub (pe_op op_add (pe_op op_mulW pe_int (pe_ix (r := rIxT K) ix_tup (pv 0) pe_int (fun _ _ => rfl))) (pe_ix (r := rIxT K) ix_tup (pv 0) pe_int (fun _ _ => rfl))) pe_int) (pa_cons (pe_ix (r := rIxT K) ix_tup (pv 0) pe_int (fun _ _ => rfl)) pa_nil)) (by rfl))
      (pss_cons (ps_for PassesOwn.never rfl (pi_list (pv 1)) (pg_name (i := 5) sc_law_along.nd rfl (Or.inl rfl)) (pss_cons (ps_set (i := 3) sc_law_along.nd rfl (Or.inl rfl) (pe_op op_add (pv 3) (pv 5)))
      (pss_cons (ps_set (i := 4) sc_law_along.nd rfl (Or.inl rfl) (pe_callB (call_min2 rfl) (by rfl) T.z_min (by decide +kernel) (pa_cons (pv 4) (pa_cons (pe_call G_law_days (hr.mono (by first | decide | omega)) (by rfl) T.g_law_days T.F_law_days.kp T.b_law_days .nil pass0 (pa_cons (pv 3) pa_nil)) pa_nil))))
      (pss_one (ps_expr (pe_bm PySem.F.plainAttrs_list PySem.F.slot_list_append PySem.F.type_list_append mt_append (pv 2) (pa_cons (pe_tup (pa_cons (pe_op op_fdivW (pv 3) pe_int) (pa_cons (pe_op op_add (pe_op op_mod (pv 3) pe_int) pe_int) (pa_cons (pv 4) pa_nil)))) pa_nil)))))))
      (pss_one (ps_ret (pv 2)))))), ?_⟩
    refine f_seq (s_asgL (el_lst (ea_cons (ev_var rfl) ea_nil) (by show 1 ≤ 100000; decide)) fun f H0 nf e0 hf => ?_)
    have hp0 := e0 _ _ hp
    refine f_seq (f_par (f_cons (f_ev (ev_op (ev_op (ev_op ev_c (ev_op (ev_var rfl) ev_c (rv_ixTn (j := 0) (st_of hp0) rfl)) (rv_mul (by decide) hy)) (ev_op (ev_var rfl) ev_c (rv_ixTn (j := 1) (st_of hp0) rfl)) rv_I0) ev_c rv_I0) fun H1 e1 => f_cons (f_ev (ev_op (ev_var rfl) ev_c (rv_ixTn (j := 2) (st_of (e1 _ _ hp0)) rfl)) fun H2 e2 => f_nil (f_par2 ?_)))))
    have e02 := (e0.trans e1).trans e2
    refine f_seq (s_forL (xs := ks.map V.int) (ev_var rfl) (ex_l e02 hL) (fun i σ H' => ∃ (v5 : Option V) (ws : List V), σ = [some (.ref p), some (.ref l), some (.ref f), some (.int (mrun (12 * y + m - 1, d) (ks.take i)).1), some (.int (mrun (12 * y + m - 1, d) (ks.take i)).2), v5] ∧ Ex H H' ∧ H' f = some (.lst ws) ∧ TupsAt H' ws ((List.range (i + 1)).map fun j => tupI (mrun (12 * y + m - 1, d) (ks.take j))))
      (fun H4 e4 => ⟨none, [.ref p], rfl, e02.trans e4, e4 _ _ (e2 _ _ (e1 _ _ hf)), .cons ⟨p, rfl, by show H4 p = some (.tup ((tupI (12 * y + m - 1, d)).map V.int)); rw [tupI_of hE.1 hE.2.1]; exact (e02.trans e4) _ _ hp⟩ .nil⟩) (fun i σ H' _ ⟨_, _, _, e, _⟩ => ex_l e hL) (fun i x σ H' hx hp => ?_) fun σ H' hp => ?_)
    · obtain ⟨v5, ws, rfl, e, hf', ht⟩ := hp
      obtain ⟨k, rfl, hk⟩ := int_of_map hx
      have hi : i < ks.length := (List.getElem?_eq_some_iff.mp hk).1
      have hm := mrun_take (st := (12 * y + m - 1, d)) hk
      rw [hm]
      refine f_gName (f_seq (s_asg (ev_op (ev_var rfl) (ev_var rfl) rv_I0) fun H5 e5 => ?_))
      refine f_seq (s_asg (ev_min2 (ev_var rfl) (ev_call (ea_cons (ev_var rfl) ea_nil) (sv_F ⟨_, rfl, rfl⟩))) fun H6 e6 => ?_)
      have e56 := e5.trans e6
      have lw := ht.len
      rw [List.length_map, List.length_range] at lw
      refine s_appU (ys := (tupI (mvs (mrun (12 * y + m - 1, d) (ks.take i)) k)).map V.int) (e56 _ _ hf') (ev_var rfl) (eu_tup (ea_cons (ev_op (ev_var rfl) ev_c (rv_div (by decide) (by decide))) (ea_cons (ev_op (ev_op (ev_var rfl) ev_c (rv_mod (by decide))) ev_c rv_I0) (ea_cons (ev_var rfl) ea_nil))) (by show 3 ≤ 100000; decide)) (by omega) fun p7 H7 np7 e7 h7 => ?_
      refine ⟨_, ws ++ [.ref p7], rfl, ((e.trans e56).trans e7).mut nf, upd_same, ?_⟩
      rw [List.range_succ, List.map_append]
      have z := TupsAt.snoc h7 ((ht.kt (KT.ex e56)).kt (KT.ex e7))
      rw [← hm] at z
      exact z.kt (KT.upd (e7 _ _ (e56 _ _ hf')))
    · obtain ⟨v5, ws, rfl, e, hf', ht⟩ := hp
      refine s_ret (ev_var rfl) fun H5 e5 => ?_
      have ht' := ht.kt (KT.ex e5)
      rw [List.length_map] at ht'
      exact q f ws H5 nf (e.trans e5) (e5 _ _ hf') ht'

def D_chk (K : PySem.W.Frag) (H : Hp) (vs : List V) (z : V) : Prop := ∃ (p : Addr) (y m d t : Int), vs = [.ref p, .int t] ∧ DateAt K H p y m d ∧ Exists_ y m d ∧ 0 ≤ t ∧ z = .non
theorem ok_check (T : Top K mg) : FnOk P w K mg base CX0 4 T.f_check T.fd_check ["date", "times"] (spH (D_chk K)) := by
  have G_check_date : FnOk P w K mg base CX0 3 T.f_check_date T.fd_check_date ["date"] (spH (D_check K)) := ok_check_date T
  refine T.F_check.ok sc_check (fun vs H Q E h => ?_) (fun cdv A outer s H vs Q E hr h => ?_)
  · obtain ⟨z, ⟨p, y, m, d, t, rfl, _⟩, _⟩ := h; rfl
  · obtain ⟨z, ⟨p, y, m, d, t, rfl, hD, hE, h0, rfl⟩, q⟩ := h
    refine ⟨_, (pss_cons (ps_expr (pe_call G_check_date (hr.mono (by first | decide | omega)) (by rfl) T.g_check_date T.F_check_date.kp T.b_check_date .nil pass0 (pa_cons (pv 0) pa_nil)))
      (pss_one (ps_if (pt_cmpR op_lt (pv 1) pe_int (nomark _)) (pss_one ps_never) pss_nil))), ?_⟩
    refine f_seq (s_drop (ev_call (ea_cons (ev_var rfl) ea_nil) (sv_H (z := .non) fun H1 e1 => ⟨p, y, m, d, rfl, ex_t e1 hD, hE, rfl⟩)) fun H1 e1 => ?_)
    refine s_if (b := false) (et_is (et_test (ev_op (ev_var rfl) ev_c rv_I0)) (decide_eq_false (by omega))) (fun hb _ _ => nomatch hb) fun _ H2 e2 => ?_
    exact q H2 (e1.trans e2)
/-- the steps that renew takes -/
def rks (s t : Int) : List Int := List.replicate (min t 4800).toNat s ++ [s * (t - min t 4800)]
def D_renew (K : PySem.W.Frag) (H : Hp) (vs xs : List V) : Prop := ∃ (p : Addr) (y m d s t : Int), vs = [.ref p, .int s, .int t] ∧ DateAt K H p y m d ∧ Exists_ y m d ∧ 0 ≤ t ∧ t ≤ 10 ^ 40 ∧ s.natAbs ≤ 10 ^ 90 ∧ xs = tupD (mrun (12 * y + m - 1, d) (rks s t)) ∧ y.natAbs ≤ 10 ^ 100
theorem ok_renew (T : Top K mg) : FnOk P w K mg base CX0 5 T.f_renew T.fd_renew ["date", "step", "times"] (spU (D_renew K)) := by
  have G_check : FnOk P w K mg base CX0 4 T.f_check T.fd_check ["date", "times"] (spH (D_chk K)) := ok_check T
  have G_move : FnOk P w K mg base CX0 4 T.f_move T.fd_move ["date", "steps"] (spU (D_move K)) := ok_move T
  refine T.F_renew.ok sc_renew (fun vs H Q E h => ?_) (fun cdv A outer st H vs Q E hr h => ?_)
  · obtain ⟨z, ⟨p, y, m, d, s, t, rfl, _⟩, _⟩ := h; rfl
  · obtain ⟨z, ⟨p, y, m, d, s, t, rfl, hD, hE, h0, h1, hs, rfl, hy⟩, q⟩ := h
    refine ⟨_, (pss_cons (ps_expr (pe_call G_check (hr.mono (by first | decide | omega)) (by rfl) T.g_check T.F_check.kp T.b_check .nil pass0 (pa_cons (pv 0) (pa_cons (pv 2) pa_nil))))
      (pss_cons (ps_set (i := 3) sc_renew.nd rfl (Or.inl rfl) (pe_callB (call_min2 rfl) (by rfl) T.z_min (by decide +kernel) (pa_cons (pv 2) (pa_cons (pe_glob (v := .int 4800) (by rfl) T.g_CYCLE ⟨_, rfl⟩) pa_nil))))
      (pss_one (ps_ret (pe_call G_move (hr.mono (by first | decide | omega)) (by rfl) T.g_move T.F_move.kp T.b_move .nil pass0 (pa_cons (pv 0) (pa_cons (pe_op op_cat (pe_op op_rep (pe_lst (pa_cons (pv 1) pa_nil)) (pv 3)) (pe_lst (pa_cons (pe_op op_mulW (pv 1) (pe_op op_sub (pv 2) (pv 3))) pa_nil))) pa_nil))))))), ?_⟩
    refine f_seq (s_drop (ev_call (ea_cons (ev_var rfl) (ea_cons (ev_var rfl) ea_nil)) (sv_H (z := .non) fun H1 e1 => ⟨p, y, m, d, t, rfl, ex_t e1 hD, hE, h0, rfl⟩)) fun H1 e1 => ?_)
    refine f_seq (s_asg (ev_min2 (ev_var rfl) ev_c) fun H2 e2 => ?_)
    have e12 := e1.trans e2
    have hm : 0 ≤ min t 4800 ∧ min t 4800 ≤ 4800 ∧ min t 4800 ≤ t := by omega
    refine s_retU (eu_call2L (xs := tupD (mrun (12 * y + m - 1, d) (rks s t))) (ev_var rfl) (EvL.is (el_catW (xs := (List.replicate (min t 4800).toNat [V.int s]).flatten) (ys := [.int (s * (t - min t 4800))]) (el_repW (el_lst (ea_cons (ev_var rfl) ea_nil) (by show 1 ≤ 100000; decide)) (fun _ _ => ev_var rfl) ⟨hm.1, by omega⟩ (by show 1 ≤ 100; decide)) (el_lst (ea_cons (ev_op (ev_var rfl) (ev_op (ev_var rfl) (ev_var rfl) rv_I0) (rv_mul (Nat.le_trans hs (by decide +kernel)) (Nat.le_trans (show (t - min t 4800).natAbs ≤ 10 ^ 40 by omega) (by decide +kernel)))) ea_nil) (by show 1 ≤ 100000; decide)) (by rw [flat_one, List.length_replicate]; show _ + 1 ≤ 100000; omega)) (ys := (rks s t).map V.int) (by rw [flat_one]; unfold rks; rw [List.map_append, List.map_replicate]; rfl)) fun l H3 e3 h3 => ⟨p, l, y, m, d, rks s t, rfl, ex_t (e12.trans e3) hD, hE, sq_of h3, rfl, hy⟩) fun p4 H4 np4 e4 h4 => ?_
    exact q p4 H4 (fresh_back e12 np4) (e12.trans e4) h4
def D_anch (K : PySem.W.Frag) (H : Hp) (vs xs : List V) : Prop := ∃ (p : Addr) (y m d s t : Int), vs = [.ref p, .int s, .int t] ∧ DateAt K H p y m d ∧ Exists_ y m d ∧ 0 ≤ t ∧ t ≤ 10 ^ 40 ∧ s.natAbs ≤ 10 ^ 90 ∧ xs = tupD (mvs (12 * y + m - 1, d) (s * t)) ∧ y.natAbs ≤ 10 ^ 100
theorem ok_anchored (T : Top K mg) : FnOk P w K mg base CX0 5 T.f_anchored T.fd_anchored ["date", "step", "times"] (spU (D_anch K)) := by
  have G_check : FnOk P w K mg base CX0 4 T.f_check T.fd_check ["date", "times"] (spH (D_chk K)) := ok_check T
  have G_move : FnOk P w K mg base CX0 4 T.f_move T.fd_move ["date", "steps"] (spU (D_move K)) := ok_move T
  refine T.F_anchored.ok sc_anchored (fun vs H Q E h => ?_) (fun cdv A outer st H vs Q E hr h => ?_)
  · obtain ⟨z, ⟨p, y, m, d, s, t, rfl, _⟩, _⟩ := h; rfl
  · obtain ⟨z, ⟨p, y, m, d, s, t, rfl, hD, hE, h0, h1, hs, rfl, hy⟩, q⟩ := h
    refine ⟨_, (pss_cons (ps_expr (pe_call G_check (hr.mono (by first | decide | omega)) (by rfl) T.g_check T.F_check.kp T.b_check .nil pass0 (pa_cons (pv 0) (pa_cons (pv 2) pa_nil))))
      (pss_one (ps_ret (pe_call G_move (hr.mono (by first | decide | omega)) (by rfl) T.g_move T.F_move.kp T.b_move .nil pass0 (pa_cons (pv 0) (pa_cons (pe_lst (pa_cons (pe_op op_mulW (pv 1) (pv 2)) pa_nil)) pa_nil)))))), ?_⟩
    refine f_seq (s_drop (ev_call (ea_cons (ev_var rfl) (ea_cons (ev_var rfl) ea_nil)) (sv_H (z := .non) fun H1 e1 => ⟨p, y, m, d, t, rfl, ex_t e1 hD, hE, h0, rfl⟩)) fun H1 e1 => ?_)
    refine s_retU (eu_call2L (xs := tupD (mvs (12 * y + m - 1, d) (s * t))) (ys := [s * t].map V.int) (ev_var rfl) (el_lst (ea_cons (ev_op (ev_var rfl) (ev_var rfl) (rv_mul (Nat.le_trans hs (by decide +kernel)) (Nat.le_trans (show t.natAbs ≤ 10 ^ 40 by omega) (by decide +kernel)))) ea_nil) (by show 1 ≤ 100000; decide)) fun l H3 e3 h3 => ⟨p, l, y, m, d, [s * t], rfl, ex_t (e1.trans e3) hD, hE, sq_of h3, rfl, hy⟩) fun p4 H4 np4 e4 h4 => ?_
    exact q p4 H4 (fresh_back e1 np4) (e1.trans e4) h4
theorem mrun_rep_fst (st : Int × Int) (s : Int) (k : Nat) : (mrun st (List.replicate k s)).1 = st.1 + k * s := by
  rw [mrun_fst]
  congr 1
  induction k with
  | zero => simp
  | succ k ih => rw [List.replicate_succ, List.sum_cons, ih, show ((k + 1 : Nat) : Int) = (k : Int) + 1 from rfl, Int.add_mul]; omega
theorem rks_fst (st : Int × Int) {s t : Int} (h : 0 ≤ t) : (mrun st (rks s t)).1 = st.1 + s * t := by
  unfold rks
  rw [mrun_append]
  show (mrun st (List.replicate (min t 4800).toNat s)).1 + s * (t - min t 4800) = _
  rw [mrun_rep_fst, Int.toNat_of_nonneg (by omega), Int.mul_comm (min t 4800) s, Int.mul_sub]
  omega
theorem rks_snd_le (st : Int × Int) {s t : Int} (h : 0 ≤ t) : (mrun st (rks s t)).2 ≤ (mvs st (s * t)).2 := by
  have e := rks_fst st (s := s) h
  have h1 := mrun_snd_le st (rks s t)
  have h2 : (mrun st (rks s t)).2 ≤ mlen (mrun st (rks s t)).1 := by
    unfold rks
    rw [mrun_append]
    exact Int.min_le_right _ _
  rw [e] at h2
  show _ ≤ min st.2 (mlen (st.1 + s * t))
  omega
theorem rks_one {st : Int × Int} (h : fine st) (s : Int) : mrun st (rks s 1) = mvs st s := by
  have e : rks s 1 = [s, 0] := by
    unfold rks
    rw [show min (1 : Int) 4800 = 1 by decide, show s * (1 - 1) = 0 by simp]; rfl
  rw [e]
  exact mvs_zero (mvs_fine h s)
theorem rks_zero {st : Int × Int} (h : fine st) (s : Int) : mrun st (rks s 0) = st := by
  have e : rks s 0 = [0] := by
    unfold rks
    rw [show min (0 : Int) 4800 = 0 by decide, show s * (0 - 0) = 0 by simp]; rfl
  rw [e]
  exact mvs_zero h

/-! the check of a date moves no generator -/
theorem still_is_leap (T : Top K mg) : FnS P w K mg base CX0 1 T.f_is_leap T.fd_is_leap ["year"] (spF D_leap) := by
  refine fun_still T.F_is_leap sc_is_leap (fun vs H Q E h => ?_) (fun cdv A outer s H vs Q E hr h => ?_)
  · obtain ⟨z, ⟨y, rfl, _⟩, _⟩ := h; rfl
  · obtain ⟨z, ⟨y, rfl, rfl⟩, q⟩ := h
    refine ⟨_, (gss_one (gs_ret (ge_and (ge_cmp og_eq (ge_op og_mod (ge_var 0) ge_int) ge_int (nomark _)) (ge_one (ge_or (ge_cmp og_ne (ge_op og_mod (ge_var 0) ge_int) ge_int (nomark _)) (ge_one (ge_cmp og_eq (ge_op og_mod (ge_var 0) ge_int) ge_int (nomark _)))))))), ?_⟩
    exact s_ret (ev_andV (ev_op (ev_op (ev_var rfl) ev_c (rv_I (by decide))) ev_c rv_I0) fun _ => ev_orV (ev_op (ev_op (ev_var rfl) ev_c (rv_I (by decide))) ev_c rv_I0) fun _ => ev_op (ev_op (ev_var rfl) ev_c (rv_I (by decide))) ev_c rv_I0) q
theorem still_days_in (T : Top K mg) : FnS P w K mg base CX0 2 T.f_days_in T.fd_days_in ["year", "month"] (spF D_days) := by
  have G_is_leap : FnS P w K mg base CX0 1 T.f_is_leap T.fd_is_leap ["year"] (spF D_leap) := still_is_leap T
  refine fun_still T.F_days_in sc_days_in (fun vs H Q E h => ?_) (fun cdv A outer s H vs Q E hr h => ?_)
  · obtain ⟨z, ⟨y, m, rfl, _⟩, _⟩ := h; rfl
  · obtain ⟨z, ⟨y, m, rfl, h1, h12, rfl⟩, q⟩ := h
    refine ⟨_, (gss_cons (gs_if (GW.gt (gw_or (gt_cmp og_lt (ge_var 1) ge_int (nomark _)) (gw_or1 (gt_cmp og_gt (ge_var 1) ge_int (nomark _))))) (gss_one gs_never) gss_nil)
      (gss_cons (gs_if (GW.gt (gw_and (gt_cmp og_eq (ge_var 1) ge_int (nomark _)) (gw_and1 (gt_val (ge_call G_is_leap (hr.mono (by first | decide | omega)) (by rfl) T.g_is_leap T.F_is_leap.kp T.b_is_leap .nil pass0 (ga_cons (ge_var 0) ga_nil)))))) (gss_one (gs_ret ge_int)) gss_nil)
      (gss_one (gs_ret (ge_ixT (ge_glob (v := .ref T.a_DAYS_IN_COMMON_YEAR) (by rfl) T.g_DAYS_IN_COMMON_YEAR rfl) (ge_op og_sub (ge_var 1) ge_int) (fun _ _ => rfl)))))), ?_⟩
    refine f_seq (s_if (et_or (et_test (ev_op (ev_var rfl) ev_c rv_I0)) fun _ => et_test (ev_op (ev_var rfl) ev_c rv_I0)) (fun h => ?_) fun _ H1 e1 => ?_)
    · simp at h; omega
    refine f_seq (s_if (et_and (et_test (ev_op (ev_var rfl) ev_c rv_I0)) fun _ => et_B (ev_call (ea_cons (ev_var rfl) ea_nil) (sv_F ⟨y, rfl, rfl⟩))) (fun h H2 e2 => ?_) fun h H2 e2 => ?_)
    · simp at h
      obtain ⟨rfl, h⟩ := h
      refine s_ret ev_c fun H3 e3 => ?_
      have e : dlen y 2 = 29 := by simp [dlen, mlist, h, b2]
      rw [e] at q
      exact q _ ((e1.trans e2).trans e3)
    · have hm : m = 1 ∨ m = 2 ∨ m = 3 ∨ m = 4 ∨ m = 5 ∨ m = 6 ∨ m = 7 ∨ m = 8 ∨ m = 9 ∨ m = 10 ∨ m = 11 ∨ m = 12 := by omega
      have hq : atI ([.int 31, .int 28, .int 31, .int 30, .int 31, .int 30, .int 31, .int 31, .int 30, .int 31, .int 30, .int 31] : List V) (m - 1) = some (.int (dlen y m)) := by
        rcases hm with rfl | rfl | rfl | rfl | rfl | rfl | rfl | rfl | rfl | rfl | rfl | rfl
        case inr.inl =>
          simp at h
          have e : dlen y 2 = 28 := by simp [dlen, mlist, h, b2]
          rw [e]; exact atI_nat (j := 1) rfl
        all_goals (first | exact atI_nat (j := 0) rfl | exact atI_nat (j := 2) rfl | exact atI_nat (j := 3) rfl | exact atI_nat (j := 4) rfl | exact atI_nat (j := 5) rfl | exact atI_nat (j := 6) rfl | exact atI_nat (j := 7) rfl | exact atI_nat (j := 8) rfl | exact atI_nat (j := 9) rfl | exact atI_nat (j := 10) rfl | exact atI_nat (j := 11) rfl)
      exact s_ret (ev_op ev_c (ev_op (ev_var rfl) ev_c (rv_I trivial)) (rv_ixT (T.q_DAYS_IN_COMMON_YEAR _) hq)) fun H3 e3 => q _ ((e1.trans e2).trans e3)
theorem still_check_date (T : Top K mg) : FnS P w K mg base CX0 3 T.f_check_date T.fd_check_date ["date"] (spH (D_check K)) := by
  have G_days_in : FnS P w K mg base CX0 2 T.f_days_in T.fd_days_in ["year", "month"] (spF D_days) := still_days_in T
  refine fun_still T.F_check_date sc_check_date (fun vs H Q E h => ?_) (fun cdv A outer s H vs Q E hr h => ?_)
  · obtain ⟨z, ⟨p, y, m, d, rfl, _⟩, _⟩ := h; rfl
  · obtain ⟨z, ⟨p, y, m, d, rfl, hD, ⟨h1, h2, h3, h4⟩, rfl⟩, q⟩ := h
    refine ⟨_, (gss_cons (gs_asg (ge_var 0) (gg_tup rfl (ggs_cons (gg_name (i := 1) sc_check_date.nd rfl rfl) (ggs_cons (gg_name (i := 2) sc_check_date.nd rfl rfl) (ggs_cons (gg_name (i := 3) sc_check_date.nd rfl rfl) ggs_nil)))))
      (gss_cons (gs_if (GW.gt (gw_or (gt_cmp og_lt (ge_var 2) ge_int (nomark _)) (gw_or1 (gt_cmp og_gt (ge_var 2) ge_int (nomark _))))) (gss_one gs_never) gss_nil)
      (gss_one (gs_if (GW.gt (gw_or (gt_cmp og_lt (ge_var 3) ge_int (nomark _)) (gw_or1 (gt_cmp og_gt (ge_var 3) (ge_call G_days_in (hr.mono (by first | decide | omega)) (by rfl) T.g_days_in T.F_days_in.kp T.b_days_in .nil pass0 (ga_cons (ge_var 1) (ga_cons (ge_var 2) ga_nil))) (nomark _))))) (gss_one gs_never) gss_nil)))), ?_⟩
    refine f_seq (s_un3 (ev_var rfl) hD fun H1 e1 => ?_)
    refine f_seq (s_if (et_or (et_test (ev_op (ev_var rfl) ev_c rv_I0)) fun _ => et_test (ev_op (ev_var rfl) ev_c rv_I0)) (fun hb _ _ => ?_) fun _ H2 e2 => ?_)
    · simp at hb; omega
    refine s_if (et_or (et_test (ev_op (ev_var rfl) ev_c rv_I0)) fun _ => et_test (ev_op (ev_var rfl) (ev_call (ea_cons (ev_var rfl) (ea_cons (ev_var rfl) ea_nil)) (sv_F ⟨y, m, rfl, h1, h2, rfl⟩)) rv_I0)) (fun hb _ _ => ?_) fun _ H3 e3 => ?_
    · simp at hb; omega
    exact q H3 ((e1.trans e2).trans e3)

/-! renewal_dates, one by one -/
def tb19 (K : PySem.W.Frag) : Hp → (Nat → List V) → Nat → TGN := fun Hb it tot => tNThen (tKeep (tDrop (tCall (spH (D_check K)) [] E0 (tCons (tVar 0) tNil)))) (tNThen (tNWhile (tB (tC (.bl true))) (tNThen (tYldQ False Hb it tot False (tVar 0)) (tNThen (tKeep (tAsg (tCall (spU (D_move K)) [] E0 (tCons (tVar 0) (tCons (tLst (tCons (tVar 1) tNil)) tNil))) (gName 0))) tN0))) tN0)
theorem body19 (T : Top K mg) (F : GFam) (cdv : Value) (A : Around) (outer : List Env) (L : Addr) (Hb : Hp) (O : Shared → List Addr) (it : Nat → List V) (tot : Nat)
    (hF : F = ⟨P, w, K, mg, base, ["date", "step"], "renewal_dates", defScope s_renewal_dates, T.f_renewal_dates, cdv, A, outer, L, Hb, O, it, tot, False⟩) (ok : F.Ok ["date", "step"]) (hr : Room 5 (A.deeper F.env)) : GNs F (defBody s_renewal_dates) (tb19 K Hb it tot) := by
  have G_check_date : FnOk P w K mg base CX0 3 T.f_check_date T.fd_check_date ["date"] (spH (D_check K)) := ok_check_date T
  have G_move : FnOk P w K mg base CX0 4 T.f_move T.fd_move ["date", "steps"] (spU (D_move K)) := ok_move T
  subst hF
  have hr' : ∀ env', Room 5 (A.deeper env') := fun env' => ⟨hr.hd, hr.dp, hr.un⟩
  refine gns_cons (gn_ps fun s0 H0 => ?_) (gns_cons (gn_while (fun s0 H0 => owns_gcx) (fun s0 H0 => ?_) (gns_cons (gn_yield ok (fun z => z.elim) (fun s0 H0 => ?_) rfl) (gns_cons (gn_ps fun s0 H0 => ?_) gns_nil))) gns_nil)
  · exact ps_expr (pe_call G_check_date ((hr' _).mono (by decide)) (by rfl) T.g_check_date T.F_check_date.kp T.b_check_date .nil pass0 (pa_cons (pv 0) pa_nil))
  · exact pt_val pe_bl
  · exact pv 0
  · exact ps_set (i := 0) sc_renewal_dates.nd rfl (Or.inl rfl) (pe_call G_move ((hr' _).mono (by decide)) (by rfl) T.g_move T.F_move.kp T.b_move .nil pass0 (pa_cons (pv 0) (pa_cons (pe_lst (pa_cons (pv 1) pa_nil)) pa_nil)))
/-- its items -/
def it19 (st : Int × Int) (s : Int) (j : Nat) : List V := tupD (mrun st (List.replicate j s))
theorem sum_rep (k : Nat) {s : Int} (hs : s.natAbs ≤ 10 ^ 90) : (List.replicate k s).sum.natAbs ≤ k * 10 ^ 90 := by
  induction k with
  | zero => simp
  | succ k ih =>
    rw [List.replicate_succ, List.sum_cons, Nat.succ_mul]
    have := Int.natAbs_add_le s (List.replicate k s).sum
    omega
theorem term19 {Hb : Hp} {p : Addr} {y m d s : Int} {tot : Nat} (h : Hb p = some (.tup [.int y, .int m, .int d])) (hE : Exists_ y m d) (hs : s.natAbs ≤ 10 ^ 90) (hy : y.natAbs ≤ 10 ^ 90) (ht : tot ≤ 100000) (h0 : 0 < tot) {H : Hp} (e0 : Ex Hb H) :
    tb19 K Hb (it19 (12 * y + m - 1, d) s) tot { nx := fun k _ _ => k = 0 ∧ False, rt := fun _ _ _ => False } tot (start ["date", "step"] [.ref p, .int s]) H := by
  have hf0 : fine (12 * y + m - 1, d) := fine_of hE
  have t0 : tupD (12 * y + m - 1, d) = [.int y, .int m, .int d] := by
    have := hE.1; have := hE.2.1
    show [V.int ((12 * y + m - 1) / 12), V.int ((12 * y + m - 1) % 12 + 1), V.int d] = _
    rw [show (12 * y + m - 1) / 12 = y by omega, show (12 * y + m - 1) % 12 + 1 = m by omega]
  show tKeep _ _ _ [some (.ref p), some (.int s)] H
  refine f_call (f_cons (f_var rfl (f_nil ⟨.non, ⟨p, y, m, d, rfl, st_of (e0 _ _ h), hE, rfl⟩, fun H1 e1 => ⟨e1, ?_⟩⟩)))
  refine ⟨fun k n' σ U => k = n' ∧ n' ≤ tot ∧ ∃ q, σ = [some (.ref q), some (.int s)] ∧ Ex Hb U ∧ 0 < n' ∧ U q = some (.tup (it19 (12 * y + m - 1, d) s (tot - n'))), ⟨tot, rfl, Nat.le_refl _, p, rfl, e0.trans e1, h0, ?_⟩, ?_⟩
  · rw [Nat.sub_self]
    show H1 p = some (.tup (tupD (12 * y + m - 1, d)))
    rw [t0]; exact e1 _ _ (e0 _ _ h)
  rintro k n' σ U ⟨rfl, hle, q, rfl, eU, hpos, hq⟩
  refine ⟨true, rfl, Ex.refl _, ?_⟩
  rw [if_pos rfl]
  refine ⟨fun n2 σ2 U2 => n2 + 1 = k ∧ ∃ q, σ2 = [some (.ref q), some (.int s)] ∧ Ex Hb U2 ∧ 0 < n2 ∧ U2 q = some (.tup (it19 (12 * y + m - 1, d) s (tot - n2))), fun n2 σ2 U2 ⟨a, b⟩ => ⟨n2, by omega, rfl, by omega, b⟩, ?_⟩
  obtain ⟨n2, rfl⟩ : ∃ n2, k = n2 + 1 := ⟨k - 1, by omega⟩
  refine ⟨n2, rfl, f_var rfl ⟨Ex.refl _, q, none, rfl, hq, (fun c ks z => nomatch z), fun hm H2 e2 r2 _ => ?_⟩⟩
  have hm : 0 < n2 := hm.elim id fun z => z.elim
  have fn : fine (mrun (12 * y + m - 1, d) (List.replicate (tot - (n2 + 1)) s)) := mrun_fine hf0 _
  have yr : ((mrun (12 * y + m - 1, d) (List.replicate (tot - (n2 + 1)) s)).1 / 12).natAbs ≤ 10 ^ 100 := by
    rw [mrun_fst]
    have h := sum_rep (tot - (n2 + 1)) hs
    have h2 : (tot - (n2 + 1)) * 10 ^ 90 ≤ 100000 * 10 ^ 90 := Nat.mul_le_mul_right _ (by omega)
    have := hE.1; have := hE.2.1
    show ((12 * y + m - 1 + (List.replicate (tot - (n2 + 1)) s).sum) / 12).natAbs ≤ _
    generalize (List.replicate (tot - (n2 + 1)) s).sum = z at h
    exact Nat.le_trans (by omega : _ ≤ 10 ^ 97) (by decide)
  have ad : mrun (12 * y + m - 1, d) (List.replicate (tot - n2) s) = mrun (mrun (12 * y + m - 1, d) (List.replicate (tot - (n2 + 1)) s)) [s] := by
    rw [show tot - n2 = (tot - (n2 + 1)) + 1 by omega, List.replicate_succ', mrun_append]
  refine s_asgU (xs := tupD (mrun (12 * y + m - 1, d) (List.replicate (tot - n2) s))) (eu_call2L (v := .ref q) (ys := [s].map V.int) (ev_var rfl) (el_lst (ea_cons (ev_var rfl) ea_nil) (by show 1 ≤ 100000; decide)) fun l U3 e3 h3 => ⟨q, l, _, _, _, [s], rfl, ?_, of_fine fn, sq_of h3, by rw [ad, back_st], yr⟩) fun q5 U5 nq5 e5 h5 => ⟨e5, rfl, q5, rfl, e2.trans e5, hm, h5⟩
  rcases r2 with z | ⟨o, z⟩
  · exact .inl (.inl (e3 _ _ z))
  · exact .inl (.inr ⟨o, e3 _ _ z⟩)

/-- the first item leaves the others alone -/
theorem hush19 (T : Top K mg) (F : GFam) (cdv : Value) (A : Around) (outer : List Env) (L : Addr) (Hb : Hp) (O : Shared → List Addr) (it : Nat → List V) (tot : Nat) (hF : F = ⟨P, w, K, mg, base, ["date", "step"], "renewal_dates", defScope s_renewal_dates, T.f_renewal_dates, cdv, A, outer, L, Hb, O, it, tot, False⟩) (ok : F.Ok ["date", "step"]) (hr : Room 5 (A.deeper F.env))
    {p : Addr} {y m d s : Int} (h : Hb p = some (.tup [.int y, .int m, .int d])) (hE : Exists_ y m d) {fo : Obj} {mm : Str → Option Value} {q : Addr} {oq : Obj} {sn : Shared} (hLn : Hb L = none) (ns : ∀ h : Heap, h.get? L = some fo → h.Ns L mm)
    (vars : ∀ (i : Nat) (x : Str) (v : V), (["date", "step"] : List Str)[i]? = some x → (start ["date", "step"] [.ref p, .int s])[i]? = some (some v) → Vis (defScope s_renewal_dates) x → ∃ u, L2.RelV v u ∧ (defScope s_renewal_dates).names.lookup x = some .local ∧ mm x = some u) (len : (start (["date", "step"] : List Str) [.ref p, .int s]).length = (["date", "step"] : List Str).length) :
    ∀ s', s'.os = sn.os → F.Wk [(L, fo)] q oq sn s' → (GenState.fresh (.func (defBody s_renewal_dates) F.env)).Goes (model F.P F.w) F.A (fun _ s0 r s1 => ((r = .ok (.ret .none) ∨ r = .ok .next) ∧ s1.gens = s0.gens) ∨ ∃ e : Value, r = .error e ∧ False) (fun _ s0 _ s1 _ => s1.gens = s0.gens) 1 (.send .none) s' := by
  subst hF
  have hr' : ∀ env', Room 5 (A.deeper env') := fun env' => ⟨hr.hd, hr.dp, hr.un⟩
  refine hush_loop (F := ⟨P, w, K, mg, base, ["date", "step"], "renewal_dates", defScope s_renewal_dates, T.f_renewal_dates, cdv, A, outer, L, Hb, O, it, tot, False⟩) (σ := start ["date", "step"] [.ref p, .int s]) (j := 0) (v := .ref p) ok rfl rfl hLn ns vars len (fun s0 H0 H st inv eH => ?_) (fun s0 H0 => gt_val ge_bl) rfl (Or.inl rfl) rfl
  refine wpAny_mono (StG.go (X := (GFam.X ⟨P, w, K, mg, base, ["date", "step"], "renewal_dates", defScope s_renewal_dates, T.f_renewal_dates, cdv, A, outer, L, Hb, O, it, tot, False⟩ s0 H0).nox) (t := tDrop (tCall (spH (D_check K)) [] E0 (tCons (tVar 0) tNil))) (D := { nx := fun σ' _ => σ' = start ["date", "step"] [.ref p, .int s], rt := fun _ _ => False }) (gs_expr (ge_call (still_check_date T) ((hr' _).mono (by decide)) (by rfl) T.g_check_date T.F_check_date.kp T.b_check_date .nil pass0 (ga_cons (ge_var 0) ga_nil))) (inv.wish _) (f_call (f_cons (f_var rfl (f_nil ⟨.non, ⟨p, y, m, d, rfl, st_of (eH _ _ h), hE, rfl⟩, fun H1 e1 => rfl⟩))))) (fun fl s' hs => ?_) fun e s' hx => False.elim hx
  obtain ⟨hs, g1⟩ := hs
  match fl, hs with
  | .next, ⟨σ', H', J, q⟩ => subst q; exact ⟨rfl, g1, H', J.unwish⟩
  | .ret u, ⟨v, σ', H', J, rv, q⟩ => exact q.elim
  | .brk, ⟨_, _, _, q⟩ => exact q.elim
  | .cont, ⟨_, _, _, q⟩ => exact q.elim

/-- zip(range(20), renewal_dates(y1, y2), renewal_dates(y1, y2)) -/
def Hc19 (Hb : Hp) (v1 v2 : V) : Prop := ∃ (p : Addr) (y m d s : Int), v1 = .ref p ∧ v2 = .int s ∧ Hb p = some (.tup [.int y, .int m, .int d]) ∧ Exists_ y m d
theorem pg2_renew {X : Cx} (T : Top X.K X.mg) {k i j : Nat} {ki : Int} {y1 y2 : Str} {p pr p1 p2 p3 p4 q1p q2p f1 f2 pos rpos c1 tpos : Pos} {cj : Nat} {elts : List Expr} {kk : Nat} {scope0 : Scope} (hki : ki = (k : Nat)) (hsz : Builtin.Range.rangeSize 0 ki 1 = ki) (hsm : Builtin.Range.small 0 ki 1 = true)
    (hc : X.calm = true) (hg : Gl X "zip") (hgr : Gl X "range") (hgf : Gl X "renewal_dates") (hN1 : X.N[i]? = some y1) (hv1 : Vis X.env.scope y1) (hN2 : X.N[j]? = some y2) (hv2 : Vis X.env.scope y2) (hr : Room 8 X.A)
    (hs0 : starEach [.Call (.Name "range" pr) [.Constant (.int ki) cj rpos] [] c1, .Call (.Name "renewal_dates" f1) [.Name y1 p1, .Name y2 p2] [] q1p, .Call (.Name "renewal_dates" f2) [.Name y1 p3, .Name y2 p4] [] q2p] X.env = (false, eval (.Call (.Name "range" pr) [.Constant (.int ki) cj rpos] [] c1) X.env) :: starEach [.Call (.Name "renewal_dates" f1) [.Name y1 p1, .Name y2 p2] [] q1p, .Call (.Name "renewal_dates" f2) [.Name y1 p3, .Name y2 p4] [] q2p] X.env := by rfl)
    (hs1 : starEach [.Call (.Name "renewal_dates" f1) [.Name y1 p1, .Name y2 p2] [] q1p, .Call (.Name "renewal_dates" f2) [.Name y1 p3, .Name y2 p4] [] q2p] X.env = (false, eval (.Call (.Name "renewal_dates" f1) [.Name y1 p1, .Name y2 p2] [] q1p) X.env) :: starEach [.Call (.Name "renewal_dates" f2) [.Name y1 p3, .Name y2 p4] [] q2p] X.env := by rfl)
    (hs2 : starEach [.Call (.Name "renewal_dates" f2) [.Name y1 p3, .Name y2 p4] [] q2p] X.env = (false, eval (.Call (.Name "renewal_dates" f2) [.Name y1 p3, .Name y2 p4] [] q2p) X.env) :: starEach [] X.env := by rfl)
    (hpl : (backTo pos (starEach [.Call (.Name "renewal_dates" f1) [.Name y1 p1, .Name y2 p2] [] q1p, .Call (.Name "renewal_dates" f2) [.Name y1 p3, .Name y2 p4] [] q2p] X.env)).any (·.1) = false := by rfl)
    (hd1 : (y1 == ("__debug__" : Str)) = false := by decide) (hcd1 : (y1 == ("__classdict__" : Str)) = false := by decide) (hd2 : (y2 == ("__debug__" : Str)) = false := by decide) (hcd2 : (y2 == ("__classdict__" : Str)) = false := by decide) :
    PG2 X (.Tuple elts kk tpos) (.Call (.Name "zip" p) [.Call (.Name "range" pr) [.Constant (.int ki) cj rpos] [] c1, .Call (.Name "renewal_dates" f1) [.Name y1 p1, .Name y2 p2] [] q1p, .Call (.Name "renewal_dates" f2) [.Name y1 p3, .Name y2 p4] [] q2p] [] pos) scope0 (tZip3 k i j ["date", "step"] (tb19 X.K) Hc19) := by
  obtain ⟨oc, od, kV, doc, pm, an, cdv, ct, osl, e, lk, hcd⟩ := T.F_renewal_dates.ex
  refine pg2_zip3 (kr := 5) hki hsz hsm hc hg T.z_zip hgr T.z_range hgf T.g_renewal_dates T.F_renewal_dates.kp hN1 hv1 hN2 hv2 (e ▸ lk) hcd sc_renewal_dates (by decide +kernel) (fun _ => rfl) (e ▸ T.b_renewal_dates) hr (fun L Hb O it tot ok hr' => ?_) (fun L Hb O it tot v1 v2 fo mm q oq sn ok hr' hHc hLn ns vars len => ?_) hs0 hs1 hs2 hpl (by decide) hd1 hcd1 hd2 hcd2
  · exact body19 (P := X.prog) (w := X.w) (base := X.base) T _ cdv X.A.in1.in1 X.stack L Hb O it tot rfl ok hr'
  · obtain ⟨p, y, m, d, s, rfl, rfl, hp, hE⟩ := hHc
    exact hush19 (P := X.prog) (w := X.w) (base := X.base) T _ cdv X.A.in1.in1 X.stack L Hb O it tot rfl ok hr' hp hE hLn ns vars len
/-- renewal_dates(y1, y2) -/
theorem pgen_renew {X : Cx} (T : Top X.K X.mg) {i j : Nat} {y1 y2 : Str} {p p1 p2 pos : Pos} {cdv : Value} {oc kV doc pm ct : Value} {an od : Option Addr} {osl : Array (Option Value)} (e : T.fd_renewal_dates = PySem.W.fnOf "renewal_dates" "renewal_dates" (defArgs s_renewal_dates) (defBody s_renewal_dates) (defScope s_renewal_dates) .none kV doc pm an cdv ct)
    (lk : X.K.lookup T.f_renewal_dates = some ⟨oc, od, .func T.fd_renewal_dates, osl⟩) (hcd : PySem.W.codeIn X.K cdv "renewal_dates" = true) (hgf : Gl X "renewal_dates") (hN1 : X.N[i]? = some y1) (hv1 : Vis X.env.scope y1) (hN2 : X.N[j]? = some y2) (hv2 : Vis X.env.scope y2) (hr : Room 1 X.A)
    (hs1 : starEach [.Name y1 p1, .Name y2 p2] X.env = (false, eval (.Name y1 p1) X.env) :: starEach [.Name y2 p2] X.env := by rfl) (hs2 : starEach [.Name y2 p2] X.env = (false, eval (.Name y2 p2) X.env) :: starEach [] X.env := by rfl) (hpl : (backTo pos (starEach [.Name y2 p2] X.env)).any (·.1) = false := by rfl)
    (hd1 : (y1 == ("__debug__" : Str)) = false := by decide) (hcd1 : (y1 == ("__classdict__" : Str)) = false := by decide) (hd2 : (y2 == ("__debug__" : Str)) = false := by decide) (hcd2 : (y2 == ("__classdict__" : Str)) = false := by decide) :
    PGen X (.Call (.Name "renewal_dates" p) [.Name y1 p1, .Name y2 p2] [] pos) ["date", "step"] "renewal_dates" (defScope s_renewal_dates) T.f_renewal_dates cdv (defBody s_renewal_dates) i j :=
  ⟨fun pins s σ H v1 v2 Q E I e1 e2 h => new_fn I hgf T.g_renewal_dates T.F_renewal_dates.kp hN1 hv1 hN2 hv2 (e ▸ lk) hcd sc_renewal_dates (by decide +kernel) (e ▸ T.b_renewal_dates) hr e1 e2 h hs1 hs2 hpl (by decide) hd1 hcd1 hd2 hcd2⟩
/-- renewal_dates(step=y2, date=y1) -/
theorem kb19 {K : PySem.W.Frag} {f : Addr} {fd : FuncData} (F : Fun K "renewal_dates" "renewal_dates" s_renewal_dates f fd) (s : Shared) (u1 u2 : Value) : BindsTo s fd ⟨[], [("step", u2), ("date", u1)]⟩ [("date", u1), ("step", u2)] := by
  obtain ⟨oc, od, kV, doc, pm, an, cdv, ct, osl, rfl, lk, hcd⟩ := F.ex
  exact .of_eq rfl
theorem pgen_renewK {X : Cx} (T : Top X.K X.mg) {i j : Nat} {y1 y2 : Str} {p p1 p2 k1 k2 pos : Pos} {cdv : Value} {oc kV doc pm ct : Value} {an od : Option Addr} {osl : Array (Option Value)} (e : T.fd_renewal_dates = PySem.W.fnOf "renewal_dates" "renewal_dates" (defArgs s_renewal_dates) (defBody s_renewal_dates) (defScope s_renewal_dates) .none kV doc pm an cdv ct)
    (lk : X.K.lookup T.f_renewal_dates = some ⟨oc, od, .func T.fd_renewal_dates, osl⟩) (hcd : PySem.W.codeIn X.K cdv "renewal_dates" = true) (hgf : Gl X "renewal_dates") (hN1 : X.N[i]? = some y1) (hv1 : Vis X.env.scope y1) (hN2 : X.N[j]? = some y2) (hv2 : Vis X.env.scope y2) (hr : Room 1 X.A)
    (hd1 : (y1 == ("__debug__" : Str)) = false := by decide) (hcd1 : (y1 == ("__classdict__" : Str)) = false := by decide) (hd2 : (y2 == ("__debug__" : Str)) = false := by decide) (hcd2 : (y2 == ("__classdict__" : Str)) = false := by decide) :
    PGen X (.Call (.Name "renewal_dates" p) [] [⟨some "step", .Name y2 p2, k2⟩, ⟨some "date", .Name y1 p1, k1⟩] pos) ["date", "step"] "renewal_dates" (defScope s_renewal_dates) T.f_renewal_dates cdv (defBody s_renewal_dates) i j :=
  ⟨fun pins s σ H v1 v2 Q E I e1 e2 h => by
    refine wpAny_Call_Name_kw (ld_glob I hgf T.g_renewal_dates (PySem.W.callWith_KW0 (h₀ := X.base) I.ok.mod.kin T.F_renewal_dates.kp rfl ?_ rfl) (by decide))
    refine wpAny_evalAll_cons (wpAny_bind (name_same I hN2 hv2 e2 (fun u2 r2 => wpAny_bind (wpAny_standAt (wpAny_pure (wpAny_evalAll_cons (wpAny_bind (name_same I hN1 hv1 e1 (fun u1 r1 => wpAny_bind (wpAny_standAt (wpAny_pure (wpAny_evalAll_nil ⟨I.kIn, ?_⟩)))) hd1 hcd1)))))) hd2 hcd2))
    refine wpAny_call (codeAny_mono (gnew_of (e ▸ lk) hcd sc_renewal_dates (by decide +kernel) hr I.env0 (e ▸ kb19 T.F_renewal_dates s u1 u2) (us := [u1, u2]) (vs := [v1, v2]) (.cons r1 (.cons r2 .nil)) rfl) fun r s' hq => ?_)
    obtain ⟨a, L, go, fo, mm, rfl, G⟩ := hq
    exact h s' a L go fo mm G⟩
/-! the loops over it -/
theorem ps_for19 {X : Cx} (T : Top X.K X.mg) {i j : Nat} {y y1 y2 : Str} {py p p1 p2 pos0 pos : Pos} {body : List Stmt} {g : TG} {t : TS} (hpn : X.pn = []) (hxe : X.xe = fun _ _ => False) (hgf : Gl X "renewal_dates") (hN1 : X.N[i]? = some y1) (hv1 : Vis X.env.scope y1) (hN2 : X.N[j]? = some y2) (hv2 : Vis X.env.scope y2) (hr : Room 7 X.A) (hg : PG X (.Name y py) g) (hb : PSs X body t)
    (hs1 : starEach [.Name y1 p1, .Name y2 p2] X.env = (false, eval (.Name y1 p1) X.env) :: starEach [.Name y2 p2] X.env := by rfl) (hs2 : starEach [.Name y2 p2] X.env = (false, eval (.Name y2 p2) X.env) :: starEach [] X.env := by rfl) (hpl : (backTo pos0 (starEach [.Name y2 p2] X.env)).any (·.1) = false := by rfl)
    (hd1 : (y1 == ("__debug__" : Str)) = false := by decide) (hcd1 : (y1 == ("__classdict__" : Str)) = false := by decide) (hd2 : (y2 == ("__debug__" : Str)) = false := by decide) (hcd2 : (y2 == ("__classdict__" : Str)) = false := by decide) (hs : ∀ x, foldedSetIterable (.Call (.Name "renewal_dates" p) [.Name y1 p1, .Name y2 p2] [] pos0) X.env x = pure x := by intro _; rfl) :
    PS X (.For (.Name y py) (.Call (.Name "renewal_dates" p) [.Name y1 p1, .Name y2 p2] [] pos0) body [] pos) (tForG i j ["date", "step"] (tb19 X.K) g t) := by
  obtain ⟨oc, od, kV, doc, pm, an, cdv, ct, osl, e, lk, hcd⟩ := T.F_renewal_dates.ex
  exact ps_forG (kr := 5) hpn hxe sc_renewal_dates (by decide +kernel) (fun _ => rfl) (pgen_renew T e lk hcd hgf hN1 hv1 hN2 hv2 (hr.mono (by decide)) hs1 hs2 hpl hd1 hcd1 hd2 hcd2) hr (fun L Hb it tot ok hr' => body19 (P := X.prog) (w := X.w) (base := X.base) T _ cdv X.A.in1 X.stack L Hb (fun _ => []) it tot rfl ok hr') hg hb hs
theorem ps_for19K {X : Cx} (T : Top X.K X.mg) {i j : Nat} {y y1 y2 : Str} {py p p1 p2 k1 k2 pos0 pos : Pos} {body : List Stmt} {g : TG} {t : TS} (hpn : X.pn = []) (hxe : X.xe = fun _ _ => False) (hgf : Gl X "renewal_dates") (hN1 : X.N[i]? = some y1) (hv1 : Vis X.env.scope y1) (hN2 : X.N[j]? = some y2) (hv2 : Vis X.env.scope y2) (hr : Room 7 X.A) (hg : PG X (.Name y py) g) (hb : PSs X body t)
    (hd1 : (y1 == ("__debug__" : Str)) = false := by decide) (hcd1 : (y1 == ("__classdict__" : Str)) = false := by decide) (hd2 : (y2 == ("__debug__" : Str)) = false := by decide) (hcd2 : (y2 == ("__classdict__" : Str)) = false := by decide) (hs : ∀ x, foldedSetIterable (.Call (.Name "renewal_dates" p) [] [⟨some "step", .Name y2 p2, k2⟩, ⟨some "date", .Name y1 p1, k1⟩] pos0) X.env x = pure x := by intro _; rfl) :
    PS X (.For (.Name y py) (.Call (.Name "renewal_dates" p) [] [⟨some "step", .Name y2 p2, k2⟩, ⟨some "date", .Name y1 p1, k1⟩] pos0) body [] pos) (tForG i j ["date", "step"] (tb19 X.K) g t) := by
  obtain ⟨oc, od, kV, doc, pm, an, cdv, ct, osl, e, lk, hcd⟩ := T.F_renewal_dates.ex
  exact ps_forG (kr := 5) hpn hxe sc_renewal_dates (by decide +kernel) (fun _ => rfl) (pgen_renewK T e lk hcd hgf hN1 hv1 hN2 hv2 (hr.mono (by decide)) hd1 hcd1 hd2 hcd2) hr (fun L Hb it tot ok hr' => body19 (P := X.prog) (w := X.w) (base := X.base) T _ cdv X.A.in1 X.stack L Hb (fun _ => []) it tot rfl ok hr') hg hb hs

/-! the first dates that are yielded -/
inductive RdsAt (H : Hp) : List V → List (List Int) → Prop
  | nil : RdsAt H [] []
  | snoc {d : Addr} {x : List Int} {vs : List V} {xs : List (List Int)} (t : RdsAt H vs xs) (h : Rd H d (.tup (x.map V.int))) : RdsAt H (vs ++ [.ref d]) (xs ++ [x])
theorem RdsAt.ex {H H' : Hp} (e : Ex H H') {vs : List V} {xs : List (List Int)} (h : RdsAt H vs xs) : RdsAt H' vs xs := by
  induction h with
  | nil => exact .nil
  | snoc t h ih => exact .snoc ih (h.imp (fun z => e _ _ z) fun ⟨o, z⟩ => ⟨o, e _ _ z⟩)
theorem RdsAt.upd {H : Hp} {f : Addr} {ws ws' : List V} (hf : H f = some (.lst ws)) {vs : List V} {xs : List (List Int)} (h : RdsAt H vs xs) : RdsAt (upd H f (.lst ws')) vs xs := by
  induction h with
  | nil => exact .nil
  | snoc t h ih =>
    refine .snoc ih (h.imp (fun z => ?_) fun ⟨o, z⟩ => ⟨o, ?_⟩)
    · rw [upd_ne (fun e => by rw [e, hf] at z; cases z)]; exact z
    · rw [upd_ne (fun e => by rw [e, hf] at z; cases z)]; exact z
theorem RdsAt.len {H : Hp} {vs : List V} {xs : List (List Int)} (h : RdsAt H vs xs) : vs.length = xs.length := by
  induction h with
  | nil => rfl
  | snoc t h ih => simp [ih]
/-- the dates after 0, 1, .. repetitions -/
def rens (st : Int × Int) (s : Int) (k : Nat) : List (List Int) := (List.range k).map fun i => tupI (mrun st (List.replicate i s))
theorem rens_succ (st : Int × Int) (s : Int) (k : Nat) : rens st s (k + 1) = rens st s k ++ [tupI (mrun st (List.replicate k s))] := by
  unfold rens
  rw [List.range_succ, List.map_append]; rfl
def spFirst (K : PySem.W.Frag) : Sp := fun vs H Q _ => ∃ (p : Addr) (y m d s : Int) (n : Nat), vs = [.ref p, .int s, .int n] ∧ H p = some (.tup [.int y, .int m, .int d]) ∧ Exists_ y m d ∧ s.natAbs ≤ 10 ^ 90 ∧ y.natAbs ≤ 10 ^ 90 ∧ 0 < n ∧ n ≤ 90000 ∧
  ∀ q ws H', H q = none → Ex H H' → H' q = some (.lst ws) → RdsAt H' ws (rens (12 * y + m - 1, d) s n) → Q (.ref q) H'
/-- the loop -/
theorem loop19 {p f : Addr} {y m d s : Int} {n : Nat} {H0 H1 : Hp} {D : Ends} (hp : H0 p = some (.tup [.int y, .int m, .int d])) (hE : Exists_ y m d) (hs : s.natAbs ≤ 10 ^ 90) (hy : y.natAbs ≤ 10 ^ 90) (h0 : 0 < n) (hn : n ≤ 90000) (e0 : Ex H0 H1) (nf : H0 f = none) (hf : H1 f = some (.lst []))
    (k : ∀ ws v H', Ex H0 H' → H' f = some (.lst ws) → RdsAt H' ws (rens (12 * y + m - 1, d) s n) → D.nx [some (.ref p), some (.int s), some (.int n), some (.ref f), v] H') :
    tForG 0 1 ["date", "step"] (tb19 K) (gName 4) (tSeq (tDrop (tBM K "list" rAppend (tVar 3) (tCons (tVar 4) tNil))) (tIfS (tTest (tOp rEq (tCB (rLenS K) (tCons (tVar 3) tNil)) (tVar 2))) tBreak tNext)) D [some (.ref p), some (.int s), some (.int n), some (.ref f), none] H1 := by
  have hb0 : Ex (L2.upd (fun _ => none) p (.tup [.int y, .int m, .int d])) H0 := fun b u g => by
    by_cases e : b = p
    · rw [e, upd_same] at g; cases g; rw [e]; exact hp
    · rw [upd_ne e] at g; cases g
  have pf : p ≠ f := fun e => by rw [e, nf] at hp; cases hp
  refine ⟨.ref p, .int s, p, L2.upd (fun _ => none) p (.tup [.int y, .int m, .int d]), it19 (12 * y + m - 1, d) s, n, rfl, rfl, hb0.trans e0, (by rw [upd_same]; intro z; cases z), fun b u g => ?_, fun H' e' => term19 upd_same hE hs hy (by omega) h0 e', ?_⟩
  · by_cases e : b = p
    · rw [e, upd_same] at g; cases g
      exact .inr (.inl ⟨_, rfl⟩)
    · rw [upd_ne e] at g; cases g
  refine ⟨fun i σ H => 0 < i ∧ i ≤ n ∧ ∃ v ws, σ = [some (.ref p), some (.int s), some (.int n), some (.ref f), v] ∧ Ex H0 H ∧ H f = some (.lst ws) ∧ RdsAt H ws (rens (12 * y + m - 1, d) s (n - i)), ⟨h0, Nat.le_refl _, none, [], rfl, e0, hf, by rw [Nat.sub_self]; exact .nil⟩, fun σ H h => absurd h.1 (Nat.lt_irrefl _), ?_⟩
  rintro i σ1 H1' ⟨_, hi, v, ws, rfl, eH, hw, ra⟩ q H' e' rq
  have lw : ws.length = n - (i + 1) := by rw [ra.len]; unfold rens; rw [List.length_map, List.length_range]
  have hw' := e' _ _ hw
  refine f_gName ?_
  refine s_app (v := .ref q) hw' (ev_var rfl) (ev_var rfl) (by omega) fun H2 e2 => ?_
  have hw2 := e2 _ _ hw'
  have ex2 : Ex H0 (upd H2 f (.lst (ws ++ [.ref q]))) := ((eH.trans e').trans e2).mut nf
  have ra2 : RdsAt (upd H2 f (.lst (ws ++ [.ref q]))) (ws ++ [.ref q]) (rens (12 * y + m - 1, d) s (n - i)) := by
    rw [show n - i = (n - (i + 1)) + 1 by omega, rens_succ]
    refine .snoc ((ra.ex (e'.trans e2)).upd hw2) ?_
    have z : Rd H2 q (.tup (it19 (12 * y + m - 1, d) s (n - (i + 1)))) := rq.imp (fun z => e2 _ _ z) fun ⟨o, z⟩ => ⟨o, e2 _ _ z⟩
    rw [← tupI_map]
    refine z.imp (fun z => ?_) fun ⟨o, z⟩ => ⟨o, ?_⟩
    · rw [upd_ne (fun e => by rw [e, hw2] at z; cases z)]; exact z
    · rw [upd_ne (fun e => by rw [e, hw2] at z; cases z)]; exact z
  have l2 : ((ws ++ [V.ref q]).length : Int) = ((n - i : Nat) : Int) := by rw [List.length_append, lw]; simp; omega
  refine s_if (et_test (ev_op (ev_lenS (ev_var rfl) (.inl (sq_of upd_same))) (ev_var rfl) rv_eqI)) (fun hb H3 e3 => ?_) fun hb H3 e3 => ?_
  · have hb : ((ws ++ [V.ref q]).length : Int) = (n : Int) := by simpa using hb
    have i0 : i = 0 := by rw [l2] at hb; omega
    subst i0
    exact k _ _ _ (ex2.trans e3) (e3 _ _ upd_same) (ra2.ex e3)
  · have hb : ¬ ((ws ++ [V.ref q]).length : Int) = (n : Int) := by simpa using hb
    have i0 : 0 < i := by rw [l2] at hb; omega
    refine ⟨(hb0.trans ex2).trans e3, fun b o u g => e3 _ _ ?_, i0, by omega, _, _, rfl, ex2.trans e3, e3 _ _ upd_same, ra2.ex e3⟩
    have z := e2 _ _ g
    rw [upd_ne (fun e => by rw [e, hw2] at z; cases z)]
    exact z
theorem ok_law_first (T : Top K mg) : FnOk P w K mg base CX0 8 T.f_law_first T.fd_law_first ["begun", "stride", "many"] (spFirst K) := by
  refine T.F_law_first.ok sc_law_first (fun vs H Q E h => ?_) (fun cdv A outer st H vs Q E hr h => ?_)
  · obtain ⟨p, y, m, d, s, n, rfl, _⟩ := h; rfl
  · obtain ⟨p, y, m, d, s, n, rfl, hp, hE, hs, hy, h0, hn, q⟩ := h
    refine ⟨_, (pss_cons (ps_set (i := 3) sc_law_first.nd rfl (Or.inl rfl) (pe_lst pa_nil))
      (pss_cons (ps_if (pt_cmpR op_eq (pe_op op_mod (pv 2) pe_int) pe_int (nomark _)) (pss_cons (ps_for19K T rfl rfl (i := 0) (j := 1) (by rfl) rfl (Or.inl rfl) rfl (Or.inl rfl) (hr.mono (by first | decide | omega)) (pg_name (i := 4) sc_law_first.nd rfl (Or.inl rfl)) (pss_cons (ps_expr (pe_bm PySem.F.plainAttrs_list PySem.F.slot_list_append PySem.F.type_list_append mt_append (pv 3) (pa_cons (pv 4) pa_nil)))
      (pss_one (ps_if (pt_cmpR op_eq (pe_callB (r := rLenS K) call_len_seq (by rfl) T.z_len PySem.boot_len (pa_cons (pv 3) pa_nil)) (pv 2) (nomark _)) (pss_one ps_break) pss_nil))))
      (pss_one (ps_ret (pv 3)))) pss_nil)
      (pss_cons (ps_for19 T rfl rfl (i := 0) (j := 1) (by rfl) rfl (Or.inl rfl) rfl (Or.inl rfl) (hr.mono (by first | decide | omega)) (pg_name (i := 4) sc_law_first.nd rfl (Or.inl rfl)) (pss_cons (ps_expr (pe_bm PySem.F.plainAttrs_list PySem.F.slot_list_append PySem.F.type_list_append mt_append (pv 3) (pa_cons (pv 4) pa_nil)))
      (pss_one (ps_if (pt_cmpR op_eq (pe_callB (r := rLenS K) call_len_seq (by rfl) T.z_len PySem.boot_len (pa_cons (pv 3) pa_nil)) (pv 2) (nomark _)) (pss_one ps_break) pss_nil))))
      (pss_one (ps_ret (pv 3)))))), ?_⟩
    refine f_seq (s_asgL (el_lst ea_nil (by show 0 ≤ 100000; decide)) fun f H1 nf e1 hf => ?_)
    refine f_seq (s_if (et_test (ev_op (ev_op (ev_var rfl) ev_c (rv_I (by decide))) ev_c rv_eqI)) (fun hb H2 e2 => ?_) fun hb H2 e2 => ?_)
    · refine f_seq (loop19 hp hE hs hy h0 hn (e1.trans e2) nf (e2 _ _ hf) fun ws v H3 e3 h3 r3 => ?_)
      exact s_ret (ev_var rfl) fun H4 e4 => q f ws H4 nf (e3.trans e4) (e4 _ _ h3) (r3.ex e4)
    · refine f_next (f_seq (loop19 hp hE hs hy h0 hn (e1.trans e2) nf (e2 _ _ hf) fun ws v H3 e3 h3 r3 => ?_))
      exact s_ret (ev_var rfl) fun H4 e4 => q f ws H4 nf (e3.trans e4) (e4 _ _ h3) (r3.ex e4)

local macro_rules | `(tactic| walk_at "fw") => `(tactic| repeat (first
  | with_reducible refine f_seq ?_
  | with_reducible refine f_asg ?_
  | with_reducible refine f_gName ?_
  | with_reducible refine f_ret ?_
  | with_reducible refine f_op ?_
  | with_reducible refine f_un ?_
  | with_reducible refine f_c ?_
  | ((with_reducible apply f_var); exact rfl)
  | with_reducible refine f_I0 ?_
  | with_reducible refine f_U ?_
  | ((with_reducible refine f_I ?fwh ?_); case fwh => first | assumption | (unfold CPow; omega) | (unfold CDivW; omega) | (unfold CDiv; omega) | (exact wide_mul (a := 20) (b := 64) (by omega) (by omega) (by decide) (by decide) (by decide)) | (exact wide_mul (a := 64) (b := 20) (by omega) (by omega) (by decide) (by decide) (by decide)) | (exact wide_mul (a := 160) (b := 160) (by omega) (by omega) (by decide) (by decide) (by decide)) | decide | omega)
  | with_reducible refine f_eqI ?_
  | with_reducible refine f_neI ?_
  | with_reducible refine f_test ?_
  | with_reducible refine f_B ?_
  | with_reducible refine f_bl ?_
  | with_reducible refine f_and ?_
  | with_reducible refine f_or ?_
  | with_reducible refine f_not ?_
  | with_reducible refine f_next ?_
  | with_reducible refine f_drop ?_
  | with_reducible refine f_ifS ?_
  | with_reducible refine f_if ?_
  | with_reducible refine f_call ?_
  | with_reducible refine f_nil ?_
  | with_reducible refine f_cons ?_
  | with_reducible refine f_tup ?_
  | with_reducible refine f_lst ?_
  | with_reducible refine f_cb ?_))

local macro_rules | `(tactic| walk_at "fs") => `(tactic| repeat (first
  | with_reducible refine f_seq ?_
  | with_reducible refine f_asg ?_
  | with_reducible refine f_gName ?_
  | with_reducible refine f_ret ?_
  | with_reducible refine f_c ?_
  | ((with_reducible apply f_var); exact rfl)
  | with_reducible refine f_test ?_
  | with_reducible refine f_B ?_
  | with_reducible refine f_bl ?_
  | with_reducible refine f_and ?_
  | with_reducible refine f_or ?_
  | with_reducible refine f_not ?_
  | with_reducible refine f_next ?_
  | with_reducible refine f_drop ?_
  | with_reducible refine f_nil ?_
  | with_reducible refine f_ifS ?_))

/-- lists of two dates each, in a list that is at D -/
inductive PrsAt (D : Addr) (H : Hp) : List V → List (List Int) → Prop
  | nil : PrsAt D H [] []
  | cons {b u v : Addr} {x : List Int} {vs : List V} {xs : List (List Int)} (nb : b ≠ D) (hb : H b = some (.lst [.ref u, .ref v])) (nu : u ≠ D) (hu : Rd H u (.tup (x.map V.int))) (nv : v ≠ D) (hv : Rd H v (.tup (x.map V.int))) (t : PrsAt D H vs xs) : PrsAt D H (.ref b :: vs) (x :: xs)
theorem rd_but {D : Addr} {H H' : Hp} (k : ∀ b o, b ≠ D → H b = some o → H' b = some o) {u : Addr} {xs : List V} (n : u ≠ D) (h : Rd H u (.tup xs)) : Rd H' u (.tup xs) := by
  rcases h with z | ⟨o, z⟩
  · exact .inl (k _ _ n z)
  · exact .inr ⟨o, k _ _ n z⟩
theorem PrsAt.but {D : Addr} {H H' : Hp} (k : ∀ b o, b ≠ D → H b = some o → H' b = some o) : ∀ {vs : List V} {xs : List (List Int)}, PrsAt D H vs xs → PrsAt D H' vs xs
  | _, _, .nil => .nil
  | _, _, .cons nb hb nu hu nv hv t => .cons nb (k _ _ nb hb) nu (rd_but k nu hu) nv (rd_but k nv hv) (t.but k)
theorem PrsAt.snoc {D : Addr} {H : Hp} {b u v : Addr} {x : List Int} (nb : b ≠ D) (hb : H b = some (.lst [.ref u, .ref v])) (nu : u ≠ D) (hu : Rd H u (.tup (x.map V.int))) (nv : v ≠ D) (hv : Rd H v (.tup (x.map V.int))) : ∀ {vs : List V} {xs : List (List Int)}, PrsAt D H vs xs → PrsAt D H (vs ++ [.ref b]) (xs ++ [x])
  | _, _, .nil => .cons nb hb nu hu nv hv .nil
  | _, _, .cons nb' hb' nu' hu' nv' hv' t => .cons nb' hb' nu' hu' nv' hv' (PrsAt.snoc nb hb nu hu nv hv t)
theorem PrsAt.len {D : Addr} {H : Hp} : ∀ {vs : List V} {xs : List (List Int)}, PrsAt D H vs xs → vs.length = xs.length
  | _, _, .nil => rfl
  | _, _, .cons _ _ _ _ _ _ t => congrArg Nat.succ t.len
def prsD (xs : List (List Int)) : PyData := .list (xs.map fun x => .list [.tuple (x.map PyData.int), .tuple (x.map PyData.int)])
theorem PrsAt.dpa {D : Addr} {H : Hp} : ∀ {vs : List V} {xs : List (List Int)}, PrsAt D H vs xs → DpAll K H vs (xs.map fun x => .list [.tuple (x.map PyData.int), .tuple (x.map PyData.int)])
  | _, _, .nil => .nil
  | _, _, .cons _ hb _ hu _ hv t => .cons (.lst (sq_of hb) (.cons (dp_date (.inl hu)) (.cons (dp_date (.inl hv)) .nil))) t.dpa
theorem shaped_prs (xs : List (List Int)) : SeqAt.shaped (prsD xs) = true := by
  have one : ∀ x : List Int, PyData.canLayAll0 (x.map PyData.int) = true ∧ PyData.depthAll (x.map PyData.int) = 0 := by
    intro x
    induction x with
    | nil => exact ⟨rfl, rfl⟩
    | cons i x ih =>
      rw [List.map_cons]
      exact ⟨by simp only [PyData.canLayAll0, PyData.canLay0, ih.1]; rfl, by simp only [PyData.depthAll, PyData.depth, ih.2]; rfl⟩
  have h : ∀ xs : List (List Int), PyData.canLayAll0 (xs.map fun x => PyData.list [.tuple (x.map PyData.int), .tuple (x.map PyData.int)]) = true ∧ PyData.depthAll (xs.map fun x => PyData.list [.tuple (x.map PyData.int), .tuple (x.map PyData.int)]) ≤ 2 := by
    intro xs
    induction xs with
    | nil => exact ⟨rfl, Nat.zero_le _⟩
    | cons x xs ih =>
      obtain ⟨a, b⟩ := one x
      rw [List.map_cons]
      refine ⟨by simp only [PyData.canLayAll0, PyData.canLay0, a, ih.1]; rfl, ?_⟩
      simp only [PyData.depthAll, PyData.depth, b]
      have := ih.2
      omega
  obtain ⟨a, b⟩ := h xs
  have x : PyData.canLay0 (prsD xs) = true := by unfold prsD; simp only [PyData.canLay0]; exact a
  have z : PyData.depth (prsD xs) ≤ 64 := by unfold prsD; simp only [PyData.depth]; omega
  unfold SeqAt.shaped
  rw [x, decide_eq_true z]; rfl
theorem tups_at {H : Hp} : ∀ {vs : List V} {xs : List (List Int)} {i : Nat} {x : V} {y : List Int}, TupsAt H vs xs → vs[i]? = some x → xs[i]? = some y → ∃ q, x = .ref q ∧ H q = some (.tup (y.map V.int))
  | _, _, 0, _, _, .cons a _, h1, h2 => by cases h1; cases h2; exact a
  | _, _, i + 1, _, _, .cons _ t, h1, h2 => tups_at (i := i) t (by simpa using h1) (by simpa using h2)
def spRight (B0 : Nat) : Sp := fun vs H Q _ => ∃ (r : Addr) (B : Nat), vs = [.ref r] ∧ Rg H r (B + B0) ∧ ∀ H', Rg H' r B → Kr r H H' → Q (.bl true) H'

/-! the renewals' law, one date and step -/
theorem rens_length (st : Int × Int) (s : Int) (k : Nat) : (rens st s k).length = k := by unfold rens; rw [List.length_map, List.length_range]
theorem rens_at {st : Int × Int} {s : Int} {k i : Nat} (h : i < k) : (rens st s k)[i]? = some (tupI (mrun st (List.replicate i s))) := by
  unfold rens
  rw [List.getElem?_map, List.getElem?_range h]; rfl
theorem rens_take {st : Int × Int} {s : Int} {k i : Nat} (h : i ≤ k) : (rens st s k).take i = rens st s i := by
  unfold rens
  rw [← List.map_take, List.take_range, Nat.min_eq_left h]
theorem along_rep (st : Int × Int) (s : Int) (k : Nat) : along st (List.replicate k s) = rens st s (k + 1) := by
  unfold along rens
  rw [List.length_replicate]
  refine List.map_congr_left fun i hi => ?_
  have hi : i < k + 1 := List.mem_range.mp hi
  rw [List.take_replicate, Nat.min_eq_left (by omega)]
theorem rks_small {st : Int × Int} (h : fine st) (s : Int) {t : Nat} (ht : t ≤ 80) : mrun st (rks s t) = mrun st (List.replicate t s) := by
  unfold rks
  rw [show min (t : Int) 4800 = t by omega, Int.sub_self, Int.mul_zero, Int.toNat_natCast, mrun_append]
  exact mvs_zero (mrun_fine h _)
theorem RdsAt.dpa {H : Hp} {vs : List V} {xs : List (List Int)} (h : RdsAt H vs xs) : DpAll K H vs (xs.map fun x => .tuple (x.map PyData.int)) := by
  induction h with
  | nil => exact .nil
  | snoc t h ih =>
    rw [List.map_append]
    exact dpa_app ih (.cons (dp_date (.inl h)) .nil)
theorem TupsAt.take {H : Hp} : ∀ {ws : List V} {xs : List (List Int)} (n : Nat), TupsAt H ws xs → TupsAt H (ws.take n) (xs.take n)
  | _, _, 0, _ => .nil
  | _, _, _ + 1, .nil => .nil
  | _, _, n + 1, .cons a t => .cons a (TupsAt.take n t)
theorem dp_tups {H : Hp} {q : Addr} {ws : List V} {xs : List (List Int)} (h : H q = some (.lst ws)) (t : TupsAt H ws xs) : Dp K H (.ref q) (tupsD xs) := .lst (sq_of h) t.dpa
/-- the first of a list of dates -/
theorem ed_takeT {σ : L2.St} {U : Hp} {te ta : TE} {a : Addr} {ws : List V} {xs : List (List Int)} {n : Nat} (h : Ev te σ U (.ref a)) (hn : Ev ta σ U (.int (n : Int))) (hs : U a = some (.lst ws)) (ht : TupsAt U ws xs) : EvD K (tSl (rSlL K) te tNoPart (tPart ta)) σ U (tupsD (xs.take n)) := fun W u Q hQ => by
  have z := el_sl (K := K) h eo_none (eo_some hn) (sq_of hs)
  rw [cutV_take] at z
  exact z W u Q fun l W1 nl u1 hl => hQ (.ref l) W1 u1 (dp_tups hl (TupsAt.take n (ht.kt (KT.ex (u.trans u1)))))
theorem rg_no {H : Hp} {r p : Addr} {B : Nat} {o : HO} (S : Rg H r B) (h : H p = some o) (n : ∀ xs, o ≠ .lst xs) : p ≠ r := fun z => by
  obtain ⟨a, b, c, g, _⟩ := S.ex
  rw [z, g] at h; cases h
  exact n _ rfl
theorem f_forLs {K : PySem.W.Frag} {σ : L2.St} {H : Hp} {tl : TE} {g : TG} {tu : TS} {D : Ends} (h : tl σ H fun x H1 => ∃ a, x = .ref a ∧ (∃ xs, SqL K H1 a xs) ∧ ∃ W : Nat → Nat → L2.St → Hp → Prop, (∃ m, W 0 m σ H1) ∧ ∀ i m σ H, W i m σ H →
    ((Itl K a).stop i H ∧ D.nx σ H) ∨ ((Itl K a).go i H ∧ ∃ N : L2.St → Hp → Prop, (∀ σ' H', N σ' H' → ∃ m', m' < m ∧ W (i + 1) m' σ' H') ∧ ∀ x H', (Itl K a).yld i H x H' → g x σ H' fun σ2 H2 => tu { D with nx := N, ct := N, bk := D.nx } σ2 H2)) : tFor (iList K tl) g tu D σ H := h
def wrongs : List Str := ["x", "+", "01", "+0", "-0", "1", "", "+" ++ repS "1" 61]
theorem ok_law_right (T : Top K mg) : FnOk P w K mg base CX0 9 T.f_law_right T.fd_law_right ["pool"] (spRight 100) := by
  have G_law_draw : FnOk P w K mg base CX0 1 T.f_law_draw T.fd_law_draw ["pool", "many"] spRdraw := ok_law_draw T
  have G_law_date : FnOk P w K mg base CX0 3 T.f_law_date T.fd_law_date ["pool"] spRdate := ok_law_date T
  have G_law_stride : FnOk P w K mg base CX0 2 T.f_law_stride T.fd_law_stride ["pool", "most"] spStride := ok_law_stride T
  have G_law_along : FnOk P w K mg base CX0 2 T.f_law_along T.fd_law_along ["begun", "strides"] (spAlong K) := ok_law_along T
  have G_law_first : FnOk P w K mg base CX0 8 T.f_law_first T.fd_law_first ["begun", "stride", "many"] (spFirst K) := ok_law_first T
  have G_renew : FnOk P w K mg base CX0 5 T.f_renew T.fd_renew ["date", "step", "times"] (spU (D_renew K)) := ok_renew T
  have G_anchored : FnOk P w K mg base CX0 5 T.f_anchored T.fd_anchored ["date", "step", "times"] (spU (D_anch K)) := ok_anchored T
  refine T.F_law_right.ok sc_law_right (fun vs H Q E h => ?_) (fun cdv A outer s H vs Q E hr h => ?_)
  · obtain ⟨r, B, rfl, _⟩ := h; rfl
  · obtain ⟨r, B, rfl, S, q⟩ := h
    refine ⟨_, (pss_cons (ps_par (i := 1) (j := 2) (by rfl) sc_law_right.nd rfl rfl (by decide) rfl rfl (pa_cons (pe_call G_law_date (hr.mono (by first | decide | omega)) (by rfl) T.g_law_date T.F_law_date.kp T.b_law_date .nil pass0 (pa_cons (pv 0) pa_nil)) (pa_cons (pe_call G_law_stride (hr.mono (by first | decide | omega)) (by rfl) T.g_law_stride T.F_law_stride.kp T.b_law_stride .nil pass0 (pa_cons (pv 0) (pa_cons (pe_ix (r := rIxL K) ix_list (pe_lst (pa_cons pe_int (pa_cons (pe_op op_pow pe_int pe_int) pa_nil))) (pe_call G_law_draw (hr.mono (by first | decide | omega)) (by rfl) T.g_law_draw T.F_law_draw.kp T.b_law_draw .nil pass0 (pa_cons (pv 0) (pa_cons pe_int pa_nil))) (fun _ _ => rfl)) pa_nil))) pa_nil)) (by rfl))
      (pss_cons (ps_set (i := 3) sc_law_right.nd rfl (Or.inl rfl) (pe_call G_law_along (hr.mono (by first | decide | omega)) (by rfl) T.g_law_along T.F_law_along.kp T.b_law_along .nil pass0 (pa_cons (pv 1) (pa_cons (pe_op op_rep (pe_lst (pa_cons (pv 2) pa_nil)) pe_int) pa_nil))))
      (pss_cons (ps_for PassesOwn.never rfl (pi_list (pe_lst (pa_cons pe_int (pa_cons pe_int (pa_cons pe_int (pa_cons (pe_call G_law_draw (hr.mono (by first | decide | omega)) (by rfl) T.g_law_draw T.F_law_draw.kp T.b_law_draw .nil pass0 (pa_cons (pv 0) (pa_cons pe_int pa_nil))) (pa_cons (pe_call G_law_draw (hr.mono (by first | decide | omega)) (by rfl) T.g_law_draw T.F_law_draw.kp T.b_law_draw .nil pass0 (pa_cons (pv 0) (pa_cons pe_int pa_nil))) (pa_cons pe_int pa_nil)))))))) (pg_name (i := 4) sc_law_right.nd rfl (Or.inl rfl)) (pss_cons (ps_set (i := 5) sc_law_right.nd rfl (Or.inl rfl) (pe_call G_renew (hr.mono (by first | decide | omega)) (by rfl) T.g_renew T.F_renew.kp T.b_renew .nil pass0 (pa_cons (pv 1) (pa_cons (pv 2) (pa_cons (pv 4) pa_nil)))))
      (pss_cons (ps_set (i := 6) sc_law_right.nd rfl (Or.inl rfl) (pe_callN0 G_renew (hr.mono (by first | decide | omega)) (by rfl) T.g_renew T.F_renew.kp (kb_renew_date_step_times T.F_renew) pass0 (pk_cons (pv 1) (pk_cons (pv 2) (pk_cons (pv 4) pk_nil)))))
      (pss_cons (ps_if (PW.pt (pw_or (pt_not (pt_val (pe_callB (r := rIsi K) call_isi (by rfl) T.z_isinstance (by decide +kernel) (pa_cons (pv 5) (pa_cons (pe_bltn (v := .ty "tuple") (u := .type "tuple") (by rfl) T.z_tuple (by decide +kernel) rfl) pa_nil))))) (pw_or1 (pt_cmpR (r := rNeD K) (op_neD hr.units) (pe_lst (pa_cons (pv 5) (pa_cons (pv 6) pa_nil))) (pe_op op_rep (pe_lst (pa_cons (pe_ix (r := rIxL K) ix_list (pv 3) (pv 4) (fun _ _ => rfl)) pa_nil)) pe_int) (nomark _))))) (pss_one (ps_ret pe_bl)) pss_nil)
      (pss_cons (ps_set (i := 7) sc_law_right.nd rfl (Or.inl rfl) (pe_ix (r := rIxL K) ix_list (pe_call G_law_along (hr.mono (by first | decide | omega)) (by rfl) T.g_law_along T.F_law_along.kp T.b_law_along .nil pass0 (pa_cons (pv 1) (pa_cons (pe_lst (pa_cons (pe_op op_mulW (pv 2) (pv 4)) pa_nil)) pa_nil))) pe_int (fun _ _ => rfl)))
      (pss_one (ps_if (pt_cmpR (r := rNeD K) (op_neD hr.units) (pe_lst (pa_cons (pe_call G_anchored (hr.mono (by first | decide | omega)) (by rfl) T.g_anchored T.F_anchored.kp T.b_anchored .nil pass0 (pa_cons (pv 1) (pa_cons (pv 2) (pa_cons (pv 4) pa_nil)))) (pa_cons (pe_callN0 G_anchored (hr.mono (by first | decide | omega)) (by rfl) T.g_anchored T.F_anchored.kp (kb_anchored_date_step_times T.F_anchored) pass0 (pk_cons (pv 1) (pk_cons (pv 2) (pk_cons (pv 4) pk_nil)))) pa_nil))) (pe_op op_rep (pe_lst (pa_cons (pv 7) pa_nil)) pe_int) (nomark _)) (pss_one (ps_ret pe_bl)) pss_nil)))))))
      (pss_cons (ps_set (i := 8) sc_law_right.nd rfl (Or.inl rfl) (pe_op op_add pe_int (pe_call G_law_draw (hr.mono (by first | decide | omega)) (by rfl) T.g_law_draw T.F_law_draw.kp T.b_law_draw .nil pass0 (pa_cons (pv 0) (pa_cons pe_int pa_nil)))))
      (pss_cons (ps_if (PW.pt (pw_or (pt_cmpR (r := rNeD K) (op_neD hr.units) (pe_call G_law_first (hr.mono (by first | decide | omega)) (by rfl) T.g_law_first T.F_law_first.kp T.b_law_first .nil pass0 (pa_cons (pv 1) (pa_cons (pv 2) (pa_cons (pv 8) pa_nil)))) (pe_slice (r := rSlL K) sl_list (pv 3) po_none (po_some (pv 8))) (nomark _)) (pw_or1 (pt_cmpR (r := rNeD K) (op_neD hr.units) (pe_call G_law_first (hr.mono (by first | decide | omega)) (by rfl) T.g_law_first T.F_law_first.kp T.b_law_first .nil pass0 (pa_cons (pv 1) (pa_cons (pv 2) (pa_cons pe_int pa_nil)))) (pv 3) (nomark _))))) (pss_one (ps_ret pe_bl)) pss_nil)
      (pss_cons (ps_setLcG (i := 9) (own := [("at", 10), ("one", 11), ("two", 12)]) (g := gTup K 3 (gCons (gName 10) (gCons (gName 11) (gCons (gName 12) (gNil))))) rfl sc_law_right.nd rfl rfl (sw_true rfl rfl rfl (by decide +kernel)) (pg2_renew T (k := 20) (i := 1) (j := 2) rfl (by decide) (by decide) rfl (by rfl) (by rfl) (by rfl) rfl (Or.inl rfl) rfl (Or.inl rfl) (hr.mono (by first | decide | omega))) (blkOk_by (own := [("at", 10), ("one", 11), ("two", 12)]) (N := ["pool", "begun", "stride", "due", "often", "told", "named", "at_once", "few", "both", "at", "one", "two"]) (sc := defScope s_law_right) (by decide +kernel)) (fun _ _ _ _ _ => (pg_tup rfl (pgs_cons (pg_name (i := 10) sc_law_right.nd rfl (Or.inl rfl)) (pgs_cons (pg_name (i := 11) sc_law_right.nd rfl (Or.inl rfl)) (pgs_cons (pg_name (i := 12) sc_law_right.nd rfl (Or.inl rfl)) pgs_nil))))) (fun _ _ _ _ _ => (pe_lst (pa_cons (pv 11) (pa_cons (pv 12) pa_nil)))))
      (pss_one (ps_ret (pe_cmpR (r := rEqD K) (op_eqD hr.units) (pv 9) (pe_lc (own := [("one", 11)]) (g := gName 11) (tt := tYes) rfl sc_law_right.nd (pi_list (pe_slice (r := rSlL K) sl_list (pv 3) po_none (po_some pe_int))) (blkOk_by (own := [("one", 11)]) (N := ["pool", "begun", "stride", "due", "often", "told", "named", "at_once", "few", "both", "at", "one", "two"]) (sc := defScope s_law_right) (by decide +kernel)) (fun _ _ _ _ _ => (pg_name (i := 11) sc_law_right.nd rfl (Or.inl rfl))) (fun _ _ _ _ _ => pts_nil) (fun _ _ _ _ _ => (pe_lst (pa_cons (pv 11) (pa_cons (pv 11) pa_nil))))) (nomark _)))))))))), ?_⟩
    -- begun, stride
    refine f_seq (f_par ?_)
    walk_at "fw"
    refine ⟨r, B + 80, rfl, S, fun y m d p H1 hE hy np fp S1 k1 h1 => ?_⟩
    walk_at "fw"
    refine f_newLr S1 (by simp) fun p2 np2 fp2 S2 e2 h2 => ?_
    walk_at "fw"
    refine f_rdraw (B := B + 79) S2 (by decide) (by decide) fun n3 H3 a3 b3 S3 k3 => ?_
    obtain ⟨most, hmost, hat⟩ := at_ints (L := [60, 10 ^ (29 : Int).toNat]) a3 b3
    refine f_ixL (k3.at fp2 h2) hat ?_
    have hmo : 0 < most ∧ most ≤ 10 ^ 31 := by
      have e : (10 : Int) ^ (29 : Int).toNat = 10 ^ 29 := rfl
      rw [e] at hmost; simp at hmost; omega
    refine f_nil ⟨r, most, B + 59, rfl, hmo.1, hmo.2, S3, fun s H4 hs S4 k4 => ?_⟩
    have h4 := k4.at fp (k3.at fp (e2 _ _ h1))
    have kk4 := ((k1.l e2).trans k3).trans k4
    clear h1 h2 hat
    refine f_nil (f_par2 ?_)
    have hy100 : y.natAbs ≤ 10 ^ 100 := Nat.le_trans hy (by decide +kernel)
    have hy90 : y.natAbs ≤ 10 ^ 90 := Nat.le_trans hy (by decide +kernel)
    have hs90 : s.natAbs ≤ 10 ^ 90 := Nat.le_trans hs (by decide +kernel)
    have hf0 : fine (12 * y + m - 1, d) := fine_of hE
    have hst0 : tupI (12 * y + m - 1, d) = [y, m, d] := tupI_of hE.1 hE.2.1
    -- due
    with_reducible refine f_seq ?_
    with_reducible refine f_asg ?_
    refine f_call (f_cons (f_var rfl (f_cons (f_evL (el_rep (k := 80) (el_lst (ea_cons (ev_var rfl) ea_nil) (by show 1 ≤ 100000; decide)) (fun _ _ => ev_c) (by decide) (by show 1 ≤ 100; decide)) fun l5 H5 n5 e5 h5 => f_nil ?_))))
    have hl5 : ((List.replicate (80 : Int).toNat [V.int s]).flatten) = (List.replicate 80 s).map V.int := by
      rw [show (80 : Int).toNat = 80 from rfl, flat_one, List.map_replicate]
    rw [hl5] at h5
    refine ⟨p, l5, y, m, d, List.replicate 80 s, rfl, e5 _ _ h4, hE, sq_of h5, hy100, by rw [List.length_replicate]; decide, fun q6 ws H6 n6 e6 h6 t6 => ?_⟩
    rw [along_rep] at t6
    generalize hst1 : (12 * y + m - 1, d) = st0 at hf0 hst0 t6
    have p6 := e6 _ _ (e5 _ _ h4)
    have S6 : Rg H6 r (B + 59) := (S4.ex_ e5).ex_ e6
    have kk6 : Kr r H H6 := (kk4.l e5).l e6
    refine f_gName ?_
    have al : ∀ {U : Hp} {t : Nat}, KT H6 U → t < 81 → ∃ q', ws[t]? = some (.ref q') ∧ U q' = some (.tup ((tupI (mrun st0 (List.replicate t s))).map V.int)) := fun {U t} e ht => by
      have lw := t6.len
      rw [rens_length] at lw
      have hw : ws[t]? = some ws[t] := List.getElem?_eq_getElem (by omega)
      obtain ⟨q', e1, e2⟩ := tups_at (t6.kt e) hw (rens_at (by omega))
      exact ⟨q', by rw [hw, e1], e2⟩
    have d_renew (t : Nat) (ht : t ≤ 80) (H8 : Hp) (h8 : H8 p = some (.tup [.int y, .int m, .int d])) : D_renew K H8 [.ref p, .int s, .int t] ((tupI (mrun st0 (List.replicate t s))).map V.int) := ⟨p, y, m, d, s, t, rfl, st_of h8, hE, by omega, by omega, hs90, by rw [hst1, rks_small hf0 s ht]; rfl, hy100⟩
    have hst (t : Nat) (ht : t ≤ 80) : (s * t).natAbs ≤ 10 ^ 90 := by
      rw [Int.natAbs_mul]
      exact Nat.le_trans (Nat.mul_le_mul hs (show (t : Int).natAbs ≤ 80 by omega)) (by decide +kernel)
    have d_anch (t : Nat) (ht : t ≤ 80) (H8 : Hp) (h8 : H8 p = some (.tup [.int y, .int m, .int d])) : D_anch K H8 [.ref p, .int s, .int t] ((tupI (mvs st0 (s * t))).map V.int) := ⟨p, y, m, d, s, t, rfl, st_of h8, hE, by omega, by omega, hs90, by rw [hst1]; rfl, hy100⟩
    have along1 {σ : L2.St} {H8 : Hp} {ta tb : TE} {E : XK} (z : Int) (h8 : H8 p = some (.tup [.int y, .int m, .int d])) (ha : Ev ta σ H8 (.ref p)) (hb : EvL tb σ H8 ([z].map V.int)) : EvU0 (tOp (rIxL K) (tCall (spAlong K) [] E (tCons ta (tCons tb tNil))) (tC (.int 1))) σ H8 ((tupI (mvs st0 z)).map V.int) := fun H9 e9 R hR => by
      refine f_op (f_call (f_cons (ha H9 e9 _ fun H10 e10 => f_cons (hb H10 (e9.trans e10) _ fun l11 H11 np11 e11 h11 => f_nil ?_))))
      refine ⟨p, l11, y, m, d, [z], rfl, e11 _ _ (e10 _ _ (e9 _ _ h8)), hE, sq_of h11, hy100, by show 1 ≤ 10000; decide, fun q12 ws H12 nq12 e12 h12 ht12 => ?_⟩
      rw [hst1, show along st0 [z] = [tupI st0, tupI (mvs st0 z)] from rfl] at ht12
      cases ht12 with
      | cons a ht => cases ht with
        | cons b ht => cases ht with
          | nil =>
            obtain ⟨d1, rfl, _⟩ := a
            obtain ⟨d2, rfl, hd2⟩ := b
            exact f_c (f_ixL h12 (atI_nat (j := 1) rfl) (hR d2 H12 ((e10.trans e11).trans e12) hd2))
    -- often
    with_reducible refine f_seq ?_
    refine f_forLs ?_
    refine f_lst (f_cons (f_c (f_cons (f_c (f_cons (f_c (f_cons (f_call (f_cons (f_var rfl (f_cons (f_c (f_nil ?_)))))))))))))
    refine f_rdraw (B := B + 58) S6 (by decide) (by decide) fun n7 H7 a7 b7 S7 k7 => ?_
    refine f_cons (f_call (f_cons (f_var rfl (f_cons (f_c (f_nil ?_))))))
    refine f_rdraw (B := B + 57) S7 (by decide) (by decide) fun n8 H8 a8 b8 S8 k8 => ?_
    refine f_cons (f_c (f_nil ⟨by show 6 ≤ sizeLine; decide, fun l9 n9 => ?_⟩))
    have nq6 : q6 ≠ r := by
      obtain ⟨_, _, _, hr4, _⟩ := id S4.ex
      exact (ne_of_none (e5 _ _ hr4) n6).symm
    have p8 := k8.at fp (k7.at fp p6)
    have q8 := k8 _ _ nq6 (k7 _ _ nq6 h6)
    have kt8 : KT H6 H8 := fun b xs g => k8 b _ (rg_no S6 g (fun _ z => nomatch z)) (k7 b _ (rg_no S6 g (fun _ z => nomatch z)) g)
    have kk8 : Kr r H H8 := (kk6.trans k7).trans k8
    have e9 := Ex.new (o := .lst [.int 0, .int 1, .int 2, .int n7, .int n8, .int 80]) n9
    have hl9 : (upd H8 l9 (.lst [.int 0, .int 1, .int 2, .int n7, .int n8, .int 80])) l9 = some (.lst [.int 0, .int 1, .int 2, .int n7, .int n8, .int 80]) := upd_same
    generalize upd H8 l9 (.lst [.int 0, .int 1, .int 2, .int n7, .int n8, .int 80]) = U9 at e9 hl9
    have p9 := e9 _ _ p8
    have q9 := e9 _ _ q8
    have S9 : Rg U9 r (B + 57) := S8.ex_ e9
    have kt9 : KT H6 U9 := fun b xs g => e9 _ _ (kt8 b xs g)
    have kk9 : Kr r H U9 := kk8.l e9
    refine ⟨l9, rfl, ⟨_, sq_of hl9⟩, for_list (xs := [.int 0, .int 1, .int 2, .int n7, .int n8, .int 80]) (fun i σ U => ∃ v4 v5 v6 v7 : Option V, σ = [some (.ref r), some (.ref p), some (.int s), some (.ref q6), v4, v5, v6, v7, none, none, none, none, none] ∧ Ex U9 U) ⟨none, none, none, none, rfl, Ex.refl _⟩ (fun i σ U _ hp => ?_) (fun i x σ U hx hp => ?_) fun σ U hp => ?_⟩
    · obtain ⟨_, _, _, _, _, e⟩ := hp
      exact sq_of (e _ _ hl9)
    · obtain ⟨v4, v5, v6, v7, rfl, eU⟩ := hp
      obtain ⟨t, rfl, ht⟩ : ∃ t : Nat, x = .int (t : Int) ∧ t ≤ 80 := by
        have hm : x ∈ ([.int 0, .int 1, .int 2, .int n7, .int n8, .int 80] : List V) := List.mem_of_getElem? hx
        simp only [List.mem_cons, List.not_mem_nil, or_false] at hm
        rcases hm with rfl | rfl | rfl | rfl | rfl | rfl
        · exact ⟨0, rfl, by decide⟩
        · exact ⟨1, rfl, by decide⟩
        · exact ⟨2, rfl, by decide⟩
        · exact ⟨n7.toNat, by rw [Int.toNat_of_nonneg a7], by omega⟩
        · exact ⟨n8.toNat, by rw [Int.toNat_of_nonneg a8], by omega⟩
        · exact ⟨80, rfl, by decide⟩
      with_reducible refine f_gName ?_
      have pU := eU _ _ p9
      have ktU : KT H6 U := fun b xs g => eU _ _ (kt9 b xs g)
      refine f_seq (s_asgU (xs := (tupI (mrun st0 (List.replicate t s))).map V.int) (eu_call (ea_cons (ev_var rfl) (ea_cons (ev_var rfl) (ea_cons (ev_var rfl) ea_nil))) fun W u => d_renew t ht W (u _ _ pU)) fun d1 U1 nd1 u1 g1 => ?_)
      refine f_seq (s_asgU (xs := (tupI (mrun st0 (List.replicate t s))).map V.int) (eu_callN (gV := kg_renew_date_step_times) ea_nil (ea_cons (ev_var rfl) (ea_cons (ev_var rfl) (ea_cons (ev_var rfl) ea_nil))) rfl rfl fun W u => d_renew t ht W (u _ _ (u1 _ _ pU))) fun d2 U2 nd2 u2 g2 => ?_)
      have u12 := u1.trans u2
      obtain ⟨q', hq1, hq2⟩ := al (fun b xs g => u12 _ _ (ktU b xs g)) (show t < 81 by omega)
      have q2 := u12 _ _ (eU _ _ q9)
      refine f_seq (s_if (b := false) (et_is (et_or (a := false) (b := false) (et_is (et_not (a := true) (et_B (ev_isi (b := true) (ev_var rfl) (t := "tuple") (fun W u => .base (.tup (u _ _ (u2 _ _ g1)))) (by decide +kernel)))) rfl) fun _ => et_test (ev_neD (d := tupsD [tupI (mrun st0 (List.replicate t s)), tupI (mrun st0 (List.replicate t s))])
        (ed_lst (eds_cons (ed_valH (ev_var rfl) (dp_date (st_of (u2 _ _ g1)))) (eds_cons (ed_valH (ev_var rfl) (dp_date (st_of g2))) eds_nil)) (by show 2 ≤ 100000; decide))
        (ed_DL (edl_rep (k := 2) (edl_lst (eds_cons (ed_valH (ev_op (ev_var rfl) (ev_var rfl) (rv_ixL (v := .ref q') (sq_of q2) (atI_nat (j := t) hq1))) (dp_date (st_of hq2))) eds_nil) (by show 1 ≤ 100000; decide)) (fun _ _ => ev_c) (by decide) (by show 1 ≤ 100; decide))) (shaped_tups _))) rfl) (fun hb => nomatch hb) fun _ U3 u3 => f_next ?_)
      have p3 := u3 _ _ (u12 _ _ pU)
      refine f_seq (s_asgU0 (along1 (s * t) p3 (ev_var rfl) (el_lst (ea_cons (ev_op (ev_var rfl) (ev_var rfl) (rv_mul (Nat.le_trans hs (by decide +kernel)) (Nat.le_trans (show (t : Int).natAbs ≤ 80 by omega) (by decide +kernel)))) ea_nil) (by show 1 ≤ 100000; decide))) fun d4 U4 u4 g4 => ?_)
      have p4 := u4 _ _ p3
      refine s_if (b := false) (et_test (ev_neD (d := tupsD [tupI (mvs st0 (s * t)), tupI (mvs st0 (s * t))])
        (ed_lst (eds_cons (ed_U (eu_call (ea_cons (ev_var rfl) (ea_cons (ev_var rfl) (ea_cons (ev_var rfl) ea_nil))) fun W u => d_anch t ht W (u _ _ p4))) (eds_cons (ed_U (eu_callN (gV := kg_anchored_date_step_times) ea_nil (ea_cons (ev_var rfl) (ea_cons (ev_var rfl) (ea_cons (ev_var rfl) ea_nil))) rfl rfl fun W u => d_anch t ht W (u _ _ p4))) eds_nil)) (by show 2 ≤ 100000; decide))
        (ed_DL (edl_rep (k := 2) (edl_lst (eds_cons (ed_valH (ev_var rfl) (dp_date (st_of g4))) eds_nil) (by show 1 ≤ 100000; decide)) (fun _ _ => ev_c) (by decide) (by show 1 ≤ 100; decide))) (shaped_tups _))) (fun hb => nomatch hb) fun _ U5 u5 => ?_
      with_reducible refine f_next ?_
      exact ⟨_, _, _, _, rfl, (((eU.trans u12).trans u3).trans u4).trans u5⟩
    · obtain ⟨v4, v5, v6, v7, rfl, eU⟩ := hp
      have pU := eU _ _ p9
      have ktU : KT H6 U := fun b xs g => eU _ _ (kt9 b xs g)
      have SU : Rg U r (B + 57) := S9.ex_ eU
      have kkU : Kr r H U := kk9.l eU
      have qU := eU _ _ q9
      -- few
      with_reducible refine f_seq ?_
      with_reducible refine f_asg ?_
      refine f_op (f_c (f_call (f_cons (f_var rfl (f_cons (f_c (f_nil ?_)))))))
      refine f_rdraw (B := B + 56) SU (by decide) (by decide) fun n10 U1 a10 b10 S10 k10 => ?_
      obtain ⟨n, rfl⟩ : ∃ n : Nat, n10 = (n : Int) := ⟨n10.toNat, by omega⟩
      refine f_I0 (f_gName ?_)
      have p10 := k10.at fp pU
      have q10 := k10 _ _ nq6 qU
      have kt10 : KT H6 U1 := fun b xs g => k10 b _ (rg_no SU (ktU b xs g) (fun _ z => nomatch z)) (ktU b xs g)
      have kk10 : Kr r H U1 := kkU.trans k10
      have hst2 : (12 * y + m - 1, d) = st0 := hst1
      have ed_first {σ : L2.St} {U : Hp} {ta tb tc : TE} {E : XK} (k : Nat) (k0 : 0 < k) (k1 : k ≤ 90000) (pU : U p = some (.tup [.int y, .int m, .int d])) (ha : Ev ta σ U (.ref p)) (hb : Ev tb σ U (.int s)) (hc : Ev tc σ U (.int k)) : EvD K (tCall (spFirst K) [] E (tCons ta (tCons tb (tCons tc tNil)))) σ U (tupsD (rens st0 s k)) := fun W u Q hQ => by
        refine f_call (f_cons (ha W u _ fun W1 u1 => f_cons (hb W1 (u.trans u1) _ fun W2 u2 => f_cons (hc W2 ((u.trans u1).trans u2) _ fun W3 u3 => f_nil ?_))))
        refine ⟨p, y, m, d, s, k, rfl, u3 _ _ (u2 _ _ (u1 _ _ (u _ _ pU))), hE, hs90, hy90, k0, k1, fun q ws W4 nq u4 hq hr => hQ (.ref q) W4 (((u1.trans u2).trans u3).trans u4) ?_⟩
        rw [hst2] at hr
        exact .lst (sq_of hq) hr.dpa
      have k1n : (1 + (n : Int)) = ((1 + n : Nat) : Int) := by omega
      rw [k1n]
      have t10 := t6.kt kt10
      have tkn : (rens st0 s 81).take (1 + n) = rens st0 s (1 + n) := rens_take (by omega)
      have ed1 := ed_takeT (K := K) (n := 1 + n) (σ := [some (.ref r), some (.ref p), some (.int s), some (.ref q6), v4, v5, v6, v7, some (.int ((1 + n : Nat) : Int)), none, none, none, none]) (te := tVar 3) (ta := tVar 8) (ev_var rfl) (ev_var rfl) q10 t10
      rw [tkn] at ed1
      refine f_seq (s_if (b := false) (et_is (et_or (a := false) (b := false) (et_test (ev_neD (d := tupsD (rens st0 s (1 + n))) (ed_first (1 + n) (by omega) (by omega) p10 (ev_var rfl) (ev_var rfl) (ev_var rfl)) ed1 (shaped_tups _))) fun _ =>
        et_test (ev_neD (d := tupsD (rens st0 s 81)) (ed_first 81 (by decide) (by decide) p10 (ev_var rfl) (ev_var rfl) ev_c) (ed_valH (ev_var rfl) (dp_tups q10 t10)) (shaped_tups _))) rfl) (fun hb => nomatch hb) fun _ U2 u2 => f_next ?_)
      have p2' := u2 _ _ p10
      have q2' := u2 _ _ q10
      have t2' := t10.kt (KT.ex u2)
      have S2' : Rg U2 r (B + 56) := S10.ex_ u2
      have kk2' : Kr r H U2 := kk10.l u2
      have exb : Ex (L2.upd (fun _ => none) p (.tup [.int y, .int m, .int d])) U2 := fun b u g => by
        by_cases e : b = p
        · rw [e, upd_same] at g; cases g; rw [e]; exact p2'
        · rw [upd_ne e] at g; cases g
      have smp : SmpH (L2.upd (fun _ => none) p (.tup [.int y, .int m, .int d])) := fun b u g => by
        by_cases e : b = p
        · rw [e, upd_same] at g; cases g
          exact .inr (.inl ⟨_, rfl⟩)
        · rw [upd_ne e] at g; cases g
      -- two at the same time
      with_reducible refine f_seq ?_
      with_reducible refine f_asg ?_
      refine ⟨.ref p, .int s, p, L2.upd (fun _ => none) p (.tup [.int y, .int m, .int d]), it19 st0 s, rfl, rfl, exb, (by rw [upd_same]; intro z; cases z), smp, ⟨p, y, m, d, s, rfl, rfl, upd_same, hE⟩, fun H' e' => (by
        have z := term19 (K := K) (tot := 20) upd_same hE hs90 hy90 (by decide) (by decide) e'
        rw [hst2] at z
        exact z), fun D nD => ?_⟩
      refine ⟨fun n U => n ≤ 20 ∧ Ex U2 U ∧ ∃ acc, U D = some (.lst acc) ∧ PrsAt D U acc (rens st0 s (20 - n)), ⟨Nat.le_refl _, Ex.new nD, [], upd_same, by rw [Nat.sub_self]; exact .nil⟩, fun U hU => ?_, fun n U hn hW x U' hy' => ?_⟩
      · obtain ⟨_, e6, acc, hD, hA⟩ := hU
        have dD : Dp K U (.ref D) (prsD (rens st0 s 20)) := .lst (sq_of hD) hA.dpa
        have q7 := e6 _ _ q2'
        have t7 := t2'.kt (KT.ex e6)
        with_reducible refine f_gName ?_
        with_reducible refine f_ret ?_
        refine f_op (f_var rfl ?_)
        have z := el_sl (K := K) (σ := [some (.ref r), some (.ref p), some (.int s), some (.ref q6), v4, v5, v6, v7, some (.int ((1 + n : Nat) : Int)), some (.ref D), none, none, none]) (te := tVar 3) (ev_var rfl) eo_none (eo_some (te := tC (.int (20 : Nat))) ev_c) (sq_of q7)
        rw [cutV_take] at z
        refine f_lc (f_evL z fun l7 U7 nl7 u7 hl7 => ⟨l7, rfl, ⟨_, sq_of hl7⟩, fun D2 nD2 => ?_⟩)
        have t8 := (TupsAt.take 20 (t7.kt (KT.ex u7)))
        rw [rens_take (by decide : 20 ≤ 81)] at t8
        generalize ws.take 20 = wt at hl7 t8
        have l8 : wt.length = 20 := by rw [t8.len, rens_length]
        refine ⟨fun i m' W => m' = 20 - i ∧ i ≤ 20 ∧ Ex U7 W ∧ ∃ acc2, W D2 = some (.lst acc2) ∧ PrsAt D2 W acc2 (rens st0 s i), ⟨20, rfl, Nat.zero_le _, Ex.new nD2, [], upd_same, .nil⟩, ?_⟩
        rintro i m' W ⟨rfl, hi, eW, acc2, hD2, hA2⟩
        have h8 := eW _ _ hl7
        rcases Nat.lt_or_ge i 20 with hlt | hge
        · have hwi : wt[i]? = some wt[i] := List.getElem?_eq_getElem (by omega)
          refine .inr ⟨⟨_, _, sq_of h8, hwi⟩, fun W' => Ex U7 W' ∧ ∃ acc2, W' D2 = some (.lst acc2) ∧ PrsAt D2 W' acc2 (rens st0 s (i + 1)), fun W' z => ⟨20 - (i + 1), by omega, rfl, hlt, z⟩, fun x W' hz => ?_⟩
          obtain ⟨rfl, hz⟩ := hz
          have hx := hz _ (sq_of h8)
          obtain ⟨u, hu, hut⟩ : ∃ u, x = .ref u ∧ W' u = some (.tup ((tupI (mrun st0 (List.replicate i s))).map V.int)) := tups_at (t8.kt (KT.ex eW)) hx (rens_at hlt)
          subst hu
          refine f_gName ⟨rfl, f_yes ?_⟩
          rw [if_pos rfl]
          refine f_lst (f_cons (f_var rfl (f_cons (f_var rfl (f_nil ⟨by show 2 ≤ sizeLine; decide, fun b nb => ?_⟩)))))
          have eb : Ex W' (upd W' b (.lst [.ref u, .ref u])) := Ex.new nb
          refine ⟨acc2, eb _ _ hD2, by rw [hA2.len, rens_length]; exact Nat.lt_of_le_of_lt (by omega : _ ≤ 1000) (by decide), fun c o hc => ?_, _, upd_same, ?_⟩
          · rw [upd_ne (ne_of_none hc nD2)]
            exact eb _ _ (eW _ _ hc)
          · have nbD : b ≠ D2 := (ne_of_none hD2 nb).symm
            have nuD : u ≠ D2 := ne_of hut hD2 (fun z => nomatch z)
            have but : ∀ c o, c ≠ D2 → (upd W' b (.lst [.ref u, .ref u])) c = some o → (upd (upd W' b (.lst [.ref u, .ref u])) D2 (.lst (acc2 ++ [.ref b]))) c = some o := fun c o hc g => by rw [upd_ne hc]; exact g
            rw [rens_succ]
            exact ((hA2.but fun c o _ g => eb _ _ g).but but).snoc nbD (but _ _ nbD upd_same) nuD (.inl (but _ _ nuD (eb _ _ hut))) nuD (.inl (but _ _ nuD (eb _ _ hut)))
        · obtain rfl : i = 20 := Nat.le_antisymm hi hge
          refine .inl ⟨⟨_, sq_of h8, by omega⟩, ?_⟩
          have dD2 : Dp K W (.ref D2) (prsD (rens st0 s 20)) := .lst (sq_of hD2) hA2.dpa
          have eF := (e6.trans u7).trans eW
          exact rv_eqSame (dp_ex (u7.trans eW) dD) dD2 (shaped_prs _) W (Ex.refl W) _ fun W2 e2 => q W2 ((S2'.ex_ (eF.trans e2)).less (by omega)) (kk2'.l (eF.trans e2))
      · obtain ⟨hnN, e6, acc, hD, hA⟩ := hW
        obtain ⟨Tt, c1, c2, i', rfl, eU', hT, r1, r2⟩ := hy'
        have r1 : Rd U' c1 (.tup ((tupI (mrun st0 (List.replicate (20 - (n + 1)) s))).map V.int)) := by rw [← tupI_map]; exact r1
        have r2 : Rd U' c2 (.tup ((tupI (mrun st0 (List.replicate (20 - (n + 1)) s))).map V.int)) := by rw [← tupI_map]; exact r2
        refine ⟨Tt, _, rfl, st_of hT, rfl, _, _, rfl, _, _, rfl, _, _, rfl, rfl, rfl, ?_⟩
        refine f_lst (f_cons (f_var rfl (f_cons (f_var rfl (f_nil ⟨by show 2 ≤ sizeLine; decide, fun b nb => ?_⟩)))))
        have eb : Ex U' (upd U' b (.lst [.ref c1, .ref c2])) := Ex.new nb
        have hD' := eU' _ _ hD
        have nbD : b ≠ D := (ne_of_none hD' nb).symm
        have rdD : ∀ {u : Addr} {xs : List V}, Rd U' u (.tup xs) → u ≠ D := fun {u xs} h z => by
          rcases h with g | ⟨o, g⟩ <;> rw [z, hD'] at g <;> cases g
        have but : ∀ c o, c ≠ D → (upd U' b (.lst [.ref c1, .ref c2])) c = some o → (upd (upd U' b (.lst [.ref c1, .ref c2])) D (.lst (acc ++ [.ref b]))) c = some o := fun c o hc g => by rw [upd_ne hc]; exact g
        have mo : ∀ c o, c ≠ D → U' c = some o → (upd (upd U' b (.lst [.ref c1, .ref c2])) D (.lst (acc ++ [.ref b]))) c = some o := fun c o hc g => but c o hc (eb _ _ g)
        have n1 : 20 - n = (20 - (n + 1)) + 1 := by omega
        refine ⟨eb, acc, eb _ _ hD', by rw [hA.len, rens_length]; exact Nat.lt_of_le_of_lt (by omega : _ ≤ 1000) (by decide), by omega, fun c o hc => ?_, _, upd_same, ?_⟩
        · rw [upd_ne (ne_of_none hc nD)]
          exact eb _ _ (eU' _ _ (e6 _ _ hc))
        · rw [n1, rens_succ]
          exact ((hA.but fun c o _ g => eU' _ _ g).but mo).snoc nbD (but _ _ nbD upd_same) (rdD r1) (rd_but mo (rdD r1) r1) (rdD r2) (rd_but mo (rdD r2) r2)

theorem ok_law (T : Top K mg) : FnOk P w K mg base CX0 10 T.f_law T.fd_law ["script"] (spLaw K) := by
  have G_law_pool : FnOk P w K mg base CX0 1 T.f_law_pool T.fd_law_pool ["script", "at"] (spPool K) := ok_law_pool T
  have G_law_right : FnOk P w K mg base CX0 9 T.f_law_right T.fd_law_right ["pool"] (spRight 100) := ok_law_right T
  have G_law_date : FnOk P w K mg base CX0 3 T.f_law_date T.fd_law_date ["pool"] spRdate := ok_law_date T
  have G_law_stride : FnOk P w K mg base CX0 2 T.f_law_stride T.fd_law_stride ["pool", "most"] spStride := ok_law_stride T
  have G_law_along : FnOk P w K mg base CX0 2 T.f_law_along T.fd_law_along ["begun", "strides"] (spAlong K) := ok_law_along T
  have G_law_first : FnOk P w K mg base CX0 8 T.f_law_first T.fd_law_first ["begun", "stride", "many"] (spFirst K) := ok_law_first T
  have G_renew : FnOk P w K mg base CX0 5 T.f_renew T.fd_renew ["date", "step", "times"] (spU (D_renew K)) := ok_renew T
  refine T.F_law.ok sc_law (fun vs H Q E h => ?_) (fun cdv A outer st H vs Q E hr h => ?_)
  · obtain ⟨a, ns, rfl, _⟩ := h; rfl
  · obtain ⟨a, ns, rfl, hS, hlen, q⟩ := h
    refine ⟨_, (pss_cons (ps_for PassesOwn.never rfl (pi_range1 (by rfl) T.z_range (pa_cons (pe_callB (call_max2 rfl) (by rfl) T.z_max (by decide +kernel) (pa_cons pe_int (pa_cons (pe_callB (call_min2 rfl) (by rfl) T.z_min (by decide +kernel) (pa_cons pe_int (pa_cons (pe_callB (r := rLenS K) call_len_seq (by rfl) T.z_len PySem.boot_len (pa_cons (pv 0) pa_nil)) pa_nil))) pa_nil))) pa_nil)) (pg_name (i := 1) sc_law.nd rfl (Or.inl rfl)) (pss_cons (ps_set (i := 2) sc_law.nd rfl (Or.inl rfl) (pe_call G_law_pool (hr.mono (by first | decide | omega)) (by rfl) T.g_law_pool T.F_law_pool.kp T.b_law_pool .nil pass0 (pa_cons (pv 0) (pa_cons (pv 1) pa_nil))))
      (pss_one (ps_for PassesOwn.never rfl (pi_range1 (by rfl) T.z_range (pa_cons pe_int pa_nil)) (pg_name (i := 3) sc_law.nd rfl (Or.inl rfl)) (pss_one (ps_if (pt_not (pt_val (pe_call G_law_right (hr.mono (by first | decide | omega)) (by rfl) T.g_law_right T.F_law_right.kp T.b_law_right .nil pass0 (pa_cons (pv 2) pa_nil)))) (pss_one (ps_ret pe_bl)) pss_nil))))))
      (pss_cons (ps_par (i := 4) (j := 5) (by rfl) sc_law.nd rfl rfl (by decide) rfl rfl (pa_cons (pe_call G_law_date (hr.mono (by first | decide | omega)) (by rfl) T.g_law_date T.F_law_date.kp T.b_law_date .nil pass0 (pa_cons (pv 2) pa_nil)) (pa_cons (pe_call G_law_stride (hr.mono (by first | decide | omega)) (by rfl) T.g_law_stride T.F_law_stride.kp T.b_law_stride .nil pass0 (pa_cons (pv 2) (pa_cons pe_int pa_nil))) pa_nil)) (by rfl))
      (pss_cons (ps_if (pt_cmpR (r := rNeD K) (op_neD hr.units) (pe_call G_law_first (hr.mono (by first | decide | omega)) (by rfl) T.g_law_first T.F_law_first.kp T.b_law_first .nil pass0 (pa_cons (pv 4) (pa_cons (pv 5) (pa_cons pe_int pa_nil)))) (pe_call G_law_along (hr.mono (by first | decide | omega)) (by rfl) T.g_law_along T.F_law_along.kp T.b_law_along .nil pass0 (pa_cons (pv 4) (pa_cons (pe_op op_rep (pe_lst (pa_cons (pv 5) pa_nil)) pe_int) pa_nil))) (nomark _)) (pss_one (ps_ret pe_bl)) pss_nil)
      (pss_one (ps_ret (pe_cmpR (r := rEqD K) (op_eqD hr.units) (pe_call G_renew (hr.mono (by first | decide | omega)) (by rfl) T.g_renew T.F_renew.kp T.b_renew .nil pass0 (pa_cons (pe_tup (pa_cons pe_int (pa_cons pe_int (pa_cons pe_int pa_nil)))) (pa_cons pe_int (pa_cons (pe_op op_mulW (pe_op op_pow pe_int pe_int) pe_int) pa_nil)))) (pe_tup (pa_cons (pe_op op_add (pe_op op_pow pe_int pe_int) pe_int) (pa_cons pe_int (pa_cons pe_int pa_nil)))) (nomark _))))))), ?_⟩
    refine f_seq (s_forR1 (n := if (if ((ns.map V.int).length : Int) < 6 then ((ns.map V.int).length : Int) else 6) > 1 then (if ((ns.map V.int).length : Int) < 6 then ((ns.map V.int).length : Int) else 6) else 1) (ea_cons (ev_max2 ev_c (ev_cb (ea_cons ev_c (ea_cons (ev_lenS (ev_var rfl) (.inl hS)) ea_nil)) fun H2 _ Q' q' => ⟨_, _, rfl, q' H2 (Ex.refl H2)⟩)) ea_nil) ⟨by split <;> split <;> omega, by split <;> split <;> omega⟩
      (fun i σ H' => ∃ v1 v2 v3 : Option V, σ = [some (.ref a), v1, v2, v3, none, none] ∧ SqL K H' a (ns.map V.int) ∧ (0 < i → ∃ r, v2 = some (.ref r) ∧ Rg H' r 1000)) (fun H2 e2 => ⟨_, _, _, rfl, ex_l e2 hS, fun z => absurd z (Nat.lt_irrefl _)⟩) (fun i σ H' hi hp => ?_) (fun σ H' hp => ?_))
    · obtain ⟨v1, v2, v3, rfl, hS1, _⟩ := hp
      have hi8 : i < 6 := by split at hi <;> split at hi <;> omega
      refine f_seq (f_asg (f_call (f_cons (f_var rfl (f_cons (f_var rfl (f_nil ?_)))))))
      refine ⟨a, ns, i, rfl, hS1, by omega, fun r H1 nr S1 e1 => ?_⟩
      refine f_gName ?_
      have hS2 := ex_l e1 hS1
      refine s_forR1 (n := 4) (ea_cons ev_c ea_nil) ⟨by decide, by decide⟩ (fun j σ H' => ∃ v1 v3 : Option V, σ = [some (.ref a), v1, some (.ref r), v3, none, none] ∧ Kr r H1 H' ∧ Rg H' r (2 ^ 29 - 100 * j)) (fun H2 e2 => ⟨_, _, rfl, .of e2, S1.ex_ e2⟩) (fun j σ H' hj hp => ?_) (fun σ H' hp => ?_)
      · obtain ⟨v1, v3, rfl, k3, S3⟩ := hp
        have S3 : Rg H' r (2 ^ 29 - 100 * (j + 1) + 100) := S3.less (by omega)
        refine f_ifS (f_not (f_B (f_call (f_cons (f_var rfl (f_nil ⟨r, _, rfl, S3, fun H4 S4 k4 => ?_⟩))))))
        refine f_bl (f_iteB (fun h => nomatch h) fun _ => f_next ⟨_, _, rfl, k3.trans k4, S4⟩)
      · obtain ⟨v1, v3, rfl, k3, S3⟩ := hp
        exact ⟨_, _, _, rfl, sq_kr hS1 nr e1 k3, fun _ => ⟨r, rfl, S3.less (by decide)⟩⟩
    · obtain ⟨v1, v2, v3, rfl, hS1, hr1⟩ := hp
      obtain ⟨r, rfl, S⟩ := hr1 (by split <;> split <;> omega)
      -- more dates than the months of a leap cycle
      with_reducible refine f_seq ?_
      refine f_par ?_
      refine f_cons (f_call (f_cons (f_var rfl (f_nil ?_))))
      refine ⟨r, 900, rfl, S.less (by decide), fun y m d p H1 hE hy np fp S1 k1 h1 => ?_⟩
      refine f_cons (f_call (f_cons (f_var rfl (f_cons (f_c (f_nil ?_))))))
      refine ⟨r, 60, 800, rfl, by decide, by decide, S1.less (by decide), fun s H4 hs S4 k4 => ?_⟩
      have h4 := k4.at fp h1
      refine f_nil (f_par2 ?_)
      have hy100 : y.natAbs ≤ 10 ^ 100 := Nat.le_trans hy (by decide +kernel)
      have hy90 : y.natAbs ≤ 10 ^ 90 := Nat.le_trans hy (by decide +kernel)
      have hs90 : s.natAbs ≤ 10 ^ 90 := Nat.le_trans hs (by decide +kernel)
      have edL {σ : L2.St} {U : Hp} {ta tb tc : TE} {E : XK} (k : Nat) (k0 : 0 < k) (k1 : k ≤ 90000) (pU : U p = some (.tup [.int y, .int m, .int d])) (ha : Ev ta σ U (.ref p)) (hb : Ev tb σ U (.int s)) (hc : Ev tc σ U (.int k)) : EvD K (tCall (spFirst K) [] E (tCons ta (tCons tb (tCons tc tNil)))) σ U (tupsD (rens (12 * y + m - 1, d) s k)) := fun W u Q hQ => by
        refine f_call (f_cons (ha W u _ fun W1 u1 => f_cons (hb W1 (u.trans u1) _ fun W2 u2 => f_cons (hc W2 ((u.trans u1).trans u2) _ fun W3 u3 => f_nil ?_))))
        exact ⟨p, y, m, d, s, k, rfl, u3 _ _ (u2 _ _ (u1 _ _ (u _ _ pU))), hE, hs90, hy90, k0, k1, fun q ws W4 nq u4 hq hr => hQ (.ref q) W4 (((u1.trans u2).trans u3).trans u4) (.lst (sq_of hq) hr.dpa)⟩
      have edA {σ : L2.St} {U : Hp} {ta tb : TE} {E : XK} (pU : U p = some (.tup [.int y, .int m, .int d])) (ha : Ev ta σ U (.ref p)) (hb : EvL tb σ U ((List.replicate 4999 s).map V.int)) : EvD K (tCall (spAlong K) [] E (tCons ta (tCons tb tNil))) σ U (tupsD (rens (12 * y + m - 1, d) s 5000)) := fun W u Q hQ => by
        refine f_call (f_cons (ha W u _ fun W1 u1 => f_cons (hb W1 (u.trans u1) _ fun l W2 nl u2 hl => f_nil ?_)))
        refine ⟨p, l, y, m, d, List.replicate 4999 s, rfl, u2 _ _ (u1 _ _ (u _ _ pU)), hE, sq_of hl, hy100, by rw [List.length_replicate]; decide, fun q ws W4 nq u4 hq ht => hQ (.ref q) W4 ((u1.trans u2).trans u4) ?_⟩
        rw [along_rep] at ht
        exact dp_tups hq ht
      have rep : ((List.replicate (4999 : Int).toNat [V.int s]).flatten) = (List.replicate 4999 s).map V.int := by
        rw [show (4999 : Int).toNat = 4999 from rfl, flat_one, List.map_replicate]
      refine f_seq (s_if (b := false) (et_test (ev_neD (d := tupsD (rens (12 * y + m - 1, d) s 5000)) (edL 5000 (by decide) (by decide) h4 (ev_var rfl) (ev_var rfl) ev_c) (edA h4 (ev_var rfl) (EvL.is (el_repW (k := 4999) (el_lst (ea_cons (ev_var rfl) ea_nil) (by show 1 ≤ 100000; decide)) (fun _ _ => ev_c) (by decide) (by show 1 ≤ 100; decide)) rep)) (shaped_tups _))) (fun hb => nomatch hb) fun _ H5 e5 => f_next ?_)
      refine s_ret (ev_eqD (d := dI [10 ^ 20 + 2023, 8, 28]) (ed_U (xs := [10 ^ 20 + 2023, 8, 28]) (fun H2 e2 R hR => f_call (f_cons (f_evU (eu_tup (ea_cons ev_c (ea_cons ev_c (ea_cons ev_c ea_nil))) (by show 3 ≤ 100000; decide)) fun p3 H3 np3 e3 h3 => f_cons (f_c (f_cons (f_ev (ev_op (ev_op ev_c ev_c (rv_I (by unfold CPow; decide))) ev_c (rv_mul (by decide +kernel) (by decide +kernel))) fun H4 e4 => f_nil ?_)))))))
        (ed_U (xs := [10 ^ 20 + 2023, 8, 28]) (eu_tup (ea_cons (ev_op (ev_op ev_c ev_c (rv_I (by unfold CPow; decide))) ev_c rv_I0) (ea_cons ev_c (ea_cons ev_c ea_nil))) (by show 3 ≤ 100000; decide))) (shaped_I _)) fun H5 e5 => q H5
      refine ⟨_, ⟨p3, 2023, 8, 31, 1, 10 ^ (20 : Int).toNat * 12, rfl, st_of (e4 _ _ h3), ⟨by decide, by decide, by decide, by decide⟩, by decide +kernel, by decide +kernel, by decide +kernel, (by show _ = tupD (mrun _ _); decide +kernel), by decide +kernel⟩, fun p5 H5 np5 e5 h5 => hR p5 H5 (fresh_back (e3.trans e4) np5) ((e3.trans e4).trans e5) h5⟩

end
theorem all_mk {l : PySem.W.OpenLaw} {w : World} {K : PySem.W.Frag} {h : Heap} {mg : Str → Option Value} {fa : Addr} (X : K.In h) (G : h.Ns mainGlobals mg) (hfa : mg "law" = some (.ref fa))
    {od_is_leap an_is_leap : Option Addr} {sl_is_leap : Array (Option Value)} {oc_is_leap kV_is_leap dc_is_leap pm_is_leap cd_is_leap ct_is_leap : Value} {f_is_leap : Addr}
    (a_is_leap : PySem.W.nsIn K mainGlobals "is_leap" = some (some (.ref f_is_leap)))
    (l_is_leap : K.lookup f_is_leap = some ⟨oc_is_leap, od_is_leap, .func (PySem.W.fnOf "is_leap" "is_leap" (defArgs s_is_leap) (defBody s_is_leap) (defScope s_is_leap) .none kV_is_leap dc_is_leap pm_is_leap an_is_leap cd_is_leap ct_is_leap), sl_is_leap⟩)
    (c_is_leap : PySem.W.codeIn K cd_is_leap "is_leap" = true)
    (k_is_leap : PySem.W.keepIn K (.ref f_is_leap) = true)
    {od_days_in an_days_in : Option Addr} {sl_days_in : Array (Option Value)} {oc_days_in kV_days_in dc_days_in pm_days_in cd_days_in ct_days_in : Value} {f_days_in : Addr}
    (a_days_in : PySem.W.nsIn K mainGlobals "days_in" = some (some (.ref f_days_in)))
    (l_days_in : K.lookup f_days_in = some ⟨oc_days_in, od_days_in, .func (PySem.W.fnOf "days_in" "days_in" (defArgs s_days_in) (defBody s_days_in) (defScope s_days_in) .none kV_days_in dc_days_in pm_days_in an_days_in cd_days_in ct_days_in), sl_days_in⟩)
    (c_days_in : PySem.W.codeIn K cd_days_in "days_in" = true)
    (k_days_in : PySem.W.keepIn K (.ref f_days_in) = true)
    {od_check_date an_check_date : Option Addr} {sl_check_date : Array (Option Value)} {oc_check_date kV_check_date dc_check_date pm_check_date cd_check_date ct_check_date : Value} {f_check_date : Addr}
    (a_check_date : PySem.W.nsIn K mainGlobals "check_date" = some (some (.ref f_check_date)))
    (l_check_date : K.lookup f_check_date = some ⟨oc_check_date, od_check_date, .func (PySem.W.fnOf "check_date" "check_date" (defArgs s_check_date) (defBody s_check_date) (defScope s_check_date) .none kV_check_date dc_check_date pm_check_date an_check_date cd_check_date ct_check_date), sl_check_date⟩)
    (c_check_date : PySem.W.codeIn K cd_check_date "check_date" = true)
    (k_check_date : PySem.W.keepIn K (.ref f_check_date) = true)
    {od_move an_move : Option Addr} {sl_move : Array (Option Value)} {oc_move kV_move dc_move pm_move cd_move ct_move : Value} {f_move : Addr}
    (a_move : PySem.W.nsIn K mainGlobals "move" = some (some (.ref f_move)))
    (l_move : K.lookup f_move = some ⟨oc_move, od_move, .func (PySem.W.fnOf "move" "move" (defArgs s_move) (defBody s_move) (defScope s_move) .none kV_move dc_move pm_move an_move cd_move ct_move), sl_move⟩)
    (c_move : PySem.W.codeIn K cd_move "move" = true)
    (k_move : PySem.W.keepIn K (.ref f_move) = true)
    {od_renew an_renew : Option Addr} {sl_renew : Array (Option Value)} {oc_renew kV_renew dc_renew pm_renew cd_renew ct_renew : Value} {f_renew : Addr}
    (a_renew : PySem.W.nsIn K mainGlobals "renew" = some (some (.ref f_renew)))
    (l_renew : K.lookup f_renew = some ⟨oc_renew, od_renew, .func (PySem.W.fnOf "renew" "renew" (defArgs s_renew) (defBody s_renew) (defScope s_renew) .none kV_renew dc_renew pm_renew an_renew cd_renew ct_renew), sl_renew⟩)
    (c_renew : PySem.W.codeIn K cd_renew "renew" = true)
    (k_renew : PySem.W.keepIn K (.ref f_renew) = true)
    {od_anchored an_anchored : Option Addr} {sl_anchored : Array (Option Value)} {oc_anchored kV_anchored dc_anchored pm_anchored cd_anchored ct_anchored : Value} {f_anchored : Addr}
    (a_anchored : PySem.W.nsIn K mainGlobals "anchored" = some (some (.ref f_anchored)))
    (l_anchored : K.lookup f_anchored = some ⟨oc_anchored, od_anchored, .func (PySem.W.fnOf "anchored" "anchored" (defArgs s_anchored) (defBody s_anchored) (defScope s_anchored) .none kV_anchored dc_anchored pm_anchored an_anchored cd_anchored ct_anchored), sl_anchored⟩)
    (c_anchored : PySem.W.codeIn K cd_anchored "anchored" = true)
    (k_anchored : PySem.W.keepIn K (.ref f_anchored) = true)
    {od_renewal_dates an_renewal_dates : Option Addr} {sl_renewal_dates : Array (Option Value)} {oc_renewal_dates kV_renewal_dates dc_renewal_dates pm_renewal_dates cd_renewal_dates ct_renewal_dates : Value} {f_renewal_dates : Addr}
    (a_renewal_dates : PySem.W.nsIn K mainGlobals "renewal_dates" = some (some (.ref f_renewal_dates)))
    (l_renewal_dates : K.lookup f_renewal_dates = some ⟨oc_renewal_dates, od_renewal_dates, .func (PySem.W.fnOf "renewal_dates" "renewal_dates" (defArgs s_renewal_dates) (defBody s_renewal_dates) (defScope s_renewal_dates) .none kV_renewal_dates dc_renewal_dates pm_renewal_dates an_renewal_dates cd_renewal_dates ct_renewal_dates), sl_renewal_dates⟩)
    (c_renewal_dates : PySem.W.codeIn K cd_renewal_dates "renewal_dates" = true)
    (k_renewal_dates : PySem.W.keepIn K (.ref f_renewal_dates) = true)
    {od_check an_check : Option Addr} {sl_check : Array (Option Value)} {oc_check kV_check dc_check pm_check cd_check ct_check : Value} {f_check : Addr}
    (a_check : PySem.W.nsIn K mainGlobals "_check" = some (some (.ref f_check)))
    (l_check : K.lookup f_check = some ⟨oc_check, od_check, .func (PySem.W.fnOf "_check" "_check" (defArgs s_check) (defBody s_check) (defScope s_check) .none kV_check dc_check pm_check an_check cd_check ct_check), sl_check⟩)
    (c_check : PySem.W.codeIn K cd_check "_check" = true)
    (k_check : PySem.W.keepIn K (.ref f_check) = true)
    {od_law_pool an_law_pool : Option Addr} {sl_law_pool : Array (Option Value)} {oc_law_pool kV_law_pool dc_law_pool pm_law_pool cd_law_pool ct_law_pool : Value} {f_law_pool : Addr}
    (a_law_pool : PySem.W.nsIn K mainGlobals "_law_pool" = some (some (.ref f_law_pool)))
    (l_law_pool : K.lookup f_law_pool = some ⟨oc_law_pool, od_law_pool, .func (PySem.W.fnOf "_law_pool" "_law_pool" (defArgs s_law_pool) (defBody s_law_pool) (defScope s_law_pool) .none kV_law_pool dc_law_pool pm_law_pool an_law_pool cd_law_pool ct_law_pool), sl_law_pool⟩)
    (c_law_pool : PySem.W.codeIn K cd_law_pool "_law_pool" = true)
    (k_law_pool : PySem.W.keepIn K (.ref f_law_pool) = true)
    {od_law_draw an_law_draw : Option Addr} {sl_law_draw : Array (Option Value)} {oc_law_draw kV_law_draw dc_law_draw pm_law_draw cd_law_draw ct_law_draw : Value} {f_law_draw : Addr}
    (a_law_draw : PySem.W.nsIn K mainGlobals "_law_draw" = some (some (.ref f_law_draw)))
    (l_law_draw : K.lookup f_law_draw = some ⟨oc_law_draw, od_law_draw, .func (PySem.W.fnOf "_law_draw" "_law_draw" (defArgs s_law_draw) (defBody s_law_draw) (defScope s_law_draw) .none kV_law_draw dc_law_draw pm_law_draw an_law_draw cd_law_draw ct_law_draw), sl_law_draw⟩)
    (c_law_draw : PySem.W.codeIn K cd_law_draw "_law_draw" = true)
    (k_law_draw : PySem.W.keepIn K (.ref f_law_draw) = true)
    {od_law_days an_law_days : Option Addr} {sl_law_days : Array (Option Value)} {oc_law_days kV_law_days dc_law_days pm_law_days cd_law_days ct_law_days : Value} {f_law_days : Addr}
    (a_law_days : PySem.W.nsIn K mainGlobals "_law_days" = some (some (.ref f_law_days)))
    (l_law_days : K.lookup f_law_days = some ⟨oc_law_days, od_law_days, .func (PySem.W.fnOf "_law_days" "_law_days" (defArgs s_law_days) (defBody s_law_days) (defScope s_law_days) .none kV_law_days dc_law_days pm_law_days an_law_days cd_law_days ct_law_days), sl_law_days⟩)
    (c_law_days : PySem.W.codeIn K cd_law_days "_law_days" = true)
    (k_law_days : PySem.W.keepIn K (.ref f_law_days) = true)
    {od_law_great an_law_great : Option Addr} {sl_law_great : Array (Option Value)} {oc_law_great kV_law_great dc_law_great pm_law_great cd_law_great ct_law_great : Value} {f_law_great : Addr}
    (a_law_great : PySem.W.nsIn K mainGlobals "_law_great" = some (some (.ref f_law_great)))
    (l_law_great : K.lookup f_law_great = some ⟨oc_law_great, od_law_great, .func (PySem.W.fnOf "_law_great" "_law_great" (defArgs s_law_great) (defBody s_law_great) (defScope s_law_great) .none kV_law_great dc_law_great pm_law_great an_law_great cd_law_great ct_law_great), sl_law_great⟩)
    (c_law_great : PySem.W.codeIn K cd_law_great "_law_great" = true)
    (k_law_great : PySem.W.keepIn K (.ref f_law_great) = true)
    {od_law_date an_law_date : Option Addr} {sl_law_date : Array (Option Value)} {oc_law_date kV_law_date dc_law_date pm_law_date cd_law_date ct_law_date : Value} {f_law_date : Addr}
    (a_law_date : PySem.W.nsIn K mainGlobals "_law_date" = some (some (.ref f_law_date)))
    (l_law_date : K.lookup f_law_date = some ⟨oc_law_date, od_law_date, .func (PySem.W.fnOf "_law_date" "_law_date" (defArgs s_law_date) (defBody s_law_date) (defScope s_law_date) .none kV_law_date dc_law_date pm_law_date an_law_date cd_law_date ct_law_date), sl_law_date⟩)
    (c_law_date : PySem.W.codeIn K cd_law_date "_law_date" = true)
    (k_law_date : PySem.W.keepIn K (.ref f_law_date) = true)
    {od_law_stride an_law_stride : Option Addr} {sl_law_stride : Array (Option Value)} {oc_law_stride kV_law_stride dc_law_stride pm_law_stride cd_law_stride ct_law_stride : Value} {f_law_stride : Addr}
    (a_law_stride : PySem.W.nsIn K mainGlobals "_law_stride" = some (some (.ref f_law_stride)))
    (l_law_stride : K.lookup f_law_stride = some ⟨oc_law_stride, od_law_stride, .func (PySem.W.fnOf "_law_stride" "_law_stride" (defArgs s_law_stride) (defBody s_law_stride) (defScope s_law_stride) .none kV_law_stride dc_law_stride pm_law_stride an_law_stride cd_law_stride ct_law_stride), sl_law_stride⟩)
    (c_law_stride : PySem.W.codeIn K cd_law_stride "_law_stride" = true)
    (k_law_stride : PySem.W.keepIn K (.ref f_law_stride) = true)
    {od_law_along an_law_along : Option Addr} {sl_law_along : Array (Option Value)} {oc_law_along kV_law_along dc_law_along pm_law_along cd_law_along ct_law_along : Value} {f_law_along : Addr}
    (a_law_along : PySem.W.nsIn K mainGlobals "_law_along" = some (some (.ref f_law_along)))
    (l_law_along : K.lookup f_law_along = some ⟨oc_law_along, od_law_along, .func (PySem.W.fnOf "_law_along" "_law_along" (defArgs s_law_along) (defBody s_law_along) (defScope s_law_along) .none kV_law_along dc_law_along pm_law_along an_law_along cd_law_along ct_law_along), sl_law_along⟩)
    (c_law_along : PySem.W.codeIn K cd_law_along "_law_along" = true)
    (k_law_along : PySem.W.keepIn K (.ref f_law_along) = true)
    {od_law_first an_law_first : Option Addr} {sl_law_first : Array (Option Value)} {oc_law_first kV_law_first dc_law_first pm_law_first cd_law_first ct_law_first : Value} {f_law_first : Addr}
    (a_law_first : PySem.W.nsIn K mainGlobals "_law_first" = some (some (.ref f_law_first)))
    (l_law_first : K.lookup f_law_first = some ⟨oc_law_first, od_law_first, .func (PySem.W.fnOf "_law_first" "_law_first" (defArgs s_law_first) (defBody s_law_first) (defScope s_law_first) .none kV_law_first dc_law_first pm_law_first an_law_first cd_law_first ct_law_first), sl_law_first⟩)
    (c_law_first : PySem.W.codeIn K cd_law_first "_law_first" = true)
    (k_law_first : PySem.W.keepIn K (.ref f_law_first) = true)
    {od_law_right an_law_right : Option Addr} {sl_law_right : Array (Option Value)} {oc_law_right kV_law_right dc_law_right pm_law_right cd_law_right ct_law_right : Value} {f_law_right : Addr}
    (a_law_right : PySem.W.nsIn K mainGlobals "_law_right" = some (some (.ref f_law_right)))
    (l_law_right : K.lookup f_law_right = some ⟨oc_law_right, od_law_right, .func (PySem.W.fnOf "_law_right" "_law_right" (defArgs s_law_right) (defBody s_law_right) (defScope s_law_right) .none kV_law_right dc_law_right pm_law_right an_law_right cd_law_right ct_law_right), sl_law_right⟩)
    (c_law_right : PySem.W.codeIn K cd_law_right "_law_right" = true)
    (k_law_right : PySem.W.keepIn K (.ref f_law_right) = true)
    {od_law an_law : Option Addr} {sl_law : Array (Option Value)} {oc_law kV_law dc_law pm_law cd_law ct_law : Value} {f_law : Addr}
    (a_law : PySem.W.nsIn K mainGlobals "law" = some (some (.ref f_law)))
    (l_law : K.lookup f_law = some ⟨oc_law, od_law, .func (PySem.W.fnOf "law" "law" (defArgs s_law) (defBody s_law) (defScope s_law) .none kV_law dc_law pm_law an_law cd_law ct_law), sl_law⟩)
    (c_law : PySem.W.codeIn K cd_law "law" = true)
    (k_law : PySem.W.keepIn K (.ref f_law) = true)
    (z_abs : PySem.W.nsIn K mainGlobals "abs" = some none)
    (z_int : PySem.W.nsIn K mainGlobals "int" = some none)
    (z_isinstance : PySem.W.nsIn K mainGlobals "isinstance" = some none)
    (z_len : PySem.W.nsIn K mainGlobals "len" = some none)
    (z_max : PySem.W.nsIn K mainGlobals "max" = some none)
    (z_min : PySem.W.nsIn K mainGlobals "min" = some none)
    (z_range : PySem.W.nsIn K mainGlobals "range" = some none)
    (z_tuple : PySem.W.nsIn K mainGlobals "tuple" = some none)
    (z_zip : PySem.W.nsIn K mainGlobals "zip" = some none)
    {ca_DAYS_IN_COMMON_YEAR : Addr} {cd_DAYS_IN_COMMON_YEAR : Option Addr} {cs_DAYS_IN_COMMON_YEAR : Array (Option Value)} {cn_DAYS_IN_COMMON_YEAR : Nat} {ct_DAYS_IN_COMMON_YEAR_0 ct_DAYS_IN_COMMON_YEAR_1 ct_DAYS_IN_COMMON_YEAR_2 ct_DAYS_IN_COMMON_YEAR_3 ct_DAYS_IN_COMMON_YEAR_4 ct_DAYS_IN_COMMON_YEAR_5 ct_DAYS_IN_COMMON_YEAR_6 ct_DAYS_IN_COMMON_YEAR_7 ct_DAYS_IN_COMMON_YEAR_8 ct_DAYS_IN_COMMON_YEAR_9 ct_DAYS_IN_COMMON_YEAR_10 ct_DAYS_IN_COMMON_YEAR_11 : Tok}
    (ga_DAYS_IN_COMMON_YEAR : PySem.W.nsIn K mainGlobals "_DAYS_IN_COMMON_YEAR" = some (some (.ref ca_DAYS_IN_COMMON_YEAR)))
    (gl_DAYS_IN_COMMON_YEAR : K.lookup ca_DAYS_IN_COMMON_YEAR = some ⟨.type "tuple", cd_DAYS_IN_COMMON_YEAR, .seq #[.int 31 ct_DAYS_IN_COMMON_YEAR_0, .int 28 ct_DAYS_IN_COMMON_YEAR_1, .int 31 ct_DAYS_IN_COMMON_YEAR_2, .int 30 ct_DAYS_IN_COMMON_YEAR_3, .int 31 ct_DAYS_IN_COMMON_YEAR_4, .int 30 ct_DAYS_IN_COMMON_YEAR_5, .int 31 ct_DAYS_IN_COMMON_YEAR_6, .int 31 ct_DAYS_IN_COMMON_YEAR_7, .int 30 ct_DAYS_IN_COMMON_YEAR_8, .int 31 ct_DAYS_IN_COMMON_YEAR_9, .int 30 ct_DAYS_IN_COMMON_YEAR_10, .int 31 ct_DAYS_IN_COMMON_YEAR_11] cn_DAYS_IN_COMMON_YEAR, cs_DAYS_IN_COMMON_YEAR⟩)
    {ct_CYCLE : Tok}
    (ga_CYCLE : PySem.W.nsIn K mainGlobals "CYCLE" = some (some (.int 4800 ct_CYCLE))) :
    ∃ fd : FuncData, (∀ (s : Shared) (v : Value), BindsTo s fd ⟨[v], []⟩ [("script", v)]) ∧ ∀ base : Heap, K.In base → base.Ns mainGlobals mg → FnOk l.prog w K mg base CX0 10 fa fd ["script"] (spLaw K) := by
  have e := hfa.symm.trans (PySem.W.mg_of X G a_law)
  cases e
  have F_is_leap := fun_mk (st := s_is_leap) l_is_leap c_is_leap k_is_leap
  have F_days_in := fun_mk (st := s_days_in) l_days_in c_days_in k_days_in
  have F_check_date := fun_mk (st := s_check_date) l_check_date c_check_date k_check_date
  have F_move := fun_mk (st := s_move) l_move c_move k_move
  have F_renew := fun_mk (st := s_renew) l_renew c_renew k_renew
  have F_anchored := fun_mk (st := s_anchored) l_anchored c_anchored k_anchored
  have F_renewal_dates := fun_mk (st := s_renewal_dates) l_renewal_dates c_renewal_dates k_renewal_dates
  have F_check := fun_mk (st := s_check) l_check c_check k_check
  have F_law_pool := fun_mk (st := s_law_pool) l_law_pool c_law_pool k_law_pool
  have F_law_draw := fun_mk (st := s_law_draw) l_law_draw c_law_draw k_law_draw
  have F_law_days := fun_mk (st := s_law_days) l_law_days c_law_days k_law_days
  have F_law_great := fun_mk (st := s_law_great) l_law_great c_law_great k_law_great
  have F_law_date := fun_mk (st := s_law_date) l_law_date c_law_date k_law_date
  have F_law_stride := fun_mk (st := s_law_stride) l_law_stride c_law_stride k_law_stride
  have F_law_along := fun_mk (st := s_law_along) l_law_along c_law_along k_law_along
  have F_law_first := fun_mk (st := s_law_first) l_law_first c_law_first k_law_first
  have F_law_right := fun_mk (st := s_law_right) l_law_right c_law_right k_law_right
  have F_law := fun_mk (st := s_law) l_law c_law k_law
  let T : Top K mg := {
    f_is_leap := f_is_leap
    fd_is_leap := _
    F_is_leap := F_is_leap
    g_is_leap := PySem.W.mg_of X G a_is_leap
    b_is_leap := (F_is_leap.binds (ps := ["year"]) fun _ _ _ _ _ _ us hl => match us, hl with | [_], _ => rfl)
    f_days_in := f_days_in
    fd_days_in := _
    F_days_in := F_days_in
    g_days_in := PySem.W.mg_of X G a_days_in
    b_days_in := (F_days_in.binds (ps := ["year", "month"]) fun _ _ _ _ _ _ us hl => match us, hl with | [_, _], _ => rfl)
    f_check_date := f_check_date
    fd_check_date := _
    F_check_date := F_check_date
    g_check_date := PySem.W.mg_of X G a_check_date
    b_check_date := (F_check_date.binds (ps := ["date"]) fun _ _ _ _ _ _ us hl => match us, hl with | [_], _ => rfl)
    f_move := f_move
    fd_move := _
    F_move := F_move
    g_move := PySem.W.mg_of X G a_move
    b_move := (F_move.binds (ps := ["date", "steps"]) fun _ _ _ _ _ _ us hl => match us, hl with | [_, _], _ => rfl)
    f_renew := f_renew
    fd_renew := _
    F_renew := F_renew
    g_renew := PySem.W.mg_of X G a_renew
    b_renew := (F_renew.binds (ps := ["date", "step", "times"]) fun _ _ _ _ _ _ us hl => match us, hl with | [_, _, _], _ => rfl)
    f_anchored := f_anchored
    fd_anchored := _
    F_anchored := F_anchored
    g_anchored := PySem.W.mg_of X G a_anchored
    b_anchored := (F_anchored.binds (ps := ["date", "step", "times"]) fun _ _ _ _ _ _ us hl => match us, hl with | [_, _, _], _ => rfl)
    f_renewal_dates := f_renewal_dates
    fd_renewal_dates := _
    F_renewal_dates := F_renewal_dates
    g_renewal_dates := PySem.W.mg_of X G a_renewal_dates
    b_renewal_dates := (F_renewal_dates.binds (ps := ["date", "step"]) fun _ _ _ _ _ _ us hl => match us, hl with | [_, _], _ => rfl)
    f_check := f_check
    fd_check := _
    F_check := F_check
    g_check := PySem.W.mg_of X G a_check
    b_check := (F_check.binds (ps := ["date", "times"]) fun _ _ _ _ _ _ us hl => match us, hl with | [_, _], _ => rfl)
    f_law_pool := f_law_pool
    fd_law_pool := _
    F_law_pool := F_law_pool
    g_law_pool := PySem.W.mg_of X G a_law_pool
    b_law_pool := (F_law_pool.binds (ps := ["script", "at"]) fun _ _ _ _ _ _ us hl => match us, hl with | [_, _], _ => rfl)
    f_law_draw := f_law_draw
    fd_law_draw := _
    F_law_draw := F_law_draw
    g_law_draw := PySem.W.mg_of X G a_law_draw
    b_law_draw := (F_law_draw.binds (ps := ["pool", "many"]) fun _ _ _ _ _ _ us hl => match us, hl with | [_, _], _ => rfl)
    f_law_days := f_law_days
    fd_law_days := _
    F_law_days := F_law_days
    g_law_days := PySem.W.mg_of X G a_law_days
    b_law_days := (F_law_days.binds (ps := ["number"]) fun _ _ _ _ _ _ us hl => match us, hl with | [_], _ => rfl)
    f_law_great := f_law_great
    fd_law_great := _
    F_law_great := F_law_great
    g_law_great := PySem.W.mg_of X G a_law_great
    b_law_great := (F_law_great.binds (ps := ["pool"]) fun _ _ _ _ _ _ us hl => match us, hl with | [_], _ => rfl)
    f_law_date := f_law_date
    fd_law_date := _
    F_law_date := F_law_date
    g_law_date := PySem.W.mg_of X G a_law_date
    b_law_date := (F_law_date.binds (ps := ["pool"]) fun _ _ _ _ _ _ us hl => match us, hl with | [_], _ => rfl)
    f_law_stride := f_law_stride
    fd_law_stride := _
    F_law_stride := F_law_stride
    g_law_stride := PySem.W.mg_of X G a_law_stride
    b_law_stride := (F_law_stride.binds (ps := ["pool", "most"]) fun _ _ _ _ _ _ us hl => match us, hl with | [_, _], _ => rfl)
    f_law_along := f_law_along
    fd_law_along := _
    F_law_along := F_law_along
    g_law_along := PySem.W.mg_of X G a_law_along
    b_law_along := (F_law_along.binds (ps := ["begun", "strides"]) fun _ _ _ _ _ _ us hl => match us, hl with | [_, _], _ => rfl)
    f_law_first := f_law_first
    fd_law_first := _
    F_law_first := F_law_first
    g_law_first := PySem.W.mg_of X G a_law_first
    b_law_first := (F_law_first.binds (ps := ["begun", "stride", "many"]) fun _ _ _ _ _ _ us hl => match us, hl with | [_, _, _], _ => rfl)
    f_law_right := f_law_right
    fd_law_right := _
    F_law_right := F_law_right
    g_law_right := PySem.W.mg_of X G a_law_right
    b_law_right := (F_law_right.binds (ps := ["pool"]) fun _ _ _ _ _ _ us hl => match us, hl with | [_], _ => rfl)
    f_law := fa
    fd_law := _
    F_law := F_law
    g_law := PySem.W.mg_of X G a_law
    b_law := (F_law.binds (ps := ["script"]) fun _ _ _ _ _ _ us hl => match us, hl with | [_], _ => rfl)
    z_abs := PySem.W.mg_none_of X G z_abs
    z_int := PySem.W.mg_none_of X G z_int
    z_isinstance := PySem.W.mg_none_of X G z_isinstance
    z_len := PySem.W.mg_none_of X G z_len
    z_max := PySem.W.mg_none_of X G z_max
    z_min := PySem.W.mg_none_of X G z_min
    z_range := PySem.W.mg_none_of X G z_range
    z_tuple := PySem.W.mg_none_of X G z_tuple
    z_zip := PySem.W.mg_none_of X G z_zip
    a_DAYS_IN_COMMON_YEAR := ca_DAYS_IN_COMMON_YEAR
    g_DAYS_IN_COMMON_YEAR := PySem.W.mg_of X G ga_DAYS_IN_COMMON_YEAR
    q_DAYS_IN_COMMON_YEAR := fun H => Or.inr ⟨_, _, _, gl_DAYS_IN_COMMON_YEAR, rfl, rfl, (by show 12 ≤ sizeLine; decide), .cons ⟨_, rfl⟩ (.cons ⟨_, rfl⟩ (.cons ⟨_, rfl⟩ (.cons ⟨_, rfl⟩ (.cons ⟨_, rfl⟩ (.cons ⟨_, rfl⟩ (.cons ⟨_, rfl⟩ (.cons ⟨_, rfl⟩ (.cons ⟨_, rfl⟩ (.cons ⟨_, rfl⟩ (.cons ⟨_, rfl⟩ (.cons ⟨_, rfl⟩ .nil)))))))))))⟩
    t_CYCLE := ct_CYCLE
    g_CYCLE := PySem.W.mg_of X G ga_CYCLE }
  exact ⟨_, fun s v => .of_eq rfl, fun base _ _ => ok_law T⟩
end Mk

open PySem PySem.W PyProof.Rows
set_option maxRecDepth 100000 in
set_option maxHeartbeats 0 in
theorem PySem.Challenge.cw_monthclamp_k19_renewals_one_by_one_holds : PySem.Challenge.rw_monthclamp_k19_renewals_one_by_one.Holds := by
  w_on; o_law; k_head; (case hw => w_witness2)
  k_fill
  refine L2.walk_of (l := PySem.Challenge.rw_monthclamp_k19_renewals_one_by_one) (n := 63) (k := 10) (x := "script") (CX := fun _ => L2.CX0) (sp := fun w => Mk.spLaw _) rfl (by decide) rfl ⟨rfl, by decide, by decide⟩ (fun w h Y => PySem.W.kIn_of Y) ?F (fun _ _ a ns hl _ hS => ⟨a, ns, rfl, hS, hl, fun _ => rfl⟩) (fun _ _ _ _ _ h => h)
  case F =>
    intro w mg fa h KX G hmg
    refine' Mk.all_mk KX G hmg ?a_is_leap ?l_is_leap ?c_is_leap ?k_is_leap ?a_days_in ?l_days_in ?c_days_in ?k_days_in ?a_check_date ?l_check_date ?c_check_date ?k_check_date ?a_move ?l_move ?c_move ?k_move ?a_renew ?l_renew ?c_renew ?k_renew ?a_anchored ?l_anchored ?c_anchored ?k_anchored ?a_renewal_dates ?l_renewal_dates ?c_renewal_dates ?k_renewal_dates ?a_check ?l_check ?c_check ?k_check ?a_law_pool ?l_law_pool ?c_law_pool ?k_law_pool ?a_law_draw ?l_law_draw ?c_law_draw ?k_law_draw ?a_law_days ?l_law_days ?c_law_days ?k_law_days ?a_law_great ?l_law_great ?c_law_great ?k_law_great ?a_law_date ?l_law_date ?c_law_date ?k_law_date ?a_law_stride ?l_law_stride ?c_law_stride ?k_law_stride ?a_law_along ?l_law_along ?c_law_along ?k_law_along ?a_law_first ?l_law_first ?c_law_first ?k_law_first ?a_law_right ?l_law_right ?c_law_right ?k_law_right ?a_law ?l_law ?c_law ?k_law ?z_abs ?z_int ?z_isinstance ?z_len ?z_max ?z_min ?z_range ?z_tuple ?z_zip ?ga_DAYS_IN_COMMON_YEAR ?gl_DAYS_IN_COMMON_YEAR ?ga_CYCLE
    (case a_is_leap => k_is)
    (case l_is_leap => k_is)
    (case c_is_leap => k_is)
    (case k_is_leap => k_is)
    (case a_days_in => k_is)
    (case l_days_in => k_is)
    (case c_days_in => k_is)
    (case k_days_in => k_is)
    (case a_check_date => k_is)
    (case l_check_date => k_is)
    (case c_check_date => k_is)
    (case k_check_date => k_is)
    (case a_move => k_is)
    (case l_move => k_is)
    (case c_move => k_is)
    (case k_move => k_is)
    (case a_renew => k_is)
    (case l_renew => k_is)
    (case c_renew => k_is)
    (case k_renew => k_is)
    (case a_anchored => k_is)
    (case l_anchored => k_is)
    (case c_anchored => k_is)
    (case k_anchored => k_is)
    (case a_renewal_dates => k_is)
    (case l_renewal_dates => k_is)
    (case c_renewal_dates => k_is)
    (case k_renewal_dates => k_is)
    (case a_check => k_is)
    (case l_check => k_is)
    (case c_check => k_is)
    (case k_check => k_is)
    (case a_law_pool => k_is)
    (case l_law_pool => k_is)
    (case c_law_pool => k_is)
    (case k_law_pool => k_is)
    (case a_law_draw => k_is)
    (case l_law_draw => k_is)
    (case c_law_draw => k_is)
    (case k_law_draw => k_is)
    (case a_law_days => k_is)
    (case l_law_days => k_is)
    (case c_law_days => k_is)
    (case k_law_days => k_is)
    (case a_law_great => k_is)
    (case l_law_great => k_is)
    (case c_law_great => k_is)
    (case k_law_great => k_is)
    (case a_law_date => k_is)
    (case l_law_date => k_is)
    (case c_law_date => k_is)
    (case k_law_date => k_is)
    (case a_law_stride => k_is)
    (case l_law_stride => k_is)
    (case c_law_stride => k_is)
    (case k_law_stride => k_is)
    (case a_law_along => k_is)
    (case l_law_along => k_is)
    (case c_law_along => k_is)
    (case k_law_along => k_is)
    (case a_law_first => k_is)
    (case l_law_first => k_is)
    (case c_law_first => k_is)
    (case k_law_first => k_is)
    (case a_law_right => k_is)
    (case l_law_right => k_is)
    (case c_law_right => k_is)
    (case k_law_right => k_is)
    (case a_law => k_is)
    (case l_law => k_is)
    (case c_law => k_is)
    (case k_law => k_is)
    (case z_abs => k_is)
    (case z_int => k_is)
    (case z_isinstance => k_is)
    (case z_len => k_is)
    (case z_max => k_is)
    (case z_min => k_is)
    (case z_range => k_is)
    (case z_tuple => k_is)
    (case z_zip => k_is)
    (case ga_DAYS_IN_COMMON_YEAR => k_is)
    (case gl_DAYS_IN_COMMON_YEAR => k_is)
    (case ga_CYCLE => k_is)
#print axioms PySem.Challenge.cw_monthclamp_k19_renewals_one_by_one_holds
