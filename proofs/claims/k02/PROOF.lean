import PyProof.Rows.All
import Wide.All
import OpenK.AllK
import Wide.FinOn
import HandS.ForMost
import HandS.IsInst
import HandS.Codes
import HandS.TupLe
import HandS.Evl
import HandS.Replace
import KE.IntTextText
import KE.KIntText
import PySem.Challenge.RW_shelvesmoved_k02_numbers_read
set_option Elab.async false
set_option linter.all false
set_option maxRecDepth 100000
set_option maxHeartbeats 4000000
namespace Z
open PySem PySem.Spec PyProof.Rows L2

/-! ## heaps -/
/-- all that stood stands -/
def Ex (H H' : Hp) : Prop := ∀ a o, H a = some o → H' a = some o
theorem Ex.rfl {H : Hp} : Ex H H := fun _ _ h => h
theorem Ex.new {H : Hp} {p : Addr} {o : HO} (h : H p = none) : Ex H (upd H p o) := Evl.Ex.new h
theorem Ex.tr {H H1 H2 : Hp} (a : Ex H H1) (b : Ex H1 H2) : Ex H H2 := fun x o h => b x o (a x o h)
theorem Ex.sq {K : PySem.W.Frag} {H H' : Hp} {a : Addr} {xs : List V} (e : Ex H H') (h : SqL K H a xs) : SqL K H' a xs := Evl.ex_l e h
theorem Ex.st {K : PySem.W.Frag} {H H' : Hp} {a : Addr} {xs : List V} (e : Ex H H') (h : SqT K H a xs) : SqT K H' a xs := Evl.ex_t e h
theorem Ex.free {H H' : Hp} {p : Addr} (e : Ex H H') (h : H' p = none) : H p = none := Evl.fresh_back e h
/-- all that stood stands, but what is at b -/
def Fb (b : Addr) (H H' : Hp) : Prop := ∀ a o, H a = some o → a ≠ b → H' a = some o
theorem Fb.rfl {b : Addr} {H : Hp} : Fb b H H := fun _ _ h _ => h
theorem Fb.tr {b : Addr} {H H1 H2 : Hp} (x : Fb b H H1) (y : Fb b H1 H2) : Fb b H H2 := fun a o h n => y a o (x a o h n) n
theorem Fb.ex {b : Addr} {H H' : Hp} (e : Ex H H') : Fb b H H' := fun a o h _ => e a o h
theorem Fb.put {b : Addr} {H : Hp} {o : HO} : Fb b H (upd H b o) := fun a u h n => by rw [upd_ne n]; exact h
theorem Fb.new {b p : Addr} {H : Hp} {o : HO} (h : H p = none) : Fb b H (upd H p o) := Fb.ex (Ex.new h)
/-- what is new at b is not seen from ahead -/
theorem Fb.mut {b : Addr} {H H1 H2 : Hp} (e : Ex H H1) (n : H b = none) (f : Fb b H1 H2) : Ex H H2 := fun a o h => f a o (e a o h) (ne_of_none h n)
theorem Fb.sq {K : PySem.W.Frag} {b : Addr} {H H' : Hp} {a : Addr} {xs : List V} (e : Fb b H H') (h : SqL K H a xs) (n : a ≠ b) : SqL K H' a xs := by
  rcases h with (h | ⟨o, h⟩) | h
  · exact .inl (.inl (e _ _ h n))
  · exact .inl (.inr ⟨o, e _ _ h n⟩)
  · exact .inr h
theorem Fb.free {b p : Addr} {H H' : Hp} (e : Fb b H H') (n : p ≠ b) (h : H' p = none) : H p = none := by
  cases q : H p with
  | none => rfl
  | some o => rw [e p o q n] at h; cases h

/-! ## a step of a reading -/
section
variable {K : PySem.W.Frag} {σ : L2.St} {H : Hp} {Q : VK} {QB : Bool → Hp → Prop} {QA : List V → Hp → Prop} {ta tb tc : TE} {t u : TT} {r r' : R2} {D : Ends} {tu tw : TS}
theorem q_var {i : Nat} {v : V} (h : σ[i]? = some (some v)) (k : Q v H) : tVar i σ H Q := ⟨v, h, k⟩
theorem q_c {v : V} (k : Q v H) : tC v σ H Q := k
theorem q_op (k : ta σ H fun x H1 => tb σ H1 fun y H2 => r x y H2 Q) : tOp r ta tb σ H Q := k
theorem q_un {r : V → Hp → VK → Prop} (k : ta σ H fun x H1 => r x H1 Q) : tUn r ta σ H Q := k
theorem q_test (k : ta σ H fun x H1 => ∃ b, x = .bl b ∧ QB b H1) : tTest ta σ H QB := k
theorem q_B (k : ta σ H fun x H1 => ∃ b, x = .bl b ∧ QB b H1) : tB ta σ H QB := k
theorem q_and (k : t σ H fun c H1 => if c = true then u σ H1 QB else QB false H1) : tAnd t u σ H QB := k
theorem q_or (k : t σ H fun c H1 => if c = true then QB true H1 else u σ H1 QB) : tOr t u σ H QB := k
theorem q_not (k : t σ H fun c H1 => QB (!c) H1) : tNot t σ H QB := k
theorem q_andV (k : ta σ H fun x H1 => ∃ c, x = .bl c ∧ if c = true then tb σ H1 Q else Q (.bl false) H1) : tAndV ta tb σ H Q := k
theorem q_orV (k : ta σ H fun x H1 => ∃ c, x = .bl c ∧ if c = true then Q (.bl true) H1 else tb σ H1 Q) : tOrV ta tb σ H Q := k
theorem q_notV (k : ta σ H fun x H1 => ∃ c, x = .bl c ∧ Q (.bl (!c)) H1) : tNotV ta σ H Q := k
theorem q_if (k : t σ H fun c H1 => if c = true then ta σ H1 Q else tb σ H1 Q) : tIf t ta tb σ H Q := k
theorem q_chain (k : ta σ H fun x H1 => tb σ H1 fun y H2 => r x y H2 fun z H3 => ∃ k, z = .bl k ∧ if k = true then tc σ H3 fun w H4 => r' y w H4 Q else Q (.bl false) H3) : tChain r r' ta tb tc σ H Q := k
theorem q_nil (k : QA [] H) : tNil σ H QA := k
theorem q_cons {tr : TA} (k : ta σ H fun x H1 => tr σ H1 fun xs H2 => QA (x :: xs) H2) : tCons ta tr σ H QA := k
/-- a new object: what follows, over any heap that has it and all that stood -/
def New (mk : List V → HO) (Q : VK) (xs : List V) (H : Hp) : Prop := xs.length ≤ sizeLine ∧ ∀ p, H p = none → Q (.ref p) (upd H p (mk xs))
theorem q_tup {t : TA} (k : t σ H (New .tup Q)) : tTup t σ H Q := k
theorem q_lst {t : TA} (k : t σ H (New .lst Q)) : tLst t σ H Q := k
theorem q_newT {xs : List V} (k : ∀ p H', H p = none → H' p = some (.tup xs) → Ex H H' → Q (.ref p) H') (hz : Nat.ble xs.length 1000 = true := by rfl) : New .tup Q xs H := ⟨Nat.le_of_lt (small1000 (Nat.le_of_ble_eq_true hz)), fun p h => k p _ h upd_same (Ex.new h)⟩
theorem q_newL {xs : List V} (k : ∀ p H', H p = none → H' p = some (.lst xs) → Ex H H' → Q (.ref p) H') (hz : Nat.ble xs.length 1000 = true := by rfl) : New .lst Q xs H := ⟨Nat.le_of_lt (small1000 (Nat.le_of_ble_eq_true hz)), fun p h => k p _ h upd_same (Ex.new h)⟩
theorem q_call {sp : Sp} {dvs : List V} {E : XK} {t : TA} (k : t σ H fun vs H1 => sp (vs ++ dvs) H1 Q E) : tCall sp dvs E t σ H Q := k
theorem q_CB {r : List V → Hp → VK → Prop} {t : TA} (k : t σ H fun vs H1 => r vs H1 Q) : tCB r t σ H Q := k
theorem q_sl {r : V → Option Int → Option Int → Hp → VK → Prop} {tl th : TO} (k : ta σ H fun x H1 => tl σ H1 fun l H2 => th σ H2 fun u H3 => r x l u H3 Q) : tSl r ta tl th σ H Q := k
theorem q_noPart {QO : Option Int → Hp → Prop} (k : QO none H) : tNoPart σ H QO := k
theorem q_part {QO : Option Int → Hp → Prop} (k : ta σ H fun x H1 => ∃ i, x = .int i ∧ QO (some i) H1) : tPart ta σ H QO := k
theorem q_bm0 {T : String} {r : V → List V → Hp → VK → Prop} (k : ta σ H fun x H1 => tyV K T x H1 ∧ r x [] H1 Q) : tBM0 K T r ta σ H Q := k
theorem q_bm {T : String} {r : V → List V → Hp → VK → Prop} {t : TA} (k : ta σ H fun x H1 => tyV K T x H1 ∧ t σ H1 fun xs H2 => r x xs H2 Q) : tBM K T r ta t σ H Q := k
theorem q_ifS (k : t σ H fun b H1 => if b = true then tu D σ H1 else tw D σ H1) : tIfS t tu tw D σ H := k
theorem q_seq (k : tu { D with nx := tw D } σ H) : tSeq tu tw D σ H := k
theorem q_next (k : D.nx σ H) : tNext D σ H := k
theorem q_cont (k : D.ct σ H) : tCont D σ H := k
theorem q_brk (k : D.bk σ H) : tBreak D σ H := k
theorem q_drop (k : ta σ H fun _ H1 => D.nx σ H1) : tDrop ta D σ H := k
theorem q_ret (k : ta σ H D.rt) : tRet ta D σ H := k
theorem q_retN (k : D.rt .non H) : tRetN D σ H := k
theorem q_asg {i : Nat} (k : ta σ H fun x H1 => D.nx (σ.set i (some x)) H1) : tAsg ta (gName i) D σ H := k
theorem q_asgG {g : TG} (k : ta σ H fun x H1 => g x σ H1 D.nx) : tAsg ta g D σ H := k
theorem q_gName {i : Nat} {v : V} {QS : L2.St → Hp → Prop} (k : QS (σ.set i (some v)) H) : gName i v σ H QS := k
theorem q_gSub {s : TSet} {v : V} {QS : L2.St → Hp → Prop} (k : ta σ H fun o H1 => tb σ H1 fun i H2 => s o i v H2 fun H3 => QS σ H3) : gSub ta tb s v σ H QS := k
theorem q_gTup {n : Nat} {t : TGs} {a : Addr} {xs : List V} {QS : L2.St → Hp → Prop} (h : SqT K H a xs) (hn : xs.length = n) (k : t xs σ H QS) : gTup K n t (.ref a) σ H QS := ⟨a, xs, rfl, h, hn, k⟩
theorem q_gCons {t : TG} {u : TGs} {v : V} {r : List V} {QS : L2.St → Hp → Prop} (k : t v σ H fun σ' H' => u r σ' H' QS) : gCons t u (v :: r) σ H QS := ⟨v, r, rfl, k⟩
theorem q_gNil {QS : L2.St → Hp → Prop} (k : QS σ H) : gNil [] σ H QS := ⟨rfl, k⟩
theorem q_yes (k : QB true H) : tYes σ H QB := k
/-! operators -/
theorem q_I {C : Int → Int → Prop} {g : Int → Int → V} {i j : Int} (c : C i j) (k : Q (g i j) H) : rI C g (.int i) (.int j) H Q := ⟨i, j, rfl, rfl, c, k⟩
theorem q_I0 {g : Int → Int → V} {i j : Int} (k : Q (g i j) H) : rI0 g (.int i) (.int j) H Q := ⟨i, j, rfl, rfl, k⟩
theorem q_modP {i j : Int} (h : 0 < j) (k : Q (.int (i % j)) H) : rI (fun _ j => j ≠ 0) (fun i j => .int (i.fmod j)) (.int i) (.int j) H Q := ⟨i, j, rfl, rfl, by omega, by
  show Q (.int (i.fmod j)) H
  rw [Int.fmod_eq_emod_of_nonneg _ (by omega)]; exact k⟩
theorem q_divP {i j : Int} (h : 0 < j) (h2 : j < 1073741824) (k : Q (.int (i / j)) H) : rI CDivN (fun i j => .int (i.fdiv j)) (.int i) (.int j) H Q := ⟨i, j, rfl, rfl, ⟨by omega, by omega⟩, by
  show Q (.int (i.fdiv j)) H
  rw [Int.fdiv_eq_ediv_of_nonneg _ (by omega)]; exact k⟩
theorem q_pow {i j : Int} (h : 0 ≤ j) (h2 : j ≤ 1000000) (h3 : i.natAbs < 18446744073709551616) (k : Q (.int (i ^ j.toNat)) H) : rI CPow (fun i j => .int (i ^ j.toNat)) (.int i) (.int j) H Q := ⟨i, j, rfl, rfl, ⟨h, h2, h3⟩, k⟩
theorem q_powE {i j : Int} (h : 0 ≤ j) (h2 : j ≤ 1000000) (h3 : i.natAbs < 18446744073709551616) (k : ∀ v, v = i ^ j.toNat → Q (.int v) H) : rI CPow (fun i j => .int (i ^ j.toNat)) (.int i) (.int j) H Q := ⟨i, j, rfl, rfl, ⟨h, h2, h3⟩, k _ rfl⟩
theorem q_U {g : Int → V} {i : Int} (k : Q (g i) H) : rU g (.int i) H Q := ⟨i, rfl, k⟩
/-! tests that are known -/
theorem iteD {c A B : Prop} [Decidable c] (h1 : c → A) (h2 : ¬ c → B) : if decide c = true then A else B := by
  by_cases h : c
  · rw [decide_eq_true h]; exact iteT (h1 h)
  · rw [decide_eq_false h]; exact iteF (h2 h)
theorem iteY {c A B : Prop} [Decidable c] (h : c) (k : A) : if decide c = true then A else B := by
  rw [decide_eq_true h]; exact iteT k
theorem iteN {c A B : Prop} [Decidable c] (h : ¬ c) (k : B) : if decide c = true then A else B := by
  rw [decide_eq_false h]; exact iteF k
theorem iteR {b : Bool} {A B : Prop} (h : b = true) (k : A) : if b = true then A else B := by rw [h]; exact iteT k
theorem iteL {b : Bool} {A B : Prop} (h : b = false) (k : B) : if b = true then A else B := by rw [h]; exact iteF k
theorem iteB {b : Bool} {A B : Prop} (h1 : b = true → A) (h2 : b = false → B) : if b = true then A else B := by
  cases b with
  | true => exact iteT (h1 rfl)
  | false => exact iteF (h2 rfl)
end

/-! ## operators of several kinds -/
section
variable {X : Cx}
/-- + : ints, texts, lists -/
inductive rAddA (x y : V) (H : Hp) (Q : VK) : Prop where
  | int (i j : Int) (ex : x = .int i) (ey : y = .int j) (k : Q (.int (i + j)) H)
  | str (a b : Str) (ex : x = .str a) (ey : y = .str b) (h : a.length + b.length ≤ sizeLine) (k : Q (.str (a ++ b)) H)
  | lst (l b : Addr) (xs zs : List V) (ex : x = .ref l) (ey : y = .ref b) (hl : H l = some (.lst xs)) (hb : H b = some (.lst zs)) (hz : xs.length + zs.length ≤ sizeLine) (k : ∀ p, H p = none → Q (.ref p) (upd H p (.lst (xs ++ zs))))
theorem op_addA : OpR X (binaryOp .Add) rAddA := by
  intro pins s σ H x y v u Q I rx ry h
  cases h with
  | int i j ex ey k => exact op_add pins s σ H x y v u Q I rx ry ⟨i, j, ex, ey, k⟩
  | str i j ex ey h k => exact op_add_str pins s σ H x y v u Q I rx ry ⟨i, j, ex, ey, h, k⟩
  | lst l b xs zs ex ey hl hb hz k => exact op_cat pins s σ H x y v u Q I rx ry ⟨l, b, xs, zs, ex, ey, hl, hb, hz, k⟩
theorem q_addI {H : Hp} {Q : VK} {i j : Int} (k : Q (.int (i + j)) H) : rAddA (.int i) (.int j) H Q := .int i j rfl rfl k
theorem q_addS {H : Hp} {Q : VK} {i j : Str} (h : i.length + j.length ≤ sizeLine) (k : Q (.str (i ++ j)) H) : rAddA (.str i) (.str j) H Q := .str i j rfl rfl h k
theorem q_addL {H : Hp} {Q : VK} {l b : Addr} {xs zs : List V} (hl : H l = some (.lst xs)) (hb : H b = some (.lst zs)) (hz : xs.length + zs.length ≤ sizeLine) (k : ∀ p H', H p = none → H' p = some (.lst (xs ++ zs)) → Ex H H' → Q (.ref p) H') : rAddA (.ref l) (.ref b) H Q := .lst l b xs zs rfl rfl hl hb hz fun p h => k p _ h upd_same (Ex.new h)
theorem is_bool_gen {M : Model} {A : Around} {E : Value → Shared → Prop} {s : Shared} {Q : Value → Shared → Prop} {v : Value} {b : Bool} (hv : ∀ id, v ≠ .builtin id) (h : Q (.bool (v == .bool b)) s) : wpAny M A (compareOp .Is v (.bool b)) Q E s := by
  cases v <;> first | exact wpAny_pure h | exact absurd rfl (hv _)
/-- x is True, x is False: any x that is no object -/
def isBl : V → Bool → Bool
  | .bl a, b => a == b
  | _, _ => false
def rIsBA : R2 := fun x y H Q => ∃ b, y = .bl b ∧ Q (.bl (isBl x b)) H
theorem op_isBA : OpR X (compareOp .Is) rIsBA := by
  intro pins s σ H x y v u Q I rx ry h
  obtain ⟨b, rfl, q⟩ := h
  cases (show u = Value.bool b from ry)
  have key : isBl x b = (v == Value.bool b) := by
    cases x with
    | non => cases (show v = _ from rx); rfl
    | bl a =>
      cases (show v = _ from rx)
      cases a <;> cases b <;> rfl
    | int i => obtain ⟨t, rfl⟩ := rx; rfl
    | str i => obtain ⟨t, rfl⟩ := rx; rfl
    | byt i => obtain ⟨t, rfl⟩ := rx; rfl
    | flt i => obtain ⟨t, rfl⟩ := rx; rfl
    | ref i => cases (show v = _ from rx); rfl
    | ty i => cases (show v = _ from rx); rfl
  rw [key] at q
  refine is_bool_gen (fun id e => ?_) ⟨.bl _, H, I, rfl, q⟩
  subst e
  cases x with
  | non => cases rx
  | bl a => cases rx
  | int i => obtain ⟨t, z⟩ := rx; cases z
  | str i => obtain ⟨t, z⟩ := rx; cases z
  | byt i => obtain ⟨t, z⟩ := rx; cases z
  | flt i => obtain ⟨t, z⟩ := rx; cases z
  | ref i => cases rx
  | ty i => cases rx
theorem q_isBA {H : Hp} {Q : VK} {x : V} {b : Bool} (k : Q (.bl (isBl x b)) H) : rIsBA x (.bl b) H Q := ⟨b, rfl, k⟩
end

/-! ## ==, != of anything that is data -/
section
variable {X : Cx}
/-- + == : scalars, or data at any depth -/
def rEqA (K : PySem.W.Frag) : R2 := fun x y H Q => rEq x y H Q ∨ rEqD K x y H Q
def rNeA (K : PySem.W.Frag) : R2 := fun x y H Q => rNe x y H Q ∨ rNeD K x y H Q
theorem op_eqA (hu : X.A.units + 64 < cLine) : OpR X (compareOp .Eq) (rEqA X.K) := op_eq.or (op_eqD hu)
theorem op_neA (hu : X.A.units + 64 < cLine) : OpR X (compareOp .NotEq) (rNeA X.K) := op_ne.or (op_neD hu)
theorem q_eq {K : PySem.W.Frag} {H : Hp} {Q : VK} {x y : V} (h : scal x y = true) (k : Q (.bl (decide (x = y))) H) : rEqA K x y H Q := .inl ⟨h, k⟩
theorem q_ne {K : PySem.W.Frag} {H : Hp} {Q : VK} {x y : V} (h : scal x y = true) (k : Q (.bl (!decide (x = y))) H) : rNeA K x y H Q := .inl ⟨h, k⟩
theorem q_eqI {K : PySem.W.Frag} {H : Hp} {Q : VK} {i j : Int} (k : Q (.bl (decide (i = j))) H) : rEqA K (.int i) (.int j) H Q := .inl ⟨rfl, by
  rw [show decide (V.int i = V.int j) = decide (i = j) from decide_eq_decide.mpr ⟨V.int.inj, congrArg V.int⟩]; exact k⟩
theorem q_neI {K : PySem.W.Frag} {H : Hp} {Q : VK} {i j : Int} (k : Q (.bl (!decide (i = j))) H) : rNeA K (.int i) (.int j) H Q := .inl ⟨rfl, by
  rw [show decide (V.int i = V.int j) = decide (i = j) from decide_eq_decide.mpr ⟨V.int.inj, congrArg V.int⟩]; exact k⟩
theorem q_eqS {K : PySem.W.Frag} {H : Hp} {Q : VK} {i j : Str} (k : Q (.bl (decide (i = j))) H) : rEqA K (.str i) (.str j) H Q := .inl ⟨rfl, by
  rw [show decide (V.str i = V.str j) = decide (i = j) from decide_eq_decide.mpr ⟨V.str.inj, congrArg V.str⟩]; exact k⟩
theorem q_neS {K : PySem.W.Frag} {H : Hp} {Q : VK} {i j : Str} (k : Q (.bl (!decide (i = j))) H) : rNeA K (.str i) (.str j) H Q := .inl ⟨rfl, by
  rw [show decide (V.str i = V.str j) = decide (i = j) from decide_eq_decide.mpr ⟨V.str.inj, congrArg V.str⟩]; exact k⟩
theorem q_eqDt {K : PySem.W.Frag} {H : Hp} {Q : VK} {x y : V} {d e : PyData} (h1 : Dp K H x d) (h2 : Dp K H y e) (s1 : SeqAt.shaped d = true) (s2 : SeqAt.shaped e = true) (k : Q (.bl (PyData.eqv d e)) H) : rEqA K x y H Q := .inr ⟨d, e, h1, h2, s1, s2, k⟩
theorem q_neDt {K : PySem.W.Frag} {H : Hp} {Q : VK} {x y : V} {d e : PyData} (h1 : Dp K H x d) (h2 : Dp K H y e) (s1 : SeqAt.shaped d = true) (s2 : SeqAt.shaped e = true) (k : Q (.bl (!PyData.eqv d e)) H) : rNeA K x y H Q := .inr ⟨d, e, h1, h2, s1, s2, k⟩

/-! ## repr -/
/-- repr of a scalar: the text that is shown -/
def shows : V → Option Str
  | .non => some "None"
  | .bl b => some (if b then "True" else "False")
  | .int i => some (toString i)
  | .str x => some (reprText x)
  | _ => none
def rReprS : List V → Hp → VK → Prop := fun vs H Q => ∃ x t, vs = [x] ∧ shows x = some t ∧ t.length ≤ sizeLine ∧ (∀ i, x = .int i → i.natAbs.log2 < 1920) ∧ Q (.str t) H
theorem call_reprS : CallR X (.builtin "repr") rReprS := by
  intro pins s σ H xs us Q I r h
  obtain ⟨x, d, rfl, hd, hz, hi, q⟩ := h
  obtain ⟨u, rfl, ru⟩ := vals1 r
  cases x with
  | non =>
    cases hd; cases ru
    exact PySem.P.repr_of_none ⟨.str _, H, I.tok _, ⟨_, rfl⟩, q⟩
  | bl b =>
    cases hd; cases ru
    exact PySem.P.repr_of_bool ⟨.str _, H, I.tok _, ⟨_, rfl⟩, q⟩
  | int i =>
    cases hd; obtain ⟨t, rfl⟩ := ru
    exact PySem.P.repr_of_int (hi i rfl) ⟨.str _, H, I.tok _, ⟨_, rfl⟩, q⟩
  | str z =>
    cases hd; obtain ⟨t, rfl⟩ := ru
    exact PySem.P.repr_of_str ⟨.str _, H, I.tok _, ⟨_, rfl⟩, q⟩ hz
  | _ => cases hd
theorem q_reprS {H : Hp} {Q : VK} {x : V} {t : Str} (h : shows x = some t) (hz : t.length ≤ sizeLine) (hi : ∀ i, x = .int i → i.natAbs.log2 < 1920) (k : Q (.str t) H) : rReprS [x] H Q := ⟨x, t, rfl, h, hz, hi, k⟩
theorem q_reprB {H : Hp} {Q : VK} {b : Bool} (k : Q (.str (if b then "True" else "False")) H) : rReprS [.bl b] H Q := ⟨.bl b, _, rfl, rfl, by cases b <;> decide, (fun _ z => nomatch z), k⟩
end

/-! ## defs by name -/
section
variable {P : Program} {w : World} {K : PySem.W.Frag} {mg : Str → Option Value} {base : Heap}
/-- a def of the text, laid by the top -/
structure Df (K : PySem.W.Frag) (mg : Str → Option Value) (x : Str) (st : Stmt) (ps : List Str) : Prop where
  ex : ∃ (f : Addr) (fd : FuncData), Fun K x x st f fd ∧ mg x = some (.ref f) ∧ Binds K fd ps []
/-- it may be called, and keeps this promise -/
structure Kn (P : Program) (w : World) (K : PySem.W.Frag) (mg : Str → Option Value) (base : Heap) (k : Nat) (x : Str) (sp : Sp) : Prop where
  ex : ∃ (f : Addr) (fd : FuncData) (ps : List Str), FnOk P w K mg base CX0 k f fd ps sp ∧ mg x = some (.ref f) ∧ PySem.W.keepIn K (.ref f) = true ∧ Binds K fd ps []
theorem kn_of {x : Str} {st : Stmt} {N ps : List Str} {k : Nat} {sp : Sp} (F : Df K mg x st ps) (S : FnScope N ps (defScope st)) (len : ∀ vs H Q E, sp vs H Q E → vs.length = ps.length)
    (hb : ∀ (f : Addr) (cdv : Value) (A : Around) (outer : List Env) (s : Shared) (H : Hp) (vs : List V) (Q : VK) (E : XK), Room k (A.deeper (envOfC x (defScope st) s.heap.objs.size f cdv)) → sp vs H Q E →
      ∃ t, PSs (cxOf CX0 P w K mg base N x (defScope st) f cdv A outer s H E).nox (defBody st) t ∧ t { nx := fun _ H' => Q .non H', rt := Q } (start N vs) H) : Kn P w K mg base (k + 1) x sp := by
  obtain ⟨f, fd, F1, m, b⟩ := F.ex
  exact ⟨f, fd, ps, F1.ok S len (hb f), m, F1.kp, b⟩
end
section
variable {X : Cx} {k j : Nat} {x : Str} {sp : Sp} {p pos : Pos} {e : Expr} {es : List Expr} {t : TA}
theorem pe_kn (c : Kn X.prog X.w X.K X.mg X.base k x sp) (hr : Room j X.A) (hk : k ≤ j) (hg : Gl X x) (ha : PA X (e :: es) t)
    (hdb : (x == ("__debug__" : Str)) = false := by decide) (he : starEach (e :: es) X.env = (false, eval e X.env) :: starEach es X.env := by rfl) (hpl : (backTo pos (starEach es X.env)).any (·.1) = false := by rfl) :
    PE X (.Call (.Name x p) (e :: es) [] pos) (tCall sp [] E0 t) := by
  obtain ⟨f, fd, ps, F, hm, kp, b⟩ := c.ex
  exact pe_call F (hr.mono hk) hg hm kp b .nil pass0 ha hdb he hpl
end

/-! ## items, slices, products -/
section
variable {K : PySem.W.Frag} {H : Hp} {Q : VK}
theorem q_ixL {p : Addr} {xs : List V} {i : Int} {v : V} (h : SqL K H p xs) (a : atI xs i = some v) (k : Q v H) : rIx K (.ref p) (.int i) H Q := .inl ⟨p, xs, i, v, rfl, rfl, h, a, k⟩
theorem q_ixT {p : Addr} {xs : List V} {i : Int} {v : V} (h : SqT K H p xs) (a : atI xs i = some v) (k : Q v H) : rIx K (.ref p) (.int i) H Q := .inr (.inl ⟨p, xs, i, v, rfl, rfl, h, a, k⟩)
theorem q_ixS {z : Str} {i : Int} {c : Nat} (h : z.length ≤ sizeLine) (a : atI z.cps.toList i = some c) (k : Q (.str ⟨#[c]⟩) H) : rIx K (.str z) (.int i) H Q := .inr (.inr ⟨z, i, c, rfl, rfl, h, a, k⟩)
theorem q_setL {p : Addr} {xs : List V} {i : Int} {j : Nat} {v : V} {QH : Hp → Prop} (h : H p = some (.lst xs)) (e : ixN xs.length i = some j) (k : ∀ H', H' p = some (.lst (xs.set j v)) → Fb p H H' → QH H') : rSetL (.ref p) (.int i) v H QH := ⟨p, xs, i, j, rfl, rfl, h, e, k _ upd_same Fb.put⟩
/-- an item at a drawn place: it is one of them -/
theorem at_mem {α : Type} {xs : List α} {i : Int} (h0 : 0 ≤ i) (h1 : i < xs.length) : ∃ v, atI xs i = some v ∧ v ∈ xs ∧ xs[i.toNat]? = some v := by
  obtain ⟨n, rfl⟩ := Int.eq_ofNat_of_zero_le h0
  have hn : n < xs.length := by omega
  exact ⟨xs[n], atI_nat (List.getElem?_eq_getElem hn), List.getElem_mem hn, by rw [Int.toNat_natCast, List.getElem?_eq_getElem hn]⟩
end
section
variable {X : Cx}
theorem SlR.or {r r' : V → Option Int → Option Int → Hp → VK → Prop} (h : SlR X r) (h' : SlR X r') : SlR X (fun x l u H Q => r x l u H Q ∨ r' x l u H Q) := by
  intro pins s σ H x v vl vu lo hi sl Q I rx hs pl pu q
  rcases q with q | q
  · exact h pins s σ H x v vl vu lo hi sl Q I rx hs pl pu q
  · exact h' pins s σ H x v vl vu lo hi sl Q I rx hs pl pu q
def rSlA (K : PySem.W.Frag) : V → Option Int → Option Int → Hp → VK → Prop := fun x l u H Q => rSlL K x l u H Q ∨ rSlS x l u H Q
theorem sl_A : SlR X (rSlA X.K) := SlR.or sl_list sl_str
theorem q_slL {K : PySem.W.Frag} {H : Hp} {Q : VK} {a : Addr} {xs : List V} {lo hi : Option Int} (h : SqL K H a xs) (k : ∀ p H', H p = none → H' p = some (.lst (cutV xs lo hi)) → Ex H H' → Q (.ref p) H') : rSlA K (.ref a) lo hi H Q := .inl ⟨a, xs, rfl, h, fun p hp => k p _ hp upd_same (Ex.new hp)⟩
theorem q_slS {K : PySem.W.Frag} {H : Hp} {Q : VK} {z : Str} {lo hi : Option Int} (h : z.length ≤ sizeLine) (k : Q (.str (cutS z lo hi)) H) : rSlA K (.str z) lo hi H Q := .inr ⟨z, rfl, h, k⟩
/-- * : ints (one below 2^64), a list times an int -/
def rRepS : R2 := fun x y H Q => ∃ (c : Nat) (k : Int), x = .str ⟨#[c]⟩ ∧ y = .int k ∧ 1 ≤ k ∧ k ≤ 1000 ∧ ∀ z : Str, (z.length : Int) = k → (∀ d ∈ z.cps.toList, d = c) → Q (.str z) H
theorem fold_rep (c : Nat) : ∀ (n : Nat) (a : Array Nat), ((List.replicate n #[c]).foldl (· ++ ·) a).toList = a.toList ++ List.replicate n c
  | 0, a => by simp
  | n + 1, a => by
    rw [List.replicate_succ, List.foldl_cons, fold_rep c n, Array.toList_append, List.append_assoc, List.replicate_succ]
    rfl
theorem op_repS : OpR X (binaryOp .Mult) rRepS := by
  intro pins s σ H x y v u Q I rx ry h
  obtain ⟨c, k, rfl, rfl, h1, h2, q⟩ := h
  obtain ⟨t, rfl⟩ := rx
  obtain ⟨t', rfl⟩ := ry
  have hsz : (1000 : Nat) ≤ sizeLine := Nat.le_of_lt (small1000 (Nat.le_refl _))
  have hl : (⟨#[c]⟩ : Str).length = 1 := rfl
  refine PySem.P.mul_str (by rw [decide_eq_false (by omega), decide_eq_false (by omega)]; rfl) (fun _ _ => ?_) (fun _ _ => ?_) ?_
  · rw [hl]
    have : (1 : Int) ≤ (2 ^ 63 - 1) / k := (Int.le_ediv_iff_mul_le (by omega)).mpr (by omega)
    omega
  · rw [hl, Nat.one_mul]
    unfold Builtin.Str.tooLong
    have : ¬ k.toNat > sizeLine := by omega
    simp [this]
  · rw [if_neg (by omega)]
    by_cases hk : k = 1
    · subst hk
      rw [if_pos (by rfl)]
      exact ⟨.str _, H, I.tok _, ⟨t, rfl⟩, q _ rfl (fun d hd => by simpa using hd)⟩
    · rw [if_neg (by simp [hk]; exact fun z => by rw [hl] at z; cases z)]
      have e : ((List.replicate k.toNat (⟨#[c]⟩ : Str).cps).foldl (· ++ ·) #[]).toList = List.replicate k.toNat c := by
        rw [fold_rep]; rfl
      have en : (⟨(List.replicate k.toNat (⟨#[c]⟩ : Str).cps).foldl (· ++ ·) #[]⟩ : Str).length = k.toNat := by
        rw [TL.len_tl]
        show ((List.replicate k.toNat (⟨#[c]⟩ : Str).cps).foldl (· ++ ·) #[]).toList.length = _
        rw [e, List.length_replicate]
      refine ⟨by rw [en]; omega, .str _, H, I.tok _, ⟨_, rfl⟩, q _ (by rw [en]; omega) fun d hd => ?_⟩
      have hd' : d ∈ ((List.replicate k.toNat (⟨#[c]⟩ : Str).cps).foldl (· ++ ·) #[]).toList := hd
      rw [e] at hd'
      exact (List.mem_replicate.mp hd').2
def rMulA : R2 := fun x y H Q => rI CMul (fun i j => .int (i * j)) x y H Q ∨ rRep x y H Q ∨ rRepS x y H Q
theorem op_mulA : OpR X (binaryOp .Mult) rMulA := op_mul.or (op_rep.or op_repS)
theorem q_repS {H : Hp} {Q : VK} {c : Nat} {k : Int} (h1 : 1 ≤ k) (h2 : k ≤ 1000) (q : ∀ z : Str, (z.length : Int) = k → (∀ d ∈ z.cps.toList, d = c) → Q (.str z) H) : rMulA (.str ⟨#[c]⟩) (.int k) H Q := .inr (.inr ⟨c, k, rfl, rfl, h1, h2, q⟩)
theorem q_mulI {H : Hp} {Q : VK} {i j : Int} (c : (-18446744073709551616 < i ∧ i < 18446744073709551616) ∨ (-18446744073709551616 < j ∧ j < 18446744073709551616)) (k : Q (.int (i * j)) H) : rMulA (.int i) (.int j) H Q := .inl ⟨i, j, rfl, rfl, c, k⟩
end
theorem q_repL {H : Hp} {Q : VK} {l : Addr} {k : Int} {xs : List V} (h : H l = some (.lst xs)) (h0 : 0 ≤ k) (h1 : k ≤ 1000) (hz : xs.length * k.toNat ≤ 1000) (q : ∀ p H', H p = none → H' p = some (.lst (List.replicate k.toNat xs).flatten) → Ex H H' → Q (.ref p) H') : rMulA (.ref l) (.int k) H Q :=
  .inr (.inl ⟨l, k, xs, rfl, rfl, h, by omega, by omega, Nat.le_of_lt (small1000 hz), fun p hp => q p _ hp upd_same (Ex.new hp)⟩)
theorem q_append {H : Hp} {Q : VK} {l : Addr} {xs : List V} {y : V} (h : H l = some (.lst xs)) (hz : xs.length < 1000) (q : ∀ H', H' l = some (.lst (xs ++ [y])) → Fb l H H' → Q .non H') : rAppend (.ref l) [y] H Q :=
  ⟨l, xs, y, rfl, rfl, h, small1000 (by omega), q _ upd_same Fb.put⟩
/-- the box of a law's draws: what is left of the number, the seed, how many draws there were without it (n at the most) -/
def BoxAt (H : Hp) (b : Addr) (n : Nat) : Prop := ∃ x y z : Int, H b = some (.lst [.int x, .int y, .int z]) ∧ 0 ≤ x ∧ 0 ≤ y ∧ y < 2147483629 ∧ 0 ≤ z ∧ z ≤ n
theorem BoxAt.ex {H H' : Hp} {b : Addr} {n : Nat} (h : BoxAt H b n) (e : Ex H H') : BoxAt H' b n := by
  obtain ⟨x, y, z, h, r⟩ := h
  exact ⟨x, y, z, e _ _ h, r⟩
theorem BoxAt.mono {H : Hp} {b : Addr} {m n : Nat} (h : BoxAt H b m) (l : m ≤ n) : BoxAt H b n := by
  obtain ⟨x, y, z, h, h1, h2, h3, h4, h5⟩ := h
  exact ⟨x, y, z, h, h1, h2, h3, h4, by omega⟩

/-! ## things of any kind -/
/-- a text of plain signs, not too long -/
def Tn (n : Nat) (s : Str) : Prop := s.length ≤ n ∧ ∀ c ∈ s.cps.toList, c < 128
abbrev Tx (s : Str) : Prop := Tn 1000 s
theorem Tn.sz {n : Nat} {s : Str} (h : Tn n s) (hn : Nat.ble n 1000 = true := by rfl) : s.length ≤ sizeLine := Nat.le_of_lt (small1000 (Nat.le_trans h.1 (Nat.le_of_ble_eq_true hn)))
theorem Tx.sz {s : Str} (h : Tx s) : s.length ≤ sizeLine := Nat.le_of_lt (small1000 h.1)
inductive Thing (H : Hp) : V → Prop where
  | non : Thing H .non
  | bl (b : Bool) : Thing H (.bl b)
  | int (i : Int) : Thing H (.int i)
  | str (s : Str) (h : Tx s) : Thing H (.str s)
  | lst (p : Addr) (xs : List V) (h : H p = some (.lst xs)) : Thing H (.ref p)
  | tup (p : Addr) (xs : List V) (h : H p = some (.tup xs)) : Thing H (.ref p)
  | dK (p : Addr) (kvs : List (Key × V)) (h : H p = some (.dK kvs)) : Thing H (.ref p)
theorem Thing.ex {H H' : Hp} {v : V} (h : Thing H v) (e : Ex H H') : Thing H' v := by
  cases h with
  | non => exact .non
  | bl b => exact .bl b
  | int i => exact .int i
  | str s h => exact .str s h
  | lst p xs h => exact .lst p xs (e _ _ h)
  | tup p xs h => exact .tup p xs (e _ _ h)
  | dK p xs h => exact .dK p xs (e _ _ h)
def vInt : V → Bool
  | .int _ => true
  | .bl _ => true
  | _ => false
def vBl : V → Bool
  | .bl _ => true
  | _ => false
def vStr : V → Bool
  | .str _ => true
  | _ => false
section
variable {K : PySem.W.Frag} {H : Hp} {Q : VK} {v : V}
theorem kit_NoneType_int : kitB "NoneType" "int" = some false := by decide +kernel
theorem kit_bool_int : kitB "bool" "int" = some true := by decide +kernel
theorem kit_int_int : kitB "int" "int" = some true := by decide +kernel
theorem kit_str_int : kitB "str" "int" = some false := by decide +kernel
theorem kit_list_int : kitB "list" "int" = some false := by decide +kernel
theorem kit_tuple_int : kitB "tuple" "int" = some false := by decide +kernel
theorem kit_dict_int : kitB "dict" "int" = some false := by decide +kernel
theorem kit_NoneType_bool : kitB "NoneType" "bool" = some false := by decide +kernel
theorem kit_bool_bool : kitB "bool" "bool" = some true := by decide +kernel
theorem kit_int_bool : kitB "int" "bool" = some false := by decide +kernel
theorem kit_str_bool : kitB "str" "bool" = some false := by decide +kernel
theorem kit_list_bool : kitB "list" "bool" = some false := by decide +kernel
theorem kit_tuple_bool : kitB "tuple" "bool" = some false := by decide +kernel
theorem kit_dict_bool : kitB "dict" "bool" = some false := by decide +kernel
theorem kit_NoneType_str : kitB "NoneType" "str" = some false := by decide +kernel
theorem kit_bool_str : kitB "bool" "str" = some false := by decide +kernel
theorem kit_int_str : kitB "int" "str" = some false := by decide +kernel
theorem kit_str_str : kitB "str" "str" = some true := by decide +kernel
theorem kit_list_str : kitB "list" "str" = some false := by decide +kernel
theorem kit_tuple_str : kitB "tuple" "str" = some false := by decide +kernel
theorem kit_dict_str : kitB "dict" "str" = some false := by decide +kernel
theorem kit_NoneType_list : kitB "NoneType" "list" = some false := by decide +kernel
theorem kit_bool_list : kitB "bool" "list" = some false := by decide +kernel
theorem kit_int_list : kitB "int" "list" = some false := by decide +kernel
theorem kit_str_list : kitB "str" "list" = some false := by decide +kernel
theorem kit_list_list : kitB "list" "list" = some true := by decide +kernel
theorem kit_tuple_list : kitB "tuple" "list" = some false := by decide +kernel
theorem kit_dict_list : kitB "dict" "list" = some false := by decide +kernel
theorem kit_NoneType_tuple : kitB "NoneType" "tuple" = some false := by decide +kernel
theorem kit_bool_tuple : kitB "bool" "tuple" = some false := by decide +kernel
theorem kit_int_tuple : kitB "int" "tuple" = some false := by decide +kernel
theorem kit_str_tuple : kitB "str" "tuple" = some false := by decide +kernel
theorem kit_list_tuple : kitB "list" "tuple" = some false := by decide +kernel
theorem kit_tuple_tuple : kitB "tuple" "tuple" = some true := by decide +kernel
theorem kit_dict_tuple : kitB "dict" "tuple" = some false := by decide +kernel
theorem q_isiInt (h : Thing H v) (k : Q (.bl (vInt v)) H) : rIsi K [v, .ty "int"] H Q := by
  cases h with
  | non => exact ⟨_, _, .type "NoneType", .type "int", _, rfl, .ty _, .base .non, kit_ty kit_NoneType_int, k⟩
  | bl b => exact ⟨_, _, .type "bool", .type "int", _, rfl, .ty _, .base (.bl b), kit_ty kit_bool_int, k⟩
  | int i => exact ⟨_, _, .type "int", .type "int", _, rfl, .ty _, .base (.int i), kit_ty kit_int_int, k⟩
  | str s h => exact ⟨_, _, .type "str", .type "int", _, rfl, .ty _, .base (.str s), kit_ty kit_str_int, k⟩
  | lst p xs h => exact ⟨_, _, .type "list", .type "int", _, rfl, .ty _, .base (.lst h), kit_ty kit_list_int, k⟩
  | tup p xs h => exact ⟨_, _, .type "tuple", .type "int", _, rfl, .ty _, .base (.tup h), kit_ty kit_tuple_int, k⟩
  | dK p xs h => exact ⟨_, _, .type "dict", .type "int", _, rfl, .ty _, .base (.dK h), kit_ty kit_dict_int, k⟩
theorem q_isiBl (h : Thing H v) (k : Q (.bl (vBl v)) H) : rIsi K [v, .ty "bool"] H Q := by
  cases h with
  | non => exact ⟨_, _, .type "NoneType", .type "bool", _, rfl, .ty _, .base .non, kit_ty kit_NoneType_bool, k⟩
  | bl b => exact ⟨_, _, .type "bool", .type "bool", _, rfl, .ty _, .base (.bl b), kit_ty kit_bool_bool, k⟩
  | int i => exact ⟨_, _, .type "int", .type "bool", _, rfl, .ty _, .base (.int i), kit_ty kit_int_bool, k⟩
  | str s h => exact ⟨_, _, .type "str", .type "bool", _, rfl, .ty _, .base (.str s), kit_ty kit_str_bool, k⟩
  | lst p xs h => exact ⟨_, _, .type "list", .type "bool", _, rfl, .ty _, .base (.lst h), kit_ty kit_list_bool, k⟩
  | tup p xs h => exact ⟨_, _, .type "tuple", .type "bool", _, rfl, .ty _, .base (.tup h), kit_ty kit_tuple_bool, k⟩
  | dK p xs h => exact ⟨_, _, .type "dict", .type "bool", _, rfl, .ty _, .base (.dK h), kit_ty kit_dict_bool, k⟩
theorem q_isiStr (h : Thing H v) (k : Q (.bl (vStr v)) H) : rIsi K [v, .ty "str"] H Q := by
  cases h with
  | non => exact ⟨_, _, .type "NoneType", .type "str", _, rfl, .ty _, .base .non, kit_ty kit_NoneType_str, k⟩
  | bl b => exact ⟨_, _, .type "bool", .type "str", _, rfl, .ty _, .base (.bl b), kit_ty kit_bool_str, k⟩
  | int i => exact ⟨_, _, .type "int", .type "str", _, rfl, .ty _, .base (.int i), kit_ty kit_int_str, k⟩
  | str s h => exact ⟨_, _, .type "str", .type "str", _, rfl, .ty _, .base (.str s), kit_ty kit_str_str, k⟩
  | lst p xs h => exact ⟨_, _, .type "list", .type "str", _, rfl, .ty _, .base (.lst h), kit_ty kit_list_str, k⟩
  | tup p xs h => exact ⟨_, _, .type "tuple", .type "str", _, rfl, .ty _, .base (.tup h), kit_ty kit_tuple_str, k⟩
  | dK p xs h => exact ⟨_, _, .type "dict", .type "str", _, rfl, .ty _, .base (.dK h), kit_ty kit_dict_str, k⟩
end

/-! ## comprehensions over a text -/
theorem lc_str {z : Str} {g : TG} {tt : TT} {te : TE} {vs : List Nat} {σ : L2.St} {H1 : Hp} {D : Addr} {Qd : Hp → Prop} (Pv : Nat → Hp → Prop) (h0 : Pv 0 (upd H1 D (.lst [])))
    (hs : ∀ (i c : Nat) (H : Hp), z.cps[i]? = some c → Pv i H → g (.str ⟨#[c]⟩) (wipe σ vs) H fun σ2 H2 => wipe σ2 vs = wipe σ vs ∧ tt σ2 H2 fun b H3 =>
      if b = true then te σ2 H3 fun y H4 => ∃ acc, H4 D = some (.lst acc) ∧ acc.length < sizeLine ∧ Pv (i + 1) (upd H4 D (.lst (acc ++ [y]))) else Pv (i + 1) H3) (hd : ∀ H, Pv z.cps.size H → Qd H) :
    ∃ W : Nat → Nat → Hp → Prop, (∃ m, W 0 m (upd H1 D (.lst []))) ∧ ∀ i m H, W i m H →
      ((Its z).stop i H ∧ Qd H) ∨ ((Its z).go i H ∧ ∃ Nx : Hp → Prop, (∀ H', Nx H' → ∃ m', m' < m ∧ W (i + 1) m' H') ∧ ∀ x H', (Its z).yld i H x H' → g x (wipe σ vs) H' fun σ2 H2 => wipe σ2 vs = wipe σ vs ∧ tt σ2 H2 fun b H3 =>
        if b = true then te σ2 H3 fun y H4 => ∃ acc, H4 D = some (.lst acc) ∧ acc.length < sizeLine ∧ Nx (upd H4 D (.lst (acc ++ [y]))) else Nx H3) := by
  refine ⟨fun i m H => i + m = z.cps.size ∧ Pv i H, ⟨z.cps.size, by omega, h0⟩, fun i m H ⟨hi, p⟩ => ?_⟩
  cases m with
  | zero =>
    obtain rfl : i = z.cps.size := by omega
    exact .inl ⟨Nat.le_refl _, hd H p⟩
  | succ m =>
    refine .inr ⟨(by show i < z.cps.size; omega), Pv (i + 1), fun H' p' => ⟨m, Nat.lt_succ_self m, by omega, p'⟩, ?_⟩
    rintro x H' ⟨rfl, c, hc, rfl⟩
    exact hs i c _ hc p
/-- [e for c in z if t], each turn told by the sign: kept where f c, then v c -/
theorem q_lcS {z : Str} {σ : L2.St} {H : Hp} {Q : VK} {t0 te : TE} {tt : TT} {vs : List Nat} {j : Nat} (f : Nat → Bool) (v : Nat → V) (hi : Evl.Ev t0 σ H (.str z)) (hz : z.length ≤ 1000)
    (hw : ∀ x, wipe ((wipe σ vs).set j (some x)) vs = wipe σ vs)
    (ht : ∀ (c : Nat) (H1 : Hp), c ∈ z.cps.toList → Ex H H1 → ∀ QB : Bool → Hp → Prop, (∀ H2, Ex H1 H2 → QB (f c) H2) → tt ((wipe σ vs).set j (some (.str ⟨#[c]⟩))) H1 QB)
    (he : ∀ (c : Nat) (H1 : Hp), c ∈ z.cps.toList → Ex H H1 → f c = true → ∀ Q' : VK, (∀ H2, Ex H1 H2 → Q' (v c) H2) → te ((wipe σ vs).set j (some (.str ⟨#[c]⟩))) H1 Q')
    (k : ∀ p H', H p = none → H' p = some (.lst ((z.cps.toList.filter f).map v)) → Ex H H' → Q (.ref p) H') : tLc (iStr t0) (gName j) tt te vs σ H Q := by
  refine hi H Ex.rfl _ fun H0 (e0 : Ex H H0) => ⟨z, rfl, fun D hD => lc_str (z := z) (fun i H' => Ex H0 H' ∧ H' D = some (.lst (((z.cps.toList.take i).filter f).map v))) ⟨Ex.new hD, upd_same⟩ ?_ ?_⟩
  · rintro i c H' hc ⟨e1, hd⟩
    have hm : z.cps.toList[i]? = some c := by rw [Array.getElem?_toList]; exact hc
    have hin : c ∈ z.cps.toList := List.mem_of_getElem? hm
    have hlen : ((z.cps.toList.take i).filter f).length ≤ 1000 := by
      have a := List.length_filter_le f (z.cps.toList.take i)
      have b := List.length_take_le' i z.cps.toList
      have d : z.cps.toList.length = z.length := Array.length_toList
      omega
    refine ⟨hw _, ht c H' hin (e0.tr e1) _ fun H2 e2 => ?_⟩
    rw [List.take_add_one, hm]
    cases hf : f c with
    | true =>
      refine iteT (he c H2 hin ((e0.tr e1).tr e2) hf _ fun H3 e3 => ⟨_, e3 _ _ (e2 _ _ hd), ?_, ?_⟩)
      · rw [List.length_map]; exact small1000 hlen
      · refine ⟨?_, ?_⟩
        · exact Evl.Ex.mut ((e1.tr e2).tr e3) hD
        · rw [upd_same, List.filter_append, List.map_append]
          simp [hf]
    | false =>
      refine iteF ⟨e1.tr e2, ?_⟩
      rw [List.filter_append, e2 _ _ hd]
      simp [hf]
  · rintro H' ⟨e1, hd⟩
    have e : z.cps.toList.take z.cps.size = z.cps.toList := List.take_of_length_le (by rw [Array.length_toList] <;> exact Nat.le_refl _)
    rw [e] at hd
    exact k D H' (e0.free hD) hd (e0.tr e1)
/-- all signs of the one are signs of the other -/
def only (s t : Str) : Bool := s.cps.toList.all fun c => decide (c ∈ t.cps.toList)
theorem all_only (l : List Nat) (p : Nat → Bool) : (l.map p).all id = l.all p := by
  induction l with
  | nil => rfl
  | cons a l ih => rw [List.map_cons, List.all_cons, List.all_cons, ih] <;> rfl
theorem filter_not_nil (l : List Nat) (p : Nat → Bool) : (l.filter fun c => !p c).isEmpty = l.all p := by
  induction l with
  | nil => rfl
  | cons a l ih =>
    rw [List.filter_cons, List.all_cons]
    cases h : p a with
    | true => simp [ih]
    | false => simp
/-- a list of texts of one sign, as data -/
theorem dp_signs {K : PySem.W.Frag} {H : Hp} : ∀ l : List Nat, DpAll K H (l.map fun c => V.str ⟨#[c]⟩) (l.map fun c => PyData.str ⟨#[c]⟩)
  | [] => .nil
  | c :: l => .cons (.str _) (dp_signs l)
/-- is it a whole number from lo to hi -/
def whole (v : V) (lo hi : Int) : Bool := match v with
  | .int i => decide (lo ≤ i) && decide (i ≤ hi)
  | _ => false
/-- is it a text of one to m signs, all of them of t -/
def lettersOf (v : V) (m : Int) (t : Str) : Bool := match v with
  | .str s => decide (1 ≤ (s.length : Int)) && decide ((s.length : Int) ≤ m) && only s t
  | _ => false
abbrev SMALL : Str := "abcdefghijklmnopqrstuvwxyz"
theorem shaped_signs {l : List Nat} (h : ∀ c ∈ l, c < 128) : SeqAt.shaped (.list (l.map fun c => PyData.str ⟨#[c]⟩)) = true := by
  have a : ∀ l : List Nat, (∀ c ∈ l, c < 128) → PyData.canLayAll0 (l.map fun c => PyData.str ⟨#[c]⟩) = true ∧ PyData.depthAll (l.map fun c => PyData.str ⟨#[c]⟩) ≤ 1 := by
    intro l
    induction l with
    | nil => intro _; exact ⟨rfl, by simp [PyData.depthAll]⟩
    | cons c l ih =>
      intro h
      obtain ⟨h1, h2⟩ := ih fun d hd => h d (List.mem_cons_of_mem _ hd)
      have hc := h c List.mem_cons_self
      refine ⟨?_, ?_⟩
      · simp only [List.map_cons, PyData.canLayAll0, PyData.canLay0, h1, Bool.and_true]
        have e : PyData.strOk ⟨#[c]⟩ = true := by simp [PyData.strOk]; omega
        exact e
      · simp only [List.map_cons, PyData.depthAll, PyData.depth]; exact Nat.max_le.mpr ⟨by omega, h2⟩
  obtain ⟨h1, h2⟩ := a l h
  simp only [SeqAt.shaped, PyData.canLay0, PyData.depth, h1, Bool.true_and, decide_eq_true_eq]
  exact decide_eq_true (Nat.le_trans (Nat.succ_le_succ h2) (by decide : 2 ≤ 64))

/-! ## more -/
theorem Ex.get {H H' : Hp} {a : Addr} {o : HO} (e : Ex H H') (h : H a = some o) : H' a = some o := e a o h
theorem Fb.get {b : Addr} {H H' : Hp} {a : Addr} {o : HO} (e : Fb b H H') (h : H a = some o) (n : a ≠ b) : H' a = some o := e a o h n
theorem BoxAt.ne {H : Hp} {b p : Addr} {n : Nat} (h : BoxAt H b n) (hp : H p = none) : p ≠ b := by
  obtain ⟨x, y, z, h, _⟩ := h
  exact fun e => by rw [e, h] at hp; cases hp
theorem q_ixM {K : PySem.W.Frag} {H : Hp} {Q : VK} {p : Addr} {xs : List V} {i : Int} (h : SqL K H p xs) (h0 : 0 ≤ i) (h1 : i < xs.length) (k : ∀ v, v ∈ xs → Q v H) : rIx K (.ref p) (.int i) H Q := by
  obtain ⟨v, e, m, _⟩ := at_mem h0 h1
  exact q_ixL h e (k v m)
def vIsInt : V → Bool
  | .int _ => true
  | _ => false
theorem int_mem {xs : List V} {v : V} (m : v ∈ xs) (h : xs.all vIsInt = true) : ∃ i, v = .int i := by
  have := List.all_eq_true.mp h v m
  cases v with
  | int i => exact ⟨i, rfl⟩
  | _ => cases this
theorem q_dnewK {σ : L2.St} {H : Hp} {Q : VK} (k : ∀ p H', H p = none → H' p = some (.dK []) → Ex H H' → Q (.ref p) H') : tDNewK σ H Q := fun p h => k p _ h upd_same (Ex.new h)
theorem q_disp1 {σ : L2.St} {H : Hp} {Q : VK} {x : Str} {v : V} (k : ∀ p H', H p = none → H' p = some (.dK [(Sum.inr x, v)]) → Ex H H' → Q (.ref p) H') : tDisp [(tC (.str x), tC v)] σ H Q := fun p h =>
  ⟨upd_same, [(Sum.inr x, v)], rfl, Nat.le_of_ble_eq_true rfl, k p _ h (by rw [upd_same]; rfl) (by rw [upd_upd]; exact Ex.new h)⟩
theorem q_m1 {r : V → List V → Hp → VK → Prop} {ta tb : TE} {σ : L2.St} {H : Hp} {Q : VK} (k : ta σ H fun x H1 => (∃ a, x = .str a) ∧ tb σ H1 fun y H2 => r x [y] H2 Q) : tM1 r ta tb σ H Q := k
theorem q_m0 {r : V → List V → Hp → VK → Prop} {ta : TE} {σ : L2.St} {H : Hp} {Q : VK} (k : ta σ H fun x H1 => (∃ a, x = .str a) ∧ r x [] H1 Q) : tM0 r ta σ H Q := k

/-! ## texts -/
theorem Tn.mono {m n : Nat} {s : Str} (h : Tn m s) (l : m ≤ n) : Tn n s := ⟨Nat.le_trans h.1 l, h.2⟩
theorem Tn.app {m n : Nat} {s t : Str} (h : Tn m s) (h' : Tn n t) : Tn (m + n) (s ++ t) := by
  refine ⟨?_, fun c hc => ?_⟩
  · have a := h.1; have b := h'.1
    rw [TL.len_tl] at a b ⊢
    rw [TL.tl_append, List.length_append]
    omega
  · have e : (s ++ t).cps.toList = s.cps.toList ++ t.cps.toList := TL.tl_append s t
    rw [e] at hc
    rcases List.mem_append.mp hc with z | z
    · exact h.2 c z
    · exact h'.2 c z
theorem Tn.one {c : Nat} (h : c < 128) : Tn 1 ⟨#[c]⟩ := ⟨Nat.le_refl _, fun d hd => by
  have e : d = c := by simpa using hd
  rw [e]; exact h⟩
theorem Tn.cut {n : Nat} {z : Str} (h : Tn n z) (lo hi : Option Int) : Tn n (cutS z lo hi) :=
  ⟨Nat.le_trans (cutS_length z lo hi) h.1, fun c hc => h.2 c (List.mem_of_mem_drop (List.mem_of_mem_take (show c ∈ ((z.cps.toList.drop (HT.sIx z.length 0 lo)).take (HT.sIx z.length z.length hi - HT.sIx z.length 0 lo)) from by simpa [cutS] using hc)))⟩
/-- the text of these signs, one by one joined -/
theorem join_signs : ∀ l : List Nat, TL.tl (Str.join "" (l.map fun c => (⟨#[c]⟩ : Str))) = l
  | [] => rfl
  | [c] => rfl
  | c :: d :: l => by
    have ih := join_signs (d :: l)
    show TL.tl ((⟨#[c]⟩ : Str) ++ ("" : Str) ++ Str.join "" ((d :: l).map fun c => (⟨#[c]⟩ : Str))) = c :: d :: l
    rw [TL.tl_append, TL.tl_append, ih]
    rfl
theorem Tn.signs {l : List Nat} {n : Nat} (h : l.length ≤ n) (hc : ∀ c ∈ l, c < 128) : Tn n (Txt.join "" (l.map fun c => (⟨#[c]⟩ : Str))) := by
  have e : TL.tl (Txt.join "" (l.map fun c => (⟨#[c]⟩ : Str))) = l := by rw [TL.join_eq]; exact join_signs l
  refine ⟨?_, fun c m => hc c (by rw [← e]; exact m)⟩
  rw [TL.len_tl, e]; exact h

/-! ## the rules that speak of the written part, for a comprehension's block too -/
section
variable {X : Cx} (K : PySem.W.Frag) (h : X.K = K)
include h
theorem ix_A : IxR X (rIx K) := h ▸ ix_seq
theorem sl_B : SlR X (rSlA K) := h ▸ sl_A
theorem op_eqB (hu : X.A.units + 64 < cLine) : OpR X (compareOp .Eq) (rEqA K) := h ▸ op_eqA hu
theorem op_neB (hu : X.A.units + 64 < cLine) : OpR X (compareOp .NotEq) (rNeA K) := h ▸ op_neA hu
/-- len -/
def rLen (K : PySem.W.Frag) : List V → Hp → VK → Prop := fun xs H Q => ∃ x n, xs = [x] ∧ LenV K x H n ∧ Q (.int n) H
theorem call_lenB : CallR X (.builtin "len") (rLen K) := h ▸ call_len
theorem call_isiB : CallR X (.builtin "isinstance") (rIsi K) := h ▸ call_isi
theorem call_isiTB : CallR X (.builtin "isinstance") (rIsiT K) := h ▸ call_isiT
theorem op_in_seqB : OpR X (compareOp .In) (rIn K false) := h ▸ op_in_seq
theorem op_notIn_seqB : OpR X (compareOp .NotIn) (rIn K true) := h ▸ op_notIn_seq
end

/-! ## comprehensions over a range, with draws from the box -/
def RngK (g : TG) (tt : TT) (te : TE) (vs : List Nat) (σ : L2.St) (Q : VK) : List V → Hp → Prop := fun us H => tLc (iRng1 (fun _ H Q' => Q' us H)) g tt te vs σ H Q
theorem q_lcR {ta : TA} {g : TG} {tt : TT} {te : TE} {vs : List Nat} {σ : L2.St} {H : Hp} {Q : VK} (k : ta σ H (RngK g tt te vs σ Q)) : tLc (iRng1 ta) g tt te vs σ H Q := k
/-- each turn draws and gives a value of P (no new object's address) -/
theorem q_rngBox {j : Nat} {te : TE} {vs : List Nat} {σ : L2.St} {H : Hp} {Q : VK} {N : Int} (b : Addr) (n m : Nat) (P : V → Prop) (h0 : 0 ≤ N ∧ N ≤ 500) (hB : BoxAt H b n) (hw : ∀ x, wipe ((wipe σ vs).set j (some x)) vs = wipe σ vs)
    (he : ∀ (i : Nat) (H1 : Hp), (i : Int) < N → BoxAt H1 b (n + i * m) → Fb b H H1 → ∀ Q' : VK, (∀ v H2, P v → BoxAt H2 b (n + i * m + m) → Fb b H1 H2 → Q' v H2) → te ((wipe σ vs).set j (some (.int (i : Int)))) H1 Q')
    (k : ∀ p H' xs, H p = none → H' p = some (.lst xs) → xs.length = N.toNat → (∀ v ∈ xs, P v) → BoxAt H' b (n + N.toNat * m) → Fb b H H' → Q (.ref p) H') : RngK (gName j) tYes te vs σ Q [.int N] H := by
  refine ⟨N, rfl, by omega, by omega, fun D hD => lc_range (lo := 0) (n := N.toNat) (fun i H' => ∃ xs, H' D = some (.lst xs) ∧ xs.length = i ∧ (∀ v ∈ xs, P v) ∧ BoxAt H' b (n + i * m) ∧ Fb b H H') ?_ ?_ ?_⟩
  · exact ⟨[], upd_same, rfl, fun v hv => absurd hv (by simp), (by rw [Nat.zero_mul]; exact hB.ex (Ex.new hD)), Fb.new hD⟩
  · rintro i H' hi ⟨xs, hx, hl, hp, B, f⟩
    have nD : D ≠ b := hB.ne hD
    rw [Int.zero_add]
    refine ⟨hw _, ?_⟩
    refine q_yes ?_
    rw [if_pos rfl]
    refine he i H' (by omega) B f _ fun v H4 hv B4 f4 => ⟨xs, f4.get hx nD, small1000 (by omega), xs ++ [v], upd_same, by rw [List.length_append, hl] <;> rfl, ?_, ?_, ?_⟩
    · intro u hu
      rcases List.mem_append.mp hu with z | z
      · exact hp u z
      · rw [List.mem_singleton] at z
        rw [z]; exact hv
    · obtain ⟨x, y, z, h, r⟩ := B4
      refine ⟨x, y, z, by rw [upd_ne nD.symm]; exact h, ?_⟩
      rw [Nat.succ_mul, ← Nat.add_assoc]
      exact r
    · intro a o ha na
      rw [upd_ne (ne_of_none ha hD)]
      exact f4 a o (f a o ha na) na
  · rintro H' ⟨xs, hx, hl, hp, B, f⟩
    exact k D H' xs hD hx hl hp B f
/-- sep.join(a list or tuple of texts) -/
def rJoin (K : PySem.W.Frag) : V → List V → Hp → VK → Prop := fun x xs H Q => ∃ a p, ∃ ys : List Str, x = .str a ∧ xs = [.ref p] ∧ (SqL K H p (ys.map V.str) ∨ SqT K H p (ys.map V.str)) ∧
  (ys.map (·.length)).sum + ys.length * a.length ≤ 16777216 ∧ Q (.str (Txt.join a ys)) H
theorem pe_joinB {X : Cx} {o e : Expr} {to te : TE} {apos pos : Pos} (K : PySem.W.Frag) (h : X.K = K) (ho : PE X o to) (he : PE X e te) (hs : starEach [e] X.env = [(false, eval e X.env)] := by rfl) (hb : attributeBase o "join" X.env (eval o X.env) = eval o X.env := by rfl) (hl : (apos.endLine == pos.line) = true := by rfl) :
    PE X (.Call (.Attribute o "join" apos) [e] [] pos) (tM1 (rJoin K) to te) := h ▸ pe_join ho he hs hb hl
theorem q_joinS {K : PySem.W.Frag} {H : Hp} {Q : VK} {p : Addr} {xs : List V} {n : Nat} (h : H p = some (.lst xs)) (hn : xs.length ≤ n) (hn2 : n ≤ 1000) (hs : ∀ v ∈ xs, ∃ c, c < 128 ∧ v = .str ⟨#[c]⟩)
    (k : ∀ s, Tn n s → s.length = xs.length → Q (.str s) H) : rJoin K (.str "") [.ref p] H Q := by
  have hl : ∀ xs : List V, (∀ v ∈ xs, ∃ c, c < 128 ∧ v = .str ⟨#[c]⟩) → ∃ l : List Nat, xs = (l.map fun c => (⟨#[c]⟩ : Str)).map V.str ∧ ∀ c ∈ l, c < 128 := by
    intro xs
    induction xs with
    | nil => intro _; exact ⟨[], rfl, fun c hc => absurd hc (by simp)⟩
    | cons x xs ih =>
      intro hs
      obtain ⟨l, e, hc⟩ := ih fun v hv => hs v (List.mem_cons_of_mem _ hv)
      obtain ⟨c, hc1, rfl⟩ := hs x List.mem_cons_self
      refine ⟨c :: l, by rw [e] <;> rfl, fun d hd => ?_⟩
      rcases List.mem_cons.mp hd with z | z
      · rw [z]; exact hc1
      · exact hc d z
  obtain ⟨l, e, hc⟩ := hl xs hs
  have hlen : l.length = xs.length := by rw [e, List.length_map, List.length_map]
  have hsum : ((l.map fun c => (⟨#[c]⟩ : Str)).map (·.length)).sum = l.length := by
    clear hc e hlen
    induction l with
    | nil => rfl
    | cons c l ih =>
      rw [List.map_cons, List.map_cons, List.sum_cons, ih, List.length_cons]
      show 1 + l.length = l.length + 1
      omega
  refine ⟨"", p, l.map fun c => (⟨#[c]⟩ : Str), rfl, rfl, .inl (SqL.of (by rw [h, e])), ?_, k _ (Tn.signs (by omega) hc) ?_⟩
  · rw [hsum]
    show l.length + _ * 0 ≤ 16777216
    omega
  · have e2 : TL.tl (Txt.join "" (l.map fun c => (⟨#[c]⟩ : Str))) = l := by rw [TL.join_eq]; exact join_signs l
    rw [TL.len_tl, e2, hlen]
theorem small_add {a b m n : Nat} (h : a ≤ m) (h2 : b ≤ n) (hz : Nat.ble (m + n) 1000 = true) : a + b ≤ sizeLine := Nat.le_of_lt (small1000 (Nat.le_trans (Nat.add_le_add h h2) (Nat.le_of_ble_eq_true hz)))

/-! ## loops -/
def ForRK (g : TG) (tb : TS) (D : Ends) (σ : L2.St) : List V → Hp → Prop := fun us H => tFor (iRng1 (fun _ H Q' => Q' us H)) g tb D σ H
theorem q_forR {ta : TA} {g : TG} {tb : TS} {D : Ends} {σ : L2.St} {H : Hp} (k : ta σ H (ForRK g tb D σ)) : tFor (iRng1 ta) g tb D σ H := k
theorem q_rngFor {j : Nat} {tb : TS} {D : Ends} {σ : L2.St} {H : Hp} {N : Int} (Pv : Nat → L2.St → Hp → Prop) (hN : 0 ≤ N ∧ N ≤ 100000) (h0 : Pv 0 σ H)
    (hs : ∀ (i : Nat) σ' H', (i : Int) < N → Pv i σ' H' → tb { D with nx := Pv (i + 1), ct := Pv (i + 1), bk := D.nx } (σ'.set j (some (.int (i : Int)))) H') (hd : ∀ σ' H', Pv N.toNat σ' H' → D.nx σ' H') : ForRK (gName j) tb D σ [.int N] H := by
  refine ⟨N, rfl, by omega, by omega, for_range (lo := 0) (n := N.toNat) Pv h0 (fun i σ' H' hi p => ?_) hd⟩
  have q := hs i σ' H' (by omega) p
  have e : (0 : Int) + (i : Int) = (i : Int) := Int.zero_add _
  rw [e]
  exact q
def ForLK (K : PySem.W.Frag) (g : TG) (tb : TS) (D : Ends) (σ : L2.St) : V → Hp → Prop := fun v H => tFor (iList K (fun _ H Q' => Q' v H)) g tb D σ H
theorem q_forL {K : PySem.W.Frag} {tl : TE} {g : TG} {tb : TS} {D : Ends} {σ : L2.St} {H : Hp} (k : tl σ H (ForLK K g tb D σ)) : tFor (iList K tl) g tb D σ H := k
theorem q_listFor {K : PySem.W.Frag} {g : TG} {tb : TS} {D : Ends} {σ : L2.St} {H : Hp} {a : Addr} {xs : List V} (hx : SqL K H a xs) (Pv : Nat → L2.St → Hp → Prop) (h0 : Pv 0 σ H) (hl : ∀ i σ' H', Pv i σ' H' → SqL K H' a xs)
    (hs : ∀ (i : Nat) x σ' H', xs[i]? = some x → Pv i σ' H' → g x σ' H' fun σ2 H2 => tb { D with nx := Pv (i + 1), ct := Pv (i + 1), bk := D.nx } σ2 H2) (hd : ∀ σ' H', Pv xs.length σ' H' → D.nx σ' H') : ForLK K g tb D σ (.ref a) H :=
  ⟨a, rfl, ⟨xs, hx⟩, for_list (xs := xs) Pv h0 (fun i σ' H' _ p => hl i σ' H' p) hs hd⟩
theorem q_lenS {K : PySem.W.Frag} {H : Hp} {Q : VK} {z : Str} (h : z.length ≤ sizeLine) (k : Q (.int z.length) H) : rLen K [.str z] H Q := ⟨_, z.length, rfl, ⟨h, rfl⟩, k⟩
theorem q_lenL {K : PySem.W.Frag} {H : Hp} {Q : VK} {p : Addr} {xs : List V} (h : SqL K H p xs) (k : Q (.int xs.length) H) : rLen K [.ref p] H Q := ⟨_, xs.length, rfl, .inl ⟨xs, h, rfl⟩, k⟩
theorem q_lenT {K : PySem.W.Frag} {H : Hp} {Q : VK} {p : Addr} {xs : List V} (h : SqT K H p xs) (k : Q (.int xs.length) H) : rLen K [.ref p] H Q := ⟨_, xs.length, rfl, .inr ⟨xs, h, rfl⟩, k⟩
theorem iteNe {α : Type} [DecidableEq α] {x : α} {A B : Prop} (k : B) : if (!decide (x = x)) = true then A else B := iteNS rfl k

theorem BoxAt.neT {H : Hp} {b p : Addr} {n : Nat} {xs : List V} (h : BoxAt H b n) (hp : H p = some (.tup xs)) : p ≠ b := by
  obtain ⟨x, y, z, h, _⟩ := h
  exact ne_of hp h (fun e => by cases e)
theorem Fb.thing {b : Addr} {H H' : Hp} {v : V} {n : Nat} (f : Fb b H H') (h : Thing H v) (n : v ≠ .ref b) : Thing H' v := by
  cases h with
  | non => exact .non
  | bl b => exact .bl b
  | int i => exact .int i
  | str s h => exact .str s h
  | lst p xs h => exact .lst p xs (f _ _ h fun e => n (by rw [e]))
  | tup p xs h => exact .tup p xs (f _ _ h fun e => n (by rw [e]))
  | dK p xs h => exact .dK p xs (f _ _ h fun e => n (by rw [e]))

/-! ## str(..), int(..), index; numbers as texts -/
section
variable {X : Cx}
def rStrA : List V → Hp → VK → Prop := fun xs H Q => (∃ i, xs = [.int i] ∧ i.natAbs.log2 < 1920 ∧ Q (.str (toString i)) H) ∨ ∃ a, xs = [.str a] ∧ Q (.str a) H
theorem call_strA : CallR X (.type "str") rStrA := by
  intro pins s σ H xs us Q I r h
  rcases h with h | ⟨a, rfl, q⟩
  · exact call_str_int pins s σ H xs us Q I r h
  · obtain ⟨u, rfl, t, rfl⟩ := vals1 r
    exact PySem.P.str_of_str ⟨.str a, H, I, ⟨t, rfl⟩, q⟩
theorem q_strI {H : Hp} {Q : VK} {i : Int} (h : i.natAbs.log2 < 1920) (k : Q (.str (toString i)) H) : rStrA [.int i] H Q := .inl ⟨i, rfl, h, k⟩
theorem q_strS {H : Hp} {Q : VK} {a : Str} (k : Q (.str a) H) : rStrA [.str a] H Q := .inr ⟨a, rfl, k⟩
abbrev FIG : Str := "0123456789"
theorem fig_index : ∀ d : Fin 10, Builtin.Str.occurrences FIG ⟨#[48 + d.val]⟩ 0 FIG.length 1 = [d.val] := by decide +kernel
/-- '0123456789'.index(sign) -/
def rFig : V → List V → Hp → VK → Prop := fun x xs H Q => ∃ c : Nat, x = .str FIG ∧ xs = [.str ⟨#[c]⟩] ∧ 48 ≤ c ∧ c ≤ 57 ∧ Q (.int ((c - 48 : Nat) : Int)) H
theorem mt_fig : MtR X "str.index" rFig := by
  intro pins s σ H x xs v us Q I rx rs h
  obtain ⟨c, rfl, rfl, h1, h2, q⟩ := h
  have e := fig_index ⟨c - 48, by omega⟩
  rw [show 48 + (⟨c - 48, by omega⟩ : Fin 10).val = c by show 48 + (c - 48) = c; omega] at e
  exact mt_sindex pins s σ H _ _ v us Q I rx rs ⟨_, _, _, _, rfl, rfl, e, q⟩
theorem pe_sindex {o e : Expr} {to te : TE} {apos pos : Pos} (ho : PE X o to) (he : PE X e te) (hs : starEach [e] X.env = [(false, eval e X.env)] := by rfl) (hb : attributeBase o "index" X.env (eval o X.env) = eval o X.env := by rfl) (hl : (apos.endLine == pos.line) = true := by rfl) :
    PE X (.Call (.Attribute o "index" apos) [e] [] pos) (tM1 rFig to te) := pe_m1 PySem.F.slot_str_index PySem.F.type_str_index mt_fig ho he hs hb hl
theorem q_fig {H : Hp} {Q : VK} {c : Nat} (h1 : 48 ≤ c) (h2 : c ≤ 57) (k : Q (.int ((c - 48 : Nat) : Int)) H) : rFig (.str FIG) [.str ⟨#[c]⟩] H Q := ⟨c, rfl, rfl, h1, h2, k⟩
end
def isFig (c : Nat) : Bool := decide (48 ≤ c) && decide (c ≤ 57)
theorem fig_mem (c : Nat) : decide (c ∈ FIG.cps.toList) = isFig c := by
  have e : FIG.cps.toList = [48, 49, 50, 51, 52, 53, 54, 55, 56, 57] := by decide +kernel
  rw [e]
  unfold isFig
  rw [← Bool.decide_and]
  apply decide_eq_decide.mpr
  simp only [List.mem_cons, List.not_mem_nil, or_false]
  omega
/-- the figures of a number, plainly written -/
def plainL (l : List Nat) : Bool := !l.isEmpty && l.all isFig && (decide (l = [48]) || !decide (l.head? = some 48))
abbrev val (l : List Nat) : Nat := PySem.NumText.digitsVal l
theorem val_lt : ∀ l : List Nat, l.all isFig = true → val l < 10 ^ l.length := by
  intro l
  have : ∀ (n : Nat) (l : List Nat), l.length = n → l.all isFig = true → val l < 10 ^ l.length := by
    intro n
    induction n with
    | zero =>
      intro l hl _
      cases l with
      | nil => decide
      | cons a l => simp at hl
    | succ n ih =>
      intro l hl h
      have hne : l ≠ [] := by intro e; rw [e] at hl; simp at hl
      obtain ⟨ini, c, rfl⟩ : ∃ ini c, l = ini ++ [c] := ⟨l.dropLast, l.getLast hne, (List.dropLast_concat_getLast hne).symm⟩
      rw [List.all_append, Bool.and_eq_true] at h
      have hi := ih ini (by rw [List.length_append, List.length_singleton] at hl; omega) h.1
      have hc : 48 ≤ c ∧ c ≤ 57 := by simpa [isFig] using h.2
      show PySem.NumText.digitsVal (ini ++ [c]) < _
      rw [PySem.NumText.digitsVal_snoc, List.length_append, List.length_singleton, Nat.pow_succ]
      have : PySem.NumText.digitsVal ini < 10 ^ ini.length := hi
      omega
  exact this l.length l rfl
/-- the text of a whole number from 0 on -/
theorem num_tl (n : Nat) : TL.tl (Str.ofString (toString ((n : Nat) : Int))) = (Nat.toDigits 10 n).map Char.toNat := TL.tl_num n
theorem val_num (n : Nat) : val ((Nat.toDigits 10 n).map Char.toNat) = n := PySem.W.KIN.val_back n

theorem str_eq_iff {s t : Str} : s = t ↔ s.cps.toList = t.cps.toList := ⟨fun h => by rw [h], fun h => TL.ext_tl h⟩
theorem only_fig (s : Str) : only s FIG = s.cps.toList.all isFig := by
  unfold only
  congr 1
  funext c
  exact fig_mem c
theorem str_nil {s : Str} (h : ¬ s = "") : ∃ c r, s.cps.toList = c :: r := by
  cases e : s.cps.toList with
  | nil => exact absurd (str_eq_iff.mpr e) h
  | cons c r => exact ⟨c, r, rfl⟩
theorem sign_eq (c d : Nat) : decide ((⟨#[c]⟩ : Str) = ⟨#[d]⟩) = decide (c = d) := by
  apply decide_eq_decide.mpr
  constructor
  · intro h
    have := str_eq_iff.mp h
    simpa using this
  · intro h; rw [h]
/-- what a thing writes, between lo and hi -/
def readV (v : V) (lo hi : Int) : V := match v with
  | .str s => if plainL s.cps.toList = true ∧ lo ≤ (val s.cps.toList : Int) ∧ (val s.cps.toList : Int) ≤ hi then .int (val s.cps.toList : Int) else .non
  | _ => .non

theorem digit_fig : ∀ d : Nat, d < 10 → isFig (Nat.digitChar d).toNat = true := by decide
theorem figs_num (m : Nat) : (TL.tl (Str.ofString (toString ((m : Nat) : Int)))).all isFig = true := by
  rw [num_tl]
  induction m using Nat.strongRecOn with
  | _ m ih =>
    by_cases h : m < 10
    · rw [Nat.toDigits_of_lt_base h]
      simp [digit_fig m h]
    · have hm : m % 10 < 10 := Nat.mod_lt m (by decide)
      have t : Nat.toDigits 10 (m / 10) ++ Nat.toDigits 10 (m % 10) = Nat.toDigits 10 (10 * (m / 10) + m % 10) := Nat.toDigits_append_toDigits (by decide) (by omega) hm
      rw [Nat.div_add_mod] at t
      rw [← t, List.map_append, Nat.toDigits_of_lt_base hm, List.all_append, ih (m / 10) (by omega)]
      simp [digit_fig (m % 10) hm]

theorem at_head {l r : List Nat} {c : Nat} (h : l = c :: r) : atI l 0 = some c := atI_nat (j := 0) (by rw [h]; rfl)
theorem plain_cons {l r : List Nat} {c : Nat} (h : l = c :: r) (ha : l.all isFig = true) (h3 : ¬ l = [48]) : plainL l = !decide (c = 48) := by
  unfold plainL
  rw [ha, decide_eq_false h3, h]
  simp

def ForSK (g : TG) (tb : TS) (D : Ends) (σ : L2.St) : V → Hp → Prop := fun v H => tFor (iStr (fun _ H Q' => Q' v H)) g tb D σ H
theorem q_forS {tl : TE} {g : TG} {tb : TS} {D : Ends} {σ : L2.St} {H : Hp} (k : tl σ H (ForSK g tb D σ)) : tFor (iStr tl) g tb D σ H := k
theorem q_strFor {j : Nat} {tb : TS} {D : Ends} {σ : L2.St} {H : Hp} {z : Str} (Pv : Nat → L2.St → Hp → Prop) (h0 : Pv 0 σ H)
    (hs : ∀ (i c : Nat) σ' H', z.cps.toList[i]? = some c → Pv i σ' H' → tb { D with nx := Pv (i + 1), ct := Pv (i + 1), bk := D.nx } (σ'.set j (some (.str ⟨#[c]⟩))) H') (hd : ∀ σ' H', Pv z.cps.toList.length σ' H' → D.nx σ' H') : ForSK (gName j) tb D σ (.str z) H := by
  have hl : z.cps.toList.length = z.cps.size := Array.length_toList
  refine ⟨z, rfl, fun i m σ' H' => i + m = z.cps.size ∧ Pv i σ' H', ⟨z.cps.size, by omega, h0⟩, fun i m σ' H' ⟨hi, p⟩ => ?_⟩
  cases m with
  | zero =>
    obtain rfl : i = z.cps.size := by omega
    rw [← hl] at p
    exact .inl ⟨Nat.le_refl _, hd σ' H' p⟩
  | succ m =>
    refine .inr ⟨(by show i < z.cps.size; omega), Pv (i + 1), fun σ2 H2 p' => ⟨m, Nat.lt_succ_self m, by omega, p'⟩, ?_⟩
    rintro x H2 ⟨rfl, c, hc, rfl⟩
    exact hs i c _ _ (by rw [Array.getElem?_toList]; exact hc) p

/-- the signs that a law bends texts by -/
abbrev SIGNS : Str := " !\"#$&'()*+,-./0123456789:;<=>?@ABCDEFGHIJKLMNOPQRSTUVWXYZ[\\]^_`abcdefghijklmnopqrstuvwxyz{|}~\n"
theorem signs_ok : ∀ c ∈ SIGNS.cps.toList, c < 128 := by decide +kernel
theorem signs_len : SIGNS.length = 95 := by decide +kernel
theorem q_signs {K : PySem.W.Frag} {H : Hp} {Q : VK} {i : Int} (h0 : 0 ≤ i) (h1 : i < SIGNS.length) (k : ∀ c, c < 128 → Q (.str ⟨#[c]⟩) H) : rIx K (.str SIGNS) (.int i) H Q := by
  obtain ⟨c, e, m, _⟩ := at_mem (xs := SIGNS.cps.toList) h0 (by rw [← TL.len_tl]; exact h1)
  exact q_ixS (by rw [signs_len]; exact Nat.le_of_lt (small1000 (by decide))) e (k c (signs_ok c m))

theorem num_Tn {n k : Nat} (hk : 1 ≤ k) (h : n < 10 ^ k) : Tn k (Str.ofString (toString ((n : Nat) : Int))) := by
  refine ⟨?_, fun c hc => ?_⟩
  · rw [TL.len_tl, num_tl, List.length_map]
    exact PySem.toDigits_len_pow (by decide) hk h
  · have := List.all_eq_true.mp (figs_num n) c hc
    simp [isFig] at this
    omega
theorem log_small {i : Int} (h0 : 0 ≤ i) (h : i < 1000000000000000000000000000000) : i.natAbs.log2 < 1920 := by
  obtain ⟨n, rfl⟩ := Int.eq_ofNat_of_zero_le h0
  show n.log2 < 1920
  by_cases hz : n = 0
  · subst hz; decide
  · exact (Nat.log2_lt hz).mpr (Nat.lt_trans (show n < 10 ^ 30 by omega) (by decide +kernel))
end Z

namespace My
open PySem PySem.Spec PyProof.Rows L2 Z
def topS (i : Nat) : Stmt := PySem.Challenge.pw_shelvesmoved_k02_numbers_read.main.body.getD i (.Pass ⟨0, 0, 0, 0⟩)
end My
namespace My
open PySem PySem.Spec PyProof.Rows L2 Z
local macro_rules | `(tactic| walk_at "z") => `(tactic| with_reducible first
  | refine Z.q_var (by with_unfolding_all rfl) ?_
  | refine Z.q_c ?_
  | refine Z.q_op ?_
  | refine Z.q_cons ?_
  | refine Z.q_nil ?_
  | refine Z.q_seq ?_
  | refine Z.q_asg ?_
  | refine Z.q_ret ?_
  | refine Z.q_ifS ?_
  | refine Z.q_test ?_
  | refine Z.q_I0 ?_
  | refine Z.q_addI ?_
  | refine Z.q_call ?_
  | refine Z.q_CB ?_
  | refine Z.q_tup ?_
  | refine Z.q_lst ?_
  | refine Z.q_ixL (SqL.of (by assumption)) (by with_unfolding_all rfl) ?_
  | refine Z.q_modP (by omega) ?_
  | refine Z.q_divP (by omega) (by omega) ?_
  | refine Z.q_mulI (by omega) ?_
  | (refine Z.q_powE (by omega) (by omega) (by omega) ?_; intro v hv; simp only [Int.reduceToNat, Int.reducePow] at hv)
  | refine Z.q_un ?_
  | refine Z.q_U ?_
  | refine Z.q_B ?_
  | refine Z.q_andV ?_
  | refine Z.q_orV ?_
  | refine Z.q_notV ?_
  | refine Z.q_if ?_
  | refine Z.q_and ?_
  | refine Z.q_or ?_
  | refine Z.q_not ?_
  | refine Z.q_chain ?_
  | refine Z.q_sl ?_
  | refine Z.q_noPart ?_
  | refine Z.q_part ?_
  | refine Z.q_drop ?_
  | refine Z.q_next ?_
  | refine Z.q_cont ?_
  | refine Z.q_retN ?_
  | refine Z.q_asgG ?_
  | refine Z.q_gSub ?_
  | refine Z.q_gName ?_
  | refine Z.q_yes ?_
  | refine Z.q_gNil ?_
  | refine Z.q_gCons ?_
  | refine Z.q_eqI ?_
  | refine Z.q_neI ?_
  | refine Z.q_eqS ?_
  | refine Z.q_neS ?_
  | refine Z.q_isBA ?_
  | refine Z.q_reprB ?_
  | refine iteT ?_
  | refine iteF ?_
  | refine Z.q_m1 ?_
  | refine Z.q_lcR ?_
  | refine Z.q_m0 ?_
  | refine And.intro (Exists.intro _ rfl) ?_
  | refine Exists.intro _ (And.intro rfl ?_)
  | refine Z.q_forR ?_
  | refine Z.q_forL ?_
  | refine Z.q_forS ?_
  | refine Z.iteNe ?_
  | refine Exists.intro _ (Exists.intro _ (And.intro rfl ?_))
  | refine Z.iteR (by with_unfolding_all rfl) ?_
  | refine Z.iteL (by with_unfolding_all rfl) ?_)
local macro_rules | `(tactic| walk_at "zz") => `(tactic| repeat walk_at "z")
local macro_rules | `(tactic| walk_at "cr") => `(tactic| with_reducible repeat first | assumption | refine Z.Ex.get (by assumption) ?_ | refine Z.Fb.get (by assumption) ?_ (by assumption))
section
variable {P : Program} {w : World} {K : PySem.W.Frag} {mg : Str → Option Value} {base : Heap}
abbrev s_has_only : Stmt := topS 4
theorem sc_has_only : FnScope ["text", "signs", "sign"] ["text", "signs"] (defScope s_has_only) := ⟨rfl, rfl, rfl, by decide +kernel, rfl, by decide +kernel, by decide +kernel⟩
def sp_has_only (K : PySem.W.Frag) : Sp := fun vs H Q _ => ∃ (s t : Str), vs = [.str s, .str t] ∧ s.length ≤ 1000 ∧ ∀ H', Ex H H' → Q (.bl (only s t)) H'
theorem kn_has_only (F : Df K mg "has_only" s_has_only ["text", "signs"])
    (m_all : mg "all" = none) : Kn P w K mg base 1 "has_only" (sp_has_only K) := by
  refine kn_of F sc_has_only (fun vs H Q E h => ?_) (fun f cdv A outer s H vs Q E hr h => ?_)
  · obtain ⟨s, t, rfl, _⟩ := h
    rfl
  · obtain ⟨s, t, rfl, hs, k⟩ := h
    refine ⟨_, (pss_one (ps_ret (pe_callB (cr_all rfl) (by rfl) m_all (by decide +kernel) (pa_cons (pe_lc (own := [("sign", 2)]) (g := gName 2) (by rfl) sc_has_only.nd (pi_str (pv 0)) (blkOk_by (own := [("sign", 2)]) (N := ["text", "signs", "sign"]) (sc := defScope s_has_only) (by decide +kernel)) (fun _ _ _ _ _ => pg_name (i := 2) sc_has_only.nd rfl (Or.inl rfl)) (fun _ _ _ _ _ => pts_nil) (fun _ _ _ _ _ => (pe_cmpR op_in_sign (pv 2) (pv 1) (by rfl)))) pa_nil)))), ?_⟩
    walk_at "zz"
    refine q_lcS (z := s) (fun _ => true) (fun c => .bl (decide (c ∈ t.cps.toList))) (Evl.ev_var rfl) hs (fun _ => rfl) ?_ ?_ ?_
    · intro c H1 hc e QB q
      exact q H1 Ex.rfl
    · intro c H1 hc e _ Q' q
      walk_at "zz"
      exact ⟨c, t, rfl, rfl, q H1 Ex.rfl⟩
    · intro p H1 hp h1 e1
      walk_at "zz"
      rw [List.filter_eq_self.mpr (fun _ _ => rfl)] at h1
      refine ⟨p, s.cps.toList.map fun c => decide (c ∈ t.cps.toList), rfl, SqL.of (by rw [h1, List.map_map] <;> rfl), ?_⟩
      rw [all_only]
      exact k H1 e1
abbrev s__law_cell : Stmt := topS 6
theorem sc__law_cell : FnScope ["script", "k"] ["script", "k"] (defScope s__law_cell) := ⟨rfl, rfl, rfl, by decide +kernel, rfl, by decide +kernel, by decide +kernel⟩
def sp__law_cell (K : PySem.W.Frag) : Sp := fun vs H Q _ => ∃ (a : Addr) (k : Nat) (ns : List Int), vs = [.ref a, .int k] ∧ SqL K H a (ns.map V.int) ∧ k ≤ 1000 ∧ ∀ i, Q (.int i) H
theorem kn__law_cell (F : Df K mg "_law_cell" s__law_cell ["script", "k"])
    (m_len : mg "len" = none) : Kn P w K mg base 1 "_law_cell" (sp__law_cell K) := by
  refine kn_of F sc__law_cell (fun vs H Q E h => ?_) (fun f cdv A outer s H vs Q E hr h => ?_)
  · obtain ⟨a, k, ns, rfl, _⟩ := h
    rfl
  · obtain ⟨a, k, ns, rfl, hS, hk, q⟩ := h
    refine ⟨_, (pss_cons (ps_if (pt_cmpR op_lt (pv 1) (pe_callB (Z.call_lenB K rfl) (by rfl) m_len (by decide +kernel) (pa_cons (pv 0) pa_nil)) (nomark _)) (pss_one (ps_ret (pe_ix (Z.ix_A K rfl) (pv 0) (pv 1) (fun _ _ => rfl)))) pss_nil)
      (pss_one (ps_ret (pe_op Z.op_addA (pe_op Z.op_mulA pe_int (pv 1)) pe_int)))), ?_⟩
    walk_at "zz"
    refine ⟨_, _, rfl, .inl ⟨_, hS, rfl⟩, ?_⟩
    walk_at "zz"
    refine iteD (fun hlt => ?_) (fun hlt => ?_)
    · walk_at "zz"
      obtain ⟨v, e, hm, _⟩ := at_mem (xs := ns.map V.int) (i := (k : Int)) (by omega) hlt
      obtain ⟨i, _, rfl⟩ := List.mem_map.mp hm
      refine q_ixL hS e ?_
      exact q _
    · walk_at "zz"
      exact q _
abbrev s__law_box : Stmt := topS 7
theorem sc__law_box : FnScope ["cell"] ["cell"] (defScope s__law_box) := ⟨rfl, rfl, rfl, by decide +kernel, rfl, by decide +kernel, by decide +kernel⟩
def sp__law_box (K : PySem.W.Frag) : Sp := fun vs H Q _ => ∃ (c : Int), vs = [.int c] ∧ ∀ b H', H b = none → BoxAt H' b 0 → Ex H H' → Q (.ref b) H'
theorem kn__law_box (F : Df K mg "_law_box" s__law_box ["cell"])
    (m_max : mg "max" = none) : Kn P w K mg base 1 "_law_box" (sp__law_box K) := by
  refine kn_of F sc__law_box (fun vs H Q E h => ?_) (fun f cdv A outer s H vs Q E hr h => ?_)
  · obtain ⟨c, rfl, _⟩ := h
    rfl
  · obtain ⟨c, rfl, k⟩ := h
    refine ⟨_, (pss_one (ps_ret (pe_lst (pa_cons (pe_callB (call_max2 rfl) (by rfl) m_max (by decide +kernel) (pa_cons pe_int (pa_cons (pe_op op_sub (pv 0) (pe_op op_pow pe_int pe_int)) pa_nil))) (pa_cons (pe_op op_modN (pv 0) pe_int) (pa_cons pe_int pa_nil)))))), ?_⟩
    walk_at "zz"
    refine q_newL fun p H1 hp h1 e1 => ?_
    refine k _ _ hp ⟨_, _, _, h1, ?_, Int.emod_nonneg _ (by decide), Int.emod_lt_of_pos _ (by decide), by decide, by decide⟩ e1
    split <;> omega
abbrev s__law_take : Stmt := topS 8
theorem sc__law_take : FnScope ["box", "many", "digit", "number"] ["box", "many"] (defScope s__law_take) := ⟨rfl, rfl, rfl, by decide +kernel, rfl, by decide +kernel, by decide +kernel⟩
def sp__law_take (K : PySem.W.Frag) : Sp := fun vs H Q _ => ∃ (b : Addr) (n : Nat) (m : Int), vs = [.ref b, .int m] ∧ BoxAt H b n ∧ n ≤ 100000 ∧ 0 < m ∧ m < 1073741824 ∧ ∀ d H', 0 ≤ d → d < m → BoxAt H' b (n + 1) → Fb b H H' → Q (.int d) H'
theorem kn__law_take (F : Df K mg "_law_take" s__law_take ["box", "many"])
     : Kn P w K mg base 1 "_law_take" (sp__law_take K) := by
  refine kn_of F sc__law_take (fun vs H Q E h => ?_) (fun f cdv A outer s H vs Q E hr h => ?_)
  · obtain ⟨b, n, m, rfl, _⟩ := h
    rfl
  · obtain ⟨b, n, m, rfl, hB, hn, hm, hm2, k⟩ := h
    refine ⟨_, (pss_cons (ps_if (pt_cmpR op_gt (pe_ix (Z.ix_A K rfl) (pv 0) pe_int (fun _ _ => rfl)) pe_int (nomark _)) (pss_cons (ps_set (i := 2) sc__law_take.nd rfl (Or.inl rfl) (pe_op op_modN (pe_ix (Z.ix_A K rfl) (pv 0) pe_int (fun _ _ => rfl)) (pv 1)))
      (pss_cons (ps_asg (pe_op op_fdivN (pe_ix (Z.ix_A K rfl) (pv 0) pe_int (fun _ _ => rfl)) (pv 1)) (pg_sub (pv 0) pe_int set_list))
      (pss_one (ps_ret (pv 2))))) pss_nil)
      (pss_cons (ps_asg (pe_op Z.op_addA (pe_ix (Z.ix_A K rfl) (pv 0) pe_int (fun _ _ => rfl)) pe_int) (pg_sub (pv 0) pe_int set_list))
      (pss_cons (ps_set (i := 3) sc__law_take.nd rfl (Or.inl rfl) (pe_op op_modN (pe_op op_pow (pe_op Z.op_addA (pe_op Z.op_addA (pe_ix (Z.ix_A K rfl) (pv 0) pe_int (fun _ _ => rfl)) (pe_op Z.op_mulA pe_int (pe_ix (Z.ix_A K rfl) (pv 0) pe_int (fun _ _ => rfl)))) pe_int) pe_int) pe_int))
      (pss_cons (ps_set (i := 3) sc__law_take.nd rfl (Or.inl rfl) (pe_op op_modN (pe_op op_pow (pe_op Z.op_addA (pv 3) (pe_op Z.op_mulA pe_int (pe_ix (Z.ix_A K rfl) (pv 0) pe_int (fun _ _ => rfl)))) pe_int) pe_int))
      (pss_one (ps_ret (pe_op op_modN (pe_op op_fdivN (pv 3) pe_int) (pv 1)))))))), ?_⟩
    obtain ⟨x, y, z, hB, hx, hy, hy2, hz, hz2⟩ := hB
    walk_at "zz"
    refine iteD (fun hx0 => ?_) (fun hx0 => ?_)
    · walk_at "zz"
      refine q_setL hB (j := 0) rfl fun H1 h1 f1 => ?_
      walk_at "zz"
      refine k _ _ (Int.emod_nonneg _ (by omega)) (Int.emod_lt_of_pos _ hm) ⟨x / m, y, z, h1, Int.ediv_nonneg hx (by omega), hy, hy2, hz, by omega⟩ f1
    · walk_at "zz"
      refine q_setL hB (j := 2) rfl fun H1 h1 f1 => ?_
      simp only [List.set] at h1
      walk_at "zz"
      exact k _ _ (Int.emod_nonneg _ (by omega)) (Int.emod_lt_of_pos _ hm) ⟨x, y, z + 1, h1, hx, hy, hy2, by omega, by omega⟩ f1
abbrev s__law_read : Stmt := topS 12
theorem sc__law_read : FnScope ["thing", "low", "high", "number", "sign"] ["thing", "low", "high"] (defScope s__law_read) := ⟨rfl, rfl, rfl, by decide +kernel, rfl, by decide +kernel, by decide +kernel⟩
def sp__law_read (K : PySem.W.Frag) : Sp := fun vs H Q _ => ∃ (v : V) (lo hi : Int), vs = [v, .int lo, .int hi] ∧ Thing H v ∧ Q (readV v lo hi) H
theorem kn__law_read (F : Df K mg "_law_read" s__law_read ["thing", "low", "high"])
    (m_len : mg "len" = none)
    (m_isinstance : mg "isinstance" = none)
    (m_str : mg "str" = none) : Kn P w K mg base 1 "_law_read" (sp__law_read K) := by
  refine kn_of F sc__law_read (fun vs H Q E h => ?_) (fun f cdv A outer s H vs Q E hr h => ?_)
  · obtain ⟨v, lo, hi, rfl, _⟩ := h
    rfl
  · obtain ⟨v, lo, hi, rfl, hv, k⟩ := h
    refine ⟨_, (pss_cons (ps_if (PW.pt (pw_or (pt_not (pt_val (pe_callB (Z.call_isiB K rfl) (by rfl) m_isinstance (by decide +kernel) (pa_cons (pv 0) (pa_cons (pe_bltn (v := .ty "str") (by rfl) m_str (by decide +kernel) rfl) pa_nil))))) (pw_or (pt_cmpR (Z.op_eqB K rfl hr.units) (pv 0) pe_str (nomark _)) (pw_or1 (PW.pt (pw_and (pt_cmpR (Z.op_eqB K rfl hr.units) (pe_ix (Z.ix_A K rfl) (pv 0) pe_int (fun _ _ => rfl)) pe_str (nomark _)) (pw_and1 (pt_cmpR op_gt (pe_callB (Z.call_lenB K rfl) (by rfl) m_len (by decide +kernel) (pa_cons (pv 0) pa_nil)) pe_int (nomark _))))))))) (pss_one (ps_ret pe_non)) pss_nil)
      (pss_cons (ps_set (i := 3) sc__law_read.nd rfl (Or.inl rfl) pe_int)
      (pss_cons (ps_for PassesOwn.never rfl (pi_str (pv 0)) (pg_name (i := 4) sc__law_read.nd rfl (Or.inl rfl)) (pss_cons (ps_if (pt_cmpR op_notIn_sign (pv 4) pe_str (by rfl)) (pss_one (ps_ret pe_non)) pss_nil)
      (pss_one (ps_set (i := 3) sc__law_read.nd rfl (Or.inl rfl) (pe_op Z.op_addA (pe_op Z.op_mulA pe_int (pv 3)) (Z.pe_sindex pe_str (pv 4)))))))
      (pss_one (ps_ret (pe_ifExp (pt_chain op_le op_le (pv 1) (pv 3) (pv 2)) (pv 3) pe_non)))))), ?_⟩
    walk_at "zz"
    refine q_isiStr hv ?_
    cases hv with
    | str s hs =>
      walk_at "zz"
      refine iteD (fun h0 => ?_) (fun h0 => ?_)
      · walk_at "zz"
        rw [show readV (.str s) lo hi = .non by rw [h0]; rfl] at k
        exact k
      · walk_at "zz"
        obtain ⟨c, r, hcr⟩ := str_nil h0
        refine q_ixS hs.sz (at_head hcr) ?_
        walk_at "zz"
        have hsl : s.length = s.cps.toList.length := TL.len_tl s
        have none_if : (¬ plainL s.cps.toList = true) → readV (.str s) lo hi = .non := fun h => if_neg fun z => h z.1
        refine iteD (fun hc => ?_) (fun hc => ?_)
        · have hc48 : c = 48 := (decide_eq_decide.mp (sign_eq c 48)).mp hc
          walk_at "zz"
          refine q_lenS hs.sz ?_
          walk_at "zz"
          refine iteD (fun hl => ?_) (fun hl => ?_)
          · walk_at "zz"
            rw [none_if (by
              rw [hcr, hc48]
              cases r with
              | nil => rw [hsl, hcr] at hl; simp at hl
              | cons d r => simp [plainL])] at k
            exact k
          · have hlead : s.cps.toList.all isFig = true → plainL s.cps.toList = true := fun _ => by
              have : r = [] := by
                cases r with
                | nil => rfl
                | cons d r => rw [hsl, hcr] at hl; simp at hl; omega
              rw [hcr, hc48, this]
              rfl
            walk_at "zz"
            refine q_strFor (z := s) (fun i σ' H' => (∃ w, σ' = [some (.str s), some (.int lo), some (.int hi), some (.int (val (s.cps.toList.take i) : Int)), w]) ∧ (s.cps.toList.take i).all isFig = true ∧ H' = H) ⟨⟨_, rfl⟩, rfl, rfl⟩ ?_ ?_
            · rintro i c2 σ' H' hc2 ⟨⟨w, rfl⟩, hall, rfl⟩
              walk_at "zz"
              refine ⟨c2, FIG, rfl, rfl, _, rfl, ?_⟩
              rw [fig_mem]
              cases hf : isFig c2 with
              | false =>
                walk_at "zz"
                rw [none_if fun z => by
                  simp only [plainL, Bool.and_eq_true] at z
                  have := List.all_eq_true.mp z.1.2 c2 (List.mem_of_getElem? hc2)
                  rw [hf] at this
                  cases this] at k
                exact k
              | true =>
                walk_at "zz"
                have hb : 48 ≤ c2 ∧ c2 ≤ 57 := by simpa [isFig] using hf
                refine q_fig hb.1 hb.2 ?_
                walk_at "zz"
                have et : s.cps.toList.take (i + 1) = s.cps.toList.take i ++ [c2] := by rw [List.take_add_one, hc2]; rfl
                have ev : 10 * (val (s.cps.toList.take i) : Int) + ((c2 - 48 : Nat) : Int) = (val (s.cps.toList.take (i + 1)) : Int) := by
                  rw [et]
                  have := PySem.NumText.digitsVal_snoc (s.cps.toList.take i) c2
                  show _ = ((PySem.NumText.digitsVal (s.cps.toList.take i ++ [c2]) : Nat) : Int)
                  rw [this]
                  show 10 * ((PySem.NumText.digitsVal (s.cps.toList.take i) : Nat) : Int) + _ = _
                  omega
                rw [ev]
                refine ⟨⟨_, rfl⟩, ?_, rfl⟩
                rw [et, List.all_append, hall]
                simp [hf]
            · rintro σ' H' ⟨⟨w, rfl⟩, hall, rfl⟩
              rw [List.take_length] at hall ⊢
              have hp := hlead hall
              walk_at "zz"
              refine iteD (fun g1 => ?_) (fun g1 => ?_)
              · walk_at "zz"
                refine iteD (fun g2 => ?_) (fun g2 => ?_)
                · walk_at "zz"
                  rw [show readV (.str s) lo hi = .int (val s.cps.toList : Int) from if_pos ⟨hp, g1, g2⟩] at k
                  exact k
                · walk_at "zz"
                  rw [show readV (.str s) lo hi = .non from if_neg (by omega)] at k
                  exact k
              · walk_at "zz"
                rw [show readV (.str s) lo hi = .non from if_neg (by omega)] at k
                exact k
        · have hlead : s.cps.toList.all isFig = true → plainL s.cps.toList = true := fun ha => by
            have hne : ¬ c = 48 := fun h => hc (by rw [h]; rfl)
            rw [plain_cons hcr ha (fun h => by rw [hcr] at h; injection h with h1 h2; exact hne h1)]
            simp [hne]
          walk_at "zz"
          refine q_strFor (z := s) (fun i σ' H' => (∃ w, σ' = [some (.str s), some (.int lo), some (.int hi), some (.int (val (s.cps.toList.take i) : Int)), w]) ∧ (s.cps.toList.take i).all isFig = true ∧ H' = H) ⟨⟨_, rfl⟩, rfl, rfl⟩ ?_ ?_
          · rintro i c2 σ' H' hc2 ⟨⟨w, rfl⟩, hall, rfl⟩
            walk_at "zz"
            refine ⟨c2, FIG, rfl, rfl, _, rfl, ?_⟩
            rw [fig_mem]
            cases hf : isFig c2 with
            | false =>
              walk_at "zz"
              rw [none_if fun z => by
                simp only [plainL, Bool.and_eq_true] at z
                have := List.all_eq_true.mp z.1.2 c2 (List.mem_of_getElem? hc2)
                rw [hf] at this
                cases this] at k
              exact k
            | true =>
              walk_at "zz"
              have hb : 48 ≤ c2 ∧ c2 ≤ 57 := by simpa [isFig] using hf
              refine q_fig hb.1 hb.2 ?_
              walk_at "zz"
              have et : s.cps.toList.take (i + 1) = s.cps.toList.take i ++ [c2] := by rw [List.take_add_one, hc2]; rfl
              have ev : 10 * (val (s.cps.toList.take i) : Int) + ((c2 - 48 : Nat) : Int) = (val (s.cps.toList.take (i + 1)) : Int) := by
                rw [et]
                have := PySem.NumText.digitsVal_snoc (s.cps.toList.take i) c2
                show _ = ((PySem.NumText.digitsVal (s.cps.toList.take i ++ [c2]) : Nat) : Int)
                rw [this]
                show 10 * ((PySem.NumText.digitsVal (s.cps.toList.take i) : Nat) : Int) + _ = _
                omega
              rw [ev]
              refine ⟨⟨_, rfl⟩, ?_, rfl⟩
              rw [et, List.all_append, hall]
              simp [hf]
          · rintro σ' H' ⟨⟨w, rfl⟩, hall, rfl⟩
            rw [List.take_length] at hall ⊢
            have hp := hlead hall
            walk_at "zz"
            refine iteD (fun g1 => ?_) (fun g1 => ?_)
            · walk_at "zz"
              refine iteD (fun g2 => ?_) (fun g2 => ?_)
              · walk_at "zz"
                rw [show readV (.str s) lo hi = .int (val s.cps.toList : Int) from if_pos ⟨hp, g1, g2⟩] at k
                exact k
              · walk_at "zz"
                rw [show readV (.str s) lo hi = .non from if_neg (by omega)] at k
                exact k
            · walk_at "zz"
              rw [show readV (.str s) lo hi = .non from if_neg (by omega)] at k
              exact k
    | _ => walk_at "zz"; exact k
abbrev s_is_plainly_written : Stmt := topS 3
theorem sc_is_plainly_written : FnScope ["text"] ["text"] (defScope s_is_plainly_written) := ⟨rfl, rfl, rfl, by decide +kernel, rfl, by decide +kernel, by decide +kernel⟩
def sp_is_plainly_written (K : PySem.W.Frag) : Sp := fun vs H Q _ => ∃ (s : Str), vs = [.str s] ∧ s.length ≤ 1000 ∧ ∀ H', Ex H H' → Q (.bl (plainL s.cps.toList)) H'
theorem kn_is_plainly_written (F : Df K mg "is_plainly_written" s_is_plainly_written ["text"])
    (c_FIGURES : ∃ u, mg "FIGURES" = some u ∧ RelV (V.str ("0123456789" : Str)) u)
    (k_has_only : Kn P w K mg base 1 "has_only" (sp_has_only K)) : Kn P w K mg base 2 "is_plainly_written" (sp_is_plainly_written K) := by
  refine kn_of F sc_is_plainly_written (fun vs H Q E h => ?_) (fun f cdv A outer s H vs Q E hr h => ?_)
  · obtain ⟨s, rfl, _⟩ := h
    rfl
  · obtain ⟨s, rfl, hs, k⟩ := h
    refine ⟨_, (pss_cons (ps_if (PW.pt (pw_or (pt_cmpR (Z.op_eqB K rfl hr.units) (pv 0) pe_str (nomark _)) (pw_or1 (pt_not (pt_val (Z.pe_kn k_has_only hr (by decide) (by rfl) (pa_cons (pv 0) (pa_cons (C8.pe_gc (by rfl) c_FIGURES) pa_nil)))))))) (pss_one (ps_ret pe_bl)) pss_nil)
      (pss_one (ps_ret (pe_or (pe_cmpR (Z.op_eqB K rfl hr.units) (pv 0) pe_str (nomark _)) (pe_one (pe_cmpR (Z.op_neB K rfl hr.units) (pe_ix (Z.ix_A K rfl) (pv 0) pe_int (fun _ _ => rfl)) pe_str (nomark _))))))), ?_⟩
    walk_at "zz"
    refine iteD (fun h0 => ?_) (fun h0 => ?_)
    · walk_at "zz"
      have := k H Ex.rfl
      rw [show plainL s.cps.toList = false by rw [h0]; rfl] at this
      exact this
    · walk_at "zz"
      obtain ⟨c, r, hcr⟩ := str_nil h0
      refine ⟨s, _, rfl, hs, fun H1 e1 => ?_⟩
      walk_at "zz"
      have q := k H1 e1
      rw [only_fig]
      cases hall : s.cps.toList.all isFig with
      | false =>
        walk_at "zz"
        rw [show plainL s.cps.toList = false by simp [plainL, hall]] at q
        exact q
      | true =>
        walk_at "zz"
        refine iteD (fun h1 => ?_) (fun h1 => ?_)
        · rw [show plainL s.cps.toList = true by rw [h1]; rfl] at q
          exact q
        · walk_at "zz"
          refine q_ixS (Nat.le_of_lt (small1000 hs)) (at_head hcr) ?_
          walk_at "zz"
          have e : (!decide ((⟨#[c]⟩ : Str) = "0")) = plainL s.cps.toList := by
            have e2 : decide ((⟨#[c]⟩ : Str) = "0") = decide (c = 48) := sign_eq c 48
            rw [e2]
            exact (plain_cons hcr hall fun h => h1 (str_eq_iff.mpr h)).symm
          rw [e]
          exact q
abbrev s__law_number : Stmt := topS 9
theorem sc__law_number : FnScope ["box", "way"] ["box"] (defScope s__law_number) := ⟨rfl, rfl, rfl, by decide +kernel, rfl, by decide +kernel, by decide +kernel⟩
def sp__law_number (K : PySem.W.Frag) : Sp := fun vs H Q _ => ∃ (b : Addr) (n : Nat), vs = [.ref b] ∧ BoxAt H b n ∧ n + 3 ≤ 100000 ∧ ∀ i H', 0 ≤ i → i < 1000000000000000000000000000000 → BoxAt H' b (n + 3) → Fb b H H' → Q (.int i) H'
theorem kn__law_number (F : Df K mg "_law_number" s__law_number ["box"])
    (k__law_take : Kn P w K mg base 1 "_law_take" (sp__law_take K)) : Kn P w K mg base 2 "_law_number" (sp__law_number K) := by
  refine kn_of F sc__law_number (fun vs H Q E h => ?_) (fun f cdv A outer s H vs Q E hr h => ?_)
  · obtain ⟨b, n, rfl, _⟩ := h
    rfl
  · obtain ⟨b, n, rfl, hB, hn, k⟩ := h
    refine ⟨_, (pss_cons (ps_set (i := 1) sc__law_number.nd rfl (Or.inl rfl) (Z.pe_kn k__law_take hr (by decide) (by rfl) (pa_cons (pv 0) (pa_cons pe_int pa_nil))))
      (pss_cons (ps_if (pt_cmpR (Z.op_eqB K rfl hr.units) (pv 1) pe_int (nomark _)) (pss_one (ps_ret (pe_ix (Z.ix_A K rfl) (pe_lst (pa_cons pe_int (pa_cons pe_int (pa_cons pe_int (pa_cons pe_int (pa_cons (pe_op op_sub (pe_op op_pow pe_int pe_int) pe_int) (pa_cons pe_int pa_nil))))))) (Z.pe_kn k__law_take hr (by decide) (by rfl) (pa_cons (pv 0) (pa_cons pe_int pa_nil))) (fun _ _ => rfl)))) pss_nil)
      (pss_cons (ps_if (pt_cmpR (Z.op_eqB K rfl hr.units) (pv 1) pe_int (nomark _)) (pss_one (ps_ret (pe_op Z.op_addA (pe_op Z.op_mulA (Z.pe_kn k__law_take hr (by decide) (by rfl) (pa_cons (pv 0) (pa_cons (pe_op op_pow pe_int pe_int) pa_nil))) (pe_op op_pow pe_int pe_int)) (Z.pe_kn k__law_take hr (by decide) (by rfl) (pa_cons (pv 0) (pa_cons (pe_op op_pow pe_int pe_int) pa_nil)))))) pss_nil)
      (pss_one (ps_ret (Z.pe_kn k__law_take hr (by decide) (by rfl) (pa_cons (pv 0) (pa_cons (pe_ix (Z.ix_A K rfl) (pe_lst (pa_cons pe_int (pa_cons pe_int pa_nil))) (pe_op op_sub (pv 1) pe_int) (fun _ _ => rfl)) pa_nil)))))))), ?_⟩
    walk_at "zz"
    refine ⟨b, _, _, rfl, hB, by omega, by omega, by omega, fun d H1 h0 h1 B1 f1 => ?_⟩
    walk_at "zz"
    refine iteD (fun hd => ?_) (fun hd => ?_)
    · walk_at "zz"
      refine q_newL fun p H2 hp h2 e2 => ?_
      walk_at "zz"
      refine ⟨b, _, _, rfl, B1.ex e2, by omega, by omega, by omega, fun d2 H3 g0 g1 B3 f3 => ?_⟩
      have np := B1.ne hp
      refine q_ixM (SqL.of (f3.get h2 np)) g0 g1 fun v m => ?_
      have kk : ∀ i : Int, 0 ≤ i → i < 1000000000000000000000000000000 → Q (.int i) H3 := fun i i0 i1 => k i H3 i0 i1 (B3.mono (by omega)) (f1.tr ((Fb.ex e2).tr f3))
      simp only [List.mem_cons, List.not_mem_nil, or_false] at m
      rcases m with rfl | rfl | rfl | rfl | rfl | rfl <;> exact kk _ (by omega) (by omega)
    · walk_at "zz"
      refine iteD (fun hd2 => ?_) (fun hd2 => ?_)
      · walk_at "zz"
        refine ⟨b, _, _, rfl, B1, by omega, by omega, by omega, fun d2 H3 g0 g1 B3 f3 => ?_⟩
        walk_at "zz"
        refine ⟨b, _, _, rfl, B3, by omega, by omega, by omega, fun d4 H4 g2 g3 B4 f4 => ?_⟩
        walk_at "zz"
        rename_i v1 hv1 v2 hv2 v3 hv3
        subst hv1 hv2 hv3
        exact k _ H4 (by omega) (by omega) (B4.mono (by omega)) (f1.tr (f3.tr f4))
      · walk_at "zz"
        refine q_newL fun p H2 hp h2 e2 => ?_
        walk_at "zz"
        have np := B1.ne hp
        refine q_ixM (SqL.of h2) (by omega) (by show _ < (2 : Int); omega) fun v m => ?_
        obtain ⟨m', rfl, hm1, hm2⟩ : ∃ i : Int, v = .int i ∧ 0 < i ∧ i < 1073741824 := by
          simp only [List.mem_cons, List.not_mem_nil, or_false] at m
          rcases m with rfl | rfl
          · exact ⟨10, rfl, by decide, by decide⟩
          · exact ⟨1000, rfl, by decide, by decide⟩
        walk_at "zz"
        refine ⟨b, _, _, rfl, B1.ex e2, by omega, hm1, hm2, fun d2 H3 g0 g1 B3 f3 => ?_⟩
        exact k _ H3 g0 (by omega) (B3.mono (by omega)) (f1.tr ((Fb.ex e2).tr f3))
abbrev s__law_bounds : Stmt := topS 10
theorem sc__law_bounds : FnScope ["box", "number", "low", "high", "most"] ["box", "number"] (defScope s__law_bounds) := ⟨rfl, rfl, rfl, by decide +kernel, rfl, by decide +kernel, by decide +kernel⟩
def sp__law_bounds (K : PySem.W.Frag) : Sp := fun vs H Q _ => ∃ (b : Addr) (n : Nat) (i : Int), vs = [.ref b, .int i] ∧ BoxAt H b n ∧ n + 2 ≤ 100000 ∧ ∀ p lo hi H', 0 ≤ hi → hi < 1000000000000000000000000000000 → H' p = some (.tup [.int lo, .int hi]) → BoxAt H' b (n + 2) → Fb b H H' → Q (.ref p) H'
theorem kn__law_bounds (F : Df K mg "_law_bounds" s__law_bounds ["box", "number"])
    (m_max : mg "max" = none)
    (m_min : mg "min" = none)
    (k__law_take : Kn P w K mg base 1 "_law_take" (sp__law_take K)) : Kn P w K mg base 2 "_law_bounds" (sp__law_bounds K) := by
  refine kn_of F sc__law_bounds (fun vs H Q E h => ?_) (fun f cdv A outer s H vs Q E hr h => ?_)
  · obtain ⟨b, n, i, rfl, _⟩ := h
    rfl
  · obtain ⟨b, n, i, rfl, hB, hn, k⟩ := h
    refine ⟨_, (pss_cons (ps_set (i := 2) sc__law_bounds.nd rfl (Or.inl rfl) (pe_callB (call_max2 rfl) (by rfl) m_max (by decide +kernel) (pa_cons pe_int (pa_cons (pe_op Z.op_addA (pv 1) (pe_ix (Z.ix_A K rfl) (pe_lst (pa_cons pe_int (pa_cons pe_int (pa_cons (pe_un un_neg pe_int) (pa_cons (pe_un un_neg pe_int) (pa_cons (pe_un un_neg (pe_op op_pow pe_int pe_int)) pa_nil)))))) (Z.pe_kn k__law_take hr (by decide) (by rfl) (pa_cons (pv 0) (pa_cons pe_int pa_nil))) (fun _ _ => rfl))) pa_nil))))
      (pss_cons (ps_set (i := 3) sc__law_bounds.nd rfl (Or.inl rfl) (pe_op Z.op_addA (pv 2) (pe_ix (Z.ix_A K rfl) (pe_lst (pa_cons pe_int (pa_cons pe_int (pa_cons pe_int (pa_cons pe_int (pa_cons (pe_op op_pow pe_int pe_int) (pa_cons (pe_un un_neg pe_int) pa_nil))))))) (Z.pe_kn k__law_take hr (by decide) (by rfl) (pa_cons (pv 0) (pa_cons pe_int pa_nil))) (fun _ _ => rfl))))
      (pss_cons (ps_set (i := 4) sc__law_bounds.nd rfl (Or.inl rfl) (pe_op op_sub (pe_op op_pow pe_int pe_int) pe_int))
      (pss_one (ps_ret (pe_tup (pa_cons (pe_callB (call_min2 rfl) (by rfl) m_min (by decide +kernel) (pa_cons (pv 4) (pa_cons (pv 2) pa_nil))) (pa_cons (pe_callB (call_max2 rfl) (by rfl) m_max (by decide +kernel) (pa_cons pe_int (pa_cons (pe_callB (call_min2 rfl) (by rfl) m_min (by decide +kernel) (pa_cons (pv 4) (pa_cons (pv 3) pa_nil))) pa_nil))) pa_nil)))))))), ?_⟩
    walk_at "zz"
    refine q_newL fun p H2 hp h2 e2 => ?_
    walk_at "zz"
    refine ⟨b, _, _, rfl, hB.ex e2, by omega, by omega, by omega, fun d2 H3 g0 g1 B3 f3 => ?_⟩
    have np := hB.ne hp
    refine q_ixM (SqL.of (f3.get h2 np)) g0 g1 fun v m => ?_
    obtain ⟨i2, rfl⟩ := int_mem m rfl
    walk_at "zz"
    refine q_newL fun p4 H4 hp4 h4 e4 => ?_
    walk_at "zz"
    refine ⟨b, _, _, rfl, B3.ex e4, by omega, by omega, by omega, fun d5 H5 g2 g3 B5 f5 => ?_⟩
    have np4 := B3.ne hp4
    refine q_ixM (SqL.of (f5.get h4 np4)) g2 g3 fun v m => ?_
    obtain ⟨i5, rfl⟩ := int_mem m rfl
    walk_at "zz"
    rename_i vm hvm
    refine q_newT fun p6 H6 hp6 h6 e6 => ?_
    refine k p6 _ _ H6 ?_ ?_ h6 ((B5.ex e6).mono (by omega)) ((Fb.ex e2).tr (f3.tr ((Fb.ex e4).tr (f5.tr (Fb.ex e6)))))
    · split <;> omega
    · subst hvm
      split
      · split <;> omega
      · omega
abbrev s__law_bent : Stmt := topS 11
theorem sc__law_bent : FnScope ["box", "text", "signs", "way", "sign", "at", "some"] ["box", "text"] (defScope s__law_bent) := ⟨rfl, rfl, rfl, by decide +kernel, rfl, by decide +kernel, by decide +kernel⟩
def sp__law_bent (K : PySem.W.Frag) : Sp := fun vs H Q _ => ∃ (b : Addr) (n : Nat) (s : Str), vs = [.ref b, .str s] ∧ BoxAt H b n ∧ n + 3 ≤ 100000 ∧ Tn 100 s ∧ ∀ z H', Tn 300 z → BoxAt H' b (n + 3) → Fb b H H' → Q (.str z) H'
theorem kn__law_bent (F : Df K mg "_law_bent" s__law_bent ["box", "text"])
    (m_len : mg "len" = none)
    (k__law_take : Kn P w K mg base 1 "_law_take" (sp__law_take K)) : Kn P w K mg base 2 "_law_bent" (sp__law_bent K) := by
  refine kn_of F sc__law_bent (fun vs H Q E h => ?_) (fun f cdv A outer s H vs Q E hr h => ?_)
  · obtain ⟨b, n, s, rfl, _⟩ := h
    rfl
  · obtain ⟨b, n, s, rfl, hB, hn, hs, k⟩ := h
    refine ⟨_, (pss_cons (ps_set (i := 2) sc__law_bent.nd rfl (Or.inl rfl) pe_str)
      (pss_cons (ps_set (i := 3) sc__law_bent.nd rfl (Or.inl rfl) (Z.pe_kn k__law_take hr (by decide) (by rfl) (pa_cons (pv 0) (pa_cons pe_int pa_nil))))
      (pss_cons (ps_set (i := 4) sc__law_bent.nd rfl (Or.inl rfl) (pe_ix (Z.ix_A K rfl) (pv 2) (Z.pe_kn k__law_take hr (by decide) (by rfl) (pa_cons (pv 0) (pa_cons (pe_callB (Z.call_lenB K rfl) (by rfl) m_len (by decide +kernel) (pa_cons (pv 2) pa_nil)) pa_nil))) (fun _ _ => rfl)))
      (pss_cons (ps_set (i := 5) sc__law_bent.nd rfl (Or.inl rfl) (Z.pe_kn k__law_take hr (by decide) (by rfl) (pa_cons (pv 0) (pa_cons (pe_op Z.op_addA (pe_callB (Z.call_lenB K rfl) (by rfl) m_len (by decide +kernel) (pa_cons (pv 1) pa_nil)) pe_int) pa_nil))))
      (pss_cons (ps_set (i := 6) sc__law_bent.nd rfl (Or.inl rfl) (pe_lst (pa_cons (pv 1) (pa_cons (pv 1) (pa_cons (pe_op Z.op_addA pe_str (pv 1)) (pa_cons (pe_op Z.op_addA (pe_op Z.op_addA (pe_slice (Z.sl_B K rfl) (pv 1) po_none (po_some (pv 5))) (pv 4)) (pe_slice (Z.sl_B K rfl) (pv 1) (po_some (pv 5)) po_none)) (pa_cons (pe_op Z.op_addA (pe_op Z.op_addA (pe_slice (Z.sl_B K rfl) (pv 1) po_none (po_some (pv 5))) (pv 4)) (pe_slice (Z.sl_B K rfl) (pv 1) (po_some (pe_op Z.op_addA (pv 5) pe_int)) po_none)) pa_nil)))))))
      (pss_one (ps_ret (pe_ix (Z.ix_A K rfl) (pe_op Z.op_addA (pv 6) (pe_lst (pa_cons (pe_op Z.op_addA (pe_slice (Z.sl_B K rfl) (pv 1) po_none (po_some (pv 5))) (pe_slice (Z.sl_B K rfl) (pv 1) (po_some (pe_op Z.op_addA (pv 5) pe_int)) po_none)) pa_nil))) (pv 3) (fun _ _ => rfl))))))))), ?_⟩
    walk_at "zz"
    refine ⟨b, _, _, rfl, hB, by omega, by omega, by omega, fun d1 H1 g1 l1 B1 f1 => ?_⟩
    walk_at "zz"
    refine q_lenS (z := SIGNS) (by rw [signs_len]; exact Nat.le_of_lt (small1000 (by decide))) ?_
    walk_at "zz"
    refine ⟨b, _, _, rfl, B1, by omega, by rw [signs_len]; decide, by rw [signs_len]; decide, fun d2 H2 g2 l2 B2 f2 => ?_⟩
    refine q_signs g2 l2 fun c hc => ?_
    walk_at "zz"
    refine q_lenS hs.sz ?_
    walk_at "zz"
    have hs1 : s.length ≤ 100 := hs.1
    refine ⟨b, _, _, rfl, B2, by omega, by omega, by omega, fun d3 H3 g3 l3 B3 f3 => ?_⟩
    walk_at "zz"
    have t0 : Tn 1 ("0" : Str) := ⟨by decide, by decide +kernel⟩
    refine q_addS (small_add t0.1 hs.1 (by decide)) ?_
    walk_at "zz"
    refine q_slS hs.sz ?_
    walk_at "zz"
    refine q_addS (small_add (m := 100) (n := 1) (hs.cut _ _).1 (Tn.one hc).1 (by decide)) ?_
    walk_at "zz"
    refine q_slS hs.sz ?_
    walk_at "zz"
    have t1 := (hs.cut none (some d3)).app (Tn.one hc)
    refine q_addS (small_add (m := 101) (n := 100) t1.1 (hs.cut _ _).1 (by decide)) ?_
    walk_at "zz"
    refine q_slS hs.sz ?_
    walk_at "zz"
    refine q_addS (small_add (m := 100) (n := 1) (hs.cut _ _).1 (Tn.one hc).1 (by decide)) ?_
    walk_at "zz"
    refine q_slS hs.sz ?_
    walk_at "zz"
    refine q_addS (small_add (m := 101) (n := 100) t1.1 (hs.cut _ _).1 (by decide)) ?_
    walk_at "zz"
    refine q_newL fun p4 H4 n4 h4 e4 => ?_
    walk_at "zz"
    refine q_slS hs.sz ?_
    walk_at "zz"
    refine q_slS hs.sz ?_
    walk_at "zz"
    refine q_addS (small_add (hs.cut _ _).1 (hs.cut _ _).1 (by decide)) ?_
    walk_at "zz"
    refine q_newL fun p5 H5 n5 h5 e5 => ?_
    refine q_addL (e5.get h4) h5 (Nat.le_of_lt (small1000 (Nat.le_of_ble_eq_true rfl))) fun p6 H6 n6 h6 e6 => ?_
    walk_at "zz"
    refine q_ixM (SqL.of h6) g1 l1 fun v m => ?_
    have kk : ∀ z : Str, Tn 300 z → Q (.str z) H6 := fun z hz => k z H6 hz ((B3.ex (e4.tr (e5.tr e6))).mono (by omega)) (f1.tr (f2.tr (f3.tr (Fb.ex (e4.tr (e5.tr e6))))))
    simp only [List.cons_append, List.nil_append, List.mem_cons, List.not_mem_nil, or_false] at m
    rcases m with rfl | rfl | rfl | rfl | rfl | rfl
    · exact kk _ (hs.mono (by omega))
    · exact kk _ (hs.mono (by omega))
    · exact kk _ ((t0.app hs).mono (by omega))
    · exact kk _ ((t1.app (hs.cut _ _)).mono (by omega))
    · exact kk _ ((t1.app (hs.cut _ _)).mono (by omega))
    · exact kk _ (((hs.cut _ _).app (hs.cut _ _)).mono (by omega))
abbrev s_whole_in : Stmt := topS 2
theorem sc_whole_in : FnScope ["thing", "low", "high", "number"] ["thing", "low", "high"] (defScope s_whole_in) := ⟨rfl, rfl, rfl, by decide +kernel, rfl, by decide +kernel, by decide +kernel⟩
def sp_whole_in (K : PySem.W.Frag) : Sp := fun vs H Q _ => ∃ (v : V) (lo hi : Int), vs = [v, .int lo, .int hi] ∧ Thing H v ∧ 0 ≤ hi ∧ hi < 1000000000000000000000000000000 ∧ ∀ H', Ex H H' → Q (readV v lo hi) H'
theorem kn_whole_in (F : Df K mg "whole_in" s_whole_in ["thing", "low", "high"])
    (m_int : mg "int" = none)
    (m_len : mg "len" = none)
    (m_str : mg "str" = none)
    (m_isinstance : mg "isinstance" = none)
    (k_is_plainly_written : Kn P w K mg base 2 "is_plainly_written" (sp_is_plainly_written K)) : Kn P w K mg base 3 "whole_in" (sp_whole_in K) := by
  refine kn_of F sc_whole_in (fun vs H Q E h => ?_) (fun f cdv A outer s H vs Q E hr h => ?_)
  · obtain ⟨v, lo, hi, rfl, _⟩ := h
    rfl
  · obtain ⟨v, lo, hi, rfl, hv, h0, h1, k⟩ := h
    refine ⟨_, (pss_cons (ps_if (PW.pt (pw_or (pt_not (pt_val (pe_callB (Z.call_isiB K rfl) (by rfl) m_isinstance (by decide +kernel) (pa_cons (pv 0) (pa_cons (pe_bltn (v := .ty "str") (by rfl) m_str (by decide +kernel) rfl) pa_nil))))) (pw_or1 (pt_not (pt_val (Z.pe_kn k_is_plainly_written hr (by decide) (by rfl) (pa_cons (pv 0) pa_nil))))))) (pss_one (ps_ret pe_non)) pss_nil)
      (pss_cons (ps_if (pt_cmpR op_gt (pe_callB (Z.call_lenB K rfl) (by rfl) m_len (by decide +kernel) (pa_cons (pv 0) pa_nil)) (pe_callB (Z.call_lenB K rfl) (by rfl) m_len (by decide +kernel) (pa_cons (pe_callTy Z.call_strA (by rfl) m_str (by decide +kernel) (pa_cons (pv 2) pa_nil)) pa_nil)) (nomark _)) (pss_one (ps_ret pe_non)) pss_nil)
      (pss_cons (ps_set (i := 3) sc_whole_in.nd rfl (Or.inl rfl) (pe_callTy call_int_str (by rfl) m_int (by decide +kernel) (pa_cons (pv 0) pa_nil)))
      (pss_cons (ps_if (pt_chain op_le op_le (pv 1) (pv 3) (pv 2)) (pss_one (ps_ret (pv 3))) pss_nil)
      (pss_one (ps_ret pe_non)))))), ?_⟩
    walk_at "zz"
    refine q_isiStr hv ?_
    cases hv with
    | str s hs =>
      walk_at "zz"
      refine ⟨s, rfl, hs.1, fun H1 e1 => ?_⟩
      walk_at "zz"
      have q := k H1 e1
      cases hp : plainL s.cps.toList with
      | false =>
        walk_at "zz"
        rw [show readV (.str s) lo hi = .non by simp [readV, hp]] at q
        exact q
      | true =>
        walk_at "zz"
        refine q_lenS hs.sz ?_
        walk_at "zz"
        obtain ⟨n, rfl⟩ := Int.eq_ofNat_of_zero_le h0
        have hn : n < 10 ^ 30 := by omega
        have hlog : ((n : Int)).natAbs.log2 < 1920 := by
          show n.log2 < 1920
          by_cases hz : n = 0
          · subst hz; decide
          · exact (Nat.log2_lt hz).mpr (Nat.lt_trans hn (by decide +kernel))
        refine q_strI hlog ?_
        walk_at "zz"
        have htl : TL.tl (Str.ofString (toString ((n : Nat) : Int))) = (Nat.toDigits 10 n).map Char.toNat := num_tl n
        have hlen : (Str.ofString (toString ((n : Nat) : Int))).length = (Nat.toDigits 10 n).length := by rw [TL.len_tl, htl, List.length_map]
        have hl30 : (Nat.toDigits 10 n).length ≤ 30 := PySem.toDigits_len_pow (by decide) (by decide) hn
        have hd : s.cps.toList.all isFig = true := by
          simp only [plainL, Bool.and_eq_true] at hp
          exact hp.1.2
        have hdig : PySem.NumText.AllDigits s.cps.toList := fun c hc => by
          have := List.all_eq_true.mp hd c hc
          simpa [isFig] using this
        have hne : s.cps.toList ≠ [] := by
          intro e
          rw [e] at hp
          cases hp
        have hsl : s.length = s.cps.toList.length := TL.len_tl s
        refine q_lenS (by rw [hlen]; exact Nat.le_of_lt (small1000 (by omega))) ?_
        walk_at "zz"
        rw [hlen]
        -- a text with more figures writes more
        have hlead : s.cps.toList.length = 1 ∨ ∃ c r, s.cps.toList = c :: r ∧ 49 ≤ c := by
          cases e : s.cps.toList with
          | nil => exact absurd e hne
          | cons c r =>
            rw [e] at hp
            simp only [plainL, Bool.and_eq_true, Bool.or_eq_true, decide_eq_true_eq, Bool.not_eq_true', decide_eq_false_iff_not] at hp
            rcases hp.2 with z | z
            · left; rw [z]; rfl
            · right
              refine ⟨c, r, rfl, ?_⟩
              have := hdig c (by rw [e]; exact List.mem_cons_self)
              have : c ≠ 48 := fun h => z (by rw [h]; rfl)
              omega
        have hback : Nat.toDigits 10 (val s.cps.toList) = s.cps.toList.map Char.ofNat := by
          refine PySem.NumText.toDigits_digitsVal (s.cps.toList.length - 1) s.cps.toList ?_ hdig ?_
          · have : s.cps.toList.length ≠ 0 := fun h => hne (List.eq_nil_of_length_eq_zero h)
            omega
          · rcases hlead with z | z
            · left; omega
            · right; exact z
        have hmore : (Nat.toDigits 10 n).length < s.cps.toList.length → n < val s.cps.toList := by
          intro hlt
          by_cases hle : n < val s.cps.toList
          · exact hle
          · exfalso
            have h10 : n < 10 ^ (Nat.toDigits 10 n).length := by
              have := val_lt ((Nat.toDigits 10 n).map Char.toNat) (by rw [← htl]; exact figs_num n)
              rw [val_num, List.length_map] at this
              exact this
            have h1pos : 1 ≤ (Nat.toDigits 10 n).length := PySem.toDigits_len_ge 10 n
            have := PySem.toDigits_len_pow (b := 10) (by decide) h1pos (show val s.cps.toList < 10 ^ (Nat.toDigits 10 n).length by omega)
            rw [hback, List.length_map] at this
            omega
        refine iteD (fun hlt => ?_) (fun hlt => ?_)
        · walk_at "zz"
          have := hmore (by omega)
          rw [show readV (.str s) lo (n : Int) = .non by
            unfold readV
            exact if_neg (by omega)] at q
          exact q
        · walk_at "zz"
          refine ⟨s, (val s.cps.toList : Int), rfl, PySem.intText_digits hdig hne (by omega), by omega, ?_⟩
          walk_at "zz"
          refine iteD (fun g1 => ?_) (fun g1 => ?_)
          · walk_at "zz"
            refine iteD (fun g2 => ?_) (fun g2 => ?_)
            · walk_at "zz"
              rw [show readV (.str s) lo (n : Int) = .int (val s.cps.toList : Int) by
                unfold readV
                exact if_pos ⟨hp, g1, g2⟩] at q
              exact q
            · walk_at "zz"
              rw [show readV (.str s) lo (n : Int) = .non by
                unfold readV
                exact if_neg (by omega)] at q
              exact q
          · walk_at "zz"
            rw [show readV (.str s) lo (n : Int) = .non by
              unfold readV
              exact if_neg (by omega)] at q
            exact q
    | _ => walk_at "zz"; exact k H Ex.rfl
abbrev s_law : Stmt := topS 13
theorem sc_law : FnScope ["script", "k", "box", "odd", "number", "bounds", "great", "thing", "low", "high"] ["script"] (defScope s_law) := ⟨rfl, rfl, rfl, by decide +kernel, rfl, by decide +kernel, by decide +kernel⟩
def sp_law (K : PySem.W.Frag) : Sp := fun vs H Q _ => ∃ (a : Addr) (ns : List Int), vs = [.ref a] ∧ SqL K H a (ns.map V.int) ∧ ns.length ≤ 63 ∧ ∀ H', Q (.bl true) H'
theorem shows_read (v : V) (lo hi : Int) (h : hi < 1000000000000000000000000000000) : ∃ t : Str, shows (readV v lo hi) = some t ∧ t.length ≤ sizeLine ∧ ∀ i, readV v lo hi = .int i → i.natAbs.log2 < 1920 := by
  have case : readV v lo hi = .non ∨ ∃ n : Nat, readV v lo hi = .int (n : Int) ∧ (n : Int) ≤ hi := by
    cases v with
    | str s =>
      by_cases hc : plainL s.cps.toList = true ∧ lo ≤ (val s.cps.toList : Int) ∧ (val s.cps.toList : Int) ≤ hi
      · exact .inr ⟨_, if_pos hc, hc.2.2⟩
      · exact .inl (if_neg hc)
    | _ => exact .inl rfl
  rcases case with e | ⟨n, e, hn⟩
  · rw [e]
    exact ⟨_, rfl, by decide +kernel, fun i z => nomatch z⟩
  · rw [e]
    have hn2 : n < 10 ^ 30 := by omega
    refine ⟨_, rfl, ?_, fun i z => ?_⟩
    · have : (Str.ofString (toString ((n : Nat) : Int))).length ≤ 30 := by
        rw [TL.len_tl, num_tl, List.length_map]
        exact PySem.toDigits_len_pow (by decide) (by decide) hn2
      exact Nat.le_of_lt (small1000 (by omega))
    · obtain rfl : (n : Int) = i := V.int.inj z
      show n.log2 < 1920
      by_cases hz : n = 0
      · subst hz; decide
      · exact (Nat.log2_lt hz).mpr (Nat.lt_trans hn2 (by decide +kernel))
theorem q_reprR {H : Hp} {Q : VK} (v : V) (lo hi : Int) (h : hi < 1000000000000000000000000000000) (k : ∀ t, shows (readV v lo hi) = some t → Q (.str t) H) : rReprS [readV v lo hi] H Q := by
  obtain ⟨t, h1, h2, h3⟩ := shows_read v lo hi h
  exact q_reprS h1 h2 h3 (k t h1)
theorem fn_law {fd : FuncData} {f : Addr} (F : Fun K "law" "law" s_law f fd)
    (m_range : mg "range" = none)
    (m_max : mg "max" = none)
    (m_min : mg "min" = none)
    (m_len : mg "len" = none)
    (m_str : mg "str" = none)
    (m_repr : mg "repr" = none)
    (k__law_bent : Kn P w K mg base 2 "_law_bent" (sp__law_bent K))
    (k_whole_in : Kn P w K mg base 3 "whole_in" (sp_whole_in K))
    (k__law_read : Kn P w K mg base 1 "_law_read" (sp__law_read K))
    (k__law_take : Kn P w K mg base 1 "_law_take" (sp__law_take K))
    (k__law_bounds : Kn P w K mg base 2 "_law_bounds" (sp__law_bounds K))
    (k__law_number : Kn P w K mg base 2 "_law_number" (sp__law_number K))
    (k__law_box : Kn P w K mg base 1 "_law_box" (sp__law_box K))
    (k__law_cell : Kn P w K mg base 1 "_law_cell" (sp__law_cell K)) : FnOk P w K mg base CX0 4 f fd ["script"] (sp_law K) := by
  refine F.ok sc_law (fun vs H Q E h => ?_) (fun cdv A outer s H vs Q E hr h => ?_)
  · obtain ⟨a, ns, rfl, _⟩ := h
    rfl
  · obtain ⟨a, ns, rfl, hS, hn, q⟩ := h
    refine ⟨_, (pss_cons (ps_for PassesOwn.never rfl (pi_range1 (by rfl) m_range (pa_cons (pe_callB (call_max2 rfl) (by rfl) m_max (by decide +kernel) (pa_cons pe_int (pa_cons (pe_callB (call_min2 rfl) (by rfl) m_min (by decide +kernel) (pa_cons (pe_callB (Z.call_lenB K rfl) (by rfl) m_len (by decide +kernel) (pa_cons (pv 0) pa_nil)) (pa_cons pe_int pa_nil))) pa_nil))) pa_nil)) (pg_name (i := 1) sc_law.nd rfl (Or.inl rfl)) (pss_cons (ps_set (i := 2) sc_law.nd rfl (Or.inl rfl) (Z.pe_kn k__law_box hr (by decide) (by rfl) (pa_cons (Z.pe_kn k__law_cell hr (by decide) (by rfl) (pa_cons (pv 0) (pa_cons (pv 1) pa_nil))) pa_nil)))
      (pss_cons (ps_set (i := 3) sc_law.nd rfl (Or.inl rfl) (pe_ix (Z.ix_A K rfl) (pe_lst (pa_cons pe_non (pa_cons pe_bl (pa_cons pe_int (pa_cons (pe_lst (pa_cons pe_str pa_nil)) (pa_cons (pe_tup (pa_cons pe_str pa_nil)) (pa_cons pe_dnewK (pa_cons (pe_disp (pps_cons pe_str pe_int pps_nil) (by rfl) (by rfl) (fun z => by cases z) (by decide)) (pa_cons pe_str pa_nil))))))))) (Z.pe_kn k__law_take hr (by decide) (by rfl) (pa_cons (pv 2) (pa_cons pe_int pa_nil))) (fun _ _ => rfl)))
      (pss_cons (ps_set (i := 4) sc_law.nd rfl (Or.inl rfl) (Z.pe_kn k__law_number hr (by decide) (by rfl) (pa_cons (pv 2) pa_nil)))
      (pss_cons (ps_set (i := 5) sc_law.nd rfl (Or.inl rfl) (Z.pe_kn k__law_bounds hr (by decide) (by rfl) (pa_cons (pv 2) (pa_cons (pv 4) pa_nil))))
      (pss_cons (ps_set (i := 6) sc_law.nd rfl (Or.inl rfl) (pe_op Z.op_mulA (pe_ix (Z.ix_A K rfl) (pe_lst (pa_cons pe_str (pa_cons pe_str (pa_cons pe_str pa_nil)))) (Z.pe_kn k__law_take hr (by decide) (by rfl) (pa_cons (pv 2) (pa_cons pe_int pa_nil))) (fun _ _ => rfl)) (pe_ix (Z.ix_A K rfl) (pe_lst (pa_cons pe_int (pa_cons pe_int (pa_cons (pe_op Z.op_addA pe_int (Z.pe_kn k__law_take hr (by decide) (by rfl) (pa_cons (pv 2) (pa_cons pe_int pa_nil)))) pa_nil)))) (Z.pe_kn k__law_take hr (by decide) (by rfl) (pa_cons (pv 2) (pa_cons pe_int pa_nil))) (fun _ _ => rfl))))
      (pss_one (ps_for PassesOwn.never rfl (pi_list (pe_op Z.op_mulA (pe_lst (pa_cons (Z.pe_kn k__law_bent hr (by decide) (by rfl) (pa_cons (pv 2) (pa_cons (pe_callTy Z.call_strA (by rfl) m_str (by decide +kernel) (pa_cons (pv 4) pa_nil)) pa_nil))) (pa_cons (pv 3) (pa_cons (pe_callTy Z.call_strA (by rfl) m_str (by decide +kernel) (pa_cons (pv 4) pa_nil)) (pa_cons (pv 6) pa_nil))))) pe_int)) (pg_name (i := 7) sc_law.nd rfl (Or.inl rfl)) (pss_one (ps_for PassesOwn.never rfl (pi_list (pe_lst (pa_cons (pv 5) (pa_cons (pe_tup (pa_cons pe_int (pa_cons pe_int pa_nil))) (pa_cons (pe_tup (pa_cons pe_int (pa_cons pe_int pa_nil))) (pa_cons (pe_tup (pa_cons pe_int (pa_cons (pe_op op_sub (pe_op op_pow pe_int pe_int) pe_int) pa_nil))) pa_nil)))))) (pg_tup rfl (pgs_cons (pg_name (i := 8) sc_law.nd rfl (Or.inl rfl)) (pgs_cons (pg_name (i := 9) sc_law.nd rfl (Or.inl rfl)) pgs_nil))) (pss_one (ps_if (pt_cmpR (Z.op_neB K rfl hr.units) (pe_callB Z.call_reprS (by rfl) m_repr (by decide +kernel) (pa_cons (Z.pe_kn k_whole_in hr (by decide) (by rfl) (pa_cons (pv 7) (pa_cons (pv 8) (pa_cons (pv 9) pa_nil)))) pa_nil)) (pe_callB Z.call_reprS (by rfl) m_repr (by decide +kernel) (pa_cons (Z.pe_kn k__law_read hr (by decide) (by rfl) (pa_cons (pv 7) (pa_cons (pv 8) (pa_cons (pv 9) pa_nil)))) pa_nil)) (nomark _)) (pss_one (ps_ret pe_bl)) pss_nil))))))))))))
      (pss_one (ps_ret pe_bl))), ?_⟩
    walk_at "zz"
    refine q_lenL hS ?_
    walk_at "zz"
    have hN : ((List.map V.int ns).length : Int) ≤ 63 := by rw [List.length_map]; omega
    generalize hL : ((List.map V.int ns).length : Int) = L at hN
    have hL0 : 0 ≤ L := by omega
    generalize hM : (if (if 20 < L then 20 else L) > 2 then (if 20 < L then 20 else L) else 2) = M
    have hM1 : 0 ≤ M ∧ M ≤ 63 := by subst hM; split <;> split <;> omega
    refine q_rngFor (fun i σ' H' => (∃ v1 v2 v3 v4 v5 v6 v7 v8 v9, σ' = [some (.ref a), v1, v2, v3, v4, v5, v6, v7, v8, v9]) ∧ Ex H H') (by omega) ⟨⟨_, _, _, _, _, _, _, _, _, rfl⟩, Ex.rfl⟩ ?_ ?_
    · rintro i σ' H0 hi ⟨⟨v1, v2, v3, v4, v5, v6, v7, v8, v9, rfl⟩, e0⟩
      walk_at "zz"
      refine ⟨a, i, ns, rfl, e0.sq hS, by omega, fun c => ?_⟩
      walk_at "zz"
      refine ⟨c, rfl, fun b H1 nb B1 e1 => ?_⟩
      walk_at "zz"
      refine q_newL fun p1 G1 n1 h1 d1 => ?_
      walk_at "zz"
      refine q_newT fun p2 G2 n2 h2 d2 => ?_
      walk_at "zz"
      refine q_dnewK fun p3 G3 n3 h3 d3 => ?_
      walk_at "zz"
      refine q_disp1 fun p4 G4 n4 h4 d4 => ?_
      walk_at "zz"
      refine q_newL fun p5 G5 n5 h5 d5 => ?_
      walk_at "zz"
      have eG : Ex H1 G5 := d1.tr (d2.tr (d3.tr (d4.tr d5)))
      have m1 := B1.ne n1
      have m2 := (B1.ex d1).ne n2
      have m3 := (B1.ex (d1.tr d2)).ne n3
      have m4 := (B1.ex (d1.tr (d2.tr d3))).ne n4
      have m5 := (B1.ex (d1.tr (d2.tr (d3.tr d4)))).ne n5
      refine ⟨b, _, _, rfl, B1.ex eG, by omega, by omega, by omega, fun x6 G6 g6 l6 B6 f6 => ?_⟩
      refine q_ixM (SqL.of (f6.get h5 m5)) g6 l6 fun odd modd => ?_
      have thO : Thing G6 odd ∧ odd ≠ .ref b := by
        simp only [List.mem_cons, List.not_mem_nil, or_false] at modd
        clear eG
        rcases modd with rfl | rfl | rfl | rfl | rfl | rfl | rfl | rfl
        · exact ⟨.non, by intro z; cases z⟩
        · exact ⟨.bl true, by intro z; cases z⟩
        · exact ⟨.int 7, by intro z; cases z⟩
        · exact ⟨.lst p1 _ (by walk_at "cr"), by intro z; exact m1 (V.ref.inj z)⟩
        · exact ⟨.tup p2 _ (by walk_at "cr"), by intro z; exact m2 (V.ref.inj z)⟩
        · exact ⟨.dK p3 _ (by walk_at "cr"), by intro z; exact m3 (V.ref.inj z)⟩
        · exact ⟨.dK p4 _ (by walk_at "cr"), by intro z; exact m4 (V.ref.inj z)⟩
        · exact ⟨.str _ ⟨by decide +kernel, by decide +kernel⟩, by intro z; cases z⟩
      have e16 : Fb b H1 G6 := (Fb.ex eG).tr f6
      walk_at "zz"
      refine ⟨b, _, rfl, B6, by omega, fun nm H2 nm0 nm1 B2 f2 => ?_⟩
      walk_at "zz"
      refine ⟨b, _, nm, rfl, B2, by omega, fun pb lo3 hi3 H3 hi0 hi1 hb3 B3 f3 => ?_⟩
      walk_at "zz"
      refine q_newL fun pA HA nA hA eA => ?_
      walk_at "zz"
      refine ⟨b, _, _, rfl, B3.ex eA, by omega, by omega, by omega, fun x7 H7 g7 l7 B7 f7 => ?_⟩
      refine q_ixM (SqL.of (f7.get hA (B3.ne nA))) g7 l7 fun sv msv => ?_
      obtain ⟨cs, rfl, hcs⟩ : ∃ c, sv = .str ⟨#[c]⟩ ∧ c < 128 := by
        simp only [List.mem_cons, List.not_mem_nil, or_false] at msv
        rcases msv with rfl | rfl | rfl
        · exact ⟨49, rfl, by decide⟩
        · exact ⟨48, rfl, by decide⟩
        · exact ⟨57, rfl, by decide⟩
      walk_at "zz"
      refine ⟨b, _, _, rfl, B7, by omega, by omega, by omega, fun x8 H8 g8 l8 B8 f8 => ?_⟩
      walk_at "zz"
      refine q_newL fun pB HB nB hB eB => ?_
      walk_at "zz"
      refine ⟨b, _, _, rfl, B8.ex eB, by omega, by omega, by omega, fun x9 H9 g9 l9 B9 f9 => ?_⟩
      refine q_ixM (SqL.of (f9.get hB (B8.ne nB))) g9 l9 fun kv mkv => ?_
      obtain ⟨kk, rfl, hk1, hk2⟩ : ∃ i : Int, kv = .int i ∧ 1 ≤ i ∧ i ≤ 400 := by
        simp only [List.mem_cons, List.not_mem_nil, or_false] at mkv
        rcases mkv with rfl | rfl | rfl
        · exact ⟨400, rfl, by decide, by decide⟩
        · exact ⟨31, rfl, by decide, by decide⟩
        · exact ⟨1 + x8, rfl, by omega, by omega⟩
      refine q_repS hk1 (by omega) fun great hgl hgc => ?_
      have tg : Tn 400 great := ⟨by omega, fun d hd => by rw [hgc d hd]; exact hcs⟩
      walk_at "zz"
      obtain ⟨nn, rfl⟩ := Int.eq_ofNat_of_zero_le nm0
      have tn : Tn 30 (Str.ofString (toString ((nn : Nat) : Int))) := num_Tn (by decide) (by omega)
      refine q_strI (log_small nm0 nm1) ?_
      walk_at "zz"
      refine ⟨b, _, _, rfl, B9, by omega, tn.mono (by omega), fun zb H10 hzb B10 f10 => ?_⟩
      walk_at "zz"
      refine q_strI (log_small nm0 nm1) ?_
      walk_at "zz"
      refine q_newL fun pC HC nC hC eC => ?_
      walk_at "zz"
      refine q_repL hC (by decide) (by decide) (Nat.le_of_ble_eq_true rfl) fun pD HD nD hD eD => ?_
      walk_at "zz"
      have f6D : Fb b G6 HD := f2.tr (f3.tr ((Fb.ex eA).tr (f7.tr (f8.tr ((Fb.ex eB).tr (f9.tr (f10.tr (Fb.ex (eC.tr eD)))))))))
      have e0D : Ex H0 HD := Fb.mut e1 nb (e16.tr f6D)
      have g3 : HD pb = some (.tup [.int lo3, .int hi3]) := ((Fb.ex eA).tr (f7.tr (f8.tr ((Fb.ex eB).tr (f9.tr (f10.tr (Fb.ex (eC.tr eD)))))))) _ _ hb3 (B3.neT hb3)
      have hD' : HD pD = some (.lst [.str zb, odd, .str (Str.ofString (toString ((nn : Nat) : Int))), .str great, .str zb, odd, .str (Str.ofString (toString ((nn : Nat) : Int))), .str great]) := hD
      clear hD
      have thD : Thing HD odd := Fb.thing (n := 0) f6D thO.1 thO.2
      have ets : ∀ x : V, x ∈ [V.str zb, odd, .str (Str.ofString (toString ((nn : Nat) : Int))), .str great, .str zb, odd, .str (Str.ofString (toString ((nn : Nat) : Int))), .str great] → Thing HD x := by
        intro x hx
        simp only [List.mem_cons, List.not_mem_nil, or_false] at hx
        rcases hx with rfl | rfl | rfl | rfl | rfl | rfl | rfl | rfl
        · exact .str _ (hzb.mono (by omega))
        · exact thD
        · exact .str _ (tn.mono (by omega))
        · exact .str _ (tg.mono (by omega))
        · exact .str _ (hzb.mono (by omega))
        · exact thD
        · exact .str _ (tn.mono (by omega))
        · exact .str _ (tg.mono (by omega))
      refine q_listFor (SqL.of hD') (fun j σ' H' => (∃ w7 w8 w9, σ' = [some (.ref a), some (.int (i : Int)), some (.ref b), some odd, some (.int (nn : Int)), some (.ref pb), some (.str great), w7, w8, w9]) ∧ Ex HD H') ⟨⟨_, _, _, rfl⟩, Ex.rfl⟩ (fun _ _ _ p => SqL.of (p.2 _ _ hD')) ?_ ?_
      · rintro j x σ' HE hx ⟨⟨w7, w8, w9, rfl⟩, eE⟩
        have thx : Thing HE x := (ets x (List.mem_of_getElem? hx)).ex eE
        walk_at "zz"
        refine q_newT fun q1 J1 o1 i1 u1 => ?_
        walk_at "zz"
        refine q_newT fun q2 J2 o2 i2 u2 => ?_
        walk_at "zz"
        rename_i vm hvm
        refine q_newT fun q3 J3 o3 i3 u3 => ?_
        walk_at "zz"
        refine q_newL fun q4 J4 o4 i4 u4 => ?_
        walk_at "zz"
        have eJ : Ex HE J4 := u1.tr (u2.tr (u3.tr u4))
        have k1 : J4 pb = some (.tup [.int lo3, .int hi3]) := eJ _ _ (eE _ _ g3)
        have k2 : J4 q1 = some (.tup [.int 0, .int 999999]) := u4 _ _ (u3 _ _ (u2 _ _ i1))
        have k3 : J4 q2 = some (.tup [.int 0, .int 0]) := u4 _ _ (u3 _ _ i2)
        have k4 : J4 q3 = some (.tup [.int 1, .int (vm - 1)]) := u4 _ _ i3
        refine q_listFor (SqL.of i4) (fun l σ' H' => (∃ w8 w9, σ' = [some (.ref a), some (.int (i : Int)), some (.ref b), some odd, some (.int (nn : Int)), some (.ref pb), some (.str great), some x, w8, w9]) ∧ Ex J4 H') ⟨⟨_, _, rfl⟩, Ex.rfl⟩ (fun _ _ _ p => SqL.of (p.2 _ _ i4)) ?_ ?_
        · rintro l y σ' HF hy ⟨⟨w8, w9, rfl⟩, eF⟩
          have hy' := List.mem_of_getElem? hy
          obtain ⟨py, lo, hi, rfl, gy, y0, y1⟩ : ∃ py lo hi, y = .ref py ∧ HF py = some (.tup [.int lo, .int hi]) ∧ 0 ≤ hi ∧ hi < 1000000000000000000000000000000 := by
            simp only [List.mem_cons, List.not_mem_nil, or_false] at hy'
            rcases hy' with rfl | rfl | rfl | rfl
            · exact ⟨pb, _, _, rfl, eF _ _ k1, hi0, hi1⟩
            · exact ⟨q1, _, _, rfl, eF _ _ k2, by decide, by decide⟩
            · exact ⟨q2, _, _, rfl, eF _ _ k3, by decide, by decide⟩
            · exact ⟨q3, _, _, rfl, eF _ _ k4, by omega, by omega⟩
          refine q_gTup (SqT.of gy) rfl ?_
          walk_at "zz"
          have thF : Thing HF x := (thx.ex eJ).ex eF
          refine ⟨x, lo, hi, rfl, thF, y0, y1, fun HG eG2 => ?_⟩
          walk_at "zz"
          refine q_reprR x lo hi y1 fun t ht => ?_
          walk_at "zz"
          refine ⟨x, lo, hi, rfl, thF.ex eG2, ?_⟩
          walk_at "zz"
          refine q_reprR x lo hi y1 fun t2 ht2 => ?_
          obtain rfl : t = t2 := Option.some.inj (ht.symm.trans ht2)
          walk_at "zz"
          exact ⟨⟨_, _, rfl⟩, eF.tr eG2⟩
        · rintro σ' HF ⟨⟨w8, w9, rfl⟩, eF⟩
          exact ⟨⟨_, _, _, rfl⟩, eE.tr (eJ.tr eF)⟩
      · rintro σ' HE ⟨⟨w7, w8, w9, rfl⟩, eE⟩
        exact ⟨⟨_, _, _, _, _, _, _, _, _, rfl⟩, e0.tr (e0D.tr eE)⟩
    · rintro σ' H' ⟨⟨v1, v2, v3, v4, v5, v6, v7, v8, v9, rfl⟩, e0⟩
      walk_at "zz"
      exact q _
end
theorem all_mk {l : PySem.W.OpenLaw} {w : World} {K : PySem.W.Frag} {h : Heap} {mg : Str → Option Value} {fa f_has_only f__law_cell f__law_box f__law_take f__law_read f_is_plainly_written f__law_number f__law_bounds f__law_bent f_whole_in f_law : Addr} (X : K.In h) (G : h.Ns mainGlobals mg) (hfa : mg "law" = some (.ref fa))
    {od_has_only an_has_only : Option Addr} {sl_has_only : Array (Option Value)} {oc_has_only kV_has_only dc_has_only pm_has_only cd_has_only ct_has_only : Value}
    {od__law_cell an__law_cell : Option Addr} {sl__law_cell : Array (Option Value)} {oc__law_cell kV__law_cell dc__law_cell pm__law_cell cd__law_cell ct__law_cell : Value}
    {od__law_box an__law_box : Option Addr} {sl__law_box : Array (Option Value)} {oc__law_box kV__law_box dc__law_box pm__law_box cd__law_box ct__law_box : Value}
    {od__law_take an__law_take : Option Addr} {sl__law_take : Array (Option Value)} {oc__law_take kV__law_take dc__law_take pm__law_take cd__law_take ct__law_take : Value}
    {od__law_read an__law_read : Option Addr} {sl__law_read : Array (Option Value)} {oc__law_read kV__law_read dc__law_read pm__law_read cd__law_read ct__law_read : Value}
    {od_is_plainly_written an_is_plainly_written : Option Addr} {sl_is_plainly_written : Array (Option Value)} {oc_is_plainly_written kV_is_plainly_written dc_is_plainly_written pm_is_plainly_written cd_is_plainly_written ct_is_plainly_written : Value}
    {od__law_number an__law_number : Option Addr} {sl__law_number : Array (Option Value)} {oc__law_number kV__law_number dc__law_number pm__law_number cd__law_number ct__law_number : Value}
    {od__law_bounds an__law_bounds : Option Addr} {sl__law_bounds : Array (Option Value)} {oc__law_bounds kV__law_bounds dc__law_bounds pm__law_bounds cd__law_bounds ct__law_bounds : Value}
    {od__law_bent an__law_bent : Option Addr} {sl__law_bent : Array (Option Value)} {oc__law_bent kV__law_bent dc__law_bent pm__law_bent cd__law_bent ct__law_bent : Value}
    {od_whole_in an_whole_in : Option Addr} {sl_whole_in : Array (Option Value)} {oc_whole_in kV_whole_in dc_whole_in pm_whole_in cd_whole_in ct_whole_in : Value}
    {od_law an_law : Option Addr} {sl_law : Array (Option Value)} {oc_law kV_law dc_law pm_law cd_law ct_law : Value}
    {u_FIGURES : Value}
    (a_has_only : PySem.W.nsIn K mainGlobals "has_only" = some (some (.ref f_has_only))) (l_has_only : K.lookup f_has_only = some ⟨oc_has_only, od_has_only, .func (PySem.W.fnOf "has_only" "has_only" (defArgs s_has_only) (defBody s_has_only) (defScope s_has_only) .none kV_has_only dc_has_only pm_has_only an_has_only cd_has_only ct_has_only), sl_has_only⟩)
    (c_has_only : PySem.W.codeIn K cd_has_only "has_only" = true) (k_has_only : PySem.W.keepIn K (.ref f_has_only) = true)
    (a__law_cell : PySem.W.nsIn K mainGlobals "_law_cell" = some (some (.ref f__law_cell))) (l__law_cell : K.lookup f__law_cell = some ⟨oc__law_cell, od__law_cell, .func (PySem.W.fnOf "_law_cell" "_law_cell" (defArgs s__law_cell) (defBody s__law_cell) (defScope s__law_cell) .none kV__law_cell dc__law_cell pm__law_cell an__law_cell cd__law_cell ct__law_cell), sl__law_cell⟩)
    (c__law_cell : PySem.W.codeIn K cd__law_cell "_law_cell" = true) (k__law_cell : PySem.W.keepIn K (.ref f__law_cell) = true)
    (a__law_box : PySem.W.nsIn K mainGlobals "_law_box" = some (some (.ref f__law_box))) (l__law_box : K.lookup f__law_box = some ⟨oc__law_box, od__law_box, .func (PySem.W.fnOf "_law_box" "_law_box" (defArgs s__law_box) (defBody s__law_box) (defScope s__law_box) .none kV__law_box dc__law_box pm__law_box an__law_box cd__law_box ct__law_box), sl__law_box⟩)
    (c__law_box : PySem.W.codeIn K cd__law_box "_law_box" = true) (k__law_box : PySem.W.keepIn K (.ref f__law_box) = true)
    (a__law_take : PySem.W.nsIn K mainGlobals "_law_take" = some (some (.ref f__law_take))) (l__law_take : K.lookup f__law_take = some ⟨oc__law_take, od__law_take, .func (PySem.W.fnOf "_law_take" "_law_take" (defArgs s__law_take) (defBody s__law_take) (defScope s__law_take) .none kV__law_take dc__law_take pm__law_take an__law_take cd__law_take ct__law_take), sl__law_take⟩)
    (c__law_take : PySem.W.codeIn K cd__law_take "_law_take" = true) (k__law_take : PySem.W.keepIn K (.ref f__law_take) = true)
    (a__law_read : PySem.W.nsIn K mainGlobals "_law_read" = some (some (.ref f__law_read))) (l__law_read : K.lookup f__law_read = some ⟨oc__law_read, od__law_read, .func (PySem.W.fnOf "_law_read" "_law_read" (defArgs s__law_read) (defBody s__law_read) (defScope s__law_read) .none kV__law_read dc__law_read pm__law_read an__law_read cd__law_read ct__law_read), sl__law_read⟩)
    (c__law_read : PySem.W.codeIn K cd__law_read "_law_read" = true) (k__law_read : PySem.W.keepIn K (.ref f__law_read) = true)
    (a_is_plainly_written : PySem.W.nsIn K mainGlobals "is_plainly_written" = some (some (.ref f_is_plainly_written))) (l_is_plainly_written : K.lookup f_is_plainly_written = some ⟨oc_is_plainly_written, od_is_plainly_written, .func (PySem.W.fnOf "is_plainly_written" "is_plainly_written" (defArgs s_is_plainly_written) (defBody s_is_plainly_written) (defScope s_is_plainly_written) .none kV_is_plainly_written dc_is_plainly_written pm_is_plainly_written an_is_plainly_written cd_is_plainly_written ct_is_plainly_written), sl_is_plainly_written⟩)
    (c_is_plainly_written : PySem.W.codeIn K cd_is_plainly_written "is_plainly_written" = true) (k_is_plainly_written : PySem.W.keepIn K (.ref f_is_plainly_written) = true)
    (a__law_number : PySem.W.nsIn K mainGlobals "_law_number" = some (some (.ref f__law_number))) (l__law_number : K.lookup f__law_number = some ⟨oc__law_number, od__law_number, .func (PySem.W.fnOf "_law_number" "_law_number" (defArgs s__law_number) (defBody s__law_number) (defScope s__law_number) .none kV__law_number dc__law_number pm__law_number an__law_number cd__law_number ct__law_number), sl__law_number⟩)
    (c__law_number : PySem.W.codeIn K cd__law_number "_law_number" = true) (k__law_number : PySem.W.keepIn K (.ref f__law_number) = true)
    (a__law_bounds : PySem.W.nsIn K mainGlobals "_law_bounds" = some (some (.ref f__law_bounds))) (l__law_bounds : K.lookup f__law_bounds = some ⟨oc__law_bounds, od__law_bounds, .func (PySem.W.fnOf "_law_bounds" "_law_bounds" (defArgs s__law_bounds) (defBody s__law_bounds) (defScope s__law_bounds) .none kV__law_bounds dc__law_bounds pm__law_bounds an__law_bounds cd__law_bounds ct__law_bounds), sl__law_bounds⟩)
    (c__law_bounds : PySem.W.codeIn K cd__law_bounds "_law_bounds" = true) (k__law_bounds : PySem.W.keepIn K (.ref f__law_bounds) = true)
    (a__law_bent : PySem.W.nsIn K mainGlobals "_law_bent" = some (some (.ref f__law_bent))) (l__law_bent : K.lookup f__law_bent = some ⟨oc__law_bent, od__law_bent, .func (PySem.W.fnOf "_law_bent" "_law_bent" (defArgs s__law_bent) (defBody s__law_bent) (defScope s__law_bent) .none kV__law_bent dc__law_bent pm__law_bent an__law_bent cd__law_bent ct__law_bent), sl__law_bent⟩)
    (c__law_bent : PySem.W.codeIn K cd__law_bent "_law_bent" = true) (k__law_bent : PySem.W.keepIn K (.ref f__law_bent) = true)
    (a_whole_in : PySem.W.nsIn K mainGlobals "whole_in" = some (some (.ref f_whole_in))) (l_whole_in : K.lookup f_whole_in = some ⟨oc_whole_in, od_whole_in, .func (PySem.W.fnOf "whole_in" "whole_in" (defArgs s_whole_in) (defBody s_whole_in) (defScope s_whole_in) .none kV_whole_in dc_whole_in pm_whole_in an_whole_in cd_whole_in ct_whole_in), sl_whole_in⟩)
    (c_whole_in : PySem.W.codeIn K cd_whole_in "whole_in" = true) (k_whole_in : PySem.W.keepIn K (.ref f_whole_in) = true)
    (a_law : PySem.W.nsIn K mainGlobals "law" = some (some (.ref f_law))) (l_law : K.lookup f_law = some ⟨oc_law, od_law, .func (PySem.W.fnOf "law" "law" (defArgs s_law) (defBody s_law) (defScope s_law) .none kV_law dc_law pm_law an_law cd_law ct_law), sl_law⟩)
    (c_law : PySem.W.codeIn K cd_law "law" = true) (k_law : PySem.W.keepIn K (.ref f_law) = true)
    (g_FIGURES : PySem.W.nsIn K mainGlobals "FIGURES" = some (some u_FIGURES)) (r_FIGURES : RelV (V.str ("0123456789" : Str)) u_FIGURES)
    (z_all : PySem.W.nsIn K mainGlobals "all" = some none)
    (z_len : PySem.W.nsIn K mainGlobals "len" = some none)
    (z_max : PySem.W.nsIn K mainGlobals "max" = some none)
    (z_isinstance : PySem.W.nsIn K mainGlobals "isinstance" = some none)
    (z_str : PySem.W.nsIn K mainGlobals "str" = some none)
    (z_min : PySem.W.nsIn K mainGlobals "min" = some none)
    (z_int : PySem.W.nsIn K mainGlobals "int" = some none)
    (z_range : PySem.W.nsIn K mainGlobals "range" = some none)
    (z_repr : PySem.W.nsIn K mainGlobals "repr" = some none)
    : ∃ fd : FuncData, (∀ (s : Shared) (v : Value), BindsTo s fd ⟨[v], []⟩ [("script", v)]) ∧ ∀ base : Heap, K.In base → base.Ns mainGlobals mg → FnOk l.prog w K mg base CX0 4 fa fd ["script"] (sp_law K) := by
  have e := hfa.symm.trans (PySem.W.mg_of X G a_law)
  cases e
  have m_all : mg "all" = none := PySem.W.mg_none_of X G z_all
  have m_len : mg "len" = none := PySem.W.mg_none_of X G z_len
  have m_max : mg "max" = none := PySem.W.mg_none_of X G z_max
  have m_isinstance : mg "isinstance" = none := PySem.W.mg_none_of X G z_isinstance
  have m_str : mg "str" = none := PySem.W.mg_none_of X G z_str
  have m_min : mg "min" = none := PySem.W.mg_none_of X G z_min
  have m_int : mg "int" = none := PySem.W.mg_none_of X G z_int
  have m_range : mg "range" = none := PySem.W.mg_none_of X G z_range
  have m_repr : mg "repr" = none := PySem.W.mg_none_of X G z_repr
  have c_FIGURES : ∃ u, mg "FIGURES" = some u ∧ RelV (V.str ("0123456789" : Str)) u := ⟨_, PySem.W.mg_of X G g_FIGURES, r_FIGURES⟩
  have F_has_only := fun_mk (st := s_has_only) l_has_only c_has_only k_has_only
  have D_has_only : Df K mg "has_only" s_has_only ["text", "signs"] := ⟨_, _, F_has_only, PySem.W.mg_of X G a_has_only, F_has_only.binds (ps := ["text", "signs"]) fun _ _ _ _ _ _ us hl => match us, hl with | [_, _], _ => rfl⟩
  have F__law_cell := fun_mk (st := s__law_cell) l__law_cell c__law_cell k__law_cell
  have D__law_cell : Df K mg "_law_cell" s__law_cell ["script", "k"] := ⟨_, _, F__law_cell, PySem.W.mg_of X G a__law_cell, F__law_cell.binds (ps := ["script", "k"]) fun _ _ _ _ _ _ us hl => match us, hl with | [_, _], _ => rfl⟩
  have F__law_box := fun_mk (st := s__law_box) l__law_box c__law_box k__law_box
  have D__law_box : Df K mg "_law_box" s__law_box ["cell"] := ⟨_, _, F__law_box, PySem.W.mg_of X G a__law_box, F__law_box.binds (ps := ["cell"]) fun _ _ _ _ _ _ us hl => match us, hl with | [_], _ => rfl⟩
  have F__law_take := fun_mk (st := s__law_take) l__law_take c__law_take k__law_take
  have D__law_take : Df K mg "_law_take" s__law_take ["box", "many"] := ⟨_, _, F__law_take, PySem.W.mg_of X G a__law_take, F__law_take.binds (ps := ["box", "many"]) fun _ _ _ _ _ _ us hl => match us, hl with | [_, _], _ => rfl⟩
  have F__law_read := fun_mk (st := s__law_read) l__law_read c__law_read k__law_read
  have D__law_read : Df K mg "_law_read" s__law_read ["thing", "low", "high"] := ⟨_, _, F__law_read, PySem.W.mg_of X G a__law_read, F__law_read.binds (ps := ["thing", "low", "high"]) fun _ _ _ _ _ _ us hl => match us, hl with | [_, _, _], _ => rfl⟩
  have F_is_plainly_written := fun_mk (st := s_is_plainly_written) l_is_plainly_written c_is_plainly_written k_is_plainly_written
  have D_is_plainly_written : Df K mg "is_plainly_written" s_is_plainly_written ["text"] := ⟨_, _, F_is_plainly_written, PySem.W.mg_of X G a_is_plainly_written, F_is_plainly_written.binds (ps := ["text"]) fun _ _ _ _ _ _ us hl => match us, hl with | [_], _ => rfl⟩
  have F__law_number := fun_mk (st := s__law_number) l__law_number c__law_number k__law_number
  have D__law_number : Df K mg "_law_number" s__law_number ["box"] := ⟨_, _, F__law_number, PySem.W.mg_of X G a__law_number, F__law_number.binds (ps := ["box"]) fun _ _ _ _ _ _ us hl => match us, hl with | [_], _ => rfl⟩
  have F__law_bounds := fun_mk (st := s__law_bounds) l__law_bounds c__law_bounds k__law_bounds
  have D__law_bounds : Df K mg "_law_bounds" s__law_bounds ["box", "number"] := ⟨_, _, F__law_bounds, PySem.W.mg_of X G a__law_bounds, F__law_bounds.binds (ps := ["box", "number"]) fun _ _ _ _ _ _ us hl => match us, hl with | [_, _], _ => rfl⟩
  have F__law_bent := fun_mk (st := s__law_bent) l__law_bent c__law_bent k__law_bent
  have D__law_bent : Df K mg "_law_bent" s__law_bent ["box", "text"] := ⟨_, _, F__law_bent, PySem.W.mg_of X G a__law_bent, F__law_bent.binds (ps := ["box", "text"]) fun _ _ _ _ _ _ us hl => match us, hl with | [_, _], _ => rfl⟩
  have F_whole_in := fun_mk (st := s_whole_in) l_whole_in c_whole_in k_whole_in
  have D_whole_in : Df K mg "whole_in" s_whole_in ["thing", "low", "high"] := ⟨_, _, F_whole_in, PySem.W.mg_of X G a_whole_in, F_whole_in.binds (ps := ["thing", "low", "high"]) fun _ _ _ _ _ _ us hl => match us, hl with | [_, _, _], _ => rfl⟩
  have F_law := fun_mk (st := s_law) l_law c_law k_law
  have D_law : Df K mg "law" s_law ["script"] := ⟨_, _, F_law, PySem.W.mg_of X G a_law, F_law.binds (ps := ["script"]) fun _ _ _ _ _ _ us hl => match us, hl with | [_], _ => rfl⟩
  refine ⟨PySem.W.fnOf "law" "law" (defArgs s_law) (defBody s_law) (defScope s_law) .none kV_law dc_law pm_law an_law cd_law ct_law, fun s v => .of_eq rfl, fun base _ _ => ?_⟩
  have K_has_only : Kn l.prog w K mg base 1 "has_only" (sp_has_only K) := kn_has_only D_has_only m_all
  have K__law_cell : Kn l.prog w K mg base 1 "_law_cell" (sp__law_cell K) := kn__law_cell D__law_cell m_len
  have K__law_box : Kn l.prog w K mg base 1 "_law_box" (sp__law_box K) := kn__law_box D__law_box m_max
  have K__law_take : Kn l.prog w K mg base 1 "_law_take" (sp__law_take K) := kn__law_take D__law_take 
  have K__law_read : Kn l.prog w K mg base 1 "_law_read" (sp__law_read K) := kn__law_read D__law_read m_len m_isinstance m_str
  have K_is_plainly_written : Kn l.prog w K mg base 2 "is_plainly_written" (sp_is_plainly_written K) := kn_is_plainly_written D_is_plainly_written c_FIGURES K_has_only
  have K__law_number : Kn l.prog w K mg base 2 "_law_number" (sp__law_number K) := kn__law_number D__law_number K__law_take
  have K__law_bounds : Kn l.prog w K mg base 2 "_law_bounds" (sp__law_bounds K) := kn__law_bounds D__law_bounds m_max m_min K__law_take
  have K__law_bent : Kn l.prog w K mg base 2 "_law_bent" (sp__law_bent K) := kn__law_bent D__law_bent m_len K__law_take
  have K_whole_in : Kn l.prog w K mg base 3 "whole_in" (sp_whole_in K) := kn_whole_in D_whole_in m_int m_len m_str m_isinstance K_is_plainly_written
  exact fn_law F_law m_range m_max m_min m_len m_str m_repr K__law_bent K_whole_in K__law_read K__law_take K__law_bounds K__law_number K__law_box K__law_cell
theorem walk {l : PySem.W.OpenLaw} {q : Program} {loose : List Str} {XP : (Str → Option Value) → Heap → Prop} {YP : World → Heap → Prop} {d : DefRec} {K : Params → PySem.W.Frag} (hn : l.most = some 63) (hdf : d.params.defaults = [])
    (hY : ∀ (w : World) (h : Heap), YP w h → (K w.params).In h)
    (F : ∀ (w : World) (mg : Str → Option Value) (fa : Addr) (h : Heap), (K w.params).In h → h.Ns mainGlobals mg → mg d.name = some (.ref fa) →
      ∃ fd : FuncData, (∀ (s : Shared) (u : Value), BindsTo s fd ⟨[u], []⟩ [("script", u)]) ∧ ∀ base : Heap, (K w.params).In base → base.Ns mainGlobals mg → FnOk l.prog w (K w.params) mg base CX0 4 fa fd ["script"] (sp_law (K w.params))) :
    PySem.W.WalkO q loose XP YP l.row.toRowW d [] (fun f vs => PySem.call f vs) :=
  L2.walk_of (n := 63) (k := 4) (x := "script") (CX := fun _ => CX0) (sp := fun w => sp_law (K w.params)) hn (by decide) hdf ⟨rfl, by decide, by decide⟩ hY F (fun _ _ a ns hl _ hS => ⟨a, ns, rfl, hS, hl, fun _ => rfl⟩) fun _ _ _ _ _ z => z
end My
open PySem PySem.W PyProof.Rows
set_option maxRecDepth 100000 in
set_option maxHeartbeats 0 in
theorem PySem.Challenge.cw_shelvesmoved_k02_numbers_read_holds : PySem.Challenge.rw_shelvesmoved_k02_numbers_read.Holds := by
  w_on; o_law; k_head; (case hw => w_witness2)
  k_fill
  refine My.walk (l := PySem.Challenge.rw_shelvesmoved_k02_numbers_read) rfl rfl (fun w h Y => PySem.W.kIn_of Y) ?F
  case F =>
    intro w mg fa h KX G hmg
    refine' My.all_mk KX G hmg ?a_has_only ?l_has_only ?c_has_only ?k_has_only ?a__law_cell ?l__law_cell ?c__law_cell ?k__law_cell ?a__law_box ?l__law_box ?c__law_box ?k__law_box ?a__law_take ?l__law_take ?c__law_take ?k__law_take ?a__law_read ?l__law_read ?c__law_read ?k__law_read ?a_is_plainly_written ?l_is_plainly_written ?c_is_plainly_written ?k_is_plainly_written ?a__law_number ?l__law_number ?c__law_number ?k__law_number ?a__law_bounds ?l__law_bounds ?c__law_bounds ?k__law_bounds ?a__law_bent ?l__law_bent ?c__law_bent ?k__law_bent ?a_whole_in ?l_whole_in ?c_whole_in ?k_whole_in ?a_law ?l_law ?c_law ?k_law ?g_FIGURES ?r_FIGURES ?z_all ?z_len ?z_max ?z_isinstance ?z_str ?z_min ?z_int ?z_range ?z_repr
    (case a_has_only => k_is)
    (case l_has_only => k_is)
    (case c_has_only => k_is)
    (case k_has_only => k_is)
    (case a__law_cell => k_is)
    (case l__law_cell => k_is)
    (case c__law_cell => k_is)
    (case k__law_cell => k_is)
    (case a__law_box => k_is)
    (case l__law_box => k_is)
    (case c__law_box => k_is)
    (case k__law_box => k_is)
    (case a__law_take => k_is)
    (case l__law_take => k_is)
    (case c__law_take => k_is)
    (case k__law_take => k_is)
    (case a__law_read => k_is)
    (case l__law_read => k_is)
    (case c__law_read => k_is)
    (case k__law_read => k_is)
    (case a_is_plainly_written => k_is)
    (case l_is_plainly_written => k_is)
    (case c_is_plainly_written => k_is)
    (case k_is_plainly_written => k_is)
    (case a__law_number => k_is)
    (case l__law_number => k_is)
    (case c__law_number => k_is)
    (case k__law_number => k_is)
    (case a__law_bounds => k_is)
    (case l__law_bounds => k_is)
    (case c__law_bounds => k_is)
    (case k__law_bounds => k_is)
    (case a__law_bent => k_is)
    (case l__law_bent => k_is)
    (case c__law_bent => k_is)
    (case k__law_bent => k_is)
    (case a_whole_in => k_is)
    (case l_whole_in => k_is)
    (case c_whole_in => k_is)
    (case k_whole_in => k_is)
    (case a_law => k_is)
    (case l_law => k_is)
    (case c_law => k_is)
    (case k_law => k_is)
    (case g_FIGURES => k_is)
    (case r_FIGURES => exact ⟨_, rfl⟩)
    (case z_all => k_is)
    (case z_len => k_is)
    (case z_max => k_is)
    (case z_isinstance => k_is)
    (case z_str => k_is)
    (case z_min => k_is)
    (case z_int => k_is)
    (case z_range => k_is)
    (case z_repr => k_is)
#print axioms PySem.Challenge.cw_shelvesmoved_k02_numbers_read_holds
