import PyProof.Rows.All
import Wide.All
import OpenK.AllK
import Wide.FinOn
import HandS.ForMost
import HandS.IsInst
import HandS.ExcInit
import HandS.ExcIs
import HandS.Codes
import HandS.TupLe
import HandS.Evl
import HandS.Replace
import KE.IntTextText
import KE.KIntText
import HandS.Exc
import HandS.ExcInit
import HandS.ExcField
import HandS.WordsExc
import HandS.TryMany
import HandS.CallSlots
import HandS.ExcOwn
import HandS.ClsMeth
import HandS.Zip
import KE.LtData
import KE.KExcStr
import PyProof.ExcReprCall
import KE.KTupSum
import PyProof.Conv_int_bool
import HandS.NoneIn
import HandS.TupAny
import HandS.Flow
import HandS.Defaults
import KE.DatumOrd
import HandS.TupMul
import KE.GoesZip
import KE.GoesMore
import KE.GoesEnum
import HandS.Walk
import HandS.Sort
import HandS.Style
import HandS.More
import HandS.Deep
import HandS.SetFor
import HandS.SortInts
import HandS.WrittenGet
import HandS.Text
import HandS.WordsDict
import PySem.Challenge.RW_shelvesmoved_k81_lines_read
set_option Elab.async false
set_option linter.all false
set_option maxRecDepth 100000
set_option maxHeartbeats 4000000
namespace Z
open PySem PySem.Spec PyProof.Rows L2

/-! ## heaps -/
/-- all that stood stands -/
def Ex (H H' : Hp) : Prop := ∀ a o, H a = some o → H' a = some o
theorem Ex.rfl {H : Hp} : Ex H H := fun _ _ h => h
theorem Ex.new {H : Hp} {p : Addr} {o : HO} (h : H p = none) : Ex H (upd H p o) := Evl.Ex.new h
theorem Ex.tr {H H1 H2 : Hp} (a : Ex H H1) (b : Ex H1 H2) : Ex H H2 := fun x o h => b x o (a x o h)
theorem Ex.sq {K : PySem.W.Frag} {H H' : Hp} {a : Addr} {xs : List V} (e : Ex H H') (h : SqL K H a xs) : SqL K H' a xs := Evl.ex_l e h
theorem Ex.st {K : PySem.W.Frag} {H H' : Hp} {a : Addr} {xs : List V} (e : Ex H H') (h : SqT K H a xs) : SqT K H' a xs := Evl.ex_t e h
theorem Ex.free {H H' : Hp} {p : Addr} (e : Ex H H') (h : H' p = none) : H p = none := Evl.fresh_back e h
/-- all that stood stands, but what is at b -/
def Fb (b : Addr) (H H' : Hp) : Prop := ∀ a o, H a = some o → a ≠ b → H' a = some o
theorem Fb.rfl {b : Addr} {H : Hp} : Fb b H H := fun _ _ h _ => h
theorem Fb.tr {b : Addr} {H H1 H2 : Hp} (x : Fb b H H1) (y : Fb b H1 H2) : Fb b H H2 := fun a o h n => y a o (x a o h n) n
theorem Fb.ex {b : Addr} {H H' : Hp} (e : Ex H H') : Fb b H H' := fun a o h _ => e a o h
theorem Fb.put {b : Addr} {H : Hp} {o : HO} : Fb b H (upd H b o) := fun a u h n => by rw [upd_ne n]; exact h
theorem Fb.new {b p : Addr} {H : Hp} {o : HO} (h : H p = none) : Fb b H (upd H p o) := Fb.ex (Ex.new h)
/-- what is new at b is not seen from ahead -/
theorem Fb.mut {b : Addr} {H H1 H2 : Hp} (e : Ex H H1) (n : H b = none) (f : Fb b H1 H2) : Ex H H2 := fun a o h => f a o (e a o h) (ne_of_none h n)
theorem Fb.sq {K : PySem.W.Frag} {b : Addr} {H H' : Hp} {a : Addr} {xs : List V} (e : Fb b H H') (h : SqL K H a xs) (n : a ≠ b) : SqL K H' a xs := by
  rcases h with (h | ⟨o, h⟩) | h
  · exact .inl (.inl (e _ _ h n))
  · exact .inl (.inr ⟨o, e _ _ h n⟩)
  · exact .inr h
theorem Fb.free {b p : Addr} {H H' : Hp} (e : Fb b H H') (n : p ≠ b) (h : H' p = none) : H p = none := by
  cases q : H p with
  | none => rfl
  | some o => rw [e p o q n] at h; cases h

/-! ## a step of a reading -/
section
variable {K : PySem.W.Frag} {σ : L2.St} {H : Hp} {Q : VK} {QB : Bool → Hp → Prop} {QA : List V → Hp → Prop} {ta tb tc : TE} {t u : TT} {r r' : R2} {D : Ends} {tu tw : TS}
theorem q_var {i : Nat} {v : V} (h : σ[i]? = some (some v)) (k : Q v H) : tVar i σ H Q := ⟨v, h, k⟩
theorem q_c {v : V} (k : Q v H) : tC v σ H Q := k
theorem q_op (k : ta σ H fun x H1 => tb σ H1 fun y H2 => r x y H2 Q) : tOp r ta tb σ H Q := k
theorem q_un {r : V → Hp → VK → Prop} (k : ta σ H fun x H1 => r x H1 Q) : tUn r ta σ H Q := k
theorem q_test (k : ta σ H fun x H1 => ∃ b, x = .bl b ∧ QB b H1) : tTest ta σ H QB := k
theorem q_B (k : ta σ H fun x H1 => ∃ b, x = .bl b ∧ QB b H1) : tB ta σ H QB := k
theorem q_and (k : t σ H fun c H1 => if c = true then u σ H1 QB else QB false H1) : tAnd t u σ H QB := k
theorem q_or (k : t σ H fun c H1 => if c = true then QB true H1 else u σ H1 QB) : tOr t u σ H QB := k
theorem q_not (k : t σ H fun c H1 => QB (!c) H1) : tNot t σ H QB := k
theorem q_andV (k : ta σ H fun x H1 => ∃ c, x = .bl c ∧ if c = true then tb σ H1 Q else Q (.bl false) H1) : tAndV ta tb σ H Q := k
theorem q_orV (k : ta σ H fun x H1 => ∃ c, x = .bl c ∧ if c = true then Q (.bl true) H1 else tb σ H1 Q) : tOrV ta tb σ H Q := k
theorem q_notV (k : ta σ H fun x H1 => ∃ c, x = .bl c ∧ Q (.bl (!c)) H1) : tNotV ta σ H Q := k
theorem q_if (k : t σ H fun c H1 => if c = true then ta σ H1 Q else tb σ H1 Q) : tIf t ta tb σ H Q := k
theorem q_chain (k : ta σ H fun x H1 => tb σ H1 fun y H2 => r x y H2 fun z H3 => ∃ k, z = .bl k ∧ if k = true then tc σ H3 fun w H4 => r' y w H4 Q else Q (.bl false) H3) : tChain r r' ta tb tc σ H Q := k
theorem q_nil (k : QA [] H) : tNil σ H QA := k
theorem q_cons {tr : TA} (k : ta σ H fun x H1 => tr σ H1 fun xs H2 => QA (x :: xs) H2) : tCons ta tr σ H QA := k
/-- a new object: what follows, over any heap that has it and all that stood -/
def New (mk : List V → HO) (Q : VK) (xs : List V) (H : Hp) : Prop := xs.length ≤ sizeLine ∧ ∀ p, H p = none → Q (.ref p) (upd H p (mk xs))
theorem q_tup {t : TA} (k : t σ H (New .tup Q)) : tTup t σ H Q := k
theorem q_lst {t : TA} (k : t σ H (New .lst Q)) : tLst t σ H Q := k
theorem q_newT {xs : List V} (k : ∀ p H', H p = none → H' p = some (.tup xs) → Ex H H' → Q (.ref p) H') (hz : Nat.ble xs.length 1000 = true := by rfl) : New .tup Q xs H := ⟨Nat.le_of_lt (small1000 (Nat.le_of_ble_eq_true hz)), fun p h => k p _ h upd_same (Ex.new h)⟩
theorem q_newL {xs : List V} (k : ∀ p H', H p = none → H' p = some (.lst xs) → Ex H H' → Q (.ref p) H') (hz : Nat.ble xs.length 1000 = true := by rfl) : New .lst Q xs H := ⟨Nat.le_of_lt (small1000 (Nat.le_of_ble_eq_true hz)), fun p h => k p _ h upd_same (Ex.new h)⟩
theorem q_call {sp : Sp} {dvs : List V} {E : XK} {t : TA} (k : t σ H fun vs H1 => sp (vs ++ dvs) H1 Q E) : tCall sp dvs E t σ H Q := k
theorem q_CB {r : List V → Hp → VK → Prop} {t : TA} (k : t σ H fun vs H1 => r vs H1 Q) : tCB r t σ H Q := k
theorem q_sl {r : V → Option Int → Option Int → Hp → VK → Prop} {tl th : TO} (k : ta σ H fun x H1 => tl σ H1 fun l H2 => th σ H2 fun u H3 => r x l u H3 Q) : tSl r ta tl th σ H Q := k
theorem q_noPart {QO : Option Int → Hp → Prop} (k : QO none H) : tNoPart σ H QO := k
theorem q_part {QO : Option Int → Hp → Prop} (k : ta σ H fun x H1 => ∃ i, x = .int i ∧ QO (some i) H1) : tPart ta σ H QO := k
theorem q_bm0 {T : String} {r : V → List V → Hp → VK → Prop} (k : ta σ H fun x H1 => tyV K T x H1 ∧ r x [] H1 Q) : tBM0 K T r ta σ H Q := k
theorem q_bm {T : String} {r : V → List V → Hp → VK → Prop} {t : TA} (k : ta σ H fun x H1 => tyV K T x H1 ∧ t σ H1 fun xs H2 => r x xs H2 Q) : tBM K T r ta t σ H Q := k
theorem q_ifS (k : t σ H fun b H1 => if b = true then tu D σ H1 else tw D σ H1) : tIfS t tu tw D σ H := k
theorem q_seq (k : tu { D with nx := tw D } σ H) : tSeq tu tw D σ H := k
theorem q_next (k : D.nx σ H) : tNext D σ H := k
theorem q_cont (k : D.ct σ H) : tCont D σ H := k
theorem q_brk (k : D.bk σ H) : tBreak D σ H := k
theorem q_drop (k : ta σ H fun _ H1 => D.nx σ H1) : tDrop ta D σ H := k
theorem q_ret (k : ta σ H D.rt) : tRet ta D σ H := k
theorem q_retN (k : D.rt .non H) : tRetN D σ H := k
theorem q_asg {i : Nat} (k : ta σ H fun x H1 => D.nx (σ.set i (some x)) H1) : tAsg ta (gName i) D σ H := k
theorem q_asgG {g : TG} (k : ta σ H fun x H1 => g x σ H1 D.nx) : tAsg ta g D σ H := k
theorem q_gName {i : Nat} {v : V} {QS : L2.St → Hp → Prop} (k : QS (σ.set i (some v)) H) : gName i v σ H QS := k
theorem q_gSub {s : TSet} {v : V} {QS : L2.St → Hp → Prop} (k : ta σ H fun o H1 => tb σ H1 fun i H2 => s o i v H2 fun H3 => QS σ H3) : gSub ta tb s v σ H QS := k
theorem q_gTup {n : Nat} {t : TGs} {a : Addr} {xs : List V} {QS : L2.St → Hp → Prop} (h : SqT K H a xs) (hn : xs.length = n) (k : t xs σ H QS) : gTup K n t (.ref a) σ H QS := ⟨a, xs, rfl, h, hn, k⟩
theorem q_gCons {t : TG} {u : TGs} {v : V} {r : List V} {QS : L2.St → Hp → Prop} (k : t v σ H fun σ' H' => u r σ' H' QS) : gCons t u (v :: r) σ H QS := ⟨v, r, rfl, k⟩
theorem q_gNil {QS : L2.St → Hp → Prop} (k : QS σ H) : gNil [] σ H QS := ⟨rfl, k⟩
theorem q_yes (k : QB true H) : tYes σ H QB := k
/-! operators -/
theorem q_I {C : Int → Int → Prop} {g : Int → Int → V} {i j : Int} (c : C i j) (k : Q (g i j) H) : rI C g (.int i) (.int j) H Q := ⟨i, j, rfl, rfl, c, k⟩
theorem q_I0 {g : Int → Int → V} {i j : Int} (k : Q (g i j) H) : rI0 g (.int i) (.int j) H Q := ⟨i, j, rfl, rfl, k⟩
theorem q_modP {i j : Int} (h : 0 < j) (k : Q (.int (i % j)) H) : rI (fun _ j => j ≠ 0) (fun i j => .int (i.fmod j)) (.int i) (.int j) H Q := ⟨i, j, rfl, rfl, by omega, by
  show Q (.int (i.fmod j)) H
  rw [Int.fmod_eq_emod_of_nonneg _ (by omega)]; exact k⟩
theorem q_divP {i j : Int} (h : 0 < j) (h2 : j < 1073741824) (k : Q (.int (i / j)) H) : rI CDivN (fun i j => .int (i.fdiv j)) (.int i) (.int j) H Q := ⟨i, j, rfl, rfl, ⟨by omega, by omega⟩, by
  show Q (.int (i.fdiv j)) H
  rw [Int.fdiv_eq_ediv_of_nonneg _ (by omega)]; exact k⟩
theorem q_pow {i j : Int} (h : 0 ≤ j) (h2 : j ≤ 1000000) (h3 : i.natAbs < 18446744073709551616) (k : Q (.int (i ^ j.toNat)) H) : rI CPow (fun i j => .int (i ^ j.toNat)) (.int i) (.int j) H Q := ⟨i, j, rfl, rfl, ⟨h, h2, h3⟩, k⟩
theorem q_powE {i j : Int} (h : 0 ≤ j) (h2 : j ≤ 1000000) (h3 : i.natAbs < 18446744073709551616) (k : ∀ v, v = i ^ j.toNat → Q (.int v) H) : rI CPow (fun i j => .int (i ^ j.toNat)) (.int i) (.int j) H Q := ⟨i, j, rfl, rfl, ⟨h, h2, h3⟩, k _ rfl⟩
theorem q_U {g : Int → V} {i : Int} (k : Q (g i) H) : rU g (.int i) H Q := ⟨i, rfl, k⟩
/-! tests that are known -/
theorem iteD {c A B : Prop} [Decidable c] (h1 : c → A) (h2 : ¬ c → B) : if decide c = true then A else B := by
  by_cases h : c
  · rw [decide_eq_true h]; exact iteT (h1 h)
  · rw [decide_eq_false h]; exact iteF (h2 h)
theorem iteY {c A B : Prop} [Decidable c] (h : c) (k : A) : if decide c = true then A else B := by
  rw [decide_eq_true h]; exact iteT k
theorem iteN {c A B : Prop} [Decidable c] (h : ¬ c) (k : B) : if decide c = true then A else B := by
  rw [decide_eq_false h]; exact iteF k
theorem iteR {b : Bool} {A B : Prop} (h : b = true) (k : A) : if b = true then A else B := by rw [h]; exact iteT k
theorem iteL {b : Bool} {A B : Prop} (h : b = false) (k : B) : if b = true then A else B := by rw [h]; exact iteF k
theorem iteB {b : Bool} {A B : Prop} (h1 : b = true → A) (h2 : b = false → B) : if b = true then A else B := by
  cases b with
  | true => exact iteT (h1 rfl)
  | false => exact iteF (h2 rfl)
end

/-! ## operators of several kinds -/
section
variable {X : Cx}
/-- + : ints, texts, lists -/
inductive rAddA (x y : V) (H : Hp) (Q : VK) : Prop where
  | int (i j : Int) (ex : x = .int i) (ey : y = .int j) (k : Q (.int (i + j)) H)
  | str (a b : Str) (ex : x = .str a) (ey : y = .str b) (h : a.length + b.length ≤ sizeLine) (k : Q (.str (a ++ b)) H)
  | lst (l b : Addr) (xs zs : List V) (ex : x = .ref l) (ey : y = .ref b) (hl : H l = some (.lst xs)) (hb : H b = some (.lst zs)) (hz : xs.length + zs.length ≤ sizeLine) (k : ∀ p, H p = none → Q (.ref p) (upd H p (.lst (xs ++ zs))))
theorem op_addA : OpR X (binaryOp .Add) rAddA := by
  intro pins s σ H x y v u Q I rx ry h
  cases h with
  | int i j ex ey k => exact op_add pins s σ H x y v u Q I rx ry ⟨i, j, ex, ey, k⟩
  | str i j ex ey h k => exact op_add_str pins s σ H x y v u Q I rx ry ⟨i, j, ex, ey, h, k⟩
  | lst l b xs zs ex ey hl hb hz k => exact op_cat pins s σ H x y v u Q I rx ry ⟨l, b, xs, zs, ex, ey, hl, hb, hz, k⟩
theorem q_addI {H : Hp} {Q : VK} {i j : Int} (k : Q (.int (i + j)) H) : rAddA (.int i) (.int j) H Q := .int i j rfl rfl k
theorem q_addS {H : Hp} {Q : VK} {i j : Str} (h : i.length + j.length ≤ sizeLine) (k : Q (.str (i ++ j)) H) : rAddA (.str i) (.str j) H Q := .str i j rfl rfl h k
theorem q_addL {H : Hp} {Q : VK} {l b : Addr} {xs zs : List V} (hl : H l = some (.lst xs)) (hb : H b = some (.lst zs)) (hz : xs.length + zs.length ≤ sizeLine) (k : ∀ p H', H p = none → H' p = some (.lst (xs ++ zs)) → Ex H H' → Q (.ref p) H') : rAddA (.ref l) (.ref b) H Q := .lst l b xs zs rfl rfl hl hb hz fun p h => k p _ h upd_same (Ex.new h)
theorem is_bool_gen {M : Model} {A : Around} {E : Value → Shared → Prop} {s : Shared} {Q : Value → Shared → Prop} {v : Value} {b : Bool} (hv : ∀ id, v ≠ .builtin id) (h : Q (.bool (v == .bool b)) s) : wpAny M A (compareOp .Is v (.bool b)) Q E s := by
  cases v <;> first | exact wpAny_pure h | exact absurd rfl (hv _)
/-- x is True, x is False: any x that is no object -/
def isBl : V → Bool → Bool
  | .bl a, b => a == b
  | _, _ => false
def rIsBA : R2 := fun x y H Q => ∃ b, y = .bl b ∧ Q (.bl (isBl x b)) H
theorem op_isBA : OpR X (compareOp .Is) rIsBA := by
  intro pins s σ H x y v u Q I rx ry h
  obtain ⟨b, rfl, q⟩ := h
  cases (show u = Value.bool b from ry)
  have key : isBl x b = (v == Value.bool b) := by
    cases x with
    | non => cases (show v = _ from rx); rfl
    | bl a =>
      cases (show v = _ from rx)
      cases a <;> cases b <;> rfl
    | int i => obtain ⟨t, rfl⟩ := rx; rfl
    | str i => obtain ⟨t, rfl⟩ := rx; rfl
    | byt i => obtain ⟨t, rfl⟩ := rx; rfl
    | flt i => obtain ⟨t, rfl⟩ := rx; rfl
    | ref i => cases (show v = _ from rx); rfl
    | ty i => cases (show v = _ from rx); rfl
  rw [key] at q
  refine is_bool_gen (fun id e => ?_) ⟨.bl _, H, I, rfl, q⟩
  subst e
  cases x with
  | non => cases rx
  | bl a => cases rx
  | int i => obtain ⟨t, z⟩ := rx; cases z
  | str i => obtain ⟨t, z⟩ := rx; cases z
  | byt i => obtain ⟨t, z⟩ := rx; cases z
  | flt i => obtain ⟨t, z⟩ := rx; cases z
  | ref i => cases rx
  | ty i => cases rx
theorem q_isBA {H : Hp} {Q : VK} {x : V} {b : Bool} (k : Q (.bl (isBl x b)) H) : rIsBA x (.bl b) H Q := ⟨b, rfl, k⟩
end

/-! ## ==, != of anything that is data -/
section
variable {X : Cx}
/-- + == : scalars, or data at any depth -/
def rEqA (K : PySem.W.Frag) : R2 := fun x y H Q => rEq x y H Q ∨ rEqD K x y H Q
def rNeA (K : PySem.W.Frag) : R2 := fun x y H Q => rNe x y H Q ∨ rNeD K x y H Q
theorem op_eqA (hu : X.A.units + 64 < cLine) : OpR X (compareOp .Eq) (rEqA X.K) := op_eq.or (op_eqD hu)
theorem op_neA (hu : X.A.units + 64 < cLine) : OpR X (compareOp .NotEq) (rNeA X.K) := op_ne.or (op_neD hu)
theorem q_eq {K : PySem.W.Frag} {H : Hp} {Q : VK} {x y : V} (h : scal x y = true) (k : Q (.bl (decide (x = y))) H) : rEqA K x y H Q := .inl ⟨h, k⟩
theorem q_ne {K : PySem.W.Frag} {H : Hp} {Q : VK} {x y : V} (h : scal x y = true) (k : Q (.bl (!decide (x = y))) H) : rNeA K x y H Q := .inl ⟨h, k⟩
theorem q_eqI {K : PySem.W.Frag} {H : Hp} {Q : VK} {i j : Int} (k : Q (.bl (decide (i = j))) H) : rEqA K (.int i) (.int j) H Q := .inl ⟨rfl, by
  rw [show decide (V.int i = V.int j) = decide (i = j) from decide_eq_decide.mpr ⟨V.int.inj, congrArg V.int⟩]; exact k⟩
theorem q_neI {K : PySem.W.Frag} {H : Hp} {Q : VK} {i j : Int} (k : Q (.bl (!decide (i = j))) H) : rNeA K (.int i) (.int j) H Q := .inl ⟨rfl, by
  rw [show decide (V.int i = V.int j) = decide (i = j) from decide_eq_decide.mpr ⟨V.int.inj, congrArg V.int⟩]; exact k⟩
theorem q_eqS {K : PySem.W.Frag} {H : Hp} {Q : VK} {i j : Str} (k : Q (.bl (decide (i = j))) H) : rEqA K (.str i) (.str j) H Q := .inl ⟨rfl, by
  rw [show decide (V.str i = V.str j) = decide (i = j) from decide_eq_decide.mpr ⟨V.str.inj, congrArg V.str⟩]; exact k⟩
theorem q_neS {K : PySem.W.Frag} {H : Hp} {Q : VK} {i j : Str} (k : Q (.bl (!decide (i = j))) H) : rNeA K (.str i) (.str j) H Q := .inl ⟨rfl, by
  rw [show decide (V.str i = V.str j) = decide (i = j) from decide_eq_decide.mpr ⟨V.str.inj, congrArg V.str⟩]; exact k⟩
theorem q_eqDt {K : PySem.W.Frag} {H : Hp} {Q : VK} {x y : V} {d e : PyData} (h1 : Dp K H x d) (h2 : Dp K H y e) (s1 : SeqAt.shaped d = true) (s2 : SeqAt.shaped e = true) (k : Q (.bl (PyData.eqv d e)) H) : rEqA K x y H Q := .inr ⟨d, e, h1, h2, s1, s2, k⟩
theorem q_neDt {K : PySem.W.Frag} {H : Hp} {Q : VK} {x y : V} {d e : PyData} (h1 : Dp K H x d) (h2 : Dp K H y e) (s1 : SeqAt.shaped d = true) (s2 : SeqAt.shaped e = true) (k : Q (.bl (!PyData.eqv d e)) H) : rNeA K x y H Q := .inr ⟨d, e, h1, h2, s1, s2, k⟩

/-! ## repr -/
/-- repr of a scalar: the text that is shown -/
def shows : V → Option Str
  | .non => some "None"
  | .bl b => some (if b then "True" else "False")
  | .int i => some (toString i)
  | .str x => some (reprText x)
  | _ => none
def rReprS : List V → Hp → VK → Prop := fun vs H Q => ∃ x t, vs = [x] ∧ shows x = some t ∧ t.length ≤ sizeLine ∧ (∀ i, x = .int i → i.natAbs.log2 < 1920) ∧ Q (.str t) H
theorem call_reprS : CallR X (.builtin "repr") rReprS := by
  intro pins s σ H xs us Q I r h
  obtain ⟨x, d, rfl, hd, hz, hi, q⟩ := h
  obtain ⟨u, rfl, ru⟩ := vals1 r
  cases x with
  | non =>
    cases hd; cases ru
    exact PySem.P.repr_of_none ⟨.str _, H, I.tok _, ⟨_, rfl⟩, q⟩
  | bl b =>
    cases hd; cases ru
    exact PySem.P.repr_of_bool ⟨.str _, H, I.tok _, ⟨_, rfl⟩, q⟩
  | int i =>
    cases hd; obtain ⟨t, rfl⟩ := ru
    exact PySem.P.repr_of_int (hi i rfl) ⟨.str _, H, I.tok _, ⟨_, rfl⟩, q⟩
  | str z =>
    cases hd; obtain ⟨t, rfl⟩ := ru
    exact PySem.P.repr_of_str ⟨.str _, H, I.tok _, ⟨_, rfl⟩, q⟩ hz
  | _ => cases hd
theorem q_reprS {H : Hp} {Q : VK} {x : V} {t : Str} (h : shows x = some t) (hz : t.length ≤ sizeLine) (hi : ∀ i, x = .int i → i.natAbs.log2 < 1920) (k : Q (.str t) H) : rReprS [x] H Q := ⟨x, t, rfl, h, hz, hi, k⟩
theorem q_reprB {H : Hp} {Q : VK} {b : Bool} (k : Q (.str (if b then "True" else "False")) H) : rReprS [.bl b] H Q := ⟨.bl b, _, rfl, rfl, by cases b <;> decide, (fun _ z => nomatch z), k⟩
end

/-! ## defs by name -/
section
variable {P : Program} {w : World} {K : PySem.W.Frag} {mg : Str → Option Value} {base : Heap}
/-- a def of the text, laid by the top -/
structure Df (K : PySem.W.Frag) (mg : Str → Option Value) (x : Str) (st : Stmt) (ps : List Str) : Prop where
  ex : ∃ (f : Addr) (fd : FuncData), Fun K x x st f fd ∧ mg x = some (.ref f) ∧ Binds K fd ps []
/-- it may be called, and keeps this promise -/
structure Kn (P : Program) (w : World) (K : PySem.W.Frag) (mg : Str → Option Value) (base : Heap) (k : Nat) (x : Str) (sp : Sp) : Prop where
  ex : ∃ (f : Addr) (fd : FuncData) (ps : List Str), FnOk P w K mg base CX0 k f fd ps sp ∧ mg x = some (.ref f) ∧ PySem.W.keepIn K (.ref f) = true ∧ Binds K fd ps []
theorem kn_of {x : Str} {st : Stmt} {N ps : List Str} {k : Nat} {sp : Sp} (F : Df K mg x st ps) (S : FnScope N ps (defScope st)) (len : ∀ vs H Q E, sp vs H Q E → vs.length = ps.length)
    (hb : ∀ (f : Addr) (cdv : Value) (A : Around) (outer : List Env) (s : Shared) (H : Hp) (vs : List V) (Q : VK) (E : XK), Room k (A.deeper (envOfC x (defScope st) s.heap.objs.size f cdv)) → sp vs H Q E →
      ∃ t, PSs (cxOf CX0 P w K mg base N x (defScope st) f cdv A outer s H E).nox (defBody st) t ∧ t { nx := fun _ H' => Q .non H', rt := Q } (start N vs) H) : Kn P w K mg base (k + 1) x sp := by
  obtain ⟨f, fd, F1, m, b⟩ := F.ex
  exact ⟨f, fd, ps, F1.ok S len (hb f), m, F1.kp, b⟩
end
section
variable {X : Cx} {k j : Nat} {x : Str} {sp : Sp} {p pos : Pos} {e : Expr} {es : List Expr} {t : TA}
theorem pe_kn (c : Kn X.prog X.w X.K X.mg X.base k x sp) (hr : Room j X.A) (hk : k ≤ j) (hg : Gl X x) (ha : PA X (e :: es) t)
    (hdb : (x == ("__debug__" : Str)) = false := by decide) (he : starEach (e :: es) X.env = (false, eval e X.env) :: starEach es X.env := by rfl) (hpl : (backTo pos (starEach es X.env)).any (·.1) = false := by rfl) :
    PE X (.Call (.Name x p) (e :: es) [] pos) (tCall sp [] E0 t) := by
  obtain ⟨f, fd, ps, F, hm, kp, b⟩ := c.ex
  exact pe_call F (hr.mono hk) hg hm kp b .nil pass0 ha hdb he hpl
end

/-! ## items, slices, products -/
section
variable {K : PySem.W.Frag} {H : Hp} {Q : VK}
theorem q_ixL {p : Addr} {xs : List V} {i : Int} {v : V} (h : SqL K H p xs) (a : atI xs i = some v) (k : Q v H) : rIx K (.ref p) (.int i) H Q := .inl ⟨p, xs, i, v, rfl, rfl, h, a, k⟩
theorem q_ixT {p : Addr} {xs : List V} {i : Int} {v : V} (h : SqT K H p xs) (a : atI xs i = some v) (k : Q v H) : rIx K (.ref p) (.int i) H Q := .inr (.inl ⟨p, xs, i, v, rfl, rfl, h, a, k⟩)
theorem q_ixS {z : Str} {i : Int} {c : Nat} (h : z.length ≤ sizeLine) (a : atI z.cps.toList i = some c) (k : Q (.str ⟨#[c]⟩) H) : rIx K (.str z) (.int i) H Q := .inr (.inr ⟨z, i, c, rfl, rfl, h, a, k⟩)
theorem q_setL {p : Addr} {xs : List V} {i : Int} {j : Nat} {v : V} {QH : Hp → Prop} (h : H p = some (.lst xs)) (e : ixN xs.length i = some j) (k : ∀ H', H' p = some (.lst (xs.set j v)) → Fb p H H' → QH H') : rSetL (.ref p) (.int i) v H QH := ⟨p, xs, i, j, rfl, rfl, h, e, k _ upd_same Fb.put⟩
/-- an item at a drawn place: it is one of them -/
theorem at_mem {α : Type} {xs : List α} {i : Int} (h0 : 0 ≤ i) (h1 : i < xs.length) : ∃ v, atI xs i = some v ∧ v ∈ xs ∧ xs[i.toNat]? = some v := by
  obtain ⟨n, rfl⟩ := Int.eq_ofNat_of_zero_le h0
  have hn : n < xs.length := by omega
  exact ⟨xs[n], atI_nat (List.getElem?_eq_getElem hn), List.getElem_mem hn, by rw [Int.toNat_natCast, List.getElem?_eq_getElem hn]⟩
end
section
variable {X : Cx}
theorem SlR.or {r r' : V → Option Int → Option Int → Hp → VK → Prop} (h : SlR X r) (h' : SlR X r') : SlR X (fun x l u H Q => r x l u H Q ∨ r' x l u H Q) := by
  intro pins s σ H x v vl vu lo hi sl Q I rx hs pl pu q
  rcases q with q | q
  · exact h pins s σ H x v vl vu lo hi sl Q I rx hs pl pu q
  · exact h' pins s σ H x v vl vu lo hi sl Q I rx hs pl pu q
def rSlA (K : PySem.W.Frag) : V → Option Int → Option Int → Hp → VK → Prop := fun x l u H Q => rSlL K x l u H Q ∨ rSlS x l u H Q
theorem sl_A : SlR X (rSlA X.K) := SlR.or sl_list sl_str
theorem q_slL {K : PySem.W.Frag} {H : Hp} {Q : VK} {a : Addr} {xs : List V} {lo hi : Option Int} (h : SqL K H a xs) (k : ∀ p H', H p = none → H' p = some (.lst (cutV xs lo hi)) → Ex H H' → Q (.ref p) H') : rSlA K (.ref a) lo hi H Q := .inl ⟨a, xs, rfl, h, fun p hp => k p _ hp upd_same (Ex.new hp)⟩
theorem q_slS {K : PySem.W.Frag} {H : Hp} {Q : VK} {z : Str} {lo hi : Option Int} (h : z.length ≤ sizeLine) (k : Q (.str (cutS z lo hi)) H) : rSlA K (.str z) lo hi H Q := .inr ⟨z, rfl, h, k⟩
/-- * : ints (one below 2^64), a list times an int -/
def rRepS : R2 := fun x y H Q => ∃ (c : Nat) (k : Int), x = .str ⟨#[c]⟩ ∧ y = .int k ∧ 1 ≤ k ∧ k ≤ 1000 ∧ ∀ z : Str, (z.length : Int) = k → (∀ d ∈ z.cps.toList, d = c) → Q (.str z) H
theorem fold_rep (c : Nat) : ∀ (n : Nat) (a : Array Nat), ((List.replicate n #[c]).foldl (· ++ ·) a).toList = a.toList ++ List.replicate n c
  | 0, a => by simp
  | n + 1, a => by
    rw [List.replicate_succ, List.foldl_cons, fold_rep c n, Array.toList_append, List.append_assoc, List.replicate_succ]
    rfl
theorem op_repS : OpR X (binaryOp .Mult) rRepS := by
  intro pins s σ H x y v u Q I rx ry h
  obtain ⟨c, k, rfl, rfl, h1, h2, q⟩ := h
  obtain ⟨t, rfl⟩ := rx
  obtain ⟨t', rfl⟩ := ry
  have hsz : (1000 : Nat) ≤ sizeLine := Nat.le_of_lt (small1000 (Nat.le_refl _))
  have hl : (⟨#[c]⟩ : Str).length = 1 := rfl
  refine PySem.P.mul_str (by rw [decide_eq_false (by omega), decide_eq_false (by omega)]; rfl) (fun _ _ => ?_) (fun _ _ => ?_) ?_
  · rw [hl]
    have : (1 : Int) ≤ (2 ^ 63 - 1) / k := (Int.le_ediv_iff_mul_le (by omega)).mpr (by omega)
    omega
  · rw [hl, Nat.one_mul]
    unfold Builtin.Str.tooLong
    have : ¬ k.toNat > sizeLine := by omega
    simp [this]
  · rw [if_neg (by omega)]
    by_cases hk : k = 1
    · subst hk
      rw [if_pos (by rfl)]
      exact ⟨.str _, H, I.tok _, ⟨t, rfl⟩, q _ rfl (fun d hd => by simpa using hd)⟩
    · rw [if_neg (by simp [hk]; exact fun z => by rw [hl] at z; cases z)]
      have e : ((List.replicate k.toNat (⟨#[c]⟩ : Str).cps).foldl (· ++ ·) #[]).toList = List.replicate k.toNat c := by
        rw [fold_rep]; rfl
      have en : (⟨(List.replicate k.toNat (⟨#[c]⟩ : Str).cps).foldl (· ++ ·) #[]⟩ : Str).length = k.toNat := by
        rw [TL.len_tl]
        show ((List.replicate k.toNat (⟨#[c]⟩ : Str).cps).foldl (· ++ ·) #[]).toList.length = _
        rw [e, List.length_replicate]
      refine ⟨by rw [en]; omega, .str _, H, I.tok _, ⟨_, rfl⟩, q _ (by rw [en]; omega) fun d hd => ?_⟩
      have hd' : d ∈ ((List.replicate k.toNat (⟨#[c]⟩ : Str).cps).foldl (· ++ ·) #[]).toList := hd
      rw [e] at hd'
      exact (List.mem_replicate.mp hd').2
def rMulA : R2 := fun x y H Q => rI CMul (fun i j => .int (i * j)) x y H Q ∨ rRep x y H Q ∨ rRepS x y H Q
theorem op_mulA : OpR X (binaryOp .Mult) rMulA := op_mul.or (op_rep.or op_repS)
theorem q_repS {H : Hp} {Q : VK} {c : Nat} {k : Int} (h1 : 1 ≤ k) (h2 : k ≤ 1000) (q : ∀ z : Str, (z.length : Int) = k → (∀ d ∈ z.cps.toList, d = c) → Q (.str z) H) : rMulA (.str ⟨#[c]⟩) (.int k) H Q := .inr (.inr ⟨c, k, rfl, rfl, h1, h2, q⟩)
theorem q_mulI {H : Hp} {Q : VK} {i j : Int} (c : (-18446744073709551616 < i ∧ i < 18446744073709551616) ∨ (-18446744073709551616 < j ∧ j < 18446744073709551616)) (k : Q (.int (i * j)) H) : rMulA (.int i) (.int j) H Q := .inl ⟨i, j, rfl, rfl, c, k⟩
end
theorem q_repL {H : Hp} {Q : VK} {l : Addr} {k : Int} {xs : List V} (h : H l = some (.lst xs)) (h0 : 0 ≤ k) (h1 : k ≤ 1000) (hz : xs.length * k.toNat ≤ 1000) (q : ∀ p H', H p = none → H' p = some (.lst (List.replicate k.toNat xs).flatten) → Ex H H' → Q (.ref p) H') : rMulA (.ref l) (.int k) H Q :=
  .inr (.inl ⟨l, k, xs, rfl, rfl, h, by omega, by omega, Nat.le_of_lt (small1000 hz), fun p hp => q p _ hp upd_same (Ex.new hp)⟩)
theorem q_append {H : Hp} {Q : VK} {l : Addr} {xs : List V} {y : V} (h : H l = some (.lst xs)) (hz : xs.length < 1000) (q : ∀ H', H' l = some (.lst (xs ++ [y])) → Fb l H H' → Q .non H') : rAppend (.ref l) [y] H Q :=
  ⟨l, xs, y, rfl, rfl, h, small1000 (by omega), q _ upd_same Fb.put⟩
/-- the box of a law's draws: what is left of the number, the seed, how many draws there were without it (n at the most) -/
def BoxAt (H : Hp) (b : Addr) (n : Nat) : Prop := ∃ x y z : Int, H b = some (.lst [.int x, .int y, .int z]) ∧ 0 ≤ x ∧ 0 ≤ y ∧ y < 2147483629 ∧ 0 ≤ z ∧ z ≤ n
theorem BoxAt.ex {H H' : Hp} {b : Addr} {n : Nat} (h : BoxAt H b n) (e : Ex H H') : BoxAt H' b n := by
  obtain ⟨x, y, z, h, r⟩ := h
  exact ⟨x, y, z, e _ _ h, r⟩
theorem BoxAt.mono {H : Hp} {b : Addr} {m n : Nat} (h : BoxAt H b m) (l : m ≤ n) : BoxAt H b n := by
  obtain ⟨x, y, z, h, h1, h2, h3, h4, h5⟩ := h
  exact ⟨x, y, z, h, h1, h2, h3, h4, by omega⟩

/-! ## things of any kind -/
/-- a text of plain signs, not too long -/
def Tn (n : Nat) (s : Str) : Prop := s.length ≤ n ∧ ∀ c ∈ s.cps.toList, c < 128
abbrev Tx (s : Str) : Prop := Tn 1000 s
theorem Tn.sz {n : Nat} {s : Str} (h : Tn n s) (hn : Nat.ble n 1000 = true := by rfl) : s.length ≤ sizeLine := Nat.le_of_lt (small1000 (Nat.le_trans h.1 (Nat.le_of_ble_eq_true hn)))
theorem Tx.sz {s : Str} (h : Tx s) : s.length ≤ sizeLine := Nat.le_of_lt (small1000 h.1)
/-- at a: an own error of the class at C, its arguments at t -/
def exoM (a C t : Addr) : HO := .ext fun h => h.get? a = some (PySem.HandSPX.excO C t)
/-- what is asked of such a class where its instances are things -/
structure ExF (K : PySem.W.Frag) (C : Addr) : Prop where
  isc : L2.ExcC K C
  nInt : PySem.W.kitOne K (.ref C) (.type "int") = some false
  nBl : PySem.W.kitOne K (.ref C) (.type "bool") = some false
  nStr : PySem.W.kitOne K (.ref C) (.type "str") = some false
  nLst : PySem.W.kitOne K (.ref C) (.type "list") = some false
  nTup : PySem.W.kitOne K (.ref C) (.type "tuple") = some false
  nDic : PySem.W.kitOne K (.ref C) (.type "dict") = some false
inductive Thing (K : PySem.W.Frag) (H : Hp) : V → Prop where
  | non : Thing K H .non
  | bl (b : Bool) : Thing K H (.bl b)
  | int (i : Int) : Thing K H (.int i)
  | str (s : Str) (h : Tx s) : Thing K H (.str s)
  | lst (p : Addr) (xs : List V) (h : H p = some (.lst xs)) : Thing K H (.ref p)
  | tup (p : Addr) (xs : List V) (h : H p = some (.tup xs)) : Thing K H (.ref p)
  | dK (p : Addr) (kvs : List (Key × V)) (h : H p = some (.dK kvs)) : Thing K H (.ref p)
  | exc (p C t : Addr) (m : Str) (h : H p = some (exoM p C t)) (h2 : H t = some (.tup [.str m])) (f : ExF K C) : Thing K H (.ref p)
theorem Thing.ex {K : PySem.W.Frag} {H H' : Hp} {v : V} (h : Thing K H v) (e : Ex H H') : Thing K H' v := by
  cases h with
  | non => exact .non
  | bl b => exact .bl b
  | int i => exact .int i
  | str s h => exact .str s h
  | lst p xs h => exact .lst p xs (e _ _ h)
  | tup p xs h => exact .tup p xs (e _ _ h)
  | dK p xs h => exact .dK p xs (e _ _ h)
  | exc p C t m h h2 f => exact .exc p C t m (e _ _ h) (e _ _ h2) f
/-- isinstance, own errors too -/
def rIsiX (K : PySem.W.Frag) : List V → Hp → VK → Prop := fun xs H Q => rIsi K xs H Q ∨ ∃ (a C t : Addr) (c : V) (cv : Value) (b : Bool), xs = [.ref a, c] ∧ H a = some (exoM a C t) ∧ L2.ExcC K C ∧ (∀ u, RelV c u → u = cv) ∧ PySem.W.kitOne K (.ref C) cv = some b ∧ Q (.bl b) H
theorem exoM_at {P : Program} {w : World} {H : Hp} {h : Heap} {a C t : Addr} (hok : HOk P w H h) (e : H a = some (exoM a C t)) : h.get? a = some (PySem.HandSPX.excO C t) := by
  have x : ObjOk P w H h a (.ext fun h => h.get? a = some (PySem.HandSPX.excO C t)) := hok a _ e
  exact x.1
theorem exoM_ok {P : Program} {w : World} {H : Hp} {h : Heap} {a C t : Addr} (he : h.get? a = some (PySem.HandSPX.excO C t)) : ObjOk P w H h a (exoM a C t) :=
  ⟨he, ⟨_, he⟩, fun _ _ z k => k _ z⟩
theorem call_isiX {X : Cx} : CallR X (.builtin "isinstance") (rIsiX X.K) := by
  intro pins s σ H xs us Q I r h
  rcases h with h | ⟨a, C, t1, c, cv, b, rfl, ha, T, hcv, e, q⟩
  · exact call_isi pins s σ H xs us Q I r h
  · cases r with
    | cons rx rr =>
      cases rr with
      | cons rc rn =>
        cases rn
        cases rx
        obtain rfl := hcv _ rc
        have ho := exoM_at I.hok ha
        exact PySem.W.kia_one (PySem.W.handS_kitx_exc (ox := PySem.HandSPX.excO C t1) T.hg T.hk T.hs T.hd T.ha T.hn T.ht T.hm) I.kIn ⟨ho, rfl, rfl, trivial⟩ e (fun z => nomatch z) fun tk => ⟨.bl _, H, I.tok _, rfl, q⟩
def vInt : V → Bool
  | .int _ => true
  | .bl _ => true
  | _ => false
def vBl : V → Bool
  | .bl _ => true
  | _ => false
def vStr : V → Bool
  | .str _ => true
  | _ => false
section
variable {K : PySem.W.Frag} {H : Hp} {Q : VK} {v : V}
theorem kit_NoneType_int : kitB "NoneType" "int" = some false := by decide +kernel
theorem kit_bool_int : kitB "bool" "int" = some true := by decide +kernel
theorem kit_int_int : kitB "int" "int" = some true := by decide +kernel
theorem kit_str_int : kitB "str" "int" = some false := by decide +kernel
theorem kit_list_int : kitB "list" "int" = some false := by decide +kernel
theorem kit_tuple_int : kitB "tuple" "int" = some false := by decide +kernel
theorem kit_dict_int : kitB "dict" "int" = some false := by decide +kernel
theorem kit_NoneType_bool : kitB "NoneType" "bool" = some false := by decide +kernel
theorem kit_bool_bool : kitB "bool" "bool" = some true := by decide +kernel
theorem kit_int_bool : kitB "int" "bool" = some false := by decide +kernel
theorem kit_str_bool : kitB "str" "bool" = some false := by decide +kernel
theorem kit_list_bool : kitB "list" "bool" = some false := by decide +kernel
theorem kit_tuple_bool : kitB "tuple" "bool" = some false := by decide +kernel
theorem kit_dict_bool : kitB "dict" "bool" = some false := by decide +kernel
theorem kit_NoneType_str : kitB "NoneType" "str" = some false := by decide +kernel
theorem kit_bool_str : kitB "bool" "str" = some false := by decide +kernel
theorem kit_int_str : kitB "int" "str" = some false := by decide +kernel
theorem kit_str_str : kitB "str" "str" = some true := by decide +kernel
theorem kit_list_str : kitB "list" "str" = some false := by decide +kernel
theorem kit_tuple_str : kitB "tuple" "str" = some false := by decide +kernel
theorem kit_dict_str : kitB "dict" "str" = some false := by decide +kernel
theorem kit_NoneType_list : kitB "NoneType" "list" = some false := by decide +kernel
theorem kit_bool_list : kitB "bool" "list" = some false := by decide +kernel
theorem kit_int_list : kitB "int" "list" = some false := by decide +kernel
theorem kit_str_list : kitB "str" "list" = some false := by decide +kernel
theorem kit_list_list : kitB "list" "list" = some true := by decide +kernel
theorem kit_tuple_list : kitB "tuple" "list" = some false := by decide +kernel
theorem kit_dict_list : kitB "dict" "list" = some false := by decide +kernel
theorem kit_NoneType_tuple : kitB "NoneType" "tuple" = some false := by decide +kernel
theorem kit_bool_tuple : kitB "bool" "tuple" = some false := by decide +kernel
theorem kit_int_tuple : kitB "int" "tuple" = some false := by decide +kernel
theorem kit_str_tuple : kitB "str" "tuple" = some false := by decide +kernel
theorem kit_list_tuple : kitB "list" "tuple" = some false := by decide +kernel
theorem kit_tuple_tuple : kitB "tuple" "tuple" = some true := by decide +kernel
theorem kit_dict_tuple : kitB "dict" "tuple" = some false := by decide +kernel
theorem q_isiInt (h : Thing K H v) (k : Q (.bl (vInt v)) H) : rIsiX K [v, .ty "int"] H Q := by
  cases h with
  | non => exact .inl ⟨_, _, .type "NoneType", .type "int", _, rfl, .ty _, .base .non, kit_ty kit_NoneType_int, k⟩
  | bl b => exact .inl ⟨_, _, .type "bool", .type "int", _, rfl, .ty _, .base (.bl b), kit_ty kit_bool_int, k⟩
  | int i => exact .inl ⟨_, _, .type "int", .type "int", _, rfl, .ty _, .base (.int i), kit_ty kit_int_int, k⟩
  | str s h => exact .inl ⟨_, _, .type "str", .type "int", _, rfl, .ty _, .base (.str s), kit_ty kit_str_int, k⟩
  | lst p xs h => exact .inl ⟨_, _, .type "list", .type "int", _, rfl, .ty _, .base (.lst h), kit_ty kit_list_int, k⟩
  | tup p xs h => exact .inl ⟨_, _, .type "tuple", .type "int", _, rfl, .ty _, .base (.tup h), kit_ty kit_tuple_int, k⟩
  | dK p xs h => exact .inl ⟨_, _, .type "dict", .type "int", _, rfl, .ty _, .base (.dK h), kit_ty kit_dict_int, k⟩
  | exc p C t m h h2 f => exact .inr ⟨p, C, t, _, _, false, rfl, h, f.isc, (fun u r => r), f.nInt, k⟩
theorem q_isiBl (h : Thing K H v) (k : Q (.bl (vBl v)) H) : rIsiX K [v, .ty "bool"] H Q := by
  cases h with
  | non => exact .inl ⟨_, _, .type "NoneType", .type "bool", _, rfl, .ty _, .base .non, kit_ty kit_NoneType_bool, k⟩
  | bl b => exact .inl ⟨_, _, .type "bool", .type "bool", _, rfl, .ty _, .base (.bl b), kit_ty kit_bool_bool, k⟩
  | int i => exact .inl ⟨_, _, .type "int", .type "bool", _, rfl, .ty _, .base (.int i), kit_ty kit_int_bool, k⟩
  | str s h => exact .inl ⟨_, _, .type "str", .type "bool", _, rfl, .ty _, .base (.str s), kit_ty kit_str_bool, k⟩
  | lst p xs h => exact .inl ⟨_, _, .type "list", .type "bool", _, rfl, .ty _, .base (.lst h), kit_ty kit_list_bool, k⟩
  | tup p xs h => exact .inl ⟨_, _, .type "tuple", .type "bool", _, rfl, .ty _, .base (.tup h), kit_ty kit_tuple_bool, k⟩
  | dK p xs h => exact .inl ⟨_, _, .type "dict", .type "bool", _, rfl, .ty _, .base (.dK h), kit_ty kit_dict_bool, k⟩
  | exc p C t m h h2 f => exact .inr ⟨p, C, t, _, _, false, rfl, h, f.isc, (fun u r => r), f.nBl, k⟩
theorem q_isiStr (h : Thing K H v) (k : Q (.bl (vStr v)) H) : rIsiX K [v, .ty "str"] H Q := by
  cases h with
  | non => exact .inl ⟨_, _, .type "NoneType", .type "str", _, rfl, .ty _, .base .non, kit_ty kit_NoneType_str, k⟩
  | bl b => exact .inl ⟨_, _, .type "bool", .type "str", _, rfl, .ty _, .base (.bl b), kit_ty kit_bool_str, k⟩
  | int i => exact .inl ⟨_, _, .type "int", .type "str", _, rfl, .ty _, .base (.int i), kit_ty kit_int_str, k⟩
  | str s h => exact .inl ⟨_, _, .type "str", .type "str", _, rfl, .ty _, .base (.str s), kit_ty kit_str_str, k⟩
  | lst p xs h => exact .inl ⟨_, _, .type "list", .type "str", _, rfl, .ty _, .base (.lst h), kit_ty kit_list_str, k⟩
  | tup p xs h => exact .inl ⟨_, _, .type "tuple", .type "str", _, rfl, .ty _, .base (.tup h), kit_ty kit_tuple_str, k⟩
  | dK p xs h => exact .inl ⟨_, _, .type "dict", .type "str", _, rfl, .ty _, .base (.dK h), kit_ty kit_dict_str, k⟩
  | exc p C t m h h2 f => exact .inr ⟨p, C, t, _, _, false, rfl, h, f.isc, (fun u r => r), f.nStr, k⟩
end

/-! ## comprehensions over a text -/
theorem lc_str {z : Str} {g : TG} {tt : TT} {te : TE} {vs : List Nat} {σ : L2.St} {H1 : Hp} {D : Addr} {Qd : Hp → Prop} (Pv : Nat → Hp → Prop) (h0 : Pv 0 (upd H1 D (.lst [])))
    (hs : ∀ (i c : Nat) (H : Hp), z.cps[i]? = some c → Pv i H → g (.str ⟨#[c]⟩) (wipe σ vs) H fun σ2 H2 => wipe σ2 vs = wipe σ vs ∧ tt σ2 H2 fun b H3 =>
      if b = true then te σ2 H3 fun y H4 => ∃ acc, H4 D = some (.lst acc) ∧ acc.length < sizeLine ∧ Pv (i + 1) (upd H4 D (.lst (acc ++ [y]))) else Pv (i + 1) H3) (hd : ∀ H, Pv z.cps.size H → Qd H) :
    ∃ W : Nat → Nat → Hp → Prop, (∃ m, W 0 m (upd H1 D (.lst []))) ∧ ∀ i m H, W i m H →
      ((Its z).stop i H ∧ Qd H) ∨ ((Its z).go i H ∧ ∃ Nx : Hp → Prop, (∀ H', Nx H' → ∃ m', m' < m ∧ W (i + 1) m' H') ∧ ∀ x H', (Its z).yld i H x H' → g x (wipe σ vs) H' fun σ2 H2 => wipe σ2 vs = wipe σ vs ∧ tt σ2 H2 fun b H3 =>
        if b = true then te σ2 H3 fun y H4 => ∃ acc, H4 D = some (.lst acc) ∧ acc.length < sizeLine ∧ Nx (upd H4 D (.lst (acc ++ [y]))) else Nx H3) := by
  refine ⟨fun i m H => i + m = z.cps.size ∧ Pv i H, ⟨z.cps.size, by omega, h0⟩, fun i m H ⟨hi, p⟩ => ?_⟩
  cases m with
  | zero =>
    obtain rfl : i = z.cps.size := by omega
    exact .inl ⟨Nat.le_refl _, hd H p⟩
  | succ m =>
    refine .inr ⟨(by show i < z.cps.size; omega), Pv (i + 1), fun H' p' => ⟨m, Nat.lt_succ_self m, by omega, p'⟩, ?_⟩
    rintro x H' ⟨rfl, c, hc, rfl⟩
    exact hs i c _ hc p
/-- [e for c in z if t], each turn told by the sign: kept where f c, then v c -/
theorem q_lcS {z : Str} {σ : L2.St} {H : Hp} {Q : VK} {t0 te : TE} {tt : TT} {vs : List Nat} {j : Nat} (f : Nat → Bool) (v : Nat → V) (hi : Evl.Ev t0 σ H (.str z)) (hz : z.length ≤ 1000)
    (hw : ∀ x, wipe ((wipe σ vs).set j (some x)) vs = wipe σ vs)
    (ht : ∀ (c : Nat) (H1 : Hp), c ∈ z.cps.toList → Ex H H1 → ∀ QB : Bool → Hp → Prop, (∀ H2, Ex H1 H2 → QB (f c) H2) → tt ((wipe σ vs).set j (some (.str ⟨#[c]⟩))) H1 QB)
    (he : ∀ (c : Nat) (H1 : Hp), c ∈ z.cps.toList → Ex H H1 → f c = true → ∀ Q' : VK, (∀ H2, Ex H1 H2 → Q' (v c) H2) → te ((wipe σ vs).set j (some (.str ⟨#[c]⟩))) H1 Q')
    (k : ∀ p H', H p = none → H' p = some (.lst ((z.cps.toList.filter f).map v)) → Ex H H' → Q (.ref p) H') : tLc (iStr t0) (gName j) tt te vs σ H Q := by
  refine hi H Ex.rfl _ fun H0 (e0 : Ex H H0) => ⟨z, rfl, fun D hD => lc_str (z := z) (fun i H' => Ex H0 H' ∧ H' D = some (.lst (((z.cps.toList.take i).filter f).map v))) ⟨Ex.new hD, upd_same⟩ ?_ ?_⟩
  · rintro i c H' hc ⟨e1, hd⟩
    have hm : z.cps.toList[i]? = some c := by rw [Array.getElem?_toList]; exact hc
    have hin : c ∈ z.cps.toList := List.mem_of_getElem? hm
    have hlen : ((z.cps.toList.take i).filter f).length ≤ 1000 := by
      have a := List.length_filter_le f (z.cps.toList.take i)
      have b := List.length_take_le' i z.cps.toList
      have d : z.cps.toList.length = z.length := Array.length_toList
      omega
    refine ⟨hw _, ht c H' hin (e0.tr e1) _ fun H2 e2 => ?_⟩
    rw [List.take_add_one, hm]
    cases hf : f c with
    | true =>
      refine iteT (he c H2 hin ((e0.tr e1).tr e2) hf _ fun H3 e3 => ⟨_, e3 _ _ (e2 _ _ hd), ?_, ?_⟩)
      · rw [List.length_map]; exact small1000 hlen
      · refine ⟨?_, ?_⟩
        · exact Evl.Ex.mut ((e1.tr e2).tr e3) hD
        · rw [upd_same, List.filter_append, List.map_append]
          simp [hf]
    | false =>
      refine iteF ⟨e1.tr e2, ?_⟩
      rw [List.filter_append, e2 _ _ hd]
      simp [hf]
  · rintro H' ⟨e1, hd⟩
    have e : z.cps.toList.take z.cps.size = z.cps.toList := List.take_of_length_le (by rw [Array.length_toList] <;> exact Nat.le_refl _)
    rw [e] at hd
    exact k D H' (e0.free hD) hd (e0.tr e1)
/-- all signs of the one are signs of the other -/
def only (s t : Str) : Bool := s.cps.toList.all fun c => decide (c ∈ t.cps.toList)
theorem all_only (l : List Nat) (p : Nat → Bool) : (l.map p).all id = l.all p := by
  induction l with
  | nil => rfl
  | cons a l ih => rw [List.map_cons, List.all_cons, List.all_cons, ih] <;> rfl
theorem filter_not_nil (l : List Nat) (p : Nat → Bool) : (l.filter fun c => !p c).isEmpty = l.all p := by
  induction l with
  | nil => rfl
  | cons a l ih =>
    rw [List.filter_cons, List.all_cons]
    cases h : p a with
    | true => simp [ih]
    | false => simp
/-- a list of texts of one sign, as data -/
theorem dp_signs {K : PySem.W.Frag} {H : Hp} : ∀ l : List Nat, DpAll K H (l.map fun c => V.str ⟨#[c]⟩) (l.map fun c => PyData.str ⟨#[c]⟩)
  | [] => .nil
  | c :: l => .cons (.str _) (dp_signs l)
/-- is it a whole number from lo to hi -/
def whole (v : V) (lo hi : Int) : Bool := match v with
  | .int i => decide (lo ≤ i) && decide (i ≤ hi)
  | _ => false
/-- is it a text of one to m signs, all of them of t -/
def lettersOf (v : V) (m : Int) (t : Str) : Bool := match v with
  | .str s => decide (1 ≤ (s.length : Int)) && decide ((s.length : Int) ≤ m) && only s t
  | _ => false
abbrev SMALL : Str := "abcdefghijklmnopqrstuvwxyz"
theorem shaped_signs {l : List Nat} (h : ∀ c ∈ l, c < 128) : SeqAt.shaped (.list (l.map fun c => PyData.str ⟨#[c]⟩)) = true := by
  have a : ∀ l : List Nat, (∀ c ∈ l, c < 128) → PyData.canLayAll0 (l.map fun c => PyData.str ⟨#[c]⟩) = true ∧ PyData.depthAll (l.map fun c => PyData.str ⟨#[c]⟩) ≤ 1 := by
    intro l
    induction l with
    | nil => intro _; exact ⟨rfl, by simp [PyData.depthAll]⟩
    | cons c l ih =>
      intro h
      obtain ⟨h1, h2⟩ := ih fun d hd => h d (List.mem_cons_of_mem _ hd)
      have hc := h c List.mem_cons_self
      refine ⟨?_, ?_⟩
      · simp only [List.map_cons, PyData.canLayAll0, PyData.canLay0, h1, Bool.and_true]
        have e : PyData.strOk ⟨#[c]⟩ = true := by simp [PyData.strOk]; omega
        exact e
      · simp only [List.map_cons, PyData.depthAll, PyData.depth]; exact Nat.max_le.mpr ⟨by omega, h2⟩
  obtain ⟨h1, h2⟩ := a l h
  simp only [SeqAt.shaped, PyData.canLay0, PyData.depth, h1, Bool.true_and, decide_eq_true_eq]
  exact decide_eq_true (Nat.le_trans (Nat.succ_le_succ h2) (by decide : 2 ≤ 64))

/-! ## more -/
theorem Ex.get {H H' : Hp} {a : Addr} {o : HO} (e : Ex H H') (h : H a = some o) : H' a = some o := e a o h
theorem Fb.get {b : Addr} {H H' : Hp} {a : Addr} {o : HO} (e : Fb b H H') (h : H a = some o) (n : a ≠ b) : H' a = some o := e a o h n
theorem BoxAt.ne {H : Hp} {b p : Addr} {n : Nat} (h : BoxAt H b n) (hp : H p = none) : p ≠ b := by
  obtain ⟨x, y, z, h, _⟩ := h
  exact fun e => by rw [e, h] at hp; cases hp
theorem q_ixM {K : PySem.W.Frag} {H : Hp} {Q : VK} {p : Addr} {xs : List V} {i : Int} (h : SqL K H p xs) (h0 : 0 ≤ i) (h1 : i < xs.length) (k : ∀ v, v ∈ xs → Q v H) : rIx K (.ref p) (.int i) H Q := by
  obtain ⟨v, e, m, _⟩ := at_mem h0 h1
  exact q_ixL h e (k v m)
def vIsInt : V → Bool
  | .int _ => true
  | _ => false
theorem int_mem {xs : List V} {v : V} (m : v ∈ xs) (h : xs.all vIsInt = true) : ∃ i, v = .int i := by
  have := List.all_eq_true.mp h v m
  cases v with
  | int i => exact ⟨i, rfl⟩
  | _ => cases this
theorem q_dnewK {σ : L2.St} {H : Hp} {Q : VK} (k : ∀ p H', H p = none → H' p = some (.dK []) → Ex H H' → Q (.ref p) H') : tDNewK σ H Q := fun p h => k p _ h upd_same (Ex.new h)
theorem q_disp1 {σ : L2.St} {H : Hp} {Q : VK} {x : Str} {v : V} (k : ∀ p H', H p = none → H' p = some (.dK [(Sum.inr x, v)]) → Ex H H' → Q (.ref p) H') : tDisp [(tC (.str x), tC v)] σ H Q := fun p h =>
  ⟨upd_same, [(Sum.inr x, v)], rfl, Nat.le_of_ble_eq_true rfl, k p _ h (by rw [upd_same]; rfl) (by rw [upd_upd]; exact Ex.new h)⟩
theorem q_m1 {r : V → List V → Hp → VK → Prop} {ta tb : TE} {σ : L2.St} {H : Hp} {Q : VK} (k : ta σ H fun x H1 => (∃ a, x = .str a) ∧ tb σ H1 fun y H2 => r x [y] H2 Q) : tM1 r ta tb σ H Q := k
theorem q_m0 {r : V → List V → Hp → VK → Prop} {ta : TE} {σ : L2.St} {H : Hp} {Q : VK} (k : ta σ H fun x H1 => (∃ a, x = .str a) ∧ r x [] H1 Q) : tM0 r ta σ H Q := k

/-! ## texts -/
theorem Tn.mono {m n : Nat} {s : Str} (h : Tn m s) (l : m ≤ n) : Tn n s := ⟨Nat.le_trans h.1 l, h.2⟩
theorem Tn.app {m n : Nat} {s t : Str} (h : Tn m s) (h' : Tn n t) : Tn (m + n) (s ++ t) := by
  refine ⟨?_, fun c hc => ?_⟩
  · have a := h.1; have b := h'.1
    rw [TL.len_tl] at a b ⊢
    rw [TL.tl_append, List.length_append]
    omega
  · have e : (s ++ t).cps.toList = s.cps.toList ++ t.cps.toList := TL.tl_append s t
    rw [e] at hc
    rcases List.mem_append.mp hc with z | z
    · exact h.2 c z
    · exact h'.2 c z
theorem Tn.one {c : Nat} (h : c < 128) : Tn 1 ⟨#[c]⟩ := ⟨Nat.le_refl _, fun d hd => by
  have e : d = c := by simpa using hd
  rw [e]; exact h⟩
theorem Tn.cut {n : Nat} {z : Str} (h : Tn n z) (lo hi : Option Int) : Tn n (cutS z lo hi) :=
  ⟨Nat.le_trans (cutS_length z lo hi) h.1, fun c hc => h.2 c (List.mem_of_mem_drop (List.mem_of_mem_take (show c ∈ ((z.cps.toList.drop (HT.sIx z.length 0 lo)).take (HT.sIx z.length z.length hi - HT.sIx z.length 0 lo)) from by simpa [cutS] using hc)))⟩
/-- the text of these signs, one by one joined -/
theorem join_signs : ∀ l : List Nat, TL.tl (Str.join "" (l.map fun c => (⟨#[c]⟩ : Str))) = l
  | [] => rfl
  | [c] => rfl
  | c :: d :: l => by
    have ih := join_signs (d :: l)
    show TL.tl ((⟨#[c]⟩ : Str) ++ ("" : Str) ++ Str.join "" ((d :: l).map fun c => (⟨#[c]⟩ : Str))) = c :: d :: l
    rw [TL.tl_append, TL.tl_append, ih]
    rfl
theorem Tn.signs {l : List Nat} {n : Nat} (h : l.length ≤ n) (hc : ∀ c ∈ l, c < 128) : Tn n (Txt.join "" (l.map fun c => (⟨#[c]⟩ : Str))) := by
  have e : TL.tl (Txt.join "" (l.map fun c => (⟨#[c]⟩ : Str))) = l := by rw [TL.join_eq]; exact join_signs l
  refine ⟨?_, fun c m => hc c (by rw [← e]; exact m)⟩
  rw [TL.len_tl, e]; exact h

/-! ## the rules that speak of the written part, for a comprehension's block too -/
section
variable {X : Cx} (K : PySem.W.Frag) (h : X.K = K)
include h
theorem ix_A : IxR X (rIx K) := h ▸ ix_seq
theorem sl_B : SlR X (rSlA K) := h ▸ sl_A
theorem op_eqB (hu : X.A.units + 64 < cLine) : OpR X (compareOp .Eq) (rEqA K) := h ▸ op_eqA hu
theorem op_neB (hu : X.A.units + 64 < cLine) : OpR X (compareOp .NotEq) (rNeA K) := h ▸ op_neA hu
/-- len -/
def rLen (K : PySem.W.Frag) : List V → Hp → VK → Prop := fun xs H Q => ∃ x n, xs = [x] ∧ LenV K x H n ∧ Q (.int n) H
theorem call_lenB : CallR X (.builtin "len") (rLen K) := h ▸ call_len
theorem call_isiB : CallR X (.builtin "isinstance") (rIsiX K) := h ▸ call_isiX
theorem call_isiTB : CallR X (.builtin "isinstance") (rIsiT K) := h ▸ call_isiT
theorem op_in_seqB : OpR X (compareOp .In) (rIn K false) := h ▸ op_in_seq
theorem op_notIn_seqB : OpR X (compareOp .NotIn) (rIn K true) := h ▸ op_notIn_seq
end

/-! ## comprehensions over a range, with draws from the box -/
def RngK (g : TG) (tt : TT) (te : TE) (vs : List Nat) (σ : L2.St) (Q : VK) : List V → Hp → Prop := fun us H => tLc (iRng1 (fun _ H Q' => Q' us H)) g tt te vs σ H Q
theorem q_lcR {ta : TA} {g : TG} {tt : TT} {te : TE} {vs : List Nat} {σ : L2.St} {H : Hp} {Q : VK} (k : ta σ H (RngK g tt te vs σ Q)) : tLc (iRng1 ta) g tt te vs σ H Q := k
/-- each turn draws and gives a value of P (no new object's address) -/
theorem q_rngBox {j : Nat} {te : TE} {vs : List Nat} {σ : L2.St} {H : Hp} {Q : VK} {N : Int} (b : Addr) (n m : Nat) (P : V → Prop) (h0 : 0 ≤ N ∧ N ≤ 500) (hB : BoxAt H b n) (hw : ∀ x, wipe ((wipe σ vs).set j (some x)) vs = wipe σ vs)
    (he : ∀ (i : Nat) (H1 : Hp), (i : Int) < N → BoxAt H1 b (n + i * m) → Fb b H H1 → ∀ Q' : VK, (∀ v H2, P v → BoxAt H2 b (n + i * m + m) → Fb b H1 H2 → Q' v H2) → te ((wipe σ vs).set j (some (.int (i : Int)))) H1 Q')
    (k : ∀ p H' xs, H p = none → H' p = some (.lst xs) → xs.length = N.toNat → (∀ v ∈ xs, P v) → BoxAt H' b (n + N.toNat * m) → Fb b H H' → Q (.ref p) H') : RngK (gName j) tYes te vs σ Q [.int N] H := by
  refine ⟨N, rfl, by omega, by omega, fun D hD => lc_range (lo := 0) (n := N.toNat) (fun i H' => ∃ xs, H' D = some (.lst xs) ∧ xs.length = i ∧ (∀ v ∈ xs, P v) ∧ BoxAt H' b (n + i * m) ∧ Fb b H H') ?_ ?_ ?_⟩
  · exact ⟨[], upd_same, rfl, fun v hv => absurd hv (by simp), (by rw [Nat.zero_mul]; exact hB.ex (Ex.new hD)), Fb.new hD⟩
  · rintro i H' hi ⟨xs, hx, hl, hp, B, f⟩
    have nD : D ≠ b := hB.ne hD
    rw [Int.zero_add]
    refine ⟨hw _, ?_⟩
    refine q_yes ?_
    rw [if_pos rfl]
    refine he i H' (by omega) B f _ fun v H4 hv B4 f4 => ⟨xs, f4.get hx nD, small1000 (by omega), xs ++ [v], upd_same, by rw [List.length_append, hl] <;> rfl, ?_, ?_, ?_⟩
    · intro u hu
      rcases List.mem_append.mp hu with z | z
      · exact hp u z
      · rw [List.mem_singleton] at z
        rw [z]; exact hv
    · obtain ⟨x, y, z, h, r⟩ := B4
      refine ⟨x, y, z, by rw [upd_ne nD.symm]; exact h, ?_⟩
      rw [Nat.succ_mul, ← Nat.add_assoc]
      exact r
    · intro a o ha na
      rw [upd_ne (ne_of_none ha hD)]
      exact f4 a o (f a o ha na) na
  · rintro H' ⟨xs, hx, hl, hp, B, f⟩
    exact k D H' xs hD hx hl hp B f
/-- sep.join(a list or tuple of texts) -/
def rJoin (K : PySem.W.Frag) : V → List V → Hp → VK → Prop := fun x xs H Q => ∃ a p, ∃ ys : List Str, x = .str a ∧ xs = [.ref p] ∧ (SqL K H p (ys.map V.str) ∨ SqT K H p (ys.map V.str)) ∧
  (ys.map (·.length)).sum + ys.length * a.length ≤ 16777216 ∧ Q (.str (Txt.join a ys)) H
theorem pe_joinB {X : Cx} {o e : Expr} {to te : TE} {apos pos : Pos} (K : PySem.W.Frag) (h : X.K = K) (ho : PE X o to) (he : PE X e te) (hs : starEach [e] X.env = [(false, eval e X.env)] := by rfl) (hb : attributeBase o "join" X.env (eval o X.env) = eval o X.env := by rfl) (hl : (apos.endLine == pos.line) = true := by rfl) :
    PE X (.Call (.Attribute o "join" apos) [e] [] pos) (tM1 (rJoin K) to te) := h ▸ pe_join ho he hs hb hl
theorem q_joinS {K : PySem.W.Frag} {H : Hp} {Q : VK} {p : Addr} {xs : List V} {n : Nat} (h : H p = some (.lst xs)) (hn : xs.length ≤ n) (hn2 : n ≤ 1000) (hs : ∀ v ∈ xs, ∃ c, c < 128 ∧ v = .str ⟨#[c]⟩)
    (k : ∀ s, Tn n s → s.length = xs.length → Q (.str s) H) : rJoin K (.str "") [.ref p] H Q := by
  have hl : ∀ xs : List V, (∀ v ∈ xs, ∃ c, c < 128 ∧ v = .str ⟨#[c]⟩) → ∃ l : List Nat, xs = (l.map fun c => (⟨#[c]⟩ : Str)).map V.str ∧ ∀ c ∈ l, c < 128 := by
    intro xs
    induction xs with
    | nil => intro _; exact ⟨[], rfl, fun c hc => absurd hc (by simp)⟩
    | cons x xs ih =>
      intro hs
      obtain ⟨l, e, hc⟩ := ih fun v hv => hs v (List.mem_cons_of_mem _ hv)
      obtain ⟨c, hc1, rfl⟩ := hs x List.mem_cons_self
      refine ⟨c :: l, by rw [e] <;> rfl, fun d hd => ?_⟩
      rcases List.mem_cons.mp hd with z | z
      · rw [z]; exact hc1
      · exact hc d z
  obtain ⟨l, e, hc⟩ := hl xs hs
  have hlen : l.length = xs.length := by rw [e, List.length_map, List.length_map]
  have hsum : ((l.map fun c => (⟨#[c]⟩ : Str)).map (·.length)).sum = l.length := by
    clear hc e hlen
    induction l with
    | nil => rfl
    | cons c l ih =>
      rw [List.map_cons, List.map_cons, List.sum_cons, ih, List.length_cons]
      show 1 + l.length = l.length + 1
      omega
  refine ⟨"", p, l.map fun c => (⟨#[c]⟩ : Str), rfl, rfl, .inl (SqL.of (by rw [h, e])), ?_, k _ (Tn.signs (by omega) hc) ?_⟩
  · rw [hsum]
    show l.length + _ * 0 ≤ 16777216
    omega
  · have e2 : TL.tl (Txt.join "" (l.map fun c => (⟨#[c]⟩ : Str))) = l := by rw [TL.join_eq]; exact join_signs l
    rw [TL.len_tl, e2, hlen]
theorem small_add {a b m n : Nat} (h : a ≤ m) (h2 : b ≤ n) (hz : Nat.ble (m + n) 1000 = true) : a + b ≤ sizeLine := Nat.le_of_lt (small1000 (Nat.le_trans (Nat.add_le_add h h2) (Nat.le_of_ble_eq_true hz)))

/-! ## loops -/
def ForRK (g : TG) (tb : TS) (D : Ends) (σ : L2.St) : List V → Hp → Prop := fun us H => tFor (iRng1 (fun _ H Q' => Q' us H)) g tb D σ H
theorem q_forR {ta : TA} {g : TG} {tb : TS} {D : Ends} {σ : L2.St} {H : Hp} (k : ta σ H (ForRK g tb D σ)) : tFor (iRng1 ta) g tb D σ H := k
theorem q_rngFor {j : Nat} {tb : TS} {D : Ends} {σ : L2.St} {H : Hp} {N : Int} (Pv : Nat → L2.St → Hp → Prop) (hN : 0 ≤ N ∧ N ≤ 100000) (h0 : Pv 0 σ H)
    (hs : ∀ (i : Nat) σ' H', (i : Int) < N → Pv i σ' H' → tb { D with nx := Pv (i + 1), ct := Pv (i + 1), bk := D.nx } (σ'.set j (some (.int (i : Int)))) H') (hd : ∀ σ' H', Pv N.toNat σ' H' → D.nx σ' H') : ForRK (gName j) tb D σ [.int N] H := by
  refine ⟨N, rfl, by omega, by omega, for_range (lo := 0) (n := N.toNat) Pv h0 (fun i σ' H' hi p => ?_) hd⟩
  have q := hs i σ' H' (by omega) p
  have e : (0 : Int) + (i : Int) = (i : Int) := Int.zero_add _
  rw [e]
  exact q
def ForLK (K : PySem.W.Frag) (g : TG) (tb : TS) (D : Ends) (σ : L2.St) : V → Hp → Prop := fun v H => tFor (iList K (fun _ H Q' => Q' v H)) g tb D σ H
theorem q_forL {K : PySem.W.Frag} {tl : TE} {g : TG} {tb : TS} {D : Ends} {σ : L2.St} {H : Hp} (k : tl σ H (ForLK K g tb D σ)) : tFor (iList K tl) g tb D σ H := k
theorem q_listFor {K : PySem.W.Frag} {g : TG} {tb : TS} {D : Ends} {σ : L2.St} {H : Hp} {a : Addr} {xs : List V} (hx : SqL K H a xs) (Pv : Nat → L2.St → Hp → Prop) (h0 : Pv 0 σ H) (hl : ∀ i σ' H', Pv i σ' H' → SqL K H' a xs)
    (hs : ∀ (i : Nat) x σ' H', xs[i]? = some x → Pv i σ' H' → g x σ' H' fun σ2 H2 => tb { D with nx := Pv (i + 1), ct := Pv (i + 1), bk := D.nx } σ2 H2) (hd : ∀ σ' H', Pv xs.length σ' H' → D.nx σ' H') : ForLK K g tb D σ (.ref a) H :=
  ⟨a, rfl, ⟨xs, hx⟩, for_list (xs := xs) Pv h0 (fun i σ' H' _ p => hl i σ' H' p) hs hd⟩
theorem q_lenS {K : PySem.W.Frag} {H : Hp} {Q : VK} {z : Str} (h : z.length ≤ sizeLine) (k : Q (.int z.length) H) : rLen K [.str z] H Q := ⟨_, z.length, rfl, ⟨h, rfl⟩, k⟩
theorem q_lenL {K : PySem.W.Frag} {H : Hp} {Q : VK} {p : Addr} {xs : List V} (h : SqL K H p xs) (k : Q (.int xs.length) H) : rLen K [.ref p] H Q := ⟨_, xs.length, rfl, .inl ⟨xs, h, rfl⟩, k⟩
theorem q_lenT {K : PySem.W.Frag} {H : Hp} {Q : VK} {p : Addr} {xs : List V} (h : SqT K H p xs) (k : Q (.int xs.length) H) : rLen K [.ref p] H Q := ⟨_, xs.length, rfl, .inr ⟨xs, h, rfl⟩, k⟩
theorem iteNe {α : Type} [DecidableEq α] {x : α} {A B : Prop} (k : B) : if (!decide (x = x)) = true then A else B := iteNS rfl k

theorem BoxAt.neT {H : Hp} {b p : Addr} {n : Nat} {xs : List V} (h : BoxAt H b n) (hp : H p = some (.tup xs)) : p ≠ b := by
  obtain ⟨x, y, z, h, _⟩ := h
  exact ne_of hp h (fun e => by cases e)
theorem Fb.thing {K : PySem.W.Frag} {b : Addr} {H H' : Hp} {v : V} (f : Fb b H H') (h : Thing K H v) (n : v ≠ .ref b) (ht : ∀ t m, H t = some (.tup [V.str m]) → t ≠ b) : Thing K H' v := by
  cases h with
  | non => exact .non
  | bl b => exact .bl b
  | int i => exact .int i
  | str s h => exact .str s h
  | lst p xs h => exact .lst p xs (f _ _ h fun e => n (by rw [e]))
  | tup p xs h => exact .tup p xs (f _ _ h fun e => n (by rw [e]))
  | dK p xs h => exact .dK p xs (f _ _ h fun e => n (by rw [e]))
  | exc p C t m h h2 g => exact .exc p C t m (f _ _ h fun e => n (by rw [e])) (f _ _ h2 (ht t m h2)) g

/-! ## str(..), int(..), index; numbers as texts -/
section
variable {X : Cx}
def rStrA : List V → Hp → VK → Prop := fun xs H Q => (∃ i, xs = [.int i] ∧ i.natAbs.log2 < 1920 ∧ Q (.str (toString i)) H) ∨ ∃ a, xs = [.str a] ∧ Q (.str a) H
theorem call_strA : CallR X (.type "str") rStrA := by
  intro pins s σ H xs us Q I r h
  rcases h with h | ⟨a, rfl, q⟩
  · exact call_str_int pins s σ H xs us Q I r h
  · obtain ⟨u, rfl, t, rfl⟩ := vals1 r
    exact PySem.P.str_of_str ⟨.str a, H, I, ⟨t, rfl⟩, q⟩
theorem q_strI {H : Hp} {Q : VK} {i : Int} (h : i.natAbs.log2 < 1920) (k : Q (.str (toString i)) H) : rStrA [.int i] H Q := .inl ⟨i, rfl, h, k⟩
theorem q_strS {H : Hp} {Q : VK} {a : Str} (k : Q (.str a) H) : rStrA [.str a] H Q := .inr ⟨a, rfl, k⟩
abbrev FIG : Str := "0123456789"
theorem fig_index : ∀ d : Fin 10, Builtin.Str.occurrences FIG ⟨#[48 + d.val]⟩ 0 FIG.length 1 = [d.val] := by decide +kernel
/-- '0123456789'.index(sign) -/
def rFig : V → List V → Hp → VK → Prop := fun x xs H Q => ∃ c : Nat, x = .str FIG ∧ xs = [.str ⟨#[c]⟩] ∧ 48 ≤ c ∧ c ≤ 57 ∧ Q (.int ((c - 48 : Nat) : Int)) H
theorem mt_fig : MtR X "str.index" rFig := by
  intro pins s σ H x xs v us Q I rx rs h
  obtain ⟨c, rfl, rfl, h1, h2, q⟩ := h
  have e := fig_index ⟨c - 48, by omega⟩
  rw [show 48 + (⟨c - 48, by omega⟩ : Fin 10).val = c by show 48 + (c - 48) = c; omega] at e
  exact mt_sindex pins s σ H _ _ v us Q I rx rs ⟨_, _, _, _, rfl, rfl, e, q⟩
theorem pe_sindex {o e : Expr} {to te : TE} {apos pos : Pos} (ho : PE X o to) (he : PE X e te) (hs : starEach [e] X.env = [(false, eval e X.env)] := by rfl) (hb : attributeBase o "index" X.env (eval o X.env) = eval o X.env := by rfl) (hl : (apos.endLine == pos.line) = true := by rfl) :
    PE X (.Call (.Attribute o "index" apos) [e] [] pos) (tM1 rFig to te) := pe_m1 PySem.F.slot_str_index PySem.F.type_str_index mt_fig ho he hs hb hl
theorem q_fig {H : Hp} {Q : VK} {c : Nat} (h1 : 48 ≤ c) (h2 : c ≤ 57) (k : Q (.int ((c - 48 : Nat) : Int)) H) : rFig (.str FIG) [.str ⟨#[c]⟩] H Q := ⟨c, rfl, rfl, h1, h2, k⟩
end
def isFig (c : Nat) : Bool := decide (48 ≤ c) && decide (c ≤ 57)
theorem fig_mem (c : Nat) : decide (c ∈ FIG.cps.toList) = isFig c := by
  have e : FIG.cps.toList = [48, 49, 50, 51, 52, 53, 54, 55, 56, 57] := by decide +kernel
  rw [e]
  unfold isFig
  rw [← Bool.decide_and]
  apply decide_eq_decide.mpr
  simp only [List.mem_cons, List.not_mem_nil, or_false]
  omega
/-- the figures of a number, plainly written -/
def plainL (l : List Nat) : Bool := !l.isEmpty && l.all isFig && (decide (l = [48]) || !decide (l.head? = some 48))
abbrev val (l : List Nat) : Nat := PySem.NumText.digitsVal l
theorem val_lt : ∀ l : List Nat, l.all isFig = true → val l < 10 ^ l.length := by
  intro l
  have : ∀ (n : Nat) (l : List Nat), l.length = n → l.all isFig = true → val l < 10 ^ l.length := by
    intro n
    induction n with
    | zero =>
      intro l hl _
      cases l with
      | nil => decide
      | cons a l => simp at hl
    | succ n ih =>
      intro l hl h
      have hne : l ≠ [] := by intro e; rw [e] at hl; simp at hl
      obtain ⟨ini, c, rfl⟩ : ∃ ini c, l = ini ++ [c] := ⟨l.dropLast, l.getLast hne, (List.dropLast_concat_getLast hne).symm⟩
      rw [List.all_append, Bool.and_eq_true] at h
      have hi := ih ini (by rw [List.length_append, List.length_singleton] at hl; omega) h.1
      have hc : 48 ≤ c ∧ c ≤ 57 := by simpa [isFig] using h.2
      show PySem.NumText.digitsVal (ini ++ [c]) < _
      rw [PySem.NumText.digitsVal_snoc, List.length_append, List.length_singleton, Nat.pow_succ]
      have : PySem.NumText.digitsVal ini < 10 ^ ini.length := hi
      omega
  exact this l.length l rfl
/-- the text of a whole number from 0 on -/
theorem num_tl (n : Nat) : TL.tl (Str.ofString (toString ((n : Nat) : Int))) = (Nat.toDigits 10 n).map Char.toNat := TL.tl_num n
theorem val_num (n : Nat) : val ((Nat.toDigits 10 n).map Char.toNat) = n := PySem.W.KIN.val_back n

theorem str_eq_iff {s t : Str} : s = t ↔ s.cps.toList = t.cps.toList := ⟨fun h => by rw [h], fun h => TL.ext_tl h⟩
theorem only_fig (s : Str) : only s FIG = s.cps.toList.all isFig := by
  unfold only
  congr 1
  funext c
  exact fig_mem c
theorem str_nil {s : Str} (h : ¬ s = "") : ∃ c r, s.cps.toList = c :: r := by
  cases e : s.cps.toList with
  | nil => exact absurd (str_eq_iff.mpr e) h
  | cons c r => exact ⟨c, r, rfl⟩
theorem sign_eq (c d : Nat) : decide ((⟨#[c]⟩ : Str) = ⟨#[d]⟩) = decide (c = d) := by
  apply decide_eq_decide.mpr
  constructor
  · intro h
    have := str_eq_iff.mp h
    simpa using this
  · intro h; rw [h]
/-- what a thing writes, between lo and hi -/
def readV (v : V) (lo hi : Int) : V := match v with
  | .str s => if plainL s.cps.toList = true ∧ lo ≤ (val s.cps.toList : Int) ∧ (val s.cps.toList : Int) ≤ hi then .int (val s.cps.toList : Int) else .non
  | _ => .non

theorem digit_fig : ∀ d : Nat, d < 10 → isFig (Nat.digitChar d).toNat = true := by decide
theorem figs_num (m : Nat) : (TL.tl (Str.ofString (toString ((m : Nat) : Int)))).all isFig = true := by
  rw [num_tl]
  induction m using Nat.strongRecOn with
  | _ m ih =>
    by_cases h : m < 10
    · rw [Nat.toDigits_of_lt_base h]
      simp [digit_fig m h]
    · have hm : m % 10 < 10 := Nat.mod_lt m (by decide)
      have t : Nat.toDigits 10 (m / 10) ++ Nat.toDigits 10 (m % 10) = Nat.toDigits 10 (10 * (m / 10) + m % 10) := Nat.toDigits_append_toDigits (by decide) (by omega) hm
      rw [Nat.div_add_mod] at t
      rw [← t, List.map_append, Nat.toDigits_of_lt_base hm, List.all_append, ih (m / 10) (by omega)]
      simp [digit_fig (m % 10) hm]

theorem at_head {l r : List Nat} {c : Nat} (h : l = c :: r) : atI l 0 = some c := atI_nat (j := 0) (by rw [h]; rfl)
theorem plain_cons {l r : List Nat} {c : Nat} (h : l = c :: r) (ha : l.all isFig = true) (h3 : ¬ l = [48]) : plainL l = !decide (c = 48) := by
  unfold plainL
  rw [ha, decide_eq_false h3, h]
  simp

def ForSK (g : TG) (tb : TS) (D : Ends) (σ : L2.St) : V → Hp → Prop := fun v H => tFor (iStr (fun _ H Q' => Q' v H)) g tb D σ H
theorem q_forS {tl : TE} {g : TG} {tb : TS} {D : Ends} {σ : L2.St} {H : Hp} (k : tl σ H (ForSK g tb D σ)) : tFor (iStr tl) g tb D σ H := k
theorem q_strFor {j : Nat} {tb : TS} {D : Ends} {σ : L2.St} {H : Hp} {z : Str} (Pv : Nat → L2.St → Hp → Prop) (h0 : Pv 0 σ H)
    (hs : ∀ (i c : Nat) σ' H', z.cps.toList[i]? = some c → Pv i σ' H' → tb { D with nx := Pv (i + 1), ct := Pv (i + 1), bk := D.nx } (σ'.set j (some (.str ⟨#[c]⟩))) H') (hd : ∀ σ' H', Pv z.cps.toList.length σ' H' → D.nx σ' H') : ForSK (gName j) tb D σ (.str z) H := by
  have hl : z.cps.toList.length = z.cps.size := Array.length_toList
  refine ⟨z, rfl, fun i m σ' H' => i + m = z.cps.size ∧ Pv i σ' H', ⟨z.cps.size, by omega, h0⟩, fun i m σ' H' ⟨hi, p⟩ => ?_⟩
  cases m with
  | zero =>
    obtain rfl : i = z.cps.size := by omega
    rw [← hl] at p
    exact .inl ⟨Nat.le_refl _, hd σ' H' p⟩
  | succ m =>
    refine .inr ⟨(by show i < z.cps.size; omega), Pv (i + 1), fun σ2 H2 p' => ⟨m, Nat.lt_succ_self m, by omega, p'⟩, ?_⟩
    rintro x H2 ⟨rfl, c, hc, rfl⟩
    exact hs i c _ _ (by rw [Array.getElem?_toList]; exact hc) p

/-- the signs that a law bends texts by -/
abbrev SIGNS : Str := " !\"#$&'()*+,-./0123456789:;<=>?@ABCDEFGHIJKLMNOPQRSTUVWXYZ[\\]^_`abcdefghijklmnopqrstuvwxyz{|}~\n"
theorem signs_ok : ∀ c ∈ SIGNS.cps.toList, c < 128 := by decide +kernel
theorem signs_len : SIGNS.length = 95 := by decide +kernel
theorem q_signs {K : PySem.W.Frag} {H : Hp} {Q : VK} {i : Int} (h0 : 0 ≤ i) (h1 : i < SIGNS.length) (k : ∀ c, c < 128 → Q (.str ⟨#[c]⟩) H) : rIx K (.str SIGNS) (.int i) H Q := by
  obtain ⟨c, e, m, _⟩ := at_mem (xs := SIGNS.cps.toList) h0 (by rw [← TL.len_tl]; exact h1)
  exact q_ixS (by rw [signs_len]; exact Nat.le_of_lt (small1000 (by decide))) e (k c (signs_ok c m))

theorem num_Tn {n k : Nat} (hk : 1 ≤ k) (h : n < 10 ^ k) : Tn k (Str.ofString (toString ((n : Nat) : Int))) := by
  refine ⟨?_, fun c hc => ?_⟩
  · rw [TL.len_tl, num_tl, List.length_map]
    exact PySem.toDigits_len_pow (by decide) hk h
  · have := List.all_eq_true.mp (figs_num n) c hc
    simp [isFig] at this
    omega
theorem log_small {i : Int} (h0 : 0 ≤ i) (h : i < 1000000000000000000000000000000) : i.natAbs.log2 < 1920 := by
  obtain ⟨n, rfl⟩ := Int.eq_ofNat_of_zero_le h0
  show n.log2 < 1920
  by_cases hz : n = 0
  · subst hz; decide
  · exact (Nat.log2_lt hz).mpr (Nat.lt_trans (show n < 10 ^ 30 by omega) (by decide +kernel))

/-! # Second part: defs called while no text of a list is under way; texts of nested data -/
section
/-- room, and nothing of a text is under way -/
structure RoomG (k : Nat) (A : Around) : Prop where
  room : Room k A
  gd : A.guards = some []
theorem RoomG.mono {j k : Nat} {A : Around} (r : RoomG k A) (h : j ≤ k) : RoomG j A := ⟨r.room.mono h, r.gd⟩
theorem RoomG.deeper {k : Nat} {A : Around} (r : RoomG (k + 1) A) (env : Env) : RoomG k (A.deeper env) := ⟨r.room.deeper env, r.gd⟩
theorem RoomG.units {k : Nat} {A : Around} (r : RoomG k A) : A.units + 64 < cLine := r.room.units
variable {P : Program} {w : World} {K : PySem.W.Frag} {mg : Str → Option Value} {base : Heap}
/-- a def's promise, where nothing of a text is under way -/
structure FnG (P : Program) (w : World) (K : PySem.W.Frag) (mg : Str → Option Value) (base : Heap) (CX : CXT) (k : Nat) (f : Addr) (fd : FuncData) (ps : List Str) (sp : Sp) : Prop where
  many : ∀ vs H Q E, sp vs H Q E → vs.length = ps.length
  runs : ∀ {A : Around} {outer : List Env} {s : Shared} {H : Hp} {args : Args} {us : List Value} {vs : List V} {Q : VK} {E : XK}, RoomG k A → Env0 P w K mg base A outer s H → BindsTo s fd args (ps.zip us) → Vals vs us → sp vs H Q E →
    codeAny (model P w) A (.call (.ref f) args) (CR CX outer P w H s Q E) s
theorem FnG.mono {CX : CXT} {j k : Nat} {f : Addr} {fd : FuncData} {ps : List Str} {sp : Sp} (F : FnG P w K mg base CX j f fd ps sp) (h : j ≤ k) : FnG P w K mg base CX k f fd ps sp := ⟨F.many, fun r => F.runs (r.mono h)⟩
/-- by its body -/
theorem fnG_of {CX : CXT} {x qual : Str} {st : Stmt} {f : Addr} {fd : FuncData} {N ps : List Str} {k : Nat} {sp : Sp} (F : Fun K x qual st f fd) (S : FnScope N ps (defScope st)) (many : ∀ vs H Q E, sp vs H Q E → vs.length = ps.length)
    (hb : ∀ (cdv : Value) (A : Around) (outer : List Env) (s : Shared) (H : Hp) (vs : List V) (Q : VK) (E : XK), RoomG k (A.deeper (envOfC qual (defScope st) s.heap.objs.size f cdv)) → sp vs H Q E →
      ∃ t, PSs (cxOf CX P w K mg base N qual (defScope st) f cdv A outer s H E) (defBody st) t ∧ t { nx := fun _ H' => Q .non H', rt := Q } (start N vs) H) : FnG P w K mg base CX (k + 1) f fd ps sp := by
  obtain ⟨oc, od, kV, doc, pm, an, cdv, ct, osl, rfl, lk, hcd⟩ := F.ex
  refine ⟨many, ?_⟩
  intro A outer s H args us vs Q E hr e0 bnd rel hsp
  have KX := e0.mod.kin.keeps (h' := s.heap) fun b o z => (e0.bs b o z).1
  have kinds : ∀ y ∈ ps.zip us, (defScope st).names.lookup y.1 = some .local ∨ ((defScope st).names.lookup y.1 = some .cell ∧ ((cellsFrom (s.heap.objs.size + 1) (defScope st).names []).lookup y.1).isSome = true) := by
    rintro ⟨n, v⟩ hy
    exact (S.par n (List.of_mem_zip hy).1).imp id fun q => ⟨q, PySem.W.cellsFrom_some _ _ _ (Or.inl q)⟩
  refine codeAny_call_function hr.room.depth (KX _ _ lk) rfl S.co S.gen rfl (PySem.W.codeRec_of KX hcd) (bnd _ _ _ _ (wpAny_newFunctionEnv_cells S.kind kinds fun env he s1 x => ?_))
  cases he
  have lim0 : s.heap.NoLimit := e0.mod.nolimit.keeps fun b o z => (e0.bs b o z).1
  refine ⟨lim0.keeps x.toInCall.keep, codeAny_func ?_⟩
  obtain ⟨t, ht, hq⟩ := hb _ A outer s H vs Q E (hr.deeper _) hsp
  have J := inv_start (CX := CX) (E := E) (cd := cdv) (f := f) S hr.room.hd e0 (many _ _ _ _ hsp) rel x
  refine wpAny_mono (ht.run [] s1 (start N vs) H _ J hq) (fun fl s' hs => ?_) (fun e s' z => z)
  match fl, hs with
  | .ret u, ⟨v, σ', H', I, rv, q⟩ => exact ⟨v, H', I.os, I.bare, I.base, I.hok, rv, q⟩
  | .next, ⟨σ', H', I, q⟩ => exact ⟨V.non, H', I.os, I.bare, I.base, I.hok, rfl, q⟩
  | .brk, ⟨_, _, _, q⟩ => exact q.elim
  | .cont, ⟨_, _, _, q⟩ => exact q.elim
end
section
variable {X : Cx} {CX : CXT} {k : Nat} {f : Addr} {fd : FuncData} {ps : List Str} {sp : Sp} {dvs : List V} {ds : List Value} {E : XK}
theorem runG {pins : List (Addr × Obj)} {σ : L2.St} {H : Hp} {s : Shared} {Q : VK} {us : List Value} {vs : List V} (F : FnG X.prog X.w X.K X.mg X.base CX k f fd ps sp) (hr : RoomG k X.A) (hb : Binds X.K fd ps ds) (hd : Vals dvs ds) (hx : Passes CX X E)
    (I : Inv X pins σ H s) (rel : Vals vs us) (h : sp (vs ++ dvs) H Q E) : wpAny (model X.prog X.w) X.A (call (.ref f) us) (EP X pins σ Q) X.xe s := by
  have rel2 := rel.append hd
  have hl : (us ++ ds).length = ps.length := rel2.length.symm.trans (F.many _ _ _ _ h)
  refine wpAny_call (codeAny_mono (F.runs hr I.env0 (hb s us I.kIn hl) rel2 h) fun r s' hq => ?_)
  match r, hq with
  | .error e, hq => exact hx pins σ H s e s' I hq
  | .ok (.ret u), hq => exact I.after hq
  | .ok .next, hq => exact hq.elim
  | .ok .brk, hq => exact hq.elim
  | .ok .cont, hq => exact hq.elim
end
section
variable {P : Program} {w : World} {K : PySem.W.Frag} {mg : Str → Option Value} {base : Heap}
/-- a def by its name, with its promise -/
structure Kg (CX : CXT) (P : Program) (w : World) (K : PySem.W.Frag) (mg : Str → Option Value) (base : Heap) (k : Nat) (x : Str) (sp : Sp) : Prop where
  ex : ∃ (f : Addr) (fd : FuncData) (ps : List Str), FnG P w K mg base CX k f fd ps sp ∧ mg x = some (.ref f) ∧ PySem.W.keepIn K (.ref f) = true ∧ Binds K fd ps []
theorem kg_of {CX : CXT} {x : Str} {st : Stmt} {N ps : List Str} {k : Nat} {sp : Sp} (F : Df K mg x st ps) (S : FnScope N ps (defScope st)) (many : ∀ vs H Q E, sp vs H Q E → vs.length = ps.length)
    (hb : ∀ (f : Addr) (cdv : Value) (A : Around) (outer : List Env) (s : Shared) (H : Hp) (vs : List V) (Q : VK) (E : XK), RoomG k (A.deeper (envOfC x (defScope st) s.heap.objs.size f cdv)) → sp vs H Q E →
      ∃ t, PSs (cxOf CX P w K mg base N x (defScope st) f cdv A outer s H E) (defBody st) t ∧ t { nx := fun _ H' => Q .non H', rt := Q } (start N vs) H) : Kg CX P w K mg base (k + 1) x sp := by
  obtain ⟨f, fd, F1, m, b⟩ := F.ex
  exact ⟨f, fd, ps, fnG_of F1 S many (hb f), m, F1.kp, b⟩
end
section
variable {X : Cx} {CX : CXT} {k j : Nat} {x : Str} {sp : Sp} {E : XK} {p pos : Pos} {e : Expr} {es : List Expr} {t : TA}
theorem pe_kg (c : Kg CX X.prog X.w X.K X.mg X.base k x sp) (hr : RoomG j X.A) (hk : k ≤ j) (hx : Passes CX X E) (hg : Gl X x) (ha : PA X (e :: es) t)
    (hdb : (x == ("__debug__" : Str)) = false := by decide) (he : starEach (e :: es) X.env = (false, eval e X.env) :: starEach es X.env := by rfl) (hpl : (backTo pos (starEach es X.env)).any (·.1) = false := by rfl) :
    PE X (.Call (.Name x p) (e :: es) [] pos) (tCall sp [] E t) := by
  obtain ⟨f, fd, ps, F, hm, kp, b⟩ := c.ex
  refine ⟨fun pins s σ H Q I h => wpAny_Call_Name_kw (ld_glob I hg hm (PySem.W.callWith_K (h₀ := X.base) I.ok.mod.kin kp (thn (ha.run pos pins s σ H _ I h) ?_) he hpl) hdb)⟩
  rintro us s1 ⟨vs, H1, I1, rel, q⟩
  exact ⟨I1.kIn, runG F (hr.mono hk) b .nil hx I1 rel q⟩
theorem pe_kg0 (c : Kg CX X.prog X.w X.K X.mg X.base k x sp) (hr : RoomG j X.A) (hk : k ≤ j) (hx : Passes CX X E) (hg : Gl X x) (hdb : (x == ("__debug__" : Str)) = false := by decide) :
    PE X (.Call (.Name x p) [] [] pos) (tCall sp [] E tNil) := by
  obtain ⟨f, fd, ps, F, hm, kp, b⟩ := c.ex
  exact ⟨fun pins s σ H Q I h => wpAny_Call_Name_kw (ld_glob I hg hm (PySem.W.callWith_K0 I.kIn kp (runG (us := []) F (hr.mono hk) b .nil hx I .nil h)) hdb)⟩
end
/-! ## the law's own call -/
section
theorem law_run {P : Program} {w : World} {K : PySem.W.Frag} {mg mb : Str → Option Value} {CX : CXT} {k : Nat} {fa a : Addr} {fd : FuncData} {x : Str} {sp : Sp} {s₁ : Shared} {vs : List Value} {ns : List Int}
    (KX : K.In s₁.heap) (hns : s₁.heap.Ns mainGlobals mg) (hb : s₁.heap.Ns builtinsNs mb) (hbb : ∀ x : Str, x ≠ "__name__" → mb x = bootBuiltins x) (hlim : s₁.heap.NoLimit) (hg : s₁.gens = #[])
    (ha : s₁.heap.get? a = some { cls := .type "list", data := .seq vs.toArray }) (hi : IntsAre vs ns) (hl : ns.length ≤ sizeLine) (hr : RoomG k callerA)
    (F : ∀ base : Heap, K.In base → base.Ns mainGlobals mg → FnG P w K mg base CX k fa fd [x] sp) (bnd : ∀ (s : Shared) (u : Value), BindsTo s fd ⟨[u], []⟩ [(x, u)])
    (hsp : ∀ H : Hp, Only H → SqL K H a (ns.map V.int) → sp [.ref a] H (fun v _ => v = .bl true) fun _ _ _ => False)
    (hCX : ∀ H e s', CX [] H s₁ (fun _ _ _ => False) e s' → False) :
    codeAny (model P w) callerA (.call (.ref fa) ⟨[.ref a], []⟩) (fun r s' => r = .ok (.ret (.bool true)) ∧ OldK s₁.heap s'.heap ∧ s'.os = s₁.os ∧ AllBare s'.gens) s₁ := by
  -- what is tracked at the start: nothing, or the script alone, known to its object
  let T : HO := .frz { cls := .type "list", data := .seq vs.toArray } (.lst (ns.map V.int))
  let H : Hp := fun b => if b = a ∧ K.lookup a = none then some T else none
  have rel := vals_ints hi
  have hT : ∀ b u, H b = some u → b = a ∧ K.lookup a = none ∧ u = T := by
    intro b u z
    by_cases c : b = a ∧ K.lookup a = none
    · exact ⟨c.1, c.2, (Option.some.inj ((if_pos c).symm.trans z)).symm⟩
    · exact absurd ((if_neg c).symm.trans z) (by simp)
  have hS : SqL K H a (ns.map V.int) := by
    cases hk : K.lookup a with
    | none => exact .inl (.inr ⟨_, if_pos ⟨rfl, hk⟩⟩)
    | some o =>
      have e := KX a o hk
      rw [ha] at e
      cases e
      exact .inr ⟨_, vs.toArray, _, hk, rfl, rfl, rfl, by rw [List.size_toArray, hi.length]; exact hl, by simpa using rel⟩
  have hO : Only H := fun b => by
    cases z : H b with
    | none => exact .inl rfl
    | some u => exact .inr ⟨_, _, by rw [(hT b u z).2.2]⟩
  have hok : HOk P w H s₁.heap := fun b u z => by
    obtain ⟨rfl, _, rfl⟩ := hT b u z
    exact ⟨ha, by rw [List.length_map]; exact hl, vs, _, rel, ha⟩
  have un : ∀ {b : Addr} {o : Obj}, s₁.heap.get? b = some o → (∀ es ep, o.data = .dict es ep → H b = none) := fun {b o} e es ep d => by
    cases z : H b with
    | none => rfl
    | some u =>
      obtain ⟨rfl, _, _⟩ := hT b u z
      rw [ha] at e
      cases e
      cases d
  have nsB : ∀ {b : Addr} {m : Str → Option Value}, s₁.heap.Ns b m → (hidT s₁.heap H).Ns b m := fun {b m} ⟨o, es, ep, e, d, r⟩ => ⟨o, es, ep, hidT_get e (un e es ep d), d, r⟩
  have kB : K.In (hidT s₁.heap H) := fun b o e => hidT_get (KX b o e) (by
    cases z : H b with
    | none => rfl
    | some u =>
      obtain ⟨rfl, hk, _⟩ := hT b u z
      rw [hk] at e
      cases e)
  have modB : Mod K mg (hidT s₁.heap H) := ⟨kB, nsB hns, ⟨mb, nsB hb, hbb⟩, let ⟨mc, h1, h2⟩ := hlim; ⟨mc, nsB h1, h2⟩⟩
  have e0 : Env0 P w K mg (hidT s₁.heap H) callerA [] s₁ H := { frames := rfl, mod := modB, bs := fun b o e => of_hidT e, bsz := Nat.le_of_eq (hidT_size _ _), funs := trivial, frf := fun b hb => absurd (show b ∈ ([] : List Addr) from hb) (by simp), hok := hok, bare := .of_eq hg }
  refine codeAny_mono ((F _ kB (nsB hns)).runs (vs := [.ref a]) (us := [.ref a]) hr e0 (bnd s₁ (.ref a)) (.cons rfl .nil) (hsp H hO hS)) fun r s' z => ?_
  match r, z with
  | .error e, z => exact (hCX H e s' z).elim
  | .ok .next, z => exact z.elim
  | .ok .brk, z => exact z.elim
  | .ok .cont, z => exact z.elim
  | .ok (.ret u), ⟨v, H', os, bare, U, hok', rv, q⟩ =>
    obtain rfl : v = .bl true := q
    obtain rfl : u = Value.bool true := rv
    refine ⟨rfl, OldK.of_keep fun b o e => ?_, os, bare⟩
    cases z : H b with
    | none => exact U.keep b o e z (fun m => absurd (show b ∈ ([] : List Addr) from m) (by simp)) (by simp)
    | some t =>
      obtain ⟨rfl, _, rfl⟩ := hT b t z
      have z2 : H' b = some T := U.frzs b _ _ z
      rw [ha] at e
      cases e
      exact (hok' b _ z2).1
theorem walk_g {l : PySem.W.OpenLaw} {n k : Nat} {q : Program} {loose : List Str} {XP : (Str → Option Value) → Heap → Prop} {YP : World → Heap → Prop} {d : DefRec} {K : Params → PySem.W.Frag} {CX : World → CXT} {sp : World → Sp} {x : Str}
    (hn : l.most = some n) (hn2 : n ≤ sizeLine) (hdf : d.params.defaults = []) (hr : RoomG k callerA) (hY : ∀ (w : World) (h : Heap), YP w h → (K w.params).In h)
    (F : ∀ (w : World) (mg : Str → Option Value) (fa : Addr) (h : Heap), (K w.params).In h → h.Ns mainGlobals mg → mg d.name = some (.ref fa) →
      ∃ fd : FuncData, (∀ (s : Shared) (u : Value), BindsTo s fd ⟨[u], []⟩ [(x, u)]) ∧ ∀ base : Heap, (K w.params).In base → base.Ns mainGlobals mg → FnG l.prog w (K w.params) mg base (CX w) k fa fd [x] (sp w))
    (hsp : ∀ (w : World) (H : Hp) (a : Addr) (ns : List Int), ns.length ≤ n → Only H → SqL (K w.params) H a (ns.map V.int) → sp w [.ref a] H (fun v _ => v = .bl true) fun _ _ _ => False)
    (hCX : ∀ (w : World) (H : Hp) (s : Shared) (e : Value) (s' : Shared), CX w [] H s (fun _ _ _ => False) e s' → False) : PySem.W.WalkO q loose XP YP l.row.toRowW d [] (fun f vs => PySem.call f vs) := by
  refine Att.attach_call hn hdf fun w s₀ s₁ mg mb fa o pm cd doc a vs ns G Y ho hd hcd hmg hobj hints hlen hg => ?_
  obtain ⟨fd, bnd, hF⟩ := F w mg fa _ (hY w _ Y) G.T.g hmg
  exact law_run (hY w _ Y) G.T.g G.T.b G.T.builtins G.T.nolimit hg hobj hints (Nat.le_trans hlen hn2) hr hF bnd (fun H hO hS => hsp w H a ns hlen hO hS) fun H e s' => hCX w H s₁ e s'
end
/-! ## data at any depth, dicts too, and its text -/
mutual
inductive Dd (K : PySem.W.Frag) (H : Hp) : V → PyData → Prop
  | non : Dd K H .non .none
  | bl (b : Bool) : Dd K H (.bl b) (.bool b)
  | int (i : Int) : Dd K H (.int i) (.int i)
  | str (x : Str) : Dd K H (.str x) (.str x)
  | lst {a : Addr} {xs : List V} {ds : List PyData} : SqL K H a xs → DdAll K H xs ds → Dd K H (.ref a) (.list ds)
  | tup {a : Addr} {xs : List V} {ds : List PyData} : SqT K H a xs → DdAll K H xs ds → Dd K H (.ref a) (.tuple ds)
  | dic {a : Addr} {kvs : List (Key × V)} {es : List (PyData × PyData)} : H a = some (.dK kvs) → DdAll K H (kvs.map fun p => kV p.1) (es.map (·.1)) → DdAll K H (kvs.map (·.2)) (es.map (·.2)) → Dd K H (.ref a) (.dict es)
inductive DdAll (K : PySem.W.Frag) (H : Hp) : List V → List PyData → Prop
  | nil : DdAll K H [] []
  | cons {v : V} {vs : List V} {d : PyData} {ds : List PyData} : Dd K H v d → DdAll K H vs ds → DdAll K H (v :: vs) (d :: ds)
end
theorem key_rel {k : Key} {u : Value} (h : keyIs k u = true) : RelV (kV k) u := by
  rcases keyIs_shape h with ⟨i, t, rfl, rfl⟩ | ⟨x, t, rfl, rfl⟩
  · exact ⟨t, rfl⟩
  · exact ⟨t, rfl⟩
theorem pairs_vals {P : Program} {w : World} {es : List DictEntry} {vs : List (Key × Value)} (p : Pairs (mixKind P w) es vs) : ∀ {kvs : List (Key × V)}, KV kvs vs → Vals (kvs.map fun p => kV p.1) (es.map (·.key)) ∧ Vals (kvs.map (·.2)) (es.map (·.val)) := by
  induction p with
  | nil =>
    intro kvs r
    cases r
    exact ⟨.nil, .nil⟩
  | @cons e kv es vs h1 h2 _ ih =>
    intro kvs r
    cases r with
    | @cons x _ xs _ h t =>
      obtain ⟨q1, q2⟩ := ih t
      refine ⟨.cons ?_ q1, .cons ?_ q2⟩
      · show RelV (kV x.1) e.key
        rw [h.1]; exact key_rel h1
      · show RelV x.2 e.val
        rw [h2]; exact h.2
theorem size_fst : ∀ es : List (PyData × PyData), sizeOf (es.map (·.1)) ≤ sizeOf es
  | [] => Nat.le_refl _
  | (a, b) :: es => by
    have := size_fst es
    simp only [List.map_cons, List.cons.sizeOf_spec, Prod.mk.sizeOf_spec]
    omega
theorem size_snd : ∀ es : List (PyData × PyData), sizeOf (es.map (·.2)) ≤ sizeOf es
  | [] => Nat.le_refl _
  | (a, b) :: es => by
    have := size_snd es
    simp only [List.map_cons, List.cons.sizeOf_spec, Prod.mk.sizeOf_spec]
    omega
section
variable {X : Cx} {pins : List (Addr × Obj)} {σ : L2.St} {H : Hp} {s : Shared}
mutual
/-- what such a thing reads as, and that its text may be asked -/
theorem dd_show (I : Inv X pins σ H s) : ∀ (d : PyData) (v : V) (u : Value), Dd X.K H v d → RelV v u → d.showable = true → d.shown.length ≤ sizeLine →
    ∃ as bs, Reads s.heap u d as ∧ ReadAtMost s.heap d.depth bs ∧ ReprK X.prog X.w bs s.heap d.depth u d.shown
  | .none, _, _, h, r, _, _ => by
    cases h; cases r
    exact ⟨_, [], .none, (fun _ h => nomatch h), by simp only [PyData.shown]; exact .of_is ReprIs.none _ _ _⟩
  | .bool b, _, _, h, r, _, _ => by
    cases h; cases r
    exact ⟨_, [], .bool b, (fun _ h => nomatch h), by simp only [PyData.shown]; exact .of_is (ReprIs.bool b) _ _ _⟩
  | .int i, _, _, h, r, hs, _ => by
    cases h; obtain ⟨t, rfl⟩ := r
    exact ⟨_, [], .int i t, (fun _ h => nomatch h), by simp only [PyData.shown]; exact .of_is (ReprIs.int t (of_decide_eq_true (by simpa only [PyData.showable] using hs))) _ _ _⟩
  | .str x, _, _, h, r, _, hz => by
    cases h; obtain ⟨t, rfl⟩ := r
    exact ⟨_, [], .str x t, (fun _ h => nomatch h), by simp only [PyData.shown]; exact .of_is (ReprIs.str x t (by simpa only [PyData.shown] using hz)) _ _ _⟩
  | .list ds, _, _, h, r, hs, hz => by
    cases h with
    | @lst a xs _ hq ha =>
      cases r
      have hz' : (listText (PyData.shownAll ds)).length ≤ sizeLine := by simpa only [PyData.shown] using hz
      obtain ⟨its, rv, ⟨o, n, ho, hc, _, hd⟩, _⟩ := I.list hq
      obtain ⟨as, bs, hr, hb, hk⟩ := dd_showAll I ds _ its ha rv (by simpa only [PyData.showable] using hs) fun t ht => Nat.le_trans (listText_mem_le ht) hz'
      have R : Reads s.heap (.ref a) (.list ds) _ := .list ho hc hd hr
      have hna : a ∉ bs := not_mem_of_deeper R (by simp only [PyData.depth]; omega) hb
      refine ⟨_, a :: bs, R, ReadAtMost.cons R (by simp only [PyData.depth]; omega) hb, ?_⟩
      simp only [PyData.depth, PyData.shown]
      cases its with
      | nil =>
        cases hr
        simp only [PyData.shownAll, listText_nil]
        exact ReprK.listEmpty ho hc hd
      | cons y l => exact ReprK.list ho hc hd hna (by simpa using hk.length_eq) fun i z e => hk.item i z (by simpa using e)
  | .tuple ds, _, _, h, r, hs, hz => by
    cases h with
    | @tup a xs _ hq ha =>
      cases r
      have hz' : (tupleText (PyData.shownAll ds)).length ≤ sizeLine := by simpa only [PyData.shown] using hz
      obtain ⟨its, rv, ⟨o, ho, hc, n, hd⟩, _⟩ := I.tuple hq
      obtain ⟨as, bs, hr, hb, hk⟩ := dd_showAll I ds _ its ha rv (by simpa only [PyData.showable] using hs) fun t ht => Nat.le_trans (tupleText_mem_le ht) hz'
      have R : Reads s.heap (.ref a) (.tuple ds) _ := .tuple ho hc hd hr
      have hna : a ∉ bs := not_mem_of_deeper R (by simp only [PyData.depth]; omega) hb
      refine ⟨_, a :: bs, R, ReadAtMost.cons R (by simp only [PyData.depth]; omega) hb, ?_⟩
      simp only [PyData.depth, PyData.shown]
      exact ReprK.tuple ho hc hd hna hk
  | .dict es, _, _, h, r, hs, hz => by
    cases h with
    | @dic a kvs _ hq h1 h2 =>
      cases r
      have hz' : (dictText (PyData.shownKv es)).length ≤ sizeLine := by simpa only [PyData.shown] using hz
      obtain ⟨_, hsys, vs, rel, o, esA, ep, ho, hx, hd, _, hp, _⟩ := dk_of I.hok hq
      obtain ⟨v1, v2⟩ := pairs_vals hp rel
      obtain ⟨hs1, hs2⟩ := PyData.showableKv_split es (by simpa only [PyData.showable] using hs)
      obtain ⟨as1, b1, r1, hb1, k1⟩ := dd_showAll I (es.map (·.1)) _ _ h1 v1 hs1 fun t ht => let ⟨p, hp, hl⟩ := PyData.shownKv_key_le es t ht; Nat.le_trans hl (Nat.le_trans (dictText_mem_le hp) hz')
      obtain ⟨as2, b2, r2, hb2, k2⟩ := dd_showAll I (es.map (·.2)) _ _ h2 v2 hs2 fun t ht => let ⟨p, hp, hl⟩ := PyData.shownKv_val_le es t ht; Nat.le_trans hl (Nat.le_trans (dictText_mem_le hp) hz')
      have R : Reads s.heap (.ref a) (.dict es) _ := .dict ho hx.1 hd r1 r2
      have hb := (hb1.mono (PyData.depthAll_keys_le es)).append (hb2.mono (PyData.depthAll_vals_le es))
      have hna : a ∉ b1 ++ b2 := not_mem_of_deeper R (by simp only [PyData.depth]; omega) hb
      refine ⟨_, a :: (b1 ++ b2), R, ReadAtMost.cons R (by simp only [PyData.depth]; omega) hb, ?_⟩
      simp only [PyData.depth, PyData.shown, PyData.shownKv_eq]
      exact ReprK.dict ho hx.1 hd hsys hna (ReprEntriesK.of_two esA.toList _ _ (k1.more_le (fun b m => List.mem_append_left _ m) (PyData.depthAll_keys_le es)) (k2.more_le (fun b m => List.mem_append_right _ m) (PyData.depthAll_vals_le es)))
termination_by d => sizeOf d
decreasing_by
  all_goals simp_wf
  all_goals first
    | omega
    | exact Nat.lt_of_le_of_lt (size_fst _) (by omega)
    | exact Nat.lt_of_le_of_lt (size_snd _) (by omega)
theorem dd_showAll (I : Inv X pins σ H s) : ∀ (ds : List PyData) (vs : List V) (us : List Value), DdAll X.K H vs ds → Vals vs us → PyData.showableAll ds = true → (∀ t ∈ PyData.shownAll ds, t.length ≤ sizeLine) →
    ∃ as bs, ReadsAll s.heap us ds as ∧ ReadAtMost s.heap (PyData.depthAll ds) bs ∧ ReprAllK X.prog X.w bs s.heap (PyData.depthAll ds) us (PyData.shownAll ds)
  | [], _, _, h, r, _, _ => by
    cases h; cases r
    exact ⟨_, [], .nil, (fun _ h => nomatch h), by simp only [PyData.shownAll]; exact .nil⟩
  | d :: ds, _, _, h, r, hs, hz => by
    cases h with
    | cons h1 h2 =>
      cases r with
      | cons r1 r2 =>
        have hs' : d.showable = true ∧ PyData.showableAll ds = true := by simpa [PyData.showableAll] using hs
        obtain ⟨as1, b1, q1, hb1, k1⟩ := dd_show I d _ _ h1 r1 hs'.1 (hz _ (by simp only [PyData.shownAll]; exact List.mem_cons_self ..))
        obtain ⟨as2, b2, q2, hb2, k2⟩ := dd_showAll I ds _ _ h2 r2 hs'.2 fun t ht => hz t (by simp only [PyData.shownAll]; exact List.mem_cons_of_mem _ ht)
        refine ⟨_, b1 ++ b2, .cons q1 q2, ?_, ?_⟩
        · simp only [PyData.depthAll]
          exact (hb1.mono (Nat.le_max_left _ _)).append (hb2.mono (Nat.le_max_right _ _))
        · simp only [PyData.depthAll, PyData.shownAll]
          exact .cons ((k1.more fun b m => List.mem_append_left _ m).level_le (Nat.le_max_left _ _)) (k2.more_le (fun b m => List.mem_append_right _ m) (Nat.le_max_right _ _))
termination_by ds => sizeOf ds
decreasing_by
  all_goals simp_wf
  all_goals omega
end
end
section
variable {X : Cx}
/-- repr of data at any depth -/
def rRepr (K : PySem.W.Frag) : List V → Hp → VK → Prop := fun vs H Q => ∃ x d, vs = [x] ∧ Dd K H x d ∧ d.showable = true ∧ d.depth ≤ 40 ∧ d.shown.length ≤ sizeLine ∧ Q (.str d.shown) H
theorem call_repr {k : Nat} (hr : RoomG k X.A) : CallR X (.builtin "repr") (rRepr X.K) := by
  intro pins s σ H xs us Q I r h
  obtain ⟨x, d, rfl, hd, h1, h3, h4, q⟩ := h
  obtain ⟨u, rfl, ru⟩ := vals1 r
  have hu := hr.units
  have fin : ∀ {h' : Heap} {t tk : Tok}, (∀ b o, s.heap.get? b = some o → h'.get? b = some o) → EP X pins σ Q (.str d.shown t) { s with heap := h', toks := tk } := fun {h' t tk} hk => ⟨.str _, H, I.kept (t' := tk) hk, ⟨t, rfl⟩, q⟩
  have same : ∀ b o, s.heap.get? b = some o → s.heap.get? b = some o := fun _ _ e => e
  cases d with
  | none =>
    cases hd; cases ru
    exact PySem.P.repr_of_none (by simpa only [PyData.shown] using fin same)
  | bool b =>
    cases hd; cases ru
    exact PySem.P.repr_of_bool (by simpa only [PyData.shown] using fin same)
  | int i =>
    cases hd; obtain ⟨t, rfl⟩ := ru
    exact PySem.P.repr_of_int (of_decide_eq_true (by simpa only [PyData.showable] using h1)) (by simpa only [PyData.shown] using fin same)
  | str z =>
    cases hd; obtain ⟨t, rfl⟩ := ru
    exact PySem.P.repr_of_str (by simpa only [PyData.shown] using fin same) (by simpa only [PyData.shown] using h4)
  | list ds =>
    cases hd with
    | @lst a ys _ hq ha =>
      cases ru
      have hz' : (listText (PyData.shownAll ds)).length ≤ sizeLine := by simpa only [PyData.shown] using h4
      obtain ⟨its, rv, ⟨o, n, ho, hc, _, hdt⟩, _⟩ := I.list hq
      obtain ⟨as, bs, hrd, hb, hk⟩ := dd_showAll I ds _ its ha rv (by simpa only [PyData.showable] using h1) fun t ht => Nat.le_trans (listText_mem_le ht) hz'
      have R : Reads s.heap (.ref a) (.list ds) _ := .list ho hc hdt hrd
      have hna : a ∉ bs := not_mem_of_deeper R (by simp only [PyData.depth]; omega) hb
      simp only [PyData.depth] at h3
      simp only [PyData.shown] at fin
      refine call_repr_slot (T := "list") (by omega) ⟨o, ho, hc⟩ PySem.F.slot_list_repr.toG ?_
      cases its with
      | nil =>
        cases hrd
        simp only [PyData.shownAll, listText_nil] at fin
        exact call_list_repr_empty ⟨o, ho, hc⟩ ho hdt ⟨_, _, rfl, fin same⟩
      | cons y l =>
        exact call_list_reprK ho hc hdt hna (by simpa using hk.length_eq) (fun i z e => hk.item i z (by simpa using e)) (show X.A.in1.guards = some [] from hr.gd) (fun b _ => Clear.nil b) (by show X.A.units + 1 + _ < cLine; omega) same (fun h' t tk hk => ⟨_, _, rfl, fin hk⟩) hz'
  | tuple ds =>
    cases hd with
    | @tup a ys _ hq ha =>
      cases ru
      have hz' : (tupleText (PyData.shownAll ds)).length ≤ sizeLine := by simpa only [PyData.shown] using h4
      obtain ⟨its, rv, ⟨o, ho, hc, n, hdt⟩, _⟩ := I.tuple hq
      obtain ⟨as, bs, hrd, hb, hk⟩ := dd_showAll I ds _ its ha rv (by simpa only [PyData.showable] using h1) fun t ht => Nat.le_trans (tupleText_mem_le ht) hz'
      have R : Reads s.heap (.ref a) (.tuple ds) _ := .tuple ho hc hdt hrd
      have hna : a ∉ bs := not_mem_of_deeper R (by simp only [PyData.depth]; omega) hb
      simp only [PyData.depth] at h3
      simp only [PyData.shown] at fin
      refine call_repr_slot (T := "tuple") (by omega) ⟨o, ho, hc⟩ PySem.F.slot_tuple_repr ?_
      exact call_tuple_reprK ho hc hdt hna hk (show X.A.in1.guards = some [] from hr.gd) (fun b _ => Clear.nil b) (by show X.A.units + 1 + _ < cLine; omega) same (fun h' t tk hk => ⟨_, _, rfl, fin hk⟩) hz'
  | dict es =>
    cases hd with
    | @dic a kvs _ hq e1 e2 =>
      cases ru
      have hz' : (dictText (PyData.shownKv es)).length ≤ sizeLine := by simpa only [PyData.shown] using h4
      obtain ⟨_, hsys, vs, rel, o, esA, ep, ho, hx, hdt, _, hp, _⟩ := dk_of I.hok hq
      obtain ⟨v1, v2⟩ := pairs_vals hp rel
      obtain ⟨hs1, hs2⟩ := PyData.showableKv_split es (by simpa only [PyData.showable] using h1)
      obtain ⟨as1, b1, r1, hb1, k1⟩ := dd_showAll I (es.map (·.1)) _ _ e1 v1 hs1 fun t ht => let ⟨p, hp, hl⟩ := PyData.shownKv_key_le es t ht; Nat.le_trans hl (Nat.le_trans (dictText_mem_le hp) hz')
      obtain ⟨as2, b2, r2, hb2, k2⟩ := dd_showAll I (es.map (·.2)) _ _ e2 v2 hs2 fun t ht => let ⟨p, hp, hl⟩ := PyData.shownKv_val_le es t ht; Nat.le_trans hl (Nat.le_trans (dictText_mem_le hp) hz')
      have R : Reads s.heap (.ref a) (.dict es) _ := .dict ho hx.1 hdt r1 r2
      have hb := (hb1.mono (PyData.depthAll_keys_le es)).append (hb2.mono (PyData.depthAll_vals_le es))
      have hna : a ∉ b1 ++ b2 := not_mem_of_deeper R (by simp only [PyData.depth]; omega) hb
      simp only [PyData.depth] at h3
      simp only [PyData.shown, PyData.shownKv_eq] at fin hz'
      refine call_repr_slot (T := "dict") (by omega) ⟨o, ho, hx.1⟩ PySem.F.slot_dict_repr ?_
      exact call_dict_reprK ho hx.1 hdt hsys hna (ReprEntriesK.of_two esA.toList _ _ (k1.more_le (fun b m => List.mem_append_left _ m) (PyData.depthAll_keys_le es)) (k2.more_le (fun b m => List.mem_append_right _ m) (PyData.depthAll_vals_le es)))
        (show X.A.in1.guards = some [] from hr.gd) (fun b _ => Clear.nil b) (by show X.A.units + 1 + _ < cLine; omega) same (fun h' t tk hk => ⟨_, _, rfl, fin hk⟩) hz'
end


/-! # Third part: comprehensions that make objects; parts of a mark -/
/-! ## comprehensions over a list, over a range: each turn may make objects -/
def LcLK (K : PySem.W.Frag) (g : TG) (tt : TT) (te : TE) (vs : List Nat) (σ : L2.St) (Q : VK) : V → Hp → Prop := fun v H => tLc (iList K (fun _ H Q' => Q' v H)) g tt te vs σ H Q
theorem q_lcL {K : PySem.W.Frag} {tl : TE} {g : TG} {tt : TT} {te : TE} {vs : List Nat} {σ : L2.St} {H : Hp} {Q : VK} (k : tl σ H (LcLK K g tt te vs σ Q)) : tLc (iList K tl) g tt te vs σ H Q := k
/-- ys: what the turns over xs gave -/
inductive Gave (R : V → V → Prop) : List V → List V → Prop where
  | nil : Gave R [] []
  | cons {x y : V} {xs ys : List V} : R x y → Gave R xs ys → Gave R (x :: xs) (y :: ys)
theorem Gave.mono {R R' : V → V → Prop} (h : ∀ x y, R x y → R' x y) : ∀ {xs ys : List V}, Gave R xs ys → Gave R' xs ys
  | _, _, .nil => .nil
  | _, _, .cons a b => .cons (h _ _ a) (b.mono h)
theorem Gave.snoc {R : V → V → Prop} {x y : V} (h : R x y) : ∀ {xs ys : List V}, Gave R xs ys → Gave R (xs ++ [x]) (ys ++ [y])
  | _, _, .nil => .cons h .nil
  | _, _, .cons a b => .cons a (b.snoc h)
theorem Gave.length {R : V → V → Prop} : ∀ {xs ys : List V}, Gave R xs ys → ys.length = xs.length
  | _, _, .nil => rfl
  | _, _, .cons _ b => by rw [List.length_cons, List.length_cons, b.length]
theorem Gave.map {R : V → V → Prop} {f : V → V} (h : ∀ x y, R x y → y = f x) : ∀ {xs ys : List V}, Gave R xs ys → ys = xs.map f
  | _, _, .nil => rfl
  | _, _, .cons a b => by rw [List.map_cons, h _ _ a, b.map h]
theorem Fb.nil_free {b p : Addr} {H H' : Hp} (f : Fb b H H') (h : H b = none) : Ex H H' := fun a o ha => f a o ha (ne_of_none ha h)
/-- each turn tells by x and what it made (never at D, the list in the making) -/
theorem q_listE {K : PySem.W.Frag} {j : Nat} {te : TE} {vs : List Nat} {σ : L2.St} {H : Hp} {Q : VK} {a : Addr} {xs : List V} (R : Addr → V → V → Hp → Prop) (hR : ∀ D x y H H', Fb D H H' → R D x y H → R D x y H') (hx : SqL K H a xs) (hz : xs.length ≤ 1000)
    (hw : ∀ x, wipe ((wipe σ vs).set j (some x)) vs = wipe σ vs)
    (he : ∀ (x : V) (D : Addr) (zs : List V) (H1 : Hp), x ∈ xs → Ex H H1 → H1 D = some (.lst zs) → ∀ Q' : VK, (∀ y H2, R D x y H2 → Ex H1 H2 → Q' y H2) → te ((wipe σ vs).set j (some x)) H1 Q')
    (k : ∀ p H' ys, H p = none → H' p = some (.lst ys) → Gave (fun x y => R p x y H') xs ys → Ex H H' → Q (.ref p) H') : LcLK K (gName j) tYes te vs σ Q (.ref a) H := by
  refine ⟨a, rfl, ⟨xs, hx⟩, fun D hD => lc_list (xs := xs) (fun i H' => Ex H H' ∧ ∃ ys, H' D = some (.lst ys) ∧ Gave (fun x y => R D x y H') (xs.take i) ys) ⟨Ex.new hD, [], upd_same, .nil⟩ (fun i H' _ p => p.1.sq hx) ?_ ?_⟩
  · rintro i x H' hi ⟨e, ys, hd, G⟩
    refine ⟨hw x, q_yes (iteT ?_)⟩
    refine he x D ys H' (List.mem_of_getElem? hi) e hd _ fun y H2 r e2 => ⟨ys, e2 _ _ hd, ?_, ?_, ys ++ [y], upd_same, ?_⟩
    · have h1 := G.length
      have h2 := List.length_take_le' i xs
      exact small1000 (by omega)
    · exact Evl.Ex.mut (e.tr e2) hD
    · have st : ∀ x y, R D x y H' → R D x y (upd H2 D (.lst (ys ++ [y]))) := fun x y r => hR D x y _ _ ((Fb.ex e2).tr Fb.put) r
      rw [List.take_add_one, hi]
      exact Gave.snoc (hR D x y _ _ Fb.put r) (G.mono fun x' y' r' => hR D x' y' _ _ ((Fb.ex e2).tr Fb.put) r')
  · rintro H' ⟨e, ys, hd, G⟩
    rw [List.take_length] at G
    exact k D H' ys hD hd G e
theorem q_rngE {j : Nat} {te : TE} {vs : List Nat} {σ : L2.St} {H : Hp} {Q : VK} {N : Int} (R : Addr → Nat → V → Hp → Prop) (hR : ∀ D x y H H', Fb D H H' → R D x y H → R D x y H') (h0 : 0 ≤ N ∧ N ≤ 500)
    (hw : ∀ x, wipe ((wipe σ vs).set j (some x)) vs = wipe σ vs)
    (he : ∀ (i : Nat) (D : Addr) (zs : List V) (H1 : Hp), (i : Int) < N → Ex H H1 → H1 D = some (.lst zs) → ∀ Q' : VK, (∀ y H2, R D i y H2 → Ex H1 H2 → Q' y H2) → te ((wipe σ vs).set j (some (.int (i : Int)))) H1 Q')
    (k : ∀ p H' ys, H p = none → H' p = some (.lst ys) → ys.length = N.toNat → (∀ i y, ys[i]? = some y → R p i y H') → Ex H H' → Q (.ref p) H') : RngK (gName j) tYes te vs σ Q [.int N] H := by
  refine ⟨N, rfl, by omega, by omega, fun D hD => lc_range (lo := 0) (n := N.toNat) (fun i H' => Ex H H' ∧ ∃ ys, H' D = some (.lst ys) ∧ ys.length = i ∧ (∀ i y, ys[i]? = some y → R D i y H')) ⟨Ex.new hD, [], upd_same, rfl, fun i y hy => by cases hy⟩ ?_ ?_⟩
  · rintro i H' hi ⟨e, ys, hd, hl, G⟩
    rw [Int.zero_add]
    refine ⟨hw _, q_yes (iteT ?_)⟩
    refine he i D ys H' (by omega) e hd _ fun y H2 r e2 => ⟨ys, e2 _ _ hd, small1000 (by omega), Evl.Ex.mut (e.tr e2) hD, ys ++ [y], upd_same, by rw [List.length_append, hl] <;> rfl, ?_⟩
    intro i' y' hy
    by_cases hlt : i' < ys.length
    · rw [List.getElem?_append_left hlt] at hy
      exact hR D i' y' _ _ ((Fb.ex e2).tr Fb.put) (G i' y' hy)
    · rw [List.getElem?_append_right (by omega)] at hy
      have hz : i' - ys.length = 0 := by
        by_cases z : i' - ys.length = 0
        · exact z
        · rw [List.getElem?_eq_none (by simp; omega)] at hy
          cases hy
      rw [hz] at hy
      obtain rfl : y = y' := by simpa using hy
      have : i' = i := by omega
      rw [this]
      exact hR D i y _ _ Fb.put r
  · rintro H' ⟨e, ys, hd, hl, G⟩
    exact k D H' ys hD hd hl G e

/-! ## texts split at a sign and joined -/
theorem tl_join (y : Str) : ∀ (a b : Str) (l : List Str), TL.tl (Str.join y (a :: b :: l)) = TL.tl a ++ (TL.tl y ++ TL.tl (Str.join y (b :: l))) := fun a b l => by
  show TL.tl (a ++ y ++ Str.join y (b :: l)) = _
  rw [TL.tl_append, TL.tl_append, List.append_assoc]
theorem cut_eq {c : Nat} : ∀ {p q r s : List Nat}, c ∉ p → c ∉ q → p ++ c :: r = q ++ c :: s → p = q ∧ r = s
  | [], [], r, s, _, _, h => ⟨rfl, (List.cons.inj h).2⟩
  | [], x :: q, r, s, _, hq, h => absurd ((List.cons.inj h).1 ▸ List.mem_cons_self) hq
  | x :: p, [], r, s, hp, _, h => absurd ((List.cons.inj h).1 ▸ List.mem_cons_self) hp
  | x :: p, y :: q, r, s, hp, hq, h => by
    obtain ⟨h1, h2⟩ := List.cons.inj h
    obtain ⟨h3, h4⟩ := cut_eq (fun m => hp (List.mem_cons_of_mem _ m)) (fun m => hq (List.mem_cons_of_mem _ m)) h2
    exact ⟨by rw [h1, h3], h4⟩
theorem join_inj (c : Nat) : ∀ {ps qs : List Str}, ps ≠ [] → qs ≠ [] → (∀ p ∈ ps, c ∉ TL.tl p) → (∀ p ∈ qs, c ∉ TL.tl p) → Str.join ⟨#[c]⟩ ps = Str.join ⟨#[c]⟩ qs → ps = qs
  | [], _, h, _, _, _, _ => absurd rfl h
  | _, [], _, h, _, _, _ => absurd rfl h
  | [a], [b], _, _, _, _, h => by rw [show a = b from h]
  | [a], b :: b2 :: l, _, _, hp, _, h => by
    have h2 : TL.tl a = _ := (congrArg TL.tl h).trans (tl_join _ b b2 l)
    exact absurd (by rw [h2]; exact List.mem_append_right _ (List.mem_append_left _ List.mem_cons_self)) (hp a List.mem_cons_self)
  | a :: a2 :: l, [b], _, _, _, hq, h => by
    have h2 : TL.tl b = _ := (congrArg TL.tl h.symm).trans (tl_join _ a a2 l)
    exact absurd (by rw [h2]; exact List.mem_append_right _ (List.mem_append_left _ List.mem_cons_self)) (hq b List.mem_cons_self)
  | a :: a2 :: l, b :: b2 :: m, _, _, hp, hq, h => by
    have h2 := congrArg TL.tl h
    rw [tl_join, tl_join] at h2
    obtain ⟨h3, h4⟩ := cut_eq (c := c) (hp a List.mem_cons_self) (hq b List.mem_cons_self) h2
    have ih := join_inj c (ps := a2 :: l) (qs := b2 :: m) (by simp) (by simp) (fun p hm => hp p (List.mem_cons_of_mem _ hm)) (fun p hm => hq p (List.mem_cons_of_mem _ hm)) (TL.ext_tl h4)
    rw [TL.ext_tl h3, ih]
theorem split_free' (x : Str) (c : Nat) : ∀ p ∈ Txt.split x ⟨#[c]⟩, c ∉ TL.tl p := fun p hp => StrLaws.split_free x c p hp
theorem split_ne (x y : Str) : Txt.split x y ≠ [] := fun h => by
  have := PyProof.Rows.split_pos x y
  rw [h] at this
  exact absurd this (by decide)
theorem split_join {c : Nat} {ps : List Str} (h : ps ≠ []) (hp : ∀ p ∈ ps, c ∉ TL.tl p) : Txt.split (Str.join ⟨#[c]⟩ ps) ⟨#[c]⟩ = ps :=
  join_inj c (split_ne _ _) h (split_free' _ c) hp (StrLaws.join_split _ _)
theorem join_snoc (y a : Str) : ∀ {ps : List Str}, ps ≠ [] → Str.join y (ps ++ [a]) = Str.join y ps ++ y ++ a
  | [], h => absurd rfl h
  | [b], _ => rfl
  | b :: b2 :: l, _ => by
    have ih := join_snoc y a (ps := b2 :: l) (by simp)
    show b ++ y ++ Str.join y (b2 :: l ++ [a]) = b ++ y ++ Str.join y (b2 :: l) ++ y ++ a
    rw [ih]
    apply TL.ext_tl
    simp only [TL.tl_append, List.append_assoc]
theorem mem_join {c : Nat} (y : Str) : ∀ {ps : List Str} {p : Str}, p ∈ ps → c ∈ TL.tl p → c ∈ TL.tl (Str.join y ps)
  | [a], p, h, hc => by
    rw [List.mem_singleton.mp h] at hc
    exact hc
  | a :: b :: l, p, h, hc => by
    rw [tl_join]
    rcases List.mem_cons.mp h with e | e
    · rw [e] at hc
      exact List.mem_append_left _ hc
    · exact List.mem_append_right _ (List.mem_append_right _ (mem_join y e hc))
theorem len_join_mem (y : Str) : ∀ {ps : List Str} {p : Str}, p ∈ ps → (TL.tl p).length ≤ (TL.tl (Str.join y ps)).length
  | [a], p, h => by rw [List.mem_singleton.mp h]; exact Nat.le_refl _
  | a :: b :: l, p, h => by
    rw [tl_join, List.length_append, List.length_append]
    rcases List.mem_cons.mp h with e | e
    · rw [e]; omega
    · have := len_join_mem y e
      omega
theorem Tn.split {n : Nat} {x : Str} {c : Nat} (h : Tn n x) {p : Str} (hp : p ∈ Txt.split x ⟨#[c]⟩) : Tn n p := by
  have e := StrLaws.join_split x ⟨#[c]⟩
  refine ⟨?_, fun d hd => h.2 d ?_⟩
  · have h1 := len_join_mem ⟨#[c]⟩ hp
    rw [e] at h1
    have := h.1
    rw [TL.len_tl] at this ⊢
    omega
  · have := mem_join ⟨#[c]⟩ hp (show d ∈ TL.tl p from hd)
    rw [e] at this
    exact this
theorem split_size {n : Nat} {x : Str} {c : Nat} (h : Tn n x) : (Txt.split x ⟨#[c]⟩).length ≤ n + 2 := Nat.le_trans (PyProof.Rows.split_le x _) (by have := h.1; omega)

/-! ## the parts of a mark -/
abbrev DOT : Str := ⟨#[46]⟩
/-- what a word of a mark says -/
def partV (w : Str) : V := match readV (.str w) 0 999999 with
  | .non => .str w
  | v => v
def partsOf (s : Str) : List V := (Txt.split s DOT).map partV
def isPartB (v : V) : Bool := whole v 0 999999 || lettersOf v 6 SMALL
def arePartsB (xs : List V) : Bool := decide (1 ≤ (xs.length : Int)) && decide ((xs.length : Int) ≤ 4) && xs.all isPartB
def isMarkB (v : V) : Bool := match v with
  | .str s => arePartsB (partsOf s)
  | _ => false
/-- a part, as a law draws it -/
inductive PartV : V → Prop where
  | int (n : Nat) (h : n < 1000000) : PartV (.int (n : Int))
  | str (s : Str) (h1 : 1 ≤ s.length) (h2 : s.length ≤ 6) (h3 : ∀ c ∈ s.cps.toList, 97 ≤ c ∧ c ≤ 122) : PartV (.str s)
def partText : V → Str
  | .int i => Str.ofString (toString i)
  | .str s => s
  | _ => ""
def markText (xs : List V) : Str := Str.join DOT (xs.map partText)
theorem digits_lead : ∀ n : Nat, plainL ((Nat.toDigits 10 n).map Char.toNat) = true ∧ (n ≠ 0 → ∃ c r, (Nat.toDigits 10 n).map Char.toNat = c :: r ∧ c ≠ 48) := by
  intro n
  induction n using Nat.strongRecOn with
  | _ n ih =>
    by_cases h : n < 10
    · have : ∀ m, m < 10 → plainL ((Nat.toDigits 10 m).map Char.toNat) = true ∧ (m ≠ 0 → ∃ c r, (Nat.toDigits 10 m).map Char.toNat = c :: r ∧ c ≠ 48) := by
        intro m hm
        rw [Nat.toDigits_of_lt_base hm]
        have h2 : ∀ m, m < 10 → plainL [(Nat.digitChar m).toNat] = true ∧ (m ≠ 0 → (Nat.digitChar m).toNat ≠ 48) := by decide +kernel
        exact ⟨(h2 m hm).1, fun h0 => ⟨_, [], rfl, (h2 m hm).2 h0⟩⟩
      exact this n h
    · have hm : n % 10 < 10 := Nat.mod_lt n (by decide)
      have t : Nat.toDigits 10 (n / 10) ++ Nat.toDigits 10 (n % 10) = Nat.toDigits 10 (10 * (n / 10) + n % 10) := Nat.toDigits_append_toDigits (by decide) (by omega) hm
      rw [Nat.div_add_mod] at t
      obtain ⟨p1, p2⟩ := ih (n / 10) (by omega)
      obtain ⟨c, r, e, hc⟩ := p2 (by omega)
      have e2 : (Nat.toDigits 10 n).map Char.toNat = c :: (r ++ (Nat.toDigits 10 (n % 10)).map Char.toNat) := by
        rw [← t, List.map_append, e]; rfl
      have hall := figs_num n
      rw [num_tl] at hall
      refine ⟨?_, fun _ => ⟨c, _, e2, hc⟩⟩
      rw [plain_cons e2 hall (fun z => by
        rw [e2] at z
        exact hc (List.cons.inj z).1)]
      simpa using hc
theorem isFig_low {c : Nat} (h : 97 ≤ c ∧ c ≤ 122) : isFig c = false := by
  simp [isFig]
  omega
theorem plain_low {s : Str} (h1 : 1 ≤ s.length) (h3 : ∀ c ∈ s.cps.toList, 97 ≤ c ∧ c ≤ 122) : plainL s.cps.toList = false := by
  have hl : s.length = s.cps.toList.length := TL.len_tl s
  cases e : s.cps.toList with
  | nil => rw [e] at hl; simp at hl; omega
  | cons c r =>
    have := isFig_low (h3 c (by rw [e]; exact List.mem_cons_self))
    unfold plainL
    simp [this]
theorem part_back {v : V} (h : PartV v) : partV (partText v) = v := by
  cases h with
  | int n h =>
    have e : TL.tl (Str.ofString (toString ((n : Nat) : Int))) = _ := num_tl n
    have e' : (Str.ofString (toString ((n : Nat) : Int))).cps.toList = (Nat.toDigits 10 n).map Char.toNat := e
    have hr : readV (.str (Str.ofString (toString ((n : Nat) : Int)))) 0 999999 = .int (n : Int) := by
      show (if plainL (Str.ofString (toString ((n : Nat) : Int))).cps.toList = true ∧ (0 : Int) ≤ (val (Str.ofString (toString ((n : Nat) : Int))).cps.toList : Int) ∧ (val (Str.ofString (toString ((n : Nat) : Int))).cps.toList : Int) ≤ 999999 then V.int (val (Str.ofString (toString ((n : Nat) : Int))).cps.toList : Int) else V.non) = _
      rw [e', val_num]
      exact if_pos ⟨(digits_lead n).1, by omega, by omega⟩
    show partV (Str.ofString (toString ((n : Nat) : Int))) = _
    unfold partV
    rw [hr]
  | str s h1 h2 h3 =>
    have hr : readV (.str s) 0 999999 = .non := by
      show (if plainL s.cps.toList = true ∧ (0 : Int) ≤ (val s.cps.toList : Int) ∧ (val s.cps.toList : Int) ≤ 999999 then V.int (val s.cps.toList : Int) else V.non) = _
      rw [plain_low h1 h3]
      exact if_neg (by simp)
    show partV s = _
    unfold partV
    rw [hr]
theorem part_free {v : V} (h : PartV v) : 46 ∉ TL.tl (partText v) := by
  cases h with
  | int n h =>
    intro m
    have := List.all_eq_true.mp (figs_num n) 46 m
    simp [isFig] at this
  | str s h1 h2 h3 =>
    intro m
    have := h3 46 m
    omega
theorem part_size {v : V} (h : PartV v) : Tn 6 (partText v) := by
  cases h with
  | int n h => exact num_Tn (by decide) (by omega)
  | str s h1 h2 h3 => exact ⟨h2, fun c hc => by have := h3 c hc; omega⟩
theorem part_is {v : V} (h : PartV v) : isPartB v = true := by
  cases h with
  | int n h =>
    have h1 : whole (.int (n : Int)) 0 999999 = true := by simp [whole]; omega
    unfold isPartB
    rw [h1]; rfl
  | str s h1 h2 h3 =>
    have hs : ∀ c : Nat, 97 ≤ c ∧ c ≤ 122 → c ∈ SMALL.cps.toList := by
      have : ∀ c : Fin 26, 97 + c.val ∈ SMALL.cps.toList := by decide +kernel
      intro c hc
      have := this ⟨c - 97, by omega⟩
      rwa [show 97 + (⟨c - 97, by omega⟩ : Fin 26).val = c by show 97 + (c - 97) = c; omega] at this
    have ho : only s SMALL = true := List.all_eq_true.mpr fun c hc => decide_eq_true (hs c (h3 c hc))
    have h4 : lettersOf (.str s) 6 SMALL = true := by
      simp only [lettersOf, ho, Bool.and_true, Bool.and_eq_true, decide_eq_true_eq]
      omega
    unfold isPartB
    rw [h4, Bool.or_true]
theorem all_parts {xs : List V} (h : ∀ v ∈ xs, PartV v) : ∀ p ∈ xs.map partText, 46 ∉ TL.tl p := fun p hp => by
  obtain ⟨v, hv, rfl⟩ := List.mem_map.mp hp
  exact part_free (h v hv)
theorem map_back : ∀ {xs : List V}, (∀ v ∈ xs, PartV v) → (xs.map partText).map partV = xs
  | [], _ => rfl
  | x :: xs, h => by rw [List.map_cons, List.map_cons, part_back (h x List.mem_cons_self), map_back fun v hv => h v (List.mem_cons_of_mem _ hv)]
theorem parts_mark {xs : List V} (hn : xs ≠ []) (h : ∀ v ∈ xs, PartV v) : partsOf (markText xs) = xs := by
  unfold partsOf markText
  rw [split_join (by simpa using hn) (all_parts h), map_back h]
theorem is_mark_text {xs : List V} (hn : 1 ≤ xs.length) (h4 : xs.length ≤ 4) (h : ∀ v ∈ xs, PartV v) : isMarkB (.str (markText xs)) = true := by
  show arePartsB (partsOf (markText xs)) = true
  rw [parts_mark (fun e => by rw [e] at hn; simp at hn) h]
  have ha : xs.all isPartB = true := List.all_eq_true.mpr fun v hv => part_is (h v hv)
  simp only [arePartsB, ha, Bool.and_true, Bool.and_eq_true, decide_eq_true_eq]
  omega
/-- a mark with a dot behind it is none -/
theorem no_mark_dot {xs : List V} (hn : xs ≠ []) (h : ∀ v ∈ xs, PartV v) : isMarkB (.str (markText xs ++ DOT)) = false := by
  have e : markText xs ++ DOT = Str.join DOT (xs.map partText ++ [("" : Str)]) := by
    rw [join_snoc DOT "" (by simpa using hn)]
    apply TL.ext_tl
    simp only [TL.tl_append, List.append_assoc]
    show TL.tl (markText xs) ++ TL.tl DOT = TL.tl (markText xs) ++ (TL.tl DOT ++ [])
    rw [List.append_nil]
  show arePartsB (partsOf (markText xs ++ DOT)) = false
  rw [e]
  unfold partsOf
  rw [split_join (by simp) fun p hp => by
    rcases List.mem_append.mp hp with z | z
    · exact all_parts h p z
    · rw [List.mem_singleton.mp z]
      exact fun m => by cases m]
  have : isPartB (partV "") = false := by decide +kernel
  unfold arePartsB
  rw [List.map_append, List.all_append]
  simp [this]
theorem mark_size : ∀ {xs : List V}, (∀ v ∈ xs, PartV v) → Tn (7 * xs.length) (markText xs)
  | [], _ => ⟨Nat.le_refl _, fun c hc => by cases hc⟩
  | [x], h => (part_size (h x List.mem_cons_self)).mono (by simp)
  | x :: y :: xs, h => by
    have ih := mark_size (xs := y :: xs) fun v hv => h v (List.mem_cons_of_mem _ hv)
    have h1 := part_size (h x List.mem_cons_self)
    have h2 : Tn 1 DOT := Tn.one (by decide)
    show Tn _ (partText x ++ DOT ++ markText (y :: xs))
    exact ((h1.app h2).app ih).mono (by simp only [List.length_cons]; omega)
/-! ## split at a sign, as a step -/
def rSplitA : V → List V → Hp → VK → Prop := fun x xs H Q => ∃ a b, x = .str a ∧ xs = [.str b] ∧ (b.length == 0) = false ∧ a.length + 2 ≤ sizeLine ∧ rNewStrs (Txt.split a b) H Q
theorem pe_splitA {X : Cx} {o e : Expr} {to te : TE} {apos pos : Pos} (ho : PE X o to) (he : PE X e te) (hs : starEach [e] X.env = [(false, eval e X.env)] := by rfl) (hbase : attributeBase o "split" X.env (eval o X.env) = eval o X.env := by rfl) (hline : (apos.endLine == pos.line) = true := by rfl) :
    PE X (.Call (.Attribute o "split" apos) [e] [] pos) (tM1 rSplitA to te) := pe_split ho he hs hbase hline
theorem q_splitS {H : Hp} {Q : VK} {n : Nat} {s : Str} {c : Nat} (h : Tn n s) (hn : Nat.ble (n + 2) 1000 = true) (k : ∀ p H', H p = none → H' p = some (.lst ((Txt.split s ⟨#[c]⟩).map V.str)) → Ex H H' → Q (.ref p) H') : rSplitA (.str s) [.str ⟨#[c]⟩] H Q := by
  have h1 : n + 2 ≤ 1000 := Nat.le_of_ble_eq_true hn
  have h2 := h.1
  exact ⟨s, _, rfl, rfl, rfl, Nat.le_of_lt (small1000 (by omega)), fun p hp => k p _ hp upd_same (Ex.new hp)⟩
theorem dot_eq : ("." : Str) = DOT := by decide +kernel
theorem q_splitD {H : Hp} {Q : VK} {n : Nat} {s : Str} (h : Tn n s) (hn : Nat.ble (n + 2) 1000 = true) (k : ∀ p H', H p = none → H' p = some (.lst ((Txt.split s DOT).map V.str)) → Ex H H' → Q (.ref p) H') : rSplitA (.str s) [.str "."] H Q := by
  rw [dot_eq]
  exact q_splitS h hn k
theorem Gave.bools {R : V → V → Prop} {f : V → Bool} (h : ∀ x y, R x y → y = .bl (f x)) {xs ys : List V} (g : Gave R xs ys) : ys = (xs.map f).map V.bl := by
  rw [g.map h, List.map_map] <;> rfl
theorem all_id (f : V → Bool) (xs : List V) : (xs.map f).all id = xs.all f := by
  induction xs with
  | nil => rfl
  | cons a l ih => rw [List.map_cons, List.all_cons, List.all_cons, ih] <;> rfl
def keyOf : V → List V
  | .str s => [.int 1, .int 0, .str s]
  | v => [.int 0, v, .str ""]
theorem parts_size {s : Str} (h : Tn 900 s) : (partsOf s).length ≤ 1000 := by
  unfold partsOf
  have : (Txt.split s DOT).length ≤ 902 := split_size (c := 46) h
  rw [List.length_map]; omega
theorem part_kind {n : Nat} {w : Str} (h : Tn n w) (hn : Nat.ble n 1000 = true) : (∃ i, partV w = .int i) ∨ ∃ s, partV w = .str s ∧ Tx s := by
  unfold partV
  show (∃ i, (match (if plainL w.cps.toList = true ∧ (0 : Int) ≤ (val w.cps.toList : Int) ∧ (val w.cps.toList : Int) ≤ 999999 then V.int (val w.cps.toList : Int) else V.non) with | .non => .str w | v => v) = V.int i) ∨ ∃ s, (match (if plainL w.cps.toList = true ∧ (0 : Int) ≤ (val w.cps.toList : Int) ∧ (val w.cps.toList : Int) ≤ 999999 then V.int (val w.cps.toList : Int) else V.non) with | .non => .str w | v => v) = V.str s ∧ Tx s
  by_cases c : plainL w.cps.toList = true ∧ (0 : Int) ≤ (val w.cps.toList : Int) ∧ (val w.cps.toList : Int) ≤ 999999
  · rw [if_pos c]; exact .inl ⟨_, rfl⟩
  · rw [if_neg c]; exact .inr ⟨_, rfl, h.mono (Nat.le_of_ble_eq_true hn)⟩
theorem parts_kind {s : Str} (h : Tn 900 s) : ∀ v ∈ partsOf s, (∃ i, v = .int i) ∨ ∃ s, v = .str s ∧ Tx s := fun v hv => by
  obtain ⟨w, hw, rfl⟩ := List.mem_map.mp hv
  exact part_kind (h.split hw) rfl


/-! # Fourth part: errors of own classes -/
theorem exm_own {K : PySem.W.Frag} {c : Value} {D : Addr} {b : Bool} (h1 : PySem.W.subIn K (.ref D) (.type "BaseException") = some true) (h2 : PySem.W.isClsIn K D = true) (h3 : PySem.W.typeIn K (.ref D) = some (.type "type")) (h4 : PySem.W.subIn K c (.ref D) = some b) : PySem.W.exmOne K c (.ref D) = some b := by
  have h2' : (PySem.W.clsIn K D).isSome = true := h2
  unfold PySem.W.exmOne
  rw [h1]
  show (if ((PySem.W.clsIn K D).isSome && PySem.W.typeIn K (.ref D) == some (.type "type")) = true then PySem.W.subIn K c (.ref D) else none) = some b
  rw [h2', h3]
  exact h4
/-- C(e, ..), as it ends -/
def MkEnd (C : Addr) (sp : Sp) (dvs : List V) (Q : XK) : List V → Hp → Prop := fun vs H1 => vs.length ≤ 1000 ∧ ∀ a, H1 a = none → sp (.ref a :: (vs ++ dvs)) (upd H1 a (exo a C none))
  (fun v H2 => v = .non ∧ ∃ (d : Addr) (fs : List (Str × V)), H2 a = some (exo a C (some d)) ∧ H2 d = some (exd d fs) ∧ H1 d = none ∧ Q (.ref C) (some d) (upd (del H2 a) d (.xd fs))) (fun _ _ _ => False)
theorem q_mkO {C : Addr} {sp : Sp} {dvs : List V} {ta : TA} {σ : L2.St} {H : Hp} {Q : XK} (k : ta σ H (MkEnd C sp dvs Q)) : tMkO C sp dvs ta σ H Q := k
/-- an __init__ that hands a text on -/
def spBare (K : PySem.W.Frag) : Sp := fun vs H Q _ => ∃ (a C : Addr) (x : Str), vs = [.ref a, .str x] ∧ OexC K C ∧ H a = some (exo a C none) ∧ Q .non H
/-- .. and keeps what was found -/
def spFound (K : PySem.W.Frag) : Sp := fun vs H Q _ => ∃ (a C : Addr) (v : V), vs = [.ref a, v] ∧ OexC K C ∧ PySem.W.findIn K (.ref C) "found" = some none ∧ H a = some (exo a C none) ∧
  ∀ dx, H dx = none → dx ≠ a → Q .non (upd (upd H dx (exd dx [("found", v)])) a (exo a C (some dx)))
theorem q_mkFound {K : PySem.W.Frag} {C : Addr} {v : V} {H : Hp} {Q : XK} (T : OexC K C) (nf : PySem.W.findIn K (.ref C) "found" = some none) (k : ∀ d H', Ex H H' → H d = none → H' d = some (.xd [("found", v)]) → Q (.ref C) (some d) H') : MkEnd C (spFound K) [] Q [v] H := by
  refine ⟨by show 1 ≤ 1000; decide, fun a ha => ⟨a, C, v, rfl, T, nf, upd_same, fun dx hdx ne => ⟨rfl, dx, [("found", v)], upd_same, ?_, ?_, ?_⟩⟩⟩
  · rw [upd_ne ne, upd_same]
  · rw [upd_ne ne] at hdx
    exact hdx
  · have hd : H dx = none := by rw [upd_ne ne] at hdx; exact hdx
    refine k dx _ (fun b o hb => ?_) hd upd_same
    have n1 : b ≠ dx := ne_of_none hb hd
    have n2 : b ≠ a := ne_of_none hb ha
    rw [upd_ne n1, del_ne n2, upd_ne n2, upd_ne n1, upd_ne n2]
    exact hb
section
variable {P : Program} {w : World} {K : PySem.W.Frag} {mg : Str → Option Value} {base : Heap}
/-- an own error's class, and what its __init__ keeps -/
structure Ke (P : Program) (w : World) (K : PySem.W.Frag) (mg : Str → Option Value) (base : Heap) (k : Nat) (x : Str) (C : Addr) (sp : Sp) : Prop where
  T : OexC K C
  XF : XfC K C
  m : mg x = some (.ref C)
  exm : PySem.W.exmOne K (.ref C) (.ref C) = some true
  ini : ∃ (fI : Addr) (fd : FuncData) (ps : List Str), FnOk P w K mg base CX0 k fI fd ps sp ∧ PySem.W.findIn K (.ref C) "__init__" = some (some (.ref fI)) ∧ PySem.W.typeIn K (.ref fI) = some (.type "function") ∧ Binds K fd ps [] ∧ PySem.W.keepIn K (.ref fI) = true ∧
    ∃ mc, ClX.CRead K C mc ∧ PySem.W.findCls K (.ref C) mc "__init__" = some (.val (.ref fI))
end
section
variable {X : Cx} {k j : Nat} {x : Str} {C : Addr} {sp : Sp} {p p1 p2 pos : Pos} {e : Expr} {es : List Expr} {t : TA} {pl : Sem Bool}
/-- Base.__init__(self, ..) -/
theorem pe_ownI (c : Ke X.prog X.w X.K X.mg X.base k x C sp) (hr : Room j X.A) (hk : k ≤ j) (hg : Gl X x) (ha : PA X (e :: es) t)
    (hdb : (x == ("__debug__" : Str)) = false := by decide) (he : starEach (e :: es) X.env = (false, eval e X.env) :: starEach es X.env := by rfl) (hpl : (backTo pos (starEach es X.env)).any (·.1) = false := by rfl)
    (hc : eval (.Call (.Attribute (.Name x p1) "__init__" p2) (e :: es) [] pos) X.env = (do
      let ov ← eval (.Name x p1) X.env
      standAt p2.atName
      let (f, first) ← holding [ov] (getMethod ov "__init__" pl)
      callWith pos f first (backTo pos (starEach (e :: es) X.env)) (backToKw pos (keywordEach [] X.env))) := by rfl) :
    PE X (.Call (.Attribute (.Name x p1) "__init__" p2) (e :: es) [] pos) (tCall sp [] E0 t) := by
  obtain ⟨fI, fd, ps, F, iC, tI, b, kp, mc, r, at_⟩ := c.ini
  refine ⟨fun pins s σ H Q I h => ?_⟩
  refine PySem.W.methodCall_KW (pl := pl) (ld_glob I hg c.m ?_ hdb) hc
  refine PySem.W.method_cls (s := s) I.kIn r.ga (ClX.getcval_ok (v := .ref fI) I r ⟨at_, rfl⟩ fun s2 I2 => ?_)
  refine PySem.W.callWith_K (h₀ := X.base) I2.ok.mod.kin kp (thn (ha.run pos pins s2 σ H _ I2 h) fun us s3 ⟨vs, H2, I3, rv, q2⟩ => ⟨I3.kIn, ?_⟩) he hpl
  exact run_fn F (hr.mono hk) b .nil pass0 I3 rv q2
/-- C(e, ..) where it is raised -/
theorem pmk_e (c : Ke X.prog X.w X.K X.mg X.base k x C sp) (hr : Room j X.A) (hk : k + 1 ≤ j) (hg : Gl X x) (ha : PA X (e :: es) t)
    (hdb : (x == ("__debug__" : Str)) = false := by decide) (he : starEach (e :: es) X.env = (false, eval e X.env) :: starEach es X.env := by rfl) (hpl : (backTo pos (starEach es X.env)).any (·.1) = false := by rfl) :
    PMk X (.Call (.Name x p) (e :: es) [] pos) (tMkO C sp [] t) := by
  obtain ⟨fI, fd, ps, F, iC, tI, b, kp, _⟩ := c.ini
  exact pmk_oex c.T iC tI F (hr.mono hk) b .nil pass0 hg c.m ha hdb he hpl
end
/-! ## calls within a try: what may come out is wished for at the caller's slots -/
section
variable {X : Cx} {CX : CXT} {k j : Nat} {x : Str} {sp : Sp} {E : L2.St → XK} {p pos : Pos} {e : Expr} {es : List Expr} {t : TA}
theorem pe_kgS (c : Kg CX X.prog X.w X.K X.mg X.base k x sp) (hr : RoomG j X.A) (hk : k ≤ j) (hx : ∀ σ, PassesAt CX X σ (E σ)) (hg : Gl X x) (ha : PA X (e :: es) t)
    (hdb : (x == ("__debug__" : Str)) = false := by decide) (he : starEach (e :: es) X.env = (false, eval e X.env) :: starEach es X.env := by rfl) (hpl : (backTo pos (starEach es X.env)).any (·.1) = false := by rfl) :
    PE X (.Call (.Name x p) (e :: es) [] pos) (tCallS sp E t) := by
  obtain ⟨f, fd, ps, F, hm, kp, b⟩ := c.ex
  refine ⟨fun pins s σ H Q I h => ?_⟩
  refine wpAny_Call_Name_kw (ld_glob I hg hm ?_ hdb)
  refine PySem.W.callWith_K (h₀ := X.base) I.ok.mod.kin kp (thn (ha.run pos pins s σ H _ I h) fun us s1 ⟨vs, H1, I1, r, q⟩ => ⟨I1.kIn, ?_⟩) he hpl
  have hl : us.length = ps.length := by rw [← r.length]; exact F.many _ _ _ _ q
  have bb := b s1 us I1.kIn (by rw [List.append_nil]; exact hl)
  rw [List.append_nil] at bb
  refine wpAny_call (codeAny_mono (F.runs (hr.mono hk) I1.env0 bb r q) fun r' s' hq => ?_)
  match r', hq with
  | .error e, hq => exact hx σ pins H1 s1 e s' I1 hq
  | .ok (.ret u), hq => exact I1.after hq
  | .ok .next, hq => exact hq.elim
  | .ok .brk, hq => exact hq.elim
  | .ok .cont, hq => exact hq.elim
end
/-! ## a try with several clauses, each with or without a name -/
abbrev TSx := Addr → Value → Option Addr → TS
/-- a clause's suite over, its name is gone -/
def Ends.unset (D : Ends) : Option Nat → Ends
  | none => D
  | some i => { nx := fun σ H => D.nx (σ.set i none) H, rt := D.rt, bk := fun σ H => D.bk (σ.set i none) H, ct := fun σ H => D.ct (σ.set i none) H }
def named (σ : L2.St) (a : Addr) : Option Nat → L2.St
  | none => σ
  | some i => σ.set i (some (.ref a))
def wMix (K : PySem.W.Frag) (Wout : WX) (D : Ends) : List (Value × Option Nat × TSx) → WX
  | [] => Wout
  | (c, i, ts) :: r => fun cls d σ H => ∃ b, PySem.W.exmOne K cls c = some b ∧ (b = true → ∀ a, H a = none → ts a cls d (Ends.unset D i) (named σ a i) H) ∧ (b = false → wMix K Wout D r cls d σ H)
def tTryMix (K : PySem.W.Frag) (tb : WX → TS) (Wout : WX) (l : List (Value × Option Nat × TSx)) : TS := fun D σ H => tb (wMix K Wout D l) D σ H
theorem q_tryMix {K : PySem.W.Frag} {tb : WX → TS} {Wout : WX} {l : List (Value × Option Nat × TSx)} {D : Ends} {σ : L2.St} {H : Hp} (k : tb (wMix K Wout D l) D σ H) : tTryMix K tb Wout l D σ H := k
theorem w_mix1 {K : PySem.W.Frag} {Wout : WX} {D : Ends} {c : Value} {i : Option Nat} {ts : TSx} {r : List (Value × Option Nat × TSx)} {cls : Value} {d : Option Addr} {σ : L2.St} {H : Hp} (h : PySem.W.exmOne K cls c = some true) (k : ∀ a, H a = none → ts a cls d (Ends.unset D i) (named σ a i) H) : wMix K Wout D ((c, i, ts) :: r) cls d σ H :=
  ⟨true, h, fun _ => k, fun z => by cases z⟩
theorem w_mix0 {K : PySem.W.Frag} {Wout : WX} {D : Ends} {c : Value} {i : Option Nat} {ts : TSx} {r : List (Value × Option Nat × TSx)} {cls : Value} {d : Option Addr} {σ : L2.St} {H : Hp} (h : PySem.W.exmOne K cls c = some false) (k : wMix K Wout D r cls d σ H) : wMix K Wout D ((c, i, ts) :: r) cls d σ H :=
  ⟨false, h, (fun z => by cases z), fun _ => k⟩
inductive HdsM (X : Cx) : List ExceptHandler → List (Value × Option Nat × TSx) → Prop
  | nil : HdsM X [] []
  | plain {x : Str} {c : Value} {ts : TSx} {b₀ : Stmt} {suite : List Stmt} {np pos' : Pos} {hds : List ExceptHandler} {l : List (Value × Option Nat × TSx)} (hc : Names X x c)
      (hsu : ∀ (a : Addr) (oe : Obj) (cls : Value) (d : Option Addr) (pn : List (Addr × Obj)), Zc cls d oe → (∃ vs, oe.data = .fields vs) → PSs (X.suite a ((a, oe) :: pn)) (b₀ :: suite) (ts a cls d)) (r : HdsM X hds l) :
      HdsM X (.ExceptHandler (some (.Name x np)) none (b₀ :: suite) pos' :: hds) ((c, none, ts) :: l)
  | as {x n : Str} {i : Nat} {c : Value} {ts : TSx} {b₀ : Stmt} {suite : List Stmt} {np pos' : Pos} {hds : List ExceptHandler} {l : List (Value × Option Nat × TSx)} (hc : Names X x c) (hi : X.N[i]? = some n) (hln : X.env.kindOf n = some .local)
      (hsu : ∀ (a : Addr) (oe : Obj) (cls : Value) (d : Option Addr) (pn : List (Addr × Obj)), Zc cls d oe → (∃ vs, oe.data = .fields vs) → PSs (X.suite a ((a, oe) :: pn)) (b₀ :: suite) (ts a cls d)) (r : HdsM X hds l) :
      HdsM X (.ExceptHandler (some (.Name x np)) (some n) (b₀ :: suite) pos' :: hds) ((c, some i, ts) :: l)
section
variable {X : Cx} {body : List Stmt} {h₀ : ExceptHandler} {hds : List ExceptHandler} {l : List (Value × Option Nat × TSx)} {pos : Pos} {tb : WX → TS} {Wout : WX}
theorem ps_try_mix (hs : X.stack = X.env :: X.outer) (hf : X.env.frame = some X.env.locals) (hN : X.N.Nodup) (tk : Takes X Wout)
    (hb : ∀ (W : WX) (pn : List (Addr × Obj)) (xe : Value → Shared → Prop), Takes (X.tr pn xe) W → PassesOwn (model X.prog X.w) X.A X.env xe → PSs (X.tr pn xe) body (tb W))
    (hh : HdsM X (h₀ :: hds) l) : PS X (.Try body (h₀ :: hds) [] [] pos) (tTryMix X.K tb Wout l) := by
  refine ⟨fun pins s σ H D I h => ?_⟩
  have ok := I.ok
  have hfr : X.A.frames = some (X.env :: X.outer) := by rw [ok.frames, hs]
  refine wpAny_Try_except ?_
  refine wpAny_mono ((hb (wMix X.K Wout D l) (X.pn ++ pins) (fun e s₁ => wpAny (model X.prog X.w) X.A (noteFrame e X.env) (fun _ s₂ => wpAny (model X.prog X.w) X.A (setFlight e none) (fun _ s₃ =>
    wpAny (model X.prog X.w) X.A (handleBy e X.env (h₀ :: hds)) (SP X pins D) X.xe s₃) X.xe s₂) X.xe s₁) (fun u s' xx => ?_) PassesOwn.looking).run [] s σ H D (I.toTry _) h) (fun f s1 hsp => ?_) (fun e s1 he => he)
  · -- caught here
    obtain ⟨a, B, sI, pins', σ', H', cls, d, rfl, J', nb, up, sky, na, os, ag, w⟩ := xx
    have J : Inv X pins σ' H' sI := J'.ofTry ok
    rw [show X.stack = X.env :: X.outer from hs] at sky
    show wpAny (model X.prog X.w) X.A (noteFrame (.ref a) X.env) _ _ _
    refine Sky.land Zc.steady hfr hf sky fun h3 fl3 up3 => ?_
    have J3 : Inv X pins σ' H' { s' with heap := h3 } := J.landed nb fl3.1 (up.trans up3) os ag
    obtain ⟨oe3, vs3, he3, hz3, hd3⟩ := fl3.there
    have nfr : a ∉ frs (X.env :: X.outer) := fun hm => by
      obtain ⟨_, o', e', hnf⟩ := fl3.2.2.1.mem hm
      rw [he3] at e'; cases e'
      exact hnf _ hd3
    have nL : a ≠ X.env.locals := fun z => nfr (List.mem_filterMap.mpr ⟨X.env, List.mem_cons_self, by rw [hf, z]⟩)
    have nF : a ∉ X.fs := fun hm => by
      obtain ⟨e, he, q⟩ := List.mem_filterMap.mp hm
      exact nfr (List.mem_filterMap.mpr ⟨e, List.mem_cons_of_mem _ he, q⟩)
    have S3 := J3.suite he3 hd3 na nL nF
    -- a clause's test, one like the other
    have test : ∀ {x : Str} {c : Value} {np : Pos} {Q : Value → Shared → Prop} {E : Value → Shared → Prop}, Names X x c → Q c { s' with heap := h3 } → wpAny (model X.prog X.w) (X.A.mark (some (.ref a))) (eval (.Name x np) X.env) Q E { s' with heap := h3 } := fun {x c np Q E} hc q => by
      obtain ⟨hg, hdbg, hm | ⟨hm, hv, hnn⟩⟩ := hc
      · exact ld_glob (X := X.suite a ((a, oe3) :: (X.pn ++ pins))) S3 hg hm q hdbg
      · exact ld_blt (X := X.suite a ((a, oe3) :: (X.pn ++ pins))) S3 hg hm hv q hnn hdbg
    have go : ∀ {hds' : List ExceptHandler} {l' : List (Value × Option Nat × TSx)}, HdsM X hds' l' → wMix X.K Wout D l' cls d σ' H' →
        wpAny (model X.prog X.w) X.A (handleBy (.ref a) X.env hds') (SP X pins D) X.xe { s' with heap := h3 } := by
      intro hds' l' hk
      induction hk with
      | nil =>
        intro w
        refine wpAny_handleBy_nil ?_
        obtain ⟨k1, k2, k3, oe, vs, T, oT, ts', he, hz, hd, h1, hr⟩ := id fl3
        unfold PySem.passOn
        refine wpAny_bind (wpAny_field he hd h1 ?_)
        rw [if_neg (show ¬ ((Value.ref T == Value.none) = true) from by simp)]
        have fin : wpAny (model X.prog X.w) X.A (setFlight (.ref a) X.env.frame) (fun _ s4 => wpAny (model X.prog X.w) X.A (throw (.ref a) : Sem Flow) (SP X pins D) X.xe s4) X.xe { s' with heap := h3 } := by
          rw [hf]
          refine HandSPX.setFlight_upZ fl3 fun h4 hh4 up4 => wpAny_throw (tk _ _ ?_)
          exact ⟨a, B, sI, pins, σ', H', cls, d, rfl, J, nb, (up.trans up3).trans up4, .inr (.inr (by rw [hs]; exact hh4)), na, os, ag, w⟩
        first
          | exact wpAny_bind (wpAny_pure (wpAny_bind fin))
          | exact wpAny_bind fin
      | @plain x c ts b₀ suite np pos' hds2 l2 hc hsu r ih =>
        intro w
        obtain ⟨b, hb1, hyes, hno⟩ := w
        refine wpAny_handleBy_cons (codeAny_handlers_test ?_) (by intro q; cases q)
        have LT : PySem.W.Looks (model X.prog X.w) h3 (typeOf (.ref a)) cls := fun A Q E s k q => wpAny_typeOf_ref (k _ _ he3) (by rw [hz3.1]; exact q)
        have LM := PySem.W.exm_one (M := model X.prog X.w) (J3.kIn) LT hb1
        refine test hc (LM.here ?_)
        cases b with
        | false =>
          show wpAny _ X.A (handleBy (.ref a) X.env hds2) _ _ _
          exact ih (hno rfl)
        | true =>
          refine codeAny_handlers_suite ?_
          refine HandSPX.lands_againZ fl3 fun h4 fl4 up4 => ?_
          have J4 : Inv X pins σ' H' { s' with heap := h4 } := J.landed nb fl4.1 ((up.trans up3).trans up4) os ag
          obtain ⟨oe4, vs4, he4, hz4, hd4⟩ := fl4.there
          refine wpAny_mono ((hsu a oe4 cls d (X.pn ++ pins) hz4 ⟨_, hd4⟩).run [] _ _ H' _ (J4.suite he4 hd4 na nL nF) (hyes rfl a na)) (fun f s6 hsp => ?_) (fun _ _ z => False.elim z)
          match f, hsp with
          | .next, ⟨σ6, H6, S6, q6⟩ => exact ⟨_, _, S6.unsuite ok, q6⟩
          | .brk, ⟨σ6, H6, S6, q6⟩ => exact ⟨_, _, S6.unsuite ok, q6⟩
          | .cont, ⟨σ6, H6, S6, q6⟩ => exact ⟨_, _, S6.unsuite ok, q6⟩
          | .ret u, ⟨v6, σ6, H6, S6, r6, q6⟩ => exact ⟨_, _, _, S6.unsuite ok, r6, q6⟩
      | @as x n i c ts b₀ suite np pos' hds2 l2 hc hi hln hsu r ih =>
        intro w
        obtain ⟨b, hb1, hyes, hno⟩ := w
        refine wpAny_handleBy_cons (codeAny_handlers_test ?_) (by intro q; cases q)
        have LT : PySem.W.Looks (model X.prog X.w) h3 (typeOf (.ref a)) cls := fun A Q E s k q => wpAny_typeOf_ref (k _ _ he3) (by rw [hz3.1]; exact q)
        have LM := PySem.W.exm_one (M := model X.prog X.w) (J3.kIn) LT hb1
        refine test hc (LM.here ?_)
        cases b with
        | false =>
          show wpAny _ X.A (handleBy (.ref a) X.env hds2) _ _ _
          exact ih (hno rfl)
        | true =>
          refine codeAny_handlers_suite_as ?_
          refine HandSPX.lands_againZ fl3 fun h4 fl4 up4 => ?_
          have J4 : Inv X pins σ' H' { s' with heap := h4 } := J.landed nb fl4.1 ((up.trans up3).trans up4) os ag
          obtain ⟨oe4, vs4, he4, hz4, hd4⟩ := fl4.there
          refine store_ok (X := X.suite a ((a, oe4) :: (X.pn ++ pins))) (v := .ref a) (J4.suite he4 hd4 na nL nF) hN hi (.inl hln) rfl (fun s5 S5 => ?_) (.inr hln)
          refine wpAny_mono ((hsu a oe4 cls d (X.pn ++ pins) hz4 ⟨_, hd4⟩).run [] s5 _ H' _ S5 (hyes rfl a na)) (fun f s6 hsp => ?_) (fun _ _ z => False.elim z)
          have done : ∀ {σ6 : L2.St} {H6 : Hp} {Q : Shared → Prop}, Inv (X.suite a ((a, oe4) :: (X.pn ++ pins))) [] σ6 H6 s6 → (∀ s7, Inv X pins (σ6.set i none) H6 s7 → Q s7) →
              wpAny (model X.prog X.w) X.A (do bindName X.env n .none; unbindBehindTheSuite X.env n pos') (fun _ s7 => Q s7) X.xe s6 := fun {σ6 H6 Q} S6 hq => gone_ok (S6.unsuite ok) hN hi hln hq
          match f, hsp with
          | .next, ⟨σ6, H6, S6, q6⟩ => exact done S6 fun s7 J7 => ⟨_, _, J7, q6⟩
          | .brk, ⟨σ6, H6, S6, q6⟩ => exact done S6 fun s7 J7 => ⟨_, _, J7, q6⟩
          | .cont, ⟨σ6, H6, S6, q6⟩ => exact done S6 fun s7 J7 => ⟨_, _, J7, q6⟩
          | .ret u, ⟨v6, σ6, H6, S6, r6, q6⟩ => exact done S6 fun s7 J7 => ⟨_, _, _, J7, r6, q6⟩
    exact go hh w
  · match f, hsp with
    | .next, ⟨σ', H', J', q⟩ => exact wpAny_execs_nil ⟨σ', H', J'.ofTry ok, q⟩
    | .brk, ⟨σ', H', J', q⟩ => exact ⟨σ', H', J'.ofTry ok, q⟩
    | .cont, ⟨σ', H', J', q⟩ => exact ⟨σ', H', J'.ofTry ok, q⟩
    | .ret u, ⟨v, σ', H', J', r, q⟩ => exact ⟨v, σ', H', J'.ofTry ok, r, q⟩
end
/-! ## < of data -/
def rLtD (K : PySem.W.Frag) : R2 := fun x y H Q => ∃ d e, Dp K H x d ∧ Dp K H y e ∧ PySem.W.alike d e = true ∧ d ≠ .none ∧ d.depth ≤ 40 ∧ Q (.bl (PySem.W.dataLt d e)) H
theorem op_ltD {X : Cx} (hu : X.A.units + 64 < cLine) : OpR X (compareOp .Lt) (rLtD X.K) := by
  intro pins s σ H x y v u Q I rx ry h
  obtain ⟨d, e, hd, he, al, nn, dp, q⟩ := h
  obtain ⟨as, r1⟩ := Dp.reads I d x v hd rx
  obtain ⟨bs, r2⟩ := Dp.reads I e y u he ry
  have R := PySem.W.rcLt_alike d e X.A s v u as bs r1 r2 al nn (by have := Nat.min_le_left d.depth e.depth; omega)
  have z : wpAny (model X.prog X.w) X.A (compareOp .Lt v u) (EP X pins σ Q) X.xe s := R X.prog X.w X.xe (EP X pins σ Q) ⟨.bl _, H, I, rfl, q⟩
  exact z
theorem op_ltDB {X : Cx} (K : PySem.W.Frag) (h : X.K = K) (hu : X.A.units + 64 < cLine) : OpR X (compareOp .Lt) (rLtD K) := h ▸ op_ltD hu
def rLtS : R2 := fun x y H Q => ∃ i j, x = .str i ∧ y = .str j ∧ Q (.bl (decide (i.cps.toList < j.cps.toList))) H
theorem op_ltS {X : Cx} : OpR X (compareOp .Lt) rLtS := op_lt_str
def rLtA (K : PySem.W.Frag) : R2 := fun x y H Q => rI0 (fun i j => .bl (decide (i < j))) x y H Q ∨ rLtS x y H Q ∨ rLtD K x y H Q
theorem op_ltA {X : Cx} (K : PySem.W.Frag) (h : X.K = K) (hu : X.A.units + 64 < cLine) : OpR X (compareOp .Lt) (rLtA K) := op_lt.or (op_ltS.or (op_ltDB K h hu))
/-! ## steps -/
def tRaise (t : L2.St → Hp → XK → Prop) (W : WX) : TS := fun _ σ H => t σ H fun cls d H' => W cls d σ H'
theorem ps_raiseA {X : Cx} {W : WX} {e : Expr} {t : L2.St → Hp → XK → Prop} {pos : Pos} (hc : X.calm = true) (tk : Takes X W) (he : PMk X e t) : PS X (.Raise (some e) none pos) (tRaise t W) := ps_raise hc tk he
theorem q_raise {t : L2.St → Hp → XK → Prop} {W : WX} {D : Ends} {σ : L2.St} {H : Hp} (k : t σ H (WE W σ)) : tRaise t W D σ H := k
theorem q_callS {sp : Sp} {E : L2.St → XK} {t : TA} {σ : L2.St} {H : Hp} {Q : VK} (k : t σ H fun vs H1 => sp vs H1 Q (E σ)) : tCallS sp E t σ H Q := k
theorem q_xf {a C : Addr} {cls : Value} {d : Option Addr} {f : Str} {te : TE} {σ : L2.St} {H : Hp} {Q : VK} (k : te σ H fun x H1 => x = .ref a ∧ cls = .ref C ∧ ∃ (dd : Addr) (fs : List (Str × V)) (v : V), d = some dd ∧ H1 dd = some (.xd fs) ∧ fs.lookup f = some v ∧ Q v H1) : tXf a cls d C f te σ H Q := k
theorem q_veI {K : PySem.W.Frag} {ta : TA} {σ : L2.St} {H : Hp} {Q : VK} (k : ta σ H fun vs H1 => ∃ (a C : Addr) (ws : List V), vs = .ref a :: ws ∧ ws.length ≤ 1000 ∧ OexC K C ∧ H1 a = some (exo a C none) ∧ Q .non H1) : tVeI K ta σ H Q := k
theorem q_ost {K : PySem.W.Frag} {f : Str} {to te : TE} {D : Ends} {σ : L2.St} {H : Hp} (k : te σ H fun y H1 => to σ H1 fun x H2 => ∃ a C : Addr, x = .ref a ∧ OexC K C ∧ PySem.W.findIn K (.ref C) f = some none ∧
  ((H2 a = some (exo a C none) ∧ ∀ dx, H2 dx = none → dx ≠ a → D.nx σ (upd (upd H2 dx (exd dx [(f, y)])) a (exo a C (some dx)))) ∨
    ∃ (dx : Addr) (fs : List (Str × V)), H2 a = some (exo a C (some dx)) ∧ H2 dx = some (exd dx fs) ∧ fs.length ≤ 900 ∧ D.nx σ (upd H2 dx (exd dx ((f, y) :: fs))))) : tOst K f to te D σ H := k


/-! # Fifth part: marks compared, asked, refused -/
/-- v is let out as what was found, by an error of the class at C -/
def Lets (C : Addr) (v : V) (H : Hp) (E : XK) : Prop := ∀ d H', Ex H H' → H' d = some (.xd [("found", v)]) → E (.ref C) (some d) H'
theorem Lets.ex {C : Addr} {v : V} {H H' : Hp} {E : XK} (l : Lets C v H E) (e : Ex H H') : Lets C v H' E := fun d H2 e2 h => l d H2 (e.tr e2) h
/-- an int or a text: what a word says -/
abbrev KindV (v : V) : Prop := (∃ i, v = .int i) ∨ ∃ s, v = .str s ∧ Tx s
def partD : V → PyData
  | .int i => .int i
  | .str s => .str s
  | _ => .none
def keyD : V → PyData
  | .str s => .tuple [.int 1, .int 0, .str s]
  | .int i => .tuple [.int 0, .int i, .str ""]
  | _ => .none
theorem dp_parts {K : PySem.W.Frag} {H : Hp} : ∀ {xs : List V}, (∀ v ∈ xs, KindV v) → DpAll K H xs (xs.map partD)
  | [], _ => .nil
  | x :: xs, h => by
    refine .cons ?_ (dp_parts fun v hv => h v (List.mem_cons_of_mem _ hv))
    rcases h x List.mem_cons_self with ⟨i, rfl⟩ | ⟨s, rfl, _⟩
    · exact .int i
    · exact .str s
theorem dp_keys {K : PySem.W.Frag} {H : Hp} : ∀ {xs ys : List V}, (∀ v ∈ xs, KindV v) → Gave (fun x y => ∃ t, y = .ref t ∧ H t = some (.tup (keyOf x))) xs ys → DpAll K H ys (xs.map keyD)
  | _, _, _, .nil => .nil
  | x :: xs, y :: ys, h, .cons q g => by
    obtain ⟨t, rfl, ht⟩ := q
    refine .cons ?_ (dp_keys (fun v hv => h v (List.mem_cons_of_mem _ hv)) g)
    rcases h x List.mem_cons_self with ⟨i, rfl⟩ | ⟨s, rfl, _⟩
    · exact .tup (SqT.of ht) (.cons (.int 0) (.cons (.int i) (.cons (.str "") .nil)))
    · exact .tup (SqT.of ht) (.cons (.int 1) (.cons (.int 0) (.cons (.str s) .nil)))
theorem alike_keys : ∀ {xs ys : List V}, (∀ v ∈ xs, KindV v) → (∀ v ∈ ys, KindV v) → PySem.W.alikeAll (xs.map keyD) (ys.map keyD) = true
  | [], _, _, _ => by simp [PySem.W.alikeAll]
  | _ :: _, [], _, _ => by simp [PySem.W.alikeAll]
  | x :: xs, y :: ys, h, h' => by
    have ih := alike_keys (fun v hv => h v (List.mem_cons_of_mem _ hv)) (fun v hv => h' v (List.mem_cons_of_mem _ hv))
    rw [List.map_cons, List.map_cons]
    unfold PySem.W.alikeAll
    rw [ih, Bool.and_true]
    rcases h x List.mem_cons_self with ⟨i, rfl⟩ | ⟨s, rfl, _⟩ <;> rcases h' y List.mem_cons_self with ⟨j, rfl⟩ | ⟨t, rfl, _⟩ <;> simp [keyD, PySem.W.alike, PySem.W.alikeAll]
theorem depth_keys : ∀ xs : List V, PyData.depthAll (xs.map keyD) ≤ 5
  | [] => by simp [PyData.depthAll]
  | x :: xs => by
    have ih := depth_keys xs
    rw [List.map_cons]
    unfold PyData.depthAll
    refine Nat.max_le.mpr ⟨?_, ih⟩
    cases x <;> simp [keyD, PyData.depth, PyData.depthAll]
theorem str_ok {s : Str} (h : ∀ c ∈ s.cps.toList, c < 128) : PyData.strOk s = true := by
  simp only [PyData.strOk, Array.all_eq_true_iff_forall_mem, decide_eq_true_eq]
  intro c hc
  have := h c (Array.mem_toList_iff.mpr hc)
  omega
theorem shaped_parts {xs : List V} (h : ∀ v ∈ xs, KindV v) : SeqAt.shaped (.list (xs.map partD)) = true := by
  have a : ∀ xs : List V, (∀ v ∈ xs, KindV v) → PyData.canLayAll0 (xs.map partD) = true ∧ PyData.depthAll (xs.map partD) ≤ 1 := by
    intro xs
    induction xs with
    | nil => intro _; exact ⟨rfl, by simp [PyData.depthAll]⟩
    | cons c l ih =>
      intro h
      obtain ⟨h1, h2⟩ := ih fun d hd => h d (List.mem_cons_of_mem _ hd)
      rcases h c List.mem_cons_self with ⟨i, rfl⟩ | ⟨s, rfl, hs⟩
      · refine ⟨?_, ?_⟩
        · simp only [List.map_cons, partD, PyData.canLayAll0, PyData.canLay0, h1, Bool.and_true]
        · simp only [List.map_cons, partD, PyData.depthAll, PyData.depth]; exact Nat.max_le.mpr ⟨by omega, h2⟩
      · refine ⟨?_, ?_⟩
        · simp only [List.map_cons, partD, PyData.canLayAll0, PyData.canLay0, h1, Bool.and_true]
          exact str_ok hs.2
        · simp only [List.map_cons, partD, PyData.depthAll, PyData.depth]; exact Nat.max_le.mpr ⟨by omega, h2⟩
  obtain ⟨h1, h2⟩ := a xs h
  simp only [SeqAt.shaped, PyData.canLay0, PyData.depth, h1, Bool.true_and, decide_eq_true_eq]
  exact decide_eq_true (Nat.le_trans (Nat.succ_le_succ h2) (by decide : 2 ≤ 64))
theorem cut_mem {xs : List V} {lo hi : Option Int} {v : V} (h : v ∈ cutV xs lo hi) : v ∈ xs := by
  unfold cutV at h
  exact List.mem_of_mem_drop (List.mem_of_mem_take h)
/-- goes ahead, as the parts' keys say -/
def keysLt (xs ys : List V) : Bool := PySem.W.dataLt (.list (xs.map keyD)) (.list (ys.map keyD))
def aheadB (s t : Str) : Bool := keysLt (partsOf s) (partsOf t)
def startB (xs ys : List V) : Bool := PyData.eqv (.list ((cutV xs none (some (ys.length : Int))).map partD)) (.list (ys.map partD))
def beginsB (s t : Str) : Bool := startB (partsOf s) (partsOf t)
theorem q_ltKeys {K : PySem.W.Frag} {H : Hp} {Q : VK} {p q : Addr} {xs ys as bs : List V} (hx : ∀ v ∈ xs, KindV v) (hy : ∀ v ∈ ys, KindV v) (hp : H p = some (.lst as)) (hq : H q = some (.lst bs))
    (ga : Gave (fun x y => ∃ t, y = .ref t ∧ H t = some (.tup (keyOf x))) xs as) (gb : Gave (fun x y => ∃ t, y = .ref t ∧ H t = some (.tup (keyOf x))) ys bs) (k : Q (.bl (keysLt xs ys)) H) : rLtD K (.ref p) (.ref q) H Q :=
  ⟨_, _, .lst (SqL.of hp) (dp_keys hx ga), .lst (SqL.of hq) (dp_keys hy gb), by unfold PySem.W.alike; exact alike_keys hx hy, (fun z => by cases z), by
    have := depth_keys xs
    simp only [PyData.depth]; omega, k⟩
theorem q_eqParts {K : PySem.W.Frag} {H : Hp} {Q : VK} {p q : Addr} {xs ys : List V} (hx : ∀ v ∈ xs, KindV v) (hy : ∀ v ∈ ys, KindV v) (hp : H p = some (.lst xs)) (hq : H q = some (.lst ys)) (k : Q (.bl (PyData.eqv (.list (xs.map partD)) (.list (ys.map partD)))) H) : rEqA K (.ref p) (.ref q) H Q :=
  q_eqDt (.lst (SqL.of hp) (dp_parts hx)) (.lst (SqL.of hq) (dp_parts hy)) (shaped_parts hx) (shaped_parts hy) k
/-- what asking tells: a mark is none, or the answer -/
def askedV (w : Int) (v u : V) : List V :=
  if isMarkB v = false then [.str "mark", v] else if isMarkB u = false then [.str "mark", u] else match v, u with
    | .str s, .str t => [.str "told", .bl (if w = 0 then aheadB s t else beginsB s t)]
    | _, _ => []
theorem is_mark_str {v : V} (h : isMarkB v = true) : ∃ s, v = .str s := by
  cases v with
  | str s => exact ⟨s, rfl⟩
  | _ => cases h
theorem asked_ok {w : Int} {s t : Str} (h : isMarkB (.str s) = true) (h2 : isMarkB (.str t) = true) : askedV w (.str s) (.str t) = [.str "told", .bl (if w = 0 then aheadB s t else beginsB s t)] := by
  unfold askedV
  rw [if_neg (by simp [h]), if_neg (by simp [h2])]
theorem asked_no1 {w : Int} {v u : V} (h : isMarkB v = false) : askedV w v u = [.str "mark", v] := by
  unfold askedV
  rw [if_pos h]
theorem asked_no2 {w : Int} {v u : V} (h : isMarkB v = true) (h2 : isMarkB u = false) : askedV w v u = [.str "mark", u] := by
  unfold askedV
  rw [if_neg (by simp [h]), if_pos h2]
theorem q_unset {D : Ends} {i : Nat} {σ : L2.St} {H : Hp} (k : D.nx (σ.set i none) H) : (Ends.unset D (some i)).nx σ H := k
theorem q_unset0 {D : Ends} {σ : L2.St} {H : Hp} (k : D.nx σ H) : (Ends.unset D none).nx σ H := k
/-! ## the law's draws -/
theorem q_joinP {K : PySem.W.Frag} {H : Hp} {Q : VK} {p : Addr} {xs : List V} (P : Nat → Prop) (h : H p = some (.lst xs)) (hn : xs.length ≤ 1000) (hs : ∀ v ∈ xs, ∃ c, P c ∧ v = .str ⟨#[c]⟩)
    (k : ∀ s : Str, (∀ c ∈ s.cps.toList, P c) → s.length = xs.length → Q (.str s) H) : rJoin K (.str "") [.ref p] H Q := by
  have hl : ∀ xs : List V, (∀ v ∈ xs, ∃ c, P c ∧ v = .str ⟨#[c]⟩) → ∃ l : List Nat, xs = (l.map fun c => (⟨#[c]⟩ : Str)).map V.str ∧ ∀ c ∈ l, P c := by
    intro xs
    induction xs with
    | nil => intro _; exact ⟨[], rfl, fun c hc => absurd hc (by simp)⟩
    | cons x xs ih =>
      intro hs
      obtain ⟨l, e, hc⟩ := ih fun v hv => hs v (List.mem_cons_of_mem _ hv)
      obtain ⟨c, hc1, rfl⟩ := hs x List.mem_cons_self
      refine ⟨c :: l, by rw [e] <;> rfl, fun d hd => ?_⟩
      rcases List.mem_cons.mp hd with z | z
      · rw [z]; exact hc1
      · exact hc d z
  obtain ⟨l, e, hc⟩ := hl xs hs
  have hlen : l.length = xs.length := by rw [e, List.length_map, List.length_map]
  have e2 : TL.tl (Txt.join "" (l.map fun c => (⟨#[c]⟩ : Str))) = l := by rw [TL.join_eq]; exact join_signs l
  have hsum : ((l.map fun c => (⟨#[c]⟩ : Str)).map (·.length)).sum = l.length := by
    clear hc e hlen e2
    induction l with
    | nil => rfl
    | cons c l ih =>
      rw [List.map_cons, List.map_cons, List.sum_cons, ih, List.length_cons]
      show 1 + l.length = l.length + 1
      omega
  refine ⟨"", p, l.map fun c => (⟨#[c]⟩ : Str), rfl, rfl, .inl (SqL.of (by rw [h, e])), ?_, k _ (fun c m => hc c ?_) ?_⟩
  · rw [hsum]
    show l.length + _ * 0 ≤ 16777216
    omega
  · have m' : c ∈ TL.tl (Txt.join "" (l.map fun c => (⟨#[c]⟩ : Str))) := m
    rw [e2] at m'
    exact m'
  · rw [TL.len_tl, e2, hlen]
theorem abc_cut : ∀ d : Fin 3, 1 ≤ (cutS ("abc" : Str) none (some (1 + (d.val : Int)))).length ∧ (cutS ("abc" : Str) none (some (1 + (d.val : Int)))).length ≤ 6 ∧ ∀ c ∈ (cutS ("abc" : Str) none (some (1 + (d.val : Int)))).cps.toList, 97 ≤ c ∧ c ≤ 122 := by decide +kernel
theorem abc_part {d : Int} (h0 : 0 ≤ d) (h1 : d < 3) : PartV (.str (cutS ("abc" : Str) none (some (1 + d)))) := by
  obtain ⟨n, rfl⟩ := Int.eq_ofNat_of_zero_le h0
  obtain ⟨a, b, c⟩ := abc_cut ⟨n, by omega⟩
  exact .str _ a b c
theorem part_int {i : Int} (h0 : 0 ≤ i) (h1 : i < 1000000) : PartV (.int i) := by
  obtain ⟨n, rfl⟩ := Int.eq_ofNat_of_zero_le h0
  exact .int n (by omega)
theorem PartV.kind {v : V} (h : PartV v) : KindV v := by
  cases h with
  | int n h => exact .inl ⟨_, rfl⟩
  | str s h1 h2 h3 => exact .inr ⟨s, rfl, by omega, fun c hc => by have := h3 c hc; omega⟩
/-! ## cut lists -/
theorem cut_hi {xs : List V} {m : Int} (h : 0 ≤ m) : cutV xs none (some m) = xs.take m.toNat := by
  obtain ⟨n, rfl⟩ := Int.eq_ofNat_of_zero_le h
  unfold cutV
  rw [HT.sIx_none, HT.sIx_nat, List.drop_zero, Nat.sub_zero, Int.toNat_natCast]
  by_cases c : n ≤ xs.length
  · rw [Nat.min_eq_left c]
  · rw [Nat.min_eq_right (by omega), List.take_of_length_le (by omega), List.take_of_length_le (by omega)]
theorem cut_lo {xs : List V} {m : Int} (h : 0 ≤ m) : cutV xs (some m) none = xs.drop m.toNat := by
  obtain ⟨n, rfl⟩ := Int.eq_ofNat_of_zero_le h
  unfold cutV
  rw [HT.sIx_none, HT.sIx_nat, Int.toNat_natCast]
  by_cases c : n ≤ xs.length
  · rw [Nat.min_eq_left c, List.take_of_length_le (by rw [List.length_drop]; omega)]
  · rw [Nat.min_eq_right (by omega), List.drop_of_length_le (by omega), List.drop_of_length_le (by omega), List.take_nil]
/-! ## list(..) of a list -/
def rListOf (K : PySem.W.Frag) : List V → Hp → VK → Prop := fun xs H Q => ∃ p ys, xs = [.ref p] ∧ (SqL K H p ys ∨ SqT K H p ys) ∧ ∀ l, H l = none → Q (.ref l) (upd H l (.lst ys))
theorem call_listB {X : Cx} (K : PySem.W.Frag) (h : X.K = K) : CallR X (.type "list") (rListOf K) := h ▸ call_list_of
theorem q_listOf {K : PySem.W.Frag} {H : Hp} {Q : VK} {p : Addr} {ys : List V} (h : SqL K H p ys) (k : ∀ l H', H l = none → H' l = some (.lst ys) → Ex H H' → Q (.ref l) H') : rListOf K [.ref p] H Q :=
  ⟨p, ys, rfl, .inl h, fun l hl => k l _ hl upd_same (Ex.new hl)⟩
/-! ## a loop over two lists at once -/
def ForZK (K : PySem.W.Frag) (g : TG) (tb : TS) (D : Ends) (σ : L2.St) : List V → Hp → Prop := fun vs H => tFor (iZip K (fun _ H Q' => Q' vs H)) g tb D σ H
theorem q_forZ {K : PySem.W.Frag} {ta : TA} {g : TG} {tb : TS} {D : Ends} {σ : L2.St} {H : Hp} (k : ta σ H (ForZK K g tb D σ)) : tFor (iZip K ta) g tb D σ H := k
theorem q_zipFor {K : PySem.W.Frag} {a b : Addr} {xs ys : List V} {g : TG} {tb : TS} {D : Ends} {σ : L2.St} {H : Hp} (hx : SqL K H a xs) (hy : SqL K H b ys) (Pv : Nat → L2.St → Hp → Prop) (h0 : Pv 0 σ H) (hq : ∀ i σ' H', Pv i σ' H' → SqL K H' a xs ∧ SqL K H' b ys)
    (hs : ∀ (i : Nat) (x y : V) (T : Addr) (σ' : L2.St) (H' H2 : Hp), xs[i]? = some x → ys[i]? = some y → Pv i σ' H' → H' T = none → H2 T = some (.tup [x, y]) → Ex H' H2 → g (.ref T) σ' H2 fun σ2 H2 => tb { D with nx := Pv (i + 1), ct := Pv (i + 1), bk := D.nx } σ2 H2)
    (hd : ∀ σ' H', Pv (min xs.length ys.length) σ' H' → D.nx σ' H') : ForZK K g tb D σ [.ref a, .ref b] H := by
  refine ⟨a, b, xs, ys, rfl, hx, hy, fun i m σ H => m = min xs.length ys.length - i ∧ i ≤ min xs.length ys.length ∧ Pv i σ H, ⟨_, rfl, Nat.zero_le _, h0⟩, ?_⟩
  rintro i m σ H ⟨rfl, hi, p⟩
  obtain ⟨qx, qy⟩ := hq i σ H p
  by_cases hlt : i < min xs.length ys.length
  · have h1 : i < xs.length := Nat.lt_of_lt_of_le hlt (Nat.min_le_left _ _)
    have h2 : i < ys.length := Nat.lt_of_lt_of_le hlt (Nat.min_le_right _ _)
    refine .inr ⟨⟨xs, ys, _, _, qx, qy, List.getElem?_eq_getElem h1, List.getElem?_eq_getElem h2⟩, Pv (i + 1), fun σ' H' p' => ⟨min xs.length ys.length - (i + 1), by omega, rfl, hlt, p'⟩, fun v H' y => ?_⟩
    obtain ⟨T, x', y', rfl, hT, rfl, f1, f2⟩ := y
    exact hs i x' y' T σ H _ (f1 xs qx) (f2 ys qy) p hT upd_same (Ex.new hT)
  · have e : i = min xs.length ys.length := by omega
    subst e
    refine .inl ⟨⟨xs, ys, qx, qy, ?_⟩, hd σ H p⟩
    rcases Nat.le_total xs.length ys.length with c | c
    · exact .inl (by rw [Nat.min_eq_left c]; exact Nat.le_refl _)
    · exact .inr (by rw [Nat.min_eq_right c]; exact Nat.le_refl _)
/-! ## the order of marks, part by part -/
def partLt : V → V → Bool
  | .int i, .int j => decide (i < j)
  | .int _, _ => true
  | _, .int _ => false
  | .str s, .str t => decide (s.cps.toList < t.cps.toList)
  | _, _ => false
def partsLt : List V → List V → Bool
  | [], ys => decide (0 < (ys.length : Int))
  | _ :: _, [] => false
  | x :: xs, y :: ys => if x = y then partsLt xs ys else partLt x y
open PySem.W in
theorem key_lt {x y : V} (hx : KindV x) (hy : KindV y) : PySem.W.alike (keyD x) (keyD y) = true ∧ (x = y → PyData.eqv (keyD x) (keyD y) = true) ∧ (x ≠ y → PyData.eqv (keyD x) (keyD y) = false ∧ dataLt (keyD x) (keyD y) = partLt x y) := by
  have a1 : ∀ i j : Int, alike (.int i) (.int j) = true := fun i j => by simp [alike]
  have a2 : ∀ i j : Str, alike (.str i) (.str j) = true := fun i j => by simp [alike]
  have q1 : ∀ i : Int, PyData.eqv (.int i) (.int i) = true := fun i => by simp [PyData.eqv]
  have ne : ∀ {i j : Int}, i ≠ j → PyData.eqv (.int i) (.int j) = false := fun h => by simp [PyData.eqv, h]
  have ne2 : ∀ {i j : Str}, i ≠ j → PyData.eqv (.str i) (.str j) = false := fun h => by simp [PyData.eqv, h]
  rcases hx with ⟨i, rfl⟩ | ⟨s, rfl, _⟩ <;> rcases hy with ⟨j, rfl⟩ | ⟨t, rfl, _⟩
  · refine ⟨by simp [keyD, alike, alikeAll], fun h => ?_, fun h => ?_⟩
    · cases h; simp [keyD, PyData.eqv, PyData.eqvAll]
    · have h' : i ≠ j := fun e => h (by rw [e])
      refine ⟨by simp [keyD, PyData.eqv, PyData.eqvAll, h'], ?_⟩
      show dataLt (.tuple [.int 0, .int i, .str ""]) (.tuple [.int 0, .int j, .str ""]) = decide (i < j)
      rw [dataLt_tuple, dataLt_all_yes (a1 _ _) (q1 _), dataLt_all_no (a1 _ _) (ne h'), dataLt_int]
  · refine ⟨by simp [keyD, alike, alikeAll], (fun h => by cases h), fun _ => ⟨by simp [keyD, PyData.eqv, PyData.eqvAll], ?_⟩⟩
    show dataLt (.tuple [.int 0, .int i, .str ""]) (.tuple [.int 1, .int 0, .str t]) = true
    rw [dataLt_tuple, dataLt_all_no (a1 _ _) (ne (by decide)), dataLt_int]
    rfl
  · refine ⟨by simp [keyD, alike, alikeAll], (fun h => by cases h), fun _ => ⟨by simp [keyD, PyData.eqv, PyData.eqvAll], ?_⟩⟩
    show dataLt (.tuple [.int 1, .int 0, .str s]) (.tuple [.int 0, .int j, .str ""]) = false
    rw [dataLt_tuple, dataLt_all_no (a1 _ _) (ne (by decide)), dataLt_int]
    rfl
  · refine ⟨by simp [keyD, alike, alikeAll], fun h => ?_, fun h => ?_⟩
    · cases h; simp [keyD, PyData.eqv, PyData.eqvAll]
    · have h' : s ≠ t := fun e => h (by rw [e])
      refine ⟨by simp [keyD, PyData.eqv, PyData.eqvAll, h'], ?_⟩
      show dataLt (.tuple [.int 1, .int 0, .str s]) (.tuple [.int 1, .int 0, .str t]) = decide (s.cps.toList < t.cps.toList)
      rw [dataLt_tuple, dataLt_all_yes (a1 _ _) (q1 _), dataLt_all_yes (a1 _ _) (q1 _), dataLt_all_no (a2 _ _) (ne2 h'), dataLt_str]
open PySem.W in
theorem keys_lt : ∀ {xs ys : List V}, (∀ v ∈ xs, KindV v) → (∀ v ∈ ys, KindV v) → keysLt xs ys = partsLt xs ys
  | [], [], _, _ => by
    show dataLt (.list []) (.list []) = false
    rw [dataLt_list]
    exact lex_irrefl _
  | [], y :: ys, _, _ => by
    have e : partsLt [] (y :: ys) = true := by
      show decide _ = true
      exact decide_eq_true (by rw [List.length_cons]; omega)
    rw [e]
    show dataLt (.list []) (.list ((y :: ys).map keyD)) = true
    rw [dataLt_list, List.map_cons, toks_all_cons]
    simp only [keyToksAll]
    rw [lex_diff (O := itemOrd) (by simp)]
    rfl
  | x :: xs, [], _, _ => by
    show dataLt (.list ((x :: xs).map keyD)) (.list []) = false
    rw [dataLt_list, List.map_cons, toks_all_cons]
    simp only [keyToksAll]
    rw [lex_diff (O := itemOrd) (by simp)]
    rfl
  | x :: xs, y :: ys, hx, hy => by
    have ih := keys_lt (fun v hv => hx v (List.mem_cons_of_mem _ hv)) (fun v hv => hy v (List.mem_cons_of_mem _ hv))
    obtain ⟨k1, k2, k3⟩ := key_lt (hx x List.mem_cons_self) (hy y List.mem_cons_self)
    show dataLt (.list ((x :: xs).map keyD)) (.list ((y :: ys).map keyD)) = if x = y then partsLt xs ys else partLt x y
    rw [dataLt_list, List.map_cons, List.map_cons]
    by_cases h : x = y
    · rw [dataLt_all_yes k1 (k2 h), if_pos h, ← ih, ← dataLt_list]
      rfl
    · obtain ⟨k4, k5⟩ := k3 h
      rw [dataLt_all_no k1 k4, if_neg h, k5]
/-- .. from the i-th part on -/
theorem partsLt_at : ∀ (i : Nat) {xs ys : List V} {x y : V}, (∀ j, j < i → xs[j]? = ys[j]?) → xs[i]? = some x → ys[i]? = some y → x ≠ y → partsLt xs ys = partLt x y
  | 0, x' :: xs, y' :: ys, x, y, _, hx, hy, h => by
    obtain rfl : x' = x := by simpa using hx
    obtain rfl : y' = y := by simpa using hy
    exact if_neg h
  | 0, [], _, _, _, _, hx, _, _ => by simp at hx
  | 0, _ :: _, [], _, _, _, _, hy, _ => by simp at hy
  | i + 1, [], _, _, _, _, hx, _, _ => by simp at hx
  | i + 1, _ :: _, [], _, _, _, _, hy, _ => by simp at hy
  | i + 1, x' :: xs, y' :: ys, x, y, he, hx, hy, h => by
    have h0 : x' = y' := by simpa using he 0 (Nat.succ_pos _)
    have ih := partsLt_at i (xs := xs) (ys := ys) (x := x) (y := y) (fun j hj => by simpa using he (j + 1) (Nat.succ_lt_succ hj)) (by simpa using hx) (by simpa using hy) h
    show (if x' = y' then partsLt xs ys else partLt x' y') = _
    rw [if_pos h0, ih]
theorem partsLt_end : ∀ {xs ys : List V}, (∀ j, j < min xs.length ys.length → xs[j]? = ys[j]?) → partsLt xs ys = decide ((xs.length : Int) < (ys.length : Int))
  | [], ys, _ => by
    show decide _ = decide _
    rfl
  | _ :: _, [], _ => by
    show false = decide _
    symm
    exact decide_eq_false (by simp only [List.length_cons, List.length_nil]; omega)
  | x :: xs, y :: ys, he => by
    have h0 : x = y := by simpa using he 0 (by simp only [List.length_cons]; omega)
    have ih := partsLt_end (xs := xs) (ys := ys) fun j hj => by simpa using he (j + 1) (by simp only [List.length_cons]; omega)
    show (if x = y then partsLt xs ys else partLt x y) = _
    rw [if_pos h0, ih]
    apply decide_eq_decide.mpr
    simp only [List.length_cons]
    omega
theorem q_strPart {H : Hp} {Q : VK} {v : V} (h : PartV v) (k : Q (.str (partText v)) H) : rStrA [v] H Q := by
  cases h with
  | int n h => exact q_strI (log_small (by omega) (by omega)) k
  | str s h1 h2 h3 => exact q_strS k
theorem sum_parts : ∀ {xs : List V}, (∀ v ∈ xs, PartV v) → ((xs.map partText).map (·.length)).sum ≤ 6 * xs.length
  | [], _ => Nat.le_refl _
  | x :: xs, h => by
    have ih := sum_parts fun v hv => h v (List.mem_cons_of_mem _ hv)
    have := (part_size (h x List.mem_cons_self)).1
    rw [List.map_cons, List.map_cons, List.sum_cons, List.length_cons]
    omega
theorem q_joinMark {K : PySem.W.Frag} {H : Hp} {Q : VK} {p : Addr} {xs : List V} (h : H p = some (.lst ((xs.map partText).map V.str))) (h4 : xs.length ≤ 4) (hp : ∀ v ∈ xs, PartV v) (k : Q (.str (markText xs)) H) : rJoin K (.str ".") [.ref p] H Q := by
  refine ⟨".", p, xs.map partText, rfl, rfl, .inl (SqL.of h), ?_, ?_⟩
  · have := sum_parts hp
    have e : (("." : Str).length) = 1 := by decide +kernel
    rw [e, List.length_map]
    omega
  · rw [TL.join_eq, dot_eq]
    exact k
/-! ## repr of data -/
theorem q_repr {K : PySem.W.Frag} {H : Hp} {Q : VK} {x : V} (d : PyData) (h : Dd K H x d) (h1 : d.showable = true) (h2 : d.depth ≤ 40) (h3 : d.shown.length ≤ sizeLine) (k : Q (.str d.shown) H) : rRepr K [x] H Q := ⟨x, d, rfl, h, h1, h2, h3, k⟩
def toldD (b c : Bool) : PyData := .list [.list [.str "told", .bool b], .list [.str "told", .bool c]]
theorem told_ok : ∀ b c : Bool, (toldD b c).showable = true ∧ (toldD b c).depth ≤ 40 ∧ (toldD b c).shown.length ≤ sizeLine := by decide +kernel
theorem told_dd {K : PySem.W.Frag} {H : Hp} {p p0 p1 : Addr} {b c : Bool} (h : H p = some (.lst [.ref p0, .ref p1])) (h0 : H p0 = some (.lst [.str "told", .bl b])) (h1 : H p1 = some (.lst [.str "told", .bl c])) : Dd K H (.ref p) (toldD b c) :=
  .lst (SqL.of h) (.cons (.lst (SqL.of h0) (.cons (.str "told") (.cons (.bl b) .nil))) (.cons (.lst (SqL.of h1) (.cons (.str "told") (.cons (.bl c) .nil))) .nil))
/-! ## isinstance(.., list) -/
theorem q_isiLst1 {K : PySem.W.Frag} {H : Hp} {Q : VK} {p : Addr} {xs : List V} (h : H p = some (.lst xs)) (k : Q (.bl true) H) : rIsiX K [.ref p, .ty "list"] H Q := .inl ⟨_, _, .type "list", .type "list", _, rfl, .ty _, .base (.lst h), kit_ty kit_list_list, k⟩
theorem q_isiLst0 {K : PySem.W.Frag} {H : Hp} {Q : VK} {v : V} (h : Thing K H v) (hn : ∀ p xs, v = .ref p → H p ≠ some (.lst xs)) (k : Q (.bl false) H) : rIsiX K [v, .ty "list"] H Q := by
  cases h with
  | non => exact .inl ⟨_, _, .type "NoneType", .type "list", _, rfl, .ty _, .base .non, kit_ty kit_NoneType_list, k⟩
  | bl b => exact .inl ⟨_, _, .type "bool", .type "list", _, rfl, .ty _, .base (.bl b), kit_ty kit_bool_list, k⟩
  | int i => exact .inl ⟨_, _, .type "int", .type "list", _, rfl, .ty _, .base (.int i), kit_ty kit_int_list, k⟩
  | str s h => exact .inl ⟨_, _, .type "str", .type "list", _, rfl, .ty _, .base (.str s), kit_ty kit_str_list, k⟩
  | lst p xs h => exact absurd h (hn p xs rfl)
  | tup p xs h => exact .inl ⟨_, _, .type "tuple", .type "list", _, rfl, .ty _, .base (.tup h), kit_ty kit_tuple_list, k⟩
  | dK p xs h => exact .inl ⟨_, _, .type "dict", .type "list", _, rfl, .ty _, .base (.dK h), kit_ty kit_dict_list, k⟩
  | exc p C t m h h2 f => exact .inr ⟨p, C, t, _, _, false, rfl, h, f.isc, (fun u r => r), f.nLst, k⟩
/-! ## things that are no marks -/
/-- data whose text is short -/
structure Short (d : PyData) (n : Nat) : Prop where
  ok : d.showable = true
  dp : d.depth ≤ 5
  sz : d.shown.length ≤ n
theorem repr_Tn {n : Nat} {s : Str} (h : Tn n s) : (reprText s).length ≤ 10 * n + 2 := by
  have := StrLaws.reprText_len s fun c hc => Nat.lt_trans (h.2 c hc) (by decide)
  have := h.1
  omega
theorem short_str {n : Nat} {s : Str} (h : Tn n s) : Short (.str s) (10 * n + 2) := ⟨by simp only [PyData.showable], by simp only [PyData.depth]; omega, by simp only [PyData.shown]; exact repr_Tn h⟩
theorem all_rep (d : PyData) (h : d.showable = true) : ∀ k, PyData.showableAll (List.replicate k d) = true ∧ PyData.depthAll (List.replicate k d) ≤ d.depth ∧ PyData.shownAll (List.replicate k d) = List.replicate k d.shown
  | 0 => ⟨by simp [PyData.showableAll], by simp [PyData.depthAll], by simp [PyData.shownAll]⟩
  | k + 1 => by
    obtain ⟨a, b, c⟩ := all_rep d h k
    rw [List.replicate_succ]
    refine ⟨by simp only [PyData.showableAll, h, a, Bool.and_self], ?_, by simp only [PyData.shownAll, c, List.replicate_succ]⟩
    simp only [PyData.depthAll]
    omega
theorem short_rep {n k : Nat} {s : Str} (h : Tn n s) : Short (.list (List.replicate k (.str s))) ((10 * n + 4) * k + 3) := by
  obtain ⟨a, b, c⟩ := all_rep (.str s) (by simp only [PyData.showable]) k
  refine ⟨by simp only [PyData.showable, a], ?_, ?_⟩
  · simp only [PyData.depth] at b ⊢
    omega
  · simp only [PyData.shown, c]
    have h1 := PySem.listText_len_le (List.replicate k (reprText s))
    have h2 := repr_Tn h
    rw [List.map_replicate, List.sum_replicate_nat, List.length_replicate] at h1
    have h3 : k * (reprText s).length ≤ k * (10 * n + 2) := Nat.mul_le_mul_left _ h2
    have h4 : (10 * n + 4) * k = k * (10 * n + 2) + 2 * k := by
      rw [Nat.mul_comm (10 * n + 4) k, show 10 * n + 4 = (10 * n + 2) + 2 from rfl, Nat.mul_add, Nat.mul_comm k 2]
    omega
theorem short_tup {n : Nat} {s : Str} (h : Tn n s) : Short (.tuple [.str s]) (10 * n + 7) := by
  refine ⟨by simp [PyData.showable, PyData.showableAll], by simp [PyData.depth, PyData.depthAll], ?_⟩
  simp only [PyData.shown, PyData.shownAll]
  have h1 := PySem.tupleText_len_le [reprText s]
  have h2 := repr_Tn h
  simp only [List.map_cons, List.map_nil, List.sum_cons, List.sum_nil, List.length_cons, List.length_nil] at h1
  omega
theorem short_dict : Short (.dict []) 10 := ⟨by decide +kernel, by decide +kernel, by decide +kernel⟩
/-- ['mark', thing] -/
theorem short_mark {d : PyData} (h : Short d 9000) : (PyData.list [.str "mark", d]).showable = true ∧ (PyData.list [.str "mark", d]).depth ≤ 40 ∧ (PyData.list [.str "mark", d]).shown.length ≤ sizeLine := by
  obtain ⟨a, b, c⟩ := h
  refine ⟨by simp [PyData.showable, PyData.showableAll, a], ?_, ?_⟩
  · simp only [PyData.depth, PyData.depthAll]
    omega
  · simp only [PyData.shown, PyData.shownAll]
    have h1 := PySem.listText_len_le [reprText "mark", d.shown]
    have h2 : (reprText "mark").length ≤ 42 := repr_Tn (n := 4) ⟨by decide +kernel, by decide +kernel⟩
    simp only [List.map_cons, List.map_nil, List.sum_cons, List.sum_nil, List.length_cons, List.length_nil] at h1
    rw [sizeLine_eq]
    omega
/-- the things that a law asks with, none of them a mark -/
def odds (M : Str) (pL pT pD : Addr) : List V := [.non, .bl true, .int 7, .str "", .str "a..b", .str "A", .str "a.b.c.d.e", .str "abcdefg", .str "01", .str "1000000", .ref pL, .ref pT, .ref pD, .str (M ++ "."), .str "a b"]
structure OddAt (H : Hp) (M : Str) (pL pT pD : Addr) (k : Nat) : Prop where
  l : H pL = some (.lst (List.replicate k (.str M)))
  t : H pT = some (.tup [.str M])
  d : H pD = some (.dK [])
theorem odd_txt (s : Str) (h : (isMarkB (.str s) = false ∧ s.length ≤ 20) ∧ ∀ c ∈ s.cps.toList, c < 128) : isMarkB (.str s) = false ∧ Tn 20 s := ⟨h.1.1, h.1.2, h.2⟩
theorem odd_no {xs : List V} {pL pT pD : Addr} {v : V} (hn : xs ≠ []) (hp : ∀ v ∈ xs, PartV v) (h : v ∈ odds (markText xs) pL pT pD) : isMarkB v = false := by
  simp only [odds, List.mem_cons, List.not_mem_nil, or_false] at h
  rcases h with rfl | rfl | rfl | rfl | rfl | rfl | rfl | rfl | rfl | rfl | rfl | rfl | rfl | rfl | rfl <;> first | rfl | decide +kernel | skip
  rw [dot_eq]
  exact no_mark_dot hn hp
theorem odd_size {M : Str} {pL pT pD : Addr} {v : V} (hM : Tn 28 M) (h : v ∈ odds M pL pT pD) : ∀ s, v = .str s → Tn 29 s := by
  intro s e
  subst e
  simp only [odds, List.mem_cons, List.not_mem_nil, or_false, V.str.injEq, reduceCtorEq, false_or] at h
  rcases h with rfl | rfl | rfl | rfl | rfl | rfl | rfl | rfl | rfl <;> first | exact ⟨by decide +kernel, by decide +kernel⟩ | skip
  exact hM.app (n := 1) ⟨by decide +kernel, by decide +kernel⟩
theorem odd_thing {K : PySem.W.Frag} {H : Hp} {M : Str} {pL pT pD : Addr} {k : Nat} {v : V} (hM : Tn 28 M) (o : OddAt H M pL pT pD k) (h : v ∈ odds M pL pT pD) : Thing K H v := by
  have hs := odd_size hM h
  simp only [odds, List.mem_cons, List.not_mem_nil, or_false] at h
  rcases h with rfl | rfl | rfl | rfl | rfl | rfl | rfl | rfl | rfl | rfl | rfl | rfl | rfl | rfl | rfl <;> first | exact .non | exact .bl _ | exact .int _ | exact .str _ ((hs _ rfl).mono (by omega)) | skip
  · exact .lst _ _ o.l
  · exact .tup _ _ o.t
  · exact .dK _ _ o.d
theorem dd_rep {K : PySem.W.Frag} {H : Hp} (s : Str) : ∀ k, DdAll K H (List.replicate k (.str s)) (List.replicate k (.str s))
  | 0 => .nil
  | k + 1 => by
    rw [List.replicate_succ, List.replicate_succ]
    exact .cons (.str s) (dd_rep s k)
theorem Short.mono {d : PyData} {m n : Nat} (h : Short d m) (l : m ≤ n) : Short d n := ⟨h.ok, h.dp, Nat.le_trans h.sz l⟩
theorem odd_dd {K : PySem.W.Frag} {H : Hp} {M : Str} {pL pT pD : Addr} {k : Nat} {v : V} (hM : Tn 28 M) (hk : k ≤ 20) (o : OddAt H M pL pT pD k) (h : v ∈ odds M pL pT pD) : ∃ d, Dd K H v d ∧ Short d 9000 := by
  have hs := odd_size hM h
  simp only [odds, List.mem_cons, List.not_mem_nil, or_false] at h
  rcases h with rfl | rfl | rfl | rfl | rfl | rfl | rfl | rfl | rfl | rfl | rfl | rfl | rfl | rfl | rfl <;> first | exact ⟨_, .str _, (short_str (hs _ rfl)).mono (by omega)⟩ | skip
  · exact ⟨_, .non, by decide +kernel, by decide +kernel, by decide +kernel⟩
  · exact ⟨_, .bl true, by decide +kernel, by decide +kernel, by decide +kernel⟩
  · exact ⟨_, .int 7, by decide +kernel, by decide +kernel, by decide +kernel⟩
  · exact ⟨_, .lst (SqL.of o.l) (dd_rep M k), (short_rep hM).mono (by omega)⟩
  · exact ⟨_, .tup (SqT.of o.t) (.cons (.str M) .nil), (short_tup hM).mono (by omega)⟩
  · exact ⟨.dict [], .dic o.d .nil .nil, short_dict.mono (by omega)⟩
mutual
theorem dd_ex {K : PySem.W.Frag} {H H' : Hp} (e : Ex H H') : ∀ {v : V} {d : PyData}, Dd K H v d → Dd K H' v d
  | _, _, .non => .non
  | _, _, .bl b => .bl b
  | _, _, .int i => .int i
  | _, _, .str s => .str s
  | _, _, .lst h a => .lst (e.sq h) (dd_exAll e a)
  | _, _, .tup h a => .tup (e.st h) (dd_exAll e a)
  | _, _, .dic h a b => .dic (e _ _ h) (dd_exAll e a) (dd_exAll e b)
theorem dd_exAll {K : PySem.W.Frag} {H H' : Hp} (e : Ex H H') : ∀ {vs : List V} {ds : List PyData}, DdAll K H vs ds → DdAll K H' vs ds
  | _, _, .nil => .nil
  | _, _, .cons a b => .cons (dd_ex e a) (dd_exAll e b)
end
theorem q_par {i j : Nat} {ta : TA} {D : Ends} {σ : L2.St} {H : Hp} (k : ta σ H fun vs H1 => ∃ v w, vs = [v, w] ∧ D.nx ((σ.set i (some v)).set j (some w)) H1) : tPar i j ta D σ H := k


/-! # Own errors as things: their text -/
section
open PySem Builtin Builtin.Str Builtin.BaseException Builtin.Exceptions
open PySem.W (Looks Frag findIn subIn clsIn looks_findIn looks_subIn looks_clsIn)
variable {prog : Program} {w : World} {A : Around} {E : Value → Shared → Prop} {s : Shared} {K : Frag} {C e t0 : Addr}
/-- how such an error is shown -/
def excText (nm m : Str) : Str := excReprHead nm.toString ++ "(" ++ reprText m ++ ")"
theorem excC_keep {h h' : Heap} (x : ExcC K C e t0 h) (k : ∀ b o, h.get? b = some o → h'.get? b = some o) : ExcC K C e t0 h' :=
  let ⟨X, o, vs, ho, r⟩ := x
  ⟨X.keeps k, o, vs, k _ _ ho, r⟩
theorem tupAt_keep {h h' : Heap} {t : Addr} {l : List Value} (x : h.TupAt t l) (k : ∀ b o, h.get? b = some o → h'.get? b = some o) : h'.TupAt t l :=
  let ⟨o, n, ho, r⟩ := x
  ⟨o, n, k _ _ ho, r⟩
theorem nameOf_C {M : Model} {cd : ClassData} {Q : String → Shared → Prop} (x : ExcC K C e t0 s.heap) (hcd : clsIn K C = some cd) (hq : Q cd.name.toString s) : wpAny M A (typeNameOfWhole (.ref e)) Q E s := by
  unfold typeNameOfWhole shownTypeOf
  refine wpAny_bind (wpAny_bind (x.LT.here ?_))
  rw [if_neg (by simp)]
  refine wpAny_pure ?_
  show wpAny M A (do return (← classData C).name.toString) Q E s
  refine wpAny_bind ((looks_clsIn x.1 hcd).here (wpAny_pure hq))
theorem reprAt_C (b : Nat) {cd : ClassData} {m : Str} {tk : Tok} {Q : PySem.Fin → Shared → Prop} (x : ExcC K C e t0 s.heap) (hcd : clsIn K C = some cd) (ht : s.heap.TupAt t0 [.str m tk])
    (hq : Q (.done (.ret (.str (excText cd.name m) (s.toks + 1)))) { s with toks := s.toks + 1 + 1 }) (hsz : b + (excText cd.name m).length ≤ sizeLine) :
    wpAny (model prog w) A (Builtin.bexcReprAt b ⟨[.ref e], []⟩) Q E s := by
  have e1 : b + (Str.ofString ((cd.name.toString.cutAt '.').getLastD "") ++ Str.ofString "(" ++ reprText m ++ Str.ofString ")").length ≤ sizeLine := hsz
  have hsz2 : (Str.ofString ((cd.name.toString.cutAt '.').getLastD "") ++ Str.ofString "(" ++ reprText m ++ Str.ofString ")").length ≤ sizeLine := Nat.le_trans (Nat.le_add_left _ b) e1
  have eP : (Str.ofString "(").length = 1 := by rw [PySem.ofString_length]; rfl
  rw [strLen_append, strLen_append, strLen_append, eP] at e1
  have hsz1 : (reprText m).length ≤ sizeLine := by omega
  have hpile : b + ((Str.ofString ((cd.name.toString.cutAt '.').getLastD "")).length + 1) ≤ sizeLine := by omega
  unfold Builtin.bexcReprAt
  repeat (first | with_reducible refine nameOf_C x hcd ?_ | with_reducible refine bexcArgs_C x ht ?_ | rw [pyReprUnder_leaf (v := .str m tk) hpile (by intro a; nofun)] | with_reducible refine wpAny_pyRepr_str ?_ | wp_step)
  exact hq
theorem check_C (x : ExcC K C e t0 s.heap) (hB : subIn K (.ref C) (.type "BaseException") = some true) {Q : Unit → Shared → Prop} (q : Q () s) : wpAny (model prog w) A (checkBuiltinCall "BaseException.__repr__" ⟨[.ref e], []⟩) Q E s :=
  @PySem.W.check_slot (model prog w) A E s "BaseException.__repr__" "BaseException" "__repr__" (.ref e) [] [] Q (by decide +kernel) (by decide +kernel) (x.LI hB) (F.args_bexc_repr _) q
theorem by_C {last : Value → List Value → Sem Value} {Q : Option Value → Shared → Prop} (x : ExcC K C e t0 s.heap) (hr : findIn K (.ref C) "__repr__" = some (some (.builtin "BaseException.__repr__")))
    (hc : wpAny (model prog w) A (last (.builtin "BaseException.__repr__") [.ref e]) (fun v => Q (some v)) E s) : wpAny (model prog w) A (callSpecialIfBoundBy? last (.ref e) "__repr__") Q E s := by
  have hf : Looks (model prog w) s.heap (typeLookup (.ref C) "__repr__") (some (.builtin "BaseException.__repr__")) := looks_findIn x.1 hr
  have hb := (F.excStr_Exception.repr.bind (.ref e))
  simp only [callSpecialIfBoundBy?, bindSpecialIfBound?]
  refine wpAny_holding (wpAny_bind (wpAny_bind ?_))
  unfold specialOf
  refine wpAny_bind (x.LT.here (hf.here ?_))
  simp only [hb]
  refine wpAny_bind (wpAny_askSetting (wpAny_ite ?_))
  have fin : wpAny (model prog w) A (last (.builtin "BaseException.__repr__") [.ref e] >>= fun v => pure (some v)) Q E s :=
    wpAny_bind (wpAny_mono hc (fun v s' h' => wpAny_pure h') fun _ _ h' => h')
  split
  · exact wpAny_bind (wpAny_pure (wpAny_pure fin))
  · exact wpAny_tryCatch (wpAny_bind (wpAny_pure (wpAny_pure fin)))
theorem reprK_C {cd : ClassData} {m : Str} {tk : Tok} {as : List Addr} {h₀ : Heap} {d : Nat} (x : ExcC K C e t0 h₀) (hcd : clsIn K C = some cd) (ht : h₀.TupAt t0 [.str m tk]) (hr : findIn K (.ref C) "__repr__" = some (some (.builtin "BaseException.__repr__"))) (hB : subIn K (.ref C) (.type "BaseException") = some true) :
    ReprK prog w as h₀ d (.ref e) (excText cd.name m) := by
  intro base hb A g E s Q hg hcl hu hk0 hQ
  have y := excC_keep x hk0
  have hf : Looks (model prog w) s.heap (typeLookup (.ref C) "__repr__") (some (.builtin "BaseException.__repr__")) := looks_findIn y.1 hr
  refine wpAny_pyReprUnder_ref (by omega) ?_
  unfold pyReprObjUnder pyReprObjBy
  refine wpAny_bind (wpAny_cRoomFor (by omega) ?_)
  refine wpAny_bind ?_
  unfold specialOf
  refine wpAny_bind (y.LT.here (hf.here ?_))
  refine wpAny_bind (by_C y hr ?_)
  show wpAny _ _ (call (.builtin "BaseException.__repr__.under") [.ref e, rawInt base]) _ _ _
  refine wpAny_call (codeAny_call_builtin F.plain_bexc_repr_under F.entry_bexc_repr_under ?_)
  rw [F.check_bexc_repr_under]
  refine wpAny_pure ?_
  rw [show Builtin.«BaseException.__repr__.under» = reprTwin "BaseException.__repr__" Builtin.bexcReprAt from rfl, reprTwin_eq]
  refine wpAny_bind (check_C y hB ?_)
  refine reprAt_C base y hcd (tupAt_keep ht hk0) ?_ hb
  exact wpAny_bind (wpAny_isInstance (T := "str") (b := true) rfl isSubtype_str_str (wpAny_pure ⟨_, _, rfl, hQ s.heap _ fun _ _ z => z⟩))
end
/-! ## an own error made as a thing -/
section
open PySem PySem.HandSPX
variable {prog : Program} {w : World} {A : Around} {E : Value → Shared → Prop} {R : Result → Shared → Prop} {h : Heap} {g : Array GenState} {d : Drawn} {t : Nat} {os : OsState}
variable {nm q : Str} {C N : Addr} {bs bm bmB : List Value} {hdct : Bool} {sn : List Str} {sub : List Value} {ab : Bool} {col : Option Bool} {dd : Option Addr} {k0 k1 k2 k3 k5 : Option Value} {B newId initId : String}
theorem init_args (F : ExcBaseFacts B newId initId bmB) (hT : ∀ X : String, bm.contains (.type X) = bmB.contains (.type X)) {e t0 : Addr} {rest : List Value}
    (hC : h.get? C = some (excClassObj nm q C N bs bm hdct sn sub ab col dd k0 k1 k2 k3 k5 newId)) (he : h.get? e = some (excO C t0)) (hrest : rest.length ≤ sizeLine)
    (hq : ∀ h', (∀ b o, b ≠ e → h.get? b = some o → h'.get? b = some o) → h'.get? e = some (excO C h.objs.size) → h'.get? h.objs.size = some { cls := .type "tuple", data := .seq rest.toArray } → R (.ok (.ret .none)) ⟨h', g, d, t, os⟩) :
    codeAny (model prog w) A (.call (.builtin initId) ⟨.ref e :: rest, []⟩) R ⟨h, g, d, t, os⟩ := by
  refine codeAny_call_builtin F.init.plain F.initEntry (check_init_own F hT hC he rfl ?_)
  have hne : e ≠ h.objs.size := Nat.ne_of_lt (Heap.lt_size he)
  wp_walk
  refine hq _ (fun b o hb ho => ?_) ?_ ?_
  · rw [Heap.get?_update_other _ _ (Ne.symm hb)]
    exact Heap.get?_push_of_some _ ho
  · rw [Heap.get?_update_self _ (Heap.get?_push_of_some _ he) rfl]
    rfl
  · rw [Heap.get?_update_other _ _ hne]
    exact Heap.get?_push_size _ rfl
end
section
variable {X : Cx} {pins : List (Addr × Obj)} {σ : L2.St} {H : Hp} {s : Shared} {A : Around} {E : Value → Shared → Prop} {a C : Addr}
/-- ValueError.__init__(self, text): what is kept of it -/
theorem oinit_args {x : Str} {tk : Tok} {Q : Value → Shared → Prop} (T : OexC X.K C) (I : Inv X pins σ H s) (e : H a = some (exo a C none)) (h : ∀ t s', H t = none → t ≠ a → Inv X pins σ (upd (upd H t (.tup [.str x])) a (exoM a C t)) s' → Q .none s') :
    wpAny (model X.prog X.w) A (call (.builtin "ValueError.__init__") [.ref a, .str x tk]) Q E s := by
  obtain ⟨nm, q, N, bs, bm, sn, sub, ab, col, dd, k0, k1, k2, k3, k5, hC, hbm⟩ := T.cls
  obtain ⟨t1, ho⟩ := exo_at I.hok e
  obtain ⟨hp, g, d, t, os⟩ := s
  refine wpAny_call (init_args F.excBase_ValueError (fun Y => PySem.HandSPX.refsVE_contains Y bm hbm) (I.kIn _ _ hC) ho (by show 1 ≤ sizeLine; rw [sizeLine_eq]; omega) fun h' k hx ht => ?_)
  have hne : a ≠ hp.objs.size := Nat.ne_of_lt (Heap.lt_size ho)
  have hn : H hp.objs.size = none := I.hok.fresh (Nat.le_refl _)
  have nd : ∀ {b : Addr} {o : Obj}, hp.get? b = some o → b ≠ hp.objs.size := fun {b o} q => Nat.ne_of_lt (Heap.lt_size q)
  have na : ∀ {b : Addr}, H b = none → b ≠ a := fun {b} n z => by
    rw [z, e] at n
    cases n
  have Un1 : Un X.fs [] H (upd (upd H hp.objs.size (.tup [.str x])) a (exoM a C hp.objs.size)) hp h' := {
    keep := fun b o q n _ _ => k b o (na n) q
    slot := fun b o q n _ _ => ⟨o.slots, k b o (na n) q⟩
    free := fun b o q n _ => by rw [upd_ne (na n), upd_ne (nd q)]; exact n
    there := fun b o q _ => by
      by_cases hb : b = a
      · exact ⟨_, by rw [hb]; exact hx⟩
      · exact ⟨o, k b o hb q⟩
    tups := fun b xs q => by rw [upd_ne (at_ne e q exo_tup), upd_ne (ne_of_none q hn)]; exact q
    frzs := fun b o v q => by rw [upd_ne (at_ne e q exo_frz), upd_ne (ne_of_none q hn)]; exact q
    tbls := fun b ps q => ⟨#[], by rw [upd_ne (at_ne e q exo_tbl), upd_ne (ne_of_none q hn), q]; simp⟩ }
  have r1 : Vals [V.str x] [Value.str x tk] := .cons ⟨tk, rfl⟩ .nil
  refine h hp.objs.size _ hn hne.symm (I.un (t' := t) Un1 fun b o q => ?_)
  by_cases hb : b = a
  · subst hb
    rw [upd_same] at q
    cases q
    exact exoM_ok hx
  · rw [upd_ne hb] at q
    by_cases hd : b = hp.objs.size
    · subst hd
      rw [upd_same] at q
      cases q
      exact ⟨(by show 1 ≤ sizeLine; rw [sizeLine_eq]; omega), [Value.str x tk], r1, _, ht, rfl, 0, rfl⟩
    · rw [upd_ne hd] at q
      exact (I.hok b o q).stay (fun c v hc z => k c v (by
          rcases hc with hc | hc
          · rw [hc]
            exact hb
          · exact at_ne e hc exo_own) z)
        (fun c hc => by rw [upd_ne (at_ne e hc exo_own), upd_ne (ne_of_none hc hn)]; exact hc) (fun c xs hc => by rw [upd_ne (at_ne e hc exo_tup), upd_ne (ne_of_none hc hn)]; exact hc)
end
/-- ValueError.__init__(self, a text), what is kept of it -/
def tVeM (K : PySem.W.Frag) (ta : TA) : TE := fun σ H Q => ta σ H fun vs H1 => ∃ (a C : Addr) (x : Str), vs = [.ref a, .str x] ∧ OexC K C ∧ H1 a = some (exo a C none) ∧ ∀ t, H1 t = none → t ≠ a → Q .non (upd (upd H1 t (.tup [.str x])) a (exoM a C t))
theorem q_veM {K : PySem.W.Frag} {ta : TA} {σ : L2.St} {H : Hp} {Q : VK} (k : ta σ H fun vs H1 => ∃ (a C : Addr) (x : Str), vs = [.ref a, .str x] ∧ OexC K C ∧ H1 a = some (exo a C none) ∧ ∀ t, H1 t = none → t ≠ a → Q .non (upd (upd H1 t (.tup [.str x])) a (exoM a C t))) : tVeM K ta σ H Q := k
section
variable {X : Cx} {e : Expr} {es : List Expr} {ta : TA} {p1 p2 pos : Pos}
theorem pe_veinitM {pl : Sem Bool} (hg : Gl X "ValueError") (hm : X.mg "ValueError" = none) (vV : PySem.W.findCls X.K (.type "ValueError") (.type "type") "__init__" = some (.val (.builtin "ValueError.__init__"))) (ha : PA X (e :: es) ta)
    (hc : eval (.Call (.Attribute (.Name "ValueError" p1) "__init__" p2) (e :: es) [] pos) X.env = (do
      let ov ← eval (.Name "ValueError" p1) X.env
      standAt p2.atName
      let (f, first) ← holding [ov] (getMethod ov "__init__" pl)
      callWith pos f first (backTo pos (starEach (e :: es) X.env)) (backToKw pos (keywordEach [] X.env))) := by rfl)
    (he : starEach (e :: es) X.env = (false, eval e X.env) :: starEach es X.env := by rfl) (hpl : (backTo pos (starEach es X.env)).any (·.1) = false := by rfl) :
    PE X (.Call (.Attribute (.Name "ValueError" p1) "__init__" p2) (e :: es) [] pos) (tVeM X.K ta) := by
  refine ⟨fun pins s σ H Q I h => ?_⟩
  refine PySem.W.methodCall_KW (ld_blt I hg hm PyProof.Rows.Boot.«ValueError» ?_ (by decide) (by decide)) hc
  obtain ⟨m, fr⟩ := I.fr
  refine PySem.W.method_type fr I.ok.mod.kin PySem.OEX.typ_VE (by decide +kernel) vV (by decide +kernel) ?_
  show wpAny _ _ (callWith pos (Value.builtin "ValueError.__init__") [] (backTo pos (starEach (e :: es) X.env)) []) _ _ _
  refine PyProof.Rows.callWith_method1 (thn (ha.run pos pins _ σ H _ (I.tok _) h) fun us s1 ⟨vs, H1, I1, r1, a, C, x, ev, T, ea, q⟩ => ?_) he hpl
  subst ev
  cases r1 with
  | cons ra rw' =>
    cases rw' with
    | cons rb rn =>
      cases rn
      cases ra
      obtain ⟨tk, rfl⟩ := rb
      exact oinit_args T I1 ea fun t s' hn hne J => ⟨.non, _, J, rfl, q t hn hne⟩
end
/-- an __init__ that hands a text on, where the error is kept as a thing -/
def spThing (K : PySem.W.Frag) : Sp := fun vs H Q _ => ∃ (a C : Addr) (x : Str), vs = [.ref a, .str x] ∧ OexC K C ∧ H a = some (exo a C none) ∧ ∀ t, H t = none → t ≠ a → Q .non (upd (upd H t (.tup [.str x])) a (exoM a C t))
/-- C(text) as a thing -/
def tMkV (C : Addr) (ta : TA) : TE := fun σ H Q => ta σ H fun vs H1 => ∃ x, vs = [.str x] ∧ ∀ a t H', H1 a = none → H1 t = none → H' a = some (exoM a C t) → H' t = some (.tup [.str x]) → Ex H1 H' → Q (.ref a) H'
theorem q_mkV {C : Addr} {ta : TA} {σ : L2.St} {H : Hp} {Q : VK} (k : ta σ H fun vs H1 => ∃ x, vs = [.str x] ∧ ∀ a t H', H1 a = none → H1 t = none → H' a = some (exoM a C t) → H' t = some (.tup [.str x]) → Ex H1 H' → Q (.ref a) H') : tMkV C ta σ H Q := k
/-- a class whose instances are things -/
structure Kv (P : Program) (w : World) (K : PySem.W.Frag) (mg : Str → Option Value) (base : Heap) (k : Nat) (x : Str) (C : Addr) : Prop where
  e : Ke P w K mg base k x C (spBare K)
  f : ExF K C
  ini : ∃ (fI : Addr) (fd : FuncData) (ps : List Str), FnOk P w K mg base CX0 k fI fd ps (spThing K) ∧ PySem.W.findIn K (.ref C) "__init__" = some (some (.ref fI)) ∧ PySem.W.typeIn K (.ref fI) = some (.type "function") ∧ Binds K fd ps []
  rp : PySem.W.findIn K (.ref C) "__repr__" = some (some (.builtin "BaseException.__repr__"))
  cd : ∃ cd, PySem.W.clsIn K C = some cd ∧ (excReprHead cd.name.toString).length ≤ 100
section
variable {X : Cx} {k j : Nat} {x : Str} {C : Addr} {p pos : Pos} {e : Expr} {es : List Expr} {ta : TA}
theorem pe_mkV (c : Kv X.prog X.w X.K X.mg X.base k x C) (hr : Room j X.A) (hk : k + 1 ≤ j) (hg : Gl X x) (ha : PA X (e :: es) ta)
    (hdb : (x == ("__debug__" : Str)) = false := by decide) (he : starEach (e :: es) X.env = (false, eval e X.env) :: starEach es X.env := by rfl) (hpl : (backTo pos (starEach es X.env)).any (·.1) = false := by rfl) :
    PE X (.Call (.Name x p) (e :: es) [] pos) (tMkV C ta) := by
  obtain ⟨fI, fd, ps, F1, iC, tI, hb⟩ := c.ini
  have T := c.e.T
  refine ⟨fun pins s σ H Q I h => ?_⟩
  obtain ⟨nm, q, N, bs, bm, sn, sub, ab, col, dd, k0, k1, k2, k3, k5, hC, hbm⟩ := T.cls
  refine wpAny_Call_Name_kw (ld_glob I hg c.e.m ?_ hdb)
  refine PySem.W.callWith_K (h₀ := X.base) I.ok.mod.kin T.kC (thn (ha.run pos pins s σ H _ I h) fun us s1 ⟨vs, H1, I1, r1, y, ev, q1⟩ => ⟨I1.kIn, ?_⟩) he hpl
  subst ev
  show wpAny _ _ (call (.ref C) us) _ _ _
  obtain ⟨hp, g, dr, tk, os⟩ := s1
  have hsz : hp.objs.size ≤ hp.objs.size + 1 := Nat.le_succ _
  have hn : H1 (hp.objs.size + 1) = none := I1.hok.fresh hsz
  have kk : ∀ b o, hp.get? b = some o → ((hp.push (PySem.W.kdv_tup us)).push (PySem.HandSPX.excO C hp.objs.size)).get? b = some o := fun b o e => Heap.get?_push_of_some _ (Heap.get?_push_of_some _ e)
  have hget : ((hp.push (PySem.W.kdv_tup us)).push (PySem.HandSPX.excO C hp.objs.size)).get? (hp.objs.size + 1) = some (PySem.HandSPX.excO C hp.objs.size) := by heap_get
  have I2 : Inv X pins σ (upd H1 (hp.objs.size + 1) (exo (hp.objs.size + 1) C none)) ⟨(hp.push (PySem.W.kdv_tup us)).push (PySem.HandSPX.excO C hp.objs.size), g, dr, tk, os⟩ :=
    I1.laid (t' := tk) (a := hp.objs.size + 1) (o := exo (hp.objs.size + 1) C none) (h' := (hp.push (PySem.W.kdv_tup us)).push (PySem.HandSPX.excO C hp.objs.size)) kk hsz (exo_ok hget)
  have r2 : Vals [V.ref (hp.objs.size + 1), .str y] (Value.ref (hp.objs.size + 1) :: us) := .cons rfl r1
  have hq : spThing X.K [.ref (hp.objs.size + 1), .str y] (upd H1 (hp.objs.size + 1) (exo (hp.objs.size + 1) C none)) (fun v H2 => v = .non ∧ Q (.ref (hp.objs.size + 1)) H2) (fun _ _ _ => False) := by
    refine ⟨_, C, y, rfl, T, upd_same, fun t ht hne => ⟨rfl, ?_⟩⟩
    rw [upd_ne hne] at ht
    refine q1 _ t _ hn ht upd_same (by rw [upd_ne hne, upd_same]) fun b o hb => ?_
    have n1 : b ≠ t := ne_of_none hb ht
    have n2 : b ≠ hp.objs.size + 1 := ne_of_none hb hn
    rw [upd_ne n2, upd_ne n1, upd_ne n2]
    exact hb
  have hl : (Value.ref (hp.objs.size + 1) :: us).length = ps.length := by
    have e := r2.length
    rw [F1.len _ _ _ _ hq] at e
    exact e.symm
  have hus : us.length ≤ sizeLine := by
    rw [← Paired.length r1, sizeLine_eq]
    show 1 ≤ _
    omega
  have hbb := hb _ (Value.ref (hp.objs.size + 1) :: us) I2.kIn (by rw [List.append_nil]; exact hl)
  rw [List.append_nil] at hbb
  refine wpAny_call (PySem.HandSPX.call_own F.excBase_ValueError (fun Y => PySem.HandSPX.refsVE_contains Y bm hbm) (I1.kIn _ _ hC) (PySem.W.looks_findIn I1.kIn iC) (fun self => PySem.W.bind_fn I1.kIn self tI) hus
    (codeAny_mono (F1.run _ X.stack _ _ ⟨Value.ref (hp.objs.size + 1) :: us, []⟩ (Value.ref (hp.objs.size + 1) :: us) _ _ (fun _ _ _ => False) ((hr.mono hk).make C us []) (I2.env0.make C us []) hbb r2 hq) fun r s' hq' => ?_))
  match r, hq' with
  | .error er, hq' => exact hq'.elim
  | .ok (.ret u), hq' =>
    obtain ⟨v, H2, J, rv, ev, q2⟩ := I2.after hq'
    subst ev
    have J1 : EP X pins σ Q (.ref (hp.objs.size + 1)) s' := ⟨.ref _, H2, J, rfl, q2⟩
    cases rv
    exact ⟨rfl, J1⟩
  | .ok .next, hq' => exact hq'.elim
  | .ok .brk, hq' => exact hq'.elim
  | .ok .cont, hq' => exact hq'.elim
end


/-! # texts of things, own errors among them -/
/-- what the class says where its instances' texts are asked -/
structure ExR (K : PySem.W.Frag) (C : Addr) (cd : ClassData) : Prop where
  cl : PySem.W.clsIn K C = some cd
  rp : PySem.W.findIn K (.ref C) "__repr__" = some (some (.builtin "BaseException.__repr__"))
  sb : PySem.W.subIn K (.ref C) (.type "BaseException") = some true
mutual
/-- v is shown as t: its depth, the lists under way where it is asked -/
inductive Sh (K : PySem.W.Frag) (H : Hp) : V → Str → Nat → List Addr → Prop
  | non : Sh K H .non "None" 0 []
  | bl (b : Bool) : Sh K H (.bl b) (if b then "True" else "False") 0 []
  | int (i : Int) (h : i.natAbs.log2 < 1920) : Sh K H (.int i) (toString i) 0 []
  | str (x : Str) : Sh K H (.str x) (reprText x) 0 []
  | lst {a : Addr} {xs : List V} {ts : List Str} {d : Nat} {bs : List Addr} : H a = some (.lst xs) → ShAll K H xs ts d bs → a ∉ bs → Sh K H (.ref a) (listText ts) (d + 1) (a :: bs)
  | tup {a : Addr} {xs : List V} {ts : List Str} {d : Nat} {bs : List Addr} : H a = some (.tup xs) → ShAll K H xs ts d bs → a ∉ bs → Sh K H (.ref a) (tupleText ts) (d + 1) (a :: bs)
  | dic {a : Addr} {kvs : List (Key × V)} {t1 t2 : List Str} {d : Nat} {b1 b2 : List Addr} : H a = some (.dK kvs) → ShAll K H (kvs.map fun p => kV p.1) t1 d b1 → ShAll K H (kvs.map (·.2)) t2 d b2 → a ∉ b1 ++ b2 → Sh K H (.ref a) (dictText (List.zipWith (fun k v : Str => k ++ ": " ++ v) t1 t2)) (d + 1) (a :: (b1 ++ b2))
  | exc {a C t : Addr} {m : Str} {cd : ClassData} : H a = some (exoM a C t) → H t = some (.tup [.str m]) → ExR K C cd → Sh K H (.ref a) (excText cd.name m) 0 []
inductive ShAll (K : PySem.W.Frag) (H : Hp) : List V → List Str → Nat → List Addr → Prop
  | nil : ShAll K H [] [] 0 []
  | cons {v : V} {vs : List V} {t : Str} {ts : List Str} {d d' : Nat} {b1 b2 : List Addr} : Sh K H v t d b1 → ShAll K H vs ts d' b2 → ShAll K H (v :: vs) (t :: ts) (max d d') (b1 ++ b2)
end
mutual
theorem Sh.ex {K : PySem.W.Frag} {H H' : Hp} (e : Ex H H') : ∀ {v : V} {t : Str} {d : Nat} {bs : List Addr}, Sh K H v t d bs → Sh K H' v t d bs
  | _, _, _, _, .non => .non
  | _, _, _, _, .bl b => .bl b
  | _, _, _, _, .int i h => .int i h
  | _, _, _, _, .str x => .str x
  | _, _, _, _, .lst h a n => .lst (e _ _ h) (ShAll.ex e a) n
  | _, _, _, _, .tup h a n => .tup (e _ _ h) (ShAll.ex e a) n
  | _, _, _, _, .dic h a b n => .dic (e _ _ h) (ShAll.ex e a) (ShAll.ex e b) n
  | _, _, _, _, .exc h h2 r => .exc (e _ _ h) (e _ _ h2) r
theorem ShAll.ex {K : PySem.W.Frag} {H H' : Hp} (e : Ex H H') : ∀ {vs : List V} {ts : List Str} {d : Nat} {bs : List Addr}, ShAll K H vs ts d bs → ShAll K H' vs ts d bs
  | _, _, _, _, .nil => .nil
  | _, _, _, _, .cons a b => .cons (Sh.ex e a) (ShAll.ex e b)
end
theorem zip_sizes : ∀ (t1 t2 : List Str), t1.length = t2.length → (∀ t ∈ List.zipWith (fun k v : Str => k ++ ": " ++ v) t1 t2, t.length ≤ sizeLine) → (∀ t ∈ t1, t.length ≤ sizeLine) ∧ ∀ t ∈ t2, t.length ≤ sizeLine
  | [], [], _, _ => ⟨(fun t ht => by cases ht), (fun t ht => by cases ht)⟩
  | [], _ :: _, h, _ => by simp at h
  | _ :: _, [], h, _ => by simp at h
  | a :: t1, b :: t2, hl, hm => by
    obtain ⟨i1, i2⟩ := zip_sizes t1 t2 (by simpa using hl) fun t ht => hm t (List.mem_cons_of_mem _ ht)
    have := hm (a ++ ": " ++ b) List.mem_cons_self
    rw [Str.length_append, Str.length_append] at this
    refine ⟨fun t ht => ?_, fun t ht => ?_⟩
    · rcases List.mem_cons.mp ht with e | e
      · rw [e]; omega
      · exact i1 t e
    · rcases List.mem_cons.mp ht with e | e
      · rw [e]; omega
      · exact i2 t e
theorem shAll_length {K : PySem.W.Frag} {H : Hp} : ∀ {vs : List V} {ts : List Str} {d : Nat} {bs : List Addr}, ShAll K H vs ts d bs → ts.length = vs.length
  | _, _, _, _, .nil => rfl
  | _, _, _, _, .cons _ b => by rw [List.length_cons, List.length_cons, shAll_length b]
section
variable {X : Cx} {pins : List (Addr × Obj)} {σ : L2.St} {H : Hp} {s : Shared}
theorem exc_at (I : Inv X pins σ H s) {a C t : Addr} {m : Str} (h : H a = some (exoM a C t)) (h2 : H t = some (.tup [.str m])) : ∃ tk, ExcC X.K C a t s.heap ∧ s.heap.TupAt t [.str m tk] := by
  have ho := exoM_at I.hok h
  obtain ⟨its, rv, ⟨o, h1, hc, n, hd⟩, _⟩ := I.tuple (SqT.of h2)
  cases rv with
  | cons r rr =>
    cases rr
    obtain ⟨tk, rfl⟩ := r
    exact ⟨tk, ⟨I.kIn, _, _, ho, rfl, rfl, rfl⟩, o, n, h1, hc, hd⟩
mutual
theorem sh_k (I : Inv X pins σ H s) : ∀ {v : V} {t : Str} {d : Nat} {bs : List Addr}, Sh X.K H v t d bs → t.length ≤ sizeLine → ∀ {u : Value}, RelV v u → ReprK X.prog X.w bs s.heap d u t
  | _, _, _, _, .non, _, u, r => by cases r; exact .of_is ReprIs.none _ _ _
  | _, _, _, _, .bl b, _, u, r => by cases r; exact .of_is (ReprIs.bool b) _ _ _
  | _, _, _, _, .int i h, _, u, r => by obtain ⟨t, rfl⟩ := r; exact .of_is (ReprIs.int t h) _ _ _
  | _, _, _, _, .str x, hz, u, r => by obtain ⟨t, rfl⟩ := r; exact .of_is (ReprIs.str x t hz) _ _ _
  | _, _, _, _, .lst hq ha hn, hz, u, r => by
    cases r
    obtain ⟨its, rv, ⟨o, n, ho, hc, _, hd⟩, _⟩ := I.list (SqL.of hq)
    have hk := sh_kAll I ha (fun t ht => Nat.le_trans (listText_mem_le ht) hz) rv
    cases its with
    | nil =>
      cases hk
      exact ReprK.listEmpty ho hc hd
    | cons y l => exact ReprK.list ho hc hd hn (by simpa using hk.length_eq) fun i z e => hk.item i z (by simpa using e)
  | _, _, _, _, .tup hq ha hn, hz, u, r => by
    cases r
    obtain ⟨its, rv, ⟨o, ho, hc, n, hd⟩, _⟩ := I.tuple (SqT.of hq)
    exact ReprK.tuple ho hc hd hn (sh_kAll I ha (fun t ht => Nat.le_trans (tupleText_mem_le ht) hz) rv)
  | _, _, _, _, .dic hq h1 h2 hn, hz, u, r => by
    cases r
    obtain ⟨_, hsys, vs, rel, o, esA, ep, ho, hx, hd, _, hp, _⟩ := dk_of I.hok hq
    obtain ⟨v1, v2⟩ := pairs_vals hp rel
    have len1 := v1.length
    have len2 := v2.length
    have e1 := shAll_length h1
    have e2 := shAll_length h2
    obtain ⟨z1, z2⟩ := zip_sizes _ _ (by rw [e1, e2, List.length_map, List.length_map]) fun t ht => Nat.le_trans (dictText_mem_le ht) hz
    have k1 := sh_kAll I h1 z1 v1
    have k2 := sh_kAll I h2 z2 v2
    exact ReprK.dict ho hx.1 hd hsys hn (ReprEntriesK.of_two esA.toList _ _ (k1.more_le (fun b m => List.mem_append_left _ m) (Nat.le_refl _)) (k2.more_le (fun b m => List.mem_append_right _ m) (Nat.le_refl _)))
  | _, _, _, _, .exc h h2 c, hz, u, r => by
    cases r
    obtain ⟨tk, x, ht⟩ := exc_at I h h2
    exact reprK_C x c.cl ht c.rp c.sb
theorem sh_kAll (I : Inv X pins σ H s) : ∀ {vs : List V} {ts : List Str} {d : Nat} {bs : List Addr}, ShAll X.K H vs ts d bs → (∀ t ∈ ts, t.length ≤ sizeLine) → ∀ {us : List Value}, Vals vs us → ReprAllK X.prog X.w bs s.heap d us ts
  | _, _, _, _, .nil, _, us, r => by cases r; exact .nil
  | _, _, _, _, .cons a b, hz, us, r => by
    cases r with
    | cons r1 r2 =>
      have k1 := sh_k I a (hz _ List.mem_cons_self) r1
      have k2 := sh_kAll I b (fun t ht => hz t (List.mem_cons_of_mem _ ht)) r2
      exact .cons ((k1.more fun b m => List.mem_append_left _ m).level_le (Nat.le_max_left _ _)) (k2.more_le (fun b m => List.mem_append_right _ m) (Nat.le_max_right _ _))
end
end
section
variable {X : Cx}
/-- repr of a thing -/
def rReprX (K : PySem.W.Frag) : List V → Hp → VK → Prop := fun vs H Q => ∃ x t d bs, vs = [x] ∧ Sh K H x t d bs ∧ (∀ a C u, x = .ref a → H a ≠ some (exoM a C u)) ∧ d ≤ 40 ∧ t.length ≤ sizeLine ∧ Q (.str t) H
theorem call_reprX {k : Nat} (hr : RoomG k X.A) : CallR X (.builtin "repr") (rReprX X.K) := by
  intro pins s σ H xs us Q I r h
  obtain ⟨x, t, d, bs, rfl, hd, hx, h3, h4, q⟩ := h
  obtain ⟨u, rfl, ru⟩ := vals1 r
  have hu := hr.units
  have fin : ∀ {h' : Heap} {t' tk : Tok}, (∀ b o, s.heap.get? b = some o → h'.get? b = some o) → EP X pins σ Q (.str t t') { s with heap := h', toks := tk } := fun {h' t' tk} hk => ⟨.str _, H, I.kept (t' := tk) hk, ⟨t', rfl⟩, q⟩
  have same : ∀ b o, s.heap.get? b = some o → s.heap.get? b = some o := fun _ _ e => e
  cases hd with
  | non => cases ru; exact PySem.P.repr_of_none (fin same)
  | bl b => cases ru; exact PySem.P.repr_of_bool (fin same)
  | int i h => obtain ⟨t, rfl⟩ := ru; exact PySem.P.repr_of_int h (fin same)
  | str z => obtain ⟨t, rfl⟩ := ru; exact PySem.P.repr_of_str (fin same) h4
  | @lst a xs ts d bs hq ha hn =>
    cases ru
    obtain ⟨its, rv, ⟨o, n, ho, hc, _, hdt⟩, _⟩ := I.list (SqL.of hq)
    have hk := sh_kAll I ha (fun t ht => Nat.le_trans (listText_mem_le ht) h4) rv
    refine call_repr_slot (T := "list") (by omega) ⟨o, ho, hc⟩ PySem.F.slot_list_repr.toG ?_
    cases its with
    | nil =>
      cases hk
      rw [listText_nil] at fin
      exact call_list_repr_empty ⟨o, ho, hc⟩ ho hdt ⟨_, _, rfl, fin same⟩
    | cons y l =>
      exact call_list_reprK ho hc hdt hn (by simpa using hk.length_eq) (fun i z e => hk.item i z (by simpa using e)) (show X.A.in1.guards = some [] from hr.gd) (fun b _ => Clear.nil b) (by show X.A.units + 1 + _ < cLine; omega) same (fun h' t tk hk => ⟨_, _, rfl, fin hk⟩) h4
  | @tup a xs ts d bs hq ha hn =>
    cases ru
    obtain ⟨its, rv, ⟨o, ho, hc, n, hdt⟩, _⟩ := I.tuple (SqT.of hq)
    have hk := sh_kAll I ha (fun t ht => Nat.le_trans (tupleText_mem_le ht) h4) rv
    refine call_repr_slot (T := "tuple") (by omega) ⟨o, ho, hc⟩ PySem.F.slot_tuple_repr ?_
    exact call_tuple_reprK ho hc hdt hn hk (show X.A.in1.guards = some [] from hr.gd) (fun b _ => Clear.nil b) (by show X.A.units + 1 + _ < cLine; omega) same (fun h' t tk hk => ⟨_, _, rfl, fin hk⟩) h4
  | @dic a kvs t1 t2 d b1 b2 hq e1 e2 hn =>
    cases ru
    obtain ⟨_, hsys, vs, rel, o, esA, ep, ho, hx, hdt, _, hp, _⟩ := dk_of I.hok hq
    obtain ⟨v1, v2⟩ := pairs_vals hp rel
    have l1 := shAll_length e1
    have l2 := shAll_length e2
    obtain ⟨z1, z2⟩ := zip_sizes _ _ (by rw [l1, l2, List.length_map, List.length_map]) fun t ht => Nat.le_trans (dictText_mem_le ht) h4
    have k1 := sh_kAll I e1 z1 v1
    have k2 := sh_kAll I e2 z2 v2
    refine call_repr_slot (T := "dict") (by omega) ⟨o, ho, hx.1⟩ PySem.F.slot_dict_repr ?_
    exact call_dict_reprK ho hx.1 hdt hsys hn (ReprEntriesK.of_two esA.toList _ _ (k1.more_le (fun b m => List.mem_append_left _ m) (Nat.le_refl _)) (k2.more_le (fun b m => List.mem_append_right _ m) (Nat.le_refl _)))
      (show X.A.in1.guards = some [] from hr.gd) (fun b _ => Clear.nil b) (by show X.A.units + 1 + _ < cLine; omega) same (fun h' t tk hk => ⟨_, _, rfl, fin hk⟩) h4
  | exc h h2 c => exact absurd h (hx _ _ _ rfl)
end
/-! ## over a list or a tuple -/
def iSeq (K : PySem.W.Frag) (tl : TE) : TI := fun σ H R => iList K tl σ H R ∨ iTup K tl σ H R
theorem pi_seq {X : Cx} {tg l : Expr} {tl : TE} (hl : PE X l tl) : PI X tg l (iSeq X.K tl) := by
  refine ⟨fun pins s σ H R I h => ?_⟩
  rcases h with h | h
  · exact (pi_list hl).run pins s σ H R I h
  · exact (pi_tup hl).run pins s σ H R I h
def LcTK (K : PySem.W.Frag) (g : TG) (tt : TT) (te : TE) (vs : List Nat) (σ : L2.St) (Q : VK) : V → Hp → Prop := fun v H => tLc (iTup K (fun _ H Q' => Q' v H)) g tt te vs σ H Q
theorem q_lcSL {K : PySem.W.Frag} {tl : TE} {g : TG} {tt : TT} {te : TE} {vs : List Nat} {σ : L2.St} {H : Hp} {Q : VK} (k : tl σ H (LcLK K g tt te vs σ Q)) : tLc (iSeq K tl) g tt te vs σ H Q := .inl k
theorem q_lcST {K : PySem.W.Frag} {tl : TE} {g : TG} {tt : TT} {te : TE} {vs : List Nat} {σ : L2.St} {H : Hp} {Q : VK} (k : tl σ H (LcTK K g tt te vs σ Q)) : tLc (iSeq K tl) g tt te vs σ H Q := .inr k
theorem q_tupE {K : PySem.W.Frag} {j : Nat} {te : TE} {vs : List Nat} {σ : L2.St} {H : Hp} {Q : VK} {a : Addr} {xs : List V} (R : Addr → V → V → Hp → Prop) (hR : ∀ D x y H H', Fb D H H' → R D x y H → R D x y H') (hx : SqT K H a xs) (hz : xs.length ≤ 1000)
    (hw : ∀ x, wipe ((wipe σ vs).set j (some x)) vs = wipe σ vs)
    (he : ∀ (x : V) (D : Addr) (zs : List V) (H1 : Hp), x ∈ xs → Ex H H1 → H1 D = some (.lst zs) → ∀ Q' : VK, (∀ y H2, R D x y H2 → Ex H1 H2 → Q' y H2) → te ((wipe σ vs).set j (some x)) H1 Q')
    (k : ∀ p H' ys, H p = none → H' p = some (.lst ys) → Gave (fun x y => R p x y H') xs ys → Ex H H' → Q (.ref p) H') : LcTK K (gName j) tYes te vs σ Q (.ref a) H := by
  refine ⟨a, rfl, ⟨xs, hx⟩, fun D hD => lc_tup (xs := xs) (fun i H' => Ex H H' ∧ ∃ ys, H' D = some (.lst ys) ∧ Gave (fun x y => R D x y H') (xs.take i) ys) ⟨Ex.new hD, [], upd_same, .nil⟩ (fun i H' _ p => p.1.st hx) ?_ ?_⟩
  · rintro i x H' hi ⟨e, ys, hd, G⟩
    refine ⟨hw x, q_yes (iteT ?_)⟩
    refine he x D ys H' (List.mem_of_getElem? hi) e hd _ fun y H2 r e2 => ⟨ys, e2 _ _ hd, ?_, ?_, ys ++ [y], upd_same, ?_⟩
    · have h1 := G.length
      have h2 := List.length_take_le' i xs
      exact small1000 (by omega)
    · exact Evl.Ex.mut (e.tr e2) hD
    · rw [List.take_add_one, hi]
      exact Gave.snoc (hR D x y _ _ Fb.put r) (G.mono fun x' y' r' => hR D x' y' _ _ ((Fb.ex e2).tr Fb.put) r')
  · rintro H' ⟨e, ys, hd, G⟩
    rw [List.take_length] at G
    exact k D H' ys hD hd G e
def rTupOf (K : PySem.W.Frag) : List V → Hp → VK → Prop := fun xs H Q => ∃ p ys, xs = [.ref p] ∧ ((SqL K H p ys ∧ ∀ l, H l = none → Q (.ref l) (upd H l (.tup ys))) ∨ (SqT K H p ys ∧ Q (.ref p) H))
theorem call_tupleB {X : Cx} (K : PySem.W.Frag) (h : X.K = K) : CallR X (.type "tuple") (rTupOf K) := h ▸ call_tuple_of
theorem q_tupOf {K : PySem.W.Frag} {H : Hp} {Q : VK} {p : Addr} {ys : List V} (h : SqL K H p ys) (k : ∀ l H', H l = none → H' l = some (.tup ys) → Ex H H' → Q (.ref l) H') : rTupOf K [.ref p] H Q :=
  ⟨p, ys, rfl, .inl ⟨h, fun l hl => k l _ hl upd_same (Ex.new hl)⟩⟩
theorem kit2 {K : PySem.W.Frag} {t : Value} {a b : Bool} (h1 : PySem.W.kitOne K t (.type "list") = some a) (h2 : PySem.W.kitOne K t (.type "tuple") = some b) : PySem.W.kitAny K t [.type "list", .type "tuple"] = some (a || b) := by
  unfold PySem.W.kitAny
  rw [h1]
  cases a with
  | true => rfl
  | false =>
    unfold PySem.W.kitAny
    rw [show PySem.W.kitOne K t (Value.type "tuple") = some b from h2]
    cases b <;> rfl
/-- neither a list nor a tuple -/
inductive NonSeq (H : Hp) : V → Prop
  | non : NonSeq H .non
  | bl (b : Bool) : NonSeq H (.bl b)
  | int (i : Int) : NonSeq H (.int i)
  | str (s : Str) : NonSeq H (.str s)
  | dK {p : Addr} {kvs : List (Key × V)} (h : H p = some (.dK kvs)) : NonSeq H (.ref p)
theorem NonSeq.ex {H H' : Hp} {v : V} (n : NonSeq H v) (e : Ex H H') : NonSeq H' v := by
  cases n with
  | non => exact .non
  | bl b => exact .bl b
  | int i => exact .int i
  | str s => exact .str s
  | dK h => exact .dK (e _ _ h)
theorem q_isiT2 {K : PySem.W.Frag} {H : Hp} {Q : VK} {p tp : Addr} {xs : List V} (h : H p = some (.lst xs) ∨ H p = some (.tup xs)) (ht : H tp = some (.tup [.ty "list", .ty "tuple"])) (k : Q (.bl true) H) : rIsiT K [.ref p, .ref tp] H Q := by
  rcases h with h | h
  · exact ⟨_, tp, _, .type "list", [.type "list", .type "tuple"], true, rfl, ht, .cons (.ty _) (.cons (.ty _) .nil), .base (.lst h), kit2 (kit_ty kit_list_list) (kit_ty kit_list_tuple), k⟩
  · exact ⟨_, tp, _, .type "tuple", [.type "list", .type "tuple"], true, rfl, ht, .cons (.ty _) (.cons (.ty _) .nil), .base (.tup h), kit2 (kit_ty kit_tuple_list) (kit_ty kit_tuple_tuple), k⟩
theorem q_isiT0 {K : PySem.W.Frag} {H : Hp} {Q : VK} {v : V} {tp : Addr} (h : NonSeq H v) (ht : H tp = some (.tup [.ty "list", .ty "tuple"])) (k : Q (.bl false) H) : rIsiT K [v, .ref tp] H Q := by
  cases h with
  | non => exact ⟨_, tp, _, .type "NoneType", [.type "list", .type "tuple"], false, rfl, ht, .cons (.ty _) (.cons (.ty _) .nil), .base .non, kit2 (kit_ty kit_NoneType_list) (kit_ty kit_NoneType_tuple), k⟩
  | bl b => exact ⟨_, tp, _, .type "bool", [.type "list", .type "tuple"], false, rfl, ht, .cons (.ty _) (.cons (.ty _) .nil), .base (.bl b), kit2 (kit_ty kit_bool_list) (kit_ty kit_bool_tuple), k⟩
  | int i => exact ⟨_, tp, _, .type "int", [.type "list", .type "tuple"], false, rfl, ht, .cons (.ty _) (.cons (.ty _) .nil), .base (.int i), kit2 (kit_ty kit_int_list) (kit_ty kit_int_tuple), k⟩
  | str s => exact ⟨_, tp, _, .type "str", [.type "list", .type "tuple"], false, rfl, ht, .cons (.ty _) (.cons (.ty _) .nil), .base (.str s), kit2 (kit_ty kit_str_list) (kit_ty kit_str_tuple), k⟩
  | dK h => exact ⟨_, tp, _, .type "dict", [.type "list", .type "tuple"], false, rfl, ht, .cons (.ty _) (.cons (.ty _) .nil), .base (.dK h), kit2 (kit_ty kit_dict_list) (kit_ty kit_dict_tuple), k⟩
/-! ## words of a mark, by the law's own look -/
def rLeS : R2 := fun x y H Q => ∃ i j, x = .str i ∧ y = .str j ∧ Q (.bl (!decide (j.cps.toList < i.cps.toList))) H
theorem op_leS {X : Cx} : OpR X (compareOp .LtE) rLeS := op_le_str
def isLow (c : Nat) : Bool := decide (97 ≤ c) && decide (c ≤ 122)
theorem one_lt (c d : Nat) : decide ([c] < [d]) = decide (c < d) := by
  apply decide_eq_decide.mpr
  constructor
  · intro h
    cases h with
    | rel h => exact h
    | cons h => cases h
  · exact fun h => List.Lex.rel h
theorem low_mem (c : Nat) : decide (c ∈ SMALL.cps.toList) = isLow c := by
  have e : SMALL.cps.toList = [97, 98, 99, 100, 101, 102, 103, 104, 105, 106, 107, 108, 109, 110, 111, 112, 113, 114, 115, 116, 117, 118, 119, 120, 121, 122] := by decide +kernel
  rw [e]
  unfold isLow
  rw [← Bool.decide_and]
  apply decide_eq_decide.mpr
  simp only [List.mem_cons, List.not_mem_nil, or_false]
  omega
theorem only_low (s : Str) : only s SMALL = s.cps.toList.all isLow := by
  unfold only
  congr 1
  funext c
  exact low_mem c
def numB (w : Str) : Bool := plainL w.cps.toList && decide ((w.length : Int) ≤ 6)
def lowB (w : Str) : Bool := decide (1 ≤ (w.length : Int)) && decide ((w.length : Int) ≤ 6) && w.cps.toList.all isLow
theorem plain_back {l : List Nat} (h : plainL l = true) : Nat.toDigits 10 (val l) = l.map Char.ofNat := by
  have hd : l.all isFig = true := by
    simp only [plainL, Bool.and_eq_true] at h
    exact h.1.2
  have hdig : PySem.NumText.AllDigits l := fun c hc => by
    have := List.all_eq_true.mp hd c hc
    simpa [isFig] using this
  have hne : l ≠ [] := by
    intro e
    rw [e] at h
    cases h
  refine PySem.NumText.toDigits_digitsVal (l.length - 1) l ?_ hdig ?_
  · have : l.length ≠ 0 := fun h => hne (List.eq_nil_of_length_eq_zero h)
    omega
  · cases e : l with
    | nil => exact absurd e hne
    | cons c r =>
      rw [e] at h
      simp only [plainL, Bool.and_eq_true, Bool.or_eq_true, decide_eq_true_eq, Bool.not_eq_true', decide_eq_false_iff_not] at h
      rcases h.2 with z | z
      · left; rw [z]; rfl
      · right
        refine ⟨c, r, rfl, ?_⟩
        have := hdig c (by rw [e]; exact List.mem_cons_self)
        have : c ≠ 48 := fun h => z (by rw [h]; rfl)
        omega
theorem num_part {w : Str} (h : numB w = true) : partV w = .int (val w.cps.toList : Int) ∧ isPartB (partV w) = true ∧ val w.cps.toList < 1000000 := by
  simp only [numB, Bool.and_eq_true, decide_eq_true_eq] at h
  obtain ⟨hp, hl⟩ := h
  have hd : w.cps.toList.all isFig = true := by
    have := hp
    simp only [plainL, Bool.and_eq_true] at this
    exact this.1.2
  have hlen : w.cps.toList.length ≤ 6 := by rw [← TL.len_tl]; omega
  have hv : val w.cps.toList < 1000000 := Nat.lt_of_lt_of_le (val_lt _ hd) (by
    have := Nat.pow_le_pow_right (n := 10) (by decide) hlen
    simpa using this)
  have e : partV w = .int (val w.cps.toList : Int) := by
    have hr : readV (.str w) 0 999999 = .int (val w.cps.toList : Int) := if_pos ⟨hp, by omega, by omega⟩
    unfold partV
    rw [hr]
  refine ⟨e, ?_, hv⟩
  rw [e]
  have h1 : whole (.int (val w.cps.toList : Int)) 0 999999 = true := by simp [whole]; omega
  unfold isPartB
  rw [h1]; rfl
theorem not_num {w : Str} (h : numB w = false) : partV w = .str w := by
  have hr : readV (.str w) 0 999999 = .non := by
    refine if_neg fun z => ?_
    obtain ⟨hp, _, hv⟩ := z
    have hv' : val w.cps.toList < 10 ^ 6 := by omega
    have hl := PySem.toDigits_len_pow (b := 10) (by decide) (show 1 ≤ 6 by decide) hv'
    rw [plain_back hp, List.length_map] at hl
    have : numB w = true := by
      simp only [numB, hp, Bool.true_and, decide_eq_true_eq]
      rw [TL.len_tl]
      show ((w.cps.toList.length : Nat) : Int) ≤ 6
      omega
    rw [h] at this
    cases this
  unfold partV
  rw [hr]
theorem str_part (w : Str) : isPartB (.str w) = lowB w := by
  show (false || lettersOf (.str w) 6 SMALL) = lowB w
  rw [Bool.false_or]
  show (decide (1 ≤ (w.length : Int)) && decide ((w.length : Int) ≤ 6) && only w SMALL) = lowB w
  rw [only_low]
  rfl
def rUpper : V → List V → Hp → VK → Prop := fun x xs H Q => ∃ a, x = .str a ∧ xs = [] ∧ a.length ≤ 5592405 ∧ Q (.str (Txt.upper a)) H
theorem pe_upperA {X : Cx} {o : Expr} {to : TE} {apos pos : Pos} (ho : PE X o to) (hbase : attributeBase o "upper" X.env (eval o X.env) = eval o X.env := by rfl) (hline : (apos.endLine == pos.line) = true := by rfl) :
    PE X (.Call (.Attribute o "upper" apos) [] [] pos) (tM0 rUpper to) := pe_upper ho hbase hline
theorem Tn.upper {n : Nat} {s : Str} (h : Tn n s) : Tn n (Txt.upper s) := by
  rw [PyProof.Rows.upper_ascii h.2]
  refine ⟨?_, fun c hc => ?_⟩
  · have e : (⟨s.cps.map PyProof.Rows.up1⟩ : Str).length = s.length := Array.size_map ..
    rw [e]; exact h.1
  · have hc' : c ∈ (s.cps.map PyProof.Rows.up1).toList := hc
    rw [Array.toList_map] at hc'
    obtain ⟨d, hd, rfl⟩ := List.mem_map.mp hc'
    exact (show ∀ d, d < 128 → PyProof.Rows.up1 d < 128 by decide +kernel) d (h.2 d hd)
theorem q_upper {H : Hp} {Q : VK} {n : Nat} {s : Str} (h : Tn n s) (hn : Nat.ble n 1000 = true) (k : Tn n (Txt.upper s) → Q (.str (Txt.upper s)) H) : rUpper (.str s) [] H Q := by
  have h1 : n ≤ 1000 := Nat.le_of_ble_eq_true hn
  have h2 := h.1
  exact ⟨s, rfl, rfl, by omega, k h.upper⟩
/-! ## what is shown stands somewhere -/
mutual
theorem sh_occ {K : PySem.W.Frag} {H : Hp} : ∀ {v : V} {t : Str} {d : Nat} {bs : List Addr}, Sh K H v t d bs → ∀ b ∈ bs, H b ≠ none
  | _, _, _, _, .non => fun b hb => by cases hb
  | _, _, _, _, .bl b => fun b hb => by cases hb
  | _, _, _, _, .int i h => fun b hb => by cases hb
  | _, _, _, _, .str x => fun b hb => by cases hb
  | _, _, _, _, .lst h a n => fun b hb => by
    rcases List.mem_cons.mp hb with e | e
    · rw [e, h]; exact fun z => by cases z
    · exact shAll_occ a b e
  | _, _, _, _, .tup h a n => fun b hb => by
    rcases List.mem_cons.mp hb with e | e
    · rw [e, h]; exact fun z => by cases z
    · exact shAll_occ a b e
  | _, _, _, _, .dic h a a2 n => fun b hb => by
    rcases List.mem_cons.mp hb with e | e
    · rw [e, h]; exact fun z => by cases z
    · rcases List.mem_append.mp e with e | e
      · exact shAll_occ a b e
      · exact shAll_occ a2 b e
  | _, _, _, _, .exc h h2 r => fun b hb => by cases hb
theorem shAll_occ {K : PySem.W.Frag} {H : Hp} : ∀ {vs : List V} {ts : List Str} {d : Nat} {bs : List Addr}, ShAll K H vs ts d bs → ∀ b ∈ bs, H b ≠ none
  | _, _, _, _, .nil => fun b hb => by cases hb
  | _, _, _, _, .cons x y => fun b hb => by
    rcases List.mem_append.mp hb with e | e
    · exact sh_occ x b e
    · exact shAll_occ y b e
end
theorem sh_new {K : PySem.W.Frag} {H H' : Hp} {v : V} {t : Str} {d : Nat} {bs : List Addr} {p : Addr} {w : Str} (e : Ex H H') (hp : H p = none) (h : H' p = some (.lst [.str w, v])) (s : Sh K H v t d bs) :
    Sh K H' (.ref p) (listText [reprText w, t]) (max 0 (max d 0) + 1) (p :: ([] ++ (bs ++ []))) :=
  .lst h (.cons (.str w) (.cons (s.ex e) .nil)) (by
    simp only [List.nil_append, List.append_nil]
    exact fun m => sh_occ s p m hp)
theorem list2_len {a b : Str} {m n : Nat} (h : a.length ≤ m) (h2 : b.length ≤ n) (hz : m + n + 7 ≤ 1000000) : (listText [a, b]).length ≤ sizeLine := by
  have h1 := PySem.listText_len_le [a, b]
  simp only [List.map_cons, List.map_nil, List.sum_cons, List.sum_nil, List.length_cons, List.length_nil] at h1
  rw [sizeLine_eq]
  omega
theorem q_reprX {K : PySem.W.Frag} {H : Hp} {Q : VK} {x : V} {t : Str} {d : Nat} {bs : List Addr} (h : Sh K H x t d bs) (hx : ∀ a C u, x = .ref a → H a ≠ some (exoM a C u)) (hd : d ≤ 40) (hz : t.length ≤ sizeLine) (k : Q (.str t) H) : rReprX K [x] H Q := ⟨x, t, d, bs, rfl, h, hx, hd, hz, k⟩
theorem no_exc_lst {H : Hp} {p : Addr} {xs : List V} (h : H p = some (.lst xs)) : ∀ a C u, V.ref p = .ref a → H a ≠ some (exoM a C u) := fun a C u e z => by
  rw [← V.ref.inj e, h] at z
  cases z
theorem q_reprXb {K : PySem.W.Frag} {H : Hp} {Q : VK} {b : Bool} (k : Q (.str (if b then "True" else "False")) H) : rReprX K [.bl b] H Q :=
  q_reprX (.bl b) (fun _ _ _ z => by cases z) (by decide) (by cases b <;> decide +kernel) k
def showV : V → Str
  | .int i => Str.ofString (toString i)
  | .str s => reprText s
  | _ => ""
theorem sh_parts {K : PySem.W.Frag} {H : Hp} : ∀ {xs : List V}, (∀ v ∈ xs, (∃ i : Int, v = .int i ∧ 0 ≤ i ∧ i ≤ 999999) ∨ ∃ s, v = .str s ∧ Tn 900 s) → ShAll K H xs (xs.map showV) 0 [] ∧ ((xs.map showV).map (·.length)).sum ≤ 9002 * xs.length
  | [], _ => ⟨.nil, Nat.le_refl _⟩
  | x :: xs, h => by
    obtain ⟨a, b⟩ := sh_parts fun v hv => h v (List.mem_cons_of_mem _ hv)
    rcases h x List.mem_cons_self with ⟨i, rfl, h0, h1⟩ | ⟨s, rfl, hs⟩
    · obtain ⟨n, rfl⟩ := Int.eq_ofNat_of_zero_le h0
      have hl : (Str.ofString (toString ((n : Nat) : Int))).length ≤ 6 := (num_Tn (n := n) (k := 6) (by decide) (by omega)).1
      refine ⟨.cons (.int _ (log_small h0 (by omega))) a, ?_⟩
      rw [List.map_cons, List.map_cons, List.sum_cons, List.length_cons]
      show (Str.ofString (toString ((n : Nat) : Int))).length + _ ≤ _
      omega
    · have hl := repr_Tn hs
      refine ⟨.cons (.str s) a, ?_⟩
      rw [List.map_cons, List.map_cons, List.sum_cons, List.length_cons]
      show (reprText s).length + _ ≤ _
      omega
theorem mark_parts_show {s : Str} (hz : Tn 900 s) (hm : isMarkB (.str s) = true) : (∀ v ∈ partsOf s, (∃ i : Int, v = .int i ∧ 0 ≤ i ∧ i ≤ 999999) ∨ ∃ s, v = .str s ∧ Tn 900 s) ∧ (partsOf s).length ≤ 4 := by
  have hm' : arePartsB (partsOf s) = true := hm
  simp only [arePartsB, Bool.and_eq_true, decide_eq_true_eq] at hm'
  obtain ⟨⟨_, h4⟩, hall⟩ := hm'
  refine ⟨fun v hv => ?_, by omega⟩
  have hp := List.all_eq_true.mp hall v hv
  obtain ⟨w, hw, rfl⟩ := List.mem_map.mp hv
  have tw : Tn 900 w := hz.split hw
  cases hn : numB w with
  | true =>
    obtain ⟨q1, _, q3⟩ := num_part hn
    rw [q1]
    exact .inl ⟨_, rfl, by omega, by omega⟩
  | false =>
    rw [not_num hn]
    exact .inr ⟨w, rfl, tw⟩
/-- ['told', the parts] -/
theorem sh_told {K : PySem.W.Frag} {H : Hp} {p q : Addr} {s : Str} (hz : Tn 900 s) (hm : isMarkB (.str s) = true) (hpq : p ≠ q) (h : H p = some (.lst [.str "told", .ref q])) (h2 : H q = some (.lst (partsOf s))) :
    (∃ d bs, Sh K H (.ref p) (listText [reprText "told", listText ((partsOf s).map showV)]) d bs ∧ d ≤ 40) ∧ (listText [reprText "told", listText ((partsOf s).map showV)]).length ≤ sizeLine := by
  obtain ⟨a, b⟩ := mark_parts_show hz hm
  obtain ⟨c, e⟩ := sh_parts (K := K) (H := H) a
  refine ⟨⟨_, _, .lst h (.cons (.str "told") (.cons (.lst h2 c (by simp)) .nil)) (by simpa using hpq), by simp⟩, ?_⟩
  have l1 := PySem.listText_len_le ((partsOf s).map showV)
  rw [List.length_map] at l1
  refine list2_len (m := 50) (n := 40000) ?_ (by omega) (by decide)
  decide +kernel
theorem q_clear {H : Hp} {Q : VK} {l : Addr} {xs : List V} (h : H l = some (.lst xs)) (k : ∀ H', Fb l H H' → H' l = some (.lst []) → Q .non H') : rClear (.ref l) [] H Q := ⟨l, xs, rfl, rfl, h, k _ Fb.put upd_same⟩
/-! ## things that are refused whole: some may grow -/
inductive Other (K : PySem.W.Frag) (H : Hp) : V → Prop
  | non : Other K H .non
  | bl : Other K H (.bl true)
  | int : Other K H (.int 7)
  | str (s : Str) (h : Tn 100 s) : Other K H (.str s)
  | lst (p : Addr) (xs : List V) (ts : List Str) (d : Nat) (bs : List Addr) (h : H p = some (.lst xs)) (hn : arePartsB xs = false) (hz : xs.length ≤ 100) (ht : ∀ v ∈ xs, Thing K H v) (hs : ShAll K H xs ts d bs) (hp : p ∉ bs) (hd : d ≤ 10) (hl : (ts.map (·.length)).sum ≤ 90000) : Other K H (.ref p)
  | tup (p : Addr) (xs : List V) (ts : List Str) (d : Nat) (bs : List Addr) (h : H p = some (.tup xs)) (hn : arePartsB xs = false) (hz : xs.length ≤ 100) (ht : ∀ v ∈ xs, Thing K H v) (hs : ShAll K H xs ts d bs) (hp : p ∉ bs) (hd : d ≤ 10) (hl : (ts.map (·.length)).sum ≤ 90000) : Other K H (.ref p)
  | dic (p : Addr) (s : Str) (h : H p = some (.dK [(Sum.inr s, .int 1)])) (hs : Tn 10 s) (hn : s ≠ "more") : Other K H (.ref p)
theorem q_dput {td ty tv : TE} {D : Ends} {σ : L2.St} {H : Hp} (k : tv σ H fun v H1 => td σ H1 fun x H2 => ty σ H2 fun y H3 => ∃ a H4, x = .ref a ∧ DPut H3 a y v H4 ∧ D.nx σ H4) : sDPut td ty tv D σ H := k
theorem q_isiDic1 {K : PySem.W.Frag} {H : Hp} {Q : VK} {p : Addr} {xs : List (Key × V)} (h : H p = some (.dK xs)) (k : Q (.bl true) H) : rIsiX K [.ref p, .ty "dict"] H Q := .inl ⟨_, _, .type "dict", .type "dict", _, rfl, .ty _, .base (.dK h), kit_ty (show kitB "dict" "dict" = some true by decide +kernel), k⟩
theorem q_isiDic0 {K : PySem.W.Frag} {H : Hp} {Q : VK} {v : V} (h : Thing K H v) (hn : ∀ p xs, v = .ref p → H p ≠ some (.dK xs)) (k : Q (.bl false) H) : rIsiX K [v, .ty "dict"] H Q := by
  cases h with
  | non => exact .inl ⟨_, _, .type "NoneType", .type "dict", _, rfl, .ty _, .base .non, kit_ty (show kitB "NoneType" "dict" = some false by decide +kernel), k⟩
  | bl b => exact .inl ⟨_, _, .type "bool", .type "dict", _, rfl, .ty _, .base (.bl b), kit_ty (show kitB "bool" "dict" = some false by decide +kernel), k⟩
  | int i => exact .inl ⟨_, _, .type "int", .type "dict", _, rfl, .ty _, .base (.int i), kit_ty (show kitB "int" "dict" = some false by decide +kernel), k⟩
  | str s h => exact .inl ⟨_, _, .type "str", .type "dict", _, rfl, .ty _, .base (.str s), kit_ty (show kitB "str" "dict" = some false by decide +kernel), k⟩
  | lst p xs h => exact .inl ⟨_, _, .type "list", .type "dict", _, rfl, .ty _, .base (.lst h), kit_ty (show kitB "list" "dict" = some false by decide +kernel), k⟩
  | tup p xs h => exact .inl ⟨_, _, .type "tuple", .type "dict", _, rfl, .ty _, .base (.tup h), kit_ty (show kitB "tuple" "dict" = some false by decide +kernel), k⟩
  | dK p xs h => exact absurd h (hn p xs rfl)
  | exc p C t m h h2 f => exact .inr ⟨p, C, t, _, _, false, rfl, h, f.isc, (fun u r => r), f.nDic, k⟩
mutual
theorem sh_fb {K : PySem.W.Frag} {H H' : Hp} {p : Addr} {ys : List V} (f : Fb p H H') (hp : H p = some (.lst ys)) : ∀ {v : V} {t : Str} {d : Nat} {bs : List Addr}, Sh K H v t d bs → p ∉ bs → Sh K H' v t d bs
  | _, _, _, _, .non, _ => .non
  | _, _, _, _, .bl b, _ => .bl b
  | _, _, _, _, .int i h, _ => .int i h
  | _, _, _, _, .str x, _ => .str x
  | _, _, _, _, .lst h a n, m => .lst (f _ _ h fun e => m (by rw [e]; exact List.mem_cons_self)) (shAll_fb f hp a fun z => m (List.mem_cons_of_mem _ z)) n
  | _, _, _, _, .tup h a n, m => .tup (f _ _ h fun e => m (by rw [e]; exact List.mem_cons_self)) (shAll_fb f hp a fun z => m (List.mem_cons_of_mem _ z)) n
  | _, _, _, _, .dic h a b n, m => .dic (f _ _ h fun e => m (by rw [e]; exact List.mem_cons_self)) (shAll_fb f hp a fun z => m (List.mem_cons_of_mem _ (List.mem_append_left _ z))) (shAll_fb f hp b fun z => m (List.mem_cons_of_mem _ (List.mem_append_right _ z))) n
  | _, _, _, _, .exc h h2 r, _ => .exc (f _ _ h fun e => by rw [e, hp] at h; cases h) (f _ _ h2 fun e => by rw [e, hp] at h2; cases h2) r
theorem shAll_fb {K : PySem.W.Frag} {H H' : Hp} {p : Addr} {ys : List V} (f : Fb p H H') (hp : H p = some (.lst ys)) : ∀ {vs : List V} {ts : List Str} {d : Nat} {bs : List Addr}, ShAll K H vs ts d bs → p ∉ bs → ShAll K H' vs ts d bs
  | _, _, _, _, .nil, _ => .nil
  | _, _, _, _, .cons a b, m => .cons (sh_fb f hp a fun z => m (List.mem_append_left _ z)) (shAll_fb f hp b fun z => m (List.mem_append_right _ z))
end
theorem shAll_snoc {K : PySem.W.Frag} {H : Hp} (w : Str) : ∀ {vs : List V} {ts : List Str} {d : Nat} {bs : List Addr}, ShAll K H vs ts d bs → ShAll K H (vs ++ [.str w]) (ts ++ [reprText w]) d bs
  | _, _, _, _, .nil => .cons (.str w) .nil
  | _, _, _, _, .cons a b => .cons a (shAll_snoc w b)
/-- the thing's text -/
structure Text (K : PySem.W.Frag) (H : Hp) (v : V) (t : Str) (d : Nat) (bs : List Addr) : Prop where
  sh : Sh K H v t d bs
  dp : d ≤ 15
  sz : t.length ≤ 100000
  no : ∀ a C u, v = .ref a → H a ≠ some (exoM a C u)
theorem other_text {K : PySem.W.Frag} {H : Hp} {v : V} (o : Other K H v) : ∃ t d bs, Text K H v t d bs := by
  cases o with
  | non => exact ⟨_, _, _, .non, by decide, by decide +kernel, fun _ _ _ z => by cases z⟩
  | bl => exact ⟨_, _, _, .bl true, by decide, by decide +kernel, fun _ _ _ z => by cases z⟩
  | int => exact ⟨_, _, _, .int 7 (by decide +kernel), by decide, by decide +kernel, fun _ _ _ z => by cases z⟩
  | str s h => exact ⟨_, _, _, .str s, by decide, by have := repr_Tn h; omega, fun _ _ _ z => by cases z⟩
  | lst p xs ts d bs h hn hz ht hs hp hd hl =>
    refine ⟨_, _, _, .lst h hs hp, by omega, ?_, fun a C u e z => by rw [← V.ref.inj e, h] at z; cases z⟩
    have := PySem.listText_len_le ts
    have l := shAll_length hs
    omega
  | tup p xs ts d bs h hn hz ht hs hp hd hl =>
    refine ⟨_, _, _, .tup h hs hp, by omega, ?_, fun a C u e z => by rw [← V.ref.inj e, h] at z; cases z⟩
    have := PySem.tupleText_len_le ts
    have l := shAll_length hs
    omega
  | dic p s h hs hn =>
    refine ⟨_, _, _, .dic h (.cons (.str s) .nil) (.cons (.int 1 (by decide +kernel)) .nil) (by simp), by decide, ?_, fun a C u e z => by rw [← V.ref.inj e, h] at z; cases z⟩
    have := repr_Tn hs
    have e1 : (Str.ofString (toString (1 : Int))).length = 1 := by decide +kernel
    have e2 : ((": " : Str)).length = 2 := by decide +kernel
    show (dictText [reprText s ++ ": " ++ Str.ofString (toString (1 : Int))]).length ≤ 100000
    have e3 : ("{" : Str).length = 1 := by decide +kernel
    have e4 : ("}" : Str).length = 1 := by decide +kernel
    unfold dictText
    rw [Str.length_append, Str.length_append, e3, e4]
    show 1 + (reprText s ++ ": " ++ Str.ofString (toString (1 : Int))).length + 1 ≤ 100000
    rw [Str.length_append, Str.length_append, e1, e2]
    omega
theorem other_thing {K : PySem.W.Frag} {H : Hp} {v : V} (o : Other K H v) : Thing K H v ∧ (∀ s, v = .str s → Tn 900 s) ∧ ((∀ s, v ≠ .str s) → isMarkB v = false) := by
  cases o with
  | non => exact ⟨.non, (fun _ z => by cases z), fun _ => rfl⟩
  | bl => exact ⟨.bl _, (fun _ z => by cases z), fun _ => rfl⟩
  | int => exact ⟨.int _, (fun _ z => by cases z), fun _ => rfl⟩
  | str s h => exact ⟨.str s (h.mono (by omega)), (fun _ z => by rw [← V.str.inj z]; exact h.mono (by omega)), fun z => absurd rfl (z s)⟩
  | lst p xs ts d bs h hn hz ht hs hp hd hl => exact ⟨.lst _ _ h, (fun _ z => by cases z), fun _ => rfl⟩
  | tup p xs ts d bs h hn hz ht hs hp hd hl => exact ⟨.tup _ _ h, (fun _ z => by cases z), fun _ => rfl⟩
  | dic p s h hs hn => exact ⟨.dK _ _ h, (fun _ z => by cases z), fun _ => rfl⟩
/-- asked whether its parts make a mark -/
theorem other_asked {K : PySem.W.Frag} {H : Hp} {v : V} (o : Other K H v) : NonSeq H v ∨ ∃ a xs, v = .ref a ∧ (H a = some (.lst xs) ∨ H a = some (.tup xs)) ∧ xs.length ≤ 1000 ∧ (∀ v ∈ xs, ∀ H', Ex H H' → Thing K H' v) ∧ arePartsB xs = false := by
  cases o with
  | non => exact .inl .non
  | bl => exact .inl (.bl _)
  | int => exact .inl (.int _)
  | str s h => exact .inl (.str s)
  | lst p xs ts d bs h hn hz ht hs hp hd hl => exact .inr ⟨p, xs, rfl, .inl h, by omega, fun v hv H' e => (ht v hv).ex e, hn⟩
  | tup p xs ts d bs h hn hz ht hs hp hd hl => exact .inr ⟨p, xs, rfl, .inr h, by omega, fun v hv H' e => (ht v hv).ex e, hn⟩
  | dic p s h hs hn => exact .inl (.dK h)
theorem Text.ex {K : PySem.W.Frag} {H H' : Hp} {v : V} {t : Str} {d : Nat} {bs : List Addr} (x : Text K H v t d bs) (h : Thing K H v) (e : Ex H H') : Text K H' v t d bs := by
  refine ⟨x.sh.ex e, x.dp, x.sz, fun a C u ev z => ?_⟩
  subst ev
  cases h with
  | lst p xs h => rw [e _ _ h] at z; cases z
  | tup p xs h => rw [e _ _ h] at z; cases z
  | dK p xs h => rw [e _ _ h] at z; cases z
  | exc p C t m h h2 f => exact x.no _ _ _ rfl h
theorem other_ask1 {K : PySem.W.Frag} {H : Hp} {v : V} {R R2 : Addr → Hp → Prop} (o : Other K H v) (k : ∀ p H', H p = none → H' p = some (.lst [.str "mark", v]) → Ex H H' → R p H') :
    (NonSeq H v ∧ ∀ p H', H p = none → H' p = some (.lst [.str "mark", v]) → Ex H H' → R p H') ∨ ∃ a xs, v = .ref a ∧ (H a = some (.lst xs) ∨ H a = some (.tup xs)) ∧ xs.length ≤ 1000 ∧ (∀ v ∈ xs, ∀ H', Ex H H' → Thing K H' v) ∧
    (arePartsB xs = false → ∀ p H', H p = none → H' p = some (.lst [.str "mark", v]) → Ex H H' → R p H') ∧
    (arePartsB xs = true → xs.length ≤ 4 ∧ (∀ v ∈ xs, PartV v) ∧ ∀ p H', H p = none → H' p = some (.lst [.str "told", .str (markText xs)]) → Ex H H' → R2 p H') := by
  rcases other_asked o with hn | ⟨a, xs, e, h1, h2, h3, h4⟩
  · exact .inl ⟨hn, k⟩
  · exact .inr ⟨a, xs, e, h1, h2, h3, fun _ => k, fun z => by rw [h4] at z; cases z⟩
/-- grown: what its text is, and all else stands -/
theorem other_grow {K : PySem.W.Frag} {H H' : Hp} {p : Addr} {xs : List V} {ts : List Str} {d : Nat} {bs : List Addr} (h : H p = some (.lst xs)) (f : Fb p H H') (h' : H' p = some (.lst (xs ++ [.str "more"]))) (hs : ShAll K H xs ts d bs) (hp : p ∉ bs) (hz : xs.length ≤ 100) (hd : d ≤ 10) (hl : (ts.map (·.length)).sum ≤ 90000) :
    Text K H' (.ref p) (listText (ts ++ [reprText "more"])) (d + 1) (p :: bs) := by
  refine ⟨.lst h' (shAll_snoc "more" (shAll_fb f h hs hp)) hp, by omega, ?_, fun a C u e z => by rw [← V.ref.inj e, h'] at z; cases z⟩
  have l1 := PySem.listText_len_le (ts ++ [reprText "more"])
  have l2 : (reprText "more").length ≤ 42 := repr_Tn (n := 4) ⟨by decide +kernel, by decide +kernel⟩
  have l := shAll_length hs
  rw [List.map_append, List.sum_append, List.length_append] at l1
  simp only [List.map_cons, List.map_nil, List.sum_cons, List.sum_nil, List.length_cons, List.length_nil] at l1
  omega
theorem other_growD {K : PySem.W.Frag} {H' : Hp} {p : Addr} {s : Str} (h' : H' p = some (.dK [(Sum.inr s, .int 1), (Sum.inr "more", .int 2)])) (hs : Tn 10 s) :
    ∃ t d, Text K H' (.ref p) t d [p] := by
  refine ⟨_, _, .dic h' (.cons (.str s) (.cons (.str "more") .nil)) (.cons (.int 1 (by decide +kernel)) (.cons (.int 2 (by decide +kernel)) .nil)) (by simp), by decide, ?_, fun a C u e z => by rw [← V.ref.inj e, h'] at z; cases z⟩
  have l2 : (reprText "more").length ≤ 42 := repr_Tn (n := 4) ⟨by decide +kernel, by decide +kernel⟩
  have := repr_Tn hs
  have e1 : (Str.ofString (toString (1 : Int))).length = 1 := by decide +kernel
  have e5 : (Str.ofString (toString (2 : Int))).length = 1 := by decide +kernel
  have e2 : ((": " : Str)).length = 2 := by decide +kernel
  have e6 : ((", " : Str)).length = 2 := by decide +kernel
  show (dictText [reprText s ++ ": " ++ Str.ofString (toString (1 : Int)), reprText "more" ++ ": " ++ Str.ofString (toString (2 : Int))]).length ≤ 100000
  have e3 : ("{" : Str).length = 1 := by decide +kernel
  have e4 : ("}" : Str).length = 1 := by decide +kernel
  unfold dictText
  rw [Str.length_append, Str.length_append, e3, e4]
  show 1 + (reprText s ++ ": " ++ Str.ofString (toString (1 : Int)) ++ ", " ++ (reprText "more" ++ ": " ++ Str.ofString (toString (2 : Int)))).length + 1 ≤ 100000
  simp only [Str.length_append, e1, e2, e5, e6]
  omega
/-- [['mark', thing]] and [['mark', thing]] * 2, as texts -/
def rowT (n : Nat) (t : Str) : Str := listText (List.replicate n (listText [reprText "mark", t]))
theorem sh_row {K : PySem.W.Frag} {H : Hp} {v : V} {t : Str} {d : Nat} {bs : List Addr} {r : Addr} {rs : List Addr} (x : Text K H v t d bs) (h : H r = some (.lst (rs.map V.ref))) (hrs : ∀ q ∈ rs, H q = some (.lst [.str "mark", v]) ∧ q ∉ bs ∧ q ≠ r) (hr : r ∉ bs) (hn : rs.length ≤ 2) :
    (∃ d bs, Sh K H (.ref r) (rowT rs.length t) d bs ∧ d ≤ 40) ∧ (rowT rs.length t).length ≤ sizeLine := by
  have all : ∀ rs : List Addr, (∀ q ∈ rs, H q = some (.lst [.str "mark", v]) ∧ q ∉ bs ∧ q ≠ r) → ∃ d' bs', ShAll K H (rs.map V.ref) (List.replicate rs.length (listText [reprText "mark", t])) d' bs' ∧ d' ≤ 20 ∧ r ∉ bs' := by
    intro rs
    induction rs with
    | nil => intro _; exact ⟨0, [], .nil, by decide, by simp⟩
    | cons q rs ih =>
      intro hq
      obtain ⟨d', bs', a, b, c⟩ := ih fun z hz => hq z (List.mem_cons_of_mem _ hz)
      obtain ⟨h1, h2, h3⟩ := hq q List.mem_cons_self
      refine ⟨_, _, .cons (.lst h1 (.cons (.str "mark") (.cons x.sh .nil)) (by simpa using h2)) a, ?_, ?_⟩
      · have := x.dp
        omega
      · simp only [List.nil_append, List.append_nil, List.mem_append, List.mem_cons, not_or]
        exact ⟨⟨fun z => h3 z.symm, hr⟩, c⟩
  obtain ⟨d', bs', a, b, c⟩ := all rs hrs
  refine ⟨⟨_, _, .lst h a c, by omega⟩, ?_⟩
  have l1 := PySem.listText_len_le (List.replicate rs.length (listText [reprText "mark", t]))
  rw [List.map_replicate, List.sum_replicate_nat, List.length_replicate] at l1
  have l2 := PySem.listText_len_le [reprText "mark", t]
  have l3 : (reprText "mark").length ≤ 42 := repr_Tn (n := 4) ⟨by decide +kernel, by decide +kernel⟩
  have l4 := x.sz
  simp only [List.map_cons, List.map_nil, List.sum_cons, List.sum_nil, List.length_cons, List.length_nil] at l2
  have l5 : rs.length * (listText [reprText "mark", t]).length ≤ 2 * 110000 := Nat.mul_le_mul hn (by omega)
  unfold rowT
  rw [sizeLine_eq]
  omega
theorem shAll_ex0 {K : PySem.W.Frag} {H H' : Hp} (e : Ex H H') {vs : List V} {ts : List Str} {d : Nat} {bs : List Addr} (h : ShAll K H vs ts d bs) : ShAll K H' vs ts d bs := ShAll.ex e h
theorem shAll_app {K : PySem.W.Frag} {H : Hp} : ∀ {xs ys : List V} {t1 t2 : List Str} {d1 d2 : Nat} {b1 b2 : List Addr}, ShAll K H xs t1 d1 b1 → ShAll K H ys t2 d2 b2 → ∃ d, ShAll K H (xs ++ ys) (t1 ++ t2) d (b1 ++ b2) ∧ d ≤ max d1 d2
  | _, _, _, _, _, _, _, _, .nil, h => ⟨_, h, Nat.le_max_right _ _⟩
  | _, _, _, _, _, _, _, _, .cons a b, h => by
    obtain ⟨d, e, l⟩ := shAll_app b h
    refine ⟨_, by rw [List.append_assoc]; exact .cons a e, by omega⟩
theorem part_show {v : V} (h : PartV v) : (∃ i : Int, v = .int i ∧ 0 ≤ i ∧ i ≤ 999999) ∨ ∃ s, v = .str s ∧ Tn 900 s := by
  cases h with
  | int n h => exact .inl ⟨_, rfl, by omega, by omega⟩
  | str s h1 h2 h3 => exact .inr ⟨s, rfl, by omega, fun c hc => by have := h3 c hc; omega⟩
theorem part_thing {K : PySem.W.Frag} {H : Hp} {v : V} (h : PartV v) : Thing K H v := by
  rcases h.kind with ⟨i, rfl⟩ | ⟨s, rfl, hs⟩
  · exact .int i
  · exact .str s hs
/-- what is put among parts -/
structure OddP (K : PySem.W.Frag) (H : Hp) (v : V) (bs : List Addr) : Prop where
  no : isPartB v = false
  th : Thing K H v
  sh : ∃ t d, Sh K H v t d bs ∧ d ≤ 2 ∧ t.length ≤ 5000
theorem OddP.ex {K : PySem.W.Frag} {H H' : Hp} {v : V} {bs : List Addr} (o : OddP K H v bs) (e : Ex H H') : OddP K H' v bs :=
  ⟨o.no, o.th.ex e, let ⟨t, d, a, b⟩ := o.sh; ⟨t, d, a.ex e, b⟩⟩
theorem odd_list {K : PySem.W.Frag} {H : Hp} {xs ys : List V} {v : V} {bs : List Addr} (hx : ∀ v ∈ xs, PartV v) (hy : ∀ v ∈ ys, PartV v) (lx : xs.length ≤ 4) (ly : ys.length ≤ 4) (o : OddP K H v bs) :
    arePartsB (xs ++ [v] ++ ys) = false ∧ (∀ u ∈ xs ++ [v] ++ ys, Thing K H u) ∧ (xs ++ [v] ++ ys).length ≤ 100 ∧ ∃ ts d, ShAll K H (xs ++ [v] ++ ys) ts d bs ∧ d ≤ 10 ∧ (ts.map (·.length)).sum ≤ 90000 := by
  obtain ⟨t, d, sh, hd, ht⟩ := o.sh
  obtain ⟨a1, a2⟩ := sh_parts (K := K) (H := H) fun v hv => part_show (hx v hv)
  obtain ⟨b1, b2⟩ := sh_parts (K := K) (H := H) fun v hv => part_show (hy v hv)
  obtain ⟨d1, c1, l1⟩ := shAll_app a1 (ShAll.cons sh .nil)
  obtain ⟨d2, c2, l2⟩ := shAll_app c1 b1
  refine ⟨?_, ?_, ?_, _, d2, by simpa using c2, by omega, ?_⟩
  · unfold arePartsB
    rw [show (xs ++ [v] ++ ys).all isPartB = false by simp [o.no], Bool.and_false]
  · intro u hu
    rcases List.mem_append.mp hu with z | z
    · rcases List.mem_append.mp z with z | z
      · exact part_thing (hx u z)
      · rw [List.mem_singleton.mp z]; exact o.th
    · exact part_thing (hy u z)
  · simp only [List.length_append, List.length_singleton]; omega
  · simp only [List.map_append, List.map_cons, List.map_nil, List.sum_append, List.sum_cons, List.sum_nil]
    omega
theorem many_parts {K : PySem.W.Frag} {H : Hp} {xs : List V} (hx : ∀ v ∈ xs, PartV v) (l1 : 5 ≤ xs.length) (l2 : xs.length ≤ 9) :
    arePartsB xs = false ∧ (∀ u ∈ xs, Thing K H u) ∧ xs.length ≤ 100 ∧ ∃ ts d, ShAll K H xs ts d [] ∧ d ≤ 10 ∧ (ts.map (·.length)).sum ≤ 90000 := by
  obtain ⟨a1, a2⟩ := sh_parts (K := K) (H := H) fun v hv => part_show (hx v hv)
  refine ⟨?_, fun u hu => part_thing (hx u hu), by omega, _, _, a1, by omega, by omega⟩
  unfold arePartsB
  rw [show decide ((xs.length : Int) ≤ 4) = false from decide_eq_false (by omega)]
  simp
theorem q_dispV {i : Nat} {σ : L2.St} {H : Hp} {Q : VK} {x : Str} {v : V} (h : σ[i]? = some (some (.str x))) (k : ∀ p H', H p = none → H' p = some (.dK [(Sum.inr x, v)]) → Ex H H' → Q (.ref p) H') : tDisp [(tVar i, tC v)] σ H Q := fun p hp =>
  ⟨.str x, h, upd_same, [(Sum.inr x, v)], rfl, Nat.le_of_ble_eq_true rfl, k p _ hp (by rw [upd_same]; rfl) (by rw [upd_upd]; exact Ex.new hp)⟩
theorem abcd_cut : ∀ d : Fin 4, ((cutS ("abcd" : Str) (some (d.val : Int)) none).length ≤ 10 ∧ cutS ("abcd" : Str) (some (d.val : Int)) none ≠ "more") ∧ ∀ c ∈ (cutS ("abcd" : Str) (some (d.val : Int)) none).cps.toList, c < 128 := by decide +kernel
theorem take_rep {xs : List V} {k : Nat} (h : 1 ≤ xs.length) (h4 : xs.length ≤ 4) (hk : k < xs.length) : ((List.replicate 5 xs).flatten.take (5 + k)).length = 5 + k := by
  rw [List.length_take, List.length_flatten, List.map_replicate, List.sum_replicate_nat]
  omega
theorem mem_rep {xs : List V} {k : Nat} {v : V} (h : v ∈ (List.replicate 5 xs).flatten.take k) : v ∈ xs := by
  have h1 := List.mem_of_mem_take h
  obtain ⟨l, hl, hv⟩ := List.mem_flatten.mp h1
  rw [(List.mem_replicate.mp hl).2] at hv
  exact hv
/-- a thing, with a text -/
structure OddT (K : PySem.W.Frag) (H : Hp) (v : V) : Prop where
  th : Thing K H v
  sz : ∀ s, v = .str s → Tn 900 s
  sh : ∃ t d bs, Sh K H v t d bs ∧ d ≤ 20 ∧ t.length ≤ 100000
theorem OddT.ex {K : PySem.W.Frag} {H H' : Hp} {v : V} (o : OddT K H v) (e : Ex H H') : OddT K H' v := ⟨o.th.ex e, o.sz, let ⟨t, d, bs, a, b⟩ := o.sh; ⟨t, d, bs, a.ex e, b⟩⟩
theorem oddT_str {K : PySem.W.Frag} {H : Hp} {n : Nat} {s : Str} (h : Tn n s) (hn : Nat.ble n 900 = true) : OddT K H (.str s) := by
  have hn' := Nat.le_of_ble_eq_true hn
  have h' : Tn 900 s := h.mono hn'
  exact ⟨.str s (h'.mono (by omega)), fun z e => by rw [← V.str.inj e]; exact h', _, _, _, .str s, by decide, by have := repr_Tn h'; omega⟩
theorem shaped_two {s t : Str} (h : Tx s) (h2 : Tx t) : SeqAt.shaped (.list [.str s, .str t]) = true := by
  simp [SeqAt.shaped, PyData.canLay0, PyData.canLayAll0, PyData.depth, PyData.depthAll, str_ok h.2, str_ok h2.2]
theorem eqv_two (s t : Str) : PyData.eqv (.list [.str s, .str t]) (.list [.str s, .str t]) = true := by simp [PyData.eqv, PyData.eqvAll]
theorem eqv_parts : ∀ {xs : List V}, (∀ v ∈ xs, KindV v) → PyData.eqvAll (xs.map partD) (xs.map partD) = true
  | [], _ => by simp [PyData.eqvAll]
  | x :: xs, h => by
    have ih := eqv_parts fun v hv => h v (List.mem_cons_of_mem _ hv)
    rw [List.map_cons]
    unfold PyData.eqvAll
    rw [ih, Bool.and_true]
    rcases h x List.mem_cons_self with ⟨i, rfl⟩ | ⟨s, rfl, _⟩ <;> simp [partD, PyData.eqv]
theorem q_neTwo {K : PySem.W.Frag} {H : Hp} {Q : VK} {p q : Addr} {s t : Str} (h : Tx s) (h2 : Tx t) (hp : H p = some (.lst [.str s, .str t])) (hq : H q = some (.lst [.str s, .str t])) (k : Q (.bl false) H) : rNeA K (.ref p) (.ref q) H Q :=
  q_neDt (.lst (SqL.of hp) (.cons (.str s) (.cons (.str t) .nil))) (.lst (SqL.of hq) (.cons (.str s) (.cons (.str t) .nil))) (shaped_two h h2) (shaped_two h h2) (by rw [eqv_two]; exact k)
theorem q_neParts {K : PySem.W.Frag} {H : Hp} {Q : VK} {p q : Addr} {xs : List V} (h : ∀ v ∈ xs, KindV v) (hp : H p = some (.lst xs)) (hq : H q = some (.lst xs)) (k : Q (.bl false) H) : rNeA K (.ref p) (.ref q) H Q :=
  q_neDt (.lst (SqL.of hp) (dp_parts h)) (.lst (SqL.of hq) (dp_parts h)) (shaped_parts h) (shaped_parts h) (by
    rw [show PyData.eqv (.list (xs.map partD)) (.list (xs.map partD)) = true by
      unfold PyData.eqv
      exact eqv_parts h]
    exact k)
theorem oddT_exc {P : Program} {w : World} {K : PySem.W.Frag} {mg : Str → Option Value} {base H : Heap} {Hh : Hp} {k : Nat} {x : Str} {C a t : Addr} {m : Str} (v : Kv P w K mg base k x C) (h : Hh a = some (exoM a C t)) (h2 : Hh t = some (.tup [.str m])) (hm : Tn 100 m) : OddT K Hh (.ref a) := by
  obtain ⟨cd, hcd, hl⟩ := v.cd
  refine ⟨.exc a C t m h h2 v.f, (fun _ z => by cases z), _, _, _, .exc h h2 ⟨hcd, v.rp, v.e.T.exC⟩, by decide, ?_⟩
  unfold excText
  have := repr_Tn hm
  have e1 : ("(" : Str).length = 1 := by decide +kernel
  have e2 : (")" : Str).length = 1 := by decide +kernel
  rw [Str.length_append, Str.length_append, Str.length_append, e1, e2]
  omega
theorem kit_no {K : PySem.W.Frag} {C : Addr} {T : String} {b : Bool} (h : PySem.W.subIn K (.ref C) (.type T) = some b) (hm : PySem.W.kitMeta T = true := by decide +kernel) : PySem.W.kitOne K (.ref C) (.type T) = some b := by
  unfold PySem.W.kitOne
  rw [if_neg (by simp)]
  show (if PySem.W.kitMeta T = true then PySem.W.subIn K (.ref C) (.type T) else none) = some b
  rw [if_pos hm]
  exact h


/-! # Lists and tuples of ints: sums, slices, tests by truth, defaults -/
section
variable {X : Cx}
def rSumA (K : PySem.W.Frag) : List V → Hp → VK → Prop := fun vs H Q => ∃ (a : Addr) (ns : List Int), vs = [V.ref a] ∧ (SqL K H a (ns.map V.int) ∨ SqT K H a (ns.map V.int)) ∧ Q (.int ns.sum) H
theorem call_sumA (hc : X.calm = true) : CallR X (.builtin "sum") (rSumA X.K) := by
  intro pins s σ H vs us Q I r h
  obtain ⟨a, ns, rfl, hs | hs, q⟩ := h
  · exact cr_sum hc pins s σ H _ us Q I r ⟨a, ns, rfl, hs, q⟩
  · obtain ⟨its, rv, ht, _⟩ := I.tuple hs
    rw [Vals.ref1 r]
    obtain ⟨xs, e⟩ := rv.ints.allInts.items
    have hn : numsOf (PySem.intItems xs).toList = ns := by rw [← e]; exact rv.ints.numsOf
    rw [PySem.nums_intItems] at hn
    rw [e] at ht
    refine PySem.W.ktm_sumG (I.ok.hd hc) ht fun h' tk t' hk => ?_
    rw [PySem.preSum_eq, List.take_of_length_le (by simp), hn]
    exact ⟨.int _, H, I.kept hk, ⟨_, rfl⟩, q⟩
theorem call_sumB (K : PySem.W.Frag) (h : X.K = K) (hc : X.calm = true) : CallR X (.builtin "sum") (rSumA K) := h ▸ call_sumA hc
def rMinA (K : PySem.W.Frag) : List V → Hp → VK → Prop := fun vs H Q => ∃ (a : Addr) (ns : List Int), vs = [V.ref a] ∧ SqL K H a (ns.map V.int) ∧ 0 < ns.length ∧ ∀ m, m ∈ ns → (∀ y, y ∈ ns → m ≤ y) → Q (.int m) H
def rIntA : List V → Hp → VK → Prop := fun xs H Q => (∃ a n, xs = [.str a] ∧ PySem.intText? a = some n ∧ a.length ≤ 640 ∧ Q (.int n) H) ∨ ∃ b, xs = [.bl b] ∧ Q (.int (if b then 1 else 0)) H
theorem call_intA : CallR X (.type "int") rIntA := by
  intro pins s σ H xs us Q I rs h
  rcases h with h | ⟨b, rfl, q⟩
  · exact call_int_str pins s σ H xs us Q I rs h
  · obtain ⟨u, rfl, ru⟩ := vals1 rs
    cases ru
    exact PySem.call_int_bool ⟨.int _, H, I.tok _, ⟨_, rfl⟩, q⟩
theorem q_intBl {H : Hp} {Q : VK} {b : Bool} (k : Q (.int (if b then 1 else 0)) H) : rIntA [.bl b] H Q := .inr ⟨b, rfl, k⟩
def rSlC (K : PySem.W.Frag) : V → Option Int → Option Int → Hp → VK → Prop := fun x l u H Q => rSlA K x l u H Q ∨ L2.rSlA K x l u H Q
theorem sl_C (K : PySem.W.Frag) (h : X.K = K) : SlR X (rSlC K) := h ▸ SlR.or sl_A sl_tupA
theorem pe_orB {a b : Expr} {ta tb : TE} {rest : List Expr} {pos : Pos} (K : PySem.W.Frag) (h : X.K = K) (ha : PE X a ta) (hb : PE X (.BoolOp .Or (b :: rest) pos) tb) : PE X (.BoolOp .Or (a :: b :: rest) pos) (tOrT K ta tb) := h ▸ pe_orT ha hb
end
/-- a list or a tuple, tracked -/
def Sq2 (H : Hp) (a : Addr) (xs : List V) : Prop := H a = some (.lst xs) ∨ H a = some (.tup xs)
theorem Sq2.ex {H H' : Hp} {a : Addr} {xs : List V} (h : Sq2 H a xs) (e : Ex H H') : Sq2 H' a xs := h.imp (e _ _) (e _ _)
theorem Sq2.fb {b : Addr} {H H' : Hp} {a : Addr} {xs : List V} (h : Sq2 H a xs) (e : Fb b H H') (n : a ≠ b) : Sq2 H' a xs := h.imp (fun z => e _ _ z n) (fun z => e _ _ z n)
theorem Sq2.or {K : PySem.W.Frag} {H : Hp} {a : Addr} {xs : List V} (h : Sq2 H a xs) : SqL K H a xs ∨ SqT K H a xs := h.imp SqL.of SqT.of
theorem Sq2.ne {H : Hp} {a p : Addr} {xs : List V} (h : Sq2 H a xs) (n : H p = none) : a ≠ p := fun e => by
  rcases h with h | h <;> rw [e, n] at h <;> cases h
section
variable {K : PySem.W.Frag} {H : Hp} {Q : VK}
theorem q_sum {a : Addr} {ns : List Int} (h : Sq2 H a (ns.map V.int)) (k : Q (.int ns.sum) H) : rSumA K [.ref a] H Q := ⟨a, ns, rfl, h.or, k⟩
theorem q_len2 {p : Addr} {xs : List V} (h : Sq2 H p xs) (k : Q (.int xs.length) H) : rLen K [.ref p] H Q := h.elim (fun h => q_lenL (SqL.of h) k) fun h => q_lenT (SqT.of h) k
theorem cut_whole {xs : List V} {lo hi : Option Int} (h : HT.sIx xs.length 0 lo = 0 ∧ HT.sIx xs.length xs.length hi = xs.length) : cutV xs lo hi = xs := by
  show (xs.drop (HT.sIx xs.length 0 lo)).take (HT.sIx xs.length xs.length hi - HT.sIx xs.length 0 lo) = xs
  rw [h.1, h.2]; simp
theorem q_sl2 {a : Addr} {xs : List V} {lo hi : Option Int} (h : Sq2 H a xs) (k : ∀ p H', Sq2 H' p (cutV xs lo hi) → Ex H H' → Q (.ref p) H') : rSlC K (.ref a) lo hi H Q := by
  rcases h with h | h
  · exact .inl (q_slL (SqL.of h) fun p H' _ hp e => k p H' (.inl hp) e)
  · refine .inr ⟨a, xs, rfl, SqT.of h, fun w => k a H (by rw [cut_whole w]; exact .inr h) Ex.rfl, fun _ p hp => k p _ (.inr upd_same) (Ex.new hp)⟩
theorem q_slL' {a : Addr} {xs : List V} {lo hi : Option Int} (h : SqL K H a xs) (k : ∀ p H', H p = none → H' p = some (.lst (cutV xs lo hi)) → Ex H H' → Q (.ref p) H') : rSlC K (.ref a) lo hi H Q := .inl (q_slL h k)
theorem q_orL {ta tb : TE} {σ : L2.St} (k : ta σ H fun x H1 => ∃ k, TruV K x H1 k ∧ if k = true then Q x H1 else tb σ H1 Q) : tOrT K ta tb σ H Q := k
theorem q_tru {H1 : Hp} {a : Addr} {xs : List V} {A B : Prop} (h : Sq2 H1 a xs) (k1 : xs ≠ [] → A) (k2 : xs = [] → B) : ∃ k, TruV K (.ref a) H1 k ∧ if k = true then A else B := by
  refine ⟨!xs.isEmpty, h.elim (fun h => .inl ⟨_, SqL.of h, rfl⟩) (fun h => .inr (.inl ⟨_, SqT.of h, rfl⟩)), ?_⟩
  cases xs with
  | nil => exact iteF (k2 rfl)
  | cons x xs => exact iteT (k1 (by simp))
end
/-! ## walks over a list or a tuple -/
def iSq (K : PySem.W.Frag) (tl : TE) : TI := fun σ H R => tl σ H fun x H1 => ∃ a, x = .ref a ∧ (((∃ xs, SqL K H1 a xs) ∧ R (Itl K a) H1) ∨ ((∃ xs, SqT K H1 a xs) ∧ R (Itt K a) H1))
theorem pi_sqA {X : Cx} {tg l : Expr} {tl : TE} (hl : PE X l tl) : PI X tg l (iSq X.K tl) := by
  refine ⟨fun pins s σ H R I h => ?_⟩
  refine thn (hl.run pins s σ H _ I h) fun v s1 ⟨x, H1, I1, r1, q1⟩ => ?_
  obtain ⟨a, e, ⟨⟨xs, hq⟩, q⟩ | ⟨⟨xs, hq⟩, q⟩⟩ := q1
  · subst e
    cases r1
    obtain ⟨its, rv, p, hz⟩ := I1.list hq
    refine wpAny_pyIter_list p.isList ?_
    refine ⟨s1.heap.objs.size, [s1.heap.objs.size], _, _, H1, rfl, I1.kept (t' := s1.toks) fun b o e => Heap.get?_push_of_some _ e, turn_list a _, ⟨_, Heap.get?_push_size _ rfl, rfl, rfl⟩, fun b hb => ?_, q⟩
    have e : b = s1.heap.objs.size := by simpa using hb
    subst e
    exact I1.fpOk (Nat.le_refl _) (I1.hok.fresh (Nat.le_refl _))
  · subst e
    cases r1
    obtain ⟨its, rv, p, hz⟩ := I1.tuple hq
    refine wpAny_pyIter_tuple (show s1.heap.IsTuple a its.toArray from p) ?_
    refine ⟨s1.heap.objs.size, [s1.heap.objs.size], _, _, H1, rfl, I1.kept (t' := s1.toks) fun b o e => Heap.get?_push_of_some _ e, turn_tuple a _, ⟨_, Heap.get?_push_size _ rfl, rfl, rfl⟩, fun b hb => ?_, q⟩
    have e : b = s1.heap.objs.size := by simpa using hb
    subst e
    exact I1.fpOk (Nat.le_refl _) (I1.hok.fresh (Nat.le_refl _))
theorem pi_sq {X : Cx} {tg l : Expr} {tl : TE} (K : PySem.W.Frag) (h : X.K = K) (hl : PE X l tl) : PI X tg l (iSq K tl) := h ▸ pi_sqA hl
def ForQK (K : PySem.W.Frag) (g : TG) (tb : TS) (D : Ends) (σ : L2.St) : V → Hp → Prop := fun v H => tFor (iSq K (fun _ H Q' => Q' v H)) g tb D σ H
theorem q_forQ {K : PySem.W.Frag} {tl : TE} {g : TG} {tb : TS} {D : Ends} {σ : L2.St} {H : Hp} (k : tl σ H (ForQK K g tb D σ)) : tFor (iSq K tl) g tb D σ H := k
theorem q_seqFor {K : PySem.W.Frag} {g : TG} {tb : TS} {D : Ends} {σ : L2.St} {H : Hp} {a : Addr} {xs : List V} (hx : Sq2 H a xs) (Pv : Nat → L2.St → Hp → Prop) (h0 : Pv 0 σ H) (hl : ∀ i σ' H', Pv i σ' H' → ∀ o, H a = some o → H' a = some o)
    (hs : ∀ (i : Nat) x σ' H', xs[i]? = some x → Pv i σ' H' → g x σ' H' fun σ2 H2 => tb { D with nx := Pv (i + 1), ct := Pv (i + 1), bk := D.nx } σ2 H2) (hd : ∀ σ' H', Pv xs.length σ' H' → D.nx σ' H') : ForQK K g tb D σ (.ref a) H := by
  rcases hx with hx | hx
  · exact ⟨a, rfl, .inl ⟨⟨xs, SqL.of hx⟩, for_list (xs := xs) Pv h0 (fun i σ' H' _ p => SqL.of (hl i σ' H' p _ hx)) hs hd⟩⟩
  · exact ⟨a, rfl, .inr ⟨⟨xs, SqT.of hx⟩, for_tup (xs := xs) Pv h0 (fun i σ' H' _ p => SqT.of (hl i σ' H' p _ hx)) hs hd⟩⟩
def LcQK (K : PySem.W.Frag) (g : TG) (tt : TT) (te : TE) (vs : List Nat) (σ : L2.St) (Q : VK) : V → Hp → Prop := fun v H => tLc (iSq K (fun _ H Q' => Q' v H)) g tt te vs σ H Q
theorem q_lcQ {K : PySem.W.Frag} {tl : TE} {g : TG} {tt : TT} {te : TE} {vs : List Nat} {σ : L2.St} {H : Hp} {Q : VK} (k : tl σ H (LcQK K g tt te vs σ Q)) : tLc (iSq K tl) g tt te vs σ H Q := k
/-- each turn tells a value that hangs on the item alone -/
theorem q_seqM {K : PySem.W.Frag} {j : Nat} {te : TE} {vs : List Nat} {σ : L2.St} {H : Hp} {Q : VK} {a : Addr} {xs : List V} (f : V → V) (hx : Sq2 H a xs) (hz : xs.length ≤ 1000)
    (hw : ∀ x, wipe ((wipe σ vs).set j (some x)) vs = wipe σ vs)
    (he : ∀ (x : V) (H1 : Hp), x ∈ xs → Ex H H1 → ∀ Q' : VK, (∀ H2, Ex H1 H2 → Q' (f x) H2) → te ((wipe σ vs).set j (some x)) H1 Q')
    (k : ∀ p H', H p = none → H' p = some (.lst (xs.map f)) → Ex H H' → Q (.ref p) H') : LcQK K (gName j) tYes te vs σ Q (.ref a) H := by
  have R : ∀ (p : Addr) (H' : Hp) (ys : List V), H' p = some (.lst ys) → Gave (fun x y => y = f x) xs ys → H' p = some (.lst (xs.map f)) := fun p H' ys h G => by rw [← G.map fun _ _ r => r]; exact h
  rcases hx with hx | hx
  · obtain ⟨a', e, _, q⟩ := q_listE (K := K) (te := te) (vs := vs) (σ := σ) (H := H) (Q := Q) (fun _ x y _ => y = f x) (fun _ _ _ _ _ _ r => r) (SqL.of hx) hz hw (fun x D zs H1 hm e hD Q' q => he x H1 hm e Q' fun H2 e2 => q _ _ rfl e2) (fun p H' ys n h G e => k p H' n (R p H' ys h G) e)
    cases e
    exact ⟨a, rfl, .inl ⟨⟨xs, SqL.of hx⟩, q⟩⟩
  · obtain ⟨a', e, _, q⟩ := q_tupE (K := K) (te := te) (vs := vs) (σ := σ) (H := H) (Q := Q) (fun _ x y _ => y = f x) (fun _ _ _ _ _ _ r => r) (SqT.of hx) hz hw (fun x D zs H1 hm e hD Q' q => he x H1 hm e Q' fun H2 e2 => q _ _ rfl e2) (fun p H' ys n h G e => k p H' n (R p H' ys h G) e)
    cases e
    exact ⟨a, rfl, .inr ⟨⟨xs, SqT.of hx⟩, q⟩⟩
/-- [e for x in list if t]: kept where f x, then v x -/
theorem q_listF {K : PySem.W.Frag} {j : Nat} {tt : TT} {te : TE} {vs : List Nat} {σ : L2.St} {H : Hp} {Q : VK} {a : Addr} {xs : List V} (f : V → Bool) (v : V → V) (hx : SqL K H a xs) (hz : xs.length ≤ 1000)
    (hw : ∀ x, wipe ((wipe σ vs).set j (some x)) vs = wipe σ vs)
    (ht : ∀ (x : V) (H1 : Hp), x ∈ xs → Ex H H1 → ∀ QB : Bool → Hp → Prop, (∀ H2, Ex H1 H2 → QB (f x) H2) → tt ((wipe σ vs).set j (some x)) H1 QB)
    (he : ∀ (x : V) (H1 : Hp), x ∈ xs → Ex H H1 → f x = true → ∀ Q' : VK, (∀ H2, Ex H1 H2 → Q' (v x) H2) → te ((wipe σ vs).set j (some x)) H1 Q')
    (k : ∀ p H', H p = none → H' p = some (.lst ((xs.filter f).map v)) → Ex H H' → Q (.ref p) H') : LcLK K (gName j) tt te vs σ Q (.ref a) H := by
  refine ⟨a, rfl, ⟨xs, hx⟩, fun D hD => lc_list (xs := xs) (fun i H' => Ex H H' ∧ H' D = some (.lst (((xs.take i).filter f).map v))) ⟨Ex.new hD, upd_same⟩ (fun i H' _ p => p.1.sq hx) ?_ ?_⟩
  · rintro i x H' hi ⟨e, hd⟩
    have hin := List.mem_of_getElem? hi
    have hlen : ((xs.take i).filter f).length ≤ 1000 := by
      have a := List.length_filter_le f (xs.take i)
      have b := List.length_take_le' i xs
      omega
    refine ⟨hw x, ht x H' hin e _ fun H2 e2 => ?_⟩
    rw [List.take_add_one, hi]
    cases hf : f x with
    | true =>
      refine iteT (he x H2 hin (e.tr e2) hf _ fun H3 e3 => ⟨_, e3 _ _ (e2 _ _ hd), ?_, ?_, ?_⟩)
      · rw [List.length_map]; exact small1000 hlen
      · exact Evl.Ex.mut ((e.tr e2).tr e3) hD
      · rw [upd_same, List.filter_append, List.map_append]
        simp [hf]
    | false =>
      refine iteF ⟨e.tr e2, ?_⟩
      rw [List.filter_append, e2 _ _ hd]
      simp [hf]
  · rintro H' ⟨e, hd⟩
    rw [List.take_length] at hd
    exact k D H' hD hd e
/-! ## stores -/
theorem q_aug {i : Nat} {te : TE} {ti : TIp} {D : Ends} {σ : L2.St} {H : Hp} {x : V} (hx : σ[i]? = some (some x)) (k : te σ H fun y H1 => ti x y H1 fun z H2 => D.nx (σ.set i (some z)) H2) : tAug i te ti D σ H := ⟨x, hx, k⟩
theorem q_ip {f : Int → Int → Int} {i j : Int} {H : Hp} {Q : VK} (k : Q (.int (f i j)) H) : ipI f (.int i) (.int j) H Q := ⟨i, j, rfl, rfl, k⟩
theorem q_gUnl {K : PySem.W.Frag} {n : Nat} {t : TGs} {a : Addr} {xs : List V} {σ : L2.St} {H : Hp} {QS : L2.St → Hp → Prop} (h : SqL K H a xs) (hn : xs.length = n) (k : t xs σ H QS) : gUnl K n t (.ref a) σ H QS := ⟨a, xs, rfl, h, hn, k⟩
theorem q_brk' {D : Ends} {σ : L2.St} {H : Hp} (k : D.bk σ H) : tBreak D σ H := k
/-! ## a def with a default -/
section
variable {P : Program} {w : World} {K : PySem.W.Frag} {mg : Str → Option Value} {base : Heap}
structure DfD (K : PySem.W.Frag) (mg : Str → Option Value) (x : Str) (st : Stmt) (ps : List Str) (dvs : List V) : Prop where
  ex : ∃ (f : Addr) (fd : FuncData), FunD K x x (defArgs st) (defBody st) (defScope st) dvs [] f fd ∧ mg x = some (.ref f) ∧ Binds K fd ps [] ∧ ∃ ds, Vals dvs ds ∧ Binds K fd ps ds
structure KgD (CX : CXT) (P : Program) (w : World) (K : PySem.W.Frag) (mg : Str → Option Value) (base : Heap) (k : Nat) (x : Str) (dvs : List V) (sp : Sp) : Prop where
  all : Kg CX P w K mg base k x sp
  ex : ∃ (f : Addr) (fd : FuncData) (ps : List Str) (ds : List Value), FnG P w K mg base CX k f fd ps sp ∧ mg x = some (.ref f) ∧ PySem.W.keepIn K (.ref f) = true ∧ Vals dvs ds ∧ Binds K fd ps ds
theorem fnG_ofD {CX : CXT} {x qual : Str} {st : Stmt} {f : Addr} {fd : FuncData} {N ps : List Str} {k : Nat} {sp : Sp} {dvs : List V} (F : FunD K x qual (defArgs st) (defBody st) (defScope st) dvs [] f fd) (S : FnScope N ps (defScope st)) (many : ∀ vs H Q E, sp vs H Q E → vs.length = ps.length)
    (hb : ∀ (cdv : Value) (A : Around) (outer : List Env) (s : Shared) (H : Hp) (vs : List V) (Q : VK) (E : XK), RoomG k (A.deeper (envOfC qual (defScope st) s.heap.objs.size f cdv)) → sp vs H Q E →
      ∃ t, PSs (cxOf CX P w K mg base N qual (defScope st) f cdv A outer s H E) (defBody st) t ∧ t { nx := fun _ H' => Q .non H', rt := Q } (start N vs) H) : FnG P w K mg base CX (k + 1) f fd ps sp := by
  obtain ⟨oc, od, dV, kV, doc, pm, an, cdv, ct, osl, rfl, lk, hcd, _, _⟩ := F.ex
  refine ⟨many, ?_⟩
  intro A outer s H args us vs Q E hr e0 bnd rel hsp
  have KX := e0.mod.kin.keeps (h' := s.heap) fun b o z => (e0.bs b o z).1
  have kinds : ∀ y ∈ ps.zip us, (defScope st).names.lookup y.1 = some .local ∨ ((defScope st).names.lookup y.1 = some .cell ∧ ((cellsFrom (s.heap.objs.size + 1) (defScope st).names []).lookup y.1).isSome = true) := by
    rintro ⟨n, v⟩ hy
    exact (S.par n (List.of_mem_zip hy).1).imp id fun q => ⟨q, PySem.W.cellsFrom_some _ _ _ (Or.inl q)⟩
  refine codeAny_call_function hr.room.depth (KX _ _ lk) rfl S.co S.gen rfl (PySem.W.codeRec_of KX hcd) (bnd _ _ _ _ (wpAny_newFunctionEnv_cells S.kind kinds fun env he s1 x => ?_))
  cases he
  have lim0 : s.heap.NoLimit := e0.mod.nolimit.keeps fun b o z => (e0.bs b o z).1
  refine ⟨lim0.keeps x.toInCall.keep, codeAny_func ?_⟩
  obtain ⟨t, ht, hq⟩ := hb _ A outer s H vs Q E (hr.deeper _) hsp
  have J := inv_start (CX := CX) (E := E) (cd := cdv) (f := f) S hr.room.hd e0 (many _ _ _ _ hsp) rel x
  refine wpAny_mono (ht.run [] s1 (start N vs) H _ J hq) (fun fl s' hs => ?_) (fun e s' z => z)
  match fl, hs with
  | .ret u, ⟨v, σ', H', I, rv, q⟩ => exact ⟨v, H', I.os, I.bare, I.base, I.hok, rv, q⟩
  | .next, ⟨σ', H', I, q⟩ => exact ⟨V.non, H', I.os, I.bare, I.base, I.hok, rfl, q⟩
  | .brk, ⟨_, _, _, q⟩ => exact q.elim
  | .cont, ⟨_, _, _, q⟩ => exact q.elim
theorem kgD_of {CX : CXT} {x : Str} {st : Stmt} {N ps : List Str} {k : Nat} {sp : Sp} {dvs : List V} (F : DfD K mg x st ps dvs) (S : FnScope N ps (defScope st)) (many : ∀ vs H Q E, sp vs H Q E → vs.length = ps.length)
    (hb : ∀ (f : Addr) (cdv : Value) (A : Around) (outer : List Env) (s : Shared) (H : Hp) (vs : List V) (Q : VK) (E : XK), RoomG k (A.deeper (envOfC x (defScope st) s.heap.objs.size f cdv)) → sp vs H Q E →
      ∃ t, PSs (cxOf CX P w K mg base N x (defScope st) f cdv A outer s H E) (defBody st) t ∧ t { nx := fun _ H' => Q .non H', rt := Q } (start N vs) H) : KgD CX P w K mg base (k + 1) x dvs sp := by
  obtain ⟨f, fd, F1, m, b0, ds, vd, b1⟩ := F.ex
  have G := fnG_ofD (P := P) (w := w) (mg := mg) (base := base) (CX := CX) F1 S many (hb f)
  exact ⟨⟨f, fd, ps, G, m, F1.kp, b0⟩, ⟨f, fd, ps, ds, G, m, F1.kp, vd, b1⟩⟩
end
section
variable {X : Cx} {CX : CXT} {k j : Nat} {x : Str} {sp : Sp} {E : XK} {p pos : Pos} {e : Expr} {es : List Expr} {t : TA} {dvs : List V}
theorem pe_kgD (c : KgD CX X.prog X.w X.K X.mg X.base k x dvs sp) (hr : RoomG j X.A) (hk : k ≤ j) (hx : Passes CX X E) (hg : Gl X x) (ha : PA X (e :: es) t)
    (hdb : (x == ("__debug__" : Str)) = false := by decide) (he : starEach (e :: es) X.env = (false, eval e X.env) :: starEach es X.env := by rfl) (hpl : (backTo pos (starEach es X.env)).any (·.1) = false := by rfl) :
    PE X (.Call (.Name x p) (e :: es) [] pos) (tCall sp dvs E t) := by
  obtain ⟨f, fd, ps, ds, F, hm, kp, vd, b⟩ := c.ex
  refine ⟨fun pins s σ H Q I h => wpAny_Call_Name_kw (ld_glob I hg hm (PySem.W.callWith_K (h₀ := X.base) I.ok.mod.kin kp (thn (ha.run pos pins s σ H _ I h) ?_) he hpl) hdb)⟩
  rintro us s1 ⟨vs, H1, I1, rel, q⟩
  exact ⟨I1.kIn, runG F (hr.mono hk) b vd hx I1 rel q⟩
end


/-! # Cuttings -/
abbrev iV (ns : List Int) : List V := ns.map V.int
abbrev nI (ns : List Nat) : List Int := ns.map Int.ofNat
abbrev nV (ns : List Nat) : List V := iV (nI ns)
/-- how many of these things stand on a shelf with so much room -/
def fit : List Int → Int → Nat
  | [], _ => 0
  | w :: r, room => if w > room then 0 else fit r (room - w) + 1
theorem fit_le : ∀ (ws : List Int) (room : Int), fit ws room ≤ ws.length
  | [], _ => Nat.le_refl _
  | w :: r, room => by
    unfold fit
    split
    · exact Nat.zero_le _
    · exact Nat.succ_le_succ (fit_le r _)
/-- the ends, from the begin b on -/
def few (ws : List Int) (keep : Int) : Nat → List Int → List Nat
  | _, [] => []
  | b, l :: r => if b = ws.length then [] else (b + fit (ws.drop b) (l - keep)) :: few ws keep (b + fit (ws.drop b) (l - keep)) r
def stood (ws : List Int) (keep : Int) (b : Nat) (ls : List Int) : Nat := (few ws keep b ls).getLastD b
theorem few_full {ws : List Int} {keep : Int} {b : Nat} (h : b = ws.length) : ∀ ls, few ws keep b ls = []
  | [] => rfl
  | l :: r => by unfold few; rw [if_pos h]
theorem stood_cons {ws : List Int} {keep : Int} {b : Nat} {l : Int} {r : List Int} (h : b ≠ ws.length) : stood ws keep b (l :: r) = stood ws keep (b + fit (ws.drop b) (l - keep)) r := by
  unfold stood
  rw [show few ws keep b (l :: r) = _ from if_neg h]
  cases few ws keep (b + fit (ws.drop b) (l - keep)) r <;> rfl
theorem stood_full {ws : List Int} {keep : Int} {b : Nat} (h : b = ws.length) (ls : List Int) : stood ws keep b ls = b := by
  unfold stood; rw [few_full h]; rfl
theorem few_append (ws : List Int) (keep : Int) : ∀ (xs ys : List Int) (b : Nat), few ws keep b (xs ++ ys) = few ws keep b xs ++ few ws keep (stood ws keep b xs) ys
  | [], ys, b => rfl
  | l :: r, ys, b => by
    by_cases h : b = ws.length
    · rw [few_full h, few_full h, stood_full h, few_full h]; rfl
    · rw [stood_cons h, List.cons_append, show few ws keep b (l :: (r ++ ys)) = _ from if_neg h, show few ws keep b (l :: r) = _ from if_neg h, few_append ws keep r ys, List.cons_append]
theorem few_length (ws : List Int) (keep : Int) : ∀ (ls : List Int) (b : Nat), (few ws keep b ls).length ≤ ls.length
  | [], _ => Nat.le_refl _
  | l :: r, b => by
    unfold few
    split
    · exact Nat.zero_le _
    · exact Nat.succ_le_succ (few_length ws keep r _)
theorem few_le (ws : List Int) (keep : Int) : ∀ (ls : List Int) (b : Nat), b ≤ ws.length → ∀ e ∈ few ws keep b ls, e ≤ ws.length
  | [], _, _ => fun e h => by cases h
  | l :: r, b, hb => by
    unfold few
    have hf := fit_le (ws.drop b) (l - keep)
    rw [List.length_drop] at hf
    split
    · exact fun e h => by cases h
    · intro e h
      rcases List.mem_cons.mp h with rfl | h
      · omega
      · exact few_le ws keep r _ (by omega) e h
theorem stood_le (ws : List Int) (keep : Int) : ∀ (ls : List Int) (b : Nat), b ≤ ws.length → stood ws keep b ls ≤ ws.length
  | [], b, h => h
  | l :: r, b, h => by
    by_cases hb : b = ws.length
    · rw [stood_full hb]; exact h
    · rw [stood_cons hb]
      have hf := fit_le (ws.drop b) (l - keep)
      rw [List.length_drop] at hf
      exact stood_le ws keep r _ (by omega)
theorem stood_snoc {ws ls : List Int} {keep l : Int} {i b : Nat} (hi : ls[i]? = some l) (h : stood ws keep b (ls.take i) ≠ ws.length) :
    few ws keep b (ls.take (i + 1)) = few ws keep b (ls.take i) ++ [stood ws keep b (ls.take i) + fit (ws.drop (stood ws keep b (ls.take i))) (l - keep)] ∧
    stood ws keep b (ls.take (i + 1)) = stood ws keep b (ls.take i) + fit (ws.drop (stood ws keep b (ls.take i))) (l - keep) := by
  have e : few ws keep b (ls.take (i + 1)) = few ws keep b (ls.take i) ++ [stood ws keep b (ls.take i) + fit (ws.drop (stood ws keep b (ls.take i))) (l - keep)] := by
    rw [List.take_add_one, hi, few_append]
    congr 1
    show few ws keep _ [l] = _
    unfold few
    rw [if_neg h]
    rfl
  refine ⟨e, ?_⟩
  show (few ws keep b (ls.take (i + 1))).getLastD b = _
  rw [e]
  simp [List.getLastD_concat]
theorem few_stop {ws ls : List Int} {keep : Int} {i b : Nat} (h : stood ws keep b (ls.take i) = ws.length) : few ws keep b ls = few ws keep b (ls.take i) ∧ stood ws keep b ls = ws.length := by
  have e : few ws keep b ls = few ws keep b (ls.take i) := by
    have := few_append ws keep (ls.take i) (ls.drop i) b
    rw [List.take_append_drop, few_full h, List.append_nil] at this
    exact this
  refine ⟨e, ?_⟩
  unfold stood
  rw [e]; exact h
/-- sums of the first widths, from s on -/
def pre : Int → List Int → List Int
  | s, [] => [s]
  | s, w :: r => s :: pre (s + w) r
theorem pre_length : ∀ (ws : List Int) (s : Int), (pre s ws).length = ws.length + 1
  | [], _ => rfl
  | w :: r, s => by unfold pre; rw [List.length_cons, pre_length r, List.length_cons]
theorem pre_snoc (w : Int) : ∀ (ws : List Int) (s : Int), pre s (ws ++ [w]) = pre s ws ++ [s + ws.sum + w]
  | [], s => by simp [pre]
  | x :: r, s => by
    show s :: pre (s + x) (r ++ [w]) = s :: (pre (s + x) r ++ [s + (x :: r).sum + w])
    rw [pre_snoc w r, List.sum_cons, Int.add_assoc s x r.sum]
theorem pre_last : ∀ (ws : List Int) (s : Int), (pre s ws)[ws.length]? = some (s + ws.sum)
  | [], s => by simp [pre]
  | x :: r, s => by
    show (pre (s + x) r)[r.length]? = _
    rw [pre_last r, List.sum_cons, Int.add_assoc]
theorem pre_drop : ∀ (ws : List Int) (s : Int) (b : Nat), b ≤ ws.length → (pre s ws).drop b = pre (s + (ws.take b).sum) (ws.drop b)
  | ws, s, 0, _ => by simp
  | [], s, b + 1, h => by simp at h
  | w :: r, s, b + 1, h => by
    show (pre (s + w) r).drop b = _
    rw [pre_drop r (s + w) b (by simpa using h), List.take_succ_cons, List.sum_cons, List.drop_succ_cons, Int.add_assoc]
theorem pre_get {ws : List Int} {s : Int} {b : Nat} (h : b ≤ ws.length) : (pre s ws)[b]? = some (s + (ws.take b).sum) := by
  have e := congrArg (fun l : List Int => l[0]?) (pre_drop ws s b h)
  simp only [List.getElem?_drop, Nat.add_zero] at e
  rw [e]
  cases ws.drop b <;> rfl
theorem pre_great : ∀ (r : List Int) (s t : Int), (∀ w ∈ r, 0 < w) → s > t → (pre s r).filter (fun one => decide (one ≤ t)) = []
  | [], s, t, _, h => by simp [pre]; omega
  | w :: r, s, t, hp, h => by
    unfold pre
    rw [List.filter_cons]
    have h1 : ¬ s ≤ t := by omega
    simp only [h1, decide_false, Bool.false_eq_true, if_false]
    exact pre_great r (s + w) t (fun x hx => hp x (List.mem_cons_of_mem _ hx)) (by have := hp w List.mem_cons_self; omega)
theorem fit_count : ∀ (r : List Int) (s room : Int), (∀ w ∈ r, 0 < w) → ((pre s r).tail.filter (fun one => decide (one ≤ s + room))).length = fit r room
  | [], s, room, _ => rfl
  | w :: r, s, room, hp => by
    have hp' : ∀ x ∈ r, 0 < x := fun x hx => hp x (List.mem_cons_of_mem _ hx)
    show ((pre (s + w) r).filter (fun one => decide (one ≤ s + room))).length = if w > room then 0 else fit r (room - w) + 1
    by_cases h : w > room
    · rw [if_pos h, pre_great r (s + w) (s + room) hp' (by omega)]; rfl
    · rw [if_neg h]
      have ih := fit_count r (s + w) (room - w) hp'
      rw [show s + w + (room - w) = s + room by omega] at ih
      have e : pre (s + w) r = (s + w) :: (pre (s + w) r).tail := by cases r <;> rfl
      rw [e, List.filter_cons]
      have h1 : s + w ≤ s + room := by omega
      simp only [h1, decide_true, if_true, List.length_cons, ih]
/-- .. as a law counts -/
theorem fit_law {ws : List Int} {b : Nat} {room : Int} (hp : ∀ w ∈ ws, 0 < w) (hb : b ≤ ws.length) :
    (((pre 0 ws).drop (b + 1)).filter (fun one => decide (one ≤ (ws.take b).sum + room))).length = fit (ws.drop b) room := by
  have e := pre_drop ws 0 b hb
  rw [Int.zero_add] at e
  have e2 : (pre 0 ws).drop (b + 1) = (pre (ws.take b).sum (ws.drop b)).tail := by rw [← e, List.tail_drop]
  rw [e2]
  exact fit_count _ _ _ fun w hw => hp w (List.mem_of_mem_drop hw)
/-- how many shelves more have the spare -/
def more (spare : Int) : Int → List Int → Option Nat
  | gap, [] => if gap ≥ spare then some 0 else none
  | gap, l :: r => if gap ≥ spare then some 0 else (more spare (gap + l) r).map (· + 1)
theorem more_found {spare gap : Int} (h : gap ≥ spare) : ∀ ls, more spare gap ls = some 0
  | [] => if_pos h
  | l :: r => if_pos h
theorem more_find (spare : Int) : ∀ (ls : List Int) (gap : Int), more spare gap ls = (List.range (ls.length + 1)).find? (fun k => decide (gap + (ls.take k).sum ≥ spare))
  | [], gap => by
    simp only [more, List.length_nil, Nat.zero_add, List.range_one, List.find?_cons, List.find?_nil, List.take_nil, List.sum_nil, Int.add_zero]
    by_cases h : gap ≥ spare
    · rw [if_pos h, decide_eq_true h]
    · rw [if_neg h, decide_eq_false h]
  | l :: r, gap => by
    rw [List.length_cons, List.range_succ_eq_map, List.find?_cons]
    simp only [List.take_zero, List.sum_nil, Int.add_zero]
    by_cases h : gap ≥ spare
    · rw [more_found h, decide_eq_true h]
    · rw [decide_eq_false h, show more spare gap (l :: r) = _ from if_neg h, more_find spare r (gap + l), List.find?_map]
      congr 2
      funext k
      show decide (gap + l + (r.take k).sum ≥ spare) = decide (gap + ((l :: r).take (k + 1)).sum ≥ spare)
      rw [List.take_succ_cons, List.sum_cons, Int.add_assoc]
theorem more_step {spare gap l : Int} {r : List Int} {i : Nat} {ls : List Int} {g0 : Int} (h : ¬ gap ≥ spare) (e : more spare g0 ls = (more spare gap (l :: r)).map (· + i)) : more spare g0 ls = (more spare (gap + l) r).map (· + (i + 1)) := by
  rw [e, show more spare gap (l :: r) = _ from if_neg h, Option.map_map]
  congr 1
  funext k
  show k + 1 + i = k + (i + 1)
  omega
/-- what a law finds by going through all numbers of shelves -/
theorem more_law {ls : List Int} {W spare : Int} {n : Nat} (hn : n ≤ ls.length) :
    ((List.range (ls.length + 1)).filter fun m => decide (n ≤ m) && decide ((ls.take m).sum - W ≥ spare)).head? = (more spare ((ls.take n).sum - W) (ls.drop n)).map (n + ·) := by
  rw [List.head?_filter, more_find, show ls.length + 1 = n + (ls.length - n + 1) by omega, List.range_add, List.find?_append]
  have h1 : (List.range n).find? (fun m => decide (n ≤ m) && decide ((ls.take m).sum - W ≥ spare)) = none := by
    apply List.find?_eq_none.mpr
    intro m hm
    have := List.mem_range.mp hm
    simp; omega
  rw [h1, Option.none_or, List.find?_map, List.length_drop]
  congr 2
  funext k
  have h2 : decide (n ≤ n + k) = true := decide_eq_true (by omega)
  show (decide (n ≤ n + k) && decide ((ls.take (n + k)).sum - W ≥ spare)) = _
  rw [h2, Bool.true_and, List.take_add, List.sum_append]
  apply decide_eq_decide.mpr
  omega
/-- sums are bounded -/
theorem sum_bound {m : Int} : ∀ {ls : List Int}, (∀ l ∈ ls, 0 ≤ l ∧ l ≤ m) → 0 ≤ ls.sum ∧ ls.sum ≤ m * ls.length
  | [], _ => by simp
  | l :: r, h => by
    have ih := sum_bound (ls := r) fun x hx => h x (List.mem_cons_of_mem _ hx)
    have h1 := h l List.mem_cons_self
    rw [List.sum_cons, List.length_cons, Int.natCast_add, Int.mul_add]
    simp only [Int.natCast_one, Int.mul_one]
    omega
/-! ## as data -/
theorem dd_ints {K : PySem.W.Frag} {H : Hp} : ∀ ns : List Int, DdAll K H (iV ns) (ns.map PyData.int)
  | [] => .nil
  | n :: ns => .cons (.int n) (dd_ints ns)
theorem dp_ints {K : PySem.W.Frag} {H : Hp} : ∀ ns : List Int, DpAll K H (iV ns) (ns.map PyData.int)
  | [] => .nil
  | n :: ns => .cons (.int n) (dp_ints ns)
theorem ints_shown : ∀ ns : List Int, (∀ n ∈ ns, 0 ≤ n ∧ n < 1000000) → PyData.showableAll (ns.map PyData.int) = true ∧ PyData.depthAll (ns.map PyData.int) = 0 ∧ ((PyData.shownAll (ns.map PyData.int)).map (·.length)).sum ≤ 6 * ns.length ∧ (PyData.shownAll (ns.map PyData.int)).length = ns.length
  | [], _ => by simp [PyData.showableAll, PyData.depthAll, PyData.shownAll]
  | n :: ns, h => by
    obtain ⟨a, b, c, d⟩ := ints_shown ns fun x hx => h x (List.mem_cons_of_mem _ hx)
    have hn := h n List.mem_cons_self
    obtain ⟨m, rfl⟩ := Int.eq_ofNat_of_zero_le hn.1
    have h1 := (num_Tn (n := m) (k := 6) (by decide) (by omega)).1
    have h2 : (PyData.int (m : Int)).showable = true := by
      simp only [PyData.showable]
      exact decide_eq_true (log_small (by omega) (by omega))
    simp only [List.map_cons, PyData.showableAll, PyData.depthAll, PyData.shownAll, List.sum_cons, List.length_cons, a, b, h2, Bool.and_self, PyData.depth, PyData.shown, true_and, d]
    refine ⟨rfl, ?_, trivial⟩
    have : (Str.ofString (toString ((m : Nat) : Int))).length ≤ 6 := h1
    omega
/-- a list of small numbers -/
theorem short_ints {ns : List Int} (h : ∀ n ∈ ns, 0 ≤ n ∧ n < 1000000) (hz : ns.length ≤ 100) : Short (.list (ns.map PyData.int)) 803 := by
  obtain ⟨a, b, c, d⟩ := ints_shown ns h
  refine ⟨by simp only [PyData.showable, a], by simp only [PyData.depth, b]; omega, ?_⟩
  simp only [PyData.shown]
  have h1 := PySem.listText_len_le (PyData.shownAll (ns.map PyData.int))
  rw [d] at h1
  omega
theorem shaped_all : ∀ ns : List Int, PyData.canLayAll0 (ns.map PyData.int) = true ∧ PyData.depthAll (ns.map PyData.int) = 0
  | [] => ⟨by simp [PyData.canLayAll0], by simp [PyData.depthAll]⟩
  | n :: ns => by
    obtain ⟨a, b⟩ := shaped_all ns
    refine ⟨by simp [PyData.canLayAll0, PyData.canLay0, a], by simp [PyData.depthAll, PyData.depth, b]⟩
theorem shaped_ints (ns : List Int) : SeqAt.shaped (.list (ns.map PyData.int)) = true := by
  obtain ⟨a, b⟩ := shaped_all ns
  simp only [SeqAt.shaped, PyData.canLay0, PyData.depth, a, b, Bool.true_and]
  decide
theorem eqv_nil (ns : List Int) : PyData.eqv (.list (ns.map PyData.int)) (.list []) = decide (ns = []) := by
  cases ns with
  | nil => simp [PyData.eqv, PyData.eqvAll]
  | cons n ns => simp [PyData.eqv, PyData.eqvAll]
theorem eqv_ints : ∀ ns ms : List Int, PyData.eqvAll (ns.map PyData.int) (ms.map PyData.int) = decide (ns = ms)
  | [], [] => by simp [PyData.eqvAll]
  | [], m :: ms => by simp [PyData.eqvAll]
  | n :: ns, [] => by simp [PyData.eqvAll]
  | n :: ns, m :: ms => by
    simp only [List.map_cons, PyData.eqvAll, eqv_ints ns ms, PyData.eqv]
    by_cases h : n = m
    · subst h; simp
    · simp [h]
section
variable {K : PySem.W.Frag} {H : Hp} {Q : VK}
theorem q_eqNil {p q : Addr} {ns : List Int} (hp : H p = some (.lst (iV ns))) (hq : H q = some (.lst [])) (k : Q (.bl (decide (ns = []))) H) : rEqA K (.ref p) (.ref q) H Q :=
  q_eqDt (.lst (SqL.of hp) (dp_ints ns)) (.lst (SqL.of hq) .nil) (shaped_ints ns) (shaped_ints []) (by rw [eqv_nil]; exact k)
theorem q_eqInts {p q : Addr} {ns ms : List Int} (hp : H p = some (.lst (iV ns))) (hq : H q = some (.lst (iV ms))) (k : Q (.bl (decide (ns = ms))) H) : rEqA K (.ref p) (.ref q) H Q :=
  q_eqDt (.lst (SqL.of hp) (dp_ints ns)) (.lst (SqL.of hq) (dp_ints ms)) (shaped_ints ns) (shaped_ints ms) (by simp only [PyData.eqv, eqv_ints]; exact k)
theorem at_last : ∀ {ns : List Int}, ns ≠ [] → atI (iV ns) (-1) = some (V.int (ns.getLastD 0)) := by
  intro ns h
  have e : ns = ns.dropLast ++ [ns.getLast h] := (List.dropLast_concat_getLast h).symm
  have e2 : ns.getLastD 0 = ns.getLast h := by rw [List.getLastD_eq_getLast?, List.getLast?_eq_some_getLast h]; rfl
  rw [e2]
  conv => lhs; rw [e]
  rw [show iV (ns.dropLast ++ [ns.getLast h]) = iV ns.dropLast ++ [V.int (ns.getLast h)] by simp]
  exact L2.atI_last _ _
theorem nI_last (es : List Nat) (d : Nat) : (nI es).getLastD (d : Int) = ((es.getLastD d : Nat) : Int) := by
  rw [List.getLastD_eq_getLast?, List.getLastD_eq_getLast?, List.getLast?_map]
  cases es.getLast? <;> rfl
end
/-- is it a list of whole numbers from 1 to m, n at the most -/
def okL (xs : List V) (m : Int) (n : Nat) : Bool := xs.all (fun x => whole x 1 m) && decide ((xs.length : Int) ≤ n)
def ListArg (K : PySem.W.Frag) (H : Hp) (v : V) (m : Int) (n : Nat) (b : Bool) : Prop :=
  (NonSeq H v ∧ b = false) ∨ ∃ a xs, v = .ref a ∧ Sq2 H a xs ∧ xs.length ≤ 1000 ∧ (∀ x ∈ xs, ∀ H', Ex H H' → Thing K H' x) ∧ b = okL xs m n
theorem ListArg.ex {K : PySem.W.Frag} {H H' : Hp} {v : V} {m : Int} {n : Nat} {b : Bool} (h : ListArg K H v m n b) (e : Ex H H') : ListArg K H' v m n b := by
  rcases h with ⟨h, hb⟩ | ⟨a, xs, h1, h2, h3, h4, h5⟩
  · exact .inl ⟨h.ex e, hb⟩
  · exact .inr ⟨a, xs, h1, h2.ex e, h3, fun x hx H2 e2 => h4 x hx H2 (e.tr e2), h5⟩
theorem all_whole {m : Int} : ∀ {ns : List Int}, (∀ n ∈ ns, 1 ≤ n ∧ n ≤ m) → (iV ns).all (fun x => whole x 1 m) = true
  | [], _ => rfl
  | n :: ns, h => by
    have h1 := h n List.mem_cons_self
    have h2 : whole (.int n) 1 m = true := by simp [whole, h1]
    show (whole (.int n) 1 m && (iV ns).all (fun x => whole x 1 m)) = true
    rw [h2, all_whole fun x hx => h x (List.mem_cons_of_mem _ hx)]
    rfl
theorem ListArg.good {K : PySem.W.Frag} {H : Hp} {a : Addr} {ns : List Int} {m : Int} {n : Nat} (h : Sq2 H a (iV ns)) (hb : ∀ w ∈ ns, 1 ≤ w ∧ w ≤ m) (hl : ns.length ≤ n) (hn : n ≤ 1000) : ListArg K H (.ref a) m n true := by
  refine .inr ⟨a, iV ns, rfl, h, by rw [List.length_map]; omega, fun x hx H' _ => ?_, ?_⟩
  · obtain ⟨i, _, rfl⟩ := List.mem_map.mp hx
    exact .int i
  · unfold okL
    rw [all_whole hb, List.length_map]
    simp; omega
/-- widths and lengths that may be cut -/
structure Good2 (H : Hp) (a c : Addr) (ws ls : List Int) : Prop where
  a : Sq2 H a (iV ws)
  c : Sq2 H c (iV ls)
  wl : ws.length ≤ 60
  ll : ls.length ≤ 40
  wb : ∀ w ∈ ws, 1 ≤ w ∧ w ≤ 99
  lb : ∀ l ∈ ls, 1 ≤ l ∧ l ≤ 999
theorem Good2.ex {H H' : Hp} {a c : Addr} {ws ls : List Int} (g : Good2 H a c ws ls) (e : Ex H H') : Good2 H' a c ws ls := ⟨g.a.ex e, g.c.ex e, g.wl, g.ll, g.wb, g.lb⟩
theorem Good2.argA {K : PySem.W.Frag} {H : Hp} {a c : Addr} {ws ls : List Int} (g : Good2 H a c ws ls) : ListArg K H (.ref a) 99 60 true := .good g.a g.wb g.wl (by decide)
theorem Good2.argC {K : PySem.W.Frag} {H : Hp} {a c : Addr} {ws ls : List Int} (g : Good2 H a c ws ls) : ListArg K H (.ref c) 999 40 true := .good g.c g.lb g.ll (by decide)
theorem Good2.pos {H : Hp} {a c : Addr} {ws ls : List Int} (g : Good2 H a c ws ls) : ∀ w ∈ ws, 0 < w := fun w h => by have := g.wb w h; omega
abbrev lastE (es : List Nat) : Nat := es.getLastD 0
def wordOf (ws ls : List Int) (keep : Int) : Str := if stood ws keep 0 ls < ws.length then "short" else "all"
def spareV (ws ls : List Int) (keep spare : Int) : Option (Nat × List Nat) :=
  if stood ws keep 0 ls < ws.length then none else
    (more spare ((ls.take (few ws keep 0 ls).length).sum - ws.sum) (ls.drop (few ws keep 0 ls).length)).map fun k => ((few ws keep 0 ls).length + k, few ws keep 0 ls ++ List.replicate k ws.length)
theorem cut_loI {ns : List Int} {b : Nat} : cutV (iV ns) (some (b : Int)) none = iV (ns.drop b) := by
  rw [cut_lo (by omega), Int.toNat_natCast]; exact List.map_drop.symm
theorem cut_hiI {ns : List Int} {b : Nat} : cutV (iV ns) none (some (b : Int)) = iV (ns.take b) := by
  rw [cut_hi (by omega), Int.toNat_natCast]; exact List.map_take.symm
theorem get_iV {ns : List Int} {i : Nat} {x : V} (h : (iV ns)[i]? = some x) : ∃ n, x = .int n ∧ ns[i]? = some n := by
  rw [List.getElem?_map] at h
  cases e : ns[i]? with
  | none => rw [e] at h; cases h
  | some n => rw [e] at h; cases h; exact ⟨n, rfl, rfl⟩
theorem iV_snoc (ns : List Int) (n : Int) : iV ns ++ [V.int n] = iV (ns ++ [n]) := by simp
theorem nV_snoc (ns : List Nat) (n : Nat) : nV ns ++ [V.int (n : Int)] = nV (ns ++ [n]) := by simp
theorem q_sl3 {K : PySem.W.Frag} {H : Hp} {Q : VK} {a : Addr} {xs : List V} {lo hi : Option Int} (h : Sq2 H a xs) (k : ∀ p H', (p = a ∨ H p = none) → Sq2 H' p (cutV xs lo hi) → Ex H H' → Q (.ref p) H') : rSlC K (.ref a) lo hi H Q := by
  rcases h with h | h
  · exact .inl (q_slL (SqL.of h) fun p H' n hp e => k p H' (.inr n) (.inl hp) e)
  · refine .inr ⟨a, xs, rfl, SqT.of h, fun w => k a H (.inl rfl) (by rw [cut_whole w]; exact .inr h) Ex.rfl, fun _ p hp => k p _ (.inr hp) (.inr upd_same) (Ex.new hp)⟩
theorem drop_of_get {α : Type} {xs : List α} {i : Nat} {x : α} (h : xs[i]? = some x) : xs.drop i = x :: xs.drop (i + 1) := by
  obtain ⟨hlt, e⟩ := List.getElem?_eq_some_iff.mp h
  rw [List.drop_eq_getElem_cons hlt, e]
theorem rep_snoc {α : Type} (es : List α) (i : Nat) (x : α) : es ++ List.replicate i x ++ [x] = es ++ List.replicate (i + 1) x := by
  rw [List.append_assoc, List.replicate_succ']
def cutG {α : Type} (xs : List α) (lo hi : Option Int) : List α := (xs.drop (HT.sIx xs.length 0 lo)).take (HT.sIx xs.length xs.length hi - HT.sIx xs.length 0 lo)
theorem cut_iV (ns : List Int) (lo hi : Option Int) : cutV (iV ns) lo hi = iV (cutG ns lo hi) := by
  show ((iV ns).drop (HT.sIx (iV ns).length 0 lo)).take (HT.sIx (iV ns).length (iV ns).length hi - HT.sIx (iV ns).length 0 lo) = iV (cutG ns lo hi)
  rw [List.length_map]
  unfold cutG iV
  rw [List.map_take, List.map_drop]
theorem iV_ne {ns : List Int} (h : iV ns ≠ []) : ∃ m r, ns = m :: r := by
  cases ns with
  | nil => exact absurd rfl h
  | cons m r => exact ⟨m, r, rfl⟩
theorem q_orList {K : PySem.W.Frag} {H1 : Hp} {Q : VK} {σ : L2.St} {a : Addr} {xs : List V} {m : V} (h : Sq2 H1 a xs) (k : ∀ p H2 x r, Sq2 H2 p (x :: r) → (x = m ∨ x ∈ xs) → Ex H1 H2 → Q (.ref p) H2) :
    ∃ k, TruV K (.ref a) H1 k ∧ if k = true then Q (.ref a) H1 else tLst (tCons (tC m) tNil) σ H1 Q := by
  refine q_tru h (fun hne => ?_) (fun _ => ?_)
  · cases xs with
    | nil => exact absurd rfl hne
    | cons x r => exact k a H1 x r h (.inr List.mem_cons_self) Ex.rfl
  · refine q_lst (q_cons (q_c (q_nil ?_)))
    exact q_newL fun p H2 _ h2 e2 => k p H2 m [] (.inl h2) (.inl rfl) e2
theorem q_ix2 {K : PySem.W.Frag} {H : Hp} {Q : VK} {p : Addr} {xs : List V} {i : Int} {v : V} (h : Sq2 H p xs) (a : atI xs i = some v) (k : Q v H) : rIx K (.ref p) (.int i) H Q := h.elim (fun h => q_ixL (SqL.of h) a k) fun h => q_ixT (SqT.of h) a k
theorem int_of {m x : V} {xs : List V} (h : x = m ∨ x ∈ xs) (hm : ∃ i, m = .int i) (hx : ∀ v ∈ xs, ∃ i, v = .int i) : ∃ i, x = .int i := h.elim (fun e => e ▸ hm) (hx x)
theorem iV_int {ns : List Int} : ∀ v ∈ iV ns, ∃ i, v = V.int i := fun v h => by
  obtain ⟨i, _, rfl⟩ := List.mem_map.mp h
  exact ⟨i, rfl⟩
theorem at_hd {α : Type} {x : α} {r : List α} : atI (x :: r) 0 = some x := atI_nat (j := 0) rfl
/-! ## a law's counting -/
def leV (L : Int) : V → Bool
  | .int i => decide (i ≤ L)
  | _ => false
theorem filter_leV (L : Int) : ∀ ns : List Int, ((iV ns).filter (leV L)).map id = iV (ns.filter fun i => decide (i ≤ L))
  | [] => rfl
  | n :: ns => by
    have ih := filter_leV L ns
    rw [List.map_id] at ih ⊢
    show (V.int n :: iV ns).filter (leV L) = _
    rw [List.filter_cons, List.filter_cons, show leV L (.int n) = decide (n ≤ L) from rfl, ih]
    split <;> rfl
theorem pre_lastD (ws : List Int) (s : Int) : (pre s ws).getLastD 0 = s + ws.sum := by
  rw [List.getLastD_eq_getLast?, List.getLast?_eq_getElem?, pre_length, Nat.add_sub_cancel, pre_last]; rfl
theorem pre_ne (ws : List Int) (s : Int) : pre s ws ≠ [] := fun h => by
  have := pre_length ws s
  rw [h] at this; simp at this
theorem pre_at {ws : List Int} {b : Nat} (h : b ≤ ws.length) : atI (iV (pre 0 ws)) (b : Int) = some (V.int (ws.take b).sum) := by
  refine atI_nat ?_
  rw [List.getElem?_map, pre_get h, Int.zero_add]; rfl
theorem cutG_nat {α : Type} (xs : List α) (i j : Nat) : cutG xs (some (i : Int)) (some (j : Int)) = (xs.drop i).take (j - i) := by
  unfold cutG
  rw [HT.sIx_nat, HT.sIx_nat]
  by_cases c : i ≤ xs.length
  · rw [Nat.min_eq_left c]
    by_cases d : j ≤ xs.length
    · rw [Nat.min_eq_left d]
    · rw [Nat.min_eq_right (by omega), List.take_of_length_le (by rw [List.length_drop]; omega), List.take_of_length_le (by rw [List.length_drop]; omega)]
  · rw [Nat.min_eq_right (show xs.length ≤ i by omega), List.drop_of_length_le (Nat.le_refl _), List.drop_of_length_le (show xs.length ≤ i by omega), List.take_nil, List.take_nil]
theorem sum_one (ls : List Int) (i : Nat) : (ls.take i).sum + (cutG ls (some (i : Int)) (some (((i + 1 : Nat)) : Int))).sum = (ls.take (i + 1)).sum := by
  rw [cutG_nat, show i + 1 - i = 1 by omega, List.take_add, List.sum_append]
theorem head_nil {α : Type} {l : List α} : l.head? = none ↔ l = [] := by cases l <;> simp
theorem rep_one {α : Type} (k : Nat) (x : α) : (List.replicate k [x]).flatten = List.replicate k x := by simp
theorem q_isiTup1 {K : PySem.W.Frag} {H : Hp} {Q : VK} {p : Addr} {xs : List V} (h : H p = some (.tup xs)) (k : Q (.bl true) H) : rIsiX K [.ref p, .ty "tuple"] H Q := .inl ⟨_, _, .type "tuple", .type "tuple", _, rfl, .ty _, .base (.tup h), kit_ty kit_tuple_tuple, k⟩
theorem q_listOf2 {K : PySem.W.Frag} {H : Hp} {Q : VK} {p : Addr} {ys : List V} (h : Sq2 H p ys) (k : ∀ l H', H l = none → H' l = some (.lst ys) → Ex H H' → Q (.ref l) H') : rListOf K [.ref p] H Q :=
  ⟨p, ys, rfl, h.or, fun l hl => k l _ hl upd_same (Ex.new hl)⟩
/-- (word, ends) as data -/
def dueD (w : Str) (es : List Nat) : PyData := .tuple [.str w, .list ((nI es).map PyData.int)]
theorem nI_small {es : List Nat} {m : Nat} (h : ∀ e ∈ es, e ≤ m) (hm : m < 1000000) : ∀ n ∈ nI es, 0 ≤ n ∧ n < 1000000 := fun n hn => by
  obtain ⟨e, he, rfl⟩ := List.mem_map.mp hn
  have := h e he
  constructor
  · exact Int.natCast_nonneg e
  · show (e : Int) < 1000000
    omega
theorem dueD_ok {w : Str} {es : List Nat} {m : Nat} (hw : Tn 10 w) (h : ∀ e ∈ es, e ≤ m) (hm : m < 1000000) (hz : es.length ≤ 100) : (dueD w es).showable = true ∧ (dueD w es).depth ≤ 40 ∧ (dueD w es).shown.length ≤ sizeLine := by
  obtain ⟨a, b, c⟩ := short_ints (nI_small h hm) (by rw [List.length_map]; exact hz)
  obtain ⟨d, e, f⟩ := short_str hw
  refine ⟨by simp [dueD, PyData.showable, PyData.showableAll] at a ⊢; exact a, ?_, ?_⟩
  · simp only [dueD, PyData.depth, PyData.depthAll] at *
    omega
  · have h1 := PySem.tupleText_len_le [(PyData.str w).shown, (PyData.list ((nI es).map PyData.int)).shown]
    simp only [List.map_cons, List.map_nil, List.sum_cons, List.sum_nil, List.length_cons, List.length_nil] at h1
    show (tupleText [(PyData.str w).shown, (PyData.list ((nI es).map PyData.int)).shown]).length ≤ sizeLine
    rw [sizeLine_eq]
    omega
theorem dueD_dd {K : PySem.W.Frag} {H : Hp} {p q : Addr} {w : Str} {es : List Nat} (h : H p = some (.tup [.str w, .ref q])) (h2 : H q = some (.lst (nV es))) : Dd K H (.ref p) (dueD w es) :=
  .tup (SqT.of h) (.cons (.str w) (.cons (.lst (SqL.of h2) (dd_ints _)) .nil))
/-- (number, ends) as data -/
def spaD (n : Nat) (es : List Nat) : PyData := .tuple [.int (n : Int), .list ((nI es).map PyData.int)]
theorem spaD_ok {n : Nat} {es : List Nat} {m : Nat} (hn : n < 1000000) (h : ∀ e ∈ es, e ≤ m) (hm : m < 1000000) (hz : es.length ≤ 100) : (spaD n es).showable = true ∧ (spaD n es).depth ≤ 40 ∧ (spaD n es).shown.length ≤ sizeLine := by
  obtain ⟨a, b, c⟩ := short_ints (nI_small h hm) (by rw [List.length_map]; exact hz)
  have h2 : (PyData.int (n : Int)).showable = true := by
    simp only [PyData.showable]
    exact decide_eq_true (log_small (by omega) (by omega))
  have h3 : ((PyData.int (n : Int)).shown).length ≤ 6 := (num_Tn (n := n) (k := 6) (by decide) (by omega)).1
  refine ⟨by simp only [spaD, PyData.showable, PyData.showableAll] at a h2 ⊢; simp only [a, h2, Bool.and_self], ?_, ?_⟩
  · simp only [spaD, PyData.depth, PyData.depthAll] at *
    omega
  · have h1 := PySem.tupleText_len_le [(PyData.int (n : Int)).shown, (PyData.list ((nI es).map PyData.int)).shown]
    simp only [List.map_cons, List.map_nil, List.sum_cons, List.sum_nil, List.length_cons, List.length_nil] at h1
    show (tupleText [(PyData.int (n : Int)).shown, (PyData.list ((nI es).map PyData.int)).shown]).length ≤ sizeLine
    rw [sizeLine_eq]
    omega
theorem spaD_dd {K : PySem.W.Frag} {H : Hp} {p q : Addr} {n : Nat} {es : List Nat} (h : H p = some (.tup [.int (n : Int), .ref q])) (h2 : H q = some (.lst (nV es))) : Dd K H (.ref p) (spaD n es) :=
  .tup (SqT.of h) (.cons (.int _) (.cons (.lst (SqL.of h2) (dd_ints _)) .nil))
theorem wordOf_Tn (ws ls : List Int) (keep : Int) : Tn 10 (wordOf ws ls keep) := by
  unfold wordOf
  split
  · exact ⟨by decide +kernel, by decide +kernel⟩
  · exact ⟨by decide +kernel, by decide +kernel⟩
theorem more_le (spare : Int) : ∀ (ls : List Int) (gap : Int) (k : Nat), more spare gap ls = some k → k ≤ ls.length
  | [], gap, k, h => by
    unfold more at h
    split at h <;> cases h
    exact Nat.le_refl _
  | l :: r, gap, k, h => by
    unfold more at h
    split at h
    · cases h; exact Nat.zero_le _
    · cases e : more spare (gap + l) r with
      | none => rw [e] at h; cases h
      | some j =>
        rw [e] at h; cases h
        exact Nat.succ_le_succ (more_le spare r _ j e)
theorem spareV_ok {ws ls : List Int} {keep spare : Int} {n : Nat} {es : List Nat} (h : spareV ws ls keep spare = some (n, es)) : n ≤ ls.length ∧ es.length = n ∧ ∀ e ∈ es, e ≤ ws.length := by
  unfold spareV at h
  split at h
  · cases h
  · cases e : more spare ((ls.take (few ws keep 0 ls).length).sum - ws.sum) (ls.drop (few ws keep 0 ls).length) with
    | none => rw [e] at h; cases h
    | some k =>
      rw [e] at h
      cases h
      have h1 := more_le _ _ _ _ e
      have h2 := few_length ws keep ls 0
      rw [List.length_drop] at h1
      refine ⟨by omega, by rw [List.length_append, List.length_replicate], fun x hx => ?_⟩
      rcases List.mem_append.mp hx with z | z
      · exact few_le ws keep ls 0 (Nat.zero_le _) x z
      · rw [(List.mem_replicate.mp z).2]; exact Nat.le_refl _
/-- two lists of two lists each -/
def twoD (ns ms : List Int) : PyData := .list [.list (ns.map PyData.int), .list (ms.map PyData.int)]
theorem two_shaped (ns ms : List Int) : SeqAt.shaped (twoD ns ms) = true := by
  obtain ⟨a, b⟩ := shaped_all ns
  obtain ⟨c, d⟩ := shaped_all ms
  simp only [twoD, SeqAt.shaped, PyData.canLay0, PyData.canLayAll0, PyData.depth, PyData.depthAll, a, b, c, d, Bool.and_self, Bool.true_and]
  decide
theorem q_eqTwo {K : PySem.W.Frag} {H : Hp} {Q : VK} {p q p1 p2 q1 q2 : Addr} {ns ms : List Int} (hp : H p = some (.lst [.ref p1, .ref p2])) (hq : H q = some (.lst [.ref q1, .ref q2]))
    (h1 : H p1 = some (.lst (iV ns))) (h2 : H p2 = some (.lst (iV ms))) (h3 : H q1 = some (.lst (iV ns))) (h4 : H q2 = some (.lst (iV ms))) (k : Q (.bl true) H) : rEqA K (.ref p) (.ref q) H Q :=
  q_eqDt (d := twoD ns ms) (e := twoD ns ms) (.lst (SqL.of hp) (.cons (.lst (SqL.of h1) (dp_ints _)) (.cons (.lst (SqL.of h2) (dp_ints _)) .nil)))
    (.lst (SqL.of hq) (.cons (.lst (SqL.of h3) (dp_ints _)) (.cons (.lst (SqL.of h4) (dp_ints _)) .nil))) (two_shaped _ _) (two_shaped _ _) (by rw [SeqAt.eqv_refl _ (SeqAt.canLay_of_shaped (two_shaped _ _))]; exact k)


/-! # Things made by hand, as data -/
/-- what is new -/
def nw (H H' : Hp) : Hp := fun a => match H a with
  | none => H' a
  | some _ => none
theorem nw_of {H H' : Hp} {a : Addr} {o : HO} (h : H a = none) (h' : H' a = some o) : nw H H' a = some o := by
  unfold nw; rw [h]; exact h'
theorem nw_inv {H H' : Hp} {a : Addr} {o : HO} (h : nw H H' a = some o) : H a = none ∧ H' a = some o := by
  unfold nw at h
  cases e : H a with
  | none => rw [e] at h; exact ⟨rfl, h⟩
  | some u => rw [e] at h; cases h
/-- data with a short text -/
structure Dat (K : PySem.W.Frag) (H : Hp) (v : V) : Prop where
  th : Thing K H v
  dd : ∃ d, Dd K H v d ∧ Short d 6000
  it : ∀ p xs, v = .ref p → H p = some (.lst xs) → xs.length ≤ 100 ∧ ∀ x ∈ xs, Thing K H x
theorem thing_at {K : PySem.W.Frag} {H : Hp} {p : Addr} (h : Thing K H (.ref p)) : ∃ o, H p = some o := by
  cases h with
  | lst _ xs h => exact ⟨_, h⟩
  | tup _ xs h => exact ⟨_, h⟩
  | dK _ xs h => exact ⟨_, h⟩
  | exc _ C t m h h2 f => exact ⟨_, h⟩
theorem Dat.ex {K : PySem.W.Frag} {H H' : Hp} {v : V} (h : Dat K H v) (e : Ex H H') : Dat K H' v := by
  obtain ⟨d, hd, hs⟩ := h.dd
  refine ⟨h.th.ex e, ⟨d, dd_ex e hd, hs⟩, fun p xs hv hp => ?_⟩
  subst hv
  obtain ⟨o, ho⟩ := thing_at h.th
  have := e _ _ ho
  rw [hp] at this
  cases this
  obtain ⟨a, b⟩ := h.it p xs rfl ho
  exact ⟨a, fun x hx => (b x hx).ex e⟩
/-- a small thing -/
structure Sm (d : PyData) (m : Nat) : Prop where
  ok : d.showable = true
  dp : d.depth ≤ 3
  sz : d.shown.length ≤ m
theorem int_Sm {n : Int} (h0 : -1 ≤ n) (h1 : n < 1000000) : Sm (.int n) 10 := by
  by_cases h : n = -1
  · subst h; exact ⟨by decide +kernel, by decide +kernel, by decide +kernel⟩
  · obtain ⟨m, rfl⟩ := Int.eq_ofNat_of_zero_le (show 0 ≤ n by omega)
    refine ⟨?_, by simp only [PyData.depth]; omega, ?_⟩
    · simp only [PyData.showable]
      exact decide_eq_true (log_small (by omega) (by omega))
    · exact Nat.le_trans (num_Tn (n := m) (k := 6) (by decide) (by omega)).1 (by decide)
theorem all_Sm {m : Nat} : ∀ {ds : List PyData}, (∀ d ∈ ds, Sm d m) → PyData.showableAll ds = true ∧ PyData.depthAll ds ≤ 3 ∧ ((PyData.shownAll ds).map (·.length)).sum ≤ m * ds.length ∧ (PyData.shownAll ds).length = ds.length
  | [], _ => by simp [PyData.showableAll, PyData.depthAll, PyData.shownAll]
  | d :: ds, h => by
    obtain ⟨a, b, c, e⟩ := all_Sm (ds := ds) fun x hx => h x (List.mem_cons_of_mem _ hx)
    obtain ⟨x, y, z⟩ := h d List.mem_cons_self
    simp only [PyData.showableAll, PyData.depthAll, PyData.shownAll, List.map_cons, List.sum_cons, List.length_cons, a, x, Bool.and_self, e, Nat.mul_succ, true_and]
    refine ⟨Nat.max_le.mpr ⟨y, b⟩, by omega, trivial⟩
theorem short_lst {m : Nat} {ds : List PyData} (h : ∀ d ∈ ds, Sm d m) (hz : (m + 2) * ds.length + 3 ≤ 6000) : Short (.list ds) 6000 := by
  obtain ⟨a, b, c, e⟩ := all_Sm h
  refine ⟨by simp only [PyData.showable, a], by simp only [PyData.depth]; omega, ?_⟩
  simp only [PyData.shown]
  have h1 := PySem.listText_len_le (PyData.shownAll ds)
  rw [e] at h1
  have : (m + 2) * ds.length = m * ds.length + 2 * ds.length := Nat.add_mul _ _ _
  omega
theorem short_tpl {m : Nat} {ds : List PyData} (h : ∀ d ∈ ds, Sm d m) (hz : (m + 2) * ds.length + 3 ≤ 6000) : Short (.tuple ds) 6000 := by
  obtain ⟨a, b, c, e⟩ := all_Sm h
  refine ⟨by simp only [PyData.showable, a], by simp only [PyData.depth]; omega, ?_⟩
  simp only [PyData.shown]
  have h1 := PySem.tupleText_len_le (PyData.shownAll ds)
  rw [e] at h1
  have : (m + 2) * ds.length = m * ds.length + 2 * ds.length := Nat.add_mul _ _ _
  omega
theorem ints_Sm {ns : List Int} (h : ∀ n ∈ ns, -1 ≤ n ∧ n < 1000000) : ∀ d ∈ ns.map PyData.int, Sm d 10 := fun d hd => by
  obtain ⟨n, hn, rfl⟩ := List.mem_map.mp hd
  exact int_Sm (h n hn).1 (h n hn).2
theorem list_Sm {ns : List Int} (h : ∀ n ∈ ns, -1 ≤ n ∧ n < 1000000) (hz : ns.length ≤ 100) : Sm (.list (ns.map PyData.int)) 1203 := by
  obtain ⟨a, b, c, e⟩ := all_Sm (ints_Sm h)
  have hb := (shaped_all ns).2
  refine ⟨by simp only [PyData.showable, a], by simp only [PyData.depth, hb]; omega, ?_⟩
  simp only [PyData.shown]
  have h1 := PySem.listText_len_le (PyData.shownAll (ns.map PyData.int))
  rw [e] at h1
  rw [List.length_map] at c h1
  omega
theorem ddAll_app {K : PySem.W.Frag} {H : Hp} : ∀ {xs ys : List V} {ds es : List PyData}, DdAll K H xs ds → DdAll K H ys es → DdAll K H (xs ++ ys) (ds ++ es)
  | _, _, _, _, .nil, h => h
  | _, _, _, _, .cons a b, h => .cons a (ddAll_app b h)
theorem things_int {K : PySem.W.Frag} {H : Hp} {ns : List Int} : ∀ x ∈ iV ns, Thing K H x := fun x hx => by
  obtain ⟨i, _, rfl⟩ := List.mem_map.mp hx
  exact .int i
theorem Dat.ints {K : PySem.W.Frag} {H : Hp} {p : Addr} {ns : List Int} (h : H p = some (.lst (iV ns))) (hn : ∀ n ∈ ns, -1 ≤ n ∧ n < 1000000) (hz : ns.length ≤ 100) : Dat K H (.ref p) :=
  ⟨.lst p _ h, ⟨_, .lst (SqL.of h) (dd_ints ns), short_lst (ints_Sm hn) (by rw [List.length_map]; omega)⟩, fun q xs e hq => by
    cases e
    rw [h] at hq; cases hq
    exact ⟨by rw [List.length_map]; exact hz, things_int⟩⟩
theorem Dat.itup {K : PySem.W.Frag} {H : Hp} {p : Addr} {ns : List Int} (h : H p = some (.tup (iV ns))) (hn : ∀ n ∈ ns, -1 ≤ n ∧ n < 1000000) (hz : ns.length ≤ 100) : Dat K H (.ref p) :=
  ⟨.tup p _ h, ⟨_, .tup (SqT.of h) (dd_ints ns), short_tpl (ints_Sm hn) (by rw [List.length_map]; omega)⟩, fun q xs e hq => by
    cases e
    rw [h] at hq; cases hq⟩
/-- a flat thing: none, a number, a truth, a text -/
theorem Dat.flat {K : PySem.W.Frag} {H : Hp} {v : V} {d : PyData} (t : Thing K H v) (h : Dd K H v d) (s : Sm d 1300) (hv : ∀ p, v ≠ .ref p) : Dat K H v :=
  ⟨t, ⟨d, h, s.ok, Nat.le_trans s.dp (by decide), Nat.le_trans s.sz (by decide)⟩, fun p xs e _ => absurd e (hv p)⟩
theorem Dat.list {K : PySem.W.Frag} {H : Hp} {p : Addr} {xs : List V} {ds : List PyData} {m : Nat} (h : H p = some (.lst xs)) (hd : DdAll K H xs ds) (hs : ∀ d ∈ ds, Sm d m) (hz : (m + 2) * ds.length + 3 ≤ 6000) (hl : xs.length ≤ 100) (ht : ∀ x ∈ xs, Thing K H x) : Dat K H (.ref p) :=
  ⟨.lst p _ h, ⟨_, .lst (SqL.of h) hd, short_lst hs hz⟩, fun q ys e hq => by
    cases e
    rw [h] at hq; cases hq
    exact ⟨hl, ht⟩⟩
theorem Dat.tuple {K : PySem.W.Frag} {H : Hp} {p : Addr} {xs : List V} {ds : List PyData} {m : Nat} (h : H p = some (.tup xs)) (hd : DdAll K H xs ds) (hs : ∀ d ∈ ds, Sm d m) (hz : (m + 2) * ds.length + 3 ≤ 6000) : Dat K H (.ref p) :=
  ⟨.tup p _ h, ⟨_, .tup (SqT.of h) hd, short_tpl hs hz⟩, fun q ys e hq => by
    cases e
    rw [h] at hq; cases hq⟩
theorem Dat.dict {K : PySem.W.Frag} {H : Hp} {p : Addr} {kvs : List (Key × V)} {es : List (PyData × PyData)} (h : H p = some (.dK kvs)) (h1 : DdAll K H (kvs.map fun p => kV p.1) (es.map (·.1))) (h2 : DdAll K H (kvs.map (·.2)) (es.map (·.2))) (hs : Short (.dict es) 6000) : Dat K H (.ref p) :=
  ⟨.dK p _ h, ⟨_, .dic h h1 h2, hs⟩, fun q ys e hq => by
    cases e
    rw [h] at hq; cases hq⟩
/-- are these the ends? -/
def endsB (H : Hp) (v : V) (es : List Nat) : Bool := match v with
  | .ref p => match H p with
    | some (.lst xs) => decide (xs = nV es)
    | _ => false
  | _ => false
def wholesB (H : Hp) (v : V) (m : Int) : Bool := match v with
  | .ref p => match H p with
    | some (.lst xs) => xs.all fun x => whole x 0 m
    | _ => false
  | _ => false
theorem iV_inj {ns ms : List Int} : iV ns = iV ms ↔ ns = ms := ⟨fun h => by
  have : ∀ {a b : List Int}, iV a = iV b → a = b := by
    intro a
    induction a with
    | nil => intro b h; cases b with
      | nil => rfl
      | cons y b => cases h
    | cons x a ih => intro b h; cases b with
      | nil => cases h
      | cons y b =>
        have h' := List.cons.inj h
        rw [V.int.inj h'.1, ih h'.2]
  exact this h, fun h => by rw [h]⟩
theorem wholes_iV {m : Int} : ∀ {xs : List V}, xs.all (fun x => whole x 0 m) = true → ∃ ns, xs = iV ns ∧ ∀ n ∈ ns, 0 ≤ n ∧ n ≤ m
  | [], _ => ⟨[], rfl, fun n h => by cases h⟩
  | x :: xs, h => by
    rw [List.all_cons, Bool.and_eq_true] at h
    obtain ⟨ns, e, hn⟩ := wholes_iV h.2
    cases x with
    | int i =>
      refine ⟨i :: ns, by rw [e] <;> rfl, fun n hn' => ?_⟩
      have hw : 0 ≤ i ∧ i ≤ m := by simpa [whole] using h.1
      rcases List.mem_cons.mp hn' with rfl | z
      · exact hw
      · exact hn n z
    | _ => exact absurd h.1 (by simp [whole])
theorem all_nV {es : List Nat} {n : Nat} (h : ∀ e ∈ es, e ≤ n) : (nV es).all (fun x => whole x 0 (n : Int)) = true := by
  rw [List.all_eq_true]
  intro x hx
  obtain ⟨i, hi, rfl⟩ := List.mem_map.mp hx
  obtain ⟨e, he, rfl⟩ := List.mem_map.mp hi
  have := h e he
  have h2 : (0 : Int) ≤ Int.ofNat e ∧ Int.ofNat e ≤ n := ⟨Int.natCast_nonneg e, by show (e : Int) ≤ n; omega⟩
  show (decide ((0 : Int) ≤ Int.ofNat e) && decide (Int.ofNat e ≤ n)) = true
  rw [decide_eq_true h2.1, decide_eq_true h2.2]; rfl
def vIsI : V → Bool
  | .int _ => true
  | _ => false
theorem isI_iV : ∀ {xs : List V}, (∀ x ∈ xs, vIsI x = true) → ∃ ns, xs = iV ns
  | [], _ => ⟨[], rfl⟩
  | x :: xs, h => by
    obtain ⟨ns, e⟩ := isI_iV (xs := xs) fun y hy => h y (List.mem_cons_of_mem _ hy)
    have h1 := h x List.mem_cons_self
    cases x with
    | int i => exact ⟨i :: ns, by rw [e] <;> rfl⟩
    | _ => cases h1
theorem iV_isI {ns : List Int} : ∀ x ∈ iV ns, vIsI x = true := fun x hx => by
  obtain ⟨i, _, rfl⟩ := List.mem_map.mp hx
  rfl
/-- each turn draws, and gives a thing with what is new at it -/
theorem q_rngBoxR {j : Nat} {te : TE} {vs : List Nat} {σ : L2.St} {H : Hp} {Q : VK} {N : Int} (b : Addr) (n m : Nat) (R : Addr → V → Hp → Prop) (hR : ∀ D v H H', (∀ a o, H a = some o → a ≠ D → a ≠ b → H' a = some o) → R D v H → R D v H') (h0 : 0 ≤ N ∧ N ≤ 500) (hB : BoxAt H b n) (hw : ∀ x, wipe ((wipe σ vs).set j (some x)) vs = wipe σ vs)
    (he : ∀ (i : Nat) (D : Addr) (H1 : Hp) (zs : List V), (i : Int) < N → H1 D = some (.lst zs) → D ≠ b → BoxAt H1 b (n + i * m) → Fb b H H1 → ∀ Q' : VK, (∀ v H2, R D v H2 → BoxAt H2 b (n + i * m + m) → Fb b H1 H2 → Q' v H2) → te ((wipe σ vs).set j (some (.int (i : Int)))) H1 Q')
    (k : ∀ p H' xs, H p = none → H' p = some (.lst xs) → xs.length = N.toNat → (∀ v ∈ xs, R p v H') → BoxAt H' b (n + N.toNat * m) → Fb b H H' → Q (.ref p) H') : RngK (gName j) tYes te vs σ Q [.int N] H := by
  refine ⟨N, rfl, by omega, by omega, fun D hD => lc_range (lo := 0) (n := N.toNat) (fun i H' => ∃ xs, H' D = some (.lst xs) ∧ xs.length = i ∧ (∀ v ∈ xs, R D v H') ∧ BoxAt H' b (n + i * m) ∧ Fb b H H') ?_ ?_ ?_⟩
  · exact ⟨[], upd_same, rfl, fun v hv => absurd hv (by simp), (by rw [Nat.zero_mul]; exact hB.ex (Ex.new hD)), Fb.new hD⟩
  · rintro i H' hi ⟨xs, hx, hl, hp, B, f⟩
    have nD : D ≠ b := hB.ne hD
    rw [Int.zero_add]
    refine ⟨hw _, ?_⟩
    refine q_yes ?_
    rw [if_pos rfl]
    refine he i D H' xs (by omega) hx nD B f _ fun v H4 hv B4 f4 => ⟨xs, f4.get hx nD, small1000 (by omega), xs ++ [v], upd_same, by rw [List.length_append, hl] <;> rfl, ?_, ?_, ?_⟩
    · intro u hu
      rcases List.mem_append.mp hu with z | z
      · exact hR D u H' _ (fun a o ha h1 h2 => by rw [upd_ne h1]; exact f4 _ _ ha h2) (hp u z)
      · rw [List.mem_singleton] at z
        rw [z]; exact hR D v H4 _ (fun a o ha h1 _ => by rw [upd_ne h1]; exact ha) hv
    · obtain ⟨x, y, z, h, r⟩ := B4
      refine ⟨x, y, z, by rw [upd_ne nD.symm]; exact h, ?_⟩
      rw [Nat.succ_mul, ← Nat.add_assoc]
      exact r
    · intro a o ha na
      rw [upd_ne (ne_of_none ha hD)]
      exact f4 a o (f a o ha na) na
  · rintro H' ⟨xs, hx, hl, hp, B, f⟩
    exact k D H' xs hD hx hl hp B f
/-- the thing at v stands apart from D and b -/
def Apart (K : PySem.W.Frag) (b D : Addr) (v : V) (H : Hp) : Prop := ∃ Hs, Dat K Hs v ∧ ∀ a o, Hs a = some o → H a = some o ∧ a ≠ D ∧ a ≠ b
theorem Apart.keep {K : PySem.W.Frag} {b D : Addr} {v : V} {H H' : Hp} (h : Apart K b D v H) (e : ∀ a o, H a = some o → a ≠ D → a ≠ b → H' a = some o) : Apart K b D v H' := by
  obtain ⟨Hs, d, s⟩ := h
  exact ⟨Hs, d, fun a o ha => ⟨e a o (s a o ha).1 (s a o ha).2.1 (s a o ha).2.2, (s a o ha).2⟩⟩
theorem Apart.dat {K : PySem.W.Frag} {b D : Addr} {v : V} {H : Hp} (h : Apart K b D v H) : Dat K H v := by
  obtain ⟨Hs, d, s⟩ := h
  exact d.ex fun a o ha => (s a o ha).1
theorem Apart.of {K : PySem.W.Frag} {b D : Addr} {v : V} {H H' : Hp} {oD oB : HO} (h : Dat K (nw H H') v) (hD : H D = some oD) (hb : H b = some oB) : Apart K b D v H' :=
  ⟨_, h, fun a o ha => by
    obtain ⟨h1, h2⟩ := nw_inv ha
    refine ⟨h2, ⟨fun e => ?_, fun e => ?_⟩⟩
    · rw [e, hD] at h1; cases h1
    · rw [e, hb] at h1; cases h1⟩
theorem Dat.repr {K : PySem.W.Frag} {H : Hp} {v : V} (h : Dat K H v) : ∃ d, Dd K H v d ∧ d.showable = true ∧ d.depth ≤ 40 ∧ d.shown.length ≤ sizeLine := by
  obtain ⟨d, a, b⟩ := h.dd
  exact ⟨d, a, b.ok, Nat.le_trans b.dp (by decide), Nat.le_trans b.sz (by rw [sizeLine_eq]; decide)⟩
theorem endsB_lst {H : Hp} {p : Addr} {xs : List V} {es : List Nat} (h : H p = some (.lst xs)) : endsB H (.ref p) es = decide (xs = nV es) := by simp only [endsB, h]
theorem endsB_tup {H : Hp} {p : Addr} {xs : List V} {es : List Nat} (h : H p = some (.tup xs)) : endsB H (.ref p) es = false := by simp only [endsB, h]
theorem endsB_dK {H : Hp} {p : Addr} {xs : List (Key × V)} {es : List Nat} (h : H p = some (.dK xs)) : endsB H (.ref p) es = false := by simp only [endsB, h]
theorem endsB_exc {H : Hp} {p C t : Addr} {es : List Nat} (h : H p = some (exoM p C t)) : endsB H (.ref p) es = false := by simp only [endsB, h, exoM]
theorem wholesB_lst {H : Hp} {p : Addr} {xs : List V} {m : Int} (h : H p = some (.lst xs)) : wholesB H (.ref p) m = xs.all (fun x => whole x 0 m) := by simp only [wholesB, h]
theorem wholesB_tup {H : Hp} {p : Addr} {xs : List V} {m : Int} (h : H p = some (.tup xs)) : wholesB H (.ref p) m = false := by simp only [wholesB, h]
theorem wholesB_dK {H : Hp} {p : Addr} {xs : List (Key × V)} {m : Int} (h : H p = some (.dK xs)) : wholesB H (.ref p) m = false := by simp only [wholesB, h]
theorem wholesB_exc {H : Hp} {p C t : Addr} {m : Int} (h : H p = some (exoM p C t)) : wholesB H (.ref p) m = false := by simp only [wholesB, h, exoM]
theorem endsB_ex {K : PySem.W.Frag} {H H' : Hp} {v : V} {es : List Nat} (h : Thing K H v) (e : Ex H H') : endsB H' v es = endsB H v es := by
  cases v with
  | ref p =>
    obtain ⟨o, ho⟩ := thing_at h
    simp only [endsB, ho, e _ _ ho]
  | _ => rfl
theorem wholesB_ex {K : PySem.W.Frag} {H H' : Hp} {v : V} {m : Int} (h : Thing K H v) (e : Ex H H') : wholesB H' v m = wholesB H v m := by
  cases v with
  | ref p =>
    obtain ⟨o, ho⟩ := thing_at h
    simp only [wholesB, ho, e _ _ ho]
  | _ => rfl
/-- whole numbers in a list, and what else it may be -/
theorem wholesB_cases {K : PySem.W.Frag} {H : Hp} {v : V} {m : Int} (h : wholesB H v m = true) : ∃ p ns, v = .ref p ∧ H p = some (.lst (iV ns)) ∧ ∀ n ∈ ns, 0 ≤ n ∧ n ≤ m := by
  unfold wholesB at h
  cases v with
  | ref p =>
    simp only at h
    cases e : H p with
    | none => rw [e] at h; cases h
    | some o =>
      rw [e] at h
      cases o with
      | lst xs =>
        simp only at h
        obtain ⟨ns, rfl, hn⟩ := wholes_iV h
        exact ⟨p, ns, rfl, e, hn⟩
      | _ => cases h
  | _ => cases h
theorem ends_whole {H : Hp} {v : V} {es : List Nat} {n : Nat} (h : endsB H v es = true) (hn : ∀ e ∈ es, e ≤ n) : wholesB H v (n : Int) = true := by
  unfold endsB at h
  unfold wholesB
  cases v with
  | ref p =>
    simp only at h ⊢
    cases e : H p with
    | none => rw [e] at h; cases h
    | some o =>
      rw [e] at h
      cases o with
      | lst xs =>
        simp only at h ⊢
        rw [of_decide_eq_true h, all_nV hn]
      | _ => cases h
  | _ => cases h
theorem q_dispI {σ : L2.St} {H : Hp} {Q : VK} {i : Int} {v : V} (k : ∀ p H', H p = none → H' p = some (.dK [(Sum.inl i, v)]) → Ex H H' → Q (.ref p) H') : tDisp [(tC (.int i), tC v)] σ H Q := fun p h =>
  ⟨upd_same, [(Sum.inl i, v)], rfl, Nat.le_of_ble_eq_true rfl, k p _ h (by rw [upd_same]; rfl) (by rw [upd_upd]; exact Ex.new h)⟩
theorem sm_non : Sm .none 10 := ⟨by decide +kernel, by decide +kernel, by decide +kernel⟩
theorem sm_bl (b : Bool) : Sm (.bool b) 10 := by cases b <;> exact ⟨by decide +kernel, by decide +kernel, by decide +kernel⟩
theorem sm_str {n : Nat} {s : Str} (h : Tn n s) : Sm (.str s) (10 * n + 2) := ⟨by simp only [PyData.showable], by simp only [PyData.depth]; omega, by simp only [PyData.shown]; exact repr_Tn h⟩
theorem Sm.mono {d : PyData} {m n : Nat} (h : Sm d m) (l : m ≤ n) : Sm d n := ⟨h.ok, h.dp, Nat.le_trans h.sz l⟩
theorem Dat.non {K : PySem.W.Frag} {H : Hp} : Dat K H .non := .flat .non .non (sm_non.mono (by decide)) (fun p e => by cases e)
theorem Dat.int {K : PySem.W.Frag} {H : Hp} {n : Int} (h0 : -1 ≤ n) (h1 : n < 1000000) : Dat K H (.int n) := .flat (.int n) (.int n) ((int_Sm h0 h1).mono (by decide)) (fun p e => by cases e)
theorem Dat.bl {K : PySem.W.Frag} {H : Hp} {b : Bool} : Dat K H (.bl b) := .flat (.bl b) (.bl b) ((sm_bl b).mono (by decide)) (fun p e => by cases e)
theorem Dat.str {K : PySem.W.Frag} {H : Hp} {n : Nat} {s : Str} (h : Tn n s) (hn : n ≤ 100) : Dat K H (.str s) := .flat (.str s (h.mono (by omega))) (.str s) ((sm_str h).mono (by omega)) (fun p e => by cases e)
theorem one_Sm {d : PyData} {m : Nat} (h : Sm d m) : ∀ e ∈ [d], Sm e m := fun e he => by rw [List.mem_singleton.mp he]; exact h
theorem two_Sm {d d' : PyData} {m : Nat} (h : Sm d m) (h' : Sm d' m) : ∀ e ∈ [d, d'], Sm e m := fun e he => by
  rcases List.mem_cons.mp he with rfl | he
  · exact h
  · rw [List.mem_singleton.mp he]; exact h'
theorem one_thing {K : PySem.W.Frag} {H : Hp} {v : V} (h : Thing K H v) : ∀ x ∈ [v], Thing K H x := fun x hx => by rw [List.mem_singleton.mp hx]; exact h
/-- ints, one thing more, ints -/
theorem Dat.mid {K : PySem.W.Frag} {H : Hp} {p : Addr} {x : V} {d : PyData} {A B : List Int} (h : H p = some (.lst (iV A ++ [x] ++ iV B))) (hA : ∀ n ∈ A, -1 ≤ n ∧ n < 1000000) (hB : ∀ n ∈ B, -1 ≤ n ∧ n < 1000000) (hz : A.length + B.length ≤ 60) (hd : Dd K H x d) (hs : Sm d 30) (ht : Thing K H x) : Dat K H (.ref p) := by
  refine .list (m := 30) (ds := A.map PyData.int ++ [d] ++ B.map PyData.int) h (ddAll_app (ddAll_app (dd_ints A) (.cons hd .nil)) (dd_ints B)) ?_ ?_ ?_ ?_
  · intro e he
    rcases List.mem_append.mp he with he | he
    · rcases List.mem_append.mp he with he | he
      · exact (ints_Sm hA e he).mono (by decide)
      · rw [List.mem_singleton.mp he]; exact hs
    · exact (ints_Sm hB e he).mono (by decide)
  · simp only [List.length_append, List.length_map, List.length_singleton]; omega
  · simp only [List.length_append, List.length_map, List.length_singleton]; omega
  · intro y hy
    rcases List.mem_append.mp hy with hy | hy
    · rcases List.mem_append.mp hy with hy | hy
      · exact things_int y hy
      · rw [List.mem_singleton.mp hy]; exact ht
    · exact things_int y hy


/-! # Volumes: what is due, and things made of them -/
section
variable {X : Cx}
theorem isnot_bool_gen {M : Model} {A : Around} {E : Value → Shared → Prop} {s : Shared} {Q : Value → Shared → Prop} {v : Value} {b : Bool} (hv : ∀ id, v ≠ .builtin id) (h : Q (.bool (!(v == .bool b))) s) : wpAny M A (compareOp .IsNot v (.bool b)) Q E s := by
  cases v <;> first | exact wpAny_pure h | exact absurd rfl (hv _)
def rIsnotBA : R2 := fun x y H Q => ∃ b, y = .bl b ∧ Q (.bl (!isBl x b)) H
theorem op_isnotBA : OpR X (compareOp .IsNot) rIsnotBA := by
  intro pins s σ H x y v u Q I rx ry h
  obtain ⟨b, rfl, q⟩ := h
  cases (show u = Value.bool b from ry)
  have key : isBl x b = (v == Value.bool b) := by
    cases x with
    | non => cases (show v = _ from rx); rfl
    | bl a =>
      cases (show v = _ from rx)
      cases a <;> cases b <;> rfl
    | int i => obtain ⟨t, rfl⟩ := rx; rfl
    | str i => obtain ⟨t, rfl⟩ := rx; rfl
    | byt i => obtain ⟨t, rfl⟩ := rx; rfl
    | flt i => obtain ⟨t, rfl⟩ := rx; rfl
    | ref i => cases (show v = _ from rx); rfl
    | ty i => cases (show v = _ from rx); rfl
  rw [key] at q
  refine isnot_bool_gen (fun id e => ?_) ⟨.bl _, H, I, rfl, q⟩
  subst e
  cases x with
  | non => cases rx
  | bl a => cases rx
  | int i => obtain ⟨t, z⟩ := rx; cases z
  | str i => obtain ⟨t, z⟩ := rx; cases z
  | byt i => obtain ⟨t, z⟩ := rx; cases z
  | flt i => obtain ⟨t, z⟩ := rx; cases z
  | ref i => cases rx
  | ty i => cases rx
theorem q_isnotBA {H : Hp} {Q : VK} {x : V} {b : Bool} (k : Q (.bl (!isBl x b)) H) : rIsnotBA x (.bl b) H Q := ⟨b, rfl, k⟩
def rCatC (K : PySem.W.Frag) : R2 := fun x y H Q => rAddA x y H Q ∨ rCatA K x y H Q
theorem op_catC (K : PySem.W.Frag) (h : X.K = K) : OpR X (binaryOp .Add) (rCatC K) := h ▸ op_addA.or op_catA
end
theorem q_catT {K : PySem.W.Frag} {H : Hp} {Q : VK} {a b : Addr} {xs ys : List V} (ha : H a = some (.tup xs)) (hb : H b = some (.tup ys)) (hx : xs ≠ []) (hy : ys ≠ []) (hz : xs.length + ys.length ≤ sizeLine) (k : ∀ p H', H p = none → H' p = some (.tup (xs ++ ys)) → Ex H H' → Q (.ref p) H') : rCatC K (.ref a) (.ref b) H Q :=
  .inr ⟨a, b, xs, ys, rfl, rfl, SqT.of ha, SqT.of hb, hz, fun e => absurd e hx, fun _ e => absurd e hy, fun _ _ p hp => k p _ hp upd_same (Ex.new hp)⟩
/-- which thing of a volume is due to be refused -/
def volD (v : V) : Option (V × V × V × V) → Option (Str × V)
  | none => some ("volume", v)
  | some (a, b, c, d) => if lettersOf a 8 SMALL = false then some ("name", a) else if isMarkB b = false then some ("mark", b) else if whole c 1 9 = false then some ("number", c) else if whole d 1 99 = false then some ("number", d) else none
/-- a thing handed in as a volume -/
inductive Vol (K : PySem.W.Frag) (H : Hp) : V → Option (V × V × V × V) → Prop
  | no (v : V) (t : Thing K H v) (n : ∀ p a b c d, v = .ref p → H p ≠ some (.tup [a, b, c, d])) : Vol K H v none
  | yes (p : Addr) (a b c d : V) (h : H p = some (.tup [a, b, c, d])) (ta : Thing K H a) (tb : Thing K H b) (tc : Thing K H c) (td : Thing K H d) (sb : ∀ s, b = .str s → Tn 900 s) : Vol K H (.ref p) (some (a, b, c, d))
theorem Vol.ex {K : PySem.W.Frag} {H H' : Hp} {v : V} {x : Option (V × V × V × V)} (h : Vol K H v x) (e : Ex H H') : Vol K H' v x := by
  cases h with
  | no v t n =>
    refine .no v (t.ex e) fun p a b c d hv hp => ?_
    subst hv
    obtain ⟨o, ho⟩ := thing_at t
    rw [e _ _ ho] at hp
    cases hp
    exact n p a b c d rfl ho
  | yes p a b c d h ta tb tc td sb => exact .yes p a b c d (e _ _ h) (ta.ex e) (tb.ex e) (tc.ex e) (td.ex e) sb
theorem q_isiTup0 {K : PySem.W.Frag} {H : Hp} {Q : VK} {v : V} (h : Thing K H v) (hn : ∀ p xs, v = .ref p → H p ≠ some (.tup xs)) (hx : ∀ C t a, v = .ref a → H a ≠ some (exoM a C t)) (k : Q (.bl false) H) : rIsiX K [v, .ty "tuple"] H Q := by
  cases h with
  | non => exact .inl ⟨_, _, .type "NoneType", .type "tuple", _, rfl, .ty _, .base .non, kit_ty kit_NoneType_tuple, k⟩
  | bl b => exact .inl ⟨_, _, .type "bool", .type "tuple", _, rfl, .ty _, .base (.bl b), kit_ty kit_bool_tuple, k⟩
  | int i => exact .inl ⟨_, _, .type "int", .type "tuple", _, rfl, .ty _, .base (.int i), kit_ty kit_int_tuple, k⟩
  | str s h => exact .inl ⟨_, _, .type "str", .type "tuple", _, rfl, .ty _, .base (.str s), kit_ty kit_str_tuple, k⟩
  | lst p xs h => exact .inl ⟨_, _, .type "list", .type "tuple", _, rfl, .ty _, .base (.lst h), kit_ty kit_list_tuple, k⟩
  | tup p xs h => exact absurd h (hn p xs rfl)
  | dK p xs h => exact .inl ⟨_, _, .type "dict", .type "tuple", _, rfl, .ty _, .base (.dK h), kit_ty kit_dict_tuple, k⟩
  | exc p C t m h h2 f => exact .inr ⟨p, C, t, _, _, false, rfl, h, f.isc, (fun u r => r), f.nTup, k⟩
/-- isinstance(thing, tuple) and its length: all ways -/
theorem q_isiTup {K : PySem.W.Frag} {H : Hp} {Q : VK} {v : V} (h : Thing K H v) (k1 : ∀ p xs, v = .ref p → H p = some (.tup xs) → Q (.bl true) H) (k0 : (∀ p xs, v = .ref p → H p ≠ some (.tup xs)) → Q (.bl false) H) : rIsiX K [v, .ty "tuple"] H Q := by
  cases h with
  | non => exact .inl ⟨_, _, .type "NoneType", .type "tuple", _, rfl, .ty _, .base .non, kit_ty kit_NoneType_tuple, k0 fun _ _ e => by cases e⟩
  | bl b => exact .inl ⟨_, _, .type "bool", .type "tuple", _, rfl, .ty _, .base (.bl b), kit_ty kit_bool_tuple, k0 fun _ _ e => by cases e⟩
  | int i => exact .inl ⟨_, _, .type "int", .type "tuple", _, rfl, .ty _, .base (.int i), kit_ty kit_int_tuple, k0 fun _ _ e => by cases e⟩
  | str s h => exact .inl ⟨_, _, .type "str", .type "tuple", _, rfl, .ty _, .base (.str s), kit_ty kit_str_tuple, k0 fun _ _ e => by cases e⟩
  | lst p xs h => exact .inl ⟨_, _, .type "list", .type "tuple", _, rfl, .ty _, .base (.lst h), kit_ty kit_list_tuple, k0 fun _ _ e z => by cases e; rw [h] at z; cases z⟩
  | tup p xs h => exact q_isiTup1 h (k1 p xs rfl h)
  | dK p xs h => exact .inl ⟨_, _, .type "dict", .type "tuple", _, rfl, .ty _, .base (.dK h), kit_ty kit_dict_tuple, k0 fun _ _ e z => by cases e; rw [h] at z; cases z⟩
  | exc p C t m h h2 f => exact .inr ⟨p, C, t, _, _, false, rfl, h, f.isc, (fun u r => r), f.nTup, k0 fun _ _ e z => by cases e; rw [h] at z; cases z⟩
theorem q_isiLst {K : PySem.W.Frag} {H : Hp} {Q : VK} {v : V} (h : Thing K H v) (k1 : ∀ p xs, v = .ref p → H p = some (.lst xs) → Q (.bl true) H) (k0 : (∀ p xs, v = .ref p → H p ≠ some (.lst xs)) → Q (.bl false) H) : rIsiX K [v, .ty "list"] H Q := by
  by_cases c : ∃ p xs, v = .ref p ∧ H p = some (.lst xs)
  · obtain ⟨p, xs, rfl, hp⟩ := c
    exact q_isiLst1 hp (k1 p xs rfl hp)
  · exact q_isiLst0 h (fun p xs e z => c ⟨p, xs, e, z⟩) (k0 fun p xs e z => c ⟨p, xs, e, z⟩)
/-- a flat thing -/
def Flat1 (v : V) : Prop := (∃ i : Int, v = .int i ∧ -1 ≤ i ∧ i < 1000000) ∨ ∃ s, v = .str s ∧ Tn 100 s
theorem flat_sh {K : PySem.W.Frag} {H : Hp} : ∀ {xs : List V}, (∀ v ∈ xs, Flat1 v) → ∃ ts, ShAll K H xs ts 0 [] ∧ (ts.map (·.length)).sum ≤ 1010 * xs.length ∧ ts.length = xs.length
  | [], _ => ⟨[], .nil, by simp, rfl⟩
  | x :: xs, h => by
    obtain ⟨ts, a, b, c⟩ := flat_sh (K := K) (H := H) (xs := xs) fun v hv => h v (List.mem_cons_of_mem _ hv)
    rcases h x List.mem_cons_self with ⟨i, rfl, h0, h1⟩ | ⟨s, rfl, hs⟩
    · have si := int_Sm h0 h1
      refine ⟨_ :: ts, .cons (.int i (of_decide_eq_true (by simpa only [PyData.showable] using si.ok))) a, ?_, by rw [List.length_cons, c, List.length_cons]⟩
      have : ((toString i : Str)).length ≤ 10 := by simpa only [PyData.shown] using si.sz
      simp only [List.map_cons, List.sum_cons, List.length_cons]
      omega
    · refine ⟨_ :: ts, .cons (.str s) a, ?_, by rw [List.length_cons, c, List.length_cons]⟩
      have := repr_Tn hs
      simp only [List.map_cons, List.sum_cons, List.length_cons]
      omega
/-- one that may be due: its text, also when it is grown -/
structure OddG (K : PySem.W.Frag) (H : Hp) (v : V) (m : Nat) : Prop where
  th : Thing K H v
  sz : ∀ s, v = .str s → Tn 900 s
  sh : ∃ t d bs, Sh K H v t d bs ∧ d ≤ 5 + m / 20000 ∧ t.length ≤ m
  fl : ∀ q ys, v = .ref q → H q = some (.lst ys) → ys.length ≤ 10 ∧ ∀ y ∈ ys, Flat1 y
theorem OddG.ex {K : PySem.W.Frag} {H H' : Hp} {v : V} {m : Nat} (o : OddG K H v m) (e : Ex H H') : OddG K H' v m := by
  refine ⟨o.th.ex e, o.sz, let ⟨t, d, bs, a, b⟩ := o.sh; ⟨t, d, bs, a.ex e, b⟩, fun q ys hv hq => ?_⟩
  subst hv
  obtain ⟨u, hu⟩ := thing_at o.th
  rw [e _ _ hu] at hq
  cases hq
  exact o.fl q ys rfl hu
theorem OddG.mono {K : PySem.W.Frag} {H : Hp} {v : V} {m n : Nat} (o : OddG K H v m) (h : m ≤ n) : OddG K H v n :=
  ⟨o.th, o.sz, let ⟨t, d, bs, a, b, c⟩ := o.sh; ⟨t, d, bs, a, Nat.le_trans b (Nat.add_le_add_left (Nat.div_le_div_right h) 5), Nat.le_trans c h⟩, o.fl⟩
/-- a thing handed in as a volume, and what may be due of it -/
structure VT (K : PySem.W.Frag) (H : Hp) (v : V) (x : Option (V × V × V × V)) : Prop where
  vol : Vol K H v x
  odd : OddG K H v 100000
  ne : ∀ a C u, v = .ref a → H a ≠ some (exoM a C u)
  its : ∀ a b c d, x = some (a, b, c, d) → OddG K H a 20000 ∧ OddG K H b 20000 ∧ OddG K H c 20000 ∧ OddG K H d 20000
theorem VT.ex {K : PySem.W.Frag} {H H' : Hp} {v : V} {x : Option (V × V × V × V)} (h : VT K H v x) (e : Ex H H') : VT K H' v x := by
  refine ⟨h.vol.ex e, h.odd.ex e, fun a C u hv hp => ?_, fun a b c d hx => let ⟨p, q, r, s⟩ := h.its a b c d hx; ⟨p.ex e, q.ex e, r.ex e, s.ex e⟩⟩
  subst hv
  obtain ⟨o, ho⟩ := thing_at h.odd.th
  rw [e _ _ ho] at hp
  cases hp
  exact h.ne a C u rfl ho
theorem VT.due {K : PySem.W.Frag} {H : Hp} {v : V} {x : Option (V × V × V × V)} (h : VT K H v x) {s : Str} {u : V} (hd : volD v x = some (s, u)) : OddG K H u 100000 ∧ Tn 6 s := by
  cases x with
  | none => cases hd; exact ⟨h.odd, by decide +kernel, by decide +kernel⟩
  | some w =>
    obtain ⟨a, b, c, d⟩ := w
    obtain ⟨ha, hb, hc, hd'⟩ := h.its a b c d rfl
    unfold volD at hd
    simp only at hd
    split at hd
    · cases hd; exact ⟨ha.mono (by decide), by decide +kernel, by decide +kernel⟩
    · split at hd
      · cases hd; exact ⟨hb.mono (by decide), by decide +kernel, by decide +kernel⟩
      · split at hd
        · cases hd; exact ⟨hc.mono (by decide), by decide +kernel, by decide +kernel⟩
        · split at hd
          · cases hd; exact ⟨hd'.mono (by decide), by decide +kernel, by decide +kernel⟩
          · cases hd
section
variable {K : PySem.W.Frag} {H : Hp}
theorem oddG_flat {v : V} {m : Nat} (h : Flat1 v) (hm : 1010 ≤ m) : OddG K H v m := by
  rcases h with ⟨i, rfl, h0, h1⟩ | ⟨s, rfl, hs⟩
  · have si := int_Sm h0 h1
    refine ⟨.int i, (fun s e => by cases e), ⟨_, 0, [], .int i (of_decide_eq_true (by simpa only [PyData.showable] using si.ok)), Nat.zero_le _, ?_⟩, fun q ys e => by cases e⟩
    have : ((toString i : Str)).length ≤ 10 := by simpa only [PyData.shown] using si.sz
    omega
  · have := repr_Tn hs
    exact ⟨.str s (hs.mono (by omega)), fun z e => by rw [← V.str.inj e]; exact hs.mono (by omega), ⟨_, 0, [], .str s, Nat.zero_le _, by omega⟩, fun q ys e => by cases e⟩
theorem oddG_non {m : Nat} (hm : 1010 ≤ m) : OddG K H .non m := ⟨.non, (fun s e => by cases e), ⟨_, 0, [], .non, Nat.zero_le _, Nat.le_trans (show ("None" : Str).length ≤ 1010 by decide +kernel) hm⟩, fun q ys e => by cases e⟩
theorem oddG_bl {b : Bool} {m : Nat} (hm : 1010 ≤ m) : OddG K H (.bl b) m := ⟨.bl b, (fun s e => by cases e), ⟨_, 0, [], .bl b, Nat.zero_le _, Nat.le_trans (by cases b <;> decide +kernel) hm⟩, fun q ys e => by cases e⟩
theorem oddG_lst {p : Addr} {xs : List V} {m : Nat} (h : H p = some (.lst xs)) (hx : ∀ v ∈ xs, Flat1 v) (hl : xs.length ≤ 10) (hm : 11000 ≤ m) : OddG K H (.ref p) m := by
  obtain ⟨ts, a, b, c⟩ := flat_sh (K := K) (H := H) hx
  refine ⟨.lst p xs h, (fun s e => by cases e), ⟨_, _, _, .lst h a (by simp), by omega, ?_⟩, fun q ys e hq => by cases e; rw [h] at hq; cases hq; exact ⟨hl, hx⟩⟩
  have := PySem.listText_len_le ts
  rw [c] at this
  omega
theorem oddG_tup {p : Addr} {xs : List V} {m : Nat} (h : H p = some (.tup xs)) (hx : ∀ v ∈ xs, Flat1 v) (hl : xs.length ≤ 10) (hm : 11000 ≤ m) : OddG K H (.ref p) m := by
  obtain ⟨ts, a, b, c⟩ := flat_sh (K := K) (H := H) hx
  refine ⟨.tup p xs h, (fun s e => by cases e), ⟨_, _, _, .tup h a (by simp), by omega, ?_⟩, fun q ys e hq => by cases e; rw [h] at hq; cases hq⟩
  have := PySem.tupleText_len_le ts
  rw [c] at this
  omega
theorem oddG_of {v : V} {m : Nat} (o : OddT K H v) (hf : ∀ q ys, v = .ref q → H q ≠ some (.lst ys)) (hs : ∃ t d bs, Sh K H v t d bs ∧ d ≤ 5 + m / 20000 ∧ t.length ≤ m) : OddG K H v m := ⟨o.th, o.sz, hs, fun q ys e hq => absurd hq (hf q ys e)⟩
/-- four things in a tuple -/
theorem VT.four {H0 : Hp} {p : Addr} {a b c d : V} (h : H p = some (.tup [a, b, c, d])) (e0 : Ex H0 H) (np : H0 p = none) (ha : OddG K H0 a 20000) (hb : OddG K H0 b 20000) (hc : OddG K H0 c 20000) (hd : OddG K H0 d 20000) : VT K H (.ref p) (some (a, b, c, d)) := by
  obtain ⟨t1, d1, b1, s1, l1, z1⟩ := ha.sh
  obtain ⟨t2, d2, b2, s2, l2, z2⟩ := hb.sh
  obtain ⟨t3, d3, b3, s3, l3, z3⟩ := hc.sh
  obtain ⟨t4, d4, b4, s4, l4, z4⟩ := hd.sh
  have n1 : p ∉ b1 := fun z => sh_occ s1 p z np
  have n2 : p ∉ b2 := fun z => sh_occ s2 p z np
  have n3 : p ∉ b3 := fun z => sh_occ s3 p z np
  have n4 : p ∉ b4 := fun z => sh_occ s4 p z np
  replace ha := ha.ex e0
  replace hb := hb.ex e0
  replace hc := hc.ex e0
  replace hd := hd.ex e0
  refine ⟨.yes p a b c d h ha.th hb.th hc.th hd.th hb.sz, ⟨.tup p _ h, (fun s e => by cases e), ⟨_, _, _, .tup h (.cons (s1.ex e0) (.cons (s2.ex e0) (.cons (s3.ex e0) (.cons (s4.ex e0) .nil)))) ?_, ?_, ?_⟩, fun q ys e hq => by cases e; rw [h] at hq; cases hq⟩, (fun x C u e z => by cases e; rw [h] at z; cases z), (fun a' b' c' d' e => by cases e; exact ⟨ha, hb, hc, hd⟩)⟩
  · simp [n1, n2, n3, n4]
  · have : max d1 (max d2 (max d3 (max d4 0))) ≤ 6 := by omega
    show max d1 (max d2 (max d3 (max d4 0))) + 1 ≤ 5 + 100000 / 20000
    omega
  · have := PySem.tupleText_len_le [t1, t2, t3, t4]
    simp only [List.map_cons, List.map_nil, List.sum_cons, List.sum_nil, List.length_cons, List.length_nil] at this
    omega
theorem VT.plain {v : V} (o : OddG K H v 100000) (n : ∀ p a b c d, v = .ref p → H p ≠ some (.tup [a, b, c, d])) (ne : ∀ a C u, v = .ref a → H a ≠ some (exoM a C u)) : VT K H v none := ⟨.no v o.th n, o, ne, fun a b c d e => by cases e⟩
end
/-- [word, thing] as a text -/
theorem pair_sh {K : PySem.W.Frag} {H : Hp} {p : Addr} {s : Str} {v : V} {t : Str} {d : Nat} {bs : List Addr} (h : H p = some (.lst [.str s, v])) (hs : Sh K H v t d bs) (hp : p ∉ bs) : Sh K H (.ref p) (listText [reprText s, t]) (max 0 (max d 0) + 1) (p :: ([] ++ (bs ++ []))) :=
  .lst h (.cons (.str s) (.cons hs .nil)) (by simpa using hp)
theorem pair_len {s t : Str} (hs : Tn 6 s) (ht : t.length ≤ 100000) : (listText [reprText s, t]).length ≤ sizeLine := list2_len (m := 62) (n := 100000) (repr_Tn hs) ht (by decide)
theorem iteND {c A B : Prop} [Decidable c] (h1 : ¬ c → A) (h2 : c → B) : if (!decide c) = true then A else B := by
  by_cases h : c
  · rw [decide_eq_true h]; exact iteF (h2 h)
  · rw [decide_eq_false h]; exact iteT (h1 h)
/-- a list of things, not empty, is not the empty one -/
theorem dp_of {K : PySem.W.Frag} {H : Hp} : ∀ {xs : List V}, (∀ v ∈ xs, ∃ d, Dp K H v d ∧ SeqAt.shaped d = true ∧ d.depth ≤ 8) → ∃ ds, DpAll K H xs ds ∧ PyData.canLayAll0 ds = true ∧ PyData.depthAll ds ≤ 8 ∧ ds.length = xs.length
  | [], _ => ⟨[], .nil, by simp [PyData.canLayAll0], by simp [PyData.depthAll], rfl⟩
  | x :: xs, h => by
    obtain ⟨ds, a, b, c, e⟩ := dp_of (xs := xs) fun v hv => h v (List.mem_cons_of_mem _ hv)
    obtain ⟨d, h1, h2, h3⟩ := h x List.mem_cons_self
    refine ⟨d :: ds, .cons h1 a, by simp [PyData.canLayAll0, SeqAt.canLay_of_shaped h2, b], ?_, by rw [List.length_cons, e, List.length_cons]⟩
    simp only [PyData.depthAll]
    exact Nat.max_le.mpr ⟨h3, c⟩
theorem depth_parts : ∀ xs : List V, (PyData.list (xs.map partD)).depth ≤ 8 := by
  have : ∀ xs : List V, PyData.depthAll (xs.map partD) ≤ 5 := by
    intro xs
    induction xs with
    | nil => simp [PyData.depthAll]
    | cons x xs ih =>
      simp only [List.map_cons, PyData.depthAll]
      refine Nat.max_le.mpr ⟨?_, ih⟩
      cases x <;> simp [partD, PyData.depth]
  intro xs
  simp only [PyData.depth]
  have := this xs
  omega
theorem q_eqRefs {K : PySem.W.Frag} {H : Hp} {Q : VK} {p q : Addr} {xs : List V} (hp : SqL K H p xs) (hn : xs ≠ []) (hq : H q = some (.lst [])) (hd : ∀ v ∈ xs, ∃ d, Dp K H v d ∧ SeqAt.shaped d = true ∧ d.depth ≤ 8) (k : Q (.bl false) H) : rEqA K (.ref p) (.ref q) H Q := by
  obtain ⟨ds, a, b, c, e⟩ := dp_of hd
  refine q_eqDt (.lst hp a) (.lst (SqL.of hq) .nil) ?_ (by decide) ?_
  · simp only [SeqAt.shaped, PyData.canLay0, PyData.depth, b, Bool.true_and]
    exact decide_eq_true (by omega)
  · cases ds with
    | nil => cases xs with
      | nil => exact absurd rfl hn
      | cons x xs => cases e
    | cons d ds => simpa [PyData.eqv, PyData.eqvAll] using k
/-! ## names -/
/-- a text of m small letters -/
structure LowS (s : Str) (m : Nat) : Prop where
  len : s.cps.toList.length = m
  low : ∀ c ∈ s.cps.toList, 97 ≤ c ∧ c ≤ 122
theorem LowS.app {s t : Str} {m n : Nat} (h : LowS s m) (h' : LowS t n) : LowS (s ++ t) (m + n) := by
  have e : (s ++ t).cps.toList = s.cps.toList ++ t.cps.toList := TL.tl_append s t
  refine ⟨by rw [e, List.length_append, h.len, h'.len], fun c hc => ?_⟩
  rw [e] at hc
  rcases List.mem_append.mp hc with z | z
  · exact h.low c z
  · exact h'.low c z
theorem cutS_list (z : Str) (lo hi : Option Int) : (cutS z lo hi).cps.toList = cutG z.cps.toList lo hi := by
  have : z.length = z.cps.toList.length := TL.len_tl z
  unfold cutG
  rw [← this]
  simp [cutS]
theorem LowS.cut {s : Str} {m : Nat} (h : LowS s m) (i j : Nat) : LowS (cutS s (some (i : Int)) (some (j : Int))) (min (j - i) (m - i)) := by
  refine ⟨by rw [cutS_list, cutG_nat, List.length_take, List.length_drop, h.len], fun c hc => ?_⟩
  rw [cutS_list, cutG_nat] at hc
  exact h.low c (List.mem_of_mem_drop (List.mem_of_mem_take hc))
theorem LowS.cut0 {s : Str} {m : Nat} (h : LowS s m) (j : Nat) : LowS (cutS s none (some (j : Int))) (min j m) := by
  have e : cutS s none (some (j : Int)) = cutS s (some ((0 : Nat) : Int)) (some (j : Int)) := by
    apply str_eq_iff.mpr
    rw [cutS_list, cutS_list]
    unfold cutG
    rw [HT.sIx_none, HT.sIx_nat, HT.sIx_nat]
    simp
  rw [e]
  simpa using h.cut 0 j
theorem LowS.one {c : Nat} (h : 97 ≤ c ∧ c ≤ 122) : LowS ⟨#[c]⟩ 1 := ⟨rfl, fun d hd => by
  have e : d = c := by simpa using hd
  rw [e]; exact h⟩
theorem LowS.sz {s : Str} {m : Nat} (h : LowS s m) : s.length = m := by rw [TL.len_tl]; exact h.len
theorem LowS.tn {s : Str} {m : Nat} (h : LowS s m) : Tn m s := ⟨Nat.le_of_eq h.sz, fun c hc => by have := h.low c hc; omega⟩
theorem low_all : ∀ c ∈ SMALL.cps.toList, 97 ≤ c ∧ c ≤ 122 := by decide +kernel
theorem small_len : SMALL.cps.toList.length = 26 := by decide +kernel
theorem q_letter {K : PySem.W.Frag} {H : Hp} {Q : VK} {i : Int} (h0 : 0 ≤ i) (h1 : i < 26) (k : ∀ c, 97 ≤ c ∧ c ≤ 122 → Q (.str ⟨#[c]⟩) H) : rIx K (.str SMALL) (.int i) H Q := by
  obtain ⟨c, e, m, _⟩ := at_mem (xs := SMALL.cps.toList) h0 (by rw [small_len]; exact h1)
  exact q_ixS (by decide +kernel) e (k c (low_all c m))
theorem q_addSL {H : Hp} {Q : VK} {s t : Str} {m n : Nat} (h : LowS s m) (h' : LowS t n) (hz : m + n ≤ 1000) (k : LowS (s ++ t) (m + n) → Q (.str (s ++ t)) H) : rAddA (.str s) (.str t) H Q :=
  q_addS (Nat.le_of_lt (small1000 (by rw [h.sz, h'.sz]; exact hz))) (k (h.app h'))
theorem name_letters {s : Str} {m : Nat} (h : LowS s m) (h1 : 1 ≤ m) (h8 : m ≤ 8) : lettersOf (.str s) 8 SMALL = true := by
  have ho : only s SMALL = true := by
    rw [only_low]
    exact List.all_eq_true.mpr fun c hc => by
      have := h.low c hc
      simp [isLow]; omega
  have := h.sz
  simp only [lettersOf, ho, Bool.and_true, Bool.and_eq_true, decide_eq_true_eq]
  omega
theorem q_slSL {K : PySem.W.Frag} {H : Hp} {Q : VK} {s : Str} {m : Nat} {lo hi : Option Int} (h : LowS s m) (hm : m ≤ 1000) (k : Q (.str (cutS s lo hi)) H) : rSlA K (.str s) lo hi H Q := q_slS (Nat.le_of_lt (small1000 (by rw [h.sz]; exact hm))) k
/-- a volume, as a law draws it -/
structure VolOk (H : Hp) (x : Addr × Str × List V × Int × Int) : Prop where
  at_ : H x.1 = some (.tup [.str x.2.1, .str (markText x.2.2.1), .int x.2.2.2.1, .int x.2.2.2.2])
  name : ∃ j, LowS x.2.1 j ∧ 1 ≤ j ∧ j ≤ 8
  m1 : 1 ≤ x.2.2.1.length
  m4 : x.2.2.1.length ≤ 4
  mp : ∀ v ∈ x.2.2.1, PartV v
  size : 1 ≤ x.2.2.2.1 ∧ x.2.2.2.1 ≤ 9
  width : 1 ≤ x.2.2.2.2 ∧ x.2.2.2.2 ≤ 99
theorem VolOk.keep {H H' : Hp} {x : Addr × Str × List V × Int × Int} (h : VolOk H x) (e : H' x.1 = H x.1) : VolOk H' x := ⟨by rw [e]; exact h.at_, h.name, h.m1, h.m4, h.mp, h.size, h.width⟩
theorem VolOk.ex {H H' : Hp} {x : Addr × Str × List V × Int × Int} (h : VolOk H x) (e : Ex H H') : VolOk H' x := h.keep (by rw [h.at_]; exact e _ _ h.at_)
theorem VolOk.fb {b : Addr} {H H' : Hp} {x : Addr × Str × List V × Int × Int} (h : VolOk H x) (e : Fb b H H') (n : x.1 ≠ b) : VolOk H' x := h.keep (by rw [h.at_]; exact e _ _ h.at_ n)
theorem get_map {α : Type} {f : α → V} {xs : List α} {i : Nat} (h : i < xs.length) : ∃ x, xs[i]? = some x ∧ x ∈ xs ∧ atI (xs.map f) (i : Int) = some (f x) := by
  refine ⟨xs[i], List.getElem?_eq_getElem h, List.getElem_mem h, atI_nat ?_⟩
  rw [List.getElem?_map, List.getElem?_eq_getElem h]; rfl
theorem nw_fb {b : Addr} {H H' H2 : Hp} {ob : HO} (f : Fb b H' H2) (h : H b = some ob) : Ex (nw H H') (nw H H2) := fun a o ha => by
  obtain ⟨h1, h2⟩ := nw_inv ha
  exact nw_of h1 (f a o h2 fun e => by rw [e, h] at h1; cases h1)
theorem nw_ex {H H' H2 : Hp} (f : Ex H' H2) : Ex (nw H H') (nw H H2) := fun a o ha => by
  obtain ⟨h1, h2⟩ := nw_inv ha
  exact nw_of h1 (f a o h2)
theorem nw_sub {H H' : Hp} : Ex (nw H H') H' := fun a o ha => (nw_inv ha).2
theorem oddG_exc {P : Program} {w : World} {K : PySem.W.Frag} {mg : Str → Option Value} {base : Heap} {Hh : Hp} {k : Nat} {x : Str} {C a t : Addr} {m : Str} {z : Nat} (v : Kv P w K mg base k x C) (h : Hh a = some (exoM a C t)) (h2 : Hh t = some (.tup [.str m])) (hm : Tn 100 m) (hz : 1200 ≤ z) : OddG K Hh (.ref a) z := by
  obtain ⟨cd, hcd, hl⟩ := v.cd
  refine ⟨.exc a C t m h h2 v.f, (fun _ z => by cases z), ⟨_, _, _, .exc h h2 ⟨hcd, v.rp, v.e.T.exC⟩, Nat.zero_le _, ?_⟩, fun q ys e hq => by cases e; rw [h] at hq; cases hq⟩
  unfold excText
  have := repr_Tn hm
  have e1 : ("(" : Str).length = 1 := by decide +kernel
  have e2 : (")" : Str).length = 1 := by decide +kernel
  rw [Str.length_append, Str.length_append, Str.length_append, e1, e2]
  omega
theorem flat_str {s : Str} {n : Nat} (h : Tn n s) (hn : n ≤ 100) : Flat1 (.str s) := .inr ⟨s, rfl, h.mono hn⟩
theorem oddG_int {K : PySem.W.Frag} {H : Hp} {i : Int} {m : Nat} (h : i.natAbs.log2 < 1920) (hs : ((toString i : Str)).length ≤ 1010) (hm : 1010 ≤ m) : OddG K H (.int i) m := ⟨.int i, (fun s e => by cases e), ⟨_, 0, [], .int i h, Nat.zero_le _, Nat.le_trans hs hm⟩, fun q ys e => by cases e⟩
theorem oddG_dic {K : PySem.W.Frag} {H : Hp} {p : Addr} {m : Nat} (h : H p = some (.dK [])) (hm : 1010 ≤ m) : OddG K H (.ref p) m :=
  ⟨.dK p _ h, (fun s e => by cases e), ⟨_, _, _, .dic (t1 := []) (t2 := []) h .nil .nil (by simp), by omega, Nat.le_trans (by decide +kernel) hm⟩, fun q ys e hq => by cases e; rw [h] at hq; cases hq⟩
theorem q_slT {K : PySem.W.Frag} {H : Hp} {Q : VK} {a : Addr} {xs : List V} {lo hi : Option Int} (h : H a = some (.tup xs)) (hw : ¬ (HT.sIx xs.length 0 lo = 0 ∧ HT.sIx xs.length xs.length hi = xs.length)) (k : ∀ p H', H p = none → H' p = some (.tup (cutV xs lo hi)) → Ex H H' → Q (.ref p) H') : rSlC K (.ref a) lo hi H Q :=
  .inr ⟨a, xs, rfl, SqT.of h, fun z => absurd z hw, fun _ p hp => k p _ hp upd_same (Ex.new hp)⟩
theorem oddG_dic1 {K : PySem.W.Frag} {H : Hp} {p : Addr} {m : Nat} (h : H p = some (.dK [(Sum.inr ("a" : Str), .int 1)])) (hm : 1010 ≤ m) : OddG K H (.ref p) m :=
  ⟨.dK p _ h, (fun s e => by cases e), ⟨_, _, _, .dic h (.cons (.str ("a" : Str)) .nil) (.cons (.int 1 (by decide +kernel)) .nil) (by simp), (by show max 0 0 + 1 ≤ 5 + m / 20000; omega), Nat.le_trans (by decide +kernel) hm⟩, fun q ys e hq => by cases e; rw [h] at hq; cases hq⟩
theorem VolOk.flat {H : Hp} {x : Addr × Str × List V × Int × Int} (h : VolOk H x) : Flat1 (.str x.2.1) ∧ Flat1 (.str (markText x.2.2.1)) ∧ Flat1 (.int x.2.2.2.1) ∧ Flat1 (.int x.2.2.2.2) := by
  obtain ⟨j, hj, _, j8⟩ := h.name
  have hm := mark_size h.mp
  have h4 := h.m4
  have h1 := h.size
  have h2 := h.width
  exact ⟨flat_str hj.tn (by omega), flat_str hm (by omega), .inl ⟨_, rfl, by omega, by omega⟩, .inl ⟨_, rfl, by omega, by omega⟩⟩
theorem VolOk.vt {K : PySem.W.Frag} {H : Hp} {x : Addr × Str × List V × Int × Int} (h : VolOk H x) : VT K H (.ref x.1) (some (.str x.2.1, .str (markText x.2.2.1), .int x.2.2.2.1, .int x.2.2.2.2)) := by
  obtain ⟨a, b, c, d⟩ := h.flat
  exact .four (H0 := fun _ => none) h.at_ (fun _ _ z => by cases z) rfl (oddG_flat a (by decide)) (oddG_flat b (by decide)) (oddG_flat c (by decide)) (oddG_flat d (by decide))
theorem VolOk.good {H : Hp} {x : Addr × Str × List V × Int × Int} (h : VolOk H x) : volD (.ref x.1) (some (.str x.2.1, .str (markText x.2.2.1), .int x.2.2.2.1, .int x.2.2.2.2)) = none := by
  obtain ⟨j, hj, j1, j8⟩ := h.name
  have h1 := h.size
  have h2 := h.width
  have w1 : whole (.int x.2.2.2.1) 1 9 = true := by simp [whole, h1]
  have w2 : whole (.int x.2.2.2.2) 1 99 = true := by simp [whole, h2]
  simp [volD, name_letters hj j1 j8, is_mark_text h.m1 h.m4 h.mp, w1, w2]
theorem volD_mem {p : Addr} {a b c d : V} {s : Str} {u : V} (h : volD (.ref p) (some (a, b, c, d)) = some (s, u)) : u ∈ [a, b, c, d] := by
  unfold volD at h
  simp only at h
  split at h
  · cases h; simp
  · split at h
    · cases h; simp
    · split at h
      · cases h; simp
      · split at h
        · cases h; simp
        · cases h
/-- [word, thing], the thing grown -/
theorem grown_sh {K : PySem.W.Frag} {H : Hp} {q p : Addr} {s : Str} {ys : List V} (h : H p = some (.lst [.str s, .ref q])) (hq : H q = some (.lst (ys ++ [.str "more"]))) (hy : ∀ y ∈ ys, Flat1 y) (hl : ys.length ≤ 10) (hs : Tn 6 s) (n : p ≠ q) :
    ∃ ts, Sh K H (.ref p) (listText [reprText s, listText ts]) 2 [p, q] ∧ (listText [reprText s, listText ts]).length ≤ sizeLine ∧ ShAll K H (ys ++ [.str "more"]) ts 0 [] := by
  have hf : ∀ y ∈ ys ++ [V.str "more"], Flat1 y := fun y hy' => by
    rcases List.mem_append.mp hy' with z | z
    · exact hy y z
    · rw [List.mem_singleton.mp z]; exact flat_str (n := 4) ⟨by decide +kernel, by decide +kernel⟩ (by decide)
  obtain ⟨ts, a, b, c⟩ := flat_sh (K := K) (H := H) hf
  have h1 : Sh K H (.ref q) (listText ts) 1 [q] := .lst hq a (by simp)
  have z := PySem.listText_len_le ts
  rw [List.length_append] at b c
  have zz : (listText ts).length ≤ 100000 := by
    rw [c] at z
    simp only [List.length_singleton] at b z
    omega
  exact ⟨ts, pair_sh h h1 (by simpa using n), pair_len hs zz, a⟩
theorem shAll_fun {K : PySem.W.Frag} {H : Hp} : ∀ {xs : List V} {t1 t2 : List Str}, (∀ y ∈ xs, Flat1 y) → ∀ {d1 d2 : Nat} {b1 b2 : List Addr}, ShAll K H xs t1 d1 b1 → ShAll K H xs t2 d2 b2 → t1 = t2
  | [], _, _, _, _, _, _, _, .nil, .nil => rfl
  | x :: xs, _, _, h, _, _, _, _, .cons a b, .cons c d => by
    have e := shAll_fun (fun y hy => h y (List.mem_cons_of_mem _ hy)) b d
    rcases h x List.mem_cons_self with ⟨i, rfl, _, _⟩ | ⟨s, rfl, _⟩
    · cases a; cases c; rw [e]
    · cases a; cases c; rw [e]


/-! # min of a list or a tuple of ints; what a list of numbers is -/
section
variable {X : Cx}
def leastI : List Int → Int
  | [] => 0
  | x :: r => r.foldl (fun a y => if y < a then y else a) x
theorem least_fold : ∀ (r : List Int) (x : Int), (r.foldl (fun a y => if y < a then y else a) x = x ∨ r.foldl (fun a y => if y < a then y else a) x ∈ r) ∧ r.foldl (fun a y => if y < a then y else a) x ≤ x ∧ ∀ y ∈ r, r.foldl (fun a y => if y < a then y else a) x ≤ y
  | [], x => ⟨.inl rfl, Int.le_refl _, fun y h => by cases h⟩
  | z :: r, x => by
    have ih := least_fold r (if z < x then z else x)
    simp only [List.foldl_cons]
    generalize List.foldl (fun a y => if y < a then y else a) (if z < x then z else x) r = m at ih
    obtain ⟨h1, h2, h3⟩ := ih
    refine ⟨?_, ?_, fun y hy => ?_⟩
    · rcases h1 with h1 | h1
      · by_cases c : z < x
        · rw [if_pos c] at h1; exact .inr (by rw [h1]; exact List.mem_cons_self)
        · rw [if_neg c] at h1; exact .inl h1
      · exact .inr (List.mem_cons_of_mem _ h1)
    · by_cases c : z < x
      · rw [if_pos c] at h2; omega
      · rw [if_neg c] at h2; omega
    · rcases List.mem_cons.mp hy with rfl | hy
      · by_cases c : y < x
        · rw [if_pos c] at h2; omega
        · rw [if_neg c] at h2; omega
      · exact h3 y hy
theorem least_mem {ns : List Int} (h : ns ≠ []) : leastI ns ∈ ns := by
  cases ns with
  | nil => exact absurd rfl h
  | cons x r =>
    rcases (least_fold r x).1 with e | e
    · show List.foldl _ x r ∈ _
      rw [e]; exact List.mem_cons_self
    · exact List.mem_cons_of_mem _ e
theorem least_le {ns : List Int} : ∀ n ∈ ns, leastI ns ≤ n := by
  cases ns with
  | nil => intro n h; cases h
  | cons x r =>
    intro n h
    rcases List.mem_cons.mp h with rfl | h
    · exact (least_fold r n).2.1
    · exact (least_fold r x).2.2 n h
theorem least_of {ns : List Int} {m : Int} (h : m ∈ ns) (h2 : ∀ n ∈ ns, m ≤ n) : m = leastI ns := by
  have a := h2 _ (least_mem (List.ne_nil_of_mem h))
  have b := least_le m h
  omega
def rMin2 (K : PySem.W.Frag) : List V → Hp → VK → Prop := fun vs H Q => ∃ (a : Addr) (ns : List Int), vs = [V.ref a] ∧ (SqL K H a (ns.map V.int) ∨ SqT K H a (ns.map V.int)) ∧ 0 < ns.length ∧ Q (.int (leastI ns)) H
theorem call_min2A {j : Nat} (hr : Room j X.A) (hc : X.calm = true) : CallR X (.builtin "min") (rMin2 X.K) := by
  intro pins s σ H vs us Q I r h
  obtain ⟨a, ns, rfl, hs | hs, hne, q⟩ := h
  · exact cr_min hc pins s σ H _ us Q I r ⟨a, ns, rfl, hs, hne, fun m h1 h2 => by rw [least_of h1 h2]; exact q⟩
  · obtain ⟨its, rv, ht, _⟩ := I.tuple hs
    rw [Vals.ref1 r]
    have hi := rv.ints
    cases ns with
    | nil => exact absurd hne (Nat.lt_irrefl 0)
    | cons x xs =>
      have hu := hr.units
      refine PySem.W.min_tuple_datum (α := Int) (x := x) (xs := xs) (I.ok.hd hc) ht (PySem.W.HoldAll.of_ints (by simpa using hi)) (by show X.A.units + 1 + 0 < cLine; omega) fun i v h' tk hv ho hk => ?_
      have hv' : its[i]? = some v := by simpa using hv
      obtain ⟨z, hz, hz2⟩ := PySem.W.HoldAll.at (h := h') (PySem.W.HoldAll.of_ints hi) hv'
      obtain ⟨as1, r1⟩ := ho
      have hm : ∃ n t, v = .int n t := by
        have : ∀ {us : List Value} {ms : List Int}, IntsAre us ms → ∀ u ∈ us, ∃ n t, u = .int n t := by
          intro us ms h
          induction h with
          | nil => intro u hu; cases hu
          | cons n t _ ih =>
            intro u hu
            rcases List.mem_cons.mp hu with rfl | hu
            · exact ⟨n, t, rfl⟩
            · exact ih u hu
        exact this hi v (List.mem_of_getElem? hv')
      obtain ⟨n, t, rfl⟩ := hm
      have e : n = leastI (x :: xs) := by
        have e1 : PySem.W.minOf x xs = leastI (x :: xs) := by
          unfold PySem.W.minOf leastI
          congr 1
          funext a y
          show (if decide (y < a) = true then y else a) = _
          simp only [decide_eq_true_eq]
        rw [e1] at r1
        have r2 : Reads h' (.int n t) (.int (leastI (x :: xs))) as1 := r1
        cases r2
        rfl
      rw [← e] at q
      exact ⟨.int n, H, I.kept hk, ⟨_, rfl⟩, q⟩
theorem call_min2B {j : Nat} (K : PySem.W.Frag) (h : X.K = K) (hr : Room j X.A) (hc : X.calm = true) : CallR X (.builtin "min") (rMin2 K) := h ▸ call_min2A hr hc
theorem q_min {K : PySem.W.Frag} {H : Hp} {Q : VK} {a : Addr} {ns : List Int} (h : Sq2 H a (ns.map V.int)) (hn : ns ≠ []) (k : Q (.int (leastI ns)) H) : rMin2 K [.ref a] H Q := ⟨a, ns, rfl, h.or, List.length_pos_iff.mpr hn, k⟩
/-- ints, lists and tuples, many times -/
def rMulC (K : PySem.W.Frag) : R2 := fun x y H Q => rMulA x y H Q ∨ rRepT K x y H Q
theorem op_mulC (K : PySem.W.Frag) (h : X.K = K) : OpR X (binaryOp .Mult) (rMulC K) := h ▸ op_mulA.or op_repT
end
section
variable {K : PySem.W.Frag} {H : Hp} {Q : VK}
theorem q_mulC {x y : V} (k : rMulA x y H Q) : rMulC K x y H Q := .inl k
theorem q_repT {l : Addr} {k : Int} {xs : List V} (h : H l = some (.tup xs)) (hn : xs ≠ []) (h0 : 2 ≤ k) (h1 : k ≤ 1000) (hz : xs.length ≤ 1000) (q : ∀ p H', H p = none → H' p = some (.tup (List.replicate k.toNat xs).flatten) → Ex H H' → Q (.ref p) H') : rMulC K (.ref l) (.int k) H Q :=
  .inr ⟨l, k, xs, rfl, rfl, SqT.of h, hn, h0, h1, hz, fun p hp => q p _ hp upd_same (Ex.new hp)⟩
theorem q_extend {l b : Addr} {xs zs : List V} (h : H l = some (.lst xs)) (hb : H b = some (.lst zs)) (hz : xs.length + zs.length ≤ 1000) (q : ∀ H', H' l = some (.lst (xs ++ zs)) → Fb l H H' → Q .non H') : rExtend (.ref l) [.ref b] H Q :=
  ⟨l, b, xs, zs, rfl, rfl, h, hb, by rw [sizeLine_eq]; omega, q _ upd_same Fb.put⟩
/-- numbers from 1 to m, n at the most, o at the least -/
theorem all_nums {m : Int} : ∀ {xs : List V}, xs.all (fun x => whole x 1 m) = true → ∃ ns, xs = iV ns ∧ ∀ n ∈ ns, 1 ≤ n ∧ n ≤ m
  | [], _ => ⟨[], rfl, fun n h => by cases h⟩
  | x :: xs, h => by
    rw [List.all_cons, Bool.and_eq_true] at h
    obtain ⟨ns, e, hn⟩ := all_nums h.2
    cases x with
    | int i =>
      refine ⟨i :: ns, by rw [e] <;> rfl, fun n hn' => ?_⟩
      have hw : 1 ≤ i ∧ i ≤ m := by simpa [whole] using h.1
      rcases List.mem_cons.mp hn' with rfl | z
      · exact hw
      · exact hn n z
    | _ => exact absurd h.1 (by simp [whole])
theorem ListArg.nums {v : V} {m : Int} {n : Nat} (h : ListArg K H v m n true) : ∃ a ns, v = .ref a ∧ Sq2 H a (iV ns) ∧ ns.length ≤ n ∧ ∀ w ∈ ns, 1 ≤ w ∧ w ≤ m := by
  rcases h with ⟨_, h⟩ | ⟨a, xs, rfl, h2, _, _, h5⟩
  · cases h
  · unfold okL at h5
    have h6 := (Bool.and_eq_true _ _).mp h5.symm
    obtain ⟨ns, rfl, hn⟩ := all_nums h6.1
    refine ⟨a, ns, rfl, h2, ?_, hn⟩
    have := of_decide_eq_true h6.2
    rw [List.length_map] at this
    omega
theorem good_of {v u : V} (h : ListArg K H v 99 60 true) (h' : ListArg K H u 999 40 true) : ∃ a c ws ls, v = .ref a ∧ u = .ref c ∧ Good2 H a c ws ls := by
  obtain ⟨a, ws, rfl, h1, h2, h3⟩ := h.nums
  obtain ⟨c, ls, rfl, k1, k2, k3⟩ := h'.nums
  exact ⟨a, c, ws, ls, rfl, rfl, ⟨h1, k1, h2, k2, h3, k3⟩⟩
theorem whole_int {v : V} {lo hi : Int} (h : whole v lo hi = true) : ∃ i, v = .int i ∧ lo ≤ i ∧ i ≤ hi := by
  cases v with
  | int i => exact ⟨i, rfl, by simpa [whole] using h⟩
  | _ => cases h
/-! ## widths that are all 1 -/
theorem fit_ones : ∀ (ws : List Int) (room : Int), (∀ w ∈ ws, w = 1) → 0 ≤ room → ((fit ws room : Nat) : Int) = min (ws.length : Int) room
  | [], room, _, h => by simp only [fit, List.length_nil]; omega
  | w :: r, room, hw, h => by
    have h1 := hw w List.mem_cons_self
    subst h1
    unfold fit
    by_cases c : (1 : Int) > room
    · rw [if_pos c, List.length_cons]; omega
    · rw [if_neg c]
      have ih := fit_ones r (room - 1) (fun x hx => hw x (List.mem_cons_of_mem _ hx)) (by omega)
      rw [List.length_cons]; omega
theorem stood_ones {ws : List Int} (hw : ∀ w ∈ ws, w = 1) : ∀ (ls : List Int) (b : Nat), (∀ l ∈ ls, 1 ≤ l) → b ≤ ws.length → ((stood ws 0 b ls : Nat) : Int) = min (ws.length : Int) (b + ls.sum)
  | [], b, _, hb => by
    show ((b : Nat) : Int) = _
    simp only [List.sum_nil]; omega
  | l :: r, b, hl, hb => by
    have h1 := hl l List.mem_cons_self
    have hr : ∀ l ∈ r, 1 ≤ l := fun x hx => hl x (List.mem_cons_of_mem _ hx)
    have hs : 0 ≤ r.sum := by
      have : ∀ (r : List Int), (∀ l ∈ r, 1 ≤ l) → 0 ≤ r.sum := by
        intro r
        induction r with
        | nil => intro _; simp
        | cons x r ih =>
          intro h
          have a := h x List.mem_cons_self
          have b := ih fun y hy => h y (List.mem_cons_of_mem _ hy)
          rw [List.sum_cons]; omega
      exact this r hr
    rw [List.sum_cons]
    by_cases c : b = ws.length
    · rw [stood_full c]; omega
    · rw [stood_cons c]
      have hf := fit_ones (ws.drop b) (l - 0) (fun x hx => hw x (List.mem_of_mem_drop hx)) (by omega)
      have hf2 := fit_le (ws.drop b) (l - 0)
      rw [List.length_drop] at hf hf2
      have ih := stood_ones hw r (b + fit (ws.drop b) (l - 0)) hr (by omega)
      rw [ih]; omega
end
section
variable {K : PySem.W.Frag} {H : Hp} {Q : VK}
/-- [e for x in seq if t]: kept where f x, then v x -/
theorem q_seqF {j : Nat} {tt : TT} {te : TE} {vs : List Nat} {σ : L2.St} {a : Addr} {xs : List V} (f : V → Bool) (v : V → V) (hx : Sq2 H a xs) (hz : xs.length ≤ 1000)
    (hw : ∀ x, wipe ((wipe σ vs).set j (some x)) vs = wipe σ vs)
    (ht : ∀ (x : V) (H1 : Hp), x ∈ xs → Ex H H1 → ∀ QB : Bool → Hp → Prop, (∀ H2, Ex H1 H2 → QB (f x) H2) → tt ((wipe σ vs).set j (some x)) H1 QB)
    (he : ∀ (x : V) (H1 : Hp), x ∈ xs → Ex H H1 → f x = true → ∀ Q' : VK, (∀ H2, Ex H1 H2 → Q' (v x) H2) → te ((wipe σ vs).set j (some x)) H1 Q')
    (k : ∀ p H', H p = none → H' p = some (.lst ((xs.filter f).map v)) → Ex H H' → Q (.ref p) H') : LcQK K (gName j) tt te vs σ Q (.ref a) H := by
  rcases hx with hx | hx
  · obtain ⟨a', e, _, q⟩ := q_listF (K := K) (j := j) (tt := tt) (te := te) (vs := vs) (σ := σ) (H := H) (Q := Q) f v (SqL.of hx) hz hw ht he k
    cases e
    exact ⟨a, rfl, .inl ⟨⟨xs, SqL.of hx⟩, q⟩⟩
  · refine ⟨a, rfl, .inr ⟨⟨xs, SqT.of hx⟩, fun D hD => lc_tup (xs := xs) (fun i H' => Ex H H' ∧ H' D = some (.lst (((xs.take i).filter f).map v))) ⟨Ex.new hD, upd_same⟩ (fun i H' _ p => p.1.st (SqT.of hx)) ?_ ?_⟩⟩
    · rintro i x H' hi ⟨e, hd⟩
      have hin := List.mem_of_getElem? hi
      have hlen : ((xs.take i).filter f).length ≤ 1000 := by
        have a := List.length_filter_le f (xs.take i)
        have b := List.length_take_le' i xs
        omega
      refine ⟨hw x, ht x H' hin e _ fun H2 e2 => ?_⟩
      rw [List.take_add_one, hi]
      cases hf : f x with
      | true =>
        refine iteT (he x H2 hin (e.tr e2) hf _ fun H3 e3 => ⟨_, e3 _ _ (e2 _ _ hd), ?_, ?_, ?_⟩)
        · rw [List.length_map]; exact small1000 hlen
        · exact Evl.Ex.mut ((e.tr e2).tr e3) hD
        · rw [upd_same, List.filter_append, List.map_append]
          simp [hf]
      | false =>
        refine iteF ⟨e.tr e2, ?_⟩
        rw [List.filter_append, e2 _ _ hd]
        simp [hf]
    · rintro H' ⟨e, hd⟩
      rw [List.take_length] at hd
      exact k D H' hD hd e
mutual
theorem dp_ex {H H' : Hp} (e : Ex H H') : ∀ {v : V} {d : PyData}, Dp K H v d → Dp K H' v d
  | _, _, .non => .non
  | _, _, .bl b => .bl b
  | _, _, .int i => .int i
  | _, _, .str s => .str s
  | _, _, .lst h a => .lst (e.sq h) (dp_exAll e a)
  | _, _, .tup h a => .tup (e.st h) (dp_exAll e a)
theorem dp_exAll {H H' : Hp} (e : Ex H H') : ∀ {vs : List V} {ds : List PyData}, DpAll K H vs ds → DpAll K H' vs ds
  | _, _, .nil => .nil
  | _, _, .cons a b => .cons (dp_ex e a) (dp_exAll e b)
end
/-- a thing in a list that is asked after -/
structure El (K : PySem.W.Frag) (H : Hp) (x : V) : Prop where
  th : Thing K H x
  dp : ∃ d, Dp K H x d ∧ SeqAt.shaped d = true ∧ d.depth ≤ 8
theorem El.ex {H' : Hp} {x : V} (h : El K H x) (e : Ex H H') : El K H' x := ⟨h.th.ex e, by obtain ⟨d, a, b⟩ := h.dp; exact ⟨d, dp_ex e a, b⟩⟩
/-- a list or a tuple of what may be asked, or none -/
def Row (K : PySem.W.Frag) (H : Hp) (v : V) (r : Option (List V)) : Prop :=
  (NonSeq H v ∧ r = none) ∨ ∃ a xs, v = .ref a ∧ Sq2 H a xs ∧ xs.length ≤ 100 ∧ (∀ x ∈ xs, El K H x) ∧ r = some xs
def rowB (r : Option (List V)) (lo n : Nat) (m : Int) : Bool := match r with
  | none => false
  | some xs => okL xs m n && decide (lo ≤ xs.length)
theorem Row.arg {v : V} {r : Option (List V)} {m : Int} {n : Nat} (h : Row K H v r) : ListArg K H v m n (rowB r 0 n m) := by
  rcases h with ⟨h, rfl⟩ | ⟨a, xs, rfl, h2, h3, h4, rfl⟩
  · exact .inl ⟨h, rfl⟩
  · exact .inr ⟨a, xs, rfl, h2, by omega, fun x hx H' e => (h4 x hx).th.ex e, by simp [rowB]⟩
theorem Row.ex {H' : Hp} {v : V} {r : Option (List V)} (h : Row K H v r) (e : Ex H H') : Row K H' v r := by
  rcases h with ⟨h, hr⟩ | ⟨a, xs, h1, h2, h3, h4, h5⟩
  · exact .inl ⟨h.ex e, hr⟩
  · exact .inr ⟨a, xs, h1, h2.ex e, h3, fun x hx => (h4 x hx).ex e, h5⟩

def unI : V → Int
  | .int i => i
  | _ => 0
def sumI (r : Option (List V)) : Int := ((r.getD []).map unI).sum
/-- what is due at a door -/
def dueC (door : Int) (v u w s : V) (r1 r2 : Option (List V)) : Option (Str × V) :=
  if rowB r1 0 60 99 = false then some ("list", v)
  else if rowB r2 (if door > 3 then 1 else 0) 40 999 = false then some ("list", u)
  else if (door = 0 ∨ door = 2 ∨ door = 3) ∧ whole w 0 999 = false then some ("number", w)
  else if door = 2 ∧ whole s 0 99999 = false then some ("number", s)
  else if door = 4 ∧ ((r1.getD []).length : Int) > sumI r2 then some ("room", .int (sumI r2))
  else none
def dueL : Option (Str × V) → List V
  | none => [.str "told"]
  | some (s, v) => [.str s, v]
theorem sumI_iV (ls : List Int) : sumI (some (iV ls)) = ls.sum := by
  show ((iV ls).map unI).sum = _
  rw [List.map_map]
  congr 1
  induction ls with
  | nil => rfl
  | cons x r ih => rw [List.map_cons, ih]; rfl
theorem Row.good {v : V} {r : Option (List V)} {lo n : Nat} {m : Int} (h : Row K H v r) (b : rowB r lo n m = true) : ∃ a ns, v = .ref a ∧ r = some (iV ns) ∧ Sq2 H a (iV ns) ∧ ns.length ≤ n ∧ lo ≤ ns.length ∧ ∀ w ∈ ns, 1 ≤ w ∧ w ≤ m := by
  rcases h with ⟨_, rfl⟩ | ⟨a, xs, rfl, h2, _, _, rfl⟩
  · cases b
  · unfold rowB okL at b
    have h6 := (Bool.and_eq_true _ _).mp b
    have h7 := (Bool.and_eq_true _ _).mp h6.1
    obtain ⟨ns, rfl, hn⟩ := all_nums h7.1
    have l1 := of_decide_eq_true h6.2
    have l2 := of_decide_eq_true h7.2
    rw [List.length_map] at l1 l2
    exact ⟨a, ns, rfl, rfl, h2, by omega, l1, hn⟩
end
theorem rowB_some {xs : List V} {lo n : Nat} {m : Int} : rowB (some xs) lo n m = (xs.all (fun x => whole x 1 m) && decide ((xs.length : Int) ≤ n) && decide (lo ≤ xs.length)) := rfl
theorem in023 (d : Int) : inV (.int d) [.int 0, .int 2, .int 3] = decide (d = 0 ∨ d = 2 ∨ d = 3) := by
  show ((0 : Int) == d || ((2 : Int) == d || ((3 : Int) == d || false))) = _
  rw [Bool.eq_iff_iff]
  simp only [Bool.or_eq_true, beq_iff_eq, decide_eq_true_eq, Bool.false_eq_true, or_false]
  omega
section
variable {door : Int} {v u w s : V} {r1 r2 : Option (List V)}
theorem rowB_lo {r : Option (List V)} {lo n : Nat} {m : Int} (h : rowB r 0 n m = false) : rowB r lo n m = false := by
  cases r with
  | none => rfl
  | some xs =>
    rw [rowB_some] at h ⊢
    rw [decide_eq_true (Nat.zero_le _), Bool.and_true] at h
    rw [h]; rfl
theorem rowB_le {r : Option (List V)} {lo n : Nat} {m : Int} (h : rowB r lo n m = true) : rowB r 0 n m = true := by
  cases e : rowB r 0 n m with
  | true => rfl
  | false => rw [rowB_lo e] at h; cases h
theorem due_v (h : rowB r1 0 60 99 = false) : dueC door v u w s r1 r2 = some (("list" : Str), v) := if_pos h
theorem due_u (h : rowB r1 0 60 99 = true) (h2 : rowB r2 (if door > 3 then 1 else 0) 40 999 = false) : dueC door v u w s r1 r2 = some (("list" : Str), u) := by
  unfold dueC; rw [if_neg (by rw [h]; decide), if_pos h2]
theorem due_w (h : rowB r1 0 60 99 = true) (h2 : rowB r2 (if door > 3 then 1 else 0) 40 999 = true) (h3 : door = 0 ∨ door = 2 ∨ door = 3) (h4 : whole w 0 999 = false) : dueC door v u w s r1 r2 = some (("number" : Str), w) := by
  unfold dueC; rw [if_neg (by rw [h]; decide), if_neg (by rw [h2]; decide), if_pos ⟨h3, h4⟩]
theorem due_s (h : rowB r1 0 60 99 = true) (h2 : rowB r2 (if door > 3 then 1 else 0) 40 999 = true) (h3 : door = 2) (h4 : whole w 0 999 = true) (h5 : whole s 0 99999 = false) : dueC door v u w s r1 r2 = some (("number" : Str), s) := by
  unfold dueC; rw [if_neg (by rw [h]; decide), if_neg (by rw [h2]; decide), if_neg (fun z => by rw [h4] at z; cases z.2), if_pos ⟨h3, h5⟩]
theorem due_r (h : rowB r1 0 60 99 = true) (h2 : rowB r2 (if door > 3 then 1 else 0) 40 999 = true) (h3 : door = 4) (h4 : ((r1.getD []).length : Int) > sumI r2) : dueC door v u w s r1 r2 = some (("room" : Str), .int (sumI r2)) := by
  unfold dueC; rw [if_neg (by rw [h]; decide), if_neg (by rw [h2]; decide), if_neg (fun z => by omega), if_neg (fun z => by omega), if_pos ⟨h3, h4⟩]
theorem due_t (h : rowB r1 0 60 99 = true) (h2 : rowB r2 (if door > 3 then 1 else 0) 40 999 = true) (h3 : (door = 0 ∨ door = 2 ∨ door = 3) → whole w 0 999 = true) (h4 : door = 2 → whole s 0 99999 = true) (h5 : door = 4 → ¬ ((r1.getD []).length : Int) > sumI r2) : dueC door v u w s r1 r2 = none := by
  unfold dueC
  rw [if_neg (by rw [h]; decide), if_neg (by rw [h2]; decide), if_neg (fun z => by rw [h3 z.1] at z; cases z.2), if_neg (fun z => by rw [h4 z.1] at z; cases z.2), if_neg (fun z => h5 z.1 z.2)]
end
section
variable {X : Cx} {CX : CXT} {k j : Nat} {x : Str} {sp : Sp} {E : L2.St → XK} {p pos : Pos} {e : Expr} {es : List Expr} {t : TA} {dvs : List V}
/-- .. with what lacks, within a try -/
def spD (sp : Sp) (dvs : List V) : Sp := fun vs H Q E => sp (vs ++ dvs) H Q E
theorem pe_kgDS (c : KgD CX X.prog X.w X.K X.mg X.base k x dvs sp) (hr : RoomG j X.A) (hk : k ≤ j) (hx : ∀ σ, PassesAt CX X σ (E σ)) (hg : Gl X x) (ha : PA X (e :: es) t)
    (hdb : (x == ("__debug__" : Str)) = false := by decide) (he : starEach (e :: es) X.env = (false, eval e X.env) :: starEach es X.env := by rfl) (hpl : (backTo pos (starEach es X.env)).any (·.1) = false := by rfl) :
    PE X (.Call (.Name x p) (e :: es) [] pos) (tCallS (spD sp dvs) E t) := by
  obtain ⟨f, fd, ps, ds, F, hm, kp, vd, b⟩ := c.ex
  refine ⟨fun pins s σ H Q I h => ?_⟩
  refine wpAny_Call_Name_kw (ld_glob I hg hm ?_ hdb)
  refine PySem.W.callWith_K (h₀ := X.base) I.ok.mod.kin kp (thn (ha.run pos pins s σ H _ I h) fun us s1 ⟨vs, H1, I1, r, q⟩ => ⟨I1.kIn, ?_⟩) he hpl
  have ra : Vals (vs ++ dvs) (us ++ ds) := r.append vd
  have hl : (us ++ ds).length = ps.length := by rw [← ra.length]; exact F.many _ _ _ _ q
  have bb := b s1 us I1.kIn hl
  refine wpAny_call (codeAny_mono (F.runs (hr.mono hk) I1.env0 bb ra q) fun r' s' hq => ?_)
  match r', hq with
  | .error e, hq => exact hx σ pins H1 s1 e s' I1 hq
  | .ok (.ret u), hq => exact I1.after hq
  | .ok .next, hq => exact hq.elim
  | .ok .brk, hq => exact hq.elim
  | .ok .cont, hq => exact hq.elim
theorem q_spD {sp : Sp} {dvs vs : List V} {H : Hp} {Q : VK} {E : XK} (h : sp (vs ++ dvs) H Q E) : spD sp dvs vs H Q E := h
end
theorem rows_are {K : PySem.W.Frag} {H : Hp} {a c : Addr} {ws ls : List Int} {r1 r2 : Option (List V)} (h : Row K H (.ref a) r1) (h' : Row K H (.ref c) r2) (g : Good2 H a c ws ls) : r1 = some (iV ws) ∧ r2 = some (iV ls) := by
  have one : ∀ {a : Addr} {ws : List Int} {r : Option (List V)}, Row K H (.ref a) r → Sq2 H a (iV ws) → r = some (iV ws) := by
    intro a ws r h s
    rcases h with ⟨n, rfl⟩ | ⟨a', xs, e, h2, _, _, rfl⟩
    · exfalso
      cases n with
      | dK z => rcases s with s | s <;> (rw [z] at s; cases s)
    · cases e
      rcases s with s | s <;> rcases h2 with h2 | h2 <;> (rw [s] at h2; cases h2) <;> rfl
  exact ⟨one h g.a, one h' g.c⟩
/-! ## things that may be spoilt, told, and grown -/
/-- a heap without one thing -/
def rem (H : Hp) (q : Addr) : Hp := fun a => if a = q then none else H a
theorem rem_fb {H H' : Hp} {q : Addr} (f : Fb q H H') : Ex (rem H q) H' := fun a o h => by
  unfold rem at h
  by_cases e : a = q
  · rw [if_pos e] at h; cases h
  · rw [if_neg e] at h; exact f a o h e
theorem rem_ex {H H' : Hp} {q : Addr} (e : Ex H H') : Ex (rem H q) (rem H' q) := fun a o h => by
  unfold rem at h ⊢
  by_cases c : a = q
  · rw [if_pos c] at h; cases h
  · rw [if_neg c] at h ⊢; exact e a o h
theorem rem_at {H : Hp} {q a : Addr} {o : HO} (h : H a = some o) (n : a ≠ q) : rem H q a = some o := by
  unfold rem; rw [if_neg n]; exact h
/-- a heap without two things -/
def rst (T b : Addr) (H : Hp) : Hp := rem (rem H T) b
theorem rst_inv {T b a : Addr} {H : Hp} {o : HO} (h : rst T b H a = some o) : H a = some o ∧ a ≠ T ∧ a ≠ b := by
  unfold rst rem at h
  by_cases c : a = b
  · rw [if_pos c] at h; cases h
  · rw [if_neg c] at h
    by_cases d : a = T
    · rw [if_pos d] at h; cases h
    · rw [if_neg d] at h; exact ⟨h, d, c⟩
theorem rst_at {T b a : Addr} {H : Hp} {o : HO} (h : H a = some o) (n : a ≠ T) (m : a ≠ b) : rst T b H a = some o := rem_at (rem_at h n) m
theorem rst_sub {T b : Addr} {H : Hp} : Ex (rst T b H) H := fun a o h => (rst_inv h).1
theorem rst_b {T b : Addr} {H H' : Hp} (f : Fb b H H') : Ex (rst T b H) (rst T b H') := fun a o h => by
  obtain ⟨h1, h2, h3⟩ := rst_inv h
  exact rst_at (f a o h1 h3) h2 h3
theorem rst_T {T b : Addr} {H H' : Hp} (f : Fb T H H') : Ex (rst T b H) (rst T b H') := fun a o h => by
  obtain ⟨h1, h2, h3⟩ := rst_inv h
  exact rst_at (f a o h1 h2) h2 h3
theorem rst_ex {T b : Addr} {H H' : Hp} (f : Ex H H') : Ex (rst T b H) (rst T b H') := fun a o h => by
  obtain ⟨h1, h2, h3⟩ := rst_inv h
  exact rst_at (f a o h1) h2 h3
theorem rst_nw {T b : Addr} {H H' : Hp} {o1 o2 : HO} (hT : H T = some o1) (hb : H b = some o2) : Ex (nw H H') (rst T b H') := fun a o h => by
  obtain ⟨h1, h2⟩ := nw_inv h
  exact rst_at h2 (fun e => by rw [e, hT] at h1; cases h1) (fun e => by rw [e, hb] at h1; cases h1)
/-- what can be told, and told when it has grown -/
structure Grw (K : PySem.W.Frag) (H : Hp) (v : V) : Prop where
  th : Thing K H v
  dd : ∃ d, Dd K H v d ∧ Short d 11000
  li : ∀ q xs, v = .ref q → H q = some (.lst xs) → xs.length ≤ 100 ∧ ∃ ds, DdAll K (rem H q) xs ds ∧ ∀ d ∈ ds, Sm d 100
  di : ∀ q kvs, v = .ref q → H q = some (.dK kvs) → kvs = [] ∨ kvs = [(Sum.inl (1 : Int), V.int 1)]
theorem Grw.ex {K : PySem.W.Frag} {H H' : Hp} {v : V} (h : Grw K H v) (e : Ex H H') : Grw K H' v := by
  obtain ⟨d, hd, hs⟩ := h.dd
  refine ⟨h.th.ex e, ⟨d, dd_ex e hd, hs⟩, fun q xs hv hq => ?_, fun q kvs hv hq => ?_⟩
  · subst hv
    obtain ⟨o, ho⟩ := thing_at h.th
    have := e _ _ ho
    rw [hq] at this
    cases this
    obtain ⟨a, ds, b, c⟩ := h.li q xs rfl ho
    exact ⟨a, ds, dd_exAll (rem_ex e) b, c⟩
  · subst hv
    obtain ⟨o, ho⟩ := thing_at h.th
    have := e _ _ ho
    rw [hq] at this
    cases this
    exact h.di q kvs rfl ho
theorem short_lst2 {m k : Nat} {ds : List PyData} (h : ∀ d ∈ ds, Sm d m) (hz : (m + 2) * ds.length + 3 ≤ k) : Short (.list ds) k := by
  obtain ⟨a, b, c, e⟩ := all_Sm h
  refine ⟨by simp only [PyData.showable, a], by simp only [PyData.depth]; omega, ?_⟩
  simp only [PyData.shown]
  have h1 := PySem.listText_len_le (PyData.shownAll ds)
  rw [e] at h1
  have : (m + 2) * ds.length = m * ds.length + 2 * ds.length := Nat.add_mul _ _ _
  omega
theorem short_tpl2 {m k : Nat} {ds : List PyData} (h : ∀ d ∈ ds, Sm d m) (hz : (m + 2) * ds.length + 3 ≤ k) : Short (.tuple ds) k := by
  obtain ⟨a, b, c, e⟩ := all_Sm h
  refine ⟨by simp only [PyData.showable, a], by simp only [PyData.depth]; omega, ?_⟩
  simp only [PyData.shown]
  have h1 := PySem.tupleText_len_le (PyData.shownAll ds)
  rw [e] at h1
  have : (m + 2) * ds.length = m * ds.length + 2 * ds.length := Nat.add_mul _ _ _
  omega
theorem ddAll_len {K : PySem.W.Frag} {H : Hp} : ∀ {xs : List V} {ds : List PyData}, DdAll K H xs ds → ds.length = xs.length
  | _, _, .nil => rfl
  | _, _, .cons _ h => by rw [List.length_cons, List.length_cons, ddAll_len h]
theorem Grw.flat {K : PySem.W.Frag} {H : Hp} {v : V} {d : PyData} (t : Thing K H v) (h : Dd K H v d) (s : Sm d 1300) (hv : ∀ p, v ≠ .ref p) : Grw K H v :=
  ⟨t, ⟨d, h, s.ok, Nat.le_trans s.dp (by decide), Nat.le_trans s.sz (by decide)⟩, fun q xs e _ => absurd e (hv q), fun q xs e _ => absurd e (hv q)⟩
theorem Grw.list {K : PySem.W.Frag} {H : Hp} {p : Addr} {xs : List V} {ds : List PyData} (h : H p = some (.lst xs)) (hl : xs.length ≤ 100) (hd : DdAll K (rem H p) xs ds) (hs : ∀ d ∈ ds, Sm d 100) : Grw K H (.ref p) := by
  have e : Ex (rem H p) H := rem_fb Fb.rfl
  refine ⟨.lst p _ h, ⟨_, .lst (SqL.of h) (dd_exAll e hd), short_lst2 hs ?_⟩, fun q ys z hq => ?_, fun q kvs z hq => ?_⟩
  · rw [ddAll_len hd]; omega
  · cases z; rw [h] at hq; cases hq; exact ⟨hl, ds, hd, hs⟩
  · cases z; rw [h] at hq; cases hq
theorem Grw.tuple {K : PySem.W.Frag} {H : Hp} {p : Addr} {xs : List V} {ds : List PyData} (h : H p = some (.tup xs)) (hl : xs.length ≤ 100) (hd : DdAll K H xs ds) (hs : ∀ d ∈ ds, Sm d 100) : Grw K H (.ref p) := by
  refine ⟨.tup p _ h, ⟨_, .tup (SqT.of h) hd, short_tpl2 hs ?_⟩, fun q ys z hq => ?_, fun q kvs z hq => ?_⟩
  · rw [ddAll_len hd]; omega
  · cases z; rw [h] at hq; cases hq
  · cases z; rw [h] at hq; cases hq
theorem Grw.ints {K : PySem.W.Frag} {H : Hp} {p : Addr} {ns : List Int} (h : Sq2 H p (iV ns)) (hn : ∀ n ∈ ns, -1 ≤ n ∧ n < 1000000) (hz : ns.length ≤ 100) : Grw K H (.ref p) :=
  h.elim (fun h => .list h (by rw [List.length_map]; exact hz) (dd_ints ns) fun d hd => (ints_Sm hn d hd).mono (by decide))
    fun h => .tuple h (by rw [List.length_map]; exact hz) (dd_ints ns) fun d hd => (ints_Sm hn d hd).mono (by decide)
theorem Grw.dict {K : PySem.W.Frag} {H : Hp} {p : Addr} {kvs : List (Key × V)} (h : H p = some (.dK kvs)) (hk : kvs = [] ∨ kvs = [(Sum.inl (1 : Int), V.int 1)]) : Grw K H (.ref p) := by
  refine ⟨.dK p _ h, ?_, fun q ys z hq => ?_, fun q ys z hq => ?_⟩
  · rcases hk with rfl | rfl
    · exact ⟨.dict [], .dic h .nil .nil, ⟨by decide +kernel, by decide +kernel, by decide +kernel⟩⟩
    · exact ⟨.dict [(.int 1, .int 1)], .dic h (.cons (.int 1) .nil) (.cons (.int 1) .nil), ⟨by decide +kernel, by decide +kernel, by decide +kernel⟩⟩
  · cases z; rw [h] at hq; cases hq
  · cases z; rw [h] at hq; cases hq; exact hk
/-- it has grown at its end -/
theorem Grw.more {K : PySem.W.Frag} {H H' : Hp} {q : Addr} {xs : List V} (g : Grw K H (.ref q)) (h : H q = some (.lst xs)) (f : Fb q H H') (h' : H' q = some (.lst (xs ++ [.str "more"]))) : ∃ d, Dd K H' (.ref q) d ∧ Short d 11000 := by
  obtain ⟨hl, ds, hd, hs⟩ := g.li q xs rfl h
  refine ⟨_, .lst (SqL.of h') (ddAll_app (dd_exAll (rem_fb f) hd) (.cons (.str "more") .nil)), short_lst2 (m := 100) (fun d hd' => ?_) ?_⟩
  · rcases List.mem_append.mp hd' with z | z
    · exact hs d z
    · rw [List.mem_singleton.mp z]; exact (sm_str (n := 4) ⟨by decide +kernel, by decide +kernel⟩).mono (by decide)
  · rw [List.length_append, ddAll_len hd]; simp only [List.length_singleton]; omega
/-- a row that is drawn -/
structure SpL (K : PySem.W.Frag) (H : Hp) (v : V) (r : Option (List V)) (m : Int) : Prop where
  row : Row K H v r
  one : ∀ xs, r = some xs → ∀ x ∈ xs, x = .int 1 ∨ whole x 1 m = false
  grw : Grw K H v
theorem SpL.ex {K : PySem.W.Frag} {H H' : Hp} {v : V} {r : Option (List V)} {m : Int} (h : SpL K H v r m) (e : Ex H H') : SpL K H' v r m := ⟨h.row.ex e, h.one, h.grw.ex e⟩
theorem SpL.ones {K : PySem.W.Frag} {H : Hp} {v : V} {r : Option (List V)} {lo n : Nat} {m : Int} (h : SpL K H v r m) : ∀ ws, r = some (iV ws) → rowB r lo n m = true → ∀ x ∈ ws, x = 1 := fun ws e b x hx => by
  subst e
  rw [rowB_some] at b
  have h1 := ((Bool.and_eq_true _ _).mp ((Bool.and_eq_true _ _).mp b).1).1
  have hm : V.int x ∈ iV ws := List.mem_map.mpr ⟨x, hx, rfl⟩
  have h2 := List.all_eq_true.mp h1 _ hm
  rcases h.one _ rfl _ hm with z | z
  · cases z; rfl
  · rw [h2] at z; cases z
theorem el_int {K : PySem.W.Frag} {H : Hp} (i : Int) : El K H (.int i) := ⟨.int i, .int i, .int i, by simp [SeqAt.shaped, PyData.canLay0, PyData.depth], by simp [PyData.depth]⟩
theorem el_non {K : PySem.W.Frag} {H : Hp} : El K H .non := ⟨.non, .none, .non, by decide, by decide⟩
theorem el_bl {K : PySem.W.Frag} {H : Hp} (b : Bool) : El K H (.bl b) := ⟨.bl b, .bool b, .bl b, by cases b <;> decide, by cases b <;> decide⟩
theorem el_str1 {K : PySem.W.Frag} {H : Hp} : El K H (.str "1") := ⟨.str _ ((show Tn 1 ("1" : Str) from ⟨by decide +kernel, by decide +kernel⟩).mono (by decide)), .str "1", .str "1", by decide +kernel, by decide +kernel⟩
theorem el_l1 {K : PySem.W.Frag} {H : Hp} {p : Addr} (h : H p = some (.lst [.int 1])) : El K H (.ref p) := ⟨.lst _ _ h, .list [.int 1], .lst (SqL.of h) (.cons (.int 1) .nil), by decide, by decide⟩
theorem el_t1 {K : PySem.W.Frag} {H : Hp} {p : Addr} (h : H p = some (.tup [.int 1])) : El K H (.ref p) := ⟨.tup _ _ h, .tuple [.int 1], .tup (SqT.of h) (.cons (.int 1) .nil), by decide, by decide⟩
theorem ddAll_of {K : PySem.W.Frag} {H : Hp} {P : PyData → Prop} : ∀ {xs : List V}, (∀ x ∈ xs, ∃ d, Dd K H x d ∧ P d) → ∃ ds, DdAll K H xs ds ∧ ∀ d ∈ ds, P d
  | [], _ => ⟨[], .nil, fun d h => by cases h⟩
  | x :: xs, h => by
    obtain ⟨ds, a, b⟩ := ddAll_of (xs := xs) fun y hy => h y (List.mem_cons_of_mem _ hy)
    obtain ⟨d, c, e⟩ := h x List.mem_cons_self
    exact ⟨d :: ds, .cons c a, fun z hz => by
      rcases List.mem_cons.mp hz with rfl | hz
      · exact e
      · exact b z hz⟩
theorem SpL.of {K : PySem.W.Frag} {H : Hp} {p : Addr} {xs : List V} {m : Int} (h : Sq2 H p xs) (hl : xs.length ≤ 100) (he : ∀ x ∈ xs, El K H x) (hd : ∀ x ∈ xs, ∃ d, Dd K (rem H p) x d ∧ Sm d 100) (h1 : ∀ x ∈ xs, x = .int 1 ∨ whole x 1 m = false) : SpL K H (.ref p) (some xs) m := by
  obtain ⟨ds, a, b⟩ := ddAll_of hd
  refine ⟨.inr ⟨p, xs, rfl, h, hl, he, rfl⟩, fun ys e => by cases e; exact h1, ?_⟩
  rcases h with h | h
  · exact .list h hl a b
  · exact .tuple h hl (dd_exAll (rem_fb Fb.rfl) a) b
theorem sm_one : Sm (.int 1) 100 := ⟨by decide +kernel, by decide +kernel, by decide +kernel⟩
theorem SpL.all1 {K : PySem.W.Frag} {H : Hp} {p : Addr} {k : Nat} {m : Int} (h : Sq2 H p (List.replicate k (V.int 1))) (hk : k ≤ 100) : SpL K H (.ref p) (some (List.replicate k (V.int 1))) m :=
  .of h (by rw [List.length_replicate]; exact hk) (fun x hx => by rw [(List.mem_replicate.mp hx).2]; exact el_int 1) (fun x hx => by rw [(List.mem_replicate.mp hx).2]; exact ⟨_, .int 1, sm_one⟩) (fun x hx => .inl (List.mem_replicate.mp hx).2)
theorem SpL.no {K : PySem.W.Frag} {H : Hp} {v : V} {m : Int} (n : NonSeq H v) (g : Grw K H v) : SpL K H v none m := ⟨.inl ⟨n, rfl⟩, (fun _ e => by cases e), g⟩
/-- odd things in a row -/
def OddF (K : PySem.W.Frag) (p1 p2 : Addr) (x : V) : Prop := ∀ Hx : Hp, Hx p1 = some (.lst [.int 1]) → Hx p2 = some (.tup [.int 1]) → El K Hx x ∧ ∃ d, Dd K Hx x d ∧ Sm d 100
theorem SpL.mid {K : PySem.W.Frag} {H : Hp} {p p1 p2 : Addr} {x : V} {k j : Nat} {m : Int} (h : Sq2 H p ((List.replicate k (V.int 1)).set j x)) (hk : k ≤ 100) (h1 : H p1 = some (.lst [.int 1])) (h2 : H p2 = some (.tup [.int 1])) (n1 : p1 ≠ p) (n2 : p2 ≠ p) (o : OddF K p1 p2 x) (hx : whole x 1 m = false) : SpL K H (.ref p) (some ((List.replicate k (V.int 1)).set j x)) m := by
  refine .of h (by rw [List.length_set, List.length_replicate]; exact hk) (fun y hy => ?_) (fun y hy => ?_) (fun y hy => ?_)
  · rcases List.mem_or_eq_of_mem_set hy with z | rfl
    · rw [(List.mem_replicate.mp z).2]; exact el_int 1
    · exact (o H h1 h2).1
  · rcases List.mem_or_eq_of_mem_set hy with z | rfl
    · rw [(List.mem_replicate.mp z).2]; exact ⟨_, .int 1, sm_one⟩
    · exact (o _ (rem_at h1 n1) (rem_at h2 n2)).2
  · rcases List.mem_or_eq_of_mem_set hy with z | rfl
    · exact .inl (List.mem_replicate.mp z).2
    · exact .inr hx
theorem odd_flat {K : PySem.W.Frag} {p1 p2 : Addr} {x : V} {d : PyData} (e : ∀ H, El K H x) (h : ∀ H, Dd K H x d) (s : Sm d 100) : OddF K p1 p2 x := fun H _ _ => ⟨e H, d, h H, s⟩
theorem odd_l1 {K : PySem.W.Frag} {p1 p2 : Addr} : OddF K p1 p2 (.ref p1) := fun _ h1 _ => ⟨el_l1 h1, .list [.int 1], .lst (SqL.of h1) (.cons (.int 1) .nil), by decide +kernel, by decide +kernel, by decide +kernel⟩
theorem odd_t1 {K : PySem.W.Frag} {p1 p2 : Addr} : OddF K p1 p2 (.ref p2) := fun _ _ h2 => ⟨el_t1 h2, .tuple [.int 1], .tup (SqT.of h2) (.cons (.int 1) .nil), by decide +kernel, by decide +kernel, by decide +kernel⟩
theorem odd_int {K : PySem.W.Frag} {p1 p2 : Addr} {i : Int} (h : -1 ≤ i ∧ i < 1000000) : OddF K p1 p2 (.int i) := odd_flat (fun _ => el_int i) (fun _ => .int i) ((int_Sm h.1 h.2).mono (by decide))
theorem set_at {p : Addr} {xs : List V} {i : Int} (h0 : 0 ≤ i) (h1 : i < xs.length) : ixN xs.length i = some i.toNat := by
  obtain ⟨n, rfl⟩ := Int.eq_ofNat_of_zero_le h0
  exact Evl.ixN_nat (by omega)
theorem nw_pre {H H1 H' : Hp} (e : Ex H H1) : Ex (nw H1 H') (nw H H') := fun a o h => by
  obtain ⟨h1, h2⟩ := nw_inv h
  exact nw_of (e.free h1) h2
def ForR2K (g : TG) (tb : TS) (D : Ends) (σ : L2.St) : List V → Hp → Prop := fun us H => tFor (iRng2 (fun _ H Q' => Q' us H)) g tb D σ H
theorem q_forR2 {ta : TA} {g : TG} {tb : TS} {D : Ends} {σ : L2.St} {H : Hp} (k : ta σ H (ForR2K g tb D σ)) : tFor (iRng2 ta) g tb D σ H := k
theorem q_rngFor2 {j : Nat} {tb : TS} {D : Ends} {σ : L2.St} {H : Hp} {M N : Int} (Pv : Nat → L2.St → Hp → Prop) (hM : 0 ≤ M ∧ M ≤ 100000) (hN : 0 ≤ N ∧ N ≤ 100000) (h0 : Pv 0 σ H)
    (hs : ∀ (i : Nat) σ' H', M + (i : Int) < N → Pv i σ' H' → tb { D with nx := Pv (i + 1), ct := Pv (i + 1), bk := D.nx } (σ'.set j (some (.int (M + (i : Int))))) H') (hd : ∀ σ' H', Pv (N - M).toNat σ' H' → D.nx σ' H') : ForR2K (gName j) tb D σ [.int M, .int N] H := by
  refine ⟨M, N, rfl, by omega, for_range (lo := M) (n := (N - M).toNat) Pv h0 (fun i σ' H' hi p => ?_) hd⟩
  exact hs i σ' H' (by omega) p
/-- data that may be told -/
structure Mid (d : PyData) (m k : Nat) : Prop where
  ok : d.showable = true
  dp : d.depth ≤ k
  sz : d.shown.length ≤ m
theorem Mid.mono {d : PyData} {m k m' k' : Nat} (h : Mid d m k) (a : m ≤ m') (b : k ≤ k') : Mid d m' k' := ⟨h.ok, Nat.le_trans h.dp b, Nat.le_trans h.sz a⟩
theorem mid_all {m k : Nat} : ∀ {ds : List PyData}, (∀ d ∈ ds, Mid d m k) → PyData.showableAll ds = true ∧ PyData.depthAll ds ≤ k ∧ ((PyData.shownAll ds).map (·.length)).sum ≤ m * ds.length ∧ (PyData.shownAll ds).length = ds.length
  | [], _ => by simp [PyData.showableAll, PyData.depthAll, PyData.shownAll]
  | d :: ds, h => by
    obtain ⟨a, b, c, e⟩ := mid_all (ds := ds) fun x hx => h x (List.mem_cons_of_mem _ hx)
    obtain ⟨x, y, z⟩ := h d List.mem_cons_self
    simp only [PyData.showableAll, PyData.depthAll, PyData.shownAll, List.map_cons, List.sum_cons, List.length_cons, a, x, Bool.and_self, e, Nat.mul_succ, true_and]
    exact ⟨Nat.max_le.mpr ⟨y, b⟩, by omega, trivial⟩
theorem mid_lst {m k : Nat} {ds : List PyData} (h : ∀ d ∈ ds, Mid d m k) : Mid (.list ds) ((m + 2) * ds.length + 3) (k + 1) := by
  obtain ⟨a, b, c, e⟩ := mid_all h
  refine ⟨by simp only [PyData.showable, a], by simp only [PyData.depth]; omega, ?_⟩
  simp only [PyData.shown]
  have h1 := PySem.listText_len_le (PyData.shownAll ds)
  rw [e] at h1
  have : (m + 2) * ds.length = m * ds.length + 2 * ds.length := Nat.add_mul _ _ _
  omega
theorem Short.mid {d : PyData} {m : Nat} (h : Short d m) : Mid d m 5 := ⟨h.ok, h.dp, h.sz⟩
theorem q_reprM {K : PySem.W.Frag} {H : Hp} {Q : VK} {x : V} {d : PyData} {m k : Nat} (h : Dd K H x d) (s : Mid d m k) (hm : m ≤ 1000000) (hk : k ≤ 40) (q : Q (.str d.shown) H) : rRepr K [x] H Q := q_repr d h s.ok (Nat.le_trans s.dp hk) (Nat.le_trans s.sz (by rw [sizeLine_eq]; omega)) q
/-- a list of things that may be told -/
theorem tell_list {K : PySem.W.Frag} {H : Hp} {p : Addr} {xs : List V} {m k : Nat} (h : H p = some (.lst xs)) (hx : ∀ x ∈ xs, ∃ d, Dd K H x d ∧ Mid d m k) : ∃ d, Dd K H (.ref p) d ∧ Mid d ((m + 2) * xs.length + 3) (k + 1) := by
  obtain ⟨ds, a, b⟩ := ddAll_of hx
  refine ⟨_, .lst (SqL.of h) a, ?_⟩
  have := mid_lst b
  rw [ddAll_len a] at this
  exact this
theorem due_mem {door : Int} {v u w s y : V} {r1 r2 : Option (List V)} {t : Str} (h : dueC door v u w s r1 r2 = some (t, y)) :
    (t = "list" ∧ (y = v ∨ y = u)) ∨ (t = "number" ∧ (y = w ∨ y = s)) ∨ (t = "room" ∧ y = .int (sumI r2) ∧ rowB r2 0 40 999 = true) := by
  unfold dueC at h
  generalize (if door > 3 then (1 : Nat) else 0) = lo at h
  split at h
  · cases h; exact .inl ⟨rfl, .inl rfl⟩
  split at h
  · cases h; exact .inl ⟨rfl, .inr rfl⟩
  rename_i h2
  split at h
  · cases h; exact .inr (.inl ⟨rfl, .inl rfl⟩)
  split at h
  · cases h; exact .inr (.inl ⟨rfl, .inr rfl⟩)
  split at h
  · cases h
    refine .inr (.inr ⟨rfl, rfl, rowB_le (lo := lo) ?_⟩)
    cases e : rowB r2 lo 40 999 with
    | true => rfl
    | false => exact absurd e h2
  · cases h
theorem sumI_small {r : Option (List V)} (h : rowB r 0 40 999 = true) : 0 ≤ sumI r ∧ sumI r < 1000000 := by
  cases r with
  | none => cases h
  | some xs =>
    rw [rowB_some] at h
    have h6 := (Bool.and_eq_true _ _).mp ((Bool.and_eq_true _ _).mp h).1
    obtain ⟨ns, rfl, hn⟩ := all_nums h6.1
    rw [sumI_iV]
    have hl := of_decide_eq_true h6.2
    rw [List.length_map] at hl
    have := sum_bound (m := 999) (ls := ns) fun l hl => by have := hn l hl; omega
    omega
theorem pair_mid {d e : PyData} {m k : Nat} (h : Mid e m k) (h' : Mid d m k) : Mid (.list [e, d]) ((m + 2) * 2 + 3) (k + 1) := mid_lst (ds := [e, d]) fun x hx => by
  rcases List.mem_cons.mp hx with rfl | hx
  · exact h
  · rw [List.mem_singleton.mp hx]; exact h'
theorem more_dict {K : PySem.W.Frag} {H : Hp} {q : Addr} {kvs : List (Key × V)} (h : H q = some (.dK (putK kvs (Sum.inr ("more" : Str)) (.int 1)))) (hk : kvs = [] ∨ kvs = [(Sum.inl (1 : Int), V.int 1)]) : ∃ d, Dd K H (.ref q) d ∧ Short d 11000 := by
  rcases hk with rfl | rfl
  · exact ⟨.dict [(.str "more", .int 1)], .dic h (.cons (.str "more") .nil) (.cons (.int 1) .nil), ⟨by decide +kernel, by decide +kernel, by decide +kernel⟩⟩
  · exact ⟨.dict [(.int 1, .int 1), (.str "more", .int 1)], .dic h (.cons (.int 1) (.cons (.str "more") .nil)) (.cons (.int 1) (.cons (.int 1) .nil)), ⟨by decide +kernel, by decide +kernel, by decide +kernel⟩⟩
theorem q_isiDic2 {K : PySem.W.Frag} {H : Hp} {Q : VK} {v : V} (h : Thing K H v) (k1 : ∀ p xs, v = .ref p → H p = some (.dK xs) → Q (.bl true) H) (k0 : Q (.bl false) H) : rIsiX K [v, .ty "dict"] H Q := by
  by_cases c : ∃ p xs, v = .ref p ∧ H p = some (.dK xs)
  · obtain ⟨p, xs, rfl, hp⟩ := c
    exact q_isiDic1 hp (k1 p xs rfl hp)
  · exact q_isiDic0 h (fun p xs e hp => c ⟨p, xs, e, hp⟩) k0
/-- what has come since, but for two things -/
def rs (H0 : Hp) (T b : Addr) (H : Hp) : Hp := nw H0 (rst T b H)
theorem rs_inv {H0 H : Hp} {T b a : Addr} {o : HO} (h : rs H0 T b H a = some o) : H a = some o ∧ a ≠ T ∧ a ≠ b ∧ H0 a = none := by
  obtain ⟨h1, h2⟩ := nw_inv h
  obtain ⟨h3, h4, h5⟩ := rst_inv h2
  exact ⟨h3, h4, h5, h1⟩
theorem rs_at {H0 H : Hp} {T b a : Addr} {o : HO} (h : H a = some o) (n : a ≠ T) (m : a ≠ b) (z : H0 a = none) : rs H0 T b H a = some o := nw_of z (rst_at h n m)
theorem rs_sub {H0 H : Hp} {T b : Addr} : Ex (rs H0 T b H) H := fun _ _ h => (rs_inv h).1
theorem rs_b {H0 H H' : Hp} {T b : Addr} (f : Fb b H H') : Ex (rs H0 T b H) (rs H0 T b H') := nw_ex (rst_b f)
theorem rs_T {H0 H H' : Hp} {T b : Addr} (f : Fb T H H') : Ex (rs H0 T b H) (rs H0 T b H') := nw_ex (rst_T f)
theorem rs_ex {H0 H H' : Hp} {T b : Addr} (f : Ex H H') : Ex (rs H0 T b H) (rs H0 T b H') := nw_ex (rst_ex f)
theorem rs_nw {H0 H H' : Hp} {T b : Addr} {o1 o2 : HO} (F : Fb b H0 H) (hT : H T = some o1) (hb : H b = some o2) : Ex (nw H H') (rs H0 T b H') := fun a o h => by
  have h1 := (nw_inv h).1
  have h2 := rst_inv (rst_nw (H' := H') hT hb a o h)
  exact rs_at h2.1 h2.2.1 h2.2.2 (F.free h2.2.2 h1)


/-! # zip of a list or a tuple and two lists -/
section
def SeqB (k : Bool) (K : PySem.W.Frag) (H : Hp) (a : Addr) (xs : List V) : Prop := if k = true then SqL K H a xs else SqT K H a xs
def IterB (k : Bool) (h : Heap) (it a : Addr) (i : Nat) : Prop := if k = true then h.IsListIter it a i else h.IsTupleIter it a i
def IsB (k : Bool) (h : Heap) (a : Addr) (items : Array Value) : Prop := if k = true then h.IsList a items else h.IsTuple a items
theorem draws_B {prog : Program} {w : World} {A : Around} (k : Bool) (hh : A.handled = none) (it a : Addr) (hne : a ≠ it) (items : Array Value) :
    Draws prog w A it [it, a] items.size (fun i v => items[i]? = some v) (fun i h => IterB k h it a i ∧ IsB k h a items) := by
  cases k with
  | true => exact Draws.list hh it a hne items
  | false => exact Draws.tuple hh it a hne items
theorem seqB_at {X : Cx} {pins : List (Addr × Obj)} {σ : L2.St} {H : Hp} {s : Shared} (I : Inv X pins σ H s) {k : Bool} {a : Addr} {xs : List V} (h : SeqB k X.K H a xs) : ∃ its, Vals xs its ∧ IsB k s.heap a its.toArray := by
  cases k with
  | true =>
    obtain ⟨its, rv, p, _⟩ := I.list (show SqL X.K H a xs from h)
    exact ⟨its, rv, p.isList⟩
  | false =>
    obtain ⟨its, rv, p, _⟩ := I.tuple (show SqT X.K H a xs from h)
    exact ⟨its, rv, p⟩
theorem seqB_inj {X : Cx} {pins : List (Addr × Obj)} {σ : L2.St} {H : Hp} {s : Shared} (I : Inv X pins σ H s) {k : Bool} {a : Addr} {xs ys : List V} (h : SeqB k X.K H a xs) (h' : SeqB k X.K H a ys) : xs = ys := by
  cases k with
  | true => exact I.list_inj h h'
  | false => exact I.tuple_inj h h'
theorem iterB_obj {k : Bool} {h : Heap} {it a : Addr} {i : Nat} (x : IterB k h it a i) : ∃ o, h.get? it = some o ∧ ∀ v, o.data ≠ .cell v := by
  cases k with
  | true =>
    obtain ⟨o, e, _, d⟩ := (show h.IsListIter it a i from x)
    exact ⟨o, e, fun v q => by rw [d] at q; cases q⟩
  | false =>
    obtain ⟨o, e, _, d⟩ := (show h.IsTupleIter it a i from x)
    exact ⟨o, e, fun v q => by rw [d] at q; cases q⟩
theorem iterB_keep {k : Bool} {h h' : Heap} {it a : Addr} {i : Nat} (x : IterB k h it a i) (e : ∀ o, h.get? it = some o → h'.get? it = some o) : IterB k h' it a i := by
  cases k with
  | true => exact (show h.IsListIter it a i from x).at e
  | false => exact (show h.IsTupleIter it a i from x).at e
/-- zip of a list or a tuple and two lists, of one length -/
def Itz3 (K : PySem.W.Frag) (k : Bool) (a b c : Addr) : It :=
  ⟨fun i H => ∃ (xs ys zs : List V), SeqB k K H a xs ∧ SeqB true K H b ys ∧ SeqB true K H c zs ∧ i < xs.length ∧ i < ys.length ∧ i < zs.length,
    fun i H v H' => ∃ T x y z, v = .ref T ∧ H T = none ∧ H' = upd H T (.tup [x, y, z]) ∧ ∀ xs ys zs, SeqB k K H a xs → SeqB true K H b ys → SeqB true K H c zs → xs[i]? = some x ∧ ys[i]? = some y ∧ zs[i]? = some z,
    fun i H => ∃ xs ys zs : List V, SeqB k K H a xs ∧ SeqB true K H b ys ∧ SeqB true K H c zs ∧ xs.length = i ∧ ys.length = i ∧ zs.length = i⟩
theorem turn_zip3 {P : Program} {w : World} {K : PySem.W.Frag} {elts : List Expr} {kk : Nat} {tpos : Pos} {k : Bool} {a b c z TI TO i1 i2 i3 : Addr} (na : a ≠ i1) (nb : b ≠ i2) (nc : c ≠ i3) (S : ZipSep3 z TI TO i1 i2 i3 [i1, a] [i2, b] [i3, c]) :
    Turn P w K (.Tuple elts kk tpos) (Itz3 K k a b c) [z, TI, TO, i1, i2, i3] z (fun i h => IsZip h z TI TO .none ∧ IsTupOf3 h TI (.ref i1) (.ref i2) (.ref i3) ∧ (∃ x y u, IsTupOf3 h TO x y u) ∧ IterB k h i1 a i ∧ IterB true h i2 b i ∧ IterB true h i3 c i) where
  mem := by simp
  obj := fun i h st e he => by
    obtain ⟨hz, hTI, ⟨x, y, u, hTO⟩, h1, h2, h3⟩ := st
    have e' : e = z ∨ e = TI ∨ e = TO ∨ e = i1 ∨ e = i2 ∨ e = i3 := by simpa using he
    rcases e' with q | q | q | q | q | q <;> rw [q]
    · exact ⟨_, hz, fun v q => nomatch q⟩
    · exact ⟨_, hTI, fun v q => nomatch q⟩
    · exact ⟨_, hTO, fun v q => nomatch q⟩
    · exact iterB_obj h1
    · exact iterB_obj h2
    · exact iterB_obj h3
  keep := fun i h h' st q => by
    obtain ⟨hz, hTI, ⟨x, y, u, hTO⟩, h1, h2, h3⟩ := st
    exact ⟨q z (by simp) _ hz, q TI (by simp) _ hTI, ⟨x, y, u, q TO (by simp) _ hTO⟩, iterB_keep h1 fun o e => q i1 (by simp) o e, iterB_keep h2 fun o e => q i2 (by simp) o e, iterB_keep h3 fun o e => q i3 (by simp) o e⟩
  item := by
    intro X hP hw hK hc i pins s σ H E I hf st hg
    subst hP hw hK
    obtain ⟨hz, hTI, hTO, h1, h2, h3⟩ := st
    obtain ⟨xs, ys, zs, q1, q2, q3, l1, l2, l3⟩ := hg
    obtain ⟨its1, r1, p1⟩ := seqB_at I q1
    obtain ⟨its2, r2, p2⟩ := seqB_at I q2
    obtain ⟨its3, r3, p3⟩ := seqB_at I q3
    have hh : X.A.in1.handled = none := I.ok.hd hc
    have W := WalksT.zipD3 (prog := X.prog) (w := X.w) (A := X.A) S (draws_B k hh i1 a na its1.toArray) (draws_B true hh i2 b nb its2.toArray) (draws_B true hh i3 c nc its3.toArray)
    have e1 := r1.length
    have e2 := r2.length
    have e3 := r3.length
    refine W.item i s _ _ (by simp only [List.size_toArray]; omega) ⟨hz, hTI, hTO, ⟨h1, p1⟩, ⟨h2, p2⟩, ⟨h3, p3⟩⟩ fun T vals h' tk hP hnew hT hm hk => ⟨_, rfl, ?_⟩
    refine W.go elts kk tpos i T { s with heap := h', toks := tk } _ _ hm fun h'' st2 hk2 => ?_
    obtain ⟨x, y, u, hx, hy, hu, rfl⟩ := hP
    obtain ⟨hz', hTI', hTO', ⟨h1', _⟩, ⟨h2', _⟩, ⟨h3', _⟩⟩ := st2
    obtain ⟨vx, hvx⟩ : ∃ v, xs[i]? = some v := ⟨_, List.getElem?_eq_getElem l1⟩
    obtain ⟨vy, hvy⟩ : ∃ v, ys[i]? = some v := ⟨_, List.getElem?_eq_getElem l2⟩
    obtain ⟨vz, hvz⟩ : ∃ v, zs[i]? = some v := ⟨_, List.getElem?_eq_getElem l3⟩
    obtain ⟨u1, hu1, ru1⟩ := r1.get hvx
    obtain ⟨u2, hu2, ru2⟩ := r2.get hvy
    obtain ⟨u3, hu3, ru3⟩ := r3.get hvz
    have t1 : x = u1 := by rw [List.getElem?_toArray, hu1] at hx; exact (Option.some.inj hx).symm
    have t2 : y = u2 := by rw [List.getElem?_toArray, hu2] at hy; exact (Option.some.inj hy).symm
    have t3 : u = u3 := by rw [List.getElem?_toArray, hu3] at hu; exact (Option.some.inj hu).symm
    subst t1 t2 t3
    have hT2 : h''.IsTuple T #[x, y, u] := hT.at fun o e => hk2 T o (W.apart i T h' hm) e
    have new : ObjOk X.prog X.w (upd H T (.tup [vx, vy, vz])) h'' T (.tup [vx, vy, vz]) :=
      ⟨by show 3 ≤ sizeLine; decide, [x, y, u], .cons ru1 (.cons ru2 (.cons ru3 .nil)), hT2⟩
    have I1 : Inv X pins σ (upd H T (.tup [vx, vy, vz])) { s with heap := h'', toks := tk } :=
      I.turnedNew (t' := tk) (ch := [z, TI, TO, i1, i2, i3]) (fun e o hb q => hk2 e o (fun m => hb (by simp at m ⊢; rcases m with m | m | m | m | m <;> simp [m])) (hk e o (fun m => hb (by simp at m ⊢; rcases m with m | m | m | m | m <;> simp [m])) q)) hf hnew new
    refine ⟨.ref T, _, I1, rfl, ⟨T, vx, vy, vz, rfl, I.hok.fresh hnew, rfl, fun xs' ys' zs' a1 a2 a3 => ?_⟩, ⟨hz', hTI', hTO', h1', h2', h3'⟩, fun e he => ?_⟩
    · rw [seqB_inj I a1 q1, seqB_inj I a2 q2, seqB_inj I a3 q3]
      exact ⟨hvx, hvy, hvz⟩
    · obtain ⟨x0, y0, u0, hTO0⟩ := hTO
      have e' : e = z ∨ e = TI ∨ e = TO ∨ e = i1 ∨ e = i2 ∨ e = i3 := by simpa using he
      have hlt : e < s.heap.objs.size := by
        rcases e' with q | q | q | q | q | q <;> rw [q]
        · exact Heap.lt_size hz
        · exact Heap.lt_size hTI
        · exact Heap.lt_size hTO0
        · obtain ⟨_, g, _⟩ := iterB_obj h1; exact Heap.lt_size g
        · obtain ⟨_, g, _⟩ := iterB_obj h2; exact Heap.lt_size g
        · obtain ⟨_, g, _⟩ := iterB_obj h3; exact Heap.lt_size g
      rw [upd_ne (Nat.ne_of_lt (Nat.lt_of_lt_of_le hlt hnew))]
      exact (hf e he).1
  done := by
    intro X hP hw hK hc i pins s σ H E I hf st hg
    subst hP hw hK
    obtain ⟨hz, hTI, hTO, h1, h2, h3⟩ := st
    obtain ⟨xs, ys, zs, q1, q2, q3, l1, l2, l3⟩ := hg
    obtain ⟨its1, r1, p1⟩ := seqB_at I q1
    obtain ⟨its2, r2, p2⟩ := seqB_at I q2
    obtain ⟨its3, r3, p3⟩ := seqB_at I q3
    have hh : X.A.in1.handled = none := I.ok.hd hc
    have W := WalksT.zipD3 (prog := X.prog) (w := X.w) (A := X.A) S (draws_B k hh i1 a na its1.toArray) (draws_B true hh i2 b nb its2.toArray) (draws_B true hh i3 c nc its3.toArray)
    have e1 := r1.length
    have e2 := r2.length
    have e3 := r3.length
    have en : min (min its1.toArray.size its2.toArray.size) its3.toArray.size = i := by
      rw [List.size_toArray, List.size_toArray, List.size_toArray, ← e1, ← e2, ← e3, l1, l2, l3, Nat.min_self, Nat.min_self]
    refine W.done s _ _ (by rw [en]; exact ⟨hz, hTI, hTO, ⟨h1, p1⟩, ⟨h2, p2⟩, ⟨h3, p3⟩⟩) fun h' tk hk => ⟨rfl, ?_⟩
    exact I.turnedL (t' := tk) (ch := [z, TI, TO, i1, i2, i3]) (fun e o hb q => hk e o (fun m => hb (by simp at m ⊢; rcases m with m | m | m | m | m <;> simp [m])) q) hf
  self := fun A i s Q E st h => wpAny_pyIter_zip st.1 h

def iZip3 (K : PySem.W.Frag) (ta : TA) : TI := fun σ H R => ta σ H fun vs H1 => ∃ (k : Bool) (a b c : Addr) (xs ys zs : List V), vs = [.ref a, .ref b, .ref c] ∧ SeqB k K H1 a xs ∧ SeqB true K H1 b ys ∧ SeqB true K H1 c zs ∧ R (Itz3 K k a b c) H1
theorem begins_B (k : Bool) (a : Addr) (items : Array Value) : ∃ o : Obj, Begins (.ref a) o (fun h => IsB k h a items) ∧ ∀ (h : Heap) (it : Addr), h.get? it = some o → IterB k h it a 0 := by
  cases k with
  | true => exact ⟨_, begins_list a items, fun h it e => ⟨_, e, rfl, rfl⟩⟩
  | false => exact ⟨_, begins_tuple a items, fun h it e => ⟨_, e, rfl, rfl⟩⟩
theorem isB_lt {k : Bool} {h : Heap} {a : Addr} {items : Array Value} (x : IsB k h a items) : a < h.objs.size := by
  cases k with
  | true => obtain ⟨o, e, _⟩ := (show h.IsList a items from x); exact Heap.lt_size e
  | false => obtain ⟨o, e, _⟩ := (show h.IsTuple a items from x); exact Heap.lt_size e
theorem pi_zip3 {X : Cx} {e e2 e3 : Expr} {ta : TA} {p pos tpos : Pos} {elts : List Expr} {kk : Nat} (hg : Gl X "zip") (hm : X.mg "zip" = none) (ha : PA X [e, e2, e3] ta)
    (hs : starEach [e, e2, e3] X.env = (false, eval e X.env) :: starEach [e2, e3] X.env := by rfl) (hpl : (backTo pos (starEach [e2, e3] X.env)).any (·.1) = false := by rfl) :
    PI X (.Tuple elts kk tpos) (.Call (.Name "zip" p) [e, e2, e3] [] pos) (iZip3 X.K ta) := by
  refine ⟨fun pins s σ H R I h => ?_⟩
  refine Call_ (ld_blt I hg hm PyProof.Rows.boot_zip (PyProof.Rows.callWith_type1 (thn (ha.run pos pins s σ H _ I h) fun us s1 ⟨vs, H1, I1, r1, q1⟩ => ?_) hs hpl))
  obtain ⟨k, a, b, c, xs, ys, zs, ex, w1, w2, w3, q⟩ := q1
  subst ex
  cases r1 with
  | cons r rr =>
    cases rr with
    | cons r' rr =>
      cases rr with
      | cons r'' rr =>
      cases rr
      cases r
      cases r'
      cases r''
      have fresh : ∀ d, d ∈ [s1.heap.objs.size + 5, s1.heap.objs.size + 3, s1.heap.objs.size + 4, s1.heap.objs.size, s1.heap.objs.size + 1, s1.heap.objs.size + 2] → FpOk X pins H1 d := fun d hd => by
        have hle : s1.heap.objs.size ≤ d := by
          have e' : d = s1.heap.objs.size + 5 ∨ d = s1.heap.objs.size + 3 ∨ d = s1.heap.objs.size + 4 ∨ d = s1.heap.objs.size ∨ d = s1.heap.objs.size + 1 ∨ d = s1.heap.objs.size + 2 := by simpa using hd
          rcases e' with z | z | z | z | z | z <;> rw [z]
          · exact Nat.le_add_right _ _
          · exact Nat.le_add_right _ _
          · exact Nat.le_add_right _ _
          · exact Nat.le_refl _
          · exact Nat.le_add_right _ _
          · exact Nat.le_add_right _ _
        exact I1.fpOk hle (I1.hok.fresh hle)
      obtain ⟨its1, v1, p1⟩ := seqB_at I1 w1
      obtain ⟨its2, v2, p2⟩ := seqB_at I1 w2
      obtain ⟨its3, v3, p3⟩ := seqB_at I1 w3
      obtain ⟨o1, B1, b1⟩ := begins_B k a its1.toArray
      obtain ⟨o2, B2, b2⟩ := begins_B true b its2.toArray
      obtain ⟨o3, B3, b3⟩ := begins_B true c its3.toArray
      have la := isB_lt p1
      have lb := isB_lt p2
      have lc := isB_lt p3
      refine zip_begins3 B1 B2 B3 p1 p2 p3 fun h' hz hTI hTO h1 h2 h3 hsz hk => wpAny_pyIter_zip hz ?_
      have I2 : Inv X pins σ H1 { s1 with heap := h' } := I1.kept (t' := s1.toks) hk
      have S := zip_sep3 (N := s1.heap.objs.size) (fp1 := [a]) (fp2 := [b]) (fp3 := [c]) (fun x hx => by rw [List.mem_singleton.mp hx]; exact la) (fun x hx => by rw [List.mem_singleton.mp hx]; exact lb) (fun x hx => by rw [List.mem_singleton.mp hx]; exact lc)
      exact ⟨s1.heap.objs.size + 5, [s1.heap.objs.size + 5, s1.heap.objs.size + 3, s1.heap.objs.size + 4, s1.heap.objs.size, s1.heap.objs.size + 1, s1.heap.objs.size + 2], _, _, H1, rfl, I2,
        turn_zip3 (Nat.ne_of_lt la) (Nat.ne_of_lt (Nat.lt_of_lt_of_le lb (Nat.le_add_right _ _))) (Nat.ne_of_lt (Nat.lt_of_lt_of_le lc (Nat.le_add_right _ _))) S, ⟨hz, hTI, ⟨_, _, _, hTO⟩, b1 _ _ h1, b2 _ _ h2, b3 _ _ h3⟩, fresh, q⟩

theorem SeqB.ex {k : Bool} {K : PySem.W.Frag} {H H' : Hp} {a : Addr} {xs : List V} (h : SeqB k K H a xs) (e : Ex H H') : SeqB k K H' a xs := by
  cases k with
  | true => exact e.sq (show SqL K H a xs from h)
  | false => exact e.st (show SqT K H a xs from h)
theorem walk_zip3 {K : PySem.W.Frag} {k : Bool} {a b c : Addr} {xs ys zs : List V} {n : Nat} (h1 : xs.length = n) (h2 : ys.length = n) (h3 : zs.length = n) :
    Walk (Itz3 K k a b c) n (fun H => SeqB k K H a xs ∧ SeqB true K H b ys ∧ SeqB true K H c zs) (fun i H v H' => ∃ T x y z, v = .ref T ∧ H T = none ∧ H' = upd H T (.tup [x, y, z]) ∧ xs[i]? = some x ∧ ys[i]? = some y ∧ zs[i]? = some z) := by
  refine ⟨fun i _ hi q => ⟨xs, ys, zs, q.1, q.2.1, q.2.2, by omega, by omega, by omega⟩, fun _ q => ⟨xs, ys, zs, q.1, q.2.1, q.2.2, h1, h2, h3⟩, fun i H v H' _ q y => ?_⟩
  obtain ⟨T, x, y, z, e1, e2, e3, e4⟩ := y
  exact ⟨T, x, y, z, e1, e2, e3, e4 xs ys zs q.1 q.2.1 q.2.2⟩
def Lc3K (K : PySem.W.Frag) (g : TG) (tt : TT) (te : TE) (vs : List Nat) (σ : L2.St) (Q : VK) : List V → Hp → Prop := fun us H => tLc (iZip3 K (fun _ H Q' => Q' us H)) g tt te vs σ H Q
theorem q_lc3 {K : PySem.W.Frag} {ta : TA} {g : TG} {tt : TT} {te : TE} {vs : List Nat} {σ : L2.St} {H : Hp} {Q : VK} (k : ta σ H (Lc3K K g tt te vs σ Q)) : tLc (iZip3 K ta) g tt te vs σ H Q := k
/-- [e for x, y, z in zip(a, b, c)]: at the turn i comes f i -/
theorem q_zip3M {K : PySem.W.Frag} {g : TG} {te : TE} {vs : List Nat} {σ : L2.St} {H : Hp} {Q : VK} {k : Bool} {a b c : Addr} {xs ys zs : List V} {n : Nat} (f : Nat → V) (q1 : SeqB k K H a xs) (q2 : SeqB true K H b ys) (q3 : SeqB true K H c zs) (h1 : xs.length = n) (h2 : ys.length = n) (h3 : zs.length = n) (hz : n ≤ 1000)
    (he : ∀ (i : Nat) (x y z : V) (T : Addr) (H1 : Hp), i < n → xs[i]? = some x → ys[i]? = some y → zs[i]? = some z → Ex H H1 → H1 T = some (.tup [x, y, z]) → ∀ (Qn : VK) (Qf : Hp → Prop), (∀ H2, Ex H1 H2 → Qn (f i) H2) →
      g (.ref T) (wipe σ vs) H1 fun σ2 H2 => wipe σ2 vs = wipe σ vs ∧ tYes σ2 H2 fun b H3 => if b = true then te σ2 H3 Qn else Qf H3)
    (kk : ∀ p H', H p = none → H' p = some (.lst ((List.range n).map f)) → Ex H H' → Q (.ref p) H') : Lc3K K g tYes te vs σ Q [.ref a, .ref b, .ref c] H := by
  refine ⟨k, a, b, c, xs, ys, zs, rfl, q1, q2, q3, fun D hD => lc_it (walk_zip3 h1 h2 h3) (fun i H' => Ex H H' ∧ H' D = some (.lst ((List.range i).map f))) ⟨Ex.new hD, upd_same⟩ (fun i H' _ p => ⟨q1.ex p.1, q2.ex p.1, q3.ex p.1⟩) ?_ ?_⟩
  · rintro i v H1 H2 hi ⟨e, hd⟩ ⟨T, x, y, z, rfl, hT, rfl, hx, hy, hz'⟩
    have eT : Ex H1 (upd H1 T (.tup [x, y, z])) := Ex.new hT
    refine he i x y z T _ hi hx hy hz' (e.tr eT) upd_same _ _ fun H4 e4 => ⟨_, e4 _ _ (eT _ _ hd), ?_, Evl.Ex.mut ((e.tr eT).tr e4) hD, ?_⟩
    · rw [List.length_map, List.length_range]; exact small1000 (by omega)
    · rw [upd_same, List.range_succ, List.map_append]; rfl
  · rintro H' ⟨e, hd⟩
    exact kk D H' hD hd e
end


/-! # zip of two, each a list or a tuple -/
section
def Itz2 (K : PySem.W.Frag) (k m : Bool) (a b : Addr) : It :=
  ⟨fun i H => ∃ (xs ys : List V), SeqB k K H a xs ∧ SeqB m K H b ys ∧ i < xs.length ∧ i < ys.length,
    fun i H v H' => ∃ T x y, v = .ref T ∧ H T = none ∧ H' = upd H T (.tup [x, y]) ∧ ∀ xs ys, SeqB k K H a xs → SeqB m K H b ys → xs[i]? = some x ∧ ys[i]? = some y,
    fun i H => ∃ xs ys : List V, SeqB k K H a xs ∧ SeqB m K H b ys ∧ xs.length = i ∧ ys.length = i⟩
theorem turn_zip2 {P : Program} {w : World} {K : PySem.W.Frag} {elts : List Expr} {kk : Nat} {tpos : Pos} {k m : Bool} {a b z TI TO i1 i2 : Addr} (na : a ≠ i1) (nb : b ≠ i2) (S : ZipSep2 z TI TO i1 i2 [i1, a] [i2, b]) :
    Turn P w K (.Tuple elts kk tpos) (Itz2 K k m a b) [z, TI, TO, i1, i2] z (fun i h => IsZip h z TI TO .none ∧ IsTupOf2 h TI (.ref i1) (.ref i2) ∧ (∃ x y, IsTupOf2 h TO x y) ∧ IterB k h i1 a i ∧ IterB m h i2 b i) where
  mem := by simp
  obj := fun i h st e he => by
    obtain ⟨hz, hTI, ⟨x, y, hTO⟩, h1, h2⟩ := st
    have e' : e = z ∨ e = TI ∨ e = TO ∨ e = i1 ∨ e = i2 := by simpa using he
    rcases e' with q | q | q | q | q <;> rw [q]
    · exact ⟨_, hz, fun v q => nomatch q⟩
    · exact ⟨_, hTI, fun v q => nomatch q⟩
    · exact ⟨_, hTO, fun v q => nomatch q⟩
    · exact iterB_obj h1
    · exact iterB_obj h2
  keep := fun i h h' st q => by
    obtain ⟨hz, hTI, ⟨x, y, hTO⟩, h1, h2⟩ := st
    exact ⟨q z (by simp) _ hz, q TI (by simp) _ hTI, ⟨x, y, q TO (by simp) _ hTO⟩, iterB_keep h1 fun o e => q i1 (by simp) o e, iterB_keep h2 fun o e => q i2 (by simp) o e⟩
  item := by
    intro X hP hw hK hc i pins s σ H E I hf st hg
    subst hP hw hK
    obtain ⟨hz, hTI, hTO, h1, h2⟩ := st
    obtain ⟨xs, ys, q1, q2, l1, l2⟩ := hg
    obtain ⟨its1, r1, p1⟩ := seqB_at I q1
    obtain ⟨its2, r2, p2⟩ := seqB_at I q2
    have hh : X.A.in1.handled = none := I.ok.hd hc
    have W := WalksT.zipD2 (prog := X.prog) (w := X.w) (A := X.A) S (draws_B k hh i1 a na its1.toArray) (draws_B m hh i2 b nb its2.toArray)
    have e1 := r1.length
    have e2 := r2.length
    refine W.item i s _ _ (by simp only [List.size_toArray]; omega) ⟨hz, hTI, hTO, ⟨h1, p1⟩, ⟨h2, p2⟩⟩ fun T vals h' tk hP hnew hT hm hk => ⟨_, rfl, ?_⟩
    refine W.go elts kk tpos i T { s with heap := h', toks := tk } _ _ hm fun h'' st2 hk2 => ?_
    obtain ⟨x, y, hx, hy, rfl⟩ := hP
    obtain ⟨hz', hTI', hTO', ⟨h1', _⟩, ⟨h2', _⟩⟩ := st2
    obtain ⟨vx, hvx⟩ : ∃ v, xs[i]? = some v := ⟨_, List.getElem?_eq_getElem l1⟩
    obtain ⟨vy, hvy⟩ : ∃ v, ys[i]? = some v := ⟨_, List.getElem?_eq_getElem l2⟩
    obtain ⟨u1, hu1, ru1⟩ := r1.get hvx
    obtain ⟨u2, hu2, ru2⟩ := r2.get hvy
    have t1 : x = u1 := by rw [List.getElem?_toArray, hu1] at hx; exact (Option.some.inj hx).symm
    have t2 : y = u2 := by rw [List.getElem?_toArray, hu2] at hy; exact (Option.some.inj hy).symm
    subst t1 t2
    have hT2 : h''.IsTuple T #[x, y] := hT.at fun o e => hk2 T o (W.apart i T h' hm) e
    have new : ObjOk X.prog X.w (upd H T (.tup [vx, vy])) h'' T (.tup [vx, vy]) :=
      ⟨by show 2 ≤ sizeLine; decide, [x, y], .cons ru1 (.cons ru2 .nil), hT2⟩
    have I1 : Inv X pins σ (upd H T (.tup [vx, vy])) { s with heap := h'', toks := tk } :=
      I.turnedNew (t' := tk) (ch := [z, TI, TO, i1, i2]) (fun e o hb q => hk2 e o (fun m => hb (by simp at m ⊢; rcases m with m | m | m | m <;> simp [m])) (hk e o (fun m => hb (by simp at m ⊢; rcases m with m | m | m | m <;> simp [m])) q)) hf hnew new
    refine ⟨.ref T, _, I1, rfl, ⟨T, vx, vy, rfl, I.hok.fresh hnew, rfl, fun xs' ys' a1 a2 => ?_⟩, ⟨hz', hTI', hTO', h1', h2'⟩, fun e he => ?_⟩
    · rw [seqB_inj I a1 q1, seqB_inj I a2 q2]
      exact ⟨hvx, hvy⟩
    · obtain ⟨x0, y0, hTO0⟩ := hTO
      have e' : e = z ∨ e = TI ∨ e = TO ∨ e = i1 ∨ e = i2 := by simpa using he
      have hlt : e < s.heap.objs.size := by
        rcases e' with q | q | q | q | q <;> rw [q]
        · exact Heap.lt_size hz
        · exact Heap.lt_size hTI
        · exact Heap.lt_size hTO0
        · obtain ⟨_, g, _⟩ := iterB_obj h1; exact Heap.lt_size g
        · obtain ⟨_, g, _⟩ := iterB_obj h2; exact Heap.lt_size g
      rw [upd_ne (Nat.ne_of_lt (Nat.lt_of_lt_of_le hlt hnew))]
      exact (hf e he).1
  done := by
    intro X hP hw hK hc i pins s σ H E I hf st hg
    subst hP hw hK
    obtain ⟨hz, hTI, hTO, h1, h2⟩ := st
    obtain ⟨xs, ys, q1, q2, l1, l2⟩ := hg
    obtain ⟨its1, r1, p1⟩ := seqB_at I q1
    obtain ⟨its2, r2, p2⟩ := seqB_at I q2
    have hh : X.A.in1.handled = none := I.ok.hd hc
    have W := WalksT.zipD2 (prog := X.prog) (w := X.w) (A := X.A) S (draws_B k hh i1 a na its1.toArray) (draws_B m hh i2 b nb its2.toArray)
    have e1 := r1.length
    have e2 := r2.length
    have en : min its1.toArray.size its2.toArray.size = i := by
      rw [List.size_toArray, List.size_toArray, ← e1, ← e2, l1, l2, Nat.min_self]
    refine W.done s _ _ (by rw [en]; exact ⟨hz, hTI, hTO, ⟨h1, p1⟩, ⟨h2, p2⟩⟩) fun h' tk hk => ⟨rfl, ?_⟩
    exact I.turnedL (t' := tk) (ch := [z, TI, TO, i1, i2]) (fun e o hb q => hk e o (fun m => hb (by simp at m ⊢; rcases m with m | m | m | m <;> simp [m])) q) hf
  self := fun A i s Q E st h => wpAny_pyIter_zip st.1 h
def iZip2 (K : PySem.W.Frag) (ta : TA) : TI := fun σ H R => ta σ H fun vs H1 => ∃ (k m : Bool) (a b : Addr) (xs ys : List V), vs = [.ref a, .ref b] ∧ SeqB k K H1 a xs ∧ SeqB m K H1 b ys ∧ R (Itz2 K k m a b) H1
theorem pi_zip2A {X : Cx} {e e2 : Expr} {ta : TA} {p pos tpos : Pos} {elts : List Expr} {kk : Nat} (hg : Gl X "zip") (hm : X.mg "zip" = none) (ha : PA X [e, e2] ta)
    (hs : starEach [e, e2] X.env = (false, eval e X.env) :: starEach [e2] X.env := by rfl) (hpl : (backTo pos (starEach [e2] X.env)).any (·.1) = false := by rfl) :
    PI X (.Tuple elts kk tpos) (.Call (.Name "zip" p) [e, e2] [] pos) (iZip2 X.K ta) := by
  refine ⟨fun pins s σ H R I h => ?_⟩
  refine Call_ (ld_blt I hg hm PyProof.Rows.boot_zip (PyProof.Rows.callWith_type1 (thn (ha.run pos pins s σ H _ I h) fun us s1 ⟨vs, H1, I1, r1, q1⟩ => ?_) hs hpl))
  obtain ⟨k, m, a, b, xs, ys, ex, w1, w2, q⟩ := q1
  subst ex
  cases r1 with
  | cons r rr =>
    cases rr with
    | cons r' rr =>
      cases rr
      cases r
      cases r'
      have fresh : ∀ d, d ∈ [s1.heap.objs.size + 4, s1.heap.objs.size + 2, s1.heap.objs.size + 3, s1.heap.objs.size, s1.heap.objs.size + 1] → FpOk X pins H1 d := fun d hd => by
        have hle : s1.heap.objs.size ≤ d := by
          have e' : d = s1.heap.objs.size + 4 ∨ d = s1.heap.objs.size + 2 ∨ d = s1.heap.objs.size + 3 ∨ d = s1.heap.objs.size ∨ d = s1.heap.objs.size + 1 := by simpa using hd
          rcases e' with z | z | z | z | z <;> rw [z]
          · exact Nat.le_add_right _ _
          · exact Nat.le_add_right _ _
          · exact Nat.le_add_right _ _
          · exact Nat.le_refl _
          · exact Nat.le_add_right _ _
        exact I1.fpOk hle (I1.hok.fresh hle)
      obtain ⟨its1, v1, p1⟩ := seqB_at I1 w1
      obtain ⟨its2, v2, p2⟩ := seqB_at I1 w2
      obtain ⟨o1, B1, b1⟩ := begins_B k a its1.toArray
      obtain ⟨o2, B2, b2⟩ := begins_B m b its2.toArray
      have la := isB_lt p1
      have lb := isB_lt p2
      refine zip_begins2 B1 B2 p1 p2 fun h' hz hTI hTO h1 h2 hsz hk => wpAny_pyIter_zip hz ?_
      have I2 : Inv X pins σ H1 { s1 with heap := h' } := I1.kept (t' := s1.toks) hk
      have S := zip_sep2 (N := s1.heap.objs.size) (fp1 := [a]) (fp2 := [b]) (fun x hx => by rw [List.mem_singleton.mp hx]; exact la) (fun x hx => by rw [List.mem_singleton.mp hx]; exact lb)
      exact ⟨s1.heap.objs.size + 4, [s1.heap.objs.size + 4, s1.heap.objs.size + 2, s1.heap.objs.size + 3, s1.heap.objs.size, s1.heap.objs.size + 1], _, _, H1, rfl, I2,
        turn_zip2 (Nat.ne_of_lt la) (Nat.ne_of_lt (Nat.lt_of_lt_of_le lb (Nat.le_add_right _ _))) S, ⟨hz, hTI, ⟨_, _, hTO⟩, b1 _ _ h1, b2 _ _ h2⟩, fresh, q⟩
theorem pi_zip2 {X : Cx} {e e2 : Expr} {ta : TA} {p pos tpos : Pos} {elts : List Expr} {kk : Nat} (K : PySem.W.Frag) (h : X.K = K) (hg : Gl X "zip") (hm : X.mg "zip" = none) (ha : PA X [e, e2] ta)
    (hs : starEach [e, e2] X.env = (false, eval e X.env) :: starEach [e2] X.env := by rfl) (hpl : (backTo pos (starEach [e2] X.env)).any (·.1) = false := by rfl) :
    PI X (.Tuple elts kk tpos) (.Call (.Name "zip" p) [e, e2] [] pos) (iZip2 K ta) := h ▸ pi_zip2A hg hm ha hs hpl
theorem walk_zip2 {K : PySem.W.Frag} {k m : Bool} {a b : Addr} {xs ys : List V} {n : Nat} (h1 : xs.length = n) (h2 : ys.length = n) :
    Walk (Itz2 K k m a b) n (fun H => SeqB k K H a xs ∧ SeqB m K H b ys) (YPair (fun i => xs[i]?) (fun i => ys[i]?)) := by
  refine ⟨fun i _ hi q => ⟨xs, ys, q.1, q.2, by omega, by omega⟩, fun _ q => ⟨xs, ys, q.1, q.2, h1, h2⟩, fun i H v H' _ q y => ?_⟩
  obtain ⟨T, x, y, e1, e2, e3, e4⟩ := y
  exact ⟨T, x, y, e1, e2, e3, e4 xs ys q.1 q.2⟩
end
theorem Sq2.seqB {K : PySem.W.Frag} {H : Hp} {a : Addr} {xs : List V} (h : Sq2 H a xs) : ∃ k : Bool, SeqB k K H a xs := by
  rcases h with h | h
  · exact ⟨true, SqL.of h⟩
  · exact ⟨false, SqT.of h⟩
theorem SeqB.fb {k : Bool} {K : PySem.W.Frag} {b : Addr} {H H' : Hp} {a : Addr} {xs : List V} (h : SeqB k K H a xs) (e : Fb b H H') (n : a ≠ b) (hk : ∀ o, H a = some o → H' a = some o) : SeqB k K H' a xs := by
  cases k with
  | true => exact e.sq (show SqL K H a xs from h) n
  | false =>
    rcases (show SqT K H a xs from h) with (h | ⟨o, h⟩) | h
    · exact .inl (.inl (hk _ h))
    · exact .inl (.inr ⟨o, hk _ h⟩)
    · exact .inr h
/-! ## comprehensions and loops over any walk, each turn told by what it makes -/
section
variable {K : PySem.W.Frag} {J : It} {n : Nat} {G : Hp → Prop} {Y : Nat → Hp → V → Hp → Prop}
/-- [e for g in it]: at the turn i comes a y with R i D y -/
theorem lc_R {g : TG} {te : TE} {vs : List Nat} {σ : L2.St} {H : Hp} {D : Addr} {Qd : Hp → Prop} (W : Walk J n G Y) (hz : n ≤ 1000) (R : Nat → Addr → V → Hp → Prop) (hR : ∀ i D v H H', (∀ a o, H a = some o → a ≠ D → H' a = some o) → R i D v H → R i D v H') (hD : H D = none) (hG : ∀ H', Ex H H' → G H')
    (he : ∀ (i : Nat) (x : V) (H1 H2 : Hp) (zs : List V), i < n → Ex H H1 → H1 D = some (.lst zs) → Y i H1 x H2 → ∀ (Qn : VK) (Qf : Hp → Prop), (∀ y H3, Ex H1 H3 → R i D y H3 → Qn y H3) →
      g x (wipe σ vs) H2 fun σ2 H3 => wipe σ2 vs = wipe σ vs ∧ tYes σ2 H3 fun b H4 => if b = true then te σ2 H4 Qn else Qf H4)
    (hd : ∀ H' ys, Ex H H' → H' D = some (.lst ys) → ys.length = n → (∀ i y, ys[i]? = some y → R i D y H') → Qd H') :
    ∃ W : Nat → Nat → Hp → Prop, (∃ m, W 0 m (upd H D (.lst []))) ∧ ∀ i m H, W i m H →
      (J.stop i H ∧ Qd H) ∨ (J.go i H ∧ ∃ Nx : Hp → Prop, (∀ H', Nx H' → ∃ m', m' < m ∧ W (i + 1) m' H') ∧ ∀ x H', J.yld i H x H' → g x (wipe σ vs) H' fun σ2 H2 => wipe σ2 vs = wipe σ vs ∧ tYes σ2 H2 fun b H3 =>
        if b = true then te σ2 H3 fun y H4 => ∃ acc, H4 D = some (.lst acc) ∧ acc.length < sizeLine ∧ Nx (upd H4 D (.lst (acc ++ [y]))) else Nx H3) := by
  refine lc_it W (fun i H' => ∃ ys, H' D = some (.lst ys) ∧ ys.length = i ∧ (∀ j y, ys[j]? = some y → R j D y H') ∧ Ex H H') ⟨[], upd_same, rfl, (fun j y h => by simp at h), Ex.new hD⟩ (fun i H' _ p => by obtain ⟨ys, _, _, _, e⟩ := p; exact hG H' e) ?_ ?_
  · rintro i x H1 H2 hi ⟨ys, h1, hl, hr, e1⟩ hy
    refine he i x H1 H2 ys hi e1 h1 hy _ _ fun y H3 e3 r3 => ⟨ys, e3 _ _ h1, small1000 (by omega), ys ++ [y], upd_same, by rw [List.length_append, hl]; rfl, ?_, ?_⟩
    · have kp : ∀ a o, H3 a = some o → a ≠ D → upd H3 D (.lst (ys ++ [y])) a = some o := fun a o h n => by rw [upd_ne n]; exact h
      intro j z hj
      by_cases c : j < ys.length
      · rw [List.getElem?_append_left c] at hj
        exact hR j D z H3 _ kp (hR j D z H1 _ (fun a o h _ => e3 _ _ h) (hr j z hj))
      · have c2 : j = ys.length := by
          have := (List.getElem?_eq_some_iff.mp hj).1
          rw [List.length_append, List.length_singleton] at this
          omega
        subst c2
        rw [List.getElem?_append_right (Nat.le_refl _), Nat.sub_self] at hj
        cases hj
        rw [hl]
        exact hR i D y H3 _ kp r3
    · exact Evl.Ex.mut (e1.tr e3) hD
  · rintro H' ⟨ys, h1, hl, hr, e1⟩
    exact hd H' ys e1 h1 hl hr
end
section
variable {K : PySem.W.Frag}
def LcZ2K (K : PySem.W.Frag) (g : TG) (tt : TT) (te : TE) (vs : List Nat) (σ : L2.St) (Q : VK) : List V → Hp → Prop := fun us H => tLc (iZip2 K (fun _ H Q' => Q' us H)) g tt te vs σ H Q
theorem q_lcZ2 {ta : TA} {g : TG} {tt : TT} {te : TE} {vs : List Nat} {σ : L2.St} {H : Hp} {Q : VK} (k : ta σ H (LcZ2K K g tt te vs σ Q)) : tLc (iZip2 K ta) g tt te vs σ H Q := k
def ForZ2K (K : PySem.W.Frag) (g : TG) (tb : TS) (D : Ends) (σ : L2.St) : List V → Hp → Prop := fun us H => tFor (iZip2 K (fun _ H Q' => Q' us H)) g tb D σ H
theorem q_forZ2 {ta : TA} {g : TG} {tb : TS} {D : Ends} {σ : L2.St} {H : Hp} (k : ta σ H (ForZ2K K g tb D σ)) : tFor (iZip2 K ta) g tb D σ H := k
/-- [e for x, y in zip(a, b)] -/
theorem q_zip2R {g : TG} {te : TE} {vs : List Nat} {σ : L2.St} {H : Hp} {Q : VK} {a b : Addr} {xs ys : List V} {n : Nat} (R : Nat → Addr → V → Hp → Prop) (hR : ∀ i D v H H', (∀ a o, H a = some o → a ≠ D → H' a = some o) → R i D v H → R i D v H') (q1 : Sq2 H a xs) (q2 : Sq2 H b ys) (h1 : xs.length = n) (h2 : ys.length = n) (hz : n ≤ 1000)
    (he : ∀ (i : Nat) (x y : V) (T D : Addr) (H1 : Hp) (zs : List V), i < n → xs[i]? = some x → ys[i]? = some y → H D = none → Ex H H1 → H1 D = some (.lst zs) → H1 T = some (.tup [x, y]) → ∀ (Qn : VK) (Qf : Hp → Prop), (∀ y H3, Ex H1 H3 → R i D y H3 → Qn y H3) →
      g (.ref T) (wipe σ vs) H1 fun σ2 H2 => wipe σ2 vs = wipe σ vs ∧ tYes σ2 H2 fun b H3 => if b = true then te σ2 H3 Qn else Qf H3)
    (kk : ∀ p H' zs, H p = none → H' p = some (.lst zs) → zs.length = n → (∀ i z, zs[i]? = some z → R i p z H') → Ex H H' → Q (.ref p) H') : LcZ2K K g tYes te vs σ Q [.ref a, .ref b] H := by
  obtain ⟨k, s1⟩ := q1.seqB (K := K)
  obtain ⟨m, s2⟩ := q2.seqB (K := K)
  refine ⟨k, m, a, b, xs, ys, rfl, s1, s2, fun D hD => lc_R (walk_zip2 h1 h2) hz R hR hD (fun H' e => ⟨s1.ex e, s2.ex e⟩) ?_ ?_⟩
  · rintro i v H1 H2 zs hi e1 hd ⟨T, x, y, rfl, hT, rfl, hx, hy⟩ Qn Qf k
    have eT : Ex H1 (upd H1 T (.tup [x, y])) := Ex.new hT
    exact he i x y T D _ zs hi hx hy hD (e1.tr eT) (eT _ _ hd) upd_same Qn Qf fun y H3 e3 r => k y H3 (eT.tr e3) r
  · intro H' zs e hd hl hr
    exact kk D H' zs hD hd hl hr e
/-- .. where all that comes is told by the place -/
theorem q_zip2M {g : TG} {te : TE} {vs : List Nat} {σ : L2.St} {H : Hp} {Q : VK} {a b : Addr} {xs ys : List V} {n : Nat} (f : Nat → V) (q1 : Sq2 H a xs) (q2 : Sq2 H b ys) (h1 : xs.length = n) (h2 : ys.length = n) (hz : n ≤ 1000)
    (he : ∀ (i : Nat) (x y : V) (T : Addr) (H1 : Hp), i < n → xs[i]? = some x → ys[i]? = some y → Ex H H1 → H1 T = some (.tup [x, y]) → ∀ (Qn : VK) (Qf : Hp → Prop), (∀ H3, Ex H1 H3 → Qn (f i) H3) →
      g (.ref T) (wipe σ vs) H1 fun σ2 H2 => wipe σ2 vs = wipe σ vs ∧ tYes σ2 H2 fun b H3 => if b = true then te σ2 H3 Qn else Qf H3)
    (kk : ∀ p H', H p = none → H' p = some (.lst ((List.range n).map f)) → Ex H H' → Q (.ref p) H') : LcZ2K K g tYes te vs σ Q [.ref a, .ref b] H := by
  refine q_zip2R (fun i _ y _ => y = f i) (fun _ _ _ _ _ _ r => r) q1 q2 h1 h2 hz (fun i x y T D H1 zs hi hx hy _ e hd hT Qn Qf k => he i x y T H1 hi hx hy e hT Qn Qf fun H3 e3 => k _ H3 e3 rfl) fun p H' zs hp hz' hl hr e => kk p H' hp ?_ e
  rw [hz']
  congr 2
  apply List.ext_getElem?
  intro i
  by_cases c : i < n
  · rw [List.getElem?_eq_getElem (by omega), List.getElem?_map, List.getElem?_range c]
    exact congrArg some (hr i _ (List.getElem?_eq_getElem (by omega)))
  · rw [List.getElem?_eq_none (by omega), List.getElem?_eq_none (by rw [List.length_map, List.length_range]; omega)]
theorem q_zip2For {g : TG} {tb : TS} {D : Ends} {σ : L2.St} {H : Hp} {a b : Addr} {xs ys : List V} {n : Nat} (q1 : Sq2 H a xs) (q2 : Sq2 H b ys) (h1 : xs.length = n) (h2 : ys.length = n) (Pv : Nat → L2.St → Hp → Prop) (h0 : Pv 0 σ H)
    (hq : ∀ i σ' H', Pv i σ' H' → (∀ o, H a = some o → H' a = some o) ∧ (∀ o, H b = some o → H' b = some o))
    (hs : ∀ (i : Nat) (x y : V) (T : Addr) (σ' : L2.St) (H' H2 : Hp), i < n → xs[i]? = some x → ys[i]? = some y → Pv i σ' H' → H' T = none → H2 T = some (.tup [x, y]) → Ex H' H2 → g (.ref T) σ' H2 fun σ2 H2 => tb { D with nx := Pv (i + 1), ct := Pv (i + 1), bk := D.nx } σ2 H2)
    (hd : ∀ σ' H', Pv n σ' H' → D.nx σ' H') : ForZ2K K g tb D σ [.ref a, .ref b] H := by
  have kx : ∀ {a : Addr} {xs : List V} {H' : Hp}, Sq2 H a xs → (∀ o, H a = some o → H' a = some o) → ∀ k : Bool, SeqB k K H a xs → Sq2 H' a xs := fun h e _ _ => h.imp (e _) (e _)
  rcases q1 with q1 | q1 <;> rcases q2 with q2 | q2
  · exact ⟨true, true, a, b, xs, ys, rfl, SqL.of q1, SqL.of q2, for_it (walk_zip2 h1 h2) Pv h0 (fun i σ' H' _ p => ⟨SqL.of ((hq i σ' H' p).1 _ q1), SqL.of ((hq i σ' H' p).2 _ q2)⟩) (fun i v σ' H1 H2 hi p ⟨T, x, y, e1, hT, e2, hx, hy⟩ => by subst e1 e2; exact hs i x y T σ' H1 _ hi hx hy p hT upd_same (Ex.new hT)) hd⟩
  · exact ⟨true, false, a, b, xs, ys, rfl, SqL.of q1, SqT.of q2, for_it (walk_zip2 h1 h2) Pv h0 (fun i σ' H' _ p => ⟨SqL.of ((hq i σ' H' p).1 _ q1), SqT.of ((hq i σ' H' p).2 _ q2)⟩) (fun i v σ' H1 H2 hi p ⟨T, x, y, e1, hT, e2, hx, hy⟩ => by subst e1 e2; exact hs i x y T σ' H1 _ hi hx hy p hT upd_same (Ex.new hT)) hd⟩
  · exact ⟨false, true, a, b, xs, ys, rfl, SqT.of q1, SqL.of q2, for_it (walk_zip2 h1 h2) Pv h0 (fun i σ' H' _ p => ⟨SqT.of ((hq i σ' H' p).1 _ q1), SqL.of ((hq i σ' H' p).2 _ q2)⟩) (fun i v σ' H1 H2 hi p ⟨T, x, y, e1, hT, e2, hx, hy⟩ => by subst e1 e2; exact hs i x y T σ' H1 _ hi hx hy p hT upd_same (Ex.new hT)) hd⟩
  · exact ⟨false, false, a, b, xs, ys, rfl, SqT.of q1, SqT.of q2, for_it (walk_zip2 h1 h2) Pv h0 (fun i σ' H' _ p => ⟨SqT.of ((hq i σ' H' p).1 _ q1), SqT.of ((hq i σ' H' p).2 _ q2)⟩) (fun i v σ' H1 H2 hi p ⟨T, x, y, e1, hT, e2, hx, hy⟩ => by subst e1 e2; exact hs i x y T σ' H1 _ hi hx hy p hT upd_same (Ex.new hT)) hd⟩
end
/-! ## ranges as values -/
section
variable {X : Cx}
def rRng1 : List V → Hp → VK → Prop := fun vs H Q => ∃ j : Int, vs = [V.int j] ∧ ∀ p, H p = none → Q (.ref p) (upd H p (.rng 0 j))
theorem call_rng1A : CallR X (.type "range") rRng1 := by
  intro pins s σ H vs us Q I r h
  obtain ⟨j, rfl, q⟩ := h
  obtain ⟨u, rfl, t, rfl⟩ := vals1 r
  refine call_range_1 ⟨.ref s.heap.objs.size, upd H s.heap.objs.size (.rng 0 j), I.laid (t' := s.toks + 1 + 1) (fun b o e => Heap.get?_push_of_some _ e) (Nat.le_refl _) ?_, rfl, q _ (I.hok.fresh (Nat.le_refl _))⟩
  exact ⟨s.toks, t, s.toks + 1, Heap.get?_push_size _ rfl⟩
theorem q_rng1 {H : Hp} {Q : VK} {j : Int} (k : ∀ p H', H p = none → H' p = some (.rng 0 j) → Ex H H' → Q (.ref p) H') : rRng1 [.int j] H Q := ⟨j, rfl, fun p h => k p _ h upd_same (Ex.new h)⟩
def rNotInRng : R2 := fun x y H Q => ∃ i a lo hi, x = V.int i ∧ y = V.ref a ∧ H a = some (.rng lo hi) ∧ Q (.bl (!decide (lo ≤ i ∧ i < hi))) H
theorem op_notIn_rng : OpR X (compareOp .NotIn) rNotInRng := by
  intro pins s σ H x y v u Q I rx ry h
  obtain ⟨i, a, lo, hi, rfl, rfl, ha, q⟩ := h
  obtain ⟨k, rfl⟩ := rx
  obtain rfl : u = Value.ref a := ry
  obtain ⟨t1, t2, t3, ho⟩ := I.hok a _ ha
  show wpAny _ _ (do return Value.bool (!(← contains (Value.ref a) (Value.int i k)))) _ _ s
  refine wpAny_bind (wpAny_contains_slot (T := "range") ⟨_, ho, rfl⟩ F.slot_range_contains (call_meets F.slot_range_contains ⟨_, ho, rfl⟩ F.entry_range_contains (F.args_range_contains_2 _ _) (q_contains a lo hi i t1 t2 t3 k)
    ⟨ho, wpAny_truthy_bool (wpAny_pure ⟨.bl _, H, I, rfl, ?_⟩)⟩))
  rw [place1]
  exact q
theorem q_notInRng {H : Hp} {Q : VK} {i lo hi : Int} {a : Addr} (h : H a = some (.rng lo hi)) (k : Q (.bl (!decide (lo ≤ i ∧ i < hi))) H) : rNotInRng (.int i) (.ref a) H Q := ⟨i, a, lo, hi, rfl, rfl, h, k⟩
end
/-! ## things spread -/
def spreadE (ws ls : List Int) (n : Int) : List Nat := few ws n 0 ls ++ List.replicate (ls.length - (few ws n 0 ls).length) ws.length
/-- at t: the free length n, the ends at q, and what stands for one more -/
structure SprAt (H H' : Hp) (t q : Addr) (m : V) (ws ls : List Int) (n : Int) : Prop where
  nt : H t = none
  nq : H q = none
  tq : t ≠ q
  ht : H' t = some (.tup [.int n, .ref q, m])
  hq : H' q = some (.lst (nV (spreadE ws ls n)))
  m0 : n = leastI ls → m = .non
  m1 : n ≠ leastI ls → ∃ r, m = .ref r ∧ H r = none ∧ r ≠ t ∧ r ≠ q ∧ H' r = some (.lst (nV (few ws (n + 1) 0 ls)))
  n0 : 0 ≤ n
  n1 : n ≤ leastI ls
  st : stood ws n 0 ls = ws.length
  sx : n = leastI ls ∨ stood ws (n + 1) 0 ls ≠ ws.length
theorem spread_len (ws ls : List Int) (n : Int) : (spreadE ws ls n).length = ls.length := by
  have := few_length ws n ls 0
  unfold spreadE
  rw [List.length_append, List.length_replicate]; omega
theorem spread_le (ws ls : List Int) (n : Int) : ∀ e ∈ spreadE ws ls n, e ≤ ws.length := fun e h => by
  unfold spreadE at h
  rcases List.mem_append.mp h with h | h
  · exact few_le ws n ls 0 (Nat.zero_le _) e h
  · rw [(List.mem_replicate.mp h).2]; exact Nat.le_refl _
theorem SprAt.ex {H H1 H' : Hp} {t q : Addr} {m : V} {ws ls : List Int} {n : Int} (T : SprAt H H1 t q m ws ls n) (e : Ex H1 H') : SprAt H H' t q m ws ls n :=
  ⟨T.nt, T.nq, T.tq, e _ _ T.ht, e _ _ T.hq, T.m0, fun z => by obtain ⟨r, er, nr, rt, rq, hr⟩ := T.m1 z; exact ⟨r, er, nr, rt, rq, e _ _ hr⟩, T.n0, T.n1, T.st, T.sx⟩
theorem q_neTwoL {K : PySem.W.Frag} {H : Hp} {Q : VK} {p q p1 p2 q1 q2 : Addr} {ns ms : List Int} (hp : H p = some (.lst [.ref p1, .ref p2])) (hq : H q = some (.lst [.ref q1, .ref q2]))
    (h1 : H p1 = some (.lst (iV ns))) (h2 : H p2 = some (.lst (iV ms))) (h3 : H q1 = some (.lst (iV ns))) (h4 : H q2 = some (.lst (iV ms))) (k : Q (.bl false) H) : rNeA K (.ref p) (.ref q) H Q :=
  .inr ⟨twoD ns ms, twoD ns ms, .lst (SqL.of hp) (.cons (.lst (SqL.of h1) (dp_ints _)) (.cons (.lst (SqL.of h2) (dp_ints _)) .nil)),
    .lst (SqL.of hq) (.cons (.lst (SqL.of h3) (dp_ints _)) (.cons (.lst (SqL.of h4) (dp_ints _)) .nil)), two_shaped _ _, two_shaped _ _, by rw [SeqAt.eqv_refl _ (SeqAt.canLay_of_shaped (two_shaped _ _))]; exact k⟩


/-! # Comprehensions and loops by any walk; lists of lists of ints -/
inductive All2 {α β : Type} (R : α → β → Prop) : List α → List β → Prop where
  | nil : All2 R [] []
  | cons {x : α} {y : β} {xs : List α} {ys : List β} : R x y → All2 R xs ys → All2 R (x :: xs) (y :: ys)
section
variable {α β : Type} {R S : α → β → Prop}
theorem All2.mono (h : ∀ x y, R x y → S x y) : ∀ {xs : List α} {ys : List β}, All2 R xs ys → All2 S xs ys
  | _, _, .nil => .nil
  | _, _, .cons a b => .cons (h _ _ a) (All2.mono h b)
theorem All2.app : ∀ {xs us : List α} {ys ws : List β}, All2 R xs ys → All2 R us ws → All2 R (xs ++ us) (ys ++ ws)
  | _, _, _, _, .nil, h => h
  | _, _, _, _, .cons a b, h => .cons a (All2.app b h)
theorem All2.snoc {x : α} {y : β} {xs : List α} {ys : List β} (a : All2 R xs ys) (h : R x y) : All2 R (xs ++ [x]) (ys ++ [y]) := a.app (.cons h .nil)
theorem All2.len : ∀ {xs : List α} {ys : List β}, All2 R xs ys → xs.length = ys.length
  | _, _, .nil => rfl
  | _, _, .cons _ b => congrArg (· + 1) b.len
theorem All2.at : ∀ {xs : List α} {ys : List β}, All2 R xs ys → ∀ {i : Nat} {x : α}, xs[i]? = some x → ∃ y, ys[i]? = some y ∧ R x y
  | _, _, .cons (x := x) (y := y) a b, 0, z, h => by
    have : x = z := by simpa using h
    exact ⟨y, rfl, this ▸ a⟩
  | _, _, .cons a b, i + 1, z, h => by
    obtain ⟨y, e, r⟩ := b.at (i := i) (by simpa using h)
    exact ⟨y, by simpa using e, r⟩
theorem All2.atR : ∀ {xs : List α} {ys : List β}, All2 R xs ys → ∀ {i : Nat} {y : β}, ys[i]? = some y → ∃ x, xs[i]? = some x ∧ R x y
  | _, _, .cons (x := x) (y := y) a b, 0, z, h => by
    have : y = z := by simpa using h
    exact ⟨x, rfl, this ▸ a⟩
  | _, _, .cons a b, i + 1, z, h => by
    obtain ⟨y, e, r⟩ := b.atR (i := i) (by simpa using h)
    exact ⟨y, by simpa using e, r⟩
theorem All2.mem : ∀ {xs : List α} {ys : List β}, All2 R xs ys → ∀ {x : α}, x ∈ xs → ∃ y, y ∈ ys ∧ R x y
  | _, _, .cons a b, z, h => by
    rcases List.mem_cons.mp h with rfl | h
    · exact ⟨_, List.mem_cons_self, a⟩
    · obtain ⟨y, m, r⟩ := b.mem h
      exact ⟨y, List.mem_cons_of_mem _ m, r⟩
theorem All2.of : ∀ {xs : List α} {ys : List β}, xs.length = ys.length → (∀ (i : Nat) (x : α) (y : β), xs[i]? = some x → ys[i]? = some y → R x y) → All2 R xs ys
  | [], [], _, _ => .nil
  | [], y :: ys, h, _ => by cases h
  | x :: xs, [], h, _ => by cases h
  | x :: xs, y :: ys, h, k => .cons (k 0 x y rfl rfl) (All2.of (Nat.succ.inj h) fun i a b h1 h2 => k (i + 1) a b (by simpa using h1) (by simpa using h2))
theorem All2.map {γ : Type} {T : α → γ → Prop} (f : β → γ) (h : ∀ x y, R x y → T x (f y)) : ∀ {xs : List α} {ys : List β}, All2 R xs ys → All2 T xs (ys.map f)
  | _, _, .nil => .nil
  | _, _, .cons a b => .cons (h _ _ a) (All2.map f h b)
theorem All2.take : ∀ {xs : List α} {ys : List β}, All2 R xs ys → ∀ i, All2 R (xs.take i) (ys.take i)
  | _, _, _, 0 => by simp only [List.take_zero]; exact .nil
  | _, _, .nil, i + 1 => by simp only [List.take_nil]; exact .nil
  | _, _, .cons a b, i + 1 => by simp only [List.take_succ_cons]; exact .cons a (b.take i)
end
/-- all that stood stands, but what is at X -/
def FX (X : Addr → Prop) (H H' : Hp) : Prop := ∀ a o, H a = some o → ¬ X a → H' a = some o
theorem FX.rfl {X : Addr → Prop} {H : Hp} : FX X H H := fun _ _ h _ => h
theorem FX.tr {X : Addr → Prop} {H H1 H2 : Hp} (a : FX X H H1) (b : FX X H1 H2) : FX X H H2 := fun x o h n => b x o (a x o h n) n
theorem FX.ex {X : Addr → Prop} {H H' : Hp} (e : Ex H H') : FX X H H' := fun a o h _ => e a o h
abbrev XN : Addr → Prop := fun _ => False
theorem FX.toEx {H H' : Hp} (e : FX XN H H') : Ex H H' := fun a o h => e a o h id
theorem FX.toFb {b : Addr} {H H' : Hp} (e : FX (· = b) H H') : Fb b H H' := fun a o h n => e a o h n
theorem FX.fb {b : Addr} {H H' : Hp} (e : Fb b H H') : FX (· = b) H H' := fun a o h n => e a o h n
section
variable {J : It} {n : Nat} {G : Hp → Prop} {Y : Nat → Hp → V → Hp → Prop} {X : Addr → Prop}
/-- what each turn of a comprehension has to show -/
def TurnI (X : Addr → Prop) (n : Nat) (Y : Nat → Hp → V → Hp → Prop) (g : TG) (tt : TT) (te : TE) (vs : List Nat) (σ : L2.St) (H : Hp) (D : Addr) (I : Nat → List V → Hp → Prop) : Prop :=
  ∀ (i : Nat) (x : V) (H1 H2 : Hp) (zs : List V), i < n → FX X H H1 → H1 D = some (.lst zs) → I i zs H1 → Y i H1 x H2 → ∀ (Qn : VK) (Qf : Hp → Prop), (∀ y H3, FX X H1 H3 → I (i + 1) (zs ++ [y]) H3 → Qn y H3) → (∀ H3, FX X H1 H3 → I (i + 1) zs H3 → Qf H3) →
    g x (wipe σ vs) H2 fun σ2 H3 => wipe σ2 vs = wipe σ vs ∧ tt σ2 H3 fun b H4 => if b = true then te σ2 H4 Qn else Qf H4
theorem small100k {n : Nat} (h : n ≤ 100000) : n < sizeLine := Nat.lt_of_le_of_lt h (by rw [sizeLine_eq]; decide)
theorem lc_I {g : TG} {tt : TT} {te : TE} {vs : List Nat} {σ : L2.St} {H : Hp} {D : Addr} {Qd : Hp → Prop} (W : Walk J n G Y) (hz : n ≤ 100000) (I : Nat → List V → Hp → Prop)
    (hI : ∀ i zs H1 H2, (∀ a o, H1 a = some o → a ≠ D → H2 a = some o) → I i zs H1 → I i zs H2) (hD : H D = none) (hX : ¬ X D) (hG : ∀ H', FX X H H' → G H') (h0 : I 0 [] (upd H D (.lst [])))
    (he : TurnI X n Y g tt te vs σ H D I) (hd : ∀ H' ys, FX X H H' → H' D = some (.lst ys) → ys.length ≤ n → I n ys H' → Qd H') :
    ∃ W : Nat → Nat → Hp → Prop, (∃ m, W 0 m (upd H D (.lst []))) ∧ ∀ i m H, W i m H →
      (J.stop i H ∧ Qd H) ∨ (J.go i H ∧ ∃ Nx : Hp → Prop, (∀ H', Nx H' → ∃ m', m' < m ∧ W (i + 1) m' H') ∧ ∀ x H', J.yld i H x H' → g x (wipe σ vs) H' fun σ2 H2 => wipe σ2 vs = wipe σ vs ∧ tt σ2 H2 fun b H3 =>
        if b = true then te σ2 H3 fun y H4 => ∃ acc, H4 D = some (.lst acc) ∧ acc.length < sizeLine ∧ Nx (upd H4 D (.lst (acc ++ [y]))) else Nx H3) := by
  refine lc_it W (fun i H' => ∃ ys, H' D = some (.lst ys) ∧ ys.length ≤ i ∧ I i ys H' ∧ FX X H H') ⟨[], upd_same, Nat.zero_le _, h0, FX.ex (Ex.new hD)⟩ (fun i H' _ p => by obtain ⟨ys, _, _, _, e⟩ := p; exact hG H' e) ?_ ?_
  · rintro i x H1 H2 hi ⟨ys, h1, hl, hr, e1⟩ hy
    refine he i x H1 H2 ys hi e1 h1 hr hy _ _ (fun y H3 e3 r3 => ⟨ys, e3 _ _ h1 hX, small100k (by omega), ys ++ [y], upd_same, by rw [List.length_append, List.length_singleton]; omega, ?_, ?_⟩) (fun H3 e3 r3 => ⟨ys, e3 _ _ h1 hX, by omega, r3, e1.tr e3⟩)
    · exact hI _ _ H3 _ (fun a o h n => by rw [upd_ne n]; exact h) r3
    · intro a o h n
      rw [upd_ne (ne_of_none h hD)]
      exact e3 _ _ (e1 _ _ h n) n
  · rintro H' ⟨ys, h1, hl, hr, e1⟩
    exact hd H' ys e1 h1 hl hr
end
section
variable {K : PySem.W.Frag} {g : TG} {tt : TT} {te : TE} {vs : List Nat} {σ : L2.St} {H : Hp} {Q : VK} {a b : Addr} {xs ys : List V} {X : Addr → Prop} {n : Nat}
/-- the frame that an invariant keeps while the list grows -/
abbrev KeepI (I : Addr → Nat → List V → Hp → Prop) : Prop := ∀ D i zs H1 H2, (∀ a o, H1 a = some o → a ≠ D → H2 a = some o) → I D i zs H1 → I D i zs H2
theorem q_lcLI (I : Addr → Nat → List V → Hp → Prop) (hx : SqL K H a xs) (hk : ∀ H', FX X H H' → SqL K H' a xs) (hz : xs.length ≤ 100000) (hI : KeepI I) (hX : ∀ D, H D = none → ¬ X D) (h0 : ∀ D, H D = none → I D 0 [] (upd H D (.lst [])))
    (he : ∀ D, H D = none → TurnI X xs.length (YAt xs) g tt te vs σ H D (I D)) (k : ∀ p H' ys, H p = none → H' p = some (.lst ys) → ys.length ≤ xs.length → I p xs.length ys H' → FX X H H' → Q (.ref p) H') : LcLK K g tt te vs σ Q (.ref a) H :=
  ⟨a, rfl, ⟨xs, hx⟩, fun D hD => lc_I walk_list hz (I D) (hI D) hD (hX D hD) hk (h0 D hD) (he D hD) fun H' ys e h l i => k D H' ys hD h l i e⟩
theorem q_lcQI (I : Addr → Nat → List V → Hp → Prop) (hx : Sq2 H a xs) (hk : ∀ H', FX X H H' → ∀ o, H a = some o → H' a = some o) (hz : xs.length ≤ 100000) (hI : KeepI I) (hX : ∀ D, H D = none → ¬ X D) (h0 : ∀ D, H D = none → I D 0 [] (upd H D (.lst [])))
    (he : ∀ D, H D = none → TurnI X xs.length (YAt xs) g tt te vs σ H D (I D)) (k : ∀ p H' ys, H p = none → H' p = some (.lst ys) → ys.length ≤ xs.length → I p xs.length ys H' → FX X H H' → Q (.ref p) H') : LcQK K g tt te vs σ Q (.ref a) H := by
  rcases hx with hx | hx
  · exact ⟨a, rfl, .inl ⟨⟨xs, SqL.of hx⟩, fun D hD => lc_I walk_list hz (I D) (hI D) hD (hX D hD) (fun H' e => SqL.of (hk H' e _ hx)) (h0 D hD) (he D hD) fun H' ys e h l i => k D H' ys hD h l i e⟩⟩
  · exact ⟨a, rfl, .inr ⟨⟨xs, SqT.of hx⟩, fun D hD => lc_I walk_tup hz (I D) (hI D) hD (hX D hD) (fun H' e => SqT.of (hk H' e _ hx)) (h0 D hD) (he D hD) fun H' ys e h l i => k D H' ys hD h l i e⟩⟩
theorem q_lcRI {N : Int} (I : Addr → Nat → List V → Hp → Prop) (h0N : 0 ≤ N ∧ N ≤ 100000) (hI : KeepI I) (hX : ∀ D, H D = none → ¬ X D) (h0 : ∀ D, H D = none → I D 0 [] (upd H D (.lst [])))
    (he : ∀ D, H D = none → TurnI X N.toNat (YFn fun i => .int (0 + i)) g tt te vs σ H D (I D)) (k : ∀ p H' ys, H p = none → H' p = some (.lst ys) → ys.length ≤ N.toNat → I p N.toNat ys H' → FX X H H' → Q (.ref p) H') : RngK g tt te vs σ Q [.int N] H :=
  ⟨N, rfl, by omega, by omega, fun D hD => lc_I walk_range (by omega) (I D) (hI D) hD (hX D hD) (fun _ _ => trivial) (h0 D hD) (he D hD) fun H' ys e h l i => k D H' ys hD h l i e⟩
def LcEK (K : PySem.W.Frag) (g : TG) (tt : TT) (te : TE) (vs : List Nat) (σ : L2.St) (Q : VK) : List V → Hp → Prop := fun us H => tLc (iEnum K (fun _ H Q' => Q' us H)) g tt te vs σ H Q
theorem q_lcE {ta : TA} (k : ta σ H (LcEK K g tt te vs σ Q)) : tLc (iEnum K ta) g tt te vs σ H Q := k
def ForEK (K : PySem.W.Frag) (g : TG) (tb : TS) (D : Ends) (σ : L2.St) : List V → Hp → Prop := fun us H => tFor (iEnum K (fun _ H Q' => Q' us H)) g tb D σ H
theorem q_forE {ta : TA} {tb : TS} {D : Ends} (k : ta σ H (ForEK K g tb D σ)) : tFor (iEnum K ta) g tb D σ H := k
theorem q_lcEI (I : Addr → Nat → List V → Hp → Prop) (hx : SqL K H a xs) (hk : ∀ H', FX X H H' → SqL K H' a xs) (hz : xs.length ≤ 100000) (hI : KeepI I) (hX : ∀ D, H D = none → ¬ X D) (h0 : ∀ D, H D = none → I D 0 [] (upd H D (.lst [])))
    (he : ∀ D, H D = none → TurnI X xs.length (YPair (fun i => some (.int (i : Nat))) (fun i => xs[i]?)) g tt te vs σ H D (I D)) (k : ∀ p H' ys, H p = none → H' p = some (.lst ys) → ys.length ≤ xs.length → I p xs.length ys H' → FX X H H' → Q (.ref p) H') : LcEK K g tt te vs σ Q [.ref a] H :=
  ⟨a, xs, rfl, hx, fun D hD => lc_I walk_enum hz (I D) (hI D) hD (hX D hD) hk (h0 D hD) (he D hD) fun H' ys e h l i => k D H' ys hD h l i e⟩
theorem q_enumFor {tb : TS} {D : Ends} (hx : SqL K H a xs) (Pv : Nat → L2.St → Hp → Prop) (h0 : Pv 0 σ H) (hq : ∀ i σ' H', Pv i σ' H' → SqL K H' a xs)
    (hs : ∀ (i : Nat) (x : V) (T : Addr) (σ' : L2.St) (H' H2 : Hp), xs[i]? = some x → Pv i σ' H' → H' T = none → H2 T = some (.tup [.int (i : Int), x]) → Ex H' H2 → g (.ref T) σ' H2 fun σ2 H2 => tb { D with nx := Pv (i + 1), ct := Pv (i + 1), bk := D.nx } σ2 H2)
    (hd : ∀ σ' H', Pv xs.length σ' H' → D.nx σ' H') : ForEK K g tb D σ [.ref a] H :=
  ⟨a, xs, rfl, hx, for_it walk_enum Pv h0 (fun i σ' H' _ p => hq i σ' H' p) (fun i v σ' H1 H2 hi p ⟨T, x, y, e1, hT, e2, hx, hy⟩ => by
    subst e1 e2
    cases hx
    exact hs i y T σ' H1 _ hy p hT upd_same (Ex.new hT)) hd⟩
end
/-- a seq of items told by ds: kept where f, then v -/
theorem q_seqD {K : PySem.W.Frag} {α : Type} {j : Nat} {tt : TT} {te : TE} {vs : List Nat} {σ : L2.St} {H : Hp} {Q : VK} {a : Addr} {xs : List V} {ds : List α} {P : V → α → Prop} (f : α → Bool) (v : V → α → V) (hx : Sq2 H a xs) (hA : All2 P xs ds) (hz : xs.length ≤ 100000)
    (hw : ∀ x, wipe ((wipe σ vs).set j (some x)) vs = wipe σ vs)
    (ht : ∀ (x : V) (d : α) (H1 : Hp), x ∈ xs → P x d → Ex H H1 → ∀ QB : Bool → Hp → Prop, (∀ H2, Ex H1 H2 → QB (f d) H2) → tt ((wipe σ vs).set j (some x)) H1 QB)
    (he : ∀ (x : V) (d : α) (H1 : Hp), x ∈ xs → P x d → Ex H H1 → f d = true → ∀ Q' : VK, (∀ H2, Ex H1 H2 → Q' (v x d) H2) → te ((wipe σ vs).set j (some x)) H1 Q')
    (k : ∀ p H' ys, H p = none → H' p = some (.lst ys) → All2 (fun y d => ∃ x, x ∈ xs ∧ P x d ∧ y = v x d) ys (ds.filter f) → ys.length ≤ xs.length → Ex H H' → Q (.ref p) H') : LcQK K (gName j) tt te vs σ Q (.ref a) H := by
  refine q_lcQI (X := XN) (fun D i zs H => All2 (fun y d => ∃ x, x ∈ xs ∧ P x d ∧ y = v x d) zs ((ds.take i).filter f)) hx (fun H' e o h => e.toEx _ _ h) hz (fun _ _ _ _ _ _ h => h) (fun _ _ h => h) (fun D hD => by simp only [List.take_zero, List.filter_nil]; exact .nil) (fun D hD => ?_) (fun p H' ys hp hy hl h e => ?_)
  · rintro i x H1 H2 zs hi e1 hd h ⟨rfl, hx'⟩ Qn Qf kn kf
    obtain ⟨d, hd', hP⟩ := hA.at hx'
    have hm := List.mem_of_getElem? hx'
    refine ⟨hw x, ht x d H2 hm hP e1.toEx _ fun H3 e3 => ?_⟩
    have e : (ds.take (i + 1)).filter f = (ds.take i).filter f ++ (if f d = true then [d] else []) := by
      rw [List.take_add_one, hd', List.filter_append]
      congr 1
      show List.filter f [d] = _
      rw [List.filter_cons]; rfl
    cases hf : f d with
    | true =>
      refine iteT (he x d H3 hm hP (e1.toEx.tr e3) hf _ fun H4 e4 => kn _ H4 (FX.ex (e3.tr e4)) ?_)
      show All2 _ _ ((ds.take (i + 1)).filter f)
      rw [e, if_pos hf]
      exact h.snoc ⟨x, hm, hP, rfl⟩
    | false =>
      refine iteF (kf H3 (FX.ex e3) ?_)
      show All2 _ _ ((ds.take (i + 1)).filter f)
      rw [e, if_neg (by rw [hf]; decide), List.append_nil]
      exact h
  · have hl2 := hA.len
    rw [show ds.take xs.length = ds by rw [hl2, List.take_length]] at h
    exact k p H' ys hp hy h hl e.toEx
/-- refs to lists (or tuples) of these ints -/
abbrev Rows2 (H : Hp) : List V → List (List Int) → Prop := All2 fun x c => ∃ q, x = .ref q ∧ Sq2 H q (iV c)
theorem Rows2.ex {H H' : Hp} {xs : List V} {cs : List (List Int)} (h : Rows2 H xs cs) (e : Ex H H') : Rows2 H' xs cs := h.mono fun _ _ ⟨q, a, b⟩ => ⟨q, a, b.ex e⟩
abbrev RowsL (H : Hp) : List V → List (List Int) → Prop := All2 fun x c => ∃ q, x = .ref q ∧ H q = some (.lst (iV c))
theorem RowsL.ex {H H' : Hp} {xs : List V} {cs : List (List Int)} (h : RowsL H xs cs) (e : Ex H H') : RowsL H' xs cs := h.mono fun _ _ ⟨q, a, b⟩ => ⟨q, a, e _ _ b⟩
theorem RowsL.two {H : Hp} {xs : List V} {cs : List (List Int)} (h : RowsL H xs cs) : Rows2 H xs cs := h.mono fun _ _ ⟨q, a, b⟩ => ⟨q, a, .inl b⟩
/-- new lists, no two of them the same one, none at D -/
structure RowsN (H0 H : Hp) (D : Addr) (xs : List V) (cs : List (List Int)) : Prop where
  rows : All2 (fun x c => ∃ q, x = .ref q ∧ H0 q = none ∧ q ≠ D ∧ H q = some (.lst (iV c))) xs cs
  nd : xs.Nodup
theorem RowsN.nil {H0 H : Hp} {D : Addr} : RowsN H0 H D [] [] := ⟨.nil, .nil⟩
theorem RowsN.keep {H0 H H' : Hp} {D : Addr} {xs : List V} {cs : List (List Int)} (h : RowsN H0 H D xs cs) (e : ∀ a o, H a = some o → a ≠ D → H' a = some o) : RowsN H0 H' D xs cs := ⟨h.rows.mono fun _ _ ⟨q, a, b, c, d⟩ => ⟨q, a, b, c, e _ _ d c⟩, h.nd⟩
theorem RowsN.ex {H0 H H' : Hp} {D : Addr} {xs : List V} {cs : List (List Int)} (h : RowsN H0 H D xs cs) (e : Ex H H') : RowsN H0 H' D xs cs := h.keep fun a o z _ => e a o z
theorem RowsN.snoc {H0 H H' : Hp} {D p : Addr} {xs zs : List V} {cs : List (List Int)} {c : List Int} (h : RowsN H0 H D xs cs) (hD : H D = some (.lst zs)) (n : H p = none) (n0 : H0 p = none) (e : Ex H H') (hp : H' p = some (.lst (iV c))) : RowsN H0 H' D (xs ++ [.ref p]) (cs ++ [c]) := by
  refine ⟨(h.ex e).rows.snoc ⟨p, rfl, n0, (ne_of_none hD n).symm, hp⟩, List.nodup_append.mpr ⟨h.nd, by simp, fun x hx y hy => ?_⟩⟩
  rw [List.mem_singleton.mp hy]
  obtain ⟨c', _, q, rfl, _, _, hq⟩ := h.rows.mem hx
  exact fun z => by cases z; rw [hq] at n; cases n
theorem RowsN.lst {H0 H : Hp} {D : Addr} {xs : List V} {cs : List (List Int)} (h : RowsN H0 H D xs cs) : RowsL H xs cs := h.rows.mono fun _ _ ⟨q, a, _, _, b⟩ => ⟨q, a, b⟩
theorem RowsN.len {H0 H : Hp} {D : Addr} {xs : List V} {cs : List (List Int)} (h : RowsN H0 H D xs cs) : xs.length = cs.length := h.rows.len
/-- one of them changes -/
theorem RowsN.set {H0 H H' : Hp} {D q : Addr} {xs : List V} {cs : List (List Int)} {i : Nat} {c : List Int} (h : RowsN H0 H D xs cs) (hi : xs[i]? = some (.ref q)) (f : Fb q H H') (hq : H' q = some (.lst (iV c))) : RowsN H0 H' D xs (cs.set i c) := by
  refine ⟨All2.of (by rw [List.length_set]; exact h.rows.len) fun j x d hx hd => ?_, h.nd⟩
  obtain ⟨d0, hd0, p, rfl, n0, nD, hp⟩ := h.rows.at hx
  by_cases c' : i = j
  · subst c'
    rw [hi] at hx
    cases hx
    have hlt : i < cs.length := (List.getElem?_eq_some_iff.mp hd0).1
    rw [List.getElem?_set_self hlt] at hd
    cases hd
    exact ⟨q, rfl, n0, nD, hq⟩
  · rw [List.getElem?_set_ne c', hd0] at hd
    cases hd
    refine ⟨p, rfl, n0, nD, f _ _ hp fun z => c' ?_⟩
    subst z
    obtain ⟨l1, h1⟩ := List.getElem?_eq_some_iff.mp hi
    obtain ⟨l2, h2⟩ := List.getElem?_eq_some_iff.mp hx
    exact (List.getElem_inj h.nd).mp (h1.trans h2.symm)
/-- as data -/
def rowsD (cs : List (List Int)) : PyData := .list (cs.map fun c => .list (c.map PyData.int))
theorem rows_dd {K : PySem.W.Frag} {H : Hp} : ∀ {xs : List V} {cs : List (List Int)}, RowsL H xs cs → DdAll K H xs (cs.map fun c => .list (c.map PyData.int))
  | _, _, .nil => .nil
  | _, _, .cons ⟨_, e, h⟩ b => by subst e; exact .cons (.lst (SqL.of h) (dd_ints _)) (rows_dd b)
theorem rows_dp {K : PySem.W.Frag} {H : Hp} : ∀ {xs : List V} {cs : List (List Int)}, RowsL H xs cs → DpAll K H xs (cs.map fun c => .list (c.map PyData.int))
  | _, _, .nil => .nil
  | _, _, .cons ⟨_, e, h⟩ b => by subst e; exact .cons (.lst (SqL.of h) (dp_ints _)) (rows_dp b)
theorem rows_mid {cs : List (List Int)} (h : ∀ c ∈ cs, c.length ≤ 100 ∧ ∀ n ∈ c, -1 ≤ n ∧ n < 1000000) : Mid (rowsD cs) (1205 * cs.length + 3) 4 := by
  have := mid_lst (m := 1203) (k := 3) (ds := cs.map fun c => PyData.list (c.map PyData.int)) fun d hd => by
    obtain ⟨c, hc, rfl⟩ := List.mem_map.mp hd
    have s := list_Sm (h c hc).2 (h c hc).1
    exact ⟨s.ok, s.dp, s.sz⟩
  rw [List.length_map] at this
  exact this
theorem rows_eqv : ∀ cs ds : List (List Int), PyData.eqvAll (cs.map fun c => .list (c.map PyData.int)) (ds.map fun c => .list (c.map PyData.int)) = decide (cs = ds)
  | [], [] => by simp [PyData.eqvAll]
  | [], d :: ds => by simp [PyData.eqvAll]
  | c :: cs, [] => by simp [PyData.eqvAll]
  | c :: cs, d :: ds => by
    simp only [List.map_cons, PyData.eqvAll, rows_eqv cs ds, PyData.eqv, eqv_ints]
    by_cases h : c = d
    · subst h; simp
    · simp [h]
theorem rows_shaped0 : ∀ cs : List (List Int), PyData.canLayAll0 (cs.map fun c => .list (c.map PyData.int)) = true ∧ PyData.depthAll (cs.map fun c => .list (c.map PyData.int)) ≤ 1
  | [] => ⟨by simp [PyData.canLayAll0], by simp [PyData.depthAll]⟩
  | c :: cs => by
    obtain ⟨a, b⟩ := rows_shaped0 cs
    obtain ⟨x, y⟩ := shaped_all c
    refine ⟨by simp [PyData.canLayAll0, PyData.canLay0, a, x], ?_⟩
    simp only [List.map_cons, PyData.depthAll, PyData.depth, y]
    exact Nat.max_le.mpr ⟨by omega, b⟩
theorem rows_shaped (cs : List (List Int)) : SeqAt.shaped (rowsD cs) = true := by
  obtain ⟨a, b⟩ := rows_shaped0 cs
  simp only [rowsD, SeqAt.shaped, PyData.canLay0, PyData.depth, a, Bool.true_and]
  exact decide_eq_true (Nat.le_trans (Nat.succ_le_succ b) (by decide : 2 ≤ 64))
theorem q_eqRows {K : PySem.W.Frag} {H : Hp} {Q : VK} {p q : Addr} {xs ys : List V} {cs ds : List (List Int)} (hp : H p = some (.lst xs)) (hq : H q = some (.lst ys)) (h1 : RowsL H xs cs) (h2 : RowsL H ys ds) (k : Q (.bl (decide (cs = ds))) H) : rEqA K (.ref p) (.ref q) H Q :=
  q_eqDt (d := rowsD cs) (e := rowsD ds) (.lst (SqL.of hp) (rows_dp h1)) (.lst (SqL.of hq) (rows_dp h2)) (rows_shaped cs) (rows_shaped ds) (by simp only [rowsD, PyData.eqv, rows_eqv]; exact k)
/-! ## max of a list -/
def greatI (ns : List Int) : Int := -leastI (ns.map fun n => -n)
theorem great_mem {ns : List Int} (h : ns ≠ []) : greatI ns ∈ ns := by
  obtain ⟨n, hn, e⟩ := List.mem_map.mp (least_mem (ns := ns.map fun n => -n) (by simpa using h))
  unfold greatI
  rw [← e, Int.neg_neg]; exact hn
theorem great_ge {ns : List Int} : ∀ n ∈ ns, n ≤ greatI ns := fun n h => by
  have := least_le (ns := ns.map fun n => -n) (-n) (List.mem_map.mpr ⟨n, h, rfl⟩)
  unfold greatI
  omega
theorem great_of {ns : List Int} {m : Int} (h : m ∈ ns) (h2 : ∀ n ∈ ns, n ≤ m) : m = greatI ns := by
  have a := h2 _ (great_mem (List.ne_nil_of_mem h))
  have b := great_ge m h
  omega
theorem call_maxB {X : Cx} (K : PySem.W.Frag) (h : X.K = K) (hc : X.calm = true) : CallR X (.builtin "max") (rMax K) := h ▸ cr_max hc
theorem q_max {K : PySem.W.Frag} {H : Hp} {Q : VK} {a : Addr} {ns : List Int} (h : SqL K H a (iV ns)) (hn : ns ≠ []) (k : Q (.int (greatI ns)) H) : rMax K [.ref a] H Q := ⟨a, ns, rfl, h, List.length_pos_iff.mpr hn, fun m h1 h2 => by rw [great_of h1 h2]; exact k⟩
theorem pi_enumB {X : Cx} {e : Expr} {ta : TA} {p pos tpos : Pos} {elts : List Expr} {kk : Nat} (K : PySem.W.Frag) (h : X.K = K) (hg : Gl X "enumerate") (hm : X.mg "enumerate" = none) (ha : PA X [e] ta) (hs : starEach [e] X.env = [(false, eval e X.env)] := by rfl) :
    PI X (.Tuple elts kk tpos) (.Call (.Name "enumerate" p) [e] [] pos) (iEnum K ta) := h ▸ pi_enum hg hm ha hs
/-! ## loads -/
def loadF (ws : List Int) (cap : Int) : Nat → Nat → List Nat
  | 0, _ => []
  | n + 1, b => if b < ws.length then (b + fit (ws.drop b) cap) :: loadF ws cap n (b + fit (ws.drop b) cap) else []
def loadE (ws : List Int) (cap : Int) : List Nat := loadF ws cap ws.length 0
theorem loadF_end {ws : List Int} {cap : Int} {b : Nat} (h : ¬ b < ws.length) : ∀ n, loadF ws cap n b = []
  | 0 => rfl
  | n + 1 => if_neg h
theorem fit_pos {ws : List Int} {cap : Int} {b : Nat} (h : b < ws.length) (hc : ∀ w ∈ ws, w ≤ cap) : 0 < fit (ws.drop b) cap := by
  rw [List.drop_eq_getElem_cons h]
  have := hc _ (List.getElem_mem h)
  unfold fit
  rw [if_neg (by omega)]; omega
theorem loadF_le {ws : List Int} {cap : Int} : ∀ (n b : Nat), b ≤ ws.length → (loadF ws cap n b).length ≤ n ∧ ∀ e ∈ loadF ws cap n b, e ≤ ws.length
  | 0, _, _ => ⟨Nat.le_refl _, fun e h => by cases h⟩
  | n + 1, b, hb => by
    unfold loadF
    have hf := fit_le (ws.drop b) cap
    rw [List.length_drop] at hf
    obtain ⟨h1, h2⟩ := loadF_le n (b + fit (ws.drop b) cap) (ws := ws) (cap := cap) (by omega)
    split
    · refine ⟨Nat.succ_le_succ h1, fun e he => ?_⟩
      rcases List.mem_cons.mp he with rfl | he
      · omega
      · exact h2 e he
    · exact ⟨Nat.zero_le _, fun e h => by cases h⟩
theorem load_len (ws : List Int) (cap : Int) : (loadE ws cap).length ≤ ws.length := (loadF_le _ 0 (Nat.zero_le _)).1
theorem load_le (ws : List Int) (cap : Int) : ∀ e ∈ loadE ws cap, e ≤ ws.length := (loadF_le _ 0 (Nat.zero_le _)).2
theorem sum_pos {ns : List Int} (h : ∀ n ∈ ns, 0 < n) : 0 ≤ ns.sum := by
  induction ns with
  | nil => simp
  | cons x r ih =>
    have a := h x List.mem_cons_self
    have b := ih fun y hy => h y (List.mem_cons_of_mem _ hy)
    rw [List.sum_cons]; omega
theorem fit_is : ∀ (xs : List Int) (j : Nat) (cap : Int), (∀ x ∈ xs, 0 < x) → j ≤ xs.length → (xs.take j).sum ≤ cap → (j = xs.length ∨ (xs.take (j + 1)).sum > cap) → fit xs cap = j
  | [], j, cap, _, hj, _, _ => by
    have : j = 0 := by simpa using hj
    subst this; rfl
  | w :: r, 0, cap, _, _, _, h => by
    have h' : w > cap := by
      rcases h with h | h
      · cases h
      · simpa using h
    exact if_pos h'
  | w :: r, j + 1, cap, hp, hj, hs, h => by
    have hr : ∀ x ∈ r, 0 < x := fun x hx => hp x (List.mem_cons_of_mem _ hx)
    rw [List.take_succ_cons, List.sum_cons] at hs
    have h0 := sum_pos (ns := r.take j) fun x hx => hr x (List.mem_of_mem_take hx)
    rw [show fit (w :: r) cap = _ from if_neg (show ¬ w > cap by omega)]
    rw [fit_is r j (cap - w) hr (by simpa using hj) (by omega) (h.imp (fun e => by simpa using e) (fun e => by rw [List.take_succ_cons, List.sum_cons] at e; omega))]
/-- groups that may be loaded -/
structure GoodG (cs : List (List Int)) (cap : Int) : Prop where
  n : cs.length ≤ 12
  c0 : 1 ≤ cap
  c1 : cap ≤ 999
  g : ∀ c ∈ cs, c.length ≤ 60 ∧ ∀ w ∈ c, (1 ≤ w ∧ w ≤ 99) ∧ w ≤ cap
abbrev duesG (cs : List (List Int)) (cap : Int) : List (List Int) := cs.map fun c => nI (loadE c cap)
theorem ints_of {lo hi : Int} : ∀ {xs : List V}, (∀ v ∈ xs, ∃ i, v = .int i ∧ lo ≤ i ∧ i ≤ hi) → ∃ ws, xs = iV ws ∧ ∀ w ∈ ws, lo ≤ w ∧ w ≤ hi
  | [], _ => ⟨[], rfl, fun w hw => by cases hw⟩
  | x :: xs, h => by
    obtain ⟨ws, e, hw⟩ := ints_of (xs := xs) fun v hv => h v (List.mem_cons_of_mem _ hv)
    obtain ⟨i, e2, h1, h2⟩ := h x List.mem_cons_self
    refine ⟨i :: ws, by rw [e, e2] <;> rfl, fun w hw' => ?_⟩
    rcases List.mem_cons.mp hw' with rfl | z
    · exact ⟨h1, h2⟩
    · exact hw w z
theorem ix_mem {K : PySem.W.Frag} {H : Hp} {Q : VK} {p : Addr} {ns : List Int} {i : Int} (h : H p = some (.lst (iV ns))) (h0 : 0 ≤ i) (h1 : i < ns.length) (k : ∀ n, n ∈ ns → Q (.int n) H) : rIx K (.ref p) (.int i) H Q :=
  q_ixM (SqL.of h) h0 (by rw [List.length_map]; exact h1) fun v m => by
    obtain ⟨n, hn, rfl⟩ := List.mem_map.mp m
    exact k n hn
/-- refs to lists that have come since H0, none of them at F or b -/
abbrev RowsA (H0 H : Hp) (F b : Addr) : List V → List (List Int) → Prop := All2 fun x c => ∃ q, x = .ref q ∧ H0 q = none ∧ q ≠ F ∧ q ≠ b ∧ H q = some (.lst (iV c))
theorem RowsA.keep {H0 H H' : Hp} {F b : Addr} {xs : List V} {cs : List (List Int)} (h : RowsA H0 H F b xs cs) (e : ∀ a o, H a = some o → a ≠ F → a ≠ b → H' a = some o) : RowsA H0 H' F b xs cs := h.mono fun _ _ ⟨q, a, n0, n1, n2, d⟩ => ⟨q, a, n0, n1, n2, e _ _ d n1 n2⟩
theorem RowsA.lst {H0 H : Hp} {F b : Addr} {xs : List V} {cs : List (List Int)} (h : RowsA H0 H F b xs cs) : RowsL H xs cs := h.mono fun _ _ ⟨q, a, _, _, _, d⟩ => ⟨q, a, d⟩
abbrev WidG (cs : List (List Int)) : Prop := cs.length ≤ 12 ∧ ∀ c ∈ cs, c.length ≤ 60 ∧ ∀ w ∈ c, 1 ≤ w ∧ w ≤ 99
theorem q_neNil {K : PySem.W.Frag} {H : Hp} {Q : VK} {p q : Addr} {ns : List Int} (hp : H p = some (.lst (iV ns))) (hq : H q = some (.lst [])) (k : Q (.bl (!decide (ns = []))) H) : rNeA K (.ref p) (.ref q) H Q :=
  .inr ⟨_, _, .lst (SqL.of hp) (dp_ints ns), .lst (SqL.of hq) .nil, shaped_ints ns, shaped_ints [], by rw [eqv_nil]; exact k⟩
theorem q_neRows {K : PySem.W.Frag} {H : Hp} {Q : VK} {p q : Addr} {xs ys : List V} {cs ds : List (List Int)} (hp : H p = some (.lst xs)) (hq : H q = some (.lst ys)) (h1 : RowsL H xs cs) (h2 : RowsL H ys ds) (k : Q (.bl (!decide (cs = ds))) H) : rNeA K (.ref p) (.ref q) H Q :=
  .inr ⟨rowsD cs, rowsD ds, .lst (SqL.of hp) (rows_dp h1), .lst (SqL.of hq) (rows_dp h2), rows_shaped cs, rows_shaped ds, by simp only [rowsD, PyData.eqv, rows_eqv]; exact k⟩
theorem dues_ok {cs : List (List Int)} {cap : Int} (h : ∀ c ∈ cs, c.length ≤ 60) : ∀ c ∈ duesG cs cap, c.length ≤ 60 ∧ ∀ n ∈ c, 0 ≤ n ∧ n ≤ 60 := fun d hd => by
  obtain ⟨c, hc, rfl⟩ := List.mem_map.mp hd
  have h1 := load_len c cap
  have h2 := h c hc
  refine ⟨by rw [List.length_map]; omega, fun n hn => ?_⟩
  obtain ⟨e, he, rfl⟩ := List.mem_map.mp hn
  have := load_le c cap e he
  constructor
  · exact Int.natCast_nonneg e
  · show (e : Int) ≤ 60
    omega
theorem dues_snoc {cs : List (List Int)} {cap : Int} {i : Nat} {c : List Int} (hc : cs[i]? = some c) : duesG (cs.take (i + 1)) cap = duesG (cs.take i) cap ++ [nI (loadE c cap)] := by
  simp only [duesG, List.take_add_one, hc, List.map_append, Option.toList_some, List.map_cons, List.map_nil]
/-- two ways that meet: what holds where they do -/
theorem joinJ {J G : L2.St → Hp → Prop} {A : Prop} (h : (∀ σ H, J σ H → G σ H) → A) (t : ∀ σ H, J σ H → G σ H) : A := h t
theorem rows_one {H : Hp} : ∀ {xs : List V} {as bs : List (List Int)}, RowsL H xs as → RowsL H xs bs → as = bs
  | _, _, _, .nil, .nil => rfl
  | _, _, _, .cons ⟨q, e, hq⟩ h1, .cons ⟨q', e', hq'⟩ h2 => by
    rw [e] at e'
    cases e'
    rw [hq] at hq'
    rw [rows_one h1 h2, iV_inj.mp (HO.lst.inj (Option.some.inj hq'))]
theorem q_eqBB {K : PySem.W.Frag} {H : Hp} {Q : VK} {a b : Bool} (k : Q (.bl (decide (a = b))) H) : rEqA K (.bl a) (.bl b) H Q := .inl ⟨rfl, by
  rw [show decide (V.bl a = V.bl b) = decide (a = b) from decide_eq_decide.mpr ⟨V.bl.inj, congrArg V.bl⟩]; exact k⟩
theorem RowsN.fb {H0 H H' : Hp} {D q : Addr} {xs : List V} {cs : List (List Int)} (h : RowsN H0 H D xs cs) (f : Fb q H H') (n : ∀ x ∈ xs, x ≠ .ref q) : RowsN H0 H' D xs cs := by
  refine ⟨All2.of h.rows.len fun i x y hx hy => ?_, h.nd⟩
  obtain ⟨y', hy', p, e, n1, nd, hp⟩ := h.rows.at hx
  rw [hy] at hy'
  cases hy'
  exact ⟨p, e, n1, nd, f _ _ hp fun z => n x (List.mem_of_getElem? hx) (by rw [e, z])⟩
/-- what is new is none of them -/
theorem RowsN.no {H0 H : Hp} {D q : Addr} {xs : List V} {cs : List (List Int)} (h : RowsN H0 H D xs cs) (n : H q = none) : ∀ x ∈ xs, x ≠ .ref q := fun x hx z => by
  obtain ⟨c, _, p, e, _, _, hp⟩ := h.rows.mem hx
  rw [e] at z
  cases z
  rw [hp] at n; cases n
theorem RowsN.old {H0 H : Hp} {D q : Addr} {xs : List V} {cs : List (List Int)} {o : HO} (h : RowsN H0 H D xs cs) (n : H0 q = some o) : ∀ x ∈ xs, x ≠ .ref q := fun x hx z => by
  obtain ⟨c, _, p, e, hn, _, _⟩ := h.rows.mem hx
  rw [e] at z
  cases z
  rw [hn] at n; cases n


/-! # Forged things: small ones, rows of them, lists of rows -/
structure Lt (K : PySem.W.Frag) (H : Hp) (v : V) : Prop where
  th : Thing K H v
  it : ∀ p xs, v = .ref p → H p = some (.lst xs) → xs.length ≤ 100 ∧ ∀ x ∈ xs, Thing K H x
theorem Dat.lt {K : PySem.W.Frag} {H : Hp} {v : V} (h : Dat K H v) : Lt K H v := ⟨h.th, h.it⟩
theorem Lt.ex {K : PySem.W.Frag} {H H' : Hp} {v : V} (h : Lt K H v) (e : Ex H H') : Lt K H' v := by
  refine ⟨h.th.ex e, fun p xs hv hp => ?_⟩
  subst hv
  obtain ⟨o, ho⟩ := thing_at h.th
  have := e _ _ ho
  rw [hp] at this
  cases this
  obtain ⟨a, b⟩ := h.it p xs rfl ho
  exact ⟨a, fun x hx => (b x hx).ex e⟩
/-- a thing that may be asked after, so deep -/
structure ElN (K : PySem.W.Frag) (H : Hp) (n : Nat) (x : V) : Prop where
  th : Thing K H x
  dp : ∃ d, Dp K H x d ∧ SeqAt.shaped d = true ∧ d.depth ≤ n
theorem ElN.ex {K : PySem.W.Frag} {H H' : Hp} {n : Nat} {x : V} (h : ElN K H n x) (e : Ex H H') : ElN K H' n x := ⟨h.th.ex e, by obtain ⟨d, a, b⟩ := h.dp; exact ⟨d, dp_ex e a, b⟩⟩
theorem ElN.mono {K : PySem.W.Frag} {H : Hp} {n m : Nat} {x : V} (h : ElN K H n x) (l : n ≤ m) : ElN K H m x := ⟨h.th, by obtain ⟨d, a, b, c⟩ := h.dp; exact ⟨d, a, b, Nat.le_trans c l⟩⟩
section
variable {K : PySem.W.Frag} {H : Hp}
theorem dpN_of {n : Nat} : ∀ {xs : List V}, (∀ v ∈ xs, ElN K H n v) → ∃ ds, DpAll K H xs ds ∧ PyData.canLayAll0 ds = true ∧ PyData.depthAll ds ≤ n ∧ ds.length = xs.length
  | [], _ => ⟨[], .nil, by simp [PyData.canLayAll0], by simp [PyData.depthAll], rfl⟩
  | x :: xs, h => by
    obtain ⟨ds, a, b, c, e⟩ := dpN_of (xs := xs) fun v hv => h v (List.mem_cons_of_mem _ hv)
    obtain ⟨d, h1, h2, h3⟩ := (h x List.mem_cons_self).dp
    refine ⟨d :: ds, .cons h1 a, by simp [PyData.canLayAll0, SeqAt.canLay_of_shaped h2, b], ?_, by rw [List.length_cons, e, List.length_cons]⟩
    simp only [PyData.depthAll]
    exact Nat.max_le.mpr ⟨h3, c⟩
theorem ElN.lst {p : Addr} {es : List V} {n : Nat} (h : H p = some (.lst es)) (hn : n ≤ 40) (he : ∀ e ∈ es, ElN K H n e) : ElN K H (n + 1) (.ref p) := by
  obtain ⟨ds, a, b, c, e⟩ := dpN_of he
  refine ⟨.lst _ _ h, .list ds, .lst (SqL.of h) a, ?_, ?_⟩
  · simp only [SeqAt.shaped, PyData.canLay0, PyData.depth, b, Bool.true_and]
    exact decide_eq_true (by omega)
  · simp only [PyData.depth]; omega
theorem ElN.tup {p : Addr} {es : List V} {n : Nat} (h : H p = some (.tup es)) (hn : n ≤ 40) (he : ∀ e ∈ es, ElN K H n e) : ElN K H (n + 1) (.ref p) := by
  obtain ⟨ds, a, b, c, e⟩ := dpN_of he
  refine ⟨.tup _ _ h, .tuple ds, .tup (SqT.of h) a, ?_, ?_⟩
  · simp only [SeqAt.shaped, PyData.canLay0, PyData.depth, b, Bool.true_and]
    exact decide_eq_true (by omega)
  · simp only [PyData.depth]; omega
theorem ElN.int {n : Nat} (i : Int) : ElN K H n (.int i) := ⟨.int i, .int i, .int i, by simp [SeqAt.shaped, PyData.canLay0, PyData.depth], by simp [PyData.depth]⟩
theorem ElN.bl {n : Nat} (b : Bool) : ElN K H n (.bl b) := ⟨.bl b, .bool b, .bl b, by simp [SeqAt.shaped, PyData.canLay0, PyData.depth], by simp [PyData.depth]⟩
theorem ElN.non {n : Nat} : ElN K H n .non := ⟨.non, .none, .non, by simp [SeqAt.shaped, PyData.canLay0, PyData.depth], by simp [PyData.depth]⟩
theorem ElN.str {n m : Nat} {s : Str} (h : Tn m s) (hm : m ≤ 900) : ElN K H n (.str s) := by
  refine ⟨.str s (h.mono (by omega)), .str s, .str s, ?_, by simp [PyData.depth]⟩
  have : PyData.strOk s = true := by
    simp only [PyData.strOk, Array.all_eq_true]
    intro i hi
    have := h.2 (s.cps[i]) (by rw [← Array.getElem_toList]; exact List.getElem_mem _)
    simp; omega
  simp only [SeqAt.shaped, PyData.canLay0, PyData.depth, this, Bool.true_and]
  exact decide_eq_true (Nat.zero_le _)
theorem ElN.ints {n : Nat} : ∀ {ns : List Int}, ∀ x ∈ iV ns, ElN K H n x := fun x hx => by
  obtain ⟨i, _, rfl⟩ := List.mem_map.mp hx
  exact .int i
/-- a list of things against the empty one -/
theorem q_neAny {Q : VK} {p q : Addr} {xs : List V} {n : Nat} (hp : SqL K H p xs) (hq : H q = some (.lst [])) (hn : n ≤ 40) (hd : ∀ v ∈ xs, ElN K H n v) (k : Q (.bl (!decide (xs = []))) H) : rNeA K (.ref p) (.ref q) H Q := by
  obtain ⟨ds, a, b, c, e⟩ := dpN_of hd
  refine .inr ⟨.list ds, .list [], .lst hp a, .lst (SqL.of hq) .nil, ?_, by decide, ?_⟩
  · simp only [SeqAt.shaped, PyData.canLay0, PyData.depth, b, Bool.true_and]
    exact decide_eq_true (by omega)
  · cases ds with
    | nil =>
      cases xs with
      | nil => simpa [PyData.eqv, PyData.eqvAll] using k
      | cons x xs => cases e
    | cons d ds =>
      cases xs with
      | nil => cases e
      | cons x xs => simpa [PyData.eqv, PyData.eqvAll] using k
theorem q_eqAny {Q : VK} {p q : Addr} {xs : List V} {n : Nat} (hp : SqL K H p xs) (hq : H q = some (.lst [])) (hn : n ≤ 40) (hd : ∀ v ∈ xs, ElN K H n v) (k : Q (.bl (decide (xs = []))) H) : rEqA K (.ref p) (.ref q) H Q := by
  obtain ⟨ds, a, b, c, e⟩ := dpN_of hd
  refine .inr ⟨.list ds, .list [], .lst hp a, .lst (SqL.of hq) .nil, ?_, by decide, ?_⟩
  · simp only [SeqAt.shaped, PyData.canLay0, PyData.depth, b, Bool.true_and]
    exact decide_eq_true (by omega)
  · cases ds with
    | nil =>
      cases xs with
      | nil => simpa [PyData.eqv, PyData.eqvAll] using k
      | cons x xs => cases e
    | cons d ds =>
      cases xs with
      | nil => cases e
      | cons x xs => simpa [PyData.eqv, PyData.eqvAll] using k
theorem Sm.mid {d : PyData} {m : Nat} (h : Sm d m) : Mid d m 3 := ⟨h.ok, h.dp, h.sz⟩
/-- a small thing -/
structure E0 (K : PySem.W.Frag) (H : Hp) (x : V) : Prop where
  el : ElN K H 2 x
  dd : ∃ d, Dd K H x d ∧ Mid d 35 3
theorem E0.ex {H' : Hp} {x : V} (h : E0 K H x) (e : Ex H H') : E0 K H' x := ⟨h.el.ex e, by obtain ⟨d, a, b⟩ := h.dd; exact ⟨d, dd_ex e a, b⟩⟩
theorem E0.int {i : Int} (h : -1 ≤ i ∧ i < 1000000) : E0 K H (.int i) := ⟨.int i, _, .int i, ((int_Sm h.1 h.2).mono (by decide : 10 ≤ 35)).mid⟩
theorem E0.bl (b : Bool) : E0 K H (.bl b) := ⟨.bl b, _, .bl b, ((sm_bl b).mono (by decide : 10 ≤ 35)).mid⟩
theorem E0.non : E0 K H .non := ⟨.non, _, .non, (sm_non.mono (by decide : 10 ≤ 35)).mid⟩
theorem E0.str {s : Str} (h : Tn 3 s) : E0 K H (.str s) := ⟨.str h (by decide), _, .str s, ((sm_str h).mono (by decide : 10 * 3 + 2 ≤ 35)).mid⟩
theorem E0.lst1 {p : Addr} {i : Int} (h : H p = some (.lst [.int i])) (b : -1 ≤ i ∧ i < 1000000) : E0 K H (.ref p) := by
  refine ⟨(ElN.lst (n := 1) h (by decide) fun e he => by rw [List.mem_singleton.mp he]; exact .int i), .list [.int i], .lst (SqL.of h) (.cons (.int i) .nil), ?_⟩
  have := mid_lst (m := 10) (k := 2) (ds := [PyData.int i]) fun d hd => by
    rw [List.mem_singleton.mp hd]
    exact ⟨(int_Sm b.1 b.2).ok, by simp [PyData.depth], (int_Sm b.1 b.2).sz⟩
  exact this.mono (Nat.le_of_ble_eq_true rfl) (Nat.le_refl _)
theorem E0.ints {ns : List Int} (h : ∀ n ∈ ns, -1 ≤ n ∧ n < 1000000) : ∀ x ∈ iV ns, E0 K H x := fun x hx => by
  obtain ⟨i, hi, rfl⟩ := List.mem_map.mp hx
  exact .int (h i hi)
/-- a row, or what stands in the place of one -/
structure E1 (K : PySem.W.Frag) (H : Hp) (y : V) : Prop where
  el : ElN K H 4 y
  dd : ∃ d, Dd K H y d ∧ Mid d 20000 6
  li : ∀ p es, y = .ref p → H p = some (.lst es) → es.length ≤ 100 ∧ ∀ e ∈ es, ElN K H 3 e
theorem E1.lt {y : V} (h : E1 K H y) : Lt K H y := ⟨h.el.th, fun p xs e hp => ⟨(h.li p xs e hp).1, fun x hx => ((h.li p xs e hp).2 x hx).th⟩⟩
theorem E1.ex {H' : Hp} {y : V} (h : E1 K H y) (e : Ex H H') : E1 K H' y := by
  refine ⟨h.el.ex e, by obtain ⟨d, a, b⟩ := h.dd; exact ⟨d, dd_ex e a, b⟩, fun p xs hv hp => ?_⟩
  subst hv
  obtain ⟨o, ho⟩ := thing_at h.el.th
  have := e _ _ ho
  rw [hp] at this
  cases this
  obtain ⟨a, b⟩ := h.li p xs rfl ho
  exact ⟨a, fun x hx => (b x hx).ex e⟩
theorem E1.flat {y : V} (h : E0 K H y) (hn : ∀ p, y ≠ .ref p) : E1 K H y := ⟨h.el.mono (by decide), by obtain ⟨d, a, b⟩ := h.dd; exact ⟨d, a, b.mono (by decide) (by decide)⟩, fun p es e _ => absurd e (hn p)⟩
theorem dd_mid {es : List V} {m k : Nat} (h : ∀ e ∈ es, ∃ d, Dd K H e d ∧ Mid d m k) : ∃ ds, DdAll K H es ds ∧ (∀ d ∈ ds, Mid d m k) ∧ ds.length = es.length := by
  obtain ⟨ds, a, b⟩ := ddAll_of h
  exact ⟨ds, a, b, ddAll_len a⟩
theorem mid_tpl {m k : Nat} {ds : List PyData} (h : ∀ d ∈ ds, Mid d m k) : Mid (.tuple ds) ((m + 2) * ds.length + 3) (k + 1) := by
  obtain ⟨a, b, c, e⟩ := mid_all h
  refine ⟨by simp only [PyData.showable, a], by simp only [PyData.depth]; omega, ?_⟩
  simp only [PyData.shown]
  have h1 := PySem.tupleText_len_le (PyData.shownAll ds)
  rw [e] at h1
  have : (m + 2) * ds.length = m * ds.length + 2 * ds.length := Nat.add_mul _ _ _
  omega
theorem E1.lst {p : Addr} {es : List V} (h : H p = some (.lst es)) (hl : es.length ≤ 100) (he : ∀ e ∈ es, E0 K H e) : E1 K H (.ref p) := by
  obtain ⟨ds, a, b, c⟩ := dd_mid fun e h => (he e h).dd
  refine ⟨(ElN.lst h (by decide) fun e h => (he e h).el).mono (by decide), ⟨_, .lst (SqL.of h) a, (mid_lst b).mono (by rw [c]; omega) (by decide)⟩, fun q es' e hq => ?_⟩
  cases e
  rw [h] at hq
  cases hq
  exact ⟨hl, fun e h => (he e h).el.mono (by decide)⟩
theorem E1.tup {p : Addr} {es : List V} (h : H p = some (.tup es)) (hl : es.length ≤ 100) (he : ∀ e ∈ es, E0 K H e) : E1 K H (.ref p) := by
  obtain ⟨ds, a, b, c⟩ := dd_mid fun e h => (he e h).dd
  refine ⟨(ElN.tup h (by decide) fun e h => (he e h).el).mono (by decide), ⟨_, .tup (SqT.of h) a, (mid_tpl b).mono (by rw [c]; omega) (by decide)⟩, fun q es' e hq => ?_⟩
  cases e
  rw [h] at hq
  cases hq
/-- rows of whole numbers -/
abbrev Nums (cs : List (List Int)) : Prop := ∀ c ∈ cs, c.length ≤ 100 ∧ ∀ n ∈ c, -1 ≤ n ∧ n < 1000000
theorem rows_el {xs : List V} {cs : List (List Int)} (h : RowsL H xs cs) : ∀ x ∈ xs, ElN K H 3 x := fun x hx => by
  obtain ⟨c, _, q, rfl, hq⟩ := h.mem hx
  exact (ElN.lst (n := 1) hq (by decide) ElN.ints).mono (by decide)
theorem E1.rows {p : Addr} {xs : List V} {cs : List (List Int)} (h : H p = some (.lst xs)) (hr : RowsL H xs cs) (hl : cs.length ≤ 14) (hn : Nums cs) : E1 K H (.ref p) :=
  ⟨ElN.lst h (by decide) (rows_el hr), ⟨_, .lst (SqL.of h) (rows_dd hr), (rows_mid hn).mono (by omega) (by decide)⟩, fun q es e hq => by
    cases e
    rw [h] at hq
    cases hq
    exact ⟨by rw [hr.len]; omega, rows_el hr⟩⟩
theorem E1.row {xs : List V} {cs : List (List Int)} (hr : RowsL H xs cs) (hn : Nums cs) : ∀ x ∈ xs, E1 K H x := fun x hx => by
  obtain ⟨c, hc, q, rfl, hq⟩ := hr.mem hx
  exact .lst hq (by rw [List.length_map]; exact (hn c hc).1) (E0.ints (hn c hc).2)
/-- what is handed in as a list of rows -/
structure FT (K : PySem.W.Frag) (H : Hp) (v : V) : Prop where
  th : Thing K H v
  dd : ∃ d, Dd K H v d ∧ Mid d 900000 8
  li : ∀ p ys, v = .ref p → H p = some (.lst ys) → ys.length ≤ 40 ∧ ∀ y ∈ ys, E1 K H y
theorem FT.ex {H' : Hp} {v : V} (h : FT K H v) (e : Ex H H') : FT K H' v := by
  refine ⟨h.th.ex e, by obtain ⟨d, a, b⟩ := h.dd; exact ⟨d, dd_ex e a, b⟩, fun p xs hv hp => ?_⟩
  subst hv
  obtain ⟨o, ho⟩ := thing_at h.th
  have := e _ _ ho
  rw [hp] at this
  cases this
  obtain ⟨a, b⟩ := h.li p xs rfl ho
  exact ⟨a, fun x hx => (b x hx).ex e⟩
theorem FT.flat {v : V} (h : E0 K H v) (hn : ∀ p, v ≠ .ref p) : FT K H v := ⟨h.el.th, by obtain ⟨d, a, b⟩ := h.dd; exact ⟨d, a, b.mono (by decide) (by decide)⟩, fun p es e _ => absurd e (hn p)⟩
theorem FT.lst {p : Addr} {ys : List V} (h : H p = some (.lst ys)) (hl : ys.length ≤ 40) (he : ∀ y ∈ ys, E1 K H y) : FT K H (.ref p) := by
  obtain ⟨ds, a, b, c⟩ := dd_mid fun e h => (he e h).dd
  refine ⟨.lst _ _ h, ⟨_, .lst (SqL.of h) a, (mid_lst b).mono (by rw [c]; omega) (by decide)⟩, fun q es' e hq => ?_⟩
  cases e
  rw [h] at hq
  cases hq
  exact ⟨hl, he⟩
theorem FT.tup {p : Addr} {ys : List V} (h : H p = some (.tup ys)) (hl : ys.length ≤ 40) (he : ∀ y ∈ ys, E1 K H y) : FT K H (.ref p) := by
  obtain ⟨ds, a, b, c⟩ := dd_mid fun e h => (he e h).dd
  refine ⟨.tup _ _ h, ⟨_, .tup (SqT.of h) a, (mid_tpl b).mono (by rw [c]; omega) (by decide)⟩, fun q es' e hq => ?_⟩
  cases e
  rw [h] at hq
  cases hq
theorem FT.dic {p : Addr} (h : H p = some (.dK [])) : FT K H (.ref p) := ⟨.dK _ _ h, ⟨.dict [], .dic h .nil .nil, ⟨by decide +kernel, by decide +kernel, by decide +kernel⟩⟩, fun q es e hq => by
  cases e
  rw [h] at hq
  cases hq⟩
end
theorem pe_revB {X : Cx} {e : Expr} {te : TE} {k : Nat} {p1 p2 p3 pos : Pos} (K : PySem.W.Frag) (h : X.K = K) (he : PE X e te) : PE X (.Subscript e (.Slice none none (some (.UnaryOp .USub (.Constant (.int 1) k p1) p2)) p3) pos) (tRevL K te) := h ▸ pe_revL he
def RevK (K : PySem.W.Frag) (Q : VK) : VK := fun x H1 => ∃ a xs, x = .ref a ∧ SqL K H1 a xs ∧ ∀ p, H1 p = none → Q (.ref p) (upd H1 p (.lst xs.reverse))
theorem q_revL {K : PySem.W.Frag} {te : TE} {σ : L2.St} {H : Hp} {Q : VK} (k : te σ H (RevK K Q)) : tRevL K te σ H Q := k
theorem q_rev {K : PySem.W.Frag} {H : Hp} {Q : VK} {a : Addr} {xs : List V} (h : SqL K H a xs) (k : ∀ p H', H p = none → H' p = some (.lst xs.reverse) → Ex H H' → Q (.ref p) H') : RevK K Q (.ref a) H := ⟨a, xs, rfl, h, fun p hp => k p _ hp upd_same (Ex.new hp)⟩
theorem joinV {J G : Hp → Prop} {A : Prop} (h : (∀ H, J H → G H) → A) (t : ∀ H, J H → G H) : A := h t
theorem q_neBB {K : PySem.W.Frag} {H : Hp} {Q : VK} {a b : Bool} (k : Q (.bl (!decide (a = b))) H) : rNeA K (.bl a) (.bl b) H Q := .inl ⟨rfl, by
  rw [show decide (V.bl a = V.bl b) = decide (a = b) from decide_eq_decide.mpr ⟨V.bl.inj, congrArg V.bl⟩]; exact k⟩
theorem q_reprM2 {K : PySem.W.Frag} {H : Hp} {Q : VK} {x : V} {d : PyData} {m k : Nat} (h : Dd K H x d) (s : Mid d m k) (hm : m ≤ 16000000) (hk : k ≤ 40) (q : Q (.str d.shown) H) : rRepr K [x] H Q := q_repr d h s.ok (Nat.le_trans s.dp hk) (Nat.le_trans s.sz (by rw [sizeLine_eq]; omega)) q
/-- rows, each a list or a tuple, as data -/
theorem rows2_dd {K : PySem.W.Frag} {H : Hp} {xs : List V} {cs : List (List Int)} (h : Rows2 H xs cs) (hn : Nums cs) : ∀ x ∈ xs, ∃ d, Dd K H x d ∧ Mid d 1203 3 := fun x hx => by
  obtain ⟨c, hc, q, rfl, hq⟩ := h.mem hx
  obtain ⟨a, b⟩ := hn c hc
  have m := (mid_lst (m := 10) (k := 2) (ds := c.map PyData.int) fun d hd => by
    obtain ⟨n, hn, rfl⟩ := List.mem_map.mp hd
    have := int_Sm (b n hn).1 (b n hn).2
    exact ⟨this.ok, by simp [PyData.depth], this.sz⟩).mono (show _ ≤ 1203 by rw [List.length_map]; omega) (Nat.le_refl _)
  have m2 := (mid_tpl (m := 10) (k := 2) (ds := c.map PyData.int) fun d hd => by
    obtain ⟨n, hn, rfl⟩ := List.mem_map.mp hd
    have := int_Sm (b n hn).1 (b n hn).2
    exact ⟨this.ok, by simp [PyData.depth], this.sz⟩).mono (show _ ≤ 1203 by rw [List.length_map]; omega) (Nat.le_refl _)
  rcases hq with hq | hq
  · exact ⟨_, .lst (SqL.of hq) (dd_ints _), m⟩
  · exact ⟨_, .tup (SqT.of hq) (dd_ints _), m2⟩
theorem seq2_dd {K : PySem.W.Frag} {H : Hp} {p : Addr} {xs : List V} {m k : Nat} (h : Sq2 H p xs) (hx : ∀ x ∈ xs, ∃ d, Dd K H x d ∧ Mid d m k) : ∃ d, Dd K H (.ref p) d ∧ Mid d ((m + 2) * xs.length + 3) (k + 1) := by
  obtain ⟨ds, a, b, c⟩ := dd_mid hx
  rcases h with h | h
  · exact ⟨_, .lst (SqL.of h) a, c ▸ mid_lst b⟩
  · exact ⟨_, .tup (SqT.of h) a, c ▸ mid_tpl b⟩
theorem nums_of {cs : List (List Int)} {cap : Int} (g : GoodG cs cap) : Nums cs := fun c hc => ⟨by have := (g.g c hc).1; omega, fun n hn => by have := ((g.g c hc).2 n hn).1; omega⟩
theorem nums_dues {cs : List (List Int)} {cap : Int} (h : ∀ c ∈ cs, c.length ≤ 60) : Nums (duesG cs cap) := fun c hc => ⟨by have := (dues_ok (cap := cap) h c hc).1; omega, fun n hn => by have := (dues_ok (cap := cap) h c hc).2 n hn; omega⟩

/-! # Parts, cuttings -/
/-- the i-th end, and the one ahead of it -/
def endAt (es : List Nat) (i : Nat) : Nat := es.getD i 0
def begAt (es : List Nat) (i : Nat) : Nat := (0 :: es).getD i 0
def partAt {α : Type} (xs : List α) (es : List Nat) (i : Nat) : List α := (xs.drop (begAt es i)).take (endAt es i - begAt es i)
theorem beg_get {es : List Nat} {i : Nat} {y : V} (h : (V.int 0 :: nV es.dropLast)[i]? = some y) (hi : i < es.length) : y = .int (begAt es i : Int) := by
  unfold begAt
  cases i with
  | zero => simpa using h.symm
  | succ j =>
    have hj : (nV es.dropLast)[j]? = some y := by simpa using h
    obtain ⟨y1, rfl, hy1⟩ := get_iV hj
    rw [List.getElem?_map] at hy1
    obtain ⟨bn, hbn, rfl⟩ := Option.map_eq_some_iff.mp hy1
    have hb2 : es[j]? = some bn := by
      rw [List.dropLast_eq_take, List.getElem?_take] at hbn
      split at hbn
      · exact hbn
      · cases hbn
    show V.int (Int.ofNat bn) = V.int ((es.getD j 0 : Nat) : Int)
    rw [List.getD_eq_getElem?_getD, hb2]; rfl
theorem end_get {es : List Nat} {i : Nat} {y : V} (h : (nV es)[i]? = some y) : y = .int (endAt es i : Int) := by
  obtain ⟨z1, rfl, hz1⟩ := get_iV h
  rw [List.getElem?_map] at hz1
  obtain ⟨en, hen, rfl⟩ := Option.map_eq_some_iff.mp hz1
  unfold endAt
  rw [List.getD_eq_getElem?_getD, hen]; rfl
theorem cut_last {es : List Nat} (h : 0 < es.length) : cutV (nV es) none (some (-1)) = nV es.dropLast := by
  rw [cut_iV]
  congr 1
  show cutG (nI es) none (some (-1)) = nI es.dropLast
  unfold cutG
  rw [show HT.sIx (nI es).length 0 none = 0 from rfl, show HT.sIx (nI es).length (nI es).length (some (-1)) = es.length - 1 by
    rw [List.length_map]
    show HT.sIx es.length es.length (some (-1)) = _
    simp [HT.sIx]
    omega, List.drop_zero, Nat.sub_zero, List.dropLast_eq_take]
  exact List.map_take.symm
theorem cutV_nat (xs : List V) (i j : Nat) : cutV xs (some (i : Int)) (some (j : Int)) = (xs.drop i).take (j - i) := cutG_nat xs i j
theorem partAt_iV (ws : List Int) (es : List Nat) (i : Nat) : partAt (iV ws) es i = iV (partAt ws es i) := by
  unfold partAt iV
  rw [List.map_take, List.map_drop]
def frees (ws ls : List Int) (es : List Nat) : List Int := (List.range ls.length).map fun i => ls.getD i 0 - (partAt ws es i).sum
def inOrd : List Int → Bool
  | [] => true
  | [_] => true
  | x :: y :: r => decide (x ≤ y) && inOrd (y :: r)
theorem inOrd_pw : ∀ {ns : List Int}, inOrd ns = true ↔ ns.Pairwise (· ≤ ·)
  | [] => by simp [inOrd]
  | [x] => by simp [inOrd]
  | x :: y :: r => by
    have ih := inOrd_pw (ns := y :: r)
    unfold inOrd
    rw [Bool.and_eq_true, decide_eq_true_eq, ih, List.pairwise_cons (a := x)]
    constructor
    · rintro ⟨h1, h2⟩
      refine ⟨fun z hz => ?_, h2⟩
      rcases List.mem_cons.mp hz with rfl | hz
      · exact h1
      · have := (List.pairwise_cons.mp h2).1 z hz
        omega
    · rintro ⟨h1, h2⟩
      exact ⟨h1 y List.mem_cons_self, h2⟩
theorem perm_ord {ns ms : List Int} (p : ms.Perm ns) (o : ms.Pairwise (· ≤ ·)) : decide (ns = ms) = inOrd ns := by
  rw [Bool.eq_iff_iff, decide_eq_true_eq, inOrd_pw]
  constructor
  · intro e; rw [e]; exact o
  · intro h; exact (List.Perm.eq_of_pairwise (fun a b _ _ x y => Int.le_antisymm x y) o h p).symm
def vNon : V → Bool
  | .non => true
  | _ => false
/-- do these ends cut all, with so much free? -/
def cutsB (ws ls : List Int) (n : Int) (es : List Nat) : Bool := decide (es.length = ls.length) && inOrd (nI es) && decide ((nI es).getLastD 0 = (ws.length : Int)) && decide (n ≤ leastI (frees ws ls es))
theorem nats_of : ∀ {ns : List Int}, (∀ n ∈ ns, 0 ≤ n) → ∃ es : List Nat, ns = nI es
  | [], _ => ⟨[], rfl⟩
  | n :: ns, h => by
    obtain ⟨es, e⟩ := nats_of (ns := ns) fun x hx => h x (List.mem_cons_of_mem _ hx)
    obtain ⟨m, rfl⟩ := Int.eq_ofNat_of_zero_le (h n List.mem_cons_self)
    exact ⟨m :: es, by rw [e]; rfl⟩
theorem fit_mono : ∀ (ws : List Int) (r s : Int), r ≤ s → fit ws r ≤ fit ws s
  | [], _, _, _ => Nat.le_refl _
  | w :: t, r, s, h => by
    unfold fit
    by_cases c : w > r
    · rw [if_pos c]; exact Nat.zero_le _
    · rw [if_neg c, if_neg (by omega)]
      exact Nat.succ_le_succ (fit_mono t (r - w) (s - w) (by omega))
theorem fit_tail {w : Int} (hw : 0 < w) (t : List Int) (r : Int) : fit (w :: t) r ≤ fit t r + 1 := by
  show (if w > r then 0 else fit t (r - w) + 1) ≤ _
  split
  · omega
  · exact Nat.succ_le_succ (fit_mono t _ _ (by omega))
theorem fit_ahead {ws : List Int} (hp : ∀ w ∈ ws, 0 < w) {r s : Int} (h : r ≤ s) : ∀ (d b : Nat), b + fit (ws.drop b) r ≤ b + d + fit (ws.drop (b + d)) s
  | 0, b => Nat.add_le_add_left (fit_mono _ _ _ h) _
  | d + 1, b => by
    have ih := fit_ahead hp h d (b + 1)
    have e : b + 1 + d = b + (d + 1) := by omega
    rw [e] at ih
    by_cases c : b < ws.length
    · rw [List.drop_eq_getElem_cons c]
      have := fit_tail (hp _ (List.getElem_mem c)) (ws.drop (b + 1)) r
      omega
    · rw [List.drop_of_length_le (by omega : ws.length ≤ b)]
      show b + 0 ≤ _
      omega
theorem stood_mono {ws : List Int} (hp : ∀ w ∈ ws, 0 < w) {k m : Int} (h : m ≤ k) : ∀ (ls : List Int) (b c : Nat), b ≤ c → c ≤ ws.length → stood ws k b ls ≤ stood ws m c ls
  | [], b, c, hb, _ => hb
  | l :: r, b, c, hb, hc => by
    by_cases e : c = ws.length
    · rw [stood_full e]
      have := stood_le ws k (l :: r) b (by omega)
      omega
    · rw [stood_cons e, stood_cons (by omega)]
      have h1 := fit_ahead hp (r := l - k) (s := l - m) (by omega) (c - b) b
      rw [show b + (c - b) = c by omega] at h1
      have hf := fit_le (ws.drop c) (l - m)
      rw [List.length_drop] at hf
      exact stood_mono hp h r _ _ h1 (by omega)
theorem free_one {ws ls : List Int} (hp : ∀ w ∈ ws, 0 < w) {n m : Int} (n1 : n ≤ leastI ls) (m1 : m ≤ leastI ls) (sn : stood ws n 0 ls = ws.length) (sm : stood ws m 0 ls = ws.length) (xn : n = leastI ls ∨ stood ws (n + 1) 0 ls ≠ ws.length) (xm : m = leastI ls ∨ stood ws (m + 1) 0 ls ≠ ws.length) : n = m := by
  have key : ∀ {n m : Int}, m ≤ leastI ls → stood ws m 0 ls = ws.length → (n = leastI ls ∨ stood ws (n + 1) 0 ls ≠ ws.length) → ¬ n < m := by
    intro n m m1 sm xn h
    rcases xn with xn | xn
    · omega
    · have a := stood_mono hp (show n + 1 ≤ m by omega) ls 0 0 (Nat.le_refl _) (Nat.zero_le _)
      have b := stood_le ws (n + 1) ls 0 (Nat.zero_le _)
      omega
  have a := key m1 sm xn
  have b := key n1 sn xm
  omega
theorem fit_sum : ∀ (ws : List Int) (r : Int), 0 ≤ r → (ws.take (fit ws r)).sum ≤ r
  | [], r, h => by simpa [fit] using h
  | w :: t, r, h => by
    unfold fit
    by_cases c : w > r
    · rw [if_pos c]; simpa using h
    · rw [if_neg c, List.take_succ_cons, List.sum_cons]
      have := fit_sum t (r - w) (by omega)
      omega
theorem few_ord {ws : List Int} {k : Int} : ∀ (ls : List Int) (b : Nat), (nI (few ws k b ls)).Pairwise (· ≤ ·) ∧ ∀ e ∈ few ws k b ls, b ≤ e
  | [], b => ⟨.nil, fun e h => by cases h⟩
  | l :: r, b => by
    obtain ⟨h1, h2⟩ := few_ord (ws := ws) (k := k) r (b + fit (ws.drop b) (l - k))
    unfold few
    split
    · exact ⟨.nil, fun e h => by cases h⟩
    · refine ⟨List.pairwise_cons.mpr ⟨fun x hx => ?_, h1⟩, fun e he => ?_⟩
      · obtain ⟨e, he, rfl⟩ := List.mem_map.mp hx
        have := h2 e he
        show ((b + fit (ws.drop b) (l - k) : Nat) : Int) ≤ (e : Int)
        omega
      · rcases List.mem_cons.mp he with rfl | he
        · exact Nat.le_add_right _ _
        · have := h2 e he; omega
theorem spread_ord (ws ls : List Int) (n : Int) : inOrd (nI (spreadE ws ls n)) = true := by
  refine inOrd_pw.mpr ?_
  unfold spreadE nI
  rw [List.map_append, List.pairwise_append]
  refine ⟨(few_ord ls 0).1, ?_, fun x hx y hy => ?_⟩
  · rw [List.map_replicate]
    exact List.pairwise_replicate.mpr (.inr (Int.le_refl _))
  · obtain ⟨e, he, rfl⟩ := List.mem_map.mp hx
    obtain ⟨d, hd, rfl⟩ := List.mem_map.mp hy
    have h1 := few_le ws n ls 0 (Nat.zero_le _) e he
    rw [(List.mem_replicate.mp hd).2]
    show (e : Int) ≤ (ws.length : Int)
    omega
theorem spread_last {ws ls : List Int} {n : Int} (hne : ls ≠ []) (h : stood ws n 0 ls = ws.length) : (nI (spreadE ws ls n)).getLastD 0 = (ws.length : Int) := by
  rw [show (nI (spreadE ws ls n)).getLastD 0 = (((spreadE ws ls n).getLastD 0 : Nat) : Int) from nI_last _ 0]
  congr 1
  unfold spreadE
  by_cases c : (few ws n 0 ls).length < ls.length
  · rw [List.getLastD_eq_getLast?, List.getLast?_append, show ls.length - (few ws n 0 ls).length = (ls.length - (few ws n 0 ls).length - 1) + 1 by omega, List.replicate_succ', List.getLast?_concat]
    rfl
  · rw [show ls.length - (few ws n 0 ls).length = 0 by omega, List.replicate_zero, List.append_nil]
    exact h
/-- each shelf of the first ones keeps so much free -/
theorem few_free {ws : List Int} {n : Int} : ∀ (ls : List Int) (b : Nat), (∀ l ∈ ls, n ≤ l) → ∀ i, i < ls.length → ls.getD i 0 - (((ws.drop ((b :: few ws n b ls ++ List.replicate (ls.length - (few ws n b ls).length) ws.length).getD i 0)).take ((few ws n b ls ++ List.replicate (ls.length - (few ws n b ls).length) ws.length).getD i 0 - (b :: few ws n b ls ++ List.replicate (ls.length - (few ws n b ls).length) ws.length).getD i 0))).sum ≥ n
  | [], _, _, i, hi => absurd hi (Nat.not_lt_zero _)
  | l :: r, b, hl, i, hi => by
    have hl1 := hl l List.mem_cons_self
    have hr : ∀ l ∈ r, n ≤ l := fun x hx => hl x (List.mem_cons_of_mem _ hx)
    by_cases e : b = ws.length
    · have hx := hl ((l :: r)[i]) (List.getElem_mem hi)
      rw [few_full e, List.nil_append, List.length_nil, Nat.sub_zero]
      have e1 : (List.replicate (l :: r).length ws.length).getD i 0 = ws.length := by
        rw [List.getD_eq_getElem?_getD, List.getElem?_replicate, if_pos hi]; rfl
      have e2 : (b :: [] ++ List.replicate (l :: r).length ws.length).getD i 0 = ws.length := by
        rw [e]
        show (List.replicate ((l :: r).length + 1) ws.length).getD i 0 = _
        rw [List.getD_eq_getElem?_getD, List.getElem?_replicate, if_pos (by omega)]; rfl
      rw [e1, e2, Nat.sub_self, List.take_zero, List.getD_eq_getElem?_getD, List.getElem?_eq_getElem hi]
      simp only [List.sum_nil, Option.getD_some]
      omega
    · rw [show few ws n b (l :: r) = (b + fit (ws.drop b) (l - n)) :: few ws n (b + fit (ws.drop b) (l - n)) r from if_neg e]
      cases i with
      | zero =>
        simp only [List.cons_append, List.getD_cons_zero]
        rw [Nat.add_sub_cancel_left]
        have := fit_sum (ws.drop b) (l - n) (by omega)
        omega
      | succ i =>
        have ih := few_free (ws := ws) r (b + fit (ws.drop b) (l - n)) hr i (by simpa using hi)
        simp only [List.cons_append, List.getD_cons_succ, List.length_cons, Nat.succ_sub_succ] at ih ⊢
        exact ih
theorem spread_cuts {ws ls : List Int} {n : Int} (hne : ls ≠ []) (hn : n ≤ leastI ls) (h : stood ws n 0 ls = ws.length) : cutsB ws ls n (spreadE ws ls n) = true := by
  unfold cutsB
  rw [decide_eq_true (spread_len ws ls n), spread_ord, decide_eq_true (spread_last hne h), Bool.true_and, Bool.true_and, Bool.true_and]
  refine decide_eq_true ?_
  have hf : frees ws ls (spreadE ws ls n) ≠ [] := fun e => by
    have := congrArg List.length e
    unfold frees at this
    rw [List.length_map, List.length_range] at this
    exact hne (List.eq_nil_of_length_eq_zero this)
  obtain ⟨i, hi, e⟩ := List.mem_map.mp (least_mem hf)
  have e' : _ = leastI (frees ws ls (spreadE ws ls n)) := e
  rw [← e']
  exact few_free ls 0 (fun l hl => Int.le_trans hn (least_le l hl)) i (List.mem_range.mp hi)
theorem nI_inj {es ds : List Nat} (h : nI es = nI ds) : es = ds := (List.map_inj_right fun a b h => Int.ofNat.inj h).mp h
/-- nondecreasing whole numbers from s on, m at the most -/
def ordV (m : Int) : Int → List V → Bool
  | _, [] => true
  | s, x :: r => match x with
    | .int i => decide (s ≤ i) && decide (i ≤ m) && ordV m i r
    | _ => false
def arB (H : Hp) (v : V) (m : Int) : Bool := match v with
  | .ref p => match H p with
    | some (.lst xs) => ordV m 0 xs
    | _ => false
  | _ => false
theorem arB_lst {H : Hp} {p : Addr} {xs : List V} {m : Int} (h : H p = some (.lst xs)) : arB H (.ref p) m = ordV m 0 xs := by simp only [arB, h]
theorem ordV_whole {m : Int} : ∀ {xs : List V} {s : Int}, 0 ≤ s → ordV m s xs = true → xs.all (fun x => whole x 0 m) = true
  | [], _, _, _ => rfl
  | x :: r, s, h0, h => by
    cases x with
    | int i =>
      simp only [ordV, Bool.and_eq_true, decide_eq_true_eq] at h
      rw [List.all_cons, ordV_whole (s := i) (by omega) h.2, Bool.and_true]
      simp [whole]; omega
    | _ => simp only [ordV] at h; cases h
theorem ordV_iV {m : Int} : ∀ {ns : List Int} {s : Int}, (∀ n ∈ ns, n ≤ m) → ordV m s (iV ns) = (decide (∀ n ∈ ns.head?, s ≤ n) && inOrd ns)
  | [], _, _ => by simp [ordV, inOrd]
  | [x], s, h => by
    have := h x List.mem_cons_self
    simp [ordV, inOrd, this]
  | x :: y :: r, s, h => by
    have ih := ordV_iV (m := m) (ns := y :: r) (s := x) fun n hn => h n (List.mem_cons_of_mem _ hn)
    have := h x List.mem_cons_self
    show (decide (s ≤ x) && decide (x ≤ m) && ordV m x (iV (y :: r))) = _
    rw [ih, decide_eq_true this]
    simp [inOrd]
def natsOf (xs : List V) : List Nat := xs.map fun | .int i => i.toNat | _ => 0
theorem natsOf_nV (es : List Nat) : natsOf (nV es) = es := by
  unfold natsOf nV iV nI
  rw [List.map_map, List.map_map]
  exact (List.map_congr_left fun x _ => rfl).trans (List.map_id es)
def endsOf (H : Hp) (v : V) : List Nat := match v with
  | .ref p => match H p with
    | some (.lst xs) => natsOf xs
    | _ => []
  | _ => []
/-- do these show how far things spread? -/
def moreB (H : Hp) (ws ls : List Int) (n : Int) (w : V) : Bool := if n = leastI ls then vNon w else (endsB H w (few ws (n + 1) 0 ls) && decide (stood ws (n + 1) 0 ls ≠ ws.length))
def shownB (H : Hp) (ws ls : List Int) (f v w : V) : Bool := match f with
  | .int n => decide (0 ≤ n ∧ n ≤ leastI ls) && (wholesB H v (ws.length : Int) && cutsB ws ls n (endsOf H v)) && moreB H ws ls n w
  | _ => false
/-- a free length, ends, and what stands for one more -/
structure T3 (H0 H : Hp) (p q : Addr) (m : V) (n : Int) (es : List Nat) (W : Nat) : Prop where
  np : H0 p = none
  nq : H0 q = none
  hp : H p = some (.lst [.int n, .ref q, m])
  hq : H q = some (.lst (nV es))
  lq : es.length ≤ 40
  bq : ∀ e ∈ es, e ≤ W
  hm : m = .non ∨ ∃ r ds, m = .ref r ∧ H0 r = none ∧ H r = some (.lst (nV ds)) ∧ ds.length ≤ 40 ∧ ∀ e ∈ ds, e ≤ W
theorem T3.ex {H0 H H' : Hp} {p q : Addr} {m : V} {n : Int} {es : List Nat} {W : Nat} (h : T3 H0 H p q m n es W) (e : Ex H H') : T3 H0 H' p q m n es W :=
  ⟨h.np, h.nq, e _ _ h.hp, e _ _ h.hq, h.lq, h.bq, h.hm.imp id fun ⟨r, ds, a, b, c, d⟩ => ⟨r, ds, a, b, e _ _ c, d⟩⟩
theorem T3.fb {H0 H H' : Hp} {p q b : Addr} {m : V} {n : Int} {es : List Nat} {W : Nat} {o : HO} (h : T3 H0 H p q m n es W) (e : Fb b H H') (hb : H0 b = some o) : T3 H0 H' p q m n es W := by
  have ne : ∀ {a : Addr}, H0 a = none → a ≠ b := fun ha z => by rw [z, hb] at ha; cases ha
  exact ⟨h.np, h.nq, e _ _ h.hp (ne h.np), e _ _ h.hq (ne h.nq), h.lq, h.bq, h.hm.imp id fun ⟨r, ds, a, b, c, d⟩ => ⟨r, ds, a, b, e _ _ c (ne b), d⟩⟩
theorem nV_ok {es : List Nat} {W : Nat} (b : ∀ e ∈ es, e ≤ W) (hW : W ≤ 60) : ∀ n ∈ nI es, -1 ≤ n ∧ n < 1000000 := fun n hn => by have := nI_small b (by omega) n hn; omega
theorem Dat.nats {K : PySem.W.Frag} {H : Hp} {q : Addr} {es : List Nat} {W : Nat} (h : H q = some (.lst (nV es))) (l : es.length ≤ 100) (b : ∀ e ∈ es, e ≤ W) (hW : W ≤ 60) : Dat K H (.ref q) := .ints h (nV_ok b hW) (by rw [List.length_map]; exact l)
theorem T3.dq {K : PySem.W.Frag} {H0 H : Hp} {p q : Addr} {m : V} {n : Int} {es : List Nat} {W : Nat} (h : T3 H0 H p q m n es W) (hW : W ≤ 60) : Dat K H (.ref q) := .nats h.hq (by have := h.lq; omega) h.bq hW
theorem T3.dm {K : PySem.W.Frag} {H0 H : Hp} {p q : Addr} {m : V} {n : Int} {es : List Nat} {W : Nat} (h : T3 H0 H p q m n es W) (hW : W ≤ 60) : Dat K H m := by
  rcases h.hm with rfl | ⟨r, ds, rfl, _, hr, l, b⟩
  · exact .non
  · exact .nats hr (by omega) b hW
theorem pair_shaped {s : Str} (h : PyData.strOk s = true) (ns : List Int) : SeqAt.shaped (.tuple [.str s, .list (ns.map PyData.int)]) = true := by
  obtain ⟨a, b⟩ := shaped_all ns
  simp only [SeqAt.shaped, PyData.canLay0, PyData.canLayAll0, PyData.depth, PyData.depthAll, a, b, h, Bool.and_self, Bool.true_and]
  exact decide_eq_true (by decide)
theorem pair_eqv {s t : Str} (ns ms : List Int) : PyData.eqv (.tuple [.str s, .list (ns.map PyData.int)]) (.tuple [.str t, .list (ms.map PyData.int)]) = (decide (s = t) && decide (ns = ms)) := by
  simp only [PyData.eqv, PyData.eqvAll, eqv_ints, Bool.and_true]
  congr 1
theorem endsOf_ex {K : PySem.W.Frag} {H H' : Hp} {v : V} (h : Thing K H v) (e : Ex H H') : endsOf H' v = endsOf H v := by
  cases v with
  | ref p =>
    obtain ⟨o, ho⟩ := thing_at h
    simp only [endsOf, ho, e _ _ ho]
  | _ => rfl
theorem shownB_ex {K : PySem.W.Frag} {H H' : Hp} {ws ls : List Int} {f v w : V} (hv : Thing K H v) (hw : Thing K H w) (e : Ex H H') : shownB H' ws ls f v w = shownB H ws ls f v w := by
  unfold shownB moreB
  cases f with
  | int n => simp only [wholesB_ex hv e, endsOf_ex hv e, endsB_ex hw e]
  | _ => rfl
theorem un65 {k : Nat} {A : Around} (r : Room k A) : A.units + 65 < cLine := by have := r.un; omega
theorem op_inDB {X : Cx} (K : PySem.W.Frag) (h : X.K = K) (hu : X.A.units + 65 < cLine) : OpR X (compareOp .In) (rInD K) := h ▸ op_inD hu
theorem op_notInDB {X : Cx} (K : PySem.W.Frag) (h : X.K = K) (hu : X.A.units + 65 < cLine) : OpR X (compareOp .NotIn) (rNotInD K) := h ▸ op_notInD hu
/-! # All cuttings -/
def Rng2K (g : TG) (tt : TT) (te : TE) (vs : List Nat) (σ : L2.St) (Q : VK) : List V → Hp → Prop := fun us H => tLc (iRng2 (fun _ H Q' => Q' us H)) g tt te vs σ H Q
theorem q_lcR2 {ta : TA} {g : TG} {tt : TT} {te : TE} {vs : List Nat} {σ : L2.St} {H : Hp} {Q : VK} (k : ta σ H (Rng2K g tt te vs σ Q)) : tLc (iRng2 ta) g tt te vs σ H Q := k
theorem q_lcR2I {g : TG} {tt : TT} {te : TE} {vs : List Nat} {σ : L2.St} {H : Hp} {Q : VK} {X : Addr → Prop} {M N : Int} (I : Addr → Nat → List V → Hp → Prop) (hM : 0 ≤ M ∧ M ≤ 100000) (hN : 0 ≤ N ∧ N ≤ 100000) (hz : (N - M).toNat ≤ 100000) (hI : KeepI I) (hX : ∀ D, H D = none → ¬ X D) (h0 : ∀ D, H D = none → I D 0 [] (upd H D (.lst [])))
    (he : ∀ D, H D = none → TurnI X (N - M).toNat (YFn fun i => .int (M + i)) g tt te vs σ H D (I D)) (k : ∀ p H' ys, H p = none → H' p = some (.lst ys) → ys.length ≤ (N - M).toNat → I p (N - M).toNat ys H' → FX X H H' → Q (.ref p) H') : Rng2K g tt te vs σ Q [.int M, .int N] H :=
  ⟨M, N, rfl, by omega, fun D hD => lc_I walk_range hz (I D) (hI D) hD (hX D hD) (fun _ _ => trivial) (h0 D hD) (he D hD) fun H' ys e h l i => k D H' ys hD h l i e⟩
def begun (row : List Nat) : Nat := row.getLastD 0
def cutStep (many : Nat) (row : List Nat) : List (List Nat) := (List.range (many + 1 - begun row)).map fun i => row ++ [begun row + i]
def cutsN (many : Nat) : Nat → List (List Nat)
  | 0 => [[]]
  | s + 1 => (cutsN many s).flatMap (cutStep many)
theorem cutsN_all : ∀ m : Fin 7, ∀ s : Fin 5, (cutsN m.val s.val).length ≤ 210 := by decide +kernel
theorem cutsN_len {m s : Nat} (hm : m ≤ 6) (hs : s ≤ 4) : (cutsN m s).length ≤ 210 := cutsN_all ⟨m, by omega⟩ ⟨s, by omega⟩
theorem pw_snoc {row : List Nat} {e : Nat} : (row ++ [e]).Pairwise (· ≤ ·) ↔ row.Pairwise (· ≤ ·) ∧ ∀ x ∈ row, x ≤ e := by
  rw [List.pairwise_append]
  simp
theorem last_mem {row : List Nat} (h : row ≠ []) : begun row ∈ row := by
  unfold begun
  rw [List.getLastD_eq_getLast?, List.getLast?_eq_some_getLast h]
  exact List.getLast_mem h
theorem last_ge {row : List Nat} (h : row.Pairwise (· ≤ ·)) : ∀ x ∈ row, x ≤ begun row := by
  intro x hx
  have hne := List.ne_nil_of_mem hx
  have e : row = row.dropLast ++ [row.getLast hne] := (List.dropLast_concat_getLast hne).symm
  have eb : begun row = row.getLast hne := by
    unfold begun
    rw [List.getLastD_eq_getLast?, List.getLast?_eq_some_getLast hne]; rfl
  rw [eb]
  rw [e] at h hx
  rcases List.mem_append.mp hx with z | z
  · exact (pw_snoc.mp h).2 x z
  · have : x = row.getLast hne := by simpa using z
    omega
theorem cutsN_mem {many : Nat} : ∀ {s : Nat} {row : List Nat}, row ∈ cutsN many s ↔ row.length = s ∧ row.Pairwise (· ≤ ·) ∧ ∀ e ∈ row, e ≤ many
  | 0, row => by
    unfold cutsN
    rw [List.mem_singleton]
    constructor
    · rintro rfl; exact ⟨rfl, .nil, fun e h => by cases h⟩
    · rintro ⟨h, _⟩; exact List.eq_nil_of_length_eq_zero h
  | s + 1, row => by
    unfold cutsN
    rw [List.mem_flatMap]
    constructor
    · rintro ⟨r, hr, hm⟩
      obtain ⟨h1, h2, h3⟩ := cutsN_mem.mp hr
      obtain ⟨i, hi, rfl⟩ := List.mem_map.mp hm
      have hi' := List.mem_range.mp hi
      refine ⟨by rw [List.length_append, h1]; rfl, pw_snoc.mpr ⟨h2, fun x hx => ?_⟩, fun e he => ?_⟩
      · have := last_ge h2 x hx; omega
      · rcases List.mem_append.mp he with z | z
        · exact h3 e z
        · rw [List.mem_singleton.mp z]; omega
    · rintro ⟨h1, h2, h3⟩
      have hne : row ≠ [] := fun z => by rw [z] at h1; cases h1
      have e : row = row.dropLast ++ [row.getLast hne] := (List.dropLast_concat_getLast hne).symm
      generalize row.dropLast = r at e
      generalize row.getLast hne = x at e
      subst e
      obtain ⟨p1, p2⟩ := pw_snoc.mp h2
      have hx : begun r ≤ x ∧ x ≤ many := by
        refine ⟨?_, h3 x (by simp)⟩
        by_cases c : r = []
        · subst c; exact Nat.zero_le _
        · exact p2 _ (last_mem c)
      refine ⟨r, cutsN_mem.mpr ⟨by simpa using h1, p1, fun e he => h3 e (List.mem_append_left _ he)⟩, List.mem_map.mpr ⟨x - begun r, List.mem_range.mpr (by omega), by rw [show begun r + (x - begun r) = x by omega]⟩⟩
/-- what is free on each shelf on which things stand -/
def freeV (ws ls : List Int) (es : List Nat) : List V := (List.range ls.length).map fun i => if endAt es i > begAt es i then .int (ls.getD i 0 - (partAt ws es i).sum) else .non
def fitsB (ws ls : List Int) (keep : Int) (es : List Nat) : Bool := (List.range ls.length).all fun i => !(decide (endAt es i > begAt es i) && decide (ls.getD i 0 - (partAt ws es i).sum < keep))
theorem beg_le {es : List Nat} (h : es.Pairwise (· ≤ ·)) {i : Nat} (hi : i < es.length) : begAt es i ≤ endAt es i := by
  unfold begAt endAt
  cases i with
  | zero => exact Nat.zero_le _
  | succ j =>
    rw [List.getD_cons_succ, List.getD_eq_getElem?_getD, List.getD_eq_getElem?_getD, List.getElem?_eq_getElem (by omega), List.getElem?_eq_getElem hi]
    exact List.pairwise_iff_getElem.mp h j (j + 1) (by omega) hi (by omega)
/-! ## no cutting does better -/
theorem fit_ge : ∀ (xs : List Int) (j : Nat) (r : Int), (∀ x ∈ xs, 0 < x) → j ≤ xs.length → (xs.take j).sum ≤ r → j ≤ fit xs r
  | _, 0, _, _, _, _ => Nat.zero_le _
  | [], j + 1, _, _, h, _ => by simp at h
  | w :: t, j + 1, r, hp, hj, hs => by
    have ht : ∀ x ∈ t, 0 < x := fun x hx => hp x (List.mem_cons_of_mem _ hx)
    rw [List.take_succ_cons, List.sum_cons] at hs
    have h0 := sum_pos (ns := t.take j) fun x hx => ht x (List.mem_of_mem_take hx)
    rw [show fit (w :: t) r = _ from if_neg (show ¬ w > r by omega)]
    exact Nat.succ_le_succ (fit_ge t j (r - w) ht (by simpa using hj) (by omega))
/-- the ends of the fewest first shelves, from b on, and behind them all things -/
abbrev filled (ws : List Int) (k : Int) (b : Nat) (ls : List Int) : List Nat := few ws k b ls ++ List.replicate (ls.length - (few ws k b ls).length) ws.length
theorem filled_full {ws : List Int} {k : Int} {b : Nat} (h : b = ws.length) (ls : List Int) : filled ws k b ls = List.replicate ls.length ws.length := by
  show few ws k b ls ++ _ = _
  rw [few_full h, List.nil_append, List.length_nil, Nat.sub_zero]
theorem filled_cons {ws : List Int} {k : Int} {b : Nat} (h : b ≠ ws.length) (l : Int) (r : List Int) : filled ws k b (l :: r) = (b + fit (ws.drop b) (l - k)) :: filled ws k (b + fit (ws.drop b) (l - k)) r := by
  show few ws k b (l :: r) ++ _ = _
  rw [show few ws k b (l :: r) = _ from if_neg h, List.cons_append]
  simp only [List.length_cons, Nat.succ_sub_succ]
theorem few_fits {ws : List Int} (hp : ∀ w ∈ ws, 0 < w) {k : Int} : ∀ (ls : List Int) (b : Nat), b ≤ ws.length → ∀ i, i < ls.length → (filled ws k b ls).getD i 0 ≤ (b :: filled ws k b ls).getD i 0 ∨ ((ws.drop ((b :: filled ws k b ls).getD i 0)).take ((filled ws k b ls).getD i 0 - (b :: filled ws k b ls).getD i 0)).sum ≤ ls.getD i 0 - k
  | [], _, _, i, hi => absurd hi (Nat.not_lt_zero _)
  | l :: r, b, hb, i, hi => by
    by_cases e : b = ws.length
    · left
      rw [filled_full e]
      have e1 : (List.replicate (l :: r).length ws.length).getD i 0 = ws.length := by
        rw [List.getD_eq_getElem?_getD, List.getElem?_replicate, if_pos hi]; rfl
      have e2 : (b :: List.replicate (l :: r).length ws.length).getD i 0 = ws.length := by
        rw [e]
        show (List.replicate ((l :: r).length + 1) ws.length).getD i 0 = _
        rw [List.getD_eq_getElem?_getD, List.getElem?_replicate, if_pos (by omega)]; rfl
      rw [e1, e2]; exact Nat.le_refl _
    · rw [filled_cons e]
      have hf := fit_le (ws.drop b) (l - k)
      rw [List.length_drop] at hf
      cases i with
      | zero =>
        simp only [List.getD_cons_zero, Nat.add_sub_cancel_left]
        by_cases z : fit (ws.drop b) (l - k) = 0
        · left; omega
        · right
          refine fit_sum _ _ ?_
          cases h : ws.drop b with
          | nil => rw [h] at z; exact absurd rfl z
          | cons w t =>
            rw [h] at z
            have hw := hp w (List.mem_of_mem_drop (h ▸ List.mem_cons_self : w ∈ ws.drop b))
            by_cases c : w > l - k
            · rw [show fit (w :: t) (l - k) = 0 from if_pos c] at z; exact absurd rfl z
            · omega
      | succ i =>
        have ih := few_fits hp (k := k) r (b + fit (ws.drop b) (l - k)) (by omega) i (by simpa using hi)
        simp only [List.getD_cons_succ] at ih ⊢
        exact ih
theorem filled_best {ws : List Int} (hp : ∀ w ∈ ws, 0 < w) {k : Int} : ∀ (ls : List Int) (b c : Nat) (es : List Nat), b ≤ c → c ≤ ws.length → es.length = ls.length → (b :: es).Pairwise (· ≤ ·) → (∀ e ∈ es, e ≤ ws.length) →
    (∀ i, i < ls.length → es.getD i 0 ≤ (b :: es).getD i 0 ∨ ((ws.drop ((b :: es).getD i 0)).take (es.getD i 0 - (b :: es).getD i 0)).sum ≤ ls.getD i 0 - k) → ∀ i, i < ls.length → es.getD i 0 ≤ (filled ws k c ls).getD i 0
  | [], _, _, _, _, _, _, _, _, _, i, hi => absurd hi (Nat.not_lt_zero _)
  | l :: r, b, c, [], _, _, he, _, _, _, _, _ => by cases he
  | l :: r, b, c, e :: es, hbc, hc, he, hpw, hle, hf, i, hi => by
    by_cases ec : c = ws.length
    · rw [filled_full ec]
      have e1 : (List.replicate (l :: r).length ws.length).getD i 0 = ws.length := by
        rw [List.getD_eq_getElem?_getD, List.getElem?_replicate, if_pos hi]; rfl
      rw [e1, List.getD_eq_getElem?_getD, List.getElem?_eq_getElem (by omega)]
      exact hle _ (List.getElem_mem _)
    · rw [filled_cons ec]
      obtain ⟨hb1, hpw2⟩ := List.pairwise_cons.mp hpw
      have hbe := hb1 e List.mem_cons_self
      have hew := hle e List.mem_cons_self
      have hfl := fit_le (ws.drop c) (l - k)
      rw [List.length_drop] at hfl
      have first : e ≤ c + fit (ws.drop c) (l - k) := by
        have h0 := hf 0 (Nat.succ_pos _)
        simp only [List.getD_cons_zero] at h0
        rcases h0 with h0 | h0
        · omega
        · have h1 := fit_ge (ws.drop b) (e - b) (l - k) (fun x hx => hp x (List.mem_of_mem_drop hx)) (by rw [List.length_drop]; omega) h0
          have h2 := fit_ahead hp (r := l - k) (s := l - k) (Int.le_refl _) (c - b) b
          rw [show b + (c - b) = c by omega] at h2
          omega
      cases i with
      | zero => simpa using first
      | succ i =>
        have ih := filled_best hp r e (c + fit (ws.drop c) (l - k)) es first (by omega) (by simpa using he) hpw2 (fun x hx => hle x (List.mem_cons_of_mem _ hx)) (fun j hj => by
          have := hf (j + 1) (by simpa using hj)
          simpa using this) i (by simpa using hi)
        simpa using ih
theorem few_long {ws : List Int} {k : Int} : ∀ (ls : List Int) (b : Nat), stood ws k b ls ≠ ws.length → (few ws k b ls).length = ls.length
  | [], _, _ => rfl
  | l :: r, b, h => by
    by_cases e : b = ws.length
    · rw [stood_full e] at h; exact absurd e h
    · rw [stood_cons e] at h
      rw [show few ws k b (l :: r) = _ from if_neg e, List.length_cons, few_long r _ h, List.length_cons]
theorem few_before {ws : List Int} {k : Int} : ∀ (ls : List Int) (b : Nat), ∀ e ∈ (few ws k b ls).dropLast, e ≠ ws.length
  | [], _, e, h => by cases h
  | l :: r, b, e, h => by
    by_cases c : b = ws.length
    · rw [few_full c] at h; cases h
    · rw [show few ws k b (l :: r) = _ from if_neg c] at h
      cases hr : few ws k (b + fit (ws.drop b) (l - k)) r with
      | nil => rw [hr] at h; cases h
      | cons x t =>
        rw [hr, List.dropLast_cons_cons] at h
        rcases List.mem_cons.mp h with rfl | h
        · intro z
          rw [few_full z] at hr
          cases hr
        · exact few_before r _ e (by rw [hr]; exact h)
theorem nat_pw {es : List Nat} (h : (nI es).Pairwise (· ≤ ·)) : es.Pairwise (· ≤ ·) := by
  rw [List.pairwise_map] at h
  exact h.imp fun {a b} z => by
    have : (a : Int) ≤ (b : Int) := z
    omega
theorem spread_pw (ws ls : List Int) (n : Int) : (spreadE ws ls n).Pairwise (· ≤ ·) := nat_pw (inOrd_pw.mp (spread_ord ws ls n))
theorem spread_in (ws ls : List Int) (n : Int) : spreadE ws ls n ∈ cutsN ws.length ls.length := cutsN_mem.mpr ⟨spread_len ws ls n, spread_pw ws ls n, spread_le ws ls n⟩
theorem fits_iff {ws ls : List Int} {k : Int} {es : List Nat} : fitsB ws ls k es = true ↔ ∀ i, i < ls.length → endAt es i ≤ begAt es i ∨ (partAt ws es i).sum ≤ ls.getD i 0 - k := by
  unfold fitsB
  rw [List.all_eq_true]
  constructor
  · intro h i hi
    have z := h i (List.mem_range.mpr hi)
    by_cases c : endAt es i > begAt es i
    · right
      by_cases d : (partAt ws es i).sum + k > ls.getD i 0
      · have d' : ls.getD i 0 - (partAt ws es i).sum < k := by omega
        simp only [c, d', decide_true, Bool.and_self, Bool.not_true] at z
        cases z
      · omega
    · left; omega
  · intro h i hi
    by_cases c : endAt es i > begAt es i
    · have d : ¬ ls.getD i 0 - (partAt ws es i).sum < k := by
        rcases h i (List.mem_range.mp hi) with z | z <;> omega
      simp only [c, d, decide_true, decide_false, Bool.and_false, Bool.not_false]
    · simp only [c, decide_false, Bool.false_and, Bool.not_false]
theorem spread_fits {ws ls : List Int} (hp : ∀ w ∈ ws, 0 < w) (k : Int) : fitsB ws ls k (spreadE ws ls k) = true := fits_iff.mpr (few_fits hp ls 0 (Nat.zero_le _))
theorem best {ws ls : List Int} (hp : ∀ w ∈ ws, 0 < w) {k : Int} {es : List Nat} (h : es ∈ cutsN ws.length ls.length) (hf : fitsB ws ls k es = true) : ∀ i, i < ls.length → endAt es i ≤ endAt (spreadE ws ls k) i := by
  obtain ⟨h1, h2, h3⟩ := cutsN_mem.mp h
  exact filled_best hp ls 0 0 es (Nat.le_refl _) (Nat.zero_le _) h1 (List.pairwise_cons.mpr ⟨fun _ _ => Nat.zero_le _, h2⟩) h3 (fits_iff.mp hf)
theorem begun_at {es : List Nat} {n : Nat} (h : es.length = n + 1) : begun es = endAt es n := by
  unfold begun endAt
  rw [List.getLastD_eq_getLast?, List.getLast?_eq_getElem?, List.getD_eq_getElem?_getD, h, Nat.add_sub_cancel]
theorem spread_begun {ws ls : List Int} {k : Int} (hne : ls ≠ []) : begun (spreadE ws ls k) = stood ws k 0 ls := by
  by_cases c : stood ws k 0 ls = ws.length
  · have := spread_last hne c
    rw [show (nI (spreadE ws ls k)).getLastD 0 = (((spreadE ws ls k).getLastD 0 : Nat) : Int) from nI_last _ 0] at this
    unfold begun
    omega
  · unfold begun spreadE
    rw [few_long ls 0 c, Nat.sub_self, List.replicate_zero, List.append_nil]; rfl
theorem best_last {ws ls : List Int} (hp : ∀ w ∈ ws, 0 < w) (hne : ls ≠ []) {k : Int} {es : List Nat} (h : es ∈ cutsN ws.length ls.length) (hf : fitsB ws ls k es = true) : begun es ≤ stood ws k 0 ls := by
  have hl := List.length_pos_iff.mpr hne
  have h1 := (cutsN_mem.mp h).1
  rw [← spread_begun hne, begun_at (n := ls.length - 1) (by omega), begun_at (n := ls.length - 1) (by rw [spread_len]; omega)]
  exact best hp h hf _ (by omega)
theorem fits_less {ws ls : List Int} {k m : Int} {es : List Nat} (h : m ≤ k) (hf : fitsB ws ls k es = true) : fitsB ws ls m es = true := fits_iff.mpr fun i hi => (fits_iff.mp hf i hi).imp id fun z => by omega
theorem frees_len (ws ls : List Int) (es : List Nat) : (frees ws ls es).length = ls.length := by unfold frees; rw [List.length_map, List.length_range]
theorem frees_ne {ws ls : List Int} {es : List Nat} (hne : ls ≠ []) : frees ws ls es ≠ [] := fun e => by
  have := frees_len ws ls es
  rw [e] at this
  exact hne (List.eq_nil_of_length_eq_zero this.symm)
theorem frees_fit {ws ls : List Int} {es : List Nat} : fitsB ws ls (leastI (frees ws ls es)) es = true := fits_iff.mpr fun i hi => by
  right
  have hm : ls.getD i 0 - (partAt ws es i).sum ∈ frees ws ls es := List.mem_map.mpr ⟨i, List.mem_range.mpr hi, rfl⟩
  have := least_le _ hm
  omega
theorem frees_least {ws ls : List Int} (hp : ∀ w ∈ ws, 0 < w) (hne : ls ≠ []) {es : List Nat} : leastI (frees ws ls es) ≤ leastI ls := by
  obtain ⟨i, hi, e⟩ := List.getElem_of_mem (least_mem hne)
  have hm : ls.getD i 0 - (partAt ws es i).sum ∈ frees ws ls es := List.mem_map.mpr ⟨i, List.mem_range.mpr hi, rfl⟩
  have h1 := least_le _ hm
  have h2 := sum_pos (ns := partAt ws es i) fun x hx => hp x (List.mem_of_mem_drop (List.mem_of_mem_take hx))
  rw [List.getD_eq_getElem?_getD, List.getElem?_eq_getElem hi, Option.getD_some, e] at h1
  omega
/-- of all cuttings that have all things none has more free than the told one -/
theorem most_free {ws ls : List Int} (hp : ∀ w ∈ ws, 0 < w) (hne : ls ≠ []) {n : Int} (n1 : n ≤ leastI ls) (sn : stood ws n 0 ls = ws.length) (sx : n = leastI ls ∨ stood ws (n + 1) 0 ls ≠ ws.length) {es : List Nat} (h : es ∈ cutsN ws.length ls.length) (hb : begun es = ws.length) : leastI (frees ws ls es) ≤ n := by
  have a := best_last hp hne h (frees_fit (ws := ws) (ls := ls) (es := es))
  have b := frees_least hp hne (es := es) (ws := ws) (ls := ls)
  rcases sx with sx | sx
  · omega
  · by_cases c : leastI (frees ws ls es) ≤ n
    · exact c
    · have d := stood_mono hp (k := leastI (frees ws ls es)) (m := n + 1) (by omega) ls 0 0 (Nat.le_refl _) (Nat.zero_le _)
      have e := stood_le ws (n + 1) ls 0 (Nat.zero_le _)
      omega
theorem told_free {ws ls : List Int} (hp : ∀ w ∈ ws, 0 < w) (hne : ls ≠ []) {n : Int} (n1 : n ≤ leastI ls) (sn : stood ws n 0 ls = ws.length) (sx : n = leastI ls ∨ stood ws (n + 1) 0 ls ≠ ws.length) : leastI (frees ws ls (spreadE ws ls n)) = n := by
  have a := most_free hp hne n1 sn sx (spread_in ws ls n) (by rw [spread_begun hne, sn])
  have b := spread_cuts hne n1 sn
  unfold cutsB at b
  have c := of_decide_eq_true ((Bool.and_eq_true _ _).mp b).2
  omega
theorem rows_any (cs : List (List Int)) (es : List Int) : ((cs.map fun c => PyData.list (c.map PyData.int)).any fun z => PyData.eqv z (.list (es.map PyData.int))) = decide (es ∈ cs) := by
  induction cs with
  | nil => simp
  | cons c cs ih =>
    rw [List.map_cons, List.any_cons, ih]
    simp only [PyData.eqv, eqv_ints, List.mem_cons]
    by_cases h : c = es
    · subst h; simp
    · have : ¬ es = c := fun e => h e.symm
      simp [h, this]
theorem q_notInRows {K : PySem.W.Frag} {H : Hp} {Q : VK} {p g : Addr} {es : List Nat} {ys : List V} {ds : List (List Nat)} (hp : H p = some (.lst (nV es))) (hg : H g = some (.lst ys)) (hr : All2 (fun y d => ∃ q, y = V.ref q ∧ H q = some (.lst (nV d))) ys ds) (k : Q (.bl (!decide (es ∈ ds))) H) : rNotInD K (.ref p) (.ref g) H Q := by
  refine ⟨.list ((nI es).map PyData.int), (ds.map nI).map (fun c : List Int => PyData.list (c.map PyData.int)), .lst (SqL.of hp) (dp_ints _), .lst (SqL.of hg) (rows_dp (All2.map nI (fun _ _ h => h) hr)), shaped_ints _, rows_shaped (ds.map nI), ?_⟩
  rw [rows_any, show decide (nI es ∈ ds.map nI) = decide (es ∈ ds) from decide_eq_decide.mpr ⟨fun h => by
    obtain ⟨d, hd, e⟩ := List.mem_map.mp h
    rw [← nI_inj e]; exact hd, fun h => List.mem_map.mpr ⟨es, h, rfl⟩⟩]
  exact k
/-- each item of a told list carries what it tells -/
theorem All2.both {α β : Type} {R : α → β → Prop} {xs : List α} {ys : List β} (h : All2 R xs ys) : All2 (fun x y => y ∈ ys ∧ R x y) xs ys := All2.of h.len fun i x y hx hy => by
  obtain ⟨z, hz, r⟩ := h.at hx
  rw [hy] at hz
  cases hz
  exact ⟨List.mem_of_getElem? hy, r⟩
theorem All2.eqMap {α β : Type} {f : β → α} : ∀ {ys : List α} {ds : List β}, All2 (fun y d => y = f d) ys ds → ys = ds.map f
  | _, _, .nil => rfl
  | _, _, .cons h t => by rw [List.map_cons, ← All2.eqMap t, h]
theorem filter_yes {α : Type} (xs : List α) : xs.filter (fun _ => true) = xs := List.filter_eq_self.mpr fun _ _ => rfl

/-! # enumerate of a list or a tuple -/
section
set_option maxHeartbeats 4000000 in
theorem meets_enum1 {u : Value} {ob : Obj} {HH : Heap → Prop} (B : Begins u ob HH) :
    Meets (Builtin.«enumerate.__new__» ⟨[.type "enumerate", u], []⟩) (fun _ R st => HH st.heap ∧
      R (.ok (.ret (.ref (st.heap.push ob).objs.size))) { st with heap := (st.heap.push ob).push { cls := .type "enumerate", data := .fields #[.none, .bool false, .ref st.heap.objs.size, rawInt 0, .none, .none] } }) :=
  .of_wp fun prog w A R st hst => by
    obtain ⟨hp, g, d, tk, os⟩ := st
    obtain ⟨h1, hR⟩ := hst
    have hsub := sub_enumerate
    have qi : ∀ {A2 : Around} {E2 : Value → Shared → Prop} {Q2 : Value → Shared → Prop}, Q2 (.ref hp.objs.size) ⟨hp.push ob, g, d, tk, os⟩ → wpAny (model prog w) A2 (pyIter u) Q2 E2 ⟨hp, g, d, tk, os⟩ :=
      fun q => B.iter prog w _ _ ⟨hp, g, d, tk, os⟩ _ h1 q
    wp_walk using qi
    refine wpAny_stack_any fun sk => wpAny_pure ?_
    split
    · rename_i cc _ _ _ _ _
      cases (cc == Value.type "enumerate") <;> (wp_walk using qi; exact ⟨_, rfl, hR⟩)
    · wp_walk using qi
      exact ⟨_, rfl, hR⟩
theorem enum_begins1 {prog : Program} {w : World} {A : Around} {E : Value → Shared → Prop} {s : Shared} {u : Value} {ob : Obj} {HH : Heap → Prop} {Q : Value → Shared → Prop} (B : Begins u ob HH) (h1 : HH s.heap)
    (k : ∀ h2, IsEnum h2 (s.heap.objs.size + 1) s.heap.objs.size 0 .none → h2.get? s.heap.objs.size = some ob → (∀ b o, s.heap.get? b = some o → h2.get? b = some o) → Q (.ref (s.heap.objs.size + 1)) { s with heap := h2 }) :
    wpAny (model prog w) A (call (.type "enumerate") [u]) Q E s := by
  refine callType_new F.called_enumerate (by decide) (F.typeCall_enumerate_1 _) (F.newCall_enumerate_1 _) (fun x => F.args_object_init_2 x _) F.entry_enumerate_new (meets_enum1 B) ⟨h1, ?_⟩
  have sz : (s.heap.push ob).objs.size = s.heap.objs.size + 1 := Heap.size_push ..
  have ge : ((s.heap.push ob).push { cls := .type "enumerate", data := .fields #[.none, .bool false, .ref s.heap.objs.size, rawInt 0, .none, .none] }).get? (s.heap.objs.size + 1) = some { cls := .type "enumerate", data := .fields #[.none, .bool false, .ref s.heap.objs.size, rawInt 0, .none, .none] } := by
    rw [← sz]; exact Heap.get?_push_size _ rfl
  show _ ∧ _
  rw [sz]
  exact ⟨⟨_, ge, rfl⟩, k _ ge (Heap.get?_push_of_some _ (Heap.get?_push_size _ B.free)) fun b o x => Heap.get?_push_of_some _ (Heap.get?_push_of_some _ x)⟩
def IteB (K : PySem.W.Frag) (k : Bool) (a : Addr) : It :=
  ⟨fun i H => ∃ xs : List V, SeqB k K H a xs ∧ i < xs.length, fun i H v H' => ∃ T x, v = .ref T ∧ H T = none ∧ H' = upd H T (.tup [.int (i : Nat), x]) ∧ ∀ xs, SeqB k K H a xs → xs[i]? = some x, fun i H => ∃ xs : List V, SeqB k K H a xs ∧ xs.length = i⟩
theorem turn_enumB {P : Program} {w : World} {K : PySem.W.Frag} {elts : List Expr} {kk : Nat} {tpos : Pos} {k : Bool} {a e it : Addr} (na : a ≠ it) (hei : e ≠ it) (hea : e ≠ a) :
    Turn P w K (.Tuple elts kk tpos) (IteB K k a) [e, it] e (fun i h => (∃ old, IsEnum h e it (0 + (i : Int)) old) ∧ IterB k h it a i) where
  mem := by simp
  obj := fun i h st b hb => by
    obtain ⟨⟨old, he⟩, h1⟩ := st
    have e' : b = e ∨ b = it := by simpa using hb
    rcases e' with q | q <;> rw [q]
    · exact ⟨_, he, fun v q => nomatch q⟩
    · exact iterB_obj h1
  keep := fun i h h' st q => by
    obtain ⟨⟨old, he⟩, h1⟩ := st
    exact ⟨⟨old, q e (by simp) _ he⟩, iterB_keep h1 fun o z => q it (by simp) o z⟩
  item := by
    intro X hP hw hK hc i pins s σ H E I hf st hg
    subst hP hw hK
    obtain ⟨⟨old, he⟩, h1⟩ := st
    obtain ⟨xs, q1, l1⟩ := hg
    obtain ⟨its1, r1, p1⟩ := seqB_at I q1
    have hh : X.A.in1.handled = none := I.ok.hd hc
    have W := WalksT.enumFrom (prog := X.prog) (w := X.w) (A := X.A) 0 (draws_B k hh it a na its1.toArray) e hei (by simp [hei, hea]) (by simp)
    have e1 := r1.length
    refine W.item i s _ _ (by simp only [List.size_toArray]; omega) ⟨⟨old, he⟩, h1, p1⟩ fun T vals h' tk hP hnew hT hm hk => ⟨_, rfl, ?_⟩
    refine W.go elts kk tpos i T { s with heap := h', toks := tk } _ _ hm fun h'' st2 hk2 => ?_
    obtain ⟨t, x, hx, rfl⟩ := hP
    obtain ⟨he', h1', _⟩ := st2
    obtain ⟨vx, hvx⟩ : ∃ v, xs[i]? = some v := ⟨_, List.getElem?_eq_getElem l1⟩
    obtain ⟨u1, hu1, ru1⟩ := r1.get hvx
    have t1 : x = u1 := by rw [List.getElem?_toArray, hu1] at hx; exact (Option.some.inj hx).symm
    subst t1
    have hT2 : h''.IsTuple T #[.int (0 + (i : Int)) t, x] := hT.at fun o z => hk2 T o (W.apart i T h' hm) z
    have new : ObjOk X.prog X.w (upd H T (.tup [.int (i : Nat), vx])) h'' T (.tup [.int (i : Nat), vx]) :=
      ⟨by show 2 ≤ sizeLine; decide, [.int (0 + (i : Int)) t, x], .cons ⟨t, by rw [Int.zero_add]⟩ (.cons ru1 .nil), hT2⟩
    have I1 : Inv X pins σ (upd H T (.tup [.int (i : Nat), vx])) { s with heap := h'', toks := tk } :=
      I.turnedNew (t' := tk) (ch := [e, it]) (fun b o hb q => hk2 b o hb (hk b o hb q)) hf hnew new
    refine ⟨.ref T, _, I1, rfl, ⟨T, vx, rfl, I.hok.fresh hnew, rfl, fun xs' a1 => ?_⟩, ⟨he', h1'⟩, fun b hb => ?_⟩
    · rw [seqB_inj I a1 q1]; exact hvx
    · have e' : b = e ∨ b = it := by simpa using hb
      have hlt : b < s.heap.objs.size := by
        rcases e' with q | q <;> rw [q]
        · exact Heap.lt_size he
        · obtain ⟨_, g, _⟩ := iterB_obj h1; exact Heap.lt_size g
      rw [upd_ne (Nat.ne_of_lt (Nat.lt_of_lt_of_le hlt hnew))]
      exact (hf b hb).1
  done := by
    intro X hP hw hK hc i pins s σ H E I hf st hg
    subst hP hw hK
    obtain ⟨⟨old, he⟩, h1⟩ := st
    obtain ⟨xs, q1, l1⟩ := hg
    obtain ⟨its1, r1, p1⟩ := seqB_at I q1
    have hh : X.A.in1.handled = none := I.ok.hd hc
    have W := WalksT.enumFrom (prog := X.prog) (w := X.w) (A := X.A) 0 (draws_B k hh it a na its1.toArray) e hei (by simp [hei, hea]) (by simp)
    have en : its1.toArray.size = i := by rw [List.size_toArray, ← r1.length, l1]
    refine W.done s _ _ (by rw [en]; exact ⟨⟨old, he⟩, h1, p1⟩) fun h' tk hk => ⟨rfl, ?_⟩
    exact I.turnedL (t' := tk) (ch := [e, it]) (fun b o hb q => hk b o hb q) hf
  self := fun A i s Q E st h => wpAny_pyIter_enum st.1.choose_spec h
def iEnumQ (K : PySem.W.Frag) (ta : TA) : TI := fun σ H R => ta σ H fun vs H1 => ∃ (k : Bool) (a : Addr) (xs : List V), vs = [.ref a] ∧ SeqB k K H1 a xs ∧ R (IteB K k a) H1
theorem pi_enumQA {X : Cx} {e : Expr} {ta : TA} {p pos tpos : Pos} {elts : List Expr} {kk : Nat} (hg : Gl X "enumerate") (hm : X.mg "enumerate" = none) (ha : PA X [e] ta) (hs : starEach [e] X.env = [(false, eval e X.env)] := by rfl) :
    PI X (.Tuple elts kk tpos) (.Call (.Name "enumerate" p) [e] [] pos) (iEnumQ X.K ta) := by
  refine ⟨fun pins s σ H R I h => ?_⟩
  refine Call_ (ld_blt I hg hm boot_enumerate (PyProof.Rows.callWith_type1 (thn (ha.run pos pins s σ H _ I h) fun us s1 ⟨vs, H1, I1, r1, q1⟩ => ?_) hs rfl))
  obtain ⟨k, a, xs, ex, w1, q⟩ := q1
  subst ex
  cases r1 with
  | cons r rr =>
    cases rr
    cases r
    obtain ⟨its1, v1, p1⟩ := seqB_at I1 w1
    obtain ⟨o1, B1, b1⟩ := begins_B k a its1.toArray
    have la := isB_lt p1
    refine enum_begins1 B1 p1 fun h' he hit hk => wpAny_pyIter_enum he ?_
    have I2 : Inv X pins σ H1 { s1 with heap := h' } := I1.kept (t' := s1.toks) hk
    refine ⟨s1.heap.objs.size + 1, [s1.heap.objs.size + 1, s1.heap.objs.size], _, _, H1, rfl, I2, turn_enumB (Nat.ne_of_lt la) (Nat.succ_ne_self _) (Nat.ne_of_gt (Nat.lt_succ_of_lt la)), ⟨⟨.none, he⟩, b1 _ _ hit⟩, fun b hb => ?_, q⟩
    have e' : b = s1.heap.objs.size + 1 ∨ b = s1.heap.objs.size := by simpa using hb
    have hle : s1.heap.objs.size ≤ b := by
      rcases e' with z | z <;> rw [z]
      · exact Nat.le_add_right _ _
      · exact Nat.le_refl _
    exact I1.fpOk hle (I1.hok.fresh hle)
theorem pi_enumQ {X : Cx} {e : Expr} {ta : TA} {p pos tpos : Pos} {elts : List Expr} {kk : Nat} (K : PySem.W.Frag) (h : X.K = K) (hg : Gl X "enumerate") (hm : X.mg "enumerate" = none) (ha : PA X [e] ta) (hs : starEach [e] X.env = [(false, eval e X.env)] := by rfl) :
    PI X (.Tuple elts kk tpos) (.Call (.Name "enumerate" p) [e] [] pos) (iEnumQ K ta) := h ▸ pi_enumQA hg hm ha hs
theorem walk_enumQ {K : PySem.W.Frag} {k : Bool} {a : Addr} {xs : List V} : Walk (IteB K k a) xs.length (fun H => SeqB k K H a xs) (YPair (fun i => some (.int (i : Nat))) (fun i => xs[i]?)) := by
  refine ⟨fun i _ hi q => ⟨xs, q, hi⟩, fun _ q => ⟨xs, q, rfl⟩, fun i H v H' _ q y => ?_⟩
  obtain ⟨T, x, e1, e2, e3, e4⟩ := y
  exact ⟨T, .int (i : Nat), x, e1, e2, e3, rfl, e4 xs q⟩
end
section
variable {K : PySem.W.Frag} {g : TG} {tt : TT} {te : TE} {vs : List Nat} {σ : L2.St} {H : Hp} {Q : VK} {a : Addr} {xs : List V} {X : Addr → Prop}
def LcEQK (K : PySem.W.Frag) (g : TG) (tt : TT) (te : TE) (vs : List Nat) (σ : L2.St) (Q : VK) : List V → Hp → Prop := fun us H => tLc (iEnumQ K (fun _ H Q' => Q' us H)) g tt te vs σ H Q
theorem q_lcEQ {ta : TA} (k : ta σ H (LcEQK K g tt te vs σ Q)) : tLc (iEnumQ K ta) g tt te vs σ H Q := k
def ForEQK (K : PySem.W.Frag) (g : TG) (tb : TS) (D : Ends) (σ : L2.St) : List V → Hp → Prop := fun us H => tFor (iEnumQ K (fun _ H Q' => Q' us H)) g tb D σ H
theorem q_forEQ {ta : TA} {tb : TS} {D : Ends} (k : ta σ H (ForEQK K g tb D σ)) : tFor (iEnumQ K ta) g tb D σ H := k
theorem q_lcEQI (I : Addr → Nat → List V → Hp → Prop) (hx : Sq2 H a xs) (hk : ∀ H', FX X H H' → ∀ o, H a = some o → H' a = some o) (hz : xs.length ≤ 100000) (hI : KeepI I) (hX : ∀ D, H D = none → ¬ X D) (h0 : ∀ D, H D = none → I D 0 [] (upd H D (.lst [])))
    (he : ∀ D, H D = none → TurnI X xs.length (YPair (fun i => some (.int (i : Nat))) (fun i => xs[i]?)) g tt te vs σ H D (I D)) (k : ∀ p H' ys, H p = none → H' p = some (.lst ys) → ys.length ≤ xs.length → I p xs.length ys H' → FX X H H' → Q (.ref p) H') : LcEQK K g tt te vs σ Q [.ref a] H := by
  rcases hx with hx | hx
  · exact ⟨true, a, xs, rfl, SqL.of hx, fun D hD => lc_I walk_enumQ hz (I D) (hI D) hD (hX D hD) (fun H' e => SqL.of (hk H' e _ hx)) (h0 D hD) (he D hD) fun H' ys e h l i => k D H' ys hD h l i e⟩
  · exact ⟨false, a, xs, rfl, SqT.of hx, fun D hD => lc_I walk_enumQ hz (I D) (hI D) hD (hX D hD) (fun H' e => SqT.of (hk H' e _ hx)) (h0 D hD) (he D hD) fun H' ys e h l i => k D H' ys hD h l i e⟩
theorem q_enumForQ {tb : TS} {D : Ends} (hx : Sq2 H a xs) (Pv : Nat → L2.St → Hp → Prop) (h0 : Pv 0 σ H) (hq : ∀ i σ' H', Pv i σ' H' → ∀ o, H a = some o → H' a = some o)
    (hs : ∀ (i : Nat) (x : V) (T : Addr) (σ' : L2.St) (H' H2 : Hp), xs[i]? = some x → Pv i σ' H' → H' T = none → H2 T = some (.tup [.int (i : Int), x]) → Ex H' H2 → g (.ref T) σ' H2 fun σ2 H2 => tb { D with nx := Pv (i + 1), ct := Pv (i + 1), bk := D.nx } σ2 H2)
    (hd : ∀ σ' H', Pv xs.length σ' H' → D.nx σ' H') : ForEQK K g tb D σ [.ref a] H := by
  rcases hx with hx | hx
  · exact ⟨true, a, xs, rfl, SqL.of hx, for_it walk_enumQ Pv h0 (fun i σ' H' _ p => SqL.of (hq i σ' H' p _ hx)) (fun i v σ' H1 H2 hi p ⟨T, x, y, e1, hT, e2, hx, hy⟩ => by
      subst e1 e2
      cases hx
      exact hs i y T σ' H1 _ hy p hT upd_same (Ex.new hT)) hd⟩
  · exact ⟨false, a, xs, rfl, SqT.of hx, for_it walk_enumQ Pv h0 (fun i σ' H' _ p => SqT.of (hq i σ' H' p _ hx)) (fun i v σ' H1 H2 hi p ⟨T, x, y, e1, hT, e2, hx, hy⟩ => by
      subst e1 e2
      cases hx
      exact hs i y T σ' H1 _ hy p hT upd_same (Ex.new hT)) hd⟩
end
/-- enumerate of whole numbers: kept where f, told by v -/
theorem q_enumN {K : PySem.W.Frag} {tt : TT} {te : TE} {vs : List Nat} {σ : L2.St} {H : Hp} {Q : VK} {a : Addr} {ns : List Int} {j l : Nat} (f : Nat → Int → Bool) (v : Nat → Int → V) (hx : Sq2 H a (iV ns)) (hz : ns.length ≤ 1000)
    (hw : ∀ (i : Nat) (n : Int), wipe (((wipe σ vs).set j (some (.int (i : Int)))).set l (some (.int n))) vs = wipe σ vs)
    (ht : ∀ (i : Nat) (n : Int) (H1 : Hp), ns[i]? = some n → Ex H H1 → ∀ QB : Bool → Hp → Prop, (∀ H2, Ex H1 H2 → QB (f i n) H2) → tt (((wipe σ vs).set j (some (.int (i : Int)))).set l (some (.int n))) H1 QB)
    (he : ∀ (i : Nat) (n : Int) (H1 : Hp), ns[i]? = some n → Ex H H1 → f i n = true → ∀ Q' : VK, (∀ H2, Ex H1 H2 → Q' (v i n) H2) → te (((wipe σ vs).set j (some (.int (i : Int)))).set l (some (.int n))) H1 Q')
    (k : ∀ p H', H p = none → H' p = some (.lst (((List.range ns.length).filter fun i => f i (ns.getD i 0)).map fun i => v i (ns.getD i 0))) → Ex H H' → Q (.ref p) H') : LcEQK K (gTup K 2 (gCons (gName j) (gCons (gName l) gNil))) tt te vs σ Q [.ref a] H := by
  refine q_lcEQI (X := XN) (fun D i zs H' => zs = ((List.range i).filter fun i => f i (ns.getD i 0)).map fun i => v i (ns.getD i 0)) hx (fun H' e o h => e.toEx _ _ h) (by rw [List.length_map]; omega) (fun _ _ _ _ _ _ h => h) (fun _ _ h => h) (fun D hD => rfl) (fun D hD => ?_) (fun p H' ys hp hy hl h e => ?_)
  · rintro i x H1 H2 zs hi e1 hd h ⟨T, x1, x2, rfl, hT, rfl, hx1, hx2⟩ Qn Qf kn kf
    cases hx1
    obtain ⟨n, rfl, hn⟩ := get_iV hx2
    have eT : Ex H1 (upd H1 T (.tup [.int (i : Int), .int n])) := Ex.new hT
    have hT' : (upd H1 T (.tup [.int (i : Int), .int n])) T = some (.tup [.int (i : Int), .int n]) := upd_same
    generalize upd H1 T (.tup [.int (i : Int), .int n]) = H3 at eT hT'
    have en : ns.getD i 0 = n := by rw [List.getD_eq_getElem?_getD, hn]; rfl
    have es : ((List.range (i + 1)).filter fun i => f i (ns.getD i 0)).map (fun i => v i (ns.getD i 0)) = zs ++ (if f i n = true then [v i n] else []) := by
      rw [List.range_succ, List.filter_append, List.map_append, h]
      congr 1
      rw [List.filter_cons, en]
      cases f i n with
      | false => rfl
      | true =>
        show [v i (ns.getD i 0)] = [v i n]
        rw [en]
    refine q_gTup (SqT.of hT') rfl ?_
    refine q_gCons (q_gName (q_gCons (q_gName (q_gNil ?_))))
    refine ⟨hw i n, ht i n H3 hn (e1.toEx.tr eT) _ fun H4 e4 => ?_⟩
    cases hf : f i n with
    | true =>
      refine iteT (he i n H4 hn (e1.toEx.tr (eT.tr e4)) hf _ fun H5 e5 => kn _ H5 (FX.ex (eT.tr (e4.tr e5))) ?_)
      show zs ++ [v i n] = _
      rw [es, if_pos hf]
    | false =>
      refine iteF (kf H4 (FX.ex (eT.tr e4)) ?_)
      show zs = _
      rw [es, if_neg (by rw [hf]; decide), List.append_nil]
  · rw [h, List.length_map] at hy
    exact k p H' hp hy e.toEx
/-! # comprehensions of two clauses, over two lists -/
section
variable {K : PySem.W.Frag} {g g1 : TG} {tt tt1 : TT} {te tl1 : TE} {vs vs1 : List Nat} {σ : L2.St} {H : Hp} {Q : VK} {a b : Addr} {xs ys : List V} {j l : Nat}
def Lc2K (K : PySem.W.Frag) (g : TG) (tt : TT) (tl1 : TE) (g1 : TG) (tt1 : TT) (te : TE) (vs vs1 : List Nat) (σ : L2.St) (Q : VK) : V → Hp → Prop := fun x H => tLc2 (iList K (fun _ H Q' => Q' x H)) g tt (iList K tl1) g1 tt1 te vs vs1 σ H Q
theorem q_lc2 {tl : TE} (k : tl σ H (Lc2K K g tt tl1 g1 tt1 te vs vs1 σ Q)) : tLc2 (iList K tl) g tt (iList K tl1) g1 tt1 te vs vs1 σ H Q := k
def pairsF (f : V → V → Bool) (ys : List V) (x : V) : List (V × V) := (ys.filter (f x)).map fun y => (x, y)
theorem q_lc2P (f : V → V → Bool) (R : Addr → V → V × V → Hp → Prop) (hR : ∀ D z p H H', (∀ a o, H a = some o → a ≠ D → H' a = some o) → R D z p H → R D z p H')
    (hx : SqL K H a xs) (hy : SqL K H b ys) (hz : xs.length * ys.length ≤ 1000)
    (hw : ∀ x, wipe ((wipe σ vs).set j (some x)) vs = wipe σ vs)
    (hw1 : ∀ x y, wipe ((wipe ((wipe σ vs).set j (some x)) vs1).set l (some y)) vs1 = wipe ((wipe σ vs).set j (some x)) vs1)
    (hb : ∀ (x : V) (H1 : Hp) (Q' : VK), Ex H H1 → Q' (.ref b) H1 → tl1 ((wipe σ vs).set j (some x)) H1 Q')
    (ht : ∀ (x y : V) (H1 : Hp), x ∈ xs → y ∈ ys → Ex H H1 → ∀ QB : Bool → Hp → Prop, (∀ H2, Ex H1 H2 → QB (f x y) H2) → tt1 ((wipe ((wipe σ vs).set j (some x)) vs1).set l (some y)) H1 QB)
    (he : ∀ (x y : V) (D : Addr) (H1 : Hp), x ∈ xs → y ∈ ys → Ex H H1 → H1 D ≠ none → f x y = true → ∀ Q' : VK, (∀ z H2, Ex H1 H2 → R D z (x, y) H2 → Q' z H2) → te ((wipe ((wipe σ vs).set j (some x)) vs1).set l (some y)) H1 Q')
    (k : ∀ p H' zs, H p = none → H' p = some (.lst zs) → All2 (fun z pr => R p z pr H') zs (xs.flatMap (pairsF f ys)) → Ex H H' → Q (.ref p) H') : Lc2K K (gName j) tYes tl1 (gName l) tt1 te vs vs1 σ Q (.ref a) H := by
  have exq : ∀ {c : Addr} {us : List V} {H' : Hp}, SqL K H c us → Ex H H' → SqL K H' c us := fun h e => e.sq h
  refine ⟨a, rfl, ⟨xs, hx⟩, fun D hD => ⟨fun i m H' => m = xs.length - i ∧ i ≤ xs.length ∧ ∃ zs, H' D = some (.lst zs) ∧ zs.length ≤ i * ys.length ∧ All2 (fun z pr => R D z pr H') zs ((xs.take i).flatMap (pairsF f ys)) ∧ Ex H H', ⟨_, rfl, Nat.zero_le _, [], upd_same, Nat.zero_le _, by simp only [List.take_zero, List.flatMap_nil]; exact .nil, Ex.new hD⟩, ?_⟩⟩
  rintro i m H1 ⟨rfl, hi, zs, hd, hl, hr, e1⟩
  by_cases hlt : i < xs.length
  · refine .inr ⟨walk_list.goes i H1 hlt (exq hx e1), fun H' => ∃ zs, H' D = some (.lst zs) ∧ zs.length ≤ (i + 1) * ys.length ∧ All2 (fun z pr => R D z pr H') zs ((xs.take (i + 1)).flatMap (pairsF f ys)) ∧ Ex H H', fun H' h => ⟨_, Nat.sub_lt_sub_left hlt (Nat.lt_succ_self i), rfl, hlt, h⟩, fun x H2 hy2 => ?_⟩
    obtain ⟨rfl, hxi⟩ := walk_list.yields i H1 x H2 hlt (exq hx e1) hy2
    have hxm := List.mem_of_getElem? hxi
    have etake : (xs.take (i + 1)).flatMap (pairsF f ys) = (xs.take i).flatMap (pairsF f ys) ++ pairsF f ys x := by
      rw [List.take_add_one, hxi, List.flatMap_append]; simp
    refine ⟨hw x, q_yes (iteT (hb x H2 _ e1 ⟨b, rfl, ⟨ys, exq hy e1⟩, fun jn kk H3 => kk = ys.length - jn ∧ jn ≤ ys.length ∧ ∃ us, H3 D = some (.lst us) ∧ us.length ≤ i * ys.length + jn ∧ All2 (fun z pr => R D z pr H3) us ((xs.take i).flatMap (pairsF f ys) ++ pairsF f (ys.take jn) x) ∧ Ex H H3, ⟨_, rfl, Nat.zero_le _, zs, hd, hl, by unfold pairsF; simp only [List.take_zero, List.filter_nil, List.map_nil, List.append_nil]; exact hr, e1⟩, ?_⟩))⟩
    rintro jn kk H3 ⟨rfl, hj, us, hd3, hl3, hr3, e3⟩
    by_cases hlj : jn < ys.length
    · refine .inr ⟨walk_list.goes jn H3 hlj (exq hy e3), fun H' => ∃ us, H' D = some (.lst us) ∧ us.length ≤ i * ys.length + (jn + 1) ∧ All2 (fun z pr => R D z pr H') us ((xs.take i).flatMap (pairsF f ys) ++ pairsF f (ys.take (jn + 1)) x) ∧ Ex H H', fun H' h => ⟨_, Nat.sub_lt_sub_left hlj (Nat.lt_succ_self jn), rfl, hlj, h⟩, fun y H4 hy4 => ?_⟩
      obtain ⟨rfl, hyj⟩ := walk_list.yields jn H3 y H4 hlj (exq hy e3) hy4
      have hym := List.mem_of_getElem? hyj
      have ej : pairsF f (ys.take (jn + 1)) x = pairsF f (ys.take jn) x ++ (if f x y = true then [(x, y)] else []) := by
        unfold pairsF
        rw [List.take_add_one, hyj, List.filter_append, List.map_append]
        congr 1
        show List.map _ (List.filter (f x) [y]) = _
        rw [List.filter_cons]
        cases f x y <;> rfl
      have hmul : (i + 1) * ys.length = i * ys.length + ys.length := Nat.succ_mul ..
      have hmul2 : (i + 1) * ys.length ≤ xs.length * ys.length := Nat.mul_le_mul_right _ hlt
      refine ⟨hw1 x y, ht x y H4 hxm hym e3 _ fun H5 e5 => ?_⟩
      cases hf : f x y with
      | false =>
        refine iteF ⟨us, e5 _ _ hd3, by omega, ?_, e3.tr e5⟩
        rw [ej, if_neg (by rw [hf]; decide), List.append_nil]
        exact hr3.mono fun z pr h => hR D z pr H4 H5 (fun a o h _ => e5 _ _ h) h
      | true =>
        refine iteT (he x y D H5 hxm hym (e3.tr e5) (by rw [e5 _ _ hd3]; exact nofun) hf _ fun z H6 e6 r6 => ?_)
        have kp : ∀ a o, H6 a = some o → a ≠ D → upd H6 D (.lst (us ++ [z])) a = some o := fun a o h n => by rw [upd_ne n]; exact h
        refine ⟨us, e6 _ _ (e5 _ _ hd3), small1000 (by omega), us ++ [z], upd_same, by rw [List.length_append, List.length_singleton]; omega, ?_, Evl.Ex.mut (e3.tr (e5.tr e6)) hD⟩
        rw [ej, if_pos hf, ← List.append_assoc]
        exact (hr3.mono fun w pr h => hR D w pr H6 _ kp (hR D w pr H4 H6 (fun a o h _ => e6 _ _ (e5 _ _ h)) h)).snoc (hR D z (x, y) H6 _ kp r6)
    · have ej : jn = ys.length := by omega
      subst ej
      rw [List.take_length] at hr3
      exact .inl ⟨walk_list.stops H3 (exq hy e3), us, hd3, by rw [Nat.succ_mul]; exact hl3, by rw [etake]; exact hr3, e3⟩
  · have ei : i = xs.length := by omega
    subst ei
    rw [List.take_length] at hr
    exact .inl ⟨walk_list.stops H1 (exq hx e1), k D H1 zs hD hd hr e1⟩
end
theorem pi_listB {X : Cx} {tg l : Expr} {tl : TE} (K : PySem.W.Frag) (h : X.K = K) (hl : PE X l tl) : PI X tg l (iList K tl) := h ▸ pi_list hl
/-! # loads and days -/
/-- a span of days -/
def SpanAt (H : Hp) (v : V) (d : Int) (p : Int × Int) : Prop := ∃ q, v = .ref q ∧ H q = some (.tup [.int p.1, .int p.2]) ∧ 1 ≤ p.1 ∧ p.1 ≤ p.2 ∧ p.2 ≤ d
theorem SpanAt.ex {H H' : Hp} {v : V} {d : Int} {p : Int × Int} (h : SpanAt H v d p) (e : Ex H H') : SpanAt H' v d p := by
  obtain ⟨q, a, b, c⟩ := h
  exact ⟨q, a, e _ _ b, c⟩
def loadedN (ns : List Int) : List Nat := (List.range ns.length).filter fun i => decide (ns.getD i 0 > 0)
theorem loadedN_len (ns : List Int) : (loadedN ns).length ≤ ns.length := Nat.le_trans (List.length_filter_le _ _) (by rw [List.length_range]; exact Nat.le_refl _)
theorem loadedN_mem {ns : List Int} {i : Nat} (h : i ∈ loadedN ns) : i < ns.length ∧ 0 < ns.getD i 0 := ⟨List.mem_range.mp (List.mem_filter.mp h).1, of_decide_eq_true (List.mem_filter.mp h).2⟩
def aheadN (ns : List Int) : List (Nat × Nat) := (loadedN ns).flatMap fun o => ((loadedN ns).filter fun i => decide (i < o)).map fun i => (i, o)
/-- the runs that have loads of which the one, ahead, begins behind the other's end -/
def crossedN (ns : List Int) (wins : List (Int × Int)) : List (Nat × Nat) := (aheadN ns).filter fun p => decide ((wins.getD p.1 (0, 0)).1 > (wins.getD p.2 (0, 0)).2)
def aheadV : V → V → Bool := fun x y => match x, y with | .int o, .int i => decide (i < o) | _, _ => false
def swV : V × V → V × V := fun p => (p.2, p.1)
def ofN : Nat × Nat → V × V := fun p => (.int (p.1 : Int), .int (p.2 : Int))
theorem ahead_pairs (ls ks : List Nat) : ((nV ls).flatMap (pairsF aheadV (nV ks))).map swV = (ls.flatMap fun o => (ks.filter fun i => decide (i < o)).map fun i => (i, o)).map ofN := by
  induction ls with
  | nil => rfl
  | cons o t ih =>
    rw [show nV (o :: t) = V.int (o : Int) :: nV t from rfl, List.flatMap_cons, List.flatMap_cons, List.map_append, List.map_append, ih]
    congr 1
    unfold pairsF
    rw [show nV ks = ks.map (fun i : Nat => V.int (i : Int)) by unfold nV iV nI; rw [List.map_map]; rfl, List.filter_map, List.map_map, List.map_map, List.map_map]
    have : (aheadV (V.int (o : Int)) ∘ fun i : Nat => V.int (i : Int)) = fun i => decide (i < o) := by
      funext i
      show decide ((i : Int) < (o : Int)) = _
      exact decide_eq_decide.mpr (by omega)
    rw [this]
    rfl
theorem All2.unmap {α β γ : Type} {T : α → γ → Prop} {f : β → γ} : ∀ {xs : List α} {ys : List β}, All2 T xs (ys.map f) → All2 (fun x y => T x (f y)) xs ys
  | [], [], _ => .nil
  | [], y :: ys, h => by cases h
  | x :: xs, [], h => by cases h
  | x :: xs, y :: ys, h => by
    cases h with
    | cons a b => exact .cons a (All2.unmap b)
theorem aheadN_mem {ns : List Int} {p : Nat × Nat} (h : p ∈ aheadN ns) : p.1 < p.2 ∧ p.2 < ns.length ∧ 0 < ns.getD p.1 0 ∧ 0 < ns.getD p.2 0 := by
  obtain ⟨o, ho, hp⟩ := List.mem_flatMap.mp h
  obtain ⟨i, hi, rfl⟩ := List.mem_map.mp hp
  obtain ⟨hi, hio⟩ := List.mem_filter.mp hi
  exact ⟨of_decide_eq_true hio, (loadedN_mem ho).1, (loadedN_mem hi).2, (loadedN_mem ho).2⟩
theorem span_at {H : Hp} {xs : List V} {wins : List (Int × Int)} {d : Int} (h : All2 (fun x p => SpanAt H x d p) xs wins) {i : Nat} (hi : i < wins.length) : ∃ q, xs[i]? = some (.ref q) ∧ H q = some (.tup [.int (wins.getD i (0, 0)).1, .int (wins.getD i (0, 0)).2]) := by
  obtain ⟨x, hx, q, rfl, hq, _⟩ := h.atR (List.getElem?_eq_getElem hi)
  refine ⟨q, hx, ?_⟩
  rw [hq, List.getD_eq_getElem?_getD, List.getElem?_eq_getElem hi]; rfl
/-! ## papers that show that loads never go -/
def pairD (c : Nat × Nat) : PyData := .tuple [.int (c.1 : Int), .int (c.2 : Int)]
theorem pairD_eqv (c : Nat × Nat) (ns : List Int) : PyData.eqv (pairD c) (.tuple (ns.map PyData.int)) = decide (ns = [(c.1 : Int), (c.2 : Int)]) := by
  have h := eqv_ints [(c.1 : Int), (c.2 : Int)] ns
  unfold pairD
  simp only [PyData.eqv]
  rw [show [PyData.int (c.1 : Int), PyData.int (c.2 : Int)] = [(c.1 : Int), (c.2 : Int)].map PyData.int from rfl, h]
  exact decide_eq_decide.mpr eq_comm
abbrev PairsAt (H : Hp) : List V → List (Nat × Nat) → Prop := All2 fun z pr => ∃ q, z = V.ref q ∧ H q = some (.tup [.int (pr.1 : Int), .int (pr.2 : Int)])
theorem pairs_dp {K : PySem.W.Frag} {H : Hp} : ∀ {zs : List V} {cs : List (Nat × Nat)}, PairsAt H zs cs → DpAll K H zs (cs.map pairD)
  | _, _, .nil => .nil
  | _, _, .cons ⟨_, e, h⟩ b => by subst e; exact .cons (.tup (SqT.of h) (.cons (.int _) (.cons (.int _) .nil))) (pairs_dp b)
theorem pairs_shaped0 : ∀ cs : List (Nat × Nat), PyData.canLayAll0 (cs.map pairD) = true ∧ PyData.depthAll (cs.map pairD) ≤ 1
  | [] => ⟨by simp [PyData.canLayAll0], by simp [PyData.depthAll]⟩
  | c :: cs => by
    obtain ⟨a, b⟩ := pairs_shaped0 cs
    refine ⟨by simp [pairD, PyData.canLayAll0, PyData.canLay0, a], ?_⟩
    simp only [List.map_cons, PyData.depthAll, pairD, PyData.depth]
    omega
theorem tup_shaped (ns : List Int) : SeqAt.shaped (.tuple (ns.map PyData.int)) = true := by
  obtain ⟨a, b⟩ := shaped_all ns
  simp only [SeqAt.shaped, PyData.canLay0, PyData.depth, a, b, Bool.true_and]
  rfl
theorem q_inPairs {K : PySem.W.Frag} {H : Hp} {Q : VK} {p g : Addr} {ns : List Int} {zs : List V} {cs : List (Nat × Nat)} (hp : H p = some (.tup (iV ns))) (hg : H g = some (.lst zs)) (hr : PairsAt H zs cs) (k : Q (.bl (cs.any fun c => decide (ns = [(c.1 : Int), (c.2 : Int)]))) H) : rInD K (.ref p) (.ref g) H Q := by
  obtain ⟨a, b⟩ := pairs_shaped0 cs
  refine ⟨.tuple (ns.map PyData.int), cs.map pairD, .tup (SqT.of hp) (dp_ints _), .lst (SqL.of hg) (pairs_dp hr), tup_shaped ns, ?_, ?_⟩
  · simp only [SeqAt.shaped, PyData.canLay0, PyData.depth, a, Bool.true_and]
    exact decide_eq_true (by omega)
  · rw [List.any_map]
    simp only [Function.comp_def, pairD_eqv]
    exact k
def neverB (H : Hp) (v : V) (cs : List (Nat × Nat)) : Bool := match v with
  | .ref p => match H p with
    | some (.tup us) => cs.any fun c => decide (us = [.int (c.1 : Int), .int (c.2 : Int)])
    | _ => false
  | _ => false
theorem neverB_tup {H : Hp} {p : Addr} {us : List V} (h : H p = some (.tup us)) (cs : List (Nat × Nat)) : neverB H (.ref p) cs = cs.any fun c => decide (us = [.int (c.1 : Int), .int (c.2 : Int)]) := by simp only [neverB, h]
theorem neverB_lst {H : Hp} {p : Addr} {us : List V} (h : H p = some (.lst us)) (cs : List (Nat × Nat)) : neverB H (.ref p) cs = false := by simp only [neverB, h]
theorem neverB_dK {H : Hp} {p : Addr} {us : List (Key × V)} (h : H p = some (.dK us)) (cs : List (Nat × Nat)) : neverB H (.ref p) cs = false := by simp only [neverB, h]
theorem neverB_exc {H : Hp} {p C t : Addr} (h : H p = some (exoM p C t)) (cs : List (Nat × Nat)) : neverB H (.ref p) cs = false := by simp only [neverB, h, exoM]
/-- a thing, each item of a tuple too -/
structure PT (K : PySem.W.Frag) (H : Hp) (v : V) : Prop where
  th : Thing K H v
  it : ∀ p us, v = .ref p → H p = some (.tup us) → us.length ≤ 100 ∧ ∀ x ∈ us, Thing K H x
  nx : ∀ C t a, v = .ref a → H a ≠ some (exoM a C t)
theorem PT.ex {K : PySem.W.Frag} {H H' : Hp} {v : V} (h : PT K H v) (e : Ex H H') : PT K H' v := by
  refine ⟨h.th.ex e, fun p us hv hp => ?_, fun C t a hv hp => ?_⟩
  · subst hv
    obtain ⟨o, ho⟩ := thing_at h.th
    have := e _ _ ho
    rw [hp] at this
    cases this
    obtain ⟨a, b⟩ := h.it p us rfl ho
    exact ⟨a, fun x hx => (b x hx).ex e⟩
  · subst hv
    obtain ⟨o, ho⟩ := thing_at h.th
    have := e _ _ ho
    rw [hp] at this
    exact h.nx C t a rfl (ho.trans this.symm)
theorem whole_ints {lo hi : Int} : ∀ {us : List V}, us.all (fun x => whole x lo hi) = true → ∃ ns, us = iV ns
  | [], _ => ⟨[], rfl⟩
  | u :: us, h => by
    rw [List.all_cons, Bool.and_eq_true] at h
    obtain ⟨ns, rfl⟩ := whole_ints h.2
    cases u with
    | int i => exact ⟨i :: ns, rfl⟩
    | _ => exact absurd h.1 (by simp [whole])
theorem crossedN_mem {ns : List Int} {wins : List (Int × Int)} {c : Nat × Nat} (h : c ∈ crossedN ns wins) : c.1 < c.2 ∧ c.2 < ns.length ∧ 0 < ns.getD c.1 0 ∧ 0 < ns.getD c.2 0 ∧ (wins.getD c.1 (0, 0)).1 > (wins.getD c.2 (0, 0)).2 := by
  obtain ⟨a, b⟩ := List.mem_filter.mp h
  obtain ⟨x, y, z, w⟩ := aheadN_mem a
  exact ⟨x, y, z, w, of_decide_eq_true b⟩
theorem never_whole {us : List V} {ns : List Int} {wins : List (Int × Int)} (hl : ns.length ≤ 12) (h : us.all (fun x => whole x 0 12) = false) : ((crossedN ns wins).any fun c => decide (us = [.int (c.1 : Int), .int (c.2 : Int)])) = false := by
  rw [List.any_eq_false]
  intro c hc e
  obtain ⟨a, b, _⟩ := crossedN_mem hc
  rw [of_decide_eq_true e] at h
  have : ([V.int (c.1 : Int), V.int (c.2 : Int)].all fun x => whole x 0 12) = true := by
    simp [whole]; omega
  rw [this] at h
  cases h
/-! ## days left -/
def firstN (ns : List Int) (wins : List (Int × Int)) (i : Nat) : Int := greatI (((loadedN ns).filter fun o => decide (o ≤ i)).map fun o => (wins.getD o (0, 0)).1)
def lastN (ns : List Int) (wins : List (Int × Int)) (i : Nat) : Int := leastI (((loadedN ns).filter fun o => decide (o ≥ i)).map fun o => (wins.getD o (0, 0)).2)
def leftAt (ns : List Int) (wins : List (Int × Int)) (i : Nat) : Option (Int × Int) := if ns.getD i 0 = 0 then none else some (firstN ns wins i, lastN ns wins i)
def leftN (ns : List Int) (wins : List (Int × Int)) : List (Option (Int × Int)) := (List.range ns.length).map (leftAt ns wins)
/-- a run's days left, or None -/
def LeftV (H : Hp) (v : V) (o : Option (Int × Int)) : Prop := match o with
  | none => v = .non
  | some p => ∃ q, v = .ref q ∧ H q = some (.tup [.int p.1, .int p.2])
def LeftD (H : Hp) (D : Addr) (v : V) (o : Option (Int × Int)) : Prop := match o with
  | none => v = .non
  | some p => ∃ q, v = .ref q ∧ q ≠ D ∧ H q = some (.tup [.int p.1, .int p.2])
theorem LeftD.keep {H H' : Hp} {D : Addr} {v : V} {o : Option (Int × Int)} (h : LeftD H D v o) (e : ∀ a x, H a = some x → a ≠ D → H' a = some x) : LeftD H' D v o := by
  cases o with
  | none => exact h
  | some p =>
    obtain ⟨q, a, b, c⟩ := h
    exact ⟨q, a, b, e _ _ c b⟩
theorem LeftD.toV {H : Hp} {D : Addr} {v : V} {o : Option (Int × Int)} (h : LeftD H D v o) : LeftV H v o := by
  cases o with
  | none => exact h
  | some p =>
    obtain ⟨q, a, b, c⟩ := h
    exact ⟨q, a, c⟩
theorem LeftV.ex {H H' : Hp} {v : V} {o : Option (Int × Int)} (h : LeftV H v o) (e : Ex H H') : LeftV H' v o := by
  cases o with
  | none => exact h
  | some p =>
    obtain ⟨q, a, c⟩ := h
    exact ⟨q, a, e _ _ c⟩
theorem loadedN_of {ns : List Int} {i : Nat} {n : Int} (h : ns[i]? = some n) (h0 : 0 < n) : i ∈ loadedN ns := by
  have hi := (List.getElem?_eq_some_iff.mp h).1
  refine List.mem_filter.mpr ⟨List.mem_range.mpr hi, ?_⟩
  rw [List.getD_eq_getElem?_getD, h]
  exact decide_eq_true h0
def natP (f : Nat → Bool) : V → Bool := fun v => match v with | .int i => f i.toNat | _ => false
def natF (f : Nat → Int) : V → V := fun v => match v with | .int i => .int (f i.toNat) | _ => .non
theorem nat_filter (f : Nat → Bool) (g : Nat → Int) (ls : List Nat) : ((nV ls).filter (natP f)).map (natF g) = iV ((ls.filter f).map g) := by
  induction ls with
  | nil => rfl
  | cons o t ih =>
    rw [show nV (o :: t) = V.int (o : Int) :: nV t from rfl, List.filter_cons, List.filter_cons]
    show List.map _ (if f (o : Int).toNat = true then _ else _) = _
    rw [Int.toNat_natCast]
    cases f o with
    | false => exact ih
    | true => exact congrArg (V.int (g o) :: ·) ih
theorem leftN_take {ns : List Int} {wins : List (Int × Int)} {i : Nat} (h : i < ns.length) : (leftN ns wins).take (i + 1) = (leftN ns wins).take i ++ [leftAt ns wins i] := by
  unfold leftN
  rw [List.take_add_one, List.getElem?_map, List.getElem?_range h]; rfl
theorem leftN_len (ns : List Int) (wins : List (Int × Int)) : (leftN ns wins).length = ns.length := by unfold leftN; rw [List.length_map, List.length_range]
/-! ## carts for a span -/
def inB (p : Int × Int) (o : Option (Int × Int)) : Bool := match o with
  | none => false
  | some q => decide (p.1 ≤ q.1) && decide (q.2 ≤ p.2)
def withinN (ns : List Int) (left : List (Option (Int × Int))) (p : Int × Int) : List Int := ((List.range ns.length).filter fun i => inB p (left.getD i none)).map fun i => ns.getD i 0
def cartsI (ns : List Int) (left : List (Option (Int × Int))) (p : Int × Int) : Int := ((withinN ns left p).sum + (p.2 - p.1 + 1) - 1) / (p.2 - p.1 + 1)
/-- zip of whole numbers and truths: the numbers that are told so -/
theorem q_zipB {K : PySem.W.Frag} {tt : TT} {te : TE} {vs : List Nat} {σ : L2.St} {H : Hp} {Q : VK} {a b : Addr} {ns : List Int} {bs : List Bool} {j l : Nat} (hx : Sq2 H a (iV ns)) (hy : Sq2 H b (bs.map V.bl)) (hb : bs.length = ns.length) (hz : ns.length ≤ 1000)
    (hw : ∀ (n : Int) (c : Bool), wipe (((wipe σ vs).set j (some (.int n))).set l (some (.bl c))) vs = wipe σ vs)
    (ht : ∀ (n : Int) (c : Bool) (H1 : Hp), Ex H H1 → ∀ QB : Bool → Hp → Prop, (∀ H2, Ex H1 H2 → QB c H2) → tt (((wipe σ vs).set j (some (.int n))).set l (some (.bl c))) H1 QB)
    (he : ∀ (n : Int) (c : Bool) (H1 : Hp), Ex H H1 → ∀ Q' : VK, (∀ H2, Ex H1 H2 → Q' (.int n) H2) → te (((wipe σ vs).set j (some (.int n))).set l (some (.bl c))) H1 Q')
    (k : ∀ p H', H p = none → H' p = some (.lst (iV (((List.range ns.length).filter fun i => bs.getD i false).map fun i => ns.getD i 0))) → Ex H H' → Q (.ref p) H') : LcZ2K K (gTup K 2 (gCons (gName j) (gCons (gName l) gNil))) tt te vs σ Q [.ref a, .ref b] H := by
  obtain ⟨k1, s1⟩ := hx.seqB (K := K)
  obtain ⟨k2, s2⟩ := hy.seqB (K := K)
  refine ⟨k1, k2, a, b, _, _, rfl, s1, s2, fun D hD => lc_I (X := XN) (walk_zip2 (n := ns.length) (List.length_map _) (by rw [List.length_map]; exact hb)) (by omega) (fun i zs H' => zs = iV (((List.range i).filter fun i => bs.getD i false).map fun i => ns.getD i 0)) (fun _ _ _ _ _ h => h) hD (fun h => h) (fun H' e => ⟨s1.ex e.toEx, s2.ex e.toEx⟩) rfl ?_ (fun H' ys e hd hl h => k D H' hD (by rw [hd, h]) e.toEx)⟩
  rintro i x H1 H2 zs hi e1 hd h ⟨T, x1, x2, rfl, hT, rfl, hx1, hx2⟩ Qn Qf kn kf
  obtain ⟨n, rfl, hn⟩ := get_iV hx1
  replace hx2 : (bs.map V.bl)[i]? = some x2 := hx2
  rw [List.getElem?_map] at hx2
  obtain ⟨c, hc, rfl⟩ := Option.map_eq_some_iff.mp hx2
  have eT : Ex H1 (upd H1 T (.tup [.int n, .bl c])) := Ex.new hT
  have hT' : (upd H1 T (.tup [.int n, .bl c])) T = some (.tup [.int n, .bl c]) := upd_same
  generalize upd H1 T (.tup [.int n, .bl c]) = H3 at eT hT'
  have en : ns.getD i 0 = n := by rw [List.getD_eq_getElem?_getD, hn]; rfl
  have ec : bs.getD i false = c := by rw [List.getD_eq_getElem?_getD, hc]; rfl
  have es : iV (((List.range (i + 1)).filter fun i => bs.getD i false).map fun i => ns.getD i 0) = zs ++ (if c = true then [.int n] else []) := by
    rw [List.range_succ, List.filter_append, List.map_append, h]
    show List.map _ (_ ++ _) = _
    rw [List.map_append]
    congr 1
    rw [List.filter_cons, ec]
    cases c with
    | false => rfl
    | true =>
      show [V.int (ns.getD i 0)] = _
      rw [en]; rfl
  refine q_gTup (SqT.of hT') rfl ?_
  refine q_gCons (q_gName (q_gCons (q_gName (q_gNil ?_))))
  refine ⟨hw n c, ht n c H3 (e1.toEx.tr eT) _ fun H4 e4 => ?_⟩
  cases c with
  | true =>
    refine iteT (he n true H4 (e1.toEx.tr (eT.tr e4)) _ fun H5 e5 => kn _ H5 (FX.ex (eT.tr (e4.tr e5))) ?_)
    show zs ++ [V.int n] = _
    rw [es]; rfl
  | false =>
    refine iteF (kf H4 (FX.ex (eT.tr e4)) ?_)
    show zs = _
    rw [es]; exact (List.append_nil _).symm
/-! ## schedules -/
theorem mt_lcountB {X : Cx} (K : PySem.W.Frag) (h : X.K = K) : MtR X "list.count" (rCntI K) := h ▸ mt_lcount
theorem q_count {K : PySem.W.Frag} {H : Hp} {Q : VK} {p : Addr} {ns : List Int} {k : Int} (h : SqL K H p (iV ns)) (q : Q (.int (ns.count k : Nat)) H) : rCntI K (.ref p) [.int k] H Q := ⟨p, ns, k, rfl, rfl, h, q⟩
/-- the earliest day of the next load -/
def earlyI (ms : List Int) (first many : Int) : Int := if ms = [] then first else
  if ((ms.count (if ms.getLastD 0 < first then first else ms.getLastD 0) : Nat) : Int) = many then (if ms.getLastD 0 < first then first else ms.getLastD 0) + 1 else (if ms.getLastD 0 < first then first else ms.getLastD 0)
def runE (first many : Int) (ms : List Int) : Nat → List Int
  | 0 => ms
  | n + 1 => runE first many ms n ++ [earlyI (runE first many ms n) first many]
def schedN (ns : List Int) (left : List (Option (Int × Int))) (many : Int) : Nat → List Int
  | 0 => []
  | i + 1 => match left.getD i none with
    | none => schedN ns left many i
    | some p => runE p.1 many (schedN ns left many i) (ns.getD i 0).toNat
theorem runE_len (first many : Int) (ms : List Int) : ∀ n, (runE first many ms n).length = ms.length + n
  | 0 => rfl
  | n + 1 => by
    show (_ ++ [_]).length = _
    rw [List.length_append, runE_len first many ms n]; rfl
theorem schedN_len {ns : List Int} {left : List (Option (Int × Int))} {many : Int} (h : ∀ n ∈ ns, n ≤ 60) : ∀ i, (schedN ns left many i).length ≤ 60 * i
  | 0 => Nat.le_refl _
  | i + 1 => by
    have ih := schedN_len (left := left) (many := many) h i
    have hn : ns.getD i 0 ≤ 60 := by
      rw [List.getD_eq_getElem?_getD]
      cases hg : ns[i]? with
      | none => decide
      | some n => exact h n (List.mem_of_getElem? hg)
    unfold schedN
    split
    · omega
    · rw [runE_len]; omega
/-! # comprehensions of two clauses, over two ranges -/
section
variable {g g1 : TG} {tt tt1 : TT} {te : TE} {ta1 : TA} {vs vs1 : List Nat} {σ : L2.St} {H : Hp} {Q : VK} {j l : Nat}
def Lc2RK (g : TG) (tt : TT) (ta1 : TA) (g1 : TG) (tt1 : TT) (te : TE) (vs vs1 : List Nat) (σ : L2.St) (Q : VK) : List V → Hp → Prop := fun us H => tLc2 (iRng2 (fun _ H Q' => Q' us H)) g tt (iRng2 ta1) g1 tt1 te vs vs1 σ H Q
theorem q_lc2Rng {ta : TA} (k : ta σ H (Lc2RK g tt ta1 g1 tt1 te vs vs1 σ Q)) : tLc2 (iRng2 ta) g tt (iRng2 ta1) g1 tt1 te vs vs1 σ H Q := k
def spanF (M N : Int) (i : Nat) : List (Int × Int) := (List.range (N - (M + i)).toNat).map fun k : Nat => (M + (i : Int), M + (i : Int) + (k : Int))
def spansF (M N : Int) : List (Int × Int) := (List.range (N - M).toNat).flatMap (spanF M N)
theorem q_lc2R {M N : Int} (R : Addr → V → Int × Int → Hp → Prop) (hR : ∀ D z p H H', (∀ a o, H a = some o → a ≠ D → H' a = some o) → R D z p H → R D z p H') (hM : 0 ≤ M ∧ M ≤ 1000) (hN : 0 ≤ N ∧ N ≤ 300)
    (hw : ∀ x, wipe ((wipe σ vs).set j (some x)) vs = wipe σ vs)
    (hw1 : ∀ x y, wipe ((wipe ((wipe σ vs).set j (some x)) vs1).set l (some y)) vs1 = wipe ((wipe σ vs).set j (some x)) vs1)
    (hb : ∀ (b : Int) (H1 : Hp) (Q' : List V → Hp → Prop), Ex H H1 → Q' [.int b, .int N] H1 → ta1 ((wipe σ vs).set j (some (.int b))) H1 Q')
    (he : ∀ (b e : Int) (D : Addr) (H1 : Hp), M ≤ b → b ≤ e → e < N → Ex H H1 → H1 D ≠ none → ∀ Q' : VK, (∀ z H2, Ex H1 H2 → R D z (b, e) H2 → Q' z H2) → te ((wipe ((wipe σ vs).set j (some (.int b))) vs1).set l (some (.int e))) H1 Q')
    (k : ∀ p H' zs, H p = none → H' p = some (.lst zs) → All2 (fun z pr => R p z pr H') zs (spansF M N) → Ex H H' → Q (.ref p) H') : Lc2RK (gName j) tYes ta1 (gName l) tYes te vs vs1 σ Q [.int M, .int N] H := by
  refine ⟨M, N, rfl, by omega, fun D hD => ⟨fun i m H' => m = (N - M).toNat - i ∧ i ≤ (N - M).toNat ∧ ∃ zs, H' D = some (.lst zs) ∧ zs.length ≤ i * 300 ∧ All2 (fun z pr => R D z pr H') zs ((List.range i).flatMap (spanF M N)) ∧ Ex H H', ⟨_, rfl, Nat.zero_le _, [], upd_same, Nat.zero_le _, by rw [List.range_zero, List.flatMap_nil]; exact .nil, Ex.new hD⟩, ?_⟩⟩
  rintro i m H1 ⟨rfl, hi, zs, hd, hl, hr, e1⟩
  by_cases hlt : i < (N - M).toNat
  · refine .inr ⟨walk_range.goes i H1 hlt trivial, fun H' => ∃ zs, H' D = some (.lst zs) ∧ zs.length ≤ (i + 1) * 300 ∧ All2 (fun z pr => R D z pr H') zs ((List.range (i + 1)).flatMap (spanF M N)) ∧ Ex H H', fun H' h => ⟨_, Nat.sub_lt_sub_left hlt (Nat.lt_succ_self i), rfl, hlt, h⟩, fun x H2 hy2 => ?_⟩
    obtain ⟨rfl, rfl⟩ := walk_range.yields i H1 x H2 hlt trivial hy2
    have etake : (List.range (i + 1)).flatMap (spanF M N) = (List.range i).flatMap (spanF M N) ++ spanF M N i := by
      rw [List.range_succ, List.flatMap_append]; simp
    refine ⟨hw _, q_yes (iteT (hb (M + (i : Int)) H2 _ e1 ⟨M + (i : Int), N, rfl, by omega, fun jn kk H3 => kk = (N - (M + (i : Int))).toNat - jn ∧ jn ≤ (N - (M + (i : Int))).toNat ∧ ∃ us, H3 D = some (.lst us) ∧ us.length ≤ i * 300 + jn ∧ All2 (fun z pr => R D z pr H3) us ((List.range i).flatMap (spanF M N) ++ (List.range jn).map fun k : Nat => (M + (i : Int), M + (i : Int) + (k : Int))) ∧ Ex H H3, ⟨_, rfl, Nat.zero_le _, zs, hd, hl, by rw [List.range_zero, List.map_nil, List.append_nil]; exact hr, e1⟩, ?_⟩))⟩
    rintro jn kk H3 ⟨rfl, hj, us, hd3, hl3, hr3, e3⟩
    by_cases hlj : jn < (N - (M + (i : Int))).toNat
    · refine .inr ⟨walk_range.goes jn H3 hlj trivial, fun H' => ∃ us, H' D = some (.lst us) ∧ us.length ≤ i * 300 + (jn + 1) ∧ All2 (fun z pr => R D z pr H') us ((List.range i).flatMap (spanF M N) ++ (List.range (jn + 1)).map fun k : Nat => (M + (i : Int), M + (i : Int) + (k : Int))) ∧ Ex H H', fun H' h => ⟨_, Nat.sub_lt_sub_left hlj (Nat.lt_succ_self jn), rfl, hlj, h⟩, fun y H4 hy4 => ?_⟩
      obtain ⟨rfl, rfl⟩ := walk_range.yields jn H3 y H4 hlj trivial hy4
      have h300 : i * 300 ≤ 300 * 300 := Nat.mul_le_mul_right _ (by omega)
      refine ⟨hw1 _ _, q_yes (iteT (he (M + (i : Int)) (M + (i : Int) + (jn : Int)) D H4 (by omega) (by omega) (by omega) e3 (by rw [hd3]; exact nofun) _ fun z H6 e6 r6 => ?_))⟩
      have kp : ∀ a o, H6 a = some o → a ≠ D → upd H6 D (.lst (us ++ [z])) a = some o := fun a o h n => by rw [upd_ne n]; exact h
      refine ⟨us, e6 _ _ hd3, small100k (by omega), us ++ [z], upd_same, by rw [List.length_append, List.length_singleton]; omega, ?_, Evl.Ex.mut (e3.tr e6) hD⟩
      rw [List.range_succ, List.map_append, ← List.append_assoc]
      exact (hr3.mono fun w pr h => hR D w pr H6 _ kp (hR D w pr H4 H6 (fun a o h _ => e6 _ _ h) h)).snoc (hR D z _ H6 _ kp r6)
    · have ej : jn = (N - (M + (i : Int))).toNat := by omega
      subst ej
      exact .inl ⟨walk_range.stops H3 trivial, us, hd3, by rw [Nat.succ_mul]; omega, by rw [etake]; exact hr3, e3⟩
  · have ei : i = (N - M).toNat := by omega
    subst ei
    exact .inl ⟨walk_range.stops H1 trivial, k D H1 zs hD hd hr e1⟩
end

section
variable {X : Cx}
/-- a op1 b op2 c op3 d -/
def tChain3 (r r' r'' : R2) (ta tb tc td : TE) : TE := fun σ H Q => ta σ H fun x H1 => tb σ H1 fun y H2 => r x y H2 fun z H3 => ∃ k, z = .bl k ∧
  (if k = true then tc σ H3 fun w' H4 => r' y w' H4 fun z' H5 => ∃ k', z' = .bl k' ∧ (if k' = true then td σ H5 fun u' H6 => r'' w' u' H6 Q else Q (.bl false) H5) else Q (.bl false) H3)
theorem pt_chain3 {a b c d : Expr} {pos : Pos} {ta tb tc td : TE} {op op' op'' : CmpOp} {r r' r'' : R2} (ho : OpR X (compareOp op) r) (ho' : OpR X (compareOp op') r') (ho'' : OpR X (compareOp op'') r'') (ha : PE X a ta) (hb : PE X b tb) (hc : PE X c tc) (hd : PE X d td)
    (hm : lastMarks [op, op', op''] [b, c, d] = false := by with_unfolding_all rfl) : L2.PT X (.Compare a [op, op', op''] [b, c, d] pos) (tTest (tChain3 r r' r'' ta tb tc td)) := by
  refine ⟨fun pins s σ H Q I h => ?_⟩
  refine isTrue_chain (thn (ha.run pins s σ H _ I h) fun v s1 ⟨x, H1, I1, r1, q1⟩ => test_link (thn (hb.run pins s1 σ H1 _ I1 q1) fun u s2 ⟨y, H2, I2, r2, q2⟩ =>
    thn (ho pins s2 σ H2 x y v u _ I2 r1 r2 q2) fun d s3 ⟨z, H3, I3, r3, k, e, q3⟩ => ?_)) hm
  subst e
  cases r3
  refine wpAny_truthy_bool ?_
  cases k with
  | false =>
    obtain ⟨k', e', q'⟩ := q3
    cases e'
    exact ite_ff ⟨H3, I3, q'⟩
  | true =>
    refine ite_tt (test_link (thn (hc.run pins s3 σ H3 _ I3 q3) fun w' s4 ⟨z', H4, I4, r4, q4⟩ => thn (ho' pins s4 σ H4 y z' u w' _ I4 r2 r4 q4) fun d' s5 ⟨z2, H5, I5, r5, k2, e2, q5⟩ => ?_))
    subst e2
    cases r5
    refine wpAny_truthy_bool ?_
    cases k2 with
    | false =>
      obtain ⟨k', e', q'⟩ := q5
      cases e'
      exact ite_ff ⟨H5, I5, q'⟩
    | true =>
      refine ite_tt (test_last (thn (hd.run pins s5 σ H5 _ I5 q5) fun w2 s6 ⟨z3, H6, I6, r6, q6⟩ => thn (ho'' pins s6 σ H6 z' z3 w' w2 _ I6 r4 r6 q6) fun d2 s7 ⟨z4, H7, I7, r7, k3, e3, q7⟩ => ?_))
      subst e3
      cases r7
      exact wpAny_truthy_bool ⟨H7, I7, q7⟩
end
section
variable {K : PySem.W.Frag} {H : Hp} {σ : L2.St}
theorem q_chain3 {r r' r'' : R2} {ta tb tc td : TE} {Q : VK} (k : ta σ H fun x H1 => tb σ H1 fun y H2 => r x y H2 fun z H3 => ∃ k, z = .bl k ∧
  (if k = true then tc σ H3 fun w' H4 => r' y w' H4 fun z' H5 => ∃ k', z' = .bl k' ∧ (if k' = true then td σ H5 fun u' H6 => r'' w' u' H6 Q else Q (.bl false) H5) else Q (.bl false) H3)) : tChain3 r r' r'' ta tb tc td σ H Q := k
/-! ranges that may begin below nought -/
theorem q_lcR2N {g : TG} {tt : TT} {te : TE} {vs : List Nat} {Q : VK} {X : Addr → Prop} {M N : Int} (I : Addr → Nat → List V → Hp → Prop) (hM : -100000 ≤ M ∧ M ≤ 100000) (hN : -100000 ≤ N ∧ N ≤ 100000) (hz : (N - M).toNat ≤ 100000) (hI : KeepI I) (hX : ∀ D, H D = none → ¬ X D) (h0 : ∀ D, H D = none → I D 0 [] (upd H D (.lst [])))
    (he : ∀ D, H D = none → TurnI X (N - M).toNat (YFn fun i => .int (M + i)) g tt te vs σ H D (I D)) (k : ∀ p H' ys, H p = none → H' p = some (.lst ys) → ys.length ≤ (N - M).toNat → I p (N - M).toNat ys H' → FX X H H' → Q (.ref p) H') : Rng2K g tt te vs σ Q [.int M, .int N] H :=
  ⟨M, N, rfl, by omega, fun D hD => lc_I walk_range hz (I D) (hI D) hD (hX D hD) (fun _ _ => trivial) (h0 D hD) (he D hD) fun H' ys e h l i => k D H' ys hD h l i e⟩
theorem q_rngFor2N {j : Nat} {tb : TS} {D : Ends} {M N : Int} (Pv : Nat → L2.St → Hp → Prop) (hM : -100000 ≤ M ∧ M ≤ 100000) (hN : -100000 ≤ N ∧ N ≤ 100000) (h0 : Pv 0 σ H)
    (hs : ∀ (i : Nat) σ' H', M + (i : Int) < N → Pv i σ' H' → tb { D with nx := Pv (i + 1), ct := Pv (i + 1), bk := D.nx } (σ'.set j (some (.int (M + (i : Int))))) H') (hd : ∀ σ' H', Pv (N - M).toNat σ' H' → D.nx σ' H') : ForR2K (gName j) tb D σ [.int M, .int N] H := by
  refine ⟨M, N, rfl, by omega, for_range (lo := M) (n := (N - M).toNat) Pv h0 (fun i σ' H' hi p => ?_) hd⟩
  exact hs i σ' H' (by omega) p
/-- a thing whose items can be compared, if it is a tuple -/
structure PTE (K : PySem.W.Frag) (H : Hp) (v : V) : Prop where
  pt : PT K H v
  el : ∀ p us, v = .ref p → H p = some (.tup us) → ∀ x ∈ us, ElN K H 3 x
theorem PTE.ex {v : V} {H' : Hp} (h : PTE K H v) (e : Ex H H') : PTE K H' v := by
  refine ⟨h.pt.ex e, fun p us hv hp x hx => ?_⟩
  subst hv
  obtain ⟨o, ho⟩ := thing_at h.pt.th
  have := (e _ _ ho).symm.trans hp
  cases this
  exact (h.el p us rfl ho x hx).ex e
theorem PTE.tup {p : Addr} {us : List V} (h : H p = some (.tup us)) (hl : us.length ≤ 100) (he : ∀ x ∈ us, ElN K H 3 x) : PTE K H (.ref p) := by
  refine ⟨⟨.tup p us h, fun q ys e hq => ?_, fun C t a e hq => ?_⟩, fun q ys e hq => ?_⟩
  · cases e; rw [h] at hq; cases hq
    exact ⟨hl, fun x hx => (he x hx).th⟩
  · cases e; rw [h] at hq; cases hq
  · cases e; rw [h] at hq; cases hq
    exact he
theorem PTE.lst {p : Addr} {us : List V} (h : H p = some (.lst us)) : PTE K H (.ref p) := by
  refine ⟨⟨.lst p us h, fun q ys e hq => ?_, fun C t a e hq => ?_⟩, fun q ys e hq => ?_⟩ <;> (cases e; rw [h] at hq; cases hq)
theorem PTE.dK {p : Addr} {us : List (Key × V)} (h : H p = some (.dK us)) : PTE K H (.ref p) := by
  refine ⟨⟨.dK p us h, fun q ys e hq => ?_, fun C t a e hq => ?_⟩, fun q ys e hq => ?_⟩ <;> (cases e; rw [h] at hq; cases hq)
theorem PTE.flat {v : V} (h : Thing K H v) (hn : ∀ p, v ≠ .ref p) : PTE K H v :=
  ⟨⟨h, fun p us e => absurd e (hn p), fun C t a e => absurd e (hn a)⟩, fun p us e => absurd e (hn p)⟩
/-! the pairs of two ranges, and those that cross -/
def lexB (p q : Int × Int) : Prop := p.2 < q.2 ∨ (p.2 = q.2 ∧ p.1 < q.1)
theorem lex_uniq : ∀ {l1 l2 : List (Int × Int)}, l1.Pairwise lexB → l2.Pairwise lexB → (∀ x, x ∈ l1 ↔ x ∈ l2) → l1 = l2
  | [], [], _, _, _ => rfl
  | [], y :: l2, _, _, h => by have := (h y).mpr List.mem_cons_self; cases this
  | x :: l1, [], _, _, h => by have := (h x).mp List.mem_cons_self; cases this
  | x :: l1, y :: l2, h1, h2, h => by
    rw [List.pairwise_cons] at h1 h2
    have irr : ∀ {p q : Int × Int}, lexB p q → lexB q p → False := fun {p q} a b => by unfold lexB at a b; omega
    have ixx : ∀ {p : Int × Int}, ¬ lexB p p := fun a => irr a a
    have e : x = y := by
      rcases List.mem_cons.mp ((h x).mp List.mem_cons_self) with e | m
      · exact e
      rcases List.mem_cons.mp ((h y).mpr List.mem_cons_self) with e | m'
      · exact e.symm
      exact (irr (h1.1 y m') (h2.1 x m)).elim
    subst e
    rw [lex_uniq h1.2 h2.2 fun z => ⟨fun hz => by
      rcases List.mem_cons.mp ((h z).mp (List.mem_cons_of_mem _ hz)) with rfl | m
      · exact (ixx (h1.1 _ hz)).elim
      · exact m, fun hz => by
      rcases List.mem_cons.mp ((h z).mpr (List.mem_cons_of_mem _ hz)) with rfl | m
      · exact (ixx (h2.1 _ hz)).elim
      · exact m⟩]
def rowP (n : Nat) (j : Nat) : List (Int × Int) := (List.range (n + 2)).map fun i : Nat => (-1 + (i : Int), -1 + (j : Int))
def allP (n : Nat) : List (Int × Int) := (List.range (n + 2)).flatMap (rowP n)
def inP (cs : List (Nat × Nat)) (p : Int × Int) : Bool := cs.any fun c => decide (p.1 = (c.1 : Int)) && decide (p.2 = (c.2 : Int))
theorem inP_iff {cs : List (Nat × Nat)} {p : Int × Int} : inP cs p = true ↔ p ∈ cs.map fun c => ((c.1 : Int), (c.2 : Int)) := by
  unfold inP
  rw [List.any_eq_true, List.mem_map]
  constructor
  · rintro ⟨c, hc, h⟩
    rw [Bool.and_eq_true, decide_eq_true_iff, decide_eq_true_iff] at h
    exact ⟨c, hc, Prod.ext h.1.symm h.2.symm⟩
  · rintro ⟨c, hc, rfl⟩
    exact ⟨c, hc, by simp⟩
theorem allP_mem {n : Nat} {p : Int × Int} : p ∈ allP n ↔ (-1 ≤ p.1 ∧ p.1 ≤ n) ∧ (-1 ≤ p.2 ∧ p.2 ≤ n) := by
  unfold allP
  rw [List.mem_flatMap]
  constructor
  · rintro ⟨j, hj, h⟩
    obtain ⟨i, hi, rfl⟩ := List.mem_map.mp h
    have a := List.mem_range.mp hi
    have b := List.mem_range.mp hj
    show (-1 ≤ -1 + (i : Int) ∧ -1 + (i : Int) ≤ n) ∧ (-1 ≤ -1 + (j : Int) ∧ -1 + (j : Int) ≤ n)
    omega
  · rintro ⟨⟨a, b⟩, c, d⟩
    refine ⟨(p.2 + 1).toNat, List.mem_range.mpr (by omega), List.mem_map.mpr ⟨(p.1 + 1).toNat, List.mem_range.mpr (by omega), ?_⟩⟩
    exact Prod.ext (by show -1 + (((p.1 + 1).toNat : Nat) : Int) = p.1; omega) (by show -1 + (((p.2 + 1).toNat : Nat) : Int) = p.2; omega)
theorem allP_pw (n : Nat) : (allP n).Pairwise lexB := by
  unfold allP
  rw [List.pairwise_flatMap]
  refine ⟨fun j _ => ?_, ?_⟩
  · unfold rowP
    rw [List.pairwise_map]
    exact List.pairwise_lt_range.imp fun {a b} h => .inr ⟨rfl, by show -1 + (a : Int) < -1 + (b : Int); omega⟩
  · refine List.pairwise_lt_range.imp fun {a b} h x hx y hy => ?_
    obtain ⟨i, _, rfl⟩ := List.mem_map.mp hx
    obtain ⟨k, _, rfl⟩ := List.mem_map.mp hy
    exact .inl (by show -1 + (a : Int) < -1 + (b : Int); omega)
theorem crossed_pw (ns : List Int) (wins : List (Int × Int)) : ((crossedN ns wins).map fun c => ((c.1 : Int), (c.2 : Int))).Pairwise lexB := by
  rw [List.pairwise_map]
  unfold crossedN
  refine List.Pairwise.filter _ ?_
  unfold aheadN
  rw [List.pairwise_flatMap]
  have pl : (loadedN ns).Pairwise (· < ·) := List.Pairwise.filter _ List.pairwise_lt_range
  refine ⟨fun o _ => ?_, ?_⟩
  · rw [List.pairwise_map]
    exact (List.Pairwise.filter _ pl).imp fun {a b} h => .inr ⟨rfl, by show (a : Int) < (b : Int); omega⟩
  · refine pl.imp fun {a b} h x hx y hy => ?_
    obtain ⟨i, _, rfl⟩ := List.mem_map.mp hx
    obtain ⟨k, _, rfl⟩ := List.mem_map.mp hy
    exact .inl (by show (a : Int) < (b : Int); omega)
theorem good_all (ns : List Int) (wins : List (Int × Int)) : (allP ns.length).filter (inP (crossedN ns wins)) = (crossedN ns wins).map fun c => ((c.1 : Int), (c.2 : Int)) := by
  refine lex_uniq (List.Pairwise.filter _ (allP_pw _)) (crossed_pw ns wins) fun x => ?_
  rw [List.mem_filter, inP_iff]
  refine ⟨fun h => h.2, fun h => ⟨?_, h⟩⟩
  obtain ⟨c, hc, rfl⟩ := List.mem_map.mp h
  obtain ⟨a, b, _⟩ := crossedN_mem hc
  exact allP_mem.mpr ⟨⟨by show (-1 : Int) ≤ (c.1 : Int); omega, by show (c.1 : Int) ≤ _; omega⟩, by show (-1 : Int) ≤ (c.2 : Int); omega, by show (c.2 : Int) ≤ _; omega⟩
theorem crossedN_iff {ns : List Int} {wins : List (Int × Int)} {i o : Nat} : (i, o) ∈ crossedN ns wins ↔ i < o ∧ o < ns.length ∧ 0 < ns.getD i 0 ∧ 0 < ns.getD o 0 ∧ (wins.getD i (0, 0)).1 > (wins.getD o (0, 0)).2 := by
  constructor
  · intro h; exact crossedN_mem h
  · rintro ⟨a, b, c, d, e⟩
    unfold crossedN aheadN
    rw [List.mem_filter, List.mem_flatMap]
    have hl : ∀ j, j < ns.length → 0 < ns.getD j 0 → j ∈ loadedN ns := fun j hj h => List.mem_filter.mpr ⟨List.mem_range.mpr hj, decide_eq_true h⟩
    exact ⟨⟨o, hl o b d, List.mem_map.mpr ⟨i, List.mem_filter.mpr ⟨hl i (by omega) c, decide_eq_true a⟩, rfl⟩⟩, decide_eq_true e⟩
theorem never_iff {ns : List Int} {wins : List (Int × Int)} {us : List V} : ((crossedN ns wins).any fun c => decide (us = [.int (c.1 : Int), .int (c.2 : Int)])) = true ↔ ∃ i o : Nat, us = [.int (i : Int), .int (o : Int)] ∧ (i, o) ∈ crossedN ns wins := by
  rw [List.any_eq_true]
  constructor
  · rintro ⟨c, hc, h⟩; exact ⟨c.1, c.2, of_decide_eq_true h, hc⟩
  · rintro ⟨i, o, h, hc⟩; exact ⟨(i, o), hc, decide_eq_true h⟩
end
section
theorem wordpair_shaped {s : Str} (h : PyData.strOk s = true) (ns : List Int) : SeqAt.shaped (.tuple [.str s, .tuple (ns.map PyData.int)]) = true := by
  obtain ⟨a, b⟩ := shaped_all ns
  simp only [SeqAt.shaped, PyData.canLay0, PyData.canLayAll0, PyData.depth, PyData.depthAll, a, b, h, Bool.and_self, Bool.true_and]
  exact decide_eq_true (by decide)
theorem wordpair_eqv {s t : Str} (ns ms : List Int) : PyData.eqv (.tuple [.str s, .tuple (ns.map PyData.int)]) (.tuple [.str t, .tuple (ms.map PyData.int)]) = (decide (s = t) && decide (ns = ms)) := by
  simp only [PyData.eqv, PyData.eqvAll, eqv_ints, Bool.and_true]
  congr 1
theorem cut_tail (x : V) (r : List V) : cutV (x :: r) (some 1) none = r := by
  rw [cut_lo (by omega)]; rfl
theorem neverB_ex {K : PySem.W.Frag} {H H' : Hp} {v : V} {cs : List (Nat × Nat)} (h : Thing K H v) (e : Ex H H') : neverB H' v cs = neverB H v cs := by
  cases v with
  | ref p =>
    obtain ⟨o, ho⟩ := thing_at h
    simp only [neverB, ho, e _ _ ho]
  | _ => rfl
end

section
variable {J : It} {n : Nat} {G : Hp → Prop} {Y : Nat → Hp → V → Hp → Prop}
/-- the outer one of two clauses: an invariant over the list that grows -/
theorem lc2_out {H : Hp} {D : Addr} {Qd : Hp → Prop} {B : V → Hp → (Hp → Prop) → Prop} (W : Walk J n G Y) (I : Nat → List V → Hp → Prop) (hD : H D = none) (hG : ∀ H', Ex H H' → G H') (h0 : I 0 [] (upd H D (.lst [])))
    (he : ∀ (i : Nat) (x : V) (H1 H2 : Hp) (zs : List V), i < n → Ex H H1 → H1 D = some (.lst zs) → I i zs H1 → Y i H1 x H2 → ∀ Nx : Hp → Prop, (∀ H3 us, Ex H H3 → H3 D = some (.lst us) → I (i + 1) us H3 → Nx H3) → B x H2 Nx)
    (hd : ∀ H' zs, Ex H H' → H' D = some (.lst zs) → I n zs H' → Qd H') :
    ∃ W : Nat → Nat → Hp → Prop, (∃ m, W 0 m (upd H D (.lst []))) ∧ ∀ i m H, W i m H → (J.stop i H ∧ Qd H) ∨ (J.go i H ∧ ∃ Nx : Hp → Prop, (∀ H', Nx H' → ∃ m', m' < m ∧ W (i + 1) m' H') ∧ ∀ x H', J.yld i H x H' → B x H' Nx) := by
  refine ⟨fun i m H' => m = n - i ∧ i ≤ n ∧ ∃ zs, H' D = some (.lst zs) ∧ I i zs H' ∧ Ex H H', ⟨_, rfl, Nat.zero_le _, [], upd_same, h0, Ex.new hD⟩, ?_⟩
  rintro i m H1 ⟨rfl, hi, zs, hd1, hr, e1⟩
  by_cases hlt : i < n
  · refine .inr ⟨W.goes i H1 hlt (hG H1 e1), fun H' => ∃ zs, H' D = some (.lst zs) ∧ I (i + 1) zs H' ∧ Ex H H', fun H' h => ⟨_, Nat.sub_lt_sub_left hlt (Nat.lt_succ_self i), rfl, hlt, h⟩, fun x H2 hy => ?_⟩
    exact he i x H1 H2 zs hlt e1 hd1 hr (W.yields i H1 x H2 hlt (hG H1 e1) hy) _ fun H3 us e3 h3 r3 => ⟨us, h3, r3, e3⟩
  · have ei : i = n := by omega
    subst ei
    exact .inl ⟨W.stops H1 (hG H1 e1), hd H1 zs e1 hd1 hr⟩
/-- the inner one -/
theorem lc2_in {g : TG} {tt : TT} {te : TE} {vs : List Nat} {σ : L2.St} {H H4 : Hp} {D : Addr} {Nx : Hp → Prop} {zs : List V} (W : Walk J n G Y) (I : Nat → List V → Hp → Prop) (hI : ∀ i zs H1 H2, (∀ a o, H1 a = some o → a ≠ D → H2 a = some o) → I i zs H1 → I i zs H2)
    (hD : H D = none) (hz : ∀ i us H', i ≤ n → I i us H' → us.length ≤ 100000) (e4 : Ex H H4) (h4 : H4 D = some (.lst zs)) (h0 : I 0 zs H4) (hG : ∀ H', Ex H H' → G H')
    (he : ∀ (j : Nat) (y : V) (H5 H6 : Hp) (us : List V), j < n → Ex H H5 → H5 D = some (.lst us) → I j us H5 → Y j H5 y H6 → ∀ (Qn : VK) (Qf : Hp → Prop), (∀ z H7, Ex H5 H7 → I (j + 1) (us ++ [z]) H7 → Qn z H7) → (∀ H7, Ex H5 H7 → I (j + 1) us H7 → Qf H7) →
      g y (wipe σ vs) H6 fun σ3 H7 => wipe σ3 vs = wipe σ vs ∧ tt σ3 H7 fun b H8 => if b = true then te σ3 H8 Qn else Qf H8)
    (hd : ∀ H' us, Ex H H' → H' D = some (.lst us) → I n us H' → Nx H') :
    ∃ W : Nat → Nat → Hp → Prop, (∃ m, W 0 m H4) ∧ ∀ j k H, W j k H → (J.stop j H ∧ Nx H) ∨ (J.go j H ∧ ∃ Nx1 : Hp → Prop, (∀ H', Nx1 H' → ∃ k', k' < k ∧ W (j + 1) k' H') ∧ ∀ x H', J.yld j H x H' → g x (wipe σ vs) H' fun σ3 H5 => wipe σ3 vs = wipe σ vs ∧ tt σ3 H5 fun b H6 =>
        if b = true then te σ3 H6 fun y H7 => ∃ acc, H7 D = some (.lst acc) ∧ acc.length < sizeLine ∧ Nx1 (upd H7 D (.lst (acc ++ [y]))) else Nx1 H6) := by
  refine ⟨fun i m H' => m = n - i ∧ i ≤ n ∧ ∃ zs, H' D = some (.lst zs) ∧ I i zs H' ∧ Ex H H', ⟨_, rfl, Nat.zero_le _, zs, h4, h0, e4⟩, ?_⟩
  rintro i m H1 ⟨rfl, hi, us, hd1, hr, e1⟩
  by_cases hlt : i < n
  · refine .inr ⟨W.goes i H1 hlt (hG H1 e1), fun H' => ∃ zs, H' D = some (.lst zs) ∧ I (i + 1) zs H' ∧ Ex H H', fun H' h => ⟨_, Nat.sub_lt_sub_left hlt (Nat.lt_succ_self i), rfl, hlt, h⟩, fun x H2 hy => ?_⟩
    refine he i x H1 H2 us hlt e1 hd1 hr (W.yields i H1 x H2 hlt (hG H1 e1) hy) _ _ (fun z H3 e3 r3 => ⟨us, e3 _ _ hd1, small100k (hz i us H1 hi hr), us ++ [z], upd_same, ?_, Evl.Ex.mut (e1.tr e3) hD⟩) (fun H3 e3 r3 => ⟨us, e3 _ _ hd1, r3, e1.tr e3⟩)
    exact hI _ _ H3 _ (fun a o h n => by rw [upd_ne n]; exact h) r3
  · have ei : i = n := by omega
    subst ei
    exact .inl ⟨W.stops H1 (hG H1 e1), hd H1 us e1 hd1 hr⟩
end
section
variable {K : PySem.W.Frag} {H : Hp} {σ : L2.St}
def Lc2ZK (K : PySem.W.Frag) (g : TG) (tt : TT) (wi1 : TI) (g1 : TG) (tt1 : TT) (te : TE) (vs vs1 : List Nat) (σ : L2.St) (Q : VK) : List V → Hp → Prop := fun us H => tLc2 (iZip2 K (fun _ H Q' => Q' us H)) g tt wi1 g1 tt1 te vs vs1 σ H Q
theorem q_lc2Z {ta : TA} {g : TG} {tt : TT} {wi1 : TI} {g1 : TG} {tt1 : TT} {te : TE} {vs vs1 : List Nat} {Q : VK} (k : ta σ H (Lc2ZK K g tt wi1 g1 tt1 te vs vs1 σ Q)) : tLc2 (iZip2 K ta) g tt wi1 g1 tt1 te vs vs1 σ H Q := k
/-- each item as often as its number says: [x for n, x in zip(ns, xs) for _ in range(n)] -/
def runsOf (ns : List Int) : List Nat := (List.range ns.length).flatMap fun i => List.replicate (ns.getD i 0).toNat i
theorem runsOf_mem {ns : List Int} {r : Nat} (h : r ∈ runsOf ns) : r < ns.length ∧ 0 < ns.getD r 0 := by
  obtain ⟨i, hi, hr⟩ := List.mem_flatMap.mp h
  obtain ⟨h0, rfl⟩ := List.mem_replicate.mp hr
  exact ⟨List.mem_range.mp hi, by omega⟩
theorem runs_take (ns : List Int) : ∀ i, ((List.range i).flatMap fun i => List.replicate (ns.getD i 0).toNat i).length = (((List.range i).map fun j => (ns.getD j 0).toNat)).sum := fun i => by
  rw [List.length_flatMap]
  congr 1
  exact List.map_congr_left fun j _ => List.length_replicate
theorem sum_range (ns : List Int) (h : ∀ n ∈ ns, 0 ≤ n) : ∀ i, i ≤ ns.length → (((((List.range i).map fun j => (ns.getD j 0).toNat)).sum : Nat) : Int) = (ns.take i).sum := fun i => by
  induction i with
  | zero => intro _; rfl
  | succ i ih =>
    intro hi
    have hlt : i < ns.length := by omega
    have := h _ (List.getElem_mem hlt)
    have eg : ns.getD i 0 = ns[i] := by rw [List.getD_eq_getElem?_getD, List.getElem?_eq_getElem hlt]; rfl
    rw [List.range_succ, List.map_append, List.sum_append, List.take_add_one, List.getElem?_eq_getElem hlt, List.sum_append, Int.natCast_add, ih (by omega)]
    simp only [List.map_cons, List.map_nil, List.sum_cons, List.sum_nil, Option.toList_some, eg]
    omega
theorem runsOf_len {ns : List Int} (h : ∀ n ∈ ns, 0 ≤ n) : ((runsOf ns).length : Int) = ns.sum := by
  unfold runsOf
  rw [runs_take, sum_range ns h _ (Nat.le_refl _), List.take_length]
theorem q_repRuns {g : TG} {te : TE} {vs vs1 : List Nat} {ta1 : TA} {Q : VK} {a b : Addr} {ns : List Int} {xs : List V} {j0 j1 l : Nat} (ha : Sq2 H a (iV ns)) (hb : Sq2 H b xs) (hl : xs.length = ns.length) (hn : ns.length ≤ 12) (hn60 : ∀ n ∈ ns, 0 ≤ n ∧ n ≤ 60)
    (hg : g = gTup K 2 (gCons (gName j0) (gCons (gName j1) gNil)))
    (hw : ∀ (n : Int) (x : V), wipe (((wipe σ vs).set j0 (some (.int n))).set j1 (some x)) vs = wipe σ vs)
    (hw1 : ∀ (n : Int) (x : V) (k : Int), wipe ((wipe (((wipe σ vs).set j0 (some (.int n))).set j1 (some x)) vs1).set l (some (.int k))) vs1 = wipe (((wipe σ vs).set j0 (some (.int n))).set j1 (some x)) vs1)
    (hr : ∀ (n : Int) (x : V) (H1 : Hp) (Q' : List V → Hp → Prop), Q' [.int n] H1 → ta1 (((wipe σ vs).set j0 (some (.int n))).set j1 (some x)) H1 Q')
    (he : ∀ (n : Int) (x : V) (k : Int) (H1 : Hp) (Q' : VK), Q' x H1 → te ((wipe (((wipe σ vs).set j0 (some (.int n))).set j1 (some x)) vs1).set l (some (.int k))) H1 Q')
    (k : ∀ p H', H p = none → H' p = some (.lst ((runsOf ns).map fun r => xs.getD r .non)) → Ex H H' → Q (.ref p) H') : Lc2ZK K g tYes (iRng1 ta1) (gName l) tYes te vs vs1 σ Q [.ref a, .ref b] H := by
  subst hg
  obtain ⟨k1, s1⟩ := ha.seqB (K := K)
  obtain ⟨k2, s2⟩ := hb.seqB (K := K)
  have nb : ∀ i, (((List.range i).flatMap fun i => List.replicate (ns.getD i 0).toNat i).length) ≤ i * 60 := fun i => by
    induction i with
    | zero => exact Nat.zero_le _
    | succ i ih =>
      rw [List.range_succ, List.flatMap_append, List.length_append]
      simp only [List.flatMap_cons, List.flatMap_nil, List.append_nil, List.length_replicate]
      have : (ns.getD i 0).toNat ≤ 60 := by
        rw [List.getD_eq_getElem?_getD]
        cases e : ns[i]? with
        | none => exact Nat.zero_le _
        | some m => have := hn60 m (List.mem_of_getElem? e); show m.toNat ≤ 60; omega
      rw [Nat.succ_mul]; omega
  refine ⟨k1, k2, a, b, iV ns, xs, rfl, s1, s2, fun D hD => ?_⟩
  refine lc2_out (n := ns.length) (walk_zip2 (by rw [List.length_map]) hl) (fun i zs H' => zs = ((List.range i).flatMap fun i => List.replicate (ns.getD i 0).toNat i).map fun r => xs.getD r .non) hD (fun H' e => ⟨s1.ex e, s2.ex e⟩) rfl ?_ ?_
  · rintro i x H1 H2 zs hi e1 hd1 rfl ⟨T, x1, x2, rfl, hT, rfl, g1, g2⟩ Nx nx
    have g2 : xs[i]? = some x2 := g2
    obtain ⟨n, rfl, hni⟩ := get_iV g1
    have eT : Ex H1 (upd H1 T (.tup [.int n, x2])) := Ex.new hT
    have n0 := hn60 n (List.mem_of_getElem? hni)
    have en : ns.getD i 0 = n := by rw [List.getD_eq_getElem?_getD, hni]; rfl
    have ex : xs.getD i .non = x2 := by rw [List.getD_eq_getElem?_getD, g2]; rfl
    refine q_gTup (SqT.of (upd_same (o := .tup [.int n, x2]))) rfl (q_gCons (q_gName (q_gCons (q_gName (q_gNil ⟨hw n x2, q_yes (iteT ?_)⟩)))))
    refine hr n x2 _ _ ⟨n, rfl, by omega, by omega, ?_⟩
    have ei : ∀ jn, ((List.range i).flatMap fun i => List.replicate (ns.getD i 0).toNat i).map (fun r => xs.getD r .non) ++ List.replicate (jn + 1) x2 = (((List.range i).flatMap fun i => List.replicate (ns.getD i 0).toNat i).map (fun r => xs.getD r .non) ++ List.replicate jn x2) ++ [x2] := fun jn => by
      rw [List.append_assoc, List.replicate_succ']
    refine lc2_in (n := n.toNat) walk_range (fun jn us H' => us = ((List.range i).flatMap fun i => List.replicate (ns.getD i 0).toNat i).map (fun r => xs.getD r .non) ++ List.replicate jn x2) (fun _ _ _ _ _ h => h) hD (fun jn us H' hj h => ?_) (e1.tr eT) (eT _ _ hd1) (by simp) (fun _ _ => trivial) ?_ ?_
    · subst h
      rw [List.length_append, List.length_map, List.length_replicate]
      have := nb i
      omega
    · rintro jn y H5 H6 us hj e5 hd5 rfl ⟨rfl, rfl⟩ Qn Qf kn kf
      refine q_gName ⟨hw1 n x2 _, q_yes (iteT (he n x2 _ _ _ (kn _ _ Ex.rfl ?_)))⟩
      exact (ei jn).symm
    · intro H' us e' hd' r'
      refine nx H' us e' hd' ?_
      rw [r', List.range_succ, List.flatMap_append, List.map_append]
      congr 1
      simp only [List.flatMap_cons, List.flatMap_nil, List.append_nil, List.map_replicate, en, ex]
  · intro H' zs e' hd' r'
    refine k D H' hD ?_ e'
    rw [hd', r']; rfl
end
section
variable {K : PySem.W.Frag} {H : Hp}
/-! a thing as a span of days -/
def spanB (H : Hp) (v : V) (d : Int) : Bool := match v with
  | .ref p => match H p with
    | some (.tup [x, y]) => whole x 1 d && whole y (unI x) d
    | _ => false
  | _ => false
theorem SpanAt.pt {v : V} {d : Int} {p : Int × Int} (h : SpanAt H v d p) : PTE K H v := by
  obtain ⟨q, rfl, hq, _⟩ := h
  exact .tup hq (by simp) (fun x hx => by simp at hx; rcases hx with rfl | rfl <;> exact .int _)
theorem SpanAt.yes {v : V} {d e : Int} {p : Int × Int} (h : SpanAt H v d p) (hd : d ≤ e) : spanB H v e = true := by
  obtain ⟨q, rfl, hq, h1, h2, h3⟩ := h
  have a : whole (.int p.1) 1 e = true := by simp [whole]; omega
  have b : whole (.int p.2) p.1 e = true := by simp [whole]; omega
  simp only [spanB, hq, a, Bool.true_and]
  exact b
theorem spanB_ex {H' : Hp} {v : V} {d : Int} (h : Thing K H v) (e : Ex H H') : spanB H' v d = spanB H v d := by
  cases v with
  | ref p =>
    obtain ⟨o, ho⟩ := thing_at h
    simp only [spanB, ho, e _ _ ho]
  | _ => rfl
theorem spanB_at {v : V} {d : Int} (h : spanB H v d = true) : ∃ p, SpanAt H v d p := by
  cases v with
  | ref p =>
    cases e : H p with
    | none => simp [spanB, e] at h
    | some o =>
      cases o with
      | tup us =>
        match us, e with
        | [], e => simp [spanB, e] at h
        | [x], e => simp [spanB, e] at h
        | x :: y :: z :: r, e => simp [spanB, e] at h
        | [x, y], e =>
          simp only [spanB, e, Bool.and_eq_true] at h
          obtain ⟨i, rfl, hi1, hi2⟩ := whole_int h.1
          obtain ⟨j, rfl, hj1, hj2⟩ := whole_int h.2
          exact ⟨(i, j), p, rfl, e, hi1, hj1, hj2⟩
      | _ => simp [spanB, e] at h
  | _ => simp [spanB] at h
/-! a thing as a schedule -/
def goesB (wins : List (Int × Int)) (ds : List Int) (rs : List Nat) : Bool := (List.range ds.length).all fun i => decide ((wins.getD (rs.getD i 0) (0, 0)).1 ≤ ds.getD i 0) && decide (ds.getD i 0 ≤ (wins.getD (rs.getD i 0) (0, 0)).2)
def schedB (ns : List Int) (wins : List (Int × Int)) (d : Int) (xs : List V) : Bool := xs.all (fun x => whole x 1 d) && decide ((xs.length : Int) = ns.sum) && (inOrd (xs.map unI) && goesB wins (xs.map unI) (runsOf ns))
def schedV (H : Hp) (v : V) (ns : List Int) (wins : List (Int × Int)) (d : Int) : Bool := match v with
  | .ref p => match H p with
    | some (.lst xs) => schedB ns wins d xs
    | _ => false
  | _ => false
theorem map_unI (ns : List Int) : (iV ns).map unI = ns := by
  rw [List.map_map]; exact List.map_id' ns
/-- a thing that may be a long list, whose items can be compared -/
structure LTE (K : PySem.W.Frag) (H : Hp) (v : V) : Prop where
  th : Thing K H v
  li : ∀ p us, v = .ref p → H p = some (.lst us) → us.length ≤ 1000 ∧ ∀ x ∈ us, ElN K H 3 x
theorem LTE.ex {v : V} {H' : Hp} (h : LTE K H v) (e : Ex H H') : LTE K H' v := by
  refine ⟨h.th.ex e, fun p us hv hp => ?_⟩
  subst hv
  obtain ⟨o, ho⟩ := thing_at h.th
  have := (e _ _ ho).symm.trans hp
  cases this
  exact ⟨(h.li p us rfl ho).1, fun x hx => ((h.li p us rfl ho).2 x hx).ex e⟩
theorem LTE.ints {p : Addr} {ns : List Int} (h : H p = some (.lst (iV ns))) (hl : ns.length ≤ 1000) : LTE K H (.ref p) :=
  ⟨.lst p _ h, fun q us e hq => by cases e; rw [h] at hq; cases hq; exact ⟨by rw [List.length_map]; exact hl, ElN.ints⟩⟩
end
section
theorem cr_sortedQ {X : Cx} (K : PySem.W.Frag) (h : X.K = K) : CallR X (.builtin "sorted") (rSortedI K) := h ▸ cr_sortedI
theorem q_sorted {K : PySem.W.Frag} {H : Hp} {Q : VK} {a : Addr} {ns : List Int} (h : SqL K H a (iV ns)) (k : ∀ ms p H', ms.Perm ns → ms.Pairwise (· ≤ ·) → H p = none → H' p = some (.lst (iV ms)) → Ex H H' → Q (.ref p) H') : rSortedI K [.ref a] H Q :=
  ⟨a, ns, rfl, h, fun ms p pm od hp => k ms p _ pm od hp upd_same (Ex.new hp)⟩
end
section
variable {K : PySem.W.Frag} {H : Hp}
/-- the paper of a number of carts: the number, the schedule, the span -/
def mostI (ds : List Int) : Int := greatI (ds.map fun x => ((ds.count x : Nat) : Int))
def spanOf (H : Hp) (v : V) : Int × Int := match v with
  | .ref p => match H p with
    | some (.tup [x, y]) => (unI x, unI y)
    | _ => (0, 0)
  | _ => (0, 0)
def listOf (H : Hp) (v : V) : List Int := match v with
  | .ref p => match H p with
    | some (.lst xs) => xs.map unI
    | _ => []
  | _ => []
def isNil (H : Hp) (v : V) : Bool := match v with
  | .ref p => match H p with
    | some (.lst xs) => xs.isEmpty
    | _ => false
  | _ => false
def cartsB (H : Hp) (ns : List Int) (wins : List (Int × Int)) (d : Int) (m s p : V) : Bool :=
  if ns.sum = 0 then whole m 0 0 && isNil H s && vNon p
  else wholeF' m && schedV H s ns wins d && decide (mostI (listOf H s) ≤ unI m) && spanB H p d && decide (cartsI ns (leftN ns wins) (spanOf H p) ≥ unI m)
where wholeF' (m : V) : Bool := match m with
  | .int i => decide (1 ≤ i)
  | _ => false
theorem SpanAt.of_ {v : V} {d : Int} {p : Int × Int} (h : SpanAt H v d p) : spanOf H v = p := by
  obtain ⟨q, rfl, hq, _⟩ := h
  simp only [spanOf, hq, unI]
theorem spanOf_ex {H' : Hp} {v : V} (h : Thing K H v) (e : Ex H H') : spanOf H' v = spanOf H v := by
  cases v with
  | ref p =>
    obtain ⟨o, ho⟩ := thing_at h
    simp only [spanOf, ho, e _ _ ho]
  | _ => rfl
theorem listOf_ex {H' : Hp} {v : V} (h : Thing K H v) (e : Ex H H') : listOf H' v = listOf H v := by
  cases v with
  | ref p =>
    obtain ⟨o, ho⟩ := thing_at h
    simp only [listOf, ho, e _ _ ho]
  | _ => rfl
theorem isNil_ex {H' : Hp} {v : V} (h : Thing K H v) (e : Ex H H') : isNil H' v = isNil H v := by
  cases v with
  | ref p =>
    obtain ⟨o, ho⟩ := thing_at h
    simp only [isNil, ho, e _ _ ho]
  | _ => rfl
theorem schedV_ex {H' : Hp} {v : V} {ns : List Int} {wins : List (Int × Int)} {d : Int} (h : Thing K H v) (e : Ex H H') : schedV H' v ns wins d = schedV H v ns wins d := by
  cases v with
  | ref p =>
    obtain ⟨o, ho⟩ := thing_at h
    simp only [schedV, ho, e _ _ ho]
  | _ => rfl
theorem cartsB_ex {H' : Hp} {ns : List Int} {wins : List (Int × Int)} {d : Int} {m s p : V} (hs : Thing K H s) (hp : Thing K H p) (e : Ex H H') : cartsB H' ns wins d m s p = cartsB H ns wins d m s p := by
  unfold cartsB
  rw [isNil_ex hs e, schedV_ex hs e, listOf_ex hs e, spanB_ex hp e, spanOf_ex hp e]
theorem schedV_at {v : V} {ns : List Int} {wins : List (Int × Int)} {d : Int} (h : schedV H v ns wins d = true) : ∃ p ds, v = .ref p ∧ H p = some (.lst (iV ds)) ∧ listOf H v = ds ∧ (ds.length : Int) = ns.sum ∧ schedB ns wins d (iV ds) = true := by
  cases v with
  | ref p =>
    cases e : H p with
    | none => simp [schedV, e] at h
    | some o =>
      cases o with
      | lst xs =>
        simp only [schedV, e] at h
        have h' := h
        simp only [schedB, Bool.and_eq_true] at h'
        obtain ⟨ds, rfl⟩ := whole_ints h'.1.1
        have hl := of_decide_eq_true h'.1.2
        rw [List.length_map] at hl
        exact ⟨p, ds, rfl, e, by simp only [listOf, e]; exact map_unI ds, hl, h⟩
      | _ => simp [schedV, e] at h
  | _ => simp [schedV] at h
end
theorem pe_bmB {X : Cx} {T name id : String} {r : V → List V → Hp → VK → Prop} {o e : Expr} {es : List Expr} {to : TE} {t : TA} {apos cpos : Pos} (K : PySem.W.Frag) (h : X.K = K) (pa : PlainAttrs T) (slot : Slot T name id) (hty : typeOf (.builtin id) = pure (.type "method_descriptor")) (hm : MtR X id r) (ho : PE X o to) (ha : PA X (e :: es) t)
    (hbase : attributeBase o name X.env (eval o X.env) = eval o X.env := by rfl)
    (hfew : ((backTo cpos (starEach (e :: es) X.env)).all (fun x => !x.1) && (backToKw cpos (keywordEach [] X.env)).all (fun x => x.1.isSome)
      && decide ((e :: es).length + ([] : List Keyword).length + (if ([] : List Keyword).isEmpty then 0 else 1) < 30)) = true := by rfl)
    (hline : (apos.endLine == cpos.line) = true := by rfl) (hs : starEach (e :: es) X.env = (false, eval e X.env) :: starEach es X.env := by rfl) (hplain : (backTo cpos (starEach es X.env)).any (·.1) = false := by rfl) :
    PE X (.Call (.Attribute o name apos) (e :: es) [] cpos) (tBM K T r to t) := by
  subst h
  exact pe_bm pa slot hty hm ho ha hbase hfew hline hs hplain

/-! # the earliest days: what holds of them -/
def stepE (many : Int) (ms : List Int) (f : Int) : List Int := ms ++ [earlyI ms f many]
def earlyS (many : Int) (fs : List Int) : List Int := fs.foldl (stepE many) []
theorem earlyS_snoc (many : Int) (fs : List Int) (f : Int) : earlyS many (fs ++ [f]) = earlyS many fs ++ [earlyI (earlyS many fs) f many] := by
  unfold earlyS; rw [List.foldl_append]; rfl
theorem runE_fold (f many : Int) (ms : List Int) : ∀ n, runE f many ms n = (List.replicate n f).foldl (stepE many) ms
  | 0 => rfl
  | n + 1 => by
    rw [List.replicate_succ', List.foldl_append, ← runE_fold f many ms n]
    rfl
/-- the first days of all loads, one behind the other -/
def firstsOf (ns : List Int) (left : List (Option (Int × Int))) : List Int := (runsOf ns).map fun r => ((left.getD r none).getD (0, 0)).1
theorem schedN_early {ns : List Int} {left : List (Option (Int × Int))} {many : Int} (h : ∀ i, left.getD i none = none → ns.getD i 0 = 0) : ∀ i, schedN ns left many i = earlyS many (((List.range i).flatMap fun i => List.replicate (ns.getD i 0).toNat i).map fun r => ((left.getD r none).getD (0, 0)).1)
  | 0 => rfl
  | i + 1 => by
    rw [List.range_succ, List.flatMap_append, List.map_append]
    unfold earlyS
    rw [List.foldl_append]
    have ih := schedN_early (many := many) h i
    unfold earlyS at ih
    rw [← ih]
    simp only [List.flatMap_cons, List.flatMap_nil, List.append_nil, List.map_replicate]
    cases e : left.getD i none with
    | none =>
      rw [h i e]
      show schedN ns left many (i + 1) = schedN ns left many i
      show (match left.getD i none with | none => schedN ns left many i | some p => runE p.1 many (schedN ns left many i) (ns.getD i 0).toNat) = _
      rw [e]
    | some p =>
      show (match left.getD i none with | none => schedN ns left many i | some p => runE p.1 many (schedN ns left many i) (ns.getD i 0).toNat) = _
      rw [e]
      exact runE_fold p.1 many _ _
structure InvE (many : Int) (fs ms : List Int) : Prop where
  len : ms.length = fs.length
  ge : ∀ k, k < fs.length → fs.getD k 0 ≤ ms.getD k 0
  last : ∀ x ∈ ms, x ≤ ms.getLastD 0
  ord : ms.Pairwise (· ≤ ·)
  cnt : ∀ x, ((ms.count x : Nat) : Int) ≤ many
  blk : ∀ k, k < fs.length → ∃ j, j ≤ k ∧ (∀ i, j ≤ i → i ≤ k → fs.getD j 0 ≤ fs.getD i 0) ∧ many * (ms.getD k 0 - fs.getD j 0) ≤ (k : Int) - j ∧ fs.getD j 0 ≤ ms.getD k 0
  cur : ms ≠ [] → ∃ j, j < fs.length ∧ fs.getD j 0 ≤ ms.getLastD 0 ∧ many * (ms.getLastD 0 - fs.getD j 0) + ((ms.count (ms.getLastD 0) : Nat) : Int) ≤ (fs.length : Int) - j ∧ ∀ i, j ≤ i → i < fs.length → fs.getD j 0 ≤ fs.getD i 0
theorem getD_snoc_lt {xs : List Int} {x : Int} {k : Nat} (h : k < xs.length) : (xs ++ [x]).getD k 0 = xs.getD k 0 := by
  rw [List.getD_eq_getElem?_getD, List.getElem?_append_left h, ← List.getD_eq_getElem?_getD]
theorem getD_snoc_eq {xs : List Int} {x : Int} {k : Nat} (h : k = xs.length) : (xs ++ [x]).getD k 0 = x := by
  subst h
  rw [List.getD_eq_getElem?_getD, List.getElem?_append_right (Nat.le_refl _), Nat.sub_self]; rfl
theorem lastD_snoc (xs : List Int) (x d : Int) : (xs ++ [x]).getLastD d = x := by
  rw [List.getLastD_eq_getLast?, List.getLast?_append]; rfl
theorem lastD_mem {xs : List Int} (h : xs ≠ []) : xs.getLastD 0 ∈ xs := by
  rw [List.getLastD_eq_getLast?, List.getLast?_eq_some_getLast h]
  exact List.getLast_mem h
theorem count_none {xs : List Int} {x : Int} (h : ∀ y ∈ xs, y < x) : xs.count x = 0 := List.count_eq_zero.mpr fun m => by have := h x m; omega
/-- the new day behind some that hold -/
theorem early_day {many : Int} {fs ms : List Int} (hm : 1 ≤ many) (V : InvE many fs ms) {f : Int} (hf : ∀ k, k < fs.length → fs.getD k 0 ≤ f) :
    f ≤ earlyI ms f many ∧ (∀ x ∈ ms, x ≤ earlyI ms f many) ∧ ((((ms ++ [earlyI ms f many]).count (earlyI ms f many) : Nat) : Int) ≤ many) ∧
    ∃ j, j < fs.length + 1 ∧ (fs ++ [f]).getD j 0 ≤ earlyI ms f many ∧ many * (earlyI ms f many - (fs ++ [f]).getD j 0) + (((ms ++ [earlyI ms f many]).count (earlyI ms f many) : Nat) : Int) ≤ ((fs.length + 1 : Nat) : Int) - j ∧ ∀ i, j ≤ i → i < fs.length + 1 → (fs ++ [f]).getD j 0 ≤ (fs ++ [f]).getD i 0 := by
  have cnew : ∀ y, ((ms ++ [y]).count y : Nat) = ms.count y + 1 := fun y => by rw [List.count_append, List.count_singleton_self]
  rw [cnew]
  by_cases hn : ms = []
  · have e : earlyI ms f many = f := by unfold earlyI; rw [if_pos hn]
    rw [e]
    have hl : fs.length = 0 := by rw [← V.len, hn]; rfl
    have hfs : fs = [] := List.eq_nil_of_length_eq_zero hl
    subst hn; subst hfs
    refine ⟨Int.le_refl _, fun x hx => (by cases hx), ?_, 0, by decide, Int.le_refl _, ?_, fun i _ hi => ?_⟩
    · show ((0 + 1 : Nat) : Int) ≤ many; omega
    · show many * (f - f) + ((0 + 1 : Nat) : Int) ≤ ((0 + 1 : Nat) : Int) - ((0 : Nat) : Int)
      rw [Int.sub_self, Int.mul_zero]; omega
    · have : i = 0 := by show i = 0; simp at hi; omega
      subst this; exact Int.le_refl _
  · have lm := V.last
    obtain ⟨j, hj, j1, j2, j3⟩ := V.cur hn
    have hD := lastD_mem hn
    generalize hDe : ms.getLastD 0 = D at lm j1 j2 hD
    have e : earlyI ms f many = if ((ms.count (if D < f then f else D) : Nat) : Int) = many then (if D < f then f else D) + 1 else (if D < f then f else D) := by
      unfold earlyI; rw [if_neg hn, hDe]
    by_cases c : D < f
    · have c0 : ms.count f = 0 := count_none fun y hy => by have := lm y hy; omega
      have e' : earlyI ms f many = f := by
        rw [e, if_pos c, c0, if_neg (by omega)]
      rw [e', c0]
      refine ⟨Int.le_refl _, fun x hx => by have := lm x hx; omega, by omega, fs.length, Nat.lt_succ_self _, ?_, ?_, fun i h1 h2 => ?_⟩
      · rw [getD_snoc_eq rfl]; exact Int.le_refl _
      · rw [getD_snoc_eq rfl, Int.sub_self, Int.mul_zero]; omega
      · have : i = fs.length := by omega
        subst this; exact Int.le_refl _
    · rw [if_neg c] at e
      have up : ∀ i, j ≤ i → i < fs.length + 1 → (fs ++ [f]).getD j 0 ≤ (fs ++ [f]).getD i 0 := fun i h1 h2 => by
        rw [getD_snoc_lt hj]
        by_cases h : i < fs.length
        · rw [getD_snoc_lt h]; exact j3 i h1 h
        · rw [getD_snoc_eq (by omega)]; exact hf j hj
      by_cases c2 : ((ms.count D : Nat) : Int) = many
      · rw [if_pos c2] at e
        rw [e]
        have c0 : ms.count (D + 1) = 0 := count_none fun y hy => by have := lm y hy; omega
        refine ⟨by omega, fun x hx => by have := lm x hx; omega, by rw [c0]; omega, j, by omega, ?_, ?_, up⟩
        · rw [getD_snoc_lt hj]; omega
        · rw [getD_snoc_lt hj, c0]
          have : many * (D + 1 - fs.getD j 0) = many * (D - fs.getD j 0) + many := by
            rw [show D + 1 - fs.getD j 0 = (D - fs.getD j 0) + 1 by omega, Int.mul_add, Int.mul_one]
          omega
      · rw [if_neg c2] at e
        rw [e]
        have := V.cnt D
        refine ⟨by omega, lm, by omega, j, by omega, ?_, ?_, up⟩
        · rw [getD_snoc_lt hj]; exact j1
        · rw [getD_snoc_lt hj]; omega
theorem early_inv {many : Int} (hm : 1 ≤ many) {fs : List Int} (hf : fs.Pairwise (· ≤ ·)) : ∀ n, n ≤ fs.length → InvE many (fs.take n) (earlyS many (fs.take n))
  | 0, _ => ⟨rfl, (fun k h => absurd h (by simp)), (fun x h => by cases h), .nil, (fun x => by show ((0 : Nat) : Int) ≤ many; omega), (fun k h => absurd h (by simp)), fun h => absurd rfl h⟩
  | n + 1, hn => by
    have V := early_inv hm hf n (by omega)
    have hlt : n < fs.length := by omega
    have et : fs.take (n + 1) = fs.take n ++ [fs[n]] := by rw [List.take_add_one, List.getElem?_eq_getElem hlt]; rfl
    have hl : (fs.take n).length = n := by rw [List.length_take]; omega
    have hle : ∀ k, k < (fs.take n).length → (fs.take n).getD k 0 ≤ fs[n] := fun k hk => by
      rw [List.getD_eq_getElem?_getD, List.getElem?_take, if_pos (by omega), List.getElem?_eq_getElem (by omega)]
      exact List.pairwise_iff_getElem.mp hf k n (by omega) hlt (by omega)
    rw [et, earlyS_snoc]
    obtain ⟨a, b, c, j, hj, j1, j2, j3⟩ := early_day hm V hle
    generalize hms : earlyS many (fs.take n) = ms at V a b c j1 j2
    generalize fs.take n = gs at V hle hl a b c j1 j2 j3 hj
    generalize fs[n] = f at hle a b c j1 j2 j3
    generalize earlyI ms f many = e at a b c j1 j2
    have ml : ms.length = gs.length := V.len
    refine ⟨by simp [ml], fun k hk => ?_, fun x hx => ?_, ?_, fun x => ?_, fun k hk => ?_, fun _ => ?_⟩
    · rw [List.length_append] at hk
      by_cases h : k < gs.length
      · rw [getD_snoc_lt h, getD_snoc_lt (by omega)]; exact V.ge k h
      · have : k = gs.length := by simp at hk; omega
        rw [getD_snoc_eq this, getD_snoc_eq (by omega)]; exact a
    · rw [lastD_snoc]
      rcases List.mem_append.mp hx with h | h
      · exact b x h
      · rw [List.mem_singleton.mp h]; exact Int.le_refl _
    · rw [List.pairwise_append]
      exact ⟨V.ord, List.pairwise_singleton _ _, fun x hx y hy => by rw [List.mem_singleton.mp hy]; exact b x hx⟩
    · by_cases h : x = e
      · subst h; exact c
      · rw [List.count_append, List.count_singleton, if_neg (by simpa using fun z => h z.symm)]; exact V.cnt x
    · rw [List.length_append] at hk
      by_cases h : k < gs.length
      · obtain ⟨j, x1, x2, x3, x4⟩ := V.blk k h
        refine ⟨j, x1, fun i y1 y2 => ?_, ?_, ?_⟩
        · rw [getD_snoc_lt (by omega), getD_snoc_lt (by omega)]; exact x2 i y1 y2
        · rw [getD_snoc_lt (by omega), getD_snoc_lt (by omega)]; exact x3
        · rw [getD_snoc_lt (by omega), getD_snoc_lt (by omega)]; exact x4
      · have hk' : k = gs.length := by simp at hk; omega
        rw [getD_snoc_eq (show k = ms.length by omega)]
        have c1 : 1 ≤ (ms ++ [e]).count e := by rw [List.count_append, List.count_singleton_self]; omega
        refine ⟨j, by omega, fun i y1 y2 => j3 i y1 (by omega), by omega, j1⟩
    · rw [lastD_snoc, List.length_append]
      exact ⟨j, hj, j1, j2, j3⟩
theorem early_all {many : Int} (hm : 1 ≤ many) {fs : List Int} (hf : fs.Pairwise (· ≤ ·)) : InvE many fs (earlyS many fs) := by
  have := early_inv hm hf fs.length (Nat.le_refl _)
  rwa [List.take_length] at this
/-- no day behind the last one, where no span of days is too full -/
theorem early_last {many : Int} (hm : 1 ≤ many) {fs ls : List Int} (hf : fs.Pairwise (· ≤ ·)) (hl : ls.Pairwise (· ≤ ·)) (hlen : ls.length = fs.length) (hfl : ∀ k, k < fs.length → fs.getD k 0 ≤ ls.getD k 0)
    (hW : ∀ j k, j ≤ k → k < fs.length → ((k : Int) - j + 1) ≤ many * (ls.getD k 0 - fs.getD j 0 + 1)) : ∀ k, k < fs.length → (earlyS many fs).getD k 0 ≤ ls.getD k 0 := fun k hk => by
  have V := early_all hm hf
  obtain ⟨j, x1, x2, x3, x4⟩ := V.blk k hk
  have w := hW j k x1 hk
  refine Decidable.byContradiction fun c => ?_
  have c' : ls.getD k 0 - fs.getD j 0 + 1 ≤ (earlyS many fs).getD k 0 - fs.getD j 0 := by omega
  have := Int.mul_le_mul_of_nonneg_left c' (show 0 ≤ many by omega)
  omega
/-! the days left, in order -/
section
variable {ns : List Int} {wins : List (Int × Int)}
theorem firstN_ge {o i : Nat} (ho : o ∈ loadedN ns) (h : o ≤ i) : (wins.getD o (0, 0)).1 ≤ firstN ns wins i :=
  great_ge _ (List.mem_map.mpr ⟨o, List.mem_filter.mpr ⟨ho, decide_eq_true h⟩, rfl⟩)
theorem firstN_at {i : Nat} (hi : i ∈ loadedN ns) : ∃ o, o ∈ loadedN ns ∧ o ≤ i ∧ firstN ns wins i = (wins.getD o (0, 0)).1 := by
  have h : ((loadedN ns).filter fun o => decide (o ≤ i)).map (fun o => (wins.getD o (0, 0)).1) ≠ [] := List.ne_nil_of_mem (List.mem_map.mpr ⟨i, List.mem_filter.mpr ⟨hi, decide_eq_true (Nat.le_refl _)⟩, rfl⟩)
  obtain ⟨o, ho, e⟩ := List.mem_map.mp (great_mem h)
  have := List.mem_filter.mp ho
  exact ⟨o, this.1, of_decide_eq_true this.2, e.symm⟩
theorem lastN_le {o i : Nat} (ho : o ∈ loadedN ns) (h : i ≤ o) : lastN ns wins i ≤ (wins.getD o (0, 0)).2 :=
  least_le _ (List.mem_map.mpr ⟨o, List.mem_filter.mpr ⟨ho, decide_eq_true h⟩, rfl⟩)
theorem lastN_at {i : Nat} (hi : i ∈ loadedN ns) : ∃ o, o ∈ loadedN ns ∧ i ≤ o ∧ lastN ns wins i = (wins.getD o (0, 0)).2 := by
  have h : ((loadedN ns).filter fun o => decide (o ≥ i)).map (fun o => (wins.getD o (0, 0)).2) ≠ [] := List.ne_nil_of_mem (List.mem_map.mpr ⟨i, List.mem_filter.mpr ⟨hi, decide_eq_true (Nat.le_refl _)⟩, rfl⟩)
  obtain ⟨o, ho, e⟩ := List.mem_map.mp (least_mem h)
  have := List.mem_filter.mp ho
  exact ⟨o, this.1, of_decide_eq_true this.2, e.symm⟩
theorem firstN_mono {i j : Nat} (hi : i ∈ loadedN ns) (h : i ≤ j) : firstN ns wins i ≤ firstN ns wins j := by
  obtain ⟨o, ho, hoi, e⟩ := firstN_at (wins := wins) hi
  rw [e]; exact firstN_ge ho (Nat.le_trans hoi h)
theorem lastN_mono {i j : Nat} (hj : j ∈ loadedN ns) (h : i ≤ j) : lastN ns wins i ≤ lastN ns wins j := by
  obtain ⟨o, ho, hoj, e⟩ := lastN_at (wins := wins) hj
  rw [e]; exact lastN_le ho (Nat.le_trans h hoj)
/-- windows of days, as many as runs, of which none cross -/
structure GoodW (ns : List Int) (wins : List (Int × Int)) (d : Int) : Prop where
  len : wins.length = ns.length
  n0 : ∀ n ∈ ns, 0 ≤ n
  win : ∀ i, i < ns.length → 1 ≤ (wins.getD i (0, 0)).1 ∧ (wins.getD i (0, 0)).1 ≤ (wins.getD i (0, 0)).2 ∧ (wins.getD i (0, 0)).2 ≤ d
  un : crossedN ns wins = []
theorem GoodW.fl {d : Int} (g : GoodW ns wins d) {i : Nat} (hi : i ∈ loadedN ns) : firstN ns wins i ≤ lastN ns wins i := by
  obtain ⟨o, ho, hoi, e⟩ := firstN_at (wins := wins) hi
  obtain ⟨o', ho', hoi', e'⟩ := lastN_at (wins := wins) hi
  rw [e, e']
  by_cases c : o = o'
  · subst c; exact (g.win o (loadedN_mem ho).1).2.1
  · refine Decidable.byContradiction fun z => ?_
    have : (o, o') ∈ crossedN ns wins := crossedN_iff.mpr ⟨by omega, (loadedN_mem ho').1, (loadedN_mem ho).2, (loadedN_mem ho').2, by omega⟩
    rw [g.un] at this; cases this
theorem runsOf_loaded {r : Nat} (h : r ∈ runsOf ns) : r ∈ loadedN ns := by
  obtain ⟨a, b⟩ := runsOf_mem h
  exact List.mem_filter.mpr ⟨List.mem_range.mpr a, decide_eq_true b⟩
theorem leftN_get {i : Nat} (hi : i ∈ loadedN ns) : (leftN ns wins).getD i none = some (firstN ns wins i, lastN ns wins i) := by
  obtain ⟨a, b⟩ := loadedN_mem hi
  unfold leftN
  rw [List.getD_eq_getElem?_getD, List.getElem?_map, List.getElem?_range a]
  show leftAt ns wins i = _
  unfold leftAt
  rw [if_neg (by omega)]
theorem leftN_none {i : Nat} (h : (leftN ns wins).getD i none = none) (h0 : ∀ n ∈ ns, 0 ≤ n) : ns.getD i 0 = 0 := by
  by_cases c : i < ns.length
  · by_cases c2 : i ∈ loadedN ns
    · rw [leftN_get c2] at h; cases h
    · have : ¬ ns.getD i 0 > 0 := fun z => c2 (List.mem_filter.mpr ⟨List.mem_range.mpr c, decide_eq_true z⟩)
      have h1 : 0 ≤ ns.getD i 0 := by
        rw [List.getD_eq_getElem?_getD, List.getElem?_eq_getElem c]; exact h0 _ (List.getElem_mem c)
      omega
  · rw [List.getD_eq_getElem?_getD, List.getElem?_eq_none (by omega)]; rfl
theorem runsOf_pw : (runsOf ns).Pairwise (· ≤ ·) := by
  unfold runsOf
  rw [List.pairwise_flatMap]
  refine ⟨fun i _ => List.pairwise_replicate.mpr (.inr (Nat.le_refl _)), ?_⟩
  refine List.pairwise_lt_range.imp fun {a b} h x hx y hy => ?_
  rw [(List.mem_replicate.mp hx).2, (List.mem_replicate.mp hy).2]
  exact Nat.le_of_lt h
theorem runs_map_pw {g : Nat → Int} (h : ∀ i j, i ∈ loadedN ns → j ∈ loadedN ns → i ≤ j → g i ≤ g j) : ((runsOf ns).map g).Pairwise (· ≤ ·) := by
  rw [List.pairwise_map]
  rw [List.pairwise_iff_getElem]
  intro i j hi hj hij
  exact h _ _ (runsOf_loaded (List.getElem_mem hi)) (runsOf_loaded (List.getElem_mem hj)) (List.pairwise_iff_getElem.mp runsOf_pw i j hi hj hij)
def lastsOf (ns : List Int) (left : List (Option (Int × Int))) : List Int := (runsOf ns).map fun r => ((left.getD r none).getD (0, 0)).2
theorem getD_map {g : Nat → Int} {rs : List Nat} {k : Nat} (h : k < rs.length) : (rs.map g).getD k 0 = g (rs.getD k 0) := by
  rw [List.getD_eq_getElem?_getD, List.getElem?_map, List.getElem?_eq_getElem h, List.getD_eq_getElem?_getD, List.getElem?_eq_getElem h]; rfl
theorem getD_mem {rs : List Nat} {k : Nat} (h : k < rs.length) : rs.getD k 0 ∈ rs := by
  rw [List.getD_eq_getElem?_getD, List.getElem?_eq_getElem h]; exact List.getElem_mem h
theorem within_count (h0 : ∀ n ∈ ns, 0 ≤ n) (left : List (Option (Int × Int))) (p : Int × Int) : (withinN ns left p).sum = (((runsOf ns).filter fun r => inB p (left.getD r none)).length : Nat) := by
  unfold withinN runsOf
  generalize List.range ns.length = is
  induction is with
  | nil => rfl
  | cons i t ih =>
    rw [List.flatMap_cons, List.filter_append, List.length_append, Int.natCast_add, ← ih, List.filter_cons]
    have hi : 0 ≤ ns.getD i 0 := by
      rw [List.getD_eq_getElem?_getD]
      cases e : ns[i]? with
      | none => exact Int.le_refl _
      | some m => exact h0 m (List.mem_of_getElem? e)
    rw [List.filter_replicate]
    cases inB p (left.getD i none) with
    | true =>
      simp only [if_true, List.map_cons, List.sum_cons, List.length_replicate]
      omega
    | false => simp
/-- where all of some side by side are so, there are as many that are so -/
theorem count_side {α : Type} {rs : List α} {f : α → Bool} {j k : Nat} (hk : k < rs.length) (hj : j ≤ k) (h : ∀ i (hi : i < rs.length), j ≤ i → i ≤ k → f rs[i] = true) : k - j + 1 ≤ (rs.filter f).length := by
  have e : ((rs.drop j).take (k - j + 1)).filter f = (rs.drop j).take (k - j + 1) := by
    rw [List.filter_eq_self]
    intro x hx
    obtain ⟨i, hi, rfl⟩ := List.mem_iff_getElem.mp hx
    rw [List.length_take, List.length_drop] at hi
    rw [List.getElem_take, List.getElem_drop]
    exact h (j + i) (by omega) (by omega) (by omega)
  have s : ((rs.drop j).take (k - j + 1)).Sublist rs := (List.take_sublist _ _).trans (List.drop_sublist _ _)
  have := (s.filter f).length_le
  rw [e, List.length_take, List.length_drop] at this
  omega
theorem spansF_mem {d : Int} {p : Int × Int} : p ∈ spansF 1 (d + 1) ↔ 1 ≤ p.1 ∧ p.1 ≤ p.2 ∧ p.2 ≤ d := by
  unfold spansF
  rw [List.mem_flatMap]
  constructor
  · rintro ⟨i, hi, h⟩
    obtain ⟨j, hj, rfl⟩ := List.mem_map.mp h
    have a := List.mem_range.mp hi
    have b := List.mem_range.mp hj
    refine ⟨?_, ?_, ?_⟩
    · show (1 : Int) ≤ 1 + (i : Int); omega
    · show 1 + (i : Int) ≤ 1 + (i : Int) + (j : Int); omega
    · show 1 + (i : Int) + (j : Int) ≤ d; omega
  · rintro ⟨a, b, c⟩
    refine ⟨(p.1 - 1).toNat, List.mem_range.mpr (by omega), List.mem_map.mpr ⟨(p.2 - p.1).toNat, List.mem_range.mpr (by omega), ?_⟩⟩
    exact Prod.ext (by show 1 + (((p.1 - 1).toNat : Nat) : Int) = p.1; omega) (by show 1 + (((p.1 - 1).toNat : Nat) : Int) + (((p.2 - p.1).toNat : Nat) : Int) = p.2; omega)
theorem ceil_le {s l m : Int} (hl : 0 < l) : (s + l - 1) / l ≤ m ↔ s ≤ m * l := by
  rw [show ((s + l - 1) / l ≤ m) ↔ (s + l - 1) / l < m + 1 from ⟨fun h => by omega, fun h => by omega⟩, Int.ediv_lt_iff_lt_mul hl, Int.add_mul, Int.one_mul]
  constructor <;> intro h <;> omega
theorem cartsI_le {left : List (Option (Int × Int))} {p : Int × Int} {m : Int} (h : p.1 ≤ p.2) : cartsI ns left p ≤ m ↔ (withinN ns left p).sum ≤ m * (p.2 - p.1 + 1) := by
  unfold cartsI
  exact ceil_le (by omega)
/-- the told days keep to the windows -/
structure SchedOk (ns : List Int) (wins : List (Int × Int)) (d many : Int) (ms : List Int) : Prop where
  len : (ms.length : Int) = ns.sum
  ord : ms.Pairwise (· ≤ ·)
  cnt : ∀ x, ((ms.count x : Nat) : Int) ≤ many
  win : ∀ k, k < ms.length → (wins.getD ((runsOf ns).getD k 0) (0, 0)).1 ≤ ms.getD k 0 ∧ ms.getD k 0 ≤ (wins.getD ((runsOf ns).getD k 0) (0, 0)).2
  days : ∀ x ∈ ms, 1 ≤ x ∧ x ≤ d
theorem sched_ok {d many : Int} (g : GoodW ns wins d) (hm : 1 ≤ many) (hW : ∀ p : Int × Int, 1 ≤ p.1 → p.1 ≤ p.2 → p.2 ≤ d → cartsI ns (leftN ns wins) p ≤ many) : SchedOk ns wins d many (schedN ns (leftN ns wins) many ns.length) := by
  rw [schedN_early (fun i h => leftN_none h g.n0)]
  show SchedOk ns wins d many (earlyS many (firstsOf ns (leftN ns wins)))
  have fr : ∀ r, r ∈ loadedN ns → (((leftN ns wins).getD r none).getD (0, 0)) = (firstN ns wins r, lastN ns wins r) := fun r h => by rw [leftN_get h]; rfl
  have hf : (firstsOf ns (leftN ns wins)).Pairwise (· ≤ ·) := runs_map_pw fun i j hi hj h => by rw [fr i hi, fr j hj]; exact firstN_mono hi h
  have hl : (lastsOf ns (leftN ns wins)).Pairwise (· ≤ ·) := runs_map_pw fun i j hi hj h => by rw [fr i hi, fr j hj]; exact lastN_mono hj h
  have V := early_all hm hf
  have fl : (firstsOf ns (leftN ns wins)).length = (runsOf ns).length := List.length_map ..
  have gf : ∀ k, k < (runsOf ns).length → (firstsOf ns (leftN ns wins)).getD k 0 = firstN ns wins ((runsOf ns).getD k 0) := fun k hk => by
    show ((runsOf ns).map _).getD k 0 = _
    rw [getD_map hk, fr _ (runsOf_loaded (getD_mem hk))]
  have gl : ∀ k, k < (runsOf ns).length → (lastsOf ns (leftN ns wins)).getD k 0 = lastN ns wins ((runsOf ns).getD k 0) := fun k hk => by
    show ((runsOf ns).map _).getD k 0 = _
    rw [getD_map hk, fr _ (runsOf_loaded (getD_mem hk))]
  have dl : ∀ r, r ∈ loadedN ns → lastN ns wins r ≤ d := fun r h => Int.le_trans (lastN_le h (Nat.le_refl _)) (g.win r (loadedN_mem h).1).2.2
  have d1 : ∀ r, r ∈ loadedN ns → 1 ≤ firstN ns wins r := fun r h => Int.le_trans (g.win r (loadedN_mem h).1).1 (firstN_ge h (Nat.le_refl _))
  have up := early_last hm hf hl (by show ((runsOf ns).map _).length = _; rw [List.length_map, fl]) (fun k hk => by
    rw [fl] at hk
    rw [gf k hk, gl k hk]; exact g.fl (runsOf_loaded (getD_mem hk))) (fun j k hjk hk => by
    rw [fl] at hk
    have hj : j < (runsOf ns).length := by omega
    have lj := runsOf_loaded (getD_mem hj)
    have lk := runsOf_loaded (getD_mem hk)
    have rjk : (runsOf ns).getD j 0 ≤ (runsOf ns).getD k 0 := by
      rw [List.getD_eq_getElem?_getD, List.getElem?_eq_getElem hj, List.getD_eq_getElem?_getD, List.getElem?_eq_getElem hk]
      by_cases c : j = k
      · subst c; exact Nat.le_refl _
      · exact List.pairwise_iff_getElem.mp runsOf_pw j k hj hk (by omega)
    rw [gf j hj, gl k hk]
    have hbe : firstN ns wins ((runsOf ns).getD j 0) ≤ lastN ns wins ((runsOf ns).getD k 0) := Int.le_trans (firstN_mono lj rjk) (g.fl lk)
    have w := (cartsI_le hbe).mp (hW (firstN ns wins ((runsOf ns).getD j 0), lastN ns wins ((runsOf ns).getD k 0)) (d1 _ lj) hbe (dl _ lk))
    rw [within_count g.n0] at w
    have c := count_side (rs := runsOf ns) (f := fun r => inB (firstN ns wins ((runsOf ns).getD j 0), lastN ns wins ((runsOf ns).getD k 0)) ((leftN ns wins).getD r none)) hk hjk (fun i hi h1 h2 => by
      have li := runsOf_loaded (List.getElem_mem hi)
      show inB _ ((leftN ns wins).getD (runsOf ns)[i] none) = true
      rw [leftN_get li]
      have ei : (runsOf ns).getD j 0 ≤ (runsOf ns)[i] := by
        rw [List.getD_eq_getElem?_getD, List.getElem?_eq_getElem hj]
        by_cases c : j = i
        · subst c; exact Nat.le_refl _
        · exact List.pairwise_iff_getElem.mp runsOf_pw j i hj hi (by omega)
      have ek : (runsOf ns)[i] ≤ (runsOf ns).getD k 0 := by
        rw [List.getD_eq_getElem?_getD, List.getElem?_eq_getElem hk]
        by_cases c : i = k
        · subst c; exact Nat.le_refl _
        · exact List.pairwise_iff_getElem.mp runsOf_pw i k hi hk (by omega)
      show (decide (_ ≤ firstN ns wins (runsOf ns)[i]) && decide (lastN ns wins (runsOf ns)[i] ≤ _)) = true
      rw [decide_eq_true (firstN_mono lj ei), decide_eq_true (lastN_mono lk ek)]; rfl)
    have w' : ((((runsOf ns).filter fun r => inB (firstN ns wins ((runsOf ns).getD j 0), lastN ns wins ((runsOf ns).getD k 0)) ((leftN ns wins).getD r none)).length : Nat) : Int) ≤ many * (lastN ns wins ((runsOf ns).getD k 0) - firstN ns wins ((runsOf ns).getD j 0) + 1) := w
    omega)
  have ml : (earlyS many (firstsOf ns (leftN ns wins))).length = (runsOf ns).length := V.len.trans fl
  have bd : ∀ k, k < (runsOf ns).length → firstN ns wins ((runsOf ns).getD k 0) ≤ (earlyS many (firstsOf ns (leftN ns wins))).getD k 0 ∧ (earlyS many (firstsOf ns (leftN ns wins))).getD k 0 ≤ lastN ns wins ((runsOf ns).getD k 0) := fun k hk => by
    have a := V.ge k (by omega)
    have b := up k (by omega)
    rw [gf k hk] at a
    rw [gl k hk] at b
    exact ⟨a, b⟩
  refine ⟨by rw [ml]; exact runsOf_len g.n0, V.ord, V.cnt, fun k hk => ?_, fun x hx => ?_⟩
  · rw [ml] at hk
    have lk := runsOf_loaded (getD_mem hk)
    obtain ⟨a, b⟩ := bd k hk
    exact ⟨Int.le_trans (firstN_ge lk (Nat.le_refl _)) a, Int.le_trans b (lastN_le lk (Nat.le_refl _))⟩
  · obtain ⟨k, hk, rfl⟩ := List.mem_iff_getElem.mp hx
    rw [ml] at hk
    obtain ⟨a, b⟩ := bd k hk
    have e : (earlyS many (firstsOf ns (leftN ns wins))).getD k 0 = (earlyS many (firstsOf ns (leftN ns wins)))[k] := by
      rw [List.getD_eq_getElem?_getD, List.getElem?_eq_getElem (by omega)]; rfl
    rw [e] at a b
    have lk := runsOf_loaded (getD_mem hk)
    have := d1 _ lk
    have := dl _ lk
    omega
end
section
variable {ns : List Int} {wins : List (Int × Int)} {H : Hp}
theorem most_le {many : Int} {ms : List Int} (hne : ms ≠ []) (h : ∀ x, ((ms.count x : Nat) : Int) ≤ many) : mostI ms ≤ many := by
  have hn : ms.map (fun x => ((ms.count x : Nat) : Int)) ≠ [] := fun z => hne (List.map_eq_nil_iff.mp z)
  obtain ⟨x, _, e⟩ := List.mem_map.mp (great_mem hn)
  unfold mostI
  rw [← e]; exact h x
theorem within_all {d : Int} (g : GoodW ns wins d) : (withinN ns (leftN ns wins) (1, d)).sum = ns.sum := by
  rw [within_count g.n0, ← runsOf_len g.n0]
  congr 2
  rw [List.filter_eq_self]
  intro r hr
  have lr := runsOf_loaded hr
  rw [leftN_get lr]
  have a := Int.le_trans (g.win r (loadedN_mem lr).1).1 (firstN_ge (wins := wins) lr (Nat.le_refl _))
  have b := Int.le_trans (lastN_le (wins := wins) lr (Nat.le_refl _)) (g.win r (loadedN_mem lr).1).2.2
  show (decide ((1 : Int) ≤ firstN ns wins r) && decide (lastN ns wins r ≤ d)) = true
  rw [decide_eq_true a, decide_eq_true b]; rfl
theorem sum_nonneg (h : ∀ n ∈ ns, 0 ≤ n) : 0 ≤ ns.sum := by
  rw [← runsOf_len h]; omega
theorem some_cart {d : Int} (g : GoodW ns wins d) (hs : ns.sum ≠ 0) (hd : 1 ≤ d) : 1 ≤ cartsI ns (leftN ns wins) (1, d) := by
  refine Decidable.byContradiction fun c => ?_
  have := (cartsI_le (ns := ns) (left := leftN ns wins) (p := (1, d)) (m := 0) hd).mp (by omega)
  rw [within_all g, Int.zero_mul] at this
  have := sum_nonneg g.n0
  omega
theorem carts_told {d many : Int} {q r : Addr} {sp : Int × Int} (g : GoodW ns wins d) (hd : 1 ≤ d) (hs : ns.sum ≠ 0) (hm : many = greatI ((spansF 1 (d + 1)).map (cartsI ns (leftN ns wins)))) (hsp : sp ∈ spansF 1 (d + 1)) (hc : cartsI ns (leftN ns wins) sp = many)
    (hq : H q = some (.lst (iV (schedN ns (leftN ns wins) many ns.length)))) (hr : H r = some (.tup [.int sp.1, .int sp.2])) : 1 ≤ many ∧ SchedOk ns wins d many (schedN ns (leftN ns wins) many ns.length) ∧ cartsB H ns wins d (.int many) (.ref q) (.ref r) = true := by
  have all : ∀ p ∈ spansF 1 (d + 1), cartsI ns (leftN ns wins) p ≤ many := fun p hp => hm ▸ great_ge _ (List.mem_map.mpr ⟨p, hp, rfl⟩)
  have m1 : 1 ≤ many := Int.le_trans (some_cart g hs hd) (all (1, d) (spansF_mem.mpr ⟨Int.le_refl _, hd, Int.le_refl _⟩))
  have S := sched_ok g m1 fun p a b c => all p (spansF_mem.mpr ⟨a, b, c⟩)
  refine ⟨m1, S, ?_⟩
  generalize schedN ns (leftN ns wins) many ns.length = ms at hq S
  obtain ⟨sp1, sp2, sp3⟩ := spansF_mem.mp hsp
  have hne : ms ≠ [] := fun z => by subst z; exact hs S.len.symm
  have hsb : schedB ns wins d (iV ms) = true := by
    unfold schedB
    rw [map_unI, List.length_map, decide_eq_true S.len, Bool.and_true]
    rw [show ((iV ms).all fun x => whole x 1 d) = true from List.all_eq_true.mpr fun x hx => by
      obtain ⟨n, hn, rfl⟩ := List.mem_map.mp hx
      have := S.days n hn
      simp [whole]; omega]
    rw [inOrd_pw.mpr S.ord, Bool.true_and, Bool.true_and]
    unfold goesB
    rw [List.all_eq_true]
    intro k hk
    obtain ⟨a, b⟩ := S.win k (List.mem_range.mp hk)
    rw [decide_eq_true a, decide_eq_true b]; rfl
  have h1 : spanB H (.ref r) d = true := SpanAt.yes (p := sp) ⟨r, rfl, hr, sp1, sp2, sp3⟩ (Int.le_refl _)
  have h2 : spanOf H (.ref r) = sp := SpanAt.of_ ⟨r, rfl, hr, sp1, sp2, sp3⟩
  unfold cartsB
  rw [if_neg hs, h1, h2, hc]
  have h3 : schedV H (.ref q) ns wins d = true := by simp only [schedV, hq]; exact hsb
  have h4 : listOf H (.ref q) = ms := by simp only [listOf, hq]; exact map_unI ms
  rw [h3, h4]
  show (decide (1 ≤ many) && true && decide (mostI ms ≤ many) && true && decide (many ≥ many)) = true
  rw [decide_eq_true m1, decide_eq_true (most_le hne S.cnt), decide_eq_true (Int.le_refl _ : many ≥ many)]; rfl
/-! the greatest number of carts, span by span -/
def stepC (ns : List Int) (left : List (Option (Int × Int))) (st : Int × Option (Int × Int)) (p : Int × Int) : Int × Option (Int × Int) :=
  if (withinN ns left p).sum > st.1 * (p.2 - p.1 + 1) then (cartsI ns left p, some p) else st
def foldC (ns : List Int) (left : List (Option (Int × Int))) (L : List (Int × Int)) : Int × Option (Int × Int) := L.foldl (stepC ns left) (0, none)
theorem foldC_snoc (left : List (Option (Int × Int))) (L : List (Int × Int)) (p : Int × Int) : foldC ns left (L ++ [p]) = stepC ns left (foldC ns left L) p := by
  unfold foldC; rw [List.foldl_append]; rfl
structure FoldC (ns : List Int) (left : List (Option (Int × Int))) (L : List (Int × Int)) (st : Int × Option (Int × Int)) : Prop where
  pos : 0 ≤ st.1
  all : ∀ p ∈ L, cartsI ns left p ≤ st.1
  non : st.2 = none ↔ st.1 = 0
  one : ∀ p, st.2 = some p → p ∈ L ∧ cartsI ns left p = st.1 ∧ (L.filter fun p => decide (cartsI ns left p = st.1)).head? = some p
theorem foldC_ok (left : List (Option (Int × Int))) : ∀ (n : Nat) (L : List (Int × Int)), n ≤ L.length → (∀ p ∈ L, p.1 ≤ p.2) → FoldC ns left (L.take n) (foldC ns left (L.take n))
  | 0, L, _, _ => ⟨Int.le_refl _, (fun p h => by cases h), ⟨fun _ => rfl, fun _ => rfl⟩, fun p h => by cases h⟩
  | n + 1, L, hn, hL => by
    have V := foldC_ok left n L (by omega) hL
    have hlt : n < L.length := by omega
    have et : L.take (n + 1) = L.take n ++ [L[n]] := by rw [List.take_add_one, List.getElem?_eq_getElem hlt]; rfl
    rw [et, foldC_snoc]
    have hp := hL _ (List.getElem_mem hlt)
    generalize L[n] = p at hp
    generalize L.take n = M at V
    generalize foldC ns left M = st at V
    unfold stepC
    by_cases c : (withinN ns left p).sum > st.1 * (p.2 - p.1 + 1)
    · rw [if_pos c]
      have lt : st.1 < cartsI ns left p := by
        refine Decidable.byContradiction fun z => ?_
        have := (cartsI_le (ns := ns) (left := left) hp).mp (show cartsI ns left p ≤ st.1 by omega)
        omega
      have hpos := V.pos
      refine ⟨by show 0 ≤ cartsI ns left p; omega, fun q hq => ?_, ⟨fun h => (by cases h), fun h => ?_⟩, fun q hq => ?_⟩
      · rcases List.mem_append.mp hq with h | h
        · have := V.all q h; show cartsI ns left q ≤ cartsI ns left p; omega
        · rw [List.mem_singleton.mp h]; exact Int.le_refl _
      · have : cartsI ns left p = 0 := h
        omega
      · have hq : p = q := Option.some.inj hq
        subst hq
        refine ⟨List.mem_append_right _ (List.mem_singleton.mpr rfl), rfl, ?_⟩
        rw [List.filter_append, List.filter_eq_nil_iff.mpr fun q hq => ?_]
        · rw [List.nil_append, List.filter_cons, if_pos (decide_eq_true rfl)]; rfl
        · have := V.all q hq
          rw [decide_eq_true_iff]
          show ¬ cartsI ns left q = cartsI ns left p
          omega
    · rw [if_neg c]
      have le : cartsI ns left p ≤ st.1 := (cartsI_le hp).mpr (by omega)
      refine ⟨V.pos, fun q hq => ?_, V.non, fun q hq => ?_⟩
      · rcases List.mem_append.mp hq with h | h
        · exact V.all q h
        · rw [List.mem_singleton.mp h]; exact le
      · obtain ⟨a, b, e⟩ := V.one q hq
        refine ⟨List.mem_append_left _ a, b, ?_⟩
        rw [List.filter_append, List.head?_append, e]; rfl
/-! the lists by ranges -/
theorem loaded_le {k : Nat} (hk : k < ns.length) : (loadedN ns).filter (fun o => decide (o ≤ k)) = (List.range (k + 1)).filter fun j => decide (ns.getD j 0 > 0) := by
  unfold loadedN
  rw [List.filter_filter]
  have e : ns.length = (k + 1) + (ns.length - (k + 1)) := by omega
  rw [e, List.range_add, List.filter_append]
  rw [show (List.map (k + 1 + ·) (List.range (ns.length - (k + 1)))).filter (fun a => decide (a ≤ k) && decide (ns.getD a 0 > 0)) = [] from List.filter_eq_nil_iff.mpr fun x hx => by
    obtain ⟨y, _, rfl⟩ := List.mem_map.mp hx
    rw [decide_eq_false (by omega), Bool.false_and]; decide]
  rw [List.append_nil]
  refine List.filter_congr fun x hx => ?_
  rw [decide_eq_true (by have := List.mem_range.mp hx; omega), Bool.true_and]
theorem loaded_ge {k : Nat} (hk : k ≤ ns.length) : (loadedN ns).filter (fun o => decide (o ≥ k)) = ((List.range (ns.length - k)).map (k + ·)).filter fun j => decide (ns.getD j 0 > 0) := by
  unfold loadedN
  rw [List.filter_filter]
  have e : ns.length = k + (ns.length - k) := by omega
  rw [show List.range ns.length = List.range k ++ (List.range (ns.length - k)).map (k + ·) by rw [← List.range_add, ← e], List.filter_append]
  rw [show (List.range k).filter (fun a => decide (a ≥ k) && decide (ns.getD a 0 > 0)) = [] from List.filter_eq_nil_iff.mpr fun x hx => by
    rw [decide_eq_false (by have := List.mem_range.mp hx; omega), Bool.false_and]; decide]
  rw [List.nil_append]
  refine List.filter_congr fun x hx => ?_
  obtain ⟨y, _, rfl⟩ := List.mem_map.mp hx
  rw [decide_eq_true (by omega), Bool.true_and]
def rowX (ns : List Int) (wins : List (Int × Int)) (o : Nat) : List (Nat × Nat) := if ns.getD o 0 > 0 then ((List.range o).filter fun i => decide (ns.getD i 0 > 0) && decide ((wins.getD i (0, 0)).1 > (wins.getD o (0, 0)).2)).map fun i => (i, o) else []
theorem rowX_mem {o : Nat} {c : Nat × Nat} : c ∈ rowX ns wins o ↔ c.2 = o ∧ c.1 < o ∧ 0 < ns.getD c.1 0 ∧ 0 < ns.getD o 0 ∧ (wins.getD c.1 (0, 0)).1 > (wins.getD o (0, 0)).2 := by
  unfold rowX
  by_cases h : ns.getD o 0 > 0
  · rw [if_pos h, List.mem_map]
    constructor
    · rintro ⟨i, hi, rfl⟩
      obtain ⟨a, b⟩ := List.mem_filter.mp hi
      rw [Bool.and_eq_true, decide_eq_true_iff, decide_eq_true_iff] at b
      exact ⟨rfl, List.mem_range.mp a, b.1, h, b.2⟩
    · rintro ⟨a, b, c1, d, e⟩
      exact ⟨c.1, List.mem_filter.mpr ⟨List.mem_range.mpr b, by rw [decide_eq_true c1, decide_eq_true e]; rfl⟩, Prod.ext rfl a.symm⟩
  · rw [if_neg h]
    constructor
    · intro z; cases z
    · rintro ⟨_, _, _, d, _⟩; exact absurd d h
theorem crossed_rows : (List.range ns.length).flatMap (rowX ns wins) = crossedN ns wins := by
  have inj : ∀ {l1 l2 : List (Nat × Nat)}, (l1.map fun c => ((c.1 : Int), (c.2 : Int))) = (l2.map fun c => ((c.1 : Int), (c.2 : Int))) → l1 = l2 := fun {l1 l2} h => by
    have := congrArg (List.map fun p : Int × Int => (p.1.toNat, p.2.toNat)) h
    rw [List.map_map, List.map_map] at this
    have e : ((fun p : Int × Int => (p.1.toNat, p.2.toNat)) ∘ fun c : Nat × Nat => ((c.1 : Int), (c.2 : Int))) = id := by funext c; rfl
    rwa [e, List.map_id, List.map_id] at this
  refine inj (lex_uniq ?_ (crossed_pw ns wins) fun x => ?_)
  · rw [List.pairwise_map, List.pairwise_flatMap]
    refine ⟨fun o _ => ?_, ?_⟩
    · unfold rowX
      split
      · rw [List.pairwise_map]
        exact (List.Pairwise.filter _ List.pairwise_lt_range).imp fun {a b} h => .inr ⟨rfl, by show (a : Int) < (b : Int); omega⟩
      · exact .nil
    · refine List.pairwise_lt_range.imp fun {a b} h x hx y hy => ?_
      have e1 := (rowX_mem.mp hx).1
      have e2 := (rowX_mem.mp hy).1
      exact .inl (by show (x.2 : Int) < (y.2 : Int); omega)
  · rw [List.mem_map, List.mem_map]
    have : ∀ c : Nat × Nat, c ∈ (List.range ns.length).flatMap (rowX ns wins) ↔ c ∈ crossedN ns wins := fun c => by
      rw [List.mem_flatMap, show (c ∈ crossedN ns wins) = ((c.1, c.2) ∈ crossedN ns wins) from rfl, crossedN_iff]
      constructor
      · rintro ⟨o, ho, h⟩
        obtain ⟨rfl, a⟩ := rowX_mem.mp h
        exact ⟨a.1, List.mem_range.mp ho, a.2⟩
      · rintro ⟨a, b, e⟩
        exact ⟨c.2, List.mem_range.mpr b, rowX_mem.mpr ⟨rfl, a, e⟩⟩
    constructor
    · rintro ⟨c, hc, e⟩; exact ⟨c, (this c).mp hc, e⟩
    · rintro ⟨c, hc, e⟩; exact ⟨c, (this c).mpr hc, e⟩
end
section
variable {K : PySem.W.Frag} {H : Hp} {σ : L2.St}
/-- a comprehension over a range that only looks -/
theorem q_rngFM {j : Nat} {tt : TT} {te : TE} {vs : List Nat} {Q : VK} {N : Int} (f : Nat → Bool) (v : Nat → V) (hN : 0 ≤ N ∧ N ≤ 100000)
    (hw : ∀ x, wipe ((wipe σ vs).set j (some x)) vs = wipe σ vs)
    (ht : ∀ (i : Nat) (H1 : Hp), (i : Int) < N → Ex H H1 → ∀ QB : Bool → Hp → Prop, (∀ H2, Ex H1 H2 → QB (f i) H2) → tt ((wipe σ vs).set j (some (.int (i : Int)))) H1 QB)
    (he : ∀ (i : Nat) (H1 : Hp), (i : Int) < N → Ex H H1 → f i = true → ∀ Q' : VK, (∀ H2, Ex H1 H2 → Q' (v i) H2) → te ((wipe σ vs).set j (some (.int (i : Int)))) H1 Q')
    (k : ∀ p H', H p = none → H' p = some (.lst (((List.range N.toNat).filter f).map v)) → Ex H H' → Q (.ref p) H') : RngK (gName j) tt te vs σ Q [.int N] H := by
  have st : ∀ i, ((List.range (i + 1)).filter f).map v = ((List.range i).filter f).map v ++ (if f i = true then [v i] else []) := fun i => by
    rw [List.range_succ, List.filter_append, List.map_append]
    congr 1
    rw [List.filter_cons]
    cases f i <;> rfl
  refine q_lcRI (X := XN) (fun D i zs H' => zs = ((List.range i).filter f).map v) hN (fun _ _ _ _ _ _ h => h) (fun _ _ h => h) (fun D hD => rfl) (fun D hD => ?_) (fun p H' ys n h l r e => k p H' n (by rw [h, r]) e.toEx)
  rintro i x H1 H2 zs hi e1 hd hz ⟨e2, rfl⟩ Qn Qf kn kf
  subst e2
  have ez : (fun i : Nat => V.int (0 + (i : Int))) i = V.int (i : Int) := by show V.int (0 + (i : Int)) = _; rw [Int.zero_add]
  rw [ez]
  refine q_gName ⟨hw _, ht i H2 (by omega) e1.toEx _ fun H3 e3 => ?_⟩
  cases hf : f i with
  | false => exact iteF (kf H3 (FX.ex e3) (by show _ = _; rw [st, hf, hz]; simp))
  | true => exact iteT (he i H3 (by omega) (e1.toEx.tr e3) hf _ fun H4 e4 => kn _ H4 (FX.ex (e3.tr e4)) (by show _ = _; rw [st, hf, hz]; simp))
theorem q_rng2FM {j : Nat} {tt : TT} {te : TE} {vs : List Nat} {Q : VK} {M N : Int} (f : Nat → Bool) (v : Nat → V) (hM : -100000 ≤ M ∧ M ≤ 100000) (hN : -100000 ≤ N ∧ N ≤ 100000) (hz : (N - M).toNat ≤ 100000)
    (hw : ∀ x, wipe ((wipe σ vs).set j (some x)) vs = wipe σ vs)
    (ht : ∀ (i : Nat) (H1 : Hp), i < (N - M).toNat → Ex H H1 → ∀ QB : Bool → Hp → Prop, (∀ H2, Ex H1 H2 → QB (f i) H2) → tt ((wipe σ vs).set j (some (.int (M + (i : Int))))) H1 QB)
    (he : ∀ (i : Nat) (H1 : Hp), i < (N - M).toNat → Ex H H1 → f i = true → ∀ Q' : VK, (∀ H2, Ex H1 H2 → Q' (v i) H2) → te ((wipe σ vs).set j (some (.int (M + (i : Int))))) H1 Q')
    (k : ∀ p H', H p = none → H' p = some (.lst (((List.range (N - M).toNat).filter f).map v)) → Ex H H' → Q (.ref p) H') : Rng2K (gName j) tt te vs σ Q [.int M, .int N] H := by
  have st : ∀ i, ((List.range (i + 1)).filter f).map v = ((List.range i).filter f).map v ++ (if f i = true then [v i] else []) := fun i => by
    rw [List.range_succ, List.filter_append, List.map_append]
    congr 1
    rw [List.filter_cons]
    cases f i <;> rfl
  refine q_lcR2N (X := XN) (fun D i zs H' => zs = ((List.range i).filter f).map v) hM hN hz (fun _ _ _ _ _ _ h => h) (fun _ _ h => h) (fun D hD => rfl) (fun D hD => ?_) (fun p H' ys n h l r e => k p H' n (by rw [h, r]) e.toEx)
  rintro i x H1 H2 zs hi e1 hd hz ⟨e2, rfl⟩ Qn Qf kn kf
  subst e2
  refine q_gName ⟨hw _, ht i H2 hi e1.toEx _ fun H3 e3 => ?_⟩
  cases hf : f i with
  | false => exact iteF (kf H3 (FX.ex e3) (by show _ = _; rw [st, hf, hz]; simp))
  | true => exact iteT (he i H3 hi (e1.toEx.tr e3) hf _ fun H4 e4 => kn _ H4 (FX.ex (e3.tr e4)) (by show _ = _; rw [st, hf, hz]; simp))
end
section
variable {ns : List Int}
def prefR (ns : List Int) (i t : Nat) : List Nat := ((List.range i).flatMap fun i => List.replicate (ns.getD i 0).toNat i) ++ List.replicate t i
theorem prefR_snoc (i t : Nat) : prefR ns i (t + 1) = prefR ns i t ++ [i] := by
  unfold prefR; rw [List.replicate_succ', List.append_assoc]
theorem prefR_next (i : Nat) : prefR ns i (ns.getD i 0).toNat = prefR ns (i + 1) 0 := by
  unfold prefR; rw [List.range_succ, List.flatMap_append]; simp
theorem prefR_end : prefR ns ns.length 0 = runsOf ns := by
  unfold prefR runsOf; simp
theorem prefR_sub {i t : Nat} (hi : i < ns.length) (ht : t ≤ (ns.getD i 0).toNat) : (prefR ns i t).Sublist (runsOf ns) := by
  have e : ns.length = (i + 1) + (ns.length - (i + 1)) := by omega
  unfold runsOf
  rw [e, List.range_add, List.flatMap_append]
  refine List.Sublist.trans ?_ (List.sublist_append_left _ _)
  show (prefR ns i t).Sublist ((List.range (i + 1)).flatMap fun i => List.replicate (ns.getD i 0).toNat i)
  rw [List.range_succ, List.flatMap_append]
  refine List.Sublist.append (List.Sublist.refl _) ?_
  simp only [List.flatMap_cons, List.flatMap_nil, List.append_nil]
  exact (List.replicate_sublist_replicate _).mpr ht
def lastL (ms : List Int) : List Int := if ms = [] then [] else [ms.getLastD 0]
theorem cut_lastI (ms : List Int) : cutV (iV ms) (some (-1)) none = iV (lastL ms) := by
  unfold cutV lastL
  rw [List.length_map]
  by_cases h : ms = []
  · subst h; rfl
  · rw [if_neg h]
    have hp := List.length_pos_iff.mpr h
    have e1 : HT.sIx ms.length 0 (some (-1)) = ms.length - 1 := by
      show (if (-1 : Int) < 0 then ((-1 : Int) + (ms.length : Int)).toNat else min (-1 : Int).toNat ms.length) = _
      rw [if_pos (by decide)]; omega
    rw [e1]
    show ((iV ms).drop (ms.length - 1)).take (ms.length - (ms.length - 1)) = [V.int (ms.getLastD 0)]
    rw [show ms.length - (ms.length - 1) = 1 by omega]
    have e2 : ms = ms.dropLast ++ [ms.getLast h] := (List.dropLast_concat_getLast h).symm
    have e3 : ms.getLastD 0 = ms.getLast h := by rw [List.getLastD_eq_getLast?, List.getLast?_eq_some_getLast h]; rfl
    rw [e3]
    generalize ms.getLast h = x at e2
    rw [e2]
    unfold iV
    rw [List.map_append, List.length_append, List.drop_left' (by simp)]; rfl
theorem great_two {f : Int} {ms : List Int} : greatI ([f] ++ lastL ms) = if ms = [] then f else if ms.getLastD 0 < f then f else ms.getLastD 0 := by
  unfold lastL
  by_cases h : ms = []
  · rw [if_pos h, if_pos h]
    exact (great_of (ns := [f]) (List.mem_singleton.mpr rfl) fun n hn => by rw [List.mem_singleton.mp hn]; exact Int.le_refl _).symm
  · rw [if_neg h, if_neg h]
    refine (great_of ?_ fun n hn => ?_).symm
    · split
      · exact List.mem_cons_self
      · exact List.mem_cons_of_mem _ (List.mem_singleton.mpr rfl)
    · simp only [List.cons_append, List.nil_append, List.mem_cons, List.not_mem_nil, or_false] at hn
      rcases hn with rfl | rfl <;> split <;> omega
theorem law_day {many f : Int} {fs ms : List Int} (hm : 1 ≤ many) (V : InvE many fs ms) : greatI ([f] ++ lastL ms) + (if decide (many ≤ ((ms.count (greatI ([f] ++ lastL ms)) : Nat) : Int)) = true then 1 else 0) = earlyI ms f many := by
  rw [great_two]
  unfold earlyI
  by_cases h : ms = []
  · subst h
    rw [if_pos rfl, if_pos rfl, if_neg (by rw [decide_eq_true_iff]; show ¬ many ≤ ((0 : Nat) : Int); omega)]
    omega
  · rw [if_neg h, if_neg h]
    generalize (if ms.getLastD 0 < f then f else ms.getLastD 0) = x
    have := V.cnt x
    by_cases c : ((ms.count x : Nat) : Int) = many
    · rw [if_pos c, if_pos (decide_eq_true (by omega))]
    · rw [if_neg c, if_neg (by rw [decide_eq_true_iff]; omega)]; omega
theorem firsts_pw {wins : List (Int × Int)} : (firstsOf ns (leftN ns wins)).Pairwise (· ≤ ·) := runs_map_pw fun i j hi hj h => by
  rw [leftN_get hi, leftN_get hj]; exact firstN_mono hi h
end
/-! # what is told of carts, as data -/
abbrev stC (ns : List Int) (wins : List (Int × Int)) (d : Int) : Int × Option (Int × Int) := foldC ns (leftN ns wins) (spansF 1 (d + 1))
structure TellC (H0 H : Hp) (p : Addr) (ns : List Int) (wins : List (Int × Int)) (d : Int) : Prop where
  np : H0 p = none
  never : ∀ c t, crossedN ns wins = c :: t → ∃ q, H p = some (.tup [.str "never", .ref q]) ∧ H q = some (.tup [.int (c.1 : Int), .int (c.2 : Int)])
  carts : crossedN ns wins = [] → ∃ q v, H0 q = none ∧ H p = some (.tup [.str "carts", .int (stC ns wins d).1, .ref q, v]) ∧ H q = some (.lst (iV (schedN ns (leftN ns wins) (stC ns wins d).1 ns.length))) ∧
    ((stC ns wins d).2 = none → v = .non) ∧ ∀ s, (stC ns wins d).2 = some s → ∃ r, v = .ref r ∧ H r = some (.tup [.int s.1, .int s.2])
theorem TellC.keep {H0 H H' : Hp} {p : Addr} {ns : List Int} {wins : List (Int × Int)} {d : Int} (h : TellC H0 H p ns wins d) (f : ∀ a us, H a = some (.tup us) → H' a = some (.tup us)) (g : ∀ a us, H0 a = none → H a = some (.lst us) → H' a = some (.lst us)) : TellC H0 H' p ns wins d := by
  refine ⟨h.np, fun c t hc => ?_, fun hc => ?_⟩
  · obtain ⟨q, a, b⟩ := h.never c t hc
    exact ⟨q, f _ _ a, f _ _ b⟩
  · obtain ⟨q, v, n, a, b, c, e⟩ := h.carts hc
    refine ⟨q, v, n, f _ _ a, g _ _ n b, c, fun s hs => ?_⟩
    obtain ⟨r, x, y⟩ := e s hs
    exact ⟨r, x, f _ _ y⟩
theorem TellC.ex {H0 H H' : Hp} {p : Addr} {ns : List Int} {wins : List (Int × Int)} {d : Int} (h : TellC H0 H p ns wins d) (e : Ex H H') : TellC H0 H' p ns wins d := h.keep (fun _ _ x => e _ _ x) fun _ _ _ x => e _ _ x
theorem TellC.pre {H0 H1 H : Hp} {p : Addr} {ns : List Int} {wins : List (Int × Int)} {d : Int} (h : TellC H1 H p ns wins d) (e : Ex H0 H1) : TellC H0 H p ns wins d := by
  refine ⟨e.free h.np, h.never, fun hc => ?_⟩
  obtain ⟨q, v, n, r⟩ := h.carts hc
  exact ⟨q, v, e.free n, r⟩
def papD (o : Option (Int × Int)) : PyData := match o with
  | none => .none
  | some s => .tuple [.int s.1, .int s.2]
def tellD (ns : List Int) (wins : List (Int × Int)) (d : Int) : PyData := match crossedN ns wins with
  | c :: _ => .tuple [.str "never", .tuple [.int (c.1 : Int), .int (c.2 : Int)]]
  | [] => .tuple [.str "carts", .int (stC ns wins d).1, .list ((schedN ns (leftN ns wins) (stC ns wins d).1 ns.length).map PyData.int), papD (stC ns wins d).2]
theorem TellC.dd {K : PySem.W.Frag} {H0 H : Hp} {p : Addr} {ns : List Int} {wins : List (Int × Int)} {d : Int} (h : TellC H0 H p ns wins d) : Dd K H (.ref p) (tellD ns wins d) := by
  unfold tellD
  cases hc : crossedN ns wins with
  | cons c t =>
    obtain ⟨q, a, b⟩ := h.never c t hc
    exact .tup (SqT.of a) (.cons (.str _) (.cons (.tup (SqT.of b) (dd_ints [(c.1 : Int), (c.2 : Int)])) .nil))
  | nil =>
    obtain ⟨q, v, n, a, b, c, e⟩ := h.carts hc
    refine .tup (SqT.of a) (.cons (.str _) (.cons (.int _) (.cons (.lst (SqL.of b) (dd_ints _)) (.cons ?_ .nil))))
    cases hs : (stC ns wins d).2 with
    | none => rw [c hs]; exact .non
    | some s =>
      obtain ⟨r, rfl, y⟩ := e s hs
      exact .tup (SqT.of y) (dd_ints [s.1, s.2])
section
variable {ns : List Int} {wins : List (Int × Int)} {d : Int}
theorem stC_ok : FoldC ns (leftN ns wins) (spansF 1 (d + 1)) (stC ns wins d) := by
  have := foldC_ok (ns := ns) (leftN ns wins) (spansF 1 (d + 1)).length (spansF 1 (d + 1)) (Nat.le_refl _) fun p hp => (spansF_mem.mp hp).2.1
  rwa [List.take_length] at this
theorem stC_zero (h0 : ∀ n ∈ ns, 0 ≤ n) (hs : ns.sum = 0) : (stC ns wins d).1 = 0 ∧ (stC ns wins d).2 = none := by
  have V := stC_ok (ns := ns) (wins := wins) (d := d)
  have z : (stC ns wins d).1 = 0 := by
    cases e : (stC ns wins d).2 with
    | none => exact V.non.mp e
    | some p =>
      obtain ⟨a, b, _⟩ := V.one p e
      have hp := (spansF_mem.mp a).2.1
      have w : cartsI ns (leftN ns wins) p ≤ 0 := (cartsI_le hp).mpr (by
        rw [Int.zero_mul, within_count h0]
        have l := List.length_filter_le (fun r => inB p ((leftN ns wins).getD r none)) (runsOf ns)
        have rl := runsOf_len h0
        omega)
      have := V.pos
      omega
  exact ⟨z, V.non.mpr z⟩
theorem stC_great (g : GoodW ns wins d) (hs : ns.sum ≠ 0) (hd : 1 ≤ d) : (stC ns wins d).1 = greatI ((spansF 1 (d + 1)).map (cartsI ns (leftN ns wins))) ∧ ∃ p, (stC ns wins d).2 = some p ∧ ((spansF 1 (d + 1)).filter fun p => decide (cartsI ns (leftN ns wins) p = (stC ns wins d).1)).head? = some p := by
  have V := stC_ok (ns := ns) (wins := wins) (d := d)
  have m1 := Int.le_trans (some_cart g hs hd) (V.all (1, d) (spansF_mem.mpr ⟨Int.le_refl _, hd, Int.le_refl _⟩))
  cases e : (stC ns wins d).2 with
  | none => have := V.non.mp e; omega
  | some p =>
    obtain ⟨a, b, c⟩ := V.one p e
    exact ⟨great_of (List.mem_map.mpr ⟨p, a, b⟩) fun n hn => by
      obtain ⟨q, hq, rfl⟩ := List.mem_map.mp hn
      exact V.all q hq, p, rfl, c⟩
theorem sched_zero (h0 : ∀ n ∈ ns, 0 ≤ n) (hs : ns.sum = 0) (left : List (Option (Int × Int))) (hl : ∀ i, left.getD i none = none → ns.getD i 0 = 0) (many : Int) : schedN ns left many ns.length = [] := by
  rw [schedN_early hl]
  have : runsOf ns = [] := List.eq_nil_of_length_eq_zero (by have := runsOf_len h0; omega)
  show earlyS many ((runsOf ns).map _) = []
  rw [this]; rfl
end
theorem GoodW.of {H : Hp} {ns : List Int} {xs : List V} {wins : List (Int × Int)} {d : Int} (hw : All2 (fun x p => SpanAt H x d p) xs wins) (hl : wins.length = ns.length) (n0 : ∀ n ∈ ns, 0 ≤ n) (un : crossedN ns wins = []) : GoodW ns wins d := by
  refine ⟨hl, n0, fun i hi => ?_, un⟩
  have hlt : i < wins.length := by omega
  obtain ⟨x, _, q, _, _, a, b, c⟩ := hw.atR (List.getElem?_eq_getElem hlt)
  have e : wins.getD i (0, 0) = wins[i] := by rw [List.getD_eq_getElem?_getD, List.getElem?_eq_getElem hlt]; rfl
  rw [e]
  exact ⟨a, b, c⟩
theorem stC_pos {ns : List Int} {wins : List (Int × Int)} {d : Int} (g : GoodW ns wins d) (hd : 1 ≤ d) (hs : ns.sum ≠ 0) : 1 ≤ (stC ns wins d).1 :=
  Int.le_trans (some_cart g hs hd) ((stC_ok (ns := ns) (wins := wins) (d := d)).all (1, d) (spansF_mem.mpr ⟨Int.le_refl _, hd, Int.le_refl _⟩))
section
variable {ns : List Int} {wins : List (Int × Int)} {d : Int}
theorem int_mid {n : Int} (h0 : -1 ≤ n) (h1 : n < 1000000) {m k : Nat} (hm : 10 ≤ m) (hk : 3 ≤ k) : Mid (.int n) m k := (int_Sm h0 h1).mid.mono hm hk
theorem ints_mid {ms : List Int} (h : ∀ n ∈ ms, -1 ≤ n ∧ n < 1000000) : Mid (.list (ms.map PyData.int)) (12 * ms.length + 3) 4 := by
  have := mid_lst (m := 10) (k := 3) (ds := ms.map PyData.int) fun x hx => by
    obtain ⟨n, hn, rfl⟩ := List.mem_map.mp hx
    exact int_mid (h n hn).1 (h n hn).2 (Nat.le_refl _) (Nat.le_refl _)
  rwa [List.length_map] at this
theorem tup_mid {ms : List Int} (h : ∀ n ∈ ms, -1 ≤ n ∧ n < 1000000) : Mid (.tuple (ms.map PyData.int)) (12 * ms.length + 3) 4 := by
  have := mid_tpl (m := 10) (k := 3) (ds := ms.map PyData.int) fun x hx => by
    obtain ⟨n, hn, rfl⟩ := List.mem_map.mp hx
    exact int_mid (h n hn).1 (h n hn).2 (Nat.le_refl _) (Nat.le_refl _)
  rwa [List.length_map] at this
theorem carts_le (h0 : ∀ n ∈ ns, 0 ≤ n) {p : Int × Int} (hp : p.1 ≤ p.2) : cartsI ns (leftN ns wins) p ≤ ns.sum := by
  refine (cartsI_le hp).mpr ?_
  rw [within_count h0, ← runsOf_len h0]
  have l := List.length_filter_le (fun r => inB p ((leftN ns wins).getD r none)) (runsOf ns)
  have : ((runsOf ns).length : Int) * 1 ≤ ((runsOf ns).length : Int) * (p.2 - p.1 + 1) := Int.mul_le_mul_of_nonneg_left (by omega) (by omega)
  omega
theorem stC_le (h0 : ∀ n ∈ ns, 0 ≤ n) : 0 ≤ (stC ns wins d).1 ∧ (stC ns wins d).1 ≤ ns.sum := by
  have V := stC_ok (ns := ns) (wins := wins) (d := d)
  refine ⟨V.pos, ?_⟩
  cases e : (stC ns wins d).2 with
  | none => rw [V.non.mp e]; exact sum_nonneg h0
  | some p =>
    obtain ⟨a, b, _⟩ := V.one p e
    rw [← b]; exact carts_le h0 (spansF_mem.mp a).2.1
theorem sched_days (h0 : ∀ n ∈ ns, 0 ≤ n) (g : crossedN ns wins = [] → GoodW ns wins d) (hd : 1 ≤ d) (un : crossedN ns wins = []) : ((schedN ns (leftN ns wins) (stC ns wins d).1 ns.length).length : Int) = ns.sum ∧ ∀ x ∈ schedN ns (leftN ns wins) (stC ns wins d).1 ns.length, 1 ≤ x ∧ x ≤ d := by
  by_cases hs : ns.sum = 0
  · rw [sched_zero h0 hs _ (fun i h => leftN_none h h0), hs]
    exact ⟨rfl, fun x h => by cases h⟩
  · have S := sched_ok (g un) (stC_pos (g un) hd hs) fun p a b c => (stC_ok (ns := ns) (wins := wins) (d := d)).all p (spansF_mem.mpr ⟨a, b, c⟩)
    exact ⟨S.len, S.days⟩
theorem tell_mid (hl : ns.length ≤ 12) (hn : ∀ n ∈ ns, 0 ≤ n ∧ n ≤ 60) (hd : 1 ≤ d ∧ d ≤ 60) (g : crossedN ns wins = [] → GoodW ns wins d) : Mid (tellD ns wins d) 100000 8 := by
  have n0 : ∀ n ∈ ns, 0 ≤ n := fun n h => (hn n h).1
  have s720 : 0 ≤ ns.sum ∧ ns.sum ≤ 720 := by
    have := sum_bound (m := 60) (ls := ns) hn
    omega
  unfold tellD
  cases hc : crossedN ns wins with
  | cons c t =>
    obtain ⟨a, b, _⟩ := crossedN_mem (show c ∈ crossedN ns wins by rw [hc]; exact List.mem_cons_self)
    refine (mid_tpl (m := 20000) (k := 5) (ds := [.str "never", .tuple ([(c.1 : Int), (c.2 : Int)].map PyData.int)]) fun x hx => ?_).mono (by simp) (by decide)
    simp only [List.mem_cons, List.not_mem_nil, or_false] at hx
    rcases hx with rfl | rfl
    · exact (sm_str (n := 5) ⟨by decide +kernel, by decide +kernel⟩).mid.mono (by decide) (by decide)
    · refine (tup_mid fun n hn => ?_).mono (by simp) (by decide)
      simp only [List.mem_cons, List.not_mem_nil, or_false] at hn
      rcases hn with rfl | rfl <;> omega
  | nil =>
    obtain ⟨z1, z2⟩ := sched_days n0 g hd.1 hc
    have z3 := stC_le (wins := wins) (d := d) n0
    refine (mid_tpl (m := 20000) (k := 5) (ds := [.str "carts", .int (stC ns wins d).1, .list ((schedN ns (leftN ns wins) (stC ns wins d).1 ns.length).map PyData.int), papD (stC ns wins d).2]) fun x hx => ?_).mono (by simp) (by decide)
    simp only [List.mem_cons, List.not_mem_nil, or_false] at hx
    rcases hx with rfl | rfl | rfl | rfl
    · exact (sm_str (n := 5) ⟨by decide +kernel, by decide +kernel⟩).mid.mono (by decide) (by decide)
    · exact int_mid (by omega) (by omega) (by decide) (by decide)
    · exact (ints_mid fun n hn => by have := z2 n hn; omega).mono (by omega) (by decide)
    · cases e : (stC ns wins d).2 with
      | none => exact sm_non.mid.mono (by decide) (by decide)
      | some p =>
        have hp := spansF_mem.mp ((stC_ok (ns := ns) (wins := wins) (d := d)).one p e).1
        refine (tup_mid (ms := [p.1, p.2]) fun n hn => ?_).mono (by simp) (by decide)
        simp only [List.mem_cons, List.not_mem_nil, or_false] at hn
        rcases hn with rfl | rfl <;> omega
def leftDt (o : Option (Int × Int)) : PyData := match o with
  | none => .none
  | some s => .tuple ([s.1, s.2].map PyData.int)
theorem left_dd {K : PySem.W.Frag} {H : Hp} : ∀ {us : List V} {ls : List (Option (Int × Int))}, All2 (LeftV H) us ls → DdAll K H us (ls.map leftDt)
  | _, _, .nil => .nil
  | _, _, .cons (x := u) (y := o) h r => by
    refine .cons ?_ (left_dd r)
    cases o with
    | none => rw [show u = V.non from h]; exact .non
    | some s =>
      obtain ⟨q, rfl, hq⟩ := h
      exact .tup (SqT.of hq) (dd_ints [s.1, s.2])
theorem left_mid (hl : ns.length ≤ 12) (n0 : ∀ n ∈ ns, 0 ≤ n) (w : ∀ i, i < ns.length → 1 ≤ (wins.getD i (0, 0)).1 ∧ (wins.getD i (0, 0)).1 ≤ (wins.getD i (0, 0)).2 ∧ (wins.getD i (0, 0)).2 ≤ 60) : Mid (.list ((leftN ns wins).map leftDt)) 10000 8 := by
  refine (mid_lst (m := 27) (k := 4) fun x hx => ?_).mono (by rw [List.length_map, leftN_len]; omega) (by decide)
  obtain ⟨o, ho, rfl⟩ := List.mem_map.mp hx
  unfold leftN at ho
  obtain ⟨i, hi, rfl⟩ := List.mem_map.mp ho
  unfold leftAt
  split
  · exact sm_non.mid.mono (by decide) (by decide)
  · rename_i c
    by_cases h : i ∈ loadedN ns
    · obtain ⟨o, ho, _, e1⟩ := firstN_at (wins := wins) h
      obtain ⟨o', ho', _, e2⟩ := lastN_at (wins := wins) h
      have a := w o (loadedN_mem ho).1
      have b := w o' (loadedN_mem ho').1
      refine (tup_mid fun n hn => ?_).mono (by simp) (by decide)
      simp only [List.mem_cons, List.not_mem_nil, or_false] at hn
      rcases hn with rfl | rfl
      · rw [e1]; omega
      · rw [e2]; omega
    · exfalso
      have hi' := List.mem_range.mp hi
      have p0 : 0 ≤ ns.getD i 0 := by
        rw [List.getD_eq_getElem?_getD, List.getElem?_eq_getElem hi']; exact n0 _ (List.getElem_mem hi')
      exact h (List.mem_filter.mpr ⟨hi, decide_eq_true (by omega)⟩)
theorem wins_ok {H : Hp} {xs : List V} (hw : All2 (fun x p => SpanAt H x d p) xs wins) (hl : wins.length = ns.length) : ∀ i, i < ns.length → 1 ≤ (wins.getD i (0, 0)).1 ∧ (wins.getD i (0, 0)).1 ≤ (wins.getD i (0, 0)).2 ∧ (wins.getD i (0, 0)).2 ≤ d := fun i hi => by
  have hlt : i < wins.length := by omega
  obtain ⟨x, _, q, _, _, a, b, c⟩ := hw.atR (List.getElem?_eq_getElem hlt)
  have e : wins.getD i (0, 0) = wins[i] := by rw [List.getD_eq_getElem?_getD, List.getElem?_eq_getElem hlt]; rfl
  rw [e]
  exact ⟨a, b, c⟩
theorem spans_dp {K : PySem.W.Frag} {H : Hp} {d : Int} : ∀ {xs : List V} {ws : List (Int × Int)}, All2 (fun x p => SpanAt H x d p) xs ws → DpAll K H xs (ws.map fun p => .tuple ([p.1, p.2].map PyData.int))
  | _, _, .nil => .nil
  | _, _, .cons (y := c) h r => by
    obtain ⟨q, rfl, hq, _⟩ := h
    exact .cons (.tup (SqT.of hq) (dp_ints [c.1, c.2])) (spans_dp r)
theorem spans_lay : ∀ ws : List (Int × Int), PyData.canLayAll0 (ws.map fun p => PyData.tuple ([p.1, p.2].map PyData.int)) = true ∧ PyData.depthAll (ws.map fun p => PyData.tuple ([p.1, p.2].map PyData.int)) ≤ 1
  | [] => ⟨by simp [PyData.canLayAll0], by simp [PyData.depthAll]⟩
  | c :: cs => by
    obtain ⟨a, b⟩ := spans_lay cs
    obtain ⟨x, y⟩ := shaped_all [c.1, c.2]
    rw [List.map_cons]
    simp only [PyData.canLayAll0, PyData.canLay0, PyData.depthAll, PyData.depth, a, x, y, Bool.and_self, true_and]
    omega
theorem spans_eqv : ∀ ws : List (Int × Int), PyData.eqvAll (ws.map fun p => PyData.tuple ([p.1, p.2].map PyData.int)) (ws.map fun p => PyData.tuple ([p.1, p.2].map PyData.int)) = true
  | [] => by simp [PyData.eqvAll]
  | c :: cs => by
    rw [List.map_cons]
    simp only [PyData.eqvAll, PyData.eqv, eqv_ints, spans_eqv cs, Bool.and_true]
    exact decide_eq_true trivial
def rowDt (ns : List Int) (wins : List (Int × Int)) : PyData := .list [.list (ns.map PyData.int), .list (wins.map fun p => .tuple ([p.1, p.2].map PyData.int))]
theorem row_shaped (ns : List Int) (wins : List (Int × Int)) : SeqAt.shaped (rowDt ns wins) = true := by
  obtain ⟨a, b⟩ := shaped_all ns
  obtain ⟨x, y⟩ := spans_lay wins
  unfold rowDt
  simp only [SeqAt.shaped, PyData.canLay0, PyData.canLayAll0, PyData.depth, PyData.depthAll, a, b, x, Bool.and_self, Bool.true_and]
  exact decide_eq_true (by omega)
theorem row_eqv (ns : List Int) (wins : List (Int × Int)) : PyData.eqv (rowDt ns wins) (rowDt ns wins) = true := by
  unfold rowDt
  simp only [PyData.eqv, PyData.eqvAll, eqv_ints, spans_eqv, Bool.and_true]
  exact decide_eq_true trivial
theorem row_dp {K : PySem.W.Frag} {H : Hp} {p a b : Addr} {xs : List V} {d : Int} (h : H p = some (.lst [.ref a, .ref b])) (ha : H a = some (.lst (iV ns))) (hb : H b = some (.lst xs)) (hw : All2 (fun x p => SpanAt H x d p) xs wins) : Dp K H (.ref p) (rowDt ns wins) :=
  .lst (SqL.of h) (.cons (.lst (SqL.of ha) (dp_ints _)) (.cons (.lst (SqL.of hb) (spans_dp hw)) .nil))
end

/-! # all rows of days that keep to the windows -/
/-- days from the one to the other, both with it -/
def daysF (b e : Int) : List Int := (List.range (e + 1 - b).toNat).map fun i : Nat => b + (i : Int)
theorem daysF_mem {b e x : Int} : x ∈ daysF b e ↔ b ≤ x ∧ x ≤ e := by
  unfold daysF
  rw [List.mem_map]
  constructor
  · rintro ⟨i, hi, rfl⟩
    have := List.mem_range.mp hi
    omega
  · rintro ⟨h1, h2⟩
    exact ⟨(x - b).toNat, List.mem_range.mpr (by omega), by omega⟩
def begunR (f : Int) (row : List Int) : Int := greatI ([f] ++ lastL row)
def longR (w : Int × Int) (row : List Int) : List (List Int) := (daysF (begunR w.1 row) w.2).map fun x => row ++ [x]
def rowsW : List (Int × Int) → List (List Int) := fun ws => ws.foldl (fun rs w => rs.flatMap (longR w)) [[]]
theorem rowsW_snoc (ws : List (Int × Int)) (w : Int × Int) : rowsW (ws ++ [w]) = (rowsW ws).flatMap (longR w) := by
  unfold rowsW; rw [List.foldl_append]; rfl
structure RowW (ws : List (Int × Int)) (row : List Int) : Prop where
  len : row.length = ws.length
  ord : row.Pairwise (· ≤ ·)
  win : ∀ k, k < ws.length → (ws.getD k (0, 0)).1 ≤ row.getD k 0 ∧ row.getD k 0 ≤ (ws.getD k (0, 0)).2
theorem begunR_le {f x : Int} {row : List Int} : begunR f row ≤ x ↔ f ≤ x ∧ (row ≠ [] → row.getLastD 0 ≤ x) := by
  unfold begunR
  rw [great_two]
  by_cases h : row = []
  · rw [if_pos h]; simp [h]
  · rw [if_neg h]
    simp only [h, ne_eq, not_false_eq_true, true_implies]
    split <;> omega
theorem pw_last {row : List Int} (h : row.Pairwise (· ≤ ·)) : ∀ x ∈ row, x ≤ row.getLastD 0 := by
  intro x hx
  have hne := List.ne_nil_of_mem hx
  have e : row = row.dropLast ++ [row.getLast hne] := (List.dropLast_concat_getLast hne).symm
  have eb : row.getLastD 0 = row.getLast hne := by rw [List.getLastD_eq_getLast?, List.getLast?_eq_some_getLast hne]; rfl
  rw [eb]
  rw [e] at h hx
  rcases List.mem_append.mp hx with m | m
  · exact (List.pairwise_append.mp h).2.2 x m _ (List.mem_singleton.mpr rfl)
  · rw [List.mem_singleton.mp m]; exact Int.le_refl _
theorem getP_lt {ws : List (Int × Int)} {w : Int × Int} {k : Nat} (h : k < ws.length) : (ws ++ [w]).getD k (0, 0) = ws.getD k (0, 0) := by
  rw [List.getD_eq_getElem?_getD, List.getElem?_append_left h, ← List.getD_eq_getElem?_getD]
theorem getP_eq {ws : List (Int × Int)} {w : Int × Int} {k : Nat} (h : k = ws.length) : (ws ++ [w]).getD k (0, 0) = w := by
  subst h
  rw [List.getD_eq_getElem?_getD, List.getElem?_append_right (Nat.le_refl _), Nat.sub_self]; rfl
theorem rowsW_take (ws : List (Int × Int)) : ∀ n, n ≤ ws.length → ∀ row, row ∈ rowsW (ws.take n) ↔ RowW (ws.take n) row
  | 0, _, row => by
    rw [List.take_zero]
    show row ∈ [[]] ↔ _
    rw [List.mem_singleton]
    constructor
    · rintro rfl; exact ⟨rfl, .nil, fun k hk => absurd hk (by simp)⟩
    · intro h; exact List.eq_nil_of_length_eq_zero h.len
  | n + 1, hn, row => by
    have hlt : n < ws.length := by omega
    have et : ws.take (n + 1) = ws.take n ++ [ws[n]] := by rw [List.take_add_one, List.getElem?_eq_getElem hlt]; rfl
    have ih := rowsW_take ws n (by omega)
    rw [et, rowsW_snoc, List.mem_flatMap]
    generalize ws[n] = w
    generalize ws.take n = us at ih
    constructor
    · rintro ⟨r, hr, hm⟩
      obtain ⟨x, hx, rfl⟩ := List.mem_map.mp hm
      obtain ⟨l, o, wi⟩ := (ih r).mp hr
      obtain ⟨a, b⟩ := daysF_mem.mp hx
      obtain ⟨a1, a2⟩ := begunR_le.mp a
      refine ⟨by simp [l], ?_, fun k hk => ?_⟩
      · rw [List.pairwise_append]
        refine ⟨o, List.pairwise_singleton _ _, fun y hy z hz => ?_⟩
        rw [List.mem_singleton.mp hz]
        exact Int.le_trans (pw_last o y hy) (a2 (List.ne_nil_of_mem hy))
      · rw [List.length_append] at hk
        by_cases h : k < us.length
        · rw [getP_lt h, getD_snoc_lt (by omega)]; exact wi k h
        · have : k = us.length := by simp at hk; omega
          rw [getP_eq this, getD_snoc_eq (by omega)]
          exact ⟨a1, b⟩
    · rintro ⟨l, o, wi⟩
      rw [List.length_append] at l
      have hne : row ≠ [] := fun e => by subst e; simp at l
      have e : row = row.dropLast ++ [row.getLast hne] := (List.dropLast_concat_getLast hne).symm
      generalize row.getLast hne = x at e
      generalize row.dropLast = r at e
      subst e
      have rl : r.length = us.length := by simp at l; omega
      rw [List.pairwise_append] at o
      have wl := wi us.length (by simp)
      rw [getP_eq rfl, getD_snoc_eq rl.symm] at wl
      refine ⟨r, (ih r).mpr ⟨rl, o.1, fun k hk => ?_⟩, List.mem_map.mpr ⟨x, daysF_mem.mpr ⟨begunR_le.mpr ⟨wl.1, fun hr => o.2.2 _ (lastD_mem hr) _ (List.mem_singleton.mpr rfl)⟩, wl.2⟩, rfl⟩⟩
      have := wi k (by rw [List.length_append]; omega)
      rwa [getP_lt hk, getD_snoc_lt (by omega)] at this
theorem rowsW_iff {ws : List (Int × Int)} {row : List Int} : row ∈ rowsW ws ↔ RowW ws row := by
  have := rowsW_take ws ws.length (Nat.le_refl _) row
  rwa [List.take_length] at this
/-- the windows of all loads -/
def winsL (ns : List Int) (wins : List (Int × Int)) : List (Int × Int) := (runsOf ns).map fun r => wins.getD r (0, 0)
theorem filter_len_le {α β : Type} {f : α → Bool} {g : β → Bool} : ∀ {xs : List α} {ys : List β}, xs.length = ys.length → (∀ i (hi : i < xs.length) (hj : i < ys.length), f xs[i] = true → g ys[i] = true) → (xs.filter f).length ≤ (ys.filter g).length
  | [], [], _, _ => Nat.le_refl _
  | x :: xs, y :: ys, hl, h => by
    have ih := filter_len_le (f := f) (g := g) (xs := xs) (ys := ys) (by simpa using hl) fun i hi hj => h (i + 1) (by simp; omega) (by simp; omega)
    have h0 := h 0 (by simp) (by simp)
    rw [List.filter_cons, List.filter_cons]
    cases hf : f x with
    | true =>
      have : g y = true := h0 hf
      rw [if_pos rfl, if_pos this]
      simp only [List.length_cons]; omega
    | false =>
      rw [if_neg (by decide)]
      split
      · simp only [List.length_cons]; omega
      · exact ih
theorem days_count {m : Int} {row : List Int} (h : ∀ x, ((row.count x : Nat) : Int) ≤ m) (b : Int) : ∀ n : Nat, (((row.filter fun x => decide (b ≤ x) && decide (x < b + (n : Int))).length : Nat) : Int) ≤ m * (n : Int)
  | 0 => by
    rw [List.filter_eq_nil_iff.mpr fun x _ => by
      rw [Bool.and_eq_true, decide_eq_true_iff, decide_eq_true_iff]; omega]
    simp
  | n + 1 => by
    have ih := days_count h b n
    have c := h (b + (n : Int))
    have e : ∀ xs : List Int, (xs.filter fun x => decide (b ≤ x) && decide (x < b + ((n + 1 : Nat) : Int))).length = (xs.filter fun x => decide (b ≤ x) && decide (x < b + (n : Int))).length + xs.count (b + (n : Int)) := fun xs => by
      induction xs with
      | nil => rfl
      | cons x t ih =>
        rw [List.filter_cons, List.filter_cons, List.count_cons]
        by_cases h1 : x = b + (n : Int)
        · subst h1
          rw [if_pos (by rw [Bool.and_eq_true, decide_eq_true_iff, decide_eq_true_iff]; omega), if_neg (by rw [Bool.and_eq_true, decide_eq_true_iff, decide_eq_true_iff]; omega), if_pos (by simp)]
          simp only [List.length_cons]; omega
        · rw [if_neg (c := (x == b + (n : Int)) = true) (by simpa using h1)]
          by_cases h2 : b ≤ x ∧ x < b + (n : Int)
          · rw [if_pos (by rw [Bool.and_eq_true, decide_eq_true_iff, decide_eq_true_iff]; omega), if_pos (by rw [Bool.and_eq_true, decide_eq_true_iff, decide_eq_true_iff]; exact h2)]
            simp only [List.length_cons]; omega
          · rw [if_neg (by rw [Bool.and_eq_true, decide_eq_true_iff, decide_eq_true_iff]; omega), if_neg (by rw [Bool.and_eq_true, decide_eq_true_iff, decide_eq_true_iff]; exact h2)]
            omega
    rw [e, show (((n + 1 : Nat) : Int)) = (n : Int) + 1 by omega, Int.mul_add, Int.mul_one]
    omega
section
variable {ns : List Int} {wins : List (Int × Int)} {d : Int}
theorem winsL_len : (winsL ns wins).length = (runsOf ns).length := List.length_map ..
theorem winsL_get {k : Nat} (hk : k < (runsOf ns).length) : (winsL ns wins).getD k (0, 0) = wins.getD ((runsOf ns).getD k 0) (0, 0) := by
  unfold winsL
  rw [List.getD_eq_getElem?_getD, List.getElem?_map, List.getElem?_eq_getElem hk, List.getD_eq_getElem?_getD (l := runsOf ns), List.getElem?_eq_getElem hk]; rfl
theorem loaded_at {o : Nat} (h : o ∈ loadedN ns) : ∃ j, j < (runsOf ns).length ∧ (runsOf ns).getD j 0 = o := by
  obtain ⟨a, b⟩ := loadedN_mem h
  have m : o ∈ runsOf ns := List.mem_flatMap.mpr ⟨o, List.mem_range.mpr a, List.mem_replicate.mpr ⟨by omega, rfl⟩⟩
  obtain ⟨j, hj, e⟩ := List.mem_iff_getElem.mp m
  exact ⟨j, hj, by rw [List.getD_eq_getElem?_getD, List.getElem?_eq_getElem hj]; exact e⟩
theorem runs_lt {j k : Nat} (hj : j < (runsOf ns).length) (hk : k < (runsOf ns).length) (h : (runsOf ns).getD j 0 < (runsOf ns).getD k 0) : j < k := by
  refine Decidable.byContradiction fun c => ?_
  rw [List.getD_eq_getElem?_getD, List.getElem?_eq_getElem hj, List.getD_eq_getElem?_getD, List.getElem?_eq_getElem hk] at h
  by_cases e : j = k
  · subst e; omega
  · have := List.pairwise_iff_getElem.mp (runsOf_pw (ns := ns)) k j hk hj (by omega)
    simp only [Option.getD_some] at h
    omega
theorem row_le {row : List Int} (h : row.Pairwise (· ≤ ·)) {j k : Nat} (hjk : j ≤ k) (hk : k < row.length) : row.getD j 0 ≤ row.getD k 0 := by
  rw [List.getD_eq_getElem?_getD, List.getElem?_eq_getElem (by omega), List.getD_eq_getElem?_getD, List.getElem?_eq_getElem hk]
  by_cases e : j = k
  · subst e; exact Int.le_refl _
  · exact List.pairwise_iff_getElem.mp h j k (by omega) hk (by omega)
/-- a row keeps to the days left, too -/
theorem row_left {row : List Int} (h : RowW (winsL ns wins) row) {k : Nat} (hk : k < (runsOf ns).length) : firstN ns wins ((runsOf ns).getD k 0) ≤ row.getD k 0 ∧ row.getD k 0 ≤ lastN ns wins ((runsOf ns).getD k 0) := by
  have rl : row.length = (runsOf ns).length := h.len.trans winsL_len
  have lk := runsOf_loaded (getD_mem hk)
  constructor
  · obtain ⟨o, ho, hok, e⟩ := firstN_at (wins := wins) lk
    rw [e]
    obtain ⟨j, hj, ej⟩ := loaded_at ho
    by_cases c : o = (runsOf ns).getD k 0
    · have w := (h.win k (by rw [winsL_len]; exact hk)).1
      rw [winsL_get hk, ← c] at w
      exact w
    · have jk := runs_lt hj hk (by omega)
      have w := (h.win j (by rw [winsL_len]; exact hj)).1
      rw [winsL_get hj, ej] at w
      exact Int.le_trans w (row_le h.ord (Nat.le_of_lt jk) (by omega))
  · obtain ⟨o, ho, hok, e⟩ := lastN_at (wins := wins) lk
    rw [e]
    obtain ⟨j, hj, ej⟩ := loaded_at ho
    by_cases c : o = (runsOf ns).getD k 0
    · have w := (h.win k (by rw [winsL_len]; exact hk)).2
      rw [winsL_get hk, ← c] at w
      exact w
    · have jk := runs_lt hk hj (by omega)
      have w := (h.win j (by rw [winsL_len]; exact hj)).2
      rw [winsL_get hj, ej] at w
      exact Int.le_trans (row_le h.ord (Nat.le_of_lt jk) (by omega)) w
/-- no row where runs cross -/
theorem rows_crossed {c : Nat × Nat} {t : List (Nat × Nat)} (h : crossedN ns wins = c :: t) : rowsW (winsL ns wins) = [] := by
  refine List.eq_nil_iff_forall_not_mem.mpr fun row hr => ?_
  have R := rowsW_iff.mp hr
  have rl : row.length = (runsOf ns).length := R.len.trans winsL_len
  obtain ⟨x1, x2, x3, x4, x5⟩ := crossedN_mem (show c ∈ crossedN ns wins by rw [h]; exact List.mem_cons_self)
  obtain ⟨j, hj, ej⟩ := loaded_at (ns := ns) (o := c.1) (List.mem_filter.mpr ⟨List.mem_range.mpr (by omega), decide_eq_true x3⟩)
  obtain ⟨k, hk, ek⟩ := loaded_at (ns := ns) (o := c.2) (List.mem_filter.mpr ⟨List.mem_range.mpr (by omega), decide_eq_true x4⟩)
  have jk := runs_lt hj hk (by omega)
  have a := (R.win j (by rw [winsL_len]; exact hj)).1
  have b := (R.win k (by rw [winsL_len]; exact hk)).2
  rw [winsL_get hj, ej] at a
  rw [winsL_get hk, ek] at b
  have := row_le R.ord (Nat.le_of_lt jk) (by omega)
  omega
def mostR (row : List Int) : Int := greatI ([0] ++ row.map fun x => ((row.count x : Nat) : Int))
theorem mostR_ge (row : List Int) : 0 ≤ mostR row ∧ ∀ x, ((row.count x : Nat) : Int) ≤ mostR row := by
  have z : 0 ≤ mostR row := great_ge _ (List.mem_append_left _ (List.mem_singleton.mpr rfl))
  refine ⟨z, fun x => ?_⟩
  by_cases h : x ∈ row
  · exact great_ge _ (List.mem_append_right _ (List.mem_map.mpr ⟨x, h, rfl⟩))
  · rw [List.count_eq_zero.mpr h]; exact z
theorem mostR_le {row : List Int} {m : Int} (h0 : 0 ≤ m) (h : ∀ x, ((row.count x : Nat) : Int) ≤ m) : mostR row ≤ m := by
  have hm : mostR row ∈ [0] ++ row.map (fun x => ((row.count x : Nat) : Int)) := great_mem (by simp)
  rcases List.mem_append.mp hm with e | e
  · rw [List.mem_singleton.mp e]; exact h0
  · obtain ⟨x, _, e⟩ := List.mem_map.mp e
    rw [← e]; exact h x
theorem row_most (n0 : ∀ n ∈ ns, 0 ≤ n) {row : List Int} (h : RowW (winsL ns wins) row) {p : Int × Int} (hp : p.1 ≤ p.2) : cartsI ns (leftN ns wins) p ≤ mostR row := by
  refine (cartsI_le hp).mpr ?_
  rw [within_count n0]
  have rl : row.length = (runsOf ns).length := h.len.trans winsL_len
  have l : ((runsOf ns).filter fun r => inB p ((leftN ns wins).getD r none)).length ≤ (row.filter fun x => decide (p.1 ≤ x) && decide (x < p.1 + (((p.2 - p.1 + 1).toNat : Nat) : Int))).length := by
    refine filter_len_le rl.symm fun i hi hj hf => ?_
    have li := runsOf_loaded (List.getElem_mem hi)
    have hf : inB p ((leftN ns wins).getD (runsOf ns)[i] none) = true := hf
    rw [leftN_get li] at hf
    have hf : (decide (p.1 ≤ firstN ns wins (runsOf ns)[i]) && decide (lastN ns wins (runsOf ns)[i] ≤ p.2)) = true := hf
    rw [Bool.and_eq_true, decide_eq_true_iff, decide_eq_true_iff] at hf
    have rl2 := row_left h hi
    rw [List.getD_eq_getElem?_getD, List.getElem?_eq_getElem hi, List.getD_eq_getElem?_getD, List.getElem?_eq_getElem hj] at rl2
    simp only [Option.getD_some] at rl2
    rw [Bool.and_eq_true, decide_eq_true_iff, decide_eq_true_iff]
    omega
  have c := days_count (mostR_ge row).2 p.1 (p.2 - p.1 + 1).toNat
  have e : (((p.2 - p.1 + 1).toNat : Nat) : Int) = p.2 - p.1 + 1 := by omega
  rw [e] at c l
  omega
/-- no row by as many carts has an earlier day -/
theorem early_least {m : Int} (hm : 1 ≤ m) {fs row : List Int} (hf : fs.Pairwise (· ≤ ·)) (hl : row.length = fs.length) (ho : row.Pairwise (· ≤ ·)) (hfr : ∀ k, k < fs.length → fs.getD k 0 ≤ row.getD k 0) (hc : ∀ x, ((row.count x : Nat) : Int) ≤ m) :
    ∀ n, n ≤ fs.length → ∀ k, k < n → (earlyS m (fs.take n)).getD k 0 ≤ row.getD k 0
  | 0, _, k, hk => absurd hk (Nat.not_lt_zero _)
  | n + 1, hn, k, hk => by
    have ih := early_least hm hf hl ho hfr hc n (by omega)
    have V := early_inv hm hf n (by omega)
    have hlt : n < fs.length := by omega
    have et : fs.take (n + 1) = fs.take n ++ [fs[n]] := by rw [List.take_add_one, List.getElem?_eq_getElem hlt]; rfl
    rw [et, earlyS_snoc]
    have fl : (fs.take n).length = n := by rw [List.length_take]; omega
    have ml : (earlyS m (fs.take n)).length = n := V.len.trans fl
    have fn : fs[n] ≤ row.getD n 0 := by
      have := hfr n hlt
      rwa [List.getD_eq_getElem?_getD, List.getElem?_eq_getElem hlt] at this
    have hle : ∀ k, k < (fs.take n).length → (fs.take n).getD k 0 ≤ fs[n] := fun k hk => by
      rw [List.getD_eq_getElem?_getD, List.getElem?_take, if_pos (by omega), List.getElem?_eq_getElem (by omega)]
      exact List.pairwise_iff_getElem.mp hf k n (by omega) hlt (by omega)
    generalize earlyS m (fs.take n) = ms at ih V ml
    generalize fs[n] = f at fn hle
    by_cases h : k < n
    · rw [getD_snoc_lt (by omega)]; exact ih k h
    · have ek : k = n := by omega
      subst ek
      rw [getD_snoc_eq ml.symm]
      unfold earlyI
      by_cases hne : ms = []
      · rw [if_pos hne]; exact fn
      · rw [if_neg hne]
        have hpos := List.length_pos_iff.mpr hne
        have hD : ms.getLastD 0 ≤ row.getD k 0 := by
          have e : ms.getLastD 0 = ms.getD (k - 1) 0 := by
            rw [List.getLastD_eq_getLast?, List.getLast?_eq_getElem?, List.getD_eq_getElem?_getD, ml]
          rw [e]
          exact Int.le_trans (ih (k - 1) (by omega)) (row_le ho (by omega) (by omega))
        have lm := V.last
        generalize ms.getLastD 0 = D at hD lm
        have hx : (if D < f then f else D) ≤ row.getD k 0 := by split <;> omega
        by_cases c : ((ms.count (if D < f then f else D) : Nat) : Int) = m
        · rw [if_pos c]
          have hin : (if D < f then f else D) ∈ ms := List.count_pos_iff.mp (by omega)
          have hxD : (if D < f then f else D) = D := by
            have := lm _ hin
            split at this
            · omega
            · rename_i z; rw [if_neg z]
          rw [hxD] at c hx ⊢
          refine Decidable.byContradiction fun z => ?_
          have hk' : k < row.length := by omega
          have rk : row.getD k 0 = D := by omega
          have cnt : ms.count D ≤ (row.take k).count D := by
            rw [List.count_eq_length_filter, List.count_eq_length_filter]
            refine filter_len_le (by rw [List.length_take]; omega) fun i hi hj hf => ?_
            have e1 : ms[i] = D := by simpa using hf
            have b1 := ih i (by omega)
            rw [List.getD_eq_getElem?_getD, List.getElem?_eq_getElem hi] at b1
            have b2 := row_le ho (show i ≤ k by omega) hk'
            rw [rk] at b2
            have e3 : row.getD i 0 = (row.take k)[i] := by
              rw [List.getElem_take, List.getD_eq_getElem?_getD, List.getElem?_eq_getElem (by omega)]; rfl
            rw [e3] at b1 b2
            simp only [Option.getD_some, e1] at b1
            simp only [beq_iff_eq]
            omega
          have tot : (row.take (k + 1)).count D ≤ row.count D := (List.take_sublist _ _).count_le _
          have er : row.take (k + 1) = row.take k ++ [row.getD k 0] := by
            rw [List.take_add_one, List.getElem?_eq_getElem hk', List.getD_eq_getElem?_getD, List.getElem?_eq_getElem hk']; rfl
          rw [er, List.count_append, rk, List.count_singleton_self] at tot
          have := hc D
          omega
        · rw [if_neg c]; exact hx
/-- what the whole law says of rows and what is told -/
structure Told49 (ns : List Int) (wins : List (Int × Int)) (d : Int) : Prop where
  inn : schedN ns (leftN ns wins) (stC ns wins d).1 ns.length ∈ rowsW (winsL ns wins)
  most : mostR (schedN ns (leftN ns wins) (stC ns wins d).1 ns.length) = (stC ns wins d).1
  least : ∀ row ∈ rowsW (winsL ns wins), (stC ns wins d).1 ≤ mostR row
  early : ∀ row ∈ rowsW (winsL ns wins), mostR row = (stC ns wins d).1 → ∀ k, k < row.length → (schedN ns (leftN ns wins) (stC ns wins d).1 ns.length).getD k 0 ≤ row.getD k 0
theorem told49 (g : GoodW ns wins d) (hd : 1 ≤ d) : Told49 ns wins d := by
  have least : ∀ row ∈ rowsW (winsL ns wins), (stC ns wins d).1 ≤ mostR row := fun row hr => by
    have V := stC_ok (ns := ns) (wins := wins) (d := d)
    cases e : (stC ns wins d).2 with
    | none => rw [V.non.mp e]; exact (mostR_ge row).1
    | some p =>
      obtain ⟨a, b, _⟩ := V.one p e
      rw [← b]
      exact row_most g.n0 (rowsW_iff.mp hr) (spansF_mem.mp a).2.1
  have wl := winsL_len (ns := ns) (wins := wins)
  by_cases hs : ns.sum = 0
  · have rl : runsOf ns = [] := List.eq_nil_of_length_eq_zero (by have := runsOf_len g.n0; omega)
    have z := (stC_zero (wins := wins) (d := d) g.n0 hs).1
    have ez := sched_zero g.n0 hs (leftN ns wins) (fun i h => leftN_none h g.n0) (stC ns wins d).1
    have wz : winsL ns wins = [] := by unfold winsL; rw [rl]; rfl
    refine ⟨by rw [ez, wz]; exact List.mem_singleton.mpr rfl, by rw [ez, z]; exact (great_of (ns := [0]) (List.mem_singleton.mpr rfl) fun n hn => by rw [List.mem_singleton.mp hn]; exact Int.le_refl _).symm, least, fun row hr _ k hk => ?_⟩
    have := (rowsW_iff.mp hr).len
    rw [wz] at this
    simp at this
    subst this
    exact absurd hk (Nat.not_lt_zero _)
  · have m1 := stC_pos (wins := wins) g hd hs
    have S := sched_ok g m1 fun p a b c => (stC_ok (ns := ns) (wins := wins) (d := d)).all p (spansF_mem.mpr ⟨a, b, c⟩)
    have slen : (schedN ns (leftN ns wins) (stC ns wins d).1 ns.length).length = (runsOf ns).length := by
      have := S.len
      have := runsOf_len g.n0
      omega
    have inn : schedN ns (leftN ns wins) (stC ns wins d).1 ns.length ∈ rowsW (winsL ns wins) := rowsW_iff.mpr ⟨slen.trans wl.symm, S.ord, fun k hk => by
      rw [wl] at hk
      rw [winsL_get hk]
      exact S.win k (by omega)⟩
    refine ⟨inn, Int.le_antisymm (mostR_le (by omega) S.cnt) (least _ inn), least, fun row hr hm k hk => ?_⟩
    have R := rowsW_iff.mp hr
    have rl : row.length = (runsOf ns).length := R.len.trans wl
    rw [schedN_early (fun i h => leftN_none h g.n0)]
    show (earlyS (stC ns wins d).1 (firstsOf ns (leftN ns wins))).getD k 0 ≤ _
    have fl : (firstsOf ns (leftN ns wins)).length = (runsOf ns).length := List.length_map ..
    have := early_least m1 firsts_pw (rl.trans fl.symm) R.ord (fun k hk => by
      rw [fl] at hk
      show ((runsOf ns).map _).getD k 0 ≤ _
      rw [getD_map hk, leftN_get (runsOf_loaded (getD_mem hk))]
      exact (row_left R hk).1) (fun x => by have := (mostR_ge row).2 x; omega) (firstsOf ns (leftN ns wins)).length (Nat.le_refl _) k (by omega)
    rwa [List.take_length] at this
end
theorem q_extendB {H : Hp} {Q : VK} {l b : Addr} {xs zs : List V} (h : H l = some (.lst xs)) (hb : H b = some (.lst zs)) (hz : xs.length + zs.length ≤ 100000) (q : ∀ H', H' l = some (.lst (xs ++ zs)) → Fb l H H' → Q .non H') : rExtend (.ref l) [.ref b] H Q :=
  ⟨l, b, xs, zs, rfl, rfl, h, hb, Nat.le_of_lt (small100k hz), q _ upd_same Fb.put⟩
theorem daysF_len {b e : Int} : (daysF b e).length = (e + 1 - b).toNat := by unfold daysF; rw [List.length_map, List.length_range]
theorem rowsW_len : ∀ (ws : List (Int × Int)) (rs : List (List Int)), (∀ w ∈ ws, 1 ≤ w.1 ∧ w.2 ≤ 4) → (ws.foldl (fun rs w => rs.flatMap (longR w)) rs).length ≤ rs.length * 4 ^ ws.length
  | [], rs, _ => by simp
  | w :: ws, rs, h => by
    rw [List.foldl_cons]
    have ih := rowsW_len ws (rs.flatMap (longR w)) fun x hx => h x (List.mem_cons_of_mem _ hx)
    have hw := h w List.mem_cons_self
    have l : (rs.flatMap (longR w)).length ≤ rs.length * 4 := by
      clear ih
      induction rs with
      | nil => exact Nat.zero_le _
      | cons r t ih =>
        rw [List.flatMap_cons, List.length_append, List.length_cons, Nat.succ_mul]
        have b : 1 ≤ begunR w.1 r := by
          have := (begunR_le (f := w.1) (row := r) (x := begunR w.1 r)).mp (Int.le_refl _)
          omega
        have : (longR w r).length ≤ 4 := by
          unfold longR
          rw [List.length_map, daysF_len]; omega
        omega
    refine Nat.le_trans ih ?_
    rw [List.length_cons, Nat.pow_succ, Nat.mul_comm (4 ^ ws.length) 4, ← Nat.mul_assoc]
    exact Nat.mul_le_mul_right _ l
abbrev RowsX (H : Hp) (X : Addr → Prop) : List V → List (List Int) → Prop := All2 fun x c => ∃ q, x = .ref q ∧ ¬ X q ∧ H q = some (.lst (iV c))
theorem RowW.days {ws : List (Int × Int)} {row : List Int} {e : Int} (h : RowW ws row) (hw : ∀ w ∈ ws, 1 ≤ w.1 ∧ w.2 ≤ e) : ∀ x ∈ row, 1 ≤ x ∧ x ≤ e := fun x hx => by
  obtain ⟨k, hk, rfl⟩ := List.mem_iff_getElem.mp hx
  have hk' : k < ws.length := by have := h.len; omega
  have a := h.win k hk'
  have b := hw _ (List.getElem_mem hk')
  rw [List.getD_eq_getElem?_getD, List.getElem?_eq_getElem hk', List.getD_eq_getElem?_getD, List.getElem?_eq_getElem hk] at a
  simp only [Option.getD_some] at a
  omega
theorem last_bound {row : List Int} {e : Int} (h0 : 0 ≤ e) (h : ∀ x ∈ row, x ≤ e) : row.getLastD 0 ≤ e := by
  by_cases c : row = []
  · subst c; exact h0
  · exact h _ (lastD_mem c)
theorem q_notInRowsI {K : PySem.W.Frag} {H : Hp} {Q : VK} {p g : Addr} {es : List Int} {ys : List V} {ds : List (List Int)} (hp : H p = some (.lst (iV es))) (hg : H g = some (.lst ys)) (hr : RowsL H ys ds) (k : Q (.bl (!decide (es ∈ ds))) H) : rNotInD K (.ref p) (.ref g) H Q := by
  refine ⟨.list (es.map PyData.int), ds.map (fun c : List Int => PyData.list (c.map PyData.int)), .lst (SqL.of hp) (dp_ints _), .lst (SqL.of hg) (rows_dp hr), shaped_ints es, rows_shaped ds, ?_⟩
  rw [rows_any]; exact k

/-! # papers of carts that are forged -/
section
variable {K : PySem.W.Frag} {H : Hp}
structure It1 (K : PySem.W.Frag) (H : Hp) (x : V) : Prop where
  el : ElN K H 3 x
  dd : ∃ d, Dd K H x d ∧ Mid d 1000 6
theorem It1.ex {H' : Hp} {x : V} (h : It1 K H x) (e : Ex H H') : It1 K H' x := by
  obtain ⟨d, a, b⟩ := h.dd
  exact ⟨h.el.ex e, d, dd_ex e a, b⟩
theorem It1.int {i : Int} (h0 : -1 ≤ i) (h1 : i < 1000000) : It1 K H (.int i) := ⟨.int i, _, .int i, int_mid h0 h1 (by decide) (by decide)⟩
theorem It1.bl (b : Bool) : It1 K H (.bl b) := ⟨.bl b, _, .bl b, (sm_bl b).mid.mono (by decide) (by decide)⟩
theorem It1.non : It1 K H .non := ⟨.non, _, .non, sm_non.mid.mono (by decide) (by decide)⟩
theorem It1.str {n : Nat} {s : Str} (h : Tn n s) (hn : n ≤ 30) : It1 K H (.str s) := ⟨.str h (by omega), _, .str s, (sm_str h).mid.mono (by omega) (by decide)⟩
theorem It1.ints {q : Addr} {ms : List Int} (h : H q = some (.lst (iV ms))) (hl : ms.length ≤ 80) (hb : ∀ n ∈ ms, -1 ≤ n ∧ n < 1000000) : It1 K H (.ref q) :=
  ⟨ElN.lst (n := 2) h (by decide) ElN.ints, _, .lst (SqL.of h) (dd_ints ms), (ints_mid hb).mono (by omega) (by decide)⟩
/-- a thing that may stand where a schedule is due -/
structure SchT (K : PySem.W.Frag) (H : Hp) (v : V) : Prop where
  li : LTE K H v
  dd : ∃ d, Dd K H v d ∧ Mid d 300000 8
/-- a thing that may stand where a span is due -/
structure PapT (K : PySem.W.Frag) (H : Hp) (v : V) : Prop where
  tu : PTE K H v
  dd : ∃ d, Dd K H v d ∧ Mid d 300000 8
theorem SchT.ex {H' : Hp} {v : V} (h : SchT K H v) (e : Ex H H') : SchT K H' v := by
  obtain ⟨d, a, b⟩ := h.dd
  exact ⟨h.li.ex e, d, dd_ex e a, b⟩
theorem PapT.ex {H' : Hp} {v : V} (h : PapT K H v) (e : Ex H H') : PapT K H' v := by
  obtain ⟨d, a, b⟩ := h.dd
  exact ⟨h.tu.ex e, d, dd_ex e a, b⟩
theorem its_dd {xs : List V} (h : ∀ x ∈ xs, It1 K H x) : ∃ ds, DdAll K H xs ds ∧ (∀ d ∈ ds, Mid d 1000 6) ∧ ds.length = xs.length := dd_mid fun x hx => (h x hx).dd
theorem SchT.lst {q : Addr} {xs : List V} (h : H q = some (.lst xs)) (hl : xs.length ≤ 200) (hx : ∀ x ∈ xs, It1 K H x) : SchT K H (.ref q) := by
  obtain ⟨ds, a, b, c⟩ := its_dd hx
  refine ⟨⟨.lst q _ h, fun p us e hp => ?_⟩, _, .lst (SqL.of h) a, (mid_lst b).mono (by omega) (by decide)⟩
  cases e; rw [h] at hp; cases hp
  exact ⟨by omega, fun x m => (hx x m).el⟩
theorem SchT.big {q : Addr} {ms : List Int} (h : H q = some (.lst (iV ms))) (hl : ms.length ≤ 1000) (hb : ∀ n ∈ ms, -1 ≤ n ∧ n < 1000000) : SchT K H (.ref q) :=
  ⟨.ints h hl, _, .lst (SqL.of h) (dd_ints ms), (ints_mid hb).mono (by omega) (by decide)⟩
theorem SchT.tup {q : Addr} {xs : List V} (h : H q = some (.tup xs)) (hl : xs.length ≤ 200) (hx : ∀ x ∈ xs, It1 K H x) : SchT K H (.ref q) := by
  obtain ⟨ds, a, b, c⟩ := its_dd hx
  refine ⟨⟨.tup q _ h, fun p us e hp => ?_⟩, _, .tup (SqT.of h) a, (mid_tpl b).mono (by omega) (by decide)⟩
  cases e; rw [h] at hp; cases hp
theorem PapT.tup {q : Addr} {xs : List V} (h : H q = some (.tup xs)) (hl : xs.length ≤ 100) (hx : ∀ x ∈ xs, It1 K H x) : PapT K H (.ref q) := by
  obtain ⟨ds, a, b, c⟩ := its_dd hx
  exact ⟨.tup h hl fun x m => (hx x m).el, _, .tup (SqT.of h) a, (mid_tpl b).mono (by omega) (by decide)⟩
theorem PapT.lst {q : Addr} {xs : List V} (h : H q = some (.lst xs)) (hl : xs.length ≤ 100) (hx : ∀ x ∈ xs, It1 K H x) : PapT K H (.ref q) := by
  obtain ⟨ds, a, b, c⟩ := its_dd hx
  exact ⟨.lst h, _, .lst (SqL.of h) a, (mid_lst b).mono (by omega) (by decide)⟩
theorem dd_nil {q : Addr} (h : H q = some (.dK [])) : ∃ d, Dd K H (.ref q) d ∧ Mid d 300000 8 :=
  ⟨.dict [], .dic (es := []) h .nil .nil, by decide +kernel, by decide +kernel, by decide +kernel⟩
theorem SchT.dic {q : Addr} (h : H q = some (.dK [])) : SchT K H (.ref q) :=
  ⟨⟨.dK q _ h, fun p us e hp => by cases e; rw [h] at hp; cases hp⟩, dd_nil h⟩
theorem PapT.dic {q : Addr} (h : H q = some (.dK [])) : PapT K H (.ref q) := ⟨.dK h, dd_nil h⟩
theorem SchT.flat {v : V} (h : It1 K H v) (hn : ∀ p, v ≠ .ref p) : SchT K H v := by
  obtain ⟨d, a, b⟩ := h.dd
  exact ⟨⟨h.el.th, fun p us e => absurd e (hn p)⟩, d, a, b.mono (by decide) (by decide)⟩
theorem PapT.flat {v : V} (h : It1 K H v) (hn : ∀ p, v ≠ .ref p) : PapT K H v := by
  obtain ⟨d, a, b⟩ := h.dd
  exact ⟨.flat h.el.th hn, d, a, b.mono (by decide) (by decide)⟩
/-- a thing that may stand where a number of carts is due -/
def NumT (m : V) : Prop := (∃ i : Int, m = .int i ∧ -1 ≤ i ∧ i < 1000000) ∨ m = .int 100000000000000000000000000000 ∨ m = .non ∨ (∃ b, m = .bl b) ∨ ∃ s, m = .str s ∧ Tn 30 s
theorem NumT.th {m : V} (h : NumT m) : Thing K H m := by
  rcases h with ⟨i, rfl, _⟩ | rfl | rfl | ⟨b, rfl⟩ | ⟨s, rfl, t⟩
  · exact .int _
  · exact .int _
  · exact .non
  · exact .bl _
  · exact .str _ (t.mono (by decide))
theorem NumT.dd {m : V} (h : NumT m) : ∃ d, Dd K H m d ∧ Mid d 1000 6 := by
  rcases h with ⟨i, rfl, a, b⟩ | rfl | rfl | ⟨b, rfl⟩ | ⟨s, rfl, t⟩
  · exact (It1.int (K := K) (H := H) a b).dd
  · exact ⟨.int _, .int _, by decide +kernel, by decide +kernel, by decide +kernel⟩
  · exact (It1.non (K := K) (H := H)).dd
  · exact (It1.bl (K := K) (H := H) b).dd
  · exact (It1.str (K := K) (H := H) t (by decide)).dd
theorem NumT.le {i : Int} (h : NumT (.int i)) : i ≤ 1000000000000000000000000000000 := by
  rcases h with ⟨j, e, a, b⟩ | e | e | ⟨b, e⟩ | ⟨s, e, t⟩
  · cases e; omega
  · cases e; decide
  · cases e
  · cases e
  · cases e
/-! where a walk over the windows finds the same -/
def wholeW (wins : List (Int × Int)) (rs : List Nat) (xs : List V) : Bool := (List.range xs.length).all fun i => whole (xs.getD i .non) (wins.getD (rs.getD i 0) (0, 0)).1 (wins.getD (rs.getD i 0) (0, 0)).2
theorem wholeW_at {wins : List (Int × Int)} {rs : List Nat} {xs : List V} (h : wholeW wins rs xs = true) {i : Nat} (hi : i < xs.length) : whole xs[i] (wins.getD (rs.getD i 0) (0, 0)).1 (wins.getD (rs.getD i 0) (0, 0)).2 = true := by
  have := List.all_eq_true.mp h i (List.mem_range.mpr hi)
  rwa [List.getD_eq_getElem?_getD, List.getElem?_eq_getElem hi] at this
theorem wholeW_ints {wins : List (Int × Int)} {rs : List Nat} {xs : List V} (h : wholeW wins rs xs = true) : ∃ ds, xs = iV ds := isI_iV fun x hx => by
  obtain ⟨i, hi, rfl⟩ := List.mem_iff_getElem.mp hx
  obtain ⟨j, e, _⟩ := whole_int (wholeW_at h hi)
  rw [e]; rfl
theorem wholeW_iV {wins : List (Int × Int)} {rs : List Nat} {ds : List Int} : wholeW wins rs (iV ds) = goesB wins ds rs := by
  unfold wholeW goesB
  rw [List.length_map]
  rw [Bool.eq_iff_iff, List.all_eq_true, List.all_eq_true]
  have e : ∀ i, i ∈ List.range ds.length → whole ((iV ds).getD i .non) (wins.getD (rs.getD i 0) (0, 0)).1 (wins.getD (rs.getD i 0) (0, 0)).2 = (decide ((wins.getD (rs.getD i 0) (0, 0)).1 ≤ ds.getD i 0) && decide (ds.getD i 0 ≤ (wins.getD (rs.getD i 0) (0, 0)).2)) := fun i hi => by
    have hlt := List.mem_range.mp hi
    have : (iV ds).getD i .non = .int (ds.getD i 0) := by
      rw [List.getD_eq_getElem?_getD, List.getElem?_map, List.getElem?_eq_getElem hlt, List.getD_eq_getElem?_getD, List.getElem?_eq_getElem hlt]; rfl
    rw [this]; rfl
  exact ⟨fun h i hi => by rw [← e i hi]; exact h i hi, fun h i hi => by rw [e i hi]; exact h i hi⟩
def goesL (ns : List Int) (wins : List (Int × Int)) (m : Int) (xs : List V) : Bool := decide ((xs.length : Int) = ns.sum) && wholeW wins (runsOf ns) xs && (inOrd (xs.map unI) && decide (∀ x ∈ xs.map unI, (((xs.map unI).count x : Nat) : Int) ≤ m))
def goesV (H : Hp) (v : V) (ns : List Int) (wins : List (Int × Int)) (m : Int) : Bool := match v with
  | .ref p => match H p with
    | some (.lst xs) => goesL ns wins m xs
    | _ => false
  | _ => false
theorem goesL_eq {ns : List Int} {wins : List (Int × Int)} {d m : Int} {xs : List V} (n0 : ∀ n ∈ ns, 0 ≤ n) (hs : ns.sum ≠ 0) (w : ∀ i, i < ns.length → 1 ≤ (wins.getD i (0, 0)).1 ∧ (wins.getD i (0, 0)).1 ≤ (wins.getD i (0, 0)).2 ∧ (wins.getD i (0, 0)).2 ≤ d) :
    (schedB ns wins d xs && decide (mostI (xs.map unI) ≤ m)) = goesL ns wins m xs := by
  unfold schedB goesL
  by_cases hl : (xs.length : Int) = ns.sum
  · rw [decide_eq_true hl, Bool.and_true, Bool.true_and]
    have rl := runsOf_len n0
    have inW : ∀ i, i < xs.length → 1 ≤ (wins.getD ((runsOf ns).getD i 0) (0, 0)).1 ∧ (wins.getD ((runsOf ns).getD i 0) (0, 0)).2 ≤ d := fun i hi => by
      have := w _ (runsOf_mem (getD_mem (rs := runsOf ns) (k := i) (by omega))).1
      omega
    cases hw : wholeW wins (runsOf ns) xs with
    | false =>
      rw [Bool.false_and]
      cases ha : xs.all fun x => whole x 1 d with
      | false => rfl
      | true =>
        obtain ⟨ds, rfl⟩ := whole_ints ha
        rw [wholeW_iV] at hw
        rw [map_unI, hw, Bool.and_false, Bool.and_false, Bool.false_and]
    | true =>
      obtain ⟨ds, rfl⟩ := wholeW_ints hw
      have ha : ((iV ds).all fun x => whole x 1 d) = true := List.all_eq_true.mpr fun x hx => by
        obtain ⟨i, hi, rfl⟩ := List.mem_iff_getElem.mp hx
        have a := wholeW_at hw hi
        have b := inW i hi
        obtain ⟨j, e, x1, x2⟩ := whole_int a
        rw [e]
        simp [whole]; omega
      rw [ha, Bool.true_and]
      rw [wholeW_iV] at hw
      rw [map_unI, hw, Bool.and_true, Bool.true_and]
      congr 1
      have hne : ds ≠ [] := fun e => by subst e; exact hs hl.symm
      refine decide_eq_decide.mpr ⟨fun h x hx => ?_, fun h => ?_⟩
      · exact Int.le_trans (great_ge _ (List.mem_map.mpr ⟨x, hx, rfl⟩)) h
      · refine most_le hne fun x => ?_
        by_cases hx : x ∈ ds
        · exact h x hx
        · rw [List.count_eq_zero.mpr hx]
          obtain ⟨y, t, rfl⟩ := List.exists_cons_of_ne_nil hne
          have := h y List.mem_cons_self
          have : ((0 : Nat) : Int) ≤ (((y :: t).count y : Nat) : Int) := by omega
          omega
  · rw [decide_eq_false hl, Bool.and_false, Bool.false_and, Bool.false_and, Bool.false_and]; rfl
theorem goesV_eq {v : V} {ns : List Int} {wins : List (Int × Int)} {d m : Int} (n0 : ∀ n ∈ ns, 0 ≤ n) (hs : ns.sum ≠ 0) (w : ∀ i, i < ns.length → 1 ≤ (wins.getD i (0, 0)).1 ∧ (wins.getD i (0, 0)).1 ≤ (wins.getD i (0, 0)).2 ∧ (wins.getD i (0, 0)).2 ≤ d) :
    (schedV H v ns wins d && decide (mostI (listOf H v) ≤ m)) = goesV H v ns wins m := by
  cases v with
  | ref p =>
    cases e : H p with
    | none => simp only [schedV, goesV, e, Bool.false_and]
    | some o =>
      cases o with
      | lst xs => simp only [schedV, listOf, goesV, e]; exact goesL_eq n0 hs w
      | _ => simp only [schedV, goesV, e, Bool.false_and]
  | _ => rfl
theorem q_neInts {Q : VK} {p q : Addr} {ns ms : List Int} (hp : H p = some (.lst (iV ns))) (hq : H q = some (.lst (iV ms))) (k : Q (.bl (!decide (ns = ms))) H) : rNeA K (.ref p) (.ref q) H Q :=
  q_neDt (.lst (SqL.of hp) (dp_ints ns)) (.lst (SqL.of hq) (dp_ints ms)) (shaped_ints ns) (shaped_ints ms) (by simp only [PyData.eqv, eqv_ints]; exact k)
end
section
theorem earlyS_bound {many B : Int} {fs : List Int} (h : ∀ f ∈ fs, 1 ≤ f ∧ f ≤ B) (hB : 0 ≤ B) : ∀ n, n ≤ fs.length → ∀ x ∈ earlyS many (fs.take n), 1 ≤ x ∧ x ≤ B + (n : Int)
  | 0, _, x, hx => by cases hx
  | n + 1, hn, x, hx => by
    have ih := earlyS_bound (many := many) h hB n (by omega)
    have hlt : n < fs.length := by omega
    have et : fs.take (n + 1) = fs.take n ++ [fs[n]] := by rw [List.take_add_one, List.getElem?_eq_getElem hlt]; rfl
    rw [et, earlyS_snoc] at hx
    rcases List.mem_append.mp hx with m | m
    · have := ih x m; omega
    · rw [List.mem_singleton.mp m]
      have hf := h _ (List.getElem_mem hlt)
      generalize earlyS many (fs.take n) = ms at ih
      unfold earlyI
      by_cases hne : ms = []
      · rw [if_pos hne]; omega
      · rw [if_neg hne]
        have hl := ih _ (lastD_mem hne)
        split <;> split <;> omega
theorem schedN_bound {ns : List Int} {wins : List (Int × Int)} {many : Int} (n0 : ∀ n ∈ ns, 0 ≤ n) (w : ∀ i, i < ns.length → 1 ≤ (wins.getD i (0, 0)).1 ∧ (wins.getD i (0, 0)).1 ≤ (wins.getD i (0, 0)).2 ∧ (wins.getD i (0, 0)).2 ≤ 60) :
    ((schedN ns (leftN ns wins) many ns.length).length : Int) = ns.sum ∧ ∀ x ∈ schedN ns (leftN ns wins) many ns.length, 1 ≤ x ∧ x ≤ 60 + ns.sum := by
  rw [schedN_early (fun i h => leftN_none h n0)]
  show ((earlyS many (firstsOf ns (leftN ns wins))).length : Int) = _ ∧ ∀ x ∈ earlyS many (firstsOf ns (leftN ns wins)), _
  have fl : (firstsOf ns (leftN ns wins)).length = (runsOf ns).length := List.length_map ..
  have rl := runsOf_len n0
  have hf : ∀ f ∈ firstsOf ns (leftN ns wins), 1 ≤ f ∧ f ≤ 60 := fun f hf => by
    obtain ⟨r, hr, rfl⟩ := List.mem_map.mp hf
    have lr := runsOf_loaded hr
    rw [leftN_get lr]
    obtain ⟨o, ho, _, e⟩ := firstN_at (wins := wins) lr
    have := w o (loadedN_mem ho).1
    show 1 ≤ firstN ns wins r ∧ firstN ns wins r ≤ 60
    rw [e]; omega
  have len : ∀ fs : List Int, (earlyS many fs).length = fs.length := fun fs => by
    have g : ∀ (fs ms : List Int), (fs.foldl (stepE many) ms).length = ms.length + fs.length := fun fs => by
      induction fs with
      | nil => intro ms; rfl
      | cons f t ih => intro ms; rw [List.foldl_cons, ih]; unfold stepE; simp; omega
    have := g fs []
    simpa [earlyS] using this
  refine ⟨by rw [len]; omega, fun x hx => ?_⟩
  have := earlyS_bound (many := many) (B := 60) hf (by decide) (firstsOf ns (leftN ns wins)).length (Nat.le_refl _) x (by rwa [List.take_length])
  omega
theorem within_all2 {ns : List Int} {wins : List (Int × Int)} {d : Int} (n0 : ∀ n ∈ ns, 0 ≤ n) (w : ∀ i, i < ns.length → 1 ≤ (wins.getD i (0, 0)).1 ∧ (wins.getD i (0, 0)).1 ≤ (wins.getD i (0, 0)).2 ∧ (wins.getD i (0, 0)).2 ≤ d) : (withinN ns (leftN ns wins) (1, d)).sum = ns.sum := by
  rw [within_count n0, ← runsOf_len n0]
  congr 2
  rw [List.filter_eq_self]
  intro r hr
  have lr := runsOf_loaded hr
  rw [leftN_get lr]
  have a := Int.le_trans (w r (loadedN_mem lr).1).1 (firstN_ge (wins := wins) lr (Nat.le_refl _))
  have b := Int.le_trans (lastN_le (wins := wins) lr (Nat.le_refl _)) (w r (loadedN_mem lr).1).2.2
  show (decide ((1 : Int) ≤ firstN ns wins r) && decide (lastN ns wins r ≤ d)) = true
  rw [decide_eq_true a, decide_eq_true b]; rfl
theorem within_le {ns : List Int} {left : List (Option (Int × Int))} (n0 : ∀ n ∈ ns, 0 ≤ n) (p : Int × Int) : (withinN ns left p).sum ≤ ns.sum := by
  rw [within_count n0]
  have l := List.length_filter_le (fun r => inB p (left.getD r none)) (runsOf ns)
  have := runsOf_len n0
  omega
theorem rem_sub {H : Hp} {b : Addr} : Ex (rem H b) H := fun a o h => by
  unfold rem at h
  split at h
  · cases h
  · exact h
end
/-! # as many runs as carts, each with a load on each day -/
def fullD (m d : Nat) : List Int := (List.range d).flatMap fun i : Nat => List.replicate m (1 + (i : Int))
theorem fullD_succ (m d : Nat) : fullD m (d + 1) = fullD m d ++ List.replicate m (1 + (d : Int)) := by
  unfold fullD; rw [List.range_succ, List.flatMap_append]; simp
theorem fullD_len (m d : Nat) : (fullD m d).length = d * m := by
  induction d with
  | zero => simp [fullD]
  | succ d ih => rw [fullD_succ, List.length_append, ih, List.length_replicate, Nat.succ_mul]
theorem fullD_mem {m d : Nat} {x : Int} (h : x ∈ fullD m d) : 1 ≤ x ∧ x ≤ (d : Int) := by
  obtain ⟨i, hi, hx⟩ := List.mem_flatMap.mp h
  have := List.mem_range.mp hi
  rw [(List.mem_replicate.mp hx).2]; omega
theorem fullD_count (m d : Nat) (x : Int) : (fullD m d).count x = if 1 ≤ x ∧ x ≤ (d : Int) then m else 0 := by
  induction d with
  | zero =>
    rw [if_neg (by omega)]; rfl
  | succ d ih =>
    rw [fullD_succ, List.count_append, ih, List.count_replicate]
    by_cases h1 : x = 1 + (d : Int)
    · subst h1
      rw [if_neg (by omega), if_pos (by simp), if_pos (by omega)]; omega
    · rw [if_neg (c := (1 + (d : Int) == x) = true) (by simpa using fun e => h1 e.symm)]
      by_cases h2 : 1 ≤ x ∧ x ≤ (d : Int)
      · rw [if_pos h2, if_pos (by omega)]; omega
      · rw [if_neg h2, if_neg (by omega)]
theorem fullD_pw (m d : Nat) : (fullD m d).Pairwise (· ≤ ·) := by
  unfold fullD
  rw [List.pairwise_flatMap]
  refine ⟨fun i _ => List.pairwise_replicate.mpr (.inr (Int.le_refl _)), ?_⟩
  refine List.pairwise_lt_range.imp fun {a b} h x hx y hy => ?_
  rw [(List.mem_replicate.mp hx).2, (List.mem_replicate.mp hy).2]; omega
section
variable {H : Hp} {m d : Nat}
abbrev fullN (m d : Nat) : List Int := List.replicate m (d : Int)
abbrev fullW (m d : Nat) : List (Int × Int) := List.replicate m (1, (d : Int))
theorem fullN_sum : (fullN m d).sum = (m : Int) * (d : Int) := by
  induction m with
  | zero => simp [fullN]
  | succ m ih =>
    show (List.replicate (m + 1) (d : Int)).sum = _
    rw [List.replicate_succ, List.sum_cons]
    have : (List.replicate m (d : Int)).sum = (m : Int) * (d : Int) := ih
    rw [this, show ((m + 1 : Nat) : Int) = (m : Int) + 1 by omega, Int.add_mul, Int.one_mul]; omega
theorem fullW_get {i : Nat} (h : i < m) : (fullW m d).getD i (0, 0) = (1, (d : Int)) := by
  rw [List.getD_eq_getElem?_getD, List.getElem?_eq_getElem (by simpa using h)]; simp
theorem full_good (hd : 1 ≤ d) : ∀ i, i < (fullN m d).length → 1 ≤ ((fullW m d).getD i (0, 0)).1 ∧ ((fullW m d).getD i (0, 0)).1 ≤ ((fullW m d).getD i (0, 0)).2 ∧ ((fullW m d).getD i (0, 0)).2 ≤ (d : Int) := fun i hi => by
  rw [List.length_replicate] at hi
  rw [fullW_get hi]
  exact ⟨Int.le_refl _, by show (1 : Int) ≤ (d : Int); omega, Int.le_refl _⟩
theorem full_n0 : ∀ n ∈ fullN m d, 0 ≤ n := fun n h => by rw [(List.mem_replicate.mp h).2]; omega
theorem full_cartsI (hd : 1 ≤ d) : cartsI (fullN m d) (leftN (fullN m d) (fullW m d)) (1, (d : Int)) = (m : Int) := by
  have w := within_all2 (ns := fullN m d) (wins := fullW m d) (d := (d : Int)) full_n0 (full_good hd)
  have hd' : (1 : Int) ≤ (d : Int) := by omega
  refine Int.le_antisymm ((cartsI_le hd').mpr ?_) ?_
  · rw [w, fullN_sum]; show (m : Int) * (d : Int) ≤ (m : Int) * ((d : Int) - 1 + 1); rw [show (d : Int) - 1 + 1 = (d : Int) by omega]; exact Int.le_refl _
  · refine Decidable.byContradiction fun c => ?_
    have := (cartsI_le (ns := fullN m d) (left := leftN (fullN m d) (fullW m d)) (p := (1, (d : Int))) (m := (m : Int) - 1) hd').mp (by omega)
    rw [w, fullN_sum] at this
    have this : (m : Int) * (d : Int) ≤ ((m : Int) - 1) * ((d : Int) - 1 + 1) := this
    rw [show (d : Int) - 1 + 1 = (d : Int) by omega, Int.sub_mul, Int.one_mul] at this
    omega
theorem full_sched (hm : 1 ≤ m) (hd : 1 ≤ d) : schedB (fullN m d) (fullW m d) (d : Int) (iV (fullD m d)) = true := by
  unfold schedB
  have hl : (((iV (fullD m d)).length : Nat) : Int) = (fullN m d).sum := by
    rw [List.length_map, fullD_len, fullN_sum, Int.natCast_mul, Int.mul_comm]
  rw [decide_eq_true hl, Bool.and_true, map_unI]
  rw [show ((iV (fullD m d)).all fun x => whole x 1 (d : Int)) = true from List.all_eq_true.mpr fun x hx => by
    obtain ⟨n, hn, rfl⟩ := List.mem_map.mp hx
    have := fullD_mem hn
    simp [whole]; omega]
  rw [inOrd_pw.mpr (fullD_pw m d), Bool.true_and, Bool.true_and]
  unfold goesB
  rw [List.all_eq_true]
  intro k hk
  have hk := List.mem_range.mp hk
  have rl := runsOf_len (full_n0 (m := m) (d := d))
  have hkr : k < (runsOf (fullN m d)).length := by
    rw [List.length_map] at hl; omega
  have rm := (runsOf_mem (getD_mem (rs := runsOf (fullN m d)) hkr)).1
  rw [List.length_replicate] at rm
  rw [fullW_get rm]
  have hx : (fullD m d).getD k 0 ∈ fullD m d := by
    rw [List.getD_eq_getElem?_getD, List.getElem?_eq_getElem hk]; exact List.getElem_mem hk
  have := fullD_mem hx
  rw [decide_eq_true this.1, decide_eq_true this.2]; rfl
/-- the four papers -/
theorem full_yes {q r : Addr} (hm : 1 ≤ m) (hd : 1 ≤ d) (hq : H q = some (.lst (iV (fullD m d)))) (hr : H r = some (.tup [.int 1, .int (d : Int)])) (x : Int) (hx : (m : Int) ≤ x) :
    cartsB H (fullN m d) (fullW m d) (d : Int) (.int x) (.ref q) (.ref r) = decide ((m : Int) ≥ x) := by
  have hs : (fullN m d).sum ≠ 0 := by
    rw [fullN_sum]
    have : (1 : Int) * 1 ≤ (m : Int) * (d : Int) := Int.mul_le_mul (by omega) (by omega) (by decide) (by omega)
    omega
  have h1 : spanB H (.ref r) (d : Int) = true := SpanAt.yes (p := (1, (d : Int))) ⟨r, rfl, hr, Int.le_refl _, by show (1 : Int) ≤ (d : Int); omega, Int.le_refl _⟩ (Int.le_refl _)
  have h2 : spanOf H (.ref r) = (1, (d : Int)) := SpanAt.of_ (d := (d : Int)) ⟨r, rfl, hr, Int.le_refl _, by show (1 : Int) ≤ (d : Int); omega, Int.le_refl _⟩
  have h3 : schedV H (.ref q) (fullN m d) (fullW m d) (d : Int) = true := by simp only [schedV, hq]; exact full_sched hm hd
  have h4 : listOf H (.ref q) = fullD m d := by simp only [listOf, hq]; exact map_unI _
  have hne : fullD m d ≠ [] := fun e => by
    have := fullD_len m d
    rw [e] at this
    have : 1 * 1 ≤ d * m := Nat.mul_le_mul hd hm
    simp at *; omega
  have h5 : mostI (fullD m d) ≤ x := most_le hne fun y => by
    rw [fullD_count]; split <;> omega
  unfold cartsB
  rw [if_neg hs, h1, h2, h3, h4, full_cartsI hd]
  show (decide (1 ≤ x) && true && decide (mostI (fullD m d) ≤ x) && true && decide ((m : Int) ≥ x)) = _
  rw [decide_eq_true (show 1 ≤ x by omega), decide_eq_true h5]; rfl
theorem full_last {q : Addr} {v : V} (hm : 1 ≤ m) (hd : 2 ≤ d) (hq : H q = some (.lst (iV ((fullD m d).dropLast ++ [(d : Int) - 1])))) :
    cartsB H (fullN m d) (fullW m d) (d : Int) (.int (m : Int)) (.ref q) v = false := by
  have hs : (fullN m d).sum ≠ 0 := by
    rw [fullN_sum]
    have : (1 : Int) * 1 ≤ (m : Int) * (d : Int) := Int.mul_le_mul (by omega) (by omega) (by decide) (by omega)
    omega
  have h4 : listOf H (.ref q) = (fullD m d).dropLast ++ [(d : Int) - 1] := by simp only [listOf, hq]; exact map_unI _
  have hc : ((fullD m d).dropLast ++ [(d : Int) - 1]).count ((d : Int) - 1) = m + 1 := by
    rw [List.count_append, List.count_singleton_self]
    congr 1
    obtain ⟨d', rfl⟩ : ∃ d', d = d' + 1 := ⟨d - 1, by omega⟩
    obtain ⟨m', rfl⟩ : ∃ m', m = m' + 1 := ⟨m - 1, by omega⟩
    rw [fullD_succ, List.replicate_succ', ← List.append_assoc, List.dropLast_concat, List.count_append, fullD_count, if_pos (by omega), List.count_replicate, if_neg (by simp; omega)]
  have hm' : ¬ mostI ((fullD m d).dropLast ++ [(d : Int) - 1]) ≤ (m : Int) := fun h => by
    have := great_ge (ns := ((fullD m d).dropLast ++ [(d : Int) - 1]).map fun x => ((((fullD m d).dropLast ++ [(d : Int) - 1]).count x : Nat) : Int)) _ (List.mem_map.mpr ⟨(d : Int) - 1, List.mem_append_right _ (List.mem_singleton.mpr rfl), rfl⟩)
    rw [hc] at this
    unfold mostI at h
    omega
  unfold cartsB
  rw [if_neg hs, h4]
  show (_ && decide (mostI _ ≤ (m : Int)) && _ && _) = false
  rw [decide_eq_false hm', Bool.and_false, Bool.false_and, Bool.false_and]
theorem full_far {s : V} {r : Addr} (hm : 1 ≤ m) (hd : 1 ≤ d) (hr : H r = some (.tup [.int 1, .int ((d : Int) + 1)])) (x : V) :
    cartsB H (fullN m d) (fullW m d) (d : Int) x s (.ref r) = false := by
  have hs : (fullN m d).sum ≠ 0 := by
    rw [fullN_sum]
    have : (1 : Int) * 1 ≤ (m : Int) * (d : Int) := Int.mul_le_mul (by omega) (by omega) (by decide) (by omega)
    omega
  have h1 : spanB H (.ref r) (d : Int) = false := by
    simp only [spanB, hr]
    rw [show whole (V.int ((d : Int) + 1)) (unI (V.int 1)) (d : Int) = false by simp [whole, unI]; omega, Bool.and_false]
  unfold cartsB
  rw [if_neg hs, h1, Bool.and_false, Bool.false_and]
end
theorem cut_init {xs : List Int} (h : xs ≠ []) : cutV (iV xs) none (some (-1)) = iV xs.dropLast := by
  unfold cutV
  rw [List.length_map]
  have hp := List.length_pos_iff.mpr h
  have e1 : HT.sIx xs.length xs.length (some (-1)) = xs.length - 1 := by
    show (if (-1 : Int) < 0 then ((-1 : Int) + (xs.length : Int)).toNat else min (-1 : Int).toNat xs.length) = _
    rw [if_pos (by decide)]; omega
  rw [e1]
  show ((iV xs).drop 0).take (xs.length - 1 - 0) = _
  rw [List.drop_zero, Nat.sub_zero]
  unfold iV
  rw [← List.map_take, List.dropLast_eq_take]


/-! # dict.update by a dict -/
theorem kv_merge : ∀ {more : List (Key × V)} {vs2 : List (Key × Value)}, KV more vs2 → ∀ {kvs : List (Key × V)} {vs : List (Key × Value)}, KV kvs vs → KV (mergeK kvs more) (PySem.merged vs vs2)
  | _, _, .nil, _, _, h => h
  | _, _, .cons (a := a) (b := b) r rr, kvs, vs, h => by
    have e : KV (putK kvs a.1 a.2) (stored vs b.1 b.2) := r.1 ▸ h.put a.1 r.2
    exact kv_merge rr e
theorem putK_le {kvs : List (Key × V)} {k : Key} {v : V} : (putK kvs k v).length ≤ kvs.length + 1 := by
  unfold putK
  split
  · rw [List.length_map]; omega
  · rw [List.length_append]; exact Nat.le_refl _
theorem mergeK_le : ∀ {more kvs : List (Key × V)}, (mergeK kvs more).length ≤ kvs.length + more.length
  | [], kvs => Nat.le_refl _
  | a :: r, kvs => by
    have := mergeK_le (more := r) (kvs := putK kvs a.1 a.2)
    have h2 := putK_le (kvs := kvs) (k := a.1) (v := a.2)
    show (mergeK (putK kvs a.1 a.2) r).length ≤ _
    rw [List.length_cons]; omega
theorem d_update {X : Cx} {pins : List (Addr × Obj)} {σ : L2.St} {H : Hp} {s : Shared} {a b : Addr} {kvs more : List (Key × V)} {A : Around} {E Q : Value → Shared → Prop}
    (I : L2.Inv X pins σ H s) (ea : H a = some (HO.dK kvs)) (eb : H b = some (HO.dK more)) (ne : a ≠ b) (hz : kvs.length + more.length ≤ sizeLine)
    (h : ∀ s', L2.Inv X pins σ (upd H a (HO.dK (mergeK kvs more))) s' → Q Value.none s') :
    wpAny (model X.prog X.w) A (call (Value.builtin "dict.update") [Value.ref a, Value.ref b]) Q E s := by
  obtain ⟨z, hd, vs, rel, dd⟩ := dk_of I.hok ea
  obtain ⟨z2, hd2, vs2, rel2, dd2⟩ := dk_of I.hok eb
  refine call_meetsIn F.slot_dict_update (Heap.DictOf.typeIs dd) F.entry_dict_update (F.args_dict_update_2 _ _) (meets_dict_update (mixKind X.prog X.w) a b ne hd2) ?_
  refine ⟨vs, vs2, dd, dd2, by rw [← KV.length rel, ← KV.length rel2]; exact hz, fun h' dd' _ hs => ?_⟩
  refine h _ (d_write (t' := s.toks) I (by rw [ea]; exact True.intro) hs ?_ (dk_new ?_ hd (kv_merge rel2 rel) dd'))
  · obtain ⟨q, w, w1, hq, _⟩ := dd'; exact ⟨q, hq⟩
  · exact Nat.le_trans mergeK_le hz
def rUpdate : V → List V → Hp → VK → Prop := fun x xs H Q => ∃ (a b : Addr) (kvs more : List (Key × V)), x = .ref a ∧ xs = [.ref b] ∧ H a = some (.dK kvs) ∧ H b = some (.dK more) ∧ a ≠ b ∧ kvs.length + more.length ≤ 1000 ∧ Q .non (upd H a (.dK (mergeK kvs more)))
theorem mt_update {X : Cx} : MtR X "dict.update" rUpdate := by
  rintro pins s σ H x xs v us Q I rx rv ⟨a, b, kvs, more, rfl, rfl, ha, hb, ne, hz, q⟩
  obtain ⟨u, rfl, r⟩ := L2.vals1 rv
  cases rx
  cases r
  refine d_update I ha hb ne (Nat.le_trans hz (by rw [sizeLine_eq]; decide)) fun s' I' => ⟨.non, _, I', rfl, q⟩
theorem q_update {H : Hp} {Q : VK} {a b : Addr} {kvs more : List (Key × V)} (ha : H a = some (.dK kvs)) (hb : H b = some (.dK more)) (ne : a ≠ b) (hz : kvs.length + more.length ≤ 1000) (k : ∀ H', H' a = some (.dK (mergeK kvs more)) → Fb a H H' → Q .non H') : rUpdate (.ref a) [.ref b] H Q :=
  ⟨a, b, kvs, more, rfl, rfl, ha, hb, ne, hz, k _ upd_same fun c o h n => by rw [upd_ne n]; exact h⟩
/-! # zip of a list and a text -/
section
def IterS (h : Heap) (it : Addr) (x : Str) (t : Tok) (i : Nat) : Prop := h.IsStrIter it (strIterType x) x t i
theorem iter_types (x : Str) : strIterType x = "str_ascii_iterator" ∨ strIterType x = "str_iterator" := by
  unfold strIterType; split
  · exact .inl rfl
  · exact .inr rfl
theorem draws_S {prog : Program} {w : World} {A : Around} (hh : A.handled = none) (it : Addr) (x : Str) (t : Tok) :
    Draws prog w A it [it] x.cps.size (fun i v => ∃ c u, x.cps[i]? = some c ∧ v = Value.str { cps := #[c] } u) (fun i h => IterS h it x t i) := by
  rcases iter_types x with e | e
  · have := Draws.strAscii (prog := prog) (w := w) hh it x t
    rw [← e] at this; exact this
  · have := Draws.strWide (prog := prog) (w := w) hh it x t
    rw [← e] at this; exact this
theorem iterS_obj {h : Heap} {it : Addr} {x : Str} {t : Tok} {i : Nat} (y : IterS h it x t i) : ∃ o, h.get? it = some o ∧ ∀ v, o.data ≠ .cell v := by
  obtain ⟨o, e, _, d⟩ := y
  exact ⟨o, e, fun v q => by rw [d] at q; cases q⟩
theorem iterS_keep {h h' : Heap} {it : Addr} {x : Str} {t : Tok} {i : Nat} (y : IterS h it x t i) (e : ∀ o, h.get? it = some o → h'.get? it = some o) : IterS h' it x t i := by
  obtain ⟨o, g, c, d⟩ := y
  exact ⟨o, e _ g, c, d⟩
def ItzS (K : PySem.W.Frag) (k : Bool) (a : Addr) (z : Str) : It :=
  ⟨fun i H => ∃ (xs : List V), SeqB k K H a xs ∧ i < xs.length ∧ i < z.cps.size,
    fun i H v H' => ∃ T x c, v = .ref T ∧ H T = none ∧ H' = upd H T (.tup [x, .str ⟨#[c]⟩]) ∧ z.cps[i]? = some c ∧ ∀ xs, SeqB k K H a xs → xs[i]? = some x,
    fun i H => ∃ xs : List V, SeqB k K H a xs ∧ xs.length = i ∧ z.cps.size = i⟩
theorem turn_zipS {P : Program} {w : World} {K : PySem.W.Frag} {elts : List Expr} {kk : Nat} {tpos : Pos} {k : Bool} {a z TI TO i1 i2 : Addr} {x : Str} {t : Tok} (na : a ≠ i1) (S : ZipSep2 z TI TO i1 i2 [i1, a] [i2]) :
    Turn P w K (.Tuple elts kk tpos) (ItzS K k a x) [z, TI, TO, i1, i2] z (fun i h => IsZip h z TI TO .none ∧ IsTupOf2 h TI (.ref i1) (.ref i2) ∧ (∃ x y, IsTupOf2 h TO x y) ∧ IterB k h i1 a i ∧ IterS h i2 x t i) where
  mem := by simp
  obj := fun i h st e he => by
    obtain ⟨hz, hTI, ⟨x, y, hTO⟩, h1, h2⟩ := st
    have e' : e = z ∨ e = TI ∨ e = TO ∨ e = i1 ∨ e = i2 := by simpa using he
    rcases e' with q | q | q | q | q <;> rw [q]
    · exact ⟨_, hz, fun v q => nomatch q⟩
    · exact ⟨_, hTI, fun v q => nomatch q⟩
    · exact ⟨_, hTO, fun v q => nomatch q⟩
    · exact iterB_obj h1
    · exact iterS_obj h2
  keep := fun i h h' st q => by
    obtain ⟨hz, hTI, ⟨x, y, hTO⟩, h1, h2⟩ := st
    exact ⟨q z (by simp) _ hz, q TI (by simp) _ hTI, ⟨x, y, q TO (by simp) _ hTO⟩, iterB_keep h1 fun o e => q i1 (by simp) o e, iterS_keep h2 fun o e => q i2 (by simp) o e⟩
  item := by
    intro X hP hw hK hc i pins s σ H E I hf st hg
    subst hP hw hK
    obtain ⟨hz, hTI, hTO, h1, h2⟩ := st
    obtain ⟨xs, q1, l1, l2⟩ := hg
    obtain ⟨its1, r1, p1⟩ := seqB_at I q1
    have hh : X.A.in1.handled = none := I.ok.hd hc
    have W := WalksT.zipD2 (prog := X.prog) (w := X.w) (A := X.A) S (draws_B k hh i1 a na its1.toArray) (draws_S hh i2 x t)
    have e1 := r1.length
    refine W.item i s _ _ (by simp only [List.size_toArray]; omega) ⟨hz, hTI, hTO, ⟨h1, p1⟩, h2⟩ fun T vals h' tk hP hnew hT hm hk => ⟨_, rfl, ?_⟩
    refine W.go elts kk tpos i T { s with heap := h', toks := tk } _ _ hm fun h'' st2 hk2 => ?_
    obtain ⟨x1, y1, hx, ⟨c, u, hc', rfl⟩, rfl⟩ := hP
    obtain ⟨hz', hTI', hTO', ⟨h1', _⟩, h2'⟩ := st2
    obtain ⟨vx, hvx⟩ : ∃ v, xs[i]? = some v := ⟨_, List.getElem?_eq_getElem l1⟩
    obtain ⟨u1, hu1, ru1⟩ := r1.get hvx
    have t1 : x1 = u1 := by rw [List.getElem?_toArray, hu1] at hx; exact (Option.some.inj hx).symm
    subst t1
    have hT2 : h''.IsTuple T #[x1, Value.str ⟨#[c]⟩ u] := hT.at fun o e => hk2 T o (W.apart i T h' hm) e
    have new : ObjOk X.prog X.w (upd H T (.tup [vx, .str ⟨#[c]⟩])) h'' T (.tup [vx, .str ⟨#[c]⟩]) :=
      ⟨by show 2 ≤ sizeLine; decide, [x1, Value.str ⟨#[c]⟩ u], .cons ru1 (.cons ⟨u, rfl⟩ .nil), hT2⟩
    have I1 : Inv X pins σ (upd H T (.tup [vx, .str ⟨#[c]⟩])) { s with heap := h'', toks := tk } :=
      I.turnedNew (t' := tk) (ch := [z, TI, TO, i1, i2]) (fun e o hb q => hk2 e o (fun m => hb (by simp at m ⊢; rcases m with m | m | m | m <;> simp [m])) (hk e o (fun m => hb (by simp at m ⊢; rcases m with m | m | m | m <;> simp [m])) q)) hf hnew new
    refine ⟨.ref T, _, I1, rfl, ⟨T, vx, c, rfl, I.hok.fresh hnew, rfl, hc', fun xs' a1 => ?_⟩, ⟨hz', hTI', hTO', h1', h2'⟩, fun e he => ?_⟩
    · rw [seqB_inj I a1 q1]
      exact hvx
    · obtain ⟨x0, y0, hTO0⟩ := hTO
      have e' : e = z ∨ e = TI ∨ e = TO ∨ e = i1 ∨ e = i2 := by simpa using he
      have hlt : e < s.heap.objs.size := by
        rcases e' with q | q | q | q | q <;> rw [q]
        · exact Heap.lt_size hz
        · exact Heap.lt_size hTI
        · exact Heap.lt_size hTO0
        · obtain ⟨_, g, _⟩ := iterB_obj h1; exact Heap.lt_size g
        · obtain ⟨_, g, _⟩ := iterS_obj h2; exact Heap.lt_size g
      rw [upd_ne (Nat.ne_of_lt (Nat.lt_of_lt_of_le hlt hnew))]
      exact (hf e he).1
  done := by
    intro X hP hw hK hc i pins s σ H E I hf st hg
    subst hP hw hK
    obtain ⟨hz, hTI, hTO, h1, h2⟩ := st
    obtain ⟨xs, q1, l1, l2⟩ := hg
    obtain ⟨its1, r1, p1⟩ := seqB_at I q1
    have hh : X.A.in1.handled = none := I.ok.hd hc
    have W := WalksT.zipD2 (prog := X.prog) (w := X.w) (A := X.A) S (draws_B k hh i1 a na its1.toArray) (draws_S hh i2 x t)
    have e1 := r1.length
    have en : min its1.toArray.size x.cps.size = i := by
      rw [List.size_toArray, ← e1, l1, l2, Nat.min_self]
    refine W.done s _ _ (by rw [en]; exact ⟨hz, hTI, hTO, ⟨h1, p1⟩, h2⟩) fun h' tk hk => ⟨rfl, ?_⟩
    exact I.turnedL (t' := tk) (ch := [z, TI, TO, i1, i2]) (fun e o hb q => hk e o (fun m => hb (by simp at m ⊢; rcases m with m | m | m | m <;> simp [m])) q) hf
  self := fun A i s Q E st h => wpAny_pyIter_zip st.1 h
def iZipS (K : PySem.W.Frag) (ta : TA) : TI := fun σ H R => ta σ H fun vs H1 => ∃ (k : Bool) (a : Addr) (z : Str) (xs : List V), vs = [.ref a, .str z] ∧ SeqB k K H1 a xs ∧ R (ItzS K k a z) H1
theorem pi_zipSA {X : Cx} {e e2 : Expr} {ta : TA} {p pos tpos : Pos} {elts : List Expr} {kk : Nat} (hg : Gl X "zip") (hm : X.mg "zip" = none) (ha : PA X [e, e2] ta)
    (hs : starEach [e, e2] X.env = (false, eval e X.env) :: starEach [e2] X.env := by rfl) (hpl : (backTo pos (starEach [e2] X.env)).any (·.1) = false := by rfl) :
    PI X (.Tuple elts kk tpos) (.Call (.Name "zip" p) [e, e2] [] pos) (iZipS X.K ta) := by
  refine ⟨fun pins s σ H R I h => ?_⟩
  refine Call_ (ld_blt I hg hm PyProof.Rows.boot_zip (PyProof.Rows.callWith_type1 (thn (ha.run pos pins s σ H _ I h) fun us s1 ⟨vs, H1, I1, r1, q1⟩ => ?_) hs hpl))
  obtain ⟨k, a, z, xs, ex, w1, q⟩ := q1
  subst ex
  cases r1 with
  | cons r rr =>
    cases rr with
    | cons r' rr =>
      cases rr
      cases r
      obtain ⟨tk, rfl⟩ := r'
      have fresh : ∀ d, d ∈ [s1.heap.objs.size + 4, s1.heap.objs.size + 2, s1.heap.objs.size + 3, s1.heap.objs.size, s1.heap.objs.size + 1] → FpOk X pins H1 d := fun d hd => by
        have hle : s1.heap.objs.size ≤ d := by
          have e' : d = s1.heap.objs.size + 4 ∨ d = s1.heap.objs.size + 2 ∨ d = s1.heap.objs.size + 3 ∨ d = s1.heap.objs.size ∨ d = s1.heap.objs.size + 1 := by simpa using hd
          rcases e' with z | z | z | z | z <;> rw [z]
          · exact Nat.le_add_right _ _
          · exact Nat.le_add_right _ _
          · exact Nat.le_add_right _ _
          · exact Nat.le_refl _
          · exact Nat.le_add_right _ _
        exact I1.fpOk hle (I1.hok.fresh hle)
      obtain ⟨its1, v1, p1⟩ := seqB_at I1 w1
      obtain ⟨o1, B1, b1⟩ := begins_B k a its1.toArray
      have la := isB_lt p1
      refine zip_begins2 B1 (begins_text z tk) p1 trivial fun h' hz hTI hTO h1 h2 hsz hk => wpAny_pyIter_zip hz ?_
      have I2 : Inv X pins σ H1 { s1 with heap := h' } := I1.kept (t' := s1.toks) hk
      have S := zip_sep2 (N := s1.heap.objs.size) (fp1 := [a]) (fp2 := []) (fun x hx => by rw [List.mem_singleton.mp hx]; exact la) (fun x hx => by cases hx)
      exact ⟨s1.heap.objs.size + 4, [s1.heap.objs.size + 4, s1.heap.objs.size + 2, s1.heap.objs.size + 3, s1.heap.objs.size, s1.heap.objs.size + 1], _, _, H1, rfl, I2,
        turn_zipS (Nat.ne_of_lt la) S, ⟨hz, hTI, ⟨_, _, hTO⟩, b1 _ _ h1, ⟨_, h2, rfl, rfl⟩⟩, fresh, q⟩
theorem pi_zipS {X : Cx} {e e2 : Expr} {ta : TA} {p pos tpos : Pos} {elts : List Expr} {kk : Nat} (K : PySem.W.Frag) (h : X.K = K) (hg : Gl X "zip") (hm : X.mg "zip" = none) (ha : PA X [e, e2] ta)
    (hs : starEach [e, e2] X.env = (false, eval e X.env) :: starEach [e2] X.env := by rfl) (hpl : (backTo pos (starEach [e2] X.env)).any (·.1) = false := by rfl) :
    PI X (.Tuple elts kk tpos) (.Call (.Name "zip" p) [e, e2] [] pos) (iZipS K ta) := h ▸ pi_zipSA hg hm ha hs hpl
theorem walk_zipS {K : PySem.W.Frag} {k : Bool} {a : Addr} {z : Str} {xs : List V} {n : Nat} (h1 : xs.length = n) (h2 : z.cps.size = n) :
    Walk (ItzS K k a z) n (fun H => SeqB k K H a xs) (fun i H v H' => ∃ T x c, v = .ref T ∧ H T = none ∧ H' = upd H T (.tup [x, .str ⟨#[c]⟩]) ∧ xs[i]? = some x ∧ z.cps[i]? = some c) := by
  refine ⟨fun i _ hi q => ⟨xs, q, by omega, by omega⟩, fun _ q => ⟨xs, q, h1, h2⟩, fun i H v H' _ q y => ?_⟩
  obtain ⟨T, x, c, e1, e2, e3, e4, e5⟩ := y
  exact ⟨T, x, c, e1, e2, e3, e5 xs q, e4⟩
def ForZSK (K : PySem.W.Frag) (g : TG) (tb : TS) (D : Ends) (σ : L2.St) : List V → Hp → Prop := fun us H => tFor (iZipS K (fun _ H Q' => Q' us H)) g tb D σ H
theorem q_forZS {K : PySem.W.Frag} {ta : TA} {g : TG} {tb : TS} {D : Ends} {σ : L2.St} {H : Hp} (k : ta σ H (ForZSK K g tb D σ)) : tFor (iZipS K ta) g tb D σ H := k
theorem q_zipSFor {K : PySem.W.Frag} {g : TG} {tb : TS} {D : Ends} {σ : L2.St} {H : Hp} {a : Addr} {xs : List V} {z : Str} {n : Nat} (q1 : H a = some (.lst xs)) (h1 : xs.length = n) (h2 : z.cps.size = n) (Pv : Nat → L2.St → Hp → Prop) (h0 : Pv 0 σ H)
    (hq : ∀ i σ' H', Pv i σ' H' → H' a = some (.lst xs))
    (hs : ∀ (i : Nat) (x : V) (c : Nat) (T : Addr) (σ' : L2.St) (H' H2 : Hp), i < n → xs[i]? = some x → z.cps[i]? = some c → Pv i σ' H' → H' T = none → H2 T = some (.tup [x, .str ⟨#[c]⟩]) → Ex H' H2 → g (.ref T) σ' H2 fun σ2 H2 => tb { D with nx := Pv (i + 1), ct := Pv (i + 1), bk := D.nx } σ2 H2)
    (hd : ∀ σ' H', Pv n σ' H' → D.nx σ' H') : ForZSK K g tb D σ [.ref a, .str z] H :=
  ⟨true, a, z, xs, rfl, SqL.of q1, for_it (walk_zipS h1 h2) Pv h0 (fun i σ' H' _ p => SqL.of (hq i σ' H' p)) (fun i v σ' H1 H2 hi p ⟨T, x, c, e1, hT, e2, hx, hy⟩ => by subst e1 e2; exact hs i x c T σ' H1 _ hi hx hy p hT upd_same (Ex.new hT)) hd⟩
end
/-! # tuples and dicts of texts, written at the module's top -/
def TupK (K : PySem.W.Frag) (a : Addr) (xs : List V) : Prop := ∀ H, SqT K H a xs
theorem tupK_of {K : PySem.W.Frag} {a : Addr} {xs : List V} {od : Option Addr} {its : Array Value} {n : Nat} {sl : Array (Option Value)} (h : List.lookup a K = some ⟨.type "tuple", od, .seq its n, sl⟩) (hz : its.size ≤ sizeLine) (v : Vals xs its.toList) : TupK K a xs := fun H => .inr ⟨_, its, n, h, rfl, rfl, hz, v⟩
def lookT (tb : List (Str × Str)) (z : Str) : Option Str := match tb with
  | [] => none
  | (k, t) :: r => if k = z then some t else lookT r z
inductive Ents (P : Params) : List (Str × Str) → List DictEntry → Prop where
  | nil : Ents P [] []
  | cons {k t : Str} {h : Int} {tk1 tk2 : Tok} {tb : List (Str × Str)} {es : List DictEntry} : h = PyData.keyHash P k → Ents P tb es → Ents P ((k, t) :: tb) (⟨h, .str k tk1, .str t tk2⟩ :: es)
theorem Ents.lit {P : Params} : ∀ {tb : List (Str × Str)} {es : List DictEntry}, Ents P tb es → PySem.W.KeysLit P es
  | _, _, .nil => trivial
  | _, _, .cons h r => ⟨⟨_, _, rfl, h⟩, r.lit⟩
theorem Ents.find {P : Params} (z : Str) : ∀ {tb : List (Str × Str)} {es : List DictEntry}, Ents P tb es → (lookT tb z = none → es.find? (fun x => x.key.isStr z) = none) ∧ (∀ t, lookT tb z = some t → ∃ e u, es.find? (fun x => x.key.isStr z) = some e ∧ e.val = .str t u)
  | _, _, .nil => ⟨fun _ => rfl, fun t h => by cases h⟩
  | _, _, .cons (k := k) (t := t0) (tb := tb) (es := es) _ r => by
    by_cases c : k = z
    · subst c
      refine ⟨fun h => by simp [lookT] at h, fun t h => ?_⟩
      simp only [lookT, if_true, Option.some.injEq] at h
      subst h
      exact ⟨_, _, List.find?_cons_of_pos (by simp [Value.isStr]), rfl⟩
    · have e1 : lookT ((k, t0) :: tb) z = lookT tb z := by simp only [lookT, if_neg c]
      rw [e1, List.find?_cons_of_neg (by simp only [Value.isStr]; simpa using c)]
      exact r.find z
theorem Ents.noref {P : Params} : ∀ {tb : List (Str × Str)} {es : List DictEntry}, Ents P tb es → (es.any fun x => x.refKey) = false
  | _, _, .nil => rfl
  | _, _, .cons _ r => by rw [List.any_cons, r.noref]; rfl
structure TabK (K : PySem.W.Frag) (w : World) (d : Addr) (tb : List (Str × Str)) : Prop where
  kd : ∃ es n, KDict K w d es n
  no : ∀ z, lookT tb z = none → PySem.W.nsIn K d z = some none
  yes : ∀ z t, lookT tb z = some t → ∃ u, PySem.W.nsIn K d z = some (some u) ∧ L2.RelV (.str t) u
theorem tabK_of {K : PySem.W.Frag} {w : World} {d : Addr} {tb : List (Str × Str)} {es : Array DictEntry} {n : Nat} (h : List.lookup d K = some { cls := .type "dict", data := .dict es n }) (lo : (d == sysModules) = false) (e : Ents w.params tb es.toList) : TabK K w d tb := by
  refine ⟨⟨es, n, h, e.lit, lo⟩, fun z hz => ?_, fun z t hz => ?_⟩
  · unfold PySem.W.nsIn
    rw [h]
    simp only [(e.find z).1 hz, e.noref]
    rfl
  · obtain ⟨x, u, h1, h2⟩ := (e.find z).2 t hz
    refine ⟨x.val, ?_, ?_⟩
    · unfold PySem.W.nsIn
      rw [h]
      simp only [h1]
    · rw [h2]; exact ⟨u, rfl⟩
theorem op_notInT {X : Cx} (K : PySem.W.Frag) (w : World) (h1 : X.K = K) (h2 : X.w = w) {d : Addr} {tb : List (Str × Str)} (T : TabK K w d tb) : OpR X (compareOp CmpOp.NotIn) (fun x y H Q => ∃ z, x = .str z ∧ y = .ref d ∧ Q (.bl (lookT tb z).isNone) H) := by
  subst h1 h2
  obtain ⟨es, n, D⟩ := T.kd
  rintro pins s σ H x y v u Q I rx ry ⟨z, rfl, rfl, q⟩
  cases g : lookT tb z with
  | none => exact op_notIn_kd D pins s σ H _ _ v u Q I rx ry ⟨z, none, rfl, rfl, T.no z g, by rw [g] at q; exact q⟩
  | some t =>
    obtain ⟨u', e, _⟩ := T.yes z t g
    exact op_notIn_kd D pins s σ H _ _ v u Q I rx ry ⟨z, some u', rfl, rfl, e, by rw [g] at q; exact q⟩
def rIxT (d : Addr) (tb : List (Str × Str)) : R2 := fun x y H Q => ∃ z t, x = .ref d ∧ y = .str z ∧ lookT tb z = some t ∧ Q (.str t) H
theorem ix_T {X : Cx} (K : PySem.W.Frag) (w : World) (h1 : X.K = K) (h2 : X.w = w) {d : Addr} {tb : List (Str × Str)} (T : TabK K w d tb) : IxR X (rIxT d tb) := by
  subst h1 h2
  obtain ⟨es, n, D⟩ := T.kd
  rintro value slice pins s σ H x y v u Q I rx ry ⟨z, t, rfl, rfl, g, q⟩ hs
  obtain ⟨u', e, r⟩ := T.yes z t g
  exact ix_kdict value slice pins s σ H _ _ v u Q I rx ry ⟨d, z, .str t, rfl, rfl, ⟨es, n, u', D.at_, D.lit, e, r⟩, q⟩ hs
theorem q_inTup {K : PySem.W.Frag} {H : Hp} {Q : VK} {x : V} {a : Addr} {xs : List V} (t : TupK K a xs) (hx : flatV x = true) (hf : xs.all flatV = true) (k : Q (.bl (inV x xs)) H) : rIn K false x (.ref a) H Q := ⟨a, xs, rfl, .inr (t H), hx, hf, k⟩
theorem q_inLst {K : PySem.W.Frag} {H : Hp} {Q : VK} {x : V} {a : Addr} {xs : List V} (t : H a = some (.lst xs)) (hx : flatV x = true) (hf : xs.all flatV = true) (k : Q (.bl (inV x xs)) H) : rIn K false x (.ref a) H Q := ⟨a, xs, rfl, .inl (SqL.of t), hx, hf, k⟩
/-! # the lines of a desk -/
def SPC : Str := ⟨#[32]⟩
theorem spc_eq : (" " : Str) = SPC := by decide +kernel
theorem q_splitB {H : Hp} {Q : VK} {n : Nat} {s : Str} (h : Tn n s) (hn : Nat.ble (n + 2) 1000 = true) (k : ∀ p H', H p = none → H' p = some (.lst ((Txt.split s SPC).map V.str)) → Ex H H' → Q (.ref p) H') : rSplitA (.str s) [.str " "] H Q := by
  rw [spc_eq]
  exact q_splitS h hn k
def lawTb : List (Str × Str) := [(("shelf" : Str), ("wnn" : Str)), (("run" : Str), ("wnonno" : Str)), (("split" : Str), ("www" : Str)), (("join" : Str), ("w" : Str)), (("volume" : Str), ("wwnn" : Str)), (("drop" : Str), ("w" : Str)), (("widen" : Str), ("wn" : Str)), (("old" : Str), ("wnn" : Str)), (("stand" : Str), ("ww" : Str)), (("lift" : Str), ("w" : Str)), (("plan" : Str), ("n" : Str)), (("even" : Str), ("n" : Str)), (("move" : Str), ("nn" : Str)), (("load" : Str), ("n" : Str)), (("unload" : Str), ("n" : Str)), (("drive" : Str), ("n" : Str)), (("ask" : Str), ("w" : Str)), (("back" : Str), ("w" : Str)), (("runs" : Str), ("" : Str)), (("names" : Str), ("" : Str)), (("lost" : Str), ("" : Str)), (("alike" : Str), ("w" : Str)), (("of" : Str), ("w" : Str)), (("total" : Str), ("" : Str)), (("most" : Str), ("n" : Str)), (("told" : Str), ("" : Str)), (("row" : Str), ("w" : Str)), (("where" : Str), ("w" : Str)), (("find" : Str), ("nwo" : Str)), (("looks" : Str), ("" : Str)), (("left" : Str), ("" : Str)), (("out" : Str), ("" : Str)), (("cart" : Str), ("n" : Str)), (("ended" : Str), ("" : Str)), (("text" : Str), ("" : Str)), (("house" : Str), ("" : Str))]
def thingV (c : Nat) (w : Str) : V := if c = 110 then readV (.str w) 0 999999999999999999999999999999 else if c = 111 ∧ w = "-" then .non else .str w
def okT (c : Nat) (w : Str) : Bool := !(c == 110 && decide (thingV c w = .non))
def lineOf (s : Str) : Option (List V) := match Txt.split s SPC with
  | [] => none
  | w0 :: ws => match lookT lawTb w0 with
    | none => none
    | some f => if inV (.str "") ((w0 :: ws).map V.str) = false ∧ ws.length = f.cps.size ∧ ((f.cps.toList.zip ws).all fun p => okT p.1 p.2) = true then some (.str w0 :: (f.cps.toList.zip ws).map fun p => thingV p.1 p.2) else none
def goodLine (s : Str) : Bool := decide (s.length ≤ 400) && s.cps.toList.all fun c => decide (32 ≤ c) && decide (c ≤ 126)
def lineV : V → Option (List V)
  | .str s => if goodLine s = true then lineOf s else none
  | _ => none
theorem plain30 {l : List Nat} (h : plainL l = true) : (val l : Int) ≤ 999999999999999999999999999999 ↔ l.length ≤ 30 := by
  have hb := plain_back h
  have hl : (Nat.toDigits 10 (val l)).length = l.length := by rw [hb, List.length_map]
  have hf : l.all isFig = true := by
    simp only [plainL, Bool.and_eq_true] at h
    exact h.1.2
  constructor
  · intro z
    have : val l < 10 ^ 30 := by
      have : (10 : Nat) ^ 30 = 1000000000000000000000000000000 := by decide +kernel
      omega
    have := PySem.toDigits_len_pow (b := 10) (k := 30) (by decide) (by decide) this
    omega
  · intro z
    have h1 := val_lt l hf
    have h2 : 10 ^ l.length ≤ 10 ^ 30 := Nat.pow_le_pow_right (by decide) z
    have : (10 : Nat) ^ 30 = 1000000000000000000000000000000 := by decide +kernel
    omega
theorem readV_is (s : Str) (hi : Int) : readV (.str s) 0 hi = .non ∨ ∃ n : Nat, readV (.str s) 0 hi = .int n ∧ (n : Int) ≤ hi := by
  unfold readV
  by_cases c : plainL s.cps.toList = true ∧ (0 : Int) ≤ (val s.cps.toList : Int) ∧ (val s.cps.toList : Int) ≤ hi
  · right; exact ⟨_, if_pos c, c.2.2⟩
  · left; exact if_neg c
theorem okT_n (s : Str) : okT 110 s = !decide (readV (.str s) 0 999999999999999999999999999999 = .non) := by
  show (!(true && decide (thingV 110 s = .non))) = _
  rw [Bool.true_and]; rfl
theorem okT_o {c : Nat} (h : c ≠ 110) (s : Str) : okT c s = true := by
  unfold okT
  rw [beq_eq_false_iff_ne.mpr h, Bool.false_and]; rfl
/-- the things of the first i words -/
def thAt (cs : List Nat) (ws : List Str) : List V := (cs.zip ws).map fun p => thingV p.1 p.2
def okAt (cs : List Nat) (ws : List Str) : Bool := (cs.zip ws).all fun p => okT p.1 p.2
theorem zip_step {α β : Type} {xs : List α} {ys : List β} {i : Nat} {x : α} {y : β} (hx : xs[i]? = some x) (hy : ys[i]? = some y) : (xs.zip ys).take (i + 1) = (xs.zip ys).take i ++ [(x, y)] := by
  have : (xs.zip ys)[i]? = some (x, y) := by rw [List.getElem?_zip_eq_some]; exact ⟨hx, hy⟩
  rw [List.take_succ, this]; rfl
theorem all_take {α : Type} {f : α → Bool} {L : List α} (n : Nat) (h : (L.take n).all f = false) : L.all f = false := by
  cases g : L.all f with
  | false => rfl
  | true =>
    have : (L.take n).all f = true := List.all_eq_true.mpr fun x hx => List.all_eq_true.mp g x (List.mem_of_mem_take hx)
    rw [this] at h; cases h
theorem q_words {H : Hp} {Q : VK} {t : Str} (h : t.length ≤ 100) (k : ∀ p H', H p = none → H' p = some (.lst ((Txt.words t).map V.str)) → Ex H H' → Q (.ref p) H') : ([] : List V) = [] ∧ t.length + 2 ≤ sizeLine ∧ rNewStrs (Txt.words t) H Q :=
  ⟨rfl, Nat.le_of_lt (small1000 (by omega)), fun p hp => k p _ hp upd_same (Ex.new hp)⟩
theorem thing_nn {c : Nat} {w : Str} (h : c ≠ 110) : thingV c w = .non ∨ thingV c w = .str w := by
  unfold thingV
  rw [if_neg h]
  split
  · exact .inl rfl
  · exact .inr rfl
theorem lo_sign (c : Nat) : (!decide ((⟨#[c]⟩ : Str).cps.toList < (" " : Str).cps.toList)) = decide (32 ≤ c) := by
  rw [show (" " : Str).cps.toList = [32] by decide +kernel]
  by_cases h : 32 ≤ c
  · rw [decide_eq_true h, decide_eq_false]; rfl
    show ¬ ([c] < [32])
    intro z
    cases z with
    | rel h2 => omega
    | cons h2 => cases h2
  · rw [decide_eq_false h, decide_eq_true]; rfl
    exact .rel (by omega)
theorem hi_sign (c : Nat) : (!decide (("~" : Str).cps.toList < (⟨#[c]⟩ : Str).cps.toList)) = decide (c ≤ 126) := by
  rw [show ("~" : Str).cps.toList = [126] by decide +kernel]
  by_cases h : c ≤ 126
  · rw [decide_eq_true h, decide_eq_false]; rfl
    show ¬ ([126] < [c])
    intro z
    cases z with
    | rel h2 => omega
    | cons h2 => cases h2
  · rw [decide_eq_false h, decide_eq_true]; rfl
    exact .rel (by omega)
theorem q_neSigns {K : PySem.W.Frag} {H : Hp} {Q : VK} {p q : Addr} {l : List Nat} {f : Nat → Bool} (hp : H p = some (.lst ((l.filter fun c => !f c).map fun c => V.str ⟨#[c]⟩))) (hq : H q = some (.lst [])) (hc : ∀ c ∈ l, c < 128) (k : Q (.bl (!(l.all f))) H) : rNeA K (.ref p) (.ref q) H Q := by
  refine q_neDt (.lst (SqL.of hp) (dp_signs _)) (.lst (SqL.of hq) .nil) (shaped_signs fun c h => hc c (List.mem_filter.mp h).1) (by decide) ?_
  have e : PyData.eqv (.list ((l.filter fun c => !f c).map fun c => PyData.str ⟨#[c]⟩)) (.list []) = l.all f := by
    rw [← filter_not_nil]
    cases l.filter fun c => !f c <;> simp [PyData.eqv, PyData.eqvAll]
  rw [e]
  exact k
theorem tPairs_S {σ : L2.St} : ∀ (l : List (Str × Str)) {H : Hp} {Q : List (V × V) → Hp → Prop}, Q (l.map fun p => (V.str p.1, V.str p.2)) H → tPairs (l.map fun p => (tC (.str p.1), tC (.str p.2))) σ H Q
  | [], _, _, h => h
  | a :: r, H, Q, h => tPairs_S r (Q := fun ps H2 => Q ((V.str a.1, V.str a.2) :: ps) H2) h
def kvS (l : List (Str × Str)) : List (Key × V) := l.map fun p => (Sum.inr p.1, V.str p.2)
theorem q_dispS {σ : L2.St} {H : Hp} {Q : VK} (l : List (Str × Str)) (hl : l.length ≤ 15) (k : ∀ p H', H p = none → H' p = some (.dK (mergeK [] (kvS l))) → Ex H H' → Q (.ref p) H') : tDisp (l.map fun p => (tC (.str p.1), tC (.str p.2))) σ H Q := fun p h => by
  refine tPairs_S l ⟨upd_same, kvS l, ?_, ?_, k p _ h upd_same ?_⟩
  · unfold kvS; rw [List.map_map]; rfl
  · unfold kvS; rw [List.length_map]; exact hl
  · rw [upd_upd]; exact Ex.new h
theorem valV_lookT : ∀ (l : List (Str × Str)) (z : Str), valV (kvS l) (Sum.inr z) = (lookT l z).map V.str
  | [], _ => rfl
  | (a, t) :: r, z => by
    unfold lookT
    by_cases c : a = z
    · subst c
      rw [if_pos rfl]
      show ((List.find? _ (_ :: _)).map _) = _
      rw [List.find?_cons_of_pos (by simp)]
      rfl
    · rw [if_neg c, ← valV_lookT r z]
      show ((List.find? _ (_ :: _)).map _) = _
      rw [List.find?_cons_of_neg (by simp only [decide_eq_true_eq]; intro e; exact c (by cases e; rfl))]
      rfl
theorem fig_in (c : Nat) : isFig c = decide (c ∈ ("0123456789" : Str).cps.toList) := by
  rw [show ("0123456789" : Str).cps.toList = [48, 49, 50, 51, 52, 53, 54, 55, 56, 57] by decide +kernel]
  unfold isFig
  by_cases h : 48 ≤ c ∧ c ≤ 57
  · rw [decide_eq_true h.1, decide_eq_true h.2, decide_eq_true]; rfl
    simp only [List.mem_cons, List.not_mem_nil, or_false]; omega
  · rw [decide_eq_false (p := c ∈ _)]
    · simp only [Bool.and_eq_false_iff, decide_eq_false_iff_not]; omega
    · simp only [List.mem_cons, List.not_mem_nil, or_false]; omega
theorem q_tyD {K : PySem.W.Frag} {H : Hp} {a : Addr} {kvs : List (Key × V)} (h : H a = some (.dK kvs)) : tyV K "dict" (.ref a) H := .inr (.inr (.inl ⟨rfl, .inl ⟨kvs, h⟩⟩))
theorem pe_kn0 {X : Cx} {k j : Nat} {x : Str} {sp : Sp} {p pos : Pos} (c : Kn X.prog X.w X.K X.mg X.base k x sp) (hr : Room j X.A) (hk : k ≤ j) (hg : Gl X x)
    (hdb : (x == ("__debug__" : Str)) = false := by decide) :
    PE X (.Call (.Name x p) [] [] pos) (tCall sp [] L2.E0 tNil) := by
  obtain ⟨f, fd, ps, F, hm, kp, b⟩ := c.ex
  exact pe_call0 F (hr.mono hk) hg hm kp b .nil pass0 hdb
theorem q_dget2 {td ty tx : TE} {σ : L2.St} {H : Hp} {Q : VK} (k : td σ H fun x H1 => ∃ a, x = .ref a ∧ IsD H1 a ∧ ty σ H1 fun y H2 => tx σ H2 fun z H3 => ∃ o, DGet H3 a y o ∧ Q (o.getD z) H3) : tDGet2 td ty tx σ H Q := k
theorem dget_S {H : Hp} {a : Addr} {tb : List (Str × Str)} {z : Str} (h : H a = some (.dK (kvS tb))) : DGet H a (.str z) ((lookT tb z).map V.str) :=
  .inl ⟨_, Sum.inr z, .inl h, rfl, (valV_lookT tb z).symm⟩
def tabV (n : Nat) : Bool := n == 110 || n == 111 || n == 119
theorem law_signs : ∀ {l : List (Str × Str)}, (l.all fun p => decide (p.2.length ≤ 6) && p.2.cps.toList.all tabV) = true → ∀ {z f : Str}, lookT l z = some f → f.length ≤ 6 ∧ ∀ c ∈ f.cps.toList, c = 110 ∨ c = 111 ∨ c = 119
  | [], _, _, _, h => by cases h
  | (a, t) :: r, hl, z, f, h => by
    rw [List.all_cons, Bool.and_eq_true] at hl
    unfold lookT at h
    by_cases c : a = z
    · rw [if_pos c] at h
      cases h
      have h1 := hl.1
      simp only [Bool.and_eq_true, decide_eq_true_eq] at h1
      refine ⟨h1.1, fun c hc => ?_⟩
      have := List.all_eq_true.mp h1.2 c hc
      simp only [tabV, Bool.or_eq_true, beq_iff_eq] at this
      rcases this with (h | h) | h
      · exact .inl h
      · exact .inr (.inl h)
      · exact .inr (.inr h)
    · rw [if_neg c] at h
      exact law_signs hl.2 h
theorem law_sign {z f : Str} (h : lookT lawTb z = some f) : f.length ≤ 6 ∧ ∀ c ∈ f.cps.toList, c = 110 ∨ c = 111 ∨ c = 119 := law_signs (by decide +kernel) h
def SG : Str := "!\"#$&'()*+,-./0123456789:;<=>?@ABCDEFGHIJKLMNOPQRSTUVWXYZ[]^_abcdefghijklmnopqrstuvwxyz{|}~"
theorem sg_len : SG.cps.toList.length = 91 := by decide +kernel
theorem sg_ok : ∀ c ∈ SG.cps.toList, c < 128 := by decide +kernel
/-! # a text some times over -/
def rRepG : R2 := fun x y H Q => ∃ (s : Str) (k : Int), x = .str s ∧ y = .int k ∧ 2 ≤ k ∧ k ≤ 100 ∧ 1 ≤ s.length ∧ s.length ≤ 100 ∧ ∀ z : Str, z.length = k.toNat * s.length → (∀ d ∈ z.cps.toList, d ∈ s.cps.toList) → Q (.str z) H
theorem fold_repG (b : Array Nat) : ∀ (n : Nat) (a : Array Nat), ((List.replicate n b).foldl (· ++ ·) a).toList = a.toList ++ (List.replicate n b.toList).flatten
  | 0, a => by simp
  | n + 1, a => by
    rw [List.replicate_succ, List.foldl_cons, fold_repG b n, Array.toList_append, List.append_assoc, List.replicate_succ]
    rfl
theorem op_repG {X : Cx} : OpR X (binaryOp .Mult) rRepG := by
  intro pins s σ H x y v u Q I rx ry h
  obtain ⟨c, k, rfl, rfl, h1, h2, h3, h4, q⟩ := h
  obtain ⟨t, rfl⟩ := rx
  obtain ⟨t', rfl⟩ := ry
  have hsz : (10000 : Nat) ≤ sizeLine := by rw [sizeLine_eq]; decide
  have hm : k.toNat * c.length ≤ 100 * 100 := Nat.mul_le_mul (by omega) h4
  refine PySem.P.mul_str (by rw [decide_eq_false (by omega), decide_eq_false (by omega)]; rfl) (fun _ _ => ?_) (fun _ _ => ?_) ?_
  · have : (100 : Int) ≤ (2 ^ 63 - 1) / k := (Int.le_ediv_iff_mul_le (by omega)).mpr (by omega)
    omega
  · unfold Builtin.Str.tooLong
    have : ¬ c.length * k.toNat > sizeLine := by rw [Nat.mul_comm]; omega
    simp [this]
  · rw [if_neg (by omega)]
    have e : ((List.replicate k.toNat c.cps).foldl (· ++ ·) #[]).toList = (List.replicate k.toNat c.cps.toList).flatten := by
      rw [fold_repG]; rfl
    have en : (⟨(List.replicate k.toNat c.cps).foldl (· ++ ·) #[]⟩ : Str).length = k.toNat * c.length := by
      rw [TL.len_tl]
      show ((List.replicate k.toNat c.cps).foldl (· ++ ·) #[]).toList.length = _
      rw [e, List.length_flatten, List.map_replicate, List.sum_replicate_nat]
      rfl
    rw [if_neg (by simp; omega)]
    refine ⟨by rw [en]; omega, .str _, H, I.tok _, ⟨_, rfl⟩, q _ en fun d hd => ?_⟩
    have hd' : d ∈ ((List.replicate k.toNat c.cps).foldl (· ++ ·) #[]).toList := hd
    rw [e] at hd'
    obtain ⟨l, hl, hd2⟩ := List.mem_flatten.mp hd'
    rw [(List.mem_replicate.mp hl).2] at hd2
    exact hd2
/-! # words with blanks between them -/
def wordsN : List Str → Nat
  | [] => 0
  | a :: r => a.length + 1 + wordsN r
theorem wordsN_app : ∀ (a b : List Str), wordsN (a ++ b) = wordsN a + wordsN b
  | [], b => by simp [wordsN]
  | x :: a, b => by simp only [List.cons_append, wordsN, wordsN_app a b]; omega
theorem join_Tn {ws : List Str} (h : ∀ w ∈ ws, ∀ c ∈ w.cps.toList, c < 128) : Tn (wordsN ws) (Str.join SPC ws) := by
  induction ws with
  | nil => exact ⟨Nat.le_refl _, fun c hc => by cases hc⟩
  | cons a r ih =>
    have h1 : Tn a.length a := ⟨Nat.le_refl _, h a List.mem_cons_self⟩
    cases r with
    | nil => exact h1.mono (by simp only [wordsN]; omega)
    | cons b r =>
      have i := ih fun w hw => h w (List.mem_cons_of_mem _ hw)
      have h2 : Tn 1 SPC := Tn.one (by decide)
      show Tn _ (a ++ SPC ++ Str.join SPC (b :: r))
      exact ((h1.app h2).app i).mono (by simp only [wordsN]; omega)
theorem wordsN_len {ws : List Str} (h : ws ≠ []) : wordsN ws = (Str.join SPC ws).length + 1 := by
  induction ws with
  | nil => exact absurd rfl h
  | cons a r ih =>
    cases r with
    | nil => simp only [wordsN]; rfl
    | cons b r =>
      have i := ih (by simp)
      have e : (Str.join SPC (a :: b :: r)).length = a.length + 1 + (Str.join SPC (b :: r)).length := by
        show (a ++ SPC ++ Str.join SPC (b :: r)).length = _
        rw [TL.len_tl, TL.tl_append, TL.tl_append, List.length_append, List.length_append, ← TL.len_tl, ← TL.len_tl, ← TL.len_tl]
        rfl
      rw [e]
      show a.length + 1 + wordsN (b :: r) = _
      omega
theorem wordsN_split (s : Str) : wordsN (Txt.split s SPC) = s.length + 1 := by
  rw [wordsN_len (split_ne _ _), StrLaws.join_split]
theorem wordsN_sum (ws : List Str) : (ws.map (·.length)).sum + ws.length = wordsN ws := by
  induction ws with
  | nil => rfl
  | cons a r ih => simp only [List.map_cons, List.sum_cons, List.length_cons, wordsN]; omega
theorem q_joinW {K : PySem.W.Frag} {H : Hp} {Q : VK} {p : Addr} {ws : List Str} {n : Nat} (h : H p = some (.lst (ws.map V.str))) (hn : wordsN ws ≤ n) (hz : n ≤ 1000) (hc : ∀ w ∈ ws, ∀ c ∈ w.cps.toList, c < 128) (k : ∀ s, Tn n s → Q (.str s) H) : rJoin K (.str " ") [.ref p] H Q := by
  rw [spc_eq]
  refine ⟨SPC, p, ws, rfl, rfl, .inl (SqL.of h), ?_, k _ (by have := (join_Tn hc).mono hn; rw [← TL.join_eq] at this; exact this)⟩
  have := wordsN_sum ws
  have e : SPC.length = 1 := rfl
  rw [e]; omega
theorem wordsN_set {ws : List Str} {i : Nat} {a : Str} : wordsN (ws.set i a) ≤ wordsN ws + a.length + 1 := by
  induction ws generalizing i with
  | nil => simp [wordsN]
  | cons b r ih =>
    cases i with
    | zero => simp only [List.set_cons_zero, wordsN]; omega
    | succ j =>
      have := ih (i := j)
      simp only [List.set_cons_succ, wordsN]; omega
theorem wordsN_ins {ws : List Str} {i : Nat} {a : Str} : wordsN (ws.take i ++ [a] ++ ws.drop i) = wordsN ws + a.length + 1 := by
  have e : wordsN ws = wordsN (ws.take i) + wordsN (ws.drop i) := by rw [← wordsN_app, List.take_append_drop]
  rw [wordsN_app, wordsN_app, e]
  simp only [wordsN]; omega
theorem wordsN_del {ws : List Str} {i : Nat} : wordsN (ws.eraseIdx i) ≤ wordsN ws := by
  induction ws generalizing i with
  | nil => simp
  | cons b r ih =>
    cases i with
    | zero => simp only [List.eraseIdx_cons_zero, wordsN]; omega
    | succ j =>
      have := ih (i := j)
      simp only [List.eraseIdx_cons_succ, wordsN]; omega
theorem map_eraseIdx {α β : Type} (f : α → β) : ∀ (l : List α) (i : Nat), (l.map f).eraseIdx i = (l.eraseIdx i).map f
  | [], i => by simp
  | a :: r, 0 => rfl
  | a :: r, i + 1 => by simp only [List.map_cons, List.eraseIdx_cons_succ, map_eraseIdx f r i]
theorem q_popAt {H : Hp} {Q : VK} {l : Addr} {xs : List V} {i : Nat} {y : V} (h : H l = some (.lst xs)) (hz : xs.length < 1000) (hy : xs[i]? = some y) (k : ∀ H', H' l = some (.lst (xs.eraseIdx i)) → Fb l H H' → Q y H') : rPopAt (.ref l) [.int (i : Int)] H Q := by
  have hi := (List.getElem?_eq_some_iff.mp hy).1
  refine ⟨l, xs, i, i, y, rfl, rfl, h, by omega, by omega, ?_, hy, k _ upd_same Fb.put⟩
  have e : ¬ ((i : Int) < 0) := by omega
  unfold seqIndex?
  simp only [if_neg e]
  rw [if_pos (by simp only [Bool.and_eq_true, decide_eq_true_eq]; omega)]
  rfl
theorem law_key : ∀ w ∈ lawTb.map (·.1), (lookT lawTb w).isSome = true ∧ Tn 10 w := by
  have h : ∀ w ∈ lawTb.map (·.1), (lookT lawTb w).isSome = true ∧ w.length ≤ 10 ∧ ∀ c ∈ w.cps.toList, c < 128 := by decide +kernel
  exact fun w hw => ⟨(h w hw).1, (h w hw).2.1, (h w hw).2.2⟩
theorem law_len : lawTb.length = 36 := by decide +kernel
theorem q_tpc {s : Str} {b : TE} {r : List (TE × TE)} {σ : L2.St} {H : Hp} {Q : List (V × V) → Hp → Prop} (k : b σ H fun v H2 => tPairs r σ H2 fun ps H3 => Q ((.str s, v) :: ps) H3) : tPairs ((tC (.str s), b) :: r) σ H Q := k
theorem q_tp0 {σ : L2.St} {H : Hp} {Q : List (V × V) → Hp → Prop} (k : Q [] H) : tPairs [] σ H Q := k
theorem key_ne {a b : Str} (h : a ≠ b) : (Sum.inr a : Key) ≠ Sum.inr b := fun z => h (by cases z; rfl)
def now3 (a b c : V) : List (Key × V) := [(Sum.inr ("n" : Str), a), (Sum.inr ("w" : Str), b), (Sum.inr ("o" : Str), c)]
theorem nw_ne : ("n" : Str) ≠ "w" := by decide +kernel
theorem no_ne : ("n" : Str) ≠ "o" := by decide +kernel
theorem wo_ne : ("w" : Str) ≠ "o" := by decide +kernel
theorem merge3 (a b c : V) : mergeK [] (now3 a b c) = now3 a b c := by
  simp [now3, mergeK, putK, nw_ne, no_ne, wo_ne]
theorem val3 (a b c : V) {d : Nat} (h : d = 110 ∨ d = 111 ∨ d = 119) : ∃ v, valV (now3 a b c) (Sum.inr ⟨#[d]⟩) = some v ∧ (v = a ∨ v = b ∨ v = c) := by
  rcases h with rfl | rfl | rfl
  · exact ⟨a, by
      rw [show (⟨#[110]⟩ : Str) = "n" by decide +kernel]
      simp [now3, valV], .inl rfl⟩
  · exact ⟨c, by
      rw [show (⟨#[111]⟩ : Str) = "o" by decide +kernel]
      simp [now3, valV, no_ne, wo_ne], .inr (.inr rfl)⟩
  · exact ⟨b, by
      rw [show (⟨#[119]⟩ : Str) = "w" by decide +kernel]
      simp [now3, valV, nw_ne], .inr (.inl rfl)⟩
theorem q_dget0 {td ty : TE} {σ : L2.St} {H : Hp} {Q : VK} (k : td σ H fun x H1 => ty σ H1 fun y H2 => ∃ a v, x = .ref a ∧ DGet H2 a y (some v) ∧ Q v H2) : tDGet td ty σ H Q := k
theorem q_strT {H : Hp} {Q : VK} {n k : Nat} (hk : 1 ≤ k) (h : n < 10 ^ k) (h30 : k ≤ 30) (q : ∀ s : Str, Tn k s → 1 ≤ s.length → Q (.str s) H) : rStrA [.int (n : Int)] H Q := by
  have hn : n < 10 ^ 30 := Nat.lt_of_lt_of_le h (Nat.pow_le_pow_right (by decide) h30)
  have hlog : ((n : Int)).natAbs.log2 < 1920 := by
    show n.log2 < 1920
    by_cases hz : n = 0
    · subst hz; decide
    · exact (Nat.log2_lt hz).mpr (Nat.lt_trans hn (by decide +kernel))
  refine q_strI hlog (q _ (num_Tn hk h) ?_)
  have e : (Str.ofString (toString ((n : Nat) : Int))).length = (Nat.toDigits 10 n).length := by rw [TL.len_tl, num_tl, List.length_map]
  show 1 ≤ (Str.ofString (toString ((n : Nat) : Int))).length
  rw [e]
  exact PySem.toDigits_len_ge 10 n
theorem q_rep4 {H : Hp} {Q : VK} {s : Str} {m : Nat} (t : Tn m s) (h1 : 1 ≤ s.length) (hm : m ≤ 100) (q : ∀ z, Tn (4 * m) z → Q (.str z) H) : rRepG (.str s) (.int 4) H Q := by
  have := t.1
  refine ⟨s, 4, rfl, rfl, by decide, by decide, h1, by omega, fun z zl zc => q z ⟨?_, fun d hd => t.2 d (zc d hd)⟩⟩
  rw [zl]
  show 4 * s.length ≤ _
  omega
theorem log30 {n : Nat} (h : n < 1000000000000000000000000000000) : ((n : Int)).natAbs.log2 < 1920 := by
  show n.log2 < 1920
  by_cases hz : n = 0
  · subst hz; decide
  · exact (Nat.log2_lt hz).mpr (Nat.lt_trans h (by decide +kernel))
theorem big_mid {n : Nat} (h : n < 1000000000000000000000000000000) : Mid (.int (n : Int)) 100 3 := by
  refine ⟨?_, by simp only [PyData.depth]; omega, ?_⟩
  · simp only [PyData.showable]
    exact decide_eq_true (log30 h)
  · exact Nat.le_trans (num_Tn (n := n) (k := 30) (by decide) h).1 (by decide)
structure LnT (K : PySem.W.Frag) (H : Hp) (v : V) : Prop where
  th : Thing K H v
  sz : ∀ s, v = .str s → Tn 700 s
  dat : ∃ d, Dd K H v d ∧ Mid d 8000 5
  ls : ∀ q ys, v = .ref q → H q = some (.lst ys) → ys = [.str "told"]
  di : ∀ q kvs, v = .ref q → H q = some (.dK kvs) → kvs = []
theorem LnT.str {K : PySem.W.Frag} {H : Hp} {s : Str} (h : Tn 700 s) : LnT K H (.str s) :=
  ⟨.str s (h.mono (by decide)), (fun z e => by cases e; exact h), ⟨_, .str s, (sm_str h).mid.mono (by decide) (by decide)⟩, (fun _ _ e => by cases e), (fun _ _ e => by cases e)⟩
theorem LnT.ex {K : PySem.W.Frag} {H H' : Hp} {v : V} (h : LnT K H v) (e : Ex H H') : LnT K H' v := by
  refine ⟨h.th.ex e, h.sz, ?_, fun q ys ev hq => ?_, fun q kvs ev hq => ?_⟩
  · obtain ⟨d, hd, m⟩ := h.dat
    exact ⟨d, dd_ex e hd, m⟩
  · subst ev
    obtain ⟨o, ho⟩ := thing_at h.th
    have := e _ _ ho
    rw [hq] at this
    cases this
    exact h.ls q ys rfl ho
  · subst ev
    obtain ⟨o, ho⟩ := thing_at h.th
    have := e _ _ ho
    rw [hq] at this
    cases this
    exact h.di q kvs rfl ho
theorem pair_rp {K : PySem.W.Frag} {H : Hp} {p : Addr} {s : Str} {v : V} {d : PyData} {m k : Nat} (h : H p = some (.lst [.str s, v])) (ts : Tn 10 s) (hd : Dd K H v d) (md : Mid d m k) (hm : 102 ≤ m) (hk : 3 ≤ k) : Dd K H (.ref p) (.list [.str s, d]) ∧ Mid (.list [.str s, d]) ((m + 2) * 2 + 3) (k + 1) :=
  ⟨.lst (SqL.of h) (.cons (.str s) (.cons hd .nil)), pair_mid ((sm_str ts).mid.mono (by omega) hk) md⟩
theorem line_dd {s : Str} {xs : List V} (hs : Tn 700 s) (h : lineV (.str s) = some xs) : xs.length ≤ 7 ∧ ∀ v ∈ xs, ∃ d, (∀ (K : PySem.W.Frag) (H : Hp), Dd K H v d) ∧ Mid d 8000 5 := by
  have hw : ∀ w ∈ Txt.split s SPC, Tn 700 w := fun w m => hs.split (c := 32) m
  unfold lineV at h
  simp only at h
  split at h
  · unfold lineOf at h
    cases hsp : Txt.split s SPC with
    | nil => rw [hsp] at h; cases h
    | cons w0 ws =>
      rw [hsp] at h hw
      simp only at h
      cases g : lookT lawTb w0 with
      | none => rw [g] at h; cases h
      | some f =>
        rw [g] at h
        simp only at h
        split at h
        · cases h
          obtain ⟨fl, fc⟩ := law_sign g
          have st : ∀ w, Tn 700 w → ∃ d, (∀ (K : PySem.W.Frag) (H : Hp), Dd K H (.str w) d) ∧ Mid d 8000 5 := fun w t => ⟨_, fun _ _ => .str w, (sm_str t).mid.mono (by decide) (by decide)⟩
          constructor
          · have : f.cps.toList.length = f.length := rfl
            rw [List.length_cons, List.length_map, List.length_zip]
            omega
          · intro v hv
            rcases List.mem_cons.mp hv with rfl | hv
            · exact st w0 (hw w0 List.mem_cons_self)
            · obtain ⟨p, hp, rfl⟩ := List.mem_map.mp hv
              have tw := hw p.2 (List.mem_cons_of_mem _ (List.of_mem_zip hp).2)
              by_cases c : p.1 = 110
              · have e : thingV p.1 p.2 = readV (.str p.2) 0 999999999999999999999999999999 := by unfold thingV; rw [if_pos c]
                rw [e]
                rcases readV_is p.2 999999999999999999999999999999 with z | ⟨n, z, hn⟩
                · rw [z]; exact ⟨_, fun _ _ => .non, sm_non.mid.mono (by decide) (by decide)⟩
                · rw [z]; exact ⟨_, fun _ _ => .int _, (big_mid (n := n) (by omega)).mono (by decide) (by decide)⟩
              · rcases thing_nn (w := p.2) c with z | z
                · rw [z]; exact ⟨_, fun _ _ => .non, sm_non.mid.mono (by decide) (by decide)⟩
                · rw [z]; exact st _ tw
        · cases h
  · cases h
theorem tup_rp {xs : List V} (hx : ∀ v ∈ xs, ∃ d, (∀ (K : PySem.W.Frag) (H : Hp), Dd K H v d) ∧ Mid d 8000 5) (hl : xs.length ≤ 7) : ∃ d, (∀ (K : PySem.W.Frag) (H : Hp) (t : Addr), H t = some (.tup xs) → Dd K H (.ref t) d) ∧ Mid d 60000 6 := by
  have h : ∃ ds : List PyData, (∀ (K : PySem.W.Frag) (H : Hp), DdAll K H xs ds) ∧ (∀ d ∈ ds, Mid d 8000 5) ∧ ds.length = xs.length := by
    clear hl
    induction xs with
    | nil => exact ⟨[], (fun _ _ => .nil), (fun _ h => by cases h), rfl⟩
    | cons a r ih =>
      obtain ⟨d, h1, h2⟩ := hx a List.mem_cons_self
      obtain ⟨ds, i1, i2, i3⟩ := ih fun v hv => hx v (List.mem_cons_of_mem _ hv)
      refine ⟨d :: ds, fun K H => .cons (h1 K H) (i1 K H), fun e he => ?_, by rw [List.length_cons, i3, List.length_cons]⟩
      rcases List.mem_cons.mp he with rfl | he
      · exact h2
      · exact i2 e he
  obtain ⟨ds, h1, h2, h3⟩ := h
  exact ⟨.tuple ds, fun K H t ht => .tup (SqT.of ht) (h1 K H), (mid_tpl h2).mono (by omega) (by omega)⟩

end Z

namespace My
open PySem PySem.Spec PyProof.Rows L2 Z
def topS (i : Nat) : Stmt := PySem.Challenge.pw_shelvesmoved_k81_lines_read.main.body.getD i (.Pass ⟨0, 0, 0, 0⟩)
def initS (i : Nat) : Stmt := match topS i with
  | .ClassDef _ _ _ body _ _ _ _ _ _ _ => body.getD 0 (.Pass ⟨0, 0, 0, 0⟩)
  | s => s
def tb_FORMS : List (Str × Str) := [(("shelf" : Str), ("NAME HEIGHT LENGTH" : Str)), (("run" : Str), ("NAME SIZE BEGIN GROWTH KEEP AT" : Str)), (("split" : Str), ("NAME FRESH MARK" : Str)), (("join" : Str), ("NAME" : Str)), (("volume" : Str), ("NAME MARK SIZE WIDTH" : Str)), (("drop" : Str), ("NAME" : Str)), (("widen" : Str), ("NAME WIDTH" : Str)), (("old" : Str), ("NAME HEIGHT LENGTH" : Str)), (("stand" : Str), ("SHELF NAME" : Str)), (("lift" : Str), ("NAME" : Str)), (("plan" : Str), ("YEARS" : Str)), (("even" : Str), ("YEARS" : Str)), (("move" : Str), ("CAPACITY CARTS" : Str)), (("load" : Str), ("CART" : Str)), (("unload" : Str), ("CART" : Str)), (("drive" : Str), ("CART" : Str)), (("ask" : Str), ("NAME" : Str)), (("back" : Str), ("NAME" : Str)), (("runs" : Str), ("" : Str)), (("names" : Str), ("" : Str)), (("lost" : Str), ("" : Str)), (("alike" : Str), ("NAME" : Str)), (("of" : Str), ("NAME" : Str)), (("total" : Str), ("" : Str)), (("most" : Str), ("YEARS" : Str)), (("told" : Str), ("" : Str)), (("row" : Str), ("SHELF" : Str)), (("where" : Str), ("NAME" : Str)), (("find" : Str), ("SIZE MARK SOUGHT" : Str)), (("looks" : Str), ("" : Str)), (("left" : Str), ("" : Str)), (("out" : Str), ("" : Str)), (("cart" : Str), ("CART" : Str)), (("ended" : Str), ("" : Str)), (("text" : Str), ("" : Str)), (("house" : Str), ("" : Str))]
def tv_NUMBERS : List V := [V.str ("HEIGHT" : Str), V.str ("LENGTH" : Str), V.str ("SIZE" : Str), V.str ("WIDTH" : Str), V.str ("GROWTH" : Str), V.str ("KEEP" : Str), V.str ("YEARS" : Str), V.str ("CAPACITY" : Str), V.str ("CARTS" : Str), V.str ("CART" : Str)]
def tv_PERHAPS_NONE : List V := [V.str ("BEGIN" : Str), V.str ("AT" : Str), V.str ("SOUGHT" : Str)]
end My
namespace My
open PySem PySem.Spec PyProof.Rows L2 Z
local macro_rules | `(tactic| walk_at "z") => `(tactic| with_reducible first
  | refine Z.q_var (by with_unfolding_all rfl) ?_
  | refine Z.q_c ?_
  | refine Z.q_op ?_
  | refine Z.q_cons ?_
  | refine Z.q_nil ?_
  | refine Z.q_seq ?_
  | refine Z.q_asg ?_
  | refine Z.q_ret ?_
  | refine Z.q_ifS ?_
  | refine Z.q_test ?_
  | refine Z.q_I0 ?_
  | refine Z.q_addI ?_
  | refine Z.q_call ?_
  | refine Z.q_CB ?_
  | refine Z.q_tup ?_
  | refine Z.q_lst ?_
  | refine Z.q_ixL (SqL.of (by assumption)) (by with_unfolding_all rfl) ?_
  | refine Z.q_modP (by omega) ?_
  | refine Z.q_divP (by omega) (by omega) ?_
  | refine Z.q_mulI (by omega) ?_
  | (refine Z.q_powE (by omega) (by omega) (by omega) ?_; intro v hv; simp only [Int.reduceToNat, Int.reducePow] at hv)
  | refine Z.q_un ?_
  | refine Z.q_U ?_
  | refine Z.q_B ?_
  | refine Z.q_andV ?_
  | refine Z.q_orV ?_
  | refine Z.q_notV ?_
  | refine Z.q_if ?_
  | refine Z.q_and ?_
  | refine Z.q_or ?_
  | refine Z.q_not ?_
  | refine Z.q_chain ?_
  | refine Z.q_chain3 ?_
  | refine Z.q_sl ?_
  | refine Z.q_noPart ?_
  | refine Z.q_part ?_
  | refine Z.q_drop ?_
  | refine Z.q_next ?_
  | refine Z.q_cont ?_
  | refine Z.q_retN ?_
  | refine Z.q_asgG ?_
  | refine Z.q_gSub ?_
  | refine Z.q_gName ?_
  | refine Z.q_yes ?_
  | refine Z.q_gNil ?_
  | refine Z.q_gCons ?_
  | refine Z.q_eqI ?_
  | refine Z.q_neI ?_
  | refine Z.q_eqS ?_
  | refine Z.q_neS ?_
  | refine Z.q_isBA ?_
  | refine Z.q_isnotBA ?_
  | refine Z.q_reprB ?_
  | refine iteT ?_
  | refine iteF ?_
  | refine Z.q_m1 ?_
  | refine Z.q_lcR ?_
  | refine Z.q_dput ?_
  | refine Z.q_bm0 ?_
  | refine Z.q_bm ?_
  | refine Z.q_par ?_
  | refine Z.q_forZ ?_
  | refine Z.q_unset0 ?_
  | refine Z.q_unset ?_
  | refine Z.q_ost ?_
  | refine Z.q_veI ?_
  | refine Z.q_xf ?_
  | refine Z.q_callS ?_
  | refine Z.q_tryMix ?_
  | refine Z.q_mkO ?_
  | refine Z.q_raise ?_
  | refine Z.q_lcL ?_
  | refine Z.q_m0 ?_
  | refine And.intro (Exists.intro _ rfl) ?_
  | refine Exists.intro _ (And.intro rfl ?_)
  | refine Z.q_forQ ?_
  | refine Z.q_lcZ2 ?_
  | refine Z.q_lcE ?_
  | refine Z.q_forE ?_
  | refine Z.q_lc2 ?_
  | refine Z.q_lc2Z ?_
  | refine Z.q_lc2Rng ?_
  | refine Z.q_lcEQ ?_
  | refine Z.q_forEQ ?_
  | refine Z.q_revL ?_
  | refine Z.q_lcR2 ?_
  | refine Z.q_forZ2 ?_
  | refine Z.q_lcQ ?_
  | refine Z.q_orL ?_
  | refine Z.q_aug (by with_unfolding_all rfl) ?_
  | refine Z.q_ip ?_
  | refine Z.q_brk' ?_
  | refine Z.q_intBl ?_
  | refine Z.q_forR ?_
  | refine Z.q_forR2 ?_
  | refine Z.q_forL ?_
  | refine Z.q_forS ?_
  | refine Z.iteNe ?_
  | refine Exists.intro _ (Exists.intro _ (And.intro rfl ?_))
  | refine Z.iteR (by with_unfolding_all rfl) ?_
  | refine Z.iteL (by with_unfolding_all rfl) ?_)
local macro_rules | `(tactic| walk_at "zz") => `(tactic| repeat walk_at "z")
local macro_rules | `(tactic| walk_at "cr") => `(tactic| with_reducible repeat first | assumption | refine Z.Ex.get (by assumption) ?_ | refine Z.Fb.get (by assumption) ?_ (by assumption))
section
variable {P : Program} {w : World} {K : PySem.W.Frag} {mg : Str → Option Value} {base : Heap} {c_ShelvesError : Addr} {c_NoLine : Addr}
 {q_FORMS : Addr} {q_NUMBERS : Addr} {q_PERHAPS_NONE : Addr}abbrev s_i_ShelvesError : Stmt := initS 1
theorem sc_i_ShelvesError : FnScope ["self", "text"] ["self", "text"] (defScope s_i_ShelvesError) := ⟨rfl, rfl, rfl, by decide +kernel, rfl, by decide +kernel, by decide +kernel⟩
theorem fi_ShelvesError {fd : FuncData} {f : Addr} (F : Fun K "__init__" "ShelvesError.__init__" s_i_ShelvesError f fd) (m_ValueError : mg "ValueError" = none) (vV : PySem.W.findCls K (.type "ValueError") (.type "type") "__init__" = some (.val (.builtin "ValueError.__init__"))) : FnOk P w K mg base CX0 1 f fd ["self", "text"] (spBare K) := by
  refine F.ok sc_i_ShelvesError (fun vs H Q E h => ?_) (fun cdv A outer s H vs Q E hr h => ?_)
  · obtain ⟨_, _, _, rfl, _⟩ := h
    rfl
  · obtain ⟨a, C, x, rfl, T, ha, k⟩ := h
    refine ⟨_, (pss_one (ps_expr (pe_veinit (by rfl) m_ValueError vV (pa_cons (pv 0) (pa_cons (pv 1) pa_nil))))), ?_⟩
    walk_at "zz"
    exact ⟨a, C, _, rfl, by show 1 ≤ 1000; decide, T, ha, k⟩
theorem fv_ShelvesError {fd : FuncData} {f : Addr} (F : Fun K "__init__" "ShelvesError.__init__" s_i_ShelvesError f fd) (m_ValueError : mg "ValueError" = none) (vV : PySem.W.findCls K (.type "ValueError") (.type "type") "__init__" = some (.val (.builtin "ValueError.__init__"))) : FnOk P w K mg base CX0 1 f fd ["self", "text"] (spThing K) := by
  refine F.ok sc_i_ShelvesError (fun vs H Q E h => ?_) (fun cdv A outer s H vs Q E hr h => ?_)
  · obtain ⟨_, _, _, rfl, _⟩ := h
    rfl
  · obtain ⟨a, C, x, rfl, T, ha, k⟩ := h
    refine ⟨_, (pss_one (ps_expr (Z.pe_veinitM (by rfl) m_ValueError vV (pa_cons (pv 0) (pa_cons (pv 1) pa_nil))))), ?_⟩
    walk_at "zz"
    refine q_veM ?_
    walk_at "zz"
    exact ⟨a, C, x, rfl, T, ha, k⟩
abbrev s_i_NoLine : Stmt := initS 2
theorem sc_i_NoLine : FnScope ["self", "found"] ["self", "found"] (defScope s_i_NoLine) := ⟨rfl, rfl, rfl, by decide +kernel, rfl, by decide +kernel, by decide +kernel⟩
theorem fi_NoLine {fd : FuncData} {f : Addr} (F : Fun K "__init__" "NoLine.__init__" s_i_NoLine f fd) (e_ShelvesError : Ke P w K mg base 1 "ShelvesError" c_ShelvesError (spBare K)) : FnOk P w K mg base CX0 2 f fd ["self", "found"] (spFound K) := by
  refine F.ok sc_i_NoLine (fun vs H Q E h => ?_) (fun cdv A outer s H vs Q E hr h => ?_)
  · obtain ⟨_, _, _, rfl, _⟩ := h
    rfl
  · obtain ⟨a, C, v, rfl, T, nf, ha, k⟩ := h
    refine ⟨_, (pss_cons (ps_expr (Z.pe_ownI e_ShelvesError hr (by decide) (by rfl) (pa_cons (pv 0) (pa_cons pe_str pa_nil))))
      (pss_one (ps_ost (pv 0) (pv 1)))), ?_⟩
    walk_at "zz"
    refine ⟨a, C, _, rfl, T, ha, ?_⟩
    walk_at "zz"
    exact ⟨a, C, rfl, T, nf, .inl ⟨ha, fun dx h1 h2 => k dx h1 h2⟩⟩
abbrev s_has_only : Stmt := topS 7
theorem sc_has_only : FnScope ["text", "signs", "sign"] ["text", "signs"] (defScope s_has_only) := ⟨rfl, rfl, rfl, by decide +kernel, rfl, by decide +kernel, by decide +kernel⟩
def sp_has_only (K : PySem.W.Frag) : Sp := fun vs H Q _ => ∃ (s t : Str), vs = [.str s, .str t] ∧ s.length ≤ 1000 ∧ ∀ H', Ex H H' → Q (.bl (only s t)) H'
theorem kn_has_only (F : Df K mg "has_only" s_has_only ["text", "signs"])
    (m_all : mg "all" = none) : Kn P w K mg base 1 "has_only" (sp_has_only K) := by
  refine kn_of F sc_has_only (fun vs H Q E h => ?_) (fun f cdv A outer s H vs Q E hr h => ?_)
  · obtain ⟨s, t, rfl, _⟩ := h
    rfl
  · obtain ⟨s, t, rfl, hs, k⟩ := h
    refine ⟨_, (pss_one (ps_ret (pe_callB (cr_all rfl) (by rfl) m_all (by decide +kernel) (pa_cons (pe_lc (own := [("sign", 2)]) (g := gName 2) (by rfl) sc_has_only.nd (pi_str (pv 0)) (blkOk_by (own := [("sign", 2)]) (N := ["text", "signs", "sign"]) (sc := defScope s_has_only) (by decide +kernel)) (fun _ _ _ _ _ => pg_name (i := 2) sc_has_only.nd rfl (Or.inl rfl)) (fun _ _ _ _ _ => pts_nil) (fun _ _ _ _ _ => (pe_cmpR op_in_sign (pv 2) (pv 1) (by rfl)))) pa_nil)))), ?_⟩
    walk_at "zz"
    refine q_lcS (z := s) (fun _ => true) (fun c => .bl (decide (c ∈ t.cps.toList))) (Evl.ev_var rfl) hs (fun _ => rfl) ?_ ?_ ?_
    · intro c H1 hc e QB q
      exact q H1 Ex.rfl
    · intro c H1 hc e _ Q' q
      walk_at "zz"
      exact ⟨c, t, rfl, rfl, q H1 Ex.rfl⟩
    · intro p H1 hp h1 e1
      walk_at "zz"
      rw [List.filter_eq_self.mpr (fun _ _ => rfl)] at h1
      refine ⟨p, s.cps.toList.map fun c => decide (c ∈ t.cps.toList), rfl, SqL.of (by rw [h1, List.map_map] <;> rfl), ?_⟩
      rw [all_only]
      exact k H1 e1
abbrev s__law_cell : Stmt := topS 19
theorem sc__law_cell : FnScope ["script", "k"] ["script", "k"] (defScope s__law_cell) := ⟨rfl, rfl, rfl, by decide +kernel, rfl, by decide +kernel, by decide +kernel⟩
def sp__law_cell (K : PySem.W.Frag) : Sp := fun vs H Q _ => ∃ (a : Addr) (k : Nat) (ns : List Int), vs = [.ref a, .int k] ∧ SqL K H a (ns.map V.int) ∧ k ≤ 1000 ∧ ∀ i, Q (.int i) H
theorem kn__law_cell (F : Df K mg "_law_cell" s__law_cell ["script", "k"])
    (m_len : mg "len" = none) : Kn P w K mg base 1 "_law_cell" (sp__law_cell K) := by
  refine kn_of F sc__law_cell (fun vs H Q E h => ?_) (fun f cdv A outer s H vs Q E hr h => ?_)
  · obtain ⟨a, k, ns, rfl, _⟩ := h
    rfl
  · obtain ⟨a, k, ns, rfl, hS, hk, q⟩ := h
    refine ⟨_, (pss_cons (ps_if (pt_cmpR op_lt (pv 1) (pe_callB (Z.call_lenB K rfl) (by rfl) m_len (by decide +kernel) (pa_cons (pv 0) pa_nil)) (nomark _)) (pss_one (ps_ret (pe_ix (Z.ix_A K rfl) (pv 0) (pv 1) (fun _ _ => rfl)))) pss_nil)
      (pss_one (ps_ret (pe_op Z.op_addA (pe_op Z.op_mulA pe_int (pv 1)) pe_int)))), ?_⟩
    walk_at "zz"
    refine ⟨_, _, rfl, .inl ⟨_, hS, rfl⟩, ?_⟩
    walk_at "zz"
    refine iteD (fun hlt => ?_) (fun hlt => ?_)
    · walk_at "zz"
      obtain ⟨v, e, hm, _⟩ := at_mem (xs := ns.map V.int) (i := (k : Int)) (by omega) hlt
      obtain ⟨i, _, rfl⟩ := List.mem_map.mp hm
      refine q_ixL hS e ?_
      exact q _
    · walk_at "zz"
      exact q _
abbrev s__law_box : Stmt := topS 20
theorem sc__law_box : FnScope ["cell"] ["cell"] (defScope s__law_box) := ⟨rfl, rfl, rfl, by decide +kernel, rfl, by decide +kernel, by decide +kernel⟩
def sp__law_box (K : PySem.W.Frag) : Sp := fun vs H Q _ => ∃ (c : Int), vs = [.int c] ∧ ∀ b H', H b = none → BoxAt H' b 0 → Ex H H' → Q (.ref b) H'
theorem kn__law_box (F : Df K mg "_law_box" s__law_box ["cell"])
    (m_max : mg "max" = none) : Kn P w K mg base 1 "_law_box" (sp__law_box K) := by
  refine kn_of F sc__law_box (fun vs H Q E h => ?_) (fun f cdv A outer s H vs Q E hr h => ?_)
  · obtain ⟨c, rfl, _⟩ := h
    rfl
  · obtain ⟨c, rfl, k⟩ := h
    refine ⟨_, (pss_one (ps_ret (pe_lst (pa_cons (pe_callB (call_max2 rfl) (by rfl) m_max (by decide +kernel) (pa_cons pe_int (pa_cons (pe_op op_sub (pv 0) (pe_op op_pow pe_int pe_int)) pa_nil))) (pa_cons (pe_op op_modN (pv 0) pe_int) (pa_cons pe_int pa_nil)))))), ?_⟩
    walk_at "zz"
    refine q_newL fun p H1 hp h1 e1 => ?_
    refine k _ _ hp ⟨_, _, _, h1, ?_, Int.emod_nonneg _ (by decide), Int.emod_lt_of_pos _ (by decide), by decide, by decide⟩ e1
    split <;> omega
abbrev s__law_take : Stmt := topS 21
theorem sc__law_take : FnScope ["box", "many", "digit", "number"] ["box", "many"] (defScope s__law_take) := ⟨rfl, rfl, rfl, by decide +kernel, rfl, by decide +kernel, by decide +kernel⟩
def sp__law_take (K : PySem.W.Frag) : Sp := fun vs H Q _ => ∃ (b : Addr) (n : Nat) (m : Int), vs = [.ref b, .int m] ∧ BoxAt H b n ∧ n ≤ 100000 ∧ 0 < m ∧ m < 1073741824 ∧ ∀ d H', 0 ≤ d → d < m → BoxAt H' b (n + 1) → Fb b H H' → Q (.int d) H'
theorem kn__law_take (F : Df K mg "_law_take" s__law_take ["box", "many"])
     : Kn P w K mg base 1 "_law_take" (sp__law_take K) := by
  refine kn_of F sc__law_take (fun vs H Q E h => ?_) (fun f cdv A outer s H vs Q E hr h => ?_)
  · obtain ⟨b, n, m, rfl, _⟩ := h
    rfl
  · obtain ⟨b, n, m, rfl, hB, hn, hm, hm2, k⟩ := h
    refine ⟨_, (pss_cons (ps_if (pt_cmpR op_gt (pe_ix (Z.ix_A K rfl) (pv 0) pe_int (fun _ _ => rfl)) pe_int (nomark _)) (pss_cons (ps_set (i := 2) sc__law_take.nd rfl (Or.inl rfl) (pe_op op_modN (pe_ix (Z.ix_A K rfl) (pv 0) pe_int (fun _ _ => rfl)) (pv 1)))
      (pss_cons (ps_asg (pe_op op_fdivN (pe_ix (Z.ix_A K rfl) (pv 0) pe_int (fun _ _ => rfl)) (pv 1)) (pg_sub (pv 0) pe_int set_list))
      (pss_one (ps_ret (pv 2))))) pss_nil)
      (pss_cons (ps_asg (pe_op Z.op_addA (pe_ix (Z.ix_A K rfl) (pv 0) pe_int (fun _ _ => rfl)) pe_int) (pg_sub (pv 0) pe_int set_list))
      (pss_cons (ps_set (i := 3) sc__law_take.nd rfl (Or.inl rfl) (pe_op op_modN (pe_op op_pow (pe_op Z.op_addA (pe_op Z.op_addA (pe_ix (Z.ix_A K rfl) (pv 0) pe_int (fun _ _ => rfl)) (pe_op Z.op_mulA pe_int (pe_ix (Z.ix_A K rfl) (pv 0) pe_int (fun _ _ => rfl)))) pe_int) pe_int) pe_int))
      (pss_cons (ps_set (i := 3) sc__law_take.nd rfl (Or.inl rfl) (pe_op op_modN (pe_op op_pow (pe_op Z.op_addA (pv 3) (pe_op Z.op_mulA pe_int (pe_ix (Z.ix_A K rfl) (pv 0) pe_int (fun _ _ => rfl)))) pe_int) pe_int))
      (pss_one (ps_ret (pe_op op_modN (pe_op op_fdivN (pv 3) pe_int) (pv 1)))))))), ?_⟩
    obtain ⟨x, y, z, hB, hx, hy, hy2, hz, hz2⟩ := hB
    walk_at "zz"
    refine iteD (fun hx0 => ?_) (fun hx0 => ?_)
    · walk_at "zz"
      refine q_setL hB (j := 0) rfl fun H1 h1 f1 => ?_
      walk_at "zz"
      refine k _ _ (Int.emod_nonneg _ (by omega)) (Int.emod_lt_of_pos _ hm) ⟨x / m, y, z, h1, Int.ediv_nonneg hx (by omega), hy, hy2, hz, by omega⟩ f1
    · walk_at "zz"
      refine q_setL hB (j := 2) rfl fun H1 h1 f1 => ?_
      simp only [List.set] at h1
      walk_at "zz"
      exact k _ _ (Int.emod_nonneg _ (by omega)) (Int.emod_lt_of_pos _ hm) ⟨x, y, z + 1, h1, hx, hy, hy2, by omega, by omega⟩ f1
abbrev s__law_forms : Stmt := topS 22
theorem sc__law_forms : FnScope ["found"] [] (defScope s__law_forms) := ⟨rfl, rfl, rfl, by decide +kernel, rfl, by decide +kernel, by decide +kernel⟩
def sp__law_forms (K : PySem.W.Frag) : Sp := fun vs H Q _ => vs = [] ∧ ∀ p H', H p = none → H' p = some (.dK (kvS lawTb)) → Ex H H' → Q (.ref p) H'
theorem kn__law_forms (F : Df K mg "_law_forms" s__law_forms [])
     : Kn P w K mg base 1 "_law_forms" (sp__law_forms K) := by
  refine kn_of F sc__law_forms (fun vs H Q E h => ?_) (fun f cdv A outer s H vs Q E hr h => ?_)
  · obtain ⟨rfl, _⟩ := h
    rfl
  · obtain ⟨rfl, k⟩ := h
    refine ⟨_, (pss_cons (ps_set (i := 0) sc__law_forms.nd rfl (Or.inl rfl) (pe_disp (pps_cons pe_str pe_str (pps_cons pe_str pe_str (pps_cons pe_str pe_str (pps_cons pe_str pe_str (pps_cons pe_str pe_str (pps_cons pe_str pe_str pps_nil)))))) (by rfl) (by rfl) (fun z => by cases z) (by decide)))
      (pss_cons (ps_expr (pe_bm PySem.F.plainAttrs_dict PySem.F.slot_dict_update PySem.F.type_dict_update Z.mt_update (pv 0) (pa_cons (pe_disp (pps_cons pe_str pe_str (pps_cons pe_str pe_str (pps_cons pe_str pe_str (pps_cons pe_str pe_str (pps_cons pe_str pe_str (pps_cons pe_str pe_str (pps_cons pe_str pe_str pps_nil))))))) (by rfl) (by rfl) (fun z => by cases z) (by decide)) pa_nil)))
      (pss_cons (ps_expr (pe_bm PySem.F.plainAttrs_dict PySem.F.slot_dict_update PySem.F.type_dict_update Z.mt_update (pv 0) (pa_cons (pe_disp (pps_cons pe_str pe_str (pps_cons pe_str pe_str (pps_cons pe_str pe_str (pps_cons pe_str pe_str (pps_cons pe_str pe_str (pps_cons pe_str pe_str (pps_cons pe_str pe_str pps_nil))))))) (by rfl) (by rfl) (fun z => by cases z) (by decide)) pa_nil)))
      (pss_cons (ps_expr (pe_bm PySem.F.plainAttrs_dict PySem.F.slot_dict_update PySem.F.type_dict_update Z.mt_update (pv 0) (pa_cons (pe_disp (pps_cons pe_str pe_str (pps_cons pe_str pe_str (pps_cons pe_str pe_str (pps_cons pe_str pe_str (pps_cons pe_str pe_str (pps_cons pe_str pe_str (pps_cons pe_str pe_str pps_nil))))))) (by rfl) (by rfl) (fun z => by cases z) (by decide)) pa_nil)))
      (pss_cons (ps_expr (pe_bm PySem.F.plainAttrs_dict PySem.F.slot_dict_update PySem.F.type_dict_update Z.mt_update (pv 0) (pa_cons (pe_disp (pps_cons pe_str pe_str (pps_cons pe_str pe_str (pps_cons pe_str pe_str (pps_cons pe_str pe_str (pps_cons pe_str pe_str (pps_cons pe_str pe_str (pps_cons pe_str pe_str pps_nil))))))) (by rfl) (by rfl) (fun z => by cases z) (by decide)) pa_nil)))
      (pss_cons (ps_expr (pe_bm PySem.F.plainAttrs_dict PySem.F.slot_dict_update PySem.F.type_dict_update Z.mt_update (pv 0) (pa_cons (pe_disp (pps_cons pe_str pe_str (pps_cons pe_str pe_str pps_nil)) (by rfl) (by rfl) (fun z => by cases z) (by decide)) pa_nil)))
      (pss_one (ps_ret (pv 0))))))))), ?_⟩
    walk_at "zz"
    refine q_dispS [(("shelf" : Str), ("wnn" : Str)), (("run" : Str), ("wnonno" : Str)), (("split" : Str), ("www" : Str)), (("join" : Str), ("w" : Str)), (("volume" : Str), ("wwnn" : Str)), (("drop" : Str), ("w" : Str))] (by decide) fun p H1 n1 h1 e1 => ?_
    walk_at "zz"
    refine ⟨q_tyD h1, ?_⟩
    walk_at "zz"
    refine q_dispS [(("widen" : Str), ("wn" : Str)), (("old" : Str), ("wnn" : Str)), (("stand" : Str), ("ww" : Str)), (("lift" : Str), ("w" : Str)), (("plan" : Str), ("n" : Str)), (("even" : Str), ("n" : Str)), (("move" : Str), ("nn" : Str))] (by decide) fun p2 H2 n2 h2 e2 => ?_
    walk_at "zz"
    refine q_update (e2 _ _ h1) h2 (fun y => by rw [← y, h1] at n2; cases n2) (by decide +kernel) fun H3 h3 f3 => ?_
    walk_at "zz"
    refine ⟨q_tyD h3, ?_⟩
    walk_at "zz"
    refine q_dispS [(("load" : Str), ("n" : Str)), (("unload" : Str), ("n" : Str)), (("drive" : Str), ("n" : Str)), (("ask" : Str), ("w" : Str)), (("back" : Str), ("w" : Str)), (("runs" : Str), ("" : Str)), (("names" : Str), ("" : Str))] (by decide) fun p4 H4 n4 h4 e4 => ?_
    walk_at "zz"
    refine q_update (e4 _ _ h3) h4 (fun y => by rw [← y, h3] at n4; cases n4) (by decide +kernel) fun H5 h5 f5 => ?_
    walk_at "zz"
    refine ⟨q_tyD h5, ?_⟩
    walk_at "zz"
    refine q_dispS [(("lost" : Str), ("" : Str)), (("alike" : Str), ("w" : Str)), (("of" : Str), ("w" : Str)), (("total" : Str), ("" : Str)), (("most" : Str), ("n" : Str)), (("told" : Str), ("" : Str)), (("row" : Str), ("w" : Str))] (by decide) fun p6 H6 n6 h6 e6 => ?_
    walk_at "zz"
    refine q_update (e6 _ _ h5) h6 (fun y => by rw [← y, h5] at n6; cases n6) (by decide +kernel) fun H7 h7 f7 => ?_
    walk_at "zz"
    refine ⟨q_tyD h7, ?_⟩
    walk_at "zz"
    refine q_dispS [(("where" : Str), ("w" : Str)), (("find" : Str), ("nwo" : Str)), (("looks" : Str), ("" : Str)), (("left" : Str), ("" : Str)), (("out" : Str), ("" : Str)), (("cart" : Str), ("n" : Str)), (("ended" : Str), ("" : Str))] (by decide) fun p8 H8 n8 h8 e8 => ?_
    walk_at "zz"
    refine q_update (e8 _ _ h7) h8 (fun y => by rw [← y, h7] at n8; cases n8) (by decide +kernel) fun H9 h9 f9 => ?_
    walk_at "zz"
    refine ⟨q_tyD h9, ?_⟩
    walk_at "zz"
    refine q_dispS [(("text" : Str), ("" : Str)), (("house" : Str), ("" : Str))] (by decide) fun p10 H10 n10 h10 e10 => ?_
    walk_at "zz"
    refine q_update (e10 _ _ h9) h10 (fun y => by rw [← y, h9] at n10; cases n10) (by decide +kernel) fun H11 h11 f11 => ?_
    walk_at "zz"
    refine k p H11 n1 (h11.trans (congrArg some (congrArg HO.dK (by decide +kernel)))) ?_
    refine Fb.mut e1 n1 ?_
    exact ((Fb.ex e2).tr (f3.tr ((Fb.ex e4).tr (f5.tr ((Fb.ex e6).tr (f7.tr ((Fb.ex e8).tr (f9.tr ((Fb.ex e10).tr f11)))))))))
abbrev s__law_number : Stmt := topS 23
theorem sc__law_number : FnScope ["word", "odd", "sign"] ["word"] (defScope s__law_number) := ⟨rfl, rfl, rfl, by decide +kernel, rfl, by decide +kernel, by decide +kernel⟩
def sp__law_number (K : PySem.W.Frag) : Sp := fun vs H Q _ => ∃ (s : Str), vs = [.str s] ∧ Tn 900 s ∧ ∀ H', Ex H H' → Q (readV (.str s) 0 999999999999999999999999999999) H'
theorem kn__law_number (F : Df K mg "_law_number" s__law_number ["word"])
    (m_int : mg "int" = none)
    (m_len : mg "len" = none) : Kn P w K mg base 1 "_law_number" (sp__law_number K) := by
  refine kn_of F sc__law_number (fun vs H Q E h => ?_) (fun f cdv A outer s H vs Q E hr h => ?_)
  · obtain ⟨s, rfl, _⟩ := h
    rfl
  · obtain ⟨s, rfl, hs, k⟩ := h
    refine ⟨_, (pss_cons (ps_setLc (i := 1) (own := [("sign", 2)]) (g := gName 2) (by rfl) sc__law_number.nd rfl rfl (sw_true rfl rfl rfl (by decide +kernel)) (pi_str (pv 0)) (blkOk_by (own := [("sign", 2)]) (N := ["word", "odd", "sign"]) (sc := defScope s__law_number) (by decide +kernel)) (fun _ _ _ _ _ => pg_name (i := 2) sc__law_number.nd rfl (Or.inl rfl)) (fun _ _ _ _ _ => pts_one (pt_cmpR op_notIn_sign (pv 2) pe_str (by rfl))) (fun _ _ _ _ _ => (pv 2)))
      (pss_cons (ps_if (PW.pt (pw_or (pt_cmpR (Z.op_eqB K rfl hr.units) (pv 0) pe_str (nomark _)) (pw_or (pt_cmpR (Z.op_neB K rfl hr.units) (pv 1) (pe_lst pa_nil) (nomark _)) (pw_or (pt_cmpR op_gt (pe_callB (Z.call_lenB K rfl) (by rfl) m_len (by decide +kernel) (pa_cons (pv 0) pa_nil)) pe_int (nomark _)) (pw_or1 (PW.pt (pw_and (pt_cmpR (Z.op_eqB K rfl hr.units) (pe_ix (Z.ix_A K rfl) (pv 0) pe_int (fun _ _ => rfl)) pe_str (nomark _)) (pw_and1 (pt_cmpR (Z.op_neB K rfl hr.units) (pv 0) pe_str (nomark _)))))))))) (pss_one (ps_ret pe_non)) pss_nil)
      (pss_one (ps_ret (pe_callTy call_int_str (by rfl) m_int (by decide +kernel) (pa_cons (pv 0) pa_nil)))))), ?_⟩
    walk_at "zz"
    refine q_lcS (z := s) (fun c => !isFig c) (fun c => .str ⟨#[c]⟩) (Evl.ev_var rfl) (Nat.le_trans hs.1 (by decide)) (fun _ => rfl) ?_ ?_ ?_
    · intro c H1 hc e QB q
      walk_at "zz"
      have q1 := q H1 Ex.rfl
      rw [fig_in] at q1
      exact ⟨_, _, rfl, rfl, _, rfl, q1⟩
    · intro c H1 hc e _ Q' q
      walk_at "zz"
      exact q H1 Ex.rfl
    · intro p H1 n1 h1 e1
      walk_at "zz"
      have no : plainL s.cps.toList = false → Q .non H1 := fun h => by
        have := k H1 e1
        rw [show readV (.str s) 0 999999999999999999999999999999 = .non by unfold readV; exact if_neg fun z => by rw [h] at z; cases z.1] at this
        exact this
      refine iteD (fun h0 => ?_) (fun h0 => ?_)
      · walk_at "zz"
        exact no (by rw [h0]; rfl)
      · walk_at "zz"
        obtain ⟨c, r, hcr⟩ := str_nil h0
        refine q_newL fun p2 H2 n2 h2 e2 => ?_
        have k2 := k H2 (e1.tr e2)
        have no2 : plainL s.cps.toList = false → Q .non H2 := fun h => by
          rw [show readV (.str s) 0 999999999999999999999999999999 = .non by unfold readV; exact if_neg fun z => by rw [h] at z; cases z.1] at k2
          exact k2
        refine q_neSigns (e2 _ _ h1) h2 hs.2 ?_
        cases hall : s.cps.toList.all isFig with
        | false =>
          walk_at "zz"
          exact no2 (by simp [plainL, hall])
        | true =>
          walk_at "zz"
          refine q_lenS hs.sz ?_
          walk_at "zz"
          have sl : s.length = s.cps.toList.length := TL.len_tl s
          refine iteD (fun h3 => ?_) (fun h3 => ?_)
          · walk_at "zz"
            rw [show readV (.str s) 0 999999999999999999999999999999 = .non by
              unfold readV
              refine if_neg fun z => ?_
              have := (plain30 z.1).mp z.2.2
              omega] at k2
            exact k2
          · walk_at "zz"
            refine q_ixS hs.sz (at_head hcr) ?_
            walk_at "zz"
            rw [show decide ((⟨#[c]⟩ : Str) = "0") = decide (c = 48) from sign_eq c 48]
            have hdig : PySem.NumText.AllDigits s.cps.toList := fun d hd => by
              have := List.all_eq_true.mp hall d hd
              simpa [isFig] using this
            have hne : s.cps.toList ≠ [] := by rw [hcr]; exact fun z => by cases z
            have yes : plainL s.cps.toList = true → Q (.int (val s.cps.toList : Int)) H2 := fun h => by
              rw [show readV (.str s) 0 999999999999999999999999999999 = .int (val s.cps.toList : Int) by
                unfold readV
                exact if_pos ⟨h, by omega, (plain30 h).mpr (by omega)⟩] at k2
              exact k2
            refine iteD (fun h5 => ?_) (fun h5 => ?_)
            · subst h5
              walk_at "zz"
              refine iteND (fun h6 => ?_) (fun h6 => ?_)
              · walk_at "zz"
                refine no2 ?_
                have : s.cps.toList ≠ [48] := fun z => h6 (str_eq_iff.mpr z)
                unfold plainL
                rw [hall, decide_eq_false this, hcr]; rfl
              · walk_at "zz"
                refine ⟨s, (val s.cps.toList : Int), rfl, PySem.intText_digits hdig hne (by omega), by omega, ?_⟩
                walk_at "zz"
                exact yes (by rw [h6]; decide +kernel)
            · walk_at "zz"
              refine ⟨s, (val s.cps.toList : Int), rfl, PySem.intText_digits hdig hne (by omega), by omega, ?_⟩
              walk_at "zz"
              refine yes ?_
              have hh : s.cps.toList.head? ≠ some 48 := by rw [hcr]; intro z; exact h5 (by cases z; rfl)
              unfold plainL
              rw [hall, decide_eq_false hh]
              rw [hcr]; simp
abbrev s_is_plainly_written : Stmt := topS 6
theorem sc_is_plainly_written : FnScope ["text"] ["text"] (defScope s_is_plainly_written) := ⟨rfl, rfl, rfl, by decide +kernel, rfl, by decide +kernel, by decide +kernel⟩
def sp_is_plainly_written (K : PySem.W.Frag) : Sp := fun vs H Q _ => ∃ (s : Str), vs = [.str s] ∧ s.length ≤ 1000 ∧ ∀ H', Ex H H' → Q (.bl (plainL s.cps.toList)) H'
theorem kn_is_plainly_written (F : Df K mg "is_plainly_written" s_is_plainly_written ["text"])
    (c_FIGURES : ∃ u, mg "FIGURES" = some u ∧ RelV (V.str ("0123456789" : Str)) u)
    (k_has_only : Kn P w K mg base 1 "has_only" (sp_has_only K)) : Kn P w K mg base 2 "is_plainly_written" (sp_is_plainly_written K) := by
  refine kn_of F sc_is_plainly_written (fun vs H Q E h => ?_) (fun f cdv A outer s H vs Q E hr h => ?_)
  · obtain ⟨s, rfl, _⟩ := h
    rfl
  · obtain ⟨s, rfl, hs, k⟩ := h
    refine ⟨_, (pss_cons (ps_if (PW.pt (pw_or (pt_cmpR (Z.op_eqB K rfl hr.units) (pv 0) pe_str (nomark _)) (pw_or1 (pt_not (pt_val (Z.pe_kn k_has_only hr (by decide) (by rfl) (pa_cons (pv 0) (pa_cons (C8.pe_gc (by rfl) c_FIGURES) pa_nil)))))))) (pss_one (ps_ret pe_bl)) pss_nil)
      (pss_one (ps_ret (pe_or (pe_cmpR (Z.op_eqB K rfl hr.units) (pv 0) pe_str (nomark _)) (pe_one (pe_cmpR (Z.op_neB K rfl hr.units) (pe_ix (Z.ix_A K rfl) (pv 0) pe_int (fun _ _ => rfl)) pe_str (nomark _))))))), ?_⟩
    walk_at "zz"
    refine iteD (fun h0 => ?_) (fun h0 => ?_)
    · walk_at "zz"
      have := k H Ex.rfl
      rw [show plainL s.cps.toList = false by rw [h0]; rfl] at this
      exact this
    · walk_at "zz"
      obtain ⟨c, r, hcr⟩ := str_nil h0
      refine ⟨s, _, rfl, hs, fun H1 e1 => ?_⟩
      walk_at "zz"
      have q := k H1 e1
      rw [only_fig]
      cases hall : s.cps.toList.all isFig with
      | false =>
        walk_at "zz"
        rw [show plainL s.cps.toList = false by simp [plainL, hall]] at q
        exact q
      | true =>
        walk_at "zz"
        refine iteD (fun h1 => ?_) (fun h1 => ?_)
        · rw [show plainL s.cps.toList = true by rw [h1]; rfl] at q
          exact q
        · walk_at "zz"
          refine q_ixS (Nat.le_of_lt (small1000 hs)) (at_head hcr) ?_
          walk_at "zz"
          have e : (!decide ((⟨#[c]⟩ : Str) = "0")) = plainL s.cps.toList := by
            have e2 : decide ((⟨#[c]⟩ : Str) = "0") = decide (c = 48) := sign_eq c 48
            rw [e2]
            exact (plain_cons hcr hall fun h => h1 (str_eq_iff.mpr h)).symm
          rw [e]
          exact q
abbrev s__law_due : Stmt := topS 24
theorem sc__law_due : FnScope ["line", "parts", "form", "things", "word", "sign", "number"] ["line"] (defScope s__law_due) := ⟨rfl, rfl, rfl, by decide +kernel, rfl, by decide +kernel, by decide +kernel⟩
def sp__law_due (K : PySem.W.Frag) : Sp := fun vs H Q _ => ∃ (v : V), vs = [v] ∧ Thing K H v ∧ (∀ s, v = .str s → Tn 900 s) ∧ (lineV v = none → ∀ p H', H p = none → H' p = some (.lst [.str "line", v]) → Ex H H' → Q (.ref p) H') ∧ (∀ xs, lineV v = some xs → ∀ p t H', H p = none → H t = none → p ≠ t → H' p = some (.lst [.str "told", .ref t]) → H' t = some (.tup xs) → Ex H H' → Q (.ref p) H')
theorem kn__law_due (F : Df K mg "_law_due" s__law_due ["line"])
    (m_tuple : mg "tuple" = none)
    (m_zip : mg "zip" = none)
    (m_len : mg "len" = none)
    (m_isinstance : mg "isinstance" = none)
    (m_str : mg "str" = none)
    (k__law_number : Kn P w K mg base 1 "_law_number" (sp__law_number K))
    (k__law_forms : Kn P w K mg base 1 "_law_forms" (sp__law_forms K)) : Kn P w K mg base 2 "_law_due" (sp__law_due K) := by
  refine kn_of F sc__law_due (fun vs H Q E h => ?_) (fun f cdv A outer s H vs Q E hr h => ?_)
  · obtain ⟨v, rfl, _⟩ := h
    rfl
  · obtain ⟨v, rfl, hv, hs, k0, k1⟩ := h
    refine ⟨_, (pss_cons (ps_if (PW.pt (pw_or (pt_not (pt_val (pe_callB (Z.call_isiB K rfl) (by rfl) m_isinstance (by decide +kernel) (pa_cons (pv 0) (pa_cons (pe_bltn (v := .ty "str") (by rfl) m_str (by decide +kernel) rfl) pa_nil))))) (pw_or (pt_cmpR op_gt (pe_callB (Z.call_lenB K rfl) (by rfl) m_len (by decide +kernel) (pa_cons (pv 0) pa_nil)) pe_int (nomark _)) (pw_or1 (pt_cmpR (Z.op_neB K rfl hr.units) (pe_lc (own := [("sign", 5)]) (g := gName 5) (by rfl) sc__law_due.nd (pi_str (pv 0)) (blkOk_by (own := [("sign", 5)]) (N := ["line", "parts", "form", "things", "word", "sign", "number"]) (sc := defScope s__law_due) (by decide +kernel)) (fun _ _ _ _ _ => pg_name (i := 5) sc__law_due.nd rfl (Or.inl rfl)) (fun _ _ _ _ _ => pts_one (pt_not (pt_chain op_le_str op_le_str pe_str (pv 5) pe_str))) (fun _ _ _ _ _ => (pv 5))) (pe_lst pa_nil) (nomark _)))))) (pss_one (ps_ret (pe_lst (pa_cons pe_str (pa_cons (pv 0) pa_nil))))) pss_nil)
      (pss_cons (ps_set (i := 1) sc__law_due.nd rfl (Or.inl rfl) (Z.pe_splitA (pv 0) pe_str))
      (pss_cons (ps_set (i := 2) sc__law_due.nd rfl (Or.inl rfl) (pe_dget2 (Nat.lt_of_le_of_lt (Nat.add_le_add_left (by decide : 1 ≤ 64) _) hr.units) (Z.pe_kn0 k__law_forms hr (by decide) (by rfl)) (pe_ix (Z.ix_A K rfl) (pv 1) pe_int (fun _ _ => rfl)) pe_non ⟨by rfl, by rfl, by rfl, by rfl⟩))
      (pss_cons (ps_if (PW.pt (pw_or (pt_cmpR op_isN (pv 2) pe_non (nomark _)) (pw_or (pt_cmpR (Z.op_in_seqB K rfl) pe_str (pv 1) (by rfl)) (pw_or1 (pt_cmpR (Z.op_neB K rfl hr.units) (pe_callB (Z.call_lenB K rfl) (by rfl) m_len (by decide +kernel) (pa_cons (pv 1) pa_nil)) (pe_op Z.op_addA (pe_callB (Z.call_lenB K rfl) (by rfl) m_len (by decide +kernel) (pa_cons (pv 2) pa_nil)) pe_int) (nomark _)))))) (pss_one (ps_ret (pe_lst (pa_cons pe_str (pa_cons (pv 0) pa_nil))))) pss_nil)
      (pss_cons (ps_set (i := 3) sc__law_due.nd rfl (Or.inl rfl) (pe_lst (pa_cons (pe_ix (Z.ix_A K rfl) (pv 1) pe_int (fun _ _ => rfl)) pa_nil)))
      (pss_cons (ps_for PassesOwn.never rfl (Z.pi_zipS K rfl (by rfl) m_zip (pa_cons (pe_slice (Z.sl_B K rfl) (pv 1) (po_some pe_int) po_none) (pa_cons (pv 2) pa_nil))) (pg_tup rfl (pgs_cons (pg_name (i := 4) sc__law_due.nd rfl (Or.inl rfl)) (pgs_cons (pg_name (i := 5) sc__law_due.nd rfl (Or.inl rfl)) pgs_nil))) (pss_cons (ps_set (i := 6) sc__law_due.nd rfl (Or.inl rfl) (Z.pe_kn k__law_number hr (by decide) (by rfl) (pa_cons (pv 4) pa_nil)))
      (pss_cons (ps_if (PW.pt (pw_and (pt_cmpR (Z.op_eqB K rfl hr.units) (pv 5) pe_str (nomark _)) (pw_and1 (pt_cmpR op_isN (pv 6) pe_non (nomark _))))) (pss_one (ps_ret (pe_lst (pa_cons pe_str (pa_cons (pv 0) pa_nil))))) pss_nil)
      (pss_one (ps_if (pt_cmpR (Z.op_eqB K rfl hr.units) (pv 5) pe_str (nomark _)) (pss_one (ps_expr (pe_bm PySem.F.plainAttrs_list PySem.F.slot_list_append PySem.F.type_list_append mt_append (pv 3) (pa_cons (pv 6) pa_nil)))) (pss_one (ps_expr (pe_bm PySem.F.plainAttrs_list PySem.F.slot_list_append PySem.F.type_list_append mt_append (pv 3) (pa_cons (pe_ifExp (PW.pt (pw_and (pt_cmpR (Z.op_eqB K rfl hr.units) (pv 5) pe_str (nomark _)) (pw_and1 (pt_cmpR (Z.op_eqB K rfl hr.units) (pv 4) pe_str (nomark _))))) pe_non (pv 4)) pa_nil)))))))))
      (pss_one (ps_ret (pe_lst (pa_cons pe_str (pa_cons (pe_callTy (Z.call_tupleB K rfl) (by rfl) m_tuple (by decide +kernel) (pa_cons (pv 3) pa_nil)) pa_nil))))))))))), ?_⟩
    walk_at "zz"
    refine q_isiStr hv ?_
    cases hv with
    | str s _ =>
      have ts := hs s rfl
      walk_at "zz"
      refine q_lenS ts.sz ?_
      walk_at "zz"
      have bad : goodLine s = false → lineV (.str s) = none := fun z => by
        show (if goodLine s = true then lineOf s else none) = none
        rw [z]; rfl
      refine iteD (fun h4 => ?_) (fun h4 => ?_)
      · walk_at "zz"
        refine q_newL fun p H1 n1 h1 e1 => k0 (bad ?_) p H1 n1 h1 e1
        unfold goodLine
        rw [decide_eq_false (by omega), Bool.false_and]
      · walk_at "zz"
        refine q_lcS (z := s) (fun c => !(decide (32 ≤ c) && decide (c ≤ 126))) (fun c => .str ⟨#[c]⟩) (Evl.ev_var rfl) (Nat.le_trans ts.1 (by decide)) (fun _ => rfl) ?_ ?_ ?_
        · intro c H1 hc e QB q
          have q1 := q H1 Ex.rfl
          walk_at "zz"
          refine ⟨_, _, rfl, rfl, ?_⟩
          rw [lo_sign]
          by_cases g1 : 32 ≤ c
          · rw [decide_eq_true g1] at q1 ⊢
            walk_at "zz"
            refine ⟨_, _, rfl, rfl, ?_⟩
            rw [hi_sign]
            exact ⟨_, rfl, q1⟩
          · rw [decide_eq_false g1] at q1 ⊢
            walk_at "zz"
            exact q1
        · intro c H1 hc e _ Q' q
          walk_at "zz"
          exact q H1 Ex.rfl
        · intro p H1 n1 h1 e1
          walk_at "zz"
          refine q_newL fun p2 H2 n2 h2 e2 => ?_
          refine q_neSigns (f := fun c => decide (32 ≤ c) && decide (c ≤ 126)) (e2 _ _ h1) h2 ts.2 ?_
          have e12 := e1.tr e2
          have gd : goodLine s = s.cps.toList.all fun c => decide (32 ≤ c) && decide (c ≤ 126) := by
            unfold goodLine
            rw [decide_eq_true (by omega), Bool.true_and]
          rw [← gd]
          cases g : goodLine s with
          | false =>
            walk_at "zz"
            exact q_newL fun p3 H3 n3 h3 e3 => k0 (bad g) p3 H3 (e12.free n3) h3 (e12.tr e3)
          | true =>
            have lv : lineV (.str s) = lineOf s := by
              show (if goodLine s = true then lineOf s else none) = _
              rw [g]; rfl
            rw [lv] at k0 k1
            have ts4 : Tn 400 s := ⟨by omega, ts.2⟩
            obtain ⟨w0, ws, hw⟩ : ∃ w0 ws, Txt.split s SPC = w0 :: ws := by
              cases e : Txt.split s SPC with
              | nil => exact absurd e (split_ne _ _)
              | cons a b => exact ⟨a, b, rfl⟩
            have hl : (Txt.split s SPC).length ≤ 402 := split_size (c := 32) ts4
            have ht : ∀ w ∈ ws, Tn 400 w := fun w m => ts4.split (c := 32) (show w ∈ Txt.split s SPC by rw [hw]; exact List.mem_cons_of_mem _ m)
            rw [hw] at hl
            have hl' : ws.length ≤ 401 := by rw [List.length_cons] at hl; omega
            unfold lineOf at k0 k1
            rw [hw] at k0 k1
            simp only at k0 k1
            have hfl : (List.map V.str (w0 :: ws)).all flatV = true := List.all_eq_true.mpr fun v m => by
              obtain ⟨w, _, rfl⟩ := List.mem_map.mp m
              rfl
            walk_at "zz"
            refine q_splitB ts4 rfl fun pW H3 n3 h3 e3 => ?_
            rw [hw] at h3
            have e13 := e12.tr e3
            walk_at "zz"
            refine q_dget2 ?_
            walk_at "zz"
            refine ⟨rfl, fun pF H4 n4 h4f e4 => ?_⟩
            have e14 := e13.tr e4
            have h4w := e4 _ _ h3
            refine ⟨pF, rfl, .inl ⟨_, .inl h4f⟩, ?_⟩
            walk_at "zz"
            refine q_ixL (SqL.of h4w) (v := .str w0) at_hd ?_
            walk_at "zz"
            refine ⟨_, dget_S h4f, ?_⟩
            cases gl : lookT lawTb w0 with
            | none =>
              rw [gl] at k0
              walk_at "zz"
              refine ⟨rfl, ?_⟩
              walk_at "zz"
              exact q_newL fun p5 H5 n5 h5 e5 => k0 rfl p5 H5 (e14.free n5) h5 (e14.tr e5)
            | some f =>
              obtain ⟨fl, fc⟩ := law_sign gl
              rw [gl] at k0 k1
              simp only at k0 k1
              walk_at "zz"
              refine ⟨rfl, ?_⟩
              walk_at "zz"
              refine q_inLst (x := .str "") h4w rfl hfl ?_
              cases g2 : inV (.str "") ((w0 :: ws).map V.str) with
              | true =>
                walk_at "zz"
                exact q_newL fun p5 H5 n5 h5 e5 => k0 (if_neg fun z => by rw [g2] at z; cases z.1) p5 H5 (e14.free n5) h5 (e14.tr e5)
              | false =>
                walk_at "zz"
                refine q_lenL (SqL.of h4w) ?_
                walk_at "zz"
                refine q_lenS (Nat.le_of_lt (small1000 (by omega))) ?_
                walk_at "zz"
                rw [List.length_map, List.length_cons]
                have fs : f.length = f.cps.size := rfl
                refine iteND (fun h6 => ?_) (fun h6 => ?_)
                · walk_at "zz"
                  exact q_newL fun p5 H5 n5 h5 e5 => k0 (if_neg fun z => h6 (by have := z.2.1; omega)) p5 H5 (e14.free n5) h5 (e14.tr e5)
                · have hn : ws.length = f.cps.size := by omega
                  walk_at "zz"
                  refine q_ixL (SqL.of h4w) (v := .str w0) at_hd ?_
                  walk_at "zz"
                  refine q_newL fun pT H5 n5 h5 e5 => ?_
                  walk_at "zz"
                  refine q_forZS ?_
                  walk_at "zz"
                  refine q_slL (SqL.of (e5 _ _ h4w)) fun pC H6 n6 h6' e6 => ?_
                  rw [show cutV (List.map V.str (w0 :: ws)) (some 1) none = List.map V.str ws from cut_tail _ _] at h6'
                  have neC : pC ≠ pT := fun z => by rw [z, h5] at n6; cases n6
                  have h6T := e6 _ _ h5
                  have fin : ∀ {Hx : Hp}, Fb pT H6 Hx → Ex H Hx := fun fx => Fb.mut (e14.tr (e5.tr e6)) (e14.free n5) fx
                  walk_at "zz"
                  have hlen : (f.cps.toList.zip ws).length ≤ 100 := by
                    rw [List.length_zip]
                    have : f.cps.toList.length = f.cps.size := Array.length_toList
                    omega
                  have hlist : ∀ i, ((f.cps.toList.zip ws).take i).length ≤ 100 := fun i => by
                    rw [List.length_take]; omega
                  refine q_zipSFor h6' (by rw [List.length_map]) hn.symm (fun i σ' H' => (∃ v1 v2 v3, σ' = [some (.str s), some (.ref pW), some (.str f), some (.ref pT), v1, v2, v3]) ∧ Fb pT H6 H' ∧ H' pT = some (.lst (.str w0 :: ((f.cps.toList.zip ws).take i).map fun p => thingV p.1 p.2)) ∧ ((f.cps.toList.zip ws).take i).all (fun p => okT p.1 p.2) = true) ⟨⟨_, _, _, rfl⟩, Fb.rfl, h6T, rfl⟩ (fun i σ' H' p => p.2.1 _ _ h6' neC) ?_ ?_
                  · rintro i x c T σ' H7 H8 hi hx hc ⟨⟨v1, v2, v3, rfl⟩, f7, h7, ok7⟩ nT hT e78
                    rw [List.getElem?_map] at hx
                    obtain ⟨w, hwi, rfl⟩ := Option.map_eq_some_iff.mp hx
                    have hc' : f.cps.toList[i]? = some c := by rw [Array.getElem?_toList]; exact hc
                    have zs := zip_step hc' hwi
                    have tw := ht w (List.mem_of_getElem? hwi)
                    have cc := fc c (List.mem_of_getElem? hc')
                    refine q_gTup (SqT.of hT) rfl ?_
                    walk_at "zz"
                    refine ⟨w, rfl, tw.mono (by decide), fun H9 e9 => ?_⟩
                    have e79 := e78.tr e9
                    have add : okT c w = true → ∀ H8, H8 pT = some (.lst ((.str w0 :: ((f.cps.toList.zip ws).take i).map fun p => thingV p.1 p.2) ++ [thingV c w])) → Fb pT H9 H8 → Fb pT H6 H8 ∧ H8 pT = some (.lst (.str w0 :: ((f.cps.toList.zip ws).take (i + 1)).map fun p => thingV p.1 p.2)) ∧ ((f.cps.toList.zip ws).take (i + 1)).all (fun p => okT p.1 p.2) = true := fun o H8 h8 f8 => by
                      refine ⟨f7.tr ((Fb.ex e79).tr f8), ?_, ?_⟩
                      · rw [h8, zs, List.map_append]; rfl
                      · rw [zs, List.all_append, ok7]
                        show (okT c w && true) = true
                        rw [o]; rfl
                    have bad : okT c w = false → ∀ pz Hz, H9 pz = none → Hz pz = some (.lst [V.str "line", V.str s]) → Ex H9 Hz → Q (.ref pz) Hz := fun o pz Hz nz hz ez => by
                      refine k0 (if_neg fun z => ?_) pz Hz ((fin (f7.tr (Fb.ex e79))).free nz) hz ((fin (f7.tr (Fb.ex e79))).tr ez)
                      have := all_take (f := fun p : Nat × Str => okT p.1 p.2) (L := f.cps.toList.zip ws) (i + 1) (by rw [zs, List.all_append, ok7]; show (okT c w && true) = false; rw [o]; rfl)
                      rw [this] at z
                      cases z.2.2
                    have sz : ∀ {L : List (Nat × Str)}, L.length ≤ 100 → (V.str w0 :: L.map fun p => thingV p.1 p.2).length < 1000 := fun h => by rw [List.length_cons, List.length_map]; omega
                    have hN : decide ((⟨#[c]⟩ : Str) = "n") = decide (c = 110) := sign_eq c 110
                    have hO : decide ((⟨#[c]⟩ : Str) = "o") = decide (c = 111) := sign_eq c 111
                    walk_at "zz"
                    rw [hN]
                    refine iteD (fun hc1 => ?_) (fun hc1 => ?_)
                    · rw [hc1] at add bad
                      rw [okT_n] at add bad
                      have tv : thingV 110 w = readV (.str w) 0 999999999999999999999999999999 := by unfold thingV; rw [if_pos rfl]
                      rw [tv] at add
                      rcases readV_is w 999999999999999999999999999999 with z | ⟨m, z, _⟩
                      · rw [z] at bad ⊢
                        walk_at "zz"
                        refine ⟨rfl, ?_⟩
                        walk_at "zz"
                        exact q_newL fun pz Hz nz hz ez => bad (by decide) pz Hz nz hz ez
                      · rw [z] at add ⊢
                        walk_at "zz"
                        refine ⟨rfl, ?_⟩
                        walk_at "zz"
                        rw [hN]
                        refine iteR (decide_eq_true hc1) ?_
                        walk_at "zz"
                        refine ⟨.inl ⟨rfl, _, SqL.of (e79 _ _ h7)⟩, ?_⟩
                        walk_at "zz"
                        refine q_append (e79 _ _ h7) (sz (hlist i)) fun Ha ha fa => ?_
                        walk_at "zz"
                        exact ⟨⟨_, _, _, rfl⟩, add (by simp) Ha ha fa⟩
                    · have ok := okT_o hc1 w
                      walk_at "zz"
                      rw [hN]
                      refine iteL (decide_eq_false hc1) ?_
                      walk_at "zz"
                      refine ⟨.inl ⟨rfl, _, SqL.of (e79 _ _ h7)⟩, ?_⟩
                      walk_at "zz"
                      rw [hO]
                      have fin2 : thingV c w = .str w → rAppend (.ref pT) [.str w] H9 fun _ Hx => (∃ v1 v2 v3, ([some (.str s), some (.ref pW), some (.str f), some (.ref pT), some (.str w), some (.str ⟨#[c]⟩), some (readV (.str w) 0 999999999999999999999999999999)] : L2.St) = [some (.str s), some (.ref pW), some (.str f), some (.ref pT), v1, v2, v3]) ∧ Fb pT H6 Hx ∧ Hx pT = some (.lst (.str w0 :: ((f.cps.toList.zip ws).take (i + 1)).map fun p => thingV p.1 p.2)) ∧ ((f.cps.toList.zip ws).take (i + 1)).all (fun p => okT p.1 p.2) = true := fun z => by
                        refine q_append (e79 _ _ h7) (sz (hlist i)) fun Ha ha fa => ?_
                        rw [z] at add
                        exact ⟨⟨_, _, _, rfl⟩, add ok Ha ha fa⟩
                      refine iteD (fun hc2 => ?_) (fun hc2 => ?_)
                      · walk_at "zz"
                        refine iteD (fun hc3 => ?_) (fun hc3 => ?_)
                        · walk_at "zz"
                          refine q_append (e79 _ _ h7) (sz (hlist i)) fun Ha ha fa => ?_
                          walk_at "zz"
                          rw [show thingV c w = .non by unfold thingV; rw [if_neg hc1, if_pos ⟨hc2, hc3⟩]] at add
                          exact ⟨⟨_, _, _, rfl⟩, add ok Ha ha fa⟩
                        · walk_at "zz"
                          exact fin2 (by unfold thingV; rw [if_neg hc1, if_neg fun y => hc3 y.2])
                      · walk_at "zz"
                        exact fin2 (by unfold thingV; rw [if_neg hc1, if_neg fun y => hc2 y.1])
                  · rintro σ' H7 ⟨⟨v1, v2, v3, rfl⟩, f7, h7, ok7⟩
                    rw [List.take_of_length_le (by rw [List.length_zip]; omega)] at h7 ok7
                    walk_at "zz"
                    refine q_tupOf (SqL.of h7) fun t H8 n8 h8 e8 => ?_
                    walk_at "zz"
                    refine q_newL fun p9 H9 n9 h9 e9 => ?_
                    have e18 := (fin f7).tr e8
                    exact k1 _ (if_pos ⟨g2, by omega, ok7⟩) p9 t H9 (e18.free n9) ((fin f7).free n8) (fun z => by rw [z, h8] at n9; cases n9) h9 (e9 _ _ h8) (e18.tr e9)
    | _ =>
      walk_at "zz"
      exact q_newL fun p H1 n1 h1 e1 => k0 rfl p H1 n1 h1 e1
abbrev s__law_word : Stmt := topS 26
theorem sc__law_word : FnScope ["box", "signs", "many", "plain", "k"] ["box"] (defScope s__law_word) := ⟨rfl, rfl, rfl, by decide +kernel, rfl, by decide +kernel, by decide +kernel⟩
def sp__law_word (K : PySem.W.Frag) : Sp := fun vs H Q _ => ∃ (b : Addr) (n : Nat), vs = [.ref b] ∧ BoxAt H b n ∧ n + 10 ≤ 100000 ∧ ∀ s H', Tn 8 s → BoxAt H' b (n + 10) → Fb b H H' → Q (.str s) H'
theorem kn__law_word (F : Df K mg "_law_word" s__law_word ["box"])
    (m_len : mg "len" = none)
    (m_range : mg "range" = none)
    (k__law_take : Kn P w K mg base 1 "_law_take" (sp__law_take K)) : Kn P w K mg base 2 "_law_word" (sp__law_word K) := by
  refine kn_of F sc__law_word (fun vs H Q E h => ?_) (fun f cdv A outer s H vs Q E hr h => ?_)
  · obtain ⟨b, n, rfl, _⟩ := h
    rfl
  · obtain ⟨b, n, rfl, hB, hn, k⟩ := h
    refine ⟨_, (pss_cons (ps_set (i := 1) sc__law_word.nd rfl (Or.inr rfl) pe_str)
      (pss_cons (ps_set (i := 2) sc__law_word.nd rfl (Or.inl rfl) (pe_op Z.op_addA pe_int (Z.pe_kn k__law_take hr (by decide) (by rfl) (pa_cons (pv 0) (pa_cons pe_int pa_nil)))))
      (pss_cons (ps_set (i := 3) sc__law_word.nd rfl (Or.inl rfl) (pe_cmpR (Z.op_eqB K rfl hr.units) (Z.pe_kn k__law_take hr (by decide) (by rfl) (pa_cons (pv 0) (pa_cons pe_int pa_nil))) pe_int (nomark _)))
      (pss_cons (ps_if (pt_val (pv 3)) (pss_one (ps_ret (Z.pe_joinB K rfl pe_str (pe_lc (own := [("k", 4)]) (g := gName 4) (by rfl) sc__law_word.nd (pi_range1 (by rfl) m_range (pa_cons (pv 2) pa_nil)) (blkOk_by (own := [("k", 4)]) (N := ["box", "signs", "many", "plain", "k"]) (sc := defScope s__law_word) (by decide +kernel)) (fun _ _ _ _ _ => pg_name (i := 4) sc__law_word.nd rfl (Or.inl rfl)) (fun _ _ _ _ _ => pts_nil) (fun _ _ _ _ _ => (pe_ix (Z.ix_A K rfl) pe_str (Z.pe_kn k__law_take hr (by decide) (by rfl) (pa_cons (pv 0) (pa_cons pe_int pa_nil))) (fun _ _ => rfl))))))) pss_nil)
      (pss_one (ps_ret (Z.pe_joinB K rfl pe_str (pe_lc (own := [("k", 4)]) (g := gName 4) (by rfl) sc__law_word.nd (pi_range1 (by rfl) m_range (pa_cons (pv 2) pa_nil)) (blkOk_by (own := [("k", 4)]) (N := ["box", "signs", "many", "plain", "k"]) (sc := defScope s__law_word) (by decide +kernel)) (fun _ _ _ _ _ => pg_name (i := 4) sc__law_word.nd rfl (Or.inl rfl)) (fun _ _ _ _ _ => pts_nil) (fun _ _ _ _ _ => (pe_ix (Z.ix_A K rfl) (pv 1) (Z.pe_kn k__law_take hr (by decide) (by rfl) (pa_cons (pv 0) (pa_cons (pe_callB (Z.call_lenB K rfl) (by rfl) m_len (by decide +kernel) (pa_cons (pv 1) pa_nil)) pa_nil))) (fun _ _ => rfl))))))))))), ?_⟩
    walk_at "zz"
    refine ⟨b, _, _, rfl, hB, by omega, by omega, by omega, fun d1 H1 g1 l1 B1 f1 => ?_⟩
    walk_at "zz"
    refine ⟨b, _, _, rfl, B1, by omega, by omega, by omega, fun d2 H2 g2 l2 B2 f2 => ?_⟩
    walk_at "zz"
    refine iteD (fun h0 => ?_) (fun h0 => ?_)
    · walk_at "zz"
      refine q_rngBox b _ 1 (fun v => ∃ c, c < 128 ∧ v = .str ⟨#[c]⟩) (by omega) B2 (fun _ => rfl) ?_ ?_
      · intro i H7 hi B7 f7 Q' q
        walk_at "zz"
        refine ⟨b, _, _, rfl, B7, by omega, by omega, by omega, fun d8 H8 g8 l8 B8 f8 => ?_⟩
        obtain ⟨c, e, mc, _⟩ := at_mem (xs := SMALL.cps.toList) g8 (by rw [show SMALL.cps.toList.length = 26 by decide +kernel]; exact l8)
        refine q_ixS (by decide +kernel) e ?_
        exact q _ H8 ⟨c, (show ∀ c ∈ SMALL.cps.toList, c < 128 by decide +kernel) c mc, rfl⟩ B8 f8
      · intro p7 H7 xs n7 h7 hl hs B7 f7
        walk_at "zz"
        refine q_joinP (fun c => c < 128) h7 (by omega) hs fun s hs2 hsl => ?_
        exact k s H7 ⟨by omega, hs2⟩ (B7.mono (by omega)) (f1.tr (f2.tr f7))
    · walk_at "zz"
      refine q_rngBox b _ 1 (fun v => ∃ c, c < 128 ∧ v = .str ⟨#[c]⟩) (by omega) B2 (fun _ => rfl) ?_ ?_
      · intro i H7 hi B7 f7 Q' q
        walk_at "zz"
        refine q_lenS (z := SG) (by rw [TL.len_tl]; exact Nat.le_of_lt (small1000 (by rw [sg_len]; decide))) ?_
        walk_at "zz"
        have sl : SG.length = 91 := by rw [TL.len_tl]; exact sg_len
        refine ⟨b, _, _, rfl, B7, by omega, by rw [sl]; decide, by rw [sl]; decide, fun d8 H8 g8 l8 B8 f8 => ?_⟩
        rw [sl] at l8
        obtain ⟨c, e, mc, _⟩ := at_mem (xs := SG.cps.toList) g8 (by rw [sg_len]; exact l8)
        refine q_ixS (z := SG) (by rw [TL.len_tl]; exact Nat.le_of_lt (small1000 (by rw [sg_len]; decide))) e ?_
        exact q _ H8 ⟨c, sg_ok c mc, rfl⟩ B8 f8
      · intro p7 H7 xs n7 h7 hl hs B7 f7
        walk_at "zz"
        refine q_joinP (fun c => c < 128) h7 (by omega) hs fun s hs2 hsl => ?_
        exact k s H7 ⟨by omega, hs2⟩ (B7.mono (by omega)) (f1.tr (f2.tr f7))
abbrev s__law_bent : Stmt := topS 28
theorem sc__law_bent : FnScope ["box", "line", "words", "way", "at", "place", "odd", "sign"] ["box", "line"] (defScope s__law_bent) := ⟨rfl, rfl, rfl, by decide +kernel, rfl, by decide +kernel, by decide +kernel⟩
def sp__law_bent (K : PySem.W.Frag) : Sp := fun vs H Q _ => ∃ (b : Addr) (n : Nat) (s : Str), vs = [.ref b, .str s] ∧ BoxAt H b n ∧ n + 5 ≤ 100000 ∧ Tn 300 s ∧ ∀ z H', Tn 700 z → BoxAt H' b (n + 5) → Fb b H H' → Q (.str z) H'
theorem kn__law_bent (F : Df K mg "_law_bent" s__law_bent ["box", "line"])
    (m_len : mg "len" = none)
    (k__law_take : Kn P w K mg base 1 "_law_take" (sp__law_take K)) : Kn P w K mg base 2 "_law_bent" (sp__law_bent K) := by
  refine kn_of F sc__law_bent (fun vs H Q E h => ?_) (fun f cdv A outer s H vs Q E hr h => ?_)
  · obtain ⟨b, n, s, rfl, _⟩ := h
    rfl
  · obtain ⟨b, n, s, rfl, hB, hn, hs, k⟩ := h
    refine ⟨_, (pss_cons (ps_set (i := 2) sc__law_bent.nd rfl (Or.inl rfl) (Z.pe_splitA (pv 1) pe_str))
      (pss_cons (ps_set (i := 3) sc__law_bent.nd rfl (Or.inl rfl) (Z.pe_kn k__law_take hr (by decide) (by rfl) (pa_cons (pv 0) (pa_cons pe_int pa_nil))))
      (pss_cons (ps_set (i := 4) sc__law_bent.nd rfl (Or.inl rfl) (Z.pe_kn k__law_take hr (by decide) (by rfl) (pa_cons (pv 0) (pa_cons (pe_callB (Z.call_lenB K rfl) (by rfl) m_len (by decide +kernel) (pa_cons (pv 2) pa_nil)) pa_nil))))
      (pss_cons (ps_set (i := 5) sc__law_bent.nd rfl (Or.inl rfl) (Z.pe_kn k__law_take hr (by decide) (by rfl) (pa_cons (pv 0) (pa_cons (pe_op Z.op_addA (pe_callB (Z.call_lenB K rfl) (by rfl) m_len (by decide +kernel) (pa_cons (pv 1) pa_nil)) pe_int) pa_nil))))
      (pss_cons (ps_set (i := 6) sc__law_bent.nd rfl (Or.inl rfl) (pe_ix (Z.ix_A K rfl) (pe_lst (pa_cons pe_str (pa_cons pe_str (pa_cons pe_str (pa_cons pe_str (pa_cons pe_str (pa_cons (pe_op Z.op_mulA pe_str pe_int) (pa_cons (pe_op Z.op_mulA pe_str pe_int) (pa_cons pe_str (pa_cons pe_str (pa_cons pe_str (pa_cons pe_str (pa_cons pe_str pa_nil))))))))))))) (Z.pe_kn k__law_take hr (by decide) (by rfl) (pa_cons (pv 0) (pa_cons pe_int pa_nil))) (fun _ _ => rfl)))
      (pss_cons (ps_set (i := 7) sc__law_bent.nd rfl (Or.inl rfl) (pe_ix (Z.ix_A K rfl) (pe_lst (pa_cons pe_str (pa_cons pe_str (pa_cons pe_str (pa_cons pe_str (pa_cons pe_str (pa_cons pe_str (pa_cons pe_str (pa_cons pe_str pa_nil))))))))) (Z.pe_kn k__law_take hr (by decide) (by rfl) (pa_cons (pv 0) (pa_cons pe_int pa_nil))) (fun _ _ => rfl)))
      (pss_cons (ps_if (pt_cmpR op_lt (pv 3) pe_int (nomark _)) (pss_one (ps_ret (pe_op Z.op_addA (pe_op Z.op_addA (pe_slice (Z.sl_B K rfl) (pv 1) po_none (po_some (pv 5))) (pv 7)) (pe_slice (Z.sl_B K rfl) (pv 1) (po_some (pv 5)) po_none)))) pss_nil)
      (pss_cons (ps_if (pt_cmpR (Z.op_eqB K rfl hr.units) (pv 3) pe_int (nomark _)) (pss_one (ps_ret (pe_op Z.op_addA (pe_slice (Z.sl_B K rfl) (pv 1) po_none (po_some (pv 5))) (pe_slice (Z.sl_B K rfl) (pv 1) (po_some (pe_op Z.op_addA (pv 5) pe_int)) po_none)))) pss_nil)
      (pss_cons (ps_if (pt_cmpR op_lt (pv 3) pe_int (nomark _)) (pss_one (ps_asg (pv 6) (pg_sub (pv 2) (pv 4) set_list))) (pss_one (ps_if (pt_cmpR (Z.op_eqB K rfl hr.units) (pv 3) pe_int (nomark _)) (pss_one (ps_expr (pe_bm PySem.F.plainAttrs_list PySem.F.slot_list_insert PySem.F.type_list_insert mt_insert (pv 2) (pa_cons (pv 4) (pa_cons (pv 6) pa_nil))))) (pss_one (ps_if (pt_cmpR (Z.op_eqB K rfl hr.units) (pv 3) pe_int (nomark _)) (pss_one (ps_expr (pe_bm PySem.F.plainAttrs_list PySem.F.slot_list_append PySem.F.type_list_append mt_append (pv 2) (pa_cons (pv 6) pa_nil)))) (pss_one (ps_expr (pe_bm PySem.F.plainAttrs_list PySem.F.slot_list_pop PySem.F.type_list_pop mt_popAt (pv 2) (pa_cons (pv 4) pa_nil)))))))))
      (pss_one (ps_ret (Z.pe_joinB K rfl pe_str (pv 2))))))))))))), ?_⟩
    walk_at "zz"
    refine q_splitB hs rfl fun pW H1 n1 h1 e1 => ?_
    have B1 := hB.ex e1
    have bW : pW ≠ b := hB.ne n1
    have hl : (Txt.split s SPC).length ≤ 302 := split_size (c := 32) hs
    have hl1 : 1 ≤ (Txt.split s SPC).length := PyProof.Rows.split_pos s SPC
    have hN := wordsN_split s
    have hc : ∀ w ∈ Txt.split s SPC, ∀ c ∈ w.cps.toList, c < 128 := fun w hw => (hs.split (c := 32) hw).2
    have hs1 : s.length ≤ 300 := hs.1
    generalize hW : Txt.split s SPC = ws at h1 hl hl1 hN hc
    walk_at "zz"
    refine ⟨b, _, _, rfl, B1, by omega, by omega, by omega, fun way H2 g2 l2 B2 f2 => ?_⟩
    walk_at "zz"
    refine q_lenL (SqL.of (f2.get h1 bW)) ?_
    walk_at "zz"
    rw [List.length_map]
    refine ⟨b, _, _, rfl, B2, by omega, by omega, by omega, fun at_ H3 g3 l3 B3 f3 => ?_⟩
    walk_at "zz"
    refine q_lenS hs.sz ?_
    walk_at "zz"
    refine ⟨b, _, _, rfl, B3, by omega, by omega, by omega, fun pl H4 g4 l4 B4 f4 => ?_⟩
    walk_at "zz"
    refine q_repS (c := 49) (by decide) (by decide) fun z1 zl1 zc1 => ?_
    walk_at "zz"
    refine q_repS (c := 57) (by decide) (by decide) fun z2 zl2 zc2 => ?_
    walk_at "zz"
    refine q_newL fun p5 H5 n5 h5 e5 => ?_
    walk_at "zz"
    refine ⟨b, _, _, rfl, B4.ex e5, by omega, by omega, by omega, fun d6 H6 g6 l6 B6 f6 => ?_⟩
    refine q_ixM (SqL.of (f6.get h5 (B4.ne n5))) g6 l6 fun v m => ?_
    obtain ⟨o, rfl, to⟩ : ∃ o : Str, v = .str o ∧ Tn 31 o := by
      simp only [List.mem_cons, List.not_mem_nil, or_false] at m
      rcases m with rfl | rfl | rfl | rfl | rfl | rfl | rfl | rfl | rfl | rfl | rfl | rfl
      · exact ⟨_, rfl, by decide +kernel, by decide +kernel⟩
      · exact ⟨_, rfl, by decide +kernel, by decide +kernel⟩
      · exact ⟨_, rfl, by decide +kernel, by decide +kernel⟩
      · exact ⟨_, rfl, by decide +kernel, by decide +kernel⟩
      · exact ⟨_, rfl, by decide +kernel, by decide +kernel⟩
      · exact ⟨_, rfl, by omega, fun d hd => by rw [zc1 d hd]; decide⟩
      · exact ⟨_, rfl, by omega, fun d hd => by rw [zc2 d hd]; decide⟩
      · exact ⟨_, rfl, by decide +kernel, by decide +kernel⟩
      · exact ⟨_, rfl, by decide +kernel, by decide +kernel⟩
      · exact ⟨_, rfl, by decide +kernel, by decide +kernel⟩
      · exact ⟨_, rfl, by decide +kernel, by decide +kernel⟩
      · exact ⟨_, rfl, by decide +kernel, by decide +kernel⟩
    walk_at "zz"
    refine q_newL fun p7 H7 n7 h7 e7 => ?_
    walk_at "zz"
    refine ⟨b, _, _, rfl, B6.ex e7, by omega, by omega, by omega, fun d8 H8 g8 l8 B8 f8 => ?_⟩
    refine q_ixM (SqL.of (f8.get h7 (B6.ne n7))) g8 l8 fun v m => ?_
    obtain ⟨sg, rfl, ts⟩ : ∃ o : Str, v = .str o ∧ Tn 1 o := by
      simp only [List.mem_cons, List.not_mem_nil, or_false] at m
      rcases m with rfl | rfl | rfl | rfl | rfl | rfl | rfl | rfl
      all_goals exact ⟨_, rfl, by decide +kernel, by decide +kernel⟩
    have f18 : Fb b H1 H8 := f2.tr (f3.tr (f4.tr ((Fb.ex e5).tr (f6.tr ((Fb.ex e7).tr f8)))))
    have hp8 : H8 pW = some (.lst (ws.map V.str)) := f18.get h1 bW
    have cu : ∀ lo hi, Tn 300 (cutS s lo hi) := fun lo hi => hs.cut lo hi
    have fE : Fb b H H8 := (Fb.ex e1).tr f18
    obtain ⟨t, rfl⟩ := Int.eq_ofNat_of_zero_le g3
    have cut2 : ∀ x y : Str, Tn 300 x → Tn 300 y → x.length + y.length ≤ sizeLine := fun x y hx hy => small_add (m := 300) (n := 300) hx.1 hy.1 (by decide)
    have done : ∀ z Hx, Tn 700 z → Fb pW H8 Hx → Q (.str z) Hx := fun z Hx tz fx => by
      refine k z Hx tz ?_ (fun a o ha hab => fx _ _ (fE a o ha hab) (ne_of_none ha n1))
      obtain ⟨x, y, zz, h, r⟩ := B8
      exact BoxAt.mono ⟨x, y, zz, fx _ _ h bW.symm, r⟩ (by omega)
    walk_at "zz"
    refine iteD (fun w2 => ?_) (fun w2 => ?_)
    · walk_at "zz"
      refine q_slS hs.sz ?_
      walk_at "zz"
      have t1 := (cu none (some pl)).app ts
      refine q_addS (small_add (m := 300) (n := 1) (cu _ _).1 ts.1 (by decide)) ?_
      walk_at "zz"
      refine q_slS hs.sz ?_
      walk_at "zz"
      refine q_addS (small_add (m := 301) (n := 300) t1.1 (cu _ _).1 (by decide)) ?_
      walk_at "zz"
      exact done _ H8 ((t1.app (cu _ _)).mono (by omega)) Fb.rfl
    walk_at "zz"
    refine iteD (fun w2 => ?_) (fun w2 => ?_)
    · walk_at "zz"
      refine q_slS hs.sz ?_
      walk_at "zz"
      refine q_slS hs.sz ?_
      walk_at "zz"
      refine q_addS (small_add (m := 300) (n := 300) (cu _ _).1 (cu _ _).1 (by decide)) ?_
      walk_at "zz"
      exact done _ H8 (((cu _ _).app (cu _ _)).mono (by omega)) Fb.rfl
    have fin : ∀ (L : List Str) (Hx : Hp) (QQ : VK), Hx pW = some (.lst (L.map V.str)) → wordsN L ≤ 400 → (∀ w ∈ L, ∀ c ∈ w.cps.toList, c < 128) → (∀ z, Tn 400 z → QQ (.str z) Hx) → rJoin K (.str " ") [.ref pW] Hx QQ := fun L Hx QQ h1 h2 h3 h4 => q_joinW h1 h2 (by decide) h3 h4
    walk_at "zz"
    refine iteD (fun w2 => ?_) (fun w2 => ?_)
    · walk_at "zz"
      refine q_setL hp8 (j := t) (by unfold ixN; rw [if_pos (by omega), if_pos (by rw [List.length_map]; omega)]; rfl) fun H9 h9 f9 => ?_
      walk_at "zz"
      rw [← List.map_set] at h9
      refine fin (ws.set t o) H9 _ h9 (Nat.le_trans wordsN_set (by have := to.1; omega)) (fun w hw => ?_) fun z tz => ?_
      · rcases List.mem_or_eq_of_mem_set hw with h | h
        · exact hc w h
        · rw [h]; exact to.2
      · exact done z H9 (tz.mono (by omega)) f9
    walk_at "zz"
    refine iteD (fun w2 => ?_) (fun w2 => ?_)
    · walk_at "zz"
      refine ⟨.inl ⟨rfl, _, SqL.of hp8⟩, ?_⟩
      walk_at "zz"
      refine ⟨pW, _, _, _, rfl, rfl, hp8, Nat.le_of_lt_succ (Nat.lt_succ_of_lt (Nat.lt_of_lt_of_le (by rw [List.length_map]; omega : _ < 1000) (Nat.le_of_lt (small1000 (Nat.le_refl _))))), by omega, by omega, ?_⟩
      have f9 : Fb pW H8 (upd H8 pW (.lst (((ws.map V.str).take (t : Int).toNat) ++ [V.str o] ++ (ws.map V.str).drop (t : Int).toNat))) := Fb.put
      have h9 := upd_same (H := H8) (a := pW) (o := .lst (((ws.map V.str).take (t : Int).toNat) ++ [V.str o] ++ (ws.map V.str).drop (t : Int).toNat))
      generalize upd H8 pW (.lst (((ws.map V.str).take (t : Int).toNat) ++ [V.str o] ++ (ws.map V.str).drop (t : Int).toNat)) = H9 at f9 h9 ⊢
      walk_at "zz"
      have h9' : H9 pW = some (.lst ((ws.take t ++ [o] ++ ws.drop t).map V.str)) := by
        rw [h9, List.map_append, List.map_append, List.map_take, List.map_drop]; rfl
      refine fin (ws.take t ++ [o] ++ ws.drop t) H9 _ h9' (by rw [wordsN_ins]; have := to.1; omega) (fun w hw => ?_) fun z tz => ?_
      · rcases List.mem_append.mp hw with h | h
        · rcases List.mem_append.mp h with h | h
          · exact hc w (List.mem_of_mem_take h)
          · rw [List.mem_singleton.mp h]; exact to.2
        · exact hc w (List.mem_of_mem_drop h)
      · exact done z H9 (tz.mono (by omega)) f9
    walk_at "zz"
    refine iteD (fun w2 => ?_) (fun w2 => ?_)
    · walk_at "zz"
      refine ⟨.inl ⟨rfl, _, SqL.of hp8⟩, ?_⟩
      walk_at "zz"
      refine q_append hp8 (by rw [List.length_map]; omega) fun H9 h9 f9 => ?_
      walk_at "zz"
      have h9' : H9 pW = some (.lst ((ws ++ [o]).map V.str)) := by rw [h9, List.map_append]; rfl
      refine fin (ws ++ [o]) H9 _ h9' (by rw [wordsN_app]; have := to.1; simp only [wordsN]; omega) (fun w hw => ?_) fun z tz => ?_
      · rcases List.mem_append.mp hw with h | h
        · exact hc w h
        · rw [List.mem_singleton.mp h]; exact to.2
      · exact done z H9 (tz.mono (by omega)) f9
    · walk_at "zz"
      refine ⟨.inl ⟨rfl, _, SqL.of hp8⟩, ?_⟩
      walk_at "zz"
      refine q_popAt hp8 (by rw [List.length_map]; omega) (by rw [List.getElem?_map, List.getElem?_eq_getElem (by omega)]; rfl) fun H9 h9 f9 => ?_
      walk_at "zz"
      rw [map_eraseIdx] at h9
      refine fin (ws.eraseIdx t) H9 _ h9 (Nat.le_trans wordsN_del (by omega)) (fun w hw => hc w (List.mem_of_mem_eraseIdx hw)) fun z tz => ?_
      exact done z H9 (tz.mono (by omega)) f9
abbrev s_whole_in : Stmt := topS 5
theorem sc_whole_in : FnScope ["thing", "low", "high", "number"] ["thing", "low", "high"] (defScope s_whole_in) := ⟨rfl, rfl, rfl, by decide +kernel, rfl, by decide +kernel, by decide +kernel⟩
def sp_whole_in (K : PySem.W.Frag) : Sp := fun vs H Q _ => ∃ (v : V) (lo hi : Int), vs = [v, .int lo, .int hi] ∧ Thing K H v ∧ 0 ≤ hi ∧ hi < 1000000000000000000000000000000 ∧ ∀ H', Ex H H' → Q (readV v lo hi) H'
theorem kn_whole_in (F : Df K mg "whole_in" s_whole_in ["thing", "low", "high"])
    (m_int : mg "int" = none)
    (m_len : mg "len" = none)
    (m_str : mg "str" = none)
    (m_isinstance : mg "isinstance" = none)
    (k_is_plainly_written : Kn P w K mg base 2 "is_plainly_written" (sp_is_plainly_written K)) : Kn P w K mg base 3 "whole_in" (sp_whole_in K) := by
  refine kn_of F sc_whole_in (fun vs H Q E h => ?_) (fun f cdv A outer s H vs Q E hr h => ?_)
  · obtain ⟨v, lo, hi, rfl, _⟩ := h
    rfl
  · obtain ⟨v, lo, hi, rfl, hv, h0, h1, k⟩ := h
    refine ⟨_, (pss_cons (ps_if (PW.pt (pw_or (pt_not (pt_val (pe_callB (Z.call_isiB K rfl) (by rfl) m_isinstance (by decide +kernel) (pa_cons (pv 0) (pa_cons (pe_bltn (v := .ty "str") (by rfl) m_str (by decide +kernel) rfl) pa_nil))))) (pw_or1 (pt_not (pt_val (Z.pe_kn k_is_plainly_written hr (by decide) (by rfl) (pa_cons (pv 0) pa_nil))))))) (pss_one (ps_ret pe_non)) pss_nil)
      (pss_cons (ps_if (pt_cmpR op_gt (pe_callB (Z.call_lenB K rfl) (by rfl) m_len (by decide +kernel) (pa_cons (pv 0) pa_nil)) (pe_callB (Z.call_lenB K rfl) (by rfl) m_len (by decide +kernel) (pa_cons (pe_callTy Z.call_strA (by rfl) m_str (by decide +kernel) (pa_cons (pv 2) pa_nil)) pa_nil)) (nomark _)) (pss_one (ps_ret pe_non)) pss_nil)
      (pss_cons (ps_set (i := 3) sc_whole_in.nd rfl (Or.inl rfl) (pe_callTy call_int_str (by rfl) m_int (by decide +kernel) (pa_cons (pv 0) pa_nil)))
      (pss_cons (ps_if (pt_chain op_le op_le (pv 1) (pv 3) (pv 2)) (pss_one (ps_ret (pv 3))) pss_nil)
      (pss_one (ps_ret pe_non)))))), ?_⟩
    walk_at "zz"
    refine q_isiStr hv ?_
    cases hv with
    | str s hs =>
      walk_at "zz"
      refine ⟨s, rfl, hs.1, fun H1 e1 => ?_⟩
      walk_at "zz"
      have q := k H1 e1
      cases hp : plainL s.cps.toList with
      | false =>
        walk_at "zz"
        rw [show readV (.str s) lo hi = .non by simp [readV, hp]] at q
        exact q
      | true =>
        walk_at "zz"
        refine q_lenS hs.sz ?_
        walk_at "zz"
        obtain ⟨n, rfl⟩ := Int.eq_ofNat_of_zero_le h0
        have hn : n < 10 ^ 30 := by omega
        have hlog : ((n : Int)).natAbs.log2 < 1920 := by
          show n.log2 < 1920
          by_cases hz : n = 0
          · subst hz; decide
          · exact (Nat.log2_lt hz).mpr (Nat.lt_trans hn (by decide +kernel))
        refine q_strI hlog ?_
        walk_at "zz"
        have htl : TL.tl (Str.ofString (toString ((n : Nat) : Int))) = (Nat.toDigits 10 n).map Char.toNat := num_tl n
        have hlen : (Str.ofString (toString ((n : Nat) : Int))).length = (Nat.toDigits 10 n).length := by rw [TL.len_tl, htl, List.length_map]
        have hl30 : (Nat.toDigits 10 n).length ≤ 30 := PySem.toDigits_len_pow (by decide) (by decide) hn
        have hd : s.cps.toList.all isFig = true := by
          simp only [plainL, Bool.and_eq_true] at hp
          exact hp.1.2
        have hdig : PySem.NumText.AllDigits s.cps.toList := fun c hc => by
          have := List.all_eq_true.mp hd c hc
          simpa [isFig] using this
        have hne : s.cps.toList ≠ [] := by
          intro e
          rw [e] at hp
          cases hp
        have hsl : s.length = s.cps.toList.length := TL.len_tl s
        refine q_lenS (by rw [hlen]; exact Nat.le_of_lt (small1000 (by omega))) ?_
        walk_at "zz"
        rw [hlen]
        -- a text with more figures writes more
        have hlead : s.cps.toList.length = 1 ∨ ∃ c r, s.cps.toList = c :: r ∧ 49 ≤ c := by
          cases e : s.cps.toList with
          | nil => exact absurd e hne
          | cons c r =>
            rw [e] at hp
            simp only [plainL, Bool.and_eq_true, Bool.or_eq_true, decide_eq_true_eq, Bool.not_eq_true', decide_eq_false_iff_not] at hp
            rcases hp.2 with z | z
            · left; rw [z]; rfl
            · right
              refine ⟨c, r, rfl, ?_⟩
              have := hdig c (by rw [e]; exact List.mem_cons_self)
              have : c ≠ 48 := fun h => z (by rw [h]; rfl)
              omega
        have hback : Nat.toDigits 10 (val s.cps.toList) = s.cps.toList.map Char.ofNat := by
          refine PySem.NumText.toDigits_digitsVal (s.cps.toList.length - 1) s.cps.toList ?_ hdig ?_
          · have : s.cps.toList.length ≠ 0 := fun h => hne (List.eq_nil_of_length_eq_zero h)
            omega
          · rcases hlead with z | z
            · left; omega
            · right; exact z
        have hmore : (Nat.toDigits 10 n).length < s.cps.toList.length → n < val s.cps.toList := by
          intro hlt
          by_cases hle : n < val s.cps.toList
          · exact hle
          · exfalso
            have h10 : n < 10 ^ (Nat.toDigits 10 n).length := by
              have := val_lt ((Nat.toDigits 10 n).map Char.toNat) (by rw [← htl]; exact figs_num n)
              rw [val_num, List.length_map] at this
              exact this
            have h1pos : 1 ≤ (Nat.toDigits 10 n).length := PySem.toDigits_len_ge 10 n
            have := PySem.toDigits_len_pow (b := 10) (by decide) h1pos (show val s.cps.toList < 10 ^ (Nat.toDigits 10 n).length by omega)
            rw [hback, List.length_map] at this
            omega
        refine iteD (fun hlt => ?_) (fun hlt => ?_)
        · walk_at "zz"
          have := hmore (by omega)
          rw [show readV (.str s) lo (n : Int) = .non by
            unfold readV
            exact if_neg (by omega)] at q
          exact q
        · walk_at "zz"
          refine ⟨s, (val s.cps.toList : Int), rfl, PySem.intText_digits hdig hne (by omega), by omega, ?_⟩
          walk_at "zz"
          refine iteD (fun g1 => ?_) (fun g1 => ?_)
          · walk_at "zz"
            refine iteD (fun g2 => ?_) (fun g2 => ?_)
            · walk_at "zz"
              rw [show readV (.str s) lo (n : Int) = .int (val s.cps.toList : Int) by
                unfold readV
                exact if_pos ⟨hp, g1, g2⟩] at q
              exact q
            · walk_at "zz"
              rw [show readV (.str s) lo (n : Int) = .non by
                unfold readV
                exact if_neg (by omega)] at q
              exact q
          · walk_at "zz"
            rw [show readV (.str s) lo (n : Int) = .non by
              unfold readV
              exact if_neg (by omega)] at q
            exact q
    | _ => walk_at "zz"; exact k H Ex.rfl
abbrev s__law_drawn_line : Stmt := topS 27
theorem sc__law_drawn_line : FnScope ["box", "forms", "word", "found", "sign", "figures", "number", "some"] ["box"] (defScope s__law_drawn_line) := ⟨rfl, rfl, rfl, by decide +kernel, rfl, by decide +kernel, by decide +kernel⟩
def sp__law_drawn_line (K : PySem.W.Frag) : Sp := fun vs H Q _ => ∃ (b : Addr) (n : Nat), vs = [.ref b] ∧ BoxAt H b n ∧ n + 200 ≤ 100000 ∧ ∀ z H', Tn 300 z → BoxAt H' b (n + 200) → Fb b H H' → Q (.str z) H'
theorem kn__law_drawn_line (F : Df K mg "_law_drawn_line" s__law_drawn_line ["box"])
    (m_str : mg "str" = none)
    (m_sorted : mg "sorted" = none)
    (m_len : mg "len" = none)
    (k__law_word : Kn P w K mg base 2 "_law_word" (sp__law_word K))
    (k__law_take : Kn P w K mg base 1 "_law_take" (sp__law_take K))
    (k__law_forms : Kn P w K mg base 1 "_law_forms" (sp__law_forms K)) : Kn P w K mg base 3 "_law_drawn_line" (sp__law_drawn_line K) := by
  refine kn_of F sc__law_drawn_line (fun vs H Q E h => ?_) (fun f cdv A outer s H vs Q E hr h => ?_)
  · obtain ⟨b, n, rfl, _⟩ := h
    rfl
  · obtain ⟨b, n, rfl, hB, hn, k⟩ := h
    refine ⟨_, (pss_cons (ps_set (i := 1) sc__law_drawn_line.nd rfl (Or.inl rfl) (Z.pe_kn0 k__law_forms hr (by decide) (by rfl)))
      (pss_cons (ps_set (i := 2) sc__law_drawn_line.nd rfl (Or.inl rfl) (pe_ix (Z.ix_A K rfl) (pe_callB (call_sortedD rfl) (by rfl) m_sorted (by decide +kernel) (pa_cons (pv 1) pa_nil)) (Z.pe_kn k__law_take hr (by decide) (by rfl) (pa_cons (pv 0) (pa_cons (pe_callB call_lenD (by rfl) m_len (by decide +kernel) (pa_cons (pv 1) pa_nil)) pa_nil))) (fun _ _ => rfl)))
      (pss_cons (ps_set (i := 3) sc__law_drawn_line.nd rfl (Or.inl rfl) (pe_lst (pa_cons (pv 2) pa_nil)))
      (pss_cons (ps_for PassesOwn.never rfl (pi_str (pe_dget (Nat.lt_of_le_of_lt (Nat.add_le_add_left (by decide : 1 ≤ 64) _) hr.units) (pv 1) (pv 2) (fun _ _ => rfl))) (pg_name (i := 4) sc__law_drawn_line.nd rfl (Or.inl rfl)) (pss_cons (ps_set (i := 5) sc__law_drawn_line.nd rfl (Or.inl rfl) (pe_op Z.op_addA (pe_callTy Z.call_strA (by rfl) m_str (by decide +kernel) (pa_cons (pe_op Z.op_addA pe_int (Z.pe_kn k__law_take hr (by decide) (by rfl) (pa_cons (pv 0) (pa_cons pe_int pa_nil)))) pa_nil)) (pe_op op_repG (pe_callTy Z.call_strA (by rfl) m_str (by decide +kernel) (pa_cons (Z.pe_kn k__law_take hr (by decide) (by rfl) (pa_cons (pv 0) (pa_cons (pe_op op_pow pe_int pe_int) pa_nil))) pa_nil)) pe_int)))
      (pss_cons (ps_set (i := 6) sc__law_drawn_line.nd rfl (Or.inl rfl) (pe_ix (Z.ix_A K rfl) (pe_lst (pa_cons pe_str (pa_cons (pe_callTy Z.call_strA (by rfl) m_str (by decide +kernel) (pa_cons (Z.pe_kn k__law_take hr (by decide) (by rfl) (pa_cons (pv 0) (pa_cons pe_int pa_nil))) pa_nil)) (pa_cons (pe_slice (Z.sl_B K rfl) (pv 5) po_none (po_some pe_int)) (pa_cons (pe_slice (Z.sl_B K rfl) (pv 5) po_none (po_some (pe_op Z.op_addA pe_int (Z.pe_kn k__law_take hr (by decide) (by rfl) (pa_cons (pv 0) (pa_cons pe_int pa_nil)))))) pa_nil))))) (Z.pe_kn k__law_take hr (by decide) (by rfl) (pa_cons (pv 0) (pa_cons pe_int pa_nil))) (fun _ _ => rfl)))
      (pss_cons (ps_set (i := 7) sc__law_drawn_line.nd rfl (Or.inl rfl) (pe_disp (pps_cons pe_str (pv 6) (pps_cons pe_str (Z.pe_kn k__law_word hr (by decide) (by rfl) (pa_cons (pv 0) pa_nil)) (pps_cons pe_str (pe_ix (Z.ix_A K rfl) (pe_lst (pa_cons pe_str (pa_cons (Z.pe_kn k__law_word hr (by decide) (by rfl) (pa_cons (pv 0) pa_nil)) pa_nil))) (Z.pe_kn k__law_take hr (by decide) (by rfl) (pa_cons (pv 0) (pa_cons pe_int pa_nil))) (fun _ _ => rfl)) pps_nil))) (by rfl) (by rfl) (fun z => by cases z) (by decide)))
      (pss_one (ps_expr (pe_bm PySem.F.plainAttrs_list PySem.F.slot_list_append PySem.F.type_list_append mt_append (pv 3) (pa_cons (pe_dget (Nat.lt_of_le_of_lt (Nat.add_le_add_left (by decide : 1 ≤ 64) _) hr.units) (pv 7) (pv 4) (fun _ _ => rfl)) pa_nil))))))))
      (pss_one (ps_ret (Z.pe_joinB K rfl pe_str (pv 3)))))))), ?_⟩
    walk_at "zz"
    refine ⟨rfl, fun pF H1 n1 h1 e1 => ?_⟩
    have B1 := hB.ex e1
    have bF : pF ≠ b := hB.ne n1
    walk_at "zz"
    refine ⟨pF, _, lawTb.map (·.1), rfl, .inl h1, by unfold kvS; rw [List.map_map, List.map_map]; rfl, by rw [List.length_map, law_len]; decide, fun ys pS perm _ nS => ?_⟩
    have e2 : Ex H1 (upd H1 pS (.lst (ys.map V.str))) := Ex.new nS
    have h2 := upd_same (H := H1) (a := pS) (o := .lst (ys.map V.str))
    generalize upd H1 pS (.lst (ys.map V.str)) = H2 at e2 h2 ⊢
    have hF2 := e2 _ _ h1
    have B2 := B1.ex e2
    have bS : pS ≠ b := B1.ne nS
    walk_at "zz"
    refine ⟨pF, _, rfl, hF2, ?_⟩
    have kl : (kvS lawTb).length = 36 := by unfold kvS; rw [List.length_map, law_len]
    have yl : ys.length = 36 := by rw [perm.length_eq, List.length_map, law_len]
    walk_at "zz"
    rw [kl]
    refine ⟨b, _, _, rfl, B2, by omega, by omega, by omega, fun d3 H3 g3 l3 B3 f3 => ?_⟩
    refine q_ixM (SqL.of (f3.get h2 bS)) g3 (by rw [List.length_map, yl]; exact l3) fun v m => ?_
    obtain ⟨w0, hw0, rfl⟩ := List.mem_map.mp m
    obtain ⟨ks, tw0⟩ := law_key w0 (perm.mem_iff.mp hw0)
    obtain ⟨f, gf⟩ := Option.isSome_iff_exists.mp ks
    obtain ⟨fl, fc⟩ := law_sign gf
    walk_at "zz"
    refine q_newL fun pT H4 n4 h4 e4 => ?_
    have B4 := B3.ex e4
    have bT : pT ≠ b := B3.ne n4
    have f14 : Fb b H H4 := (Fb.ex (e1.tr e2)).tr (f3.tr (Fb.ex e4))
    have hF4 : H4 pF = some (.dK (kvS lawTb)) := e4 _ _ (f3.get hF2 bF)
    have nTF : pF ≠ pT := fun z => by rw [← z, f3.get hF2 bF] at n4; cases n4
    have nTH : H pT = none := ((Fb.ex (e1.tr e2)).tr f3).free bT n4
    walk_at "zz"
    refine q_dget0 ?_
    walk_at "zz"
    refine ⟨pF, _, rfl, (by have := dget_S (z := w0) hF4; rw [gf] at this; exact this), ?_⟩
    refine q_strFor (fun i σ' H' => (∃ v1 v2 v3 v4, σ' = [some (.ref b), some (.ref pF), some (.str w0), some (.ref pT), v1, v2, v3, v4]) ∧ BoxAt H' b (n + 5 + 30 * i) ∧ (∀ a o, H4 a = some o → a ≠ b → a ≠ pT → H' a = some o) ∧ ∃ L : List Str, H' pT = some (.lst (L.map V.str)) ∧ L.length = i + 1 ∧ wordsN L ≤ 11 + 39 * i ∧ ∀ w ∈ L, ∀ c ∈ w.cps.toList, c < 128) ⟨⟨_, _, _, _, rfl⟩, B4.mono (by omega), fun _ _ h _ _ => h, [w0], h4, rfl, by simp only [wordsN]; have := tw0.1; omega, fun w hw => by rw [List.mem_singleton.mp hw]; exact tw0.2⟩ ?_ ?_
    · rintro i c σ' H5 hc ⟨⟨v1, v2, v3, v4, rfl⟩, B5, u5, L, hL, ll, wl, cl⟩
      have cc := fc c (List.mem_of_getElem? hc)
      have hi : i < 6 := by
        have := (List.getElem?_eq_some_iff.mp hc).1
        rw [← TL.len_tl f] at this
        omega
      walk_at "zz"
      refine ⟨b, _, _, rfl, B5, by omega, by omega, by omega, fun d6 H6 g6 l6 B6 f6 => ?_⟩
      walk_at "zz"
      obtain ⟨D6, rfl⟩ := Int.eq_ofNat_of_zero_le g6
      rw [show (1 + (D6 : Int)) = ((1 + D6 : Nat) : Int) by omega]
      refine q_strT (k := 2) (by decide) (by omega) (by decide) fun s6 t6 _ => ?_
      walk_at "zz"
      first | (rename_i vz hz; subst hz) | skip
      refine ⟨b, _, _, rfl, B6, by omega, by decide, by decide, fun d7 H7 g7 l7 B7 f7 => ?_⟩
      obtain ⟨D7, rfl⟩ := Int.eq_ofNat_of_zero_le g7
      walk_at "zz"
      refine q_strT (k := 9) (by decide) (by have : (10 : Nat) ^ 9 = 1000000000 := by decide
                                             omega) (by decide) fun s7 t7 n7 => ?_
      walk_at "zz"
      refine q_rep4 t7 n7 (by decide) fun z7 tz7 => ?_
      refine q_addS (small_add (m := 2) (n := 36) t6.1 tz7.1 (by decide)) ?_
      have tf := t6.app tz7
      generalize s6 ++ z7 = fg at tf ⊢
      walk_at "zz"
      refine ⟨b, _, _, rfl, B7, by omega, by decide, by decide, fun d8 H8 g8 l8 B8 f8 => ?_⟩
      obtain ⟨D8, rfl⟩ := Int.eq_ofNat_of_zero_le g8
      walk_at "zz"
      refine q_strT (k := 3) (by decide) (by omega) (by decide) fun s8 t8 _ => ?_
      walk_at "zz"
      refine q_slS tf.sz ?_
      walk_at "zz"
      refine ⟨b, _, _, rfl, B8, by omega, by decide, by decide, fun d9 H9 g9 l9 B9 f9 => ?_⟩
      walk_at "zz"
      refine q_slS tf.sz ?_
      walk_at "zz"
      refine q_newL fun pa Ha na ha ea => ?_
      walk_at "zz"
      refine ⟨b, _, _, rfl, B9.ex ea, by omega, by decide, by decide, fun db Hb gb lb Bb fb => ?_⟩
      refine q_ixM (SqL.of (fb.get ha (B9.ne na))) gb lb fun v m => ?_
      obtain ⟨nu, rfl, tn⟩ : ∃ o : Str, v = .str o ∧ Tn 38 o := by
        simp only [List.mem_cons, List.not_mem_nil, or_false] at m
        rcases m with rfl | rfl | rfl | rfl
        · exact ⟨_, rfl, by decide +kernel, by decide +kernel⟩
        · exact ⟨_, rfl, t8.mono (by omega)⟩
        · exact ⟨_, rfl, tf.cut _ _⟩
        · exact ⟨_, rfl, tf.cut _ _⟩
      have f5b : Fb b H5 Hb := f6.tr (f7.tr (f8.tr (f9.tr ((Fb.ex ea).tr fb))))
      walk_at "zz"
      refine fun pd nd => ?_
      have ed : Ex Hb (upd Hb pd (.dK [])) := Ex.new nd
      have hd := upd_same (H := Hb) (a := pd) (o := .dK [])
      generalize upd Hb pd (.dK []) = Hd at ed hd ⊢
      have bd : pd ≠ b := Bb.ne nd
      refine q_tpc ?_
      walk_at "zz"
      refine q_tpc ?_
      walk_at "zz"
      refine ⟨b, _, rfl, Bb.ex ed, by omega, fun w1 He tw1 Be fe => ?_⟩
      refine q_tpc ?_
      walk_at "zz"
      refine ⟨b, _, rfl, Be, by omega, fun w2 Hf tw2 Bf ff => ?_⟩
      walk_at "zz"
      refine q_newL fun pg Hg ng hg eg => ?_
      walk_at "zz"
      refine ⟨b, _, _, rfl, Bf.ex eg, by omega, by decide, by decide, fun dh Hh gh lh Bh fh => ?_⟩
      refine q_ixM (SqL.of (fh.get hg (Bf.ne ng))) gh lh fun v m => ?_
      obtain ⟨oo, rfl, too⟩ : ∃ o : Str, v = .str o ∧ Tn 38 o := by
        simp only [List.mem_cons, List.not_mem_nil, or_false] at m
        rcases m with rfl | rfl
        · exact ⟨_, rfl, by decide +kernel, by decide +kernel⟩
        · exact ⟨_, rfl, tw2.mono (by omega)⟩
      refine q_tp0 ?_
      have fdh : Fb b Hd Hh := fe.tr (ff.tr ((Fb.ex eg).tr fh))
      refine ⟨fdh.get hd bd, now3 (.str nu) (.str w1) (.str oo), rfl, (by decide : 3 ≤ 15), ?_⟩
      rw [merge3]
      have hk := upd_same (H := Hh) (a := pd) (o := .dK (now3 (.str nu) (.str w1) (.str oo)))
      have fk : Fb pd Hh (upd Hh pd (.dK (now3 (.str nu) (.str w1) (.str oo)))) := Fb.put
      generalize upd Hh pd (.dK (now3 (.str nu) (.str w1) (.str oo))) = Hk at hk fk ⊢
      have f5h : ∀ a o, H5 a = some o → a ≠ b → Hk a = some o := fun a o h n => fk _ _ (fdh _ _ (ed _ _ (f5b _ _ h n)) n) (ne_of_none (f5b _ _ h n) nd)
      have hTk : Hk pT = some (.lst (L.map V.str)) := f5h _ _ hL bT
      walk_at "zz"
      refine ⟨.inl ⟨rfl, _, SqL.of hTk⟩, ?_⟩
      walk_at "zz"
      obtain ⟨v, hv, hv3⟩ := val3 (.str nu) (.str w1) (.str oo) cc
      obtain ⟨wx, rfl, twx⟩ : ∃ o : Str, v = .str o ∧ Tn 38 o := by
        rcases hv3 with rfl | rfl | rfl
        · exact ⟨_, rfl, tn⟩
        · exact ⟨_, rfl, tw1.mono (by omega)⟩
        · exact ⟨_, rfl, too⟩
      refine q_dget0 ?_
      walk_at "zz"
      refine ⟨pd, _, rfl, .inl ⟨_, Sum.inr ⟨#[c]⟩, .inl hk, rfl, hv.symm⟩, ?_⟩
      walk_at "zz"
      refine q_append hTk (by rw [List.length_map]; omega) fun Hm hm fm => ?_
      walk_at "zz"
      have u4 : ∀ a o, H4 a = some o → a ≠ b → a ≠ pT → Hm a = some o := fun a o h n n2 => fm _ _ (f5h _ _ (u5 a o h n n2) n) n2
      refine ⟨⟨_, _, _, _, rfl⟩, ?_, u4, L ++ [wx], by rw [hm, List.map_append]; rfl, by rw [List.length_append, ll]; rfl, by rw [wordsN_app]; have := twx.1; simp only [wordsN]; omega, fun w hw => ?_⟩
      · obtain ⟨x, y, z, hb, r⟩ := Bh
        exact BoxAt.mono ⟨x, y, z, fm _ _ (fk _ _ hb bd.symm) bT.symm, r⟩ (by omega)
      · rcases List.mem_append.mp hw with h | h
        · exact cl w h
        · rw [List.mem_singleton.mp h]; exact twx.2
    · rintro σ' H5 ⟨⟨v1, v2, v3, v4, rfl⟩, B5, u5, L, hL, ll, wl, cl⟩
      have fl' : f.cps.toList.length ≤ 6 := by rw [← TL.len_tl f]; exact fl
      walk_at "zz"
      refine q_joinW hL (n := 300) (by omega) (by decide) cl fun s ts => ?_
      exact k s H5 ts (B5.mono (by omega)) fun a o ha hab => u5 a o (f14 a o ha hab) hab (ne_of_none ha nTH)
abbrev s_thing_of : Stmt := topS 17
theorem sc_thing_of : FnScope ["kind", "word"] ["kind", "word"] (defScope s_thing_of) := ⟨rfl, rfl, rfl, by decide +kernel, rfl, by decide +kernel, by decide +kernel⟩
def kindL (k : Str) : Nat := if inV (.str k) tv_NUMBERS = true then 110 else if inV (.str k) tv_PERHAPS_NONE = true then 111 else 119
def sp_thing_of (K : PySem.W.Frag) : Sp := fun vs H Q _ => ∃ (k s : Str), vs = [.str k, .str s] ∧ Tn 1000 s ∧ ∀ H', Ex H H' → Q (thingV (kindL k) s) H'
theorem kn_thing_of (F : Df K mg "thing_of" s_thing_of ["kind", "word"])
    (c_NO_WORD : ∃ u, mg "NO_WORD" = some u ∧ RelV (V.str ("-" : Str)) u)
    (c_PERHAPS_NONE : ∃ u, mg "PERHAPS_NONE" = some u ∧ RelV (V.ref q_PERHAPS_NONE) u) (t_PERHAPS_NONE : TupK K q_PERHAPS_NONE tv_PERHAPS_NONE)
    (c_NUMBERS : ∃ u, mg "NUMBERS" = some u ∧ RelV (V.ref q_NUMBERS) u) (t_NUMBERS : TupK K q_NUMBERS tv_NUMBERS)
    (c_GREATEST_NUMBER : ∃ u, mg "GREATEST_NUMBER" = some u ∧ RelV (V.int 999999999999999999999999999999) u)
    (k_whole_in : Kn P w K mg base 3 "whole_in" (sp_whole_in K)) : Kn P w K mg base 4 "thing_of" (sp_thing_of K) := by
  refine kn_of F sc_thing_of (fun vs H Q E h => ?_) (fun f cdv A outer s H vs Q E hr h => ?_)
  · obtain ⟨k, s, rfl, _⟩ := h
    rfl
  · obtain ⟨k, s, rfl, hs, q⟩ := h
    refine ⟨_, (pss_cons (ps_if (pt_cmpR (Z.op_in_seqB K rfl) (pv 0) (C8.pe_gc (by rfl) c_NUMBERS) (by rfl)) (pss_one (ps_ret (Z.pe_kn k_whole_in hr (by decide) (by rfl) (pa_cons (pv 1) (pa_cons pe_int (pa_cons (C8.pe_gc (by rfl) c_GREATEST_NUMBER) pa_nil)))))) pss_nil)
      (pss_cons (ps_if (PW.pt (pw_and (pt_cmpR (Z.op_in_seqB K rfl) (pv 0) (C8.pe_gc (by rfl) c_PERHAPS_NONE) (by rfl)) (pw_and1 (pt_cmpR (Z.op_eqB K rfl hr.units) (pv 1) (C8.pe_gc (by rfl) c_NO_WORD) (nomark _))))) (pss_one (ps_ret pe_non)) pss_nil)
      (pss_one (ps_ret (pv 1))))), ?_⟩
    walk_at "zz"
    refine q_inTup t_NUMBERS rfl (by decide +kernel) ?_
    cases g : inV (.str k) tv_NUMBERS with
    | true =>
      have e : kindL k = 110 := by unfold kindL; rw [if_pos g]
      rw [e] at q
      walk_at "zz"
      exact ⟨.str s, 0, _, rfl, .str s hs, by decide, by decide, fun H1 e1 => q H1 e1⟩
    | false =>
      walk_at "zz"
      refine q_inTup t_PERHAPS_NONE rfl (by decide +kernel) ?_
      cases g2 : inV (.str k) tv_PERHAPS_NONE with
      | false =>
        have e : kindL k = 119 := by unfold kindL; rw [if_neg (by rw [g]; decide), if_neg (by rw [g2]; decide)]
        rw [e] at q
        walk_at "zz"
        exact q H Ex.rfl
      | true =>
        have e : kindL k = 111 := by unfold kindL; rw [if_neg (by rw [g]; decide), if_pos g2]
        rw [e] at q
        walk_at "zz"
        refine iteD (fun h => ?_) (fun h => ?_)
        · rw [show thingV 111 s = .non by unfold thingV; rw [if_neg (by decide), if_pos ⟨rfl, h⟩]] at q
          walk_at "zz"
          exact q H Ex.rfl
        · rw [show thingV 111 s = .str s by unfold thingV; rw [if_neg (by decide), if_neg (fun z => h z.2)]] at q
          walk_at "zz"
          exact q H Ex.rfl
abbrev s_things_in : Stmt := topS 16
theorem sc_things_in : FnScope ["line", "words", "kinds", "things", "kind", "word", "thing"] ["line"] (defScope s_things_in) := ⟨rfl, rfl, rfl, by decide +kernel, rfl, by decide +kernel, by decide +kernel⟩
def tabB : List (Str × Str) → List (Str × Str) → Bool
  | [], [] => true
  | (a, t) :: r, (b, f) :: q => decide (a = b) && (decide ((Txt.words t).map kindL = f.cps.toList) && (decide (t.length ≤ 100) && (decide ((Txt.words t).length ≤ 6) && tabB r q)))
  | _, _ => false
theorem tab_look (z : Str) : ∀ {A B : List (Str × Str)}, tabB A B = true → (lookT A z = none → lookT B z = none) ∧ ∀ t, lookT A z = some t → ∃ f, lookT B z = some f ∧ (Txt.words t).map kindL = f.cps.toList ∧ t.length ≤ 100 ∧ (Txt.words t).length ≤ 6
  | [], [], _ => ⟨fun _ => rfl, fun _ h => by cases h⟩
  | (a, t) :: r, (b, f) :: q, h => by
    simp only [tabB, Bool.and_eq_true, decide_eq_true_eq] at h
    obtain ⟨rfl, h2, h3, h4, h5⟩ := h
    unfold lookT
    by_cases c : a = z
    · rw [if_pos c, if_pos c]
      exact ⟨(fun y => by cases y), (fun t' e => by cases e; exact ⟨f, rfl, h2, h3, h4⟩)⟩
    · rw [if_neg c, if_neg c]
      exact tab_look z h5
  | [], _ :: _, h => by cases h
  | _ :: _, [], h => by cases h
theorem tabs_ok : tabB tb_FORMS lawTb = true := by decide +kernel
def sp_things_in (K : PySem.W.Frag) : Sp := fun vs H Q _ => ∃ (s : Str), vs = [.str s] ∧ Tn 400 s ∧ (lineOf s = none → ∀ H', Ex H H' → Q .non H') ∧ (∀ xs, lineOf s = some xs → ∀ p H', H p = none → H' p = some (.tup xs) → Ex H H' → Q (.ref p) H')
theorem kn_things_in (F : Df K mg "things_in" s_things_in ["line"])
    (m_tuple : mg "tuple" = none)
    (m_zip : mg "zip" = none)
    (m_len : mg "len" = none)
    (c_NUMBERS : ∃ u, mg "NUMBERS" = some u ∧ RelV (V.ref q_NUMBERS) u) (t_NUMBERS : TupK K q_NUMBERS tv_NUMBERS)
    (c_FORMS : ∃ u, mg "FORMS" = some u ∧ RelV (V.ref q_FORMS) u) (t_FORMS : TabK K w q_FORMS tb_FORMS)
    (k_thing_of : Kn P w K mg base 4 "thing_of" (sp_thing_of K)) : Kn P w K mg base 5 "things_in" (sp_things_in K) := by
  refine kn_of F sc_things_in (fun vs H Q E h => ?_) (fun f cdv A outer s H vs Q E hr h => ?_)
  · obtain ⟨s, rfl, _⟩ := h
    rfl
  · obtain ⟨s, rfl, hs, k0, k1⟩ := h
    refine ⟨_, (pss_cons (ps_set (i := 1) sc_things_in.nd rfl (Or.inl rfl) (Z.pe_splitA (pv 0) pe_str))
      (pss_cons (ps_if (PW.pt (pw_or (pt_cmpR (Z.op_notInT K w rfl rfl t_FORMS) (pe_ix (Z.ix_A K rfl) (pv 1) pe_int (fun _ _ => rfl)) (C8.pe_gc (by rfl) c_FORMS) (by rfl)) (pw_or1 (pt_cmpR (Z.op_in_seqB K rfl) pe_str (pv 1) (by rfl))))) (pss_one (ps_ret pe_non)) pss_nil)
      (pss_cons (ps_set (i := 2) sc_things_in.nd rfl (Or.inl rfl) (pe_words (pe_ix (Z.ix_T K w rfl rfl t_FORMS) (C8.pe_gc (by rfl) c_FORMS) (pe_ix (Z.ix_A K rfl) (pv 1) pe_int (fun _ _ => rfl)) (fun _ _ => rfl))))
      (pss_cons (ps_if (pt_cmpR (Z.op_neB K rfl hr.units) (pe_callB (Z.call_lenB K rfl) (by rfl) m_len (by decide +kernel) (pa_cons (pv 1) pa_nil)) (pe_op Z.op_addA (pe_callB (Z.call_lenB K rfl) (by rfl) m_len (by decide +kernel) (pa_cons (pv 2) pa_nil)) pe_int) (nomark _)) (pss_one (ps_ret pe_non)) pss_nil)
      (pss_cons (ps_set (i := 3) sc_things_in.nd rfl (Or.inl rfl) (pe_lst (pa_cons (pe_ix (Z.ix_A K rfl) (pv 1) pe_int (fun _ _ => rfl)) pa_nil)))
      (pss_cons (ps_for PassesOwn.never rfl (pi_zip (by rfl) m_zip (pa_cons (pv 2) (pa_cons (pe_slice (Z.sl_B K rfl) (pv 1) (po_some pe_int) po_none) pa_nil))) (pg_tup rfl (pgs_cons (pg_name (i := 4) sc_things_in.nd rfl (Or.inl rfl)) (pgs_cons (pg_name (i := 5) sc_things_in.nd rfl (Or.inl rfl)) pgs_nil))) (pss_cons (ps_set (i := 6) sc_things_in.nd rfl (Or.inl rfl) (Z.pe_kn k_thing_of hr (by decide) (by rfl) (pa_cons (pv 4) (pa_cons (pv 5) pa_nil))))
      (pss_cons (ps_if (PW.pt (pw_and (pt_cmpR op_isN (pv 6) pe_non (nomark _)) (pw_and1 (pt_cmpR (Z.op_in_seqB K rfl) (pv 4) (C8.pe_gc (by rfl) c_NUMBERS) (by rfl))))) (pss_one (ps_ret pe_non)) pss_nil)
      (pss_one (ps_expr (pe_bm PySem.F.plainAttrs_list PySem.F.slot_list_append PySem.F.type_list_append mt_append (pv 3) (pa_cons (pv 6) pa_nil)))))))
      (pss_one (ps_ret (pe_callTy (Z.call_tupleB K rfl) (by rfl) m_tuple (by decide +kernel) (pa_cons (pv 3) pa_nil)))))))))), ?_⟩
    walk_at "zz"
    refine q_splitB hs rfl fun pW H1 n1 h1 e1 => ?_
    obtain ⟨w0, ws, hw⟩ : ∃ w0 ws, Txt.split s SPC = w0 :: ws := by
      cases e : Txt.split s SPC with
      | nil => exact absurd e (split_ne _ _)
      | cons a b => exact ⟨a, b, rfl⟩
    have hl : (Txt.split s SPC).length ≤ 402 := split_size (c := 32) hs
    have ht : ∀ w ∈ ws, Tn 400 w := fun w m => hs.split (c := 32) (show w ∈ Txt.split s SPC by rw [hw]; exact List.mem_cons_of_mem _ m)
    rw [hw] at h1 hl
    have hl' : ws.length ≤ 401 := by rw [List.length_cons] at hl; omega
    unfold lineOf at k0 k1
    rw [hw] at k0 k1
    simp only at k0 k1
    have hfl : (List.map V.str (w0 :: ws)).all flatV = true := List.all_eq_true.mpr fun v m => by
      obtain ⟨w, _, rfl⟩ := List.mem_map.mp m
      rfl
    walk_at "zz"
    refine q_ixL (SqL.of h1) (v := .str w0) at_hd ?_
    walk_at "zz"
    refine ⟨rfl, _, rfl, ?_⟩
    have tk := tab_look w0 tabs_ok
    cases g : lookT tb_FORMS w0 with
    | none =>
      rw [tk.1 g] at k0
      walk_at "zz"
      exact k0 rfl H1 e1
    | some t =>
      obtain ⟨f, gf, wk, tl, wl⟩ := tk.2 t g
      rw [gf] at k0 k1
      simp only at k0 k1
      walk_at "zz"
      refine q_inLst (x := .str "") h1 rfl hfl ?_
      cases g2 : inV (.str "") ((w0 :: ws).map V.str) with
      | true =>
        walk_at "zz"
        exact k0 (if_neg fun z => by rw [g2] at z; cases z.1) H1 e1
      | false =>
        walk_at "zz"
        refine q_ixL (SqL.of h1) (v := .str w0) at_hd ?_
        walk_at "zz"
        refine ⟨w0, t, rfl, rfl, g, ?_⟩
        walk_at "zz"
        refine q_words tl fun pK H2 n2 h2 e2 => ?_
        have h1' := e2 _ _ h1
        have e12 := e1.tr e2
        have fs : f.cps.size = (Txt.words t).length := by rw [← Array.length_toList, ← wk, List.length_map]
        walk_at "zz"
        refine q_lenL (SqL.of h1') ?_
        walk_at "zz"
        refine q_lenL (SqL.of h2) ?_
        walk_at "zz"
        rw [List.length_map, List.length_map, List.length_cons]
        refine iteND (fun h4 => ?_) (fun h4 => ?_)
        · walk_at "zz"
          exact k0 (if_neg fun z => h4 (by have := z.2.1; omega)) H2 e12
        · have hn : ws.length = (Txt.words t).length := by omega
          walk_at "zz"
          refine q_ixL (SqL.of h1') (v := .str w0) at_hd ?_
          walk_at "zz"
          refine q_newL fun pT H3 n3 h3 e3 => ?_
          walk_at "zz"
          refine q_slL (SqL.of (e3 _ _ h1')) fun pC H4 n4 h4' e4 => ?_
          rw [show cutV (List.map V.str (w0 :: ws)) (some 1) none = List.map V.str ws from cut_tail _ _] at h4'
          have neC : pC ≠ pT := fun z => by rw [z, h3] at n4; cases n4
          have neK : pK ≠ pT := fun z => by rw [← z, h2] at n3; cases n3
          have h4T := e4 _ _ h3
          have h4K := e4 _ _ (e3 _ _ h2)
          have fin : ∀ {Hx : Hp}, Fb pT H4 Hx → Ex H Hx := fun fx => Fb.mut (e12.tr (e3.tr e4)) (e12.free n3) (by
            exact fun a o ha hne => fx a o ha hne)
          walk_at "zz"
          have hlist : ∀ i, ((f.cps.toList.zip ws).take (i)).length ≤ 6 := fun i => by
            rw [List.length_take, List.length_zip]
            have : f.cps.toList.length = f.cps.size := Array.length_toList
            omega
          refine q_zipFor (SqL.of h4K) (SqL.of h4') (fun i σ' H' => (∃ v1 v2 v3, σ' = [some (.str s), some (.ref pW), some (.ref pK), some (.ref pT), v1, v2, v3]) ∧ Fb pT H4 H' ∧ H' pT = some (.lst (.str w0 :: ((f.cps.toList.zip ws).take i).map fun p => thingV p.1 p.2)) ∧ ((f.cps.toList.zip ws).take i).all (fun p => okT p.1 p.2) = true) ⟨⟨_, _, _, rfl⟩, Fb.rfl, h4T, rfl⟩ (fun i σ' H' p => ⟨SqL.of (p.2.1 _ _ h4K neK), SqL.of (p.2.1 _ _ h4' neC)⟩) ?_ ?_
          · rintro i x y T σ' H5 H6 hx hy ⟨⟨v1, v2, v3, rfl⟩, f5, h5, ok5⟩ nT hT e56
            rw [List.getElem?_map] at hx hy
            obtain ⟨k, hk, rfl⟩ := Option.map_eq_some_iff.mp hx
            obtain ⟨w, hwi, rfl⟩ := Option.map_eq_some_iff.mp hy
            have hc : f.cps.toList[i]? = some (kindL k) := by rw [← wk, List.getElem?_map, hk]; rfl
            have zs := zip_step hc hwi
            have tw := ht w (List.mem_of_getElem? hwi)
            refine q_gTup (SqT.of hT) rfl ?_
            walk_at "zz"
            refine ⟨k, w, rfl, tw.mono (by decide), fun H7 e7 => ?_⟩
            have e57 := e56.tr e7
            have add : okT (kindL k) w = true → ∀ H8, H8 pT = some (.lst ((.str w0 :: ((f.cps.toList.zip ws).take i).map fun p => thingV p.1 p.2) ++ [thingV (kindL k) w])) → Fb pT H7 H8 → Fb pT H4 H8 ∧ H8 pT = some (.lst (.str w0 :: ((f.cps.toList.zip ws).take (i + 1)).map fun p => thingV p.1 p.2)) ∧ ((f.cps.toList.zip ws).take (i + 1)).all (fun p => okT p.1 p.2) = true := fun o H8 h8 f8 => by
              refine ⟨f5.tr ((Fb.ex e57).tr f8), ?_, ?_⟩
              · rw [h8, zs, List.map_append]; rfl
              · rw [zs, List.all_append, ok5]
                show (okT (kindL k) w && true) = true
                rw [o]; rfl
            have bad : okT (kindL k) w = false → Q .non H7 := fun o => by
              refine k0 (if_neg fun z => ?_) H7 (fin (f5.tr (Fb.ex e57)))
              have := all_take (f := fun p : Nat × Str => okT p.1 p.2) (L := f.cps.toList.zip ws) (i + 1) (by rw [zs, List.all_append, ok5]; show (okT (kindL k) w && true) = false; rw [o]; rfl)
              rw [this] at z
              cases z.2.2
            have sz : ∀ {L : List (Nat × Str)}, L.length ≤ 6 → (V.str w0 :: L.map fun p => thingV p.1 p.2).length < 1000 := fun h => by rw [List.length_cons, List.length_map]; omega
            walk_at "zz"
            by_cases c : kindL k = 110
            · have gk : inV (.str k) tv_NUMBERS = true := by
                cases gg : inV (.str k) tv_NUMBERS with
                | true => rfl
                | false =>
                  exfalso
                  unfold kindL at c
                  rw [if_neg (by rw [gg]; decide)] at c
                  split at c <;> cases c
              rw [c] at add bad ⊢
              rw [okT_n] at add bad
              have tv : thingV 110 w = readV (.str w) 0 999999999999999999999999999999 := by unfold thingV; rw [if_pos rfl]
              rw [tv] at add ⊢
              rcases readV_is w 999999999999999999999999999999 with z | ⟨m, z, _⟩
              · rw [z] at bad ⊢
                refine ⟨rfl, ?_⟩
                walk_at "zz"
                refine q_inTup t_NUMBERS rfl (by decide +kernel) ?_
                rw [gk]
                walk_at "zz"
                exact bad (by decide)
              · rw [z] at add ⊢
                refine ⟨rfl, ?_⟩
                walk_at "zz"
                refine ⟨.inl ⟨rfl, _, SqL.of (e57 _ _ h5)⟩, ?_⟩
                walk_at "zz"
                refine q_append (e57 _ _ h5) (sz (hlist i)) fun H8 h8 f8 => ?_
                walk_at "zz"
                exact ⟨⟨_, _, _, rfl⟩, add (by simp) H8 h8 f8⟩
            · have gk : inV (.str k) tv_NUMBERS = false := by
                cases gg : inV (.str k) tv_NUMBERS with
                | false => rfl
                | true => exact absurd (show kindL k = 110 by unfold kindL; rw [if_pos gg]) c
              have ok := okT_o c w
              rcases thing_nn (w := w) c with z | z
              · rw [z] at add ⊢
                refine ⟨rfl, ?_⟩
                walk_at "zz"
                refine q_inTup t_NUMBERS rfl (by decide +kernel) ?_
                rw [gk]
                walk_at "zz"
                refine ⟨.inl ⟨rfl, _, SqL.of (e57 _ _ h5)⟩, ?_⟩
                walk_at "zz"
                refine q_append (e57 _ _ h5) (sz (hlist i)) fun H8 h8 f8 => ?_
                walk_at "zz"
                exact ⟨⟨_, _, _, rfl⟩, add ok H8 h8 f8⟩
              · rw [z] at add ⊢
                refine ⟨rfl, ?_⟩
                walk_at "zz"
                refine ⟨.inl ⟨rfl, _, SqL.of (e57 _ _ h5)⟩, ?_⟩
                walk_at "zz"
                refine q_append (e57 _ _ h5) (sz (hlist i)) fun H8 h8 f8 => ?_
                walk_at "zz"
                exact ⟨⟨_, _, _, rfl⟩, add ok H8 h8 f8⟩
          · rintro σ' H5 ⟨⟨v1, v2, v3, rfl⟩, f5, h5, ok5⟩
            rw [List.length_map, List.length_map] at h5 ok5
            rw [List.take_of_length_le (by rw [List.length_zip]; have : f.cps.toList.length = f.cps.size := Array.length_toList; omega)] at h5 ok5
            walk_at "zz"
            refine q_tupOf (SqL.of h5) fun p H6 n6 h6 e6 => ?_
            walk_at "zz"
            exact k1 _ (if_pos ⟨g2, by omega, ok5⟩) p H6 ((fin f5).free n6) h6 ((fin f5).tr e6)
abbrev s_read_line : Stmt := topS 15
theorem sc_read_line : FnScope ["line", "told", "sign"] ["line"] (defScope s_read_line) := ⟨rfl, rfl, rfl, by decide +kernel, rfl, by decide +kernel, by decide +kernel⟩
def sp_read_line (K : PySem.W.Frag) (c_NoLine : Addr) : Sp := fun vs H Q E => ∃ (v : V), vs = [v] ∧ Thing K H v ∧ (∀ s, v = .str s → Tn 900 s) ∧ (lineV v = none → Lets c_NoLine v H E) ∧ (∀ xs, lineV v = some xs → ∀ p H', H p = none → H' p = some (.tup xs) → Ex H H' → Q (.ref p) H')
theorem kn_read_line (F : Df K mg "read_line" s_read_line ["line"])
    (m_all : mg "all" = none)
    (m_len : mg "len" = none)
    (m_isinstance : mg "isinstance" = none)
    (m_str : mg "str" = none)
    (c_MOST_SIGNS : ∃ u, mg "MOST_SIGNS" = some u ∧ RelV (V.int 400) u)
    (e_NoLine : Ke P w K mg base 2 "NoLine" c_NoLine (spFound K)) (nf_NoLine : PySem.W.findIn K (.ref c_NoLine) "found" = some none)
    (k_things_in : Kn P w K mg base 5 "things_in" (sp_things_in K)) : Kg (L2.CX P w) P w K mg base 6 "read_line" (sp_read_line K c_NoLine) := by
  refine kg_of F sc_read_line (fun vs H Q E h => ?_) (fun f cdv A outer s H vs Q E hr h => ?_)
  · obtain ⟨v, rfl, _⟩ := h
    rfl
  · obtain ⟨v, rfl, hv, hs, k0, k1⟩ := h
    refine ⟨_, (pss_cons (ps_if (PW.pt (pw_or (pt_not (pt_val (pe_callB (Z.call_isiB K rfl) (by rfl) m_isinstance (by decide +kernel) (pa_cons (pv 0) (pa_cons (pe_bltn (v := .ty "str") (by rfl) m_str (by decide +kernel) rfl) pa_nil))))) (pw_or (pt_cmpR op_gt (pe_callB (Z.call_lenB K rfl) (by rfl) m_len (by decide +kernel) (pa_cons (pv 0) pa_nil)) (C8.pe_gc (by rfl) c_MOST_SIGNS) (nomark _)) (pw_or1 (pt_not (pt_val (pe_callB (cr_all rfl) (by rfl) m_all (by decide +kernel) (pa_cons (pe_lc (own := [("sign", 2)]) (g := gName 2) (by rfl) sc_read_line.nd (pi_str (pv 0)) (blkOk_by (own := [("sign", 2)]) (N := ["line", "told", "sign"]) (sc := defScope s_read_line) (by decide +kernel)) (fun _ _ _ _ _ => pg_name (i := 2) sc_read_line.nd rfl (Or.inl rfl)) (fun _ _ _ _ _ => pts_nil) (fun _ _ _ _ _ => (pe_chain op_le_str op_le_str pe_str (pv 2) pe_str))) pa_nil)))))))) (pss_one (Z.ps_raiseA rfl (takes_of rfl rfl rfl rfl) (Z.pmk_e e_NoLine hr.room (by decide) (by rfl) (pa_cons (pv 0) pa_nil)))) pss_nil)
      (pss_cons (ps_set (i := 1) sc_read_line.nd rfl (Or.inl rfl) (Z.pe_kn k_things_in hr.room (by decide) (by rfl) (pa_cons (pv 0) pa_nil)))
      (pss_cons (ps_if (pt_cmpR op_isN (pv 1) pe_non (nomark _)) (pss_one (Z.ps_raiseA rfl (takes_of rfl rfl rfl rfl) (Z.pmk_e e_NoLine hr.room (by decide) (by rfl) (pa_cons (pv 0) pa_nil)))) pss_nil)
      (pss_one (ps_ret (pv 1)))))), ?_⟩
    walk_at "zz"
    refine q_isiStr hv ?_
    cases hv with
    | str s _ =>
      have ts := hs s rfl
      walk_at "zz"
      refine q_lenS ts.sz ?_
      walk_at "zz"
      have bad : goodLine s = false → lineV (.str s) = none := fun z => by
        show (if goodLine s = true then lineOf s else none) = none
        rw [z]; rfl
      refine iteD (fun h4 => ?_) (fun h4 => ?_)
      · walk_at "zz"
        refine q_mkFound e_NoLine.T nf_NoLine fun d H2 e2 n2 h2 => ?_
        refine k0 (bad ?_) d H2 e2 h2
        unfold goodLine
        rw [decide_eq_false (by omega), Bool.false_and]
      · walk_at "zz"
        refine q_lcS (z := s) (fun _ => true) (fun c => .bl (decide (32 ≤ c) && decide (c ≤ 126))) (Evl.ev_var rfl) (Nat.le_trans ts.1 (by decide)) (fun _ => rfl) ?_ ?_ ?_
        · intro c H1 hc e QB q
          exact q H1 Ex.rfl
        · intro c H1 hc e _ Q' q
          walk_at "zz"
          refine ⟨_, _, rfl, rfl, _, rfl, ?_⟩
          rw [lo_sign]
          by_cases g1 : 32 ≤ c
          · rw [decide_eq_true g1]
            refine (iteR rfl ?_)
            refine ⟨_, _, rfl, rfl, ?_⟩
            rw [hi_sign]
            have q1 := q H1 Ex.rfl
            rw [decide_eq_true g1, Bool.true_and] at q1
            exact q1
          · rw [decide_eq_false g1]
            have q1 := q H1 Ex.rfl
            rw [decide_eq_false g1, Bool.false_and] at q1
            exact iteL rfl q1
        · intro p H1 hp h1 e1
          walk_at "zz"
          rw [List.filter_eq_self.mpr (fun _ _ => rfl)] at h1
          refine ⟨p, s.cps.toList.map fun c => decide (32 ≤ c) && decide (c ≤ 126), rfl, SqL.of (by rw [h1, List.map_map] <;> rfl), ?_⟩
          rw [List.all_map]
          cases g : goodLine s with
          | false =>
            have ga : (s.cps.toList.all (id ∘ fun c => decide (32 ≤ c) && decide (c ≤ 126))) = false := by
              unfold goodLine at g
              rw [decide_eq_true (by omega), Bool.true_and] at g
              exact g
            rw [ga]
            walk_at "zz"
            refine q_mkFound e_NoLine.T nf_NoLine fun d H2 e2 n2 h2 => ?_
            exact k0 (bad g) d H2 (e1.tr e2) h2
          | true =>
            have ga : (s.cps.toList.all (id ∘ fun c => decide (32 ≤ c) && decide (c ≤ 126))) = true := by
              unfold goodLine at g
              rw [decide_eq_true (by omega), Bool.true_and] at g
              exact g
            rw [ga]
            walk_at "zz"
            have lv : lineV (.str s) = lineOf s := by
              show (if goodLine s = true then lineOf s else none) = _
              rw [g]; rfl
            refine ⟨s, rfl, ⟨by omega, ts.2⟩, fun hl H2 e2 => ?_, fun xs hx p2 H2 n2 h2 e2 => ?_⟩
            · walk_at "zz"
              refine ⟨rfl, ?_⟩
              walk_at "zz"
              refine q_mkFound e_NoLine.T nf_NoLine fun d H3 e3 n3 h3 => ?_
              exact k0 (lv.trans hl) d H3 (e1.tr (e2.tr e3)) h3
            · walk_at "zz"
              refine ⟨rfl, ?_⟩
              walk_at "zz"
              exact k1 xs (lv.trans hx) p2 H2 (e1.free n2) h2 (e1.tr e2)
    | _ =>
      walk_at "zz"
      refine q_mkFound e_NoLine.T nf_NoLine fun d H2 e2 n2 h2 => ?_
      exact k0 rfl d H2 e2 h2
abbrev s__law_told : Stmt := topS 25
theorem sc__law_told : FnScope ["line", "found", "e"] ["line"] (defScope s__law_told) := ⟨rfl, rfl, rfl, by decide +kernel, rfl, by decide +kernel, by decide +kernel⟩
def sp__law_told (K : PySem.W.Frag) (c_NoLine c_ShelvesError : Addr) : Sp := fun vs H Q _ => ∃ (v : V), vs = [v] ∧ Thing K H v ∧ (∀ s, v = .str s → Tn 900 s) ∧ (lineV v = none → ∀ p H', H p = none → H' p = some (.lst [.str "line", v]) → Ex H H' → Q (.ref p) H') ∧ (∀ xs, lineV v = some xs → ∀ p t H', H p = none → H t = none → p ≠ t → H' p = some (.lst [.str "told", .ref t]) → H' t = some (.tup xs) → Ex H H' → Q (.ref p) H')
theorem kn__law_told (F : Df K mg "_law_told" s__law_told ["line"])
    (e_ShelvesError : Ke P w K mg base 1 "ShelvesError" c_ShelvesError (spBare K)) (nf_ShelvesError : PySem.W.findIn K (.ref c_ShelvesError) "found" = some none)
    (e_NoLine : Ke P w K mg base 2 "NoLine" c_NoLine (spFound K)) (nf_NoLine : PySem.W.findIn K (.ref c_NoLine) "found" = some none)
    (k_read_line : Kg (L2.CX P w) P w K mg base 6 "read_line" (sp_read_line K c_NoLine)) : Kg CX0 P w K mg base 7 "_law_told" (sp__law_told K c_NoLine c_ShelvesError) := by
  refine kg_of F sc__law_told (fun vs H Q E h => ?_) (fun f cdv A outer s H vs Q E hr h => ?_)
  · obtain ⟨v, rfl, _⟩ := h
    rfl
  · obtain ⟨v, rfl, hv, hs, k0, k1⟩ := h
    refine ⟨_, (pss_cons (ps_set (i := 1) sc__law_told.nd rfl (Or.inl rfl) pe_non)
      (pss_cons (Z.ps_try_mix rfl rfl sc__law_told.nd takes0 (fun W pn xe tk px => (pss_one (ps_set (i := 1) sc__law_told.nd rfl (Or.inl rfl) (pe_lst (pa_cons pe_str (pa_cons (Z.pe_kgS k_read_line hr (by decide) (fun σ => passAt tk σ) (by rfl) (pa_cons (pv 0) pa_nil)) pa_nil))))))
      (Z.HdsM.as (i := 2) ⟨rfl, by decide, Or.inl e_NoLine.m⟩ rfl rfl (fun a oe cls d pn hz hf => (pss_one (ps_set (i := 1) sc__law_told.nd rfl (Or.inl rfl) (pe_lst (pa_cons pe_str (pa_cons (pe_xf e_NoLine.XF nf_NoLine hz hf (pv 2)) pa_nil)))))) (Z.HdsM.plain ⟨rfl, by decide, Or.inl e_ShelvesError.m⟩ (fun a oe cls d pn hz hf => (pss_one (ps_set (i := 1) sc__law_told.nd rfl (Or.inl rfl) (pe_lst (pa_cons pe_str pa_nil))))) Z.HdsM.nil)))
      (pss_one (ps_ret (pv 1))))), ?_⟩
    walk_at "zz"
    refine ⟨v, rfl, hv, hs, fun hl d H1 e1 h1 => ?_, fun xs hx t H1 n1 h1 e1 => ?_⟩
    · refine w_mix1 e_NoLine.exm fun a ha => ?_
      walk_at "zz"
      refine ⟨rfl, rfl, d, _, v, rfl, h1, rfl, ?_⟩
      walk_at "zz"
      refine q_newL fun p H2 n2 h2 e2 => ?_
      walk_at "zz"
      exact k0 hl p H2 (e1.free n2) h2 (e1.tr e2)
    · walk_at "zz"
      refine q_newL fun p H2 n2 h2 e2 => ?_
      walk_at "zz"
      exact k1 xs hx p t H2 (e1.free n2) n1 (fun z => by rw [z, h1] at n2; cases n2) h2 (e2 _ _ h1) (e1.tr e2)
abbrev s_law : Stmt := topS 29
theorem sc_law : FnScope ["script", "k", "box", "some", "odd", "great", "line", "thing", "found", "due"] ["script"] (defScope s_law) := ⟨rfl, rfl, rfl, by decide +kernel, rfl, by decide +kernel, by decide +kernel⟩
def sp_law (K : PySem.W.Frag) : Sp := fun vs H Q _ => ∃ (a : Addr) (ns : List Int), vs = [.ref a] ∧ SqL K H a (ns.map V.int) ∧ ns.length ≤ 63 ∧ ∀ H', Q (.bl true) H'
theorem fn_law {fd : FuncData} {f : Addr} (F : Fun K "law" "law" s_law f fd)
    (m_range : mg "range" = none)
    (m_max : mg "max" = none)
    (m_min : mg "min" = none)
    (m_len : mg "len" = none)
    (m_repr : mg "repr" = none)
    (m_isinstance : mg "isinstance" = none)
    (m_dict : mg "dict" = none)
    (m_list : mg "list" = none)
    (k__law_bent : Kn P w K mg base 2 "_law_bent" (sp__law_bent K))
    (k__law_due : Kn P w K mg base 2 "_law_due" (sp__law_due K))
    (k__law_told : Kg CX0 P w K mg base 7 "_law_told" (sp__law_told K c_NoLine c_ShelvesError))
    (k__law_drawn_line : Kn P w K mg base 3 "_law_drawn_line" (sp__law_drawn_line K))
    (k__law_take : Kn P w K mg base 1 "_law_take" (sp__law_take K))
    (k__law_box : Kn P w K mg base 1 "_law_box" (sp__law_box K))
    (k__law_cell : Kn P w K mg base 1 "_law_cell" (sp__law_cell K)) : FnG P w K mg base CX0 8 f fd ["script"] (sp_law K) := by
  refine fnG_of F sc_law (fun vs H Q E h => ?_) (fun cdv A outer s H vs Q E hr h => ?_)
  · obtain ⟨a, ns, rfl, _⟩ := h
    rfl
  · obtain ⟨a, ns, rfl, hS, hn, q⟩ := h
    refine ⟨_, (pss_cons (ps_for (passes_of rfl) rfl (pi_range1 (by rfl) m_range (pa_cons (pe_callB (call_max2 rfl) (by rfl) m_max (by decide +kernel) (pa_cons pe_int (pa_cons (pe_callB (call_min2 rfl) (by rfl) m_min (by decide +kernel) (pa_cons (pe_callB (Z.call_lenB K rfl) (by rfl) m_len (by decide +kernel) (pa_cons (pv 0) pa_nil)) (pa_cons pe_int pa_nil))) pa_nil))) pa_nil)) (pg_name (i := 1) sc_law.nd rfl (Or.inl rfl)) (pss_cons (ps_set (i := 2) sc_law.nd rfl (Or.inl rfl) (Z.pe_kn k__law_box hr.room (by decide) (by rfl) (pa_cons (Z.pe_kn k__law_cell hr.room (by decide) (by rfl) (pa_cons (pv 0) (pa_cons (pv 1) pa_nil))) pa_nil)))
      (pss_cons (ps_set (i := 3) sc_law.nd rfl (Or.inl rfl) (pe_lst (pa_cons pe_non (pa_cons pe_int (pa_cons pe_bl (pa_cons (pe_lst (pa_cons pe_str pa_nil)) (pa_cons (pe_tup (pa_cons pe_str pa_nil)) (pa_cons pe_dnewK (pa_cons pe_str (pa_cons pe_str (pa_cons pe_str (pa_cons pe_str (pa_cons pe_str (pa_cons pe_str pa_nil))))))))))))))
      (pss_cons (ps_set (i := 4) sc_law.nd rfl (Or.inl rfl) (pe_ix (Z.ix_A K rfl) (pv 3) (Z.pe_kn k__law_take hr.room (by decide) (by rfl) (pa_cons (pv 2) (pa_cons pe_int pa_nil))) (fun _ _ => rfl)))
      (pss_cons (ps_set (i := 5) sc_law.nd rfl (Or.inl rfl) (pe_op Z.op_addA pe_str (pe_op Z.op_mulA (pe_ix (Z.ix_A K rfl) pe_str (Z.pe_kn k__law_take hr.room (by decide) (by rfl) (pa_cons (pv 2) (pa_cons pe_int pa_nil))) (fun _ _ => rfl)) (pe_ix (Z.ix_A K rfl) (pe_lst (pa_cons pe_int (pa_cons pe_int (pa_cons pe_int (pa_cons pe_int pa_nil))))) (Z.pe_kn k__law_take hr.room (by decide) (by rfl) (pa_cons (pv 2) (pa_cons pe_int pa_nil))) (fun _ _ => rfl)))))
      (pss_cons (ps_set (i := 6) sc_law.nd rfl (Or.inl rfl) (Z.pe_kn k__law_drawn_line hr.room (by decide) (by rfl) (pa_cons (pv 2) pa_nil)))
      (pss_one (ps_for (passes_of rfl) rfl (pi_list (pe_lst (pa_cons (pv 6) (pa_cons (Z.pe_kn k__law_bent hr.room (by decide) (by rfl) (pa_cons (pv 2) (pa_cons (pv 6) pa_nil))) (pa_cons (pv 4) (pa_cons (pv 5) (pa_cons (Z.pe_kn k__law_bent hr.room (by decide) (by rfl) (pa_cons (pv 2) (pa_cons (pv 6) pa_nil))) (pa_cons (pv 6) pa_nil)))))))) (pg_name (i := 7) sc_law.nd rfl (Or.inl rfl)) (pss_cons (ps_par (i := 8) (j := 9) rfl sc_law.nd rfl rfl (by decide) rfl rfl (pa_cons (Z.pe_kg k__law_told hr (by decide) pass0 (by rfl) (pa_cons (pv 7) pa_nil)) (pa_cons (Z.pe_kn k__law_due hr.room (by decide) (by rfl) (pa_cons (pv 7) pa_nil)) pa_nil)) (by rfl))
      (pss_cons (ps_if (pt_cmpR (Z.op_neB K rfl hr.units) (pe_callB (Z.call_repr hr) (by rfl) m_repr (by decide +kernel) (pa_cons (pv 8) pa_nil)) (pe_callB (Z.call_repr hr) (by rfl) m_repr (by decide +kernel) (pa_cons (pv 9) pa_nil)) (nomark _)) (pss_one (ps_ret pe_bl)) pss_nil)
      (pss_cons (ps_if (pt_val (pe_callB (Z.call_isiB K rfl) (by rfl) m_isinstance (by decide +kernel) (pa_cons (pv 7) (pa_cons (pe_bltn (v := .ty "list") (by rfl) m_list (by decide +kernel) rfl) pa_nil)))) (pss_one (ps_expr (pe_bm PySem.F.plainAttrs_list PySem.F.slot_list_append PySem.F.type_list_append mt_append (pv 7) (pa_cons pe_str pa_nil)))) pss_nil)
      (pss_cons (ps_if (pt_val (pe_callB (Z.call_isiB K rfl) (by rfl) m_isinstance (by decide +kernel) (pa_cons (pv 7) (pa_cons (pe_bltn (v := .ty "dict") (by rfl) m_dict (by decide +kernel) rfl) pa_nil)))) (pss_one (ps_dput (Nat.lt_of_le_of_lt (Nat.add_le_add_left (by decide : 1 ≤ 64) _) hr.units) (pv 7) pe_str pe_int (by rfl))) pss_nil)
      (pss_one (ps_if (pt_cmpR (Z.op_neB K rfl hr.units) (pe_callB (Z.call_repr hr) (by rfl) m_repr (by decide +kernel) (pa_cons (pv 8) pa_nil)) (pe_callB (Z.call_repr hr) (by rfl) m_repr (by decide +kernel) (pa_cons (pv 9) pa_nil)) (nomark _)) (pss_one (ps_ret pe_bl)) pss_nil))))))))))))))
      (pss_one (ps_ret pe_bl))), ?_⟩
    walk_at "zz"
    refine q_lenL hS ?_
    walk_at "zz"
    have hN : ((List.map V.int ns).length : Int) ≤ 63 := by rw [List.length_map]; omega
    generalize hL : ((List.map V.int ns).length : Int) = L at hN
    have hL0 : 0 ≤ L := by omega
    generalize hM : (if (if 40 < L then 40 else L) > 6 then (if 40 < L then 40 else L) else 6) = M
    have hM1 : 0 ≤ M ∧ M ≤ 63 := by subst hM; split <;> split <;> omega
    refine q_rngFor (fun i σ' H' => (∃ v1 v2 v3 v4 v5 v6 v7 v8 v9, σ' = [some (.ref a), v1, v2, v3, v4, v5, v6, v7, v8, v9]) ∧ Ex H H') (by omega) ⟨⟨_, _, _, _, _, _, _, _, _, rfl⟩, Ex.rfl⟩ ?_ ?_
    · rintro i σ' H0 hi ⟨⟨v1, v2, v3, v4, v5, v6, v7, v8, v9, rfl⟩, e0⟩
      walk_at "zz"
      refine ⟨a, i, ns, rfl, e0.sq hS, by omega, fun c => ?_⟩
      walk_at "zz"
      refine ⟨c, rfl, fun b H1 nb B1 e1 => ?_⟩
      walk_at "zz"
      refine q_newL fun o1 H2 m1 w1 e2 => ?_
      walk_at "zz"
      refine q_newT fun o2 H3 m2 w2 e3 => ?_
      walk_at "zz"
      refine q_dnewK fun o3 H4 m3 w3 e4 => ?_
      walk_at "zz"
      refine q_newL fun o4 H5 m4 w4 e5 => ?_
      walk_at "zz"
      have e15 : Ex H1 H5 := e2.tr (e3.tr (e4.tr e5))
      have B5 := B1.ex e15
      refine ⟨b, _, _, rfl, B5, by omega, by omega, by omega, fun d6 H6 g6 l6 B6 f6 => ?_⟩
      have b4 : o4 ≠ b := (B1.ex (e2.tr (e3.tr e4))).ne m4
      have b1 : o1 ≠ b := B1.ne m1
      have b2 : o2 ≠ b := (B1.ex e2).ne m2
      have b3 : o3 ≠ b := (B1.ex (e2.tr e3)).ne m3
      refine q_ixM (SqL.of (f6.get w4 b4)) g6 l6 fun odd hodd => ?_
      walk_at "zz"
      refine ⟨b, _, _, rfl, B6, by omega, by decide, by decide, fun d7 H7 g7 l7 B7 f7 => ?_⟩
      obtain ⟨c1, ec1, mc1, _⟩ := at_mem (xs := ("ab" : Str).cps.toList) g7 (by rw [show ("ab" : Str).cps.toList.length = 2 by decide +kernel]; exact l7)
      have c128 : c1 < 128 := (show ∀ c ∈ ("ab" : Str).cps.toList, c < 128 by decide +kernel) c1 mc1
      refine q_ixS (by decide +kernel) ec1 ?_
      walk_at "zz"
      refine q_newL fun p8 H8 n8 h8 e8 => ?_
      walk_at "zz"
      refine ⟨b, _, _, rfl, B7.ex e8, by omega, by decide, by decide, fun d9 H9 g9 l9 B9 f9 => ?_⟩
      refine q_ixM (SqL.of (f9.get h8 (B7.ne n8))) g9 l9 fun v m => ?_
      obtain ⟨N, rfl, N1, N2⟩ : ∃ i : Int, v = .int i ∧ 1 ≤ i ∧ i ≤ 397 := by
        simp only [List.mem_cons, List.not_mem_nil, or_false] at m
        rcases m with rfl | rfl | rfl | rfl
        all_goals exact ⟨_, rfl, by decide, by decide⟩
      refine q_repS (c := c1) N1 (by omega) fun zr zl zc => ?_
      have tz : Tn 397 zr := ⟨by omega, fun d hd => by rw [zc d hd]; exact c128⟩
      have tj : Tn 5 ("join " : Str) := ⟨by decide +kernel, by decide +kernel⟩
      refine q_addS (small_add (m := 5) (n := 397) tj.1 tz.1 (by decide)) ?_
      have tgr := tj.app tz
      generalize ("join " : Str) ++ zr = great at tgr ⊢
      walk_at "zz"
      refine ⟨b, _, rfl, B9, by omega, fun line Ha tl Ba fa => ?_⟩
      walk_at "zz"
      refine ⟨b, _, line, rfl, Ba, by omega, tl, fun y1 Hb ty1 Bb fb => ?_⟩
      walk_at "zz"
      refine ⟨b, _, line, rfl, Bb, by omega, tl, fun y2 Hc ty2 Bc fc => ?_⟩
      walk_at "zz"
      refine q_newL fun pL HL nL hL1 eL => ?_
      have f5c : Fb b H5 Hc := f6.tr (f7.tr ((Fb.ex e8).tr (f9.tr (fa.tr (fb.tr fc)))))
      have f5L : Fb b H5 HL := f5c.tr (Fb.ex eL)
      have z1 : H5 o1 = some (.lst [.str "told"]) := e5 _ _ (e4 _ _ (e3 _ _ w1))
      have z2 : H5 o2 = some (.tup [.str "told"]) := e5 _ _ (e4 _ _ w2)
      have z3 : H5 o3 = some (.dK []) := e5 _ _ w3
      have sL : ∀ {n : Nat} {s : Str}, Tn n s → Nat.ble n 700 = true → LnT K HL (.str s) := fun h hb => .str (h.mono (Nat.le_of_ble_eq_true hb))
      have oL : LnT K HL odd ∧ ∀ q, odd = .ref q → H0 q = none ∧ q ≠ pL := by
        have fr : ∀ {q : Addr} {o : HO}, H5 q = some o → H1 q = none → q ≠ b → H0 q = none ∧ q ≠ pL := fun h1 h2 h3 => ⟨e1.free h2, fun e => by rw [e] at h1 h3; rw [f5c.get h1 h3] at nL; cases nL⟩
        simp only [List.mem_cons, List.not_mem_nil, or_false] at hodd
        rcases hodd with rfl | rfl | rfl | rfl | rfl | rfl | rfl | rfl | rfl | rfl | rfl | rfl
        · exact ⟨⟨.non, (fun s e => by cases e), ⟨_, .non, sm_non.mid.mono (by decide) (by decide)⟩, (fun _ _ e => by cases e), (fun _ _ e => by cases e)⟩, (fun _ e => by cases e)⟩
        · exact ⟨⟨.int _, (fun s e => by cases e), ⟨_, .int _, (int_Sm (by decide) (by decide)).mid.mono (by decide) (by decide)⟩, (fun _ _ e => by cases e), (fun _ _ e => by cases e)⟩, (fun _ e => by cases e)⟩
        · exact ⟨⟨.bl _, (fun s e => by cases e), ⟨_, .bl _, (sm_bl _).mid.mono (by decide) (by decide)⟩, (fun _ _ e => by cases e), (fun _ _ e => by cases e)⟩, (fun _ e => by cases e)⟩
        · have h := f5L.get z1 b1
          exact ⟨⟨.lst _ _ h, (fun s e => by cases e), ⟨_, .lst (SqL.of h) (.cons (.str _) .nil), ⟨by decide +kernel, by decide +kernel, by decide +kernel⟩⟩, (fun q ys e hq => by cases e; rw [h] at hq; cases hq; rfl), (fun q ys e hq => by cases e; rw [h] at hq; cases hq)⟩, (fun q e => by cases e; exact fr z1 m1 b1)⟩
        · have h := f5L.get z2 b2
          exact ⟨⟨.tup _ _ h, (fun s e => by cases e), ⟨_, .tup (SqT.of h) (.cons (.str _) .nil), ⟨by decide +kernel, by decide +kernel, by decide +kernel⟩⟩, (fun q ys e hq => by cases e; rw [h] at hq; cases hq), (fun q ys e hq => by cases e; rw [h] at hq; cases hq)⟩, (fun q e => by cases e; exact fr z2 (e2.free m2) b2)⟩
        · have h := f5L.get z3 b3
          exact ⟨⟨.dK _ _ h, (fun s e => by cases e), ⟨.dict [], .dic h .nil .nil, ⟨by decide +kernel, by decide +kernel, by decide +kernel⟩⟩, (fun q ys e hq => by cases e; rw [h] at hq; cases hq), (fun q ys e hq => by cases e; rw [h] at hq; cases hq; rfl)⟩, (fun q e => by cases e; exact fr z3 ((e2.tr e3).free m3) b3)⟩
        all_goals exact ⟨sL (n := 5) ⟨by decide +kernel, by decide +kernel⟩ rfl, (fun _ e => by cases e)⟩
      obtain ⟨oL, oF⟩ := oL
      have e0L : ∀ y o, H0 y = some o → HL y = some o := fun y o hy => f5L y o (e15 _ _ (e1 _ _ hy)) (ne_of_none hy nb)
      walk_at "zz"
      refine q_listFor (SqL.of hL1) (fun j σ' H' => (∃ v7 v8 v9, σ' = [some (.ref a), some (.int (i : Int)), some (.ref b), some (.ref o4), some odd, some (.str great), some (.str line), v7, v8, v9]) ∧ (∀ y o, H0 y = some o → H' y = some o) ∧ H' pL = some (.lst [.str line, .str y1, odd, .str great, .str y2, .str line]) ∧ (j ≤ 2 → LnT K H' odd)) ⟨⟨_, _, _, rfl⟩, e0L, hL1, fun _ => oL⟩ (fun _ _ _ P => SqL.of P.2.2.1) ?_ ?_
      · rintro j x σ' H3 hj ⟨⟨v7, v8, v9, rfl⟩, k3, hL3, o3'⟩
        have lx : LnT K H3 x ∧ ∀ q, x = .ref q → H0 q = none ∧ q ≠ pL ∧ j = 2 := by
          have hj6 : j < 6 := (List.getElem?_eq_some_iff.mp hj).1
          have st : ∀ {n : Nat} {s : Str}, Tn n s → Nat.ble n 700 = true → LnT K H3 (.str s) := fun h hb => .str (h.mono (Nat.le_of_ble_eq_true hb))
          rcases (show j = 0 ∨ j = 1 ∨ j = 2 ∨ j = 3 ∨ j = 4 ∨ j = 5 by omega) with rfl | rfl | rfl | rfl | rfl | rfl
          · cases hj; exact ⟨st tl rfl, (fun _ e => by cases e)⟩
          · cases hj; exact ⟨st ty1 rfl, (fun _ e => by cases e)⟩
          · cases hj; exact ⟨o3' (by decide), fun q e => ⟨(oF q e).1, (oF q e).2, rfl⟩⟩
          · cases hj; exact ⟨st tgr rfl, (fun _ e => by cases e)⟩
          · cases hj; exact ⟨st ty2 rfl, (fun _ e => by cases e)⟩
          · cases hj; exact ⟨st tl rfl, (fun _ e => by cases e)⟩
        obtain ⟨lx, fx⟩ := lx
        have fin : ∀ Hf : Hp, (∀ y o, H3 y = some o → x ≠ .ref y → Hf y = some o) → (∀ y o, H0 y = some o → Hf y = some o) ∧ Hf pL = some (.lst [.str line, .str y1, odd, .str great, .str y2, .str line]) ∧ (j + 1 ≤ 2 → LnT K Hf odd) := fun Hf kp => by
          refine ⟨fun y o hy => kp y o (k3 y o hy) (fun e => by rw [(fx y e).1] at hy; cases hy), kp pL _ hL3 (fun e => (fx pL e).2.1 rfl), fun h2 => ?_⟩
          exact (o3' (by omega)).ex fun y o hy => kp y o hy (fun e => by have := (fx y e).2.2; omega)
        have tL : Tn 10 ("line" : Str) := ⟨by decide +kernel, by decide +kernel⟩
        have tT : Tn 10 ("told" : Str) := ⟨by decide +kernel, by decide +kernel⟩
        walk_at "zz"
        refine ⟨x, rfl, lx.th, fun s e => (lx.sz s e).mono (by decide), fun hl p H4 n4 h4 e4 => ?_, fun xs hx p t H4 n4 nt pt h4 ht e4 => ?_⟩
        · walk_at "zz"
          refine ⟨x, rfl, lx.th.ex e4, fun s e => (lx.sz s e).mono (by decide), fun _ p2 H5 n5 h5 e5 => ?_, fun xs hx => by rw [hl] at hx; cases hx⟩
          walk_at "zz"
          have e35 := e4.tr e5
          have lx5 := lx.ex e35
          obtain ⟨d, hd, md⟩ := lx5.dat
          have r1 := pair_rp (e5 _ _ h4) tL hd md (by decide) (by decide)
          have r2 := pair_rp h5 tL hd md (by decide) (by decide)
          refine q_reprM r1.1 r1.2 (by decide) (by decide) ?_
          walk_at "zz"
          refine q_reprM r2.1 r2.2 (by decide) (by decide) ?_
          walk_at "zz"
          refine q_isiLst lx5.th (fun q ys e hq => ?_) (fun no => ?_)
          · subst e
            obtain rfl := lx5.ls q ys rfl hq
            obtain ⟨ob, hob⟩ := thing_at lx.th
            have pq : p ≠ q := fun e => by rw [e, hob] at n4; cases n4
            have pq2 : p2 ≠ q := fun e => by rw [e, e4 _ _ hob] at n5; cases n5
            walk_at "zz"
            refine ⟨.inl ⟨rfl, _, SqL.of hq⟩, ?_⟩
            walk_at "zz"
            refine q_append hq (by decide) fun H6 h6 f6 => ?_
            walk_at "zz"
            refine q_isiDic0 (.lst q _ h6) (fun p' xs' e' hp' => by cases e'; rw [h6] at hp'; cases hp') ?_
            walk_at "zz"
            have hd6 : Dd K H6 (.ref q) (.list [.str "told", .str "more"]) := .lst (SqL.of h6) (.cons (.str _) (.cons (.str _) .nil))
            have md6 : Mid (.list [.str "told", .str "more"]) 200 5 := ⟨by decide +kernel, by decide +kernel, by decide +kernel⟩
            have r3 := pair_rp (f6 _ _ (e5 _ _ h4) pq) tL hd6 md6 (by decide) (by decide)
            have r4 := pair_rp (f6 _ _ h5 pq2) tL hd6 md6 (by decide) (by decide)
            refine q_reprM r3.1 r3.2 (by decide) (by decide) ?_
            walk_at "zz"
            refine q_reprM r4.1 r4.2 (by decide) (by decide) ?_
            walk_at "zz"
            exact ⟨⟨_, _, _, rfl⟩, fin H6 fun y o hy ne => f6 _ _ (e35 _ _ hy) fun e => ne (by rw [e])⟩
          · walk_at "zz"
            refine q_isiDic2 lx5.th (fun q kvs e hq => ?_) ?_
            · subst e
              obtain rfl := lx5.di q kvs rfl hq
              obtain ⟨ob, hob⟩ := thing_at lx.th
              have pq : p ≠ q := fun e => by rw [e, hob] at n4; cases n4
              have pq2 : p2 ≠ q := fun e => by rw [e, e4 _ _ hob] at n5; cases n5
              walk_at "zz"
              refine ⟨q, _, rfl, DPut.k (k := Sum.inr "more") hq (small1000 (Nat.le_of_ble_eq_true rfl)), ?_⟩
              walk_at "zz"
              have f6 : Fb q H5 (upd H5 q (.dK (putK [] (Sum.inr ("more" : Str)) (.int 1)))) := Fb.put
              have h6 : (upd H5 q (.dK (putK [] (Sum.inr ("more" : Str)) (.int 1)))) q = some (.dK (putK [] (Sum.inr ("more" : Str)) (.int 1))) := upd_same
              generalize upd H5 q (.dK (putK [] (Sum.inr ("more" : Str)) (.int 1))) = H6 at f6 h6 ⊢
              obtain ⟨d6, hd6, md6⟩ := more_dict (K := K) h6 (.inl rfl)
              have r3 := pair_rp (f6 _ _ (e5 _ _ h4) pq) tL hd6 md6.mid (by decide) (by decide)
              have r4 := pair_rp (f6 _ _ h5 pq2) tL hd6 md6.mid (by decide) (by decide)
              refine q_reprM r3.1 r3.2 (by decide) (by decide) ?_
              walk_at "zz"
              refine q_reprM r4.1 r4.2 (by decide) (by decide) ?_
              walk_at "zz"
              exact ⟨⟨_, _, _, rfl⟩, fin H6 fun y o hy ne => f6 _ _ (e35 _ _ hy) fun e => ne (by rw [e])⟩
            · walk_at "zz"
              refine q_reprM r1.1 r1.2 (by decide) (by decide) ?_
              walk_at "zz"
              refine q_reprM r2.1 r2.2 (by decide) (by decide) ?_
              walk_at "zz"
              exact ⟨⟨_, _, _, rfl⟩, fin H5 fun y o hy _ => e35 _ _ hy⟩
        · obtain ⟨s, rfl⟩ : ∃ s, x = .str s := by
            cases x with
            | str s => exact ⟨s, rfl⟩
            | _ => cases hx
          have ts := lx.sz s rfl
          obtain ⟨xl, xd⟩ := line_dd ts hx
          obtain ⟨d, dt, md⟩ := tup_rp xd xl
          walk_at "zz"
          refine ⟨.str s, rfl, lx.th.ex e4, fun s e => (lx.sz s e).mono (by decide), (fun hl => by rw [hl] at hx; cases hx), fun xs2 hx2 p2 t2 H5 n5 nt2 pt2 h5 ht5 e5 => ?_⟩
          rw [hx] at hx2
          cases hx2
          walk_at "zz"
          have r1 := pair_rp (e5 _ _ h4) tT (dt K H5 t (e5 _ _ ht)) md (by decide) (by decide)
          have r2 := pair_rp h5 tT (dt K H5 t2 ht5) md (by decide) (by decide)
          refine q_reprM r1.1 r1.2 (by decide) (by decide) ?_
          walk_at "zz"
          refine q_reprM r2.1 r2.2 (by decide) (by decide) ?_
          walk_at "zz"
          have th5 := lx.th.ex (e4.tr e5)
          refine q_isiLst0 th5 (fun _ _ e => by cases e) ?_
          walk_at "zz"
          refine q_isiDic0 th5 (fun _ _ e => by cases e) ?_
          walk_at "zz"
          refine q_reprM r1.1 r1.2 (by decide) (by decide) ?_
          walk_at "zz"
          refine q_reprM r2.1 r2.2 (by decide) (by decide) ?_
          walk_at "zz"
          exact ⟨⟨_, _, _, rfl⟩, fin H5 fun y o hy _ => (e4.tr e5) _ _ hy⟩
      · rintro σ' H3 ⟨⟨v7, v8, v9, rfl⟩, k3, hL3, _⟩
        walk_at "zz"
        exact ⟨⟨_, _, _, _, _, _, _, _, _, rfl⟩, fun y o hy => k3 y o (e0 _ _ hy)⟩
    · rintro σ' H0 ⟨⟨v1, v2, v3, v4, v5, v6, v7, v8, v9, rfl⟩, e0⟩
      walk_at "zz"
      exact q H0
end
theorem all_mk {l : PySem.W.OpenLaw} {w : World} {K : PySem.W.Frag} {h : Heap} {mg : Str → Option Value} {fa f_has_only f__law_cell f__law_box f__law_take f__law_forms f__law_number f_is_plainly_written f__law_due f__law_word f__law_bent f_whole_in f__law_drawn_line f_thing_of f_things_in f_read_line f__law_told f_law c_ShelvesError c_NoLine fi_ShelvesError fi_NoLine : Addr} (X : K.In h) (G : h.Ns mainGlobals mg) (hfa : mg "law" = some (.ref fa))
    {od_has_only an_has_only : Option Addr} {sl_has_only : Array (Option Value)} {oc_has_only kV_has_only dc_has_only pm_has_only cd_has_only ct_has_only : Value}
    {od__law_cell an__law_cell : Option Addr} {sl__law_cell : Array (Option Value)} {oc__law_cell kV__law_cell dc__law_cell pm__law_cell cd__law_cell ct__law_cell : Value}
    {od__law_box an__law_box : Option Addr} {sl__law_box : Array (Option Value)} {oc__law_box kV__law_box dc__law_box pm__law_box cd__law_box ct__law_box : Value}
    {od__law_take an__law_take : Option Addr} {sl__law_take : Array (Option Value)} {oc__law_take kV__law_take dc__law_take pm__law_take cd__law_take ct__law_take : Value}
    {od__law_forms an__law_forms : Option Addr} {sl__law_forms : Array (Option Value)} {oc__law_forms kV__law_forms dc__law_forms pm__law_forms cd__law_forms ct__law_forms : Value}
    {od__law_number an__law_number : Option Addr} {sl__law_number : Array (Option Value)} {oc__law_number kV__law_number dc__law_number pm__law_number cd__law_number ct__law_number : Value}
    {od_is_plainly_written an_is_plainly_written : Option Addr} {sl_is_plainly_written : Array (Option Value)} {oc_is_plainly_written kV_is_plainly_written dc_is_plainly_written pm_is_plainly_written cd_is_plainly_written ct_is_plainly_written : Value}
    {od__law_due an__law_due : Option Addr} {sl__law_due : Array (Option Value)} {oc__law_due kV__law_due dc__law_due pm__law_due cd__law_due ct__law_due : Value}
    {od__law_word an__law_word : Option Addr} {sl__law_word : Array (Option Value)} {oc__law_word kV__law_word dc__law_word pm__law_word cd__law_word ct__law_word : Value}
    {od__law_bent an__law_bent : Option Addr} {sl__law_bent : Array (Option Value)} {oc__law_bent kV__law_bent dc__law_bent pm__law_bent cd__law_bent ct__law_bent : Value}
    {od_whole_in an_whole_in : Option Addr} {sl_whole_in : Array (Option Value)} {oc_whole_in kV_whole_in dc_whole_in pm_whole_in cd_whole_in ct_whole_in : Value}
    {od__law_drawn_line an__law_drawn_line : Option Addr} {sl__law_drawn_line : Array (Option Value)} {oc__law_drawn_line kV__law_drawn_line dc__law_drawn_line pm__law_drawn_line cd__law_drawn_line ct__law_drawn_line : Value}
    {od_thing_of an_thing_of : Option Addr} {sl_thing_of : Array (Option Value)} {oc_thing_of kV_thing_of dc_thing_of pm_thing_of cd_thing_of ct_thing_of : Value}
    {od_things_in an_things_in : Option Addr} {sl_things_in : Array (Option Value)} {oc_things_in kV_things_in dc_things_in pm_things_in cd_things_in ct_things_in : Value}
    {od_read_line an_read_line : Option Addr} {sl_read_line : Array (Option Value)} {oc_read_line kV_read_line dc_read_line pm_read_line cd_read_line ct_read_line : Value}
    {od__law_told an__law_told : Option Addr} {sl__law_told : Array (Option Value)} {oc__law_told kV__law_told dc__law_told pm__law_told cd__law_told ct__law_told : Value}
    {od_law an_law : Option Addr} {sl_law : Array (Option Value)} {oc_law kV_law dc_law pm_law cd_law ct_law : Value}
    {od_i_ShelvesError an_i_ShelvesError : Option Addr} {sl_i_ShelvesError : Array (Option Value)} {oc_i_ShelvesError kV_i_ShelvesError dc_i_ShelvesError pm_i_ShelvesError cd_i_ShelvesError ct_i_ShelvesError : Value}
    {nm_ShelvesError q_ShelvesError : Str} {N_ShelvesError : Addr} {bs_ShelvesError : List Value} {sn_ShelvesError : List Str} {sub_ShelvesError : List Value} {ab_ShelvesError : Bool} {col_ShelvesError : Option Bool} {dd_ShelvesError : Option Addr} {m0_ShelvesError m1_ShelvesError m2_ShelvesError m3_ShelvesError m5_ShelvesError : Option Value}
    {od_i_NoLine an_i_NoLine : Option Addr} {sl_i_NoLine : Array (Option Value)} {oc_i_NoLine kV_i_NoLine dc_i_NoLine pm_i_NoLine cd_i_NoLine ct_i_NoLine : Value}
    {nm_NoLine q_NoLine : Str} {N_NoLine : Addr} {bs_NoLine : List Value} {sn_NoLine : List Str} {sub_NoLine : List Value} {ab_NoLine : Bool} {col_NoLine : Option Bool} {dd_NoLine : Option Addr} {m0_NoLine m1_NoLine m2_NoLine m3_NoLine m5_NoLine : Option Value}
    {u_FIGURES : Value}
    {u_NO_WORD : Value}
    {q_PERHAPS_NONE : Addr} {od_PERHAPS_NONE : Option Addr} {its_PERHAPS_NONE : Array Value} {n_PERHAPS_NONE : Nat} {sl_PERHAPS_NONE : Array (Option Value)}
    {q_NUMBERS : Addr} {od_NUMBERS : Option Addr} {its_NUMBERS : Array Value} {n_NUMBERS : Nat} {sl_NUMBERS : Array (Option Value)}
    {u_GREATEST_NUMBER : Value}
    {q_FORMS : Addr} {es_FORMS : Array DictEntry} {n_FORMS : Nat}
    {u_MOST_SIGNS : Value}
    (aC_ShelvesError : PySem.W.nsIn K mainGlobals "ShelvesError" = some (some (.ref c_ShelvesError)))
    (iC_ShelvesError : PySem.W.findIn K (.ref c_ShelvesError) "__init__" = some (some (.ref fi_ShelvesError)))
    (xL_ShelvesError : K.lookup c_ShelvesError = some (excClassObj nm_ShelvesError q_ShelvesError c_ShelvesError N_ShelvesError bs_ShelvesError [.type "ValueError", .type "Exception", .type "BaseException", .type "object"] true sn_ShelvesError sub_ShelvesError ab_ShelvesError col_ShelvesError dd_ShelvesError m0_ShelvesError m1_ShelvesError m2_ShelvesError m3_ShelvesError m5_ShelvesError "ValueError.__new__"))
    (sa_ShelvesError : PySem.W.findIn K (.ref c_ShelvesError) "__setattr__" = some (some (.builtin "object.__setattr__")))
    (ga_ShelvesError : PySem.W.findIn K (.ref c_ShelvesError) "__getattribute__" = some (some (.builtin "BaseException.__getattribute__")))
    (gg_ShelvesError : PySem.W.findIn K (.ref c_ShelvesError) "__getattr__" = some none)
    (nf_ShelvesError : PySem.W.findIn K (.ref c_ShelvesError) "found" = some none)
    (tI_ShelvesError : PySem.W.typeIn K (.ref fi_ShelvesError) = some (.type "function"))
    (lI_ShelvesError : K.lookup fi_ShelvesError = some ⟨oc_i_ShelvesError, od_i_ShelvesError, .func (PySem.W.fnOf "__init__" "ShelvesError.__init__" (defArgs s_i_ShelvesError) (defBody s_i_ShelvesError) (defScope s_i_ShelvesError) .none kV_i_ShelvesError dc_i_ShelvesError pm_i_ShelvesError an_i_ShelvesError cd_i_ShelvesError ct_i_ShelvesError), sl_i_ShelvesError⟩)
    (cI_ShelvesError : PySem.W.codeIn K cd_i_ShelvesError "ShelvesError.__init__" = true)
    (kI_ShelvesError : PySem.W.keepIn K (.ref fi_ShelvesError) = true)
    (kC_ShelvesError : PySem.W.keepIn K (.ref c_ShelvesError) = true)
    (eC_ShelvesError : PySem.W.subIn K (.ref c_ShelvesError) (.type "BaseException") = some true)
    (tC_ShelvesError : PySem.W.typeIn K (.ref c_ShelvesError) = some (.type "type"))
    (hC_ShelvesError : PySem.W.hasDictIn K c_ShelvesError = true)
    (jC_ShelvesError : PySem.W.isClsIn K c_ShelvesError = true)
    (sC_ShelvesError : PySem.W.subIn K (.ref c_ShelvesError) (.ref c_ShelvesError) = some true)
    (rd_ShelvesError : PySem.W.readsIn K c_ShelvesError (.type "type") = true)
    (sg_ShelvesError : PySem.W.specialIn K (.ref c_ShelvesError) "__getattribute__" = some (some (.builtin "type.__getattribute__")))
    (fc_ShelvesError : PySem.W.findCls K (.ref c_ShelvesError) (.type "type") "__init__" = some (.val (.ref fi_ShelvesError)))
    (aC_NoLine : PySem.W.nsIn K mainGlobals "NoLine" = some (some (.ref c_NoLine)))
    (iC_NoLine : PySem.W.findIn K (.ref c_NoLine) "__init__" = some (some (.ref fi_NoLine)))
    (xL_NoLine : K.lookup c_NoLine = some (excClassObj nm_NoLine q_NoLine c_NoLine N_NoLine bs_NoLine [.ref c_ShelvesError, .type "ValueError", .type "Exception", .type "BaseException", .type "object"] true sn_NoLine sub_NoLine ab_NoLine col_NoLine dd_NoLine m0_NoLine m1_NoLine m2_NoLine m3_NoLine m5_NoLine "ValueError.__new__"))
    (sa_NoLine : PySem.W.findIn K (.ref c_NoLine) "__setattr__" = some (some (.builtin "object.__setattr__")))
    (ga_NoLine : PySem.W.findIn K (.ref c_NoLine) "__getattribute__" = some (some (.builtin "BaseException.__getattribute__")))
    (gg_NoLine : PySem.W.findIn K (.ref c_NoLine) "__getattr__" = some none)
    (nf_NoLine : PySem.W.findIn K (.ref c_NoLine) "found" = some none)
    (tI_NoLine : PySem.W.typeIn K (.ref fi_NoLine) = some (.type "function"))
    (lI_NoLine : K.lookup fi_NoLine = some ⟨oc_i_NoLine, od_i_NoLine, .func (PySem.W.fnOf "__init__" "NoLine.__init__" (defArgs s_i_NoLine) (defBody s_i_NoLine) (defScope s_i_NoLine) .none kV_i_NoLine dc_i_NoLine pm_i_NoLine an_i_NoLine cd_i_NoLine ct_i_NoLine), sl_i_NoLine⟩)
    (cI_NoLine : PySem.W.codeIn K cd_i_NoLine "NoLine.__init__" = true)
    (kI_NoLine : PySem.W.keepIn K (.ref fi_NoLine) = true)
    (kC_NoLine : PySem.W.keepIn K (.ref c_NoLine) = true)
    (eC_NoLine : PySem.W.subIn K (.ref c_NoLine) (.type "BaseException") = some true)
    (tC_NoLine : PySem.W.typeIn K (.ref c_NoLine) = some (.type "type"))
    (hC_NoLine : PySem.W.hasDictIn K c_NoLine = true)
    (jC_NoLine : PySem.W.isClsIn K c_NoLine = true)
    (sC_NoLine : PySem.W.subIn K (.ref c_NoLine) (.ref c_NoLine) = some true)
    (rd_NoLine : PySem.W.readsIn K c_NoLine (.type "type") = true)
    (sg_NoLine : PySem.W.specialIn K (.ref c_NoLine) "__getattribute__" = some (some (.builtin "type.__getattribute__")))
    (fc_NoLine : PySem.W.findCls K (.ref c_NoLine) (.type "type") "__init__" = some (.val (.ref fi_NoLine)))
    (vV : PySem.W.findCls K (.type "ValueError") (.type "type") "__init__" = some (.val (.builtin "ValueError.__init__")))
    (a_has_only : PySem.W.nsIn K mainGlobals "has_only" = some (some (.ref f_has_only))) (l_has_only : K.lookup f_has_only = some ⟨oc_has_only, od_has_only, .func (PySem.W.fnOf "has_only" "has_only" (defArgs s_has_only) (defBody s_has_only) (defScope s_has_only) .none kV_has_only dc_has_only pm_has_only an_has_only cd_has_only ct_has_only), sl_has_only⟩)
    (c_has_only : PySem.W.codeIn K cd_has_only "has_only" = true) (k_has_only : PySem.W.keepIn K (.ref f_has_only) = true)
    (a__law_cell : PySem.W.nsIn K mainGlobals "_law_cell" = some (some (.ref f__law_cell))) (l__law_cell : K.lookup f__law_cell = some ⟨oc__law_cell, od__law_cell, .func (PySem.W.fnOf "_law_cell" "_law_cell" (defArgs s__law_cell) (defBody s__law_cell) (defScope s__law_cell) .none kV__law_cell dc__law_cell pm__law_cell an__law_cell cd__law_cell ct__law_cell), sl__law_cell⟩)
    (c__law_cell : PySem.W.codeIn K cd__law_cell "_law_cell" = true) (k__law_cell : PySem.W.keepIn K (.ref f__law_cell) = true)
    (a__law_box : PySem.W.nsIn K mainGlobals "_law_box" = some (some (.ref f__law_box))) (l__law_box : K.lookup f__law_box = some ⟨oc__law_box, od__law_box, .func (PySem.W.fnOf "_law_box" "_law_box" (defArgs s__law_box) (defBody s__law_box) (defScope s__law_box) .none kV__law_box dc__law_box pm__law_box an__law_box cd__law_box ct__law_box), sl__law_box⟩)
    (c__law_box : PySem.W.codeIn K cd__law_box "_law_box" = true) (k__law_box : PySem.W.keepIn K (.ref f__law_box) = true)
    (a__law_take : PySem.W.nsIn K mainGlobals "_law_take" = some (some (.ref f__law_take))) (l__law_take : K.lookup f__law_take = some ⟨oc__law_take, od__law_take, .func (PySem.W.fnOf "_law_take" "_law_take" (defArgs s__law_take) (defBody s__law_take) (defScope s__law_take) .none kV__law_take dc__law_take pm__law_take an__law_take cd__law_take ct__law_take), sl__law_take⟩)
    (c__law_take : PySem.W.codeIn K cd__law_take "_law_take" = true) (k__law_take : PySem.W.keepIn K (.ref f__law_take) = true)
    (a__law_forms : PySem.W.nsIn K mainGlobals "_law_forms" = some (some (.ref f__law_forms))) (l__law_forms : K.lookup f__law_forms = some ⟨oc__law_forms, od__law_forms, .func (PySem.W.fnOf "_law_forms" "_law_forms" (defArgs s__law_forms) (defBody s__law_forms) (defScope s__law_forms) .none kV__law_forms dc__law_forms pm__law_forms an__law_forms cd__law_forms ct__law_forms), sl__law_forms⟩)
    (c__law_forms : PySem.W.codeIn K cd__law_forms "_law_forms" = true) (k__law_forms : PySem.W.keepIn K (.ref f__law_forms) = true)
    (a__law_number : PySem.W.nsIn K mainGlobals "_law_number" = some (some (.ref f__law_number))) (l__law_number : K.lookup f__law_number = some ⟨oc__law_number, od__law_number, .func (PySem.W.fnOf "_law_number" "_law_number" (defArgs s__law_number) (defBody s__law_number) (defScope s__law_number) .none kV__law_number dc__law_number pm__law_number an__law_number cd__law_number ct__law_number), sl__law_number⟩)
    (c__law_number : PySem.W.codeIn K cd__law_number "_law_number" = true) (k__law_number : PySem.W.keepIn K (.ref f__law_number) = true)
    (a_is_plainly_written : PySem.W.nsIn K mainGlobals "is_plainly_written" = some (some (.ref f_is_plainly_written))) (l_is_plainly_written : K.lookup f_is_plainly_written = some ⟨oc_is_plainly_written, od_is_plainly_written, .func (PySem.W.fnOf "is_plainly_written" "is_plainly_written" (defArgs s_is_plainly_written) (defBody s_is_plainly_written) (defScope s_is_plainly_written) .none kV_is_plainly_written dc_is_plainly_written pm_is_plainly_written an_is_plainly_written cd_is_plainly_written ct_is_plainly_written), sl_is_plainly_written⟩)
    (c_is_plainly_written : PySem.W.codeIn K cd_is_plainly_written "is_plainly_written" = true) (k_is_plainly_written : PySem.W.keepIn K (.ref f_is_plainly_written) = true)
    (a__law_due : PySem.W.nsIn K mainGlobals "_law_due" = some (some (.ref f__law_due))) (l__law_due : K.lookup f__law_due = some ⟨oc__law_due, od__law_due, .func (PySem.W.fnOf "_law_due" "_law_due" (defArgs s__law_due) (defBody s__law_due) (defScope s__law_due) .none kV__law_due dc__law_due pm__law_due an__law_due cd__law_due ct__law_due), sl__law_due⟩)
    (c__law_due : PySem.W.codeIn K cd__law_due "_law_due" = true) (k__law_due : PySem.W.keepIn K (.ref f__law_due) = true)
    (a__law_word : PySem.W.nsIn K mainGlobals "_law_word" = some (some (.ref f__law_word))) (l__law_word : K.lookup f__law_word = some ⟨oc__law_word, od__law_word, .func (PySem.W.fnOf "_law_word" "_law_word" (defArgs s__law_word) (defBody s__law_word) (defScope s__law_word) .none kV__law_word dc__law_word pm__law_word an__law_word cd__law_word ct__law_word), sl__law_word⟩)
    (c__law_word : PySem.W.codeIn K cd__law_word "_law_word" = true) (k__law_word : PySem.W.keepIn K (.ref f__law_word) = true)
    (a__law_bent : PySem.W.nsIn K mainGlobals "_law_bent" = some (some (.ref f__law_bent))) (l__law_bent : K.lookup f__law_bent = some ⟨oc__law_bent, od__law_bent, .func (PySem.W.fnOf "_law_bent" "_law_bent" (defArgs s__law_bent) (defBody s__law_bent) (defScope s__law_bent) .none kV__law_bent dc__law_bent pm__law_bent an__law_bent cd__law_bent ct__law_bent), sl__law_bent⟩)
    (c__law_bent : PySem.W.codeIn K cd__law_bent "_law_bent" = true) (k__law_bent : PySem.W.keepIn K (.ref f__law_bent) = true)
    (a_whole_in : PySem.W.nsIn K mainGlobals "whole_in" = some (some (.ref f_whole_in))) (l_whole_in : K.lookup f_whole_in = some ⟨oc_whole_in, od_whole_in, .func (PySem.W.fnOf "whole_in" "whole_in" (defArgs s_whole_in) (defBody s_whole_in) (defScope s_whole_in) .none kV_whole_in dc_whole_in pm_whole_in an_whole_in cd_whole_in ct_whole_in), sl_whole_in⟩)
    (c_whole_in : PySem.W.codeIn K cd_whole_in "whole_in" = true) (k_whole_in : PySem.W.keepIn K (.ref f_whole_in) = true)
    (a__law_drawn_line : PySem.W.nsIn K mainGlobals "_law_drawn_line" = some (some (.ref f__law_drawn_line))) (l__law_drawn_line : K.lookup f__law_drawn_line = some ⟨oc__law_drawn_line, od__law_drawn_line, .func (PySem.W.fnOf "_law_drawn_line" "_law_drawn_line" (defArgs s__law_drawn_line) (defBody s__law_drawn_line) (defScope s__law_drawn_line) .none kV__law_drawn_line dc__law_drawn_line pm__law_drawn_line an__law_drawn_line cd__law_drawn_line ct__law_drawn_line), sl__law_drawn_line⟩)
    (c__law_drawn_line : PySem.W.codeIn K cd__law_drawn_line "_law_drawn_line" = true) (k__law_drawn_line : PySem.W.keepIn K (.ref f__law_drawn_line) = true)
    (a_thing_of : PySem.W.nsIn K mainGlobals "thing_of" = some (some (.ref f_thing_of))) (l_thing_of : K.lookup f_thing_of = some ⟨oc_thing_of, od_thing_of, .func (PySem.W.fnOf "thing_of" "thing_of" (defArgs s_thing_of) (defBody s_thing_of) (defScope s_thing_of) .none kV_thing_of dc_thing_of pm_thing_of an_thing_of cd_thing_of ct_thing_of), sl_thing_of⟩)
    (c_thing_of : PySem.W.codeIn K cd_thing_of "thing_of" = true) (k_thing_of : PySem.W.keepIn K (.ref f_thing_of) = true)
    (a_things_in : PySem.W.nsIn K mainGlobals "things_in" = some (some (.ref f_things_in))) (l_things_in : K.lookup f_things_in = some ⟨oc_things_in, od_things_in, .func (PySem.W.fnOf "things_in" "things_in" (defArgs s_things_in) (defBody s_things_in) (defScope s_things_in) .none kV_things_in dc_things_in pm_things_in an_things_in cd_things_in ct_things_in), sl_things_in⟩)
    (c_things_in : PySem.W.codeIn K cd_things_in "things_in" = true) (k_things_in : PySem.W.keepIn K (.ref f_things_in) = true)
    (a_read_line : PySem.W.nsIn K mainGlobals "read_line" = some (some (.ref f_read_line))) (l_read_line : K.lookup f_read_line = some ⟨oc_read_line, od_read_line, .func (PySem.W.fnOf "read_line" "read_line" (defArgs s_read_line) (defBody s_read_line) (defScope s_read_line) .none kV_read_line dc_read_line pm_read_line an_read_line cd_read_line ct_read_line), sl_read_line⟩)
    (c_read_line : PySem.W.codeIn K cd_read_line "read_line" = true) (k_read_line : PySem.W.keepIn K (.ref f_read_line) = true)
    (a__law_told : PySem.W.nsIn K mainGlobals "_law_told" = some (some (.ref f__law_told))) (l__law_told : K.lookup f__law_told = some ⟨oc__law_told, od__law_told, .func (PySem.W.fnOf "_law_told" "_law_told" (defArgs s__law_told) (defBody s__law_told) (defScope s__law_told) .none kV__law_told dc__law_told pm__law_told an__law_told cd__law_told ct__law_told), sl__law_told⟩)
    (c__law_told : PySem.W.codeIn K cd__law_told "_law_told" = true) (k__law_told : PySem.W.keepIn K (.ref f__law_told) = true)
    (a_law : PySem.W.nsIn K mainGlobals "law" = some (some (.ref f_law))) (l_law : K.lookup f_law = some ⟨oc_law, od_law, .func (PySem.W.fnOf "law" "law" (defArgs s_law) (defBody s_law) (defScope s_law) .none kV_law dc_law pm_law an_law cd_law ct_law), sl_law⟩)
    (c_law : PySem.W.codeIn K cd_law "law" = true) (k_law : PySem.W.keepIn K (.ref f_law) = true)
    (g_FIGURES : PySem.W.nsIn K mainGlobals "FIGURES" = some (some u_FIGURES)) (r_FIGURES : RelV (V.str ("0123456789" : Str)) u_FIGURES)
    (g_NO_WORD : PySem.W.nsIn K mainGlobals "NO_WORD" = some (some u_NO_WORD)) (r_NO_WORD : RelV (V.str ("-" : Str)) u_NO_WORD)
    (g_PERHAPS_NONE : PySem.W.nsIn K mainGlobals "PERHAPS_NONE" = some (some (.ref q_PERHAPS_NONE))) (l_PERHAPS_NONE : K.lookup q_PERHAPS_NONE = some ⟨.type "tuple", od_PERHAPS_NONE, .seq its_PERHAPS_NONE n_PERHAPS_NONE, sl_PERHAPS_NONE⟩) (s_PERHAPS_NONE : its_PERHAPS_NONE.size ≤ sizeLine) (v_PERHAPS_NONE : Vals tv_PERHAPS_NONE its_PERHAPS_NONE.toList)
    (g_NUMBERS : PySem.W.nsIn K mainGlobals "NUMBERS" = some (some (.ref q_NUMBERS))) (l_NUMBERS : K.lookup q_NUMBERS = some ⟨.type "tuple", od_NUMBERS, .seq its_NUMBERS n_NUMBERS, sl_NUMBERS⟩) (s_NUMBERS : its_NUMBERS.size ≤ sizeLine) (v_NUMBERS : Vals tv_NUMBERS its_NUMBERS.toList)
    (g_GREATEST_NUMBER : PySem.W.nsIn K mainGlobals "GREATEST_NUMBER" = some (some u_GREATEST_NUMBER)) (r_GREATEST_NUMBER : RelV (V.int 999999999999999999999999999999) u_GREATEST_NUMBER)
    (g_FORMS : PySem.W.nsIn K mainGlobals "FORMS" = some (some (.ref q_FORMS))) (l_FORMS : K.lookup q_FORMS = some { cls := .type "dict", data := .dict es_FORMS n_FORMS }) (s_FORMS : (q_FORMS == sysModules) = false) (v_FORMS : Z.Ents w.params tb_FORMS es_FORMS.toList)
    (g_MOST_SIGNS : PySem.W.nsIn K mainGlobals "MOST_SIGNS" = some (some u_MOST_SIGNS)) (r_MOST_SIGNS : RelV (V.int 400) u_MOST_SIGNS)
    (z_ValueError : PySem.W.nsIn K mainGlobals "ValueError" = some none)
    (z_all : PySem.W.nsIn K mainGlobals "all" = some none)
    (z_len : PySem.W.nsIn K mainGlobals "len" = some none)
    (z_max : PySem.W.nsIn K mainGlobals "max" = some none)
    (z_int : PySem.W.nsIn K mainGlobals "int" = some none)
    (z_tuple : PySem.W.nsIn K mainGlobals "tuple" = some none)
    (z_zip : PySem.W.nsIn K mainGlobals "zip" = some none)
    (z_isinstance : PySem.W.nsIn K mainGlobals "isinstance" = some none)
    (z_str : PySem.W.nsIn K mainGlobals "str" = some none)
    (z_range : PySem.W.nsIn K mainGlobals "range" = some none)
    (z_sorted : PySem.W.nsIn K mainGlobals "sorted" = some none)
    (z_min : PySem.W.nsIn K mainGlobals "min" = some none)
    (z_repr : PySem.W.nsIn K mainGlobals "repr" = some none)
    (z_dict : PySem.W.nsIn K mainGlobals "dict" = some none)
    (z_list : PySem.W.nsIn K mainGlobals "list" = some none)
    : ∃ fd : FuncData, (∀ (s : Shared) (v : Value), BindsTo s fd ⟨[v], []⟩ [("script", v)]) ∧ ∀ base : Heap, K.In base → base.Ns mainGlobals mg → FnG l.prog w K mg base CX0 8 fa fd ["script"] (sp_law K) := by
  have e := hfa.symm.trans (PySem.W.mg_of X G a_law)
  cases e
  have m_ValueError : mg "ValueError" = none := PySem.W.mg_none_of X G z_ValueError
  have m_all : mg "all" = none := PySem.W.mg_none_of X G z_all
  have m_len : mg "len" = none := PySem.W.mg_none_of X G z_len
  have m_max : mg "max" = none := PySem.W.mg_none_of X G z_max
  have m_int : mg "int" = none := PySem.W.mg_none_of X G z_int
  have m_tuple : mg "tuple" = none := PySem.W.mg_none_of X G z_tuple
  have m_zip : mg "zip" = none := PySem.W.mg_none_of X G z_zip
  have m_isinstance : mg "isinstance" = none := PySem.W.mg_none_of X G z_isinstance
  have m_str : mg "str" = none := PySem.W.mg_none_of X G z_str
  have m_range : mg "range" = none := PySem.W.mg_none_of X G z_range
  have m_sorted : mg "sorted" = none := PySem.W.mg_none_of X G z_sorted
  have m_min : mg "min" = none := PySem.W.mg_none_of X G z_min
  have m_repr : mg "repr" = none := PySem.W.mg_none_of X G z_repr
  have m_dict : mg "dict" = none := PySem.W.mg_none_of X G z_dict
  have m_list : mg "list" = none := PySem.W.mg_none_of X G z_list
  have c_FIGURES : ∃ u, mg "FIGURES" = some u ∧ RelV (V.str ("0123456789" : Str)) u := ⟨_, PySem.W.mg_of X G g_FIGURES, r_FIGURES⟩
  have c_NO_WORD : ∃ u, mg "NO_WORD" = some u ∧ RelV (V.str ("-" : Str)) u := ⟨_, PySem.W.mg_of X G g_NO_WORD, r_NO_WORD⟩
  have c_PERHAPS_NONE : ∃ u, mg "PERHAPS_NONE" = some u ∧ RelV (.ref q_PERHAPS_NONE) u := ⟨_, PySem.W.mg_of X G g_PERHAPS_NONE, rfl⟩
  have t_PERHAPS_NONE := Z.tupK_of l_PERHAPS_NONE s_PERHAPS_NONE v_PERHAPS_NONE
  have c_NUMBERS : ∃ u, mg "NUMBERS" = some u ∧ RelV (.ref q_NUMBERS) u := ⟨_, PySem.W.mg_of X G g_NUMBERS, rfl⟩
  have t_NUMBERS := Z.tupK_of l_NUMBERS s_NUMBERS v_NUMBERS
  have c_GREATEST_NUMBER : ∃ u, mg "GREATEST_NUMBER" = some u ∧ RelV (V.int 999999999999999999999999999999) u := ⟨_, PySem.W.mg_of X G g_GREATEST_NUMBER, r_GREATEST_NUMBER⟩
  have c_FORMS : ∃ u, mg "FORMS" = some u ∧ RelV (.ref q_FORMS) u := ⟨_, PySem.W.mg_of X G g_FORMS, rfl⟩
  have t_FORMS := Z.tabK_of (w := w) l_FORMS s_FORMS v_FORMS
  have c_MOST_SIGNS : ∃ u, mg "MOST_SIGNS" = some u ∧ RelV (V.int 400) u := ⟨_, PySem.W.mg_of X G g_MOST_SIGNS, r_MOST_SIGNS⟩
  have F_has_only := fun_mk (st := s_has_only) l_has_only c_has_only k_has_only
  have D_has_only : Df K mg "has_only" s_has_only ["text", "signs"] := ⟨_, _, F_has_only, PySem.W.mg_of X G a_has_only, F_has_only.binds (ps := ["text", "signs"]) fun _ _ _ _ _ _ us hl => match us, hl with | [_, _], _ => rfl⟩
  have F__law_cell := fun_mk (st := s__law_cell) l__law_cell c__law_cell k__law_cell
  have D__law_cell : Df K mg "_law_cell" s__law_cell ["script", "k"] := ⟨_, _, F__law_cell, PySem.W.mg_of X G a__law_cell, F__law_cell.binds (ps := ["script", "k"]) fun _ _ _ _ _ _ us hl => match us, hl with | [_, _], _ => rfl⟩
  have F__law_box := fun_mk (st := s__law_box) l__law_box c__law_box k__law_box
  have D__law_box : Df K mg "_law_box" s__law_box ["cell"] := ⟨_, _, F__law_box, PySem.W.mg_of X G a__law_box, F__law_box.binds (ps := ["cell"]) fun _ _ _ _ _ _ us hl => match us, hl with | [_], _ => rfl⟩
  have F__law_take := fun_mk (st := s__law_take) l__law_take c__law_take k__law_take
  have D__law_take : Df K mg "_law_take" s__law_take ["box", "many"] := ⟨_, _, F__law_take, PySem.W.mg_of X G a__law_take, F__law_take.binds (ps := ["box", "many"]) fun _ _ _ _ _ _ us hl => match us, hl with | [_, _], _ => rfl⟩
  have F__law_forms := fun_mk (st := s__law_forms) l__law_forms c__law_forms k__law_forms
  have D__law_forms : Df K mg "_law_forms" s__law_forms [] := ⟨_, _, F__law_forms, PySem.W.mg_of X G a__law_forms, F__law_forms.binds (ps := []) fun _ _ _ _ _ _ us hl => match us, hl with | [], _ => rfl⟩
  have F__law_number := fun_mk (st := s__law_number) l__law_number c__law_number k__law_number
  have D__law_number : Df K mg "_law_number" s__law_number ["word"] := ⟨_, _, F__law_number, PySem.W.mg_of X G a__law_number, F__law_number.binds (ps := ["word"]) fun _ _ _ _ _ _ us hl => match us, hl with | [_], _ => rfl⟩
  have F_is_plainly_written := fun_mk (st := s_is_plainly_written) l_is_plainly_written c_is_plainly_written k_is_plainly_written
  have D_is_plainly_written : Df K mg "is_plainly_written" s_is_plainly_written ["text"] := ⟨_, _, F_is_plainly_written, PySem.W.mg_of X G a_is_plainly_written, F_is_plainly_written.binds (ps := ["text"]) fun _ _ _ _ _ _ us hl => match us, hl with | [_], _ => rfl⟩
  have F__law_due := fun_mk (st := s__law_due) l__law_due c__law_due k__law_due
  have D__law_due : Df K mg "_law_due" s__law_due ["line"] := ⟨_, _, F__law_due, PySem.W.mg_of X G a__law_due, F__law_due.binds (ps := ["line"]) fun _ _ _ _ _ _ us hl => match us, hl with | [_], _ => rfl⟩
  have F__law_word := fun_mk (st := s__law_word) l__law_word c__law_word k__law_word
  have D__law_word : Df K mg "_law_word" s__law_word ["box"] := ⟨_, _, F__law_word, PySem.W.mg_of X G a__law_word, F__law_word.binds (ps := ["box"]) fun _ _ _ _ _ _ us hl => match us, hl with | [_], _ => rfl⟩
  have F__law_bent := fun_mk (st := s__law_bent) l__law_bent c__law_bent k__law_bent
  have D__law_bent : Df K mg "_law_bent" s__law_bent ["box", "line"] := ⟨_, _, F__law_bent, PySem.W.mg_of X G a__law_bent, F__law_bent.binds (ps := ["box", "line"]) fun _ _ _ _ _ _ us hl => match us, hl with | [_, _], _ => rfl⟩
  have F_whole_in := fun_mk (st := s_whole_in) l_whole_in c_whole_in k_whole_in
  have D_whole_in : Df K mg "whole_in" s_whole_in ["thing", "low", "high"] := ⟨_, _, F_whole_in, PySem.W.mg_of X G a_whole_in, F_whole_in.binds (ps := ["thing", "low", "high"]) fun _ _ _ _ _ _ us hl => match us, hl with | [_, _, _], _ => rfl⟩
  have F__law_drawn_line := fun_mk (st := s__law_drawn_line) l__law_drawn_line c__law_drawn_line k__law_drawn_line
  have D__law_drawn_line : Df K mg "_law_drawn_line" s__law_drawn_line ["box"] := ⟨_, _, F__law_drawn_line, PySem.W.mg_of X G a__law_drawn_line, F__law_drawn_line.binds (ps := ["box"]) fun _ _ _ _ _ _ us hl => match us, hl with | [_], _ => rfl⟩
  have F_thing_of := fun_mk (st := s_thing_of) l_thing_of c_thing_of k_thing_of
  have D_thing_of : Df K mg "thing_of" s_thing_of ["kind", "word"] := ⟨_, _, F_thing_of, PySem.W.mg_of X G a_thing_of, F_thing_of.binds (ps := ["kind", "word"]) fun _ _ _ _ _ _ us hl => match us, hl with | [_, _], _ => rfl⟩
  have F_things_in := fun_mk (st := s_things_in) l_things_in c_things_in k_things_in
  have D_things_in : Df K mg "things_in" s_things_in ["line"] := ⟨_, _, F_things_in, PySem.W.mg_of X G a_things_in, F_things_in.binds (ps := ["line"]) fun _ _ _ _ _ _ us hl => match us, hl with | [_], _ => rfl⟩
  have F_read_line := fun_mk (st := s_read_line) l_read_line c_read_line k_read_line
  have D_read_line : Df K mg "read_line" s_read_line ["line"] := ⟨_, _, F_read_line, PySem.W.mg_of X G a_read_line, F_read_line.binds (ps := ["line"]) fun _ _ _ _ _ _ us hl => match us, hl with | [_], _ => rfl⟩
  have F__law_told := fun_mk (st := s__law_told) l__law_told c__law_told k__law_told
  have D__law_told : Df K mg "_law_told" s__law_told ["line"] := ⟨_, _, F__law_told, PySem.W.mg_of X G a__law_told, F__law_told.binds (ps := ["line"]) fun _ _ _ _ _ _ us hl => match us, hl with | [_], _ => rfl⟩
  have F_law := fun_mk (st := s_law) l_law c_law k_law
  have D_law : Df K mg "law" s_law ["script"] := ⟨_, _, F_law, PySem.W.mg_of X G a_law, F_law.binds (ps := ["script"]) fun _ _ _ _ _ _ us hl => match us, hl with | [_], _ => rfl⟩
  have FI_ShelvesError := fun_mk (st := s_i_ShelvesError) lI_ShelvesError cI_ShelvesError kI_ShelvesError
  have T_ShelvesError : OexC K c_ShelvesError := ⟨⟨_, _, _, _, _, _, _, _, _, _, _, _, _, _, _, xL_ShelvesError, (by show PySem.HandSPX.refsVE [.type "ValueError", .type "Exception", .type "BaseException", .type "object"] = true; decide +kernel)⟩, sa_ShelvesError, eC_ShelvesError, tC_ShelvesError, kC_ShelvesError⟩
  have FI_NoLine := fun_mk (st := s_i_NoLine) lI_NoLine cI_NoLine kI_NoLine
  have T_NoLine : OexC K c_NoLine := ⟨⟨_, _, _, _, _, _, _, _, _, _, _, _, _, _, _, xL_NoLine, (by show PySem.HandSPX.refsVE [.type "ValueError", .type "Exception", .type "BaseException", .type "object"] = true; decide +kernel)⟩, sa_NoLine, eC_NoLine, tC_NoLine, kC_NoLine⟩
  refine ⟨PySem.W.fnOf "law" "law" (defArgs s_law) (defBody s_law) (defScope s_law) .none kV_law dc_law pm_law an_law cd_law ct_law, fun s v => .of_eq rfl, fun base _ _ => ?_⟩
  have E_ShelvesError : Ke l.prog w K mg base 1 "ShelvesError" c_ShelvesError (spBare K) := ⟨T_ShelvesError, ⟨ga_ShelvesError, gg_ShelvesError, eC_ShelvesError, hC_ShelvesError⟩, PySem.W.mg_of X G aC_ShelvesError, exm_own eC_ShelvesError jC_ShelvesError tC_ShelvesError sC_ShelvesError, fi_ShelvesError, _, ["self", "text"], My.fi_ShelvesError FI_ShelvesError m_ValueError vV, iC_ShelvesError, tI_ShelvesError, (FI_ShelvesError.binds (ps := ["self", "text"]) fun _ _ _ _ _ _ us hl => match us, hl with | [_, _], _ => rfl), kI_ShelvesError, _, ⟨rd_ShelvesError, sg_ShelvesError⟩, fc_ShelvesError⟩
  have E_NoLine : Ke l.prog w K mg base 2 "NoLine" c_NoLine (spFound K) := ⟨T_NoLine, ⟨ga_NoLine, gg_NoLine, eC_NoLine, hC_NoLine⟩, PySem.W.mg_of X G aC_NoLine, exm_own eC_NoLine jC_NoLine tC_NoLine sC_NoLine, fi_NoLine, _, ["self", "found"], My.fi_NoLine FI_NoLine E_ShelvesError, iC_NoLine, tI_NoLine, (FI_NoLine.binds (ps := ["self", "found"]) fun _ _ _ _ _ _ us hl => match us, hl with | [_, _], _ => rfl), kI_NoLine, _, ⟨rd_NoLine, sg_NoLine⟩, fc_NoLine⟩
  have K_has_only : Kn l.prog w K mg base 1 "has_only" (sp_has_only K) := kn_has_only D_has_only m_all
  have K__law_cell : Kn l.prog w K mg base 1 "_law_cell" (sp__law_cell K) := kn__law_cell D__law_cell m_len
  have K__law_box : Kn l.prog w K mg base 1 "_law_box" (sp__law_box K) := kn__law_box D__law_box m_max
  have K__law_take : Kn l.prog w K mg base 1 "_law_take" (sp__law_take K) := kn__law_take D__law_take 
  have K__law_forms : Kn l.prog w K mg base 1 "_law_forms" (sp__law_forms K) := kn__law_forms D__law_forms 
  have K__law_number : Kn l.prog w K mg base 1 "_law_number" (sp__law_number K) := kn__law_number D__law_number m_int m_len
  have K_is_plainly_written : Kn l.prog w K mg base 2 "is_plainly_written" (sp_is_plainly_written K) := kn_is_plainly_written D_is_plainly_written c_FIGURES K_has_only
  have K__law_due : Kn l.prog w K mg base 2 "_law_due" (sp__law_due K) := kn__law_due D__law_due m_tuple m_zip m_len m_isinstance m_str K__law_number K__law_forms
  have K__law_word : Kn l.prog w K mg base 2 "_law_word" (sp__law_word K) := kn__law_word D__law_word m_len m_range K__law_take
  have K__law_bent : Kn l.prog w K mg base 2 "_law_bent" (sp__law_bent K) := kn__law_bent D__law_bent m_len K__law_take
  have K_whole_in : Kn l.prog w K mg base 3 "whole_in" (sp_whole_in K) := kn_whole_in D_whole_in m_int m_len m_str m_isinstance K_is_plainly_written
  have K__law_drawn_line : Kn l.prog w K mg base 3 "_law_drawn_line" (sp__law_drawn_line K) := kn__law_drawn_line D__law_drawn_line m_str m_sorted m_len K__law_word K__law_take K__law_forms
  have K_thing_of : Kn l.prog w K mg base 4 "thing_of" (sp_thing_of K) := kn_thing_of D_thing_of c_NO_WORD c_PERHAPS_NONE t_PERHAPS_NONE c_NUMBERS t_NUMBERS c_GREATEST_NUMBER K_whole_in
  have K_things_in : Kn l.prog w K mg base 5 "things_in" (sp_things_in K) := kn_things_in D_things_in m_tuple m_zip m_len c_NUMBERS t_NUMBERS c_FORMS t_FORMS K_thing_of
  have K_read_line : Kg (L2.CX l.prog w) l.prog w K mg base 6 "read_line" (sp_read_line K c_NoLine) := kn_read_line D_read_line m_all m_len m_isinstance m_str c_MOST_SIGNS E_NoLine nf_NoLine K_things_in
  have K__law_told : Kg CX0 l.prog w K mg base 7 "_law_told" (sp__law_told K c_NoLine c_ShelvesError) := kn__law_told D__law_told E_ShelvesError nf_ShelvesError E_NoLine nf_NoLine K_read_line
  exact fn_law F_law m_range m_max m_min m_len m_repr m_isinstance m_dict m_list K__law_bent K__law_due K__law_told K__law_drawn_line K__law_take K__law_box K__law_cell
theorem walk {l : PySem.W.OpenLaw} {q : Program} {loose : List Str} {XP : (Str → Option Value) → Heap → Prop} {YP : World → Heap → Prop} {d : DefRec} {K : Params → PySem.W.Frag} (hn : l.most = some 63) (hdf : d.params.defaults = [])
    (hY : ∀ (w : World) (h : Heap), YP w h → (K w.params).In h)
    (F : ∀ (w : World) (mg : Str → Option Value) (fa : Addr) (h : Heap), (K w.params).In h → h.Ns mainGlobals mg → mg d.name = some (.ref fa) →
      ∃ fd : FuncData, (∀ (s : Shared) (u : Value), BindsTo s fd ⟨[u], []⟩ [("script", u)]) ∧ ∀ base : Heap, (K w.params).In base → base.Ns mainGlobals mg → FnG l.prog w (K w.params) mg base CX0 8 fa fd ["script"] (sp_law (K w.params))) :
    PySem.W.WalkO q loose XP YP l.row.toRowW d [] (fun f vs => PySem.call f vs) :=
  walk_g (n := 63) (k := 8) (x := "script") (CX := fun _ => CX0) (sp := fun w => sp_law (K w.params)) hn (by decide) hdf ⟨⟨rfl, by decide, by decide⟩, rfl⟩ hY F (fun _ _ a ns hl _ hS => ⟨a, ns, rfl, hS, hl, fun _ => rfl⟩) fun _ _ _ _ _ z => z
end My
open PySem PySem.W PyProof.Rows
set_option maxRecDepth 100000 in
set_option maxHeartbeats 0 in
theorem PySem.Challenge.cw_shelvesmoved_k81_lines_read_holds : PySem.Challenge.rw_shelvesmoved_k81_lines_read.Holds := by
  w_on; o_law; k_head; (case hw => w_witness2)
  k_fill
  refine My.walk (l := PySem.Challenge.rw_shelvesmoved_k81_lines_read) rfl rfl (fun w h Y => PySem.W.kIn_of Y) ?F
  case F =>
    intro w mg fa h KX G hmg
    refine' My.all_mk KX G hmg ?aC_ShelvesError ?iC_ShelvesError ?xL_ShelvesError ?sa_ShelvesError ?ga_ShelvesError ?gg_ShelvesError ?nf_ShelvesError ?tI_ShelvesError ?lI_ShelvesError ?cI_ShelvesError ?kI_ShelvesError ?kC_ShelvesError ?eC_ShelvesError ?tC_ShelvesError ?hC_ShelvesError ?jC_ShelvesError ?sC_ShelvesError ?rd_ShelvesError ?sg_ShelvesError ?fc_ShelvesError ?aC_NoLine ?iC_NoLine ?xL_NoLine ?sa_NoLine ?ga_NoLine ?gg_NoLine ?nf_NoLine ?tI_NoLine ?lI_NoLine ?cI_NoLine ?kI_NoLine ?kC_NoLine ?eC_NoLine ?tC_NoLine ?hC_NoLine ?jC_NoLine ?sC_NoLine ?rd_NoLine ?sg_NoLine ?fc_NoLine ?vV ?a_has_only ?l_has_only ?c_has_only ?k_has_only ?a__law_cell ?l__law_cell ?c__law_cell ?k__law_cell ?a__law_box ?l__law_box ?c__law_box ?k__law_box ?a__law_take ?l__law_take ?c__law_take ?k__law_take ?a__law_forms ?l__law_forms ?c__law_forms ?k__law_forms ?a__law_number ?l__law_number ?c__law_number ?k__law_number ?a_is_plainly_written ?l_is_plainly_written ?c_is_plainly_written ?k_is_plainly_written ?a__law_due ?l__law_due ?c__law_due ?k__law_due ?a__law_word ?l__law_word ?c__law_word ?k__law_word ?a__law_bent ?l__law_bent ?c__law_bent ?k__law_bent ?a_whole_in ?l_whole_in ?c_whole_in ?k_whole_in ?a__law_drawn_line ?l__law_drawn_line ?c__law_drawn_line ?k__law_drawn_line ?a_thing_of ?l_thing_of ?c_thing_of ?k_thing_of ?a_things_in ?l_things_in ?c_things_in ?k_things_in ?a_read_line ?l_read_line ?c_read_line ?k_read_line ?a__law_told ?l__law_told ?c__law_told ?k__law_told ?a_law ?l_law ?c_law ?k_law ?g_FIGURES ?r_FIGURES ?g_NO_WORD ?r_NO_WORD ?g_PERHAPS_NONE ?l_PERHAPS_NONE ?s_PERHAPS_NONE ?v_PERHAPS_NONE ?g_NUMBERS ?l_NUMBERS ?s_NUMBERS ?v_NUMBERS ?g_GREATEST_NUMBER ?r_GREATEST_NUMBER ?g_FORMS ?l_FORMS ?s_FORMS ?v_FORMS ?g_MOST_SIGNS ?r_MOST_SIGNS ?z_ValueError ?z_all ?z_len ?z_max ?z_int ?z_tuple ?z_zip ?z_isinstance ?z_str ?z_range ?z_sorted ?z_min ?z_repr ?z_dict ?z_list
    (case aC_ShelvesError => k_is)
    (case iC_ShelvesError => k_is)
    (case xL_ShelvesError => k_is)
    (case sa_ShelvesError => k_is)
    (case ga_ShelvesError => k_is)
    (case gg_ShelvesError => k_is)
    (case nf_ShelvesError => k_is)
    (case tI_ShelvesError => k_is)
    (case lI_ShelvesError => k_is)
    (case cI_ShelvesError => k_is)
    (case kI_ShelvesError => k_is)
    (case kC_ShelvesError => k_is)
    (case eC_ShelvesError => k_is)
    (case tC_ShelvesError => k_is)
    (case hC_ShelvesError => k_is)
    (case jC_ShelvesError => k_is)
    (case sC_ShelvesError => first | rfl | k_is)
    (case rd_ShelvesError => k_is)
    (case sg_ShelvesError => k_is)
    (case fc_ShelvesError => k_is)
    (case aC_NoLine => k_is)
    (case iC_NoLine => k_is)
    (case xL_NoLine => k_is)
    (case sa_NoLine => k_is)
    (case ga_NoLine => k_is)
    (case gg_NoLine => k_is)
    (case nf_NoLine => k_is)
    (case tI_NoLine => k_is)
    (case lI_NoLine => k_is)
    (case cI_NoLine => k_is)
    (case kI_NoLine => k_is)
    (case kC_NoLine => k_is)
    (case eC_NoLine => k_is)
    (case tC_NoLine => k_is)
    (case hC_NoLine => k_is)
    (case jC_NoLine => k_is)
    (case sC_NoLine => first | rfl | k_is)
    (case rd_NoLine => k_is)
    (case sg_NoLine => k_is)
    (case fc_NoLine => k_is)
    (case vV => k_is)
    (case a_has_only => k_is)
    (case l_has_only => k_is)
    (case c_has_only => k_is)
    (case k_has_only => k_is)
    (case a__law_cell => k_is)
    (case l__law_cell => k_is)
    (case c__law_cell => k_is)
    (case k__law_cell => k_is)
    (case a__law_box => k_is)
    (case l__law_box => k_is)
    (case c__law_box => k_is)
    (case k__law_box => k_is)
    (case a__law_take => k_is)
    (case l__law_take => k_is)
    (case c__law_take => k_is)
    (case k__law_take => k_is)
    (case a__law_forms => k_is)
    (case l__law_forms => k_is)
    (case c__law_forms => k_is)
    (case k__law_forms => k_is)
    (case a__law_number => k_is)
    (case l__law_number => k_is)
    (case c__law_number => k_is)
    (case k__law_number => k_is)
    (case a_is_plainly_written => k_is)
    (case l_is_plainly_written => k_is)
    (case c_is_plainly_written => k_is)
    (case k_is_plainly_written => k_is)
    (case a__law_due => k_is)
    (case l__law_due => k_is)
    (case c__law_due => k_is)
    (case k__law_due => k_is)
    (case a__law_word => k_is)
    (case l__law_word => k_is)
    (case c__law_word => k_is)
    (case k__law_word => k_is)
    (case a__law_bent => k_is)
    (case l__law_bent => k_is)
    (case c__law_bent => k_is)
    (case k__law_bent => k_is)
    (case a_whole_in => k_is)
    (case l_whole_in => k_is)
    (case c_whole_in => k_is)
    (case k_whole_in => k_is)
    (case a__law_drawn_line => k_is)
    (case l__law_drawn_line => k_is)
    (case c__law_drawn_line => k_is)
    (case k__law_drawn_line => k_is)
    (case a_thing_of => k_is)
    (case l_thing_of => k_is)
    (case c_thing_of => k_is)
    (case k_thing_of => k_is)
    (case a_things_in => k_is)
    (case l_things_in => k_is)
    (case c_things_in => k_is)
    (case k_things_in => k_is)
    (case a_read_line => k_is)
    (case l_read_line => k_is)
    (case c_read_line => k_is)
    (case k_read_line => k_is)
    (case a__law_told => k_is)
    (case l__law_told => k_is)
    (case c__law_told => k_is)
    (case k__law_told => k_is)
    (case a_law => k_is)
    (case l_law => k_is)
    (case c_law => k_is)
    (case k_law => k_is)
    (case g_FIGURES => k_is)
    (case r_FIGURES => exact ⟨_, rfl⟩)
    (case g_NO_WORD => k_is)
    (case r_NO_WORD => exact ⟨_, rfl⟩)
    (case g_PERHAPS_NONE => k_is)
    (case l_PERHAPS_NONE => k_is)
    (case s_PERHAPS_NONE => decide)
    (case v_PERHAPS_NONE => exact (.cons ⟨_, rfl⟩ (.cons ⟨_, rfl⟩ (.cons ⟨_, rfl⟩ .nil))))
    (case g_NUMBERS => k_is)
    (case l_NUMBERS => k_is)
    (case s_NUMBERS => decide)
    (case v_NUMBERS => exact (.cons ⟨_, rfl⟩ (.cons ⟨_, rfl⟩ (.cons ⟨_, rfl⟩ (.cons ⟨_, rfl⟩ (.cons ⟨_, rfl⟩ (.cons ⟨_, rfl⟩ (.cons ⟨_, rfl⟩ (.cons ⟨_, rfl⟩ (.cons ⟨_, rfl⟩ (.cons ⟨_, rfl⟩ .nil)))))))))))
    (case g_GREATEST_NUMBER => k_is)
    (case r_GREATEST_NUMBER => exact ⟨_, rfl⟩)
    (case g_FORMS => k_is)
    (case l_FORMS => k_is)
    (case s_FORMS => decide)
    (case v_FORMS => exact (.cons rfl (.cons rfl (.cons rfl (.cons rfl (.cons rfl (.cons rfl (.cons rfl (.cons rfl (.cons rfl (.cons rfl (.cons rfl (.cons rfl (.cons rfl (.cons rfl (.cons rfl (.cons rfl (.cons rfl (.cons rfl (.cons rfl (.cons rfl (.cons rfl (.cons rfl (.cons rfl (.cons rfl (.cons rfl (.cons rfl (.cons rfl (.cons rfl (.cons rfl (.cons rfl (.cons rfl (.cons rfl (.cons rfl (.cons rfl (.cons rfl (.cons rfl .nil)))))))))))))))))))))))))))))))))))))
    (case g_MOST_SIGNS => k_is)
    (case r_MOST_SIGNS => exact ⟨_, rfl⟩)
    (case z_ValueError => k_is)
    (case z_all => k_is)
    (case z_len => k_is)
    (case z_max => k_is)
    (case z_int => k_is)
    (case z_tuple => k_is)
    (case z_zip => k_is)
    (case z_isinstance => k_is)
    (case z_str => k_is)
    (case z_range => k_is)
    (case z_sorted => k_is)
    (case z_min => k_is)
    (case z_repr => k_is)
    (case z_dict => k_is)
    (case z_list => k_is)
#print axioms PySem.Challenge.cw_shelvesmoved_k81_lines_read_holds
