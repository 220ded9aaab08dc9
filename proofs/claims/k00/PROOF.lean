import PyProof.Rows.All
import Wide.All
import OpenK.AllK
import Wide.FinOn
import PySem.Challenge.RW_fourcreases_k00_errors_and_their_fields
import HandS.ForMost
import HandS.ForExc
import HandS.WordsExc
import HandS.TryOnly
import HandS.IsInst
import HandS.Wide
import HandS.WideBits
import HandS.Gcd
import HandS.ExcInit
import HandS.Evl
import HandS.HotCalls
import HandS.ExcField
import KE.KExcIs
set_option Elab.async false
set_option linter.all false
set_option maxRecDepth 100000
set_option maxHeartbeats 4000000
namespace Fc
open PySem PySem.Spec PyProof.Rows L2
section
variable {X : Cx}
theorem op_fdivG : OpR X (binaryOp .FloorDiv) (rI (fun _ j => j ≠ 0 ∧ j.natAbs.log2 < 9000) fun i j => .int (i.fdiv j)) :=
  opI fun _ _ _ _ _ _ _ hc q => PyProof.Rows.floordiv_int hc.1 q (.inl (PyProof.noPylong_of_log2 hc.2))

/-- the empty __init__ of an error -/
def spPass : Sp := fun vs H Q _ => (∃ v, vs = [v]) ∧ Q .non H
variable {C fI : Addr} {x : Str} {p pos : Pos} {k : Nat} {fd : FuncData}
/-- what is known of an error's class whose __init__ has no arguments and does nothing -/
structure Ex0 (P : Program) (w : World) (K : PySem.W.Frag) (mg : Str → Option Value) (base : Heap) (x : Str) (C : Addr) : Prop where
  T : OexC K C
  gC : mg x = some (.ref C)
  te : PySem.W.exmOne K (.ref C) (.ref C) = some true
  ini : ∃ fI fd, PySem.W.findIn K (.ref C) "__init__" = some (some (.ref fI)) ∧ PySem.W.typeIn K (.ref fI) = some (.type "function") ∧
    FnOk P w K mg base CX0 1 fI fd ["self"] spPass ∧ Binds K fd ["self"] []
theorem pmk0 (Z : Ex0 X.prog X.w X.K X.mg X.base x C) (hr : Room 2 X.A) (hg : Gl X x) (hdb : (x == ("__debug__" : Str)) = false := by decide) :
    PMk X (.Call (.Name x p) [] [] pos) (fun _ H Q => Q (.ref C) none H) := by
  intro pins s σ H Q I h
  obtain ⟨fI, fd, iC, tI, F1, hb⟩ := Z.ini
  obtain ⟨nm, q, N, bs, bm, sn, sub, ab, col, dd, k0, k1, k2, k3, k5, hC, hbm⟩ := Z.T.cls
  refine wpAny_Call_Name_kw (ld_glob I hg Z.gC ?_ hdb)
  refine PySem.W.callWith_K0 I.kIn Z.T.kC ?_
  obtain ⟨hp, g, dr, tk, os⟩ := s
  have hsz : hp.objs.size ≤ hp.objs.size + 1 := Nat.le_succ _
  have hn : H (hp.objs.size + 1) = none := I.hok.fresh hsz
  let hp2 := (hp.push (PySem.W.kdv_tup [])).push (PySem.HandSPX.excO C hp.objs.size)
  have kk : ∀ b o, hp.get? b = some o → hp2.get? b = some o := fun b o e => Heap.get?_push_of_some _ (Heap.get?_push_of_some _ e)
  have hget : hp2.get? (hp.objs.size + 1) = some (PySem.HandSPX.excO C hp.objs.size) := by
    show ((hp.push (PySem.W.kdv_tup [])).push (PySem.HandSPX.excO C hp.objs.size)).get? (hp.objs.size + 1) = _
    heap_get
  have I2 : Inv X pins σ H ⟨hp2, g, dr, tk, os⟩ := I.kept (t' := tk) kk
  have r2 : Vals [V.ref (hp.objs.size + 1)] [Value.ref (hp.objs.size + 1)] := .cons rfl .nil
  refine wpAny_call (PySem.HandSPX.call_own F.excBase_ValueError (fun Y => PySem.HandSPX.refsVE_contains Y bm hbm) (I.kIn _ _ hC) (PySem.W.looks_findIn I.kIn iC) (fun self => PySem.W.bind_fn I.kIn self tI) (Nat.zero_le _)
    (codeAny_mono (F1.run _ X.stack _ _ ⟨[Value.ref (hp.objs.size + 1)], []⟩ [Value.ref (hp.objs.size + 1)] _ (fun v H2 => v = .non ∧ H2 = H) (fun _ _ _ => False) ((hr.make C [] []).mono (by decide)) (I2.env0.make C [] []) (hb _ [Value.ref (hp.objs.size + 1)] I2.kIn rfl) r2 ⟨⟨_, rfl⟩, rfl, rfl⟩) fun r s' hq' => ?_))
  cases r with
  | error er => exact False.elim hq'
  | ok fl =>
    cases fl with
    | next => exact False.elim hq'
    | brk => exact False.elim hq'
    | cont => exact False.elim hq'
    | ret u =>
      obtain ⟨v, H2, os2, bare2, un2, hok2, rv, ev, eH⟩ := hq'
      subst ev eH
      obtain ⟨h2, g2, d2, t2, os'⟩ := s'
      obtain rfl : os' = os := os2
      have nh : ∀ {b : Addr} {o : Obj}, hp.get? b = some o → b ≠ hp.objs.size + 1 := fun {b o} z => Nat.ne_of_lt (Nat.lt_of_lt_of_le (Heap.lt_size z) hsz)
      obtain ⟨sl, he⟩ := un2.any hget hn (by simp)
      obtain ⟨G', g1, g2'⟩ := restrict h2 fun b => decide (b ≠ hp.objs.size + 1)
      have gk : ∀ b, b ≠ hp.objs.size + 1 → G'.get? b = h2.get? b := fun b hb => g1 b (decide_eq_true hb)
      have ge : G'.get? (hp.objs.size + 1) = none := g2' _ (by simp)
      have U : Un (frs X.stack) [] H2 H2 hp G' := {
        keep := fun b o z n hf hx => (gk b (nh z)).trans (un2.keep b o (kk b o z) n hf hx)
        slot := fun b o z n hf hx => by
          rw [gk b (nh z)]
          exact un2.slot b o (kk b o z) n hf hx
        free := fun b o z n hx => n
        there := fun b o z hx => by
          rw [gk b (nh z)]
          exact un2.there b o (kk b o z) hx
        tups := fun b xs z => z
        frzs := fun b o v z => z
        tbls := fun b ps z => un2.tbls b ps z }
      have hok3 : HOk X.prog X.w H2 G' := fun b o z => by
        have ne : ∀ c u, H2 c = some u → c ≠ hp.objs.size + 1 := fun c u e => ne_of_none e hn
        refine (hok2 b o z).stay (fun c v hc y => ?_) (fun c hc => hc) (fun c xs hc => hc)
        rcases hc with rfl | hc
        · rw [gk _ (ne _ _ z)]
          exact y
        · rw [gk _ (ne _ _ hc)]
          exact y
      have J : L2.Inv X pins σ H2 ⟨G', g2, d2, t2, os'⟩ := I.call' (ch := []) rfl U hok3 bare2 (fun b z => absurd z (by simp))
      refine ⟨rv, hp.objs.size + 1, _, _, ⟨G', g2, d2, t2, os'⟩, H2, .ref C, none, rfl, J, fun b o z => ?_, ge, he, ⟨rfl, rfl⟩, rfl, rfl, hn, rfl, bare2, raises_own Z.T.exC Z.T.tyC, h⟩
      by_cases hb : b = hp.objs.size + 1
      · have z' : G'.get? b = some o := z
        rw [hb, ge] at z'
        cases z'
      · exact (gk b hb).symm.trans z

end
/-! ### a def as its callers know it -/
structure Df (P : Program) (w : World) (K : PySem.W.Frag) (mg : Str → Option Value) (base : Heap) (CX : CXT) (k : Nat) (x : Str) (ps : List Str) (sp : Sp) where
  f : Addr
  fd : FuncData
  g : mg x = some (.ref f)
  kp : PySem.W.keepIn K (.ref f) = true
  b : Binds K fd ps []
  F : FnOk P w K mg base CX k f fd ps sp
/-- the built-in names that the text leaves alone -/
structure Nb (mg : Str → Option Value) : Prop where
  int : mg "int" = none
  bool : mg "bool" = none
  tuple : mg "tuple" = none
  list : mg "list" = none
  len : mg "len" = none
  abs : mg "abs" = none
  min : mg "min" = none
  max : mg "max" = none
  range : mg "range" = none
  isinstance : mg "isinstance" = none
/-! ### readings by name -/
def rAbs : List V → Hp → VK → Prop := fun xs H Q => ∃ i, xs = [.int i] ∧ Q (.int (if i < 0 then -i else i)) H
def rInt1 : List V → Hp → VK → Prop := fun xs H Q => (∃ i, xs = [.int i] ∧ Q (.int i) H) ∨ ∃ k, xs = [.bl k] ∧ Q (.int (if k then 1 else 0)) H
def rLenQ (K : PySem.W.Frag) : List V → Hp → VK → Prop := fun xs H Q => ∃ p ys, xs = [.ref p] ∧ (SqL K H p ys ∨ SqT K H p ys) ∧ Q (.int ys.length) H
def rListOf (K : PySem.W.Frag) : List V → Hp → VK → Prop := fun xs H Q => ∃ p ys, xs = [.ref p] ∧ (SqL K H p ys ∨ SqT K H p ys) ∧ ∀ l, H l = none → Q (.ref l) (upd H l (.lst ys))
def rMin2 : List V → Hp → VK → Prop := fun xs H Q => ∃ i j, xs = [.int i, .int j] ∧ Q (.int (if j < i then j else i)) H
def rMax2 : List V → Hp → VK → Prop := fun xs H Q => ∃ i j, xs = [.int i, .int j] ∧ Q (.int (if i < j then j else i)) H
def rIsN : R2 := fun x y H Q => y = .non ∧ Q (.bl (decide (x = .non))) H
def rNotN : R2 := fun x y H Q => y = .non ∧ Q (.bl (!decide (x = .non))) H
section
variable {X : Cx}
theorem cq_abs : CallR X (.builtin "abs") rAbs := call_abs
theorem cq_int : CallR X (.type "int") rInt1 := call_int1
theorem cq_len : CallR X (.builtin "len") (rLenQ X.K) := call_len_seq
theorem cq_list : CallR X (.type "list") (rListOf X.K) := call_list_of
theorem cq_min (hc : X.calm = true) : CallR X (.builtin "min") rMin2 := call_min2 hc
theorem cq_max (hc : X.calm = true) : CallR X (.builtin "max") rMax2 := call_max2 hc
theorem oq_isN : OpR X (compareOp .Is) rIsN := op_isN
theorem oq_notN : OpR X (compareOp .IsNot) rNotN := op_notN
end
theorem notT : (!true) = false := rfl
theorem notF : (!false) = true := rfl
/-! ### comparisons, shut -/
@[irreducible] def ltB (i j : Int) : Bool := decide (i < j)
@[irreducible] def leB (i j : Int) : Bool := decide (i ≤ j)
@[irreducible] def eqB (i j : Int) : Bool := decide (i = j)
theorem ltB_def {i j : Int} : ltB i j = decide (i < j) := by unfold ltB; rfl
theorem leB_def {i j : Int} : leB i j = decide (i ≤ j) := by unfold leB; rfl
theorem eqB_def {i j : Int} : eqB i j = decide (i = j) := by unfold eqB; rfl
/-- what a flag says -/
class BP (b : Bool) (p : outParam Prop) : Prop where
  iff : b = true ↔ p
instance {i j : Int} : BP (ltB i j) (i < j) := ⟨by rw [ltB_def]; exact decide_eq_true_iff⟩
instance {i j : Int} : BP (leB i j) (i ≤ j) := ⟨by rw [leB_def]; exact decide_eq_true_iff⟩
instance {i j : Int} : BP (eqB i j) (i = j) := ⟨by rw [eqB_def]; exact decide_eq_true_iff⟩
instance {p : Prop} [Decidable p] : BP (decide p) p := ⟨decide_eq_true_iff⟩
instance {b c : Bool} {p q : Prop} [h : BP b p] [k : BP c q] : BP (b && c) (p ∧ q) := ⟨by rw [Bool.and_eq_true, h.iff, k.iff]⟩
instance {b c : Bool} {p q : Prop} [h : BP b p] [k : BP c q] : BP (b || c) (p ∨ q) := ⟨by rw [Bool.or_eq_true, h.iff, k.iff]⟩
instance {b : Bool} {p : Prop} [h : BP b p] : BP (!b) (¬ p) := ⟨by rw [← h.iff, Bool.not_eq_true']; cases b <;> simp⟩
theorem bp_t {b : Bool} {p : Prop} [k : BP b p] (h : p) : b = true := k.iff.mpr h
theorem bp_f {b : Bool} {p : Prop} [k : BP b p] (h : ¬ p) : b = false := by
  cases e : b with
  | false => rfl
  | true => exact absurd (k.iff.mp e) h
theorem eqT {i j : Int} (h : i = j) : eqB i j = true := bp_t h
theorem eqF {i j : Int} (h : i ≠ j) : eqB i j = false := bp_f h
theorem eqB_t {i j : Int} (h : eqB i j = true) : i = j := by rw [eqB_def] at h; exact of_decide_eq_true h
theorem eqB_f {i j : Int} (h : eqB i j = false) : i ≠ j := by rw [eqB_def] at h; exact of_decide_eq_false h
theorem ltT {i j : Int} (h : i < j) : ltB i j = true := bp_t h
theorem ltF {i j : Int} (h : ¬ i < j) : ltB i j = false := bp_f h
/-! ### steps of a reading -/
section
variable {K : PySem.W.Frag} {D : Ends} {σ : L2.St} {H : Hp} {Q : VK} {v : V} {te ta tb : TE} {t u : TS} {g : TG}
theorem w_seq (h : t { D with nx := u D } σ H) : tSeq t u D σ H := h
theorem w_next (h : D.nx σ H) : tNext D σ H := h
theorem w_asg (h : te σ H fun x H1 => g x σ H1 D.nx) : tAsg te g D σ H := h
theorem w_drop (h : te σ H fun _ H1 => D.nx σ H1) : tDrop te D σ H := h
theorem w_ret (h : te σ H D.rt) : tRet te D σ H := h
theorem w_retN (h : D.rt .non H) : tRetN D σ H := h
theorem w_brk (h : D.bk σ H) : tBreak D σ H := h
theorem w_cont (h : D.ct σ H) : tCont D σ H := h
theorem w_c (h : Q v H) : tC v σ H Q := h
theorem w_op {r : R2} (h : ta σ H fun x H1 => tb σ H1 fun y H2 => r x y H2 Q) : tOp r ta tb σ H Q := h
theorem w_un {r : V → Hp → VK → Prop} (h : ta σ H fun x H1 => r x H1 Q) : tUn r ta σ H Q := h
theorem w_cb {r : List V → Hp → VK → Prop} {tt : TA} (h : tt σ H fun vs H1 => r vs H1 Q) : tCB r tt σ H Q := h
theorem w_nil {Q : List V → Hp → Prop} (h : Q [] H) : tNil σ H Q := h
theorem w_cons {Q : List V → Hp → Prop} {tr : TA} (h : ta σ H fun x H1 => tr σ H1 fun xs H2 => Q (x :: xs) H2) : tCons ta tr σ H Q := h
theorem w_call {sp : Sp} {dvs : List V} {E : XK} {tt : TA} (h : tt σ H fun vs H1 => sp (vs ++ dvs) H1 Q E) : tCall sp dvs E tt σ H Q := h
theorem w_tup {tt : TA} (h : tt σ H fun xs H1 => xs.length ≤ sizeLine ∧ ∀ p, H1 p = none → Q (.ref p) (upd H1 p (.tup xs))) : tTup tt σ H Q := h
theorem w_lst {tt : TA} (h : tt σ H fun xs H1 => xs.length ≤ sizeLine ∧ ∀ p, H1 p = none → Q (.ref p) (upd H1 p (.lst xs))) : tLst tt σ H Q := h
theorem w_new {xs : List V} {F : Addr → Prop} (h : ∀ p, H p = none → F p) (hl : xs.length.ble 1000 = true := by rfl) : xs.length ≤ sizeLine ∧ ∀ p, H p = none → F p := ⟨Nat.le_of_lt (small1000 (Nat.le_of_ble_eq_true hl)), h⟩
theorem w_ifs {c : TT} (h : c σ H fun b H1 => if b = true then t D σ H1 else u D σ H1) : tIfS c t u D σ H := h
theorem w_ife {c : TT} (h : c σ H fun b H1 => if b = true then ta σ H1 Q else tb σ H1 Q) : tIf c ta tb σ H Q := h
theorem w_test {Q : Bool → Hp → Prop} (h : te σ H fun x H1 => ∃ k, x = .bl k ∧ Q k H1) : tTest te σ H Q := h
theorem w_tB {Q : Bool → Hp → Prop} (h : te σ H fun x H1 => ∃ k, x = .bl k ∧ Q k H1) : tB te σ H Q := h
theorem w_bl {b : Bool} {F : Bool → Prop} (h : F b) : ∃ k, V.bl b = .bl k ∧ F k := ⟨b, rfl, h⟩
theorem w_and {c d : TT} {Q : Bool → Hp → Prop} (h : c σ H fun b H1 => if b = true then d σ H1 Q else Q false H1) : tAnd c d σ H Q := h
theorem w_or {c d : TT} {Q : Bool → Hp → Prop} (h : c σ H fun b H1 => if b = true then Q true H1 else d σ H1 Q) : tOr c d σ H Q := h
theorem w_not {c : TT} {Q : Bool → Hp → Prop} (h : c σ H fun b H1 => Q (!b) H1) : tNot c σ H Q := h
theorem w_andV (h : ta σ H fun x H1 => ∃ c, x = .bl c ∧ if c = true then tb σ H1 Q else Q (.bl false) H1) : tAndV ta tb σ H Q := h
theorem w_orV (h : ta σ H fun x H1 => ∃ c, x = .bl c ∧ if c = true then Q (.bl true) H1 else tb σ H1 Q) : tOrV ta tb σ H Q := h
theorem w_notV (h : ta σ H fun x H1 => ∃ c, x = .bl c ∧ Q (.bl (!c)) H1) : tNotV ta σ H Q := h
theorem w_I0 {gg : Int → Int → V} {i j : Int} (h : Q (gg i j) H) : rI0 gg (.int i) (.int j) H Q := ⟨i, j, rfl, rfl, h⟩
theorem w_I {C : Int → Int → Prop} {gg : Int → Int → V} {i j : Int} (hc : C i j) (h : Q (gg i j) H) : rI C gg (.int i) (.int j) H Q := ⟨i, j, rfl, rfl, hc, h⟩
theorem w_U {gg : Int → V} {i : Int} (h : Q (gg i) H) : rU gg (.int i) H Q := ⟨i, rfl, h⟩
theorem int_dec {i j : Int} : decide (V.int i = V.int j) = decide (i = j) := by
  by_cases h : i = j
  · subst h
    rw [decide_eq_true rfl, decide_eq_true rfl]
  · rw [decide_eq_false h, decide_eq_false fun e => h (V.int.inj e)]
theorem w_eqI {i j : Int} (h : Q (.bl (eqB i j)) H) : rEq (.int i) (.int j) H Q := ⟨rfl, by rw [int_dec, ← eqB_def]; exact h⟩
theorem w_neI {i j : Int} (h : Q (.bl (!eqB i j)) H) : rNe (.int i) (.int j) H Q := ⟨rfl, by rw [int_dec, ← eqB_def]; exact h⟩
theorem w_lt {i j : Int} (h : Q (.bl (ltB i j)) H) : rI0 (fun i j => .bl (decide (i < j))) (.int i) (.int j) H Q := ⟨i, j, rfl, rfl, by show Q (.bl (decide (i < j))) H; rw [← ltB_def]; exact h⟩
theorem w_le {i j : Int} (h : Q (.bl (leB i j)) H) : rI0 (fun i j => .bl (decide (i ≤ j))) (.int i) (.int j) H Q := ⟨i, j, rfl, rfl, by show Q (.bl (decide (i ≤ j))) H; rw [← leB_def]; exact h⟩
theorem w_gt {i j : Int} (h : Q (.bl (ltB j i)) H) : rI0 (fun i j => .bl (decide (j < i))) (.int i) (.int j) H Q := ⟨i, j, rfl, rfl, by show Q (.bl (decide (j < i))) H; rw [← ltB_def]; exact h⟩
theorem w_ge {i j : Int} (h : Q (.bl (leB j i)) H) : rI0 (fun i j => .bl (decide (j ≤ i))) (.int i) (.int j) H Q := ⟨i, j, rfl, rfl, by show Q (.bl (decide (j ≤ i))) H; rw [← leB_def]; exact h⟩
theorem w_abs {i : Int} (h : Q (.int (i.natAbs : Int)) H) : rAbs [.int i] H Q := ⟨i, rfl, by
  have e : (if i < 0 then -i else i) = (i.natAbs : Int) := by split <;> omega
  rw [e]
  exact h⟩
theorem w_int {i : Int} (h : Q (.int i) H) : rInt1 [.int i] H Q := .inl ⟨i, rfl, h⟩
theorem w_lenL {p : Addr} {ys : List V} (e : SqL K H p ys) (h : Q (.int ys.length) H) : rLenQ K [.ref p] H Q := ⟨p, ys, rfl, .inl e, h⟩
theorem w_lenT {p : Addr} {ys : List V} (e : SqT K H p ys) (h : Q (.int ys.length) H) : rLenQ K [.ref p] H Q := ⟨p, ys, rfl, .inr e, h⟩
theorem w_min {i j : Int} (h : Q (.int (if j < i then j else i)) H) : rMin2 [.int i, .int j] H Q := ⟨i, j, rfl, h⟩
theorem w_max {i j : Int} (h : Q (.int (if i < j then j else i)) H) : rMax2 [.int i, .int j] H Q := ⟨i, j, rfl, h⟩
theorem w_ixL {p : Addr} {xs : List V} {i : Int} {v : V} (e : SqL K H p xs) (ha : atI xs i = some v) (h : Q v H) : rIxL K (.ref p) (.int i) H Q := ⟨p, xs, i, v, rfl, rfl, e, ha, h⟩
theorem w_ixT {p : Addr} {xs : List V} {i : Int} {v : V} (e : SqT K H p xs) (ha : atI xs i = some v) (h : Q v H) : rIxT K (.ref p) (.int i) H Q := ⟨p, xs, i, v, rfl, rfl, e, ha, h⟩
theorem w_gcd {a b : Int} (h : Q (.int ((Nat.gcd a.natAbs b.natAbs : Nat) : Int)) H) : rGcd [.int a, .int b] H Q := ⟨a, b, rfl, h⟩
theorem w_sub {to ti : TE} {tset : TSet} {Q : L2.St → Hp → Prop} (h : to σ H fun o H1 => ti σ H1 fun i H2 => tset o i v H2 fun H3 => Q σ H3) : gSub to ti tset v σ H Q := h
theorem w_setL {p : Addr} {xs : List V} {k : Int} {j : Nat} {y : V} {Q : Hp → Prop} (e : H p = some (.lst xs)) (hj : ixN xs.length k = some j) (h : Q (upd H p (.lst (xs.set j y)))) : rSetL (.ref p) (.int k) y H Q := ⟨p, xs, k, j, rfl, rfl, e, hj, h⟩
theorem w_par {i j : Nat} {tt : TA} (h : tt σ H fun vs H1 => ∃ v w, vs = [v, w] ∧ D.nx ((σ.set i (some v)).set j (some w)) H1) : tPar i j tt D σ H := h
theorem w_two {a b : V} {F : V → V → Prop} (h : F a b) : ∃ v w, [a, b] = [v, w] ∧ F v w := ⟨a, b, rfl, h⟩
theorem w_if {b : Bool} {A B : Prop} (h1 : b = true → A) (h2 : b = false → B) : if b = true then A else B := by
  cases b with
  | true => exact iteT (h1 rfl)
  | false => exact iteF (h2 rfl)
theorem w_ifd {b : Bool} {p : Prop} {A B : Prop} [k : BP b p] (h1 : p → A) (h2 : ¬ p → B) : if b = true then A else B := w_if (fun c => h1 (k.iff.mp c)) fun c => h2 fun z => by
  rw [k.iff.mpr z] at c
  cases c
theorem w_ifn {b : Bool} {p : Prop} {A B : Prop} [k : BP b p] (h1 : ¬ p → A) (h2 : p → B) : if (!b) = true then A else B := by
  cases e : b with
  | true => exact iteF (h2 (k.iff.mp e))
  | false => exact iteT (h1 fun z => by
      rw [k.iff.mpr z] at e
      cases e)
theorem w_v0 {r : L2.St} (h : Q v H) : tVar 0 (some v :: r) H Q := ⟨v, rfl, h⟩
theorem w_g0 {o : Option V} {r : L2.St} {Q : L2.St → Hp → Prop} (h : Q (some v :: r) H) : gName 0 v (o :: r) H Q := h
theorem w_s0 {o p : Option V} {r : L2.St} {F : L2.St → Prop} (h : F (p :: r)) : F ((o :: r).set 0 p) := h
theorem w_v1 {x0 : Option V} {r : L2.St} (h : Q v H) : tVar 1 (x0 :: some v :: r) H Q := ⟨v, rfl, h⟩
theorem w_g1 {x0 : Option V} {o : Option V} {r : L2.St} {Q : L2.St → Hp → Prop} (h : Q (x0 :: some v :: r) H) : gName 1 v (x0 :: o :: r) H Q := h
theorem w_s1 {x0 : Option V} {o p : Option V} {r : L2.St} {F : L2.St → Prop} (h : F (x0 :: p :: r)) : F ((x0 :: o :: r).set 1 p) := h
theorem w_v2 {x0 x1 : Option V} {r : L2.St} (h : Q v H) : tVar 2 (x0 :: x1 :: some v :: r) H Q := ⟨v, rfl, h⟩
theorem w_g2 {x0 x1 : Option V} {o : Option V} {r : L2.St} {Q : L2.St → Hp → Prop} (h : Q (x0 :: x1 :: some v :: r) H) : gName 2 v (x0 :: x1 :: o :: r) H Q := h
theorem w_s2 {x0 x1 : Option V} {o p : Option V} {r : L2.St} {F : L2.St → Prop} (h : F (x0 :: x1 :: p :: r)) : F ((x0 :: x1 :: o :: r).set 2 p) := h
theorem w_v3 {x0 x1 x2 : Option V} {r : L2.St} (h : Q v H) : tVar 3 (x0 :: x1 :: x2 :: some v :: r) H Q := ⟨v, rfl, h⟩
theorem w_g3 {x0 x1 x2 : Option V} {o : Option V} {r : L2.St} {Q : L2.St → Hp → Prop} (h : Q (x0 :: x1 :: x2 :: some v :: r) H) : gName 3 v (x0 :: x1 :: x2 :: o :: r) H Q := h
theorem w_s3 {x0 x1 x2 : Option V} {o p : Option V} {r : L2.St} {F : L2.St → Prop} (h : F (x0 :: x1 :: x2 :: p :: r)) : F ((x0 :: x1 :: x2 :: o :: r).set 3 p) := h
theorem w_v4 {x0 x1 x2 x3 : Option V} {r : L2.St} (h : Q v H) : tVar 4 (x0 :: x1 :: x2 :: x3 :: some v :: r) H Q := ⟨v, rfl, h⟩
theorem w_g4 {x0 x1 x2 x3 : Option V} {o : Option V} {r : L2.St} {Q : L2.St → Hp → Prop} (h : Q (x0 :: x1 :: x2 :: x3 :: some v :: r) H) : gName 4 v (x0 :: x1 :: x2 :: x3 :: o :: r) H Q := h
theorem w_s4 {x0 x1 x2 x3 : Option V} {o p : Option V} {r : L2.St} {F : L2.St → Prop} (h : F (x0 :: x1 :: x2 :: x3 :: p :: r)) : F ((x0 :: x1 :: x2 :: x3 :: o :: r).set 4 p) := h
theorem w_v5 {x0 x1 x2 x3 x4 : Option V} {r : L2.St} (h : Q v H) : tVar 5 (x0 :: x1 :: x2 :: x3 :: x4 :: some v :: r) H Q := ⟨v, rfl, h⟩
theorem w_g5 {x0 x1 x2 x3 x4 : Option V} {o : Option V} {r : L2.St} {Q : L2.St → Hp → Prop} (h : Q (x0 :: x1 :: x2 :: x3 :: x4 :: some v :: r) H) : gName 5 v (x0 :: x1 :: x2 :: x3 :: x4 :: o :: r) H Q := h
theorem w_s5 {x0 x1 x2 x3 x4 : Option V} {o p : Option V} {r : L2.St} {F : L2.St → Prop} (h : F (x0 :: x1 :: x2 :: x3 :: x4 :: p :: r)) : F ((x0 :: x1 :: x2 :: x3 :: x4 :: o :: r).set 5 p) := h
theorem w_v6 {x0 x1 x2 x3 x4 x5 : Option V} {r : L2.St} (h : Q v H) : tVar 6 (x0 :: x1 :: x2 :: x3 :: x4 :: x5 :: some v :: r) H Q := ⟨v, rfl, h⟩
theorem w_g6 {x0 x1 x2 x3 x4 x5 : Option V} {o : Option V} {r : L2.St} {Q : L2.St → Hp → Prop} (h : Q (x0 :: x1 :: x2 :: x3 :: x4 :: x5 :: some v :: r) H) : gName 6 v (x0 :: x1 :: x2 :: x3 :: x4 :: x5 :: o :: r) H Q := h
theorem w_s6 {x0 x1 x2 x3 x4 x5 : Option V} {o p : Option V} {r : L2.St} {F : L2.St → Prop} (h : F (x0 :: x1 :: x2 :: x3 :: x4 :: x5 :: p :: r)) : F ((x0 :: x1 :: x2 :: x3 :: x4 :: x5 :: o :: r).set 6 p) := h
theorem w_v7 {x0 x1 x2 x3 x4 x5 x6 : Option V} {r : L2.St} (h : Q v H) : tVar 7 (x0 :: x1 :: x2 :: x3 :: x4 :: x5 :: x6 :: some v :: r) H Q := ⟨v, rfl, h⟩
theorem w_g7 {x0 x1 x2 x3 x4 x5 x6 : Option V} {o : Option V} {r : L2.St} {Q : L2.St → Hp → Prop} (h : Q (x0 :: x1 :: x2 :: x3 :: x4 :: x5 :: x6 :: some v :: r) H) : gName 7 v (x0 :: x1 :: x2 :: x3 :: x4 :: x5 :: x6 :: o :: r) H Q := h
theorem w_s7 {x0 x1 x2 x3 x4 x5 x6 : Option V} {o p : Option V} {r : L2.St} {F : L2.St → Prop} (h : F (x0 :: x1 :: x2 :: x3 :: x4 :: x5 :: x6 :: p :: r)) : F ((x0 :: x1 :: x2 :: x3 :: x4 :: x5 :: x6 :: o :: r).set 7 p) := h
theorem w_v8 {x0 x1 x2 x3 x4 x5 x6 x7 : Option V} {r : L2.St} (h : Q v H) : tVar 8 (x0 :: x1 :: x2 :: x3 :: x4 :: x5 :: x6 :: x7 :: some v :: r) H Q := ⟨v, rfl, h⟩
theorem w_g8 {x0 x1 x2 x3 x4 x5 x6 x7 : Option V} {o : Option V} {r : L2.St} {Q : L2.St → Hp → Prop} (h : Q (x0 :: x1 :: x2 :: x3 :: x4 :: x5 :: x6 :: x7 :: some v :: r) H) : gName 8 v (x0 :: x1 :: x2 :: x3 :: x4 :: x5 :: x6 :: x7 :: o :: r) H Q := h
theorem w_s8 {x0 x1 x2 x3 x4 x5 x6 x7 : Option V} {o p : Option V} {r : L2.St} {F : L2.St → Prop} (h : F (x0 :: x1 :: x2 :: x3 :: x4 :: x5 :: x6 :: x7 :: p :: r)) : F ((x0 :: x1 :: x2 :: x3 :: x4 :: x5 :: x6 :: x7 :: o :: r).set 8 p) := h
theorem w_v9 {x0 x1 x2 x3 x4 x5 x6 x7 x8 : Option V} {r : L2.St} (h : Q v H) : tVar 9 (x0 :: x1 :: x2 :: x3 :: x4 :: x5 :: x6 :: x7 :: x8 :: some v :: r) H Q := ⟨v, rfl, h⟩
theorem w_g9 {x0 x1 x2 x3 x4 x5 x6 x7 x8 : Option V} {o : Option V} {r : L2.St} {Q : L2.St → Hp → Prop} (h : Q (x0 :: x1 :: x2 :: x3 :: x4 :: x5 :: x6 :: x7 :: x8 :: some v :: r) H) : gName 9 v (x0 :: x1 :: x2 :: x3 :: x4 :: x5 :: x6 :: x7 :: x8 :: o :: r) H Q := h
theorem w_s9 {x0 x1 x2 x3 x4 x5 x6 x7 x8 : Option V} {o p : Option V} {r : L2.St} {F : L2.St → Prop} (h : F (x0 :: x1 :: x2 :: x3 :: x4 :: x5 :: x6 :: x7 :: x8 :: p :: r)) : F ((x0 :: x1 :: x2 :: x3 :: x4 :: x5 :: x6 :: x7 :: x8 :: o :: r).set 9 p) := h
theorem w_v10 {x0 x1 x2 x3 x4 x5 x6 x7 x8 x9 : Option V} {r : L2.St} (h : Q v H) : tVar 10 (x0 :: x1 :: x2 :: x3 :: x4 :: x5 :: x6 :: x7 :: x8 :: x9 :: some v :: r) H Q := ⟨v, rfl, h⟩
theorem w_g10 {x0 x1 x2 x3 x4 x5 x6 x7 x8 x9 : Option V} {o : Option V} {r : L2.St} {Q : L2.St → Hp → Prop} (h : Q (x0 :: x1 :: x2 :: x3 :: x4 :: x5 :: x6 :: x7 :: x8 :: x9 :: some v :: r) H) : gName 10 v (x0 :: x1 :: x2 :: x3 :: x4 :: x5 :: x6 :: x7 :: x8 :: x9 :: o :: r) H Q := h
theorem w_s10 {x0 x1 x2 x3 x4 x5 x6 x7 x8 x9 : Option V} {o p : Option V} {r : L2.St} {F : L2.St → Prop} (h : F (x0 :: x1 :: x2 :: x3 :: x4 :: x5 :: x6 :: x7 :: x8 :: x9 :: p :: r)) : F ((x0 :: x1 :: x2 :: x3 :: x4 :: x5 :: x6 :: x7 :: x8 :: x9 :: o :: r).set 10 p) := h
theorem w_v11 {x0 x1 x2 x3 x4 x5 x6 x7 x8 x9 x10 : Option V} {r : L2.St} (h : Q v H) : tVar 11 (x0 :: x1 :: x2 :: x3 :: x4 :: x5 :: x6 :: x7 :: x8 :: x9 :: x10 :: some v :: r) H Q := ⟨v, rfl, h⟩
theorem w_g11 {x0 x1 x2 x3 x4 x5 x6 x7 x8 x9 x10 : Option V} {o : Option V} {r : L2.St} {Q : L2.St → Hp → Prop} (h : Q (x0 :: x1 :: x2 :: x3 :: x4 :: x5 :: x6 :: x7 :: x8 :: x9 :: x10 :: some v :: r) H) : gName 11 v (x0 :: x1 :: x2 :: x3 :: x4 :: x5 :: x6 :: x7 :: x8 :: x9 :: x10 :: o :: r) H Q := h
theorem w_s11 {x0 x1 x2 x3 x4 x5 x6 x7 x8 x9 x10 : Option V} {o p : Option V} {r : L2.St} {F : L2.St → Prop} (h : F (x0 :: x1 :: x2 :: x3 :: x4 :: x5 :: x6 :: x7 :: x8 :: x9 :: x10 :: p :: r)) : F ((x0 :: x1 :: x2 :: x3 :: x4 :: x5 :: x6 :: x7 :: x8 :: x9 :: x10 :: o :: r).set 11 p) := h
theorem w_v12 {x0 x1 x2 x3 x4 x5 x6 x7 x8 x9 x10 x11 : Option V} {r : L2.St} (h : Q v H) : tVar 12 (x0 :: x1 :: x2 :: x3 :: x4 :: x5 :: x6 :: x7 :: x8 :: x9 :: x10 :: x11 :: some v :: r) H Q := ⟨v, rfl, h⟩
theorem w_g12 {x0 x1 x2 x3 x4 x5 x6 x7 x8 x9 x10 x11 : Option V} {o : Option V} {r : L2.St} {Q : L2.St → Hp → Prop} (h : Q (x0 :: x1 :: x2 :: x3 :: x4 :: x5 :: x6 :: x7 :: x8 :: x9 :: x10 :: x11 :: some v :: r) H) : gName 12 v (x0 :: x1 :: x2 :: x3 :: x4 :: x5 :: x6 :: x7 :: x8 :: x9 :: x10 :: x11 :: o :: r) H Q := h
theorem w_s12 {x0 x1 x2 x3 x4 x5 x6 x7 x8 x9 x10 x11 : Option V} {o p : Option V} {r : L2.St} {F : L2.St → Prop} (h : F (x0 :: x1 :: x2 :: x3 :: x4 :: x5 :: x6 :: x7 :: x8 :: x9 :: x10 :: x11 :: p :: r)) : F ((x0 :: x1 :: x2 :: x3 :: x4 :: x5 :: x6 :: x7 :: x8 :: x9 :: x10 :: x11 :: o :: r).set 12 p) := h
theorem w_v13 {x0 x1 x2 x3 x4 x5 x6 x7 x8 x9 x10 x11 x12 : Option V} {r : L2.St} (h : Q v H) : tVar 13 (x0 :: x1 :: x2 :: x3 :: x4 :: x5 :: x6 :: x7 :: x8 :: x9 :: x10 :: x11 :: x12 :: some v :: r) H Q := ⟨v, rfl, h⟩
theorem w_g13 {x0 x1 x2 x3 x4 x5 x6 x7 x8 x9 x10 x11 x12 : Option V} {o : Option V} {r : L2.St} {Q : L2.St → Hp → Prop} (h : Q (x0 :: x1 :: x2 :: x3 :: x4 :: x5 :: x6 :: x7 :: x8 :: x9 :: x10 :: x11 :: x12 :: some v :: r) H) : gName 13 v (x0 :: x1 :: x2 :: x3 :: x4 :: x5 :: x6 :: x7 :: x8 :: x9 :: x10 :: x11 :: x12 :: o :: r) H Q := h
theorem w_s13 {x0 x1 x2 x3 x4 x5 x6 x7 x8 x9 x10 x11 x12 : Option V} {o p : Option V} {r : L2.St} {F : L2.St → Prop} (h : F (x0 :: x1 :: x2 :: x3 :: x4 :: x5 :: x6 :: x7 :: x8 :: x9 :: x10 :: x11 :: x12 :: p :: r)) : F ((x0 :: x1 :: x2 :: x3 :: x4 :: x5 :: x6 :: x7 :: x8 :: x9 :: x10 :: x11 :: x12 :: o :: r).set 13 p) := h
theorem w_v14 {x0 x1 x2 x3 x4 x5 x6 x7 x8 x9 x10 x11 x12 x13 : Option V} {r : L2.St} (h : Q v H) : tVar 14 (x0 :: x1 :: x2 :: x3 :: x4 :: x5 :: x6 :: x7 :: x8 :: x9 :: x10 :: x11 :: x12 :: x13 :: some v :: r) H Q := ⟨v, rfl, h⟩
theorem w_g14 {x0 x1 x2 x3 x4 x5 x6 x7 x8 x9 x10 x11 x12 x13 : Option V} {o : Option V} {r : L2.St} {Q : L2.St → Hp → Prop} (h : Q (x0 :: x1 :: x2 :: x3 :: x4 :: x5 :: x6 :: x7 :: x8 :: x9 :: x10 :: x11 :: x12 :: x13 :: some v :: r) H) : gName 14 v (x0 :: x1 :: x2 :: x3 :: x4 :: x5 :: x6 :: x7 :: x8 :: x9 :: x10 :: x11 :: x12 :: x13 :: o :: r) H Q := h
theorem w_s14 {x0 x1 x2 x3 x4 x5 x6 x7 x8 x9 x10 x11 x12 x13 : Option V} {o p : Option V} {r : L2.St} {F : L2.St → Prop} (h : F (x0 :: x1 :: x2 :: x3 :: x4 :: x5 :: x6 :: x7 :: x8 :: x9 :: x10 :: x11 :: x12 :: x13 :: p :: r)) : F ((x0 :: x1 :: x2 :: x3 :: x4 :: x5 :: x6 :: x7 :: x8 :: x9 :: x10 :: x11 :: x12 :: x13 :: o :: r).set 14 p) := h
theorem w_v15 {x0 x1 x2 x3 x4 x5 x6 x7 x8 x9 x10 x11 x12 x13 x14 : Option V} {r : L2.St} (h : Q v H) : tVar 15 (x0 :: x1 :: x2 :: x3 :: x4 :: x5 :: x6 :: x7 :: x8 :: x9 :: x10 :: x11 :: x12 :: x13 :: x14 :: some v :: r) H Q := ⟨v, rfl, h⟩
theorem w_g15 {x0 x1 x2 x3 x4 x5 x6 x7 x8 x9 x10 x11 x12 x13 x14 : Option V} {o : Option V} {r : L2.St} {Q : L2.St → Hp → Prop} (h : Q (x0 :: x1 :: x2 :: x3 :: x4 :: x5 :: x6 :: x7 :: x8 :: x9 :: x10 :: x11 :: x12 :: x13 :: x14 :: some v :: r) H) : gName 15 v (x0 :: x1 :: x2 :: x3 :: x4 :: x5 :: x6 :: x7 :: x8 :: x9 :: x10 :: x11 :: x12 :: x13 :: x14 :: o :: r) H Q := h
theorem w_s15 {x0 x1 x2 x3 x4 x5 x6 x7 x8 x9 x10 x11 x12 x13 x14 : Option V} {o p : Option V} {r : L2.St} {F : L2.St → Prop} (h : F (x0 :: x1 :: x2 :: x3 :: x4 :: x5 :: x6 :: x7 :: x8 :: x9 :: x10 :: x11 :: x12 :: x13 :: x14 :: p :: r)) : F ((x0 :: x1 :: x2 :: x3 :: x4 :: x5 :: x6 :: x7 :: x8 :: x9 :: x10 :: x11 :: x12 :: x13 :: x14 :: o :: r).set 15 p) := h
theorem w_v16 {x0 x1 x2 x3 x4 x5 x6 x7 x8 x9 x10 x11 x12 x13 x14 x15 : Option V} {r : L2.St} (h : Q v H) : tVar 16 (x0 :: x1 :: x2 :: x3 :: x4 :: x5 :: x6 :: x7 :: x8 :: x9 :: x10 :: x11 :: x12 :: x13 :: x14 :: x15 :: some v :: r) H Q := ⟨v, rfl, h⟩
theorem w_g16 {x0 x1 x2 x3 x4 x5 x6 x7 x8 x9 x10 x11 x12 x13 x14 x15 : Option V} {o : Option V} {r : L2.St} {Q : L2.St → Hp → Prop} (h : Q (x0 :: x1 :: x2 :: x3 :: x4 :: x5 :: x6 :: x7 :: x8 :: x9 :: x10 :: x11 :: x12 :: x13 :: x14 :: x15 :: some v :: r) H) : gName 16 v (x0 :: x1 :: x2 :: x3 :: x4 :: x5 :: x6 :: x7 :: x8 :: x9 :: x10 :: x11 :: x12 :: x13 :: x14 :: x15 :: o :: r) H Q := h
theorem w_s16 {x0 x1 x2 x3 x4 x5 x6 x7 x8 x9 x10 x11 x12 x13 x14 x15 : Option V} {o p : Option V} {r : L2.St} {F : L2.St → Prop} (h : F (x0 :: x1 :: x2 :: x3 :: x4 :: x5 :: x6 :: x7 :: x8 :: x9 :: x10 :: x11 :: x12 :: x13 :: x14 :: x15 :: p :: r)) : F ((x0 :: x1 :: x2 :: x3 :: x4 :: x5 :: x6 :: x7 :: x8 :: x9 :: x10 :: x11 :: x12 :: x13 :: x14 :: x15 :: o :: r).set 16 p) := h
theorem w_v17 {x0 x1 x2 x3 x4 x5 x6 x7 x8 x9 x10 x11 x12 x13 x14 x15 x16 : Option V} {r : L2.St} (h : Q v H) : tVar 17 (x0 :: x1 :: x2 :: x3 :: x4 :: x5 :: x6 :: x7 :: x8 :: x9 :: x10 :: x11 :: x12 :: x13 :: x14 :: x15 :: x16 :: some v :: r) H Q := ⟨v, rfl, h⟩
theorem w_g17 {x0 x1 x2 x3 x4 x5 x6 x7 x8 x9 x10 x11 x12 x13 x14 x15 x16 : Option V} {o : Option V} {r : L2.St} {Q : L2.St → Hp → Prop} (h : Q (x0 :: x1 :: x2 :: x3 :: x4 :: x5 :: x6 :: x7 :: x8 :: x9 :: x10 :: x11 :: x12 :: x13 :: x14 :: x15 :: x16 :: some v :: r) H) : gName 17 v (x0 :: x1 :: x2 :: x3 :: x4 :: x5 :: x6 :: x7 :: x8 :: x9 :: x10 :: x11 :: x12 :: x13 :: x14 :: x15 :: x16 :: o :: r) H Q := h
theorem w_s17 {x0 x1 x2 x3 x4 x5 x6 x7 x8 x9 x10 x11 x12 x13 x14 x15 x16 : Option V} {o p : Option V} {r : L2.St} {F : L2.St → Prop} (h : F (x0 :: x1 :: x2 :: x3 :: x4 :: x5 :: x6 :: x7 :: x8 :: x9 :: x10 :: x11 :: x12 :: x13 :: x14 :: x15 :: x16 :: p :: r)) : F ((x0 :: x1 :: x2 :: x3 :: x4 :: x5 :: x6 :: x7 :: x8 :: x9 :: x10 :: x11 :: x12 :: x13 :: x14 :: x15 :: x16 :: o :: r).set 17 p) := h
theorem w_v18 {x0 x1 x2 x3 x4 x5 x6 x7 x8 x9 x10 x11 x12 x13 x14 x15 x16 x17 : Option V} {r : L2.St} (h : Q v H) : tVar 18 (x0 :: x1 :: x2 :: x3 :: x4 :: x5 :: x6 :: x7 :: x8 :: x9 :: x10 :: x11 :: x12 :: x13 :: x14 :: x15 :: x16 :: x17 :: some v :: r) H Q := ⟨v, rfl, h⟩
theorem w_g18 {x0 x1 x2 x3 x4 x5 x6 x7 x8 x9 x10 x11 x12 x13 x14 x15 x16 x17 : Option V} {o : Option V} {r : L2.St} {Q : L2.St → Hp → Prop} (h : Q (x0 :: x1 :: x2 :: x3 :: x4 :: x5 :: x6 :: x7 :: x8 :: x9 :: x10 :: x11 :: x12 :: x13 :: x14 :: x15 :: x16 :: x17 :: some v :: r) H) : gName 18 v (x0 :: x1 :: x2 :: x3 :: x4 :: x5 :: x6 :: x7 :: x8 :: x9 :: x10 :: x11 :: x12 :: x13 :: x14 :: x15 :: x16 :: x17 :: o :: r) H Q := h
theorem w_s18 {x0 x1 x2 x3 x4 x5 x6 x7 x8 x9 x10 x11 x12 x13 x14 x15 x16 x17 : Option V} {o p : Option V} {r : L2.St} {F : L2.St → Prop} (h : F (x0 :: x1 :: x2 :: x3 :: x4 :: x5 :: x6 :: x7 :: x8 :: x9 :: x10 :: x11 :: x12 :: x13 :: x14 :: x15 :: x16 :: x17 :: p :: r)) : F ((x0 :: x1 :: x2 :: x3 :: x4 :: x5 :: x6 :: x7 :: x8 :: x9 :: x10 :: x11 :: x12 :: x13 :: x14 :: x15 :: x16 :: x17 :: o :: r).set 18 p) := h
theorem w_v19 {x0 x1 x2 x3 x4 x5 x6 x7 x8 x9 x10 x11 x12 x13 x14 x15 x16 x17 x18 : Option V} {r : L2.St} (h : Q v H) : tVar 19 (x0 :: x1 :: x2 :: x3 :: x4 :: x5 :: x6 :: x7 :: x8 :: x9 :: x10 :: x11 :: x12 :: x13 :: x14 :: x15 :: x16 :: x17 :: x18 :: some v :: r) H Q := ⟨v, rfl, h⟩
theorem w_g19 {x0 x1 x2 x3 x4 x5 x6 x7 x8 x9 x10 x11 x12 x13 x14 x15 x16 x17 x18 : Option V} {o : Option V} {r : L2.St} {Q : L2.St → Hp → Prop} (h : Q (x0 :: x1 :: x2 :: x3 :: x4 :: x5 :: x6 :: x7 :: x8 :: x9 :: x10 :: x11 :: x12 :: x13 :: x14 :: x15 :: x16 :: x17 :: x18 :: some v :: r) H) : gName 19 v (x0 :: x1 :: x2 :: x3 :: x4 :: x5 :: x6 :: x7 :: x8 :: x9 :: x10 :: x11 :: x12 :: x13 :: x14 :: x15 :: x16 :: x17 :: x18 :: o :: r) H Q := h
theorem w_s19 {x0 x1 x2 x3 x4 x5 x6 x7 x8 x9 x10 x11 x12 x13 x14 x15 x16 x17 x18 : Option V} {o p : Option V} {r : L2.St} {F : L2.St → Prop} (h : F (x0 :: x1 :: x2 :: x3 :: x4 :: x5 :: x6 :: x7 :: x8 :: x9 :: x10 :: x11 :: x12 :: x13 :: x14 :: x15 :: x16 :: x17 :: x18 :: p :: r)) : F ((x0 :: x1 :: x2 :: x3 :: x4 :: x5 :: x6 :: x7 :: x8 :: x9 :: x10 :: x11 :: x12 :: x13 :: x14 :: x15 :: x16 :: x17 :: x18 :: o :: r).set 19 p) := h
theorem w_v20 {x0 x1 x2 x3 x4 x5 x6 x7 x8 x9 x10 x11 x12 x13 x14 x15 x16 x17 x18 x19 : Option V} {r : L2.St} (h : Q v H) : tVar 20 (x0 :: x1 :: x2 :: x3 :: x4 :: x5 :: x6 :: x7 :: x8 :: x9 :: x10 :: x11 :: x12 :: x13 :: x14 :: x15 :: x16 :: x17 :: x18 :: x19 :: some v :: r) H Q := ⟨v, rfl, h⟩
theorem w_g20 {x0 x1 x2 x3 x4 x5 x6 x7 x8 x9 x10 x11 x12 x13 x14 x15 x16 x17 x18 x19 : Option V} {o : Option V} {r : L2.St} {Q : L2.St → Hp → Prop} (h : Q (x0 :: x1 :: x2 :: x3 :: x4 :: x5 :: x6 :: x7 :: x8 :: x9 :: x10 :: x11 :: x12 :: x13 :: x14 :: x15 :: x16 :: x17 :: x18 :: x19 :: some v :: r) H) : gName 20 v (x0 :: x1 :: x2 :: x3 :: x4 :: x5 :: x6 :: x7 :: x8 :: x9 :: x10 :: x11 :: x12 :: x13 :: x14 :: x15 :: x16 :: x17 :: x18 :: x19 :: o :: r) H Q := h
theorem w_s20 {x0 x1 x2 x3 x4 x5 x6 x7 x8 x9 x10 x11 x12 x13 x14 x15 x16 x17 x18 x19 : Option V} {o p : Option V} {r : L2.St} {F : L2.St → Prop} (h : F (x0 :: x1 :: x2 :: x3 :: x4 :: x5 :: x6 :: x7 :: x8 :: x9 :: x10 :: x11 :: x12 :: x13 :: x14 :: x15 :: x16 :: x17 :: x18 :: x19 :: p :: r)) : F ((x0 :: x1 :: x2 :: x3 :: x4 :: x5 :: x6 :: x7 :: x8 :: x9 :: x10 :: x11 :: x12 :: x13 :: x14 :: x15 :: x16 :: x17 :: x18 :: x19 :: o :: r).set 20 p) := h
theorem w_v21 {x0 x1 x2 x3 x4 x5 x6 x7 x8 x9 x10 x11 x12 x13 x14 x15 x16 x17 x18 x19 x20 : Option V} {r : L2.St} (h : Q v H) : tVar 21 (x0 :: x1 :: x2 :: x3 :: x4 :: x5 :: x6 :: x7 :: x8 :: x9 :: x10 :: x11 :: x12 :: x13 :: x14 :: x15 :: x16 :: x17 :: x18 :: x19 :: x20 :: some v :: r) H Q := ⟨v, rfl, h⟩
theorem w_g21 {x0 x1 x2 x3 x4 x5 x6 x7 x8 x9 x10 x11 x12 x13 x14 x15 x16 x17 x18 x19 x20 : Option V} {o : Option V} {r : L2.St} {Q : L2.St → Hp → Prop} (h : Q (x0 :: x1 :: x2 :: x3 :: x4 :: x5 :: x6 :: x7 :: x8 :: x9 :: x10 :: x11 :: x12 :: x13 :: x14 :: x15 :: x16 :: x17 :: x18 :: x19 :: x20 :: some v :: r) H) : gName 21 v (x0 :: x1 :: x2 :: x3 :: x4 :: x5 :: x6 :: x7 :: x8 :: x9 :: x10 :: x11 :: x12 :: x13 :: x14 :: x15 :: x16 :: x17 :: x18 :: x19 :: x20 :: o :: r) H Q := h
theorem w_s21 {x0 x1 x2 x3 x4 x5 x6 x7 x8 x9 x10 x11 x12 x13 x14 x15 x16 x17 x18 x19 x20 : Option V} {o p : Option V} {r : L2.St} {F : L2.St → Prop} (h : F (x0 :: x1 :: x2 :: x3 :: x4 :: x5 :: x6 :: x7 :: x8 :: x9 :: x10 :: x11 :: x12 :: x13 :: x14 :: x15 :: x16 :: x17 :: x18 :: x19 :: x20 :: p :: r)) : F ((x0 :: x1 :: x2 :: x3 :: x4 :: x5 :: x6 :: x7 :: x8 :: x9 :: x10 :: x11 :: x12 :: x13 :: x14 :: x15 :: x16 :: x17 :: x18 :: x19 :: x20 :: o :: r).set 21 p) := h
theorem w_v22 {x0 x1 x2 x3 x4 x5 x6 x7 x8 x9 x10 x11 x12 x13 x14 x15 x16 x17 x18 x19 x20 x21 : Option V} {r : L2.St} (h : Q v H) : tVar 22 (x0 :: x1 :: x2 :: x3 :: x4 :: x5 :: x6 :: x7 :: x8 :: x9 :: x10 :: x11 :: x12 :: x13 :: x14 :: x15 :: x16 :: x17 :: x18 :: x19 :: x20 :: x21 :: some v :: r) H Q := ⟨v, rfl, h⟩
theorem w_g22 {x0 x1 x2 x3 x4 x5 x6 x7 x8 x9 x10 x11 x12 x13 x14 x15 x16 x17 x18 x19 x20 x21 : Option V} {o : Option V} {r : L2.St} {Q : L2.St → Hp → Prop} (h : Q (x0 :: x1 :: x2 :: x3 :: x4 :: x5 :: x6 :: x7 :: x8 :: x9 :: x10 :: x11 :: x12 :: x13 :: x14 :: x15 :: x16 :: x17 :: x18 :: x19 :: x20 :: x21 :: some v :: r) H) : gName 22 v (x0 :: x1 :: x2 :: x3 :: x4 :: x5 :: x6 :: x7 :: x8 :: x9 :: x10 :: x11 :: x12 :: x13 :: x14 :: x15 :: x16 :: x17 :: x18 :: x19 :: x20 :: x21 :: o :: r) H Q := h
theorem w_s22 {x0 x1 x2 x3 x4 x5 x6 x7 x8 x9 x10 x11 x12 x13 x14 x15 x16 x17 x18 x19 x20 x21 : Option V} {o p : Option V} {r : L2.St} {F : L2.St → Prop} (h : F (x0 :: x1 :: x2 :: x3 :: x4 :: x5 :: x6 :: x7 :: x8 :: x9 :: x10 :: x11 :: x12 :: x13 :: x14 :: x15 :: x16 :: x17 :: x18 :: x19 :: x20 :: x21 :: p :: r)) : F ((x0 :: x1 :: x2 :: x3 :: x4 :: x5 :: x6 :: x7 :: x8 :: x9 :: x10 :: x11 :: x12 :: x13 :: x14 :: x15 :: x16 :: x17 :: x18 :: x19 :: x20 :: x21 :: o :: r).set 22 p) := h
theorem w_v23 {x0 x1 x2 x3 x4 x5 x6 x7 x8 x9 x10 x11 x12 x13 x14 x15 x16 x17 x18 x19 x20 x21 x22 : Option V} {r : L2.St} (h : Q v H) : tVar 23 (x0 :: x1 :: x2 :: x3 :: x4 :: x5 :: x6 :: x7 :: x8 :: x9 :: x10 :: x11 :: x12 :: x13 :: x14 :: x15 :: x16 :: x17 :: x18 :: x19 :: x20 :: x21 :: x22 :: some v :: r) H Q := ⟨v, rfl, h⟩
theorem w_g23 {x0 x1 x2 x3 x4 x5 x6 x7 x8 x9 x10 x11 x12 x13 x14 x15 x16 x17 x18 x19 x20 x21 x22 : Option V} {o : Option V} {r : L2.St} {Q : L2.St → Hp → Prop} (h : Q (x0 :: x1 :: x2 :: x3 :: x4 :: x5 :: x6 :: x7 :: x8 :: x9 :: x10 :: x11 :: x12 :: x13 :: x14 :: x15 :: x16 :: x17 :: x18 :: x19 :: x20 :: x21 :: x22 :: some v :: r) H) : gName 23 v (x0 :: x1 :: x2 :: x3 :: x4 :: x5 :: x6 :: x7 :: x8 :: x9 :: x10 :: x11 :: x12 :: x13 :: x14 :: x15 :: x16 :: x17 :: x18 :: x19 :: x20 :: x21 :: x22 :: o :: r) H Q := h
theorem w_s23 {x0 x1 x2 x3 x4 x5 x6 x7 x8 x9 x10 x11 x12 x13 x14 x15 x16 x17 x18 x19 x20 x21 x22 : Option V} {o p : Option V} {r : L2.St} {F : L2.St → Prop} (h : F (x0 :: x1 :: x2 :: x3 :: x4 :: x5 :: x6 :: x7 :: x8 :: x9 :: x10 :: x11 :: x12 :: x13 :: x14 :: x15 :: x16 :: x17 :: x18 :: x19 :: x20 :: x21 :: x22 :: p :: r)) : F ((x0 :: x1 :: x2 :: x3 :: x4 :: x5 :: x6 :: x7 :: x8 :: x9 :: x10 :: x11 :: x12 :: x13 :: x14 :: x15 :: x16 :: x17 :: x18 :: x19 :: x20 :: x21 :: x22 :: o :: r).set 23 p) := h
theorem w_v24 {x0 x1 x2 x3 x4 x5 x6 x7 x8 x9 x10 x11 x12 x13 x14 x15 x16 x17 x18 x19 x20 x21 x22 x23 : Option V} {r : L2.St} (h : Q v H) : tVar 24 (x0 :: x1 :: x2 :: x3 :: x4 :: x5 :: x6 :: x7 :: x8 :: x9 :: x10 :: x11 :: x12 :: x13 :: x14 :: x15 :: x16 :: x17 :: x18 :: x19 :: x20 :: x21 :: x22 :: x23 :: some v :: r) H Q := ⟨v, rfl, h⟩
theorem w_g24 {x0 x1 x2 x3 x4 x5 x6 x7 x8 x9 x10 x11 x12 x13 x14 x15 x16 x17 x18 x19 x20 x21 x22 x23 : Option V} {o : Option V} {r : L2.St} {Q : L2.St → Hp → Prop} (h : Q (x0 :: x1 :: x2 :: x3 :: x4 :: x5 :: x6 :: x7 :: x8 :: x9 :: x10 :: x11 :: x12 :: x13 :: x14 :: x15 :: x16 :: x17 :: x18 :: x19 :: x20 :: x21 :: x22 :: x23 :: some v :: r) H) : gName 24 v (x0 :: x1 :: x2 :: x3 :: x4 :: x5 :: x6 :: x7 :: x8 :: x9 :: x10 :: x11 :: x12 :: x13 :: x14 :: x15 :: x16 :: x17 :: x18 :: x19 :: x20 :: x21 :: x22 :: x23 :: o :: r) H Q := h
theorem w_s24 {x0 x1 x2 x3 x4 x5 x6 x7 x8 x9 x10 x11 x12 x13 x14 x15 x16 x17 x18 x19 x20 x21 x22 x23 : Option V} {o p : Option V} {r : L2.St} {F : L2.St → Prop} (h : F (x0 :: x1 :: x2 :: x3 :: x4 :: x5 :: x6 :: x7 :: x8 :: x9 :: x10 :: x11 :: x12 :: x13 :: x14 :: x15 :: x16 :: x17 :: x18 :: x19 :: x20 :: x21 :: x22 :: x23 :: p :: r)) : F ((x0 :: x1 :: x2 :: x3 :: x4 :: x5 :: x6 :: x7 :: x8 :: x9 :: x10 :: x11 :: x12 :: x13 :: x14 :: x15 :: x16 :: x17 :: x18 :: x19 :: x20 :: x21 :: x22 :: x23 :: o :: r).set 24 p) := h
theorem w_v25 {x0 x1 x2 x3 x4 x5 x6 x7 x8 x9 x10 x11 x12 x13 x14 x15 x16 x17 x18 x19 x20 x21 x22 x23 x24 : Option V} {r : L2.St} (h : Q v H) : tVar 25 (x0 :: x1 :: x2 :: x3 :: x4 :: x5 :: x6 :: x7 :: x8 :: x9 :: x10 :: x11 :: x12 :: x13 :: x14 :: x15 :: x16 :: x17 :: x18 :: x19 :: x20 :: x21 :: x22 :: x23 :: x24 :: some v :: r) H Q := ⟨v, rfl, h⟩
theorem w_g25 {x0 x1 x2 x3 x4 x5 x6 x7 x8 x9 x10 x11 x12 x13 x14 x15 x16 x17 x18 x19 x20 x21 x22 x23 x24 : Option V} {o : Option V} {r : L2.St} {Q : L2.St → Hp → Prop} (h : Q (x0 :: x1 :: x2 :: x3 :: x4 :: x5 :: x6 :: x7 :: x8 :: x9 :: x10 :: x11 :: x12 :: x13 :: x14 :: x15 :: x16 :: x17 :: x18 :: x19 :: x20 :: x21 :: x22 :: x23 :: x24 :: some v :: r) H) : gName 25 v (x0 :: x1 :: x2 :: x3 :: x4 :: x5 :: x6 :: x7 :: x8 :: x9 :: x10 :: x11 :: x12 :: x13 :: x14 :: x15 :: x16 :: x17 :: x18 :: x19 :: x20 :: x21 :: x22 :: x23 :: x24 :: o :: r) H Q := h
theorem w_s25 {x0 x1 x2 x3 x4 x5 x6 x7 x8 x9 x10 x11 x12 x13 x14 x15 x16 x17 x18 x19 x20 x21 x22 x23 x24 : Option V} {o p : Option V} {r : L2.St} {F : L2.St → Prop} (h : F (x0 :: x1 :: x2 :: x3 :: x4 :: x5 :: x6 :: x7 :: x8 :: x9 :: x10 :: x11 :: x12 :: x13 :: x14 :: x15 :: x16 :: x17 :: x18 :: x19 :: x20 :: x21 :: x22 :: x23 :: x24 :: p :: r)) : F ((x0 :: x1 :: x2 :: x3 :: x4 :: x5 :: x6 :: x7 :: x8 :: x9 :: x10 :: x11 :: x12 :: x13 :: x14 :: x15 :: x16 :: x17 :: x18 :: x19 :: x20 :: x21 :: x22 :: x23 :: x24 :: o :: r).set 25 p) := h
theorem w_v26 {x0 x1 x2 x3 x4 x5 x6 x7 x8 x9 x10 x11 x12 x13 x14 x15 x16 x17 x18 x19 x20 x21 x22 x23 x24 x25 : Option V} {r : L2.St} (h : Q v H) : tVar 26 (x0 :: x1 :: x2 :: x3 :: x4 :: x5 :: x6 :: x7 :: x8 :: x9 :: x10 :: x11 :: x12 :: x13 :: x14 :: x15 :: x16 :: x17 :: x18 :: x19 :: x20 :: x21 :: x22 :: x23 :: x24 :: x25 :: some v :: r) H Q := ⟨v, rfl, h⟩
theorem w_g26 {x0 x1 x2 x3 x4 x5 x6 x7 x8 x9 x10 x11 x12 x13 x14 x15 x16 x17 x18 x19 x20 x21 x22 x23 x24 x25 : Option V} {o : Option V} {r : L2.St} {Q : L2.St → Hp → Prop} (h : Q (x0 :: x1 :: x2 :: x3 :: x4 :: x5 :: x6 :: x7 :: x8 :: x9 :: x10 :: x11 :: x12 :: x13 :: x14 :: x15 :: x16 :: x17 :: x18 :: x19 :: x20 :: x21 :: x22 :: x23 :: x24 :: x25 :: some v :: r) H) : gName 26 v (x0 :: x1 :: x2 :: x3 :: x4 :: x5 :: x6 :: x7 :: x8 :: x9 :: x10 :: x11 :: x12 :: x13 :: x14 :: x15 :: x16 :: x17 :: x18 :: x19 :: x20 :: x21 :: x22 :: x23 :: x24 :: x25 :: o :: r) H Q := h
theorem w_s26 {x0 x1 x2 x3 x4 x5 x6 x7 x8 x9 x10 x11 x12 x13 x14 x15 x16 x17 x18 x19 x20 x21 x22 x23 x24 x25 : Option V} {o p : Option V} {r : L2.St} {F : L2.St → Prop} (h : F (x0 :: x1 :: x2 :: x3 :: x4 :: x5 :: x6 :: x7 :: x8 :: x9 :: x10 :: x11 :: x12 :: x13 :: x14 :: x15 :: x16 :: x17 :: x18 :: x19 :: x20 :: x21 :: x22 :: x23 :: x24 :: x25 :: p :: r)) : F ((x0 :: x1 :: x2 :: x3 :: x4 :: x5 :: x6 :: x7 :: x8 :: x9 :: x10 :: x11 :: x12 :: x13 :: x14 :: x15 :: x16 :: x17 :: x18 :: x19 :: x20 :: x21 :: x22 :: x23 :: x24 :: x25 :: o :: r).set 26 p) := h
theorem w_v27 {x0 x1 x2 x3 x4 x5 x6 x7 x8 x9 x10 x11 x12 x13 x14 x15 x16 x17 x18 x19 x20 x21 x22 x23 x24 x25 x26 : Option V} {r : L2.St} (h : Q v H) : tVar 27 (x0 :: x1 :: x2 :: x3 :: x4 :: x5 :: x6 :: x7 :: x8 :: x9 :: x10 :: x11 :: x12 :: x13 :: x14 :: x15 :: x16 :: x17 :: x18 :: x19 :: x20 :: x21 :: x22 :: x23 :: x24 :: x25 :: x26 :: some v :: r) H Q := ⟨v, rfl, h⟩
theorem w_g27 {x0 x1 x2 x3 x4 x5 x6 x7 x8 x9 x10 x11 x12 x13 x14 x15 x16 x17 x18 x19 x20 x21 x22 x23 x24 x25 x26 : Option V} {o : Option V} {r : L2.St} {Q : L2.St → Hp → Prop} (h : Q (x0 :: x1 :: x2 :: x3 :: x4 :: x5 :: x6 :: x7 :: x8 :: x9 :: x10 :: x11 :: x12 :: x13 :: x14 :: x15 :: x16 :: x17 :: x18 :: x19 :: x20 :: x21 :: x22 :: x23 :: x24 :: x25 :: x26 :: some v :: r) H) : gName 27 v (x0 :: x1 :: x2 :: x3 :: x4 :: x5 :: x6 :: x7 :: x8 :: x9 :: x10 :: x11 :: x12 :: x13 :: x14 :: x15 :: x16 :: x17 :: x18 :: x19 :: x20 :: x21 :: x22 :: x23 :: x24 :: x25 :: x26 :: o :: r) H Q := h
theorem w_s27 {x0 x1 x2 x3 x4 x5 x6 x7 x8 x9 x10 x11 x12 x13 x14 x15 x16 x17 x18 x19 x20 x21 x22 x23 x24 x25 x26 : Option V} {o p : Option V} {r : L2.St} {F : L2.St → Prop} (h : F (x0 :: x1 :: x2 :: x3 :: x4 :: x5 :: x6 :: x7 :: x8 :: x9 :: x10 :: x11 :: x12 :: x13 :: x14 :: x15 :: x16 :: x17 :: x18 :: x19 :: x20 :: x21 :: x22 :: x23 :: x24 :: x25 :: x26 :: p :: r)) : F ((x0 :: x1 :: x2 :: x3 :: x4 :: x5 :: x6 :: x7 :: x8 :: x9 :: x10 :: x11 :: x12 :: x13 :: x14 :: x15 :: x16 :: x17 :: x18 :: x19 :: x20 :: x21 :: x22 :: x23 :: x24 :: x25 :: x26 :: o :: r).set 27 p) := h
theorem w_v28 {x0 x1 x2 x3 x4 x5 x6 x7 x8 x9 x10 x11 x12 x13 x14 x15 x16 x17 x18 x19 x20 x21 x22 x23 x24 x25 x26 x27 : Option V} {r : L2.St} (h : Q v H) : tVar 28 (x0 :: x1 :: x2 :: x3 :: x4 :: x5 :: x6 :: x7 :: x8 :: x9 :: x10 :: x11 :: x12 :: x13 :: x14 :: x15 :: x16 :: x17 :: x18 :: x19 :: x20 :: x21 :: x22 :: x23 :: x24 :: x25 :: x26 :: x27 :: some v :: r) H Q := ⟨v, rfl, h⟩
theorem w_g28 {x0 x1 x2 x3 x4 x5 x6 x7 x8 x9 x10 x11 x12 x13 x14 x15 x16 x17 x18 x19 x20 x21 x22 x23 x24 x25 x26 x27 : Option V} {o : Option V} {r : L2.St} {Q : L2.St → Hp → Prop} (h : Q (x0 :: x1 :: x2 :: x3 :: x4 :: x5 :: x6 :: x7 :: x8 :: x9 :: x10 :: x11 :: x12 :: x13 :: x14 :: x15 :: x16 :: x17 :: x18 :: x19 :: x20 :: x21 :: x22 :: x23 :: x24 :: x25 :: x26 :: x27 :: some v :: r) H) : gName 28 v (x0 :: x1 :: x2 :: x3 :: x4 :: x5 :: x6 :: x7 :: x8 :: x9 :: x10 :: x11 :: x12 :: x13 :: x14 :: x15 :: x16 :: x17 :: x18 :: x19 :: x20 :: x21 :: x22 :: x23 :: x24 :: x25 :: x26 :: x27 :: o :: r) H Q := h
theorem w_s28 {x0 x1 x2 x3 x4 x5 x6 x7 x8 x9 x10 x11 x12 x13 x14 x15 x16 x17 x18 x19 x20 x21 x22 x23 x24 x25 x26 x27 : Option V} {o p : Option V} {r : L2.St} {F : L2.St → Prop} (h : F (x0 :: x1 :: x2 :: x3 :: x4 :: x5 :: x6 :: x7 :: x8 :: x9 :: x10 :: x11 :: x12 :: x13 :: x14 :: x15 :: x16 :: x17 :: x18 :: x19 :: x20 :: x21 :: x22 :: x23 :: x24 :: x25 :: x26 :: x27 :: p :: r)) : F ((x0 :: x1 :: x2 :: x3 :: x4 :: x5 :: x6 :: x7 :: x8 :: x9 :: x10 :: x11 :: x12 :: x13 :: x14 :: x15 :: x16 :: x17 :: x18 :: x19 :: x20 :: x21 :: x22 :: x23 :: x24 :: x25 :: x26 :: x27 :: o :: r).set 28 p) := h
theorem w_v29 {x0 x1 x2 x3 x4 x5 x6 x7 x8 x9 x10 x11 x12 x13 x14 x15 x16 x17 x18 x19 x20 x21 x22 x23 x24 x25 x26 x27 x28 : Option V} {r : L2.St} (h : Q v H) : tVar 29 (x0 :: x1 :: x2 :: x3 :: x4 :: x5 :: x6 :: x7 :: x8 :: x9 :: x10 :: x11 :: x12 :: x13 :: x14 :: x15 :: x16 :: x17 :: x18 :: x19 :: x20 :: x21 :: x22 :: x23 :: x24 :: x25 :: x26 :: x27 :: x28 :: some v :: r) H Q := ⟨v, rfl, h⟩
theorem w_g29 {x0 x1 x2 x3 x4 x5 x6 x7 x8 x9 x10 x11 x12 x13 x14 x15 x16 x17 x18 x19 x20 x21 x22 x23 x24 x25 x26 x27 x28 : Option V} {o : Option V} {r : L2.St} {Q : L2.St → Hp → Prop} (h : Q (x0 :: x1 :: x2 :: x3 :: x4 :: x5 :: x6 :: x7 :: x8 :: x9 :: x10 :: x11 :: x12 :: x13 :: x14 :: x15 :: x16 :: x17 :: x18 :: x19 :: x20 :: x21 :: x22 :: x23 :: x24 :: x25 :: x26 :: x27 :: x28 :: some v :: r) H) : gName 29 v (x0 :: x1 :: x2 :: x3 :: x4 :: x5 :: x6 :: x7 :: x8 :: x9 :: x10 :: x11 :: x12 :: x13 :: x14 :: x15 :: x16 :: x17 :: x18 :: x19 :: x20 :: x21 :: x22 :: x23 :: x24 :: x25 :: x26 :: x27 :: x28 :: o :: r) H Q := h
theorem w_s29 {x0 x1 x2 x3 x4 x5 x6 x7 x8 x9 x10 x11 x12 x13 x14 x15 x16 x17 x18 x19 x20 x21 x22 x23 x24 x25 x26 x27 x28 : Option V} {o p : Option V} {r : L2.St} {F : L2.St → Prop} (h : F (x0 :: x1 :: x2 :: x3 :: x4 :: x5 :: x6 :: x7 :: x8 :: x9 :: x10 :: x11 :: x12 :: x13 :: x14 :: x15 :: x16 :: x17 :: x18 :: x19 :: x20 :: x21 :: x22 :: x23 :: x24 :: x25 :: x26 :: x27 :: x28 :: p :: r)) : F ((x0 :: x1 :: x2 :: x3 :: x4 :: x5 :: x6 :: x7 :: x8 :: x9 :: x10 :: x11 :: x12 :: x13 :: x14 :: x15 :: x16 :: x17 :: x18 :: x19 :: x20 :: x21 :: x22 :: x23 :: x24 :: x25 :: x26 :: x27 :: x28 :: o :: r).set 29 p) := h
theorem w_v30 {x0 x1 x2 x3 x4 x5 x6 x7 x8 x9 x10 x11 x12 x13 x14 x15 x16 x17 x18 x19 x20 x21 x22 x23 x24 x25 x26 x27 x28 x29 : Option V} {r : L2.St} (h : Q v H) : tVar 30 (x0 :: x1 :: x2 :: x3 :: x4 :: x5 :: x6 :: x7 :: x8 :: x9 :: x10 :: x11 :: x12 :: x13 :: x14 :: x15 :: x16 :: x17 :: x18 :: x19 :: x20 :: x21 :: x22 :: x23 :: x24 :: x25 :: x26 :: x27 :: x28 :: x29 :: some v :: r) H Q := ⟨v, rfl, h⟩
theorem w_g30 {x0 x1 x2 x3 x4 x5 x6 x7 x8 x9 x10 x11 x12 x13 x14 x15 x16 x17 x18 x19 x20 x21 x22 x23 x24 x25 x26 x27 x28 x29 : Option V} {o : Option V} {r : L2.St} {Q : L2.St → Hp → Prop} (h : Q (x0 :: x1 :: x2 :: x3 :: x4 :: x5 :: x6 :: x7 :: x8 :: x9 :: x10 :: x11 :: x12 :: x13 :: x14 :: x15 :: x16 :: x17 :: x18 :: x19 :: x20 :: x21 :: x22 :: x23 :: x24 :: x25 :: x26 :: x27 :: x28 :: x29 :: some v :: r) H) : gName 30 v (x0 :: x1 :: x2 :: x3 :: x4 :: x5 :: x6 :: x7 :: x8 :: x9 :: x10 :: x11 :: x12 :: x13 :: x14 :: x15 :: x16 :: x17 :: x18 :: x19 :: x20 :: x21 :: x22 :: x23 :: x24 :: x25 :: x26 :: x27 :: x28 :: x29 :: o :: r) H Q := h
theorem w_s30 {x0 x1 x2 x3 x4 x5 x6 x7 x8 x9 x10 x11 x12 x13 x14 x15 x16 x17 x18 x19 x20 x21 x22 x23 x24 x25 x26 x27 x28 x29 : Option V} {o p : Option V} {r : L2.St} {F : L2.St → Prop} (h : F (x0 :: x1 :: x2 :: x3 :: x4 :: x5 :: x6 :: x7 :: x8 :: x9 :: x10 :: x11 :: x12 :: x13 :: x14 :: x15 :: x16 :: x17 :: x18 :: x19 :: x20 :: x21 :: x22 :: x23 :: x24 :: x25 :: x26 :: x27 :: x28 :: x29 :: p :: r)) : F ((x0 :: x1 :: x2 :: x3 :: x4 :: x5 :: x6 :: x7 :: x8 :: x9 :: x10 :: x11 :: x12 :: x13 :: x14 :: x15 :: x16 :: x17 :: x18 :: x19 :: x20 :: x21 :: x22 :: x23 :: x24 :: x25 :: x26 :: x27 :: x28 :: x29 :: o :: r).set 30 p) := h
end
theorem w_pow0 {Q : VK} {H : Hp} (h : Q (.int 1) H) : rI CPow (fun i j => .int (i ^ j.toNat)) (.int 10) (.int 0) H Q := ⟨10, 0, rfl, rfl, ⟨by decide, by decide, by decide⟩, h⟩
theorem w_pow1 {Q : VK} {H : Hp} (h : Q (.int 10) H) : rI CPow (fun i j => .int (i ^ j.toNat)) (.int 10) (.int 1) H Q := ⟨10, 1, rfl, rfl, ⟨by decide, by decide, by decide⟩, h⟩
theorem w_pow2 {Q : VK} {H : Hp} (h : Q (.int 100) H) : rI CPow (fun i j => .int (i ^ j.toNat)) (.int 10) (.int 2) H Q := ⟨10, 2, rfl, rfl, ⟨by decide, by decide, by decide⟩, h⟩
theorem w_pow3 {Q : VK} {H : Hp} (h : Q (.int 1000) H) : rI CPow (fun i j => .int (i ^ j.toNat)) (.int 10) (.int 3) H Q := ⟨10, 3, rfl, rfl, ⟨by decide, by decide, by decide⟩, h⟩
theorem w_pow4 {Q : VK} {H : Hp} (h : Q (.int 10000) H) : rI CPow (fun i j => .int (i ^ j.toNat)) (.int 10) (.int 4) H Q := ⟨10, 4, rfl, rfl, ⟨by decide, by decide, by decide⟩, h⟩
theorem w_pow5 {Q : VK} {H : Hp} (h : Q (.int 100000) H) : rI CPow (fun i j => .int (i ^ j.toNat)) (.int 10) (.int 5) H Q := ⟨10, 5, rfl, rfl, ⟨by decide, by decide, by decide⟩, h⟩
theorem w_pow6 {Q : VK} {H : Hp} (h : Q (.int 1000000) H) : rI CPow (fun i j => .int (i ^ j.toNat)) (.int 10) (.int 6) H Q := ⟨10, 6, rfl, rfl, ⟨by decide, by decide, by decide⟩, h⟩
theorem w_pow7 {Q : VK} {H : Hp} (h : Q (.int 10000000) H) : rI CPow (fun i j => .int (i ^ j.toNat)) (.int 10) (.int 7) H Q := ⟨10, 7, rfl, rfl, ⟨by decide, by decide, by decide⟩, h⟩
theorem w_pow8 {Q : VK} {H : Hp} (h : Q (.int 100000000) H) : rI CPow (fun i j => .int (i ^ j.toNat)) (.int 10) (.int 8) H Q := ⟨10, 8, rfl, rfl, ⟨by decide, by decide, by decide⟩, h⟩
theorem w_pow9 {Q : VK} {H : Hp} (h : Q (.int 1000000000) H) : rI CPow (fun i j => .int (i ^ j.toNat)) (.int 10) (.int 9) H Q := ⟨10, 9, rfl, rfl, ⟨by decide, by decide, by decide⟩, h⟩
theorem w_pow10 {Q : VK} {H : Hp} (h : Q (.int 10000000000) H) : rI CPow (fun i j => .int (i ^ j.toNat)) (.int 10) (.int 10) H Q := ⟨10, 10, rfl, rfl, ⟨by decide, by decide, by decide⟩, h⟩
theorem w_pow11 {Q : VK} {H : Hp} (h : Q (.int 100000000000) H) : rI CPow (fun i j => .int (i ^ j.toNat)) (.int 10) (.int 11) H Q := ⟨10, 11, rfl, rfl, ⟨by decide, by decide, by decide⟩, h⟩
theorem w_pow12 {Q : VK} {H : Hp} (h : Q (.int 1000000000000) H) : rI CPow (fun i j => .int (i ^ j.toNat)) (.int 10) (.int 12) H Q := ⟨10, 12, rfl, rfl, ⟨by decide, by decide, by decide⟩, h⟩
theorem w_pow13 {Q : VK} {H : Hp} (h : Q (.int 10000000000000) H) : rI CPow (fun i j => .int (i ^ j.toNat)) (.int 10) (.int 13) H Q := ⟨10, 13, rfl, rfl, ⟨by decide, by decide, by decide⟩, h⟩
theorem w_pow14 {Q : VK} {H : Hp} (h : Q (.int 100000000000000) H) : rI CPow (fun i j => .int (i ^ j.toNat)) (.int 10) (.int 14) H Q := ⟨10, 14, rfl, rfl, ⟨by decide, by decide, by decide⟩, h⟩
theorem w_pow15 {Q : VK} {H : Hp} (h : Q (.int 1000000000000000) H) : rI CPow (fun i j => .int (i ^ j.toNat)) (.int 10) (.int 15) H Q := ⟨10, 15, rfl, rfl, ⟨by decide, by decide, by decide⟩, h⟩
theorem w_pow16 {Q : VK} {H : Hp} (h : Q (.int 10000000000000000) H) : rI CPow (fun i j => .int (i ^ j.toNat)) (.int 10) (.int 16) H Q := ⟨10, 16, rfl, rfl, ⟨by decide, by decide, by decide⟩, h⟩
theorem w_pow17 {Q : VK} {H : Hp} (h : Q (.int 100000000000000000) H) : rI CPow (fun i j => .int (i ^ j.toNat)) (.int 10) (.int 17) H Q := ⟨10, 17, rfl, rfl, ⟨by decide, by decide, by decide⟩, h⟩
theorem w_pow18 {Q : VK} {H : Hp} (h : Q (.int 1000000000000000000) H) : rI CPow (fun i j => .int (i ^ j.toNat)) (.int 10) (.int 18) H Q := ⟨10, 18, rfl, rfl, ⟨by decide, by decide, by decide⟩, h⟩
theorem w_pow19 {Q : VK} {H : Hp} (h : Q (.int 10000000000000000000) H) : rI CPow (fun i j => .int (i ^ j.toNat)) (.int 10) (.int 19) H Q := ⟨10, 19, rfl, rfl, ⟨by decide, by decide, by decide⟩, h⟩
theorem w_pow20 {Q : VK} {H : Hp} (h : Q (.int 100000000000000000000) H) : rI CPow (fun i j => .int (i ^ j.toNat)) (.int 10) (.int 20) H Q := ⟨10, 20, rfl, rfl, ⟨by decide, by decide, by decide⟩, h⟩
theorem w_pow21 {Q : VK} {H : Hp} (h : Q (.int 1000000000000000000000) H) : rI CPow (fun i j => .int (i ^ j.toNat)) (.int 10) (.int 21) H Q := ⟨10, 21, rfl, rfl, ⟨by decide, by decide, by decide⟩, h⟩
theorem w_pow22 {Q : VK} {H : Hp} (h : Q (.int 10000000000000000000000) H) : rI CPow (fun i j => .int (i ^ j.toNat)) (.int 10) (.int 22) H Q := ⟨10, 22, rfl, rfl, ⟨by decide, by decide, by decide⟩, h⟩
theorem w_pow23 {Q : VK} {H : Hp} (h : Q (.int 100000000000000000000000) H) : rI CPow (fun i j => .int (i ^ j.toNat)) (.int 10) (.int 23) H Q := ⟨10, 23, rfl, rfl, ⟨by decide, by decide, by decide⟩, h⟩
theorem w_pow24 {Q : VK} {H : Hp} (h : Q (.int 1000000000000000000000000) H) : rI CPow (fun i j => .int (i ^ j.toNat)) (.int 10) (.int 24) H Q := ⟨10, 24, rfl, rfl, ⟨by decide, by decide, by decide⟩, h⟩
theorem w_pow25 {Q : VK} {H : Hp} (h : Q (.int 10000000000000000000000000) H) : rI CPow (fun i j => .int (i ^ j.toNat)) (.int 10) (.int 25) H Q := ⟨10, 25, rfl, rfl, ⟨by decide, by decide, by decide⟩, h⟩
theorem w_pow26 {Q : VK} {H : Hp} (h : Q (.int 100000000000000000000000000) H) : rI CPow (fun i j => .int (i ^ j.toNat)) (.int 10) (.int 26) H Q := ⟨10, 26, rfl, rfl, ⟨by decide, by decide, by decide⟩, h⟩
theorem w_pow27 {Q : VK} {H : Hp} (h : Q (.int 1000000000000000000000000000) H) : rI CPow (fun i j => .int (i ^ j.toNat)) (.int 10) (.int 27) H Q := ⟨10, 27, rfl, rfl, ⟨by decide, by decide, by decide⟩, h⟩
theorem w_pow28 {Q : VK} {H : Hp} (h : Q (.int 10000000000000000000000000000) H) : rI CPow (fun i j => .int (i ^ j.toNat)) (.int 10) (.int 28) H Q := ⟨10, 28, rfl, rfl, ⟨by decide, by decide, by decide⟩, h⟩
theorem w_pow29 {Q : VK} {H : Hp} (h : Q (.int 100000000000000000000000000000) H) : rI CPow (fun i j => .int (i ^ j.toNat)) (.int 10) (.int 29) H Q := ⟨10, 29, rfl, rfl, ⟨by decide, by decide, by decide⟩, h⟩
theorem w_pow30 {Q : VK} {H : Hp} (h : Q (.int 1000000000000000000000000000000) H) : rI CPow (fun i j => .int (i ^ j.toNat)) (.int 10) (.int 30) H Q := ⟨10, 30, rfl, rfl, ⟨by decide, by decide, by decide⟩, h⟩
theorem w_pow31 {Q : VK} {H : Hp} (h : Q (.int 10000000000000000000000000000000) H) : rI CPow (fun i j => .int (i ^ j.toNat)) (.int 10) (.int 31) H Q := ⟨10, 31, rfl, rfl, ⟨by decide, by decide, by decide⟩, h⟩
theorem w_pow32 {Q : VK} {H : Hp} (h : Q (.int 100000000000000000000000000000000) H) : rI CPow (fun i j => .int (i ^ j.toNat)) (.int 10) (.int 32) H Q := ⟨10, 32, rfl, rfl, ⟨by decide, by decide, by decide⟩, h⟩
theorem w_pow33 {Q : VK} {H : Hp} (h : Q (.int 1000000000000000000000000000000000) H) : rI CPow (fun i j => .int (i ^ j.toNat)) (.int 10) (.int 33) H Q := ⟨10, 33, rfl, rfl, ⟨by decide, by decide, by decide⟩, h⟩
theorem w_pow34 {Q : VK} {H : Hp} (h : Q (.int 10000000000000000000000000000000000) H) : rI CPow (fun i j => .int (i ^ j.toNat)) (.int 10) (.int 34) H Q := ⟨10, 34, rfl, rfl, ⟨by decide, by decide, by decide⟩, h⟩
theorem w_pow35 {Q : VK} {H : Hp} (h : Q (.int 100000000000000000000000000000000000) H) : rI CPow (fun i j => .int (i ^ j.toNat)) (.int 10) (.int 35) H Q := ⟨10, 35, rfl, rfl, ⟨by decide, by decide, by decide⟩, h⟩
theorem w_pow36 {Q : VK} {H : Hp} (h : Q (.int 1000000000000000000000000000000000000) H) : rI CPow (fun i j => .int (i ^ j.toNat)) (.int 10) (.int 36) H Q := ⟨10, 36, rfl, rfl, ⟨by decide, by decide, by decide⟩, h⟩
theorem w_pow37 {Q : VK} {H : Hp} (h : Q (.int 10000000000000000000000000000000000000) H) : rI CPow (fun i j => .int (i ^ j.toNat)) (.int 10) (.int 37) H Q := ⟨10, 37, rfl, rfl, ⟨by decide, by decide, by decide⟩, h⟩
theorem w_pow38 {Q : VK} {H : Hp} (h : Q (.int 100000000000000000000000000000000000000) H) : rI CPow (fun i j => .int (i ^ j.toNat)) (.int 10) (.int 38) H Q := ⟨10, 38, rfl, rfl, ⟨by decide, by decide, by decide⟩, h⟩
theorem w_pow39 {Q : VK} {H : Hp} (h : Q (.int 1000000000000000000000000000000000000000) H) : rI CPow (fun i j => .int (i ^ j.toNat)) (.int 10) (.int 39) H Q := ⟨10, 39, rfl, rfl, ⟨by decide, by decide, by decide⟩, h⟩
theorem w_pow40 {Q : VK} {H : Hp} (h : Q (.int 10000000000000000000000000000000000000000) H) : rI CPow (fun i j => .int (i ^ j.toNat)) (.int 10) (.int 40) H Q := ⟨10, 40, rfl, rfl, ⟨by decide, by decide, by decide⟩, h⟩
theorem w_pow41 {Q : VK} {H : Hp} (h : Q (.int 100000000000000000000000000000000000000000) H) : rI CPow (fun i j => .int (i ^ j.toNat)) (.int 10) (.int 41) H Q := ⟨10, 41, rfl, rfl, ⟨by decide, by decide, by decide⟩, h⟩
theorem w_pow42 {Q : VK} {H : Hp} (h : Q (.int 1000000000000000000000000000000000000000000) H) : rI CPow (fun i j => .int (i ^ j.toNat)) (.int 10) (.int 42) H Q := ⟨10, 42, rfl, rfl, ⟨by decide, by decide, by decide⟩, h⟩
theorem w_pow43 {Q : VK} {H : Hp} (h : Q (.int 10000000000000000000000000000000000000000000) H) : rI CPow (fun i j => .int (i ^ j.toNat)) (.int 10) (.int 43) H Q := ⟨10, 43, rfl, rfl, ⟨by decide, by decide, by decide⟩, h⟩
theorem w_pow44 {Q : VK} {H : Hp} (h : Q (.int 100000000000000000000000000000000000000000000) H) : rI CPow (fun i j => .int (i ^ j.toNat)) (.int 10) (.int 44) H Q := ⟨10, 44, rfl, rfl, ⟨by decide, by decide, by decide⟩, h⟩
theorem w_pow45 {Q : VK} {H : Hp} (h : Q (.int 1000000000000000000000000000000000000000000000) H) : rI CPow (fun i j => .int (i ^ j.toNat)) (.int 10) (.int 45) H Q := ⟨10, 45, rfl, rfl, ⟨by decide, by decide, by decide⟩, h⟩
theorem w_pow46 {Q : VK} {H : Hp} (h : Q (.int 10000000000000000000000000000000000000000000000) H) : rI CPow (fun i j => .int (i ^ j.toNat)) (.int 10) (.int 46) H Q := ⟨10, 46, rfl, rfl, ⟨by decide, by decide, by decide⟩, h⟩
theorem w_pow47 {Q : VK} {H : Hp} (h : Q (.int 100000000000000000000000000000000000000000000000) H) : rI CPow (fun i j => .int (i ^ j.toNat)) (.int 10) (.int 47) H Q := ⟨10, 47, rfl, rfl, ⟨by decide, by decide, by decide⟩, h⟩
theorem w_pow48 {Q : VK} {H : Hp} (h : Q (.int 1000000000000000000000000000000000000000000000000) H) : rI CPow (fun i j => .int (i ^ j.toNat)) (.int 10) (.int 48) H Q := ⟨10, 48, rfl, rfl, ⟨by decide, by decide, by decide⟩, h⟩
theorem w_pow49 {Q : VK} {H : Hp} (h : Q (.int 10000000000000000000000000000000000000000000000000) H) : rI CPow (fun i j => .int (i ^ j.toNat)) (.int 10) (.int 49) H Q := ⟨10, 49, rfl, rfl, ⟨by decide, by decide, by decide⟩, h⟩
theorem w_pow50 {Q : VK} {H : Hp} (h : Q (.int 100000000000000000000000000000000000000000000000000) H) : rI CPow (fun i j => .int (i ^ j.toNat)) (.int 10) (.int 50) H Q := ⟨10, 50, rfl, rfl, ⟨by decide, by decide, by decide⟩, h⟩
theorem w_pow51 {Q : VK} {H : Hp} (h : Q (.int 1000000000000000000000000000000000000000000000000000) H) : rI CPow (fun i j => .int (i ^ j.toNat)) (.int 10) (.int 51) H Q := ⟨10, 51, rfl, rfl, ⟨by decide, by decide, by decide⟩, h⟩
theorem w_pow52 {Q : VK} {H : Hp} (h : Q (.int 10000000000000000000000000000000000000000000000000000) H) : rI CPow (fun i j => .int (i ^ j.toNat)) (.int 10) (.int 52) H Q := ⟨10, 52, rfl, rfl, ⟨by decide, by decide, by decide⟩, h⟩
theorem w_pow53 {Q : VK} {H : Hp} (h : Q (.int 100000000000000000000000000000000000000000000000000000) H) : rI CPow (fun i j => .int (i ^ j.toNat)) (.int 10) (.int 53) H Q := ⟨10, 53, rfl, rfl, ⟨by decide, by decide, by decide⟩, h⟩
theorem w_pow54 {Q : VK} {H : Hp} (h : Q (.int 1000000000000000000000000000000000000000000000000000000) H) : rI CPow (fun i j => .int (i ^ j.toNat)) (.int 10) (.int 54) H Q := ⟨10, 54, rfl, rfl, ⟨by decide, by decide, by decide⟩, h⟩
theorem w_pow55 {Q : VK} {H : Hp} (h : Q (.int 10000000000000000000000000000000000000000000000000000000) H) : rI CPow (fun i j => .int (i ^ j.toNat)) (.int 10) (.int 55) H Q := ⟨10, 55, rfl, rfl, ⟨by decide, by decide, by decide⟩, h⟩
theorem w_pow56 {Q : VK} {H : Hp} (h : Q (.int 100000000000000000000000000000000000000000000000000000000) H) : rI CPow (fun i j => .int (i ^ j.toNat)) (.int 10) (.int 56) H Q := ⟨10, 56, rfl, rfl, ⟨by decide, by decide, by decide⟩, h⟩
theorem w_pow57 {Q : VK} {H : Hp} (h : Q (.int 1000000000000000000000000000000000000000000000000000000000) H) : rI CPow (fun i j => .int (i ^ j.toNat)) (.int 10) (.int 57) H Q := ⟨10, 57, rfl, rfl, ⟨by decide, by decide, by decide⟩, h⟩
theorem w_pow58 {Q : VK} {H : Hp} (h : Q (.int 10000000000000000000000000000000000000000000000000000000000) H) : rI CPow (fun i j => .int (i ^ j.toNat)) (.int 10) (.int 58) H Q := ⟨10, 58, rfl, rfl, ⟨by decide, by decide, by decide⟩, h⟩
theorem w_pow59 {Q : VK} {H : Hp} (h : Q (.int 100000000000000000000000000000000000000000000000000000000000) H) : rI CPow (fun i j => .int (i ^ j.toNat)) (.int 10) (.int 59) H Q := ⟨10, 59, rfl, rfl, ⟨by decide, by decide, by decide⟩, h⟩
theorem w_pow60 {Q : VK} {H : Hp} (h : Q (.int 1000000000000000000000000000000000000000000000000000000000000) H) : rI CPow (fun i j => .int (i ^ j.toNat)) (.int 10) (.int 60) H Q := ⟨10, 60, rfl, rfl, ⟨by decide, by decide, by decide⟩, h⟩

/-! ### the drawing stream: a list of the cells, a place, a great number in use, a count -/
def Stm (H : Hp) (a : Addr) : Prop := ∃ (c : Addr) (p g n : Int) (ns : List Int), H a = some (.lst [.ref c, .int p, .int g, .int n]) ∧ 0 ≤ p ∧ 0 ≤ g ∧ H c = some (.lst (ns.map V.int)) ∧ 0 < ns.length
/-- all but a stands -/
def But (a : Addr) (H H' : Hp) : Prop := ∀ b o, b ≠ a → H b = some o → H' b = some o
theorem But.refl (a : Addr) (H : Hp) : But a H H := fun _ _ _ h => h
theorem But.trans {a : Addr} {H H1 H2 : Hp} (x : But a H H1) (y : But a H1 H2) : But a H H2 := fun b o n h => y b o n (x b o n h)
theorem But.upd {a : Addr} {H : Hp} {o : HO} : But a H (upd H a o) := fun b u n h => by
  rw [upd_ne n]
  exact h
theorem But.new {a : Addr} {H H1 : Hp} {p : Addr} {o : HO} (x : But a H H1) (hp : H1 p = none) : But a H (L2.upd H1 p o) := fun b u n h => by
  rw [upd_ne (ne_of_none (x b u n h) hp)]
  exact x b u n h
theorem _root_.L2.Same.but {a : Addr} {H H1 : Hp} (x : Same H H1) : But a H H1 := fun b o _ h => x b o h
theorem same_new {H : Hp} {p : Addr} {o : HO} (h : H p = none) : Same H (upd H p o) := fun b u e => by
  rw [upd_ne (ne_of_none e h)]
  exact e
theorem _root_.L2.Same.new {H H1 : Hp} {p : Addr} {o : HO} (x : Same H H1) (h : H1 p = none) : Same H (upd H1 p o) := x.trans (same_new h)
theorem Stm.keep {H H' : Hp} {a : Addr} (s : Stm H a) (x : Same H H') : Stm H' a := by
  obtain ⟨c, p, g, n, ns, h1, h2, h3, h4, h5⟩ := s
  exact ⟨c, p, g, n, ns, x _ _ h1, h2, h3, x _ _ h4, h5⟩
theorem Stm.ne {H : Hp} {a p : Addr} (s : Stm H a) (h : H p = none) : p ≠ a := by
  obtain ⟨c, p, g, n, ns, h1, _⟩ := s
  exact (ne_of_none h1 h).symm
theorem stm_ca {H : Hp} {a c : Addr} {p g n : Int} {ns : List Int} (h1 : H a = some (.lst [.ref c, .int p, .int g, .int n])) (h4 : H c = some (.lst (ns.map V.int))) : c ≠ a := fun e => by
  rw [e, h1] at h4
  cases ns with
  | nil => cases h4
  | cons x r => cases h4
/-! what the drawing defs promise -/
def sp_mixed : Sp := fun vs H Q _ => ∃ c k : Int, vs = [.int c, .int k] ∧ ∀ d : Int, Q (.int d) H
def sp_great (K : PySem.W.Frag) : Sp := fun vs H Q _ => ∃ (c : Addr) (p : Int) (ns : List Int), vs = [.ref c, .int p] ∧ SqL K H c (ns.map V.int) ∧ 0 ≤ p ∧ ∀ g : Int, 0 ≤ g → Q (.int g) H
def sp_stream (K : PySem.W.Frag) : Sp := fun vs H Q _ => ∃ (a : Addr) (ns : List Int), vs = [.ref a] ∧ SqL K H a (ns.map V.int) ∧ ∀ H' p, Same H H' → H p = none → Stm H' p → Q (.ref p) H'
def sp_take : Sp := fun vs H Q _ => ∃ (a : Addr) (m : Int), vs = [.ref a, .int m] ∧ (0 < m ∧ m.natAbs.log2 < 9000) ∧ Stm H a ∧ ∀ H' (d : Int), But a H H' → Stm H' a → 0 ≤ d → d < m → Q (.int d) H'
/-- an int below 10 ^ 39 in size -/
def sp_whole : Sp := fun vs H Q _ => ∃ (a : Addr), vs = [.ref a] ∧ Stm H a ∧ ∀ H' (n : Int), But a H H' → Stm H' a → n.natAbs < 1000000000000000000000000000000000000000 → Q (.int n) H'

/-! items by a written place -/
theorem at0 {x : V} {r : List V} : atI (x :: r) 0 = some x := atI_nat (j := 0) rfl
theorem at1 {x0 : V} {x : V} {r : List V} : atI (x0 :: x :: r) 1 = some x := atI_nat (j := 1) rfl
theorem at2 {x0 x1 : V} {x : V} {r : List V} : atI (x0 :: x1 :: x :: r) 2 = some x := atI_nat (j := 2) rfl
theorem at3 {x0 x1 x2 : V} {x : V} {r : List V} : atI (x0 :: x1 :: x2 :: x :: r) 3 = some x := atI_nat (j := 3) rfl
theorem at4 {x0 x1 x2 x3 : V} {x : V} {r : List V} : atI (x0 :: x1 :: x2 :: x3 :: x :: r) 4 = some x := atI_nat (j := 4) rfl
theorem at5 {x0 x1 x2 x3 x4 : V} {x : V} {r : List V} : atI (x0 :: x1 :: x2 :: x3 :: x4 :: x :: r) 5 = some x := atI_nat (j := 5) rfl
theorem at6 {x0 x1 x2 x3 x4 x5 : V} {x : V} {r : List V} : atI (x0 :: x1 :: x2 :: x3 :: x4 :: x5 :: x :: r) 6 = some x := atI_nat (j := 6) rfl
theorem at7 {x0 x1 x2 x3 x4 x5 x6 : V} {x : V} {r : List V} : atI (x0 :: x1 :: x2 :: x3 :: x4 :: x5 :: x6 :: x :: r) 7 = some x := atI_nat (j := 7) rfl
theorem at8 {x0 x1 x2 x3 x4 x5 x6 x7 : V} {x : V} {r : List V} : atI (x0 :: x1 :: x2 :: x3 :: x4 :: x5 :: x6 :: x7 :: x :: r) 8 = some x := atI_nat (j := 8) rfl
theorem at9 {x0 x1 x2 x3 x4 x5 x6 x7 x8 : V} {x : V} {r : List V} : atI (x0 :: x1 :: x2 :: x3 :: x4 :: x5 :: x6 :: x7 :: x8 :: x :: r) 9 = some x := atI_nat (j := 9) rfl
theorem at10 {x0 x1 x2 x3 x4 x5 x6 x7 x8 x9 : V} {x : V} {r : List V} : atI (x0 :: x1 :: x2 :: x3 :: x4 :: x5 :: x6 :: x7 :: x8 :: x9 :: x :: r) 10 = some x := atI_nat (j := 10) rfl
theorem at11 {x0 x1 x2 x3 x4 x5 x6 x7 x8 x9 x10 : V} {x : V} {r : List V} : atI (x0 :: x1 :: x2 :: x3 :: x4 :: x5 :: x6 :: x7 :: x8 :: x9 :: x10 :: x :: r) 11 = some x := atI_nat (j := 11) rfl
theorem at12 {x0 x1 x2 x3 x4 x5 x6 x7 x8 x9 x10 x11 : V} {x : V} {r : List V} : atI (x0 :: x1 :: x2 :: x3 :: x4 :: x5 :: x6 :: x7 :: x8 :: x9 :: x10 :: x11 :: x :: r) 12 = some x := atI_nat (j := 12) rfl
theorem at13 {x0 x1 x2 x3 x4 x5 x6 x7 x8 x9 x10 x11 x12 : V} {x : V} {r : List V} : atI (x0 :: x1 :: x2 :: x3 :: x4 :: x5 :: x6 :: x7 :: x8 :: x9 :: x10 :: x11 :: x12 :: x :: r) 13 = some x := atI_nat (j := 13) rfl
theorem at14 {x0 x1 x2 x3 x4 x5 x6 x7 x8 x9 x10 x11 x12 x13 : V} {x : V} {r : List V} : atI (x0 :: x1 :: x2 :: x3 :: x4 :: x5 :: x6 :: x7 :: x8 :: x9 :: x10 :: x11 :: x12 :: x13 :: x :: r) 14 = some x := atI_nat (j := 14) rfl
theorem at15 {x0 x1 x2 x3 x4 x5 x6 x7 x8 x9 x10 x11 x12 x13 x14 : V} {x : V} {r : List V} : atI (x0 :: x1 :: x2 :: x3 :: x4 :: x5 :: x6 :: x7 :: x8 :: x9 :: x10 :: x11 :: x12 :: x13 :: x14 :: x :: r) 15 = some x := atI_nat (j := 15) rfl

theorem ixN_lt {n : Nat} {i : Int} {j : Nat} (e : i = (j : Int)) (h : j < n) : ixN n i = some j := by
  unfold ixN
  rw [if_pos (by omega), if_pos (by omega)]
  congr 1
  omega
theorem at_get {xs : List V} {i : Int} {j : Nat} (e : i = (j : Int)) (h : j < xs.length) : atI xs i = some xs[j] := by
  subst e
  exact atI_nat (List.getElem?_eq_getElem h)
theorem at_ints {ns : List Int} {i : Int} (h0 : 0 ≤ i) (h : i < (ns.length : Int)) : ∃ n, atI (ns.map V.int) i = some (.int n) := by
  obtain ⟨j, rfl⟩ := Int.eq_ofNat_of_zero_le h0
  have hj : j < ns.length := by omega
  refine ⟨ns[j], ?_⟩
  refine atI_nat ?_
  rw [List.getElem?_map, List.getElem?_eq_getElem hj]
  rfl
theorem w_set0 {H : Hp} {Q : Hp → Prop} {p : Addr} {y : V} {x : V} {r : List V} (e : H p = some (.lst (x :: r))) (h : Q (upd H p (.lst (y :: r)))) : rSetL (.ref p) (.int 0) y H Q := ⟨p, _, 0, 0, rfl, rfl, e, ixN_lt rfl (by simp), h⟩
theorem w_set1 {H : Hp} {Q : Hp → Prop} {p : Addr} {y : V} {x0 : V} {x : V} {r : List V} (e : H p = some (.lst (x0 :: x :: r))) (h : Q (upd H p (.lst (x0 :: y :: r)))) : rSetL (.ref p) (.int 1) y H Q := ⟨p, _, 1, 1, rfl, rfl, e, ixN_lt rfl (by simp), h⟩
theorem w_set2 {H : Hp} {Q : Hp → Prop} {p : Addr} {y : V} {x0 x1 : V} {x : V} {r : List V} (e : H p = some (.lst (x0 :: x1 :: x :: r))) (h : Q (upd H p (.lst (x0 :: x1 :: y :: r)))) : rSetL (.ref p) (.int 2) y H Q := ⟨p, _, 2, 2, rfl, rfl, e, ixN_lt rfl (by simp), h⟩
theorem w_set3 {H : Hp} {Q : Hp → Prop} {p : Addr} {y : V} {x0 x1 x2 : V} {x : V} {r : List V} (e : H p = some (.lst (x0 :: x1 :: x2 :: x :: r))) (h : Q (upd H p (.lst (x0 :: x1 :: x2 :: y :: r)))) : rSetL (.ref p) (.int 3) y H Q := ⟨p, _, 3, 3, rfl, rfl, e, ixN_lt rfl (by simp), h⟩
theorem w_set4 {H : Hp} {Q : Hp → Prop} {p : Addr} {y : V} {x0 x1 x2 x3 : V} {x : V} {r : List V} (e : H p = some (.lst (x0 :: x1 :: x2 :: x3 :: x :: r))) (h : Q (upd H p (.lst (x0 :: x1 :: x2 :: x3 :: y :: r)))) : rSetL (.ref p) (.int 4) y H Q := ⟨p, _, 4, 4, rfl, rfl, e, ixN_lt rfl (by simp), h⟩
theorem w_set5 {H : Hp} {Q : Hp → Prop} {p : Addr} {y : V} {x0 x1 x2 x3 x4 : V} {x : V} {r : List V} (e : H p = some (.lst (x0 :: x1 :: x2 :: x3 :: x4 :: x :: r))) (h : Q (upd H p (.lst (x0 :: x1 :: x2 :: x3 :: x4 :: y :: r)))) : rSetL (.ref p) (.int 5) y H Q := ⟨p, _, 5, 5, rfl, rfl, e, ixN_lt rfl (by simp), h⟩
theorem w_set6 {H : Hp} {Q : Hp → Prop} {p : Addr} {y : V} {x0 x1 x2 x3 x4 x5 : V} {x : V} {r : List V} (e : H p = some (.lst (x0 :: x1 :: x2 :: x3 :: x4 :: x5 :: x :: r))) (h : Q (upd H p (.lst (x0 :: x1 :: x2 :: x3 :: x4 :: x5 :: y :: r)))) : rSetL (.ref p) (.int 6) y H Q := ⟨p, _, 6, 6, rfl, rfl, e, ixN_lt rfl (by simp), h⟩
theorem w_set7 {H : Hp} {Q : Hp → Prop} {p : Addr} {y : V} {x0 x1 x2 x3 x4 x5 x6 : V} {x : V} {r : List V} (e : H p = some (.lst (x0 :: x1 :: x2 :: x3 :: x4 :: x5 :: x6 :: x :: r))) (h : Q (upd H p (.lst (x0 :: x1 :: x2 :: x3 :: x4 :: x5 :: x6 :: y :: r)))) : rSetL (.ref p) (.int 7) y H Q := ⟨p, _, 7, 7, rfl, rfl, e, ixN_lt rfl (by simp), h⟩
theorem w_set8 {H : Hp} {Q : Hp → Prop} {p : Addr} {y : V} {x0 x1 x2 x3 x4 x5 x6 x7 : V} {x : V} {r : List V} (e : H p = some (.lst (x0 :: x1 :: x2 :: x3 :: x4 :: x5 :: x6 :: x7 :: x :: r))) (h : Q (upd H p (.lst (x0 :: x1 :: x2 :: x3 :: x4 :: x5 :: x6 :: x7 :: y :: r)))) : rSetL (.ref p) (.int 8) y H Q := ⟨p, _, 8, 8, rfl, rfl, e, ixN_lt rfl (by simp), h⟩
theorem w_set9 {H : Hp} {Q : Hp → Prop} {p : Addr} {y : V} {x0 x1 x2 x3 x4 x5 x6 x7 x8 : V} {x : V} {r : List V} (e : H p = some (.lst (x0 :: x1 :: x2 :: x3 :: x4 :: x5 :: x6 :: x7 :: x8 :: x :: r))) (h : Q (upd H p (.lst (x0 :: x1 :: x2 :: x3 :: x4 :: x5 :: x6 :: x7 :: x8 :: y :: r)))) : rSetL (.ref p) (.int 9) y H Q := ⟨p, _, 9, 9, rfl, rfl, e, ixN_lt rfl (by simp), h⟩
theorem w_set10 {H : Hp} {Q : Hp → Prop} {p : Addr} {y : V} {x0 x1 x2 x3 x4 x5 x6 x7 x8 x9 : V} {x : V} {r : List V} (e : H p = some (.lst (x0 :: x1 :: x2 :: x3 :: x4 :: x5 :: x6 :: x7 :: x8 :: x9 :: x :: r))) (h : Q (upd H p (.lst (x0 :: x1 :: x2 :: x3 :: x4 :: x5 :: x6 :: x7 :: x8 :: x9 :: y :: r)))) : rSetL (.ref p) (.int 10) y H Q := ⟨p, _, 10, 10, rfl, rfl, e, ixN_lt rfl (by simp), h⟩
theorem w_set11 {H : Hp} {Q : Hp → Prop} {p : Addr} {y : V} {x0 x1 x2 x3 x4 x5 x6 x7 x8 x9 x10 : V} {x : V} {r : List V} (e : H p = some (.lst (x0 :: x1 :: x2 :: x3 :: x4 :: x5 :: x6 :: x7 :: x8 :: x9 :: x10 :: x :: r))) (h : Q (upd H p (.lst (x0 :: x1 :: x2 :: x3 :: x4 :: x5 :: x6 :: x7 :: x8 :: x9 :: x10 :: y :: r)))) : rSetL (.ref p) (.int 11) y H Q := ⟨p, _, 11, 11, rfl, rfl, e, ixN_lt rfl (by simp), h⟩
theorem w_set12 {H : Hp} {Q : Hp → Prop} {p : Addr} {y : V} {x0 x1 x2 x3 x4 x5 x6 x7 x8 x9 x10 x11 : V} {x : V} {r : List V} (e : H p = some (.lst (x0 :: x1 :: x2 :: x3 :: x4 :: x5 :: x6 :: x7 :: x8 :: x9 :: x10 :: x11 :: x :: r))) (h : Q (upd H p (.lst (x0 :: x1 :: x2 :: x3 :: x4 :: x5 :: x6 :: x7 :: x8 :: x9 :: x10 :: x11 :: y :: r)))) : rSetL (.ref p) (.int 12) y H Q := ⟨p, _, 12, 12, rfl, rfl, e, ixN_lt rfl (by simp), h⟩

/-! ### a call by keywords alone, of a def that may raise -/
structure KB0 (K : PySem.W.Frag) (fd : FuncData) (ps ks : List Str) (g : {α : Type} → List α → List α) : Prop where
  to : ∀ (s : Shared) (ws : List Value), ws.length = ks.length → BindsTo s fd ⟨[], ks.zip ws⟩ (ps.zip (g ws))
  rel : ∀ {zs : List V} {ws : List Value}, Vals zs ws → zs.length = ks.length → Vals (g zs) (g ws)
def tCallKS (sp : Sp) (n : Nat) (g : {α : Type} → List α → List α) (E : L2.St → XK) (tk : TA) : TE := fun σ H Q => tk σ H fun zs H1 => zs.length = n ∧ sp (g zs) H1 Q (E σ)
section
variable {X : Cx} {CX : CXT} {k : Nat} {f : Addr} {fd : FuncData} {ps ks : List Str} {sp : Sp} {E : L2.St → XK} {x : Str} {p pos : Pos} {kws : List Keyword} {tk : TA} {g : {α : Type} → List α → List α}
theorem pe_kwS (F : FnOk X.prog X.w X.K X.mg X.base CX k f fd ps sp) (hr : Room k X.A) (hg : Gl X x) (hm : X.mg x = some (.ref f)) (hk : PySem.W.keepIn X.K (.ref f) = true) (hb : KB0 X.K fd ps ks g) (hx : ∀ σ, PassesAt CX X σ (E σ))
    (hkw : PK X kws tk) (hall : (backToKw pos (keywordEach kws X.env)).all (·.1.isSome) = true := by rfl) (hks : (backToKw pos (keywordEach kws X.env)).filterMap (·.1) = ks := by rfl)
    (hdb : (x == ("__debug__" : Str)) = false := by decide) (hpl : ((backTo pos (starEach [] X.env)).any (·.1) || (backToKw pos (keywordEach kws X.env)).any (·.1.isNone)) = false := by rfl) :
    PE X (.Call (.Name x p) [] kws pos) (tCallKS sp ks.length g E tk) := by
  refine ⟨fun pins s σ H Q I h => ?_⟩
  refine wpAny_Call_Name_kw (ld_glob I hg hm ?_ hdb)
  refine PySem.W.callWith_KW0 (h₀ := X.base) I.ok.mod.kin hk hall (thn (hkw.run pos pins s σ H _ I h) fun ws s2 ⟨zs, H2, I2, rz, hl, q2⟩ => ⟨I2.kIn, ?_⟩) hpl
  rw [hks, List.append_nil]
  have r2 := hb.rel rz hl
  refine wpAny_call (codeAny_mono (F.run X.A X.stack s2 H2 ⟨[], ks.zip ws⟩ (g ws) (g zs) Q (E σ) hr I2.env0 (hb.to s2 ws (rz.length.symm.trans hl)) r2 q2) fun r s' hq => ?_)
  cases r with
  | error e => exact hx σ pins H2 s2 e s' I2 hq
  | ok fl =>
    cases fl with
    | ret u => exact I2.after hq
    | next => exact False.elim hq
    | brk => exact False.elim hq
    | cont => exact False.elim hq
end
theorem w_kws {sp : Sp} {n : Nat} {g : {α : Type} → List α → List α} {E : L2.St → XK} {tk : TA} {σ : L2.St} {H : Hp} {Q : VK} (h : tk σ H fun zs H1 => zs.length = n ∧ sp (g zs) H1 Q (E σ)) : tCallKS sp n g E tk σ H Q := h
theorem w_callS {sp : Sp} {E : L2.St → XK} {t : TA} {σ : L2.St} {H : Hp} {Q : VK} (h : t σ H fun vs H1 => sp vs H1 Q (E σ)) : tCallS sp E t σ H Q := h
/-! ### things: a value that bears a datum; no part of it is the object at sa -/
mutual
inductive Rp (sa : Addr) (H : Hp) : V → PyData → Prop
  | non : Rp sa H .non .none
  | bl (b : Bool) : Rp sa H (.bl b) (.bool b)
  | int (i : Int) : Rp sa H (.int i) (.int i)
  | str (x : Str) : Rp sa H (.str x) (.str x)
  | lst {a : Addr} {xs : List V} {ds : List PyData} (n : a ≠ sa) (h : H a = some (.lst xs)) (r : Rps sa H xs ds) : Rp sa H (.ref a) (.list ds)
  | tup {a : Addr} {xs : List V} {ds : List PyData} (n : a ≠ sa) (h : H a = some (.tup xs)) (r : Rps sa H xs ds) : Rp sa H (.ref a) (.tuple ds)
  | dct {a : Addr} (n : a ≠ sa) (h : H a = some (.dK [])) : Rp sa H (.ref a) (.dict [])
inductive Rps (sa : Addr) (H : Hp) : List V → List PyData → Prop
  | nil : Rps sa H [] []
  | cons {v : V} {vs : List V} {d : PyData} {ds : List PyData} (h : Rp sa H v d) (t : Rps sa H vs ds) : Rps sa H (v :: vs) (d :: ds)
end
mutual
theorem Rp.but {sa : Addr} {H H' : Hp} (b : But sa H H') : ∀ {v : V} {d : PyData}, Rp sa H v d → Rp sa H' v d
  | _, _, .non => .non
  | _, _, .bl b => .bl b
  | _, _, .int i => .int i
  | _, _, .str x => .str x
  | _, _, .lst n h r => .lst n (b _ _ n h) (Rps.but b r)
  | _, _, .tup n h r => .tup n (b _ _ n h) (Rps.but b r)
  | _, _, .dct n h => .dct n (b _ _ n h)
theorem Rps.but {sa : Addr} {H H' : Hp} (b : But sa H H') : ∀ {vs : List V} {ds : List PyData}, Rps sa H vs ds → Rps sa H' vs ds
  | _, _, .nil => .nil
  | _, _, .cons h t => .cons (Rp.but b h) (Rps.but b t)
end
theorem Rp.same {sa : Addr} {H H' : Hp} {v : V} {d : PyData} (r : Rp sa H v d) (b : Same H H') : Rp sa H' v d := r.but b.but
mutual
def noDict : PyData → Bool
  | .list ds => noDicts ds
  | .tuple ds => noDicts ds
  | .dict _ => false
  | _ => true
def noDicts : List PyData → Bool
  | [] => true
  | d :: ds => noDict d && noDicts ds
end
mutual
theorem Rp.dp {K : PySem.W.Frag} {sa : Addr} {H : Hp} : ∀ {v : V} {d : PyData}, Rp sa H v d → noDict d = true → Dp K H v d
  | _, _, .non, _ => .non
  | _, _, .bl b, _ => .bl b
  | _, _, .int i, _ => .int i
  | _, _, .str x, _ => .str x
  | _, _, .lst n h r, e => .lst (SqL.of h) (Rps.dp r e)
  | _, _, .tup n h r, e => .tup (SqT.of h) (Rps.dp r e)
  | _, _, .dct n h, e => nomatch e
theorem Rps.dp {K : PySem.W.Frag} {sa : Addr} {H : Hp} : ∀ {vs : List V} {ds : List PyData}, Rps sa H vs ds → noDicts ds = true → DpAll K H vs ds
  | _, _, .nil, _ => .nil
  | _, _, .cons h t, e => .cons (Rp.dp h (by
      unfold noDicts at e
      exact (Bool.and_eq_true _ _ ▸ e).1)) (Rps.dp t (by
      unfold noDicts at e
      exact (Bool.and_eq_true _ _ ▸ e).2))
end

/-- the name of a datum's type -/
def tyD : PyData → String
  | .none => "NoneType"
  | .bool _ => "bool"
  | .int _ => "int"
  | .str _ => "str"
  | .list _ => "list"
  | .tuple _ => "tuple"
  | .dict _ => "dict"
theorem Rp.ty {K : PySem.W.Frag} {sa : Addr} {H : Hp} {v : V} {d : PyData} (r : Rp sa H v d) : TyX K H v (.type (tyD d)) := by
  cases r with
  | non => exact .base .non
  | bl b => exact .base (.bl b)
  | int i => exact .base (.int i)
  | str x => exact .base (.str x)
  | lst n h r => exact .base (.lst h)
  | tup n h r => exact .base (.tup h)
  | dct n h => exact .base (.dK h)
/-- an error of the class at S is what «except S» names -/
theorem exm_own {K : PySem.W.Frag} {S : Addr} (h1 : PySem.W.subIn K (.ref S) (.type "BaseException") = some true) (h2 : PySem.W.isClsIn K S = true) (h3 : PySem.W.typeIn K (.ref S) = some (.type "type")) (h4 : PySem.W.subIn K (.ref S) (.ref S) = some true) :
    PySem.W.exmOne K (.ref S) (.ref S) = some true := by
  have z1 : (PySem.W.subIn K (.ref S) (.type "BaseException") == some true) = true := by
    rw [h1]
    rfl
  have z2 : ((PySem.W.clsIn K S).isSome && PySem.W.typeIn K (.ref S) == some (.type "type")) = true := by
    have q : (PySem.W.clsIn K S).isSome = true := h2
    rw [q, h3]
    rfl
  show (if (PySem.W.subIn K (.ref S) (.type "BaseException") == some true) = true then PySem.W.kitCls K (.ref S) (.ref S) else none) = some true
  rw [if_pos z1]
  show (if ((PySem.W.clsIn K S).isSome && PySem.W.typeIn K (.ref S) == some (.type "type")) = true then PySem.W.subIn K (.ref S) (.ref S) else none) = some true
  rw [if_pos z2]
  exact h4
/-! ### the ground under a def: what stood stands (but for the stream), the things at hand bear their data -/
structure Wd (b : Bool) (sa : Addr) (H0 H : Hp) (vs : List V) (ds : List PyData) : Prop where
  but : But sa H0 H
  same : b = false → Same H0 H
  st : b = true → Stm H sa
  tr : ∃ o, H sa = some o
  r : Rps sa H vs ds
theorem Stm.tr {H : Hp} {a : Addr} (s : Stm H a) : ∃ o, H a = some o := by
  obtain ⟨c, p, g, n, ns, h1, _⟩ := s
  exact ⟨_, h1⟩
/-- v bears d among the things at hand -/
inductive In2 : V → PyData → List V → List PyData → Prop
  | here {v : V} {d : PyData} {vs : List V} {ds : List PyData} : In2 v d (v :: vs) (d :: ds)
  | there {v w : V} {d e : PyData} {vs : List V} {ds : List PyData} (h : In2 v d vs ds) : In2 v d (w :: vs) (e :: ds)
section
variable {b : Bool} {sa : Addr} {H0 H H' : Hp} {vs : List V} {ds : List PyData} {v : V} {d : PyData} {K : PySem.W.Frag}
theorem In2.rp (m : In2 v d vs ds) (r : Rps sa H vs ds) : Rp sa H v d := by
  induction m with
  | here => cases r with | cons h t => exact h
  | there m ih => cases r with | cons h t => exact ih t
theorem Wd.get (W : Wd b sa H0 H vs ds) (m : In2 v d vs ds) : Rp sa H v d := m.rp W.r
theorem Wd.go (W : Wd b sa H0 H vs ds) (s : Same H H') : Wd b sa H0 H' vs ds := ⟨W.but.trans s.but, fun e => (W.same e).trans s, fun e => (W.st e).keep s, (let ⟨o, e⟩ := W.tr; ⟨o, s _ _ e⟩), W.r.but s.but⟩
theorem Wd.put (W : Wd b sa H0 H vs ds) (r : Rp sa H v d) : Wd b sa H0 H (v :: vs) (d :: ds) := ⟨W.but, W.same, W.st, W.tr, .cons r W.r⟩
theorem Wd.sub (W : Wd b sa H0 H vs ds) {vs' : List V} {ds' : List PyData} (r : Rps sa H vs' ds') : Wd b sa H0 H vs' ds' := ⟨W.but, W.same, W.st, W.tr, r⟩
theorem Wd.draw (W : Wd true sa H0 H vs ds) (x : But sa H H') (s : Stm H' sa) : Wd true sa H0 H' vs ds := ⟨W.but.trans x, fun e => (nomatch e), fun _ => s, s.tr, W.r.but x⟩
theorem wd_start (t : ∃ o, H sa = some o) (r : Rps sa H vs ds) : Wd false sa H H vs ds := ⟨But.refl _ _, fun _ => Same.refl _, fun e => (nomatch e), t, r⟩
theorem wd_startS (s : Stm H sa) (r : Rps sa H vs ds) : Wd true sa H H vs ds := ⟨But.refl _ _, fun e => (nomatch e), fun _ => s, s.tr, r⟩
/-- a new object is not the stream -/
theorem Wd.ne (W : Wd b sa H0 H vs ds) {p : Addr} (h : H p = none) : p ≠ sa := by
  obtain ⟨o, e⟩ := W.tr
  exact (ne_of_none e h).symm
end
/-- what is asked of a value that bears d: scalars are known -/
def VS (d : PyData) (F : V → Prop) : Prop := match d with
  | .none => F .non
  | .bool b => F (.bl b)
  | .int i => F (.int i)
  | .str s => F (.str s)
  | .list _ => ∀ p, F (.ref p)
  | .tuple _ => ∀ p, F (.ref p)
  | .dict _ => ∀ p, F (.ref p)
theorem VS.of {sa : Addr} {H : Hp} {v : V} {d : PyData} {F : V → Prop} (h : VS d F) (r : Rp sa H v d) : F v := by
  cases r with
  | non => exact h
  | bl b => exact h
  | int i => exact h
  | str x => exact h
  | lst n e r => exact h _
  | tup n e r => exact h _
  | dct n e => exact h _
/-! ### kinds of promises -/
/-- a def without a stream: from data to a datum -/
def Pf (pre : List PyData → Prop) (fn : List PyData → PyData) : Sp := fun vs H Q _ => ∃ (sa : Addr) (ds : List PyData), (∃ o, H sa = some o) ∧ Rps sa H vs ds ∧ pre ds ∧ ∀ H' x, Same H H' → Rp sa H' x (fn ds) → Q x H'
/-- a def that draws: data in, some datum out -/
def Sf (pre : List PyData → Prop) (R : List PyData → PyData → Prop) : Sp := fun vs H Q _ => ∃ (sa : Addr) (vs' : List V) (ds : List PyData), vs = .ref sa :: vs' ∧ Stm H sa ∧ Rps sa H vs' ds ∧ pre ds ∧ ∀ H' x d, But sa H H' → Stm H' sa → Rp sa H' x d → R ds d → Q x H'
section
variable {b : Bool} {sa : Addr} {H0 H : Hp} {acc : List V} {dacc : List PyData} {Q : VK} {E : XK}
theorem call_P {pre : List PyData → Prop} {fn : List PyData → PyData} {vs : List V} {ds : List PyData} (W : Wd b sa H0 H acc dacc) (r : Rps sa H vs ds) (hp : pre ds)
    (h : ∀ H', VS (fn ds) fun x => Wd b sa H0 H' (x :: acc) (fn ds :: dacc) → Q x H') : Pf pre fn vs H Q E :=
  ⟨sa, ds, W.tr, r, hp, fun H' x s rx => (h H').of rx ((W.go s).put rx)⟩
theorem call_S {pre : List PyData → Prop} {R : List PyData → PyData → Prop} {vs : List V} {ds : List PyData} (W : Wd true sa H0 H acc dacc) (r : Rps sa H vs ds) (hp : pre ds)
    (h : ∀ H' x d, Wd true sa H0 H' (x :: acc) (d :: dacc) → R ds d → Q x H') : Sf pre R (.ref sa :: vs) H Q E :=
  ⟨sa, vs, ds, rfl, W.st rfl, r, hp, fun H' x d bb s rx hR => h H' x d ((W.draw bb s).put rx) hR⟩
/-- int(stream's digit) -/
theorem call_tk {m : Int} (W : Wd true sa H0 H acc dacc) (hm : 0 < m) (hl : m.natAbs.log2 < 9000) (h : ∀ H' (d : Int), Wd true sa H0 H' acc dacc → 0 ≤ d → d < m → Q (.int d) H') : sp_take [.ref sa, .int m] H Q E :=
  ⟨sa, m, rfl, ⟨hm, hl⟩, W.st rfl, fun H' d bb s d0 d1 => h H' d (W.draw bb s) d0 d1⟩
theorem call_wh (W : Wd true sa H0 H acc dacc) (h : ∀ H' (n : Int), Wd true sa H0 H' acc dacc → n.natAbs < 1000000000000000000000000000000000000000 → Q (.int n) H') : sp_whole [.ref sa] H Q E :=
  ⟨sa, rfl, W.st rfl, fun H' d bb s d0 => h H' d (W.draw bb s) d0⟩
/-! ### new tuples, lists, dicts -/
def NT (Q : VK) (xs : List V) (H : Hp) : Prop := xs.length ≤ sizeLine ∧ ∀ p, H p = none → Q (.ref p) (upd H p (.tup xs))
def NL (Q : VK) (xs : List V) (H : Hp) : Prop := xs.length ≤ sizeLine ∧ ∀ p, H p = none → Q (.ref p) (upd H p (.lst xs))
def ND (Q : VK) (H : Hp) : Prop := ∀ p, H p = none → Q (.ref p) (upd H p (.dK []))
theorem w_tupN {tt : TA} {σ : L2.St} (h : tt σ H fun xs H1 => NT Q xs H1) : tTup tt σ H Q := h
theorem w_lstN {tt : TA} {σ : L2.St} (h : tt σ H fun xs H1 => NL Q xs H1) : tLst tt σ H Q := h
theorem nt_mk {xs : List V} (h : ∀ p, H p = none → Q (.ref p) (upd H p (.tup xs))) (hl : xs.length.ble 1000 = true := by rfl) : NT Q xs H := w_new h hl
theorem nl_mk {xs : List V} (h : ∀ p, H p = none → Q (.ref p) (upd H p (.lst xs))) (hl : xs.length.ble 1000 = true := by rfl) : NL Q xs H := w_new h hl
theorem n_tup {xs : List V} {ds : List PyData} (W : Wd b sa H0 H acc dacc) (r : Rps sa H xs ds) (hl : xs.length.ble 1000 = true) (h : ∀ H' p, Wd b sa H0 H' (.ref p :: acc) (.tuple ds :: dacc) → Q (.ref p) H') : NT Q xs H :=
  ⟨Nat.le_of_lt (small1000 (Nat.le_of_ble_eq_true hl)), fun p np => h _ p ((W.go (same_new np)).put (.tup (W.ne np) upd_same (r.but (same_new np).but)))⟩
theorem n_lst {xs : List V} {ds : List PyData} (W : Wd b sa H0 H acc dacc) (r : Rps sa H xs ds) (hl : xs.length.ble 1000 = true) (h : ∀ H' p, Wd b sa H0 H' (.ref p :: acc) (.list ds :: dacc) → Q (.ref p) H') : NL Q xs H :=
  ⟨Nat.le_of_lt (small1000 (Nat.le_of_ble_eq_true hl)), fun p np => h _ p ((W.go (same_new np)).put (.lst (W.ne np) upd_same (r.but (same_new np).but)))⟩
theorem n_dct (W : Wd b sa H0 H acc dacc) (h : ∀ H' p, Wd b sa H0 H' (.ref p :: acc) (.dict [] :: dacc) → Q (.ref p) H') : ND Q H :=
  fun p np => h _ p ((W.go (same_new np)).put (.dct (W.ne np) upd_same))
/-! ### reading an item of a thing -/
theorem rps_at {vs : List V} {ds : List PyData} {j : Nat} {d : PyData} (r : Rps sa H vs ds) (e : ds[j]? = some d) : ∃ v, vs[j]? = some v ∧ Rp sa H v d := by
  induction ds generalizing vs j with
  | nil => simp at e
  | cons d0 ds ih =>
    cases r with
    | cons h t =>
      cases j with
      | zero =>
        simp at e
        subst e
        exact ⟨_, rfl, h⟩
      | succ j =>
        simp at e
        obtain ⟨v, e1, r1⟩ := ih t e
        exact ⟨v, by simpa using e1, r1⟩
theorem x_tup {K : PySem.W.Frag} {p : Addr} {ds : List PyData} {j : Nat} {d : PyData} {i : Int} (W : Wd b sa H0 H acc dacc) (m : In2 (.ref p) (.tuple ds) acc dacc) (hi : i = (j : Int)) (e : ds[j]? = some d)
    (h : VS d fun x => Wd b sa H0 H (x :: acc) (d :: dacc) → Q x H) : rIxT K (.ref p) (.int i) H Q := by
  subst hi
  cases W.get m with
  | @tup _ xs _ n hx r =>
    obtain ⟨v, e1, r1⟩ := rps_at r e
    exact ⟨p, xs, j, v, rfl, rfl, SqT.of hx, atI_nat e1, h.of r1 (W.put r1)⟩
theorem x_lst {K : PySem.W.Frag} {p : Addr} {ds : List PyData} {j : Nat} {d : PyData} {i : Int} (W : Wd b sa H0 H acc dacc) (m : In2 (.ref p) (.list ds) acc dacc) (hi : i = (j : Int)) (e : ds[j]? = some d)
    (h : VS d fun x => Wd b sa H0 H (x :: acc) (d :: dacc) → Q x H) : rIxL K (.ref p) (.int i) H Q := by
  subst hi
  cases W.get m with
  | @lst _ xs _ n hx r =>
    obtain ⟨v, e1, r1⟩ := rps_at r e
    exact ⟨p, xs, j, v, rfl, rfl, SqL.of hx, atI_nat e1, h.of r1 (W.put r1)⟩
theorem Rps.app {vs ws : List V} {ds es : List PyData} (r : Rps sa H vs ds) (t : Rps sa H ws es) : Rps sa H (vs ++ ws) (ds ++ es) := by
  induction ds generalizing vs with
  | nil => cases r; exact t
  | cons d ds ih =>
    cases r with
    | cons h k => exact .cons h (ih k)
/-- an item at a place that is not known -/
theorem x_some {K : PySem.W.Frag} {p : Addr} {ds : List PyData} {i : Int} (W : Wd b sa H0 H acc dacc) (m : In2 (.ref p) (.list ds) acc dacc) (h0 : 0 ≤ i) (h1 : i < (ds.length : Int))
    (h : ∀ x d, d ∈ ds → Wd b sa H0 H (x :: acc) (d :: dacc) → Q x H) : rIxL K (.ref p) (.int i) H Q := by
  obtain ⟨j, rfl⟩ := Int.eq_ofNat_of_zero_le h0
  have hj : j < ds.length := by omega
  cases W.get m with
  | @lst _ xs _ n hx r =>
    obtain ⟨v, e1, r1⟩ := rps_at r (List.getElem?_eq_getElem hj)
    exact ⟨p, xs, j, v, rfl, rfl, SqL.of hx, atI_nat e1, h v _ (List.getElem_mem hj) (W.put r1)⟩
theorem Rps.lens {vs : List V} {ds : List PyData} (r : Rps sa H vs ds) : vs.length = ds.length := by
  induction ds generalizing vs with
  | nil => cases r; rfl
  | cons d ds ih =>
    cases r with
    | cons h t => exact congrArg (· + 1) (ih t)
theorem l_lst {K : PySem.W.Frag} {p : Addr} {ds : List PyData} (W : Wd b sa H0 H acc dacc) (m : In2 (.ref p) (.list ds) acc dacc) (h : Q (.int (ds.length : Int)) H) : rLenQ K [.ref p] H Q := by
  cases W.get m with
  | @lst _ xs _ n hx r => exact ⟨p, xs, rfl, .inl (SqL.of hx), by rw [r.lens]; exact h⟩
theorem l_tup {K : PySem.W.Frag} {p : Addr} {ds : List PyData} (W : Wd b sa H0 H acc dacc) (m : In2 (.ref p) (.tuple ds) acc dacc) (h : Q (.int (ds.length : Int)) H) : rLenQ K [.ref p] H Q := by
  cases W.get m with
  | @tup _ xs _ n hx r => exact ⟨p, xs, rfl, .inr (SqT.of hx), by rw [r.lens]; exact h⟩

/-- a list that stands: lists of the call's own, joined -/
theorem w_catL {p q : Addr} {ds es : List PyData} (W : Wd b sa H0 H acc dacc) (m : In2 (.ref p) (.list ds) acc dacc) (n : In2 (.ref q) (.list es) acc dacc) (hl : (ds.length + es.length).ble 1000 = true)
    (h : ∀ H' p, Wd b sa H0 H' (.ref p :: acc) (.list (ds ++ es) :: dacc) → Q (.ref p) H') : rCat (.ref p) (.ref q) H Q := by
  cases W.get m with
  | @lst _ xs _ n1 hx r =>
    cases W.get n with
    | @lst _ ys _ n2 hy r2 =>
      refine ⟨p, q, xs, ys, rfl, rfl, hx, hy, ?_, fun p' np => ?_⟩
      · rw [r.lens, r2.lens]
        exact Nat.le_of_lt (small1000 (Nat.le_of_ble_eq_true hl))
      · exact h _ p' ((W.go (same_new np)).put (.lst (W.ne np) upd_same ((r.app r2).but (same_new np).but)))
end

section
variable {b : Bool} {sa : Addr} {H0 H : Hp} {acc : List V} {dacc : List PyData} {Q : VK} {E : XK}
theorem w_call0 {sp : Sp} {tt : TA} {σ : L2.St} (h : tt σ H fun vs H1 => sp vs H1 Q E) : tCall sp [] E tt σ H Q := by
  show tt σ H fun vs H1 => sp (vs ++ []) H1 Q E
  have e : (fun (vs : List V) (H1 : Hp) => sp (vs ++ []) H1 Q E) = fun vs H1 => sp vs H1 Q E := by
    funext vs H1
    rw [List.append_nil]
  rw [e]
  exact h
theorem v_non {F : V → Prop} (h : F .non) : VS .none F := h
theorem v_bl {F : V → Prop} {x : Bool} (h : F (.bl x)) : VS (.bool x) F := h
theorem v_int {F : V → Prop} {x : Int} (h : F (.int x)) : VS (.int x) F := h
theorem v_str {F : V → Prop} {x : Str} (h : F (.str x)) : VS (.str x) F := h
theorem v_tup {F : V → Prop} {x : List PyData} (h : ∀ p, F (.ref p)) : VS (.tuple x) F := h
theorem v_lst {F : V → Prop} {x : List PyData} (h : ∀ p, F (.ref p)) : VS (.list x) F := h
theorem v_dct {F : V → Prop} {x : List (PyData × PyData)} (h : ∀ p, F (.ref p)) : VS (.dict x) F := h
theorem w_newD {Q : VK} {σ : L2.St} (h : ND Q H) : tDNewK σ H Q := h
theorem x_T0 {K : PySem.W.Frag} {p : Addr} {d : PyData} {r : List PyData} (W : Wd b sa H0 H acc dacc) (m : In2 (.ref p) (.tuple (d :: r)) acc dacc) (h : VS d fun x => Wd b sa H0 H (x :: acc) (d :: dacc) → Q x H) : rIxT K (.ref p) (.int 0) H Q := x_tup (j := 0) W m rfl rfl h
theorem x_T0i {K : PySem.W.Frag} {p : Addr} {n : Int} {r : List PyData} (W : Wd b sa H0 H acc dacc) (m : In2 (.ref p) (.tuple (.int n :: r)) acc dacc) (h : Q (.int n) H) : rIxT K (.ref p) (.int 0) H Q := x_tup (j := 0) W m rfl rfl (v_int fun _ => h)
theorem x_L0 {K : PySem.W.Frag} {p : Addr} {d : PyData} {r : List PyData} (W : Wd b sa H0 H acc dacc) (m : In2 (.ref p) (.list (d :: r)) acc dacc) (h : VS d fun x => Wd b sa H0 H (x :: acc) (d :: dacc) → Q x H) : rIxL K (.ref p) (.int 0) H Q := x_lst (j := 0) W m rfl rfl h
theorem x_L0i {K : PySem.W.Frag} {p : Addr} {n : Int} {r : List PyData} (W : Wd b sa H0 H acc dacc) (m : In2 (.ref p) (.list (.int n :: r)) acc dacc) (h : Q (.int n) H) : rIxL K (.ref p) (.int 0) H Q := x_lst (j := 0) W m rfl rfl (v_int fun _ => h)
theorem x_T1 {K : PySem.W.Frag} {p : Addr} {d0 : PyData} {d : PyData} {r : List PyData} (W : Wd b sa H0 H acc dacc) (m : In2 (.ref p) (.tuple (d0 :: d :: r)) acc dacc) (h : VS d fun x => Wd b sa H0 H (x :: acc) (d :: dacc) → Q x H) : rIxT K (.ref p) (.int 1) H Q := x_tup (j := 1) W m rfl rfl h
theorem x_T1i {K : PySem.W.Frag} {p : Addr} {d0 : PyData} {n : Int} {r : List PyData} (W : Wd b sa H0 H acc dacc) (m : In2 (.ref p) (.tuple (d0 :: .int n :: r)) acc dacc) (h : Q (.int n) H) : rIxT K (.ref p) (.int 1) H Q := x_tup (j := 1) W m rfl rfl (v_int fun _ => h)
theorem x_L1 {K : PySem.W.Frag} {p : Addr} {d0 : PyData} {d : PyData} {r : List PyData} (W : Wd b sa H0 H acc dacc) (m : In2 (.ref p) (.list (d0 :: d :: r)) acc dacc) (h : VS d fun x => Wd b sa H0 H (x :: acc) (d :: dacc) → Q x H) : rIxL K (.ref p) (.int 1) H Q := x_lst (j := 1) W m rfl rfl h
theorem x_L1i {K : PySem.W.Frag} {p : Addr} {d0 : PyData} {n : Int} {r : List PyData} (W : Wd b sa H0 H acc dacc) (m : In2 (.ref p) (.list (d0 :: .int n :: r)) acc dacc) (h : Q (.int n) H) : rIxL K (.ref p) (.int 1) H Q := x_lst (j := 1) W m rfl rfl (v_int fun _ => h)
theorem x_T2 {K : PySem.W.Frag} {p : Addr} {d0 d1 : PyData} {d : PyData} {r : List PyData} (W : Wd b sa H0 H acc dacc) (m : In2 (.ref p) (.tuple (d0 :: d1 :: d :: r)) acc dacc) (h : VS d fun x => Wd b sa H0 H (x :: acc) (d :: dacc) → Q x H) : rIxT K (.ref p) (.int 2) H Q := x_tup (j := 2) W m rfl rfl h
theorem x_T2i {K : PySem.W.Frag} {p : Addr} {d0 d1 : PyData} {n : Int} {r : List PyData} (W : Wd b sa H0 H acc dacc) (m : In2 (.ref p) (.tuple (d0 :: d1 :: .int n :: r)) acc dacc) (h : Q (.int n) H) : rIxT K (.ref p) (.int 2) H Q := x_tup (j := 2) W m rfl rfl (v_int fun _ => h)
theorem x_L2 {K : PySem.W.Frag} {p : Addr} {d0 d1 : PyData} {d : PyData} {r : List PyData} (W : Wd b sa H0 H acc dacc) (m : In2 (.ref p) (.list (d0 :: d1 :: d :: r)) acc dacc) (h : VS d fun x => Wd b sa H0 H (x :: acc) (d :: dacc) → Q x H) : rIxL K (.ref p) (.int 2) H Q := x_lst (j := 2) W m rfl rfl h
theorem x_L2i {K : PySem.W.Frag} {p : Addr} {d0 d1 : PyData} {n : Int} {r : List PyData} (W : Wd b sa H0 H acc dacc) (m : In2 (.ref p) (.list (d0 :: d1 :: .int n :: r)) acc dacc) (h : Q (.int n) H) : rIxL K (.ref p) (.int 2) H Q := x_lst (j := 2) W m rfl rfl (v_int fun _ => h)
theorem x_T3 {K : PySem.W.Frag} {p : Addr} {d0 d1 d2 : PyData} {d : PyData} {r : List PyData} (W : Wd b sa H0 H acc dacc) (m : In2 (.ref p) (.tuple (d0 :: d1 :: d2 :: d :: r)) acc dacc) (h : VS d fun x => Wd b sa H0 H (x :: acc) (d :: dacc) → Q x H) : rIxT K (.ref p) (.int 3) H Q := x_tup (j := 3) W m rfl rfl h
theorem x_T3i {K : PySem.W.Frag} {p : Addr} {d0 d1 d2 : PyData} {n : Int} {r : List PyData} (W : Wd b sa H0 H acc dacc) (m : In2 (.ref p) (.tuple (d0 :: d1 :: d2 :: .int n :: r)) acc dacc) (h : Q (.int n) H) : rIxT K (.ref p) (.int 3) H Q := x_tup (j := 3) W m rfl rfl (v_int fun _ => h)
theorem x_L3 {K : PySem.W.Frag} {p : Addr} {d0 d1 d2 : PyData} {d : PyData} {r : List PyData} (W : Wd b sa H0 H acc dacc) (m : In2 (.ref p) (.list (d0 :: d1 :: d2 :: d :: r)) acc dacc) (h : VS d fun x => Wd b sa H0 H (x :: acc) (d :: dacc) → Q x H) : rIxL K (.ref p) (.int 3) H Q := x_lst (j := 3) W m rfl rfl h
theorem x_L3i {K : PySem.W.Frag} {p : Addr} {d0 d1 d2 : PyData} {n : Int} {r : List PyData} (W : Wd b sa H0 H acc dacc) (m : In2 (.ref p) (.list (d0 :: d1 :: d2 :: .int n :: r)) acc dacc) (h : Q (.int n) H) : rIxL K (.ref p) (.int 3) H Q := x_lst (j := 3) W m rfl rfl (v_int fun _ => h)
theorem x_T4 {K : PySem.W.Frag} {p : Addr} {d0 d1 d2 d3 : PyData} {d : PyData} {r : List PyData} (W : Wd b sa H0 H acc dacc) (m : In2 (.ref p) (.tuple (d0 :: d1 :: d2 :: d3 :: d :: r)) acc dacc) (h : VS d fun x => Wd b sa H0 H (x :: acc) (d :: dacc) → Q x H) : rIxT K (.ref p) (.int 4) H Q := x_tup (j := 4) W m rfl rfl h
theorem x_T4i {K : PySem.W.Frag} {p : Addr} {d0 d1 d2 d3 : PyData} {n : Int} {r : List PyData} (W : Wd b sa H0 H acc dacc) (m : In2 (.ref p) (.tuple (d0 :: d1 :: d2 :: d3 :: .int n :: r)) acc dacc) (h : Q (.int n) H) : rIxT K (.ref p) (.int 4) H Q := x_tup (j := 4) W m rfl rfl (v_int fun _ => h)
theorem x_L4 {K : PySem.W.Frag} {p : Addr} {d0 d1 d2 d3 : PyData} {d : PyData} {r : List PyData} (W : Wd b sa H0 H acc dacc) (m : In2 (.ref p) (.list (d0 :: d1 :: d2 :: d3 :: d :: r)) acc dacc) (h : VS d fun x => Wd b sa H0 H (x :: acc) (d :: dacc) → Q x H) : rIxL K (.ref p) (.int 4) H Q := x_lst (j := 4) W m rfl rfl h
theorem x_L4i {K : PySem.W.Frag} {p : Addr} {d0 d1 d2 d3 : PyData} {n : Int} {r : List PyData} (W : Wd b sa H0 H acc dacc) (m : In2 (.ref p) (.list (d0 :: d1 :: d2 :: d3 :: .int n :: r)) acc dacc) (h : Q (.int n) H) : rIxL K (.ref p) (.int 4) H Q := x_lst (j := 4) W m rfl rfl (v_int fun _ => h)
theorem x_T5 {K : PySem.W.Frag} {p : Addr} {d0 d1 d2 d3 d4 : PyData} {d : PyData} {r : List PyData} (W : Wd b sa H0 H acc dacc) (m : In2 (.ref p) (.tuple (d0 :: d1 :: d2 :: d3 :: d4 :: d :: r)) acc dacc) (h : VS d fun x => Wd b sa H0 H (x :: acc) (d :: dacc) → Q x H) : rIxT K (.ref p) (.int 5) H Q := x_tup (j := 5) W m rfl rfl h
theorem x_T5i {K : PySem.W.Frag} {p : Addr} {d0 d1 d2 d3 d4 : PyData} {n : Int} {r : List PyData} (W : Wd b sa H0 H acc dacc) (m : In2 (.ref p) (.tuple (d0 :: d1 :: d2 :: d3 :: d4 :: .int n :: r)) acc dacc) (h : Q (.int n) H) : rIxT K (.ref p) (.int 5) H Q := x_tup (j := 5) W m rfl rfl (v_int fun _ => h)
theorem x_L5 {K : PySem.W.Frag} {p : Addr} {d0 d1 d2 d3 d4 : PyData} {d : PyData} {r : List PyData} (W : Wd b sa H0 H acc dacc) (m : In2 (.ref p) (.list (d0 :: d1 :: d2 :: d3 :: d4 :: d :: r)) acc dacc) (h : VS d fun x => Wd b sa H0 H (x :: acc) (d :: dacc) → Q x H) : rIxL K (.ref p) (.int 5) H Q := x_lst (j := 5) W m rfl rfl h
theorem x_L5i {K : PySem.W.Frag} {p : Addr} {d0 d1 d2 d3 d4 : PyData} {n : Int} {r : List PyData} (W : Wd b sa H0 H acc dacc) (m : In2 (.ref p) (.list (d0 :: d1 :: d2 :: d3 :: d4 :: .int n :: r)) acc dacc) (h : Q (.int n) H) : rIxL K (.ref p) (.int 5) H Q := x_lst (j := 5) W m rfl rfl (v_int fun _ => h)
theorem x_T6 {K : PySem.W.Frag} {p : Addr} {d0 d1 d2 d3 d4 d5 : PyData} {d : PyData} {r : List PyData} (W : Wd b sa H0 H acc dacc) (m : In2 (.ref p) (.tuple (d0 :: d1 :: d2 :: d3 :: d4 :: d5 :: d :: r)) acc dacc) (h : VS d fun x => Wd b sa H0 H (x :: acc) (d :: dacc) → Q x H) : rIxT K (.ref p) (.int 6) H Q := x_tup (j := 6) W m rfl rfl h
theorem x_T6i {K : PySem.W.Frag} {p : Addr} {d0 d1 d2 d3 d4 d5 : PyData} {n : Int} {r : List PyData} (W : Wd b sa H0 H acc dacc) (m : In2 (.ref p) (.tuple (d0 :: d1 :: d2 :: d3 :: d4 :: d5 :: .int n :: r)) acc dacc) (h : Q (.int n) H) : rIxT K (.ref p) (.int 6) H Q := x_tup (j := 6) W m rfl rfl (v_int fun _ => h)
theorem x_L6 {K : PySem.W.Frag} {p : Addr} {d0 d1 d2 d3 d4 d5 : PyData} {d : PyData} {r : List PyData} (W : Wd b sa H0 H acc dacc) (m : In2 (.ref p) (.list (d0 :: d1 :: d2 :: d3 :: d4 :: d5 :: d :: r)) acc dacc) (h : VS d fun x => Wd b sa H0 H (x :: acc) (d :: dacc) → Q x H) : rIxL K (.ref p) (.int 6) H Q := x_lst (j := 6) W m rfl rfl h
theorem x_L6i {K : PySem.W.Frag} {p : Addr} {d0 d1 d2 d3 d4 d5 : PyData} {n : Int} {r : List PyData} (W : Wd b sa H0 H acc dacc) (m : In2 (.ref p) (.list (d0 :: d1 :: d2 :: d3 :: d4 :: d5 :: .int n :: r)) acc dacc) (h : Q (.int n) H) : rIxL K (.ref p) (.int 6) H Q := x_lst (j := 6) W m rfl rfl (v_int fun _ => h)
theorem x_T7 {K : PySem.W.Frag} {p : Addr} {d0 d1 d2 d3 d4 d5 d6 : PyData} {d : PyData} {r : List PyData} (W : Wd b sa H0 H acc dacc) (m : In2 (.ref p) (.tuple (d0 :: d1 :: d2 :: d3 :: d4 :: d5 :: d6 :: d :: r)) acc dacc) (h : VS d fun x => Wd b sa H0 H (x :: acc) (d :: dacc) → Q x H) : rIxT K (.ref p) (.int 7) H Q := x_tup (j := 7) W m rfl rfl h
theorem x_T7i {K : PySem.W.Frag} {p : Addr} {d0 d1 d2 d3 d4 d5 d6 : PyData} {n : Int} {r : List PyData} (W : Wd b sa H0 H acc dacc) (m : In2 (.ref p) (.tuple (d0 :: d1 :: d2 :: d3 :: d4 :: d5 :: d6 :: .int n :: r)) acc dacc) (h : Q (.int n) H) : rIxT K (.ref p) (.int 7) H Q := x_tup (j := 7) W m rfl rfl (v_int fun _ => h)
theorem x_L7 {K : PySem.W.Frag} {p : Addr} {d0 d1 d2 d3 d4 d5 d6 : PyData} {d : PyData} {r : List PyData} (W : Wd b sa H0 H acc dacc) (m : In2 (.ref p) (.list (d0 :: d1 :: d2 :: d3 :: d4 :: d5 :: d6 :: d :: r)) acc dacc) (h : VS d fun x => Wd b sa H0 H (x :: acc) (d :: dacc) → Q x H) : rIxL K (.ref p) (.int 7) H Q := x_lst (j := 7) W m rfl rfl h
theorem x_L7i {K : PySem.W.Frag} {p : Addr} {d0 d1 d2 d3 d4 d5 d6 : PyData} {n : Int} {r : List PyData} (W : Wd b sa H0 H acc dacc) (m : In2 (.ref p) (.list (d0 :: d1 :: d2 :: d3 :: d4 :: d5 :: d6 :: .int n :: r)) acc dacc) (h : Q (.int n) H) : rIxL K (.ref p) (.int 7) H Q := x_lst (j := 7) W m rfl rfl (v_int fun _ => h)
theorem x_T8 {K : PySem.W.Frag} {p : Addr} {d0 d1 d2 d3 d4 d5 d6 d7 : PyData} {d : PyData} {r : List PyData} (W : Wd b sa H0 H acc dacc) (m : In2 (.ref p) (.tuple (d0 :: d1 :: d2 :: d3 :: d4 :: d5 :: d6 :: d7 :: d :: r)) acc dacc) (h : VS d fun x => Wd b sa H0 H (x :: acc) (d :: dacc) → Q x H) : rIxT K (.ref p) (.int 8) H Q := x_tup (j := 8) W m rfl rfl h
theorem x_T8i {K : PySem.W.Frag} {p : Addr} {d0 d1 d2 d3 d4 d5 d6 d7 : PyData} {n : Int} {r : List PyData} (W : Wd b sa H0 H acc dacc) (m : In2 (.ref p) (.tuple (d0 :: d1 :: d2 :: d3 :: d4 :: d5 :: d6 :: d7 :: .int n :: r)) acc dacc) (h : Q (.int n) H) : rIxT K (.ref p) (.int 8) H Q := x_tup (j := 8) W m rfl rfl (v_int fun _ => h)
theorem x_L8 {K : PySem.W.Frag} {p : Addr} {d0 d1 d2 d3 d4 d5 d6 d7 : PyData} {d : PyData} {r : List PyData} (W : Wd b sa H0 H acc dacc) (m : In2 (.ref p) (.list (d0 :: d1 :: d2 :: d3 :: d4 :: d5 :: d6 :: d7 :: d :: r)) acc dacc) (h : VS d fun x => Wd b sa H0 H (x :: acc) (d :: dacc) → Q x H) : rIxL K (.ref p) (.int 8) H Q := x_lst (j := 8) W m rfl rfl h
theorem x_L8i {K : PySem.W.Frag} {p : Addr} {d0 d1 d2 d3 d4 d5 d6 d7 : PyData} {n : Int} {r : List PyData} (W : Wd b sa H0 H acc dacc) (m : In2 (.ref p) (.list (d0 :: d1 :: d2 :: d3 :: d4 :: d5 :: d6 :: d7 :: .int n :: r)) acc dacc) (h : Q (.int n) H) : rIxL K (.ref p) (.int 8) H Q := x_lst (j := 8) W m rfl rfl (v_int fun _ => h)
end
theorem rps1 {sa : Addr} {H : Hp} {vs : List V} {d0 : PyData} (r : Rps sa H vs [d0]) : ∃ x0, vs = [x0] ∧ Rp sa H x0 d0 := by
  cases r with | cons h0 t0 =>
  cases t0
  exact ⟨_, rfl, h0⟩
theorem rps2 {sa : Addr} {H : Hp} {vs : List V} {d0 d1 : PyData} (r : Rps sa H vs [d0, d1]) : ∃ x0 x1, vs = [x0, x1] ∧ Rp sa H x0 d0 ∧ Rp sa H x1 d1 := by
  cases r with | cons h0 t0 =>
  cases t0 with | cons h1 t1 =>
  cases t1
  exact ⟨_, _, rfl, h0, h1⟩
theorem rps3 {sa : Addr} {H : Hp} {vs : List V} {d0 d1 d2 : PyData} (r : Rps sa H vs [d0, d1, d2]) : ∃ x0 x1 x2, vs = [x0, x1, x2] ∧ Rp sa H x0 d0 ∧ Rp sa H x1 d1 ∧ Rp sa H x2 d2 := by
  cases r with | cons h0 t0 =>
  cases t0 with | cons h1 t1 =>
  cases t1 with | cons h2 t2 =>
  cases t2
  exact ⟨_, _, _, rfl, h0, h1, h2⟩
theorem rps4 {sa : Addr} {H : Hp} {vs : List V} {d0 d1 d2 d3 : PyData} (r : Rps sa H vs [d0, d1, d2, d3]) : ∃ x0 x1 x2 x3, vs = [x0, x1, x2, x3] ∧ Rp sa H x0 d0 ∧ Rp sa H x1 d1 ∧ Rp sa H x2 d2 ∧ Rp sa H x3 d3 := by
  cases r with | cons h0 t0 =>
  cases t0 with | cons h1 t1 =>
  cases t1 with | cons h2 t2 =>
  cases t2 with | cons h3 t3 =>
  cases t3
  exact ⟨_, _, _, _, rfl, h0, h1, h2, h3⟩
theorem rps5 {sa : Addr} {H : Hp} {vs : List V} {d0 d1 d2 d3 d4 : PyData} (r : Rps sa H vs [d0, d1, d2, d3, d4]) : ∃ x0 x1 x2 x3 x4, vs = [x0, x1, x2, x3, x4] ∧ Rp sa H x0 d0 ∧ Rp sa H x1 d1 ∧ Rp sa H x2 d2 ∧ Rp sa H x3 d3 ∧ Rp sa H x4 d4 := by
  cases r with | cons h0 t0 =>
  cases t0 with | cons h1 t1 =>
  cases t1 with | cons h2 t2 =>
  cases t2 with | cons h3 t3 =>
  cases t3 with | cons h4 t4 =>
  cases t4
  exact ⟨_, _, _, _, _, rfl, h0, h1, h2, h3, h4⟩
theorem rps6 {sa : Addr} {H : Hp} {vs : List V} {d0 d1 d2 d3 d4 d5 : PyData} (r : Rps sa H vs [d0, d1, d2, d3, d4, d5]) : ∃ x0 x1 x2 x3 x4 x5, vs = [x0, x1, x2, x3, x4, x5] ∧ Rp sa H x0 d0 ∧ Rp sa H x1 d1 ∧ Rp sa H x2 d2 ∧ Rp sa H x3 d3 ∧ Rp sa H x4 d4 ∧ Rp sa H x5 d5 := by
  cases r with | cons h0 t0 =>
  cases t0 with | cons h1 t1 =>
  cases t1 with | cons h2 t2 =>
  cases t2 with | cons h3 t3 =>
  cases t3 with | cons h4 t4 =>
  cases t4 with | cons h5 t5 =>
  cases t5
  exact ⟨_, _, _, _, _, _, rfl, h0, h1, h2, h3, h4, h5⟩
theorem rps7 {sa : Addr} {H : Hp} {vs : List V} {d0 d1 d2 d3 d4 d5 d6 : PyData} (r : Rps sa H vs [d0, d1, d2, d3, d4, d5, d6]) : ∃ x0 x1 x2 x3 x4 x5 x6, vs = [x0, x1, x2, x3, x4, x5, x6] ∧ Rp sa H x0 d0 ∧ Rp sa H x1 d1 ∧ Rp sa H x2 d2 ∧ Rp sa H x3 d3 ∧ Rp sa H x4 d4 ∧ Rp sa H x5 d5 ∧ Rp sa H x6 d6 := by
  cases r with | cons h0 t0 =>
  cases t0 with | cons h1 t1 =>
  cases t1 with | cons h2 t2 =>
  cases t2 with | cons h3 t3 =>
  cases t3 with | cons h4 t4 =>
  cases t4 with | cons h5 t5 =>
  cases t5 with | cons h6 t6 =>
  cases t6
  exact ⟨_, _, _, _, _, _, _, rfl, h0, h1, h2, h3, h4, h5, h6⟩
theorem rps8 {sa : Addr} {H : Hp} {vs : List V} {d0 d1 d2 d3 d4 d5 d6 d7 : PyData} (r : Rps sa H vs [d0, d1, d2, d3, d4, d5, d6, d7]) : ∃ x0 x1 x2 x3 x4 x5 x6 x7, vs = [x0, x1, x2, x3, x4, x5, x6, x7] ∧ Rp sa H x0 d0 ∧ Rp sa H x1 d1 ∧ Rp sa H x2 d2 ∧ Rp sa H x3 d3 ∧ Rp sa H x4 d4 ∧ Rp sa H x5 d5 ∧ Rp sa H x6 d6 ∧ Rp sa H x7 d7 := by
  cases r with | cons h0 t0 =>
  cases t0 with | cons h1 t1 =>
  cases t1 with | cons h2 t2 =>
  cases t2 with | cons h3 t3 =>
  cases t3 with | cons h4 t4 =>
  cases t4 with | cons h5 t5 =>
  cases t5 with | cons h6 t6 =>
  cases t6 with | cons h7 t7 =>
  cases t7
  exact ⟨_, _, _, _, _, _, _, _, rfl, h0, h1, h2, h3, h4, h5, h6, h7⟩
theorem v_any {F : V → Prop} {d : PyData} (h : ∀ x, F x) : VS d F := by
  cases d <;> first | exact h _ | exact fun p => h _
theorem iteT' {A B : Prop} (h : A) : if true = true then A else B := iteT h
theorem iteF' {A B : Prop} (h : B) : if false = true then A else B := iteF h
/-- a def that raises, for some data, an error of the class at C, and else hands back a datum -/
def Px (C : Addr) (pre : List PyData → Prop) (bad : List PyData → Bool) (fn : List PyData → PyData) : Sp := fun vs H Q E => ∃ (sa : Addr) (ds : List PyData), (∃ o, H sa = some o) ∧ Rps sa H vs ds ∧ pre ds ∧
  (bad ds = true → ∀ H', Same H H' → E (.ref C) none H') ∧ (bad ds = false → ∀ H' x, Same H H' → Rp sa H' x (fn ds) → Q x H')
theorem call_X {b : Bool} {sa : Addr} {H0 H : Hp} {acc : List V} {dacc : List PyData} {Q : VK} {E : XK} {C : Addr} {pre : List PyData → Prop} {bad : List PyData → Bool} {fn : List PyData → PyData} {vs : List V} {ds : List PyData} (W : Wd b sa H0 H acc dacc) (r : Rps sa H vs ds) (hp : pre ds)
    (h1 : bad ds = true → ∀ H', Wd b sa H0 H' acc dacc → E (.ref C) none H') (h2 : bad ds = false → ∀ H', VS (fn ds) fun x => Wd b sa H0 H' (x :: acc) (fn ds :: dacc) → Q x H') : Px C pre bad fn vs H Q E :=
  ⟨sa, ds, W.tr, r, hp, fun e H' s => h1 e H' (W.go s), fun e H' x s rx => (h2 e H').of rx ((W.go s).put rx)⟩
/-! ### loops -/
def LoopG (J : It) (g : TG) (tb : TS) (D : Ends) (σ : L2.St) (H : Hp) : Prop := ∃ W : Nat → Nat → L2.St → Hp → Prop, (∃ m, W 0 m σ H) ∧ ∀ i m σ H, W i m σ H →
  (J.stop i H ∧ D.nx σ H) ∨ (J.go i H ∧ ∃ N : L2.St → Hp → Prop, (∀ σ' H', N σ' H' → ∃ m', m' < m ∧ W (i + 1) m' σ' H') ∧ ∀ x H', J.yld i H x H' → g x σ H' fun σ2 H2 => tb { D with nx := N, ct := N, bk := D.nx } σ2 H2)
def Rng1G (vs : List V) (H : Hp) (R : It → Hp → Prop) : Prop := ∃ j : Int, vs = [.int j] ∧ -(2 ^ 62) ≤ j ∧ j < 2 ^ 62 ∧ R (Itr 0 j.toNat) H
def Rng2G (vs : List V) (H : Hp) (R : It → Hp → Prop) : Prop := ∃ i j : Int, vs = [.int i, .int j] ∧ (-(2 ^ 62) ≤ i ∧ i < 2 ^ 62 ∧ -(2 ^ 62) ≤ j ∧ j < 2 ^ 62) ∧ R (Itr i (j - i).toNat) H
section
variable {K : PySem.W.Frag} {D : Ends} {σ : L2.St} {H : Hp} {g : TG} {tb : TS} {R : It → Hp → Prop}
theorem w_for {wi : TI} (h : wi σ H fun J H1 => LoopG J g tb D σ H1) : tFor wi g tb D σ H := h
theorem w_rng1 {ta : TA} (h : ta σ H fun vs H1 => Rng1G vs H1 R) : iRng1 ta σ H R := h
theorem w_rng2 {ta : TA} (h : ta σ H fun vs H1 => Rng2G vs H1 R) : iRng2 ta σ H R := h
theorem rng1 {j : Int} (h0 : -4000000000000000000 ≤ j ∧ j ≤ 4000000000000000000) (h : R (Itr 0 j.toNat) H) : Rng1G [.int j] H R := ⟨j, rfl, by omega, by omega, h⟩
theorem rng2 {i j : Int} (h0 : (-4000000000000000000 ≤ i ∧ i ≤ 4000000000000000000) ∧ -4000000000000000000 ≤ j ∧ j ≤ 4000000000000000000) (h : R (Itr i (j - i).toNat) H) : Rng2G [.int i, .int j] H R := ⟨i, j, rfl, ⟨by omega, by omega, by omega, by omega⟩, h⟩
theorem lp_range {lo : Int} {n : Nat} (Pv : Nat → L2.St → Hp → Prop) (h0 : Pv 0 σ H)
    (hs : ∀ i σ H, i < n → Pv i σ H → g (.int (lo + i)) σ H fun σ2 H2 => tb { D with nx := Pv (i + 1), ct := Pv (i + 1), bk := D.nx } σ2 H2) (hd : ∀ σ H, Pv n σ H → D.nx σ H) : LoopG (Itr lo n) g tb D σ H := for_range Pv h0 hs hd
theorem lp_list {a : Addr} {xs : List V} (Pv : Nat → L2.St → Hp → Prop) (h0 : Pv 0 σ H) (hl : ∀ i σ H, i ≤ xs.length → Pv i σ H → SqL K H a xs)
    (hs : ∀ i x σ H, xs[i]? = some x → Pv i σ H → g x σ H fun σ2 H2 => tb { D with nx := Pv (i + 1), ct := Pv (i + 1), bk := D.nx } σ2 H2) (hd : ∀ σ H, Pv xs.length σ H → D.nx σ H) : LoopG (Itl K a) g tb D σ H := for_list Pv h0 hl hs hd
end
/-! ### sizes, shut: x is below 2 ^ k -/
@[irreducible] def Bt (k : Nat) (x : Int) : Prop := x.natAbs < 2 ^ k
theorem bt_def {k : Nat} {x : Int} : Bt k x ↔ x.natAbs < 2 ^ k := by unfold Bt; exact Iff.rfl
theorem Bt.mono {k l : Nat} {x : Int} (h : Bt k x) (e : k ≤ l) : Bt l x := bt_def.mpr (Nat.lt_of_lt_of_le (bt_def.mp h) (Nat.pow_le_pow_right (by decide) e))
theorem Bt.mul {k l : Nat} {x y : Int} (h : Bt k x) (g : Bt l y) : Bt (k + l) (x * y) := by
  have h := bt_def.mp h
  have g := bt_def.mp g
  refine bt_def.mpr ?_
  rw [Int.natAbs_mul, Nat.pow_add]
  exact Nat.mul_lt_mul'' h g
theorem Bt.add {k l : Nat} {x y : Int} (h : Bt k x) (g : Bt l y) : Bt (max k l + 1) (x + y) := by
  have h := bt_def.mp (h.mono (Nat.le_max_left k l))
  have g := bt_def.mp (g.mono (Nat.le_max_right k l))
  refine bt_def.mpr ?_
  rw [Nat.pow_succ]
  have e := Int.natAbs_add_le x y
  omega
theorem Bt.neg {k : Nat} {x : Int} (h : Bt k x) : Bt k (-x) := by
  refine bt_def.mpr ?_
  rw [Int.natAbs_neg]
  exact bt_def.mp h
theorem Bt.sub {k l : Nat} {x y : Int} (h : Bt k x) (g : Bt l y) : Bt (max k l + 1) (x - y) := h.add g.neg
theorem Bt.mulx {k l : Nat} {x y : Int} (h : Bt k x) (g : Bt l y) (e : k + l ≤ 134217728) : CMulX x y := mulx_ok (bt_def.mp h) (bt_def.mp g) e
theorem Bt.log {k : Nat} {x : Int} (h : Bt k x) (e : 0 < k ∧ k ≤ 9000) : x.natAbs.log2 < 9000 := Nat.lt_of_lt_of_le (PySem.Flt.log2_lt_of e.1 (bt_def.mp h)) e.2
theorem Bt.le {k : Nat} {x y : Int} (h : Bt k x) (e : y.natAbs ≤ x.natAbs) : Bt k y := bt_def.mpr (Nat.lt_of_le_of_lt e (bt_def.mp h))
theorem bt_39 {x : Int} (h : x.natAbs < 1000000000000000000000000000000000000000) : Bt 130 x := bt_def.mpr (Nat.lt_trans h (by decide))
theorem bt_lit {x : Int} (k : Nat) (h : x.natAbs < 2 ^ k) : Bt k x := bt_def.mpr h
theorem w_intB {b : Bool} {H : Hp} {Q : VK} (h : Q (.int (if b then 1 else 0)) H) : rInt1 [.bl b] H Q := .inr ⟨b, rfl, h⟩
theorem g_tup2 {b : Bool} {sa : Addr} {H0 H : Hp} {acc : List V} {dacc : List PyData} {K : PySem.W.Frag} {p : Addr} {d0 d1 : PyData} {i j : Nat} {σ : L2.St} {Q : L2.St → Hp → Prop} (W : Wd b sa H0 H acc dacc) (m : In2 (.ref p) (.tuple [d0, d1]) acc dacc)
    (h : VS d0 fun x => VS d1 fun y => Wd b sa H0 H (y :: x :: acc) (d1 :: d0 :: dacc) → Q ((σ.set i (some x)).set j (some y)) H) : gTup K 2 (gCons (gName i) (gCons (gName j) gNil)) (.ref p) σ H Q := by
  cases W.get m with
  | @tup _ xs _ n hx r =>
    obtain ⟨x, y, rfl, r0, r1⟩ := rps2 r
    exact ⟨p, [x, y], rfl, SqT.of hx, rfl, x, [y], rfl, y, [], rfl, rfl, ((h.of r0).of r1) ((W.put r0).put r1)⟩
theorem g_tup3 {b : Bool} {sa : Addr} {H0 H : Hp} {acc : List V} {dacc : List PyData} {K : PySem.W.Frag} {p : Addr} {d0 d1 d2 : PyData} {i j k : Nat} {σ : L2.St} {Q : L2.St → Hp → Prop} (W : Wd b sa H0 H acc dacc) (m : In2 (.ref p) (.tuple [d0, d1, d2]) acc dacc)
    (h : VS d0 fun x => VS d1 fun y => VS d2 fun z => Wd b sa H0 H (z :: y :: x :: acc) (d2 :: d1 :: d0 :: dacc) → Q (((σ.set i (some x)).set j (some y)).set k (some z)) H) : gTup K 3 (gCons (gName i) (gCons (gName j) (gCons (gName k) gNil))) (.ref p) σ H Q := by
  cases W.get m with
  | @tup _ xs _ n hx r =>
    obtain ⟨x, y, z, rfl, r0, r1, r2⟩ := rps3 r
    exact ⟨p, [x, y, z], rfl, SqT.of hx, rfl, x, [y, z], rfl, y, [z], rfl, z, [], rfl, rfl, (((h.of r0).of r1).of r2) (((W.put r0).put r1).put r2)⟩
def swap2 {α : Type} : List α → List α
  | [a, b] => [b, a]
  | l => l
theorem vals_swap2 {zs : List V} {ws : List Value} (r : Vals zs ws) (h : zs.length = 2) : Vals (swap2 zs) (swap2 ws) := by
  cases r with
  | nil => cases h
  | cons a t =>
    cases t with
    | nil => cases h
    | cons b u =>
      cases u with
      | nil => exact .cons b (.cons a .nil)
      | cons c v => simp at h
/-- the law: over a list of at most 63 ints it answers True -/
def sp_law (K : PySem.W.Frag) : Sp := fun vs H Q _ => ∃ (a : Addr) (ns : List Int), vs = [.ref a] ∧ SqL K H a (ns.map V.int) ∧ ns.length ≤ 63 ∧ ∀ H', Q (.bl true) H'
/-- a def without a stream that hands back some datum -/
def Pr (pre : List PyData → Prop) (R : List PyData → PyData → Prop) : Sp := fun vs H Q _ => ∃ (sa : Addr) (ds : List PyData), (∃ o, H sa = some o) ∧ Rps sa H vs ds ∧ pre ds ∧ ∀ H' x d, Same H H' → Rp sa H' x d → R ds d → Q x H'
theorem call_R {b : Bool} {sa : Addr} {H0 H : Hp} {acc : List V} {dacc : List PyData} {Q : VK} {E : XK} {pre : List PyData → Prop} {R : List PyData → PyData → Prop} {vs : List V} {ds : List PyData} (W : Wd b sa H0 H acc dacc) (r : Rps sa H vs ds) (hp : pre ds)
    (h : ∀ H' d, R ds d → VS d fun x => Wd b sa H0 H' (x :: acc) (d :: dacc) → Q x H') : Pr pre R vs H Q E :=
  ⟨sa, ds, W.tr, r, hp, fun H' x d s rx hR => (h H' d hR).of rx ((W.go s).put rx)⟩
theorem bl_dec {a b : Bool} : decide (V.bl a = V.bl b) = (a == b) := by
  cases a <;> cases b <;> rfl
theorem w_eqBB {a b : Bool} {H : Hp} {Q : VK} (h : Q (.bl (a == b)) H) : rEq (.bl a) (.bl b) H Q := ⟨rfl, by rw [bl_dec]; exact h⟩
theorem w_neBB {a b : Bool} {H : Hp} {Q : VK} (h : Q (.bl (!(a == b))) H) : rNe (.bl a) (.bl b) H Q := ⟨rfl, by rw [bl_dec]; exact h⟩
theorem Rp.tupF {sa : Addr} {H : Hp} {v : V} {ds : List PyData} (r : Rp sa H v (.tuple ds)) : ∃ p xs, v = .ref p ∧ H p = some (.tup xs) := by
  cases r with
  | tup n h r => exact ⟨_, _, rfl, h⟩
/-- things that are tuples of ints stand when a list is changed -/
theorem Rp.tupStay {sa g : Addr} {H : Hp} {v : V} {a b : Int} {xs ys : List V} (r : Rp sa H v (.tuple [.int a, .int b])) (hg : H g = some (.lst xs)) : Rp sa (upd H g (.lst ys)) v (.tuple [.int a, .int b]) := by
  cases r with
  | @tup p zs _ n h r =>
    have ne : p ≠ g := fun e => by
      rw [e, hg] at h
      cases h
    obtain ⟨x, y, rfl, r0, r1⟩ := rps2 r
    cases r0
    cases r1
    exact .tup n (by rw [upd_ne ne]; exact h) (.cons (.int _) (.cons (.int _) .nil))
theorem Stm.setL {H : Hp} {a g : Addr} {x : V} {xs ys : List V} (s : Stm H a) (hg : H g = some (.lst (x :: xs))) (hx : ∀ n, x ≠ .int n) (ne : g ≠ a) : Stm (upd H g (.lst ys)) a := by
  obtain ⟨c, p, q, n, ns, h1, h2, h3, h4, h5⟩ := s
  have nc : c ≠ g := fun e => by
    rw [e, hg] at h4
    cases ns with
    | nil => simp at h5
    | cons m r =>
      injection h4 with h4
      injection h4 with h4
      injection h4 with h4 _
      exact hx _ h4
  exact ⟨c, p, q, n, ns, by rw [upd_ne (Ne.symm ne)]; exact h1, h2, h3, by rw [upd_ne nc]; exact h4, h5⟩
/-! ### data without lists and dicts: they stand when a list is changed -/
mutual
def tupOnly : PyData → Bool
  | .list _ => false
  | .tuple ds => tupOnlys ds
  | .dict _ => false
  | _ => true
def tupOnlys : List PyData → Bool
  | [] => true
  | d :: ds => tupOnly d && tupOnlys ds
end
mutual
theorem Rp.stay {sa g : Addr} {H : Hp} {xs ys : List V} (hg : H g = some (.lst xs)) : ∀ {v : V} {d : PyData}, Rp sa H v d → tupOnly d = true → Rp sa (upd H g (.lst ys)) v d
  | _, _, .non, _ => .non
  | _, _, .bl b, _ => .bl b
  | _, _, .int i, _ => .int i
  | _, _, .str x, _ => .str x
  | _, _, .lst _ _ _, e => nomatch e
  | _, _, .tup n h r, e => .tup n (by
      rw [upd_ne (fun z => by
        rw [z, hg] at h
        cases h)]
      exact h) (Rps.stay hg r e)
  | _, _, .dct _ _, e => nomatch e
theorem Rps.stay {sa g : Addr} {H : Hp} {xs ys : List V} (hg : H g = some (.lst xs)) : ∀ {vs : List V} {ds : List PyData}, Rps sa H vs ds → tupOnlys ds = true → Rps sa (upd H g (.lst ys)) vs ds
  | _, _, .nil, _ => .nil
  | _, _, .cons h t, e => .cons (Rp.stay hg h (by
      unfold tupOnlys at e
      exact (Bool.and_eq_true _ _ ▸ e).1)) (Rps.stay hg t (by
      unfold tupOnlys at e
      exact (Bool.and_eq_true _ _ ▸ e).2))
end
theorem tupOnlys_all : ∀ {ds : List PyData}, (∀ d ∈ ds, tupOnly d = true) → tupOnlys ds = true
  | [], _ => rfl
  | d :: ds, h => by
    unfold tupOnlys
    rw [h d List.mem_cons_self, tupOnlys_all fun e he => h e (List.mem_cons_of_mem _ he)]
    rfl
theorem Rps.set {sa : Addr} {H : Hp} {y : V} {dy : PyData} (hy : Rp sa H y dy) : ∀ {vs : List V} {ds : List PyData} (j : Nat), Rps sa H vs ds → Rps sa H (vs.set j y) (ds.set j dy)
  | _, _, _, .nil => .nil
  | _, _, 0, .cons _ t => .cons hy t
  | _, _, j + 1, .cons h t => .cons h (Rps.set hy j t)
theorem Stm.putL {H : Hp} {a g : Addr} {xs ys : List V} (s : Stm H a) (hg : H g = some (.lst xs)) (ne : g ≠ a) (hx : ∀ c p q n, H a = some (.lst [.ref c, .int p, .int q, .int n]) → c ≠ g) : Stm (upd H g (.lst ys)) a := by
  obtain ⟨c, p, q, n, ns, h1, h2, h3, h4, h5⟩ := s
  exact ⟨c, p, q, n, ns, by rw [upd_ne (Ne.symm ne)]; exact h1, h2, h3, by rw [upd_ne (hx c p q n h1)]; exact h4, h5⟩
theorem But.put {a g : Addr} {H H' : Hp} {o : HO} (b : But a H H') (h : H g = none) : But a H (L2.upd H' g o) := fun c u n e => by
  rw [upd_ne (ne_of_none e h)]
  exact b c u n e
/-- the stream's cells, told by the address -/
def StmC (H : Hp) (a c : Addr) : Prop := ∃ (p g n : Int) (ns : List Int), H a = some (.lst [.ref c, .int p, .int g, .int n]) ∧ 0 ≤ p ∧ 0 ≤ g ∧ H c = some (.lst (ns.map V.int)) ∧ 0 < ns.length
theorem lcYes {σ : L2.St} {H : Hp} {A B : Hp → Prop} (h : A H) : tYes σ H fun b H3 => if b = true then A H3 else B H3 := by
  show (if true = true then A H else B H)
  exact iteT h
/-- [te for j in range(n)], te drawing; its items hold no lists -/
theorem lc_RN {sa : Addr} {H : Hp} {j n : Nat} {te : TE} {vs : List Nat} {σ : L2.St} {Q : VK} (st : Stm H sa) (hn : n ≤ 1000) (R : PyData → Prop) (hR : ∀ d, R d → tupOnly d = true) (hr : ∀ v d H', R d → Rp sa H' v d → ∀ i, v ≠ .int i)
    (hw : ∀ x, wipe ((wipe σ vs).set j (some x)) vs = wipe σ vs)
    (hs : ∀ (i : Nat) H' Q', i < n → But sa H H' → Stm H' sa → (∀ y H4 dy, But sa H' H4 → Stm H4 sa → Rp sa H4 y dy → R dy → Q' y H4) → te ((wipe σ vs).set j (some (.int (0 + (i : Int))))) H' Q')
    (hd : ∀ H' D xs ds, H D = none → But sa H H' → Stm H' sa → D ≠ sa → H' D = some (.lst xs) → Rps sa H' xs ds → ds.length = n → (∀ d ∈ ds, R d) → Q (.ref D) H') : tLc (iRng1 (tCons (tC (.int (n : Int))) tNil)) (gName j) tYes te vs σ H Q := by
  refine ⟨(n : Int), rfl, by omega, by omega, fun D nD => ?_⟩
  have nsa : D ≠ sa := st.ne nD
  -- the cells of the stream stand apart from D
  have cells : ∀ H', But sa H H' → Stm H' sa → (∃ xs, H' D = some (.lst xs) ∧ ∀ i ∈ xs, ∀ k, i ≠ V.int k) → ∀ c p q m, H' sa = some (.lst [.ref c, .int p, .int q, .int m]) → ∀ ns : List Int, H' c = some (.lst (ns.map V.int)) → 0 < ns.length → c ≠ D := fun H' b s ⟨xs, h1, h2⟩ c p q m h3 ns h4 h5 e => by
    rw [e, h1] at h4
    injection h4 with h4
    injection h4 with h4
    cases ns with
    | nil => simp at h5
    | cons k r =>
      rw [h4] at h2
      exact h2 (.int k) (by simp) k rfl
  refine lc_range (lo := 0) (n := n) (fun i H' => But sa H H' ∧ Stm H' sa ∧ ∃ xs ds, H' D = some (.lst xs) ∧ Rps sa H' xs ds ∧ ds.length = i ∧ ∀ d ∈ ds, R d) ?_ (fun i H' hi hP => ?_) (fun H' hP => ?_)
  · exact ⟨(But.refl sa H).put nD, st.keep (same_new nD), [], [], upd_same, .nil, rfl, fun d hd => absurd hd (by simp)⟩
  · obtain ⟨bb, s, xs, ds, h1, h2, h3, h4⟩ := hP
    refine ⟨hw _, lcYes ?_⟩
    refine hs i H' _ hi bb s fun y H4 dy b4 s4 ry hy => ?_
    have e4 : H4 D = some (.lst xs) := b4 _ _ nsa h1
    have r4 : Rps sa H4 xs ds := h2.but b4
    have all : tupOnlys ds = true := tupOnlys_all fun d hd => hR d (h4 d hd)
    refine ⟨xs, e4, by rw [h2.lens, h3]; exact small1000 (by omega), (bb.trans b4).put nD, ?_, xs ++ [y], ds ++ [dy], upd_same, (r4.stay e4 all).app (.cons (ry.stay e4 (hR _ hy)) .nil), by rw [List.length_append, h3]; rfl, fun d hd => ?_⟩
    · obtain ⟨c, p, q, m, ns, k1, k2, k3, k4, k5⟩ := s4
      have nc : c ≠ D := fun e => by
        rw [e, e4] at k4
        cases xs with
        | nil =>
          cases ns with
          | nil => simp at k5
          | cons _ _ => cases k4
        | cons x r =>
          cases ns with
          | nil => simp at k5
          | cons z _ =>
            injection k4 with k4
            injection k4 with k4
            injection k4 with k4 _
            cases r4 with
            | @cons _ _ d0 _ hx t => exact hr x d0 H4 (h4 d0 List.mem_cons_self) hx z k4
      exact ⟨c, p, q, m, ns, by rw [upd_ne (Ne.symm nsa)]; exact k1, k2, k3, by rw [upd_ne nc]; exact k4, k5⟩
    · rcases List.mem_append.mp hd with hd | hd
      · exact h4 d hd
      · rw [List.mem_singleton.mp hd]
        exact hy
  · obtain ⟨bb, s, xs, ds, h1, h2, h3, h4⟩ := hP
    exact hd H' D xs ds nD bb s nsa h1 h2 h3 h4
theorem lc_R {sa : Addr} {H : Hp} {j n : Nat} {te : TE} {vs : List Nat} {σ : L2.St} {Q : VK} (st : Stm H sa) (hn : n ≤ 1000) (R : PyData → Prop) (hR : ∀ d, R d → tupOnly d = true) (hr : ∀ v d H', R d → Rp sa H' v d → ∀ i, v ≠ .int i)
    (hw : ∀ x, wipe ((wipe σ vs).set j (some x)) vs = wipe σ vs)
    (hs : ∀ (i : Nat) H' Q', i < n → But sa H H' → Stm H' sa → (∀ y H4 dy, But sa H' H4 → Stm H4 sa → Rp sa H4 y dy → R dy → Q' y H4) → te ((wipe σ vs).set j (some (.int (0 + (i : Int))))) H' Q')
    (hd : ∀ H' D xs ds, But sa H H' → Stm H' sa → D ≠ sa → H' D = some (.lst xs) → Rps sa H' xs ds → ds.length = n → (∀ d ∈ ds, R d) → Q (.ref D) H') : tLc (iRng1 (tCons (tC (.int (n : Int))) tNil)) (gName j) tYes te vs σ H Q :=
  lc_RN st hn R hR hr hw hs fun H' D xs ds _ => hd H' D xs ds
/-- the script stands beside the stream -/
theorem sq_but {K : PySem.W.Frag} {a c : Addr} {H H' : Hp} {ns : List Int} (b : But a H H') (s : Stm H a) (h : SqL K H c (ns.map V.int)) : SqL K H' c (ns.map V.int) := by
  obtain ⟨c0, p, q, n, ms, h1, _⟩ := s
  rcases h with (h | ⟨o, h⟩) | h
  · refine .inl (.inl (b _ _ (fun e => ?_) h))
    rw [e, h1] at h
    injection h with h
    injection h with h
    cases ns with
    | nil => cases h
    | cons x r => cases h
  · refine .inl (.inr ⟨o, b _ _ (fun e => ?_) h⟩)
    rw [e, h1] at h
    cases h
  · exact .inr h
/-- the greatest number whose square is at most n -/
def IsRt (n r : Nat) : Prop := r * r ≤ n ∧ n < (r + 1) * (r + 1)
theorem small8 {n : Nat} (h : n < 8) : IsRt n (Float64.rootBelow8 n) := by
  unfold Float64.rootBelow8 IsRt
  rcases (show n = 0 ∨ n = 1 ∨ n = 2 ∨ n = 3 ∨ n = 4 ∨ n = 5 ∨ n = 6 ∨ n = 7 by omega) with rfl | rfl | rfl | rfl | rfl | rfl | rfl | rfl <;> decide
/-- Newton's step from above stays above -/
theorem newt_ge {n x m : Nat} (hx : 0 < x) (h : m * m ≤ n) : m ≤ (x + n / x) / 2 := by
  have h2 : n < (n / x + 1) * x := by
    have := Nat.lt_div_mul_add hx (a := n)
    rw [Nat.add_mul, Nat.one_mul]
    exact this
  generalize n / x = q at h2
  have h3 : 4 * ((q + 1) * x) ≤ (q + 1 + x) * (q + 1 + x) := by
    rcases Nat.le_total (q + 1) x with h | h
    · obtain ⟨e, he⟩ := Nat.exists_eq_add_of_le h
      have : (q + 1 + x) * (q + 1 + x) = 4 * ((q + 1) * x) + e * e := by grind
      omega
    · obtain ⟨e, he⟩ := Nat.exists_eq_add_of_le h
      have : (q + 1 + x) * (q + 1 + x) = 4 * ((q + 1) * x) + e * e := by grind
      omega
  have h4 : (2 * m) * (2 * m) < (q + 1 + x) * (q + 1 + x) := by
    have : (2 * m) * (2 * m) = 4 * (m * m) := by grind
    omega
  have h5 : 2 * m < q + 1 + x := Nat.mul_self_lt_mul_self_iff.mp h4
  omega
/-- and comes near: x = c + t, t * t small -/
theorem newt_le {n x c t : Nat} (hx : x = c + t) (hc : c * c ≤ n) (hn : n < x * x) (ht : t * t ≤ 2 * x) : ((x + n / x) / 2 - 1) * ((x + n / x) / 2 - 1) ≤ n := by
  have x0 : 0 < x := by
    rcases Nat.eq_zero_or_pos x with h | h
    · subst h
      simp at hn
    · exact h
  have hq : n / x * x ≤ n := Nat.div_mul_le_self n x
  have hqx : n / x < x := (Nat.div_lt_iff_lt_mul x0).mpr hn
  generalize n / x = q at hq hqx
  refine Nat.not_lt.mp fun hz => ?_
  generalize hy : (x + q) / 2 = y at hz
  have hy2 : 2 * y ≤ x + q := by omega
  cases y with
  | zero => simp at hz
  | succ z =>
    rw [Nat.add_sub_cancel] at hz
    have zc : c < z := by
      refine Nat.not_le.mp fun h => ?_
      have := Nat.mul_le_mul h h
      omega
    have zx : z < x := by omega
    obtain ⟨e, he⟩ := Nat.exists_eq_add_of_lt zx
    -- x = z + e + 1, e + 1 < t
    have et : e + 1 < t := by omega
    have h1 : 2 * (z + 1) * x ≤ x * x + q * x := by
      have := Nat.mul_le_mul_right x hy2
      grind
    have h2 : 2 * (z + 1) * x ≤ x * x + n := by omega
    have h3 : (e + 1) * (e + 1) + 2 * z * x = x * x + z * z := by grind
    have h4 : 2 * (z + 1) * x = 2 * z * x + 2 * x := by grind
    have h5 : 2 * x < (e + 1) * (e + 1) := by omega
    have h6 : (e + 1) * (e + 1) ≤ t * t := Nat.mul_le_mul (Nat.le_of_lt et) (Nat.le_of_lt et)
    omega
/-- the model's own root is the root -/
theorem rootBy (levels : Nat) : ∀ n : Nat, (8 ≤ n → n.log2 ≤ levels) → IsRt n (Float64.rootByHalves levels n) := by
  induction levels with
  | zero =>
    intro n h
    by_cases h8 : n < 8
    · exact small8 h8
    · have z := h (by omega)
      have : n < 2 ^ 1 := (Nat.log2_lt (by omega)).mp (by omega)
      omega
  | succ l ih =>
    intro n h
    unfold Float64.rootByHalves
    by_cases h8 : n < 8
    · rw [if_pos h8]
      exact small8 h8
    · rw [if_neg h8]
      dsimp only
      have n0 : n ≠ 0 := by omega
      have hL : n.log2 ≤ l + 1 := h (by omega)
      have L3 : 3 ≤ n.log2 := (Nat.le_log2 n0).mpr (by omega)
      generalize hk : (n.log2 + 1) / 4 = k
      have k1 : 1 ≤ k := by omega
      have up : n < 2 ^ (n.log2 + 1) := (Nat.log2_lt n0).mp (Nat.lt_succ_self _)
      have lo : 2 ^ n.log2 ≤ n := (Nat.le_log2 n0).mp (Nat.le_refl _)
      have p4 : 0 < 4 ^ k := Nat.pow_pos (by decide)
      have r := ih (n / 4 ^ k) fun _ => by
        have nz : n / 4 ^ k ≠ 0 := by omega
        have : n / 4 ^ k < 2 ^ (n.log2 + 1 - 2 * k) := by
          rw [Nat.div_lt_iff_lt_mul p4]
          have e : 2 ^ (n.log2 + 1 - 2 * k) * 4 ^ k = 2 ^ (n.log2 + 1) := by
            rw [show (4 : Nat) = 2 ^ 2 from rfl, ← Nat.pow_mul, ← Nat.pow_add]
            congr 1
            omega
          rw [e]
          exact up
        have := (Nat.log2_lt nz).mpr this
        omega
      generalize Float64.rootByHalves l (n / 4 ^ k) = s at r
      obtain ⟨r1, r2⟩ := r
      have t2 : 2 ^ k * 2 ^ k = 4 ^ k := by rw [← Nat.mul_pow]
      have lo4 : s * s * 4 ^ k ≤ n := by
        have := Nat.mul_le_mul_right (4 ^ k) r1
        exact Nat.le_trans this (Nat.div_mul_le_self n _)
      have hi4 : n < (s + 1) * (s + 1) * 4 ^ k := by
        have := (Nat.div_lt_iff_lt_mul p4).mp r2
        exact this
      generalize ht : 2 ^ k = t at *
      have t0 : 0 < t := by rw [← ht]; exact Nat.pow_pos (by decide)
      have hx : (s + 1) * t = s * t + t := by grind
      have hc : s * t * (s * t) ≤ n := by
        have : s * t * (s * t) = s * s * 4 ^ k := by rw [← t2]; grind
        omega
      have hn : n < (s + 1) * t * ((s + 1) * t) := by
        have : (s + 1) * t * ((s + 1) * t) = (s + 1) * (s + 1) * 4 ^ k := by rw [← t2]; grind
        omega
      have x0 : 0 < (s + 1) * t := Nat.mul_pos (by omega) t0
      have t4 : t * t * (t * t) ≤ 2 * n := by
        have e : t * t * (t * t) = 2 ^ (4 * k) := by
          rw [t2, ← Nat.mul_pow, show (4 * 4 : Nat) = 2 ^ 4 from rfl, ← Nat.pow_mul]
        rw [e]
        have : 2 ^ (4 * k) ≤ 2 ^ (n.log2 + 1) := Nat.pow_le_pow_right (by decide) (by omega)
        rw [Nat.pow_succ] at this
        omega
      generalize (s + 1) * t = x at hx hn x0
      have tt : t * t ≤ 2 * x := by
        refine Nat.not_lt.mp fun hz => ?_
        have a1 : 2 * x * (2 * x) < t * t * (t * t) := Nat.mul_lt_mul'' hz hz
        have a2 : 2 * x * (2 * x) = 4 * (x * x) := by grind
        omega
      have ge : ∀ m, m * m ≤ n → m ≤ (x + n / x) / 2 := fun m hm => newt_ge x0 hm
      have le := newt_le hx hc hn tt
      show IsRt n (if (x + n / x) / 2 * ((x + n / x) / 2) > n then (x + n / x) / 2 - 1 else (x + n / x) / 2)
      generalize (x + n / x) / 2 = y at ge le
      have big : n < (y + 1) * (y + 1) := Nat.not_le.mp fun h => by
        have := ge _ h
        omega
      by_cases hy : y * y > n
      · rw [if_pos hy]
        refine ⟨le, ?_⟩
        have : y ≠ 0 := fun z => by rw [z] at hy; omega
        rw [Nat.sub_add_cancel (by omega)]
        exact hy
      · rw [if_neg hy]
        exact ⟨by omega, big⟩
theorem isqrt_ok (n : Nat) : IsRt n (Float64.isqrt n) := rootBy _ n fun _ => Nat.le_refl _
theorem IsRt.uniq {n r s : Nat} (h : IsRt n r) (k : IsRt n s) : r = s := by
  have a : r < s + 1 := Nat.mul_self_lt_mul_self_iff.mp (Nat.lt_of_le_of_lt h.1 k.2)
  have b : s < r + 1 := Nat.mul_self_lt_mul_self_iff.mp (Nat.lt_of_le_of_lt k.1 h.2)
  omega
theorem isqrt_sq (r : Nat) : Float64.isqrt (r * r) = r := (isqrt_ok _).uniq ⟨Nat.le_refl _, by grind⟩
def rIsq : List V → Hp → VK → Prop := fun vs H Q => ∃ a : Int, vs = [.int a] ∧ 0 ≤ a ∧ a.toNat.log2 < 9000 ∧ Q (.int ((Float64.isqrt a.toNat : Nat) : Int)) H
theorem cr_isqrt {X : Cx} : CallR X (.builtin "math.isqrt") rIsq := by
  intro pins s σ H vs us Q I r h
  obtain ⟨a, rfl, h0, hl, q⟩ := h
  obtain ⟨u, us', rfl, ⟨t, rfl⟩, rfl⟩ : ∃ u us', us = u :: us' ∧ RelV (.int a) u ∧ us' = [] := by
    cases r with
    | cons ra rn =>
      cases rn
      exact ⟨_, _, rfl, ra, rfl⟩
  exact PySem.call_function_meets PySem.W.MGF.kind_isqrt PySem.W.MGF.plain_isqrt PySem.W.MGF.entry_isqrt (PySem.W.MGF.args_isqrt _) (PySem.W.mg_run_isqrt a t (by omega) (by omega) (by omega)).meets ⟨.int _, H, I.tok _, ⟨_, rfl⟩, q⟩
theorem w_isq {n : Int} {H : Hp} {Q : VK} (h0 : 0 ≤ n) (hl : n.toNat.log2 < 9000) (h : Q (.int ((Float64.isqrt n.toNat : Nat) : Int)) H) : rIsq [.int n] H Q := ⟨n, rfl, h0, hl, h⟩
def rShl1 : R2 := fun x y H Q => ∃ k : Nat, x = .int 1 ∧ y = .int (k : Int) ∧ k ≤ 134217727 ∧ Q (.int (2 ^ k)) H
theorem oq_shl1 {X : Cx} : OpR X (binaryOp .LShift) rShl1 := op_oneShl
theorem w_bits {te : TE} {σ : L2.St} {H : Hp} {Q : VK} (h : te σ H fun x H1 => ∃ i, x = .int i ∧ Q (.int (Builtin.Int.intBits i : Nat)) H1) : tBits te σ H Q := h
theorem w_xi {i : Int} {F : Int → Prop} (h : F i) : ∃ j, V.int i = .int j ∧ F j := ⟨i, rfl, h⟩
theorem passLS {X : Cx} {σ : L2.St} : PassesAt (L2.CX X.prog X.w) X σ E0 := fun pins H s e s' I h => passL pins σ H s e s' I h
theorem w_isNone {x : V} {H : Hp} {Q : VK} (h : Q (.bl (decide (x = .non))) H) : rIsN x .non H Q := ⟨rfl, h⟩
theorem w_notNone {x : V} {H : Hp} {Q : VK} (h : Q (.bl (!decide (x = .non))) H) : rNotN x .non H Q := ⟨rfl, h⟩
theorem dn_non : decide (V.non = .non) = true := rfl
theorem dn_int {i : Int} : decide (V.int i = .non) = false := rfl
theorem dn_ref {a : Addr} : decide (V.ref a = .non) = false := rfl
theorem w_isN_i {i : Int} {H : Hp} {Q : VK} (h : Q (.bl false) H) : rIsN (.int i) .non H Q := ⟨rfl, h⟩
theorem w_isN_r {a : Addr} {H : Hp} {Q : VK} (h : Q (.bl false) H) : rIsN (.ref a) .non H Q := ⟨rfl, h⟩
theorem w_isN_n {H : Hp} {Q : VK} (h : Q (.bl true) H) : rIsN .non .non H Q := ⟨rfl, h⟩
theorem w_noN_i {i : Int} {H : Hp} {Q : VK} (h : Q (.bl true) H) : rNotN (.int i) .non H Q := ⟨rfl, h⟩
theorem w_noN_r {a : Addr} {H : Hp} {Q : VK} (h : Q (.bl true) H) : rNotN (.ref a) .non H Q := ⟨rfl, h⟩
theorem w_noN_n {H : Hp} {Q : VK} (h : Q (.bl false) H) : rNotN .non .non H Q := ⟨rfl, h⟩
theorem w_shl {k : Int} {H : Hp} {Q : VK} (h0 : 0 ≤ k) (h1 : k ≤ 134217727) (h : Q (.int ((2 ^ k.toNat : Nat) : Int)) H) : rShl1 (.int 1) (.int k) H Q := ⟨k.toNat, rfl, by rw [Int.toNat_of_nonneg h0], by omega, by rw [Int.natCast_pow] at h; exact h⟩
/-! ### a def that is handed the exception which a suite holds: it stands pinned in the def's own frame -/
section
variable {P : Program} {w : World} {K : PySem.W.Frag} {mg : Str → Option Value} {base : Heap}
/-- its promise may speak of the pinned object q -/
structure FnE (P : Program) (w : World) (K : PySem.W.Frag) (mg : Str → Option Value) (base : Heap) (k : Nat) (f : Addr) (fd : FuncData) (ps : List Str) (sp : Addr × Obj → Sp) : Prop where
  len : ∀ q vs H Q E, sp q vs H Q E → vs.length = ps.length
  run : ∀ (A : Around) (outer : List Env) (s : Shared) (H : Hp) (args : Args) (us : List Value) (vs : List V) (Q : VK) (E : XK) (q : Addr × Obj), L2H.RoomH k A → L2H.PinOk outer H s q → Env0 P w K mg base A outer s H →
    BindsTo s fd args (ps.zip us) → Vals vs us → sp q vs H Q E → codeAny (model P w) A (.call (.ref f) args) (CR CX0 outer P w H s Q E) s
theorem fnE_ok {x qual : Str} {st : Stmt} {f : Addr} {fd : FuncData} {N ps : List Str} {k : Nat} {sp : Addr × Obj → Sp} (F : Fun K x qual st f fd) (S : FnScope N ps (defScope st)) (len : ∀ q vs H Q E, sp q vs H Q E → vs.length = ps.length)
    (hbody : ∀ (cdv : Value) (A : Around) (outer : List Env) (s : Shared) (H : Hp) (vs : List V) (Q : VK) (E : XK) (q : Addr × Obj), L2H.RoomH k (A.deeper (envOfC qual (defScope st) s.heap.objs.size f cdv)) → sp q vs H Q E →
      ∃ t, PSs (L2H.cxH CX0 P w K mg base N qual (defScope st) f cdv A outer s H E q) (defBody st) t ∧ t { nx := fun _ H' => Q .non H', rt := Q } (start N vs) H) : FnE P w K mg base (k + 1) f fd ps sp := by
  obtain ⟨oc, od, kV, doc, pm, an, cdv, ct, osl, rfl, lk, hcd⟩ := F.ex
  constructor
  · exact len
  intro A outer s H args us vs Q E q room pin e0 binds rel hs
  have nvs := len _ _ _ _ _ hs
  have inK : K.In s.heap := e0.mod.kin.keeps fun b o eb => (e0.bs b o eb).1
  have noLim : s.heap.NoLimit := e0.mod.nolimit.keeps fun b o eb => (e0.bs b o eb).1
  have kinds : ∀ y ∈ ps.zip us, (defScope st).names.lookup y.1 = some .local ∨ ((defScope st).names.lookup y.1 = some .cell ∧ ((cellsFrom (s.heap.objs.size + 1) (defScope st).names []).lookup y.1).isSome = true) := by
    rintro ⟨n, v⟩ hy
    rcases S.par n (List.of_mem_zip hy).1 with hl | hc
    · left
      exact hl
    · right
      exact ⟨hc, PySem.W.cellsFrom_some _ _ _ (.inl hc)⟩
  apply codeAny_call_function room.depth (inK _ _ lk) rfl S.co S.gen rfl (PySem.W.codeRec_of inK hcd) (binds _ _ _ _ ?_)
  apply wpAny_newFunctionEnv_cells S.kind kinds
  intro env hev s1 call
  subst hev
  constructor
  · exact noLim.keeps call.toInCall.keep
  apply codeAny_func
  obtain ⟨t, ht, hq⟩ := hbody cdv A outer s H vs Q E q (room.deeper _) hs
  have I0 := L2H.inv_startH (CX := CX0) (E := E) S pin e0 nvs rel call
  refine wpAny_mono (ht.run [] s1 _ H _ I0 hq) (fun fl s2 r2 => ?_) fun _ _ z => z
  cases fl with
  | next =>
    obtain ⟨_, H2, J, qn⟩ := r2
    exact ⟨V.non, H2, J.os, J.bare, J.base, J.hok, rfl, qn⟩
  | ret u =>
    obtain ⟨v, _, H2, J, rv, qn⟩ := r2
    exact ⟨v, H2, J.os, J.bare, J.base, J.hok, rv, qn⟩
  | brk => exact r2.elim fun _ z => z.elim fun _ z => z.2.elim
  | cont => exact r2.elim fun _ z => z.elim fun _ z => z.2.elim
end
section
variable {X : Cx} {k : Nat} {f : Addr} {fd : FuncData} {ps : List Str} {sp : Addr × Obj → Sp} {q : Addr × Obj} {x : Str} {p pos : Pos} {e : Expr} {es : List Expr} {t : TA} {te : TE}
def tCallE (sp : Sp) (t : TA) : TE := fun σ H Q => t σ H fun vs H1 => sp vs H1 Q E0
/-- f(e, ..) where the frame bears the pinned q -/
theorem pe_callE {sp0 : Sp} (F : FnE X.prog X.w X.K X.mg X.base k f fd ps sp) (hsp : ∀ vs H Q E, sp0 vs H Q E → sp q vs H Q E) (hr : L2H.RoomH k X.A) (hq : q ∈ X.pn) (hg : Gl X x) (hm : X.mg x = some (.ref f)) (hk : PySem.W.keepIn X.K (.ref f) = true) (hb : Binds X.K fd ps [])
    (ha : PA X (e :: es) t) (hdb : (x == ("__debug__" : Str)) = false := by decide) (he : starEach (e :: es) X.env = (false, eval e X.env) :: starEach es X.env := by rfl) (hpl : (backTo pos (starEach es X.env)).any (·.1) = false := by rfl) :
    PE X (.Call (.Name x p) (e :: es) [] pos) (tCallE sp0 t) := by
  constructor
  intro pins s σ H Q I h
  apply wpAny_Call_Name_kw (ld_glob I hg hm ?_ hdb)
  refine PySem.W.callWith_K (h₀ := X.base) I.ok.mod.kin hk (thn (ha.run pos pins s σ H _ I h) ?_) he hpl
  rintro us s1 ⟨vs, H1, I1, rel, hs0⟩
  have hs := hsp _ _ _ _ hs0
  refine ⟨I1.kIn, ?_⟩
  have nus : us.length = ps.length := rel.length.symm.trans (F.len _ _ _ _ _ hs)
  have bd := hb s1 us I1.kIn (by rw [List.append_nil]; exact nus)
  rw [List.append_nil] at bd
  have pn := I1.pin q (List.mem_append_left _ hq)
  have pok : L2H.PinOk X.stack H1 s1 q := ⟨pn.1, pn.2.1, fun hm => (List.mem_cons.mp (I1.stkSub q.1 hm)).elim pn.2.2.1 pn.2.2.2.1, pn.2.2.2.2⟩
  apply wpAny_call
  apply codeAny_mono (F.run X.A X.stack s1 H1 ⟨us, []⟩ us vs Q E0 q hr pok I1.env0 bd rel hs)
  intro r s2 hr2
  cases r with
  | error er => exact hr2.elim
  | ok fl =>
    cases fl with
    | ret u => exact I1.after hr2
    | next => exact hr2.elim
    | brk => exact hr2.elim
    | cont => exact hr2.elim
/-- what must be known of the class of the pinned exception -/
structure XCls (K : PySem.W.Frag) (C : Addr) : Prop where
  F : XfC K C
  cl : (PySem.W.clsIn K C).isSome = true
  ha : PySem.W.findIn K (.ref C) "__class__" = some (some (.builtin "object.__class__"))
  hn : PySem.W.specialIn K (.builtin "object.__class__") "__get__" = some (some (.builtin "getset_descriptor.__get__"))
  ht : PySem.W.takesIn K (.builtin "object.__class__") = some true
  hm : PySem.W.mroIn K C (.type "object") = some true
/-- the pinned object is an exception of the class at C, its dict at d -/
structure XObj (q : Addr × Obj) (C : Addr) (d : Option Addr) : Prop where
  z : Zc (.ref C) d q.2
  f : ∃ vs, q.2.data = .fields vs
/-- its dict, if there is one, stands -/
def XDct (H : Hp) (d : Option Addr) : Prop := ∀ dd, d = some dd → ∃ fs, H dd = some (.xd fs)
theorem inst_of {pins : List (Addr × Obj)} {σ : L2.St} {H : Hp} {s : Shared} {C : Addr} {d : Option Addr} (I : Inv X pins σ H s) (hq : q ∈ X.pn) (o : XObj q C d) (hd : XDct H d) :
    ∃ od, PySem.W.InstAt s.heap q.1 q.2 C od ∧ ∀ dd, d = some dd → ∀ fs, H dd = some (.xd fs) → ∃ (ob : Obj) (mA : Str → Option Value), od = some ob ∧ (∀ g, RelO (fs.lookup g) (mA g)) ∧ ∀ g, PySem.W.lookIn g ob = some (mA g) := by
  have pn := (I.pin q (List.mem_append_left _ hq)).1
  obtain ⟨vs, dat⟩ := o.f
  have nc : PySem.W.notCls q.2 := by unfold PySem.W.notCls; rw [dat] <;> rfl
  cases d with
  | none => exact ⟨none, ⟨pn, o.z.1, nc, by rw [o.z.2]; trivial⟩, fun dd z => nomatch z⟩
  | some dd =>
    obtain ⟨fs, hfs⟩ := hd dd rfl
    have x : ObjOk X.prog X.w H s.heap dd (.xd fs) := I.hok dd _ hfs
    obtain ⟨mA, ns, rel⟩ := x
    obtain ⟨od, ho, look⟩ := lookIn_ns ns
    refine ⟨some od, ⟨pn, o.z.1, nc, by rw [o.z.2]; exact ho⟩, fun d2 z fs2 h2 => ?_⟩
    cases z
    rw [hfs] at h2
    cases h2
    exact ⟨od, mA, rfl, rel, look⟩
/-- e.f of the pinned exception -/
def tXp (q : Addr × Obj) (K : PySem.W.Frag) (n : Str) (te : TE) : TE := fun σ H Q => te σ H fun x H1 => ∃ (C dd : Addr) (fs : List (Str × V)) (v : V), x = .ref q.1 ∧ XObj q C (some dd) ∧ XCls K C ∧ PySem.W.findIn K (.ref C) n = some none ∧ H1 dd = some (.xd fs) ∧ fs.lookup n = some v ∧ Q v H1
theorem pe_xp {n : Str} (hq : q ∈ X.pn) (he : PE X e te) (hb : attributeBase e n X.env (eval e X.env) = eval e X.env := by rfl) : PE X (.Attribute e n pos) (tXp q X.K n te) := by
  constructor
  intro pins s σ H Q I h
  apply attr_of hb
  apply thn (he.run pins s σ H _ I h)
  rintro u s1 ⟨x, H1, I1, rx, C, dd, fs, v, ex, o, c, hno, hfs, hl, hQ⟩
  subst ex
  cases (show u = Value.ref q.1 from rx)
  obtain ⟨od, J, look⟩ := inst_of I1 hq o fun d2 z => by cases z; exact ⟨fs, hfs⟩
  obtain ⟨ob, mA, rfl, rel, hm⟩ := look dd rfl fs hfs
  obtain ⟨u, hu, ru⟩ := RelO.some_of (v := v) (o := mA n) (by rw [← hl]; exact rel n)
  exact HandSPX.exc_get I1.kIn J c.F.ga c.F.gg c.F.exC (PySem.W.findObj_own c.F.hdC hno rfl (by rw [hm n, hu])) (handed_of ru) ⟨v, H1, I1.tok _, ru, hQ⟩
/-- isinstance of the pinned exception -/
def rIsP (K : PySem.W.Frag) (q : Addr × Obj) : List V → Hp → VK → Prop := fun xs H Q => ∃ (c : V) (cv : Value) (b : Bool) (C : Addr) (d : Option Addr), xs = [.ref q.1, c] ∧ (∀ u, RelV c u → u = cv) ∧ XObj q C d ∧ XCls K C ∧ XDct H d ∧ PySem.W.kitOne K (.ref C) cv = some b ∧ Q (.bl b) H
theorem call_isP (hq : q ∈ X.pn) : CallR X (.builtin "isinstance") (rIsP X.K q) := by
  intro pins s σ H xs us Q I rel h
  obtain ⟨c, cv, b, C, d, rfl, hcv, o, cc, hd, hk, hQ⟩ := h
  obtain ⟨od, J, _⟩ := inst_of I hq o hd
  cases rel with
  | cons r1 rest =>
    cases rest with
    | cons r2 rest =>
      cases rest
      cases r1
      cases hcv _ r2
      exact PySem.W.kia_one (PySem.W.kitx_exc cc.cl cc.F.ga cc.F.gg cc.F.exC cc.ha cc.hn cc.ht cc.hm) I.kIn J hk (fun z => nomatch z) fun tk => ⟨.bl b, H, I.kept (t' := tk) fun _ _ z => z, rfl, hQ⟩
end
section
variable {X : Cx} {a : Addr} {oe : Obj} {cls : Value} {d : Option Addr}
/-- the same in a suite, the object told by its place, its class and its dict -/
def rIsS (K : PySem.W.Frag) (a : Addr) (cls : Value) (d : Option Addr) : List V → Hp → VK → Prop := fun xs H Q => ∃ (c : V) (cv : Value) (b : Bool) (C : Addr), xs = [.ref a, c] ∧ (∀ u, RelV c u → u = cv) ∧ cls = .ref C ∧ XCls K C ∧ XDct H d ∧ PySem.W.kitOne K (.ref C) cv = some b ∧ Q (.bl b) H
theorem call_isS (hq : (a, oe) ∈ X.pn) (hz : Zc cls d oe) (hf : ∃ vs, oe.data = .fields vs) : CallR X (.builtin "isinstance") (rIsS X.K a cls d) := by
  intro pins s σ H xs us Q I rel h
  obtain ⟨c, cv, b, C, e1, hcv, rfl, cc, hd, hk, hQ⟩ := h
  exact call_isP hq pins s σ H xs us Q I rel ⟨c, cv, b, C, d, e1, hcv, ⟨hz, hf⟩, cc, hd, hk, hQ⟩
end
/-! ### an own class without an own __init__, made without arguments -/
section
variable {X : Cx} {x : Str} {C : Addr} {p pos : Pos} {bmB : List Value} {B newId initId : String}
theorem pmk_own0 (F : ExcBaseFacts B newId initId bmB) (hq : PySem.W.excIn X.K C bmB newId = true) (gC : X.mg x = some (.ref C)) (kC : PySem.W.keepIn X.K (.ref C) = true) (r : Raises X (.ref C)) (hg : Gl X x)
    (hdb : (x == ("__debug__" : Str)) = false := by decide) : PMk X (.Call (.Name x p) [] [] pos) (fun _ H Q => Q (.ref C) none H) := by
  intro pins s σ H Q I h
  apply wpAny_Call_Name_kw (ld_glob I hg gC ?_ hdb)
  apply PySem.W.callWith_K0 I.kIn kC
  obtain ⟨bm, N, nm, qn, bs, hdct, sn, sub, ab, col, dd, k0, k1, k2, k3, k5, mN, hC, hN, hni, T⟩ := exc_obj I.kIn hq
  apply wpAny_call_exc_subT F T hC hN hni (fun h' er made => ?_) (Nat.zero_le _)
  exact mk_of I made r h (I.hok.gone made.new)
end
theorem pe_cls {X : Cx} {x : Str} {C : Addr} {pos : Pos} (hg : Gl X x) (hm : X.mg x = some (.ref C)) (hd : (x == ("__debug__" : Str)) = false := by decide) : PE X (.Name x pos) (tC (.ref C)) := pe_glob (v := .ref C) hg hm rfl hd
/-! ### own classes whose __init__ keeps what it is handed -/
structure ExF (P : Program) (w : World) (K : PySem.W.Frag) (mg : Str → Option Value) (base : Heap) (x : Str) (C : Addr) (ps : List Str) (sp : Sp) : Prop where
  T : OexC K C
  gC : mg x = some (.ref C)
  ini : ∃ fI fd, PySem.W.findIn K (.ref C) "__init__" = some (some (.ref fI)) ∧ PySem.W.typeIn K (.ref fI) = some (.type "function") ∧ FnOk P w K mg base CX0 1 fI fd ps sp ∧ Binds K fd ps []
theorem pmkA {X : Cx} {x : Str} {C : Addr} {ps : List Str} {sp : Sp} {p pos : Pos} {e : Expr} {es : List Expr} {ta : TA} (Z : ExF X.prog X.w X.K X.mg X.base x C ps sp) (hr : Room 2 X.A) (hg : Gl X x) (ha : PA X (e :: es) ta) (hdb : (x == ("__debug__" : Str)) = false := by decide)
    (he : starEach (e :: es) X.env = (false, eval e X.env) :: starEach es X.env := by rfl) (hpl : (backTo pos (starEach es X.env)).any (·.1) = false := by rfl) : PMk X (.Call (.Name x p) (e :: es) [] pos) (tMkO C sp [] ta) := by
  obtain ⟨fI, fd, iC, tI, F1, hb⟩ := Z.ini
  exact pmk_oex Z.T iC tI F1 hr hb .nil pass0 hg Z.gC ha hdb he hpl
structure ExB (K : PySem.W.Frag) (mg : Str → Option Value) (x : Str) (C : Addr) : Prop where
  gC : mg x = some (.ref C)
  ex : PySem.W.excIn K C [.type "ValueError", .type "Exception", .type "BaseException", .type "object"] "ValueError.__new__" = true
  kC : PySem.W.keepIn K (.ref C) = true
  exC : PySem.W.subIn K (.ref C) (.type "BaseException") = some true
  tyC : PySem.W.typeIn K (.ref C) = some (.type "type")
/-- what an __init__ of one field, of two fields, promises -/
def sp_ini1 (K : PySem.W.Frag) (C : Addr) (f : Str) : Sp := fun vs H Q _ => ∃ (a : Addr) (v : V), vs = [.ref a, v] ∧ OexC K C ∧ PySem.W.findIn K (.ref C) f = some none ∧ H a = some (exo a C none) ∧ ∀ dx, H dx = none → dx ≠ a → Q .non (upd (upd H dx (exd dx [(f, v)])) a (exo a C (some dx)))
def sp_ini2 (K : PySem.W.Frag) (C : Addr) (f g : Str) : Sp := fun vs H Q _ => ∃ (a : Addr) (v u : V), vs = [.ref a, v, u] ∧ OexC K C ∧ PySem.W.findIn K (.ref C) f = some none ∧ PySem.W.findIn K (.ref C) g = some none ∧ H a = some (exo a C none) ∧
  ∀ dx, H dx = none → dx ≠ a → Q .non (upd (upd (upd H dx (exd dx [(f, v)])) a (exo a C (some dx))) dx (exd dx [(g, u), (f, v)]))
def mkE (C : Addr) (sp : Sp) (H : Hp) (vs : List V) (Q : XK) : Prop := vs.length ≤ 1000 ∧ ∀ a, H a = none → sp (.ref a :: (vs ++ [])) (upd H a (exo a C none)) (fun v H2 => v = .non ∧ ∃ (d : Addr) (fs : List (Str × V)), H2 a = some (exo a C (some d)) ∧ H2 d = some (exd d fs) ∧ H d = none ∧ Q (.ref C) (some d) (upd (del H2 a) d (.xd fs))) fun _ _ _ => False
theorem w_mko {C : Addr} {sp : Sp} {ta : TA} {σ : L2.St} {H : Hp} {Q : XK} (h : ta σ H fun vs H1 => mkE C sp H1 vs Q) : tMkO C sp [] ta σ H Q := h
theorem same_xd {H H2 : Hp} {a dx : Addr} {o : HO} (hs : ∀ b u, b ≠ a → b ≠ dx → H b = some u → H2 b = some u) (na : H a = none) (nd : H dx = none) : Same H (upd (del H2 a) dx o) := fun b u e => by
  have h1 := ne_of_none e na
  have h2 := ne_of_none e nd
  rw [upd_ne h2, del_ne h1]
  exact hs b u h1 h2 e
theorem mk_ini1 {K : PySem.W.Frag} {C : Addr} {f : Str} {H : Hp} {v : V} {Q : XK} (T : OexC K C) (no : PySem.W.findIn K (.ref C) f = some none) (h : ∀ d H2, Same H H2 → H2 d = some (.xd [(f, v)]) → Q (.ref C) (some d) H2) : mkE C (sp_ini1 K C f) H [v] Q :=
  ⟨Nat.le_of_ble_eq_true rfl, fun a na => ⟨a, v, rfl, T, no, upd_same, fun dx nd ne => ⟨rfl, dx, _, upd_same, (upd_ne ne).trans upd_same, (upd_ne ne).symm.trans nd, h dx _ (same_xd (fun b u h1 h2 e => by rw [upd_ne h1, upd_ne h2, upd_ne h1]; exact e) na ((upd_ne ne).symm.trans nd)) upd_same⟩⟩⟩
theorem mk_ini2 {K : PySem.W.Frag} {C : Addr} {f g : Str} {H : Hp} {v u : V} {Q : XK} (T : OexC K C) (no : PySem.W.findIn K (.ref C) f = some none) (no2 : PySem.W.findIn K (.ref C) g = some none) (h : ∀ d H2, Same H H2 → H2 d = some (.xd [(g, u), (f, v)]) → Q (.ref C) (some d) H2) : mkE C (sp_ini2 K C f g) H [v, u] Q :=
  ⟨Nat.le_of_ble_eq_true rfl, fun a na => ⟨a, v, u, rfl, T, no, no2, upd_same, fun dx nd ne => ⟨rfl, dx, _, (upd_ne (Ne.symm ne)).trans upd_same, upd_same, (upd_ne ne).symm.trans nd, h dx _ (same_xd (fun b x h1 h2 e => by rw [upd_ne h2, upd_ne h1, upd_ne h2, upd_ne h1]; exact e) na ((upd_ne ne).symm.trans nd)) upd_same⟩⟩⟩
local macro_rules | `(tactic| walk_at "call1") => `(tactic| fail)
local macro_rules | `(tactic| walk_at "w") => `(tactic| (repeat (first
  | with_reducible refine iteT' ?_
  | with_reducible refine iteF' ?_
  | with_reducible refine w_seq ?_
  | with_reducible refine w_asg ?_
  | with_reducible refine w_op ?_
  | ((with_reducible show tVar _ _ _ _); first | with_reducible refine w_v0 ?_ | with_reducible refine w_v1 ?_ | with_reducible refine w_v2 ?_ | with_reducible refine w_v3 ?_ | with_reducible refine w_v4 ?_ | with_reducible refine w_v5 ?_ | with_reducible refine w_v6 ?_ | with_reducible refine w_v7 ?_ | with_reducible refine w_v8 ?_ | with_reducible refine w_v9 ?_ | with_reducible refine w_v10 ?_ | with_reducible refine w_v11 ?_ | with_reducible refine w_v12 ?_ | with_reducible refine w_v13 ?_ | with_reducible refine w_v14 ?_ | with_reducible refine w_v15 ?_ | with_reducible refine w_v16 ?_ | with_reducible refine w_v17 ?_ | with_reducible refine w_v18 ?_ | with_reducible refine w_v19 ?_ | with_reducible refine w_v20 ?_ | with_reducible refine w_v21 ?_ | with_reducible refine w_v22 ?_ | with_reducible refine w_v23 ?_)
  | ((with_reducible show gName _ _ _ _ _); first | with_reducible refine w_g0 ?_ | with_reducible refine w_g1 ?_ | with_reducible refine w_g2 ?_ | with_reducible refine w_g3 ?_ | with_reducible refine w_g4 ?_ | with_reducible refine w_g5 ?_ | with_reducible refine w_g6 ?_ | with_reducible refine w_g7 ?_ | with_reducible refine w_g8 ?_ | with_reducible refine w_g9 ?_ | with_reducible refine w_g10 ?_ | with_reducible refine w_g11 ?_ | with_reducible refine w_g12 ?_ | with_reducible refine w_g13 ?_ | with_reducible refine w_g14 ?_ | with_reducible refine w_g15 ?_ | with_reducible refine w_g16 ?_ | with_reducible refine w_g17 ?_ | with_reducible refine w_g18 ?_ | with_reducible refine w_g19 ?_ | with_reducible refine w_g20 ?_ | with_reducible refine w_g21 ?_ | with_reducible refine w_g22 ?_ | with_reducible refine w_g23 ?_)
  | with_reducible refine w_c ?_
  | with_reducible refine w_cb ?_
  | with_reducible refine w_cons ?_
  | with_reducible refine w_nil ?_
  | with_reducible refine w_call0 ?_
  | with_reducible refine w_callS ?_
  | with_reducible refine w_kws ?_
  | with_reducible refine w_lt ?_
  | with_reducible refine w_le ?_
  | with_reducible refine w_gt ?_
  | with_reducible refine w_ge ?_
  | with_reducible refine w_I0 ?_
  | with_reducible refine w_eqI ?_
  | with_reducible refine w_neI ?_
  | with_reducible refine w_eqBB ?_
  | with_reducible refine w_neBB ?_
  | with_reducible refine w_U ?_
  | with_reducible refine w_un ?_
  | with_reducible refine w_test ?_
  | with_reducible refine w_tB ?_
  | with_reducible refine w_bl ?_
  | with_reducible refine w_ifs ?_
  | with_reducible refine w_ife ?_
  | with_reducible refine w_and ?_
  | with_reducible refine w_or ?_
  | with_reducible refine w_not ?_
  | with_reducible refine w_andV ?_
  | with_reducible refine w_orV ?_
  | with_reducible refine w_notV ?_
  | with_reducible refine w_ret ?_
  | with_reducible refine w_retN ?_
  | with_reducible refine w_next ?_
  | with_reducible refine w_drop ?_
  | with_reducible refine w_brk ?_
  | with_reducible refine w_for ?_
  | with_reducible refine w_rng1 ?_
  | with_reducible refine w_rng2 ?_
  | with_reducible refine w_cont ?_
  | with_reducible refine w_int ?_
  | with_reducible refine w_intB ?_
  | with_reducible refine w_bits ?_
  | with_reducible refine w_xi ?_
  | with_reducible refine w_isN_i ?_
  | with_reducible refine w_isN_r ?_
  | with_reducible refine w_isN_n ?_
  | with_reducible refine w_noN_i ?_
  | with_reducible refine w_noN_r ?_
  | with_reducible refine w_noN_n ?_
  | with_reducible refine w_abs ?_
  | with_reducible refine w_min ?_
  | with_reducible refine w_max ?_
  | with_reducible refine w_gcd ?_
  | with_reducible refine w_tupN ?_
  | with_reducible refine w_lstN ?_
  | with_reducible refine w_newD ?_
  | with_reducible refine w_par ?_
  | with_reducible refine w_two ?_
  | with_reducible refine w_sub ?_
  | ((with_reducible show rI _ _ _ _ _ _); first
    | with_reducible refine w_pow9 ?_ | with_reducible refine w_pow13 ?_ | with_reducible refine w_pow18 ?_ | with_reducible refine w_pow30 ?_ | with_reducible refine w_pow8 ?_ | with_reducible refine w_pow50 ?_
    | ((with_reducible apply w_I); (focus (first | assumption | decide | exact Bt.mulx (by walk_at "bt") (by walk_at "bt") (by decide) | exact ⟨by decide, by decide⟩ | exact .inl ⟨by omega, by omega⟩ | exact .inr ⟨by omega, by omega⟩ | exact .inl ⟨by decide, by decide⟩ | exact .inr ⟨by decide, by decide⟩ | omega))))
  | ((with_reducible show NT _ _ _); (with_reducible apply n_tup); (focus assumption); (focus (walk_at "rps")); (focus rfl); intro _ _ _)
  | ((with_reducible show NL _ _ _); (with_reducible apply n_lst); (focus assumption); (focus (walk_at "rps")); (focus rfl); intro _ _ _)
  | ((with_reducible show ND _ _); (with_reducible apply n_dct); (focus assumption); intro _ _ _)
  | ((with_reducible show rIxT _ _ _ _ _); first
    | ((with_reducible apply x_T0i); (focus assumption); (focus (walk_at "in2")))
    | ((with_reducible apply x_T0); (focus assumption); (focus (walk_at "in2")))
    | ((with_reducible apply x_T1i); (focus assumption); (focus (walk_at "in2")))
    | ((with_reducible apply x_T1); (focus assumption); (focus (walk_at "in2")))
    | ((with_reducible apply x_T2i); (focus assumption); (focus (walk_at "in2")))
    | ((with_reducible apply x_T2); (focus assumption); (focus (walk_at "in2")))
    | ((with_reducible apply x_T3i); (focus assumption); (focus (walk_at "in2")))
    | ((with_reducible apply x_T3); (focus assumption); (focus (walk_at "in2")))
    | ((with_reducible apply x_T4i); (focus assumption); (focus (walk_at "in2")))
    | ((with_reducible apply x_T4); (focus assumption); (focus (walk_at "in2")))
    | ((with_reducible apply x_T5i); (focus assumption); (focus (walk_at "in2")))
    | ((with_reducible apply x_T5); (focus assumption); (focus (walk_at "in2")))
    | ((with_reducible apply w_ixT); (focus (walk_at "fact")); (focus (walk_at "place"))))
  | ((with_reducible show rIxL _ _ _ _ _); first
    | ((with_reducible apply x_L0i); (focus assumption); (focus (walk_at "in2")))
    | ((with_reducible apply x_L0); (focus assumption); (focus (walk_at "in2")))
    | ((with_reducible apply x_L1i); (focus assumption); (focus (walk_at "in2")))
    | ((with_reducible apply x_L1); (focus assumption); (focus (walk_at "in2")))
    | ((with_reducible apply x_L2i); (focus assumption); (focus (walk_at "in2")))
    | ((with_reducible apply x_L2); (focus assumption); (focus (walk_at "in2")))
    | ((with_reducible apply x_L3i); (focus assumption); (focus (walk_at "in2")))
    | ((with_reducible apply x_L3); (focus assumption); (focus (walk_at "in2")))
    | ((with_reducible apply x_L4i); (focus assumption); (focus (walk_at "in2")))
    | ((with_reducible apply x_L4); (focus assumption); (focus (walk_at "in2")))
    | ((with_reducible apply x_L5i); (focus assumption); (focus (walk_at "in2")))
    | ((with_reducible apply x_L5); (focus assumption); (focus (walk_at "in2")))
    | ((with_reducible apply w_ixL); (focus (walk_at "fact")); (focus (walk_at "place"))))
  | ((with_reducible show gTup _ _ _ _ _ _ _); first | ((with_reducible apply g_tup2); (focus assumption); (focus (walk_at "in2"))) | ((with_reducible apply g_tup3); (focus assumption); (focus (walk_at "in2"))))
  | ((with_reducible show Rng1G _ _ _); (with_reducible apply rng1); (focus (first | decide | omega | (constructor <;> first | omega | (split <;> omega)))))
  | ((with_reducible show VS _ _); first
    | ((with_reducible refine v_tup ?_); intro _) | ((with_reducible refine v_lst ?_); intro _) | ((with_reducible refine v_dct ?_); intro _)
    | with_reducible refine v_int ?_ | with_reducible refine v_bl ?_ | with_reducible refine v_str ?_ | with_reducible refine v_non ?_ | ((with_reducible refine v_any ?_); intro _))
  | ((with_reducible show Wd _ _ _ _ _ _ → _); intro _)
  | ((with_reducible show rLenQ _ _ _ _); first
    | ((with_reducible apply l_lst); (focus assumption); (focus (walk_at "in2"))) | ((with_reducible apply l_tup); (focus assumption); (focus (walk_at "in2")))
    | ((with_reducible apply w_lenL); (focus (walk_at "fact"))) | ((with_reducible apply w_lenT); (focus (walk_at "fact"))))
  | ((with_reducible show sp_take _ _ _ _); (with_reducible apply call_tk); (focus assumption); (focus (first | decide | omega)); (focus (first | decide | decide +kernel)); intro _ _ _ _ _)
  | ((with_reducible show sp_whole _ _ _ _); (with_reducible apply call_wh); (focus assumption); intro _ _ _ _)
  | ((with_reducible show rCat _ _ _ _); (with_reducible apply w_catL); (focus assumption); (focus (walk_at "in2")); (focus (walk_at "in2")); (focus rfl); intro _ _ _)
  | ((with_reducible show rSetL _ _ _ _ _); first | ((with_reducible apply w_set0); (focus (walk_at "heap"))) | ((with_reducible apply w_set1); (focus (walk_at "heap"))) | ((with_reducible apply w_set2); (focus (walk_at "heap"))) | ((with_reducible apply w_set3); (focus (walk_at "heap"))) | ((with_reducible apply w_set4); (focus (walk_at "heap"))) | ((with_reducible apply w_set5); (focus (walk_at "heap"))))
  | walk_at "call1"
  | dsimp only [List.set, notT, notF]
  | rw [List.length_map])))
local macro_rules | `(tactic| walk_at "fact") => `(tactic| first | assumption | exact .inl (.inl (by walk_at "heap")))
local macro_rules | `(tactic| walk_at "place") => `(tactic| with_reducible first | exact at0 | exact at1 | exact at2 | exact at3 | exact at4 | exact at5 | exact at6 | exact at7 | assumption)

local macro_rules | `(tactic| walk_at "heap") => `(tactic| first | assumption | exact upd_same | ((with_reducible refine (upd_ne (by first | assumption | exact Ne.symm (by assumption))).trans ?_); walk_at "heap"))
local macro_rules | `(tactic| walk_at "in2") => `(tactic| first | with_reducible exact In2.here | ((with_reducible apply In2.there); walk_at "in2"))
local macro_rules | `(tactic| walk_at "rp") => `(tactic| first | with_reducible exact Rp.int _ | with_reducible exact Rp.bl _ | with_reducible exact Rp.non | with_reducible exact Rp.str _ | ((with_reducible apply Wd.get); (focus assumption); walk_at "in2"))
local macro_rules | `(tactic| walk_at "rps") => `(tactic| first | with_reducible exact Rps.nil | ((with_reducible apply Rps.cons); (focus (walk_at "rp")); walk_at "rps"))
local macro_rules | `(tactic| walk_at "bt") => `(tactic| first | assumption | ((with_reducible show Bt _ (_ * _)); (with_reducible apply Bt.mul); (focus (walk_at "bt")); (focus (walk_at "bt"))) | ((with_reducible show Bt _ (_ + _)); (with_reducible apply Bt.add); (focus (walk_at "bt")); (focus (walk_at "bt"))) | ((with_reducible show Bt _ (_ - _)); (with_reducible apply Bt.sub); (focus (walk_at "bt")); (focus (walk_at "bt"))) | ((with_reducible show Bt _ (-_)); (with_reducible apply Bt.neg); (focus (walk_at "bt"))))
def topS (i : Nat) : Stmt := PySem.Challenge.pw_fourcreases_k00_errors_and_their_fields.main.body.getD i (.Pass ⟨0, 0, 0, 0⟩)
abbrev s_law_mixed : Stmt := topS 39
abbrev NN_law_mixed : List Str := ["cell", "k", "number"]
theorem sc_law_mixed : FnScope ["cell", "k", "number"] ["cell", "k"] (defScope s_law_mixed) := ⟨rfl, rfl, rfl, by decide +kernel, rfl, by decide +kernel, by decide +kernel⟩
abbrev s_law_great : Stmt := topS 40
abbrev NN_law_great : List Str := ["cells", "place"]
theorem sc_law_great : FnScope ["cells", "place"] ["cells", "place"] (defScope s_law_great) := ⟨rfl, rfl, rfl, by decide +kernel, rfl, by decide +kernel, by decide +kernel⟩
abbrev s_law_stream : Stmt := topS 41
abbrev NN_law_stream : List Str := ["script", "cells"]
theorem sc_law_stream : FnScope ["script", "cells"] ["script"] (defScope s_law_stream) := ⟨rfl, rfl, rfl, by decide +kernel, rfl, by decide +kernel, by decide +kernel⟩
abbrev s_law_take : Stmt := topS 42
abbrev NN_law_take : List Str := ["stream", "many", "cells", "place", "digit"]
theorem sc_law_take : FnScope ["stream", "many", "cells", "place", "digit"] ["stream", "many"] (defScope s_law_take) := ⟨rfl, rfl, rfl, by decide +kernel, rfl, by decide +kernel, by decide +kernel⟩
abbrev s_law_whole : Stmt := topS 43
abbrev NN_law_whole : List Str := ["stream", "size", "sign", "number"]
theorem sc_law_whole : FnScope ["stream", "size", "sign", "number"] ["stream"] (defScope s_law_whole) := ⟨rfl, rfl, rfl, by decide +kernel, rfl, by decide +kernel, by decide +kernel⟩
abbrev s_law_raise_early : Stmt := topS 44
abbrev NN_law_raise_early : List Str := ["k", "word", "number"]
theorem sc_law_raise_early : FnScope ["k", "word", "number"] ["k", "word", "number"] (defScope s_law_raise_early) := ⟨rfl, rfl, rfl, by decide +kernel, rfl, by decide +kernel, by decide +kernel⟩
abbrev s_law_raise_late : Stmt := topS 45
abbrev NN_law_raise_late : List Str := ["k", "word", "number"]
theorem sc_law_raise_late : FnScope ["k", "word", "number"] ["k", "word", "number"] (defScope s_law_raise_late) := ⟨rfl, rfl, rfl, by decide +kernel, rfl, by decide +kernel, by decide +kernel⟩
abbrev s_law_raise : Stmt := topS 46
abbrev NN_law_raise : List Str := ["k", "word", "number"]
theorem sc_law_raise : FnScope ["k", "word", "number"] ["k", "word", "number"] (defScope s_law_raise) := ⟨rfl, rfl, rfl, by decide +kernel, rfl, by decide +kernel, by decide +kernel⟩
abbrev s_law_classes : Stmt := topS 47
abbrev NN_law_classes : List Str := ["e", "flags"]
theorem sc_law_classes : FnScope ["e", "flags"] ["e"] (defScope s_law_classes) := ⟨rfl, rfl, rfl, by decide +kernel, rfl, by decide +kernel, by decide +kernel⟩
abbrev s_law_fields : Stmt := topS 48
abbrev NN_law_fields : List Str := ["k", "e"]
theorem sc_law_fields : FnScope ["k", "e"] ["k", "e"] (defScope s_law_fields) := ⟨rfl, rfl, rfl, by decide +kernel, rfl, by decide +kernel, by decide +kernel⟩
abbrev s_law_due : Stmt := topS 49
abbrev NN_law_due : List Str := ["k", "word", "number"]
theorem sc_law_due : FnScope ["k", "word", "number"] ["k", "word", "number"] (defScope s_law_due) := ⟨rfl, rfl, rfl, by decide +kernel, rfl, by decide +kernel, by decide +kernel⟩
abbrev s_law_asked : Stmt := topS 50
abbrev NN_law_asked : List Str := ["k", "word", "number", "caught", "told", "flags", "is_value", "e", "at"]
theorem sc_law_asked : FnScope ["k", "word", "number", "caught", "told", "flags", "is_value", "e", "at"] ["k", "word", "number"] (defScope s_law_asked) := ⟨rfl, rfl, rfl, by decide +kernel, rfl, by decide +kernel, by decide +kernel⟩
abbrev s_law : Stmt := topS 51
abbrev NN_law : List Str := ["script", "stream", "cell", "k", "number", "letters", "word", "at"]
theorem sc_law : FnScope ["script", "stream", "cell", "k", "number", "letters", "word", "at"] ["script"] (defScope s_law) := ⟨rfl, rfl, rfl, by decide +kernel, rfl, by decide +kernel, by decide +kernel⟩
/-! ### lowest terms -/
def gI (a b : Int) : Int := ((Nat.gcd a.natAbs b.natAbs : Nat) : Int)
def sg (a b : Int) : Int := if b < 0 then -gI a b else gI a b
def nt (a b : Int) : Int := a.fdiv (sg a b)
def bN (a b : Int) : Int := b.fdiv (sg a b)
theorem gI_pos {a b : Int} (h : b ≠ 0) : 0 < gI a b := by
  have : 0 < Nat.gcd a.natAbs b.natAbs := Nat.gcd_pos_of_pos_right _ (by omega)
  unfold gI
  omega
theorem gI_le {a b : Int} (h : b ≠ 0) : gI a b ≤ (b.natAbs : Int) := by
  have : Nat.gcd a.natAbs b.natAbs ≤ b.natAbs := Nat.gcd_le_right _ (by omega)
  unfold gI
  omega
theorem sg_ne {a b : Int} (h : b ≠ 0) : sg a b ≠ 0 := by
  have := gI_pos (a := a) h
  unfold sg
  split <;> omega
theorem sg_abs {a b : Int} : (sg a b).natAbs = Nat.gcd a.natAbs b.natAbs := by
  unfold sg gI
  split <;> omega
theorem gI_dl (a b : Int) : gI a b ∣ a := Int.natAbs_dvd_natAbs.mp (by
  show ((Nat.gcd a.natAbs b.natAbs : Nat) : Int).natAbs ∣ _
  rw [Int.natAbs_natCast]
  exact Nat.gcd_dvd_left _ _)
theorem gI_dr (a b : Int) : gI a b ∣ b := Int.natAbs_dvd_natAbs.mp (by
  show ((Nat.gcd a.natAbs b.natAbs : Nat) : Int).natAbs ∣ _
  rw [Int.natAbs_natCast]
  exact Nat.gcd_dvd_right _ _)
theorem sg_dl (a b : Int) : sg a b ∣ a := by
  unfold sg
  split
  · exact Int.neg_dvd.mpr (gI_dl a b)
  · exact gI_dl a b
theorem sg_dr (a b : Int) : sg a b ∣ b := by
  unfold sg
  split
  · exact Int.neg_dvd.mpr (gI_dr a b)
  · exact gI_dr a b
theorem fdiv_exact {a d q : Int} (hd : d ≠ 0) (e : a = d * q) : a.fdiv d = q := by
  subst e
  exact Int.mul_fdiv_cancel_left q hd
theorem nt_mul {a b : Int} (h : b ≠ 0) : sg a b * nt a b = a := by
  obtain ⟨q, e⟩ := sg_dl a b
  have : nt a b = q := fdiv_exact (sg_ne h) e
  rw [this]
  exact e.symm
theorem nb_mul {a b : Int} (h : b ≠ 0) : sg a b * bN a b = b := by
  obtain ⟨q, e⟩ := sg_dr a b
  have : bN a b = q := fdiv_exact (sg_ne h) e
  rw [this]
  exact e.symm
theorem nb_pos {a b : Int} (h : b ≠ 0) : 0 < bN a b := by
  have e := nb_mul (a := a) h
  have g := gI_pos (a := a) h
  unfold sg at e
  by_cases hb : b < 0
  · rw [if_pos hb] at e
    refine Int.not_le.mp fun hn => ?_
    have := Int.mul_nonneg (Int.le_of_lt g) (Int.neg_nonneg_of_nonpos hn)
    have e2 : gI a b * -bN a b = b := (Int.mul_neg _ _).trans ((Int.neg_mul _ _).symm.trans e)
    omega
  · rw [if_neg hb] at e
    refine Int.not_le.mp fun hn => ?_
    have := Int.mul_nonneg (Int.le_of_lt g) (Int.neg_nonneg_of_nonpos hn)
    have e2 : gI a b * -bN a b = -b := (Int.mul_neg _ _).trans (congrArg Neg.neg e)
    omega
/-- the value stays -/
theorem nt_val {a b : Int} (h : b ≠ 0) : nt a b * b = a * bN a b := by
  have e1 := nt_mul (a := a) h
  have e2 := nb_mul (a := a) h
  calc nt a b * b = nt a b * (sg a b * bN a b) := by rw [e2]
    _ = sg a b * nt a b * bN a b := by rw [← Int.mul_assoc, Int.mul_comm (nt a b)]
    _ = a * bN a b := by rw [e1]
theorem nt_gcd {a b : Int} (h : b ≠ 0) : Nat.gcd (nt a b).natAbs (bN a b).natAbs = 1 := by
  have e1 := congrArg Int.natAbs (nt_mul (a := a) h)
  have e2 := congrArg Int.natAbs (nb_mul (a := a) h)
  rw [Int.natAbs_mul, sg_abs] at e1 e2
  have gp : 0 < Nat.gcd a.natAbs b.natAbs := Nat.gcd_pos_of_pos_right _ (by omega)
  have k : Nat.gcd a.natAbs b.natAbs * Nat.gcd (nt a b).natAbs (bN a b).natAbs = Nat.gcd a.natAbs b.natAbs * 1 := by
    rw [← Nat.gcd_mul_left, e1, e2, Nat.mul_one]
  exact Nat.eq_of_mul_eq_mul_left gp k
theorem nt_le {a b : Int} (h : b ≠ 0) : (nt a b).natAbs ≤ a.natAbs := by
  have e1 := congrArg Int.natAbs (nt_mul (a := a) h)
  rw [Int.natAbs_mul, sg_abs] at e1
  have gp : 0 < Nat.gcd a.natAbs b.natAbs := Nat.gcd_pos_of_pos_right _ (by omega)
  rw [← e1]
  exact Nat.le_mul_of_pos_left _ gp
theorem nb_le {a b : Int} (h : b ≠ 0) : (bN a b).natAbs ≤ b.natAbs := by
  have e1 := congrArg Int.natAbs (nb_mul (a := a) h)
  rw [Int.natAbs_mul, sg_abs] at e1
  have gp : 0 < Nat.gcd a.natAbs b.natAbs := Nat.gcd_pos_of_pos_right _ (by omega)
  have e2 : Nat.gcd a.natAbs b.natAbs * (bN a b).natAbs = b.natAbs := e1
  calc (bN a b).natAbs ≤ Nat.gcd a.natAbs b.natAbs * (bN a b).natAbs := Nat.le_mul_of_pos_left _ gp
    _ = b.natAbs := e2
/-- a pair in lowest terms -/
structure Low (a b : Int) : Prop where
  pos : 1 ≤ b
  one : Nat.gcd a.natAbs b.natAbs = 1
theorem nt_low {a b : Int} (h : b ≠ 0) : Low (nt a b) (bN a b) := ⟨nb_pos h, nt_gcd h⟩
theorem sg_one {a b : Int} (l : Low a b) : sg a b = 1 := by
  unfold sg gI
  have := l.pos
  rw [if_neg (by omega), l.one]
  rfl
theorem nt_id {a b : Int} (l : Low a b) : nt a b = a := by
  unfold nt
  rw [sg_one l]
  exact Int.fdiv_one a
theorem nb_id {a b : Int} (l : Low a b) : bN a b = b := by
  unfold bN
  rw [sg_one l]
  exact Int.fdiv_one b
theorem low_of {a b : Int} (h : 1 ≤ b) (e : bN a b = b) : Low a b := by
  have q := nt_low (a := a) (b := b) (by omega)
  have m := congrArg Int.natAbs (nb_mul (a := a) (b := b) (by omega))
  rw [Int.natAbs_mul, sg_abs, e] at m
  refine ⟨h, ?_⟩
  have bp : 0 < b.natAbs := by omega
  have : Nat.gcd a.natAbs b.natAbs * b.natAbs = 1 * b.natAbs := by rw [m, Nat.one_mul]
  exact Nat.eq_of_mul_eq_mul_right bp this
theorem log_of {j : Int} {k : Nat} (h : j.natAbs < 2 ^ k) (hk : 0 < k) : j.natAbs.log2 < k := PySem.Flt.log2_lt_of hk h
theorem sg_log {a b : Int} (h : b ≠ 0) (hb : b.natAbs.log2 < 9000) : (sg a b).natAbs.log2 < 9000 := by
  have l : (sg a b).natAbs ≤ b.natAbs := by
    rw [sg_abs]
    exact Nat.gcd_le_right _ (by omega)
  have b0 : b.natAbs ≠ 0 := by omega
  have h1 : b.natAbs < 2 ^ 9000 := (Nat.log2_lt b0).mp hb
  have s0 : (sg a b).natAbs ≠ 0 := by
    have := sg_ne (a := a) h
    omega
  exact (Nat.log2_lt s0).mpr (Nat.lt_of_le_of_lt l h1)
theorem eqv_pair {a b c d : Int} : PyData.eqv (.tuple [.int a, .int b]) (.tuple [.int c, .int d]) = decide (a = c ∧ b = d) := by
  show (a == c && (b == d && true)) = _
  rw [Bool.and_true]
  by_cases h1 : a = c
  · subst h1
    rw [beq_self_eq_true, Bool.true_and]
    by_cases h2 : b = d
    · subst h2
      rw [beq_self_eq_true]
      exact (decide_eq_true ⟨rfl, rfl⟩).symm
    · rw [beq_eq_false_iff_ne.mpr h2]
      exact (decide_eq_false fun z => h2 z.2).symm
  · rw [beq_eq_false_iff_ne.mpr h1, Bool.false_and]
    exact (decide_eq_false fun z => h1 z.1).symm

theorem sgn_small {d x : Int} (d0 : 0 ≤ d) (d1 : d < 2) (x0 : 0 ≤ x) (x1 : x < 1000000000000000000000000000000000000000) : ((1 - 2 * d) * x).natAbs < 1000000000000000000000000000000000000000 := by
  have e : d = 0 ∨ d = 1 := by omega
  rcases e with rfl | rfl <;> omega
section
variable {P : Program} {w : World} {K : PySem.W.Frag} {mg : Str → Option Value} {base : Heap}
theorem ok_law_mixed {f : Addr} {fd : FuncData} (F : Fun K "_law_mixed" "_law_mixed" s_law_mixed f fd) (nb : Nb mg) : FnOk P w K mg base CX0 1 f fd ["cell", "k"] sp_mixed := by
  have sc := sc_law_mixed
  refine F.ok sc (fun vs H Q E h => ?_) (fun cdv A outer s H vs Q E hr h => ?_)
  · obtain ⟨c, k, rfl, _⟩ := h
    rfl
  · obtain ⟨c, k, rfl, q⟩ := h
    refine ⟨_, (pss_cons (ps_asg (pe_op op_mod (pe_callTy cq_int (by rfl) nb.int (by decide +kernel) (pa_cons (pe_op op_mul (pe_op op_add (pe_op op_add (pe_op op_mod (pe_callTy cq_int (by rfl) nb.int (by decide +kernel) (pa_cons (pv 0) pa_nil)) pe_int) (pe_op op_mul pe_int (pv 1))) pe_int) pe_int) pa_nil)) pe_int) (pg_name (i := 2) sc.nd rfl (.inl rfl)))
    (pss_cons (ps_asg (pe_op op_mod (pe_callTy cq_int (by rfl) nb.int (by decide +kernel) (pa_cons (pe_op op_mul (pv 2) (pe_op op_add (pe_op op_fdivW (pv 2) pe_int) pe_int)) pa_nil)) pe_int) (pg_name (i := 2) sc.nd rfl (.inl rfl)))
    (pss_one (ps_ret (pe_op op_mod (pe_callTy cq_int (by rfl) nb.int (by decide +kernel) (pa_cons (pe_op op_mul (pv 2) (pe_op op_add (pe_op op_fdivW (pv 2) pe_int) pe_int)) pa_nil)) pe_int))))), ?_⟩
    (rw [show start ["cell", "k", "number"] [.int c, .int k] = [some (.int c), some (.int k), none] from rfl]; try dsimp only [cxOf])
    walk_at "w"
    generalize hn : (c % 2147483647 + 7919 * k + 1) * 48271 % 2147483647 = n
    have n0 : 0 ≤ n := by omega
    have n1 : n < 2147483647 := by omega
    walk_at "w"
    generalize hm : n * (n / 1009 + 69621) % 2147483647 = m
    have m0 : 0 ≤ m := by omega
    have m1 : m < 2147483647 := by omega
    walk_at "w"
    exact q _
theorem ok_law_great {f : Addr} {fd : FuncData} (F : Fun K "_law_great" "_law_great" s_law_great f fd) (nb : Nb mg) : FnOk P w K mg base CX0 1 f fd ["cells", "place"] (sp_great K) := by
  have sc := sc_law_great
  refine F.ok sc (fun vs H Q E h => ?_) (fun cdv A outer s H vs Q E hr h => ?_)
  · obtain ⟨c, p, ns, rfl, _⟩ := h
    rfl
  · obtain ⟨c, p, ns, rfl, hc, p0, q⟩ := h
    refine ⟨_, (pss_cons (ps_if (PW.pt (pw_and (pt_cmpR op_lt (pv 1) (pe_callB cq_len (by rfl) nb.len (by decide +kernel) (pa_cons (pv 0) pa_nil)) (nomark _)) (pw_and1 (pt_cmpR op_ge (pe_callB cq_abs (by rfl) nb.abs (by decide +kernel) (pa_cons (pe_ix ix_list (pv 0) (pv 1) (fun _ _ => rfl)) pa_nil)) (pe_op op_pow pe_int pe_int) (nomark _))))) (pss_one (ps_ret (pe_callB cq_abs (by rfl) nb.abs (by decide +kernel) (pa_cons (pe_ix ix_list (pv 0) (pv 1) (fun _ _ => rfl)) pa_nil)))) pss_nil)
    (pss_one (ps_ret pe_int))), ?_⟩
    (rw [show start ["cells", "place"] [.ref c, .int p] = [some (.ref c), some (.int p)] from rfl]; try dsimp only [cxOf])
    walk_at "w"
    refine w_ifd (fun h1 => ?_) (fun h1 => ?_)
    · skip
      obtain ⟨n, hn⟩ := at_ints p0 h1
      walk_at "w"
      refine w_ifd (fun h2 => ?_) (fun h2 => ?_)
      · walk_at "w"
        exact q _ (by omega)
      · walk_at "w"
        exact q _ (by omega)
    · refine iteF ?_
      walk_at "w"
      exact q _ (by omega)
theorem ok_law_stream {f : Addr} {fd : FuncData} (F : Fun K "_law_stream" "_law_stream" s_law_stream f fd) (nb : Nb mg) (d_law_great : Df P w K mg base CX0 1 "_law_great" ["cells", "place"] (sp_great K)) : FnOk P w K mg base CX0 2 f fd ["script"] (sp_stream K) := by
  have sc := sc_law_stream
  refine F.ok sc (fun vs H Q E h => ?_) (fun cdv A outer s H vs Q E hr h => ?_)
  · obtain ⟨c, ns, rfl, _⟩ := h
    rfl
  · obtain ⟨c, ns, rfl, hc, q⟩ := h
    refine ⟨_, (pss_cons (ps_asg (pe_callTy cq_list (by rfl) nb.list (by decide +kernel) (pa_cons (pv 0) pa_nil)) (pg_name (i := 1) sc.nd rfl (.inl rfl)))
    (pss_cons (ps_if (pt_cmpR op_eq (pe_callB cq_len (by rfl) nb.len (by decide +kernel) (pa_cons (pv 1) pa_nil)) pe_int (nomark _)) (pss_one (ps_asg (pe_lst (pa_cons pe_int pa_nil)) (pg_name (i := 1) sc.nd rfl (.inl rfl)))) pss_nil)
    (pss_one (ps_ret (pe_lst (pa_cons (pv 1) (pa_cons pe_int (pa_cons (pe_call d_law_great.F (hr.mono (by decide)) (by rfl) d_law_great.g d_law_great.kp d_law_great.b .nil pass0 (pa_cons (pv 1) (pa_cons pe_int pa_nil))) (pa_cons pe_int pa_nil))))))))), ?_⟩
    (rw [show start ["script", "cells"] [.ref c] = [some (.ref c), none] from rfl]; try dsimp only [cxOf])
    walk_at "w"
    refine ⟨c, ns.map V.int, rfl, .inl hc, fun l nl => ?_⟩
    walk_at "w"
    have s1 : Same H (upd H l (.lst (ns.map V.int))) := same_new nl
    refine w_ifd (fun h1 => ?_) (fun h1 => ?_)
    · walk_at "w"
      refine nl_mk fun p np => ?_
      walk_at "w"
      refine ⟨p, 0, [0], rfl, .inl (.inl upd_same), by decide, fun g g0 => ?_⟩
      walk_at "w"
      refine nl_mk fun t nt => ?_
      have tp : p ≠ t := ne_of_none upd_same nt
      refine q _ t ((s1.new np).new nt) ((s1.new np).free nt) ⟨p, 0, g, 0, [0], upd_same, by decide, g0, ?_, by decide⟩
      rw [upd_ne tp]
      exact upd_same
    · skip
      walk_at "w"
      refine ⟨l, 0, ns, rfl, .inl (.inl upd_same), by decide, fun g g0 => ?_⟩
      walk_at "w"
      refine nl_mk fun t nt => ?_
      have tp : l ≠ t := ne_of_none upd_same nt
      refine q _ t (s1.new nt) (s1.free nt) ⟨l, 0, g, 0, ns, upd_same, by decide, g0, ?_, by omega⟩
      rw [upd_ne tp]
      exact upd_same
theorem ok_law_take {f : Addr} {fd : FuncData} (F : Fun K "_law_take" "_law_take" s_law_take f fd) (nb : Nb mg) (d_law_great : Df P w K mg base CX0 1 "_law_great" ["cells", "place"] (sp_great K)) (d_law_mixed : Df P w K mg base CX0 1 "_law_mixed" ["cell", "k"] sp_mixed) : FnOk P w K mg base CX0 2 f fd ["stream", "many"] sp_take := by
  have sc := sc_law_take
  refine F.ok sc (fun vs H Q E h => ?_) (fun cdv A outer s H vs Q E hr h => ?_)
  · obtain ⟨a, m, rfl, _⟩ := h
    rfl
  · obtain ⟨a, m, rfl, hm, ⟨c, p, g, n, ns, h1, p0, g0, h4, hl⟩, q⟩ := h
    have ca := stm_ca h1 h4
    refine ⟨_, (pss_cons (ps_asg (pe_ix ix_list (pv 0) pe_int (fun _ _ => rfl)) (pg_name (i := 2) sc.nd rfl (.inl rfl)))
    (pss_cons (ps_asg (pe_ix ix_list (pv 0) pe_int (fun _ _ => rfl)) (pg_name (i := 3) sc.nd rfl (.inl rfl)))
    (pss_cons (ps_asg (pe_op op_add (pe_ix ix_list (pv 0) pe_int (fun _ _ => rfl)) pe_int) (pg_sub (pv 0) pe_int set_list))
    (pss_cons (ps_if (pt_cmpR op_gt (pe_ix ix_list (pv 0) pe_int (fun _ _ => rfl)) pe_int (nomark _)) (pss_cons (ps_asg (pe_op op_mod (pe_callTy cq_int (by rfl) nb.int (by decide +kernel) (pa_cons (pe_ix ix_list (pv 0) pe_int (fun _ _ => rfl)) pa_nil)) (pv 1)) (pg_name (i := 4) sc.nd rfl (.inl rfl)))
    (pss_cons (ps_asg (pe_op op_fdivW (pe_ix ix_list (pv 0) pe_int (fun _ _ => rfl)) (pv 1)) (pg_sub (pv 0) pe_int set_list))
    (pss_one (ps_if (pt_cmpR op_gt (pe_ix ix_list (pv 0) pe_int (fun _ _ => rfl)) pe_int (nomark _)) (pss_one (ps_ret (pv 4))) pss_nil)))) (pss_one (ps_asg (pe_op op_mod (pe_call d_law_mixed.F (hr.mono (by decide)) (by rfl) d_law_mixed.g d_law_mixed.kp d_law_mixed.b .nil pass0 (pa_cons (pe_ix ix_list (pv 2) (pe_op op_mod (pe_callTy cq_int (by rfl) nb.int (by decide +kernel) (pa_cons (pv 3) pa_nil)) (pe_callB cq_len (by rfl) nb.len (by decide +kernel) (pa_cons (pv 2) pa_nil))) (fun _ _ => rfl)) (pa_cons (pe_ix ix_list (pv 0) pe_int (fun _ _ => rfl)) pa_nil))) (pv 1)) (pg_name (i := 4) sc.nd rfl (.inl rfl)))))
    (pss_cons (ps_asg (pe_op op_add (pv 3) pe_int) (pg_sub (pv 0) pe_int set_list))
    (pss_cons (ps_asg (pe_call d_law_great.F (hr.mono (by decide)) (by rfl) d_law_great.g d_law_great.kp d_law_great.b .nil pass0 (pa_cons (pv 2) (pa_cons (pe_op op_add (pv 3) pe_int) pa_nil))) (pg_sub (pv 0) pe_int set_list))
    (pss_one (ps_ret (pv 4))))))))), ?_⟩
    (rw [show start ["stream", "many", "cells", "place", "digit"] [.ref a, .int m] = [some (.ref a), some (.int m), none, none, none] from rfl]; try dsimp only [cxOf])
    walk_at "w"
    refine w_ifd (fun hg => ?_) (fun hg => ?_)
    · walk_at "w"
      refine w_ifd (fun h2 => ?_) (fun h2 => ?_)
      · walk_at "w"
        refine q _ _ ?_ ⟨c, p, g / m, n + 1, ns, upd_same, p0, by omega, ?_, hl⟩ (Int.emod_nonneg _ (by omega)) (Int.emod_lt_of_pos _ (by omega))
        · exact (But.upd.trans But.upd)
        · walk_at "heap"
      · walk_at "w"
        refine ⟨c, p + 1, ns, rfl, .inl (.inl (by walk_at "heap")), by omega, fun g2 g20 => ?_⟩
        walk_at "w"
        refine q _ _ ?_ ⟨c, p + 1, g2, n + 1, ns, upd_same, by omega, g20, ?_, hl⟩ (Int.emod_nonneg _ (by omega)) (Int.emod_lt_of_pos _ (by omega))
        · exact ((But.upd.trans But.upd).trans But.upd).trans But.upd
        · walk_at "heap"
    · obtain ⟨z, hz⟩ := at_ints (ns := ns) (i := p % (ns.length : Int)) (Int.emod_nonneg _ (by omega)) (Int.emod_lt_of_pos _ (by omega))
      walk_at "w"
      refine ⟨z, n + 1, rfl, fun d0 => ?_⟩
      walk_at "w"
      refine ⟨c, p + 1, ns, rfl, .inl (.inl (by walk_at "heap")), by omega, fun g2 g20 => ?_⟩
      walk_at "w"
      refine q _ _ ?_ ⟨c, p + 1, g2, n + 1, ns, upd_same, by omega, g20, ?_, hl⟩ (Int.emod_nonneg _ (by omega)) (Int.emod_lt_of_pos _ (by omega))
      · exact (But.upd.trans But.upd).trans But.upd
      · walk_at "heap"
theorem call_take {H : Hp} {a : Addr} {m : Int} {Q : VK} {E : XK} (s : Stm H a) (hm : 0 < m) (hl : m.natAbs.log2 < 9000) (h : ∀ H' (d : Int), But a H H' → Stm H' a → 0 ≤ d → d < m → Q (.int d) H') : sp_take [.ref a, .int m] H Q E := ⟨a, m, rfl, ⟨hm, hl⟩, s, h⟩
theorem ok_law_whole {f : Addr} {fd : FuncData} (F : Fun K "_law_whole" "_law_whole" s_law_whole f fd) (d_law_take : Df P w K mg base CX0 2 "_law_take" ["stream", "many"] sp_take) : FnOk P w K mg base CX0 3 f fd ["stream"] sp_whole := by
  have sc := sc_law_whole
  refine F.ok sc (fun vs H Q E h => ?_) (fun cdv A outer s H vs Q E hr h => ?_)
  · obtain ⟨a, rfl, _⟩ := h
    rfl
  · obtain ⟨a, rfl, st, q⟩ := h
    refine ⟨_, (pss_cons (ps_asg (pe_call d_law_take.F (hr.mono (by decide)) (by rfl) d_law_take.g d_law_take.kp d_law_take.b .nil pass0 (pa_cons (pv 0) (pa_cons pe_int pa_nil))) (pg_name (i := 1) sc.nd rfl (.inl rfl)))
    (pss_cons (ps_asg (pe_op op_sub pe_int (pe_op op_mul pe_int (pe_call d_law_take.F (hr.mono (by decide)) (by rfl) d_law_take.g d_law_take.kp d_law_take.b .nil pass0 (pa_cons (pv 0) (pa_cons pe_int pa_nil))))) (pg_name (i := 2) sc.nd rfl (.inl rfl)))
    (pss_cons (ps_if (pt_cmpR op_eq (pv 1) pe_int (nomark _)) (pss_one (ps_ret (pe_op op_mul (pv 2) (pe_call d_law_take.F (hr.mono (by decide)) (by rfl) d_law_take.g d_law_take.kp d_law_take.b .nil pass0 (pa_cons (pv 0) (pa_cons pe_int pa_nil)))))) pss_nil)
    (pss_cons (ps_if (pt_cmpR op_eq (pv 1) pe_int (nomark _)) (pss_one (ps_ret (pe_op op_mul (pv 2) (pe_call d_law_take.F (hr.mono (by decide)) (by rfl) d_law_take.g d_law_take.kp d_law_take.b .nil pass0 (pa_cons (pv 0) (pa_cons pe_int pa_nil)))))) pss_nil)
    (pss_cons (ps_if (pt_cmpR op_eq (pv 1) pe_int (nomark _)) (pss_one (ps_ret (pe_op op_mul (pv 2) (pe_call d_law_take.F (hr.mono (by decide)) (by rfl) d_law_take.g d_law_take.kp d_law_take.b .nil pass0 (pa_cons (pv 0) (pa_cons (pe_op op_pow pe_int pe_int) pa_nil)))))) pss_nil)
    (pss_cons (ps_asg (pe_op op_add (pe_op op_mul (pe_call d_law_take.F (hr.mono (by decide)) (by rfl) d_law_take.g d_law_take.kp d_law_take.b .nil pass0 (pa_cons (pv 0) (pa_cons (pe_op op_pow pe_int pe_int) pa_nil))) (pe_op op_pow pe_int pe_int)) (pe_call d_law_take.F (hr.mono (by decide)) (by rfl) d_law_take.g d_law_take.kp d_law_take.b .nil pass0 (pa_cons (pv 0) (pa_cons (pe_op op_pow pe_int pe_int) pa_nil)))) (pg_name (i := 3) sc.nd rfl (.inl rfl)))
    (pss_cons (ps_if (pt_cmpR op_eq (pv 1) pe_int (nomark _)) (pss_one (ps_ret (pe_op op_mul (pv 2) (pv 3)))) pss_nil)
    (pss_one (ps_ret (pe_op op_mul (pv 2) (pe_op op_add (pe_op op_mul (pv 3) (pe_op op_pow pe_int pe_int)) (pe_call d_law_take.F (hr.mono (by decide)) (by rfl) d_law_take.g d_law_take.kp d_law_take.b .nil pass0 (pa_cons (pv 0) (pa_cons (pe_op op_pow pe_int pe_int) pa_nil)))))))))))))), ?_⟩
    (rw [show start ["stream", "size", "sign", "number"] [.ref a] = [some (.ref a), none, none, none] from rfl]; try dsimp only [cxOf])
    walk_at "w"
    refine call_take st (by decide) (by decide) fun H1 z b1 s1 z0 z1 => ?_
    walk_at "w"
    refine call_take s1 (by decide) (by decide) fun H2 d b2 s2 d0 d1 => ?_
    have bb := b1.trans b2
    walk_at "w"
    refine w_ifd (fun h0 => ?_) (fun h0 => ?_)
    · walk_at "w"
      refine call_take s2 (by decide) (by decide) fun H3 x b3 s3 x0 x1 => ?_
      walk_at "w"
      exact q _ _ (bb.trans b3) s3 (sgn_small d0 d1 x0 (Int.lt_of_lt_of_le x1 (by decide)))
    walk_at "w"
    refine w_ifd (fun h0 => ?_) (fun h0 => ?_)
    · walk_at "w"
      refine call_take s2 (by decide) (by decide) fun H3 x b3 s3 x0 x1 => ?_
      walk_at "w"
      exact q _ _ (bb.trans b3) s3 (sgn_small d0 d1 x0 (Int.lt_of_lt_of_le x1 (by decide)))
    walk_at "w"
    refine w_ifd (fun h0 => ?_) (fun h0 => ?_)
    · walk_at "w"
      refine call_take s2 (by decide) (by decide +kernel) fun H3 x b3 s3 x0 x1 => ?_
      walk_at "w"
      exact q _ _ (bb.trans b3) s3 (sgn_small d0 d1 x0 (Int.lt_of_lt_of_le x1 (by decide)))
    walk_at "w"
    refine call_take s2 (by decide) (by decide +kernel) fun H3 x b3 s3 x0 x1 => ?_
    walk_at "w"
    refine call_take s3 (by decide) (by decide +kernel) fun H4 y b4 s4 y0 y1 => ?_
    have b4' := (bb.trans b3).trans b4
    walk_at "w"
    refine w_ifd (fun h0 => ?_) (fun h0 => ?_)
    · walk_at "w"
      exact q _ _ b4' s4 (sgn_small d0 d1 (by omega) (by omega))
    walk_at "w"
    refine call_take s4 (by decide) (by decide +kernel) fun H5 u b5 s5 u0 u1 => ?_
    walk_at "w"
    exact q _ _ (b4'.trans b5) s5 (sgn_small d0 d1 (by omega) (by omega))
end

/-! ### the classes of errors, told by their numbers -/
def cl (L : List Addr) (k : Nat) : Addr := L.getD k 0
def fNames : List Str := ["at", "word", "most", "crease", "number"]
structure Cls (K : PySem.W.Frag) (L : List Addr) : Prop where
  x : ∀ k, k < 37 → XCls K (cl L k)
  no : ∀ k, k < 37 → ∀ f ∈ fNames, PySem.W.findIn K (.ref (cl L k)) f = some none
  is : ∀ k, k < 37 → ∀ j, j < 36 → PySem.W.kitOne K (.ref (cl L k)) (.ref (cl L j)) = some (decide (k = j))
  ve : ∀ k, k < 37 → PySem.W.kitOne K (.ref (cl L k)) (.type "ValueError") = some true
  ex : ∀ k, k < 37 → PySem.W.exmOne K (.ref (cl L k)) (.ref (cl L 36)) = some true
/-- which fields the error number k has -/
def kin (k : Nat) : Nat := [0, 0, 0, 1, 1, 2, 3, 0, 0, 0, 0, 0, 1, 0, 4, 0, 5, 0, 0, 0, 0, 0, 0, 0, 1, 5, 0, 0, 0, 0, 0, 1, 0, 6, 0, 0, 0].getD k 0
def fldK (c : Nat) (w : Str) (n : Int) : List (Str × PyData) := match c with
  | 1 => [("at", .int n)]
  | 2 => [("at", .int n), ("word", .str w)]
  | 3 => [("most", .int n)]
  | 4 => [("crease", .tuple [.int n, .int (n + 1)])]
  | 5 => [("word", .str w)]
  | 6 => [("number", .int n)]
  | _ => []
def dueK (c : Nat) (w : Str) (n : Int) : PyData := match c with
  | 1 => .tuple [.str "at", .int n]
  | 2 => .tuple [.str "both", .str w, .int n]
  | 3 => .tuple [.str "most", .int n]
  | 4 => .tuple [.str "crease", .tuple [.int n, .int (n + 1)]]
  | 5 => .tuple [.str "word", .str w]
  | 6 => .tuple [.str "number", .int n]
  | _ => .tuple [.str "none"]
abbrev fldOf (k : Nat) (w : Str) (n : Int) : List (Str × PyData) := fldK (kin k) w n
/-- the dict of a caught error has these fields -/
def XFld (sa : Addr) (H : Hp) (d : Option Addr) (l : List (Str × PyData)) : Prop := (l = [] → d = none) ∧ (l ≠ [] → ∃ dd fs, d = some dd ∧ H dd = some (.xd fs) ∧ ∀ p ∈ l, ∃ v, fs.lookup p.1 = some v ∧ Rp sa H v p.2)
theorem XFld.dct {sa : Addr} {H : Hp} {d : Option Addr} {l : List (Str × PyData)} (h : XFld sa H d l) : XDct H d := fun dd e => by
  by_cases hl : l = []
  · rw [h.1 hl] at e
    cases e
  · obtain ⟨d2, fs, e2, e3, _⟩ := h.2 hl
    rw [e] at e2
    cases e2
    exact ⟨fs, e3⟩
theorem XFld.same {sa : Addr} {H H' : Hp} {d : Option Addr} {l : List (Str × PyData)} (h : XFld sa H d l) (s : Same H H') : XFld sa H' d l := ⟨h.1, fun hl => by
  obtain ⟨dd, fs, e1, e2, e3⟩ := h.2 hl
  exact ⟨dd, fs, e1, s _ _ e2, fun p hp => let ⟨v, a, b⟩ := e3 p hp; ⟨v, a, b.same s⟩⟩⟩
theorem XDct.same {H H' : Hp} {d : Option Addr} (h : XDct H d) (s : Same H H') : XDct H' d := fun dd e => let ⟨fs, a⟩ := h dd e; ⟨fs, s _ _ a⟩
theorem xfld_one {sa : Addr} {H : Hp} {d : Addr} {g : Str} {v : V} {dv : PyData} (hd : H d = some (.xd [(g, v)])) (r : Rp sa H v dv) : XFld sa H (some d) [(g, dv)] := ⟨fun z => (nomatch z), fun _ => ⟨d, _, rfl, hd, fun p hp => by
  rw [List.mem_singleton.mp hp]
  exact ⟨v, by rw [lookup_put, if_pos rfl], r⟩⟩⟩
theorem xfld_two {sa : Addr} {H : Hp} {d : Addr} {v u : V} {dv du : PyData} (hd : H d = some (.xd [("at", u), ("word", v)])) (ru : Rp sa H u du) (rv : Rp sa H v dv) : XFld sa H (some d) [("at", du), ("word", dv)] := ⟨fun z => (nomatch z), fun _ => ⟨d, _, rfl, hd, fun p hp => by
  rcases List.mem_cons.mp hp with rfl | hp
  · exact ⟨u, by rw [lookup_put, if_pos rfl], ru⟩
  · rw [List.mem_singleton.mp hp]
    exact ⟨v, by rw [lookup_put, if_neg (show ¬ ("word" : Str) = "at" by decide), lookup_put, if_pos rfl], rv⟩⟩⟩
theorem n_tupF {xs : List V} {H : Hp} {Q : VK} (hl : xs.length.ble 1000 = true) (h : ∀ p, H p = none → Q (.ref p) (upd H p (.tup xs))) : NT Q xs H := ⟨Nat.le_of_lt (small1000 (Nat.le_of_ble_eq_true hl)), fun p np => h p np⟩
/-- the number k is raised -/
abbrev sp_rs (L : List Addr) (lo hi : Nat) : Sp := fun vs H Q E => ∃ (sa : Addr) (k : Nat) (w : Str) (n : Int), vs = [.int (k : Int), .str w, .int n] ∧ (∃ o, H sa = some o) ∧ lo ≤ k ∧ k < hi ∧ ∀ H' d, Same H H' → XFld sa H' d (fldOf k w n) → E (.ref (cl L k)) d H'
local macro_rules | `(tactic| walk_at "call1") => `(tactic| with_reducible refine w_mko ?_)
section
variable {P : Program} {w : World} {K : PySem.W.Frag} {mg : Str → Option Value} {base : Heap} {L : List Addr}
theorem ok_law_raise_early {f : Addr} {fd : FuncData} (F : Fun K "_law_raise_early" "_law_raise_early" s_law_raise_early f fd) (S : Cls K L) (c_NoFraction : Ex0 P w K mg base "NoFraction" (cl L 0)) (c_NoPoint : Ex0 P w K mg base "NoPoint" (cl L 1)) (c_NoPlate : Ex0 P w K mg base "NoPlate" (cl L 2)) (c_BadCorners : ExF P w K mg base "BadCorners" (cl L 3) ["self", "at"] (sp_ini1 K (cl L 3) "at")) (c_BadPlates : ExF P w K mg base "BadPlates" (cl L 4) ["self", "at"] (sp_ini1 K (cl L 4) "at")) (c_BadSheet : ExF P w K mg base "BadSheet" (cl L 5) ["self", "word", "at"] (sp_ini2 K (cl L 5) "word" "at")) (c_TooMany : ExF P w K mg base "TooMany" (cl L 6) ["self", "most"] (sp_ini1 K (cl L 6) "most")) (c_NoCorner : Ex0 P w K mg base "NoCorner" (cl L 7)) (c_NoCrease : Ex0 P w K mg base "NoCrease" (cl L 8)) (c_NoNumbers : Ex0 P w K mg base "NoNumbers" (cl L 9)) (c_NoStand : Ex0 P w K mg base "NoStand" (cl L 10)) (c_BadChoice : Ex0 P w K mg base "BadChoice" (cl L 11)) (c_BadSpaces : ExF P w K mg base "BadSpaces" (cl L 12) ["self", "at"] (sp_ini1 K (cl L 12) "at")) (c_NoPlacing : Ex0 P w K mg base "NoPlacing" (cl L 13)) (c_Shut : ExF P w K mg base "Shut" (cl L 14) ["self", "crease"] (sp_ini1 K (cl L 14) "crease")) (c_NoSpot : Ex0 P w K mg base "NoSpot" (cl L 15)) (c_BadNumber : ExF P w K mg base "BadNumber" (cl L 16) ["self", "word"] (sp_ini1 K (cl L 16) "word")) (c_NoPolynomial : Ex0 P w K mg base "NoPolynomial" (cl L 17)) : FnOk P w K mg base (L2.CX P w) 3 f fd ["k", "word", "number"] (sp_rs L 0 18) := by
  have sc := sc_law_raise_early
  refine F.okX sc (fun vs H Q E h => ?_) (fun cdv A outer s H vs Q E hr h => ?_)
  · obtain ⟨sa, k, wd, n, rfl, _⟩ := h
    rfl
  · obtain ⟨sa, k, wd, n, rfl, t, lo, hi, q⟩ := h
    refine ⟨_, (pss_cons (ps_if (pt_cmpR op_eq (pv 0) pe_int (nomark _)) (pss_one (ps_raise rfl (takes_of rfl rfl rfl rfl) (pmk0 c_NoFraction (hr.mono (by decide)) (by rfl)))) pss_nil)
    (pss_cons (ps_if (pt_cmpR op_eq (pv 0) pe_int (nomark _)) (pss_one (ps_raise rfl (takes_of rfl rfl rfl rfl) (pmk0 c_NoPoint (hr.mono (by decide)) (by rfl)))) pss_nil)
    (pss_cons (ps_if (pt_cmpR op_eq (pv 0) pe_int (nomark _)) (pss_one (ps_raise rfl (takes_of rfl rfl rfl rfl) (pmk0 c_NoPlate (hr.mono (by decide)) (by rfl)))) pss_nil)
    (pss_cons (ps_if (pt_cmpR op_eq (pv 0) pe_int (nomark _)) (pss_one (ps_raise rfl (takes_of rfl rfl rfl rfl) (pmkA c_BadCorners (hr.mono (by decide)) (by rfl) (pa_cons (pv 2) pa_nil)))) pss_nil)
    (pss_cons (ps_if (pt_cmpR op_eq (pv 0) pe_int (nomark _)) (pss_one (ps_raise rfl (takes_of rfl rfl rfl rfl) (pmkA c_BadPlates (hr.mono (by decide)) (by rfl) (pa_cons (pv 2) pa_nil)))) pss_nil)
    (pss_cons (ps_if (pt_cmpR op_eq (pv 0) pe_int (nomark _)) (pss_one (ps_raise rfl (takes_of rfl rfl rfl rfl) (pmkA c_BadSheet (hr.mono (by decide)) (by rfl) (pa_cons (pv 1) (pa_cons (pv 2) pa_nil))))) pss_nil)
    (pss_cons (ps_if (pt_cmpR op_eq (pv 0) pe_int (nomark _)) (pss_one (ps_raise rfl (takes_of rfl rfl rfl rfl) (pmkA c_TooMany (hr.mono (by decide)) (by rfl) (pa_cons (pv 2) pa_nil)))) pss_nil)
    (pss_cons (ps_if (pt_cmpR op_eq (pv 0) pe_int (nomark _)) (pss_one (ps_raise rfl (takes_of rfl rfl rfl rfl) (pmk0 c_NoCorner (hr.mono (by decide)) (by rfl)))) pss_nil)
    (pss_cons (ps_if (pt_cmpR op_eq (pv 0) pe_int (nomark _)) (pss_one (ps_raise rfl (takes_of rfl rfl rfl rfl) (pmk0 c_NoCrease (hr.mono (by decide)) (by rfl)))) pss_nil)
    (pss_cons (ps_if (pt_cmpR op_eq (pv 0) pe_int (nomark _)) (pss_one (ps_raise rfl (takes_of rfl rfl rfl rfl) (pmk0 c_NoNumbers (hr.mono (by decide)) (by rfl)))) pss_nil)
    (pss_cons (ps_if (pt_cmpR op_eq (pv 0) pe_int (nomark _)) (pss_one (ps_raise rfl (takes_of rfl rfl rfl rfl) (pmk0 c_NoStand (hr.mono (by decide)) (by rfl)))) pss_nil)
    (pss_cons (ps_if (pt_cmpR op_eq (pv 0) pe_int (nomark _)) (pss_one (ps_raise rfl (takes_of rfl rfl rfl rfl) (pmk0 c_BadChoice (hr.mono (by decide)) (by rfl)))) pss_nil)
    (pss_cons (ps_if (pt_cmpR op_eq (pv 0) pe_int (nomark _)) (pss_one (ps_raise rfl (takes_of rfl rfl rfl rfl) (pmkA c_BadSpaces (hr.mono (by decide)) (by rfl) (pa_cons (pv 2) pa_nil)))) pss_nil)
    (pss_cons (ps_if (pt_cmpR op_eq (pv 0) pe_int (nomark _)) (pss_one (ps_raise rfl (takes_of rfl rfl rfl rfl) (pmk0 c_NoPlacing (hr.mono (by decide)) (by rfl)))) pss_nil)
    (pss_cons (ps_if (pt_cmpR op_eq (pv 0) pe_int (nomark _)) (pss_one (ps_raise rfl (takes_of rfl rfl rfl rfl) (pmkA c_Shut (hr.mono (by decide)) (by rfl) (pa_cons (pe_tup (pa_cons (pv 2) (pa_cons (pe_op op_add (pv 2) pe_int) pa_nil))) pa_nil)))) pss_nil)
    (pss_cons (ps_if (pt_cmpR op_eq (pv 0) pe_int (nomark _)) (pss_one (ps_raise rfl (takes_of rfl rfl rfl rfl) (pmk0 c_NoSpot (hr.mono (by decide)) (by rfl)))) pss_nil)
    (pss_cons (ps_if (pt_cmpR op_eq (pv 0) pe_int (nomark _)) (pss_one (ps_raise rfl (takes_of rfl rfl rfl rfl) (pmkA c_BadNumber (hr.mono (by decide)) (by rfl) (pa_cons (pv 1) pa_nil)))) pss_nil)
    (pss_cons (ps_if (pt_cmpR op_eq (pv 0) pe_int (nomark _)) (pss_one (ps_raise rfl (takes_of rfl rfl rfl rfl) (pmk0 c_NoPolynomial (hr.mono (by decide)) (by rfl)))) pss_nil)
    (pss_one (ps_ret pe_bl)))))))))))))))))))), ?_⟩
    (rw [show start ["k", "word", "number"] [.int k, .str wd, .int n] = [some (.int k), some (.str wd), some (.int n)] from rfl]; try dsimp only [cxOf])
    have none_ : ∀ j : Nat, k = j → fldOf j wd n = [] → E (.ref (cl L j)) none H := fun j e z => by
      subst e
      exact q H none (Same.refl H) ⟨fun _ => rfl, fun h => absurd z h⟩
    have one : ∀ (j : Nat) (g : Str) (v : V) (dv : PyData), k = j → fldOf j wd n = [(g, dv)] → (∀ H', Rp sa H' v dv) → OexC K (cl L j) → PySem.W.findIn K (.ref (cl L j)) g = some none → mkE (cl L j) (sp_ini1 K (cl L j) g) H [v] E := fun j g v dv e z r T no => by
      subst e
      refine mk_ini1 T no fun d H2 sm hd => q H2 (some d) sm ?_
      rw [z]
      exact xfld_one hd (r H2)
    have two : k = 5 → mkE (cl L 5) (sp_ini2 K (cl L 5) "word" "at") H [.str wd, .int n] E := fun e => by
      subst e
      exact mk_ini2 c_BadSheet.T (S.no 5 (by decide) _ (by decide)) (S.no 5 (by decide) _ (by decide)) fun d H2 sm hd => q H2 (some d) sm (xfld_two hd (.int _) (.str _))
    have shut : k = 14 → ∀ p, H p = none → mkE (cl L 14) (sp_ini1 K (cl L 14) "crease") (upd H p (.tup [.int n, .int (n + 1)])) [.ref p] E := fun e p np => by
      subst e
      refine mk_ini1 c_Shut.T (S.no 14 (by decide) _ (by decide)) fun d H2 sm hd => q H2 (some d) ((same_new np).trans sm) ?_
      obtain ⟨o, eo⟩ := t
      exact xfld_one hd (.tup (ne_of_none eo np).symm (sm _ _ upd_same) (.cons (.int _) (.cons (.int _) .nil)))
    walk_at "w"
    refine w_ifd (fun h0 => ?_) (fun h0 => ?_)
    · walk_at "w"
      exact none_ 0 (by omega) rfl
    walk_at "w"
    refine w_ifd (fun h1 => ?_) (fun h1 => ?_)
    · walk_at "w"
      exact none_ 1 (by omega) rfl
    walk_at "w"
    refine w_ifd (fun h2 => ?_) (fun h2 => ?_)
    · walk_at "w"
      exact none_ 2 (by omega) rfl
    walk_at "w"
    refine w_ifd (fun h3 => ?_) (fun h3 => ?_)
    · walk_at "w"
      exact one 3 "at" (.int n) (.int n) (by omega) rfl (fun _ => .int _) c_BadCorners.T (S.no 3 (by decide) _ (by decide))
    walk_at "w"
    refine w_ifd (fun h4 => ?_) (fun h4 => ?_)
    · walk_at "w"
      exact one 4 "at" (.int n) (.int n) (by omega) rfl (fun _ => .int _) c_BadPlates.T (S.no 4 (by decide) _ (by decide))
    walk_at "w"
    refine w_ifd (fun h5 => ?_) (fun h5 => ?_)
    · walk_at "w"
      exact two (by omega)
    walk_at "w"
    refine w_ifd (fun h6 => ?_) (fun h6 => ?_)
    · walk_at "w"
      exact one 6 "most" (.int n) (.int n) (by omega) rfl (fun _ => .int _) c_TooMany.T (S.no 6 (by decide) _ (by decide))
    walk_at "w"
    refine w_ifd (fun h7 => ?_) (fun h7 => ?_)
    · walk_at "w"
      exact none_ 7 (by omega) rfl
    walk_at "w"
    refine w_ifd (fun h8 => ?_) (fun h8 => ?_)
    · walk_at "w"
      exact none_ 8 (by omega) rfl
    walk_at "w"
    refine w_ifd (fun h9 => ?_) (fun h9 => ?_)
    · walk_at "w"
      exact none_ 9 (by omega) rfl
    walk_at "w"
    refine w_ifd (fun h10 => ?_) (fun h10 => ?_)
    · walk_at "w"
      exact none_ 10 (by omega) rfl
    walk_at "w"
    refine w_ifd (fun h11 => ?_) (fun h11 => ?_)
    · walk_at "w"
      exact none_ 11 (by omega) rfl
    walk_at "w"
    refine w_ifd (fun h12 => ?_) (fun h12 => ?_)
    · walk_at "w"
      exact one 12 "at" (.int n) (.int n) (by omega) rfl (fun _ => .int _) c_BadSpaces.T (S.no 12 (by decide) _ (by decide))
    walk_at "w"
    refine w_ifd (fun h13 => ?_) (fun h13 => ?_)
    · walk_at "w"
      exact none_ 13 (by omega) rfl
    walk_at "w"
    refine w_ifd (fun h14 => ?_) (fun h14 => ?_)
    · walk_at "w"
      refine n_tupF rfl fun p np => ?_
      walk_at "w"
      exact shut (by omega) p np
    walk_at "w"
    refine w_ifd (fun h15 => ?_) (fun h15 => ?_)
    · walk_at "w"
      exact none_ 15 (by omega) rfl
    walk_at "w"
    refine w_ifd (fun h16 => ?_) (fun h16 => ?_)
    · walk_at "w"
      exact one 16 "word" (.str wd) (.str wd) (by omega) rfl (fun _ => .str _) c_BadNumber.T (S.no 16 (by decide) _ (by decide))
    walk_at "w"
    refine w_ifd (fun h17 => ?_) (fun h17 => ?_)
    · walk_at "w"
      exact none_ 17 (by omega) rfl
    exact absurd hi (by omega)
theorem ok_law_raise_late {f : Addr} {fd : FuncData} (F : Fun K "_law_raise_late" "_law_raise_late" s_law_raise_late f fd) (S : Cls K L) (c_BadLot : Ex0 P w K mg base "BadLot" (cl L 18)) (c_BadBook : Ex0 P w K mg base "BadBook" (cl L 19)) (c_BadTold : Ex0 P w K mg base "BadTold" (cl L 20)) (c_NoFit : Ex0 P w K mg base "NoFit" (cl L 21)) (c_BadPrices : Ex0 P w K mg base "BadPrices" (cl L 22)) (c_BadHeld : Ex0 P w K mg base "BadHeld" (cl L 23)) (c_NotHeld : ExF P w K mg base "NotHeld" (cl L 24) ["self", "at"] (sp_ini1 K (cl L 24) "at")) (c_BadSeam : ExF P w K mg base "BadSeam" (cl L 25) ["self", "word"] (sp_ini1 K (cl L 25) "word")) (c_BadTable : Ex0 P w K mg base "BadTable" (cl L 26)) (c_BadWish : Ex0 P w K mg base "BadWish" (cl L 27)) (c_BadLengths : Ex0 P w K mg base "BadLengths" (cl L 28)) (c_NoSlit : Ex0 P w K mg base "NoSlit" (cl L 29)) (c_NoPart : Ex0 P w K mg base "NoPart" (cl L 30)) (c_BadText : ExF P w K mg base "BadText" (cl L 31) ["self", "at"] (sp_ini1 K (cl L 31) "at")) (c_NoTree : Ex0 P w K mg base "NoTree" (cl L 32)) (c_LiesOver : ExF P w K mg base "LiesOver" (cl L 33) ["self", "number"] (sp_ini1 K (cl L 33) "number")) (c_NoUndo : Ex0 P w K mg base "NoUndo" (cl L 34)) (c_BadTries : Ex0 P w K mg base "BadTries" (cl L 35)) (c_FoldError : ExB K mg "FoldError" (cl L 36)) : FnOk P w K mg base (L2.CX P w) 3 f fd ["k", "word", "number"] (sp_rs L 18 37) := by
  have sc := sc_law_raise_late
  refine F.okX sc (fun vs H Q E h => ?_) (fun cdv A outer s H vs Q E hr h => ?_)
  · obtain ⟨sa, k, wd, n, rfl, _⟩ := h
    rfl
  · obtain ⟨sa, k, wd, n, rfl, t, lo, hi, q⟩ := h
    refine ⟨_, (pss_cons (ps_if (pt_cmpR op_eq (pv 0) pe_int (nomark _)) (pss_one (ps_raise rfl (takes_of rfl rfl rfl rfl) (pmk0 c_BadLot (hr.mono (by decide)) (by rfl)))) pss_nil)
    (pss_cons (ps_if (pt_cmpR op_eq (pv 0) pe_int (nomark _)) (pss_one (ps_raise rfl (takes_of rfl rfl rfl rfl) (pmk0 c_BadBook (hr.mono (by decide)) (by rfl)))) pss_nil)
    (pss_cons (ps_if (pt_cmpR op_eq (pv 0) pe_int (nomark _)) (pss_one (ps_raise rfl (takes_of rfl rfl rfl rfl) (pmk0 c_BadTold (hr.mono (by decide)) (by rfl)))) pss_nil)
    (pss_cons (ps_if (pt_cmpR op_eq (pv 0) pe_int (nomark _)) (pss_one (ps_raise rfl (takes_of rfl rfl rfl rfl) (pmk0 c_NoFit (hr.mono (by decide)) (by rfl)))) pss_nil)
    (pss_cons (ps_if (pt_cmpR op_eq (pv 0) pe_int (nomark _)) (pss_one (ps_raise rfl (takes_of rfl rfl rfl rfl) (pmk0 c_BadPrices (hr.mono (by decide)) (by rfl)))) pss_nil)
    (pss_cons (ps_if (pt_cmpR op_eq (pv 0) pe_int (nomark _)) (pss_one (ps_raise rfl (takes_of rfl rfl rfl rfl) (pmk0 c_BadHeld (hr.mono (by decide)) (by rfl)))) pss_nil)
    (pss_cons (ps_if (pt_cmpR op_eq (pv 0) pe_int (nomark _)) (pss_one (ps_raise rfl (takes_of rfl rfl rfl rfl) (pmkA c_NotHeld (hr.mono (by decide)) (by rfl) (pa_cons (pv 2) pa_nil)))) pss_nil)
    (pss_cons (ps_if (pt_cmpR op_eq (pv 0) pe_int (nomark _)) (pss_one (ps_raise rfl (takes_of rfl rfl rfl rfl) (pmkA c_BadSeam (hr.mono (by decide)) (by rfl) (pa_cons (pv 1) pa_nil)))) pss_nil)
    (pss_cons (ps_if (pt_cmpR op_eq (pv 0) pe_int (nomark _)) (pss_one (ps_raise rfl (takes_of rfl rfl rfl rfl) (pmk0 c_BadTable (hr.mono (by decide)) (by rfl)))) pss_nil)
    (pss_cons (ps_if (pt_cmpR op_eq (pv 0) pe_int (nomark _)) (pss_one (ps_raise rfl (takes_of rfl rfl rfl rfl) (pmk0 c_BadWish (hr.mono (by decide)) (by rfl)))) pss_nil)
    (pss_cons (ps_if (pt_cmpR op_eq (pv 0) pe_int (nomark _)) (pss_one (ps_raise rfl (takes_of rfl rfl rfl rfl) (pmk0 c_BadLengths (hr.mono (by decide)) (by rfl)))) pss_nil)
    (pss_cons (ps_if (pt_cmpR op_eq (pv 0) pe_int (nomark _)) (pss_one (ps_raise rfl (takes_of rfl rfl rfl rfl) (pmk0 c_NoSlit (hr.mono (by decide)) (by rfl)))) pss_nil)
    (pss_cons (ps_if (pt_cmpR op_eq (pv 0) pe_int (nomark _)) (pss_one (ps_raise rfl (takes_of rfl rfl rfl rfl) (pmk0 c_NoPart (hr.mono (by decide)) (by rfl)))) pss_nil)
    (pss_cons (ps_if (pt_cmpR op_eq (pv 0) pe_int (nomark _)) (pss_one (ps_raise rfl (takes_of rfl rfl rfl rfl) (pmkA c_BadText (hr.mono (by decide)) (by rfl) (pa_cons (pv 2) pa_nil)))) pss_nil)
    (pss_cons (ps_if (pt_cmpR op_eq (pv 0) pe_int (nomark _)) (pss_one (ps_raise rfl (takes_of rfl rfl rfl rfl) (pmk0 c_NoTree (hr.mono (by decide)) (by rfl)))) pss_nil)
    (pss_cons (ps_if (pt_cmpR op_eq (pv 0) pe_int (nomark _)) (pss_one (ps_raise rfl (takes_of rfl rfl rfl rfl) (pmkA c_LiesOver (hr.mono (by decide)) (by rfl) (pa_cons (pv 2) pa_nil)))) pss_nil)
    (pss_cons (ps_if (pt_cmpR op_eq (pv 0) pe_int (nomark _)) (pss_one (ps_raise rfl (takes_of rfl rfl rfl rfl) (pmk0 c_NoUndo (hr.mono (by decide)) (by rfl)))) pss_nil)
    (pss_cons (ps_if (pt_cmpR op_eq (pv 0) pe_int (nomark _)) (pss_one (ps_raise rfl (takes_of rfl rfl rfl rfl) (pmk0 c_BadTries (hr.mono (by decide)) (by rfl)))) pss_nil)
    (pss_cons (ps_if (pt_cmpR op_eq (pv 0) pe_int (nomark _)) (pss_one (ps_raise rfl (takes_of rfl rfl rfl rfl) (pmk_own0 PySem.F.excBase_ValueError c_FoldError.ex c_FoldError.gC c_FoldError.kC (raises_own c_FoldError.exC c_FoldError.tyC) (by rfl)))) pss_nil)
    (pss_one (ps_ret pe_bl))))))))))))))))))))), ?_⟩
    (rw [show start ["k", "word", "number"] [.int k, .str wd, .int n] = [some (.int k), some (.str wd), some (.int n)] from rfl]; try dsimp only [cxOf])
    have none_ : ∀ j : Nat, k = j → fldOf j wd n = [] → E (.ref (cl L j)) none H := fun j e z => by
      subst e
      exact q H none (Same.refl H) ⟨fun _ => rfl, fun h => absurd z h⟩
    have one : ∀ (j : Nat) (g : Str) (v : V) (dv : PyData), k = j → fldOf j wd n = [(g, dv)] → (∀ H', Rp sa H' v dv) → OexC K (cl L j) → PySem.W.findIn K (.ref (cl L j)) g = some none → mkE (cl L j) (sp_ini1 K (cl L j) g) H [v] E := fun j g v dv e z r T no => by
      subst e
      refine mk_ini1 T no fun d H2 sm hd => q H2 (some d) sm ?_
      rw [z]
      exact xfld_one hd (r H2)
    walk_at "w"
    refine w_ifd (fun h18 => ?_) (fun h18 => ?_)
    · walk_at "w"
      exact none_ 18 (by omega) rfl
    walk_at "w"
    refine w_ifd (fun h19 => ?_) (fun h19 => ?_)
    · walk_at "w"
      exact none_ 19 (by omega) rfl
    walk_at "w"
    refine w_ifd (fun h20 => ?_) (fun h20 => ?_)
    · walk_at "w"
      exact none_ 20 (by omega) rfl
    walk_at "w"
    refine w_ifd (fun h21 => ?_) (fun h21 => ?_)
    · walk_at "w"
      exact none_ 21 (by omega) rfl
    walk_at "w"
    refine w_ifd (fun h22 => ?_) (fun h22 => ?_)
    · walk_at "w"
      exact none_ 22 (by omega) rfl
    walk_at "w"
    refine w_ifd (fun h23 => ?_) (fun h23 => ?_)
    · walk_at "w"
      exact none_ 23 (by omega) rfl
    walk_at "w"
    refine w_ifd (fun h24 => ?_) (fun h24 => ?_)
    · walk_at "w"
      exact one 24 "at" (.int n) (.int n) (by omega) rfl (fun _ => .int _) c_NotHeld.T (S.no 24 (by decide) _ (by decide))
    walk_at "w"
    refine w_ifd (fun h25 => ?_) (fun h25 => ?_)
    · walk_at "w"
      exact one 25 "word" (.str wd) (.str wd) (by omega) rfl (fun _ => .str _) c_BadSeam.T (S.no 25 (by decide) _ (by decide))
    walk_at "w"
    refine w_ifd (fun h26 => ?_) (fun h26 => ?_)
    · walk_at "w"
      exact none_ 26 (by omega) rfl
    walk_at "w"
    refine w_ifd (fun h27 => ?_) (fun h27 => ?_)
    · walk_at "w"
      exact none_ 27 (by omega) rfl
    walk_at "w"
    refine w_ifd (fun h28 => ?_) (fun h28 => ?_)
    · walk_at "w"
      exact none_ 28 (by omega) rfl
    walk_at "w"
    refine w_ifd (fun h29 => ?_) (fun h29 => ?_)
    · walk_at "w"
      exact none_ 29 (by omega) rfl
    walk_at "w"
    refine w_ifd (fun h30 => ?_) (fun h30 => ?_)
    · walk_at "w"
      exact none_ 30 (by omega) rfl
    walk_at "w"
    refine w_ifd (fun h31 => ?_) (fun h31 => ?_)
    · walk_at "w"
      exact one 31 "at" (.int n) (.int n) (by omega) rfl (fun _ => .int _) c_BadText.T (S.no 31 (by decide) _ (by decide))
    walk_at "w"
    refine w_ifd (fun h32 => ?_) (fun h32 => ?_)
    · walk_at "w"
      exact none_ 32 (by omega) rfl
    walk_at "w"
    refine w_ifd (fun h33 => ?_) (fun h33 => ?_)
    · walk_at "w"
      exact one 33 "number" (.int n) (.int n) (by omega) rfl (fun _ => .int _) c_LiesOver.T (S.no 33 (by decide) _ (by decide))
    walk_at "w"
    refine w_ifd (fun h34 => ?_) (fun h34 => ?_)
    · walk_at "w"
      exact none_ 34 (by omega) rfl
    walk_at "w"
    refine w_ifd (fun h35 => ?_) (fun h35 => ?_)
    · walk_at "w"
      exact none_ 35 (by omega) rfl
    walk_at "w"
    refine w_ifd (fun h36 => ?_) (fun h36 => ?_)
    · walk_at "w"
      exact none_ 36 (by omega) rfl
    exact absurd hi (by omega)
end

/-! ### what is asked of the caught error -/
theorem c_in5 {K : PySem.W.Frag} {z : Bool} {sa : Addr} {H0 H : Hp} {acc : List V} {dacc : List PyData} {Q : VK} {p : Addr} {k a b c d e : Int} (W : Wd z sa H0 H acc dacc) (m : In2 (.ref p) (.tuple [.int a, .int b, .int c, .int d, .int e]) acc dacc) (h : Q (.bl (decide (k = a ∨ k = b ∨ k = c ∨ k = d ∨ k = e))) H) : rIn K false (.int k) (.ref p) H Q := by
  cases W.get m with
  | @tup _ xs _ n hx r =>
    cases r with | cons r0 r => cases r with | cons r1 r => cases r with | cons r2 r => cases r with | cons r3 r => cases r with | cons r4 r =>
    cases r
    cases r0
    cases r1
    cases r2
    cases r3
    cases r4
    refine ⟨p, _, rfl, .inr (SqT.of hx), rfl, rfl, ?_⟩
    have e : inV (.int k) [.int a, .int b, .int c, .int d, .int e] = decide (k = a ∨ k = b ∨ k = c ∨ k = d ∨ k = e) := by
      unfold inV
      simp [eqV, eq_comm, Bool.decide_or, Bool.beq_eq_decide_eq]
      try grind
    rw [if_neg Bool.false_ne_true, e]
    exact h
theorem c_in2 {K : PySem.W.Frag} {z : Bool} {sa : Addr} {H0 H : Hp} {acc : List V} {dacc : List PyData} {Q : VK} {p : Addr} {k a b : Int} (W : Wd z sa H0 H acc dacc) (m : In2 (.ref p) (.tuple [.int a, .int b]) acc dacc) (h : Q (.bl (decide (k = a ∨ k = b))) H) : rIn K false (.int k) (.ref p) H Q := by
  cases W.get m with
  | @tup _ xs _ n hx r =>
    cases r with | cons r0 r => cases r with | cons r1 r =>
    cases r
    cases r0
    cases r1
    refine ⟨p, _, rfl, .inr (SqT.of hx), rfl, rfl, ?_⟩
    have e : inV (.int k) [.int a, .int b] = decide (k = a ∨ k = b) := by
      unfold inV
      simp [eqV, eq_comm, Bool.decide_or, Bool.beq_eq_decide_eq]
      try grind
    rw [if_neg Bool.false_ne_true, e]
    exact h
def xpR (q : Addr × Obj) (K : PySem.W.Frag) (n : Str) (x : V) (H : Hp) (Q : VK) : Prop := ∃ (C dd : Addr) (fs : List (Str × V)) (v : V), x = .ref q.1 ∧ XObj q C (some dd) ∧ XCls K C ∧ PySem.W.findIn K (.ref C) n = some none ∧ H dd = some (.xd fs) ∧ fs.lookup n = some v ∧ Q v H
theorem w_xp {q : Addr × Obj} {K : PySem.W.Frag} {n : Str} {te : TE} {σ : L2.St} {H : Hp} {Q : VK} (h : te σ H fun x H1 => xpR q K n x H1 Q) : tXp q K n te σ H Q := h
theorem c_xp {K : PySem.W.Frag} {L : List Addr} {q : Addr × Obj} {n : Str} {z : Bool} {sa : Addr} {H0 H : Hp} {acc : List V} {dacc : List PyData} {Q : VK} {k : Nat} {d : Option Addr} {l : List (Str × PyData)} {dv : PyData} (W : Wd false sa H0 H acc dacc) (S : Cls K L) (hk : k < 37) (o : XObj q (cl L k) d) (xf : XFld sa H0 d l)
    (hm : (n, dv) ∈ l) (hn : n ∈ fNames) (h : VS dv fun v => Wd false sa H0 H (v :: acc) (dv :: dacc) → Q v H) : xpR q K n (.ref q.1) H Q := by
  obtain ⟨dd, fs, rfl, hd, hl⟩ := xf.2 fun e => by
    rw [e] at hm
    cases hm
  obtain ⟨v, e1, r⟩ := hl _ hm
  have r2 := r.same (W.same rfl)
  exact ⟨_, dd, fs, v, rfl, o, S.x k hk, S.no k hk n hn, W.same rfl _ _ hd, e1, h.of r2 (W.put r2)⟩
theorem c_isX {K : PySem.W.Frag} {L : List Addr} {q : Addr × Obj} {sa : Addr} {H0 H : Hp} {acc : List V} {dacc : List PyData} {Q : VK} {k j : Nat} {d : Option Addr} (W : Wd false sa H0 H acc dacc) (S : Cls K L) (hk : k < 37) (o : XObj q (cl L k) d) (xd : XDct H0 d) (hj : j < 36) (h : Q (.bl (decide (k = j))) H) :
    rIsP K q [.ref q.1, .ref (cl L j)] H Q :=
  ⟨_, _, _, _, d, rfl, fun u e => e, o, S.x k hk, xd.same (W.same rfl), S.is k hk j hj, h⟩
abbrev sp_fldA (L : List Addr) (a : Addr) (cls : Value) (d : Option Addr) : Sp := fun vs H Q _ => ∃ (sa : Addr) (k : Nat) (w : Str) (n : Int), vs = [.int (k : Int), .ref a] ∧ (∃ o, H sa = some o) ∧ k < 37 ∧ cls = .ref (cl L k) ∧ XFld sa H d (fldOf k w n) ∧ ∀ H' x, Same H H' → Rp sa H' x (dueK (kin k) w n) → Q x H'
abbrev sp_fld (L : List Addr) (q : Addr × Obj) : Sp := fun vs H Q E => ∃ cls d, Zc cls d q.2 ∧ (∃ us, q.2.data = .fields us) ∧ sp_fldA L q.1 cls d vs H Q E
def flg (k : Nat) : List PyData := (List.range 36).map fun j => .bool (decide (k = j))
abbrev sp_clsA (L : List Addr) (a : Addr) (cls : Value) (d : Option Addr) : Sp := fun vs H Q _ => ∃ (sa : Addr) (k : Nat), vs = [.ref a] ∧ (∃ o, H sa = some o) ∧ k < 37 ∧ cls = .ref (cl L k) ∧ XDct H d ∧ ∀ H' x, Same H H' → Rp sa H' x (.list (flg k)) → Q x H'
abbrev sp_cls (L : List Addr) (q : Addr × Obj) : Sp := fun vs H Q E => ∃ cls d, Zc cls d q.2 ∧ (∃ us, q.2.data = .fields us) ∧ sp_clsA L q.1 cls d vs H Q E
abbrev sp_due : Sp := fun vs H Q _ => ∃ (sa : Addr) (k : Nat) (w : Str) (n : Int), vs = [.int (k : Int), .str w, .int n] ∧ (∃ o, H sa = some o) ∧ k < 37 ∧ ∀ H' x, Same H H' → Rp sa H' x (dueK (kin k) w n) → Q x H'
theorem kin1 {k : Nat} (h : (k : Int) = 3 ∨ (k : Int) = 4 ∨ (k : Int) = 12 ∨ (k : Int) = 24 ∨ (k : Int) = 31) : kin k = 1 := by
  rcases (show k = 3 ∨ k = 4 ∨ k = 12 ∨ k = 24 ∨ k = 31 by omega) with rfl | rfl | rfl | rfl | rfl <;> rfl
theorem kin5 {k : Nat} (h : (k : Int) = 16 ∨ (k : Int) = 25) : kin k = 5 := by
  rcases (show k = 16 ∨ k = 25 by omega) with rfl | rfl <;> rfl
theorem kin_0 : ∀ k : Nat, k < 37 → (¬ (k = 3 ∨ k = 4 ∨ k = 12 ∨ k = 24 ∨ k = 31 ∨ k = 5 ∨ k = 6 ∨ k = 14 ∨ k = 16 ∨ k = 25 ∨ k = 33)) → kin k = 0 := by decide
local macro_rules | `(tactic| walk_at "call1") => `(tactic| first
  | with_reducible refine w_mko ?_
  | with_reducible refine w_xp ?_
  | ((with_reducible show rIn _ false _ _ _ _); first | ((with_reducible apply c_in5); (focus assumption); (focus (walk_at "in2"))) | ((with_reducible apply c_in2); (focus assumption); (focus (walk_at "in2"))))
  | ((with_reducible show rIsP _ _ _ _ _); (with_reducible apply c_isX); (focus assumption); (focus assumption); (focus assumption); (focus assumption); (focus assumption); (focus (decide))))
section
variable {P : Program} {w : World} {K : PySem.W.Frag} {mg : Str → Option Value} {base : Heap} {L : List Addr}
theorem ok_law_raise {f : Addr} {fd : FuncData} (F : Fun K "_law_raise" "_law_raise" s_law_raise f fd) (d_law_raise_early : Df P w K mg base (L2.CX P w) 3 "_law_raise_early" ["k", "word", "number"] (sp_rs L 0 18)) (d_law_raise_late : Df P w K mg base (L2.CX P w) 3 "_law_raise_late" ["k", "word", "number"] (sp_rs L 18 37)) : FnOk P w K mg base (L2.CX P w) 4 f fd ["k", "word", "number"] (sp_rs L 0 37) := by
  have sc := sc_law_raise
  refine F.okX sc (fun vs H Q E h => ?_) (fun cdv A outer s H vs Q E hr h => ?_)
  · obtain ⟨sa, k, wd, n, rfl, _⟩ := h
    rfl
  · obtain ⟨sa, k, wd, n, rfl, t, lo, hi, q⟩ := h
    refine ⟨_, (pss_cons (ps_if (pt_cmpR op_lt (pv 0) pe_int (nomark _)) (pss_one (ps_ret (pe_callS d_law_raise_early.F (hr.mono (by decide)) (by rfl) d_law_raise_early.g d_law_raise_early.kp d_law_raise_early.b (fun σ => passAt (takes_of rfl rfl rfl rfl) σ) (pa_cons (pv 0) (pa_cons (pv 1) (pa_cons (pv 2) pa_nil)))))) pss_nil)
    (pss_one (ps_ret (pe_callS d_law_raise_late.F (hr.mono (by decide)) (by rfl) d_law_raise_late.g d_law_raise_late.kp d_law_raise_late.b (fun σ => passAt (takes_of rfl rfl rfl rfl) σ) (pa_cons (pv 0) (pa_cons (pv 1) (pa_cons (pv 2) pa_nil))))))), ?_⟩
    (rw [show start ["k", "word", "number"] [.int k, .str wd, .int n] = [some (.int k), some (.str wd), some (.int n)] from rfl]; try dsimp only [cxOf])
    walk_at "w"
    refine w_ifd (fun h => ?_) (fun h => ?_)
    · walk_at "w"
      exact ⟨sa, k, wd, n, rfl, t, lo, by omega, q⟩
    · walk_at "w"
      exact ⟨sa, k, wd, n, rfl, t, by omega, hi, q⟩
theorem ok_law_due {f : Addr} {fd : FuncData} (F : Fun K "_law_due" "_law_due" s_law_due f fd) : FnOk P w K mg base CX0 1 f fd ["k", "word", "number"] sp_due := by
  have sc := sc_law_due
  refine F.ok sc (fun vs H Q E h => ?_) (fun cdv A outer s H vs Q E hr h => ?_)
  · obtain ⟨sa, k, wd, n, rfl, _⟩ := h
    rfl
  · obtain ⟨sa, k, wd, n, rfl, t, hk, q⟩ := h
    refine ⟨_, (pss_cons (ps_if (pt_cmpR op_in_seq (pv 0) (pe_tup (pa_cons pe_int (pa_cons pe_int (pa_cons pe_int (pa_cons pe_int (pa_cons pe_int pa_nil)))))) (by rfl)) (pss_one (ps_ret (pe_tup (pa_cons pe_str (pa_cons (pv 2) pa_nil))))) pss_nil)
    (pss_cons (ps_if (pt_cmpR op_eq (pv 0) pe_int (nomark _)) (pss_one (ps_ret (pe_tup (pa_cons pe_str (pa_cons (pv 1) (pa_cons (pv 2) pa_nil)))))) pss_nil)
    (pss_cons (ps_if (pt_cmpR op_eq (pv 0) pe_int (nomark _)) (pss_one (ps_ret (pe_tup (pa_cons pe_str (pa_cons (pv 2) pa_nil))))) pss_nil)
    (pss_cons (ps_if (pt_cmpR op_eq (pv 0) pe_int (nomark _)) (pss_one (ps_ret (pe_tup (pa_cons pe_str (pa_cons (pe_tup (pa_cons (pv 2) (pa_cons (pe_op op_add (pv 2) pe_int) pa_nil))) pa_nil))))) pss_nil)
    (pss_cons (ps_if (pt_cmpR op_in_seq (pv 0) (pe_tup (pa_cons pe_int (pa_cons pe_int pa_nil))) (by rfl)) (pss_one (ps_ret (pe_tup (pa_cons pe_str (pa_cons (pv 1) pa_nil))))) pss_nil)
    (pss_cons (ps_if (pt_cmpR op_eq (pv 0) pe_int (nomark _)) (pss_one (ps_ret (pe_tup (pa_cons pe_str (pa_cons (pv 2) pa_nil))))) pss_nil)
    (pss_one (ps_ret (pe_tup (pa_cons pe_str pa_nil)))))))))), ?_⟩
    (rw [show start ["k", "word", "number"] [.int k, .str wd, .int n] = [some (.int k), some (.str wd), some (.int n)] from rfl]; try dsimp only [cxOf])
    have W : Wd false sa H H [] [] := wd_start t .nil
    walk_at "w"
    refine w_ifd (fun h1 => ?_) (fun h1 => ?_)
    · walk_at "w"
      rw [kin1 h1] at q
      exact q _ _ (Wd.same (by assumption) rfl) (Wd.get (by assumption) .here)
    walk_at "w"
    refine w_ifd (fun h2 => ?_) (fun h2 => ?_)
    · obtain rfl : k = 5 := by omega
      walk_at "w"
      exact q _ _ (Wd.same (by assumption) rfl) (Wd.get (by assumption) .here)
    walk_at "w"
    refine w_ifd (fun h3 => ?_) (fun h3 => ?_)
    · obtain rfl : k = 6 := by omega
      walk_at "w"
      exact q _ _ (Wd.same (by assumption) rfl) (Wd.get (by assumption) .here)
    walk_at "w"
    refine w_ifd (fun h4 => ?_) (fun h4 => ?_)
    · obtain rfl : k = 14 := by omega
      walk_at "w"
      exact q _ _ (Wd.same (by assumption) rfl) (Wd.get (by assumption) .here)
    walk_at "w"
    refine w_ifd (fun h5 => ?_) (fun h5 => ?_)
    · walk_at "w"
      rw [kin5 h5] at q
      exact q _ _ (Wd.same (by assumption) rfl) (Wd.get (by assumption) .here)
    walk_at "w"
    refine w_ifd (fun h6 => ?_) (fun h6 => ?_)
    · obtain rfl : k = 33 := by omega
      walk_at "w"
      exact q _ _ (Wd.same (by assumption) rfl) (Wd.get (by assumption) .here)
    walk_at "w"
    rw [show kin k = 0 from kin_0 k hk (by omega)] at q
    exact q _ _ (Wd.same (by assumption) rfl) (Wd.get (by assumption) .here)
theorem ok_law_fields {f : Addr} {fd : FuncData} (F : Fun K "_law_fields" "_law_fields" s_law_fields f fd) (S : Cls K L) : FnE P w K mg base 1 f fd ["k", "e"] (sp_fld L) := by
  have sc := sc_law_fields
  refine fnE_ok F sc (fun p vs H Q E h => ?_) (fun cdv A outer s H vs Q E p hr h => ?_)
  · obtain ⟨_, _, _, _, sa, k, wd, n, rfl, _⟩ := h
    rfl
  · obtain ⟨_, d, hz, hf, sa, k, wd, n, rfl, t, hk, rfl, xf, q⟩ := h
    have hq : ∀ {N : List Str} {qual : Str} {sg : Scope} {cd : Value}, p ∈ (L2H.cxH CX0 P w K mg base N qual sg f cd A outer s H E p).pn := List.mem_cons_self
    have xo : XObj p (cl L k) d := ⟨hz, hf⟩
    refine ⟨_, (pss_cons (ps_if (pt_cmpR op_in_seq (pv 0) (pe_tup (pa_cons pe_int (pa_cons pe_int (pa_cons pe_int (pa_cons pe_int (pa_cons pe_int pa_nil)))))) (by rfl)) (pss_one (ps_ret (pe_tup (pa_cons pe_str (pa_cons (pe_xp hq (pv 1)) pa_nil))))) pss_nil)
    (pss_cons (ps_if (pt_cmpR op_eq (pv 0) pe_int (nomark _)) (pss_one (ps_ret (pe_tup (pa_cons pe_str (pa_cons (pe_xp hq (pv 1)) (pa_cons (pe_xp hq (pv 1)) pa_nil)))))) pss_nil)
    (pss_cons (ps_if (pt_cmpR op_eq (pv 0) pe_int (nomark _)) (pss_one (ps_ret (pe_tup (pa_cons pe_str (pa_cons (pe_xp hq (pv 1)) pa_nil))))) pss_nil)
    (pss_cons (ps_if (pt_cmpR op_eq (pv 0) pe_int (nomark _)) (pss_one (ps_ret (pe_tup (pa_cons pe_str (pa_cons (pe_xp hq (pv 1)) pa_nil))))) pss_nil)
    (pss_cons (ps_if (pt_cmpR op_in_seq (pv 0) (pe_tup (pa_cons pe_int (pa_cons pe_int pa_nil))) (by rfl)) (pss_one (ps_ret (pe_tup (pa_cons pe_str (pa_cons (pe_xp hq (pv 1)) pa_nil))))) pss_nil)
    (pss_cons (ps_if (pt_cmpR op_eq (pv 0) pe_int (nomark _)) (pss_one (ps_ret (pe_tup (pa_cons pe_str (pa_cons (pe_xp hq (pv 1)) pa_nil))))) pss_nil)
    (pss_one (ps_ret (pe_tup (pa_cons pe_str pa_nil)))))))))), ?_⟩
    (rw [show start ["k", "e"] [.int k, .ref p.1] = [some (.int k), some (.ref p.1)] from rfl]; try dsimp only [cxOf])
    have W : Wd false sa H H [] [] := wd_start t .nil
    walk_at "w"
    refine w_ifd (fun h1 => ?_) (fun h1 => ?_)
    · rw [show fldOf k wd n = fldK 1 wd n by show fldK (kin k) wd n = _; rw [kin1 h1]] at xf
      rw [kin1 h1] at q
      walk_at "w"
      refine c_xp (z := true) (by assumption) S hk xo xf (List.mem_cons_self) (by decide) (v_int fun W2 => ?_)
      walk_at "w"
      exact q _ _ (Wd.same (by assumption) rfl) (Wd.get (by assumption) .here)
    walk_at "w"
    refine w_ifd (fun h2 => ?_) (fun h2 => ?_)
    · obtain rfl : k = 5 := by omega
      walk_at "w"
      refine c_xp (z := true) (by assumption) S hk xo xf (List.mem_cons_of_mem _ List.mem_cons_self) (by decide) (v_str fun W2 => ?_)
      walk_at "w"
      refine c_xp (z := true) W2 S hk xo xf (List.mem_cons_self) (by decide) (v_int fun W3 => ?_)
      walk_at "w"
      exact q _ _ (Wd.same (by assumption) rfl) (Wd.get (by assumption) .here)
    walk_at "w"
    refine w_ifd (fun h3 => ?_) (fun h3 => ?_)
    · obtain rfl : k = 6 := by omega
      walk_at "w"
      refine c_xp (z := true) (by assumption) S hk xo xf (List.mem_cons_self) (by decide) (v_int fun W2 => ?_)
      walk_at "w"
      exact q _ _ (Wd.same (by assumption) rfl) (Wd.get (by assumption) .here)
    walk_at "w"
    refine w_ifd (fun h4 => ?_) (fun h4 => ?_)
    · obtain rfl : k = 14 := by omega
      walk_at "w"
      refine c_xp (z := true) (by assumption) S hk xo xf (List.mem_cons_self) (by decide) (v_tup fun p2 W2 => ?_)
      walk_at "w"
      exact q _ _ (Wd.same (by assumption) rfl) (Wd.get (by assumption) .here)
    walk_at "w"
    refine w_ifd (fun h5 => ?_) (fun h5 => ?_)
    · rw [show fldOf k wd n = fldK 5 wd n by show fldK (kin k) wd n = _; rw [kin5 h5]] at xf
      rw [kin5 h5] at q
      walk_at "w"
      refine c_xp (z := true) (by assumption) S hk xo xf (List.mem_cons_self) (by decide) (v_str fun W2 => ?_)
      walk_at "w"
      exact q _ _ (Wd.same (by assumption) rfl) (Wd.get (by assumption) .here)
    walk_at "w"
    refine w_ifd (fun h6 => ?_) (fun h6 => ?_)
    · obtain rfl : k = 33 := by omega
      walk_at "w"
      refine c_xp (z := true) (by assumption) S hk xo xf (List.mem_cons_self) (by decide) (v_int fun W2 => ?_)
      walk_at "w"
      exact q _ _ (Wd.same (by assumption) rfl) (Wd.get (by assumption) .here)
    walk_at "w"
    rw [show kin k = 0 from kin_0 k hk (by omega)] at q
    exact q _ _ (Wd.same (by assumption) rfl) (Wd.get (by assumption) .here)
end

/-! ### the same digit, told with the place of the cells -/
def sp_take2 : Sp := fun vs H Q _ => ∃ (a : Addr) (m : Int) (c : Addr), vs = [.ref a, .int m] ∧ (0 < m ∧ m.natAbs.log2 < 9000) ∧ StmC H a c ∧ ∀ H' (d : Int), But a H H' → StmC H' a c → 0 ≤ d → d < m → Q (.int d) H'
section
variable {P : Program} {w : World} {K : PySem.W.Frag} {mg : Str → Option Value} {base : Heap}
theorem ok_law_take2 {f : Addr} {fd : FuncData} (F : Fun K "_law_take" "_law_take" s_law_take f fd) (nb : Nb mg) (d_law_great : Df P w K mg base CX0 1 "_law_great" ["cells", "place"] (sp_great K)) (d_law_mixed : Df P w K mg base CX0 1 "_law_mixed" ["cell", "k"] sp_mixed) : FnOk P w K mg base CX0 2 f fd ["stream", "many"] sp_take2 := by
  have sc := sc_law_take
  refine F.ok sc (fun vs H Q E h => ?_) (fun cdv A outer s H vs Q E hr h => ?_)
  · obtain ⟨a, m, c, rfl, _⟩ := h
    rfl
  · obtain ⟨a, m, c, rfl, hm, ⟨p, g, n, ns, h1, p0, g0, h4, hl⟩, q⟩ := h
    have ca := stm_ca h1 h4
    refine ⟨_, (pss_cons (ps_asg (pe_ix ix_list (pv 0) pe_int (fun _ _ => rfl)) (pg_name (i := 2) sc.nd rfl (.inl rfl)))
    (pss_cons (ps_asg (pe_ix ix_list (pv 0) pe_int (fun _ _ => rfl)) (pg_name (i := 3) sc.nd rfl (.inl rfl)))
    (pss_cons (ps_asg (pe_op op_add (pe_ix ix_list (pv 0) pe_int (fun _ _ => rfl)) pe_int) (pg_sub (pv 0) pe_int set_list))
    (pss_cons (ps_if (pt_cmpR op_gt (pe_ix ix_list (pv 0) pe_int (fun _ _ => rfl)) pe_int (nomark _)) (pss_cons (ps_asg (pe_op op_mod (pe_callTy cq_int (by rfl) nb.int (by decide +kernel) (pa_cons (pe_ix ix_list (pv 0) pe_int (fun _ _ => rfl)) pa_nil)) (pv 1)) (pg_name (i := 4) sc.nd rfl (.inl rfl)))
    (pss_cons (ps_asg (pe_op op_fdivW (pe_ix ix_list (pv 0) pe_int (fun _ _ => rfl)) (pv 1)) (pg_sub (pv 0) pe_int set_list))
    (pss_one (ps_if (pt_cmpR op_gt (pe_ix ix_list (pv 0) pe_int (fun _ _ => rfl)) pe_int (nomark _)) (pss_one (ps_ret (pv 4))) pss_nil)))) (pss_one (ps_asg (pe_op op_mod (pe_call d_law_mixed.F (hr.mono (by decide)) (by rfl) d_law_mixed.g d_law_mixed.kp d_law_mixed.b .nil pass0 (pa_cons (pe_ix ix_list (pv 2) (pe_op op_mod (pe_callTy cq_int (by rfl) nb.int (by decide +kernel) (pa_cons (pv 3) pa_nil)) (pe_callB cq_len (by rfl) nb.len (by decide +kernel) (pa_cons (pv 2) pa_nil))) (fun _ _ => rfl)) (pa_cons (pe_ix ix_list (pv 0) pe_int (fun _ _ => rfl)) pa_nil))) (pv 1)) (pg_name (i := 4) sc.nd rfl (.inl rfl)))))
    (pss_cons (ps_asg (pe_op op_add (pv 3) pe_int) (pg_sub (pv 0) pe_int set_list))
    (pss_cons (ps_asg (pe_call d_law_great.F (hr.mono (by decide)) (by rfl) d_law_great.g d_law_great.kp d_law_great.b .nil pass0 (pa_cons (pv 2) (pa_cons (pe_op op_add (pv 3) pe_int) pa_nil))) (pg_sub (pv 0) pe_int set_list))
    (pss_one (ps_ret (pv 4))))))))), ?_⟩
    (rw [show start ["stream", "many", "cells", "place", "digit"] [.ref a, .int m] = [some (.ref a), some (.int m), none, none, none] from rfl]; try dsimp only [cxOf])
    walk_at "w"
    refine w_ifd (fun hg => ?_) (fun hg => ?_)
    · walk_at "w"
      refine w_ifd (fun h2 => ?_) (fun h2 => ?_)
      · walk_at "w"
        refine q _ _ ?_ ⟨p, g / m, n + 1, ns, upd_same, p0, by omega, ?_, hl⟩ (Int.emod_nonneg _ (by omega)) (Int.emod_lt_of_pos _ (by omega))
        · exact (But.upd.trans But.upd)
        · walk_at "heap"
      · walk_at "w"
        refine ⟨c, p + 1, ns, rfl, .inl (.inl (by walk_at "heap")), by omega, fun g2 g20 => ?_⟩
        walk_at "w"
        refine q _ _ ?_ ⟨p + 1, g2, n + 1, ns, upd_same, by omega, g20, ?_, hl⟩ (Int.emod_nonneg _ (by omega)) (Int.emod_lt_of_pos _ (by omega))
        · exact ((But.upd.trans But.upd).trans But.upd).trans But.upd
        · walk_at "heap"
    · obtain ⟨z, hz⟩ := at_ints (ns := ns) (i := p % (ns.length : Int)) (Int.emod_nonneg _ (by omega)) (Int.emod_lt_of_pos _ (by omega))
      walk_at "w"
      refine ⟨z, n + 1, rfl, fun d0 => ?_⟩
      walk_at "w"
      refine ⟨c, p + 1, ns, rfl, .inl (.inl (by walk_at "heap")), by omega, fun g2 g20 => ?_⟩
      walk_at "w"
      refine q _ _ ?_ ⟨p + 1, g2, n + 1, ns, upd_same, by omega, g20, ?_, hl⟩ (Int.emod_nonneg _ (by omega)) (Int.emod_lt_of_pos _ (by omega))
      · exact (But.upd.trans But.upd).trans But.upd
      · walk_at "heap"
end

/-! ### of which classes it is -/
section
variable {P : Program} {w : World} {K : PySem.W.Frag} {mg : Str → Option Value} {base : Heap} {L : List Addr}
theorem ok_law_classes {f : Addr} {fd : FuncData} (F : Fun K "_law_classes" "_law_classes" s_law_classes f fd) (nb : Nb mg) (S : Cls K L) (c_NoFraction : Ex0 P w K mg base "NoFraction" (cl L 0)) (c_NoPoint : Ex0 P w K mg base "NoPoint" (cl L 1)) (c_NoPlate : Ex0 P w K mg base "NoPlate" (cl L 2)) (c_BadCorners : ExF P w K mg base "BadCorners" (cl L 3) ["self", "at"] (sp_ini1 K (cl L 3) "at")) (c_BadPlates : ExF P w K mg base "BadPlates" (cl L 4) ["self", "at"] (sp_ini1 K (cl L 4) "at")) (c_BadSheet : ExF P w K mg base "BadSheet" (cl L 5) ["self", "word", "at"] (sp_ini2 K (cl L 5) "word" "at")) (c_TooMany : ExF P w K mg base "TooMany" (cl L 6) ["self", "most"] (sp_ini1 K (cl L 6) "most")) (c_NoCorner : Ex0 P w K mg base "NoCorner" (cl L 7)) (c_NoCrease : Ex0 P w K mg base "NoCrease" (cl L 8)) (c_NoNumbers : Ex0 P w K mg base "NoNumbers" (cl L 9)) (c_NoStand : Ex0 P w K mg base "NoStand" (cl L 10)) (c_BadChoice : Ex0 P w K mg base "BadChoice" (cl L 11)) (c_BadSpaces : ExF P w K mg base "BadSpaces" (cl L 12) ["self", "at"] (sp_ini1 K (cl L 12) "at")) (c_NoPlacing : Ex0 P w K mg base "NoPlacing" (cl L 13)) (c_Shut : ExF P w K mg base "Shut" (cl L 14) ["self", "crease"] (sp_ini1 K (cl L 14) "crease")) (c_NoSpot : Ex0 P w K mg base "NoSpot" (cl L 15)) (c_BadNumber : ExF P w K mg base "BadNumber" (cl L 16) ["self", "word"] (sp_ini1 K (cl L 16) "word")) (c_NoPolynomial : Ex0 P w K mg base "NoPolynomial" (cl L 17)) (c_BadLot : Ex0 P w K mg base "BadLot" (cl L 18)) (c_BadBook : Ex0 P w K mg base "BadBook" (cl L 19)) (c_BadTold : Ex0 P w K mg base "BadTold" (cl L 20)) (c_NoFit : Ex0 P w K mg base "NoFit" (cl L 21)) (c_BadPrices : Ex0 P w K mg base "BadPrices" (cl L 22)) (c_BadHeld : Ex0 P w K mg base "BadHeld" (cl L 23)) (c_NotHeld : ExF P w K mg base "NotHeld" (cl L 24) ["self", "at"] (sp_ini1 K (cl L 24) "at")) (c_BadSeam : ExF P w K mg base "BadSeam" (cl L 25) ["self", "word"] (sp_ini1 K (cl L 25) "word")) (c_BadTable : Ex0 P w K mg base "BadTable" (cl L 26)) (c_BadWish : Ex0 P w K mg base "BadWish" (cl L 27)) (c_BadLengths : Ex0 P w K mg base "BadLengths" (cl L 28)) (c_NoSlit : Ex0 P w K mg base "NoSlit" (cl L 29)) (c_NoPart : Ex0 P w K mg base "NoPart" (cl L 30)) (c_BadText : ExF P w K mg base "BadText" (cl L 31) ["self", "at"] (sp_ini1 K (cl L 31) "at")) (c_NoTree : Ex0 P w K mg base "NoTree" (cl L 32)) (c_LiesOver : ExF P w K mg base "LiesOver" (cl L 33) ["self", "number"] (sp_ini1 K (cl L 33) "number")) (c_NoUndo : Ex0 P w K mg base "NoUndo" (cl L 34)) (c_BadTries : Ex0 P w K mg base "BadTries" (cl L 35)) : FnE P w K mg base 1 f fd ["e"] (sp_cls L) := by
  have sc := sc_law_classes
  refine fnE_ok F sc (fun p vs H Q E h => ?_) (fun cdv A outer s H vs Q E p hr h => ?_)
  · obtain ⟨_, _, _, _, sa, k, rfl, _⟩ := h
    rfl
  · obtain ⟨_, d, hz, hf, sa, k, rfl, t, hk, rfl, xd, q⟩ := h
    have hq : ∀ {N : List Str} {qual : Str} {sg : Scope} {cd : Value}, p ∈ (L2H.cxH CX0 P w K mg base N qual sg f cd A outer s H E p).pn := List.mem_cons_self
    have xo : XObj p (cl L k) d := ⟨hz, hf⟩
    refine ⟨_, (pss_cons (ps_asg (pe_lst (pa_cons (pe_callB (call_isP hq) (by rfl) nb.isinstance (by decide +kernel) (pa_cons (pv 0) (pa_cons (pe_cls (by rfl) c_NoFraction.gC) pa_nil))) (pa_cons (pe_callB (call_isP hq) (by rfl) nb.isinstance (by decide +kernel) (pa_cons (pv 0) (pa_cons (pe_cls (by rfl) c_NoPoint.gC) pa_nil))) (pa_cons (pe_callB (call_isP hq) (by rfl) nb.isinstance (by decide +kernel) (pa_cons (pv 0) (pa_cons (pe_cls (by rfl) c_NoPlate.gC) pa_nil))) (pa_cons (pe_callB (call_isP hq) (by rfl) nb.isinstance (by decide +kernel) (pa_cons (pv 0) (pa_cons (pe_cls (by rfl) c_BadCorners.gC) pa_nil))) pa_nil))))) (pg_name (i := 1) sc.nd rfl (.inl rfl)))
    (pss_cons (ps_asg (pe_op op_cat (pv 1) (pe_lst (pa_cons (pe_callB (call_isP hq) (by rfl) nb.isinstance (by decide +kernel) (pa_cons (pv 0) (pa_cons (pe_cls (by rfl) c_BadPlates.gC) pa_nil))) (pa_cons (pe_callB (call_isP hq) (by rfl) nb.isinstance (by decide +kernel) (pa_cons (pv 0) (pa_cons (pe_cls (by rfl) c_BadSheet.gC) pa_nil))) (pa_cons (pe_callB (call_isP hq) (by rfl) nb.isinstance (by decide +kernel) (pa_cons (pv 0) (pa_cons (pe_cls (by rfl) c_TooMany.gC) pa_nil))) (pa_cons (pe_callB (call_isP hq) (by rfl) nb.isinstance (by decide +kernel) (pa_cons (pv 0) (pa_cons (pe_cls (by rfl) c_NoCorner.gC) pa_nil))) pa_nil)))))) (pg_name (i := 1) sc.nd rfl (.inl rfl)))
    (pss_cons (ps_asg (pe_op op_cat (pv 1) (pe_lst (pa_cons (pe_callB (call_isP hq) (by rfl) nb.isinstance (by decide +kernel) (pa_cons (pv 0) (pa_cons (pe_cls (by rfl) c_NoCrease.gC) pa_nil))) (pa_cons (pe_callB (call_isP hq) (by rfl) nb.isinstance (by decide +kernel) (pa_cons (pv 0) (pa_cons (pe_cls (by rfl) c_NoNumbers.gC) pa_nil))) (pa_cons (pe_callB (call_isP hq) (by rfl) nb.isinstance (by decide +kernel) (pa_cons (pv 0) (pa_cons (pe_cls (by rfl) c_NoStand.gC) pa_nil))) (pa_cons (pe_callB (call_isP hq) (by rfl) nb.isinstance (by decide +kernel) (pa_cons (pv 0) (pa_cons (pe_cls (by rfl) c_BadChoice.gC) pa_nil))) pa_nil)))))) (pg_name (i := 1) sc.nd rfl (.inl rfl)))
    (pss_cons (ps_asg (pe_op op_cat (pv 1) (pe_lst (pa_cons (pe_callB (call_isP hq) (by rfl) nb.isinstance (by decide +kernel) (pa_cons (pv 0) (pa_cons (pe_cls (by rfl) c_BadSpaces.gC) pa_nil))) (pa_cons (pe_callB (call_isP hq) (by rfl) nb.isinstance (by decide +kernel) (pa_cons (pv 0) (pa_cons (pe_cls (by rfl) c_NoPlacing.gC) pa_nil))) (pa_cons (pe_callB (call_isP hq) (by rfl) nb.isinstance (by decide +kernel) (pa_cons (pv 0) (pa_cons (pe_cls (by rfl) c_Shut.gC) pa_nil))) (pa_cons (pe_callB (call_isP hq) (by rfl) nb.isinstance (by decide +kernel) (pa_cons (pv 0) (pa_cons (pe_cls (by rfl) c_NoSpot.gC) pa_nil))) pa_nil)))))) (pg_name (i := 1) sc.nd rfl (.inl rfl)))
    (pss_cons (ps_asg (pe_op op_cat (pv 1) (pe_lst (pa_cons (pe_callB (call_isP hq) (by rfl) nb.isinstance (by decide +kernel) (pa_cons (pv 0) (pa_cons (pe_cls (by rfl) c_BadNumber.gC) pa_nil))) (pa_cons (pe_callB (call_isP hq) (by rfl) nb.isinstance (by decide +kernel) (pa_cons (pv 0) (pa_cons (pe_cls (by rfl) c_NoPolynomial.gC) pa_nil))) (pa_cons (pe_callB (call_isP hq) (by rfl) nb.isinstance (by decide +kernel) (pa_cons (pv 0) (pa_cons (pe_cls (by rfl) c_BadLot.gC) pa_nil))) (pa_cons (pe_callB (call_isP hq) (by rfl) nb.isinstance (by decide +kernel) (pa_cons (pv 0) (pa_cons (pe_cls (by rfl) c_BadBook.gC) pa_nil))) pa_nil)))))) (pg_name (i := 1) sc.nd rfl (.inl rfl)))
    (pss_cons (ps_asg (pe_op op_cat (pv 1) (pe_lst (pa_cons (pe_callB (call_isP hq) (by rfl) nb.isinstance (by decide +kernel) (pa_cons (pv 0) (pa_cons (pe_cls (by rfl) c_BadTold.gC) pa_nil))) (pa_cons (pe_callB (call_isP hq) (by rfl) nb.isinstance (by decide +kernel) (pa_cons (pv 0) (pa_cons (pe_cls (by rfl) c_NoFit.gC) pa_nil))) (pa_cons (pe_callB (call_isP hq) (by rfl) nb.isinstance (by decide +kernel) (pa_cons (pv 0) (pa_cons (pe_cls (by rfl) c_BadPrices.gC) pa_nil))) (pa_cons (pe_callB (call_isP hq) (by rfl) nb.isinstance (by decide +kernel) (pa_cons (pv 0) (pa_cons (pe_cls (by rfl) c_BadHeld.gC) pa_nil))) pa_nil)))))) (pg_name (i := 1) sc.nd rfl (.inl rfl)))
    (pss_cons (ps_asg (pe_op op_cat (pv 1) (pe_lst (pa_cons (pe_callB (call_isP hq) (by rfl) nb.isinstance (by decide +kernel) (pa_cons (pv 0) (pa_cons (pe_cls (by rfl) c_NotHeld.gC) pa_nil))) (pa_cons (pe_callB (call_isP hq) (by rfl) nb.isinstance (by decide +kernel) (pa_cons (pv 0) (pa_cons (pe_cls (by rfl) c_BadSeam.gC) pa_nil))) (pa_cons (pe_callB (call_isP hq) (by rfl) nb.isinstance (by decide +kernel) (pa_cons (pv 0) (pa_cons (pe_cls (by rfl) c_BadTable.gC) pa_nil))) (pa_cons (pe_callB (call_isP hq) (by rfl) nb.isinstance (by decide +kernel) (pa_cons (pv 0) (pa_cons (pe_cls (by rfl) c_BadWish.gC) pa_nil))) pa_nil)))))) (pg_name (i := 1) sc.nd rfl (.inl rfl)))
    (pss_cons (ps_asg (pe_op op_cat (pv 1) (pe_lst (pa_cons (pe_callB (call_isP hq) (by rfl) nb.isinstance (by decide +kernel) (pa_cons (pv 0) (pa_cons (pe_cls (by rfl) c_BadLengths.gC) pa_nil))) (pa_cons (pe_callB (call_isP hq) (by rfl) nb.isinstance (by decide +kernel) (pa_cons (pv 0) (pa_cons (pe_cls (by rfl) c_NoSlit.gC) pa_nil))) (pa_cons (pe_callB (call_isP hq) (by rfl) nb.isinstance (by decide +kernel) (pa_cons (pv 0) (pa_cons (pe_cls (by rfl) c_NoPart.gC) pa_nil))) (pa_cons (pe_callB (call_isP hq) (by rfl) nb.isinstance (by decide +kernel) (pa_cons (pv 0) (pa_cons (pe_cls (by rfl) c_BadText.gC) pa_nil))) pa_nil)))))) (pg_name (i := 1) sc.nd rfl (.inl rfl)))
    (pss_one (ps_ret (pe_op op_cat (pv 1) (pe_lst (pa_cons (pe_callB (call_isP hq) (by rfl) nb.isinstance (by decide +kernel) (pa_cons (pv 0) (pa_cons (pe_cls (by rfl) c_NoTree.gC) pa_nil))) (pa_cons (pe_callB (call_isP hq) (by rfl) nb.isinstance (by decide +kernel) (pa_cons (pv 0) (pa_cons (pe_cls (by rfl) c_LiesOver.gC) pa_nil))) (pa_cons (pe_callB (call_isP hq) (by rfl) nb.isinstance (by decide +kernel) (pa_cons (pv 0) (pa_cons (pe_cls (by rfl) c_NoUndo.gC) pa_nil))) (pa_cons (pe_callB (call_isP hq) (by rfl) nb.isinstance (by decide +kernel) (pa_cons (pv 0) (pa_cons (pe_cls (by rfl) c_BadTries.gC) pa_nil))) pa_nil)))))))))))))))), ?_⟩
    (rw [show start ["e", "flags"] [.ref p.1] = [some (.ref p.1), none] from rfl]; try dsimp only [cxOf])
    have W : Wd false sa H H [] [] := wd_start t .nil
    walk_at "w"
    exact q _ _ (Wd.same (by assumption) rfl) (Wd.get (by assumption) .here)
end

/-! ### raised, caught, asked -/
structure DfE (P : Program) (w : World) (K : PySem.W.Frag) (mg : Str → Option Value) (base : Heap) (k : Nat) (x : Str) (ps : List Str) (sp : Addr × Obj → Sp) where
  f : Addr
  fd : FuncData
  g : mg x = some (.ref f)
  kp : PySem.W.keepIn K (.ref f) = true
  b : Binds K fd ps []
  F : FnE P w K mg base k f fd ps sp
abbrev sp_askedE : Sp := Pf (fun ds => ∃ (k : Nat) (wd : Str) (n : Int), ds = [.int (k : Int), .str wd, .int n] ∧ k < 37 ∧ PyData.strOk wd = true) fun _ => .bool true
theorem same_updN {H H' : Hp} {l : Addr} {o : HO} (s : Same H H') (n : H l = none) : Same H (upd H' l o) := fun b ob hb => by
  by_cases e : b = l
  · subst e
    rw [n] at hb
    cases hb
  · rw [upd_ne e]
    exact s b ob hb
def MidA (sa : Addr) (H : Hp) (k : Nat) (wd : Str) (n : Int) : L2.St → Hp → Prop := fun σ' H' => ∃ x y, σ' = [some (.int (k : Int)), some (.str wd), some (.int n), some (.bl true), some x, some y, some (.bl true), none, none] ∧ Wd false sa H H' [y, x] [.list (flg k), dueK (kin k) wd n]
theorem w_callE {sp : Sp} {t : TA} {σ : L2.St} {H : Hp} {Q : VK} (h : t σ H fun vs H1 => sp vs H1 Q E0) : tCallE sp t σ H Q := h
theorem due_nd (c : Nat) (wd : Str) (n : Int) : noDict (dueK c wd n) = true := by
  unfold dueK
  split <;> rfl
theorem sok_at : PyData.strOk ("at" : Str) = true ∧ PyData.strOk ("both" : Str) = true ∧ PyData.strOk ("most" : Str) = true ∧ PyData.strOk ("crease" : Str) = true ∧ PyData.strOk ("word" : Str) = true ∧ PyData.strOk ("number" : Str) = true ∧ PyData.strOk ("none" : Str) = true := by decide +kernel
theorem due_sh (c : Nat) {wd : Str} (n : Int) (h : PyData.strOk wd = true) : SeqAt.shaped (dueK c wd n) = true := by
  obtain ⟨h1, h2, h3, h4, h5, h6, h7⟩ := sok_at
  have dp : (dueK c wd n).depth ≤ 64 := by
    unfold dueK
    split <;> simp [PyData.depth, PyData.depthAll]
  have cn : (dueK c wd n).canLay0 = true := by
    unfold dueK
    split <;> simp [PyData.canLay0, PyData.canLayAll0, h, h1, h2, h3, h4, h5, h6, h7]
  unfold SeqAt.shaped
  rw [cn, decide_eq_true dp]
  rfl
theorem due_eq (c : Nat) (wd : Str) (n : Int) : PyData.eqv (dueK c wd n) (dueK c wd n) = true := by
  unfold dueK
  split <;> simp [PyData.eqv, PyData.eqvAll]
theorem dp_bools {K : PySem.W.Frag} {H : Hp} {g : Nat → Bool} : ∀ l : List Nat, DpAll K H (l.map fun j => V.bl (g j)) (l.map fun j => PyData.bool (g j))
  | [] => .nil
  | _ :: l => .cons (.bl _) (dp_bools l)
theorem eqv_bools {f g : Nat → Bool} : ∀ l : List Nat, (∀ j ∈ l, f j = g j) → PyData.eqvAll (l.map fun j => PyData.bool (f j)) (l.map fun j => PyData.bool (g j)) = true
  | [], _ => by simp [PyData.eqvAll]
  | a :: l, h => by
    simp only [List.map_cons, PyData.eqvAll, PyData.eqv]
    rw [h a List.mem_cons_self, eqv_bools l fun j hj => h j (List.mem_cons_of_mem _ hj)]
    cases g a <;> rfl
theorem sh_bools (g : Nat → Bool) : SeqAt.shaped (.list ((List.range 36).map fun j => .bool (g j))) = true := rfl
theorem flg_nd (k : Nat) : noDict (.list (flg k)) = true := rfl
local macro_rules | `(tactic| walk_at "call1") => `(tactic| with_reducible refine w_callE ?_)
section
variable {P : Program} {w : World} {K : PySem.W.Frag} {mg : Str → Option Value} {base : Heap} {L : List Addr}
theorem ok_law_asked {f : Addr} {fd : FuncData} (F : Fun K "_law_asked" "_law_asked" s_law_asked f fd) (nb : Nb mg) (nVE : mg "ValueError" = none) (S : Cls K L) (c_FoldError : ExB K mg "FoldError" (cl L 36)) (d_law_raise : Df P w K mg base (L2.CX P w) 4 "_law_raise" ["k", "word", "number"] (sp_rs L 0 37))
    (d_law_fields : DfE P w K mg base 1 "_law_fields" ["k", "e"] (sp_fld L)) (d_law_classes : DfE P w K mg base 1 "_law_classes" ["e"] (sp_cls L)) (d_law_due : Df P w K mg base CX0 1 "_law_due" ["k", "word", "number"] sp_due) : FnOk P w K mg base CX0 5 f fd ["k", "word", "number"] sp_askedE := by
  have sc := sc_law_asked
  refine F.ok sc (fun vs H Q E h => ?_) (fun cdv A outer s H vs Q E hr h => ?_)
  · obtain ⟨sa, ds, t, r, ⟨k, wd, n, rfl, _⟩, _⟩ := h
    exact r.lens
  · obtain ⟨sa, ds, t, r, ⟨k, wd, n, rfl, hk, hw⟩, q⟩ := h
    obtain ⟨x, y, z, rfl, r0, r1, r2⟩ := rps3 r
    cases r0
    cases r1
    cases r2
    refine ⟨_, (pss_cons (ps_asg pe_bl (pg_name (i := 3) sc.nd rfl (.inl rfl)))
    (pss_cons (ps_asg pe_non (pg_name (i := 4) sc.nd rfl (.inl rfl)))
    (pss_cons (ps_asg (pe_lst pa_nil) (pg_name (i := 5) sc.nd rfl (.inl rfl)))
    (pss_cons (ps_asg pe_bl (pg_name (i := 6) sc.nd rfl (.inl rfl)))
    (Evl.pss_cut (ps_try_as (tb := fun W => (tDrop (tCallS (sp_rs L 0 37) (WE W) (tCons (tVar 0) (tCons (tVar 1) (tCons (tVar 2) tNil)))))) (ts := fun a cls d => (tSeq (tAsg (tC (.bl true)) (gName 3)) (tSeq (tAsg (tCallE (sp_fldA L a cls d) (tCons (tVar 0) (tCons (tVar 7) tNil))) (gName 4)) (tSeq (tAsg (tCallE (sp_clsA L a cls d) (tCons (tVar 7) tNil)) (gName 5)) (tAsg (tCB (rIsS K a cls d) (tCons (tVar 7) (tCons (tC (.ty "ValueError")) tNil))) (gName 6)))))) rfl rfl sc.nd (i := 7) rfl rfl ⟨rfl, by decide, .inl c_FoldError.gC⟩ takes0 (fun W pn xe tk _ => (pss_one (ps_expr (pe_callS d_law_raise.F (hr.mono (by decide)) (by rfl) d_law_raise.g d_law_raise.kp d_law_raise.b (fun σ => passAt tk σ) (pa_cons (pv 0) (pa_cons (pv 1) (pa_cons (pv 2) pa_nil))))))) (fun a oe cls d pn hz hf => (pss_cons (ps_asg pe_bl (pg_name (i := 3) sc.nd rfl (.inl rfl))) (pss_cons (ps_asg (pe_callE (k := 1) d_law_fields.F (fun vs H Q E h => ⟨cls, d, hz, hf, h⟩) ⟨((L2H.roomH_of hr).mono (show 1 ≤ 4 by decide)).dp, ((L2H.roomH_of hr).mono (show 1 ≤ 4 by decide)).un⟩ List.mem_cons_self (by rfl) d_law_fields.g d_law_fields.kp d_law_fields.b (pa_cons (pv 0) (pa_cons (pv 7) pa_nil))) (pg_name (i := 4) sc.nd rfl (.inl rfl))) (pss_cons (ps_asg (pe_callE (k := 1) d_law_classes.F (fun vs H Q E h => ⟨cls, d, hz, hf, h⟩) ⟨((L2H.roomH_of hr).mono (show 1 ≤ 4 by decide)).dp, ((L2H.roomH_of hr).mono (show 1 ≤ 4 by decide)).un⟩ List.mem_cons_self (by rfl) d_law_classes.g d_law_classes.kp d_law_classes.b (pa_cons (pv 7) pa_nil)) (pg_name (i := 5) sc.nd rfl (.inl rfl))) (pss_one (ps_asg (pe_callB (call_isS List.mem_cons_self hz hf) (by rfl) nb.isinstance (by decide +kernel) (pa_cons (pv 7) (pa_cons (pe_bltn (v := .ty "ValueError") (u := .type "ValueError") (by rfl) nVE (by decide +kernel) rfl) pa_nil))) (pg_name (i := 6) sc.nd rfl (.inl rfl)))))))))
    (pss_cons (ps_if (PW.pt (pw_or (pt_not (pt_val (pv 3))) (pw_or (pt_not (pt_val (pv 6))) (pw_or1 (pt_cmpR (op_neD hr.units) (pv 4) (pe_call d_law_due.F (hr.mono (by decide)) (by rfl) d_law_due.g d_law_due.kp d_law_due.b .nil pass0 (pa_cons (pv 0) (pa_cons (pv 1) (pa_cons (pv 2) pa_nil)))) (nomark _)))))) (pss_one (ps_ret pe_bl)) pss_nil)
    (pss_one (ps_ret (pe_cmpR (op_eqD hr.units) (pv 5) (pe_lc (own := [("at", 8)]) (g := gName 8) (tt := tYes) rfl sc.nd (pi_range1 (by rfl) nb.range (pa_cons pe_int pa_nil)) (blkOk_by (N := NN_law_asked) (sc := defScope s_law_asked) (by decide +kernel)) (fun _ _ _ _ _ => pg_name (i := 8) sc.nd rfl (Or.inl rfl)) (fun _ _ _ _ _ => pts_nil) (fun _ _ _ _ _ => (pe_cmpR op_eq (pv 8) (pv 0) (nomark _)))) (nomark _)))))))))), ?_⟩
    (rw [show start ["k", "word", "number", "caught", "told", "flags", "is_value", "e", "at"] [.int k, .str wd, .int n] = [some (.int k), some (.str wd), some (.int n), none, none, none, none, none, none] from rfl]; try dsimp only [cxOf])
    have W : Wd false sa H H [] [] := wd_start t .nil
    walk_at "w"
    rename_i H1 p1 W1
    refine ⟨MidA sa H k wd n, ?_, ?_⟩
    · walk_at "w"
      refine ⟨sa, k, wd, n, rfl, W1.tr, Nat.zero_le _, hk, fun H2 d sm xf => ?_⟩
      have W2 := W1.go sm
      refine ⟨true, S.ex k hk, fun _ a na => ?_, fun z => (nomatch z)⟩
      walk_at "w"
      refine ⟨sa, k, wd, n, rfl, W2.tr, hk, rfl, xf, fun H3 x3 s3 r3 => ?_⟩
      have W3 := (W2.go s3).put r3
      walk_at "w"
      refine ⟨sa, k, rfl, W3.tr, hk, rfl, (xf.same s3).dct, fun H4 x4 s4 r4 => ?_⟩
      have W4 := (W3.go s4).put r4
      walk_at "w"
      refine ⟨.ty "ValueError", .type "ValueError", true, cl L k, rfl, fun u e => e, rfl, S.x k hk, ((xf.same s3).same s4).dct, S.ve k hk, ?_⟩
      walk_at "w"
      exact ⟨x3, x4, rfl, W4.sub (.cons (W4.get .here) (.cons (W4.get (.there .here)) .nil))⟩
    · rintro σ' H2 ⟨x, y, rfl, W2⟩
      walk_at "w"
      refine ⟨sa, k, wd, n, rfl, W2.tr, hk, fun H3 z s3 rz => ?_⟩
      have W3 := W2.go s3
      refine ⟨_, _, (W3.get (.there .here)).dp (due_nd _ _ _), rz.dp (due_nd _ _ _), due_sh _ _ hw, due_sh _ _ hw, ?_⟩
      rw [due_eq]
      walk_at "w"
      refine ⟨36, rfl, by decide, by decide, fun D nD => ?_⟩
      refine lc_range (lo := 0) (n := 36) (fun i H' => Same H3 H' ∧ H' D = some (.lst ((List.range i).map fun (j : Nat) => V.bl (eqB (j : Int) (k : Int))))) ⟨same_new nD, upd_same⟩ (fun i H' hi hP => ?_) (fun H' hP => ?_)
      · refine ⟨rfl, lcYes ?_⟩
        show tOp rEq (tVar 8) (tVar 0) [some (.int (k : Int)), some (.str wd), some (.int n), some (.bl true), some x, some y, some (.bl true), none, some (.int (0 + (i : Int)))] H' _
        walk_at "w"
        refine ⟨_, hP.2, small1000 (by simp; omega), same_updN hP.1 nD, ?_⟩
        rw [upd_same, List.range_succ, List.map_append, Int.zero_add]
        rfl
      · obtain ⟨s5, e5⟩ := hP
        have W5 := W3.go s5
        refine ⟨.list (flg k), .list ((List.range 36).map fun (j : Nat) => PyData.bool (eqB (j : Int) (k : Int))), (W5.get .here).dp (flg_nd k), .lst (SqL.of e5) (dp_bools _), sh_bools _, sh_bools _, ?_⟩
        rw [show PyData.eqv (.list (flg k)) (.list ((List.range 36).map fun (j : Nat) => PyData.bool (eqB (j : Int) (k : Int)))) = true from by
          rw [PyData.eqv]
          exact eqv_bools _ fun j _ => by
            by_cases h : k = j
            · rw [decide_eq_true h, eqT (by omega)]
            · rw [decide_eq_false h, eqF (by omega)]]
        exact q _ _ (W5.same rfl) (.bl true)
end

/-! ### what the written part says of the classes -/
def xcB (K : PySem.W.Frag) (C : Addr) : Bool := xfB K C && ((PySem.W.clsIn K C).isSome && (decide (PySem.W.findIn K (.ref C) "__class__" = some (some (.builtin "object.__class__"))) && (decide (PySem.W.specialIn K (.builtin "object.__class__") "__get__" = some (some (.builtin "getset_descriptor.__get__"))) && (decide (PySem.W.takesIn K (.builtin "object.__class__") = some true) && decide (PySem.W.mroIn K C (.type "object") = some true)))))
theorem xcB_ok {K : PySem.W.Frag} {C : Addr} (h : xcB K C = true) : XCls K C := by
  unfold xcB at h
  simp only [Bool.and_eq_true, decide_eq_true_eq] at h
  exact ⟨xfB_ok h.1, h.2.1, h.2.2.1, h.2.2.2.1, h.2.2.2.2.1, h.2.2.2.2.2⟩
def chkB (K : PySem.W.Frag) (L : List Addr) (k : Nat) : Bool := xcB K (cl L k) && (fNames.all (fun f => decide (PySem.W.findIn K (.ref (cl L k)) f = some none)) && ((List.range 36).all (fun j => decide (PySem.W.kitOne K (.ref (cl L k)) (.ref (cl L j)) = some (decide (k = j)))) &&
  (decide (PySem.W.kitOne K (.ref (cl L k)) (.type "ValueError") = some true) && decide (PySem.W.exmOne K (.ref (cl L k)) (.ref (cl L 36)) = some true))))
theorem cls_of {K : PySem.W.Frag} {L : List Addr} (h : (List.range 37).all (chkB K L) = true) : Cls K L := by
  have z : ∀ k, k < 37 → chkB K L k = true := fun k hk => List.all_eq_true.mp h k (List.mem_range.mpr hk)
  have y : ∀ k, k < 37 → xcB K (cl L k) = true ∧ (∀ f ∈ fNames, PySem.W.findIn K (.ref (cl L k)) f = some none) ∧ (∀ j, j < 36 → PySem.W.kitOne K (.ref (cl L k)) (.ref (cl L j)) = some (decide (k = j))) ∧ PySem.W.kitOne K (.ref (cl L k)) (.type "ValueError") = some true ∧ PySem.W.exmOne K (.ref (cl L k)) (.ref (cl L 36)) = some true := fun k hk => by
    have := z k hk
    unfold chkB at this
    simp only [Bool.and_eq_true, decide_eq_true_eq, List.all_eq_true, List.mem_range] at this
    exact ⟨this.1, this.2.1, this.2.2.1, this.2.2.2.1, this.2.2.2.2⟩
  exact ⟨fun k hk => xcB_ok (y k hk).1, fun k hk => (y k hk).2.1, fun k hk => (y k hk).2.2.1, fun k hk => (y k hk).2.2.2.1, fun k hk => (y k hk).2.2.2.2⟩

/-! ### the law itself -/
theorem StmC.stm {H : Hp} {a c : Addr} (s : StmC H a c) : Stm H a := let ⟨p, g, n, ns, h1, h2, h3, h4, h5⟩ := s; ⟨c, p, g, n, ns, h1, h2, h3, h4, h5⟩
theorem Stm.cs {H : Hp} {a : Addr} (s : Stm H a) : ∃ c, StmC H a c := let ⟨c, p, g, n, ns, h1, h2, h3, h4, h5⟩ := s; ⟨c, p, g, n, ns, h1, h2, h3, h4, h5⟩
theorem StmC.cell {H : Hp} {a c : Addr} (s : StmC H a c) : ∃ o, H c = some o := let ⟨_, _, _, _, _, _, _, h4, _⟩ := s; ⟨_, h4⟩
theorem StmC.put {H : Hp} {a c D : Addr} {o : HO} (s : StmC H a c) (h1 : D ≠ a) (h2 : D ≠ c) : StmC (upd H D o) a c := by
  obtain ⟨p, g, n, ns, e1, e2, e3, e4, e5⟩ := s
  exact ⟨p, g, n, ns, by rw [upd_ne (Ne.symm h1)]; exact e1, e2, e3, by rw [upd_ne (Ne.symm h2)]; exact e4, e5⟩
theorem c_tk2 {sa : Addr} {H0 H : Hp} {acc : List V} {dacc : List PyData} {m : Int} {Q : VK} {E : XK} (W : Wd true sa H0 H acc dacc) (hm : 0 < m) (hl : m.natAbs.log2 < 9000) (h : ∀ H' (d : Int), Wd true sa H0 H' acc dacc → 0 ≤ d → d < m → Q (.int d) H') : sp_take2 [.ref sa, .int m] H Q E := by
  obtain ⟨c, s⟩ := (W.st rfl).cs
  exact ⟨sa, m, c, rfl, ⟨hm, hl⟩, s, fun H' d bb s' d0 d1 => h H' d (W.draw bb s'.stm) d0 d1⟩
theorem lc_I {sa c : Addr} {H : Hp} {j n : Nat} {te : TE} {vs : List Nat} {σ : L2.St} {Q : VK} {m : Int} (st : StmC H sa c) (hn : n ≤ 900) (hw : ∀ x, wipe ((wipe σ vs).set j (some x)) vs = wipe σ vs)
    (hs : ∀ (i : Nat) H' Q', i < n → But sa H H' → StmC H' sa c → (∀ (d : Int) H4, But sa H' H4 → StmC H4 sa c → 0 ≤ d → d < m → Q' (.int d) H4) → te ((wipe σ vs).set j (some (.int (0 + (i : Int))))) H' Q')
    (hd : ∀ H' D (ds : List Int), H D = none → But sa H H' → StmC H' sa c → D ≠ sa → H' D = some (.lst (ds.map V.int)) → ds.length = n → (∀ d ∈ ds, 0 ≤ d ∧ d < m) → Q (.ref D) H') : tLc (fun _ H' R => R (Itr 0 n) H') (gName j) tYes te vs σ H Q := by
  intro D nD
  have nsa : D ≠ sa := st.stm.ne nD
  have nc : D ≠ c := fun e => by
    obtain ⟨o, eo⟩ := st.cell
    rw [← e, nD] at eo
    cases eo
  refine lc_range (lo := 0) (n := n) (fun i H' => But sa H H' ∧ StmC H' sa c ∧ ∃ ds : List Int, H' D = some (.lst (ds.map V.int)) ∧ ds.length = i ∧ ∀ d ∈ ds, 0 ≤ d ∧ d < m) ?_ (fun i H' hi hP => ?_) (fun H' hP => ?_)
  · exact ⟨(But.refl sa H).put nD, st.put nsa nc, [], upd_same, rfl, fun d hd => absurd hd (by simp)⟩
  · obtain ⟨bb, s, ds, h1, h2, h3⟩ := hP
    refine ⟨hw _, lcYes ?_⟩
    refine hs i H' _ hi bb s fun d H4 b4 s4 d0 d1 => ?_
    refine ⟨_, b4 _ _ nsa h1, by rw [List.length_map, h2]; exact small1000 (by omega), (bb.trans b4).put nD, s4.put nsa nc, ds ++ [d], by rw [upd_same, List.map_append]; rfl, by rw [List.length_append, h2]; rfl, fun x hx => ?_⟩
    rcases List.mem_append.mp hx with hx | hx
    · exact h3 x hx
    · rw [List.mem_singleton.mp hx]
      exact ⟨d0, d1⟩
  · obtain ⟨bb, s, ds, h1, h2, h3⟩ := hP
    exact hd H' D ds nD bb s nsa h1 h2 h3
theorem w_lc {wi : TI} {g : TG} {tt : TT} {te : TE} {vs : List Nat} {σ : L2.St} {H : Hp} {Q : VK} (h : wi σ H fun J H1 => tLc (fun _ H' R => R J H') g tt te vs σ H1 Q) : tLc wi g tt te vs σ H Q := h
theorem w_ilst {K : PySem.W.Frag} {tl : TE} {σ : L2.St} {H : Hp} {R : It → Hp → Prop} (h : tl σ H fun x H1 => ∃ a, x = .ref a ∧ (∃ xs, SqL K H1 a xs) ∧ R (Itl K a) H1) : iList K tl σ H R := h
theorem w_sl {r : V → Option Int → Option Int → Hp → VK → Prop} {te : TE} {tl th : TO} {σ : L2.St} {H : Hp} {Q : VK} (h : te σ H fun x H1 => tl σ H1 fun l H2 => th σ H2 fun u H3 => r x l u H3 Q) : tSl r te tl th σ H Q := h
theorem alph {d : Int} (h0 : 0 ≤ d) (h1 : d < 26) : ∃ c, atI ("abcdefghijklmnopqrstuvwxyz" : Str).cps.toList d = some c ∧ c < 0x110000 := by
  obtain ⟨j, rfl⟩ := Int.eq_ofNat_of_zero_le h0
  have z := (show ∀ j : Fin 26, (match atI ("abcdefghijklmnopqrstuvwxyz" : Str).cps.toList (j.1 : Int) with | some c => decide (c < 0x110000) | none => false) = true from by decide +kernel) ⟨j, by omega⟩
  cases e : atI ("abcdefghijklmnopqrstuvwxyz" : Str).cps.toList (j : Int) with
  | none =>
    simp only [e] at z
    cases z
  | some c =>
    simp only [e] at z
    exact ⟨c, rfl, of_decide_eq_true z⟩
theorem ok_fold {z : Str} (hz : PyData.strOk z = true) : ∀ (l : List Str) (acc : Array Nat), acc.all (· < 0x110000) = true → (∀ y ∈ l, PyData.strOk y = true) → (l.foldl (fun acc p => acc ++ z.cps ++ p.cps) acc).all (· < 0x110000) = true
  | [], acc, h, _ => h
  | y :: l, acc, h, hl => ok_fold hz l _ (by
      rw [Array.all_append, Array.all_append, h, show z.cps.all _ = true from hz, show y.cps.all _ = true from hl y List.mem_cons_self]
      rfl) fun x hx => hl x (List.mem_cons_of_mem _ hx)
theorem ok_join {z : Str} (hz : PyData.strOk z = true) {ys : List Str} (h : ∀ y ∈ ys, PyData.strOk y = true) : PyData.strOk (Txt.join z ys) = true := by
  show (Builtin.Str.glued z ys).cps.all _ = true
  unfold Builtin.Str.glued
  cases ys with
  | nil => exact (show (#[] : Array Nat).all _ = true from by simp)
  | cons y l => exact ok_fold hz l _ (h y List.mem_cons_self) fun x hx => h x (List.mem_cons_of_mem _ hx)
theorem sum_ones : ∀ {ys : List Str}, (∀ y ∈ ys, y.length = 1) → (ys.map (·.length)).sum = ys.length
  | [], _ => rfl
  | y :: l, h => by
    rw [List.map_cons, List.sum_cons, h y List.mem_cons_self, sum_ones fun x hx => h x (List.mem_cons_of_mem _ hx), List.length_cons, Nat.add_comm]
theorem cut_ints (ns : List Int) (lo hi : Option Int) : ∃ ms : List Int, cutV (ns.map V.int) lo hi = ms.map V.int ∧ ms.length ≤ ns.length := by
  unfold cutV
  rw [← List.map_drop, ← List.map_take]
  exact ⟨_, rfl, by rw [List.length_take, List.length_drop]; omega⟩
local macro_rules | `(tactic| walk_at "call1") => `(tactic| first
  | with_reducible refine w_sl ?_
  | with_reducible refine w_ilst ?_
  | ((with_reducible show sp_take2 _ _ _ _); (with_reducible apply c_tk2); (focus assumption); (focus (first | decide | omega)); (focus (first | decide | decide +kernel)); intro _ _ _ _ _))
section
variable {P : Program} {w : World} {K : PySem.W.Frag} {mg : Str → Option Value} {base : Heap}
theorem ok_law {f : Addr} {fd : FuncData} (F : Fun K "law" "law" s_law f fd) (nb : Nb mg) (d_law_stream : Df P w K mg base CX0 2 "_law_stream" ["script"] (sp_stream K)) (d_law_take : Df P w K mg base CX0 2 "_law_take" ["stream", "many"] sp_take2) (d_law_whole : Df P w K mg base CX0 3 "_law_whole" ["stream"] sp_whole)
    (d_law_asked : Df P w K mg base CX0 5 "_law_asked" ["k", "word", "number"] sp_askedE) : FnOk P w K mg base CX0 6 f fd ["script"] (sp_law K) := by
  have sc := sc_law
  refine F.ok sc (fun vs H Q E h => ?_) (fun cdv A outer s H vs Q E hr h => ?_)
  · obtain ⟨a, ns, rfl, _⟩ := h
    rfl
  · obtain ⟨c, ns, rfl, hS, hlen, q⟩ := h
    refine ⟨_, (pss_cons (ps_asg (pe_call d_law_stream.F (hr.mono (by decide)) (by rfl) d_law_stream.g d_law_stream.kp d_law_stream.b .nil pass0 (pa_cons (pv 0) pa_nil)) (pg_name (i := 1) sc.nd rfl (.inr rfl)))
    (pss_cons (ps_for PassesOwn.never rfl (pi_list (pe_op op_cat (pe_lst (pa_cons pe_int pa_nil)) (pe_slice sl_list (pv 0) po_none (po_some pe_int)))) (pg_name (i := 2) sc.nd rfl (.inl rfl)) (pss_cons (ps_asg (pe_op op_mod (pe_callTy cq_int (by rfl) nb.int (by decide +kernel) (pa_cons (pe_op op_add (pe_call d_law_take.F (hr.mono (by decide)) (by rfl) d_law_take.g d_law_take.kp d_law_take.b .nil pass0 (pa_cons (pv 1) (pa_cons pe_int pa_nil))) (pv 2)) pa_nil)) pe_int) (pg_name (i := 3) sc.nd rfl (.inl rfl)))
    (pss_cons (ps_asg (pe_call d_law_whole.F (hr.mono (by decide)) (by rfl) d_law_whole.g d_law_whole.kp d_law_whole.b .nil pass0 (pa_cons (pv 1) pa_nil)) (pg_name (i := 4) sc.nd rfl (.inl rfl)))
    (pss_cons (ps_setLc (i := 5) (own := [("at", 7)]) (g := gName 7) (tt := tYes) rfl sc.nd rfl rfl (sw_true rfl rfl rfl (by decide +kernel)) (pi_range1 (by rfl) nb.range (pa_cons (pe_op op_add pe_int (pe_call d_law_take.F (hr.mono (by decide)) (by rfl) d_law_take.g d_law_take.kp d_law_take.b .nil pass0 (pa_cons (pv 1) (pa_cons pe_int pa_nil)))) pa_nil)) (blkOk_by (N := NN_law) (sc := defScope s_law) (by decide +kernel)) (fun _ _ _ _ _ => pg_name (i := 7) sc.nd rfl (Or.inl rfl)) (fun _ _ _ _ _ => pts_nil) (fun _ _ _ _ _ => (pe_call d_law_take.F (hr.mono (by decide)) (by rfl) d_law_take.g d_law_take.kp d_law_take.b .nil pass0 (pa_cons (pv 1) (pa_cons pe_int pa_nil)))))
    (pss_cons (ps_asg (pe_join pe_str (pe_lc (own := [("at", 7)]) (g := gName 7) (tt := tYes) rfl sc.nd (pi_list (pv 5)) (blkOk_by (N := NN_law) (sc := defScope s_law) (by decide +kernel)) (fun _ _ _ _ _ => pg_name (i := 7) sc.nd rfl (Or.inl rfl)) (fun _ _ _ _ _ => pts_nil) (fun _ _ _ _ _ => (pe_ix ix_str pe_str (pv 7) (fun _ _ => rfl))))) (pg_name (i := 6) sc.nd rfl (.inl rfl)))
    (pss_one (ps_if (pt_not (pt_val (pe_call d_law_asked.F (hr.mono (by decide)) (by rfl) d_law_asked.g d_law_asked.kp d_law_asked.b .nil pass0 (pa_cons (pv 3) (pa_cons (pv 6) (pa_cons (pv 4) pa_nil)))))) (pss_one (ps_ret pe_bl)) pss_nil)))))))
    (pss_one (ps_ret pe_bl)))), ?_⟩
    (rw [show start ["script", "stream", "cell", "k", "number", "letters", "word", "at"] [.ref c] = [some (.ref c), none, none, none, none, none, none, none] from rfl]; try dsimp only [cxOf])
    walk_at "w"
    refine ⟨c, ns, rfl, hS, fun H1 a s1 na st => ?_⟩
    have hS1 : SqL K H1 c (ns.map V.int) := s1.seq hS
    have W1 : Wd true a H1 H1 [] [] := wd_startS st .nil
    walk_at "w"
    rename_i H2 p1 W2
    refine ⟨40, rfl, c, ns.map V.int, rfl, sq_but W2.but st hS1, fun p2 n2 => ?_⟩
    obtain ⟨ms, em, lm⟩ := cut_ints ns none (some 40)
    rw [em]
    have hp1 : H2 p1 = some (.lst [.int 0]) := by
      cases W2.get .here with
      | @lst _ xs _ n hx r =>
        cases r with | cons r0 r =>
        cases r
        cases r0
        exact hx
    have s3 : Same H2 (upd H2 p2 (.lst (ms.map V.int))) := same_new n2
    refine ⟨p1, p2, [.int 0], ms.map V.int, rfl, rfl, s3 _ _ hp1, upd_same, by rw [List.length_map]; exact Nat.le_of_lt (small1000 (by show 1 + ms.length ≤ 1000; omega)), fun p3 n3 => ?_⟩
    have s4 : Same (upd H2 p2 (.lst (ms.map V.int))) (upd (upd H2 p2 (.lst (ms.map V.int))) p3 (.lst ([.int 0] ++ ms.map V.int))) := same_new n3
    have W4 := W2.go (s3.trans s4)
    have e4 : (upd (upd H2 p2 (.lst (ms.map V.int))) p3 (.lst ([.int 0] ++ ms.map V.int))) p3 = some (.lst (((0 : Int) :: ms).map V.int)) := upd_same
    have n4 : p3 ≠ a := (W2.go s3).ne n3
    generalize (upd (upd H2 p2 (.lst (ms.map V.int))) p3 (.lst ([.int 0] ++ ms.map V.int))) = H4 at W4 e4
    refine ⟨p3, rfl, ⟨_, SqL.of e4⟩, ?_⟩
    refine lp_list (xs := ((0 : Int) :: ms).map V.int) (fun _ σ' H' => ∃ u2 u3 u4 u5 u6 u7, σ' = [some (.ref c), some (.ref a), u2, u3, u4, u5, u6, u7] ∧ Stm H' a ∧ But a H4 H') ⟨_, _, _, _, _, _, rfl, W4.st rfl, But.refl a H4⟩ (fun i σ' H' hi hP => ?_) (fun i x σ' H5 hx hP => ?_) (fun σ' H5 hP => ?_)
    · obtain ⟨u2, u3, u4, u5, u6, u7, _, _, bb⟩ := hP
      exact SqL.of (bb _ _ n4 e4)
    · obtain ⟨u2, u3, u4, u5, u6, u7, rfl, st5, b5⟩ := hP
      obtain ⟨z, rfl⟩ : ∃ z, x = .int z := by
        rw [List.getElem?_map] at hx
        cases e : ((0 : Int) :: ms)[i]? with
        | none => rw [e] at hx; cases hx
        | some z => rw [e] at hx; cases hx; exact ⟨z, rfl⟩
      have W5 := wd_startS st5 .nil
      walk_at "w"
      rename_i H6 d W6 d0 d1 H7 n W7 hn
      refine w_lc ?_
      walk_at "w"
      rename_i H8 e W8 e0 e1
      obtain ⟨cc, sC⟩ := (W8.st rfl).cs
      refine lc_I (n := (1 + e).toNat) (m := 26) sC (by omega) (fun x => rfl) (fun i H9 Q' hi b9 s9 hq => ?_) (fun H9 D ds nD b9 s9 ng e9 hl hds => ?_)
      · show tCall sp_take2 [] E0 (tCons (tVar 1) (tCons (tC (.int 26)) tNil)) [some (.ref c), some (.ref a), some (.int z), some (.int ((d + z) % 37)), some (.int n), u5, u6, some (.int (0 + (i : Int)))] H9 Q'
        walk_at "w"
        exact ⟨a, 26, cc, rfl, ⟨by decide, by decide +kernel⟩, s9, fun H' d' bb s' d0 d1 => hq d' H' bb s' d0 d1⟩
      · have W9 := W8.draw b9 s9.stm
        walk_at "w"
        refine ⟨⟨_, rfl⟩, ?_⟩
        refine w_lc ?_
        walk_at "w"
        refine ⟨D, rfl, ⟨_, SqL.of e9⟩, fun D2 nD2 => ?_⟩
        have hle : ds.length ≤ 12 := by omega
        refine lc_list (a := D) (xs := ds.map V.int) (fun i H' => Same H9 H' ∧ ∃ ys : List Str, H' D2 = some (.lst (ys.map V.str)) ∧ ys.length = i ∧ ∀ y ∈ ys, PyData.strOk y = true ∧ y.length = 1) ⟨same_new nD2, [], upd_same, rfl, fun y hy => absurd hy (by simp)⟩ (fun i H' hi hP => SqL.of (hP.1 _ _ e9)) (fun i x H' hx hP => ?_) (fun H' hP => ?_)
        · obtain ⟨s10, ys, e10, l10, ok10⟩ := hP
          obtain ⟨x0, hx0, rfl⟩ : ∃ x0 ∈ ds, x = .int x0 := by
            rw [List.getElem?_map] at hx
            cases e : ds[i]? with
            | none => rw [e] at hx; cases hx
            | some z => rw [e] at hx; cases hx; exact ⟨z, List.mem_of_getElem? e, rfl⟩
          have hi : i < ds.length := by
            have := (List.getElem?_eq_some_iff.mp hx).1
            rwa [List.length_map] at this
          obtain ⟨ch, h1, h2⟩ := alph (hds x0 hx0).1 (hds x0 hx0).2
          refine ⟨rfl, lcYes ?_⟩
          show tOp rIxS (tC (.str "abcdefghijklmnopqrstuvwxyz")) (tVar 7) [some (.ref c), some (.ref a), some (.int z), some (.int ((d + z) % 37)), some (.int n), some (.ref D), u6, some (.int x0)] H' _
          walk_at "w"
          refine ⟨_, x0, ch, rfl, rfl, Nat.le_of_lt (small1000 (by decide +kernel)), h1, ?_⟩
          refine ⟨_, e10, by rw [List.length_map, l10]; exact small1000 (by omega), same_updN s10 nD2, ys ++ [⟨#[ch]⟩], by rw [upd_same, List.map_append]; rfl, by rw [List.length_append, l10]; rfl, fun y hy => ?_⟩
          rcases List.mem_append.mp hy with hy | hy
          · exact ok10 y hy
          · rw [List.mem_singleton.mp hy]
            exact ⟨by show (#[ch] : Array Nat).all _ = true; simp; exact h2, rfl⟩
        · obtain ⟨s10, ys, e10, l10, ok10⟩ := hP
          rw [List.length_map] at l10
          have W10 := W9.go s10
          refine ⟨_, D2, ys, rfl, rfl, .inl (SqL.of e10), ?_, ?_⟩
          · rw [sum_ones fun y hy => (ok10 y hy).2, l10, show (Str.ofString "").length = 0 from by decide +kernel]
            omega
          have okw := ok_join (z := Str.ofString "") (by decide +kernel) fun y hy => (ok10 y hy).1
          generalize Txt.join (Str.ofString "") ys = wd at okw
          obtain ⟨kn, hkn⟩ := Int.eq_ofNat_of_zero_le (Int.emod_nonneg (d + z) (show (37 : Int) ≠ 0 by decide))
          have hk37 : kn < 37 := by
            have := Int.emod_lt_of_pos (d + z) (show (0 : Int) < 37 by decide)
            omega
          walk_at "w"
          refine call_P (ds := [.int ((d + z) % 37), .str wd, .int n]) W10 (.cons (.int _) (.cons (.str _) (.cons (.int _) .nil))) ⟨kn, wd, n, by rw [hkn], hk37, okw⟩ fun H11 => v_bl fun W11 => ?_
          walk_at "w"
          exact ⟨_, _, _, _, _, _, rfl, W11.st rfl, b5.trans W11.but⟩
    · obtain ⟨u2, u3, u4, u5, u6, u7, rfl, _⟩ := hP
      walk_at "w"
      exact q _
end

abbrev i0_NoFraction : Stmt := inClass (topS 2) 0
theorem sci_NoFraction : FnScope ["self"] ["self"] (defScope i0_NoFraction) := ⟨rfl, rfl, rfl, by decide +kernel, rfl, by decide +kernel, by decide +kernel⟩
theorem okinit_NoFraction {P : Program} {w : World} {K : PySem.W.Frag} {mg : Str → Option Value} {base : Heap} {f : Addr} {fd : FuncData} (F : Fun K "__init__" "NoFraction.__init__" i0_NoFraction f fd) : FnOk P w K mg base CX0 1 f fd ["self"] spPass := by
  refine F.ok sci_NoFraction (fun vs H Q E h => ?_) (fun cdv A outer s H vs Q E hr h => ?_)
  · obtain ⟨⟨v, rfl⟩, _⟩ := h
    rfl
  · obtain ⟨⟨v, rfl⟩, q⟩ := h
    exact ⟨_, pss_one ps_pass, q⟩
abbrev i0_NoPoint : Stmt := inClass (topS 3) 0
theorem sci_NoPoint : FnScope ["self"] ["self"] (defScope i0_NoPoint) := ⟨rfl, rfl, rfl, by decide +kernel, rfl, by decide +kernel, by decide +kernel⟩
theorem okinit_NoPoint {P : Program} {w : World} {K : PySem.W.Frag} {mg : Str → Option Value} {base : Heap} {f : Addr} {fd : FuncData} (F : Fun K "__init__" "NoPoint.__init__" i0_NoPoint f fd) : FnOk P w K mg base CX0 1 f fd ["self"] spPass := by
  refine F.ok sci_NoPoint (fun vs H Q E h => ?_) (fun cdv A outer s H vs Q E hr h => ?_)
  · obtain ⟨⟨v, rfl⟩, _⟩ := h
    rfl
  · obtain ⟨⟨v, rfl⟩, q⟩ := h
    exact ⟨_, pss_one ps_pass, q⟩
abbrev i0_NoPlate : Stmt := inClass (topS 4) 0
theorem sci_NoPlate : FnScope ["self"] ["self"] (defScope i0_NoPlate) := ⟨rfl, rfl, rfl, by decide +kernel, rfl, by decide +kernel, by decide +kernel⟩
theorem okinit_NoPlate {P : Program} {w : World} {K : PySem.W.Frag} {mg : Str → Option Value} {base : Heap} {f : Addr} {fd : FuncData} (F : Fun K "__init__" "NoPlate.__init__" i0_NoPlate f fd) : FnOk P w K mg base CX0 1 f fd ["self"] spPass := by
  refine F.ok sci_NoPlate (fun vs H Q E h => ?_) (fun cdv A outer s H vs Q E hr h => ?_)
  · obtain ⟨⟨v, rfl⟩, _⟩ := h
    rfl
  · obtain ⟨⟨v, rfl⟩, q⟩ := h
    exact ⟨_, pss_one ps_pass, q⟩
abbrev i0_BadCorners : Stmt := inClass (topS 5) 0
theorem sci_BadCorners : FnScope ["self", "at"] ["self", "at"] (defScope i0_BadCorners) := ⟨rfl, rfl, rfl, by decide +kernel, rfl, by decide +kernel, by decide +kernel⟩
theorem okinit_BadCorners {P : Program} {w : World} {K : PySem.W.Frag} {mg : Str → Option Value} {base : Heap} {C f : Addr} {fd : FuncData} (F : Fun K "__init__" "BadCorners.__init__" i0_BadCorners f fd) : FnOk P w K mg base CX0 1 f fd ["self", "at"] (sp_ini1 K C "at") := by
  refine F.ok sci_BadCorners (fun vs H Q E h => ?_) (fun cdv A outer s H vs Q E hr h => ?_)
  · obtain ⟨a, v, rfl, _⟩ := h
    rfl
  · obtain ⟨a, v, rfl, T, no, e, q⟩ := h
    exact ⟨_, pss_one (ps_ost (pv 0) (pv 1)), ⟨v, rfl, .ref a, rfl, a, C, rfl, T, no, .inl ⟨e, fun dx n1 n2 => q dx n1 n2⟩⟩⟩
abbrev i0_BadPlates : Stmt := inClass (topS 6) 0
theorem sci_BadPlates : FnScope ["self", "at"] ["self", "at"] (defScope i0_BadPlates) := ⟨rfl, rfl, rfl, by decide +kernel, rfl, by decide +kernel, by decide +kernel⟩
theorem okinit_BadPlates {P : Program} {w : World} {K : PySem.W.Frag} {mg : Str → Option Value} {base : Heap} {C f : Addr} {fd : FuncData} (F : Fun K "__init__" "BadPlates.__init__" i0_BadPlates f fd) : FnOk P w K mg base CX0 1 f fd ["self", "at"] (sp_ini1 K C "at") := by
  refine F.ok sci_BadPlates (fun vs H Q E h => ?_) (fun cdv A outer s H vs Q E hr h => ?_)
  · obtain ⟨a, v, rfl, _⟩ := h
    rfl
  · obtain ⟨a, v, rfl, T, no, e, q⟩ := h
    exact ⟨_, pss_one (ps_ost (pv 0) (pv 1)), ⟨v, rfl, .ref a, rfl, a, C, rfl, T, no, .inl ⟨e, fun dx n1 n2 => q dx n1 n2⟩⟩⟩
abbrev i0_BadSheet : Stmt := inClass (topS 7) 0
theorem sci_BadSheet : FnScope ["self", "word", "at"] ["self", "word", "at"] (defScope i0_BadSheet) := ⟨rfl, rfl, rfl, by decide +kernel, rfl, by decide +kernel, by decide +kernel⟩
theorem okinit_BadSheet {P : Program} {w : World} {K : PySem.W.Frag} {mg : Str → Option Value} {base : Heap} {C f : Addr} {fd : FuncData} (F : Fun K "__init__" "BadSheet.__init__" i0_BadSheet f fd) : FnOk P w K mg base CX0 1 f fd ["self", "word", "at"] (sp_ini2 K C "word" "at") := by
  refine F.ok sci_BadSheet (fun vs H Q E h => ?_) (fun cdv A outer s H vs Q E hr h => ?_)
  · obtain ⟨a, v, u, rfl, _⟩ := h
    rfl
  · obtain ⟨a, v, u, rfl, T, no, no2, e, q⟩ := h
    exact ⟨_, pss_cons (ps_ost (pv 0) (pv 1)) (pss_one (ps_ost (pv 0) (pv 2))), ⟨v, rfl, .ref a, rfl, a, C, rfl, T, no, .inl ⟨e, fun dx n1 n2 => ⟨u, rfl, .ref a, rfl, a, C, rfl, T, no2, .inr ⟨dx, _, upd_same, (upd_ne n2).trans upd_same, Nat.le_of_ble_eq_true rfl, q dx n1 n2⟩⟩⟩⟩⟩
abbrev i0_TooMany : Stmt := inClass (topS 8) 0
theorem sci_TooMany : FnScope ["self", "most"] ["self", "most"] (defScope i0_TooMany) := ⟨rfl, rfl, rfl, by decide +kernel, rfl, by decide +kernel, by decide +kernel⟩
theorem okinit_TooMany {P : Program} {w : World} {K : PySem.W.Frag} {mg : Str → Option Value} {base : Heap} {C f : Addr} {fd : FuncData} (F : Fun K "__init__" "TooMany.__init__" i0_TooMany f fd) : FnOk P w K mg base CX0 1 f fd ["self", "most"] (sp_ini1 K C "most") := by
  refine F.ok sci_TooMany (fun vs H Q E h => ?_) (fun cdv A outer s H vs Q E hr h => ?_)
  · obtain ⟨a, v, rfl, _⟩ := h
    rfl
  · obtain ⟨a, v, rfl, T, no, e, q⟩ := h
    exact ⟨_, pss_one (ps_ost (pv 0) (pv 1)), ⟨v, rfl, .ref a, rfl, a, C, rfl, T, no, .inl ⟨e, fun dx n1 n2 => q dx n1 n2⟩⟩⟩
abbrev i0_NoCorner : Stmt := inClass (topS 9) 0
theorem sci_NoCorner : FnScope ["self"] ["self"] (defScope i0_NoCorner) := ⟨rfl, rfl, rfl, by decide +kernel, rfl, by decide +kernel, by decide +kernel⟩
theorem okinit_NoCorner {P : Program} {w : World} {K : PySem.W.Frag} {mg : Str → Option Value} {base : Heap} {f : Addr} {fd : FuncData} (F : Fun K "__init__" "NoCorner.__init__" i0_NoCorner f fd) : FnOk P w K mg base CX0 1 f fd ["self"] spPass := by
  refine F.ok sci_NoCorner (fun vs H Q E h => ?_) (fun cdv A outer s H vs Q E hr h => ?_)
  · obtain ⟨⟨v, rfl⟩, _⟩ := h
    rfl
  · obtain ⟨⟨v, rfl⟩, q⟩ := h
    exact ⟨_, pss_one ps_pass, q⟩
abbrev i0_NoCrease : Stmt := inClass (topS 10) 0
theorem sci_NoCrease : FnScope ["self"] ["self"] (defScope i0_NoCrease) := ⟨rfl, rfl, rfl, by decide +kernel, rfl, by decide +kernel, by decide +kernel⟩
theorem okinit_NoCrease {P : Program} {w : World} {K : PySem.W.Frag} {mg : Str → Option Value} {base : Heap} {f : Addr} {fd : FuncData} (F : Fun K "__init__" "NoCrease.__init__" i0_NoCrease f fd) : FnOk P w K mg base CX0 1 f fd ["self"] spPass := by
  refine F.ok sci_NoCrease (fun vs H Q E h => ?_) (fun cdv A outer s H vs Q E hr h => ?_)
  · obtain ⟨⟨v, rfl⟩, _⟩ := h
    rfl
  · obtain ⟨⟨v, rfl⟩, q⟩ := h
    exact ⟨_, pss_one ps_pass, q⟩
abbrev i0_NoNumbers : Stmt := inClass (topS 11) 0
theorem sci_NoNumbers : FnScope ["self"] ["self"] (defScope i0_NoNumbers) := ⟨rfl, rfl, rfl, by decide +kernel, rfl, by decide +kernel, by decide +kernel⟩
theorem okinit_NoNumbers {P : Program} {w : World} {K : PySem.W.Frag} {mg : Str → Option Value} {base : Heap} {f : Addr} {fd : FuncData} (F : Fun K "__init__" "NoNumbers.__init__" i0_NoNumbers f fd) : FnOk P w K mg base CX0 1 f fd ["self"] spPass := by
  refine F.ok sci_NoNumbers (fun vs H Q E h => ?_) (fun cdv A outer s H vs Q E hr h => ?_)
  · obtain ⟨⟨v, rfl⟩, _⟩ := h
    rfl
  · obtain ⟨⟨v, rfl⟩, q⟩ := h
    exact ⟨_, pss_one ps_pass, q⟩
abbrev i0_NoStand : Stmt := inClass (topS 12) 0
theorem sci_NoStand : FnScope ["self"] ["self"] (defScope i0_NoStand) := ⟨rfl, rfl, rfl, by decide +kernel, rfl, by decide +kernel, by decide +kernel⟩
theorem okinit_NoStand {P : Program} {w : World} {K : PySem.W.Frag} {mg : Str → Option Value} {base : Heap} {f : Addr} {fd : FuncData} (F : Fun K "__init__" "NoStand.__init__" i0_NoStand f fd) : FnOk P w K mg base CX0 1 f fd ["self"] spPass := by
  refine F.ok sci_NoStand (fun vs H Q E h => ?_) (fun cdv A outer s H vs Q E hr h => ?_)
  · obtain ⟨⟨v, rfl⟩, _⟩ := h
    rfl
  · obtain ⟨⟨v, rfl⟩, q⟩ := h
    exact ⟨_, pss_one ps_pass, q⟩
abbrev i0_BadChoice : Stmt := inClass (topS 13) 0
theorem sci_BadChoice : FnScope ["self"] ["self"] (defScope i0_BadChoice) := ⟨rfl, rfl, rfl, by decide +kernel, rfl, by decide +kernel, by decide +kernel⟩
theorem okinit_BadChoice {P : Program} {w : World} {K : PySem.W.Frag} {mg : Str → Option Value} {base : Heap} {f : Addr} {fd : FuncData} (F : Fun K "__init__" "BadChoice.__init__" i0_BadChoice f fd) : FnOk P w K mg base CX0 1 f fd ["self"] spPass := by
  refine F.ok sci_BadChoice (fun vs H Q E h => ?_) (fun cdv A outer s H vs Q E hr h => ?_)
  · obtain ⟨⟨v, rfl⟩, _⟩ := h
    rfl
  · obtain ⟨⟨v, rfl⟩, q⟩ := h
    exact ⟨_, pss_one ps_pass, q⟩
abbrev i0_BadSpaces : Stmt := inClass (topS 14) 0
theorem sci_BadSpaces : FnScope ["self", "at"] ["self", "at"] (defScope i0_BadSpaces) := ⟨rfl, rfl, rfl, by decide +kernel, rfl, by decide +kernel, by decide +kernel⟩
theorem okinit_BadSpaces {P : Program} {w : World} {K : PySem.W.Frag} {mg : Str → Option Value} {base : Heap} {C f : Addr} {fd : FuncData} (F : Fun K "__init__" "BadSpaces.__init__" i0_BadSpaces f fd) : FnOk P w K mg base CX0 1 f fd ["self", "at"] (sp_ini1 K C "at") := by
  refine F.ok sci_BadSpaces (fun vs H Q E h => ?_) (fun cdv A outer s H vs Q E hr h => ?_)
  · obtain ⟨a, v, rfl, _⟩ := h
    rfl
  · obtain ⟨a, v, rfl, T, no, e, q⟩ := h
    exact ⟨_, pss_one (ps_ost (pv 0) (pv 1)), ⟨v, rfl, .ref a, rfl, a, C, rfl, T, no, .inl ⟨e, fun dx n1 n2 => q dx n1 n2⟩⟩⟩
abbrev i0_NoPlacing : Stmt := inClass (topS 15) 0
theorem sci_NoPlacing : FnScope ["self"] ["self"] (defScope i0_NoPlacing) := ⟨rfl, rfl, rfl, by decide +kernel, rfl, by decide +kernel, by decide +kernel⟩
theorem okinit_NoPlacing {P : Program} {w : World} {K : PySem.W.Frag} {mg : Str → Option Value} {base : Heap} {f : Addr} {fd : FuncData} (F : Fun K "__init__" "NoPlacing.__init__" i0_NoPlacing f fd) : FnOk P w K mg base CX0 1 f fd ["self"] spPass := by
  refine F.ok sci_NoPlacing (fun vs H Q E h => ?_) (fun cdv A outer s H vs Q E hr h => ?_)
  · obtain ⟨⟨v, rfl⟩, _⟩ := h
    rfl
  · obtain ⟨⟨v, rfl⟩, q⟩ := h
    exact ⟨_, pss_one ps_pass, q⟩
abbrev i0_Shut : Stmt := inClass (topS 16) 0
theorem sci_Shut : FnScope ["self", "crease"] ["self", "crease"] (defScope i0_Shut) := ⟨rfl, rfl, rfl, by decide +kernel, rfl, by decide +kernel, by decide +kernel⟩
theorem okinit_Shut {P : Program} {w : World} {K : PySem.W.Frag} {mg : Str → Option Value} {base : Heap} {C f : Addr} {fd : FuncData} (F : Fun K "__init__" "Shut.__init__" i0_Shut f fd) : FnOk P w K mg base CX0 1 f fd ["self", "crease"] (sp_ini1 K C "crease") := by
  refine F.ok sci_Shut (fun vs H Q E h => ?_) (fun cdv A outer s H vs Q E hr h => ?_)
  · obtain ⟨a, v, rfl, _⟩ := h
    rfl
  · obtain ⟨a, v, rfl, T, no, e, q⟩ := h
    exact ⟨_, pss_one (ps_ost (pv 0) (pv 1)), ⟨v, rfl, .ref a, rfl, a, C, rfl, T, no, .inl ⟨e, fun dx n1 n2 => q dx n1 n2⟩⟩⟩
abbrev i0_NoSpot : Stmt := inClass (topS 17) 0
theorem sci_NoSpot : FnScope ["self"] ["self"] (defScope i0_NoSpot) := ⟨rfl, rfl, rfl, by decide +kernel, rfl, by decide +kernel, by decide +kernel⟩
theorem okinit_NoSpot {P : Program} {w : World} {K : PySem.W.Frag} {mg : Str → Option Value} {base : Heap} {f : Addr} {fd : FuncData} (F : Fun K "__init__" "NoSpot.__init__" i0_NoSpot f fd) : FnOk P w K mg base CX0 1 f fd ["self"] spPass := by
  refine F.ok sci_NoSpot (fun vs H Q E h => ?_) (fun cdv A outer s H vs Q E hr h => ?_)
  · obtain ⟨⟨v, rfl⟩, _⟩ := h
    rfl
  · obtain ⟨⟨v, rfl⟩, q⟩ := h
    exact ⟨_, pss_one ps_pass, q⟩
abbrev i0_BadNumber : Stmt := inClass (topS 18) 0
theorem sci_BadNumber : FnScope ["self", "word"] ["self", "word"] (defScope i0_BadNumber) := ⟨rfl, rfl, rfl, by decide +kernel, rfl, by decide +kernel, by decide +kernel⟩
theorem okinit_BadNumber {P : Program} {w : World} {K : PySem.W.Frag} {mg : Str → Option Value} {base : Heap} {C f : Addr} {fd : FuncData} (F : Fun K "__init__" "BadNumber.__init__" i0_BadNumber f fd) : FnOk P w K mg base CX0 1 f fd ["self", "word"] (sp_ini1 K C "word") := by
  refine F.ok sci_BadNumber (fun vs H Q E h => ?_) (fun cdv A outer s H vs Q E hr h => ?_)
  · obtain ⟨a, v, rfl, _⟩ := h
    rfl
  · obtain ⟨a, v, rfl, T, no, e, q⟩ := h
    exact ⟨_, pss_one (ps_ost (pv 0) (pv 1)), ⟨v, rfl, .ref a, rfl, a, C, rfl, T, no, .inl ⟨e, fun dx n1 n2 => q dx n1 n2⟩⟩⟩
abbrev i0_NoPolynomial : Stmt := inClass (topS 19) 0
theorem sci_NoPolynomial : FnScope ["self"] ["self"] (defScope i0_NoPolynomial) := ⟨rfl, rfl, rfl, by decide +kernel, rfl, by decide +kernel, by decide +kernel⟩
theorem okinit_NoPolynomial {P : Program} {w : World} {K : PySem.W.Frag} {mg : Str → Option Value} {base : Heap} {f : Addr} {fd : FuncData} (F : Fun K "__init__" "NoPolynomial.__init__" i0_NoPolynomial f fd) : FnOk P w K mg base CX0 1 f fd ["self"] spPass := by
  refine F.ok sci_NoPolynomial (fun vs H Q E h => ?_) (fun cdv A outer s H vs Q E hr h => ?_)
  · obtain ⟨⟨v, rfl⟩, _⟩ := h
    rfl
  · obtain ⟨⟨v, rfl⟩, q⟩ := h
    exact ⟨_, pss_one ps_pass, q⟩
abbrev i0_BadLot : Stmt := inClass (topS 20) 0
theorem sci_BadLot : FnScope ["self"] ["self"] (defScope i0_BadLot) := ⟨rfl, rfl, rfl, by decide +kernel, rfl, by decide +kernel, by decide +kernel⟩
theorem okinit_BadLot {P : Program} {w : World} {K : PySem.W.Frag} {mg : Str → Option Value} {base : Heap} {f : Addr} {fd : FuncData} (F : Fun K "__init__" "BadLot.__init__" i0_BadLot f fd) : FnOk P w K mg base CX0 1 f fd ["self"] spPass := by
  refine F.ok sci_BadLot (fun vs H Q E h => ?_) (fun cdv A outer s H vs Q E hr h => ?_)
  · obtain ⟨⟨v, rfl⟩, _⟩ := h
    rfl
  · obtain ⟨⟨v, rfl⟩, q⟩ := h
    exact ⟨_, pss_one ps_pass, q⟩
abbrev i0_BadBook : Stmt := inClass (topS 21) 0
theorem sci_BadBook : FnScope ["self"] ["self"] (defScope i0_BadBook) := ⟨rfl, rfl, rfl, by decide +kernel, rfl, by decide +kernel, by decide +kernel⟩
theorem okinit_BadBook {P : Program} {w : World} {K : PySem.W.Frag} {mg : Str → Option Value} {base : Heap} {f : Addr} {fd : FuncData} (F : Fun K "__init__" "BadBook.__init__" i0_BadBook f fd) : FnOk P w K mg base CX0 1 f fd ["self"] spPass := by
  refine F.ok sci_BadBook (fun vs H Q E h => ?_) (fun cdv A outer s H vs Q E hr h => ?_)
  · obtain ⟨⟨v, rfl⟩, _⟩ := h
    rfl
  · obtain ⟨⟨v, rfl⟩, q⟩ := h
    exact ⟨_, pss_one ps_pass, q⟩
abbrev i0_BadTold : Stmt := inClass (topS 22) 0
theorem sci_BadTold : FnScope ["self"] ["self"] (defScope i0_BadTold) := ⟨rfl, rfl, rfl, by decide +kernel, rfl, by decide +kernel, by decide +kernel⟩
theorem okinit_BadTold {P : Program} {w : World} {K : PySem.W.Frag} {mg : Str → Option Value} {base : Heap} {f : Addr} {fd : FuncData} (F : Fun K "__init__" "BadTold.__init__" i0_BadTold f fd) : FnOk P w K mg base CX0 1 f fd ["self"] spPass := by
  refine F.ok sci_BadTold (fun vs H Q E h => ?_) (fun cdv A outer s H vs Q E hr h => ?_)
  · obtain ⟨⟨v, rfl⟩, _⟩ := h
    rfl
  · obtain ⟨⟨v, rfl⟩, q⟩ := h
    exact ⟨_, pss_one ps_pass, q⟩
abbrev i0_NoFit : Stmt := inClass (topS 23) 0
theorem sci_NoFit : FnScope ["self"] ["self"] (defScope i0_NoFit) := ⟨rfl, rfl, rfl, by decide +kernel, rfl, by decide +kernel, by decide +kernel⟩
theorem okinit_NoFit {P : Program} {w : World} {K : PySem.W.Frag} {mg : Str → Option Value} {base : Heap} {f : Addr} {fd : FuncData} (F : Fun K "__init__" "NoFit.__init__" i0_NoFit f fd) : FnOk P w K mg base CX0 1 f fd ["self"] spPass := by
  refine F.ok sci_NoFit (fun vs H Q E h => ?_) (fun cdv A outer s H vs Q E hr h => ?_)
  · obtain ⟨⟨v, rfl⟩, _⟩ := h
    rfl
  · obtain ⟨⟨v, rfl⟩, q⟩ := h
    exact ⟨_, pss_one ps_pass, q⟩
abbrev i0_BadPrices : Stmt := inClass (topS 24) 0
theorem sci_BadPrices : FnScope ["self"] ["self"] (defScope i0_BadPrices) := ⟨rfl, rfl, rfl, by decide +kernel, rfl, by decide +kernel, by decide +kernel⟩
theorem okinit_BadPrices {P : Program} {w : World} {K : PySem.W.Frag} {mg : Str → Option Value} {base : Heap} {f : Addr} {fd : FuncData} (F : Fun K "__init__" "BadPrices.__init__" i0_BadPrices f fd) : FnOk P w K mg base CX0 1 f fd ["self"] spPass := by
  refine F.ok sci_BadPrices (fun vs H Q E h => ?_) (fun cdv A outer s H vs Q E hr h => ?_)
  · obtain ⟨⟨v, rfl⟩, _⟩ := h
    rfl
  · obtain ⟨⟨v, rfl⟩, q⟩ := h
    exact ⟨_, pss_one ps_pass, q⟩
abbrev i0_BadHeld : Stmt := inClass (topS 25) 0
theorem sci_BadHeld : FnScope ["self"] ["self"] (defScope i0_BadHeld) := ⟨rfl, rfl, rfl, by decide +kernel, rfl, by decide +kernel, by decide +kernel⟩
theorem okinit_BadHeld {P : Program} {w : World} {K : PySem.W.Frag} {mg : Str → Option Value} {base : Heap} {f : Addr} {fd : FuncData} (F : Fun K "__init__" "BadHeld.__init__" i0_BadHeld f fd) : FnOk P w K mg base CX0 1 f fd ["self"] spPass := by
  refine F.ok sci_BadHeld (fun vs H Q E h => ?_) (fun cdv A outer s H vs Q E hr h => ?_)
  · obtain ⟨⟨v, rfl⟩, _⟩ := h
    rfl
  · obtain ⟨⟨v, rfl⟩, q⟩ := h
    exact ⟨_, pss_one ps_pass, q⟩
abbrev i0_NotHeld : Stmt := inClass (topS 26) 0
theorem sci_NotHeld : FnScope ["self", "at"] ["self", "at"] (defScope i0_NotHeld) := ⟨rfl, rfl, rfl, by decide +kernel, rfl, by decide +kernel, by decide +kernel⟩
theorem okinit_NotHeld {P : Program} {w : World} {K : PySem.W.Frag} {mg : Str → Option Value} {base : Heap} {C f : Addr} {fd : FuncData} (F : Fun K "__init__" "NotHeld.__init__" i0_NotHeld f fd) : FnOk P w K mg base CX0 1 f fd ["self", "at"] (sp_ini1 K C "at") := by
  refine F.ok sci_NotHeld (fun vs H Q E h => ?_) (fun cdv A outer s H vs Q E hr h => ?_)
  · obtain ⟨a, v, rfl, _⟩ := h
    rfl
  · obtain ⟨a, v, rfl, T, no, e, q⟩ := h
    exact ⟨_, pss_one (ps_ost (pv 0) (pv 1)), ⟨v, rfl, .ref a, rfl, a, C, rfl, T, no, .inl ⟨e, fun dx n1 n2 => q dx n1 n2⟩⟩⟩
abbrev i0_BadSeam : Stmt := inClass (topS 27) 0
theorem sci_BadSeam : FnScope ["self", "word"] ["self", "word"] (defScope i0_BadSeam) := ⟨rfl, rfl, rfl, by decide +kernel, rfl, by decide +kernel, by decide +kernel⟩
theorem okinit_BadSeam {P : Program} {w : World} {K : PySem.W.Frag} {mg : Str → Option Value} {base : Heap} {C f : Addr} {fd : FuncData} (F : Fun K "__init__" "BadSeam.__init__" i0_BadSeam f fd) : FnOk P w K mg base CX0 1 f fd ["self", "word"] (sp_ini1 K C "word") := by
  refine F.ok sci_BadSeam (fun vs H Q E h => ?_) (fun cdv A outer s H vs Q E hr h => ?_)
  · obtain ⟨a, v, rfl, _⟩ := h
    rfl
  · obtain ⟨a, v, rfl, T, no, e, q⟩ := h
    exact ⟨_, pss_one (ps_ost (pv 0) (pv 1)), ⟨v, rfl, .ref a, rfl, a, C, rfl, T, no, .inl ⟨e, fun dx n1 n2 => q dx n1 n2⟩⟩⟩
abbrev i0_BadTable : Stmt := inClass (topS 28) 0
theorem sci_BadTable : FnScope ["self"] ["self"] (defScope i0_BadTable) := ⟨rfl, rfl, rfl, by decide +kernel, rfl, by decide +kernel, by decide +kernel⟩
theorem okinit_BadTable {P : Program} {w : World} {K : PySem.W.Frag} {mg : Str → Option Value} {base : Heap} {f : Addr} {fd : FuncData} (F : Fun K "__init__" "BadTable.__init__" i0_BadTable f fd) : FnOk P w K mg base CX0 1 f fd ["self"] spPass := by
  refine F.ok sci_BadTable (fun vs H Q E h => ?_) (fun cdv A outer s H vs Q E hr h => ?_)
  · obtain ⟨⟨v, rfl⟩, _⟩ := h
    rfl
  · obtain ⟨⟨v, rfl⟩, q⟩ := h
    exact ⟨_, pss_one ps_pass, q⟩
abbrev i0_BadWish : Stmt := inClass (topS 29) 0
theorem sci_BadWish : FnScope ["self"] ["self"] (defScope i0_BadWish) := ⟨rfl, rfl, rfl, by decide +kernel, rfl, by decide +kernel, by decide +kernel⟩
theorem okinit_BadWish {P : Program} {w : World} {K : PySem.W.Frag} {mg : Str → Option Value} {base : Heap} {f : Addr} {fd : FuncData} (F : Fun K "__init__" "BadWish.__init__" i0_BadWish f fd) : FnOk P w K mg base CX0 1 f fd ["self"] spPass := by
  refine F.ok sci_BadWish (fun vs H Q E h => ?_) (fun cdv A outer s H vs Q E hr h => ?_)
  · obtain ⟨⟨v, rfl⟩, _⟩ := h
    rfl
  · obtain ⟨⟨v, rfl⟩, q⟩ := h
    exact ⟨_, pss_one ps_pass, q⟩
abbrev i0_BadLengths : Stmt := inClass (topS 30) 0
theorem sci_BadLengths : FnScope ["self"] ["self"] (defScope i0_BadLengths) := ⟨rfl, rfl, rfl, by decide +kernel, rfl, by decide +kernel, by decide +kernel⟩
theorem okinit_BadLengths {P : Program} {w : World} {K : PySem.W.Frag} {mg : Str → Option Value} {base : Heap} {f : Addr} {fd : FuncData} (F : Fun K "__init__" "BadLengths.__init__" i0_BadLengths f fd) : FnOk P w K mg base CX0 1 f fd ["self"] spPass := by
  refine F.ok sci_BadLengths (fun vs H Q E h => ?_) (fun cdv A outer s H vs Q E hr h => ?_)
  · obtain ⟨⟨v, rfl⟩, _⟩ := h
    rfl
  · obtain ⟨⟨v, rfl⟩, q⟩ := h
    exact ⟨_, pss_one ps_pass, q⟩
abbrev i0_NoSlit : Stmt := inClass (topS 31) 0
theorem sci_NoSlit : FnScope ["self"] ["self"] (defScope i0_NoSlit) := ⟨rfl, rfl, rfl, by decide +kernel, rfl, by decide +kernel, by decide +kernel⟩
theorem okinit_NoSlit {P : Program} {w : World} {K : PySem.W.Frag} {mg : Str → Option Value} {base : Heap} {f : Addr} {fd : FuncData} (F : Fun K "__init__" "NoSlit.__init__" i0_NoSlit f fd) : FnOk P w K mg base CX0 1 f fd ["self"] spPass := by
  refine F.ok sci_NoSlit (fun vs H Q E h => ?_) (fun cdv A outer s H vs Q E hr h => ?_)
  · obtain ⟨⟨v, rfl⟩, _⟩ := h
    rfl
  · obtain ⟨⟨v, rfl⟩, q⟩ := h
    exact ⟨_, pss_one ps_pass, q⟩
abbrev i0_NoPart : Stmt := inClass (topS 32) 0
theorem sci_NoPart : FnScope ["self"] ["self"] (defScope i0_NoPart) := ⟨rfl, rfl, rfl, by decide +kernel, rfl, by decide +kernel, by decide +kernel⟩
theorem okinit_NoPart {P : Program} {w : World} {K : PySem.W.Frag} {mg : Str → Option Value} {base : Heap} {f : Addr} {fd : FuncData} (F : Fun K "__init__" "NoPart.__init__" i0_NoPart f fd) : FnOk P w K mg base CX0 1 f fd ["self"] spPass := by
  refine F.ok sci_NoPart (fun vs H Q E h => ?_) (fun cdv A outer s H vs Q E hr h => ?_)
  · obtain ⟨⟨v, rfl⟩, _⟩ := h
    rfl
  · obtain ⟨⟨v, rfl⟩, q⟩ := h
    exact ⟨_, pss_one ps_pass, q⟩
abbrev i0_BadText : Stmt := inClass (topS 33) 0
theorem sci_BadText : FnScope ["self", "at"] ["self", "at"] (defScope i0_BadText) := ⟨rfl, rfl, rfl, by decide +kernel, rfl, by decide +kernel, by decide +kernel⟩
theorem okinit_BadText {P : Program} {w : World} {K : PySem.W.Frag} {mg : Str → Option Value} {base : Heap} {C f : Addr} {fd : FuncData} (F : Fun K "__init__" "BadText.__init__" i0_BadText f fd) : FnOk P w K mg base CX0 1 f fd ["self", "at"] (sp_ini1 K C "at") := by
  refine F.ok sci_BadText (fun vs H Q E h => ?_) (fun cdv A outer s H vs Q E hr h => ?_)
  · obtain ⟨a, v, rfl, _⟩ := h
    rfl
  · obtain ⟨a, v, rfl, T, no, e, q⟩ := h
    exact ⟨_, pss_one (ps_ost (pv 0) (pv 1)), ⟨v, rfl, .ref a, rfl, a, C, rfl, T, no, .inl ⟨e, fun dx n1 n2 => q dx n1 n2⟩⟩⟩
abbrev i0_NoTree : Stmt := inClass (topS 34) 0
theorem sci_NoTree : FnScope ["self"] ["self"] (defScope i0_NoTree) := ⟨rfl, rfl, rfl, by decide +kernel, rfl, by decide +kernel, by decide +kernel⟩
theorem okinit_NoTree {P : Program} {w : World} {K : PySem.W.Frag} {mg : Str → Option Value} {base : Heap} {f : Addr} {fd : FuncData} (F : Fun K "__init__" "NoTree.__init__" i0_NoTree f fd) : FnOk P w K mg base CX0 1 f fd ["self"] spPass := by
  refine F.ok sci_NoTree (fun vs H Q E h => ?_) (fun cdv A outer s H vs Q E hr h => ?_)
  · obtain ⟨⟨v, rfl⟩, _⟩ := h
    rfl
  · obtain ⟨⟨v, rfl⟩, q⟩ := h
    exact ⟨_, pss_one ps_pass, q⟩
abbrev i0_LiesOver : Stmt := inClass (topS 35) 0
theorem sci_LiesOver : FnScope ["self", "number"] ["self", "number"] (defScope i0_LiesOver) := ⟨rfl, rfl, rfl, by decide +kernel, rfl, by decide +kernel, by decide +kernel⟩
theorem okinit_LiesOver {P : Program} {w : World} {K : PySem.W.Frag} {mg : Str → Option Value} {base : Heap} {C f : Addr} {fd : FuncData} (F : Fun K "__init__" "LiesOver.__init__" i0_LiesOver f fd) : FnOk P w K mg base CX0 1 f fd ["self", "number"] (sp_ini1 K C "number") := by
  refine F.ok sci_LiesOver (fun vs H Q E h => ?_) (fun cdv A outer s H vs Q E hr h => ?_)
  · obtain ⟨a, v, rfl, _⟩ := h
    rfl
  · obtain ⟨a, v, rfl, T, no, e, q⟩ := h
    exact ⟨_, pss_one (ps_ost (pv 0) (pv 1)), ⟨v, rfl, .ref a, rfl, a, C, rfl, T, no, .inl ⟨e, fun dx n1 n2 => q dx n1 n2⟩⟩⟩
abbrev i0_NoUndo : Stmt := inClass (topS 36) 0
theorem sci_NoUndo : FnScope ["self"] ["self"] (defScope i0_NoUndo) := ⟨rfl, rfl, rfl, by decide +kernel, rfl, by decide +kernel, by decide +kernel⟩
theorem okinit_NoUndo {P : Program} {w : World} {K : PySem.W.Frag} {mg : Str → Option Value} {base : Heap} {f : Addr} {fd : FuncData} (F : Fun K "__init__" "NoUndo.__init__" i0_NoUndo f fd) : FnOk P w K mg base CX0 1 f fd ["self"] spPass := by
  refine F.ok sci_NoUndo (fun vs H Q E h => ?_) (fun cdv A outer s H vs Q E hr h => ?_)
  · obtain ⟨⟨v, rfl⟩, _⟩ := h
    rfl
  · obtain ⟨⟨v, rfl⟩, q⟩ := h
    exact ⟨_, pss_one ps_pass, q⟩
abbrev i0_BadTries : Stmt := inClass (topS 37) 0
theorem sci_BadTries : FnScope ["self"] ["self"] (defScope i0_BadTries) := ⟨rfl, rfl, rfl, by decide +kernel, rfl, by decide +kernel, by decide +kernel⟩
theorem okinit_BadTries {P : Program} {w : World} {K : PySem.W.Frag} {mg : Str → Option Value} {base : Heap} {f : Addr} {fd : FuncData} (F : Fun K "__init__" "BadTries.__init__" i0_BadTries f fd) : FnOk P w K mg base CX0 1 f fd ["self"] spPass := by
  refine F.ok sci_BadTries (fun vs H Q E h => ?_) (fun cdv A outer s H vs Q E hr h => ?_)
  · obtain ⟨⟨v, rfl⟩, _⟩ := h
    rfl
  · obtain ⟨⟨v, rfl⟩, q⟩ := h
    exact ⟨_, pss_one ps_pass, q⟩
theorem all_mk {l : PySem.W.OpenLaw} {w : World} {K : PySem.W.Frag} {h : Heap} {mg : Str → Option Value} {fa : Addr} (X : K.In h) (G : h.Ns mainGlobals mg) (hfa : mg "law" = some (.ref fa))
    {f_law_mixed : Addr} {od_law_mixed an_law_mixed : Option Addr} {sl_law_mixed : Array (Option Value)} {oc_law_mixed kV_law_mixed dc_law_mixed pm_law_mixed cd_law_mixed ct_law_mixed : Value}
    {f_law_great : Addr} {od_law_great an_law_great : Option Addr} {sl_law_great : Array (Option Value)} {oc_law_great kV_law_great dc_law_great pm_law_great cd_law_great ct_law_great : Value}
    {f_law_stream : Addr} {od_law_stream an_law_stream : Option Addr} {sl_law_stream : Array (Option Value)} {oc_law_stream kV_law_stream dc_law_stream pm_law_stream cd_law_stream ct_law_stream : Value}
    {f_law_take : Addr} {od_law_take an_law_take : Option Addr} {sl_law_take : Array (Option Value)} {oc_law_take kV_law_take dc_law_take pm_law_take cd_law_take ct_law_take : Value}
    {f_law_whole : Addr} {od_law_whole an_law_whole : Option Addr} {sl_law_whole : Array (Option Value)} {oc_law_whole kV_law_whole dc_law_whole pm_law_whole cd_law_whole ct_law_whole : Value}
    {f_law_raise_early : Addr} {od_law_raise_early an_law_raise_early : Option Addr} {sl_law_raise_early : Array (Option Value)} {oc_law_raise_early kV_law_raise_early dc_law_raise_early pm_law_raise_early cd_law_raise_early ct_law_raise_early : Value}
    {f_law_raise_late : Addr} {od_law_raise_late an_law_raise_late : Option Addr} {sl_law_raise_late : Array (Option Value)} {oc_law_raise_late kV_law_raise_late dc_law_raise_late pm_law_raise_late cd_law_raise_late ct_law_raise_late : Value}
    {f_law_raise : Addr} {od_law_raise an_law_raise : Option Addr} {sl_law_raise : Array (Option Value)} {oc_law_raise kV_law_raise dc_law_raise pm_law_raise cd_law_raise ct_law_raise : Value}
    {f_law_classes : Addr} {od_law_classes an_law_classes : Option Addr} {sl_law_classes : Array (Option Value)} {oc_law_classes kV_law_classes dc_law_classes pm_law_classes cd_law_classes ct_law_classes : Value}
    {f_law_fields : Addr} {od_law_fields an_law_fields : Option Addr} {sl_law_fields : Array (Option Value)} {oc_law_fields kV_law_fields dc_law_fields pm_law_fields cd_law_fields ct_law_fields : Value}
    {f_law_due : Addr} {od_law_due an_law_due : Option Addr} {sl_law_due : Array (Option Value)} {oc_law_due kV_law_due dc_law_due pm_law_due cd_law_due ct_law_due : Value}
    {f_law_asked : Addr} {od_law_asked an_law_asked : Option Addr} {sl_law_asked : Array (Option Value)} {oc_law_asked kV_law_asked dc_law_asked pm_law_asked cd_law_asked ct_law_asked : Value}
    {f_law : Addr} {od_law an_law : Option Addr} {sl_law : Array (Option Value)} {oc_law kV_law dc_law pm_law cd_law ct_law : Value}
    {C_FoldError : Addr}
    {C_NoFraction B_NoFraction i_NoFraction : Addr} {nm_NoFraction q_NoFraction : Str} {N_NoFraction : Addr} {bs_NoFraction : List Value} {sn_NoFraction : List Str} {sub_NoFraction : List Value} {ab_NoFraction : Bool} {col_NoFraction : Option Bool} {dd_NoFraction : Option Addr} {m0_NoFraction m1_NoFraction m2_NoFraction m3_NoFraction m5_NoFraction : Option Value}
    {iod_NoFraction ian_NoFraction : Option Addr} {isl_NoFraction : Array (Option Value)} {ioc_NoFraction ikV_NoFraction idc_NoFraction ipm_NoFraction icd_NoFraction ict_NoFraction : Value}
    {C_NoPoint B_NoPoint i_NoPoint : Addr} {nm_NoPoint q_NoPoint : Str} {N_NoPoint : Addr} {bs_NoPoint : List Value} {sn_NoPoint : List Str} {sub_NoPoint : List Value} {ab_NoPoint : Bool} {col_NoPoint : Option Bool} {dd_NoPoint : Option Addr} {m0_NoPoint m1_NoPoint m2_NoPoint m3_NoPoint m5_NoPoint : Option Value}
    {iod_NoPoint ian_NoPoint : Option Addr} {isl_NoPoint : Array (Option Value)} {ioc_NoPoint ikV_NoPoint idc_NoPoint ipm_NoPoint icd_NoPoint ict_NoPoint : Value}
    {C_NoPlate B_NoPlate i_NoPlate : Addr} {nm_NoPlate q_NoPlate : Str} {N_NoPlate : Addr} {bs_NoPlate : List Value} {sn_NoPlate : List Str} {sub_NoPlate : List Value} {ab_NoPlate : Bool} {col_NoPlate : Option Bool} {dd_NoPlate : Option Addr} {m0_NoPlate m1_NoPlate m2_NoPlate m3_NoPlate m5_NoPlate : Option Value}
    {iod_NoPlate ian_NoPlate : Option Addr} {isl_NoPlate : Array (Option Value)} {ioc_NoPlate ikV_NoPlate idc_NoPlate ipm_NoPlate icd_NoPlate ict_NoPlate : Value}
    {C_BadCorners B_BadCorners i_BadCorners : Addr} {nm_BadCorners q_BadCorners : Str} {N_BadCorners : Addr} {bs_BadCorners : List Value} {sn_BadCorners : List Str} {sub_BadCorners : List Value} {ab_BadCorners : Bool} {col_BadCorners : Option Bool} {dd_BadCorners : Option Addr} {m0_BadCorners m1_BadCorners m2_BadCorners m3_BadCorners m5_BadCorners : Option Value}
    {iod_BadCorners ian_BadCorners : Option Addr} {isl_BadCorners : Array (Option Value)} {ioc_BadCorners ikV_BadCorners idc_BadCorners ipm_BadCorners icd_BadCorners ict_BadCorners : Value}
    {C_BadPlates B_BadPlates i_BadPlates : Addr} {nm_BadPlates q_BadPlates : Str} {N_BadPlates : Addr} {bs_BadPlates : List Value} {sn_BadPlates : List Str} {sub_BadPlates : List Value} {ab_BadPlates : Bool} {col_BadPlates : Option Bool} {dd_BadPlates : Option Addr} {m0_BadPlates m1_BadPlates m2_BadPlates m3_BadPlates m5_BadPlates : Option Value}
    {iod_BadPlates ian_BadPlates : Option Addr} {isl_BadPlates : Array (Option Value)} {ioc_BadPlates ikV_BadPlates idc_BadPlates ipm_BadPlates icd_BadPlates ict_BadPlates : Value}
    {C_BadSheet B_BadSheet i_BadSheet : Addr} {nm_BadSheet q_BadSheet : Str} {N_BadSheet : Addr} {bs_BadSheet : List Value} {sn_BadSheet : List Str} {sub_BadSheet : List Value} {ab_BadSheet : Bool} {col_BadSheet : Option Bool} {dd_BadSheet : Option Addr} {m0_BadSheet m1_BadSheet m2_BadSheet m3_BadSheet m5_BadSheet : Option Value}
    {iod_BadSheet ian_BadSheet : Option Addr} {isl_BadSheet : Array (Option Value)} {ioc_BadSheet ikV_BadSheet idc_BadSheet ipm_BadSheet icd_BadSheet ict_BadSheet : Value}
    {C_TooMany B_TooMany i_TooMany : Addr} {nm_TooMany q_TooMany : Str} {N_TooMany : Addr} {bs_TooMany : List Value} {sn_TooMany : List Str} {sub_TooMany : List Value} {ab_TooMany : Bool} {col_TooMany : Option Bool} {dd_TooMany : Option Addr} {m0_TooMany m1_TooMany m2_TooMany m3_TooMany m5_TooMany : Option Value}
    {iod_TooMany ian_TooMany : Option Addr} {isl_TooMany : Array (Option Value)} {ioc_TooMany ikV_TooMany idc_TooMany ipm_TooMany icd_TooMany ict_TooMany : Value}
    {C_NoCorner B_NoCorner i_NoCorner : Addr} {nm_NoCorner q_NoCorner : Str} {N_NoCorner : Addr} {bs_NoCorner : List Value} {sn_NoCorner : List Str} {sub_NoCorner : List Value} {ab_NoCorner : Bool} {col_NoCorner : Option Bool} {dd_NoCorner : Option Addr} {m0_NoCorner m1_NoCorner m2_NoCorner m3_NoCorner m5_NoCorner : Option Value}
    {iod_NoCorner ian_NoCorner : Option Addr} {isl_NoCorner : Array (Option Value)} {ioc_NoCorner ikV_NoCorner idc_NoCorner ipm_NoCorner icd_NoCorner ict_NoCorner : Value}
    {C_NoCrease B_NoCrease i_NoCrease : Addr} {nm_NoCrease q_NoCrease : Str} {N_NoCrease : Addr} {bs_NoCrease : List Value} {sn_NoCrease : List Str} {sub_NoCrease : List Value} {ab_NoCrease : Bool} {col_NoCrease : Option Bool} {dd_NoCrease : Option Addr} {m0_NoCrease m1_NoCrease m2_NoCrease m3_NoCrease m5_NoCrease : Option Value}
    {iod_NoCrease ian_NoCrease : Option Addr} {isl_NoCrease : Array (Option Value)} {ioc_NoCrease ikV_NoCrease idc_NoCrease ipm_NoCrease icd_NoCrease ict_NoCrease : Value}
    {C_NoNumbers B_NoNumbers i_NoNumbers : Addr} {nm_NoNumbers q_NoNumbers : Str} {N_NoNumbers : Addr} {bs_NoNumbers : List Value} {sn_NoNumbers : List Str} {sub_NoNumbers : List Value} {ab_NoNumbers : Bool} {col_NoNumbers : Option Bool} {dd_NoNumbers : Option Addr} {m0_NoNumbers m1_NoNumbers m2_NoNumbers m3_NoNumbers m5_NoNumbers : Option Value}
    {iod_NoNumbers ian_NoNumbers : Option Addr} {isl_NoNumbers : Array (Option Value)} {ioc_NoNumbers ikV_NoNumbers idc_NoNumbers ipm_NoNumbers icd_NoNumbers ict_NoNumbers : Value}
    {C_NoStand B_NoStand i_NoStand : Addr} {nm_NoStand q_NoStand : Str} {N_NoStand : Addr} {bs_NoStand : List Value} {sn_NoStand : List Str} {sub_NoStand : List Value} {ab_NoStand : Bool} {col_NoStand : Option Bool} {dd_NoStand : Option Addr} {m0_NoStand m1_NoStand m2_NoStand m3_NoStand m5_NoStand : Option Value}
    {iod_NoStand ian_NoStand : Option Addr} {isl_NoStand : Array (Option Value)} {ioc_NoStand ikV_NoStand idc_NoStand ipm_NoStand icd_NoStand ict_NoStand : Value}
    {C_BadChoice B_BadChoice i_BadChoice : Addr} {nm_BadChoice q_BadChoice : Str} {N_BadChoice : Addr} {bs_BadChoice : List Value} {sn_BadChoice : List Str} {sub_BadChoice : List Value} {ab_BadChoice : Bool} {col_BadChoice : Option Bool} {dd_BadChoice : Option Addr} {m0_BadChoice m1_BadChoice m2_BadChoice m3_BadChoice m5_BadChoice : Option Value}
    {iod_BadChoice ian_BadChoice : Option Addr} {isl_BadChoice : Array (Option Value)} {ioc_BadChoice ikV_BadChoice idc_BadChoice ipm_BadChoice icd_BadChoice ict_BadChoice : Value}
    {C_BadSpaces B_BadSpaces i_BadSpaces : Addr} {nm_BadSpaces q_BadSpaces : Str} {N_BadSpaces : Addr} {bs_BadSpaces : List Value} {sn_BadSpaces : List Str} {sub_BadSpaces : List Value} {ab_BadSpaces : Bool} {col_BadSpaces : Option Bool} {dd_BadSpaces : Option Addr} {m0_BadSpaces m1_BadSpaces m2_BadSpaces m3_BadSpaces m5_BadSpaces : Option Value}
    {iod_BadSpaces ian_BadSpaces : Option Addr} {isl_BadSpaces : Array (Option Value)} {ioc_BadSpaces ikV_BadSpaces idc_BadSpaces ipm_BadSpaces icd_BadSpaces ict_BadSpaces : Value}
    {C_NoPlacing B_NoPlacing i_NoPlacing : Addr} {nm_NoPlacing q_NoPlacing : Str} {N_NoPlacing : Addr} {bs_NoPlacing : List Value} {sn_NoPlacing : List Str} {sub_NoPlacing : List Value} {ab_NoPlacing : Bool} {col_NoPlacing : Option Bool} {dd_NoPlacing : Option Addr} {m0_NoPlacing m1_NoPlacing m2_NoPlacing m3_NoPlacing m5_NoPlacing : Option Value}
    {iod_NoPlacing ian_NoPlacing : Option Addr} {isl_NoPlacing : Array (Option Value)} {ioc_NoPlacing ikV_NoPlacing idc_NoPlacing ipm_NoPlacing icd_NoPlacing ict_NoPlacing : Value}
    {C_Shut B_Shut i_Shut : Addr} {nm_Shut q_Shut : Str} {N_Shut : Addr} {bs_Shut : List Value} {sn_Shut : List Str} {sub_Shut : List Value} {ab_Shut : Bool} {col_Shut : Option Bool} {dd_Shut : Option Addr} {m0_Shut m1_Shut m2_Shut m3_Shut m5_Shut : Option Value}
    {iod_Shut ian_Shut : Option Addr} {isl_Shut : Array (Option Value)} {ioc_Shut ikV_Shut idc_Shut ipm_Shut icd_Shut ict_Shut : Value}
    {C_NoSpot B_NoSpot i_NoSpot : Addr} {nm_NoSpot q_NoSpot : Str} {N_NoSpot : Addr} {bs_NoSpot : List Value} {sn_NoSpot : List Str} {sub_NoSpot : List Value} {ab_NoSpot : Bool} {col_NoSpot : Option Bool} {dd_NoSpot : Option Addr} {m0_NoSpot m1_NoSpot m2_NoSpot m3_NoSpot m5_NoSpot : Option Value}
    {iod_NoSpot ian_NoSpot : Option Addr} {isl_NoSpot : Array (Option Value)} {ioc_NoSpot ikV_NoSpot idc_NoSpot ipm_NoSpot icd_NoSpot ict_NoSpot : Value}
    {C_BadNumber B_BadNumber i_BadNumber : Addr} {nm_BadNumber q_BadNumber : Str} {N_BadNumber : Addr} {bs_BadNumber : List Value} {sn_BadNumber : List Str} {sub_BadNumber : List Value} {ab_BadNumber : Bool} {col_BadNumber : Option Bool} {dd_BadNumber : Option Addr} {m0_BadNumber m1_BadNumber m2_BadNumber m3_BadNumber m5_BadNumber : Option Value}
    {iod_BadNumber ian_BadNumber : Option Addr} {isl_BadNumber : Array (Option Value)} {ioc_BadNumber ikV_BadNumber idc_BadNumber ipm_BadNumber icd_BadNumber ict_BadNumber : Value}
    {C_NoPolynomial B_NoPolynomial i_NoPolynomial : Addr} {nm_NoPolynomial q_NoPolynomial : Str} {N_NoPolynomial : Addr} {bs_NoPolynomial : List Value} {sn_NoPolynomial : List Str} {sub_NoPolynomial : List Value} {ab_NoPolynomial : Bool} {col_NoPolynomial : Option Bool} {dd_NoPolynomial : Option Addr} {m0_NoPolynomial m1_NoPolynomial m2_NoPolynomial m3_NoPolynomial m5_NoPolynomial : Option Value}
    {iod_NoPolynomial ian_NoPolynomial : Option Addr} {isl_NoPolynomial : Array (Option Value)} {ioc_NoPolynomial ikV_NoPolynomial idc_NoPolynomial ipm_NoPolynomial icd_NoPolynomial ict_NoPolynomial : Value}
    {C_BadLot B_BadLot i_BadLot : Addr} {nm_BadLot q_BadLot : Str} {N_BadLot : Addr} {bs_BadLot : List Value} {sn_BadLot : List Str} {sub_BadLot : List Value} {ab_BadLot : Bool} {col_BadLot : Option Bool} {dd_BadLot : Option Addr} {m0_BadLot m1_BadLot m2_BadLot m3_BadLot m5_BadLot : Option Value}
    {iod_BadLot ian_BadLot : Option Addr} {isl_BadLot : Array (Option Value)} {ioc_BadLot ikV_BadLot idc_BadLot ipm_BadLot icd_BadLot ict_BadLot : Value}
    {C_BadBook B_BadBook i_BadBook : Addr} {nm_BadBook q_BadBook : Str} {N_BadBook : Addr} {bs_BadBook : List Value} {sn_BadBook : List Str} {sub_BadBook : List Value} {ab_BadBook : Bool} {col_BadBook : Option Bool} {dd_BadBook : Option Addr} {m0_BadBook m1_BadBook m2_BadBook m3_BadBook m5_BadBook : Option Value}
    {iod_BadBook ian_BadBook : Option Addr} {isl_BadBook : Array (Option Value)} {ioc_BadBook ikV_BadBook idc_BadBook ipm_BadBook icd_BadBook ict_BadBook : Value}
    {C_BadTold B_BadTold i_BadTold : Addr} {nm_BadTold q_BadTold : Str} {N_BadTold : Addr} {bs_BadTold : List Value} {sn_BadTold : List Str} {sub_BadTold : List Value} {ab_BadTold : Bool} {col_BadTold : Option Bool} {dd_BadTold : Option Addr} {m0_BadTold m1_BadTold m2_BadTold m3_BadTold m5_BadTold : Option Value}
    {iod_BadTold ian_BadTold : Option Addr} {isl_BadTold : Array (Option Value)} {ioc_BadTold ikV_BadTold idc_BadTold ipm_BadTold icd_BadTold ict_BadTold : Value}
    {C_NoFit B_NoFit i_NoFit : Addr} {nm_NoFit q_NoFit : Str} {N_NoFit : Addr} {bs_NoFit : List Value} {sn_NoFit : List Str} {sub_NoFit : List Value} {ab_NoFit : Bool} {col_NoFit : Option Bool} {dd_NoFit : Option Addr} {m0_NoFit m1_NoFit m2_NoFit m3_NoFit m5_NoFit : Option Value}
    {iod_NoFit ian_NoFit : Option Addr} {isl_NoFit : Array (Option Value)} {ioc_NoFit ikV_NoFit idc_NoFit ipm_NoFit icd_NoFit ict_NoFit : Value}
    {C_BadPrices B_BadPrices i_BadPrices : Addr} {nm_BadPrices q_BadPrices : Str} {N_BadPrices : Addr} {bs_BadPrices : List Value} {sn_BadPrices : List Str} {sub_BadPrices : List Value} {ab_BadPrices : Bool} {col_BadPrices : Option Bool} {dd_BadPrices : Option Addr} {m0_BadPrices m1_BadPrices m2_BadPrices m3_BadPrices m5_BadPrices : Option Value}
    {iod_BadPrices ian_BadPrices : Option Addr} {isl_BadPrices : Array (Option Value)} {ioc_BadPrices ikV_BadPrices idc_BadPrices ipm_BadPrices icd_BadPrices ict_BadPrices : Value}
    {C_BadHeld B_BadHeld i_BadHeld : Addr} {nm_BadHeld q_BadHeld : Str} {N_BadHeld : Addr} {bs_BadHeld : List Value} {sn_BadHeld : List Str} {sub_BadHeld : List Value} {ab_BadHeld : Bool} {col_BadHeld : Option Bool} {dd_BadHeld : Option Addr} {m0_BadHeld m1_BadHeld m2_BadHeld m3_BadHeld m5_BadHeld : Option Value}
    {iod_BadHeld ian_BadHeld : Option Addr} {isl_BadHeld : Array (Option Value)} {ioc_BadHeld ikV_BadHeld idc_BadHeld ipm_BadHeld icd_BadHeld ict_BadHeld : Value}
    {C_NotHeld B_NotHeld i_NotHeld : Addr} {nm_NotHeld q_NotHeld : Str} {N_NotHeld : Addr} {bs_NotHeld : List Value} {sn_NotHeld : List Str} {sub_NotHeld : List Value} {ab_NotHeld : Bool} {col_NotHeld : Option Bool} {dd_NotHeld : Option Addr} {m0_NotHeld m1_NotHeld m2_NotHeld m3_NotHeld m5_NotHeld : Option Value}
    {iod_NotHeld ian_NotHeld : Option Addr} {isl_NotHeld : Array (Option Value)} {ioc_NotHeld ikV_NotHeld idc_NotHeld ipm_NotHeld icd_NotHeld ict_NotHeld : Value}
    {C_BadSeam B_BadSeam i_BadSeam : Addr} {nm_BadSeam q_BadSeam : Str} {N_BadSeam : Addr} {bs_BadSeam : List Value} {sn_BadSeam : List Str} {sub_BadSeam : List Value} {ab_BadSeam : Bool} {col_BadSeam : Option Bool} {dd_BadSeam : Option Addr} {m0_BadSeam m1_BadSeam m2_BadSeam m3_BadSeam m5_BadSeam : Option Value}
    {iod_BadSeam ian_BadSeam : Option Addr} {isl_BadSeam : Array (Option Value)} {ioc_BadSeam ikV_BadSeam idc_BadSeam ipm_BadSeam icd_BadSeam ict_BadSeam : Value}
    {C_BadTable B_BadTable i_BadTable : Addr} {nm_BadTable q_BadTable : Str} {N_BadTable : Addr} {bs_BadTable : List Value} {sn_BadTable : List Str} {sub_BadTable : List Value} {ab_BadTable : Bool} {col_BadTable : Option Bool} {dd_BadTable : Option Addr} {m0_BadTable m1_BadTable m2_BadTable m3_BadTable m5_BadTable : Option Value}
    {iod_BadTable ian_BadTable : Option Addr} {isl_BadTable : Array (Option Value)} {ioc_BadTable ikV_BadTable idc_BadTable ipm_BadTable icd_BadTable ict_BadTable : Value}
    {C_BadWish B_BadWish i_BadWish : Addr} {nm_BadWish q_BadWish : Str} {N_BadWish : Addr} {bs_BadWish : List Value} {sn_BadWish : List Str} {sub_BadWish : List Value} {ab_BadWish : Bool} {col_BadWish : Option Bool} {dd_BadWish : Option Addr} {m0_BadWish m1_BadWish m2_BadWish m3_BadWish m5_BadWish : Option Value}
    {iod_BadWish ian_BadWish : Option Addr} {isl_BadWish : Array (Option Value)} {ioc_BadWish ikV_BadWish idc_BadWish ipm_BadWish icd_BadWish ict_BadWish : Value}
    {C_BadLengths B_BadLengths i_BadLengths : Addr} {nm_BadLengths q_BadLengths : Str} {N_BadLengths : Addr} {bs_BadLengths : List Value} {sn_BadLengths : List Str} {sub_BadLengths : List Value} {ab_BadLengths : Bool} {col_BadLengths : Option Bool} {dd_BadLengths : Option Addr} {m0_BadLengths m1_BadLengths m2_BadLengths m3_BadLengths m5_BadLengths : Option Value}
    {iod_BadLengths ian_BadLengths : Option Addr} {isl_BadLengths : Array (Option Value)} {ioc_BadLengths ikV_BadLengths idc_BadLengths ipm_BadLengths icd_BadLengths ict_BadLengths : Value}
    {C_NoSlit B_NoSlit i_NoSlit : Addr} {nm_NoSlit q_NoSlit : Str} {N_NoSlit : Addr} {bs_NoSlit : List Value} {sn_NoSlit : List Str} {sub_NoSlit : List Value} {ab_NoSlit : Bool} {col_NoSlit : Option Bool} {dd_NoSlit : Option Addr} {m0_NoSlit m1_NoSlit m2_NoSlit m3_NoSlit m5_NoSlit : Option Value}
    {iod_NoSlit ian_NoSlit : Option Addr} {isl_NoSlit : Array (Option Value)} {ioc_NoSlit ikV_NoSlit idc_NoSlit ipm_NoSlit icd_NoSlit ict_NoSlit : Value}
    {C_NoPart B_NoPart i_NoPart : Addr} {nm_NoPart q_NoPart : Str} {N_NoPart : Addr} {bs_NoPart : List Value} {sn_NoPart : List Str} {sub_NoPart : List Value} {ab_NoPart : Bool} {col_NoPart : Option Bool} {dd_NoPart : Option Addr} {m0_NoPart m1_NoPart m2_NoPart m3_NoPart m5_NoPart : Option Value}
    {iod_NoPart ian_NoPart : Option Addr} {isl_NoPart : Array (Option Value)} {ioc_NoPart ikV_NoPart idc_NoPart ipm_NoPart icd_NoPart ict_NoPart : Value}
    {C_BadText B_BadText i_BadText : Addr} {nm_BadText q_BadText : Str} {N_BadText : Addr} {bs_BadText : List Value} {sn_BadText : List Str} {sub_BadText : List Value} {ab_BadText : Bool} {col_BadText : Option Bool} {dd_BadText : Option Addr} {m0_BadText m1_BadText m2_BadText m3_BadText m5_BadText : Option Value}
    {iod_BadText ian_BadText : Option Addr} {isl_BadText : Array (Option Value)} {ioc_BadText ikV_BadText idc_BadText ipm_BadText icd_BadText ict_BadText : Value}
    {C_NoTree B_NoTree i_NoTree : Addr} {nm_NoTree q_NoTree : Str} {N_NoTree : Addr} {bs_NoTree : List Value} {sn_NoTree : List Str} {sub_NoTree : List Value} {ab_NoTree : Bool} {col_NoTree : Option Bool} {dd_NoTree : Option Addr} {m0_NoTree m1_NoTree m2_NoTree m3_NoTree m5_NoTree : Option Value}
    {iod_NoTree ian_NoTree : Option Addr} {isl_NoTree : Array (Option Value)} {ioc_NoTree ikV_NoTree idc_NoTree ipm_NoTree icd_NoTree ict_NoTree : Value}
    {C_LiesOver B_LiesOver i_LiesOver : Addr} {nm_LiesOver q_LiesOver : Str} {N_LiesOver : Addr} {bs_LiesOver : List Value} {sn_LiesOver : List Str} {sub_LiesOver : List Value} {ab_LiesOver : Bool} {col_LiesOver : Option Bool} {dd_LiesOver : Option Addr} {m0_LiesOver m1_LiesOver m2_LiesOver m3_LiesOver m5_LiesOver : Option Value}
    {iod_LiesOver ian_LiesOver : Option Addr} {isl_LiesOver : Array (Option Value)} {ioc_LiesOver ikV_LiesOver idc_LiesOver ipm_LiesOver icd_LiesOver ict_LiesOver : Value}
    {C_NoUndo B_NoUndo i_NoUndo : Addr} {nm_NoUndo q_NoUndo : Str} {N_NoUndo : Addr} {bs_NoUndo : List Value} {sn_NoUndo : List Str} {sub_NoUndo : List Value} {ab_NoUndo : Bool} {col_NoUndo : Option Bool} {dd_NoUndo : Option Addr} {m0_NoUndo m1_NoUndo m2_NoUndo m3_NoUndo m5_NoUndo : Option Value}
    {iod_NoUndo ian_NoUndo : Option Addr} {isl_NoUndo : Array (Option Value)} {ioc_NoUndo ikV_NoUndo idc_NoUndo ipm_NoUndo icd_NoUndo ict_NoUndo : Value}
    {C_BadTries B_BadTries i_BadTries : Addr} {nm_BadTries q_BadTries : Str} {N_BadTries : Addr} {bs_BadTries : List Value} {sn_BadTries : List Str} {sub_BadTries : List Value} {ab_BadTries : Bool} {col_BadTries : Option Bool} {dd_BadTries : Option Addr} {m0_BadTries m1_BadTries m2_BadTries m3_BadTries m5_BadTries : Option Value}
    {iod_BadTries ian_BadTries : Option Addr} {isl_BadTries : Array (Option Value)} {ioc_BadTries ikV_BadTries idc_BadTries ipm_BadTries icd_BadTries ict_BadTries : Value}
    (a_law_mixed : PySem.W.nsIn K mainGlobals "_law_mixed" = some (some (.ref f_law_mixed)))
    (l_law_mixed : K.lookup f_law_mixed = some ⟨oc_law_mixed, od_law_mixed, .func (PySem.W.fnOf "_law_mixed" "_law_mixed" (defArgs s_law_mixed) (defBody s_law_mixed) (defScope s_law_mixed) .none kV_law_mixed dc_law_mixed pm_law_mixed an_law_mixed cd_law_mixed ct_law_mixed), sl_law_mixed⟩)
    (c_law_mixed : PySem.W.codeIn K cd_law_mixed "_law_mixed" = true)
    (k_law_mixed : PySem.W.keepIn K (.ref f_law_mixed) = true)
    (a_law_great : PySem.W.nsIn K mainGlobals "_law_great" = some (some (.ref f_law_great)))
    (l_law_great : K.lookup f_law_great = some ⟨oc_law_great, od_law_great, .func (PySem.W.fnOf "_law_great" "_law_great" (defArgs s_law_great) (defBody s_law_great) (defScope s_law_great) .none kV_law_great dc_law_great pm_law_great an_law_great cd_law_great ct_law_great), sl_law_great⟩)
    (c_law_great : PySem.W.codeIn K cd_law_great "_law_great" = true)
    (k_law_great : PySem.W.keepIn K (.ref f_law_great) = true)
    (a_law_stream : PySem.W.nsIn K mainGlobals "_law_stream" = some (some (.ref f_law_stream)))
    (l_law_stream : K.lookup f_law_stream = some ⟨oc_law_stream, od_law_stream, .func (PySem.W.fnOf "_law_stream" "_law_stream" (defArgs s_law_stream) (defBody s_law_stream) (defScope s_law_stream) .none kV_law_stream dc_law_stream pm_law_stream an_law_stream cd_law_stream ct_law_stream), sl_law_stream⟩)
    (c_law_stream : PySem.W.codeIn K cd_law_stream "_law_stream" = true)
    (k_law_stream : PySem.W.keepIn K (.ref f_law_stream) = true)
    (a_law_take : PySem.W.nsIn K mainGlobals "_law_take" = some (some (.ref f_law_take)))
    (l_law_take : K.lookup f_law_take = some ⟨oc_law_take, od_law_take, .func (PySem.W.fnOf "_law_take" "_law_take" (defArgs s_law_take) (defBody s_law_take) (defScope s_law_take) .none kV_law_take dc_law_take pm_law_take an_law_take cd_law_take ct_law_take), sl_law_take⟩)
    (c_law_take : PySem.W.codeIn K cd_law_take "_law_take" = true)
    (k_law_take : PySem.W.keepIn K (.ref f_law_take) = true)
    (a_law_whole : PySem.W.nsIn K mainGlobals "_law_whole" = some (some (.ref f_law_whole)))
    (l_law_whole : K.lookup f_law_whole = some ⟨oc_law_whole, od_law_whole, .func (PySem.W.fnOf "_law_whole" "_law_whole" (defArgs s_law_whole) (defBody s_law_whole) (defScope s_law_whole) .none kV_law_whole dc_law_whole pm_law_whole an_law_whole cd_law_whole ct_law_whole), sl_law_whole⟩)
    (c_law_whole : PySem.W.codeIn K cd_law_whole "_law_whole" = true)
    (k_law_whole : PySem.W.keepIn K (.ref f_law_whole) = true)
    (a_law_raise_early : PySem.W.nsIn K mainGlobals "_law_raise_early" = some (some (.ref f_law_raise_early)))
    (l_law_raise_early : K.lookup f_law_raise_early = some ⟨oc_law_raise_early, od_law_raise_early, .func (PySem.W.fnOf "_law_raise_early" "_law_raise_early" (defArgs s_law_raise_early) (defBody s_law_raise_early) (defScope s_law_raise_early) .none kV_law_raise_early dc_law_raise_early pm_law_raise_early an_law_raise_early cd_law_raise_early ct_law_raise_early), sl_law_raise_early⟩)
    (c_law_raise_early : PySem.W.codeIn K cd_law_raise_early "_law_raise_early" = true)
    (k_law_raise_early : PySem.W.keepIn K (.ref f_law_raise_early) = true)
    (a_law_raise_late : PySem.W.nsIn K mainGlobals "_law_raise_late" = some (some (.ref f_law_raise_late)))
    (l_law_raise_late : K.lookup f_law_raise_late = some ⟨oc_law_raise_late, od_law_raise_late, .func (PySem.W.fnOf "_law_raise_late" "_law_raise_late" (defArgs s_law_raise_late) (defBody s_law_raise_late) (defScope s_law_raise_late) .none kV_law_raise_late dc_law_raise_late pm_law_raise_late an_law_raise_late cd_law_raise_late ct_law_raise_late), sl_law_raise_late⟩)
    (c_law_raise_late : PySem.W.codeIn K cd_law_raise_late "_law_raise_late" = true)
    (k_law_raise_late : PySem.W.keepIn K (.ref f_law_raise_late) = true)
    (a_law_raise : PySem.W.nsIn K mainGlobals "_law_raise" = some (some (.ref f_law_raise)))
    (l_law_raise : K.lookup f_law_raise = some ⟨oc_law_raise, od_law_raise, .func (PySem.W.fnOf "_law_raise" "_law_raise" (defArgs s_law_raise) (defBody s_law_raise) (defScope s_law_raise) .none kV_law_raise dc_law_raise pm_law_raise an_law_raise cd_law_raise ct_law_raise), sl_law_raise⟩)
    (c_law_raise : PySem.W.codeIn K cd_law_raise "_law_raise" = true)
    (k_law_raise : PySem.W.keepIn K (.ref f_law_raise) = true)
    (a_law_classes : PySem.W.nsIn K mainGlobals "_law_classes" = some (some (.ref f_law_classes)))
    (l_law_classes : K.lookup f_law_classes = some ⟨oc_law_classes, od_law_classes, .func (PySem.W.fnOf "_law_classes" "_law_classes" (defArgs s_law_classes) (defBody s_law_classes) (defScope s_law_classes) .none kV_law_classes dc_law_classes pm_law_classes an_law_classes cd_law_classes ct_law_classes), sl_law_classes⟩)
    (c_law_classes : PySem.W.codeIn K cd_law_classes "_law_classes" = true)
    (k_law_classes : PySem.W.keepIn K (.ref f_law_classes) = true)
    (a_law_fields : PySem.W.nsIn K mainGlobals "_law_fields" = some (some (.ref f_law_fields)))
    (l_law_fields : K.lookup f_law_fields = some ⟨oc_law_fields, od_law_fields, .func (PySem.W.fnOf "_law_fields" "_law_fields" (defArgs s_law_fields) (defBody s_law_fields) (defScope s_law_fields) .none kV_law_fields dc_law_fields pm_law_fields an_law_fields cd_law_fields ct_law_fields), sl_law_fields⟩)
    (c_law_fields : PySem.W.codeIn K cd_law_fields "_law_fields" = true)
    (k_law_fields : PySem.W.keepIn K (.ref f_law_fields) = true)
    (a_law_due : PySem.W.nsIn K mainGlobals "_law_due" = some (some (.ref f_law_due)))
    (l_law_due : K.lookup f_law_due = some ⟨oc_law_due, od_law_due, .func (PySem.W.fnOf "_law_due" "_law_due" (defArgs s_law_due) (defBody s_law_due) (defScope s_law_due) .none kV_law_due dc_law_due pm_law_due an_law_due cd_law_due ct_law_due), sl_law_due⟩)
    (c_law_due : PySem.W.codeIn K cd_law_due "_law_due" = true)
    (k_law_due : PySem.W.keepIn K (.ref f_law_due) = true)
    (a_law_asked : PySem.W.nsIn K mainGlobals "_law_asked" = some (some (.ref f_law_asked)))
    (l_law_asked : K.lookup f_law_asked = some ⟨oc_law_asked, od_law_asked, .func (PySem.W.fnOf "_law_asked" "_law_asked" (defArgs s_law_asked) (defBody s_law_asked) (defScope s_law_asked) .none kV_law_asked dc_law_asked pm_law_asked an_law_asked cd_law_asked ct_law_asked), sl_law_asked⟩)
    (c_law_asked : PySem.W.codeIn K cd_law_asked "_law_asked" = true)
    (k_law_asked : PySem.W.keepIn K (.ref f_law_asked) = true)
    (a_law : PySem.W.nsIn K mainGlobals "law" = some (some (.ref f_law)))
    (l_law : K.lookup f_law = some ⟨oc_law, od_law, .func (PySem.W.fnOf "law" "law" (defArgs s_law) (defBody s_law) (defScope s_law) .none kV_law dc_law pm_law an_law cd_law ct_law), sl_law⟩)
    (c_law : PySem.W.codeIn K cd_law "law" = true)
    (k_law : PySem.W.keepIn K (.ref f_law) = true)
    (aC_FoldError : PySem.W.nsIn K mainGlobals "FoldError" = some (some (.ref C_FoldError)))
    (ex_FoldError : PySem.W.excIn K C_FoldError [.type "ValueError", .type "Exception", .type "BaseException", .type "object"] "ValueError.__new__" = true)
    (kC_FoldError : PySem.W.keepIn K (.ref C_FoldError) = true)
    (eC_FoldError : PySem.W.subIn K (.ref C_FoldError) (.type "BaseException") = some true)
    (tC_FoldError : PySem.W.typeIn K (.ref C_FoldError) = some (.type "type"))
    (aC_NoFraction : PySem.W.nsIn K mainGlobals "NoFraction" = some (some (.ref C_NoFraction)))
    (xL_NoFraction : K.lookup C_NoFraction = some (excClassObj nm_NoFraction q_NoFraction C_NoFraction N_NoFraction bs_NoFraction [.ref B_NoFraction, .type "ValueError", .type "Exception", .type "BaseException", .type "object"] true sn_NoFraction sub_NoFraction ab_NoFraction col_NoFraction dd_NoFraction m0_NoFraction m1_NoFraction m2_NoFraction m3_NoFraction m5_NoFraction "ValueError.__new__"))
    (sa_NoFraction : PySem.W.findIn K (.ref C_NoFraction) "__setattr__" = some (some (.builtin "object.__setattr__")))
    (in_NoFraction : PySem.W.findIn K (.ref C_NoFraction) "__init__" = some (some (.ref i_NoFraction)))
    (ti_NoFraction : PySem.W.typeIn K (.ref i_NoFraction) = some (.type "function"))
    (li_NoFraction : K.lookup i_NoFraction = some ⟨ioc_NoFraction, iod_NoFraction, .func (PySem.W.fnOf "__init__" "NoFraction.__init__" (defArgs i0_NoFraction) (defBody i0_NoFraction) (defScope i0_NoFraction) .none ikV_NoFraction idc_NoFraction ipm_NoFraction ian_NoFraction icd_NoFraction ict_NoFraction), isl_NoFraction⟩)
    (ci_NoFraction : PySem.W.codeIn K icd_NoFraction "NoFraction.__init__" = true)
    (ki_NoFraction : PySem.W.keepIn K (.ref i_NoFraction) = true)
    (kC_NoFraction : PySem.W.keepIn K (.ref C_NoFraction) = true)
    (eC_NoFraction : PySem.W.subIn K (.ref C_NoFraction) (.type "BaseException") = some true)
    (tC_NoFraction : PySem.W.typeIn K (.ref C_NoFraction) = some (.type "type"))
    (te_NoFraction : PySem.W.exmOne K (.ref C_NoFraction) (.ref C_NoFraction) = some true)
    (aC_NoPoint : PySem.W.nsIn K mainGlobals "NoPoint" = some (some (.ref C_NoPoint)))
    (xL_NoPoint : K.lookup C_NoPoint = some (excClassObj nm_NoPoint q_NoPoint C_NoPoint N_NoPoint bs_NoPoint [.ref B_NoPoint, .type "ValueError", .type "Exception", .type "BaseException", .type "object"] true sn_NoPoint sub_NoPoint ab_NoPoint col_NoPoint dd_NoPoint m0_NoPoint m1_NoPoint m2_NoPoint m3_NoPoint m5_NoPoint "ValueError.__new__"))
    (sa_NoPoint : PySem.W.findIn K (.ref C_NoPoint) "__setattr__" = some (some (.builtin "object.__setattr__")))
    (in_NoPoint : PySem.W.findIn K (.ref C_NoPoint) "__init__" = some (some (.ref i_NoPoint)))
    (ti_NoPoint : PySem.W.typeIn K (.ref i_NoPoint) = some (.type "function"))
    (li_NoPoint : K.lookup i_NoPoint = some ⟨ioc_NoPoint, iod_NoPoint, .func (PySem.W.fnOf "__init__" "NoPoint.__init__" (defArgs i0_NoPoint) (defBody i0_NoPoint) (defScope i0_NoPoint) .none ikV_NoPoint idc_NoPoint ipm_NoPoint ian_NoPoint icd_NoPoint ict_NoPoint), isl_NoPoint⟩)
    (ci_NoPoint : PySem.W.codeIn K icd_NoPoint "NoPoint.__init__" = true)
    (ki_NoPoint : PySem.W.keepIn K (.ref i_NoPoint) = true)
    (kC_NoPoint : PySem.W.keepIn K (.ref C_NoPoint) = true)
    (eC_NoPoint : PySem.W.subIn K (.ref C_NoPoint) (.type "BaseException") = some true)
    (tC_NoPoint : PySem.W.typeIn K (.ref C_NoPoint) = some (.type "type"))
    (te_NoPoint : PySem.W.exmOne K (.ref C_NoPoint) (.ref C_NoPoint) = some true)
    (aC_NoPlate : PySem.W.nsIn K mainGlobals "NoPlate" = some (some (.ref C_NoPlate)))
    (xL_NoPlate : K.lookup C_NoPlate = some (excClassObj nm_NoPlate q_NoPlate C_NoPlate N_NoPlate bs_NoPlate [.ref B_NoPlate, .type "ValueError", .type "Exception", .type "BaseException", .type "object"] true sn_NoPlate sub_NoPlate ab_NoPlate col_NoPlate dd_NoPlate m0_NoPlate m1_NoPlate m2_NoPlate m3_NoPlate m5_NoPlate "ValueError.__new__"))
    (sa_NoPlate : PySem.W.findIn K (.ref C_NoPlate) "__setattr__" = some (some (.builtin "object.__setattr__")))
    (in_NoPlate : PySem.W.findIn K (.ref C_NoPlate) "__init__" = some (some (.ref i_NoPlate)))
    (ti_NoPlate : PySem.W.typeIn K (.ref i_NoPlate) = some (.type "function"))
    (li_NoPlate : K.lookup i_NoPlate = some ⟨ioc_NoPlate, iod_NoPlate, .func (PySem.W.fnOf "__init__" "NoPlate.__init__" (defArgs i0_NoPlate) (defBody i0_NoPlate) (defScope i0_NoPlate) .none ikV_NoPlate idc_NoPlate ipm_NoPlate ian_NoPlate icd_NoPlate ict_NoPlate), isl_NoPlate⟩)
    (ci_NoPlate : PySem.W.codeIn K icd_NoPlate "NoPlate.__init__" = true)
    (ki_NoPlate : PySem.W.keepIn K (.ref i_NoPlate) = true)
    (kC_NoPlate : PySem.W.keepIn K (.ref C_NoPlate) = true)
    (eC_NoPlate : PySem.W.subIn K (.ref C_NoPlate) (.type "BaseException") = some true)
    (tC_NoPlate : PySem.W.typeIn K (.ref C_NoPlate) = some (.type "type"))
    (te_NoPlate : PySem.W.exmOne K (.ref C_NoPlate) (.ref C_NoPlate) = some true)
    (aC_BadCorners : PySem.W.nsIn K mainGlobals "BadCorners" = some (some (.ref C_BadCorners)))
    (xL_BadCorners : K.lookup C_BadCorners = some (excClassObj nm_BadCorners q_BadCorners C_BadCorners N_BadCorners bs_BadCorners [.ref B_BadCorners, .type "ValueError", .type "Exception", .type "BaseException", .type "object"] true sn_BadCorners sub_BadCorners ab_BadCorners col_BadCorners dd_BadCorners m0_BadCorners m1_BadCorners m2_BadCorners m3_BadCorners m5_BadCorners "ValueError.__new__"))
    (sa_BadCorners : PySem.W.findIn K (.ref C_BadCorners) "__setattr__" = some (some (.builtin "object.__setattr__")))
    (in_BadCorners : PySem.W.findIn K (.ref C_BadCorners) "__init__" = some (some (.ref i_BadCorners)))
    (ti_BadCorners : PySem.W.typeIn K (.ref i_BadCorners) = some (.type "function"))
    (li_BadCorners : K.lookup i_BadCorners = some ⟨ioc_BadCorners, iod_BadCorners, .func (PySem.W.fnOf "__init__" "BadCorners.__init__" (defArgs i0_BadCorners) (defBody i0_BadCorners) (defScope i0_BadCorners) .none ikV_BadCorners idc_BadCorners ipm_BadCorners ian_BadCorners icd_BadCorners ict_BadCorners), isl_BadCorners⟩)
    (ci_BadCorners : PySem.W.codeIn K icd_BadCorners "BadCorners.__init__" = true)
    (ki_BadCorners : PySem.W.keepIn K (.ref i_BadCorners) = true)
    (kC_BadCorners : PySem.W.keepIn K (.ref C_BadCorners) = true)
    (eC_BadCorners : PySem.W.subIn K (.ref C_BadCorners) (.type "BaseException") = some true)
    (tC_BadCorners : PySem.W.typeIn K (.ref C_BadCorners) = some (.type "type"))
    (aC_BadPlates : PySem.W.nsIn K mainGlobals "BadPlates" = some (some (.ref C_BadPlates)))
    (xL_BadPlates : K.lookup C_BadPlates = some (excClassObj nm_BadPlates q_BadPlates C_BadPlates N_BadPlates bs_BadPlates [.ref B_BadPlates, .type "ValueError", .type "Exception", .type "BaseException", .type "object"] true sn_BadPlates sub_BadPlates ab_BadPlates col_BadPlates dd_BadPlates m0_BadPlates m1_BadPlates m2_BadPlates m3_BadPlates m5_BadPlates "ValueError.__new__"))
    (sa_BadPlates : PySem.W.findIn K (.ref C_BadPlates) "__setattr__" = some (some (.builtin "object.__setattr__")))
    (in_BadPlates : PySem.W.findIn K (.ref C_BadPlates) "__init__" = some (some (.ref i_BadPlates)))
    (ti_BadPlates : PySem.W.typeIn K (.ref i_BadPlates) = some (.type "function"))
    (li_BadPlates : K.lookup i_BadPlates = some ⟨ioc_BadPlates, iod_BadPlates, .func (PySem.W.fnOf "__init__" "BadPlates.__init__" (defArgs i0_BadPlates) (defBody i0_BadPlates) (defScope i0_BadPlates) .none ikV_BadPlates idc_BadPlates ipm_BadPlates ian_BadPlates icd_BadPlates ict_BadPlates), isl_BadPlates⟩)
    (ci_BadPlates : PySem.W.codeIn K icd_BadPlates "BadPlates.__init__" = true)
    (ki_BadPlates : PySem.W.keepIn K (.ref i_BadPlates) = true)
    (kC_BadPlates : PySem.W.keepIn K (.ref C_BadPlates) = true)
    (eC_BadPlates : PySem.W.subIn K (.ref C_BadPlates) (.type "BaseException") = some true)
    (tC_BadPlates : PySem.W.typeIn K (.ref C_BadPlates) = some (.type "type"))
    (aC_BadSheet : PySem.W.nsIn K mainGlobals "BadSheet" = some (some (.ref C_BadSheet)))
    (xL_BadSheet : K.lookup C_BadSheet = some (excClassObj nm_BadSheet q_BadSheet C_BadSheet N_BadSheet bs_BadSheet [.ref B_BadSheet, .type "ValueError", .type "Exception", .type "BaseException", .type "object"] true sn_BadSheet sub_BadSheet ab_BadSheet col_BadSheet dd_BadSheet m0_BadSheet m1_BadSheet m2_BadSheet m3_BadSheet m5_BadSheet "ValueError.__new__"))
    (sa_BadSheet : PySem.W.findIn K (.ref C_BadSheet) "__setattr__" = some (some (.builtin "object.__setattr__")))
    (in_BadSheet : PySem.W.findIn K (.ref C_BadSheet) "__init__" = some (some (.ref i_BadSheet)))
    (ti_BadSheet : PySem.W.typeIn K (.ref i_BadSheet) = some (.type "function"))
    (li_BadSheet : K.lookup i_BadSheet = some ⟨ioc_BadSheet, iod_BadSheet, .func (PySem.W.fnOf "__init__" "BadSheet.__init__" (defArgs i0_BadSheet) (defBody i0_BadSheet) (defScope i0_BadSheet) .none ikV_BadSheet idc_BadSheet ipm_BadSheet ian_BadSheet icd_BadSheet ict_BadSheet), isl_BadSheet⟩)
    (ci_BadSheet : PySem.W.codeIn K icd_BadSheet "BadSheet.__init__" = true)
    (ki_BadSheet : PySem.W.keepIn K (.ref i_BadSheet) = true)
    (kC_BadSheet : PySem.W.keepIn K (.ref C_BadSheet) = true)
    (eC_BadSheet : PySem.W.subIn K (.ref C_BadSheet) (.type "BaseException") = some true)
    (tC_BadSheet : PySem.W.typeIn K (.ref C_BadSheet) = some (.type "type"))
    (aC_TooMany : PySem.W.nsIn K mainGlobals "TooMany" = some (some (.ref C_TooMany)))
    (xL_TooMany : K.lookup C_TooMany = some (excClassObj nm_TooMany q_TooMany C_TooMany N_TooMany bs_TooMany [.ref B_TooMany, .type "ValueError", .type "Exception", .type "BaseException", .type "object"] true sn_TooMany sub_TooMany ab_TooMany col_TooMany dd_TooMany m0_TooMany m1_TooMany m2_TooMany m3_TooMany m5_TooMany "ValueError.__new__"))
    (sa_TooMany : PySem.W.findIn K (.ref C_TooMany) "__setattr__" = some (some (.builtin "object.__setattr__")))
    (in_TooMany : PySem.W.findIn K (.ref C_TooMany) "__init__" = some (some (.ref i_TooMany)))
    (ti_TooMany : PySem.W.typeIn K (.ref i_TooMany) = some (.type "function"))
    (li_TooMany : K.lookup i_TooMany = some ⟨ioc_TooMany, iod_TooMany, .func (PySem.W.fnOf "__init__" "TooMany.__init__" (defArgs i0_TooMany) (defBody i0_TooMany) (defScope i0_TooMany) .none ikV_TooMany idc_TooMany ipm_TooMany ian_TooMany icd_TooMany ict_TooMany), isl_TooMany⟩)
    (ci_TooMany : PySem.W.codeIn K icd_TooMany "TooMany.__init__" = true)
    (ki_TooMany : PySem.W.keepIn K (.ref i_TooMany) = true)
    (kC_TooMany : PySem.W.keepIn K (.ref C_TooMany) = true)
    (eC_TooMany : PySem.W.subIn K (.ref C_TooMany) (.type "BaseException") = some true)
    (tC_TooMany : PySem.W.typeIn K (.ref C_TooMany) = some (.type "type"))
    (aC_NoCorner : PySem.W.nsIn K mainGlobals "NoCorner" = some (some (.ref C_NoCorner)))
    (xL_NoCorner : K.lookup C_NoCorner = some (excClassObj nm_NoCorner q_NoCorner C_NoCorner N_NoCorner bs_NoCorner [.ref B_NoCorner, .type "ValueError", .type "Exception", .type "BaseException", .type "object"] true sn_NoCorner sub_NoCorner ab_NoCorner col_NoCorner dd_NoCorner m0_NoCorner m1_NoCorner m2_NoCorner m3_NoCorner m5_NoCorner "ValueError.__new__"))
    (sa_NoCorner : PySem.W.findIn K (.ref C_NoCorner) "__setattr__" = some (some (.builtin "object.__setattr__")))
    (in_NoCorner : PySem.W.findIn K (.ref C_NoCorner) "__init__" = some (some (.ref i_NoCorner)))
    (ti_NoCorner : PySem.W.typeIn K (.ref i_NoCorner) = some (.type "function"))
    (li_NoCorner : K.lookup i_NoCorner = some ⟨ioc_NoCorner, iod_NoCorner, .func (PySem.W.fnOf "__init__" "NoCorner.__init__" (defArgs i0_NoCorner) (defBody i0_NoCorner) (defScope i0_NoCorner) .none ikV_NoCorner idc_NoCorner ipm_NoCorner ian_NoCorner icd_NoCorner ict_NoCorner), isl_NoCorner⟩)
    (ci_NoCorner : PySem.W.codeIn K icd_NoCorner "NoCorner.__init__" = true)
    (ki_NoCorner : PySem.W.keepIn K (.ref i_NoCorner) = true)
    (kC_NoCorner : PySem.W.keepIn K (.ref C_NoCorner) = true)
    (eC_NoCorner : PySem.W.subIn K (.ref C_NoCorner) (.type "BaseException") = some true)
    (tC_NoCorner : PySem.W.typeIn K (.ref C_NoCorner) = some (.type "type"))
    (te_NoCorner : PySem.W.exmOne K (.ref C_NoCorner) (.ref C_NoCorner) = some true)
    (aC_NoCrease : PySem.W.nsIn K mainGlobals "NoCrease" = some (some (.ref C_NoCrease)))
    (xL_NoCrease : K.lookup C_NoCrease = some (excClassObj nm_NoCrease q_NoCrease C_NoCrease N_NoCrease bs_NoCrease [.ref B_NoCrease, .type "ValueError", .type "Exception", .type "BaseException", .type "object"] true sn_NoCrease sub_NoCrease ab_NoCrease col_NoCrease dd_NoCrease m0_NoCrease m1_NoCrease m2_NoCrease m3_NoCrease m5_NoCrease "ValueError.__new__"))
    (sa_NoCrease : PySem.W.findIn K (.ref C_NoCrease) "__setattr__" = some (some (.builtin "object.__setattr__")))
    (in_NoCrease : PySem.W.findIn K (.ref C_NoCrease) "__init__" = some (some (.ref i_NoCrease)))
    (ti_NoCrease : PySem.W.typeIn K (.ref i_NoCrease) = some (.type "function"))
    (li_NoCrease : K.lookup i_NoCrease = some ⟨ioc_NoCrease, iod_NoCrease, .func (PySem.W.fnOf "__init__" "NoCrease.__init__" (defArgs i0_NoCrease) (defBody i0_NoCrease) (defScope i0_NoCrease) .none ikV_NoCrease idc_NoCrease ipm_NoCrease ian_NoCrease icd_NoCrease ict_NoCrease), isl_NoCrease⟩)
    (ci_NoCrease : PySem.W.codeIn K icd_NoCrease "NoCrease.__init__" = true)
    (ki_NoCrease : PySem.W.keepIn K (.ref i_NoCrease) = true)
    (kC_NoCrease : PySem.W.keepIn K (.ref C_NoCrease) = true)
    (eC_NoCrease : PySem.W.subIn K (.ref C_NoCrease) (.type "BaseException") = some true)
    (tC_NoCrease : PySem.W.typeIn K (.ref C_NoCrease) = some (.type "type"))
    (te_NoCrease : PySem.W.exmOne K (.ref C_NoCrease) (.ref C_NoCrease) = some true)
    (aC_NoNumbers : PySem.W.nsIn K mainGlobals "NoNumbers" = some (some (.ref C_NoNumbers)))
    (xL_NoNumbers : K.lookup C_NoNumbers = some (excClassObj nm_NoNumbers q_NoNumbers C_NoNumbers N_NoNumbers bs_NoNumbers [.ref B_NoNumbers, .type "ValueError", .type "Exception", .type "BaseException", .type "object"] true sn_NoNumbers sub_NoNumbers ab_NoNumbers col_NoNumbers dd_NoNumbers m0_NoNumbers m1_NoNumbers m2_NoNumbers m3_NoNumbers m5_NoNumbers "ValueError.__new__"))
    (sa_NoNumbers : PySem.W.findIn K (.ref C_NoNumbers) "__setattr__" = some (some (.builtin "object.__setattr__")))
    (in_NoNumbers : PySem.W.findIn K (.ref C_NoNumbers) "__init__" = some (some (.ref i_NoNumbers)))
    (ti_NoNumbers : PySem.W.typeIn K (.ref i_NoNumbers) = some (.type "function"))
    (li_NoNumbers : K.lookup i_NoNumbers = some ⟨ioc_NoNumbers, iod_NoNumbers, .func (PySem.W.fnOf "__init__" "NoNumbers.__init__" (defArgs i0_NoNumbers) (defBody i0_NoNumbers) (defScope i0_NoNumbers) .none ikV_NoNumbers idc_NoNumbers ipm_NoNumbers ian_NoNumbers icd_NoNumbers ict_NoNumbers), isl_NoNumbers⟩)
    (ci_NoNumbers : PySem.W.codeIn K icd_NoNumbers "NoNumbers.__init__" = true)
    (ki_NoNumbers : PySem.W.keepIn K (.ref i_NoNumbers) = true)
    (kC_NoNumbers : PySem.W.keepIn K (.ref C_NoNumbers) = true)
    (eC_NoNumbers : PySem.W.subIn K (.ref C_NoNumbers) (.type "BaseException") = some true)
    (tC_NoNumbers : PySem.W.typeIn K (.ref C_NoNumbers) = some (.type "type"))
    (te_NoNumbers : PySem.W.exmOne K (.ref C_NoNumbers) (.ref C_NoNumbers) = some true)
    (aC_NoStand : PySem.W.nsIn K mainGlobals "NoStand" = some (some (.ref C_NoStand)))
    (xL_NoStand : K.lookup C_NoStand = some (excClassObj nm_NoStand q_NoStand C_NoStand N_NoStand bs_NoStand [.ref B_NoStand, .type "ValueError", .type "Exception", .type "BaseException", .type "object"] true sn_NoStand sub_NoStand ab_NoStand col_NoStand dd_NoStand m0_NoStand m1_NoStand m2_NoStand m3_NoStand m5_NoStand "ValueError.__new__"))
    (sa_NoStand : PySem.W.findIn K (.ref C_NoStand) "__setattr__" = some (some (.builtin "object.__setattr__")))
    (in_NoStand : PySem.W.findIn K (.ref C_NoStand) "__init__" = some (some (.ref i_NoStand)))
    (ti_NoStand : PySem.W.typeIn K (.ref i_NoStand) = some (.type "function"))
    (li_NoStand : K.lookup i_NoStand = some ⟨ioc_NoStand, iod_NoStand, .func (PySem.W.fnOf "__init__" "NoStand.__init__" (defArgs i0_NoStand) (defBody i0_NoStand) (defScope i0_NoStand) .none ikV_NoStand idc_NoStand ipm_NoStand ian_NoStand icd_NoStand ict_NoStand), isl_NoStand⟩)
    (ci_NoStand : PySem.W.codeIn K icd_NoStand "NoStand.__init__" = true)
    (ki_NoStand : PySem.W.keepIn K (.ref i_NoStand) = true)
    (kC_NoStand : PySem.W.keepIn K (.ref C_NoStand) = true)
    (eC_NoStand : PySem.W.subIn K (.ref C_NoStand) (.type "BaseException") = some true)
    (tC_NoStand : PySem.W.typeIn K (.ref C_NoStand) = some (.type "type"))
    (te_NoStand : PySem.W.exmOne K (.ref C_NoStand) (.ref C_NoStand) = some true)
    (aC_BadChoice : PySem.W.nsIn K mainGlobals "BadChoice" = some (some (.ref C_BadChoice)))
    (xL_BadChoice : K.lookup C_BadChoice = some (excClassObj nm_BadChoice q_BadChoice C_BadChoice N_BadChoice bs_BadChoice [.ref B_BadChoice, .type "ValueError", .type "Exception", .type "BaseException", .type "object"] true sn_BadChoice sub_BadChoice ab_BadChoice col_BadChoice dd_BadChoice m0_BadChoice m1_BadChoice m2_BadChoice m3_BadChoice m5_BadChoice "ValueError.__new__"))
    (sa_BadChoice : PySem.W.findIn K (.ref C_BadChoice) "__setattr__" = some (some (.builtin "object.__setattr__")))
    (in_BadChoice : PySem.W.findIn K (.ref C_BadChoice) "__init__" = some (some (.ref i_BadChoice)))
    (ti_BadChoice : PySem.W.typeIn K (.ref i_BadChoice) = some (.type "function"))
    (li_BadChoice : K.lookup i_BadChoice = some ⟨ioc_BadChoice, iod_BadChoice, .func (PySem.W.fnOf "__init__" "BadChoice.__init__" (defArgs i0_BadChoice) (defBody i0_BadChoice) (defScope i0_BadChoice) .none ikV_BadChoice idc_BadChoice ipm_BadChoice ian_BadChoice icd_BadChoice ict_BadChoice), isl_BadChoice⟩)
    (ci_BadChoice : PySem.W.codeIn K icd_BadChoice "BadChoice.__init__" = true)
    (ki_BadChoice : PySem.W.keepIn K (.ref i_BadChoice) = true)
    (kC_BadChoice : PySem.W.keepIn K (.ref C_BadChoice) = true)
    (eC_BadChoice : PySem.W.subIn K (.ref C_BadChoice) (.type "BaseException") = some true)
    (tC_BadChoice : PySem.W.typeIn K (.ref C_BadChoice) = some (.type "type"))
    (te_BadChoice : PySem.W.exmOne K (.ref C_BadChoice) (.ref C_BadChoice) = some true)
    (aC_BadSpaces : PySem.W.nsIn K mainGlobals "BadSpaces" = some (some (.ref C_BadSpaces)))
    (xL_BadSpaces : K.lookup C_BadSpaces = some (excClassObj nm_BadSpaces q_BadSpaces C_BadSpaces N_BadSpaces bs_BadSpaces [.ref B_BadSpaces, .type "ValueError", .type "Exception", .type "BaseException", .type "object"] true sn_BadSpaces sub_BadSpaces ab_BadSpaces col_BadSpaces dd_BadSpaces m0_BadSpaces m1_BadSpaces m2_BadSpaces m3_BadSpaces m5_BadSpaces "ValueError.__new__"))
    (sa_BadSpaces : PySem.W.findIn K (.ref C_BadSpaces) "__setattr__" = some (some (.builtin "object.__setattr__")))
    (in_BadSpaces : PySem.W.findIn K (.ref C_BadSpaces) "__init__" = some (some (.ref i_BadSpaces)))
    (ti_BadSpaces : PySem.W.typeIn K (.ref i_BadSpaces) = some (.type "function"))
    (li_BadSpaces : K.lookup i_BadSpaces = some ⟨ioc_BadSpaces, iod_BadSpaces, .func (PySem.W.fnOf "__init__" "BadSpaces.__init__" (defArgs i0_BadSpaces) (defBody i0_BadSpaces) (defScope i0_BadSpaces) .none ikV_BadSpaces idc_BadSpaces ipm_BadSpaces ian_BadSpaces icd_BadSpaces ict_BadSpaces), isl_BadSpaces⟩)
    (ci_BadSpaces : PySem.W.codeIn K icd_BadSpaces "BadSpaces.__init__" = true)
    (ki_BadSpaces : PySem.W.keepIn K (.ref i_BadSpaces) = true)
    (kC_BadSpaces : PySem.W.keepIn K (.ref C_BadSpaces) = true)
    (eC_BadSpaces : PySem.W.subIn K (.ref C_BadSpaces) (.type "BaseException") = some true)
    (tC_BadSpaces : PySem.W.typeIn K (.ref C_BadSpaces) = some (.type "type"))
    (aC_NoPlacing : PySem.W.nsIn K mainGlobals "NoPlacing" = some (some (.ref C_NoPlacing)))
    (xL_NoPlacing : K.lookup C_NoPlacing = some (excClassObj nm_NoPlacing q_NoPlacing C_NoPlacing N_NoPlacing bs_NoPlacing [.ref B_NoPlacing, .type "ValueError", .type "Exception", .type "BaseException", .type "object"] true sn_NoPlacing sub_NoPlacing ab_NoPlacing col_NoPlacing dd_NoPlacing m0_NoPlacing m1_NoPlacing m2_NoPlacing m3_NoPlacing m5_NoPlacing "ValueError.__new__"))
    (sa_NoPlacing : PySem.W.findIn K (.ref C_NoPlacing) "__setattr__" = some (some (.builtin "object.__setattr__")))
    (in_NoPlacing : PySem.W.findIn K (.ref C_NoPlacing) "__init__" = some (some (.ref i_NoPlacing)))
    (ti_NoPlacing : PySem.W.typeIn K (.ref i_NoPlacing) = some (.type "function"))
    (li_NoPlacing : K.lookup i_NoPlacing = some ⟨ioc_NoPlacing, iod_NoPlacing, .func (PySem.W.fnOf "__init__" "NoPlacing.__init__" (defArgs i0_NoPlacing) (defBody i0_NoPlacing) (defScope i0_NoPlacing) .none ikV_NoPlacing idc_NoPlacing ipm_NoPlacing ian_NoPlacing icd_NoPlacing ict_NoPlacing), isl_NoPlacing⟩)
    (ci_NoPlacing : PySem.W.codeIn K icd_NoPlacing "NoPlacing.__init__" = true)
    (ki_NoPlacing : PySem.W.keepIn K (.ref i_NoPlacing) = true)
    (kC_NoPlacing : PySem.W.keepIn K (.ref C_NoPlacing) = true)
    (eC_NoPlacing : PySem.W.subIn K (.ref C_NoPlacing) (.type "BaseException") = some true)
    (tC_NoPlacing : PySem.W.typeIn K (.ref C_NoPlacing) = some (.type "type"))
    (te_NoPlacing : PySem.W.exmOne K (.ref C_NoPlacing) (.ref C_NoPlacing) = some true)
    (aC_Shut : PySem.W.nsIn K mainGlobals "Shut" = some (some (.ref C_Shut)))
    (xL_Shut : K.lookup C_Shut = some (excClassObj nm_Shut q_Shut C_Shut N_Shut bs_Shut [.ref B_Shut, .type "ValueError", .type "Exception", .type "BaseException", .type "object"] true sn_Shut sub_Shut ab_Shut col_Shut dd_Shut m0_Shut m1_Shut m2_Shut m3_Shut m5_Shut "ValueError.__new__"))
    (sa_Shut : PySem.W.findIn K (.ref C_Shut) "__setattr__" = some (some (.builtin "object.__setattr__")))
    (in_Shut : PySem.W.findIn K (.ref C_Shut) "__init__" = some (some (.ref i_Shut)))
    (ti_Shut : PySem.W.typeIn K (.ref i_Shut) = some (.type "function"))
    (li_Shut : K.lookup i_Shut = some ⟨ioc_Shut, iod_Shut, .func (PySem.W.fnOf "__init__" "Shut.__init__" (defArgs i0_Shut) (defBody i0_Shut) (defScope i0_Shut) .none ikV_Shut idc_Shut ipm_Shut ian_Shut icd_Shut ict_Shut), isl_Shut⟩)
    (ci_Shut : PySem.W.codeIn K icd_Shut "Shut.__init__" = true)
    (ki_Shut : PySem.W.keepIn K (.ref i_Shut) = true)
    (kC_Shut : PySem.W.keepIn K (.ref C_Shut) = true)
    (eC_Shut : PySem.W.subIn K (.ref C_Shut) (.type "BaseException") = some true)
    (tC_Shut : PySem.W.typeIn K (.ref C_Shut) = some (.type "type"))
    (aC_NoSpot : PySem.W.nsIn K mainGlobals "NoSpot" = some (some (.ref C_NoSpot)))
    (xL_NoSpot : K.lookup C_NoSpot = some (excClassObj nm_NoSpot q_NoSpot C_NoSpot N_NoSpot bs_NoSpot [.ref B_NoSpot, .type "ValueError", .type "Exception", .type "BaseException", .type "object"] true sn_NoSpot sub_NoSpot ab_NoSpot col_NoSpot dd_NoSpot m0_NoSpot m1_NoSpot m2_NoSpot m3_NoSpot m5_NoSpot "ValueError.__new__"))
    (sa_NoSpot : PySem.W.findIn K (.ref C_NoSpot) "__setattr__" = some (some (.builtin "object.__setattr__")))
    (in_NoSpot : PySem.W.findIn K (.ref C_NoSpot) "__init__" = some (some (.ref i_NoSpot)))
    (ti_NoSpot : PySem.W.typeIn K (.ref i_NoSpot) = some (.type "function"))
    (li_NoSpot : K.lookup i_NoSpot = some ⟨ioc_NoSpot, iod_NoSpot, .func (PySem.W.fnOf "__init__" "NoSpot.__init__" (defArgs i0_NoSpot) (defBody i0_NoSpot) (defScope i0_NoSpot) .none ikV_NoSpot idc_NoSpot ipm_NoSpot ian_NoSpot icd_NoSpot ict_NoSpot), isl_NoSpot⟩)
    (ci_NoSpot : PySem.W.codeIn K icd_NoSpot "NoSpot.__init__" = true)
    (ki_NoSpot : PySem.W.keepIn K (.ref i_NoSpot) = true)
    (kC_NoSpot : PySem.W.keepIn K (.ref C_NoSpot) = true)
    (eC_NoSpot : PySem.W.subIn K (.ref C_NoSpot) (.type "BaseException") = some true)
    (tC_NoSpot : PySem.W.typeIn K (.ref C_NoSpot) = some (.type "type"))
    (te_NoSpot : PySem.W.exmOne K (.ref C_NoSpot) (.ref C_NoSpot) = some true)
    (aC_BadNumber : PySem.W.nsIn K mainGlobals "BadNumber" = some (some (.ref C_BadNumber)))
    (xL_BadNumber : K.lookup C_BadNumber = some (excClassObj nm_BadNumber q_BadNumber C_BadNumber N_BadNumber bs_BadNumber [.ref B_BadNumber, .type "ValueError", .type "Exception", .type "BaseException", .type "object"] true sn_BadNumber sub_BadNumber ab_BadNumber col_BadNumber dd_BadNumber m0_BadNumber m1_BadNumber m2_BadNumber m3_BadNumber m5_BadNumber "ValueError.__new__"))
    (sa_BadNumber : PySem.W.findIn K (.ref C_BadNumber) "__setattr__" = some (some (.builtin "object.__setattr__")))
    (in_BadNumber : PySem.W.findIn K (.ref C_BadNumber) "__init__" = some (some (.ref i_BadNumber)))
    (ti_BadNumber : PySem.W.typeIn K (.ref i_BadNumber) = some (.type "function"))
    (li_BadNumber : K.lookup i_BadNumber = some ⟨ioc_BadNumber, iod_BadNumber, .func (PySem.W.fnOf "__init__" "BadNumber.__init__" (defArgs i0_BadNumber) (defBody i0_BadNumber) (defScope i0_BadNumber) .none ikV_BadNumber idc_BadNumber ipm_BadNumber ian_BadNumber icd_BadNumber ict_BadNumber), isl_BadNumber⟩)
    (ci_BadNumber : PySem.W.codeIn K icd_BadNumber "BadNumber.__init__" = true)
    (ki_BadNumber : PySem.W.keepIn K (.ref i_BadNumber) = true)
    (kC_BadNumber : PySem.W.keepIn K (.ref C_BadNumber) = true)
    (eC_BadNumber : PySem.W.subIn K (.ref C_BadNumber) (.type "BaseException") = some true)
    (tC_BadNumber : PySem.W.typeIn K (.ref C_BadNumber) = some (.type "type"))
    (aC_NoPolynomial : PySem.W.nsIn K mainGlobals "NoPolynomial" = some (some (.ref C_NoPolynomial)))
    (xL_NoPolynomial : K.lookup C_NoPolynomial = some (excClassObj nm_NoPolynomial q_NoPolynomial C_NoPolynomial N_NoPolynomial bs_NoPolynomial [.ref B_NoPolynomial, .type "ValueError", .type "Exception", .type "BaseException", .type "object"] true sn_NoPolynomial sub_NoPolynomial ab_NoPolynomial col_NoPolynomial dd_NoPolynomial m0_NoPolynomial m1_NoPolynomial m2_NoPolynomial m3_NoPolynomial m5_NoPolynomial "ValueError.__new__"))
    (sa_NoPolynomial : PySem.W.findIn K (.ref C_NoPolynomial) "__setattr__" = some (some (.builtin "object.__setattr__")))
    (in_NoPolynomial : PySem.W.findIn K (.ref C_NoPolynomial) "__init__" = some (some (.ref i_NoPolynomial)))
    (ti_NoPolynomial : PySem.W.typeIn K (.ref i_NoPolynomial) = some (.type "function"))
    (li_NoPolynomial : K.lookup i_NoPolynomial = some ⟨ioc_NoPolynomial, iod_NoPolynomial, .func (PySem.W.fnOf "__init__" "NoPolynomial.__init__" (defArgs i0_NoPolynomial) (defBody i0_NoPolynomial) (defScope i0_NoPolynomial) .none ikV_NoPolynomial idc_NoPolynomial ipm_NoPolynomial ian_NoPolynomial icd_NoPolynomial ict_NoPolynomial), isl_NoPolynomial⟩)
    (ci_NoPolynomial : PySem.W.codeIn K icd_NoPolynomial "NoPolynomial.__init__" = true)
    (ki_NoPolynomial : PySem.W.keepIn K (.ref i_NoPolynomial) = true)
    (kC_NoPolynomial : PySem.W.keepIn K (.ref C_NoPolynomial) = true)
    (eC_NoPolynomial : PySem.W.subIn K (.ref C_NoPolynomial) (.type "BaseException") = some true)
    (tC_NoPolynomial : PySem.W.typeIn K (.ref C_NoPolynomial) = some (.type "type"))
    (te_NoPolynomial : PySem.W.exmOne K (.ref C_NoPolynomial) (.ref C_NoPolynomial) = some true)
    (aC_BadLot : PySem.W.nsIn K mainGlobals "BadLot" = some (some (.ref C_BadLot)))
    (xL_BadLot : K.lookup C_BadLot = some (excClassObj nm_BadLot q_BadLot C_BadLot N_BadLot bs_BadLot [.ref B_BadLot, .type "ValueError", .type "Exception", .type "BaseException", .type "object"] true sn_BadLot sub_BadLot ab_BadLot col_BadLot dd_BadLot m0_BadLot m1_BadLot m2_BadLot m3_BadLot m5_BadLot "ValueError.__new__"))
    (sa_BadLot : PySem.W.findIn K (.ref C_BadLot) "__setattr__" = some (some (.builtin "object.__setattr__")))
    (in_BadLot : PySem.W.findIn K (.ref C_BadLot) "__init__" = some (some (.ref i_BadLot)))
    (ti_BadLot : PySem.W.typeIn K (.ref i_BadLot) = some (.type "function"))
    (li_BadLot : K.lookup i_BadLot = some ⟨ioc_BadLot, iod_BadLot, .func (PySem.W.fnOf "__init__" "BadLot.__init__" (defArgs i0_BadLot) (defBody i0_BadLot) (defScope i0_BadLot) .none ikV_BadLot idc_BadLot ipm_BadLot ian_BadLot icd_BadLot ict_BadLot), isl_BadLot⟩)
    (ci_BadLot : PySem.W.codeIn K icd_BadLot "BadLot.__init__" = true)
    (ki_BadLot : PySem.W.keepIn K (.ref i_BadLot) = true)
    (kC_BadLot : PySem.W.keepIn K (.ref C_BadLot) = true)
    (eC_BadLot : PySem.W.subIn K (.ref C_BadLot) (.type "BaseException") = some true)
    (tC_BadLot : PySem.W.typeIn K (.ref C_BadLot) = some (.type "type"))
    (te_BadLot : PySem.W.exmOne K (.ref C_BadLot) (.ref C_BadLot) = some true)
    (aC_BadBook : PySem.W.nsIn K mainGlobals "BadBook" = some (some (.ref C_BadBook)))
    (xL_BadBook : K.lookup C_BadBook = some (excClassObj nm_BadBook q_BadBook C_BadBook N_BadBook bs_BadBook [.ref B_BadBook, .type "ValueError", .type "Exception", .type "BaseException", .type "object"] true sn_BadBook sub_BadBook ab_BadBook col_BadBook dd_BadBook m0_BadBook m1_BadBook m2_BadBook m3_BadBook m5_BadBook "ValueError.__new__"))
    (sa_BadBook : PySem.W.findIn K (.ref C_BadBook) "__setattr__" = some (some (.builtin "object.__setattr__")))
    (in_BadBook : PySem.W.findIn K (.ref C_BadBook) "__init__" = some (some (.ref i_BadBook)))
    (ti_BadBook : PySem.W.typeIn K (.ref i_BadBook) = some (.type "function"))
    (li_BadBook : K.lookup i_BadBook = some ⟨ioc_BadBook, iod_BadBook, .func (PySem.W.fnOf "__init__" "BadBook.__init__" (defArgs i0_BadBook) (defBody i0_BadBook) (defScope i0_BadBook) .none ikV_BadBook idc_BadBook ipm_BadBook ian_BadBook icd_BadBook ict_BadBook), isl_BadBook⟩)
    (ci_BadBook : PySem.W.codeIn K icd_BadBook "BadBook.__init__" = true)
    (ki_BadBook : PySem.W.keepIn K (.ref i_BadBook) = true)
    (kC_BadBook : PySem.W.keepIn K (.ref C_BadBook) = true)
    (eC_BadBook : PySem.W.subIn K (.ref C_BadBook) (.type "BaseException") = some true)
    (tC_BadBook : PySem.W.typeIn K (.ref C_BadBook) = some (.type "type"))
    (te_BadBook : PySem.W.exmOne K (.ref C_BadBook) (.ref C_BadBook) = some true)
    (aC_BadTold : PySem.W.nsIn K mainGlobals "BadTold" = some (some (.ref C_BadTold)))
    (xL_BadTold : K.lookup C_BadTold = some (excClassObj nm_BadTold q_BadTold C_BadTold N_BadTold bs_BadTold [.ref B_BadTold, .type "ValueError", .type "Exception", .type "BaseException", .type "object"] true sn_BadTold sub_BadTold ab_BadTold col_BadTold dd_BadTold m0_BadTold m1_BadTold m2_BadTold m3_BadTold m5_BadTold "ValueError.__new__"))
    (sa_BadTold : PySem.W.findIn K (.ref C_BadTold) "__setattr__" = some (some (.builtin "object.__setattr__")))
    (in_BadTold : PySem.W.findIn K (.ref C_BadTold) "__init__" = some (some (.ref i_BadTold)))
    (ti_BadTold : PySem.W.typeIn K (.ref i_BadTold) = some (.type "function"))
    (li_BadTold : K.lookup i_BadTold = some ⟨ioc_BadTold, iod_BadTold, .func (PySem.W.fnOf "__init__" "BadTold.__init__" (defArgs i0_BadTold) (defBody i0_BadTold) (defScope i0_BadTold) .none ikV_BadTold idc_BadTold ipm_BadTold ian_BadTold icd_BadTold ict_BadTold), isl_BadTold⟩)
    (ci_BadTold : PySem.W.codeIn K icd_BadTold "BadTold.__init__" = true)
    (ki_BadTold : PySem.W.keepIn K (.ref i_BadTold) = true)
    (kC_BadTold : PySem.W.keepIn K (.ref C_BadTold) = true)
    (eC_BadTold : PySem.W.subIn K (.ref C_BadTold) (.type "BaseException") = some true)
    (tC_BadTold : PySem.W.typeIn K (.ref C_BadTold) = some (.type "type"))
    (te_BadTold : PySem.W.exmOne K (.ref C_BadTold) (.ref C_BadTold) = some true)
    (aC_NoFit : PySem.W.nsIn K mainGlobals "NoFit" = some (some (.ref C_NoFit)))
    (xL_NoFit : K.lookup C_NoFit = some (excClassObj nm_NoFit q_NoFit C_NoFit N_NoFit bs_NoFit [.ref B_NoFit, .type "ValueError", .type "Exception", .type "BaseException", .type "object"] true sn_NoFit sub_NoFit ab_NoFit col_NoFit dd_NoFit m0_NoFit m1_NoFit m2_NoFit m3_NoFit m5_NoFit "ValueError.__new__"))
    (sa_NoFit : PySem.W.findIn K (.ref C_NoFit) "__setattr__" = some (some (.builtin "object.__setattr__")))
    (in_NoFit : PySem.W.findIn K (.ref C_NoFit) "__init__" = some (some (.ref i_NoFit)))
    (ti_NoFit : PySem.W.typeIn K (.ref i_NoFit) = some (.type "function"))
    (li_NoFit : K.lookup i_NoFit = some ⟨ioc_NoFit, iod_NoFit, .func (PySem.W.fnOf "__init__" "NoFit.__init__" (defArgs i0_NoFit) (defBody i0_NoFit) (defScope i0_NoFit) .none ikV_NoFit idc_NoFit ipm_NoFit ian_NoFit icd_NoFit ict_NoFit), isl_NoFit⟩)
    (ci_NoFit : PySem.W.codeIn K icd_NoFit "NoFit.__init__" = true)
    (ki_NoFit : PySem.W.keepIn K (.ref i_NoFit) = true)
    (kC_NoFit : PySem.W.keepIn K (.ref C_NoFit) = true)
    (eC_NoFit : PySem.W.subIn K (.ref C_NoFit) (.type "BaseException") = some true)
    (tC_NoFit : PySem.W.typeIn K (.ref C_NoFit) = some (.type "type"))
    (te_NoFit : PySem.W.exmOne K (.ref C_NoFit) (.ref C_NoFit) = some true)
    (aC_BadPrices : PySem.W.nsIn K mainGlobals "BadPrices" = some (some (.ref C_BadPrices)))
    (xL_BadPrices : K.lookup C_BadPrices = some (excClassObj nm_BadPrices q_BadPrices C_BadPrices N_BadPrices bs_BadPrices [.ref B_BadPrices, .type "ValueError", .type "Exception", .type "BaseException", .type "object"] true sn_BadPrices sub_BadPrices ab_BadPrices col_BadPrices dd_BadPrices m0_BadPrices m1_BadPrices m2_BadPrices m3_BadPrices m5_BadPrices "ValueError.__new__"))
    (sa_BadPrices : PySem.W.findIn K (.ref C_BadPrices) "__setattr__" = some (some (.builtin "object.__setattr__")))
    (in_BadPrices : PySem.W.findIn K (.ref C_BadPrices) "__init__" = some (some (.ref i_BadPrices)))
    (ti_BadPrices : PySem.W.typeIn K (.ref i_BadPrices) = some (.type "function"))
    (li_BadPrices : K.lookup i_BadPrices = some ⟨ioc_BadPrices, iod_BadPrices, .func (PySem.W.fnOf "__init__" "BadPrices.__init__" (defArgs i0_BadPrices) (defBody i0_BadPrices) (defScope i0_BadPrices) .none ikV_BadPrices idc_BadPrices ipm_BadPrices ian_BadPrices icd_BadPrices ict_BadPrices), isl_BadPrices⟩)
    (ci_BadPrices : PySem.W.codeIn K icd_BadPrices "BadPrices.__init__" = true)
    (ki_BadPrices : PySem.W.keepIn K (.ref i_BadPrices) = true)
    (kC_BadPrices : PySem.W.keepIn K (.ref C_BadPrices) = true)
    (eC_BadPrices : PySem.W.subIn K (.ref C_BadPrices) (.type "BaseException") = some true)
    (tC_BadPrices : PySem.W.typeIn K (.ref C_BadPrices) = some (.type "type"))
    (te_BadPrices : PySem.W.exmOne K (.ref C_BadPrices) (.ref C_BadPrices) = some true)
    (aC_BadHeld : PySem.W.nsIn K mainGlobals "BadHeld" = some (some (.ref C_BadHeld)))
    (xL_BadHeld : K.lookup C_BadHeld = some (excClassObj nm_BadHeld q_BadHeld C_BadHeld N_BadHeld bs_BadHeld [.ref B_BadHeld, .type "ValueError", .type "Exception", .type "BaseException", .type "object"] true sn_BadHeld sub_BadHeld ab_BadHeld col_BadHeld dd_BadHeld m0_BadHeld m1_BadHeld m2_BadHeld m3_BadHeld m5_BadHeld "ValueError.__new__"))
    (sa_BadHeld : PySem.W.findIn K (.ref C_BadHeld) "__setattr__" = some (some (.builtin "object.__setattr__")))
    (in_BadHeld : PySem.W.findIn K (.ref C_BadHeld) "__init__" = some (some (.ref i_BadHeld)))
    (ti_BadHeld : PySem.W.typeIn K (.ref i_BadHeld) = some (.type "function"))
    (li_BadHeld : K.lookup i_BadHeld = some ⟨ioc_BadHeld, iod_BadHeld, .func (PySem.W.fnOf "__init__" "BadHeld.__init__" (defArgs i0_BadHeld) (defBody i0_BadHeld) (defScope i0_BadHeld) .none ikV_BadHeld idc_BadHeld ipm_BadHeld ian_BadHeld icd_BadHeld ict_BadHeld), isl_BadHeld⟩)
    (ci_BadHeld : PySem.W.codeIn K icd_BadHeld "BadHeld.__init__" = true)
    (ki_BadHeld : PySem.W.keepIn K (.ref i_BadHeld) = true)
    (kC_BadHeld : PySem.W.keepIn K (.ref C_BadHeld) = true)
    (eC_BadHeld : PySem.W.subIn K (.ref C_BadHeld) (.type "BaseException") = some true)
    (tC_BadHeld : PySem.W.typeIn K (.ref C_BadHeld) = some (.type "type"))
    (te_BadHeld : PySem.W.exmOne K (.ref C_BadHeld) (.ref C_BadHeld) = some true)
    (aC_NotHeld : PySem.W.nsIn K mainGlobals "NotHeld" = some (some (.ref C_NotHeld)))
    (xL_NotHeld : K.lookup C_NotHeld = some (excClassObj nm_NotHeld q_NotHeld C_NotHeld N_NotHeld bs_NotHeld [.ref B_NotHeld, .type "ValueError", .type "Exception", .type "BaseException", .type "object"] true sn_NotHeld sub_NotHeld ab_NotHeld col_NotHeld dd_NotHeld m0_NotHeld m1_NotHeld m2_NotHeld m3_NotHeld m5_NotHeld "ValueError.__new__"))
    (sa_NotHeld : PySem.W.findIn K (.ref C_NotHeld) "__setattr__" = some (some (.builtin "object.__setattr__")))
    (in_NotHeld : PySem.W.findIn K (.ref C_NotHeld) "__init__" = some (some (.ref i_NotHeld)))
    (ti_NotHeld : PySem.W.typeIn K (.ref i_NotHeld) = some (.type "function"))
    (li_NotHeld : K.lookup i_NotHeld = some ⟨ioc_NotHeld, iod_NotHeld, .func (PySem.W.fnOf "__init__" "NotHeld.__init__" (defArgs i0_NotHeld) (defBody i0_NotHeld) (defScope i0_NotHeld) .none ikV_NotHeld idc_NotHeld ipm_NotHeld ian_NotHeld icd_NotHeld ict_NotHeld), isl_NotHeld⟩)
    (ci_NotHeld : PySem.W.codeIn K icd_NotHeld "NotHeld.__init__" = true)
    (ki_NotHeld : PySem.W.keepIn K (.ref i_NotHeld) = true)
    (kC_NotHeld : PySem.W.keepIn K (.ref C_NotHeld) = true)
    (eC_NotHeld : PySem.W.subIn K (.ref C_NotHeld) (.type "BaseException") = some true)
    (tC_NotHeld : PySem.W.typeIn K (.ref C_NotHeld) = some (.type "type"))
    (aC_BadSeam : PySem.W.nsIn K mainGlobals "BadSeam" = some (some (.ref C_BadSeam)))
    (xL_BadSeam : K.lookup C_BadSeam = some (excClassObj nm_BadSeam q_BadSeam C_BadSeam N_BadSeam bs_BadSeam [.ref B_BadSeam, .type "ValueError", .type "Exception", .type "BaseException", .type "object"] true sn_BadSeam sub_BadSeam ab_BadSeam col_BadSeam dd_BadSeam m0_BadSeam m1_BadSeam m2_BadSeam m3_BadSeam m5_BadSeam "ValueError.__new__"))
    (sa_BadSeam : PySem.W.findIn K (.ref C_BadSeam) "__setattr__" = some (some (.builtin "object.__setattr__")))
    (in_BadSeam : PySem.W.findIn K (.ref C_BadSeam) "__init__" = some (some (.ref i_BadSeam)))
    (ti_BadSeam : PySem.W.typeIn K (.ref i_BadSeam) = some (.type "function"))
    (li_BadSeam : K.lookup i_BadSeam = some ⟨ioc_BadSeam, iod_BadSeam, .func (PySem.W.fnOf "__init__" "BadSeam.__init__" (defArgs i0_BadSeam) (defBody i0_BadSeam) (defScope i0_BadSeam) .none ikV_BadSeam idc_BadSeam ipm_BadSeam ian_BadSeam icd_BadSeam ict_BadSeam), isl_BadSeam⟩)
    (ci_BadSeam : PySem.W.codeIn K icd_BadSeam "BadSeam.__init__" = true)
    (ki_BadSeam : PySem.W.keepIn K (.ref i_BadSeam) = true)
    (kC_BadSeam : PySem.W.keepIn K (.ref C_BadSeam) = true)
    (eC_BadSeam : PySem.W.subIn K (.ref C_BadSeam) (.type "BaseException") = some true)
    (tC_BadSeam : PySem.W.typeIn K (.ref C_BadSeam) = some (.type "type"))
    (aC_BadTable : PySem.W.nsIn K mainGlobals "BadTable" = some (some (.ref C_BadTable)))
    (xL_BadTable : K.lookup C_BadTable = some (excClassObj nm_BadTable q_BadTable C_BadTable N_BadTable bs_BadTable [.ref B_BadTable, .type "ValueError", .type "Exception", .type "BaseException", .type "object"] true sn_BadTable sub_BadTable ab_BadTable col_BadTable dd_BadTable m0_BadTable m1_BadTable m2_BadTable m3_BadTable m5_BadTable "ValueError.__new__"))
    (sa_BadTable : PySem.W.findIn K (.ref C_BadTable) "__setattr__" = some (some (.builtin "object.__setattr__")))
    (in_BadTable : PySem.W.findIn K (.ref C_BadTable) "__init__" = some (some (.ref i_BadTable)))
    (ti_BadTable : PySem.W.typeIn K (.ref i_BadTable) = some (.type "function"))
    (li_BadTable : K.lookup i_BadTable = some ⟨ioc_BadTable, iod_BadTable, .func (PySem.W.fnOf "__init__" "BadTable.__init__" (defArgs i0_BadTable) (defBody i0_BadTable) (defScope i0_BadTable) .none ikV_BadTable idc_BadTable ipm_BadTable ian_BadTable icd_BadTable ict_BadTable), isl_BadTable⟩)
    (ci_BadTable : PySem.W.codeIn K icd_BadTable "BadTable.__init__" = true)
    (ki_BadTable : PySem.W.keepIn K (.ref i_BadTable) = true)
    (kC_BadTable : PySem.W.keepIn K (.ref C_BadTable) = true)
    (eC_BadTable : PySem.W.subIn K (.ref C_BadTable) (.type "BaseException") = some true)
    (tC_BadTable : PySem.W.typeIn K (.ref C_BadTable) = some (.type "type"))
    (te_BadTable : PySem.W.exmOne K (.ref C_BadTable) (.ref C_BadTable) = some true)
    (aC_BadWish : PySem.W.nsIn K mainGlobals "BadWish" = some (some (.ref C_BadWish)))
    (xL_BadWish : K.lookup C_BadWish = some (excClassObj nm_BadWish q_BadWish C_BadWish N_BadWish bs_BadWish [.ref B_BadWish, .type "ValueError", .type "Exception", .type "BaseException", .type "object"] true sn_BadWish sub_BadWish ab_BadWish col_BadWish dd_BadWish m0_BadWish m1_BadWish m2_BadWish m3_BadWish m5_BadWish "ValueError.__new__"))
    (sa_BadWish : PySem.W.findIn K (.ref C_BadWish) "__setattr__" = some (some (.builtin "object.__setattr__")))
    (in_BadWish : PySem.W.findIn K (.ref C_BadWish) "__init__" = some (some (.ref i_BadWish)))
    (ti_BadWish : PySem.W.typeIn K (.ref i_BadWish) = some (.type "function"))
    (li_BadWish : K.lookup i_BadWish = some ⟨ioc_BadWish, iod_BadWish, .func (PySem.W.fnOf "__init__" "BadWish.__init__" (defArgs i0_BadWish) (defBody i0_BadWish) (defScope i0_BadWish) .none ikV_BadWish idc_BadWish ipm_BadWish ian_BadWish icd_BadWish ict_BadWish), isl_BadWish⟩)
    (ci_BadWish : PySem.W.codeIn K icd_BadWish "BadWish.__init__" = true)
    (ki_BadWish : PySem.W.keepIn K (.ref i_BadWish) = true)
    (kC_BadWish : PySem.W.keepIn K (.ref C_BadWish) = true)
    (eC_BadWish : PySem.W.subIn K (.ref C_BadWish) (.type "BaseException") = some true)
    (tC_BadWish : PySem.W.typeIn K (.ref C_BadWish) = some (.type "type"))
    (te_BadWish : PySem.W.exmOne K (.ref C_BadWish) (.ref C_BadWish) = some true)
    (aC_BadLengths : PySem.W.nsIn K mainGlobals "BadLengths" = some (some (.ref C_BadLengths)))
    (xL_BadLengths : K.lookup C_BadLengths = some (excClassObj nm_BadLengths q_BadLengths C_BadLengths N_BadLengths bs_BadLengths [.ref B_BadLengths, .type "ValueError", .type "Exception", .type "BaseException", .type "object"] true sn_BadLengths sub_BadLengths ab_BadLengths col_BadLengths dd_BadLengths m0_BadLengths m1_BadLengths m2_BadLengths m3_BadLengths m5_BadLengths "ValueError.__new__"))
    (sa_BadLengths : PySem.W.findIn K (.ref C_BadLengths) "__setattr__" = some (some (.builtin "object.__setattr__")))
    (in_BadLengths : PySem.W.findIn K (.ref C_BadLengths) "__init__" = some (some (.ref i_BadLengths)))
    (ti_BadLengths : PySem.W.typeIn K (.ref i_BadLengths) = some (.type "function"))
    (li_BadLengths : K.lookup i_BadLengths = some ⟨ioc_BadLengths, iod_BadLengths, .func (PySem.W.fnOf "__init__" "BadLengths.__init__" (defArgs i0_BadLengths) (defBody i0_BadLengths) (defScope i0_BadLengths) .none ikV_BadLengths idc_BadLengths ipm_BadLengths ian_BadLengths icd_BadLengths ict_BadLengths), isl_BadLengths⟩)
    (ci_BadLengths : PySem.W.codeIn K icd_BadLengths "BadLengths.__init__" = true)
    (ki_BadLengths : PySem.W.keepIn K (.ref i_BadLengths) = true)
    (kC_BadLengths : PySem.W.keepIn K (.ref C_BadLengths) = true)
    (eC_BadLengths : PySem.W.subIn K (.ref C_BadLengths) (.type "BaseException") = some true)
    (tC_BadLengths : PySem.W.typeIn K (.ref C_BadLengths) = some (.type "type"))
    (te_BadLengths : PySem.W.exmOne K (.ref C_BadLengths) (.ref C_BadLengths) = some true)
    (aC_NoSlit : PySem.W.nsIn K mainGlobals "NoSlit" = some (some (.ref C_NoSlit)))
    (xL_NoSlit : K.lookup C_NoSlit = some (excClassObj nm_NoSlit q_NoSlit C_NoSlit N_NoSlit bs_NoSlit [.ref B_NoSlit, .type "ValueError", .type "Exception", .type "BaseException", .type "object"] true sn_NoSlit sub_NoSlit ab_NoSlit col_NoSlit dd_NoSlit m0_NoSlit m1_NoSlit m2_NoSlit m3_NoSlit m5_NoSlit "ValueError.__new__"))
    (sa_NoSlit : PySem.W.findIn K (.ref C_NoSlit) "__setattr__" = some (some (.builtin "object.__setattr__")))
    (in_NoSlit : PySem.W.findIn K (.ref C_NoSlit) "__init__" = some (some (.ref i_NoSlit)))
    (ti_NoSlit : PySem.W.typeIn K (.ref i_NoSlit) = some (.type "function"))
    (li_NoSlit : K.lookup i_NoSlit = some ⟨ioc_NoSlit, iod_NoSlit, .func (PySem.W.fnOf "__init__" "NoSlit.__init__" (defArgs i0_NoSlit) (defBody i0_NoSlit) (defScope i0_NoSlit) .none ikV_NoSlit idc_NoSlit ipm_NoSlit ian_NoSlit icd_NoSlit ict_NoSlit), isl_NoSlit⟩)
    (ci_NoSlit : PySem.W.codeIn K icd_NoSlit "NoSlit.__init__" = true)
    (ki_NoSlit : PySem.W.keepIn K (.ref i_NoSlit) = true)
    (kC_NoSlit : PySem.W.keepIn K (.ref C_NoSlit) = true)
    (eC_NoSlit : PySem.W.subIn K (.ref C_NoSlit) (.type "BaseException") = some true)
    (tC_NoSlit : PySem.W.typeIn K (.ref C_NoSlit) = some (.type "type"))
    (te_NoSlit : PySem.W.exmOne K (.ref C_NoSlit) (.ref C_NoSlit) = some true)
    (aC_NoPart : PySem.W.nsIn K mainGlobals "NoPart" = some (some (.ref C_NoPart)))
    (xL_NoPart : K.lookup C_NoPart = some (excClassObj nm_NoPart q_NoPart C_NoPart N_NoPart bs_NoPart [.ref B_NoPart, .type "ValueError", .type "Exception", .type "BaseException", .type "object"] true sn_NoPart sub_NoPart ab_NoPart col_NoPart dd_NoPart m0_NoPart m1_NoPart m2_NoPart m3_NoPart m5_NoPart "ValueError.__new__"))
    (sa_NoPart : PySem.W.findIn K (.ref C_NoPart) "__setattr__" = some (some (.builtin "object.__setattr__")))
    (in_NoPart : PySem.W.findIn K (.ref C_NoPart) "__init__" = some (some (.ref i_NoPart)))
    (ti_NoPart : PySem.W.typeIn K (.ref i_NoPart) = some (.type "function"))
    (li_NoPart : K.lookup i_NoPart = some ⟨ioc_NoPart, iod_NoPart, .func (PySem.W.fnOf "__init__" "NoPart.__init__" (defArgs i0_NoPart) (defBody i0_NoPart) (defScope i0_NoPart) .none ikV_NoPart idc_NoPart ipm_NoPart ian_NoPart icd_NoPart ict_NoPart), isl_NoPart⟩)
    (ci_NoPart : PySem.W.codeIn K icd_NoPart "NoPart.__init__" = true)
    (ki_NoPart : PySem.W.keepIn K (.ref i_NoPart) = true)
    (kC_NoPart : PySem.W.keepIn K (.ref C_NoPart) = true)
    (eC_NoPart : PySem.W.subIn K (.ref C_NoPart) (.type "BaseException") = some true)
    (tC_NoPart : PySem.W.typeIn K (.ref C_NoPart) = some (.type "type"))
    (te_NoPart : PySem.W.exmOne K (.ref C_NoPart) (.ref C_NoPart) = some true)
    (aC_BadText : PySem.W.nsIn K mainGlobals "BadText" = some (some (.ref C_BadText)))
    (xL_BadText : K.lookup C_BadText = some (excClassObj nm_BadText q_BadText C_BadText N_BadText bs_BadText [.ref B_BadText, .type "ValueError", .type "Exception", .type "BaseException", .type "object"] true sn_BadText sub_BadText ab_BadText col_BadText dd_BadText m0_BadText m1_BadText m2_BadText m3_BadText m5_BadText "ValueError.__new__"))
    (sa_BadText : PySem.W.findIn K (.ref C_BadText) "__setattr__" = some (some (.builtin "object.__setattr__")))
    (in_BadText : PySem.W.findIn K (.ref C_BadText) "__init__" = some (some (.ref i_BadText)))
    (ti_BadText : PySem.W.typeIn K (.ref i_BadText) = some (.type "function"))
    (li_BadText : K.lookup i_BadText = some ⟨ioc_BadText, iod_BadText, .func (PySem.W.fnOf "__init__" "BadText.__init__" (defArgs i0_BadText) (defBody i0_BadText) (defScope i0_BadText) .none ikV_BadText idc_BadText ipm_BadText ian_BadText icd_BadText ict_BadText), isl_BadText⟩)
    (ci_BadText : PySem.W.codeIn K icd_BadText "BadText.__init__" = true)
    (ki_BadText : PySem.W.keepIn K (.ref i_BadText) = true)
    (kC_BadText : PySem.W.keepIn K (.ref C_BadText) = true)
    (eC_BadText : PySem.W.subIn K (.ref C_BadText) (.type "BaseException") = some true)
    (tC_BadText : PySem.W.typeIn K (.ref C_BadText) = some (.type "type"))
    (aC_NoTree : PySem.W.nsIn K mainGlobals "NoTree" = some (some (.ref C_NoTree)))
    (xL_NoTree : K.lookup C_NoTree = some (excClassObj nm_NoTree q_NoTree C_NoTree N_NoTree bs_NoTree [.ref B_NoTree, .type "ValueError", .type "Exception", .type "BaseException", .type "object"] true sn_NoTree sub_NoTree ab_NoTree col_NoTree dd_NoTree m0_NoTree m1_NoTree m2_NoTree m3_NoTree m5_NoTree "ValueError.__new__"))
    (sa_NoTree : PySem.W.findIn K (.ref C_NoTree) "__setattr__" = some (some (.builtin "object.__setattr__")))
    (in_NoTree : PySem.W.findIn K (.ref C_NoTree) "__init__" = some (some (.ref i_NoTree)))
    (ti_NoTree : PySem.W.typeIn K (.ref i_NoTree) = some (.type "function"))
    (li_NoTree : K.lookup i_NoTree = some ⟨ioc_NoTree, iod_NoTree, .func (PySem.W.fnOf "__init__" "NoTree.__init__" (defArgs i0_NoTree) (defBody i0_NoTree) (defScope i0_NoTree) .none ikV_NoTree idc_NoTree ipm_NoTree ian_NoTree icd_NoTree ict_NoTree), isl_NoTree⟩)
    (ci_NoTree : PySem.W.codeIn K icd_NoTree "NoTree.__init__" = true)
    (ki_NoTree : PySem.W.keepIn K (.ref i_NoTree) = true)
    (kC_NoTree : PySem.W.keepIn K (.ref C_NoTree) = true)
    (eC_NoTree : PySem.W.subIn K (.ref C_NoTree) (.type "BaseException") = some true)
    (tC_NoTree : PySem.W.typeIn K (.ref C_NoTree) = some (.type "type"))
    (te_NoTree : PySem.W.exmOne K (.ref C_NoTree) (.ref C_NoTree) = some true)
    (aC_LiesOver : PySem.W.nsIn K mainGlobals "LiesOver" = some (some (.ref C_LiesOver)))
    (xL_LiesOver : K.lookup C_LiesOver = some (excClassObj nm_LiesOver q_LiesOver C_LiesOver N_LiesOver bs_LiesOver [.ref B_LiesOver, .type "ValueError", .type "Exception", .type "BaseException", .type "object"] true sn_LiesOver sub_LiesOver ab_LiesOver col_LiesOver dd_LiesOver m0_LiesOver m1_LiesOver m2_LiesOver m3_LiesOver m5_LiesOver "ValueError.__new__"))
    (sa_LiesOver : PySem.W.findIn K (.ref C_LiesOver) "__setattr__" = some (some (.builtin "object.__setattr__")))
    (in_LiesOver : PySem.W.findIn K (.ref C_LiesOver) "__init__" = some (some (.ref i_LiesOver)))
    (ti_LiesOver : PySem.W.typeIn K (.ref i_LiesOver) = some (.type "function"))
    (li_LiesOver : K.lookup i_LiesOver = some ⟨ioc_LiesOver, iod_LiesOver, .func (PySem.W.fnOf "__init__" "LiesOver.__init__" (defArgs i0_LiesOver) (defBody i0_LiesOver) (defScope i0_LiesOver) .none ikV_LiesOver idc_LiesOver ipm_LiesOver ian_LiesOver icd_LiesOver ict_LiesOver), isl_LiesOver⟩)
    (ci_LiesOver : PySem.W.codeIn K icd_LiesOver "LiesOver.__init__" = true)
    (ki_LiesOver : PySem.W.keepIn K (.ref i_LiesOver) = true)
    (kC_LiesOver : PySem.W.keepIn K (.ref C_LiesOver) = true)
    (eC_LiesOver : PySem.W.subIn K (.ref C_LiesOver) (.type "BaseException") = some true)
    (tC_LiesOver : PySem.W.typeIn K (.ref C_LiesOver) = some (.type "type"))
    (aC_NoUndo : PySem.W.nsIn K mainGlobals "NoUndo" = some (some (.ref C_NoUndo)))
    (xL_NoUndo : K.lookup C_NoUndo = some (excClassObj nm_NoUndo q_NoUndo C_NoUndo N_NoUndo bs_NoUndo [.ref B_NoUndo, .type "ValueError", .type "Exception", .type "BaseException", .type "object"] true sn_NoUndo sub_NoUndo ab_NoUndo col_NoUndo dd_NoUndo m0_NoUndo m1_NoUndo m2_NoUndo m3_NoUndo m5_NoUndo "ValueError.__new__"))
    (sa_NoUndo : PySem.W.findIn K (.ref C_NoUndo) "__setattr__" = some (some (.builtin "object.__setattr__")))
    (in_NoUndo : PySem.W.findIn K (.ref C_NoUndo) "__init__" = some (some (.ref i_NoUndo)))
    (ti_NoUndo : PySem.W.typeIn K (.ref i_NoUndo) = some (.type "function"))
    (li_NoUndo : K.lookup i_NoUndo = some ⟨ioc_NoUndo, iod_NoUndo, .func (PySem.W.fnOf "__init__" "NoUndo.__init__" (defArgs i0_NoUndo) (defBody i0_NoUndo) (defScope i0_NoUndo) .none ikV_NoUndo idc_NoUndo ipm_NoUndo ian_NoUndo icd_NoUndo ict_NoUndo), isl_NoUndo⟩)
    (ci_NoUndo : PySem.W.codeIn K icd_NoUndo "NoUndo.__init__" = true)
    (ki_NoUndo : PySem.W.keepIn K (.ref i_NoUndo) = true)
    (kC_NoUndo : PySem.W.keepIn K (.ref C_NoUndo) = true)
    (eC_NoUndo : PySem.W.subIn K (.ref C_NoUndo) (.type "BaseException") = some true)
    (tC_NoUndo : PySem.W.typeIn K (.ref C_NoUndo) = some (.type "type"))
    (te_NoUndo : PySem.W.exmOne K (.ref C_NoUndo) (.ref C_NoUndo) = some true)
    (aC_BadTries : PySem.W.nsIn K mainGlobals "BadTries" = some (some (.ref C_BadTries)))
    (xL_BadTries : K.lookup C_BadTries = some (excClassObj nm_BadTries q_BadTries C_BadTries N_BadTries bs_BadTries [.ref B_BadTries, .type "ValueError", .type "Exception", .type "BaseException", .type "object"] true sn_BadTries sub_BadTries ab_BadTries col_BadTries dd_BadTries m0_BadTries m1_BadTries m2_BadTries m3_BadTries m5_BadTries "ValueError.__new__"))
    (sa_BadTries : PySem.W.findIn K (.ref C_BadTries) "__setattr__" = some (some (.builtin "object.__setattr__")))
    (in_BadTries : PySem.W.findIn K (.ref C_BadTries) "__init__" = some (some (.ref i_BadTries)))
    (ti_BadTries : PySem.W.typeIn K (.ref i_BadTries) = some (.type "function"))
    (li_BadTries : K.lookup i_BadTries = some ⟨ioc_BadTries, iod_BadTries, .func (PySem.W.fnOf "__init__" "BadTries.__init__" (defArgs i0_BadTries) (defBody i0_BadTries) (defScope i0_BadTries) .none ikV_BadTries idc_BadTries ipm_BadTries ian_BadTries icd_BadTries ict_BadTries), isl_BadTries⟩)
    (ci_BadTries : PySem.W.codeIn K icd_BadTries "BadTries.__init__" = true)
    (ki_BadTries : PySem.W.keepIn K (.ref i_BadTries) = true)
    (kC_BadTries : PySem.W.keepIn K (.ref C_BadTries) = true)
    (eC_BadTries : PySem.W.subIn K (.ref C_BadTries) (.type "BaseException") = some true)
    (tC_BadTries : PySem.W.typeIn K (.ref C_BadTries) = some (.type "type"))
    (te_BadTries : PySem.W.exmOne K (.ref C_BadTries) (.ref C_BadTries) = some true)
    (nVE_ : PySem.W.nsIn K mainGlobals "ValueError" = some none)
    (chk : (List.range 37).all (chkB K [C_NoFraction, C_NoPoint, C_NoPlate, C_BadCorners, C_BadPlates, C_BadSheet, C_TooMany, C_NoCorner, C_NoCrease, C_NoNumbers, C_NoStand, C_BadChoice, C_BadSpaces, C_NoPlacing, C_Shut, C_NoSpot, C_BadNumber, C_NoPolynomial, C_BadLot, C_BadBook, C_BadTold, C_NoFit, C_BadPrices, C_BadHeld, C_NotHeld, C_BadSeam, C_BadTable, C_BadWish, C_BadLengths, C_NoSlit, C_NoPart, C_BadText, C_NoTree, C_LiesOver, C_NoUndo, C_BadTries, C_FoldError]) = true)
    (z_int : PySem.W.nsIn K mainGlobals "int" = some none)
    (z_bool : PySem.W.nsIn K mainGlobals "bool" = some none)
    (z_tuple : PySem.W.nsIn K mainGlobals "tuple" = some none)
    (z_list : PySem.W.nsIn K mainGlobals "list" = some none)
    (z_len : PySem.W.nsIn K mainGlobals "len" = some none)
    (z_abs : PySem.W.nsIn K mainGlobals "abs" = some none)
    (z_min : PySem.W.nsIn K mainGlobals "min" = some none)
    (z_max : PySem.W.nsIn K mainGlobals "max" = some none)
    (z_range : PySem.W.nsIn K mainGlobals "range" = some none)
    (z_isinstance : PySem.W.nsIn K mainGlobals "isinstance" = some none) :
    ∃ fd : FuncData, (∀ (s : Shared) (v : Value), BindsTo s fd ⟨[v], []⟩ [("script", v)]) ∧ ∀ base : Heap, K.In base → base.Ns mainGlobals mg → FnOk l.prog w K mg base CX0 6 fa fd ["script"] (sp_law K) := by
  have e := hfa.symm.trans (PySem.W.mg_of X G a_law)
  cases e
  have nb : Nb mg := { int := PySem.W.mg_none_of X G z_int, bool := PySem.W.mg_none_of X G z_bool, tuple := PySem.W.mg_none_of X G z_tuple, list := PySem.W.mg_none_of X G z_list, len := PySem.W.mg_none_of X G z_len, abs := PySem.W.mg_none_of X G z_abs, min := PySem.W.mg_none_of X G z_min, max := PySem.W.mg_none_of X G z_max, range := PySem.W.mg_none_of X G z_range, isinstance := PySem.W.mg_none_of X G z_isinstance }
  have F_law_mixed := fun_mk (st := s_law_mixed) l_law_mixed c_law_mixed k_law_mixed
  have b_law_mixed := F_law_mixed.binds (ps := ["cell", "k"]) fun _ _ _ _ _ _ us hl => match us, hl with | [_, _], _ => rfl
  have F_law_great := fun_mk (st := s_law_great) l_law_great c_law_great k_law_great
  have b_law_great := F_law_great.binds (ps := ["cells", "place"]) fun _ _ _ _ _ _ us hl => match us, hl with | [_, _], _ => rfl
  have F_law_stream := fun_mk (st := s_law_stream) l_law_stream c_law_stream k_law_stream
  have b_law_stream := F_law_stream.binds (ps := ["script"]) fun _ _ _ _ _ _ us hl => match us, hl with | [_], _ => rfl
  have F_law_take := fun_mk (st := s_law_take) l_law_take c_law_take k_law_take
  have b_law_take := F_law_take.binds (ps := ["stream", "many"]) fun _ _ _ _ _ _ us hl => match us, hl with | [_, _], _ => rfl
  have F_law_whole := fun_mk (st := s_law_whole) l_law_whole c_law_whole k_law_whole
  have b_law_whole := F_law_whole.binds (ps := ["stream"]) fun _ _ _ _ _ _ us hl => match us, hl with | [_], _ => rfl
  have F_law_raise_early := fun_mk (st := s_law_raise_early) l_law_raise_early c_law_raise_early k_law_raise_early
  have b_law_raise_early := F_law_raise_early.binds (ps := ["k", "word", "number"]) fun _ _ _ _ _ _ us hl => match us, hl with | [_, _, _], _ => rfl
  have F_law_raise_late := fun_mk (st := s_law_raise_late) l_law_raise_late c_law_raise_late k_law_raise_late
  have b_law_raise_late := F_law_raise_late.binds (ps := ["k", "word", "number"]) fun _ _ _ _ _ _ us hl => match us, hl with | [_, _, _], _ => rfl
  have F_law_raise := fun_mk (st := s_law_raise) l_law_raise c_law_raise k_law_raise
  have b_law_raise := F_law_raise.binds (ps := ["k", "word", "number"]) fun _ _ _ _ _ _ us hl => match us, hl with | [_, _, _], _ => rfl
  have F_law_classes := fun_mk (st := s_law_classes) l_law_classes c_law_classes k_law_classes
  have b_law_classes := F_law_classes.binds (ps := ["e"]) fun _ _ _ _ _ _ us hl => match us, hl with | [_], _ => rfl
  have F_law_fields := fun_mk (st := s_law_fields) l_law_fields c_law_fields k_law_fields
  have b_law_fields := F_law_fields.binds (ps := ["k", "e"]) fun _ _ _ _ _ _ us hl => match us, hl with | [_, _], _ => rfl
  have F_law_due := fun_mk (st := s_law_due) l_law_due c_law_due k_law_due
  have b_law_due := F_law_due.binds (ps := ["k", "word", "number"]) fun _ _ _ _ _ _ us hl => match us, hl with | [_, _, _], _ => rfl
  have F_law_asked := fun_mk (st := s_law_asked) l_law_asked c_law_asked k_law_asked
  have b_law_asked := F_law_asked.binds (ps := ["k", "word", "number"]) fun _ _ _ _ _ _ us hl => match us, hl with | [_, _, _], _ => rfl
  have F_law := fun_mk (st := s_law) l_law c_law k_law
  refine ⟨PySem.W.fnOf "law" "law" (defArgs s_law) (defBody s_law) (defScope s_law) .none kV_law dc_law pm_law an_law cd_law ct_law, fun s v => .of_eq rfl, fun base _ _ => ?_⟩
  have S : Cls K [C_NoFraction, C_NoPoint, C_NoPlate, C_BadCorners, C_BadPlates, C_BadSheet, C_TooMany, C_NoCorner, C_NoCrease, C_NoNumbers, C_NoStand, C_BadChoice, C_BadSpaces, C_NoPlacing, C_Shut, C_NoSpot, C_BadNumber, C_NoPolynomial, C_BadLot, C_BadBook, C_BadTold, C_NoFit, C_BadPrices, C_BadHeld, C_NotHeld, C_BadSeam, C_BadTable, C_BadWish, C_BadLengths, C_NoSlit, C_NoPart, C_BadText, C_NoTree, C_LiesOver, C_NoUndo, C_BadTries, C_FoldError] := cls_of chk
  have nVE := PySem.W.mg_none_of X G nVE_
  have c_FoldError : ExB K mg "FoldError" C_FoldError := ⟨PySem.W.mg_of X G aC_FoldError, ex_FoldError, kC_FoldError, eC_FoldError, tC_FoldError⟩
  have I_NoFraction := fun_mk (st := i0_NoFraction) li_NoFraction ci_NoFraction ki_NoFraction
  have c_NoFraction : Ex0 l.prog w K mg base "NoFraction" C_NoFraction := ⟨⟨⟨nm_NoFraction, q_NoFraction, N_NoFraction, bs_NoFraction, _, sn_NoFraction, sub_NoFraction, ab_NoFraction, col_NoFraction, dd_NoFraction, m0_NoFraction, m1_NoFraction, m2_NoFraction, m3_NoFraction, m5_NoFraction, xL_NoFraction, (show (PySem.HandSPX.veTail == PySem.HandSPX.veTail) = true by decide +kernel)⟩, sa_NoFraction, eC_NoFraction, tC_NoFraction, kC_NoFraction⟩, PySem.W.mg_of X G aC_NoFraction, te_NoFraction, ⟨i_NoFraction, _, in_NoFraction, ti_NoFraction, okinit_NoFraction I_NoFraction, I_NoFraction.binds fun _ _ _ _ _ _ us hl => match us, hl with | [_], _ => rfl⟩⟩
  have I_NoPoint := fun_mk (st := i0_NoPoint) li_NoPoint ci_NoPoint ki_NoPoint
  have c_NoPoint : Ex0 l.prog w K mg base "NoPoint" C_NoPoint := ⟨⟨⟨nm_NoPoint, q_NoPoint, N_NoPoint, bs_NoPoint, _, sn_NoPoint, sub_NoPoint, ab_NoPoint, col_NoPoint, dd_NoPoint, m0_NoPoint, m1_NoPoint, m2_NoPoint, m3_NoPoint, m5_NoPoint, xL_NoPoint, (show (PySem.HandSPX.veTail == PySem.HandSPX.veTail) = true by decide +kernel)⟩, sa_NoPoint, eC_NoPoint, tC_NoPoint, kC_NoPoint⟩, PySem.W.mg_of X G aC_NoPoint, te_NoPoint, ⟨i_NoPoint, _, in_NoPoint, ti_NoPoint, okinit_NoPoint I_NoPoint, I_NoPoint.binds fun _ _ _ _ _ _ us hl => match us, hl with | [_], _ => rfl⟩⟩
  have I_NoPlate := fun_mk (st := i0_NoPlate) li_NoPlate ci_NoPlate ki_NoPlate
  have c_NoPlate : Ex0 l.prog w K mg base "NoPlate" C_NoPlate := ⟨⟨⟨nm_NoPlate, q_NoPlate, N_NoPlate, bs_NoPlate, _, sn_NoPlate, sub_NoPlate, ab_NoPlate, col_NoPlate, dd_NoPlate, m0_NoPlate, m1_NoPlate, m2_NoPlate, m3_NoPlate, m5_NoPlate, xL_NoPlate, (show (PySem.HandSPX.veTail == PySem.HandSPX.veTail) = true by decide +kernel)⟩, sa_NoPlate, eC_NoPlate, tC_NoPlate, kC_NoPlate⟩, PySem.W.mg_of X G aC_NoPlate, te_NoPlate, ⟨i_NoPlate, _, in_NoPlate, ti_NoPlate, okinit_NoPlate I_NoPlate, I_NoPlate.binds fun _ _ _ _ _ _ us hl => match us, hl with | [_], _ => rfl⟩⟩
  have I_BadCorners := fun_mk (st := i0_BadCorners) li_BadCorners ci_BadCorners ki_BadCorners
  have c_BadCorners : ExF l.prog w K mg base "BadCorners" C_BadCorners ["self", "at"] (sp_ini1 K C_BadCorners "at") := ⟨⟨⟨nm_BadCorners, q_BadCorners, N_BadCorners, bs_BadCorners, _, sn_BadCorners, sub_BadCorners, ab_BadCorners, col_BadCorners, dd_BadCorners, m0_BadCorners, m1_BadCorners, m2_BadCorners, m3_BadCorners, m5_BadCorners, xL_BadCorners, (show (PySem.HandSPX.veTail == PySem.HandSPX.veTail) = true by decide +kernel)⟩, sa_BadCorners, eC_BadCorners, tC_BadCorners, kC_BadCorners⟩, PySem.W.mg_of X G aC_BadCorners, ⟨i_BadCorners, _, in_BadCorners, ti_BadCorners, okinit_BadCorners I_BadCorners, I_BadCorners.binds fun _ _ _ _ _ _ us hl => match us, hl with | [_, _], _ => rfl⟩⟩
  have I_BadPlates := fun_mk (st := i0_BadPlates) li_BadPlates ci_BadPlates ki_BadPlates
  have c_BadPlates : ExF l.prog w K mg base "BadPlates" C_BadPlates ["self", "at"] (sp_ini1 K C_BadPlates "at") := ⟨⟨⟨nm_BadPlates, q_BadPlates, N_BadPlates, bs_BadPlates, _, sn_BadPlates, sub_BadPlates, ab_BadPlates, col_BadPlates, dd_BadPlates, m0_BadPlates, m1_BadPlates, m2_BadPlates, m3_BadPlates, m5_BadPlates, xL_BadPlates, (show (PySem.HandSPX.veTail == PySem.HandSPX.veTail) = true by decide +kernel)⟩, sa_BadPlates, eC_BadPlates, tC_BadPlates, kC_BadPlates⟩, PySem.W.mg_of X G aC_BadPlates, ⟨i_BadPlates, _, in_BadPlates, ti_BadPlates, okinit_BadPlates I_BadPlates, I_BadPlates.binds fun _ _ _ _ _ _ us hl => match us, hl with | [_, _], _ => rfl⟩⟩
  have I_BadSheet := fun_mk (st := i0_BadSheet) li_BadSheet ci_BadSheet ki_BadSheet
  have c_BadSheet : ExF l.prog w K mg base "BadSheet" C_BadSheet ["self", "word", "at"] (sp_ini2 K C_BadSheet "word" "at") := ⟨⟨⟨nm_BadSheet, q_BadSheet, N_BadSheet, bs_BadSheet, _, sn_BadSheet, sub_BadSheet, ab_BadSheet, col_BadSheet, dd_BadSheet, m0_BadSheet, m1_BadSheet, m2_BadSheet, m3_BadSheet, m5_BadSheet, xL_BadSheet, (show (PySem.HandSPX.veTail == PySem.HandSPX.veTail) = true by decide +kernel)⟩, sa_BadSheet, eC_BadSheet, tC_BadSheet, kC_BadSheet⟩, PySem.W.mg_of X G aC_BadSheet, ⟨i_BadSheet, _, in_BadSheet, ti_BadSheet, okinit_BadSheet I_BadSheet, I_BadSheet.binds fun _ _ _ _ _ _ us hl => match us, hl with | [_, _, _], _ => rfl⟩⟩
  have I_TooMany := fun_mk (st := i0_TooMany) li_TooMany ci_TooMany ki_TooMany
  have c_TooMany : ExF l.prog w K mg base "TooMany" C_TooMany ["self", "most"] (sp_ini1 K C_TooMany "most") := ⟨⟨⟨nm_TooMany, q_TooMany, N_TooMany, bs_TooMany, _, sn_TooMany, sub_TooMany, ab_TooMany, col_TooMany, dd_TooMany, m0_TooMany, m1_TooMany, m2_TooMany, m3_TooMany, m5_TooMany, xL_TooMany, (show (PySem.HandSPX.veTail == PySem.HandSPX.veTail) = true by decide +kernel)⟩, sa_TooMany, eC_TooMany, tC_TooMany, kC_TooMany⟩, PySem.W.mg_of X G aC_TooMany, ⟨i_TooMany, _, in_TooMany, ti_TooMany, okinit_TooMany I_TooMany, I_TooMany.binds fun _ _ _ _ _ _ us hl => match us, hl with | [_, _], _ => rfl⟩⟩
  have I_NoCorner := fun_mk (st := i0_NoCorner) li_NoCorner ci_NoCorner ki_NoCorner
  have c_NoCorner : Ex0 l.prog w K mg base "NoCorner" C_NoCorner := ⟨⟨⟨nm_NoCorner, q_NoCorner, N_NoCorner, bs_NoCorner, _, sn_NoCorner, sub_NoCorner, ab_NoCorner, col_NoCorner, dd_NoCorner, m0_NoCorner, m1_NoCorner, m2_NoCorner, m3_NoCorner, m5_NoCorner, xL_NoCorner, (show (PySem.HandSPX.veTail == PySem.HandSPX.veTail) = true by decide +kernel)⟩, sa_NoCorner, eC_NoCorner, tC_NoCorner, kC_NoCorner⟩, PySem.W.mg_of X G aC_NoCorner, te_NoCorner, ⟨i_NoCorner, _, in_NoCorner, ti_NoCorner, okinit_NoCorner I_NoCorner, I_NoCorner.binds fun _ _ _ _ _ _ us hl => match us, hl with | [_], _ => rfl⟩⟩
  have I_NoCrease := fun_mk (st := i0_NoCrease) li_NoCrease ci_NoCrease ki_NoCrease
  have c_NoCrease : Ex0 l.prog w K mg base "NoCrease" C_NoCrease := ⟨⟨⟨nm_NoCrease, q_NoCrease, N_NoCrease, bs_NoCrease, _, sn_NoCrease, sub_NoCrease, ab_NoCrease, col_NoCrease, dd_NoCrease, m0_NoCrease, m1_NoCrease, m2_NoCrease, m3_NoCrease, m5_NoCrease, xL_NoCrease, (show (PySem.HandSPX.veTail == PySem.HandSPX.veTail) = true by decide +kernel)⟩, sa_NoCrease, eC_NoCrease, tC_NoCrease, kC_NoCrease⟩, PySem.W.mg_of X G aC_NoCrease, te_NoCrease, ⟨i_NoCrease, _, in_NoCrease, ti_NoCrease, okinit_NoCrease I_NoCrease, I_NoCrease.binds fun _ _ _ _ _ _ us hl => match us, hl with | [_], _ => rfl⟩⟩
  have I_NoNumbers := fun_mk (st := i0_NoNumbers) li_NoNumbers ci_NoNumbers ki_NoNumbers
  have c_NoNumbers : Ex0 l.prog w K mg base "NoNumbers" C_NoNumbers := ⟨⟨⟨nm_NoNumbers, q_NoNumbers, N_NoNumbers, bs_NoNumbers, _, sn_NoNumbers, sub_NoNumbers, ab_NoNumbers, col_NoNumbers, dd_NoNumbers, m0_NoNumbers, m1_NoNumbers, m2_NoNumbers, m3_NoNumbers, m5_NoNumbers, xL_NoNumbers, (show (PySem.HandSPX.veTail == PySem.HandSPX.veTail) = true by decide +kernel)⟩, sa_NoNumbers, eC_NoNumbers, tC_NoNumbers, kC_NoNumbers⟩, PySem.W.mg_of X G aC_NoNumbers, te_NoNumbers, ⟨i_NoNumbers, _, in_NoNumbers, ti_NoNumbers, okinit_NoNumbers I_NoNumbers, I_NoNumbers.binds fun _ _ _ _ _ _ us hl => match us, hl with | [_], _ => rfl⟩⟩
  have I_NoStand := fun_mk (st := i0_NoStand) li_NoStand ci_NoStand ki_NoStand
  have c_NoStand : Ex0 l.prog w K mg base "NoStand" C_NoStand := ⟨⟨⟨nm_NoStand, q_NoStand, N_NoStand, bs_NoStand, _, sn_NoStand, sub_NoStand, ab_NoStand, col_NoStand, dd_NoStand, m0_NoStand, m1_NoStand, m2_NoStand, m3_NoStand, m5_NoStand, xL_NoStand, (show (PySem.HandSPX.veTail == PySem.HandSPX.veTail) = true by decide +kernel)⟩, sa_NoStand, eC_NoStand, tC_NoStand, kC_NoStand⟩, PySem.W.mg_of X G aC_NoStand, te_NoStand, ⟨i_NoStand, _, in_NoStand, ti_NoStand, okinit_NoStand I_NoStand, I_NoStand.binds fun _ _ _ _ _ _ us hl => match us, hl with | [_], _ => rfl⟩⟩
  have I_BadChoice := fun_mk (st := i0_BadChoice) li_BadChoice ci_BadChoice ki_BadChoice
  have c_BadChoice : Ex0 l.prog w K mg base "BadChoice" C_BadChoice := ⟨⟨⟨nm_BadChoice, q_BadChoice, N_BadChoice, bs_BadChoice, _, sn_BadChoice, sub_BadChoice, ab_BadChoice, col_BadChoice, dd_BadChoice, m0_BadChoice, m1_BadChoice, m2_BadChoice, m3_BadChoice, m5_BadChoice, xL_BadChoice, (show (PySem.HandSPX.veTail == PySem.HandSPX.veTail) = true by decide +kernel)⟩, sa_BadChoice, eC_BadChoice, tC_BadChoice, kC_BadChoice⟩, PySem.W.mg_of X G aC_BadChoice, te_BadChoice, ⟨i_BadChoice, _, in_BadChoice, ti_BadChoice, okinit_BadChoice I_BadChoice, I_BadChoice.binds fun _ _ _ _ _ _ us hl => match us, hl with | [_], _ => rfl⟩⟩
  have I_BadSpaces := fun_mk (st := i0_BadSpaces) li_BadSpaces ci_BadSpaces ki_BadSpaces
  have c_BadSpaces : ExF l.prog w K mg base "BadSpaces" C_BadSpaces ["self", "at"] (sp_ini1 K C_BadSpaces "at") := ⟨⟨⟨nm_BadSpaces, q_BadSpaces, N_BadSpaces, bs_BadSpaces, _, sn_BadSpaces, sub_BadSpaces, ab_BadSpaces, col_BadSpaces, dd_BadSpaces, m0_BadSpaces, m1_BadSpaces, m2_BadSpaces, m3_BadSpaces, m5_BadSpaces, xL_BadSpaces, (show (PySem.HandSPX.veTail == PySem.HandSPX.veTail) = true by decide +kernel)⟩, sa_BadSpaces, eC_BadSpaces, tC_BadSpaces, kC_BadSpaces⟩, PySem.W.mg_of X G aC_BadSpaces, ⟨i_BadSpaces, _, in_BadSpaces, ti_BadSpaces, okinit_BadSpaces I_BadSpaces, I_BadSpaces.binds fun _ _ _ _ _ _ us hl => match us, hl with | [_, _], _ => rfl⟩⟩
  have I_NoPlacing := fun_mk (st := i0_NoPlacing) li_NoPlacing ci_NoPlacing ki_NoPlacing
  have c_NoPlacing : Ex0 l.prog w K mg base "NoPlacing" C_NoPlacing := ⟨⟨⟨nm_NoPlacing, q_NoPlacing, N_NoPlacing, bs_NoPlacing, _, sn_NoPlacing, sub_NoPlacing, ab_NoPlacing, col_NoPlacing, dd_NoPlacing, m0_NoPlacing, m1_NoPlacing, m2_NoPlacing, m3_NoPlacing, m5_NoPlacing, xL_NoPlacing, (show (PySem.HandSPX.veTail == PySem.HandSPX.veTail) = true by decide +kernel)⟩, sa_NoPlacing, eC_NoPlacing, tC_NoPlacing, kC_NoPlacing⟩, PySem.W.mg_of X G aC_NoPlacing, te_NoPlacing, ⟨i_NoPlacing, _, in_NoPlacing, ti_NoPlacing, okinit_NoPlacing I_NoPlacing, I_NoPlacing.binds fun _ _ _ _ _ _ us hl => match us, hl with | [_], _ => rfl⟩⟩
  have I_Shut := fun_mk (st := i0_Shut) li_Shut ci_Shut ki_Shut
  have c_Shut : ExF l.prog w K mg base "Shut" C_Shut ["self", "crease"] (sp_ini1 K C_Shut "crease") := ⟨⟨⟨nm_Shut, q_Shut, N_Shut, bs_Shut, _, sn_Shut, sub_Shut, ab_Shut, col_Shut, dd_Shut, m0_Shut, m1_Shut, m2_Shut, m3_Shut, m5_Shut, xL_Shut, (show (PySem.HandSPX.veTail == PySem.HandSPX.veTail) = true by decide +kernel)⟩, sa_Shut, eC_Shut, tC_Shut, kC_Shut⟩, PySem.W.mg_of X G aC_Shut, ⟨i_Shut, _, in_Shut, ti_Shut, okinit_Shut I_Shut, I_Shut.binds fun _ _ _ _ _ _ us hl => match us, hl with | [_, _], _ => rfl⟩⟩
  have I_NoSpot := fun_mk (st := i0_NoSpot) li_NoSpot ci_NoSpot ki_NoSpot
  have c_NoSpot : Ex0 l.prog w K mg base "NoSpot" C_NoSpot := ⟨⟨⟨nm_NoSpot, q_NoSpot, N_NoSpot, bs_NoSpot, _, sn_NoSpot, sub_NoSpot, ab_NoSpot, col_NoSpot, dd_NoSpot, m0_NoSpot, m1_NoSpot, m2_NoSpot, m3_NoSpot, m5_NoSpot, xL_NoSpot, (show (PySem.HandSPX.veTail == PySem.HandSPX.veTail) = true by decide +kernel)⟩, sa_NoSpot, eC_NoSpot, tC_NoSpot, kC_NoSpot⟩, PySem.W.mg_of X G aC_NoSpot, te_NoSpot, ⟨i_NoSpot, _, in_NoSpot, ti_NoSpot, okinit_NoSpot I_NoSpot, I_NoSpot.binds fun _ _ _ _ _ _ us hl => match us, hl with | [_], _ => rfl⟩⟩
  have I_BadNumber := fun_mk (st := i0_BadNumber) li_BadNumber ci_BadNumber ki_BadNumber
  have c_BadNumber : ExF l.prog w K mg base "BadNumber" C_BadNumber ["self", "word"] (sp_ini1 K C_BadNumber "word") := ⟨⟨⟨nm_BadNumber, q_BadNumber, N_BadNumber, bs_BadNumber, _, sn_BadNumber, sub_BadNumber, ab_BadNumber, col_BadNumber, dd_BadNumber, m0_BadNumber, m1_BadNumber, m2_BadNumber, m3_BadNumber, m5_BadNumber, xL_BadNumber, (show (PySem.HandSPX.veTail == PySem.HandSPX.veTail) = true by decide +kernel)⟩, sa_BadNumber, eC_BadNumber, tC_BadNumber, kC_BadNumber⟩, PySem.W.mg_of X G aC_BadNumber, ⟨i_BadNumber, _, in_BadNumber, ti_BadNumber, okinit_BadNumber I_BadNumber, I_BadNumber.binds fun _ _ _ _ _ _ us hl => match us, hl with | [_, _], _ => rfl⟩⟩
  have I_NoPolynomial := fun_mk (st := i0_NoPolynomial) li_NoPolynomial ci_NoPolynomial ki_NoPolynomial
  have c_NoPolynomial : Ex0 l.prog w K mg base "NoPolynomial" C_NoPolynomial := ⟨⟨⟨nm_NoPolynomial, q_NoPolynomial, N_NoPolynomial, bs_NoPolynomial, _, sn_NoPolynomial, sub_NoPolynomial, ab_NoPolynomial, col_NoPolynomial, dd_NoPolynomial, m0_NoPolynomial, m1_NoPolynomial, m2_NoPolynomial, m3_NoPolynomial, m5_NoPolynomial, xL_NoPolynomial, (show (PySem.HandSPX.veTail == PySem.HandSPX.veTail) = true by decide +kernel)⟩, sa_NoPolynomial, eC_NoPolynomial, tC_NoPolynomial, kC_NoPolynomial⟩, PySem.W.mg_of X G aC_NoPolynomial, te_NoPolynomial, ⟨i_NoPolynomial, _, in_NoPolynomial, ti_NoPolynomial, okinit_NoPolynomial I_NoPolynomial, I_NoPolynomial.binds fun _ _ _ _ _ _ us hl => match us, hl with | [_], _ => rfl⟩⟩
  have I_BadLot := fun_mk (st := i0_BadLot) li_BadLot ci_BadLot ki_BadLot
  have c_BadLot : Ex0 l.prog w K mg base "BadLot" C_BadLot := ⟨⟨⟨nm_BadLot, q_BadLot, N_BadLot, bs_BadLot, _, sn_BadLot, sub_BadLot, ab_BadLot, col_BadLot, dd_BadLot, m0_BadLot, m1_BadLot, m2_BadLot, m3_BadLot, m5_BadLot, xL_BadLot, (show (PySem.HandSPX.veTail == PySem.HandSPX.veTail) = true by decide +kernel)⟩, sa_BadLot, eC_BadLot, tC_BadLot, kC_BadLot⟩, PySem.W.mg_of X G aC_BadLot, te_BadLot, ⟨i_BadLot, _, in_BadLot, ti_BadLot, okinit_BadLot I_BadLot, I_BadLot.binds fun _ _ _ _ _ _ us hl => match us, hl with | [_], _ => rfl⟩⟩
  have I_BadBook := fun_mk (st := i0_BadBook) li_BadBook ci_BadBook ki_BadBook
  have c_BadBook : Ex0 l.prog w K mg base "BadBook" C_BadBook := ⟨⟨⟨nm_BadBook, q_BadBook, N_BadBook, bs_BadBook, _, sn_BadBook, sub_BadBook, ab_BadBook, col_BadBook, dd_BadBook, m0_BadBook, m1_BadBook, m2_BadBook, m3_BadBook, m5_BadBook, xL_BadBook, (show (PySem.HandSPX.veTail == PySem.HandSPX.veTail) = true by decide +kernel)⟩, sa_BadBook, eC_BadBook, tC_BadBook, kC_BadBook⟩, PySem.W.mg_of X G aC_BadBook, te_BadBook, ⟨i_BadBook, _, in_BadBook, ti_BadBook, okinit_BadBook I_BadBook, I_BadBook.binds fun _ _ _ _ _ _ us hl => match us, hl with | [_], _ => rfl⟩⟩
  have I_BadTold := fun_mk (st := i0_BadTold) li_BadTold ci_BadTold ki_BadTold
  have c_BadTold : Ex0 l.prog w K mg base "BadTold" C_BadTold := ⟨⟨⟨nm_BadTold, q_BadTold, N_BadTold, bs_BadTold, _, sn_BadTold, sub_BadTold, ab_BadTold, col_BadTold, dd_BadTold, m0_BadTold, m1_BadTold, m2_BadTold, m3_BadTold, m5_BadTold, xL_BadTold, (show (PySem.HandSPX.veTail == PySem.HandSPX.veTail) = true by decide +kernel)⟩, sa_BadTold, eC_BadTold, tC_BadTold, kC_BadTold⟩, PySem.W.mg_of X G aC_BadTold, te_BadTold, ⟨i_BadTold, _, in_BadTold, ti_BadTold, okinit_BadTold I_BadTold, I_BadTold.binds fun _ _ _ _ _ _ us hl => match us, hl with | [_], _ => rfl⟩⟩
  have I_NoFit := fun_mk (st := i0_NoFit) li_NoFit ci_NoFit ki_NoFit
  have c_NoFit : Ex0 l.prog w K mg base "NoFit" C_NoFit := ⟨⟨⟨nm_NoFit, q_NoFit, N_NoFit, bs_NoFit, _, sn_NoFit, sub_NoFit, ab_NoFit, col_NoFit, dd_NoFit, m0_NoFit, m1_NoFit, m2_NoFit, m3_NoFit, m5_NoFit, xL_NoFit, (show (PySem.HandSPX.veTail == PySem.HandSPX.veTail) = true by decide +kernel)⟩, sa_NoFit, eC_NoFit, tC_NoFit, kC_NoFit⟩, PySem.W.mg_of X G aC_NoFit, te_NoFit, ⟨i_NoFit, _, in_NoFit, ti_NoFit, okinit_NoFit I_NoFit, I_NoFit.binds fun _ _ _ _ _ _ us hl => match us, hl with | [_], _ => rfl⟩⟩
  have I_BadPrices := fun_mk (st := i0_BadPrices) li_BadPrices ci_BadPrices ki_BadPrices
  have c_BadPrices : Ex0 l.prog w K mg base "BadPrices" C_BadPrices := ⟨⟨⟨nm_BadPrices, q_BadPrices, N_BadPrices, bs_BadPrices, _, sn_BadPrices, sub_BadPrices, ab_BadPrices, col_BadPrices, dd_BadPrices, m0_BadPrices, m1_BadPrices, m2_BadPrices, m3_BadPrices, m5_BadPrices, xL_BadPrices, (show (PySem.HandSPX.veTail == PySem.HandSPX.veTail) = true by decide +kernel)⟩, sa_BadPrices, eC_BadPrices, tC_BadPrices, kC_BadPrices⟩, PySem.W.mg_of X G aC_BadPrices, te_BadPrices, ⟨i_BadPrices, _, in_BadPrices, ti_BadPrices, okinit_BadPrices I_BadPrices, I_BadPrices.binds fun _ _ _ _ _ _ us hl => match us, hl with | [_], _ => rfl⟩⟩
  have I_BadHeld := fun_mk (st := i0_BadHeld) li_BadHeld ci_BadHeld ki_BadHeld
  have c_BadHeld : Ex0 l.prog w K mg base "BadHeld" C_BadHeld := ⟨⟨⟨nm_BadHeld, q_BadHeld, N_BadHeld, bs_BadHeld, _, sn_BadHeld, sub_BadHeld, ab_BadHeld, col_BadHeld, dd_BadHeld, m0_BadHeld, m1_BadHeld, m2_BadHeld, m3_BadHeld, m5_BadHeld, xL_BadHeld, (show (PySem.HandSPX.veTail == PySem.HandSPX.veTail) = true by decide +kernel)⟩, sa_BadHeld, eC_BadHeld, tC_BadHeld, kC_BadHeld⟩, PySem.W.mg_of X G aC_BadHeld, te_BadHeld, ⟨i_BadHeld, _, in_BadHeld, ti_BadHeld, okinit_BadHeld I_BadHeld, I_BadHeld.binds fun _ _ _ _ _ _ us hl => match us, hl with | [_], _ => rfl⟩⟩
  have I_NotHeld := fun_mk (st := i0_NotHeld) li_NotHeld ci_NotHeld ki_NotHeld
  have c_NotHeld : ExF l.prog w K mg base "NotHeld" C_NotHeld ["self", "at"] (sp_ini1 K C_NotHeld "at") := ⟨⟨⟨nm_NotHeld, q_NotHeld, N_NotHeld, bs_NotHeld, _, sn_NotHeld, sub_NotHeld, ab_NotHeld, col_NotHeld, dd_NotHeld, m0_NotHeld, m1_NotHeld, m2_NotHeld, m3_NotHeld, m5_NotHeld, xL_NotHeld, (show (PySem.HandSPX.veTail == PySem.HandSPX.veTail) = true by decide +kernel)⟩, sa_NotHeld, eC_NotHeld, tC_NotHeld, kC_NotHeld⟩, PySem.W.mg_of X G aC_NotHeld, ⟨i_NotHeld, _, in_NotHeld, ti_NotHeld, okinit_NotHeld I_NotHeld, I_NotHeld.binds fun _ _ _ _ _ _ us hl => match us, hl with | [_, _], _ => rfl⟩⟩
  have I_BadSeam := fun_mk (st := i0_BadSeam) li_BadSeam ci_BadSeam ki_BadSeam
  have c_BadSeam : ExF l.prog w K mg base "BadSeam" C_BadSeam ["self", "word"] (sp_ini1 K C_BadSeam "word") := ⟨⟨⟨nm_BadSeam, q_BadSeam, N_BadSeam, bs_BadSeam, _, sn_BadSeam, sub_BadSeam, ab_BadSeam, col_BadSeam, dd_BadSeam, m0_BadSeam, m1_BadSeam, m2_BadSeam, m3_BadSeam, m5_BadSeam, xL_BadSeam, (show (PySem.HandSPX.veTail == PySem.HandSPX.veTail) = true by decide +kernel)⟩, sa_BadSeam, eC_BadSeam, tC_BadSeam, kC_BadSeam⟩, PySem.W.mg_of X G aC_BadSeam, ⟨i_BadSeam, _, in_BadSeam, ti_BadSeam, okinit_BadSeam I_BadSeam, I_BadSeam.binds fun _ _ _ _ _ _ us hl => match us, hl with | [_, _], _ => rfl⟩⟩
  have I_BadTable := fun_mk (st := i0_BadTable) li_BadTable ci_BadTable ki_BadTable
  have c_BadTable : Ex0 l.prog w K mg base "BadTable" C_BadTable := ⟨⟨⟨nm_BadTable, q_BadTable, N_BadTable, bs_BadTable, _, sn_BadTable, sub_BadTable, ab_BadTable, col_BadTable, dd_BadTable, m0_BadTable, m1_BadTable, m2_BadTable, m3_BadTable, m5_BadTable, xL_BadTable, (show (PySem.HandSPX.veTail == PySem.HandSPX.veTail) = true by decide +kernel)⟩, sa_BadTable, eC_BadTable, tC_BadTable, kC_BadTable⟩, PySem.W.mg_of X G aC_BadTable, te_BadTable, ⟨i_BadTable, _, in_BadTable, ti_BadTable, okinit_BadTable I_BadTable, I_BadTable.binds fun _ _ _ _ _ _ us hl => match us, hl with | [_], _ => rfl⟩⟩
  have I_BadWish := fun_mk (st := i0_BadWish) li_BadWish ci_BadWish ki_BadWish
  have c_BadWish : Ex0 l.prog w K mg base "BadWish" C_BadWish := ⟨⟨⟨nm_BadWish, q_BadWish, N_BadWish, bs_BadWish, _, sn_BadWish, sub_BadWish, ab_BadWish, col_BadWish, dd_BadWish, m0_BadWish, m1_BadWish, m2_BadWish, m3_BadWish, m5_BadWish, xL_BadWish, (show (PySem.HandSPX.veTail == PySem.HandSPX.veTail) = true by decide +kernel)⟩, sa_BadWish, eC_BadWish, tC_BadWish, kC_BadWish⟩, PySem.W.mg_of X G aC_BadWish, te_BadWish, ⟨i_BadWish, _, in_BadWish, ti_BadWish, okinit_BadWish I_BadWish, I_BadWish.binds fun _ _ _ _ _ _ us hl => match us, hl with | [_], _ => rfl⟩⟩
  have I_BadLengths := fun_mk (st := i0_BadLengths) li_BadLengths ci_BadLengths ki_BadLengths
  have c_BadLengths : Ex0 l.prog w K mg base "BadLengths" C_BadLengths := ⟨⟨⟨nm_BadLengths, q_BadLengths, N_BadLengths, bs_BadLengths, _, sn_BadLengths, sub_BadLengths, ab_BadLengths, col_BadLengths, dd_BadLengths, m0_BadLengths, m1_BadLengths, m2_BadLengths, m3_BadLengths, m5_BadLengths, xL_BadLengths, (show (PySem.HandSPX.veTail == PySem.HandSPX.veTail) = true by decide +kernel)⟩, sa_BadLengths, eC_BadLengths, tC_BadLengths, kC_BadLengths⟩, PySem.W.mg_of X G aC_BadLengths, te_BadLengths, ⟨i_BadLengths, _, in_BadLengths, ti_BadLengths, okinit_BadLengths I_BadLengths, I_BadLengths.binds fun _ _ _ _ _ _ us hl => match us, hl with | [_], _ => rfl⟩⟩
  have I_NoSlit := fun_mk (st := i0_NoSlit) li_NoSlit ci_NoSlit ki_NoSlit
  have c_NoSlit : Ex0 l.prog w K mg base "NoSlit" C_NoSlit := ⟨⟨⟨nm_NoSlit, q_NoSlit, N_NoSlit, bs_NoSlit, _, sn_NoSlit, sub_NoSlit, ab_NoSlit, col_NoSlit, dd_NoSlit, m0_NoSlit, m1_NoSlit, m2_NoSlit, m3_NoSlit, m5_NoSlit, xL_NoSlit, (show (PySem.HandSPX.veTail == PySem.HandSPX.veTail) = true by decide +kernel)⟩, sa_NoSlit, eC_NoSlit, tC_NoSlit, kC_NoSlit⟩, PySem.W.mg_of X G aC_NoSlit, te_NoSlit, ⟨i_NoSlit, _, in_NoSlit, ti_NoSlit, okinit_NoSlit I_NoSlit, I_NoSlit.binds fun _ _ _ _ _ _ us hl => match us, hl with | [_], _ => rfl⟩⟩
  have I_NoPart := fun_mk (st := i0_NoPart) li_NoPart ci_NoPart ki_NoPart
  have c_NoPart : Ex0 l.prog w K mg base "NoPart" C_NoPart := ⟨⟨⟨nm_NoPart, q_NoPart, N_NoPart, bs_NoPart, _, sn_NoPart, sub_NoPart, ab_NoPart, col_NoPart, dd_NoPart, m0_NoPart, m1_NoPart, m2_NoPart, m3_NoPart, m5_NoPart, xL_NoPart, (show (PySem.HandSPX.veTail == PySem.HandSPX.veTail) = true by decide +kernel)⟩, sa_NoPart, eC_NoPart, tC_NoPart, kC_NoPart⟩, PySem.W.mg_of X G aC_NoPart, te_NoPart, ⟨i_NoPart, _, in_NoPart, ti_NoPart, okinit_NoPart I_NoPart, I_NoPart.binds fun _ _ _ _ _ _ us hl => match us, hl with | [_], _ => rfl⟩⟩
  have I_BadText := fun_mk (st := i0_BadText) li_BadText ci_BadText ki_BadText
  have c_BadText : ExF l.prog w K mg base "BadText" C_BadText ["self", "at"] (sp_ini1 K C_BadText "at") := ⟨⟨⟨nm_BadText, q_BadText, N_BadText, bs_BadText, _, sn_BadText, sub_BadText, ab_BadText, col_BadText, dd_BadText, m0_BadText, m1_BadText, m2_BadText, m3_BadText, m5_BadText, xL_BadText, (show (PySem.HandSPX.veTail == PySem.HandSPX.veTail) = true by decide +kernel)⟩, sa_BadText, eC_BadText, tC_BadText, kC_BadText⟩, PySem.W.mg_of X G aC_BadText, ⟨i_BadText, _, in_BadText, ti_BadText, okinit_BadText I_BadText, I_BadText.binds fun _ _ _ _ _ _ us hl => match us, hl with | [_, _], _ => rfl⟩⟩
  have I_NoTree := fun_mk (st := i0_NoTree) li_NoTree ci_NoTree ki_NoTree
  have c_NoTree : Ex0 l.prog w K mg base "NoTree" C_NoTree := ⟨⟨⟨nm_NoTree, q_NoTree, N_NoTree, bs_NoTree, _, sn_NoTree, sub_NoTree, ab_NoTree, col_NoTree, dd_NoTree, m0_NoTree, m1_NoTree, m2_NoTree, m3_NoTree, m5_NoTree, xL_NoTree, (show (PySem.HandSPX.veTail == PySem.HandSPX.veTail) = true by decide +kernel)⟩, sa_NoTree, eC_NoTree, tC_NoTree, kC_NoTree⟩, PySem.W.mg_of X G aC_NoTree, te_NoTree, ⟨i_NoTree, _, in_NoTree, ti_NoTree, okinit_NoTree I_NoTree, I_NoTree.binds fun _ _ _ _ _ _ us hl => match us, hl with | [_], _ => rfl⟩⟩
  have I_LiesOver := fun_mk (st := i0_LiesOver) li_LiesOver ci_LiesOver ki_LiesOver
  have c_LiesOver : ExF l.prog w K mg base "LiesOver" C_LiesOver ["self", "number"] (sp_ini1 K C_LiesOver "number") := ⟨⟨⟨nm_LiesOver, q_LiesOver, N_LiesOver, bs_LiesOver, _, sn_LiesOver, sub_LiesOver, ab_LiesOver, col_LiesOver, dd_LiesOver, m0_LiesOver, m1_LiesOver, m2_LiesOver, m3_LiesOver, m5_LiesOver, xL_LiesOver, (show (PySem.HandSPX.veTail == PySem.HandSPX.veTail) = true by decide +kernel)⟩, sa_LiesOver, eC_LiesOver, tC_LiesOver, kC_LiesOver⟩, PySem.W.mg_of X G aC_LiesOver, ⟨i_LiesOver, _, in_LiesOver, ti_LiesOver, okinit_LiesOver I_LiesOver, I_LiesOver.binds fun _ _ _ _ _ _ us hl => match us, hl with | [_, _], _ => rfl⟩⟩
  have I_NoUndo := fun_mk (st := i0_NoUndo) li_NoUndo ci_NoUndo ki_NoUndo
  have c_NoUndo : Ex0 l.prog w K mg base "NoUndo" C_NoUndo := ⟨⟨⟨nm_NoUndo, q_NoUndo, N_NoUndo, bs_NoUndo, _, sn_NoUndo, sub_NoUndo, ab_NoUndo, col_NoUndo, dd_NoUndo, m0_NoUndo, m1_NoUndo, m2_NoUndo, m3_NoUndo, m5_NoUndo, xL_NoUndo, (show (PySem.HandSPX.veTail == PySem.HandSPX.veTail) = true by decide +kernel)⟩, sa_NoUndo, eC_NoUndo, tC_NoUndo, kC_NoUndo⟩, PySem.W.mg_of X G aC_NoUndo, te_NoUndo, ⟨i_NoUndo, _, in_NoUndo, ti_NoUndo, okinit_NoUndo I_NoUndo, I_NoUndo.binds fun _ _ _ _ _ _ us hl => match us, hl with | [_], _ => rfl⟩⟩
  have I_BadTries := fun_mk (st := i0_BadTries) li_BadTries ci_BadTries ki_BadTries
  have c_BadTries : Ex0 l.prog w K mg base "BadTries" C_BadTries := ⟨⟨⟨nm_BadTries, q_BadTries, N_BadTries, bs_BadTries, _, sn_BadTries, sub_BadTries, ab_BadTries, col_BadTries, dd_BadTries, m0_BadTries, m1_BadTries, m2_BadTries, m3_BadTries, m5_BadTries, xL_BadTries, (show (PySem.HandSPX.veTail == PySem.HandSPX.veTail) = true by decide +kernel)⟩, sa_BadTries, eC_BadTries, tC_BadTries, kC_BadTries⟩, PySem.W.mg_of X G aC_BadTries, te_BadTries, ⟨i_BadTries, _, in_BadTries, ti_BadTries, okinit_BadTries I_BadTries, I_BadTries.binds fun _ _ _ _ _ _ us hl => match us, hl with | [_], _ => rfl⟩⟩
  let d_law_mixed : Df l.prog w K mg base CX0 1 "_law_mixed" ["cell", "k"] sp_mixed := ⟨f_law_mixed, _, PySem.W.mg_of X G a_law_mixed, k_law_mixed, b_law_mixed, ok_law_mixed F_law_mixed nb⟩
  let d_law_great : Df l.prog w K mg base CX0 1 "_law_great" ["cells", "place"] (sp_great K) := ⟨f_law_great, _, PySem.W.mg_of X G a_law_great, k_law_great, b_law_great, ok_law_great F_law_great nb⟩
  let d_law_stream : Df l.prog w K mg base CX0 2 "_law_stream" ["script"] (sp_stream K) := ⟨f_law_stream, _, PySem.W.mg_of X G a_law_stream, k_law_stream, b_law_stream, ok_law_stream F_law_stream nb d_law_great⟩
  let d_law_take : Df l.prog w K mg base CX0 2 "_law_take" ["stream", "many"] sp_take := ⟨f_law_take, _, PySem.W.mg_of X G a_law_take, k_law_take, b_law_take, ok_law_take F_law_take nb d_law_great d_law_mixed⟩
  let d_law_take2 : Df l.prog w K mg base CX0 2 "_law_take" ["stream", "many"] sp_take2 := ⟨f_law_take, _, PySem.W.mg_of X G a_law_take, k_law_take, b_law_take, ok_law_take2 F_law_take nb d_law_great d_law_mixed⟩
  let d_law_whole : Df l.prog w K mg base CX0 3 "_law_whole" ["stream"] sp_whole := ⟨f_law_whole, _, PySem.W.mg_of X G a_law_whole, k_law_whole, b_law_whole, ok_law_whole F_law_whole d_law_take⟩
  let d_law_raise_early : Df l.prog w K mg base (L2.CX l.prog w) 3 "_law_raise_early" ["k", "word", "number"] (sp_rs [C_NoFraction, C_NoPoint, C_NoPlate, C_BadCorners, C_BadPlates, C_BadSheet, C_TooMany, C_NoCorner, C_NoCrease, C_NoNumbers, C_NoStand, C_BadChoice, C_BadSpaces, C_NoPlacing, C_Shut, C_NoSpot, C_BadNumber, C_NoPolynomial, C_BadLot, C_BadBook, C_BadTold, C_NoFit, C_BadPrices, C_BadHeld, C_NotHeld, C_BadSeam, C_BadTable, C_BadWish, C_BadLengths, C_NoSlit, C_NoPart, C_BadText, C_NoTree, C_LiesOver, C_NoUndo, C_BadTries, C_FoldError] 0 18) := ⟨f_law_raise_early, _, PySem.W.mg_of X G a_law_raise_early, k_law_raise_early, b_law_raise_early, ok_law_raise_early F_law_raise_early S c_NoFraction c_NoPoint c_NoPlate c_BadCorners c_BadPlates c_BadSheet c_TooMany c_NoCorner c_NoCrease c_NoNumbers c_NoStand c_BadChoice c_BadSpaces c_NoPlacing c_Shut c_NoSpot c_BadNumber c_NoPolynomial⟩
  let d_law_raise_late : Df l.prog w K mg base (L2.CX l.prog w) 3 "_law_raise_late" ["k", "word", "number"] (sp_rs [C_NoFraction, C_NoPoint, C_NoPlate, C_BadCorners, C_BadPlates, C_BadSheet, C_TooMany, C_NoCorner, C_NoCrease, C_NoNumbers, C_NoStand, C_BadChoice, C_BadSpaces, C_NoPlacing, C_Shut, C_NoSpot, C_BadNumber, C_NoPolynomial, C_BadLot, C_BadBook, C_BadTold, C_NoFit, C_BadPrices, C_BadHeld, C_NotHeld, C_BadSeam, C_BadTable, C_BadWish, C_BadLengths, C_NoSlit, C_NoPart, C_BadText, C_NoTree, C_LiesOver, C_NoUndo, C_BadTries, C_FoldError] 18 37) := ⟨f_law_raise_late, _, PySem.W.mg_of X G a_law_raise_late, k_law_raise_late, b_law_raise_late, ok_law_raise_late F_law_raise_late S c_BadLot c_BadBook c_BadTold c_NoFit c_BadPrices c_BadHeld c_NotHeld c_BadSeam c_BadTable c_BadWish c_BadLengths c_NoSlit c_NoPart c_BadText c_NoTree c_LiesOver c_NoUndo c_BadTries c_FoldError⟩
  let d_law_raise : Df l.prog w K mg base (L2.CX l.prog w) 4 "_law_raise" ["k", "word", "number"] (sp_rs [C_NoFraction, C_NoPoint, C_NoPlate, C_BadCorners, C_BadPlates, C_BadSheet, C_TooMany, C_NoCorner, C_NoCrease, C_NoNumbers, C_NoStand, C_BadChoice, C_BadSpaces, C_NoPlacing, C_Shut, C_NoSpot, C_BadNumber, C_NoPolynomial, C_BadLot, C_BadBook, C_BadTold, C_NoFit, C_BadPrices, C_BadHeld, C_NotHeld, C_BadSeam, C_BadTable, C_BadWish, C_BadLengths, C_NoSlit, C_NoPart, C_BadText, C_NoTree, C_LiesOver, C_NoUndo, C_BadTries, C_FoldError] 0 37) := ⟨f_law_raise, _, PySem.W.mg_of X G a_law_raise, k_law_raise, b_law_raise, ok_law_raise F_law_raise d_law_raise_early d_law_raise_late⟩
  let d_law_classes : DfE l.prog w K mg base 1 "_law_classes" ["e"] (sp_cls [C_NoFraction, C_NoPoint, C_NoPlate, C_BadCorners, C_BadPlates, C_BadSheet, C_TooMany, C_NoCorner, C_NoCrease, C_NoNumbers, C_NoStand, C_BadChoice, C_BadSpaces, C_NoPlacing, C_Shut, C_NoSpot, C_BadNumber, C_NoPolynomial, C_BadLot, C_BadBook, C_BadTold, C_NoFit, C_BadPrices, C_BadHeld, C_NotHeld, C_BadSeam, C_BadTable, C_BadWish, C_BadLengths, C_NoSlit, C_NoPart, C_BadText, C_NoTree, C_LiesOver, C_NoUndo, C_BadTries, C_FoldError]) := ⟨f_law_classes, _, PySem.W.mg_of X G a_law_classes, k_law_classes, b_law_classes, ok_law_classes F_law_classes nb S c_NoFraction c_NoPoint c_NoPlate c_BadCorners c_BadPlates c_BadSheet c_TooMany c_NoCorner c_NoCrease c_NoNumbers c_NoStand c_BadChoice c_BadSpaces c_NoPlacing c_Shut c_NoSpot c_BadNumber c_NoPolynomial c_BadLot c_BadBook c_BadTold c_NoFit c_BadPrices c_BadHeld c_NotHeld c_BadSeam c_BadTable c_BadWish c_BadLengths c_NoSlit c_NoPart c_BadText c_NoTree c_LiesOver c_NoUndo c_BadTries⟩
  let d_law_fields : DfE l.prog w K mg base 1 "_law_fields" ["k", "e"] (sp_fld [C_NoFraction, C_NoPoint, C_NoPlate, C_BadCorners, C_BadPlates, C_BadSheet, C_TooMany, C_NoCorner, C_NoCrease, C_NoNumbers, C_NoStand, C_BadChoice, C_BadSpaces, C_NoPlacing, C_Shut, C_NoSpot, C_BadNumber, C_NoPolynomial, C_BadLot, C_BadBook, C_BadTold, C_NoFit, C_BadPrices, C_BadHeld, C_NotHeld, C_BadSeam, C_BadTable, C_BadWish, C_BadLengths, C_NoSlit, C_NoPart, C_BadText, C_NoTree, C_LiesOver, C_NoUndo, C_BadTries, C_FoldError]) := ⟨f_law_fields, _, PySem.W.mg_of X G a_law_fields, k_law_fields, b_law_fields, ok_law_fields F_law_fields S⟩
  let d_law_due : Df l.prog w K mg base CX0 1 "_law_due" ["k", "word", "number"] sp_due := ⟨f_law_due, _, PySem.W.mg_of X G a_law_due, k_law_due, b_law_due, ok_law_due F_law_due⟩
  let d_law_asked : Df l.prog w K mg base CX0 5 "_law_asked" ["k", "word", "number"] sp_askedE := ⟨f_law_asked, _, PySem.W.mg_of X G a_law_asked, k_law_asked, b_law_asked, ok_law_asked F_law_asked nb nVE S c_FoldError d_law_raise d_law_fields d_law_classes d_law_due⟩
  exact ok_law F_law nb d_law_stream d_law_take2 d_law_whole d_law_asked
end Fc
open PySem PySem.W PyProof.Rows
set_option maxRecDepth 100000 in
set_option maxHeartbeats 0 in
theorem PySem.Challenge.cw_fourcreases_k00_errors_and_their_fields_holds : PySem.Challenge.rw_fourcreases_k00_errors_and_their_fields.Holds := by
  w_on; o_law; k_head; (case hw => w_witness2)
  k_fill
  refine L2.walk_of (l := PySem.Challenge.rw_fourcreases_k00_errors_and_their_fields) (n := 63) (k := 6) (x := "script") (CX := fun _ => L2.CX0) (sp := fun w => Fc.sp_law _) rfl (by decide) rfl ⟨rfl, by decide, by decide⟩ (fun w h Y => PySem.W.kIn_of Y) ?F (fun _ _ a ns hl _ hS => ⟨a, ns, rfl, hS, hl, fun _ => rfl⟩) (fun _ _ _ _ _ h => h)
  case F =>
    intro w mg fa h KX G hmg
    refine' Fc.all_mk KX G hmg ?a_law_mixed ?l_law_mixed ?c_law_mixed ?k_law_mixed ?a_law_great ?l_law_great ?c_law_great ?k_law_great ?a_law_stream ?l_law_stream ?c_law_stream ?k_law_stream ?a_law_take ?l_law_take ?c_law_take ?k_law_take ?a_law_whole ?l_law_whole ?c_law_whole ?k_law_whole ?a_law_raise_early ?l_law_raise_early ?c_law_raise_early ?k_law_raise_early ?a_law_raise_late ?l_law_raise_late ?c_law_raise_late ?k_law_raise_late ?a_law_raise ?l_law_raise ?c_law_raise ?k_law_raise ?a_law_classes ?l_law_classes ?c_law_classes ?k_law_classes ?a_law_fields ?l_law_fields ?c_law_fields ?k_law_fields ?a_law_due ?l_law_due ?c_law_due ?k_law_due ?a_law_asked ?l_law_asked ?c_law_asked ?k_law_asked ?a_law ?l_law ?c_law ?k_law ?aC_FoldError ?ex_FoldError ?kC_FoldError ?eC_FoldError ?tC_FoldError ?aC_NoFraction ?xL_NoFraction ?sa_NoFraction ?in_NoFraction ?ti_NoFraction ?li_NoFraction ?ci_NoFraction ?ki_NoFraction ?kC_NoFraction ?eC_NoFraction ?tC_NoFraction ?te_NoFraction ?aC_NoPoint ?xL_NoPoint ?sa_NoPoint ?in_NoPoint ?ti_NoPoint ?li_NoPoint ?ci_NoPoint ?ki_NoPoint ?kC_NoPoint ?eC_NoPoint ?tC_NoPoint ?te_NoPoint ?aC_NoPlate ?xL_NoPlate ?sa_NoPlate ?in_NoPlate ?ti_NoPlate ?li_NoPlate ?ci_NoPlate ?ki_NoPlate ?kC_NoPlate ?eC_NoPlate ?tC_NoPlate ?te_NoPlate ?aC_BadCorners ?xL_BadCorners ?sa_BadCorners ?in_BadCorners ?ti_BadCorners ?li_BadCorners ?ci_BadCorners ?ki_BadCorners ?kC_BadCorners ?eC_BadCorners ?tC_BadCorners ?aC_BadPlates ?xL_BadPlates ?sa_BadPlates ?in_BadPlates ?ti_BadPlates ?li_BadPlates ?ci_BadPlates ?ki_BadPlates ?kC_BadPlates ?eC_BadPlates ?tC_BadPlates ?aC_BadSheet ?xL_BadSheet ?sa_BadSheet ?in_BadSheet ?ti_BadSheet ?li_BadSheet ?ci_BadSheet ?ki_BadSheet ?kC_BadSheet ?eC_BadSheet ?tC_BadSheet ?aC_TooMany ?xL_TooMany ?sa_TooMany ?in_TooMany ?ti_TooMany ?li_TooMany ?ci_TooMany ?ki_TooMany ?kC_TooMany ?eC_TooMany ?tC_TooMany ?aC_NoCorner ?xL_NoCorner ?sa_NoCorner ?in_NoCorner ?ti_NoCorner ?li_NoCorner ?ci_NoCorner ?ki_NoCorner ?kC_NoCorner ?eC_NoCorner ?tC_NoCorner ?te_NoCorner ?aC_NoCrease ?xL_NoCrease ?sa_NoCrease ?in_NoCrease ?ti_NoCrease ?li_NoCrease ?ci_NoCrease ?ki_NoCrease ?kC_NoCrease ?eC_NoCrease ?tC_NoCrease ?te_NoCrease ?aC_NoNumbers ?xL_NoNumbers ?sa_NoNumbers ?in_NoNumbers ?ti_NoNumbers ?li_NoNumbers ?ci_NoNumbers ?ki_NoNumbers ?kC_NoNumbers ?eC_NoNumbers ?tC_NoNumbers ?te_NoNumbers ?aC_NoStand ?xL_NoStand ?sa_NoStand ?in_NoStand ?ti_NoStand ?li_NoStand ?ci_NoStand ?ki_NoStand ?kC_NoStand ?eC_NoStand ?tC_NoStand ?te_NoStand ?aC_BadChoice ?xL_BadChoice ?sa_BadChoice ?in_BadChoice ?ti_BadChoice ?li_BadChoice ?ci_BadChoice ?ki_BadChoice ?kC_BadChoice ?eC_BadChoice ?tC_BadChoice ?te_BadChoice ?aC_BadSpaces ?xL_BadSpaces ?sa_BadSpaces ?in_BadSpaces ?ti_BadSpaces ?li_BadSpaces ?ci_BadSpaces ?ki_BadSpaces ?kC_BadSpaces ?eC_BadSpaces ?tC_BadSpaces ?aC_NoPlacing ?xL_NoPlacing ?sa_NoPlacing ?in_NoPlacing ?ti_NoPlacing ?li_NoPlacing ?ci_NoPlacing ?ki_NoPlacing ?kC_NoPlacing ?eC_NoPlacing ?tC_NoPlacing ?te_NoPlacing ?aC_Shut ?xL_Shut ?sa_Shut ?in_Shut ?ti_Shut ?li_Shut ?ci_Shut ?ki_Shut ?kC_Shut ?eC_Shut ?tC_Shut ?aC_NoSpot ?xL_NoSpot ?sa_NoSpot ?in_NoSpot ?ti_NoSpot ?li_NoSpot ?ci_NoSpot ?ki_NoSpot ?kC_NoSpot ?eC_NoSpot ?tC_NoSpot ?te_NoSpot ?aC_BadNumber ?xL_BadNumber ?sa_BadNumber ?in_BadNumber ?ti_BadNumber ?li_BadNumber ?ci_BadNumber ?ki_BadNumber ?kC_BadNumber ?eC_BadNumber ?tC_BadNumber ?aC_NoPolynomial ?xL_NoPolynomial ?sa_NoPolynomial ?in_NoPolynomial ?ti_NoPolynomial ?li_NoPolynomial ?ci_NoPolynomial ?ki_NoPolynomial ?kC_NoPolynomial ?eC_NoPolynomial ?tC_NoPolynomial ?te_NoPolynomial ?aC_BadLot ?xL_BadLot ?sa_BadLot ?in_BadLot ?ti_BadLot ?li_BadLot ?ci_BadLot ?ki_BadLot ?kC_BadLot ?eC_BadLot ?tC_BadLot ?te_BadLot ?aC_BadBook ?xL_BadBook ?sa_BadBook ?in_BadBook ?ti_BadBook ?li_BadBook ?ci_BadBook ?ki_BadBook ?kC_BadBook ?eC_BadBook ?tC_BadBook ?te_BadBook ?aC_BadTold ?xL_BadTold ?sa_BadTold ?in_BadTold ?ti_BadTold ?li_BadTold ?ci_BadTold ?ki_BadTold ?kC_BadTold ?eC_BadTold ?tC_BadTold ?te_BadTold ?aC_NoFit ?xL_NoFit ?sa_NoFit ?in_NoFit ?ti_NoFit ?li_NoFit ?ci_NoFit ?ki_NoFit ?kC_NoFit ?eC_NoFit ?tC_NoFit ?te_NoFit ?aC_BadPrices ?xL_BadPrices ?sa_BadPrices ?in_BadPrices ?ti_BadPrices ?li_BadPrices ?ci_BadPrices ?ki_BadPrices ?kC_BadPrices ?eC_BadPrices ?tC_BadPrices ?te_BadPrices ?aC_BadHeld ?xL_BadHeld ?sa_BadHeld ?in_BadHeld ?ti_BadHeld ?li_BadHeld ?ci_BadHeld ?ki_BadHeld ?kC_BadHeld ?eC_BadHeld ?tC_BadHeld ?te_BadHeld ?aC_NotHeld ?xL_NotHeld ?sa_NotHeld ?in_NotHeld ?ti_NotHeld ?li_NotHeld ?ci_NotHeld ?ki_NotHeld ?kC_NotHeld ?eC_NotHeld ?tC_NotHeld ?aC_BadSeam ?xL_BadSeam ?sa_BadSeam ?in_BadSeam ?ti_BadSeam ?li_BadSeam ?ci_BadSeam ?ki_BadSeam ?kC_BadSeam ?eC_BadSeam ?tC_BadSeam ?aC_BadTable ?xL_BadTable ?sa_BadTable ?in_BadTable ?ti_BadTable ?li_BadTable ?ci_BadTable ?ki_BadTable ?kC_BadTable ?eC_BadTable ?tC_BadTable ?te_BadTable ?aC_BadWish ?xL_BadWish ?sa_BadWish ?in_BadWish ?ti_BadWish ?li_BadWish ?ci_BadWish ?ki_BadWish ?kC_BadWish ?eC_BadWish ?tC_BadWish ?te_BadWish ?aC_BadLengths ?xL_BadLengths ?sa_BadLengths ?in_BadLengths ?ti_BadLengths ?li_BadLengths ?ci_BadLengths ?ki_BadLengths ?kC_BadLengths ?eC_BadLengths ?tC_BadLengths ?te_BadLengths ?aC_NoSlit ?xL_NoSlit ?sa_NoSlit ?in_NoSlit ?ti_NoSlit ?li_NoSlit ?ci_NoSlit ?ki_NoSlit ?kC_NoSlit ?eC_NoSlit ?tC_NoSlit ?te_NoSlit ?aC_NoPart ?xL_NoPart ?sa_NoPart ?in_NoPart ?ti_NoPart ?li_NoPart ?ci_NoPart ?ki_NoPart ?kC_NoPart ?eC_NoPart ?tC_NoPart ?te_NoPart ?aC_BadText ?xL_BadText ?sa_BadText ?in_BadText ?ti_BadText ?li_BadText ?ci_BadText ?ki_BadText ?kC_BadText ?eC_BadText ?tC_BadText ?aC_NoTree ?xL_NoTree ?sa_NoTree ?in_NoTree ?ti_NoTree ?li_NoTree ?ci_NoTree ?ki_NoTree ?kC_NoTree ?eC_NoTree ?tC_NoTree ?te_NoTree ?aC_LiesOver ?xL_LiesOver ?sa_LiesOver ?in_LiesOver ?ti_LiesOver ?li_LiesOver ?ci_LiesOver ?ki_LiesOver ?kC_LiesOver ?eC_LiesOver ?tC_LiesOver ?aC_NoUndo ?xL_NoUndo ?sa_NoUndo ?in_NoUndo ?ti_NoUndo ?li_NoUndo ?ci_NoUndo ?ki_NoUndo ?kC_NoUndo ?eC_NoUndo ?tC_NoUndo ?te_NoUndo ?aC_BadTries ?xL_BadTries ?sa_BadTries ?in_BadTries ?ti_BadTries ?li_BadTries ?ci_BadTries ?ki_BadTries ?kC_BadTries ?eC_BadTries ?tC_BadTries ?te_BadTries ?nVE_ ?chk ?z_int ?z_bool ?z_tuple ?z_list ?z_len ?z_abs ?z_min ?z_max ?z_range ?z_isinstance
    (case a_law_mixed => first | k_is | rfl)
    (case l_law_mixed => first | k_is | rfl)
    (case c_law_mixed => first | k_is | rfl)
    (case k_law_mixed => first | k_is | rfl)
    (case a_law_great => first | k_is | rfl)
    (case l_law_great => first | k_is | rfl)
    (case c_law_great => first | k_is | rfl)
    (case k_law_great => first | k_is | rfl)
    (case a_law_stream => first | k_is | rfl)
    (case l_law_stream => first | k_is | rfl)
    (case c_law_stream => first | k_is | rfl)
    (case k_law_stream => first | k_is | rfl)
    (case a_law_take => first | k_is | rfl)
    (case l_law_take => first | k_is | rfl)
    (case c_law_take => first | k_is | rfl)
    (case k_law_take => first | k_is | rfl)
    (case a_law_whole => first | k_is | rfl)
    (case l_law_whole => first | k_is | rfl)
    (case c_law_whole => first | k_is | rfl)
    (case k_law_whole => first | k_is | rfl)
    (case a_law_raise_early => first | k_is | rfl)
    (case l_law_raise_early => first | k_is | rfl)
    (case c_law_raise_early => first | k_is | rfl)
    (case k_law_raise_early => first | k_is | rfl)
    (case a_law_raise_late => first | k_is | rfl)
    (case l_law_raise_late => first | k_is | rfl)
    (case c_law_raise_late => first | k_is | rfl)
    (case k_law_raise_late => first | k_is | rfl)
    (case a_law_raise => first | k_is | rfl)
    (case l_law_raise => first | k_is | rfl)
    (case c_law_raise => first | k_is | rfl)
    (case k_law_raise => first | k_is | rfl)
    (case a_law_classes => first | k_is | rfl)
    (case l_law_classes => first | k_is | rfl)
    (case c_law_classes => first | k_is | rfl)
    (case k_law_classes => first | k_is | rfl)
    (case a_law_fields => first | k_is | rfl)
    (case l_law_fields => first | k_is | rfl)
    (case c_law_fields => first | k_is | rfl)
    (case k_law_fields => first | k_is | rfl)
    (case a_law_due => first | k_is | rfl)
    (case l_law_due => first | k_is | rfl)
    (case c_law_due => first | k_is | rfl)
    (case k_law_due => first | k_is | rfl)
    (case a_law_asked => first | k_is | rfl)
    (case l_law_asked => first | k_is | rfl)
    (case c_law_asked => first | k_is | rfl)
    (case k_law_asked => first | k_is | rfl)
    (case a_law => first | k_is | rfl)
    (case l_law => first | k_is | rfl)
    (case c_law => first | k_is | rfl)
    (case k_law => first | k_is | rfl)
    (case aC_FoldError => first | k_is | rfl)
    (case ex_FoldError => k_exc)
    (case kC_FoldError => first | k_is | rfl)
    (case eC_FoldError => first | k_is | rfl)
    (case tC_FoldError => first | k_is | rfl)
    (case aC_NoFraction => first | k_is | rfl)
    (case xL_NoFraction => first | k_is | rfl)
    (case sa_NoFraction => first | k_is | rfl)
    (case in_NoFraction => first | k_is | rfl)
    (case ti_NoFraction => first | k_is | rfl)
    (case li_NoFraction => first | k_is | rfl)
    (case ci_NoFraction => first | k_is | rfl)
    (case ki_NoFraction => first | k_is | rfl)
    (case kC_NoFraction => first | k_is | rfl)
    (case eC_NoFraction => first | k_is | rfl)
    (case tC_NoFraction => first | k_is | rfl)
    (case te_NoFraction => first | k_is | rfl)
    (case aC_NoPoint => first | k_is | rfl)
    (case xL_NoPoint => first | k_is | rfl)
    (case sa_NoPoint => first | k_is | rfl)
    (case in_NoPoint => first | k_is | rfl)
    (case ti_NoPoint => first | k_is | rfl)
    (case li_NoPoint => first | k_is | rfl)
    (case ci_NoPoint => first | k_is | rfl)
    (case ki_NoPoint => first | k_is | rfl)
    (case kC_NoPoint => first | k_is | rfl)
    (case eC_NoPoint => first | k_is | rfl)
    (case tC_NoPoint => first | k_is | rfl)
    (case te_NoPoint => first | k_is | rfl)
    (case aC_NoPlate => first | k_is | rfl)
    (case xL_NoPlate => first | k_is | rfl)
    (case sa_NoPlate => first | k_is | rfl)
    (case in_NoPlate => first | k_is | rfl)
    (case ti_NoPlate => first | k_is | rfl)
    (case li_NoPlate => first | k_is | rfl)
    (case ci_NoPlate => first | k_is | rfl)
    (case ki_NoPlate => first | k_is | rfl)
    (case kC_NoPlate => first | k_is | rfl)
    (case eC_NoPlate => first | k_is | rfl)
    (case tC_NoPlate => first | k_is | rfl)
    (case te_NoPlate => first | k_is | rfl)
    (case aC_BadCorners => first | k_is | rfl)
    (case xL_BadCorners => first | k_is | rfl)
    (case sa_BadCorners => first | k_is | rfl)
    (case in_BadCorners => first | k_is | rfl)
    (case ti_BadCorners => first | k_is | rfl)
    (case li_BadCorners => first | k_is | rfl)
    (case ci_BadCorners => first | k_is | rfl)
    (case ki_BadCorners => first | k_is | rfl)
    (case kC_BadCorners => first | k_is | rfl)
    (case eC_BadCorners => first | k_is | rfl)
    (case tC_BadCorners => first | k_is | rfl)
    (case aC_BadPlates => first | k_is | rfl)
    (case xL_BadPlates => first | k_is | rfl)
    (case sa_BadPlates => first | k_is | rfl)
    (case in_BadPlates => first | k_is | rfl)
    (case ti_BadPlates => first | k_is | rfl)
    (case li_BadPlates => first | k_is | rfl)
    (case ci_BadPlates => first | k_is | rfl)
    (case ki_BadPlates => first | k_is | rfl)
    (case kC_BadPlates => first | k_is | rfl)
    (case eC_BadPlates => first | k_is | rfl)
    (case tC_BadPlates => first | k_is | rfl)
    (case aC_BadSheet => first | k_is | rfl)
    (case xL_BadSheet => first | k_is | rfl)
    (case sa_BadSheet => first | k_is | rfl)
    (case in_BadSheet => first | k_is | rfl)
    (case ti_BadSheet => first | k_is | rfl)
    (case li_BadSheet => first | k_is | rfl)
    (case ci_BadSheet => first | k_is | rfl)
    (case ki_BadSheet => first | k_is | rfl)
    (case kC_BadSheet => first | k_is | rfl)
    (case eC_BadSheet => first | k_is | rfl)
    (case tC_BadSheet => first | k_is | rfl)
    (case aC_TooMany => first | k_is | rfl)
    (case xL_TooMany => first | k_is | rfl)
    (case sa_TooMany => first | k_is | rfl)
    (case in_TooMany => first | k_is | rfl)
    (case ti_TooMany => first | k_is | rfl)
    (case li_TooMany => first | k_is | rfl)
    (case ci_TooMany => first | k_is | rfl)
    (case ki_TooMany => first | k_is | rfl)
    (case kC_TooMany => first | k_is | rfl)
    (case eC_TooMany => first | k_is | rfl)
    (case tC_TooMany => first | k_is | rfl)
    (case aC_NoCorner => first | k_is | rfl)
    (case xL_NoCorner => first | k_is | rfl)
    (case sa_NoCorner => first | k_is | rfl)
    (case in_NoCorner => first | k_is | rfl)
    (case ti_NoCorner => first | k_is | rfl)
    (case li_NoCorner => first | k_is | rfl)
    (case ci_NoCorner => first | k_is | rfl)
    (case ki_NoCorner => first | k_is | rfl)
    (case kC_NoCorner => first | k_is | rfl)
    (case eC_NoCorner => first | k_is | rfl)
    (case tC_NoCorner => first | k_is | rfl)
    (case te_NoCorner => first | k_is | rfl)
    (case aC_NoCrease => first | k_is | rfl)
    (case xL_NoCrease => first | k_is | rfl)
    (case sa_NoCrease => first | k_is | rfl)
    (case in_NoCrease => first | k_is | rfl)
    (case ti_NoCrease => first | k_is | rfl)
    (case li_NoCrease => first | k_is | rfl)
    (case ci_NoCrease => first | k_is | rfl)
    (case ki_NoCrease => first | k_is | rfl)
    (case kC_NoCrease => first | k_is | rfl)
    (case eC_NoCrease => first | k_is | rfl)
    (case tC_NoCrease => first | k_is | rfl)
    (case te_NoCrease => first | k_is | rfl)
    (case aC_NoNumbers => first | k_is | rfl)
    (case xL_NoNumbers => first | k_is | rfl)
    (case sa_NoNumbers => first | k_is | rfl)
    (case in_NoNumbers => first | k_is | rfl)
    (case ti_NoNumbers => first | k_is | rfl)
    (case li_NoNumbers => first | k_is | rfl)
    (case ci_NoNumbers => first | k_is | rfl)
    (case ki_NoNumbers => first | k_is | rfl)
    (case kC_NoNumbers => first | k_is | rfl)
    (case eC_NoNumbers => first | k_is | rfl)
    (case tC_NoNumbers => first | k_is | rfl)
    (case te_NoNumbers => first | k_is | rfl)
    (case aC_NoStand => first | k_is | rfl)
    (case xL_NoStand => first | k_is | rfl)
    (case sa_NoStand => first | k_is | rfl)
    (case in_NoStand => first | k_is | rfl)
    (case ti_NoStand => first | k_is | rfl)
    (case li_NoStand => first | k_is | rfl)
    (case ci_NoStand => first | k_is | rfl)
    (case ki_NoStand => first | k_is | rfl)
    (case kC_NoStand => first | k_is | rfl)
    (case eC_NoStand => first | k_is | rfl)
    (case tC_NoStand => first | k_is | rfl)
    (case te_NoStand => first | k_is | rfl)
    (case aC_BadChoice => first | k_is | rfl)
    (case xL_BadChoice => first | k_is | rfl)
    (case sa_BadChoice => first | k_is | rfl)
    (case in_BadChoice => first | k_is | rfl)
    (case ti_BadChoice => first | k_is | rfl)
    (case li_BadChoice => first | k_is | rfl)
    (case ci_BadChoice => first | k_is | rfl)
    (case ki_BadChoice => first | k_is | rfl)
    (case kC_BadChoice => first | k_is | rfl)
    (case eC_BadChoice => first | k_is | rfl)
    (case tC_BadChoice => first | k_is | rfl)
    (case te_BadChoice => first | k_is | rfl)
    (case aC_BadSpaces => first | k_is | rfl)
    (case xL_BadSpaces => first | k_is | rfl)
    (case sa_BadSpaces => first | k_is | rfl)
    (case in_BadSpaces => first | k_is | rfl)
    (case ti_BadSpaces => first | k_is | rfl)
    (case li_BadSpaces => first | k_is | rfl)
    (case ci_BadSpaces => first | k_is | rfl)
    (case ki_BadSpaces => first | k_is | rfl)
    (case kC_BadSpaces => first | k_is | rfl)
    (case eC_BadSpaces => first | k_is | rfl)
    (case tC_BadSpaces => first | k_is | rfl)
    (case aC_NoPlacing => first | k_is | rfl)
    (case xL_NoPlacing => first | k_is | rfl)
    (case sa_NoPlacing => first | k_is | rfl)
    (case in_NoPlacing => first | k_is | rfl)
    (case ti_NoPlacing => first | k_is | rfl)
    (case li_NoPlacing => first | k_is | rfl)
    (case ci_NoPlacing => first | k_is | rfl)
    (case ki_NoPlacing => first | k_is | rfl)
    (case kC_NoPlacing => first | k_is | rfl)
    (case eC_NoPlacing => first | k_is | rfl)
    (case tC_NoPlacing => first | k_is | rfl)
    (case te_NoPlacing => first | k_is | rfl)
    (case aC_Shut => first | k_is | rfl)
    (case xL_Shut => first | k_is | rfl)
    (case sa_Shut => first | k_is | rfl)
    (case in_Shut => first | k_is | rfl)
    (case ti_Shut => first | k_is | rfl)
    (case li_Shut => first | k_is | rfl)
    (case ci_Shut => first | k_is | rfl)
    (case ki_Shut => first | k_is | rfl)
    (case kC_Shut => first | k_is | rfl)
    (case eC_Shut => first | k_is | rfl)
    (case tC_Shut => first | k_is | rfl)
    (case aC_NoSpot => first | k_is | rfl)
    (case xL_NoSpot => first | k_is | rfl)
    (case sa_NoSpot => first | k_is | rfl)
    (case in_NoSpot => first | k_is | rfl)
    (case ti_NoSpot => first | k_is | rfl)
    (case li_NoSpot => first | k_is | rfl)
    (case ci_NoSpot => first | k_is | rfl)
    (case ki_NoSpot => first | k_is | rfl)
    (case kC_NoSpot => first | k_is | rfl)
    (case eC_NoSpot => first | k_is | rfl)
    (case tC_NoSpot => first | k_is | rfl)
    (case te_NoSpot => first | k_is | rfl)
    (case aC_BadNumber => first | k_is | rfl)
    (case xL_BadNumber => first | k_is | rfl)
    (case sa_BadNumber => first | k_is | rfl)
    (case in_BadNumber => first | k_is | rfl)
    (case ti_BadNumber => first | k_is | rfl)
    (case li_BadNumber => first | k_is | rfl)
    (case ci_BadNumber => first | k_is | rfl)
    (case ki_BadNumber => first | k_is | rfl)
    (case kC_BadNumber => first | k_is | rfl)
    (case eC_BadNumber => first | k_is | rfl)
    (case tC_BadNumber => first | k_is | rfl)
    (case aC_NoPolynomial => first | k_is | rfl)
    (case xL_NoPolynomial => first | k_is | rfl)
    (case sa_NoPolynomial => first | k_is | rfl)
    (case in_NoPolynomial => first | k_is | rfl)
    (case ti_NoPolynomial => first | k_is | rfl)
    (case li_NoPolynomial => first | k_is | rfl)
    (case ci_NoPolynomial => first | k_is | rfl)
    (case ki_NoPolynomial => first | k_is | rfl)
    (case kC_NoPolynomial => first | k_is | rfl)
    (case eC_NoPolynomial => first | k_is | rfl)
    (case tC_NoPolynomial => first | k_is | rfl)
    (case te_NoPolynomial => first | k_is | rfl)
    (case aC_BadLot => first | k_is | rfl)
    (case xL_BadLot => first | k_is | rfl)
    (case sa_BadLot => first | k_is | rfl)
    (case in_BadLot => first | k_is | rfl)
    (case ti_BadLot => first | k_is | rfl)
    (case li_BadLot => first | k_is | rfl)
    (case ci_BadLot => first | k_is | rfl)
    (case ki_BadLot => first | k_is | rfl)
    (case kC_BadLot => first | k_is | rfl)
    (case eC_BadLot => first | k_is | rfl)
    (case tC_BadLot => first | k_is | rfl)
    (case te_BadLot => first | k_is | rfl)
    (case aC_BadBook => first | k_is | rfl)
    (case xL_BadBook => first | k_is | rfl)
    (case sa_BadBook => first | k_is | rfl)
    (case in_BadBook => first | k_is | rfl)
    (case ti_BadBook => first | k_is | rfl)
    (case li_BadBook => first | k_is | rfl)
    (case ci_BadBook => first | k_is | rfl)
    (case ki_BadBook => first | k_is | rfl)
    (case kC_BadBook => first | k_is | rfl)
    (case eC_BadBook => first | k_is | rfl)
    (case tC_BadBook => first | k_is | rfl)
    (case te_BadBook => first | k_is | rfl)
    (case aC_BadTold => first | k_is | rfl)
    (case xL_BadTold => first | k_is | rfl)
    (case sa_BadTold => first | k_is | rfl)
    (case in_BadTold => first | k_is | rfl)
    (case ti_BadTold => first | k_is | rfl)
    (case li_BadTold => first | k_is | rfl)
    (case ci_BadTold => first | k_is | rfl)
    (case ki_BadTold => first | k_is | rfl)
    (case kC_BadTold => first | k_is | rfl)
    (case eC_BadTold => first | k_is | rfl)
    (case tC_BadTold => first | k_is | rfl)
    (case te_BadTold => first | k_is | rfl)
    (case aC_NoFit => first | k_is | rfl)
    (case xL_NoFit => first | k_is | rfl)
    (case sa_NoFit => first | k_is | rfl)
    (case in_NoFit => first | k_is | rfl)
    (case ti_NoFit => first | k_is | rfl)
    (case li_NoFit => first | k_is | rfl)
    (case ci_NoFit => first | k_is | rfl)
    (case ki_NoFit => first | k_is | rfl)
    (case kC_NoFit => first | k_is | rfl)
    (case eC_NoFit => first | k_is | rfl)
    (case tC_NoFit => first | k_is | rfl)
    (case te_NoFit => first | k_is | rfl)
    (case aC_BadPrices => first | k_is | rfl)
    (case xL_BadPrices => first | k_is | rfl)
    (case sa_BadPrices => first | k_is | rfl)
    (case in_BadPrices => first | k_is | rfl)
    (case ti_BadPrices => first | k_is | rfl)
    (case li_BadPrices => first | k_is | rfl)
    (case ci_BadPrices => first | k_is | rfl)
    (case ki_BadPrices => first | k_is | rfl)
    (case kC_BadPrices => first | k_is | rfl)
    (case eC_BadPrices => first | k_is | rfl)
    (case tC_BadPrices => first | k_is | rfl)
    (case te_BadPrices => first | k_is | rfl)
    (case aC_BadHeld => first | k_is | rfl)
    (case xL_BadHeld => first | k_is | rfl)
    (case sa_BadHeld => first | k_is | rfl)
    (case in_BadHeld => first | k_is | rfl)
    (case ti_BadHeld => first | k_is | rfl)
    (case li_BadHeld => first | k_is | rfl)
    (case ci_BadHeld => first | k_is | rfl)
    (case ki_BadHeld => first | k_is | rfl)
    (case kC_BadHeld => first | k_is | rfl)
    (case eC_BadHeld => first | k_is | rfl)
    (case tC_BadHeld => first | k_is | rfl)
    (case te_BadHeld => first | k_is | rfl)
    (case aC_NotHeld => first | k_is | rfl)
    (case xL_NotHeld => first | k_is | rfl)
    (case sa_NotHeld => first | k_is | rfl)
    (case in_NotHeld => first | k_is | rfl)
    (case ti_NotHeld => first | k_is | rfl)
    (case li_NotHeld => first | k_is | rfl)
    (case ci_NotHeld => first | k_is | rfl)
    (case ki_NotHeld => first | k_is | rfl)
    (case kC_NotHeld => first | k_is | rfl)
    (case eC_NotHeld => first | k_is | rfl)
    (case tC_NotHeld => first | k_is | rfl)
    (case aC_BadSeam => first | k_is | rfl)
    (case xL_BadSeam => first | k_is | rfl)
    (case sa_BadSeam => first | k_is | rfl)
    (case in_BadSeam => first | k_is | rfl)
    (case ti_BadSeam => first | k_is | rfl)
    (case li_BadSeam => first | k_is | rfl)
    (case ci_BadSeam => first | k_is | rfl)
    (case ki_BadSeam => first | k_is | rfl)
    (case kC_BadSeam => first | k_is | rfl)
    (case eC_BadSeam => first | k_is | rfl)
    (case tC_BadSeam => first | k_is | rfl)
    (case aC_BadTable => first | k_is | rfl)
    (case xL_BadTable => first | k_is | rfl)
    (case sa_BadTable => first | k_is | rfl)
    (case in_BadTable => first | k_is | rfl)
    (case ti_BadTable => first | k_is | rfl)
    (case li_BadTable => first | k_is | rfl)
    (case ci_BadTable => first | k_is | rfl)
    (case ki_BadTable => first | k_is | rfl)
    (case kC_BadTable => first | k_is | rfl)
    (case eC_BadTable => first | k_is | rfl)
    (case tC_BadTable => first | k_is | rfl)
    (case te_BadTable => first | k_is | rfl)
    (case aC_BadWish => first | k_is | rfl)
    (case xL_BadWish => first | k_is | rfl)
    (case sa_BadWish => first | k_is | rfl)
    (case in_BadWish => first | k_is | rfl)
    (case ti_BadWish => first | k_is | rfl)
    (case li_BadWish => first | k_is | rfl)
    (case ci_BadWish => first | k_is | rfl)
    (case ki_BadWish => first | k_is | rfl)
    (case kC_BadWish => first | k_is | rfl)
    (case eC_BadWish => first | k_is | rfl)
    (case tC_BadWish => first | k_is | rfl)
    (case te_BadWish => first | k_is | rfl)
    (case aC_BadLengths => first | k_is | rfl)
    (case xL_BadLengths => first | k_is | rfl)
    (case sa_BadLengths => first | k_is | rfl)
    (case in_BadLengths => first | k_is | rfl)
    (case ti_BadLengths => first | k_is | rfl)
    (case li_BadLengths => first | k_is | rfl)
    (case ci_BadLengths => first | k_is | rfl)
    (case ki_BadLengths => first | k_is | rfl)
    (case kC_BadLengths => first | k_is | rfl)
    (case eC_BadLengths => first | k_is | rfl)
    (case tC_BadLengths => first | k_is | rfl)
    (case te_BadLengths => first | k_is | rfl)
    (case aC_NoSlit => first | k_is | rfl)
    (case xL_NoSlit => first | k_is | rfl)
    (case sa_NoSlit => first | k_is | rfl)
    (case in_NoSlit => first | k_is | rfl)
    (case ti_NoSlit => first | k_is | rfl)
    (case li_NoSlit => first | k_is | rfl)
    (case ci_NoSlit => first | k_is | rfl)
    (case ki_NoSlit => first | k_is | rfl)
    (case kC_NoSlit => first | k_is | rfl)
    (case eC_NoSlit => first | k_is | rfl)
    (case tC_NoSlit => first | k_is | rfl)
    (case te_NoSlit => first | k_is | rfl)
    (case aC_NoPart => first | k_is | rfl)
    (case xL_NoPart => first | k_is | rfl)
    (case sa_NoPart => first | k_is | rfl)
    (case in_NoPart => first | k_is | rfl)
    (case ti_NoPart => first | k_is | rfl)
    (case li_NoPart => first | k_is | rfl)
    (case ci_NoPart => first | k_is | rfl)
    (case ki_NoPart => first | k_is | rfl)
    (case kC_NoPart => first | k_is | rfl)
    (case eC_NoPart => first | k_is | rfl)
    (case tC_NoPart => first | k_is | rfl)
    (case te_NoPart => first | k_is | rfl)
    (case aC_BadText => first | k_is | rfl)
    (case xL_BadText => first | k_is | rfl)
    (case sa_BadText => first | k_is | rfl)
    (case in_BadText => first | k_is | rfl)
    (case ti_BadText => first | k_is | rfl)
    (case li_BadText => first | k_is | rfl)
    (case ci_BadText => first | k_is | rfl)
    (case ki_BadText => first | k_is | rfl)
    (case kC_BadText => first | k_is | rfl)
    (case eC_BadText => first | k_is | rfl)
    (case tC_BadText => first | k_is | rfl)
    (case aC_NoTree => first | k_is | rfl)
    (case xL_NoTree => first | k_is | rfl)
    (case sa_NoTree => first | k_is | rfl)
    (case in_NoTree => first | k_is | rfl)
    (case ti_NoTree => first | k_is | rfl)
    (case li_NoTree => first | k_is | rfl)
    (case ci_NoTree => first | k_is | rfl)
    (case ki_NoTree => first | k_is | rfl)
    (case kC_NoTree => first | k_is | rfl)
    (case eC_NoTree => first | k_is | rfl)
    (case tC_NoTree => first | k_is | rfl)
    (case te_NoTree => first | k_is | rfl)
    (case aC_LiesOver => first | k_is | rfl)
    (case xL_LiesOver => first | k_is | rfl)
    (case sa_LiesOver => first | k_is | rfl)
    (case in_LiesOver => first | k_is | rfl)
    (case ti_LiesOver => first | k_is | rfl)
    (case li_LiesOver => first | k_is | rfl)
    (case ci_LiesOver => first | k_is | rfl)
    (case ki_LiesOver => first | k_is | rfl)
    (case kC_LiesOver => first | k_is | rfl)
    (case eC_LiesOver => first | k_is | rfl)
    (case tC_LiesOver => first | k_is | rfl)
    (case aC_NoUndo => first | k_is | rfl)
    (case xL_NoUndo => first | k_is | rfl)
    (case sa_NoUndo => first | k_is | rfl)
    (case in_NoUndo => first | k_is | rfl)
    (case ti_NoUndo => first | k_is | rfl)
    (case li_NoUndo => first | k_is | rfl)
    (case ci_NoUndo => first | k_is | rfl)
    (case ki_NoUndo => first | k_is | rfl)
    (case kC_NoUndo => first | k_is | rfl)
    (case eC_NoUndo => first | k_is | rfl)
    (case tC_NoUndo => first | k_is | rfl)
    (case te_NoUndo => first | k_is | rfl)
    (case aC_BadTries => first | k_is | rfl)
    (case xL_BadTries => first | k_is | rfl)
    (case sa_BadTries => first | k_is | rfl)
    (case in_BadTries => first | k_is | rfl)
    (case ti_BadTries => first | k_is | rfl)
    (case li_BadTries => first | k_is | rfl)
    (case ci_BadTries => first | k_is | rfl)
    (case ki_BadTries => first | k_is | rfl)
    (case kC_BadTries => first | k_is | rfl)
    (case eC_BadTries => first | k_is | rfl)
    (case tC_BadTries => first | k_is | rfl)
    (case te_BadTries => first | k_is | rfl)
    (case nVE_ => first | k_is | rfl)
    (case chk => kernel_rfl)
    (case z_int => first | k_is | rfl)
    (case z_bool => first | k_is | rfl)
    (case z_tuple => first | k_is | rfl)
    (case z_list => first | k_is | rfl)
    (case z_len => first | k_is | rfl)
    (case z_abs => first | k_is | rfl)
    (case z_min => first | k_is | rfl)
    (case z_max => first | k_is | rfl)
    (case z_range => first | k_is | rfl)
    (case z_isinstance => first | k_is | rfl)
