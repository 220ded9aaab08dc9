import PyProof.Rows.All
import Wide.All
import OpenK.AllK
import Wide.FinOn
import PySem.Challenge.RW_fourcreases_k05_lengths_and_turns
import HandS.ForMost
import HandS.ForExc
import HandS.WordsExc
import HandS.TryOnly
import HandS.IsInst
import HandS.Wide
import HandS.WideBits
import HandS.Gcd
import HandS.ExcInit
import HandS.Evl
set_option Elab.async false
set_option linter.all false
set_option maxRecDepth 100000
set_option maxHeartbeats 4000000
namespace Fc
open PySem PySem.Spec PyProof.Rows L2
section
variable {X : Cx}
theorem op_fdivG : OpR X (binaryOp .FloorDiv) (rI (fun _ j => j ≠ 0 ∧ j.natAbs.log2 < 9000) fun i j => .int (i.fdiv j)) :=
  opI fun _ _ _ _ _ _ _ hc q => PyProof.Rows.floordiv_int hc.1 q (.inl (PyProof.noPylong_of_log2 hc.2))

/-- the empty __init__ of an error -/
def spPass : Sp := fun vs H Q _ => (∃ v, vs = [v]) ∧ Q .non H
variable {C fI : Addr} {x : Str} {p pos : Pos} {k : Nat} {fd : FuncData}
/-- what is known of an error's class whose __init__ has no arguments and does nothing -/
structure Ex0 (P : Program) (w : World) (K : PySem.W.Frag) (mg : Str → Option Value) (base : Heap) (x : Str) (C : Addr) : Prop where
  T : OexC K C
  gC : mg x = some (.ref C)
  te : PySem.W.exmOne K (.ref C) (.ref C) = some true
  ini : ∃ fI fd, PySem.W.findIn K (.ref C) "__init__" = some (some (.ref fI)) ∧ PySem.W.typeIn K (.ref fI) = some (.type "function") ∧
    FnOk P w K mg base CX0 1 fI fd ["self"] spPass ∧ Binds K fd ["self"] []
theorem pmk0 (Z : Ex0 X.prog X.w X.K X.mg X.base x C) (hr : Room 2 X.A) (hg : Gl X x) (hdb : (x == ("__debug__" : Str)) = false := by decide) :
    PMk X (.Call (.Name x p) [] [] pos) (fun _ H Q => Q (.ref C) none H) := by
  intro pins s σ H Q I h
  obtain ⟨fI, fd, iC, tI, F1, hb⟩ := Z.ini
  obtain ⟨nm, q, N, bs, bm, sn, sub, ab, col, dd, k0, k1, k2, k3, k5, hC, hbm⟩ := Z.T.cls
  refine wpAny_Call_Name_kw (ld_glob I hg Z.gC ?_ hdb)
  refine PySem.W.callWith_K0 I.kIn Z.T.kC ?_
  obtain ⟨hp, g, dr, tk, os⟩ := s
  have hsz : hp.objs.size ≤ hp.objs.size + 1 := Nat.le_succ _
  have hn : H (hp.objs.size + 1) = none := I.hok.fresh hsz
  let hp2 := (hp.push (PySem.W.kdv_tup [])).push (PySem.HandSPX.excO C hp.objs.size)
  have kk : ∀ b o, hp.get? b = some o → hp2.get? b = some o := fun b o e => Heap.get?_push_of_some _ (Heap.get?_push_of_some _ e)
  have hget : hp2.get? (hp.objs.size + 1) = some (PySem.HandSPX.excO C hp.objs.size) := by
    show ((hp.push (PySem.W.kdv_tup [])).push (PySem.HandSPX.excO C hp.objs.size)).get? (hp.objs.size + 1) = _
    heap_get
  have I2 : Inv X pins σ H ⟨hp2, g, dr, tk, os⟩ := I.kept (t' := tk) kk
  have r2 : Vals [V.ref (hp.objs.size + 1)] [Value.ref (hp.objs.size + 1)] := .cons rfl .nil
  refine wpAny_call (PySem.HandSPX.call_own F.excBase_ValueError (fun Y => PySem.HandSPX.refsVE_contains Y bm hbm) (I.kIn _ _ hC) (PySem.W.looks_findIn I.kIn iC) (fun self => PySem.W.bind_fn I.kIn self tI) (Nat.zero_le _)
    (codeAny_mono (F1.run _ X.stack _ _ ⟨[Value.ref (hp.objs.size + 1)], []⟩ [Value.ref (hp.objs.size + 1)] _ (fun v H2 => v = .non ∧ H2 = H) (fun _ _ _ => False) ((hr.make C [] []).mono (by decide)) (I2.env0.make C [] []) (hb _ [Value.ref (hp.objs.size + 1)] I2.kIn rfl) r2 ⟨⟨_, rfl⟩, rfl, rfl⟩) fun r s' hq' => ?_))
  cases r with
  | error er => exact False.elim hq'
  | ok fl =>
    cases fl with
    | next => exact False.elim hq'
    | brk => exact False.elim hq'
    | cont => exact False.elim hq'
    | ret u =>
      obtain ⟨v, H2, os2, bare2, un2, hok2, rv, ev, eH⟩ := hq'
      subst ev eH
      obtain ⟨h2, g2, d2, t2, os'⟩ := s'
      obtain rfl : os' = os := os2
      have nh : ∀ {b : Addr} {o : Obj}, hp.get? b = some o → b ≠ hp.objs.size + 1 := fun {b o} z => Nat.ne_of_lt (Nat.lt_of_lt_of_le (Heap.lt_size z) hsz)
      obtain ⟨sl, he⟩ := un2.any hget hn (by simp)
      obtain ⟨G', g1, g2'⟩ := restrict h2 fun b => decide (b ≠ hp.objs.size + 1)
      have gk : ∀ b, b ≠ hp.objs.size + 1 → G'.get? b = h2.get? b := fun b hb => g1 b (decide_eq_true hb)
      have ge : G'.get? (hp.objs.size + 1) = none := g2' _ (by simp)
      have U : Un (frs X.stack) [] H2 H2 hp G' := {
        keep := fun b o z n hf hx => (gk b (nh z)).trans (un2.keep b o (kk b o z) n hf hx)
        slot := fun b o z n hf hx => by
          rw [gk b (nh z)]
          exact un2.slot b o (kk b o z) n hf hx
        free := fun b o z n hx => n
        there := fun b o z hx => by
          rw [gk b (nh z)]
          exact un2.there b o (kk b o z) hx
        tups := fun b xs z => z
        frzs := fun b o v z => z
        tbls := fun b ps z => un2.tbls b ps z }
      have hok3 : HOk X.prog X.w H2 G' := fun b o z => by
        have ne : ∀ c u, H2 c = some u → c ≠ hp.objs.size + 1 := fun c u e => ne_of_none e hn
        refine (hok2 b o z).stay (fun c v hc y => ?_) (fun c hc => hc) (fun c xs hc => hc)
        rcases hc with rfl | hc
        · rw [gk _ (ne _ _ z)]
          exact y
        · rw [gk _ (ne _ _ hc)]
          exact y
      have J : L2.Inv X pins σ H2 ⟨G', g2, d2, t2, os'⟩ := I.call' (ch := []) rfl U hok3 bare2 (fun b z => absurd z (by simp))
      refine ⟨rv, hp.objs.size + 1, _, _, ⟨G', g2, d2, t2, os'⟩, H2, .ref C, none, rfl, J, fun b o z => ?_, ge, he, ⟨rfl, rfl⟩, rfl, rfl, hn, rfl, bare2, raises_own Z.T.exC Z.T.tyC, h⟩
      by_cases hb : b = hp.objs.size + 1
      · have z' : G'.get? b = some o := z
        rw [hb, ge] at z'
        cases z'
      · exact (gk b hb).symm.trans z

end
/-! ### a def as its callers know it -/
structure Df (P : Program) (w : World) (K : PySem.W.Frag) (mg : Str → Option Value) (base : Heap) (CX : CXT) (k : Nat) (x : Str) (ps : List Str) (sp : Sp) where
  f : Addr
  fd : FuncData
  g : mg x = some (.ref f)
  kp : PySem.W.keepIn K (.ref f) = true
  b : Binds K fd ps []
  F : FnOk P w K mg base CX k f fd ps sp
/-- the built-in names that the text leaves alone -/
structure Nb (mg : Str → Option Value) : Prop where
  int : mg "int" = none
  bool : mg "bool" = none
  tuple : mg "tuple" = none
  list : mg "list" = none
  len : mg "len" = none
  abs : mg "abs" = none
  min : mg "min" = none
  max : mg "max" = none
  range : mg "range" = none
  isinstance : mg "isinstance" = none
/-! ### readings by name -/
def rAbs : List V → Hp → VK → Prop := fun xs H Q => ∃ i, xs = [.int i] ∧ Q (.int (if i < 0 then -i else i)) H
def rInt1 : List V → Hp → VK → Prop := fun xs H Q => (∃ i, xs = [.int i] ∧ Q (.int i) H) ∨ ∃ k, xs = [.bl k] ∧ Q (.int (if k then 1 else 0)) H
def rLenQ (K : PySem.W.Frag) : List V → Hp → VK → Prop := fun xs H Q => ∃ p ys, xs = [.ref p] ∧ (SqL K H p ys ∨ SqT K H p ys) ∧ Q (.int ys.length) H
def rListOf (K : PySem.W.Frag) : List V → Hp → VK → Prop := fun xs H Q => ∃ p ys, xs = [.ref p] ∧ (SqL K H p ys ∨ SqT K H p ys) ∧ ∀ l, H l = none → Q (.ref l) (upd H l (.lst ys))
def rMin2 : List V → Hp → VK → Prop := fun xs H Q => ∃ i j, xs = [.int i, .int j] ∧ Q (.int (if j < i then j else i)) H
def rMax2 : List V → Hp → VK → Prop := fun xs H Q => ∃ i j, xs = [.int i, .int j] ∧ Q (.int (if i < j then j else i)) H
def rIsN : R2 := fun x y H Q => y = .non ∧ Q (.bl (decide (x = .non))) H
def rNotN : R2 := fun x y H Q => y = .non ∧ Q (.bl (!decide (x = .non))) H
section
variable {X : Cx}
theorem cq_abs : CallR X (.builtin "abs") rAbs := call_abs
theorem cq_int : CallR X (.type "int") rInt1 := call_int1
theorem cq_len : CallR X (.builtin "len") (rLenQ X.K) := call_len_seq
theorem cq_list : CallR X (.type "list") (rListOf X.K) := call_list_of
theorem cq_min (hc : X.calm = true) : CallR X (.builtin "min") rMin2 := call_min2 hc
theorem cq_max (hc : X.calm = true) : CallR X (.builtin "max") rMax2 := call_max2 hc
theorem oq_isN : OpR X (compareOp .Is) rIsN := op_isN
theorem oq_notN : OpR X (compareOp .IsNot) rNotN := op_notN
end
theorem notT : (!true) = false := rfl
theorem notF : (!false) = true := rfl
/-! ### comparisons, shut -/
@[irreducible] def ltB (i j : Int) : Bool := decide (i < j)
@[irreducible] def leB (i j : Int) : Bool := decide (i ≤ j)
@[irreducible] def eqB (i j : Int) : Bool := decide (i = j)
theorem ltB_def {i j : Int} : ltB i j = decide (i < j) := by unfold ltB; rfl
theorem leB_def {i j : Int} : leB i j = decide (i ≤ j) := by unfold leB; rfl
theorem eqB_def {i j : Int} : eqB i j = decide (i = j) := by unfold eqB; rfl
/-- what a flag says -/
class BP (b : Bool) (p : outParam Prop) : Prop where
  iff : b = true ↔ p
instance {i j : Int} : BP (ltB i j) (i < j) := ⟨by rw [ltB_def]; exact decide_eq_true_iff⟩
instance {i j : Int} : BP (leB i j) (i ≤ j) := ⟨by rw [leB_def]; exact decide_eq_true_iff⟩
instance {i j : Int} : BP (eqB i j) (i = j) := ⟨by rw [eqB_def]; exact decide_eq_true_iff⟩
instance {p : Prop} [Decidable p] : BP (decide p) p := ⟨decide_eq_true_iff⟩
instance {b c : Bool} {p q : Prop} [h : BP b p] [k : BP c q] : BP (b && c) (p ∧ q) := ⟨by rw [Bool.and_eq_true, h.iff, k.iff]⟩
instance {b c : Bool} {p q : Prop} [h : BP b p] [k : BP c q] : BP (b || c) (p ∨ q) := ⟨by rw [Bool.or_eq_true, h.iff, k.iff]⟩
instance {b : Bool} {p : Prop} [h : BP b p] : BP (!b) (¬ p) := ⟨by rw [← h.iff, Bool.not_eq_true']; cases b <;> simp⟩
theorem bp_t {b : Bool} {p : Prop} [k : BP b p] (h : p) : b = true := k.iff.mpr h
theorem bp_f {b : Bool} {p : Prop} [k : BP b p] (h : ¬ p) : b = false := by
  cases e : b with
  | false => rfl
  | true => exact absurd (k.iff.mp e) h
theorem eqT {i j : Int} (h : i = j) : eqB i j = true := bp_t h
theorem eqF {i j : Int} (h : i ≠ j) : eqB i j = false := bp_f h
theorem eqB_t {i j : Int} (h : eqB i j = true) : i = j := by rw [eqB_def] at h; exact of_decide_eq_true h
theorem eqB_f {i j : Int} (h : eqB i j = false) : i ≠ j := by rw [eqB_def] at h; exact of_decide_eq_false h
theorem ltT {i j : Int} (h : i < j) : ltB i j = true := bp_t h
theorem ltF {i j : Int} (h : ¬ i < j) : ltB i j = false := bp_f h
/-! ### steps of a reading -/
section
variable {K : PySem.W.Frag} {D : Ends} {σ : L2.St} {H : Hp} {Q : VK} {v : V} {te ta tb : TE} {t u : TS} {g : TG}
theorem w_seq (h : t { D with nx := u D } σ H) : tSeq t u D σ H := h
theorem w_next (h : D.nx σ H) : tNext D σ H := h
theorem w_asg (h : te σ H fun x H1 => g x σ H1 D.nx) : tAsg te g D σ H := h
theorem w_drop (h : te σ H fun _ H1 => D.nx σ H1) : tDrop te D σ H := h
theorem w_ret (h : te σ H D.rt) : tRet te D σ H := h
theorem w_retN (h : D.rt .non H) : tRetN D σ H := h
theorem w_brk (h : D.bk σ H) : tBreak D σ H := h
theorem w_cont (h : D.ct σ H) : tCont D σ H := h
theorem w_c (h : Q v H) : tC v σ H Q := h
theorem w_op {r : R2} (h : ta σ H fun x H1 => tb σ H1 fun y H2 => r x y H2 Q) : tOp r ta tb σ H Q := h
theorem w_un {r : V → Hp → VK → Prop} (h : ta σ H fun x H1 => r x H1 Q) : tUn r ta σ H Q := h
theorem w_cb {r : List V → Hp → VK → Prop} {tt : TA} (h : tt σ H fun vs H1 => r vs H1 Q) : tCB r tt σ H Q := h
theorem w_nil {Q : List V → Hp → Prop} (h : Q [] H) : tNil σ H Q := h
theorem w_cons {Q : List V → Hp → Prop} {tr : TA} (h : ta σ H fun x H1 => tr σ H1 fun xs H2 => Q (x :: xs) H2) : tCons ta tr σ H Q := h
theorem w_call {sp : Sp} {dvs : List V} {E : XK} {tt : TA} (h : tt σ H fun vs H1 => sp (vs ++ dvs) H1 Q E) : tCall sp dvs E tt σ H Q := h
theorem w_tup {tt : TA} (h : tt σ H fun xs H1 => xs.length ≤ sizeLine ∧ ∀ p, H1 p = none → Q (.ref p) (upd H1 p (.tup xs))) : tTup tt σ H Q := h
theorem w_lst {tt : TA} (h : tt σ H fun xs H1 => xs.length ≤ sizeLine ∧ ∀ p, H1 p = none → Q (.ref p) (upd H1 p (.lst xs))) : tLst tt σ H Q := h
theorem w_new {xs : List V} {F : Addr → Prop} (h : ∀ p, H p = none → F p) (hl : xs.length.ble 1000 = true := by rfl) : xs.length ≤ sizeLine ∧ ∀ p, H p = none → F p := ⟨Nat.le_of_lt (small1000 (Nat.le_of_ble_eq_true hl)), h⟩
theorem w_ifs {c : TT} (h : c σ H fun b H1 => if b = true then t D σ H1 else u D σ H1) : tIfS c t u D σ H := h
theorem w_ife {c : TT} (h : c σ H fun b H1 => if b = true then ta σ H1 Q else tb σ H1 Q) : tIf c ta tb σ H Q := h
theorem w_test {Q : Bool → Hp → Prop} (h : te σ H fun x H1 => ∃ k, x = .bl k ∧ Q k H1) : tTest te σ H Q := h
theorem w_tB {Q : Bool → Hp → Prop} (h : te σ H fun x H1 => ∃ k, x = .bl k ∧ Q k H1) : tB te σ H Q := h
theorem w_bl {b : Bool} {F : Bool → Prop} (h : F b) : ∃ k, V.bl b = .bl k ∧ F k := ⟨b, rfl, h⟩
theorem w_and {c d : TT} {Q : Bool → Hp → Prop} (h : c σ H fun b H1 => if b = true then d σ H1 Q else Q false H1) : tAnd c d σ H Q := h
theorem w_or {c d : TT} {Q : Bool → Hp → Prop} (h : c σ H fun b H1 => if b = true then Q true H1 else d σ H1 Q) : tOr c d σ H Q := h
theorem w_not {c : TT} {Q : Bool → Hp → Prop} (h : c σ H fun b H1 => Q (!b) H1) : tNot c σ H Q := h
theorem w_andV (h : ta σ H fun x H1 => ∃ c, x = .bl c ∧ if c = true then tb σ H1 Q else Q (.bl false) H1) : tAndV ta tb σ H Q := h
theorem w_orV (h : ta σ H fun x H1 => ∃ c, x = .bl c ∧ if c = true then Q (.bl true) H1 else tb σ H1 Q) : tOrV ta tb σ H Q := h
theorem w_notV (h : ta σ H fun x H1 => ∃ c, x = .bl c ∧ Q (.bl (!c)) H1) : tNotV ta σ H Q := h
theorem w_I0 {gg : Int → Int → V} {i j : Int} (h : Q (gg i j) H) : rI0 gg (.int i) (.int j) H Q := ⟨i, j, rfl, rfl, h⟩
theorem w_I {C : Int → Int → Prop} {gg : Int → Int → V} {i j : Int} (hc : C i j) (h : Q (gg i j) H) : rI C gg (.int i) (.int j) H Q := ⟨i, j, rfl, rfl, hc, h⟩
theorem w_U {gg : Int → V} {i : Int} (h : Q (gg i) H) : rU gg (.int i) H Q := ⟨i, rfl, h⟩
theorem int_dec {i j : Int} : decide (V.int i = V.int j) = decide (i = j) := by
  by_cases h : i = j
  · subst h
    rw [decide_eq_true rfl, decide_eq_true rfl]
  · rw [decide_eq_false h, decide_eq_false fun e => h (V.int.inj e)]
theorem w_eqI {i j : Int} (h : Q (.bl (eqB i j)) H) : rEq (.int i) (.int j) H Q := ⟨rfl, by rw [int_dec, ← eqB_def]; exact h⟩
theorem w_neI {i j : Int} (h : Q (.bl (!eqB i j)) H) : rNe (.int i) (.int j) H Q := ⟨rfl, by rw [int_dec, ← eqB_def]; exact h⟩
theorem w_lt {i j : Int} (h : Q (.bl (ltB i j)) H) : rI0 (fun i j => .bl (decide (i < j))) (.int i) (.int j) H Q := ⟨i, j, rfl, rfl, by show Q (.bl (decide (i < j))) H; rw [← ltB_def]; exact h⟩
theorem w_le {i j : Int} (h : Q (.bl (leB i j)) H) : rI0 (fun i j => .bl (decide (i ≤ j))) (.int i) (.int j) H Q := ⟨i, j, rfl, rfl, by show Q (.bl (decide (i ≤ j))) H; rw [← leB_def]; exact h⟩
theorem w_gt {i j : Int} (h : Q (.bl (ltB j i)) H) : rI0 (fun i j => .bl (decide (j < i))) (.int i) (.int j) H Q := ⟨i, j, rfl, rfl, by show Q (.bl (decide (j < i))) H; rw [← ltB_def]; exact h⟩
theorem w_ge {i j : Int} (h : Q (.bl (leB j i)) H) : rI0 (fun i j => .bl (decide (j ≤ i))) (.int i) (.int j) H Q := ⟨i, j, rfl, rfl, by show Q (.bl (decide (j ≤ i))) H; rw [← leB_def]; exact h⟩
theorem w_abs {i : Int} (h : Q (.int (i.natAbs : Int)) H) : rAbs [.int i] H Q := ⟨i, rfl, by
  have e : (if i < 0 then -i else i) = (i.natAbs : Int) := by split <;> omega
  rw [e]
  exact h⟩
theorem w_int {i : Int} (h : Q (.int i) H) : rInt1 [.int i] H Q := .inl ⟨i, rfl, h⟩
theorem w_lenL {p : Addr} {ys : List V} (e : SqL K H p ys) (h : Q (.int ys.length) H) : rLenQ K [.ref p] H Q := ⟨p, ys, rfl, .inl e, h⟩
theorem w_lenT {p : Addr} {ys : List V} (e : SqT K H p ys) (h : Q (.int ys.length) H) : rLenQ K [.ref p] H Q := ⟨p, ys, rfl, .inr e, h⟩
theorem w_min {i j : Int} (h : Q (.int (if j < i then j else i)) H) : rMin2 [.int i, .int j] H Q := ⟨i, j, rfl, h⟩
theorem w_max {i j : Int} (h : Q (.int (if i < j then j else i)) H) : rMax2 [.int i, .int j] H Q := ⟨i, j, rfl, h⟩
theorem w_ixL {p : Addr} {xs : List V} {i : Int} {v : V} (e : SqL K H p xs) (ha : atI xs i = some v) (h : Q v H) : rIxL K (.ref p) (.int i) H Q := ⟨p, xs, i, v, rfl, rfl, e, ha, h⟩
theorem w_ixT {p : Addr} {xs : List V} {i : Int} {v : V} (e : SqT K H p xs) (ha : atI xs i = some v) (h : Q v H) : rIxT K (.ref p) (.int i) H Q := ⟨p, xs, i, v, rfl, rfl, e, ha, h⟩
theorem w_gcd {a b : Int} (h : Q (.int ((Nat.gcd a.natAbs b.natAbs : Nat) : Int)) H) : rGcd [.int a, .int b] H Q := ⟨a, b, rfl, h⟩
theorem w_sub {to ti : TE} {tset : TSet} {Q : L2.St → Hp → Prop} (h : to σ H fun o H1 => ti σ H1 fun i H2 => tset o i v H2 fun H3 => Q σ H3) : gSub to ti tset v σ H Q := h
theorem w_setL {p : Addr} {xs : List V} {k : Int} {j : Nat} {y : V} {Q : Hp → Prop} (e : H p = some (.lst xs)) (hj : ixN xs.length k = some j) (h : Q (upd H p (.lst (xs.set j y)))) : rSetL (.ref p) (.int k) y H Q := ⟨p, xs, k, j, rfl, rfl, e, hj, h⟩
theorem w_par {i j : Nat} {tt : TA} (h : tt σ H fun vs H1 => ∃ v w, vs = [v, w] ∧ D.nx ((σ.set i (some v)).set j (some w)) H1) : tPar i j tt D σ H := h
theorem w_two {a b : V} {F : V → V → Prop} (h : F a b) : ∃ v w, [a, b] = [v, w] ∧ F v w := ⟨a, b, rfl, h⟩
theorem w_if {b : Bool} {A B : Prop} (h1 : b = true → A) (h2 : b = false → B) : if b = true then A else B := by
  cases b with
  | true => exact iteT (h1 rfl)
  | false => exact iteF (h2 rfl)
theorem w_ifd {b : Bool} {p : Prop} {A B : Prop} [k : BP b p] (h1 : p → A) (h2 : ¬ p → B) : if b = true then A else B := w_if (fun c => h1 (k.iff.mp c)) fun c => h2 fun z => by
  rw [k.iff.mpr z] at c
  cases c
theorem w_ifn {b : Bool} {p : Prop} {A B : Prop} [k : BP b p] (h1 : ¬ p → A) (h2 : p → B) : if (!b) = true then A else B := by
  cases e : b with
  | true => exact iteF (h2 (k.iff.mp e))
  | false => exact iteT (h1 fun z => by
      rw [k.iff.mpr z] at e
      cases e)
theorem w_v0 {r : L2.St} (h : Q v H) : tVar 0 (some v :: r) H Q := ⟨v, rfl, h⟩
theorem w_g0 {o : Option V} {r : L2.St} {Q : L2.St → Hp → Prop} (h : Q (some v :: r) H) : gName 0 v (o :: r) H Q := h
theorem w_s0 {o p : Option V} {r : L2.St} {F : L2.St → Prop} (h : F (p :: r)) : F ((o :: r).set 0 p) := h
theorem w_v1 {x0 : Option V} {r : L2.St} (h : Q v H) : tVar 1 (x0 :: some v :: r) H Q := ⟨v, rfl, h⟩
theorem w_g1 {x0 : Option V} {o : Option V} {r : L2.St} {Q : L2.St → Hp → Prop} (h : Q (x0 :: some v :: r) H) : gName 1 v (x0 :: o :: r) H Q := h
theorem w_s1 {x0 : Option V} {o p : Option V} {r : L2.St} {F : L2.St → Prop} (h : F (x0 :: p :: r)) : F ((x0 :: o :: r).set 1 p) := h
theorem w_v2 {x0 x1 : Option V} {r : L2.St} (h : Q v H) : tVar 2 (x0 :: x1 :: some v :: r) H Q := ⟨v, rfl, h⟩
theorem w_g2 {x0 x1 : Option V} {o : Option V} {r : L2.St} {Q : L2.St → Hp → Prop} (h : Q (x0 :: x1 :: some v :: r) H) : gName 2 v (x0 :: x1 :: o :: r) H Q := h
theorem w_s2 {x0 x1 : Option V} {o p : Option V} {r : L2.St} {F : L2.St → Prop} (h : F (x0 :: x1 :: p :: r)) : F ((x0 :: x1 :: o :: r).set 2 p) := h
theorem w_v3 {x0 x1 x2 : Option V} {r : L2.St} (h : Q v H) : tVar 3 (x0 :: x1 :: x2 :: some v :: r) H Q := ⟨v, rfl, h⟩
theorem w_g3 {x0 x1 x2 : Option V} {o : Option V} {r : L2.St} {Q : L2.St → Hp → Prop} (h : Q (x0 :: x1 :: x2 :: some v :: r) H) : gName 3 v (x0 :: x1 :: x2 :: o :: r) H Q := h
theorem w_s3 {x0 x1 x2 : Option V} {o p : Option V} {r : L2.St} {F : L2.St → Prop} (h : F (x0 :: x1 :: x2 :: p :: r)) : F ((x0 :: x1 :: x2 :: o :: r).set 3 p) := h
theorem w_v4 {x0 x1 x2 x3 : Option V} {r : L2.St} (h : Q v H) : tVar 4 (x0 :: x1 :: x2 :: x3 :: some v :: r) H Q := ⟨v, rfl, h⟩
theorem w_g4 {x0 x1 x2 x3 : Option V} {o : Option V} {r : L2.St} {Q : L2.St → Hp → Prop} (h : Q (x0 :: x1 :: x2 :: x3 :: some v :: r) H) : gName 4 v (x0 :: x1 :: x2 :: x3 :: o :: r) H Q := h
theorem w_s4 {x0 x1 x2 x3 : Option V} {o p : Option V} {r : L2.St} {F : L2.St → Prop} (h : F (x0 :: x1 :: x2 :: x3 :: p :: r)) : F ((x0 :: x1 :: x2 :: x3 :: o :: r).set 4 p) := h
theorem w_v5 {x0 x1 x2 x3 x4 : Option V} {r : L2.St} (h : Q v H) : tVar 5 (x0 :: x1 :: x2 :: x3 :: x4 :: some v :: r) H Q := ⟨v, rfl, h⟩
theorem w_g5 {x0 x1 x2 x3 x4 : Option V} {o : Option V} {r : L2.St} {Q : L2.St → Hp → Prop} (h : Q (x0 :: x1 :: x2 :: x3 :: x4 :: some v :: r) H) : gName 5 v (x0 :: x1 :: x2 :: x3 :: x4 :: o :: r) H Q := h
theorem w_s5 {x0 x1 x2 x3 x4 : Option V} {o p : Option V} {r : L2.St} {F : L2.St → Prop} (h : F (x0 :: x1 :: x2 :: x3 :: x4 :: p :: r)) : F ((x0 :: x1 :: x2 :: x3 :: x4 :: o :: r).set 5 p) := h
theorem w_v6 {x0 x1 x2 x3 x4 x5 : Option V} {r : L2.St} (h : Q v H) : tVar 6 (x0 :: x1 :: x2 :: x3 :: x4 :: x5 :: some v :: r) H Q := ⟨v, rfl, h⟩
theorem w_g6 {x0 x1 x2 x3 x4 x5 : Option V} {o : Option V} {r : L2.St} {Q : L2.St → Hp → Prop} (h : Q (x0 :: x1 :: x2 :: x3 :: x4 :: x5 :: some v :: r) H) : gName 6 v (x0 :: x1 :: x2 :: x3 :: x4 :: x5 :: o :: r) H Q := h
theorem w_s6 {x0 x1 x2 x3 x4 x5 : Option V} {o p : Option V} {r : L2.St} {F : L2.St → Prop} (h : F (x0 :: x1 :: x2 :: x3 :: x4 :: x5 :: p :: r)) : F ((x0 :: x1 :: x2 :: x3 :: x4 :: x5 :: o :: r).set 6 p) := h
theorem w_v7 {x0 x1 x2 x3 x4 x5 x6 : Option V} {r : L2.St} (h : Q v H) : tVar 7 (x0 :: x1 :: x2 :: x3 :: x4 :: x5 :: x6 :: some v :: r) H Q := ⟨v, rfl, h⟩
theorem w_g7 {x0 x1 x2 x3 x4 x5 x6 : Option V} {o : Option V} {r : L2.St} {Q : L2.St → Hp → Prop} (h : Q (x0 :: x1 :: x2 :: x3 :: x4 :: x5 :: x6 :: some v :: r) H) : gName 7 v (x0 :: x1 :: x2 :: x3 :: x4 :: x5 :: x6 :: o :: r) H Q := h
theorem w_s7 {x0 x1 x2 x3 x4 x5 x6 : Option V} {o p : Option V} {r : L2.St} {F : L2.St → Prop} (h : F (x0 :: x1 :: x2 :: x3 :: x4 :: x5 :: x6 :: p :: r)) : F ((x0 :: x1 :: x2 :: x3 :: x4 :: x5 :: x6 :: o :: r).set 7 p) := h
theorem w_v8 {x0 x1 x2 x3 x4 x5 x6 x7 : Option V} {r : L2.St} (h : Q v H) : tVar 8 (x0 :: x1 :: x2 :: x3 :: x4 :: x5 :: x6 :: x7 :: some v :: r) H Q := ⟨v, rfl, h⟩
theorem w_g8 {x0 x1 x2 x3 x4 x5 x6 x7 : Option V} {o : Option V} {r : L2.St} {Q : L2.St → Hp → Prop} (h : Q (x0 :: x1 :: x2 :: x3 :: x4 :: x5 :: x6 :: x7 :: some v :: r) H) : gName 8 v (x0 :: x1 :: x2 :: x3 :: x4 :: x5 :: x6 :: x7 :: o :: r) H Q := h
theorem w_s8 {x0 x1 x2 x3 x4 x5 x6 x7 : Option V} {o p : Option V} {r : L2.St} {F : L2.St → Prop} (h : F (x0 :: x1 :: x2 :: x3 :: x4 :: x5 :: x6 :: x7 :: p :: r)) : F ((x0 :: x1 :: x2 :: x3 :: x4 :: x5 :: x6 :: x7 :: o :: r).set 8 p) := h
theorem w_v9 {x0 x1 x2 x3 x4 x5 x6 x7 x8 : Option V} {r : L2.St} (h : Q v H) : tVar 9 (x0 :: x1 :: x2 :: x3 :: x4 :: x5 :: x6 :: x7 :: x8 :: some v :: r) H Q := ⟨v, rfl, h⟩
theorem w_g9 {x0 x1 x2 x3 x4 x5 x6 x7 x8 : Option V} {o : Option V} {r : L2.St} {Q : L2.St → Hp → Prop} (h : Q (x0 :: x1 :: x2 :: x3 :: x4 :: x5 :: x6 :: x7 :: x8 :: some v :: r) H) : gName 9 v (x0 :: x1 :: x2 :: x3 :: x4 :: x5 :: x6 :: x7 :: x8 :: o :: r) H Q := h
theorem w_s9 {x0 x1 x2 x3 x4 x5 x6 x7 x8 : Option V} {o p : Option V} {r : L2.St} {F : L2.St → Prop} (h : F (x0 :: x1 :: x2 :: x3 :: x4 :: x5 :: x6 :: x7 :: x8 :: p :: r)) : F ((x0 :: x1 :: x2 :: x3 :: x4 :: x5 :: x6 :: x7 :: x8 :: o :: r).set 9 p) := h
theorem w_v10 {x0 x1 x2 x3 x4 x5 x6 x7 x8 x9 : Option V} {r : L2.St} (h : Q v H) : tVar 10 (x0 :: x1 :: x2 :: x3 :: x4 :: x5 :: x6 :: x7 :: x8 :: x9 :: some v :: r) H Q := ⟨v, rfl, h⟩
theorem w_g10 {x0 x1 x2 x3 x4 x5 x6 x7 x8 x9 : Option V} {o : Option V} {r : L2.St} {Q : L2.St → Hp → Prop} (h : Q (x0 :: x1 :: x2 :: x3 :: x4 :: x5 :: x6 :: x7 :: x8 :: x9 :: some v :: r) H) : gName 10 v (x0 :: x1 :: x2 :: x3 :: x4 :: x5 :: x6 :: x7 :: x8 :: x9 :: o :: r) H Q := h
theorem w_s10 {x0 x1 x2 x3 x4 x5 x6 x7 x8 x9 : Option V} {o p : Option V} {r : L2.St} {F : L2.St → Prop} (h : F (x0 :: x1 :: x2 :: x3 :: x4 :: x5 :: x6 :: x7 :: x8 :: x9 :: p :: r)) : F ((x0 :: x1 :: x2 :: x3 :: x4 :: x5 :: x6 :: x7 :: x8 :: x9 :: o :: r).set 10 p) := h
theorem w_v11 {x0 x1 x2 x3 x4 x5 x6 x7 x8 x9 x10 : Option V} {r : L2.St} (h : Q v H) : tVar 11 (x0 :: x1 :: x2 :: x3 :: x4 :: x5 :: x6 :: x7 :: x8 :: x9 :: x10 :: some v :: r) H Q := ⟨v, rfl, h⟩
theorem w_g11 {x0 x1 x2 x3 x4 x5 x6 x7 x8 x9 x10 : Option V} {o : Option V} {r : L2.St} {Q : L2.St → Hp → Prop} (h : Q (x0 :: x1 :: x2 :: x3 :: x4 :: x5 :: x6 :: x7 :: x8 :: x9 :: x10 :: some v :: r) H) : gName 11 v (x0 :: x1 :: x2 :: x3 :: x4 :: x5 :: x6 :: x7 :: x8 :: x9 :: x10 :: o :: r) H Q := h
theorem w_s11 {x0 x1 x2 x3 x4 x5 x6 x7 x8 x9 x10 : Option V} {o p : Option V} {r : L2.St} {F : L2.St → Prop} (h : F (x0 :: x1 :: x2 :: x3 :: x4 :: x5 :: x6 :: x7 :: x8 :: x9 :: x10 :: p :: r)) : F ((x0 :: x1 :: x2 :: x3 :: x4 :: x5 :: x6 :: x7 :: x8 :: x9 :: x10 :: o :: r).set 11 p) := h
theorem w_v12 {x0 x1 x2 x3 x4 x5 x6 x7 x8 x9 x10 x11 : Option V} {r : L2.St} (h : Q v H) : tVar 12 (x0 :: x1 :: x2 :: x3 :: x4 :: x5 :: x6 :: x7 :: x8 :: x9 :: x10 :: x11 :: some v :: r) H Q := ⟨v, rfl, h⟩
theorem w_g12 {x0 x1 x2 x3 x4 x5 x6 x7 x8 x9 x10 x11 : Option V} {o : Option V} {r : L2.St} {Q : L2.St → Hp → Prop} (h : Q (x0 :: x1 :: x2 :: x3 :: x4 :: x5 :: x6 :: x7 :: x8 :: x9 :: x10 :: x11 :: some v :: r) H) : gName 12 v (x0 :: x1 :: x2 :: x3 :: x4 :: x5 :: x6 :: x7 :: x8 :: x9 :: x10 :: x11 :: o :: r) H Q := h
theorem w_s12 {x0 x1 x2 x3 x4 x5 x6 x7 x8 x9 x10 x11 : Option V} {o p : Option V} {r : L2.St} {F : L2.St → Prop} (h : F (x0 :: x1 :: x2 :: x3 :: x4 :: x5 :: x6 :: x7 :: x8 :: x9 :: x10 :: x11 :: p :: r)) : F ((x0 :: x1 :: x2 :: x3 :: x4 :: x5 :: x6 :: x7 :: x8 :: x9 :: x10 :: x11 :: o :: r).set 12 p) := h
theorem w_v13 {x0 x1 x2 x3 x4 x5 x6 x7 x8 x9 x10 x11 x12 : Option V} {r : L2.St} (h : Q v H) : tVar 13 (x0 :: x1 :: x2 :: x3 :: x4 :: x5 :: x6 :: x7 :: x8 :: x9 :: x10 :: x11 :: x12 :: some v :: r) H Q := ⟨v, rfl, h⟩
theorem w_g13 {x0 x1 x2 x3 x4 x5 x6 x7 x8 x9 x10 x11 x12 : Option V} {o : Option V} {r : L2.St} {Q : L2.St → Hp → Prop} (h : Q (x0 :: x1 :: x2 :: x3 :: x4 :: x5 :: x6 :: x7 :: x8 :: x9 :: x10 :: x11 :: x12 :: some v :: r) H) : gName 13 v (x0 :: x1 :: x2 :: x3 :: x4 :: x5 :: x6 :: x7 :: x8 :: x9 :: x10 :: x11 :: x12 :: o :: r) H Q := h
theorem w_s13 {x0 x1 x2 x3 x4 x5 x6 x7 x8 x9 x10 x11 x12 : Option V} {o p : Option V} {r : L2.St} {F : L2.St → Prop} (h : F (x0 :: x1 :: x2 :: x3 :: x4 :: x5 :: x6 :: x7 :: x8 :: x9 :: x10 :: x11 :: x12 :: p :: r)) : F ((x0 :: x1 :: x2 :: x3 :: x4 :: x5 :: x6 :: x7 :: x8 :: x9 :: x10 :: x11 :: x12 :: o :: r).set 13 p) := h
theorem w_v14 {x0 x1 x2 x3 x4 x5 x6 x7 x8 x9 x10 x11 x12 x13 : Option V} {r : L2.St} (h : Q v H) : tVar 14 (x0 :: x1 :: x2 :: x3 :: x4 :: x5 :: x6 :: x7 :: x8 :: x9 :: x10 :: x11 :: x12 :: x13 :: some v :: r) H Q := ⟨v, rfl, h⟩
theorem w_g14 {x0 x1 x2 x3 x4 x5 x6 x7 x8 x9 x10 x11 x12 x13 : Option V} {o : Option V} {r : L2.St} {Q : L2.St → Hp → Prop} (h : Q (x0 :: x1 :: x2 :: x3 :: x4 :: x5 :: x6 :: x7 :: x8 :: x9 :: x10 :: x11 :: x12 :: x13 :: some v :: r) H) : gName 14 v (x0 :: x1 :: x2 :: x3 :: x4 :: x5 :: x6 :: x7 :: x8 :: x9 :: x10 :: x11 :: x12 :: x13 :: o :: r) H Q := h
theorem w_s14 {x0 x1 x2 x3 x4 x5 x6 x7 x8 x9 x10 x11 x12 x13 : Option V} {o p : Option V} {r : L2.St} {F : L2.St → Prop} (h : F (x0 :: x1 :: x2 :: x3 :: x4 :: x5 :: x6 :: x7 :: x8 :: x9 :: x10 :: x11 :: x12 :: x13 :: p :: r)) : F ((x0 :: x1 :: x2 :: x3 :: x4 :: x5 :: x6 :: x7 :: x8 :: x9 :: x10 :: x11 :: x12 :: x13 :: o :: r).set 14 p) := h
theorem w_v15 {x0 x1 x2 x3 x4 x5 x6 x7 x8 x9 x10 x11 x12 x13 x14 : Option V} {r : L2.St} (h : Q v H) : tVar 15 (x0 :: x1 :: x2 :: x3 :: x4 :: x5 :: x6 :: x7 :: x8 :: x9 :: x10 :: x11 :: x12 :: x13 :: x14 :: some v :: r) H Q := ⟨v, rfl, h⟩
theorem w_g15 {x0 x1 x2 x3 x4 x5 x6 x7 x8 x9 x10 x11 x12 x13 x14 : Option V} {o : Option V} {r : L2.St} {Q : L2.St → Hp → Prop} (h : Q (x0 :: x1 :: x2 :: x3 :: x4 :: x5 :: x6 :: x7 :: x8 :: x9 :: x10 :: x11 :: x12 :: x13 :: x14 :: some v :: r) H) : gName 15 v (x0 :: x1 :: x2 :: x3 :: x4 :: x5 :: x6 :: x7 :: x8 :: x9 :: x10 :: x11 :: x12 :: x13 :: x14 :: o :: r) H Q := h
theorem w_s15 {x0 x1 x2 x3 x4 x5 x6 x7 x8 x9 x10 x11 x12 x13 x14 : Option V} {o p : Option V} {r : L2.St} {F : L2.St → Prop} (h : F (x0 :: x1 :: x2 :: x3 :: x4 :: x5 :: x6 :: x7 :: x8 :: x9 :: x10 :: x11 :: x12 :: x13 :: x14 :: p :: r)) : F ((x0 :: x1 :: x2 :: x3 :: x4 :: x5 :: x6 :: x7 :: x8 :: x9 :: x10 :: x11 :: x12 :: x13 :: x14 :: o :: r).set 15 p) := h
theorem w_v16 {x0 x1 x2 x3 x4 x5 x6 x7 x8 x9 x10 x11 x12 x13 x14 x15 : Option V} {r : L2.St} (h : Q v H) : tVar 16 (x0 :: x1 :: x2 :: x3 :: x4 :: x5 :: x6 :: x7 :: x8 :: x9 :: x10 :: x11 :: x12 :: x13 :: x14 :: x15 :: some v :: r) H Q := ⟨v, rfl, h⟩
theorem w_g16 {x0 x1 x2 x3 x4 x5 x6 x7 x8 x9 x10 x11 x12 x13 x14 x15 : Option V} {o : Option V} {r : L2.St} {Q : L2.St → Hp → Prop} (h : Q (x0 :: x1 :: x2 :: x3 :: x4 :: x5 :: x6 :: x7 :: x8 :: x9 :: x10 :: x11 :: x12 :: x13 :: x14 :: x15 :: some v :: r) H) : gName 16 v (x0 :: x1 :: x2 :: x3 :: x4 :: x5 :: x6 :: x7 :: x8 :: x9 :: x10 :: x11 :: x12 :: x13 :: x14 :: x15 :: o :: r) H Q := h
theorem w_s16 {x0 x1 x2 x3 x4 x5 x6 x7 x8 x9 x10 x11 x12 x13 x14 x15 : Option V} {o p : Option V} {r : L2.St} {F : L2.St → Prop} (h : F (x0 :: x1 :: x2 :: x3 :: x4 :: x5 :: x6 :: x7 :: x8 :: x9 :: x10 :: x11 :: x12 :: x13 :: x14 :: x15 :: p :: r)) : F ((x0 :: x1 :: x2 :: x3 :: x4 :: x5 :: x6 :: x7 :: x8 :: x9 :: x10 :: x11 :: x12 :: x13 :: x14 :: x15 :: o :: r).set 16 p) := h
theorem w_v17 {x0 x1 x2 x3 x4 x5 x6 x7 x8 x9 x10 x11 x12 x13 x14 x15 x16 : Option V} {r : L2.St} (h : Q v H) : tVar 17 (x0 :: x1 :: x2 :: x3 :: x4 :: x5 :: x6 :: x7 :: x8 :: x9 :: x10 :: x11 :: x12 :: x13 :: x14 :: x15 :: x16 :: some v :: r) H Q := ⟨v, rfl, h⟩
theorem w_g17 {x0 x1 x2 x3 x4 x5 x6 x7 x8 x9 x10 x11 x12 x13 x14 x15 x16 : Option V} {o : Option V} {r : L2.St} {Q : L2.St → Hp → Prop} (h : Q (x0 :: x1 :: x2 :: x3 :: x4 :: x5 :: x6 :: x7 :: x8 :: x9 :: x10 :: x11 :: x12 :: x13 :: x14 :: x15 :: x16 :: some v :: r) H) : gName 17 v (x0 :: x1 :: x2 :: x3 :: x4 :: x5 :: x6 :: x7 :: x8 :: x9 :: x10 :: x11 :: x12 :: x13 :: x14 :: x15 :: x16 :: o :: r) H Q := h
theorem w_s17 {x0 x1 x2 x3 x4 x5 x6 x7 x8 x9 x10 x11 x12 x13 x14 x15 x16 : Option V} {o p : Option V} {r : L2.St} {F : L2.St → Prop} (h : F (x0 :: x1 :: x2 :: x3 :: x4 :: x5 :: x6 :: x7 :: x8 :: x9 :: x10 :: x11 :: x12 :: x13 :: x14 :: x15 :: x16 :: p :: r)) : F ((x0 :: x1 :: x2 :: x3 :: x4 :: x5 :: x6 :: x7 :: x8 :: x9 :: x10 :: x11 :: x12 :: x13 :: x14 :: x15 :: x16 :: o :: r).set 17 p) := h
theorem w_v18 {x0 x1 x2 x3 x4 x5 x6 x7 x8 x9 x10 x11 x12 x13 x14 x15 x16 x17 : Option V} {r : L2.St} (h : Q v H) : tVar 18 (x0 :: x1 :: x2 :: x3 :: x4 :: x5 :: x6 :: x7 :: x8 :: x9 :: x10 :: x11 :: x12 :: x13 :: x14 :: x15 :: x16 :: x17 :: some v :: r) H Q := ⟨v, rfl, h⟩
theorem w_g18 {x0 x1 x2 x3 x4 x5 x6 x7 x8 x9 x10 x11 x12 x13 x14 x15 x16 x17 : Option V} {o : Option V} {r : L2.St} {Q : L2.St → Hp → Prop} (h : Q (x0 :: x1 :: x2 :: x3 :: x4 :: x5 :: x6 :: x7 :: x8 :: x9 :: x10 :: x11 :: x12 :: x13 :: x14 :: x15 :: x16 :: x17 :: some v :: r) H) : gName 18 v (x0 :: x1 :: x2 :: x3 :: x4 :: x5 :: x6 :: x7 :: x8 :: x9 :: x10 :: x11 :: x12 :: x13 :: x14 :: x15 :: x16 :: x17 :: o :: r) H Q := h
theorem w_s18 {x0 x1 x2 x3 x4 x5 x6 x7 x8 x9 x10 x11 x12 x13 x14 x15 x16 x17 : Option V} {o p : Option V} {r : L2.St} {F : L2.St → Prop} (h : F (x0 :: x1 :: x2 :: x3 :: x4 :: x5 :: x6 :: x7 :: x8 :: x9 :: x10 :: x11 :: x12 :: x13 :: x14 :: x15 :: x16 :: x17 :: p :: r)) : F ((x0 :: x1 :: x2 :: x3 :: x4 :: x5 :: x6 :: x7 :: x8 :: x9 :: x10 :: x11 :: x12 :: x13 :: x14 :: x15 :: x16 :: x17 :: o :: r).set 18 p) := h
theorem w_v19 {x0 x1 x2 x3 x4 x5 x6 x7 x8 x9 x10 x11 x12 x13 x14 x15 x16 x17 x18 : Option V} {r : L2.St} (h : Q v H) : tVar 19 (x0 :: x1 :: x2 :: x3 :: x4 :: x5 :: x6 :: x7 :: x8 :: x9 :: x10 :: x11 :: x12 :: x13 :: x14 :: x15 :: x16 :: x17 :: x18 :: some v :: r) H Q := ⟨v, rfl, h⟩
theorem w_g19 {x0 x1 x2 x3 x4 x5 x6 x7 x8 x9 x10 x11 x12 x13 x14 x15 x16 x17 x18 : Option V} {o : Option V} {r : L2.St} {Q : L2.St → Hp → Prop} (h : Q (x0 :: x1 :: x2 :: x3 :: x4 :: x5 :: x6 :: x7 :: x8 :: x9 :: x10 :: x11 :: x12 :: x13 :: x14 :: x15 :: x16 :: x17 :: x18 :: some v :: r) H) : gName 19 v (x0 :: x1 :: x2 :: x3 :: x4 :: x5 :: x6 :: x7 :: x8 :: x9 :: x10 :: x11 :: x12 :: x13 :: x14 :: x15 :: x16 :: x17 :: x18 :: o :: r) H Q := h
theorem w_s19 {x0 x1 x2 x3 x4 x5 x6 x7 x8 x9 x10 x11 x12 x13 x14 x15 x16 x17 x18 : Option V} {o p : Option V} {r : L2.St} {F : L2.St → Prop} (h : F (x0 :: x1 :: x2 :: x3 :: x4 :: x5 :: x6 :: x7 :: x8 :: x9 :: x10 :: x11 :: x12 :: x13 :: x14 :: x15 :: x16 :: x17 :: x18 :: p :: r)) : F ((x0 :: x1 :: x2 :: x3 :: x4 :: x5 :: x6 :: x7 :: x8 :: x9 :: x10 :: x11 :: x12 :: x13 :: x14 :: x15 :: x16 :: x17 :: x18 :: o :: r).set 19 p) := h
theorem w_v20 {x0 x1 x2 x3 x4 x5 x6 x7 x8 x9 x10 x11 x12 x13 x14 x15 x16 x17 x18 x19 : Option V} {r : L2.St} (h : Q v H) : tVar 20 (x0 :: x1 :: x2 :: x3 :: x4 :: x5 :: x6 :: x7 :: x8 :: x9 :: x10 :: x11 :: x12 :: x13 :: x14 :: x15 :: x16 :: x17 :: x18 :: x19 :: some v :: r) H Q := ⟨v, rfl, h⟩
theorem w_g20 {x0 x1 x2 x3 x4 x5 x6 x7 x8 x9 x10 x11 x12 x13 x14 x15 x16 x17 x18 x19 : Option V} {o : Option V} {r : L2.St} {Q : L2.St → Hp → Prop} (h : Q (x0 :: x1 :: x2 :: x3 :: x4 :: x5 :: x6 :: x7 :: x8 :: x9 :: x10 :: x11 :: x12 :: x13 :: x14 :: x15 :: x16 :: x17 :: x18 :: x19 :: some v :: r) H) : gName 20 v (x0 :: x1 :: x2 :: x3 :: x4 :: x5 :: x6 :: x7 :: x8 :: x9 :: x10 :: x11 :: x12 :: x13 :: x14 :: x15 :: x16 :: x17 :: x18 :: x19 :: o :: r) H Q := h
theorem w_s20 {x0 x1 x2 x3 x4 x5 x6 x7 x8 x9 x10 x11 x12 x13 x14 x15 x16 x17 x18 x19 : Option V} {o p : Option V} {r : L2.St} {F : L2.St → Prop} (h : F (x0 :: x1 :: x2 :: x3 :: x4 :: x5 :: x6 :: x7 :: x8 :: x9 :: x10 :: x11 :: x12 :: x13 :: x14 :: x15 :: x16 :: x17 :: x18 :: x19 :: p :: r)) : F ((x0 :: x1 :: x2 :: x3 :: x4 :: x5 :: x6 :: x7 :: x8 :: x9 :: x10 :: x11 :: x12 :: x13 :: x14 :: x15 :: x16 :: x17 :: x18 :: x19 :: o :: r).set 20 p) := h
theorem w_v21 {x0 x1 x2 x3 x4 x5 x6 x7 x8 x9 x10 x11 x12 x13 x14 x15 x16 x17 x18 x19 x20 : Option V} {r : L2.St} (h : Q v H) : tVar 21 (x0 :: x1 :: x2 :: x3 :: x4 :: x5 :: x6 :: x7 :: x8 :: x9 :: x10 :: x11 :: x12 :: x13 :: x14 :: x15 :: x16 :: x17 :: x18 :: x19 :: x20 :: some v :: r) H Q := ⟨v, rfl, h⟩
theorem w_g21 {x0 x1 x2 x3 x4 x5 x6 x7 x8 x9 x10 x11 x12 x13 x14 x15 x16 x17 x18 x19 x20 : Option V} {o : Option V} {r : L2.St} {Q : L2.St → Hp → Prop} (h : Q (x0 :: x1 :: x2 :: x3 :: x4 :: x5 :: x6 :: x7 :: x8 :: x9 :: x10 :: x11 :: x12 :: x13 :: x14 :: x15 :: x16 :: x17 :: x18 :: x19 :: x20 :: some v :: r) H) : gName 21 v (x0 :: x1 :: x2 :: x3 :: x4 :: x5 :: x6 :: x7 :: x8 :: x9 :: x10 :: x11 :: x12 :: x13 :: x14 :: x15 :: x16 :: x17 :: x18 :: x19 :: x20 :: o :: r) H Q := h
theorem w_s21 {x0 x1 x2 x3 x4 x5 x6 x7 x8 x9 x10 x11 x12 x13 x14 x15 x16 x17 x18 x19 x20 : Option V} {o p : Option V} {r : L2.St} {F : L2.St → Prop} (h : F (x0 :: x1 :: x2 :: x3 :: x4 :: x5 :: x6 :: x7 :: x8 :: x9 :: x10 :: x11 :: x12 :: x13 :: x14 :: x15 :: x16 :: x17 :: x18 :: x19 :: x20 :: p :: r)) : F ((x0 :: x1 :: x2 :: x3 :: x4 :: x5 :: x6 :: x7 :: x8 :: x9 :: x10 :: x11 :: x12 :: x13 :: x14 :: x15 :: x16 :: x17 :: x18 :: x19 :: x20 :: o :: r).set 21 p) := h
theorem w_v22 {x0 x1 x2 x3 x4 x5 x6 x7 x8 x9 x10 x11 x12 x13 x14 x15 x16 x17 x18 x19 x20 x21 : Option V} {r : L2.St} (h : Q v H) : tVar 22 (x0 :: x1 :: x2 :: x3 :: x4 :: x5 :: x6 :: x7 :: x8 :: x9 :: x10 :: x11 :: x12 :: x13 :: x14 :: x15 :: x16 :: x17 :: x18 :: x19 :: x20 :: x21 :: some v :: r) H Q := ⟨v, rfl, h⟩
theorem w_g22 {x0 x1 x2 x3 x4 x5 x6 x7 x8 x9 x10 x11 x12 x13 x14 x15 x16 x17 x18 x19 x20 x21 : Option V} {o : Option V} {r : L2.St} {Q : L2.St → Hp → Prop} (h : Q (x0 :: x1 :: x2 :: x3 :: x4 :: x5 :: x6 :: x7 :: x8 :: x9 :: x10 :: x11 :: x12 :: x13 :: x14 :: x15 :: x16 :: x17 :: x18 :: x19 :: x20 :: x21 :: some v :: r) H) : gName 22 v (x0 :: x1 :: x2 :: x3 :: x4 :: x5 :: x6 :: x7 :: x8 :: x9 :: x10 :: x11 :: x12 :: x13 :: x14 :: x15 :: x16 :: x17 :: x18 :: x19 :: x20 :: x21 :: o :: r) H Q := h
theorem w_s22 {x0 x1 x2 x3 x4 x5 x6 x7 x8 x9 x10 x11 x12 x13 x14 x15 x16 x17 x18 x19 x20 x21 : Option V} {o p : Option V} {r : L2.St} {F : L2.St → Prop} (h : F (x0 :: x1 :: x2 :: x3 :: x4 :: x5 :: x6 :: x7 :: x8 :: x9 :: x10 :: x11 :: x12 :: x13 :: x14 :: x15 :: x16 :: x17 :: x18 :: x19 :: x20 :: x21 :: p :: r)) : F ((x0 :: x1 :: x2 :: x3 :: x4 :: x5 :: x6 :: x7 :: x8 :: x9 :: x10 :: x11 :: x12 :: x13 :: x14 :: x15 :: x16 :: x17 :: x18 :: x19 :: x20 :: x21 :: o :: r).set 22 p) := h
theorem w_v23 {x0 x1 x2 x3 x4 x5 x6 x7 x8 x9 x10 x11 x12 x13 x14 x15 x16 x17 x18 x19 x20 x21 x22 : Option V} {r : L2.St} (h : Q v H) : tVar 23 (x0 :: x1 :: x2 :: x3 :: x4 :: x5 :: x6 :: x7 :: x8 :: x9 :: x10 :: x11 :: x12 :: x13 :: x14 :: x15 :: x16 :: x17 :: x18 :: x19 :: x20 :: x21 :: x22 :: some v :: r) H Q := ⟨v, rfl, h⟩
theorem w_g23 {x0 x1 x2 x3 x4 x5 x6 x7 x8 x9 x10 x11 x12 x13 x14 x15 x16 x17 x18 x19 x20 x21 x22 : Option V} {o : Option V} {r : L2.St} {Q : L2.St → Hp → Prop} (h : Q (x0 :: x1 :: x2 :: x3 :: x4 :: x5 :: x6 :: x7 :: x8 :: x9 :: x10 :: x11 :: x12 :: x13 :: x14 :: x15 :: x16 :: x17 :: x18 :: x19 :: x20 :: x21 :: x22 :: some v :: r) H) : gName 23 v (x0 :: x1 :: x2 :: x3 :: x4 :: x5 :: x6 :: x7 :: x8 :: x9 :: x10 :: x11 :: x12 :: x13 :: x14 :: x15 :: x16 :: x17 :: x18 :: x19 :: x20 :: x21 :: x22 :: o :: r) H Q := h
theorem w_s23 {x0 x1 x2 x3 x4 x5 x6 x7 x8 x9 x10 x11 x12 x13 x14 x15 x16 x17 x18 x19 x20 x21 x22 : Option V} {o p : Option V} {r : L2.St} {F : L2.St → Prop} (h : F (x0 :: x1 :: x2 :: x3 :: x4 :: x5 :: x6 :: x7 :: x8 :: x9 :: x10 :: x11 :: x12 :: x13 :: x14 :: x15 :: x16 :: x17 :: x18 :: x19 :: x20 :: x21 :: x22 :: p :: r)) : F ((x0 :: x1 :: x2 :: x3 :: x4 :: x5 :: x6 :: x7 :: x8 :: x9 :: x10 :: x11 :: x12 :: x13 :: x14 :: x15 :: x16 :: x17 :: x18 :: x19 :: x20 :: x21 :: x22 :: o :: r).set 23 p) := h
theorem w_v24 {x0 x1 x2 x3 x4 x5 x6 x7 x8 x9 x10 x11 x12 x13 x14 x15 x16 x17 x18 x19 x20 x21 x22 x23 : Option V} {r : L2.St} (h : Q v H) : tVar 24 (x0 :: x1 :: x2 :: x3 :: x4 :: x5 :: x6 :: x7 :: x8 :: x9 :: x10 :: x11 :: x12 :: x13 :: x14 :: x15 :: x16 :: x17 :: x18 :: x19 :: x20 :: x21 :: x22 :: x23 :: some v :: r) H Q := ⟨v, rfl, h⟩
theorem w_g24 {x0 x1 x2 x3 x4 x5 x6 x7 x8 x9 x10 x11 x12 x13 x14 x15 x16 x17 x18 x19 x20 x21 x22 x23 : Option V} {o : Option V} {r : L2.St} {Q : L2.St → Hp → Prop} (h : Q (x0 :: x1 :: x2 :: x3 :: x4 :: x5 :: x6 :: x7 :: x8 :: x9 :: x10 :: x11 :: x12 :: x13 :: x14 :: x15 :: x16 :: x17 :: x18 :: x19 :: x20 :: x21 :: x22 :: x23 :: some v :: r) H) : gName 24 v (x0 :: x1 :: x2 :: x3 :: x4 :: x5 :: x6 :: x7 :: x8 :: x9 :: x10 :: x11 :: x12 :: x13 :: x14 :: x15 :: x16 :: x17 :: x18 :: x19 :: x20 :: x21 :: x22 :: x23 :: o :: r) H Q := h
theorem w_s24 {x0 x1 x2 x3 x4 x5 x6 x7 x8 x9 x10 x11 x12 x13 x14 x15 x16 x17 x18 x19 x20 x21 x22 x23 : Option V} {o p : Option V} {r : L2.St} {F : L2.St → Prop} (h : F (x0 :: x1 :: x2 :: x3 :: x4 :: x5 :: x6 :: x7 :: x8 :: x9 :: x10 :: x11 :: x12 :: x13 :: x14 :: x15 :: x16 :: x17 :: x18 :: x19 :: x20 :: x21 :: x22 :: x23 :: p :: r)) : F ((x0 :: x1 :: x2 :: x3 :: x4 :: x5 :: x6 :: x7 :: x8 :: x9 :: x10 :: x11 :: x12 :: x13 :: x14 :: x15 :: x16 :: x17 :: x18 :: x19 :: x20 :: x21 :: x22 :: x23 :: o :: r).set 24 p) := h
theorem w_v25 {x0 x1 x2 x3 x4 x5 x6 x7 x8 x9 x10 x11 x12 x13 x14 x15 x16 x17 x18 x19 x20 x21 x22 x23 x24 : Option V} {r : L2.St} (h : Q v H) : tVar 25 (x0 :: x1 :: x2 :: x3 :: x4 :: x5 :: x6 :: x7 :: x8 :: x9 :: x10 :: x11 :: x12 :: x13 :: x14 :: x15 :: x16 :: x17 :: x18 :: x19 :: x20 :: x21 :: x22 :: x23 :: x24 :: some v :: r) H Q := ⟨v, rfl, h⟩
theorem w_g25 {x0 x1 x2 x3 x4 x5 x6 x7 x8 x9 x10 x11 x12 x13 x14 x15 x16 x17 x18 x19 x20 x21 x22 x23 x24 : Option V} {o : Option V} {r : L2.St} {Q : L2.St → Hp → Prop} (h : Q (x0 :: x1 :: x2 :: x3 :: x4 :: x5 :: x6 :: x7 :: x8 :: x9 :: x10 :: x11 :: x12 :: x13 :: x14 :: x15 :: x16 :: x17 :: x18 :: x19 :: x20 :: x21 :: x22 :: x23 :: x24 :: some v :: r) H) : gName 25 v (x0 :: x1 :: x2 :: x3 :: x4 :: x5 :: x6 :: x7 :: x8 :: x9 :: x10 :: x11 :: x12 :: x13 :: x14 :: x15 :: x16 :: x17 :: x18 :: x19 :: x20 :: x21 :: x22 :: x23 :: x24 :: o :: r) H Q := h
theorem w_s25 {x0 x1 x2 x3 x4 x5 x6 x7 x8 x9 x10 x11 x12 x13 x14 x15 x16 x17 x18 x19 x20 x21 x22 x23 x24 : Option V} {o p : Option V} {r : L2.St} {F : L2.St → Prop} (h : F (x0 :: x1 :: x2 :: x3 :: x4 :: x5 :: x6 :: x7 :: x8 :: x9 :: x10 :: x11 :: x12 :: x13 :: x14 :: x15 :: x16 :: x17 :: x18 :: x19 :: x20 :: x21 :: x22 :: x23 :: x24 :: p :: r)) : F ((x0 :: x1 :: x2 :: x3 :: x4 :: x5 :: x6 :: x7 :: x8 :: x9 :: x10 :: x11 :: x12 :: x13 :: x14 :: x15 :: x16 :: x17 :: x18 :: x19 :: x20 :: x21 :: x22 :: x23 :: x24 :: o :: r).set 25 p) := h
theorem w_v26 {x0 x1 x2 x3 x4 x5 x6 x7 x8 x9 x10 x11 x12 x13 x14 x15 x16 x17 x18 x19 x20 x21 x22 x23 x24 x25 : Option V} {r : L2.St} (h : Q v H) : tVar 26 (x0 :: x1 :: x2 :: x3 :: x4 :: x5 :: x6 :: x7 :: x8 :: x9 :: x10 :: x11 :: x12 :: x13 :: x14 :: x15 :: x16 :: x17 :: x18 :: x19 :: x20 :: x21 :: x22 :: x23 :: x24 :: x25 :: some v :: r) H Q := ⟨v, rfl, h⟩
theorem w_g26 {x0 x1 x2 x3 x4 x5 x6 x7 x8 x9 x10 x11 x12 x13 x14 x15 x16 x17 x18 x19 x20 x21 x22 x23 x24 x25 : Option V} {o : Option V} {r : L2.St} {Q : L2.St → Hp → Prop} (h : Q (x0 :: x1 :: x2 :: x3 :: x4 :: x5 :: x6 :: x7 :: x8 :: x9 :: x10 :: x11 :: x12 :: x13 :: x14 :: x15 :: x16 :: x17 :: x18 :: x19 :: x20 :: x21 :: x22 :: x23 :: x24 :: x25 :: some v :: r) H) : gName 26 v (x0 :: x1 :: x2 :: x3 :: x4 :: x5 :: x6 :: x7 :: x8 :: x9 :: x10 :: x11 :: x12 :: x13 :: x14 :: x15 :: x16 :: x17 :: x18 :: x19 :: x20 :: x21 :: x22 :: x23 :: x24 :: x25 :: o :: r) H Q := h
theorem w_s26 {x0 x1 x2 x3 x4 x5 x6 x7 x8 x9 x10 x11 x12 x13 x14 x15 x16 x17 x18 x19 x20 x21 x22 x23 x24 x25 : Option V} {o p : Option V} {r : L2.St} {F : L2.St → Prop} (h : F (x0 :: x1 :: x2 :: x3 :: x4 :: x5 :: x6 :: x7 :: x8 :: x9 :: x10 :: x11 :: x12 :: x13 :: x14 :: x15 :: x16 :: x17 :: x18 :: x19 :: x20 :: x21 :: x22 :: x23 :: x24 :: x25 :: p :: r)) : F ((x0 :: x1 :: x2 :: x3 :: x4 :: x5 :: x6 :: x7 :: x8 :: x9 :: x10 :: x11 :: x12 :: x13 :: x14 :: x15 :: x16 :: x17 :: x18 :: x19 :: x20 :: x21 :: x22 :: x23 :: x24 :: x25 :: o :: r).set 26 p) := h
theorem w_v27 {x0 x1 x2 x3 x4 x5 x6 x7 x8 x9 x10 x11 x12 x13 x14 x15 x16 x17 x18 x19 x20 x21 x22 x23 x24 x25 x26 : Option V} {r : L2.St} (h : Q v H) : tVar 27 (x0 :: x1 :: x2 :: x3 :: x4 :: x5 :: x6 :: x7 :: x8 :: x9 :: x10 :: x11 :: x12 :: x13 :: x14 :: x15 :: x16 :: x17 :: x18 :: x19 :: x20 :: x21 :: x22 :: x23 :: x24 :: x25 :: x26 :: some v :: r) H Q := ⟨v, rfl, h⟩
theorem w_g27 {x0 x1 x2 x3 x4 x5 x6 x7 x8 x9 x10 x11 x12 x13 x14 x15 x16 x17 x18 x19 x20 x21 x22 x23 x24 x25 x26 : Option V} {o : Option V} {r : L2.St} {Q : L2.St → Hp → Prop} (h : Q (x0 :: x1 :: x2 :: x3 :: x4 :: x5 :: x6 :: x7 :: x8 :: x9 :: x10 :: x11 :: x12 :: x13 :: x14 :: x15 :: x16 :: x17 :: x18 :: x19 :: x20 :: x21 :: x22 :: x23 :: x24 :: x25 :: x26 :: some v :: r) H) : gName 27 v (x0 :: x1 :: x2 :: x3 :: x4 :: x5 :: x6 :: x7 :: x8 :: x9 :: x10 :: x11 :: x12 :: x13 :: x14 :: x15 :: x16 :: x17 :: x18 :: x19 :: x20 :: x21 :: x22 :: x23 :: x24 :: x25 :: x26 :: o :: r) H Q := h
theorem w_s27 {x0 x1 x2 x3 x4 x5 x6 x7 x8 x9 x10 x11 x12 x13 x14 x15 x16 x17 x18 x19 x20 x21 x22 x23 x24 x25 x26 : Option V} {o p : Option V} {r : L2.St} {F : L2.St → Prop} (h : F (x0 :: x1 :: x2 :: x3 :: x4 :: x5 :: x6 :: x7 :: x8 :: x9 :: x10 :: x11 :: x12 :: x13 :: x14 :: x15 :: x16 :: x17 :: x18 :: x19 :: x20 :: x21 :: x22 :: x23 :: x24 :: x25 :: x26 :: p :: r)) : F ((x0 :: x1 :: x2 :: x3 :: x4 :: x5 :: x6 :: x7 :: x8 :: x9 :: x10 :: x11 :: x12 :: x13 :: x14 :: x15 :: x16 :: x17 :: x18 :: x19 :: x20 :: x21 :: x22 :: x23 :: x24 :: x25 :: x26 :: o :: r).set 27 p) := h
theorem w_v28 {x0 x1 x2 x3 x4 x5 x6 x7 x8 x9 x10 x11 x12 x13 x14 x15 x16 x17 x18 x19 x20 x21 x22 x23 x24 x25 x26 x27 : Option V} {r : L2.St} (h : Q v H) : tVar 28 (x0 :: x1 :: x2 :: x3 :: x4 :: x5 :: x6 :: x7 :: x8 :: x9 :: x10 :: x11 :: x12 :: x13 :: x14 :: x15 :: x16 :: x17 :: x18 :: x19 :: x20 :: x21 :: x22 :: x23 :: x24 :: x25 :: x26 :: x27 :: some v :: r) H Q := ⟨v, rfl, h⟩
theorem w_g28 {x0 x1 x2 x3 x4 x5 x6 x7 x8 x9 x10 x11 x12 x13 x14 x15 x16 x17 x18 x19 x20 x21 x22 x23 x24 x25 x26 x27 : Option V} {o : Option V} {r : L2.St} {Q : L2.St → Hp → Prop} (h : Q (x0 :: x1 :: x2 :: x3 :: x4 :: x5 :: x6 :: x7 :: x8 :: x9 :: x10 :: x11 :: x12 :: x13 :: x14 :: x15 :: x16 :: x17 :: x18 :: x19 :: x20 :: x21 :: x22 :: x23 :: x24 :: x25 :: x26 :: x27 :: some v :: r) H) : gName 28 v (x0 :: x1 :: x2 :: x3 :: x4 :: x5 :: x6 :: x7 :: x8 :: x9 :: x10 :: x11 :: x12 :: x13 :: x14 :: x15 :: x16 :: x17 :: x18 :: x19 :: x20 :: x21 :: x22 :: x23 :: x24 :: x25 :: x26 :: x27 :: o :: r) H Q := h
theorem w_s28 {x0 x1 x2 x3 x4 x5 x6 x7 x8 x9 x10 x11 x12 x13 x14 x15 x16 x17 x18 x19 x20 x21 x22 x23 x24 x25 x26 x27 : Option V} {o p : Option V} {r : L2.St} {F : L2.St → Prop} (h : F (x0 :: x1 :: x2 :: x3 :: x4 :: x5 :: x6 :: x7 :: x8 :: x9 :: x10 :: x11 :: x12 :: x13 :: x14 :: x15 :: x16 :: x17 :: x18 :: x19 :: x20 :: x21 :: x22 :: x23 :: x24 :: x25 :: x26 :: x27 :: p :: r)) : F ((x0 :: x1 :: x2 :: x3 :: x4 :: x5 :: x6 :: x7 :: x8 :: x9 :: x10 :: x11 :: x12 :: x13 :: x14 :: x15 :: x16 :: x17 :: x18 :: x19 :: x20 :: x21 :: x22 :: x23 :: x24 :: x25 :: x26 :: x27 :: o :: r).set 28 p) := h
theorem w_v29 {x0 x1 x2 x3 x4 x5 x6 x7 x8 x9 x10 x11 x12 x13 x14 x15 x16 x17 x18 x19 x20 x21 x22 x23 x24 x25 x26 x27 x28 : Option V} {r : L2.St} (h : Q v H) : tVar 29 (x0 :: x1 :: x2 :: x3 :: x4 :: x5 :: x6 :: x7 :: x8 :: x9 :: x10 :: x11 :: x12 :: x13 :: x14 :: x15 :: x16 :: x17 :: x18 :: x19 :: x20 :: x21 :: x22 :: x23 :: x24 :: x25 :: x26 :: x27 :: x28 :: some v :: r) H Q := ⟨v, rfl, h⟩
theorem w_g29 {x0 x1 x2 x3 x4 x5 x6 x7 x8 x9 x10 x11 x12 x13 x14 x15 x16 x17 x18 x19 x20 x21 x22 x23 x24 x25 x26 x27 x28 : Option V} {o : Option V} {r : L2.St} {Q : L2.St → Hp → Prop} (h : Q (x0 :: x1 :: x2 :: x3 :: x4 :: x5 :: x6 :: x7 :: x8 :: x9 :: x10 :: x11 :: x12 :: x13 :: x14 :: x15 :: x16 :: x17 :: x18 :: x19 :: x20 :: x21 :: x22 :: x23 :: x24 :: x25 :: x26 :: x27 :: x28 :: some v :: r) H) : gName 29 v (x0 :: x1 :: x2 :: x3 :: x4 :: x5 :: x6 :: x7 :: x8 :: x9 :: x10 :: x11 :: x12 :: x13 :: x14 :: x15 :: x16 :: x17 :: x18 :: x19 :: x20 :: x21 :: x22 :: x23 :: x24 :: x25 :: x26 :: x27 :: x28 :: o :: r) H Q := h
theorem w_s29 {x0 x1 x2 x3 x4 x5 x6 x7 x8 x9 x10 x11 x12 x13 x14 x15 x16 x17 x18 x19 x20 x21 x22 x23 x24 x25 x26 x27 x28 : Option V} {o p : Option V} {r : L2.St} {F : L2.St → Prop} (h : F (x0 :: x1 :: x2 :: x3 :: x4 :: x5 :: x6 :: x7 :: x8 :: x9 :: x10 :: x11 :: x12 :: x13 :: x14 :: x15 :: x16 :: x17 :: x18 :: x19 :: x20 :: x21 :: x22 :: x23 :: x24 :: x25 :: x26 :: x27 :: x28 :: p :: r)) : F ((x0 :: x1 :: x2 :: x3 :: x4 :: x5 :: x6 :: x7 :: x8 :: x9 :: x10 :: x11 :: x12 :: x13 :: x14 :: x15 :: x16 :: x17 :: x18 :: x19 :: x20 :: x21 :: x22 :: x23 :: x24 :: x25 :: x26 :: x27 :: x28 :: o :: r).set 29 p) := h
theorem w_v30 {x0 x1 x2 x3 x4 x5 x6 x7 x8 x9 x10 x11 x12 x13 x14 x15 x16 x17 x18 x19 x20 x21 x22 x23 x24 x25 x26 x27 x28 x29 : Option V} {r : L2.St} (h : Q v H) : tVar 30 (x0 :: x1 :: x2 :: x3 :: x4 :: x5 :: x6 :: x7 :: x8 :: x9 :: x10 :: x11 :: x12 :: x13 :: x14 :: x15 :: x16 :: x17 :: x18 :: x19 :: x20 :: x21 :: x22 :: x23 :: x24 :: x25 :: x26 :: x27 :: x28 :: x29 :: some v :: r) H Q := ⟨v, rfl, h⟩
theorem w_g30 {x0 x1 x2 x3 x4 x5 x6 x7 x8 x9 x10 x11 x12 x13 x14 x15 x16 x17 x18 x19 x20 x21 x22 x23 x24 x25 x26 x27 x28 x29 : Option V} {o : Option V} {r : L2.St} {Q : L2.St → Hp → Prop} (h : Q (x0 :: x1 :: x2 :: x3 :: x4 :: x5 :: x6 :: x7 :: x8 :: x9 :: x10 :: x11 :: x12 :: x13 :: x14 :: x15 :: x16 :: x17 :: x18 :: x19 :: x20 :: x21 :: x22 :: x23 :: x24 :: x25 :: x26 :: x27 :: x28 :: x29 :: some v :: r) H) : gName 30 v (x0 :: x1 :: x2 :: x3 :: x4 :: x5 :: x6 :: x7 :: x8 :: x9 :: x10 :: x11 :: x12 :: x13 :: x14 :: x15 :: x16 :: x17 :: x18 :: x19 :: x20 :: x21 :: x22 :: x23 :: x24 :: x25 :: x26 :: x27 :: x28 :: x29 :: o :: r) H Q := h
theorem w_s30 {x0 x1 x2 x3 x4 x5 x6 x7 x8 x9 x10 x11 x12 x13 x14 x15 x16 x17 x18 x19 x20 x21 x22 x23 x24 x25 x26 x27 x28 x29 : Option V} {o p : Option V} {r : L2.St} {F : L2.St → Prop} (h : F (x0 :: x1 :: x2 :: x3 :: x4 :: x5 :: x6 :: x7 :: x8 :: x9 :: x10 :: x11 :: x12 :: x13 :: x14 :: x15 :: x16 :: x17 :: x18 :: x19 :: x20 :: x21 :: x22 :: x23 :: x24 :: x25 :: x26 :: x27 :: x28 :: x29 :: p :: r)) : F ((x0 :: x1 :: x2 :: x3 :: x4 :: x5 :: x6 :: x7 :: x8 :: x9 :: x10 :: x11 :: x12 :: x13 :: x14 :: x15 :: x16 :: x17 :: x18 :: x19 :: x20 :: x21 :: x22 :: x23 :: x24 :: x25 :: x26 :: x27 :: x28 :: x29 :: o :: r).set 30 p) := h
end
theorem w_pow0 {Q : VK} {H : Hp} (h : Q (.int 1) H) : rI CPow (fun i j => .int (i ^ j.toNat)) (.int 10) (.int 0) H Q := ⟨10, 0, rfl, rfl, ⟨by decide, by decide, by decide⟩, h⟩
theorem w_pow1 {Q : VK} {H : Hp} (h : Q (.int 10) H) : rI CPow (fun i j => .int (i ^ j.toNat)) (.int 10) (.int 1) H Q := ⟨10, 1, rfl, rfl, ⟨by decide, by decide, by decide⟩, h⟩
theorem w_pow2 {Q : VK} {H : Hp} (h : Q (.int 100) H) : rI CPow (fun i j => .int (i ^ j.toNat)) (.int 10) (.int 2) H Q := ⟨10, 2, rfl, rfl, ⟨by decide, by decide, by decide⟩, h⟩
theorem w_pow3 {Q : VK} {H : Hp} (h : Q (.int 1000) H) : rI CPow (fun i j => .int (i ^ j.toNat)) (.int 10) (.int 3) H Q := ⟨10, 3, rfl, rfl, ⟨by decide, by decide, by decide⟩, h⟩
theorem w_pow4 {Q : VK} {H : Hp} (h : Q (.int 10000) H) : rI CPow (fun i j => .int (i ^ j.toNat)) (.int 10) (.int 4) H Q := ⟨10, 4, rfl, rfl, ⟨by decide, by decide, by decide⟩, h⟩
theorem w_pow5 {Q : VK} {H : Hp} (h : Q (.int 100000) H) : rI CPow (fun i j => .int (i ^ j.toNat)) (.int 10) (.int 5) H Q := ⟨10, 5, rfl, rfl, ⟨by decide, by decide, by decide⟩, h⟩
theorem w_pow6 {Q : VK} {H : Hp} (h : Q (.int 1000000) H) : rI CPow (fun i j => .int (i ^ j.toNat)) (.int 10) (.int 6) H Q := ⟨10, 6, rfl, rfl, ⟨by decide, by decide, by decide⟩, h⟩
theorem w_pow7 {Q : VK} {H : Hp} (h : Q (.int 10000000) H) : rI CPow (fun i j => .int (i ^ j.toNat)) (.int 10) (.int 7) H Q := ⟨10, 7, rfl, rfl, ⟨by decide, by decide, by decide⟩, h⟩
theorem w_pow8 {Q : VK} {H : Hp} (h : Q (.int 100000000) H) : rI CPow (fun i j => .int (i ^ j.toNat)) (.int 10) (.int 8) H Q := ⟨10, 8, rfl, rfl, ⟨by decide, by decide, by decide⟩, h⟩
theorem w_pow9 {Q : VK} {H : Hp} (h : Q (.int 1000000000) H) : rI CPow (fun i j => .int (i ^ j.toNat)) (.int 10) (.int 9) H Q := ⟨10, 9, rfl, rfl, ⟨by decide, by decide, by decide⟩, h⟩
theorem w_pow10 {Q : VK} {H : Hp} (h : Q (.int 10000000000) H) : rI CPow (fun i j => .int (i ^ j.toNat)) (.int 10) (.int 10) H Q := ⟨10, 10, rfl, rfl, ⟨by decide, by decide, by decide⟩, h⟩
theorem w_pow11 {Q : VK} {H : Hp} (h : Q (.int 100000000000) H) : rI CPow (fun i j => .int (i ^ j.toNat)) (.int 10) (.int 11) H Q := ⟨10, 11, rfl, rfl, ⟨by decide, by decide, by decide⟩, h⟩
theorem w_pow12 {Q : VK} {H : Hp} (h : Q (.int 1000000000000) H) : rI CPow (fun i j => .int (i ^ j.toNat)) (.int 10) (.int 12) H Q := ⟨10, 12, rfl, rfl, ⟨by decide, by decide, by decide⟩, h⟩
theorem w_pow13 {Q : VK} {H : Hp} (h : Q (.int 10000000000000) H) : rI CPow (fun i j => .int (i ^ j.toNat)) (.int 10) (.int 13) H Q := ⟨10, 13, rfl, rfl, ⟨by decide, by decide, by decide⟩, h⟩
theorem w_pow14 {Q : VK} {H : Hp} (h : Q (.int 100000000000000) H) : rI CPow (fun i j => .int (i ^ j.toNat)) (.int 10) (.int 14) H Q := ⟨10, 14, rfl, rfl, ⟨by decide, by decide, by decide⟩, h⟩
theorem w_pow15 {Q : VK} {H : Hp} (h : Q (.int 1000000000000000) H) : rI CPow (fun i j => .int (i ^ j.toNat)) (.int 10) (.int 15) H Q := ⟨10, 15, rfl, rfl, ⟨by decide, by decide, by decide⟩, h⟩
theorem w_pow16 {Q : VK} {H : Hp} (h : Q (.int 10000000000000000) H) : rI CPow (fun i j => .int (i ^ j.toNat)) (.int 10) (.int 16) H Q := ⟨10, 16, rfl, rfl, ⟨by decide, by decide, by decide⟩, h⟩
theorem w_pow17 {Q : VK} {H : Hp} (h : Q (.int 100000000000000000) H) : rI CPow (fun i j => .int (i ^ j.toNat)) (.int 10) (.int 17) H Q := ⟨10, 17, rfl, rfl, ⟨by decide, by decide, by decide⟩, h⟩
theorem w_pow18 {Q : VK} {H : Hp} (h : Q (.int 1000000000000000000) H) : rI CPow (fun i j => .int (i ^ j.toNat)) (.int 10) (.int 18) H Q := ⟨10, 18, rfl, rfl, ⟨by decide, by decide, by decide⟩, h⟩
theorem w_pow19 {Q : VK} {H : Hp} (h : Q (.int 10000000000000000000) H) : rI CPow (fun i j => .int (i ^ j.toNat)) (.int 10) (.int 19) H Q := ⟨10, 19, rfl, rfl, ⟨by decide, by decide, by decide⟩, h⟩
theorem w_pow20 {Q : VK} {H : Hp} (h : Q (.int 100000000000000000000) H) : rI CPow (fun i j => .int (i ^ j.toNat)) (.int 10) (.int 20) H Q := ⟨10, 20, rfl, rfl, ⟨by decide, by decide, by decide⟩, h⟩
theorem w_pow21 {Q : VK} {H : Hp} (h : Q (.int 1000000000000000000000) H) : rI CPow (fun i j => .int (i ^ j.toNat)) (.int 10) (.int 21) H Q := ⟨10, 21, rfl, rfl, ⟨by decide, by decide, by decide⟩, h⟩
theorem w_pow22 {Q : VK} {H : Hp} (h : Q (.int 10000000000000000000000) H) : rI CPow (fun i j => .int (i ^ j.toNat)) (.int 10) (.int 22) H Q := ⟨10, 22, rfl, rfl, ⟨by decide, by decide, by decide⟩, h⟩
theorem w_pow23 {Q : VK} {H : Hp} (h : Q (.int 100000000000000000000000) H) : rI CPow (fun i j => .int (i ^ j.toNat)) (.int 10) (.int 23) H Q := ⟨10, 23, rfl, rfl, ⟨by decide, by decide, by decide⟩, h⟩
theorem w_pow24 {Q : VK} {H : Hp} (h : Q (.int 1000000000000000000000000) H) : rI CPow (fun i j => .int (i ^ j.toNat)) (.int 10) (.int 24) H Q := ⟨10, 24, rfl, rfl, ⟨by decide, by decide, by decide⟩, h⟩
theorem w_pow25 {Q : VK} {H : Hp} (h : Q (.int 10000000000000000000000000) H) : rI CPow (fun i j => .int (i ^ j.toNat)) (.int 10) (.int 25) H Q := ⟨10, 25, rfl, rfl, ⟨by decide, by decide, by decide⟩, h⟩
theorem w_pow26 {Q : VK} {H : Hp} (h : Q (.int 100000000000000000000000000) H) : rI CPow (fun i j => .int (i ^ j.toNat)) (.int 10) (.int 26) H Q := ⟨10, 26, rfl, rfl, ⟨by decide, by decide, by decide⟩, h⟩
theorem w_pow27 {Q : VK} {H : Hp} (h : Q (.int 1000000000000000000000000000) H) : rI CPow (fun i j => .int (i ^ j.toNat)) (.int 10) (.int 27) H Q := ⟨10, 27, rfl, rfl, ⟨by decide, by decide, by decide⟩, h⟩
theorem w_pow28 {Q : VK} {H : Hp} (h : Q (.int 10000000000000000000000000000) H) : rI CPow (fun i j => .int (i ^ j.toNat)) (.int 10) (.int 28) H Q := ⟨10, 28, rfl, rfl, ⟨by decide, by decide, by decide⟩, h⟩
theorem w_pow29 {Q : VK} {H : Hp} (h : Q (.int 100000000000000000000000000000) H) : rI CPow (fun i j => .int (i ^ j.toNat)) (.int 10) (.int 29) H Q := ⟨10, 29, rfl, rfl, ⟨by decide, by decide, by decide⟩, h⟩
theorem w_pow30 {Q : VK} {H : Hp} (h : Q (.int 1000000000000000000000000000000) H) : rI CPow (fun i j => .int (i ^ j.toNat)) (.int 10) (.int 30) H Q := ⟨10, 30, rfl, rfl, ⟨by decide, by decide, by decide⟩, h⟩
theorem w_pow31 {Q : VK} {H : Hp} (h : Q (.int 10000000000000000000000000000000) H) : rI CPow (fun i j => .int (i ^ j.toNat)) (.int 10) (.int 31) H Q := ⟨10, 31, rfl, rfl, ⟨by decide, by decide, by decide⟩, h⟩
theorem w_pow32 {Q : VK} {H : Hp} (h : Q (.int 100000000000000000000000000000000) H) : rI CPow (fun i j => .int (i ^ j.toNat)) (.int 10) (.int 32) H Q := ⟨10, 32, rfl, rfl, ⟨by decide, by decide, by decide⟩, h⟩
theorem w_pow33 {Q : VK} {H : Hp} (h : Q (.int 1000000000000000000000000000000000) H) : rI CPow (fun i j => .int (i ^ j.toNat)) (.int 10) (.int 33) H Q := ⟨10, 33, rfl, rfl, ⟨by decide, by decide, by decide⟩, h⟩
theorem w_pow34 {Q : VK} {H : Hp} (h : Q (.int 10000000000000000000000000000000000) H) : rI CPow (fun i j => .int (i ^ j.toNat)) (.int 10) (.int 34) H Q := ⟨10, 34, rfl, rfl, ⟨by decide, by decide, by decide⟩, h⟩
theorem w_pow35 {Q : VK} {H : Hp} (h : Q (.int 100000000000000000000000000000000000) H) : rI CPow (fun i j => .int (i ^ j.toNat)) (.int 10) (.int 35) H Q := ⟨10, 35, rfl, rfl, ⟨by decide, by decide, by decide⟩, h⟩
theorem w_pow36 {Q : VK} {H : Hp} (h : Q (.int 1000000000000000000000000000000000000) H) : rI CPow (fun i j => .int (i ^ j.toNat)) (.int 10) (.int 36) H Q := ⟨10, 36, rfl, rfl, ⟨by decide, by decide, by decide⟩, h⟩
theorem w_pow37 {Q : VK} {H : Hp} (h : Q (.int 10000000000000000000000000000000000000) H) : rI CPow (fun i j => .int (i ^ j.toNat)) (.int 10) (.int 37) H Q := ⟨10, 37, rfl, rfl, ⟨by decide, by decide, by decide⟩, h⟩
theorem w_pow38 {Q : VK} {H : Hp} (h : Q (.int 100000000000000000000000000000000000000) H) : rI CPow (fun i j => .int (i ^ j.toNat)) (.int 10) (.int 38) H Q := ⟨10, 38, rfl, rfl, ⟨by decide, by decide, by decide⟩, h⟩
theorem w_pow39 {Q : VK} {H : Hp} (h : Q (.int 1000000000000000000000000000000000000000) H) : rI CPow (fun i j => .int (i ^ j.toNat)) (.int 10) (.int 39) H Q := ⟨10, 39, rfl, rfl, ⟨by decide, by decide, by decide⟩, h⟩
theorem w_pow40 {Q : VK} {H : Hp} (h : Q (.int 10000000000000000000000000000000000000000) H) : rI CPow (fun i j => .int (i ^ j.toNat)) (.int 10) (.int 40) H Q := ⟨10, 40, rfl, rfl, ⟨by decide, by decide, by decide⟩, h⟩
theorem w_pow41 {Q : VK} {H : Hp} (h : Q (.int 100000000000000000000000000000000000000000) H) : rI CPow (fun i j => .int (i ^ j.toNat)) (.int 10) (.int 41) H Q := ⟨10, 41, rfl, rfl, ⟨by decide, by decide, by decide⟩, h⟩
theorem w_pow42 {Q : VK} {H : Hp} (h : Q (.int 1000000000000000000000000000000000000000000) H) : rI CPow (fun i j => .int (i ^ j.toNat)) (.int 10) (.int 42) H Q := ⟨10, 42, rfl, rfl, ⟨by decide, by decide, by decide⟩, h⟩
theorem w_pow43 {Q : VK} {H : Hp} (h : Q (.int 10000000000000000000000000000000000000000000) H) : rI CPow (fun i j => .int (i ^ j.toNat)) (.int 10) (.int 43) H Q := ⟨10, 43, rfl, rfl, ⟨by decide, by decide, by decide⟩, h⟩
theorem w_pow44 {Q : VK} {H : Hp} (h : Q (.int 100000000000000000000000000000000000000000000) H) : rI CPow (fun i j => .int (i ^ j.toNat)) (.int 10) (.int 44) H Q := ⟨10, 44, rfl, rfl, ⟨by decide, by decide, by decide⟩, h⟩
theorem w_pow45 {Q : VK} {H : Hp} (h : Q (.int 1000000000000000000000000000000000000000000000) H) : rI CPow (fun i j => .int (i ^ j.toNat)) (.int 10) (.int 45) H Q := ⟨10, 45, rfl, rfl, ⟨by decide, by decide, by decide⟩, h⟩
theorem w_pow46 {Q : VK} {H : Hp} (h : Q (.int 10000000000000000000000000000000000000000000000) H) : rI CPow (fun i j => .int (i ^ j.toNat)) (.int 10) (.int 46) H Q := ⟨10, 46, rfl, rfl, ⟨by decide, by decide, by decide⟩, h⟩
theorem w_pow47 {Q : VK} {H : Hp} (h : Q (.int 100000000000000000000000000000000000000000000000) H) : rI CPow (fun i j => .int (i ^ j.toNat)) (.int 10) (.int 47) H Q := ⟨10, 47, rfl, rfl, ⟨by decide, by decide, by decide⟩, h⟩
theorem w_pow48 {Q : VK} {H : Hp} (h : Q (.int 1000000000000000000000000000000000000000000000000) H) : rI CPow (fun i j => .int (i ^ j.toNat)) (.int 10) (.int 48) H Q := ⟨10, 48, rfl, rfl, ⟨by decide, by decide, by decide⟩, h⟩
theorem w_pow49 {Q : VK} {H : Hp} (h : Q (.int 10000000000000000000000000000000000000000000000000) H) : rI CPow (fun i j => .int (i ^ j.toNat)) (.int 10) (.int 49) H Q := ⟨10, 49, rfl, rfl, ⟨by decide, by decide, by decide⟩, h⟩
theorem w_pow50 {Q : VK} {H : Hp} (h : Q (.int 100000000000000000000000000000000000000000000000000) H) : rI CPow (fun i j => .int (i ^ j.toNat)) (.int 10) (.int 50) H Q := ⟨10, 50, rfl, rfl, ⟨by decide, by decide, by decide⟩, h⟩
theorem w_pow51 {Q : VK} {H : Hp} (h : Q (.int 1000000000000000000000000000000000000000000000000000) H) : rI CPow (fun i j => .int (i ^ j.toNat)) (.int 10) (.int 51) H Q := ⟨10, 51, rfl, rfl, ⟨by decide, by decide, by decide⟩, h⟩
theorem w_pow52 {Q : VK} {H : Hp} (h : Q (.int 10000000000000000000000000000000000000000000000000000) H) : rI CPow (fun i j => .int (i ^ j.toNat)) (.int 10) (.int 52) H Q := ⟨10, 52, rfl, rfl, ⟨by decide, by decide, by decide⟩, h⟩
theorem w_pow53 {Q : VK} {H : Hp} (h : Q (.int 100000000000000000000000000000000000000000000000000000) H) : rI CPow (fun i j => .int (i ^ j.toNat)) (.int 10) (.int 53) H Q := ⟨10, 53, rfl, rfl, ⟨by decide, by decide, by decide⟩, h⟩
theorem w_pow54 {Q : VK} {H : Hp} (h : Q (.int 1000000000000000000000000000000000000000000000000000000) H) : rI CPow (fun i j => .int (i ^ j.toNat)) (.int 10) (.int 54) H Q := ⟨10, 54, rfl, rfl, ⟨by decide, by decide, by decide⟩, h⟩
theorem w_pow55 {Q : VK} {H : Hp} (h : Q (.int 10000000000000000000000000000000000000000000000000000000) H) : rI CPow (fun i j => .int (i ^ j.toNat)) (.int 10) (.int 55) H Q := ⟨10, 55, rfl, rfl, ⟨by decide, by decide, by decide⟩, h⟩
theorem w_pow56 {Q : VK} {H : Hp} (h : Q (.int 100000000000000000000000000000000000000000000000000000000) H) : rI CPow (fun i j => .int (i ^ j.toNat)) (.int 10) (.int 56) H Q := ⟨10, 56, rfl, rfl, ⟨by decide, by decide, by decide⟩, h⟩
theorem w_pow57 {Q : VK} {H : Hp} (h : Q (.int 1000000000000000000000000000000000000000000000000000000000) H) : rI CPow (fun i j => .int (i ^ j.toNat)) (.int 10) (.int 57) H Q := ⟨10, 57, rfl, rfl, ⟨by decide, by decide, by decide⟩, h⟩
theorem w_pow58 {Q : VK} {H : Hp} (h : Q (.int 10000000000000000000000000000000000000000000000000000000000) H) : rI CPow (fun i j => .int (i ^ j.toNat)) (.int 10) (.int 58) H Q := ⟨10, 58, rfl, rfl, ⟨by decide, by decide, by decide⟩, h⟩
theorem w_pow59 {Q : VK} {H : Hp} (h : Q (.int 100000000000000000000000000000000000000000000000000000000000) H) : rI CPow (fun i j => .int (i ^ j.toNat)) (.int 10) (.int 59) H Q := ⟨10, 59, rfl, rfl, ⟨by decide, by decide, by decide⟩, h⟩
theorem w_pow60 {Q : VK} {H : Hp} (h : Q (.int 1000000000000000000000000000000000000000000000000000000000000) H) : rI CPow (fun i j => .int (i ^ j.toNat)) (.int 10) (.int 60) H Q := ⟨10, 60, rfl, rfl, ⟨by decide, by decide, by decide⟩, h⟩

/-! ### the drawing stream: a list of the cells, a place, a great number in use, a count -/
def Stm (H : Hp) (a : Addr) : Prop := ∃ (c : Addr) (p g n : Int) (ns : List Int), H a = some (.lst [.ref c, .int p, .int g, .int n]) ∧ 0 ≤ p ∧ 0 ≤ g ∧ H c = some (.lst (ns.map V.int)) ∧ 0 < ns.length
/-- all but a stands -/
def But (a : Addr) (H H' : Hp) : Prop := ∀ b o, b ≠ a → H b = some o → H' b = some o
theorem But.refl (a : Addr) (H : Hp) : But a H H := fun _ _ _ h => h
theorem But.trans {a : Addr} {H H1 H2 : Hp} (x : But a H H1) (y : But a H1 H2) : But a H H2 := fun b o n h => y b o n (x b o n h)
theorem But.upd {a : Addr} {H : Hp} {o : HO} : But a H (upd H a o) := fun b u n h => by
  rw [upd_ne n]
  exact h
theorem But.new {a : Addr} {H H1 : Hp} {p : Addr} {o : HO} (x : But a H H1) (hp : H1 p = none) : But a H (L2.upd H1 p o) := fun b u n h => by
  rw [upd_ne (ne_of_none (x b u n h) hp)]
  exact x b u n h
theorem _root_.L2.Same.but {a : Addr} {H H1 : Hp} (x : Same H H1) : But a H H1 := fun b o _ h => x b o h
theorem same_new {H : Hp} {p : Addr} {o : HO} (h : H p = none) : Same H (upd H p o) := fun b u e => by
  rw [upd_ne (ne_of_none e h)]
  exact e
theorem _root_.L2.Same.new {H H1 : Hp} {p : Addr} {o : HO} (x : Same H H1) (h : H1 p = none) : Same H (upd H1 p o) := x.trans (same_new h)
theorem Stm.keep {H H' : Hp} {a : Addr} (s : Stm H a) (x : Same H H') : Stm H' a := by
  obtain ⟨c, p, g, n, ns, h1, h2, h3, h4, h5⟩ := s
  exact ⟨c, p, g, n, ns, x _ _ h1, h2, h3, x _ _ h4, h5⟩
theorem Stm.ne {H : Hp} {a p : Addr} (s : Stm H a) (h : H p = none) : p ≠ a := by
  obtain ⟨c, p, g, n, ns, h1, _⟩ := s
  exact (ne_of_none h1 h).symm
theorem stm_ca {H : Hp} {a c : Addr} {p g n : Int} {ns : List Int} (h1 : H a = some (.lst [.ref c, .int p, .int g, .int n])) (h4 : H c = some (.lst (ns.map V.int))) : c ≠ a := fun e => by
  rw [e, h1] at h4
  cases ns with
  | nil => cases h4
  | cons x r => cases h4
/-! what the drawing defs promise -/
def sp_mixed : Sp := fun vs H Q _ => ∃ c k : Int, vs = [.int c, .int k] ∧ ∀ d : Int, Q (.int d) H
def sp_great (K : PySem.W.Frag) : Sp := fun vs H Q _ => ∃ (c : Addr) (p : Int) (ns : List Int), vs = [.ref c, .int p] ∧ SqL K H c (ns.map V.int) ∧ 0 ≤ p ∧ ∀ g : Int, 0 ≤ g → Q (.int g) H
def sp_stream (K : PySem.W.Frag) : Sp := fun vs H Q _ => ∃ (a : Addr) (ns : List Int), vs = [.ref a] ∧ SqL K H a (ns.map V.int) ∧ ∀ H' p, Same H H' → H p = none → Stm H' p → Q (.ref p) H'
def sp_take : Sp := fun vs H Q _ => ∃ (a : Addr) (m : Int), vs = [.ref a, .int m] ∧ (0 < m ∧ m.natAbs.log2 < 9000) ∧ Stm H a ∧ ∀ H' (d : Int), But a H H' → Stm H' a → 0 ≤ d → d < m → Q (.int d) H'
/-- an int below 10 ^ 39 in size -/
def sp_whole : Sp := fun vs H Q _ => ∃ (a : Addr), vs = [.ref a] ∧ Stm H a ∧ ∀ H' (n : Int), But a H H' → Stm H' a → n.natAbs < 1000000000000000000000000000000000000000 → Q (.int n) H'

/-! items by a written place -/
theorem at0 {x : V} {r : List V} : atI (x :: r) 0 = some x := atI_nat (j := 0) rfl
theorem at1 {x0 : V} {x : V} {r : List V} : atI (x0 :: x :: r) 1 = some x := atI_nat (j := 1) rfl
theorem at2 {x0 x1 : V} {x : V} {r : List V} : atI (x0 :: x1 :: x :: r) 2 = some x := atI_nat (j := 2) rfl
theorem at3 {x0 x1 x2 : V} {x : V} {r : List V} : atI (x0 :: x1 :: x2 :: x :: r) 3 = some x := atI_nat (j := 3) rfl
theorem at4 {x0 x1 x2 x3 : V} {x : V} {r : List V} : atI (x0 :: x1 :: x2 :: x3 :: x :: r) 4 = some x := atI_nat (j := 4) rfl
theorem at5 {x0 x1 x2 x3 x4 : V} {x : V} {r : List V} : atI (x0 :: x1 :: x2 :: x3 :: x4 :: x :: r) 5 = some x := atI_nat (j := 5) rfl
theorem at6 {x0 x1 x2 x3 x4 x5 : V} {x : V} {r : List V} : atI (x0 :: x1 :: x2 :: x3 :: x4 :: x5 :: x :: r) 6 = some x := atI_nat (j := 6) rfl
theorem at7 {x0 x1 x2 x3 x4 x5 x6 : V} {x : V} {r : List V} : atI (x0 :: x1 :: x2 :: x3 :: x4 :: x5 :: x6 :: x :: r) 7 = some x := atI_nat (j := 7) rfl
theorem at8 {x0 x1 x2 x3 x4 x5 x6 x7 : V} {x : V} {r : List V} : atI (x0 :: x1 :: x2 :: x3 :: x4 :: x5 :: x6 :: x7 :: x :: r) 8 = some x := atI_nat (j := 8) rfl
theorem at9 {x0 x1 x2 x3 x4 x5 x6 x7 x8 : V} {x : V} {r : List V} : atI (x0 :: x1 :: x2 :: x3 :: x4 :: x5 :: x6 :: x7 :: x8 :: x :: r) 9 = some x := atI_nat (j := 9) rfl
theorem at10 {x0 x1 x2 x3 x4 x5 x6 x7 x8 x9 : V} {x : V} {r : List V} : atI (x0 :: x1 :: x2 :: x3 :: x4 :: x5 :: x6 :: x7 :: x8 :: x9 :: x :: r) 10 = some x := atI_nat (j := 10) rfl
theorem at11 {x0 x1 x2 x3 x4 x5 x6 x7 x8 x9 x10 : V} {x : V} {r : List V} : atI (x0 :: x1 :: x2 :: x3 :: x4 :: x5 :: x6 :: x7 :: x8 :: x9 :: x10 :: x :: r) 11 = some x := atI_nat (j := 11) rfl
theorem at12 {x0 x1 x2 x3 x4 x5 x6 x7 x8 x9 x10 x11 : V} {x : V} {r : List V} : atI (x0 :: x1 :: x2 :: x3 :: x4 :: x5 :: x6 :: x7 :: x8 :: x9 :: x10 :: x11 :: x :: r) 12 = some x := atI_nat (j := 12) rfl
theorem at13 {x0 x1 x2 x3 x4 x5 x6 x7 x8 x9 x10 x11 x12 : V} {x : V} {r : List V} : atI (x0 :: x1 :: x2 :: x3 :: x4 :: x5 :: x6 :: x7 :: x8 :: x9 :: x10 :: x11 :: x12 :: x :: r) 13 = some x := atI_nat (j := 13) rfl
theorem at14 {x0 x1 x2 x3 x4 x5 x6 x7 x8 x9 x10 x11 x12 x13 : V} {x : V} {r : List V} : atI (x0 :: x1 :: x2 :: x3 :: x4 :: x5 :: x6 :: x7 :: x8 :: x9 :: x10 :: x11 :: x12 :: x13 :: x :: r) 14 = some x := atI_nat (j := 14) rfl
theorem at15 {x0 x1 x2 x3 x4 x5 x6 x7 x8 x9 x10 x11 x12 x13 x14 : V} {x : V} {r : List V} : atI (x0 :: x1 :: x2 :: x3 :: x4 :: x5 :: x6 :: x7 :: x8 :: x9 :: x10 :: x11 :: x12 :: x13 :: x14 :: x :: r) 15 = some x := atI_nat (j := 15) rfl

theorem ixN_lt {n : Nat} {i : Int} {j : Nat} (e : i = (j : Int)) (h : j < n) : ixN n i = some j := by
  unfold ixN
  rw [if_pos (by omega), if_pos (by omega)]
  congr 1
  omega
theorem at_get {xs : List V} {i : Int} {j : Nat} (e : i = (j : Int)) (h : j < xs.length) : atI xs i = some xs[j] := by
  subst e
  exact atI_nat (List.getElem?_eq_getElem h)
theorem at_ints {ns : List Int} {i : Int} (h0 : 0 ≤ i) (h : i < (ns.length : Int)) : ∃ n, atI (ns.map V.int) i = some (.int n) := by
  obtain ⟨j, rfl⟩ := Int.eq_ofNat_of_zero_le h0
  have hj : j < ns.length := by omega
  refine ⟨ns[j], ?_⟩
  refine atI_nat ?_
  rw [List.getElem?_map, List.getElem?_eq_getElem hj]
  rfl
theorem w_set0 {H : Hp} {Q : Hp → Prop} {p : Addr} {y : V} {x : V} {r : List V} (e : H p = some (.lst (x :: r))) (h : Q (upd H p (.lst (y :: r)))) : rSetL (.ref p) (.int 0) y H Q := ⟨p, _, 0, 0, rfl, rfl, e, ixN_lt rfl (by simp), h⟩
theorem w_set1 {H : Hp} {Q : Hp → Prop} {p : Addr} {y : V} {x0 : V} {x : V} {r : List V} (e : H p = some (.lst (x0 :: x :: r))) (h : Q (upd H p (.lst (x0 :: y :: r)))) : rSetL (.ref p) (.int 1) y H Q := ⟨p, _, 1, 1, rfl, rfl, e, ixN_lt rfl (by simp), h⟩
theorem w_set2 {H : Hp} {Q : Hp → Prop} {p : Addr} {y : V} {x0 x1 : V} {x : V} {r : List V} (e : H p = some (.lst (x0 :: x1 :: x :: r))) (h : Q (upd H p (.lst (x0 :: x1 :: y :: r)))) : rSetL (.ref p) (.int 2) y H Q := ⟨p, _, 2, 2, rfl, rfl, e, ixN_lt rfl (by simp), h⟩
theorem w_set3 {H : Hp} {Q : Hp → Prop} {p : Addr} {y : V} {x0 x1 x2 : V} {x : V} {r : List V} (e : H p = some (.lst (x0 :: x1 :: x2 :: x :: r))) (h : Q (upd H p (.lst (x0 :: x1 :: x2 :: y :: r)))) : rSetL (.ref p) (.int 3) y H Q := ⟨p, _, 3, 3, rfl, rfl, e, ixN_lt rfl (by simp), h⟩
theorem w_set4 {H : Hp} {Q : Hp → Prop} {p : Addr} {y : V} {x0 x1 x2 x3 : V} {x : V} {r : List V} (e : H p = some (.lst (x0 :: x1 :: x2 :: x3 :: x :: r))) (h : Q (upd H p (.lst (x0 :: x1 :: x2 :: x3 :: y :: r)))) : rSetL (.ref p) (.int 4) y H Q := ⟨p, _, 4, 4, rfl, rfl, e, ixN_lt rfl (by simp), h⟩
theorem w_set5 {H : Hp} {Q : Hp → Prop} {p : Addr} {y : V} {x0 x1 x2 x3 x4 : V} {x : V} {r : List V} (e : H p = some (.lst (x0 :: x1 :: x2 :: x3 :: x4 :: x :: r))) (h : Q (upd H p (.lst (x0 :: x1 :: x2 :: x3 :: x4 :: y :: r)))) : rSetL (.ref p) (.int 5) y H Q := ⟨p, _, 5, 5, rfl, rfl, e, ixN_lt rfl (by simp), h⟩
theorem w_set6 {H : Hp} {Q : Hp → Prop} {p : Addr} {y : V} {x0 x1 x2 x3 x4 x5 : V} {x : V} {r : List V} (e : H p = some (.lst (x0 :: x1 :: x2 :: x3 :: x4 :: x5 :: x :: r))) (h : Q (upd H p (.lst (x0 :: x1 :: x2 :: x3 :: x4 :: x5 :: y :: r)))) : rSetL (.ref p) (.int 6) y H Q := ⟨p, _, 6, 6, rfl, rfl, e, ixN_lt rfl (by simp), h⟩
theorem w_set7 {H : Hp} {Q : Hp → Prop} {p : Addr} {y : V} {x0 x1 x2 x3 x4 x5 x6 : V} {x : V} {r : List V} (e : H p = some (.lst (x0 :: x1 :: x2 :: x3 :: x4 :: x5 :: x6 :: x :: r))) (h : Q (upd H p (.lst (x0 :: x1 :: x2 :: x3 :: x4 :: x5 :: x6 :: y :: r)))) : rSetL (.ref p) (.int 7) y H Q := ⟨p, _, 7, 7, rfl, rfl, e, ixN_lt rfl (by simp), h⟩
theorem w_set8 {H : Hp} {Q : Hp → Prop} {p : Addr} {y : V} {x0 x1 x2 x3 x4 x5 x6 x7 : V} {x : V} {r : List V} (e : H p = some (.lst (x0 :: x1 :: x2 :: x3 :: x4 :: x5 :: x6 :: x7 :: x :: r))) (h : Q (upd H p (.lst (x0 :: x1 :: x2 :: x3 :: x4 :: x5 :: x6 :: x7 :: y :: r)))) : rSetL (.ref p) (.int 8) y H Q := ⟨p, _, 8, 8, rfl, rfl, e, ixN_lt rfl (by simp), h⟩
theorem w_set9 {H : Hp} {Q : Hp → Prop} {p : Addr} {y : V} {x0 x1 x2 x3 x4 x5 x6 x7 x8 : V} {x : V} {r : List V} (e : H p = some (.lst (x0 :: x1 :: x2 :: x3 :: x4 :: x5 :: x6 :: x7 :: x8 :: x :: r))) (h : Q (upd H p (.lst (x0 :: x1 :: x2 :: x3 :: x4 :: x5 :: x6 :: x7 :: x8 :: y :: r)))) : rSetL (.ref p) (.int 9) y H Q := ⟨p, _, 9, 9, rfl, rfl, e, ixN_lt rfl (by simp), h⟩
theorem w_set10 {H : Hp} {Q : Hp → Prop} {p : Addr} {y : V} {x0 x1 x2 x3 x4 x5 x6 x7 x8 x9 : V} {x : V} {r : List V} (e : H p = some (.lst (x0 :: x1 :: x2 :: x3 :: x4 :: x5 :: x6 :: x7 :: x8 :: x9 :: x :: r))) (h : Q (upd H p (.lst (x0 :: x1 :: x2 :: x3 :: x4 :: x5 :: x6 :: x7 :: x8 :: x9 :: y :: r)))) : rSetL (.ref p) (.int 10) y H Q := ⟨p, _, 10, 10, rfl, rfl, e, ixN_lt rfl (by simp), h⟩
theorem w_set11 {H : Hp} {Q : Hp → Prop} {p : Addr} {y : V} {x0 x1 x2 x3 x4 x5 x6 x7 x8 x9 x10 : V} {x : V} {r : List V} (e : H p = some (.lst (x0 :: x1 :: x2 :: x3 :: x4 :: x5 :: x6 :: x7 :: x8 :: x9 :: x10 :: x :: r))) (h : Q (upd H p (.lst (x0 :: x1 :: x2 :: x3 :: x4 :: x5 :: x6 :: x7 :: x8 :: x9 :: x10 :: y :: r)))) : rSetL (.ref p) (.int 11) y H Q := ⟨p, _, 11, 11, rfl, rfl, e, ixN_lt rfl (by simp), h⟩
theorem w_set12 {H : Hp} {Q : Hp → Prop} {p : Addr} {y : V} {x0 x1 x2 x3 x4 x5 x6 x7 x8 x9 x10 x11 : V} {x : V} {r : List V} (e : H p = some (.lst (x0 :: x1 :: x2 :: x3 :: x4 :: x5 :: x6 :: x7 :: x8 :: x9 :: x10 :: x11 :: x :: r))) (h : Q (upd H p (.lst (x0 :: x1 :: x2 :: x3 :: x4 :: x5 :: x6 :: x7 :: x8 :: x9 :: x10 :: x11 :: y :: r)))) : rSetL (.ref p) (.int 12) y H Q := ⟨p, _, 12, 12, rfl, rfl, e, ixN_lt rfl (by simp), h⟩

/-! ### a call by keywords alone, of a def that may raise -/
structure KB0 (K : PySem.W.Frag) (fd : FuncData) (ps ks : List Str) (g : {α : Type} → List α → List α) : Prop where
  to : ∀ (s : Shared) (ws : List Value), ws.length = ks.length → BindsTo s fd ⟨[], ks.zip ws⟩ (ps.zip (g ws))
  rel : ∀ {zs : List V} {ws : List Value}, Vals zs ws → zs.length = ks.length → Vals (g zs) (g ws)
def tCallKS (sp : Sp) (n : Nat) (g : {α : Type} → List α → List α) (E : L2.St → XK) (tk : TA) : TE := fun σ H Q => tk σ H fun zs H1 => zs.length = n ∧ sp (g zs) H1 Q (E σ)
section
variable {X : Cx} {CX : CXT} {k : Nat} {f : Addr} {fd : FuncData} {ps ks : List Str} {sp : Sp} {E : L2.St → XK} {x : Str} {p pos : Pos} {kws : List Keyword} {tk : TA} {g : {α : Type} → List α → List α}
theorem pe_kwS (F : FnOk X.prog X.w X.K X.mg X.base CX k f fd ps sp) (hr : Room k X.A) (hg : Gl X x) (hm : X.mg x = some (.ref f)) (hk : PySem.W.keepIn X.K (.ref f) = true) (hb : KB0 X.K fd ps ks g) (hx : ∀ σ, PassesAt CX X σ (E σ))
    (hkw : PK X kws tk) (hall : (backToKw pos (keywordEach kws X.env)).all (·.1.isSome) = true := by rfl) (hks : (backToKw pos (keywordEach kws X.env)).filterMap (·.1) = ks := by rfl)
    (hdb : (x == ("__debug__" : Str)) = false := by decide) (hpl : ((backTo pos (starEach [] X.env)).any (·.1) || (backToKw pos (keywordEach kws X.env)).any (·.1.isNone)) = false := by rfl) :
    PE X (.Call (.Name x p) [] kws pos) (tCallKS sp ks.length g E tk) := by
  refine ⟨fun pins s σ H Q I h => ?_⟩
  refine wpAny_Call_Name_kw (ld_glob I hg hm ?_ hdb)
  refine PySem.W.callWith_KW0 (h₀ := X.base) I.ok.mod.kin hk hall (thn (hkw.run pos pins s σ H _ I h) fun ws s2 ⟨zs, H2, I2, rz, hl, q2⟩ => ⟨I2.kIn, ?_⟩) hpl
  rw [hks, List.append_nil]
  have r2 := hb.rel rz hl
  refine wpAny_call (codeAny_mono (F.run X.A X.stack s2 H2 ⟨[], ks.zip ws⟩ (g ws) (g zs) Q (E σ) hr I2.env0 (hb.to s2 ws (rz.length.symm.trans hl)) r2 q2) fun r s' hq => ?_)
  cases r with
  | error e => exact hx σ pins H2 s2 e s' I2 hq
  | ok fl =>
    cases fl with
    | ret u => exact I2.after hq
    | next => exact False.elim hq
    | brk => exact False.elim hq
    | cont => exact False.elim hq
end
theorem w_kws {sp : Sp} {n : Nat} {g : {α : Type} → List α → List α} {E : L2.St → XK} {tk : TA} {σ : L2.St} {H : Hp} {Q : VK} (h : tk σ H fun zs H1 => zs.length = n ∧ sp (g zs) H1 Q (E σ)) : tCallKS sp n g E tk σ H Q := h
theorem w_callS {sp : Sp} {E : L2.St → XK} {t : TA} {σ : L2.St} {H : Hp} {Q : VK} (h : t σ H fun vs H1 => sp vs H1 Q (E σ)) : tCallS sp E t σ H Q := h
/-! ### things: a value that bears a datum; no part of it is the object at sa -/
mutual
inductive Rp (sa : Addr) (H : Hp) : V → PyData → Prop
  | non : Rp sa H .non .none
  | bl (b : Bool) : Rp sa H (.bl b) (.bool b)
  | int (i : Int) : Rp sa H (.int i) (.int i)
  | str (x : Str) : Rp sa H (.str x) (.str x)
  | lst {a : Addr} {xs : List V} {ds : List PyData} (n : a ≠ sa) (h : H a = some (.lst xs)) (r : Rps sa H xs ds) : Rp sa H (.ref a) (.list ds)
  | tup {a : Addr} {xs : List V} {ds : List PyData} (n : a ≠ sa) (h : H a = some (.tup xs)) (r : Rps sa H xs ds) : Rp sa H (.ref a) (.tuple ds)
  | dct {a : Addr} (n : a ≠ sa) (h : H a = some (.dK [])) : Rp sa H (.ref a) (.dict [])
inductive Rps (sa : Addr) (H : Hp) : List V → List PyData → Prop
  | nil : Rps sa H [] []
  | cons {v : V} {vs : List V} {d : PyData} {ds : List PyData} (h : Rp sa H v d) (t : Rps sa H vs ds) : Rps sa H (v :: vs) (d :: ds)
end
mutual
theorem Rp.but {sa : Addr} {H H' : Hp} (b : But sa H H') : ∀ {v : V} {d : PyData}, Rp sa H v d → Rp sa H' v d
  | _, _, .non => .non
  | _, _, .bl b => .bl b
  | _, _, .int i => .int i
  | _, _, .str x => .str x
  | _, _, .lst n h r => .lst n (b _ _ n h) (Rps.but b r)
  | _, _, .tup n h r => .tup n (b _ _ n h) (Rps.but b r)
  | _, _, .dct n h => .dct n (b _ _ n h)
theorem Rps.but {sa : Addr} {H H' : Hp} (b : But sa H H') : ∀ {vs : List V} {ds : List PyData}, Rps sa H vs ds → Rps sa H' vs ds
  | _, _, .nil => .nil
  | _, _, .cons h t => .cons (Rp.but b h) (Rps.but b t)
end
theorem Rp.same {sa : Addr} {H H' : Hp} {v : V} {d : PyData} (r : Rp sa H v d) (b : Same H H') : Rp sa H' v d := r.but b.but
mutual
def noDict : PyData → Bool
  | .list ds => noDicts ds
  | .tuple ds => noDicts ds
  | .dict _ => false
  | _ => true
def noDicts : List PyData → Bool
  | [] => true
  | d :: ds => noDict d && noDicts ds
end
mutual
theorem Rp.dp {K : PySem.W.Frag} {sa : Addr} {H : Hp} : ∀ {v : V} {d : PyData}, Rp sa H v d → noDict d = true → Dp K H v d
  | _, _, .non, _ => .non
  | _, _, .bl b, _ => .bl b
  | _, _, .int i, _ => .int i
  | _, _, .str x, _ => .str x
  | _, _, .lst n h r, e => .lst (SqL.of h) (Rps.dp r e)
  | _, _, .tup n h r, e => .tup (SqT.of h) (Rps.dp r e)
  | _, _, .dct n h, e => nomatch e
theorem Rps.dp {K : PySem.W.Frag} {sa : Addr} {H : Hp} : ∀ {vs : List V} {ds : List PyData}, Rps sa H vs ds → noDicts ds = true → DpAll K H vs ds
  | _, _, .nil, _ => .nil
  | _, _, .cons h t, e => .cons (Rp.dp h (by
      unfold noDicts at e
      exact (Bool.and_eq_true _ _ ▸ e).1)) (Rps.dp t (by
      unfold noDicts at e
      exact (Bool.and_eq_true _ _ ▸ e).2))
end

/-- the name of a datum's type -/
def tyD : PyData → String
  | .none => "NoneType"
  | .bool _ => "bool"
  | .int _ => "int"
  | .str _ => "str"
  | .list _ => "list"
  | .tuple _ => "tuple"
  | .dict _ => "dict"
theorem Rp.ty {K : PySem.W.Frag} {sa : Addr} {H : Hp} {v : V} {d : PyData} (r : Rp sa H v d) : TyX K H v (.type (tyD d)) := by
  cases r with
  | non => exact .base .non
  | bl b => exact .base (.bl b)
  | int i => exact .base (.int i)
  | str x => exact .base (.str x)
  | lst n h r => exact .base (.lst h)
  | tup n h r => exact .base (.tup h)
  | dct n h => exact .base (.dK h)
/-- an error of the class at S is what «except S» names -/
theorem exm_own {K : PySem.W.Frag} {S : Addr} (h1 : PySem.W.subIn K (.ref S) (.type "BaseException") = some true) (h2 : PySem.W.isClsIn K S = true) (h3 : PySem.W.typeIn K (.ref S) = some (.type "type")) (h4 : PySem.W.subIn K (.ref S) (.ref S) = some true) :
    PySem.W.exmOne K (.ref S) (.ref S) = some true := by
  have z1 : (PySem.W.subIn K (.ref S) (.type "BaseException") == some true) = true := by
    rw [h1]
    rfl
  have z2 : ((PySem.W.clsIn K S).isSome && PySem.W.typeIn K (.ref S) == some (.type "type")) = true := by
    have q : (PySem.W.clsIn K S).isSome = true := h2
    rw [q, h3]
    rfl
  show (if (PySem.W.subIn K (.ref S) (.type "BaseException") == some true) = true then PySem.W.kitCls K (.ref S) (.ref S) else none) = some true
  rw [if_pos z1]
  show (if ((PySem.W.clsIn K S).isSome && PySem.W.typeIn K (.ref S) == some (.type "type")) = true then PySem.W.subIn K (.ref S) (.ref S) else none) = some true
  rw [if_pos z2]
  exact h4
/-! ### the ground under a def: what stood stands (but for the stream), the things at hand bear their data -/
structure Wd (b : Bool) (sa : Addr) (H0 H : Hp) (vs : List V) (ds : List PyData) : Prop where
  but : But sa H0 H
  same : b = false → Same H0 H
  st : b = true → Stm H sa
  tr : ∃ o, H sa = some o
  r : Rps sa H vs ds
theorem Stm.tr {H : Hp} {a : Addr} (s : Stm H a) : ∃ o, H a = some o := by
  obtain ⟨c, p, g, n, ns, h1, _⟩ := s
  exact ⟨_, h1⟩
/-- v bears d among the things at hand -/
inductive In2 : V → PyData → List V → List PyData → Prop
  | here {v : V} {d : PyData} {vs : List V} {ds : List PyData} : In2 v d (v :: vs) (d :: ds)
  | there {v w : V} {d e : PyData} {vs : List V} {ds : List PyData} (h : In2 v d vs ds) : In2 v d (w :: vs) (e :: ds)
section
variable {b : Bool} {sa : Addr} {H0 H H' : Hp} {vs : List V} {ds : List PyData} {v : V} {d : PyData} {K : PySem.W.Frag}
theorem In2.rp (m : In2 v d vs ds) (r : Rps sa H vs ds) : Rp sa H v d := by
  induction m with
  | here => cases r with | cons h t => exact h
  | there m ih => cases r with | cons h t => exact ih t
theorem Wd.get (W : Wd b sa H0 H vs ds) (m : In2 v d vs ds) : Rp sa H v d := m.rp W.r
theorem Wd.go (W : Wd b sa H0 H vs ds) (s : Same H H') : Wd b sa H0 H' vs ds := ⟨W.but.trans s.but, fun e => (W.same e).trans s, fun e => (W.st e).keep s, (let ⟨o, e⟩ := W.tr; ⟨o, s _ _ e⟩), W.r.but s.but⟩
theorem Wd.put (W : Wd b sa H0 H vs ds) (r : Rp sa H v d) : Wd b sa H0 H (v :: vs) (d :: ds) := ⟨W.but, W.same, W.st, W.tr, .cons r W.r⟩
theorem Wd.sub (W : Wd b sa H0 H vs ds) {vs' : List V} {ds' : List PyData} (r : Rps sa H vs' ds') : Wd b sa H0 H vs' ds' := ⟨W.but, W.same, W.st, W.tr, r⟩
theorem Wd.draw (W : Wd true sa H0 H vs ds) (x : But sa H H') (s : Stm H' sa) : Wd true sa H0 H' vs ds := ⟨W.but.trans x, fun e => (nomatch e), fun _ => s, s.tr, W.r.but x⟩
theorem wd_start (t : ∃ o, H sa = some o) (r : Rps sa H vs ds) : Wd false sa H H vs ds := ⟨But.refl _ _, fun _ => Same.refl _, fun e => (nomatch e), t, r⟩
theorem wd_startS (s : Stm H sa) (r : Rps sa H vs ds) : Wd true sa H H vs ds := ⟨But.refl _ _, fun e => (nomatch e), fun _ => s, s.tr, r⟩
/-- a new object is not the stream -/
theorem Wd.ne (W : Wd b sa H0 H vs ds) {p : Addr} (h : H p = none) : p ≠ sa := by
  obtain ⟨o, e⟩ := W.tr
  exact (ne_of_none e h).symm
end
/-- what is asked of a value that bears d: scalars are known -/
def VS (d : PyData) (F : V → Prop) : Prop := match d with
  | .none => F .non
  | .bool b => F (.bl b)
  | .int i => F (.int i)
  | .str s => F (.str s)
  | .list _ => ∀ p, F (.ref p)
  | .tuple _ => ∀ p, F (.ref p)
  | .dict _ => ∀ p, F (.ref p)
theorem VS.of {sa : Addr} {H : Hp} {v : V} {d : PyData} {F : V → Prop} (h : VS d F) (r : Rp sa H v d) : F v := by
  cases r with
  | non => exact h
  | bl b => exact h
  | int i => exact h
  | str x => exact h
  | lst n e r => exact h _
  | tup n e r => exact h _
  | dct n e => exact h _
/-! ### kinds of promises -/
/-- a def without a stream: from data to a datum -/
def Pf (pre : List PyData → Prop) (fn : List PyData → PyData) : Sp := fun vs H Q _ => ∃ (sa : Addr) (ds : List PyData), (∃ o, H sa = some o) ∧ Rps sa H vs ds ∧ pre ds ∧ ∀ H' x, Same H H' → Rp sa H' x (fn ds) → Q x H'
/-- a def that draws: data in, some datum out -/
def Sf (pre : List PyData → Prop) (R : List PyData → PyData → Prop) : Sp := fun vs H Q _ => ∃ (sa : Addr) (vs' : List V) (ds : List PyData), vs = .ref sa :: vs' ∧ Stm H sa ∧ Rps sa H vs' ds ∧ pre ds ∧ ∀ H' x d, But sa H H' → Stm H' sa → Rp sa H' x d → R ds d → Q x H'
section
variable {b : Bool} {sa : Addr} {H0 H : Hp} {acc : List V} {dacc : List PyData} {Q : VK} {E : XK}
theorem call_P {pre : List PyData → Prop} {fn : List PyData → PyData} {vs : List V} {ds : List PyData} (W : Wd b sa H0 H acc dacc) (r : Rps sa H vs ds) (hp : pre ds)
    (h : ∀ H', VS (fn ds) fun x => Wd b sa H0 H' (x :: acc) (fn ds :: dacc) → Q x H') : Pf pre fn vs H Q E :=
  ⟨sa, ds, W.tr, r, hp, fun H' x s rx => (h H').of rx ((W.go s).put rx)⟩
theorem call_S {pre : List PyData → Prop} {R : List PyData → PyData → Prop} {vs : List V} {ds : List PyData} (W : Wd true sa H0 H acc dacc) (r : Rps sa H vs ds) (hp : pre ds)
    (h : ∀ H' x d, Wd true sa H0 H' (x :: acc) (d :: dacc) → R ds d → Q x H') : Sf pre R (.ref sa :: vs) H Q E :=
  ⟨sa, vs, ds, rfl, W.st rfl, r, hp, fun H' x d bb s rx hR => h H' x d ((W.draw bb s).put rx) hR⟩
/-- int(stream's digit) -/
theorem call_tk {m : Int} (W : Wd true sa H0 H acc dacc) (hm : 0 < m) (hl : m.natAbs.log2 < 9000) (h : ∀ H' (d : Int), Wd true sa H0 H' acc dacc → 0 ≤ d → d < m → Q (.int d) H') : sp_take [.ref sa, .int m] H Q E :=
  ⟨sa, m, rfl, ⟨hm, hl⟩, W.st rfl, fun H' d bb s d0 d1 => h H' d (W.draw bb s) d0 d1⟩
theorem call_wh (W : Wd true sa H0 H acc dacc) (h : ∀ H' (n : Int), Wd true sa H0 H' acc dacc → n.natAbs < 1000000000000000000000000000000000000000 → Q (.int n) H') : sp_whole [.ref sa] H Q E :=
  ⟨sa, rfl, W.st rfl, fun H' d bb s d0 => h H' d (W.draw bb s) d0⟩
/-! ### new tuples, lists, dicts -/
def NT (Q : VK) (xs : List V) (H : Hp) : Prop := xs.length ≤ sizeLine ∧ ∀ p, H p = none → Q (.ref p) (upd H p (.tup xs))
def NL (Q : VK) (xs : List V) (H : Hp) : Prop := xs.length ≤ sizeLine ∧ ∀ p, H p = none → Q (.ref p) (upd H p (.lst xs))
def ND (Q : VK) (H : Hp) : Prop := ∀ p, H p = none → Q (.ref p) (upd H p (.dK []))
theorem w_tupN {tt : TA} {σ : L2.St} (h : tt σ H fun xs H1 => NT Q xs H1) : tTup tt σ H Q := h
theorem w_lstN {tt : TA} {σ : L2.St} (h : tt σ H fun xs H1 => NL Q xs H1) : tLst tt σ H Q := h
theorem nt_mk {xs : List V} (h : ∀ p, H p = none → Q (.ref p) (upd H p (.tup xs))) (hl : xs.length.ble 1000 = true := by rfl) : NT Q xs H := w_new h hl
theorem nl_mk {xs : List V} (h : ∀ p, H p = none → Q (.ref p) (upd H p (.lst xs))) (hl : xs.length.ble 1000 = true := by rfl) : NL Q xs H := w_new h hl
theorem n_tup {xs : List V} {ds : List PyData} (W : Wd b sa H0 H acc dacc) (r : Rps sa H xs ds) (hl : xs.length.ble 1000 = true) (h : ∀ H' p, Wd b sa H0 H' (.ref p :: acc) (.tuple ds :: dacc) → Q (.ref p) H') : NT Q xs H :=
  ⟨Nat.le_of_lt (small1000 (Nat.le_of_ble_eq_true hl)), fun p np => h _ p ((W.go (same_new np)).put (.tup (W.ne np) upd_same (r.but (same_new np).but)))⟩
theorem n_lst {xs : List V} {ds : List PyData} (W : Wd b sa H0 H acc dacc) (r : Rps sa H xs ds) (hl : xs.length.ble 1000 = true) (h : ∀ H' p, Wd b sa H0 H' (.ref p :: acc) (.list ds :: dacc) → Q (.ref p) H') : NL Q xs H :=
  ⟨Nat.le_of_lt (small1000 (Nat.le_of_ble_eq_true hl)), fun p np => h _ p ((W.go (same_new np)).put (.lst (W.ne np) upd_same (r.but (same_new np).but)))⟩
theorem n_dct (W : Wd b sa H0 H acc dacc) (h : ∀ H' p, Wd b sa H0 H' (.ref p :: acc) (.dict [] :: dacc) → Q (.ref p) H') : ND Q H :=
  fun p np => h _ p ((W.go (same_new np)).put (.dct (W.ne np) upd_same))
/-! ### reading an item of a thing -/
theorem rps_at {vs : List V} {ds : List PyData} {j : Nat} {d : PyData} (r : Rps sa H vs ds) (e : ds[j]? = some d) : ∃ v, vs[j]? = some v ∧ Rp sa H v d := by
  induction ds generalizing vs j with
  | nil => simp at e
  | cons d0 ds ih =>
    cases r with
    | cons h t =>
      cases j with
      | zero =>
        simp at e
        subst e
        exact ⟨_, rfl, h⟩
      | succ j =>
        simp at e
        obtain ⟨v, e1, r1⟩ := ih t e
        exact ⟨v, by simpa using e1, r1⟩
theorem x_tup {K : PySem.W.Frag} {p : Addr} {ds : List PyData} {j : Nat} {d : PyData} {i : Int} (W : Wd b sa H0 H acc dacc) (m : In2 (.ref p) (.tuple ds) acc dacc) (hi : i = (j : Int)) (e : ds[j]? = some d)
    (h : VS d fun x => Wd b sa H0 H (x :: acc) (d :: dacc) → Q x H) : rIxT K (.ref p) (.int i) H Q := by
  subst hi
  cases W.get m with
  | @tup _ xs _ n hx r =>
    obtain ⟨v, e1, r1⟩ := rps_at r e
    exact ⟨p, xs, j, v, rfl, rfl, SqT.of hx, atI_nat e1, h.of r1 (W.put r1)⟩
theorem x_lst {K : PySem.W.Frag} {p : Addr} {ds : List PyData} {j : Nat} {d : PyData} {i : Int} (W : Wd b sa H0 H acc dacc) (m : In2 (.ref p) (.list ds) acc dacc) (hi : i = (j : Int)) (e : ds[j]? = some d)
    (h : VS d fun x => Wd b sa H0 H (x :: acc) (d :: dacc) → Q x H) : rIxL K (.ref p) (.int i) H Q := by
  subst hi
  cases W.get m with
  | @lst _ xs _ n hx r =>
    obtain ⟨v, e1, r1⟩ := rps_at r e
    exact ⟨p, xs, j, v, rfl, rfl, SqL.of hx, atI_nat e1, h.of r1 (W.put r1)⟩
theorem Rps.app {vs ws : List V} {ds es : List PyData} (r : Rps sa H vs ds) (t : Rps sa H ws es) : Rps sa H (vs ++ ws) (ds ++ es) := by
  induction ds generalizing vs with
  | nil => cases r; exact t
  | cons d ds ih =>
    cases r with
    | cons h k => exact .cons h (ih k)
/-- an item at a place that is not known -/
theorem x_some {K : PySem.W.Frag} {p : Addr} {ds : List PyData} {i : Int} (W : Wd b sa H0 H acc dacc) (m : In2 (.ref p) (.list ds) acc dacc) (h0 : 0 ≤ i) (h1 : i < (ds.length : Int))
    (h : ∀ x d, d ∈ ds → Wd b sa H0 H (x :: acc) (d :: dacc) → Q x H) : rIxL K (.ref p) (.int i) H Q := by
  obtain ⟨j, rfl⟩ := Int.eq_ofNat_of_zero_le h0
  have hj : j < ds.length := by omega
  cases W.get m with
  | @lst _ xs _ n hx r =>
    obtain ⟨v, e1, r1⟩ := rps_at r (List.getElem?_eq_getElem hj)
    exact ⟨p, xs, j, v, rfl, rfl, SqL.of hx, atI_nat e1, h v _ (List.getElem_mem hj) (W.put r1)⟩
theorem Rps.lens {vs : List V} {ds : List PyData} (r : Rps sa H vs ds) : vs.length = ds.length := by
  induction ds generalizing vs with
  | nil => cases r; rfl
  | cons d ds ih =>
    cases r with
    | cons h t => exact congrArg (· + 1) (ih t)
theorem l_lst {K : PySem.W.Frag} {p : Addr} {ds : List PyData} (W : Wd b sa H0 H acc dacc) (m : In2 (.ref p) (.list ds) acc dacc) (h : Q (.int (ds.length : Int)) H) : rLenQ K [.ref p] H Q := by
  cases W.get m with
  | @lst _ xs _ n hx r => exact ⟨p, xs, rfl, .inl (SqL.of hx), by rw [r.lens]; exact h⟩
theorem l_tup {K : PySem.W.Frag} {p : Addr} {ds : List PyData} (W : Wd b sa H0 H acc dacc) (m : In2 (.ref p) (.tuple ds) acc dacc) (h : Q (.int (ds.length : Int)) H) : rLenQ K [.ref p] H Q := by
  cases W.get m with
  | @tup _ xs _ n hx r => exact ⟨p, xs, rfl, .inr (SqT.of hx), by rw [r.lens]; exact h⟩

/-- a list that stands: lists of the call's own, joined -/
theorem w_catL {p q : Addr} {ds es : List PyData} (W : Wd b sa H0 H acc dacc) (m : In2 (.ref p) (.list ds) acc dacc) (n : In2 (.ref q) (.list es) acc dacc) (hl : (ds.length + es.length).ble 1000 = true)
    (h : ∀ H' p, Wd b sa H0 H' (.ref p :: acc) (.list (ds ++ es) :: dacc) → Q (.ref p) H') : rCat (.ref p) (.ref q) H Q := by
  cases W.get m with
  | @lst _ xs _ n1 hx r =>
    cases W.get n with
    | @lst _ ys _ n2 hy r2 =>
      refine ⟨p, q, xs, ys, rfl, rfl, hx, hy, ?_, fun p' np => ?_⟩
      · rw [r.lens, r2.lens]
        exact Nat.le_of_lt (small1000 (Nat.le_of_ble_eq_true hl))
      · exact h _ p' ((W.go (same_new np)).put (.lst (W.ne np) upd_same ((r.app r2).but (same_new np).but)))
end

section
variable {b : Bool} {sa : Addr} {H0 H : Hp} {acc : List V} {dacc : List PyData} {Q : VK} {E : XK}
theorem w_call0 {sp : Sp} {tt : TA} {σ : L2.St} (h : tt σ H fun vs H1 => sp vs H1 Q E) : tCall sp [] E tt σ H Q := by
  show tt σ H fun vs H1 => sp (vs ++ []) H1 Q E
  have e : (fun (vs : List V) (H1 : Hp) => sp (vs ++ []) H1 Q E) = fun vs H1 => sp vs H1 Q E := by
    funext vs H1
    rw [List.append_nil]
  rw [e]
  exact h
theorem v_non {F : V → Prop} (h : F .non) : VS .none F := h
theorem v_bl {F : V → Prop} {x : Bool} (h : F (.bl x)) : VS (.bool x) F := h
theorem v_int {F : V → Prop} {x : Int} (h : F (.int x)) : VS (.int x) F := h
theorem v_str {F : V → Prop} {x : Str} (h : F (.str x)) : VS (.str x) F := h
theorem v_tup {F : V → Prop} {x : List PyData} (h : ∀ p, F (.ref p)) : VS (.tuple x) F := h
theorem v_lst {F : V → Prop} {x : List PyData} (h : ∀ p, F (.ref p)) : VS (.list x) F := h
theorem v_dct {F : V → Prop} {x : List (PyData × PyData)} (h : ∀ p, F (.ref p)) : VS (.dict x) F := h
theorem w_newD {Q : VK} {σ : L2.St} (h : ND Q H) : tDNewK σ H Q := h
theorem x_T0 {K : PySem.W.Frag} {p : Addr} {d : PyData} {r : List PyData} (W : Wd b sa H0 H acc dacc) (m : In2 (.ref p) (.tuple (d :: r)) acc dacc) (h : VS d fun x => Wd b sa H0 H (x :: acc) (d :: dacc) → Q x H) : rIxT K (.ref p) (.int 0) H Q := x_tup (j := 0) W m rfl rfl h
theorem x_T0i {K : PySem.W.Frag} {p : Addr} {n : Int} {r : List PyData} (W : Wd b sa H0 H acc dacc) (m : In2 (.ref p) (.tuple (.int n :: r)) acc dacc) (h : Q (.int n) H) : rIxT K (.ref p) (.int 0) H Q := x_tup (j := 0) W m rfl rfl (v_int fun _ => h)
theorem x_L0 {K : PySem.W.Frag} {p : Addr} {d : PyData} {r : List PyData} (W : Wd b sa H0 H acc dacc) (m : In2 (.ref p) (.list (d :: r)) acc dacc) (h : VS d fun x => Wd b sa H0 H (x :: acc) (d :: dacc) → Q x H) : rIxL K (.ref p) (.int 0) H Q := x_lst (j := 0) W m rfl rfl h
theorem x_L0i {K : PySem.W.Frag} {p : Addr} {n : Int} {r : List PyData} (W : Wd b sa H0 H acc dacc) (m : In2 (.ref p) (.list (.int n :: r)) acc dacc) (h : Q (.int n) H) : rIxL K (.ref p) (.int 0) H Q := x_lst (j := 0) W m rfl rfl (v_int fun _ => h)
theorem x_T1 {K : PySem.W.Frag} {p : Addr} {d0 : PyData} {d : PyData} {r : List PyData} (W : Wd b sa H0 H acc dacc) (m : In2 (.ref p) (.tuple (d0 :: d :: r)) acc dacc) (h : VS d fun x => Wd b sa H0 H (x :: acc) (d :: dacc) → Q x H) : rIxT K (.ref p) (.int 1) H Q := x_tup (j := 1) W m rfl rfl h
theorem x_T1i {K : PySem.W.Frag} {p : Addr} {d0 : PyData} {n : Int} {r : List PyData} (W : Wd b sa H0 H acc dacc) (m : In2 (.ref p) (.tuple (d0 :: .int n :: r)) acc dacc) (h : Q (.int n) H) : rIxT K (.ref p) (.int 1) H Q := x_tup (j := 1) W m rfl rfl (v_int fun _ => h)
theorem x_L1 {K : PySem.W.Frag} {p : Addr} {d0 : PyData} {d : PyData} {r : List PyData} (W : Wd b sa H0 H acc dacc) (m : In2 (.ref p) (.list (d0 :: d :: r)) acc dacc) (h : VS d fun x => Wd b sa H0 H (x :: acc) (d :: dacc) → Q x H) : rIxL K (.ref p) (.int 1) H Q := x_lst (j := 1) W m rfl rfl h
theorem x_L1i {K : PySem.W.Frag} {p : Addr} {d0 : PyData} {n : Int} {r : List PyData} (W : Wd b sa H0 H acc dacc) (m : In2 (.ref p) (.list (d0 :: .int n :: r)) acc dacc) (h : Q (.int n) H) : rIxL K (.ref p) (.int 1) H Q := x_lst (j := 1) W m rfl rfl (v_int fun _ => h)
theorem x_T2 {K : PySem.W.Frag} {p : Addr} {d0 d1 : PyData} {d : PyData} {r : List PyData} (W : Wd b sa H0 H acc dacc) (m : In2 (.ref p) (.tuple (d0 :: d1 :: d :: r)) acc dacc) (h : VS d fun x => Wd b sa H0 H (x :: acc) (d :: dacc) → Q x H) : rIxT K (.ref p) (.int 2) H Q := x_tup (j := 2) W m rfl rfl h
theorem x_T2i {K : PySem.W.Frag} {p : Addr} {d0 d1 : PyData} {n : Int} {r : List PyData} (W : Wd b sa H0 H acc dacc) (m : In2 (.ref p) (.tuple (d0 :: d1 :: .int n :: r)) acc dacc) (h : Q (.int n) H) : rIxT K (.ref p) (.int 2) H Q := x_tup (j := 2) W m rfl rfl (v_int fun _ => h)
theorem x_L2 {K : PySem.W.Frag} {p : Addr} {d0 d1 : PyData} {d : PyData} {r : List PyData} (W : Wd b sa H0 H acc dacc) (m : In2 (.ref p) (.list (d0 :: d1 :: d :: r)) acc dacc) (h : VS d fun x => Wd b sa H0 H (x :: acc) (d :: dacc) → Q x H) : rIxL K (.ref p) (.int 2) H Q := x_lst (j := 2) W m rfl rfl h
theorem x_L2i {K : PySem.W.Frag} {p : Addr} {d0 d1 : PyData} {n : Int} {r : List PyData} (W : Wd b sa H0 H acc dacc) (m : In2 (.ref p) (.list (d0 :: d1 :: .int n :: r)) acc dacc) (h : Q (.int n) H) : rIxL K (.ref p) (.int 2) H Q := x_lst (j := 2) W m rfl rfl (v_int fun _ => h)
theorem x_T3 {K : PySem.W.Frag} {p : Addr} {d0 d1 d2 : PyData} {d : PyData} {r : List PyData} (W : Wd b sa H0 H acc dacc) (m : In2 (.ref p) (.tuple (d0 :: d1 :: d2 :: d :: r)) acc dacc) (h : VS d fun x => Wd b sa H0 H (x :: acc) (d :: dacc) → Q x H) : rIxT K (.ref p) (.int 3) H Q := x_tup (j := 3) W m rfl rfl h
theorem x_T3i {K : PySem.W.Frag} {p : Addr} {d0 d1 d2 : PyData} {n : Int} {r : List PyData} (W : Wd b sa H0 H acc dacc) (m : In2 (.ref p) (.tuple (d0 :: d1 :: d2 :: .int n :: r)) acc dacc) (h : Q (.int n) H) : rIxT K (.ref p) (.int 3) H Q := x_tup (j := 3) W m rfl rfl (v_int fun _ => h)
theorem x_L3 {K : PySem.W.Frag} {p : Addr} {d0 d1 d2 : PyData} {d : PyData} {r : List PyData} (W : Wd b sa H0 H acc dacc) (m : In2 (.ref p) (.list (d0 :: d1 :: d2 :: d :: r)) acc dacc) (h : VS d fun x => Wd b sa H0 H (x :: acc) (d :: dacc) → Q x H) : rIxL K (.ref p) (.int 3) H Q := x_lst (j := 3) W m rfl rfl h
theorem x_L3i {K : PySem.W.Frag} {p : Addr} {d0 d1 d2 : PyData} {n : Int} {r : List PyData} (W : Wd b sa H0 H acc dacc) (m : In2 (.ref p) (.list (d0 :: d1 :: d2 :: .int n :: r)) acc dacc) (h : Q (.int n) H) : rIxL K (.ref p) (.int 3) H Q := x_lst (j := 3) W m rfl rfl (v_int fun _ => h)
theorem x_T4 {K : PySem.W.Frag} {p : Addr} {d0 d1 d2 d3 : PyData} {d : PyData} {r : List PyData} (W : Wd b sa H0 H acc dacc) (m : In2 (.ref p) (.tuple (d0 :: d1 :: d2 :: d3 :: d :: r)) acc dacc) (h : VS d fun x => Wd b sa H0 H (x :: acc) (d :: dacc) → Q x H) : rIxT K (.ref p) (.int 4) H Q := x_tup (j := 4) W m rfl rfl h
theorem x_T4i {K : PySem.W.Frag} {p : Addr} {d0 d1 d2 d3 : PyData} {n : Int} {r : List PyData} (W : Wd b sa H0 H acc dacc) (m : In2 (.ref p) (.tuple (d0 :: d1 :: d2 :: d3 :: .int n :: r)) acc dacc) (h : Q (.int n) H) : rIxT K (.ref p) (.int 4) H Q := x_tup (j := 4) W m rfl rfl (v_int fun _ => h)
theorem x_L4 {K : PySem.W.Frag} {p : Addr} {d0 d1 d2 d3 : PyData} {d : PyData} {r : List PyData} (W : Wd b sa H0 H acc dacc) (m : In2 (.ref p) (.list (d0 :: d1 :: d2 :: d3 :: d :: r)) acc dacc) (h : VS d fun x => Wd b sa H0 H (x :: acc) (d :: dacc) → Q x H) : rIxL K (.ref p) (.int 4) H Q := x_lst (j := 4) W m rfl rfl h
theorem x_L4i {K : PySem.W.Frag} {p : Addr} {d0 d1 d2 d3 : PyData} {n : Int} {r : List PyData} (W : Wd b sa H0 H acc dacc) (m : In2 (.ref p) (.list (d0 :: d1 :: d2 :: d3 :: .int n :: r)) acc dacc) (h : Q (.int n) H) : rIxL K (.ref p) (.int 4) H Q := x_lst (j := 4) W m rfl rfl (v_int fun _ => h)
theorem x_T5 {K : PySem.W.Frag} {p : Addr} {d0 d1 d2 d3 d4 : PyData} {d : PyData} {r : List PyData} (W : Wd b sa H0 H acc dacc) (m : In2 (.ref p) (.tuple (d0 :: d1 :: d2 :: d3 :: d4 :: d :: r)) acc dacc) (h : VS d fun x => Wd b sa H0 H (x :: acc) (d :: dacc) → Q x H) : rIxT K (.ref p) (.int 5) H Q := x_tup (j := 5) W m rfl rfl h
theorem x_T5i {K : PySem.W.Frag} {p : Addr} {d0 d1 d2 d3 d4 : PyData} {n : Int} {r : List PyData} (W : Wd b sa H0 H acc dacc) (m : In2 (.ref p) (.tuple (d0 :: d1 :: d2 :: d3 :: d4 :: .int n :: r)) acc dacc) (h : Q (.int n) H) : rIxT K (.ref p) (.int 5) H Q := x_tup (j := 5) W m rfl rfl (v_int fun _ => h)
theorem x_L5 {K : PySem.W.Frag} {p : Addr} {d0 d1 d2 d3 d4 : PyData} {d : PyData} {r : List PyData} (W : Wd b sa H0 H acc dacc) (m : In2 (.ref p) (.list (d0 :: d1 :: d2 :: d3 :: d4 :: d :: r)) acc dacc) (h : VS d fun x => Wd b sa H0 H (x :: acc) (d :: dacc) → Q x H) : rIxL K (.ref p) (.int 5) H Q := x_lst (j := 5) W m rfl rfl h
theorem x_L5i {K : PySem.W.Frag} {p : Addr} {d0 d1 d2 d3 d4 : PyData} {n : Int} {r : List PyData} (W : Wd b sa H0 H acc dacc) (m : In2 (.ref p) (.list (d0 :: d1 :: d2 :: d3 :: d4 :: .int n :: r)) acc dacc) (h : Q (.int n) H) : rIxL K (.ref p) (.int 5) H Q := x_lst (j := 5) W m rfl rfl (v_int fun _ => h)
theorem x_T6 {K : PySem.W.Frag} {p : Addr} {d0 d1 d2 d3 d4 d5 : PyData} {d : PyData} {r : List PyData} (W : Wd b sa H0 H acc dacc) (m : In2 (.ref p) (.tuple (d0 :: d1 :: d2 :: d3 :: d4 :: d5 :: d :: r)) acc dacc) (h : VS d fun x => Wd b sa H0 H (x :: acc) (d :: dacc) → Q x H) : rIxT K (.ref p) (.int 6) H Q := x_tup (j := 6) W m rfl rfl h
theorem x_T6i {K : PySem.W.Frag} {p : Addr} {d0 d1 d2 d3 d4 d5 : PyData} {n : Int} {r : List PyData} (W : Wd b sa H0 H acc dacc) (m : In2 (.ref p) (.tuple (d0 :: d1 :: d2 :: d3 :: d4 :: d5 :: .int n :: r)) acc dacc) (h : Q (.int n) H) : rIxT K (.ref p) (.int 6) H Q := x_tup (j := 6) W m rfl rfl (v_int fun _ => h)
theorem x_L6 {K : PySem.W.Frag} {p : Addr} {d0 d1 d2 d3 d4 d5 : PyData} {d : PyData} {r : List PyData} (W : Wd b sa H0 H acc dacc) (m : In2 (.ref p) (.list (d0 :: d1 :: d2 :: d3 :: d4 :: d5 :: d :: r)) acc dacc) (h : VS d fun x => Wd b sa H0 H (x :: acc) (d :: dacc) → Q x H) : rIxL K (.ref p) (.int 6) H Q := x_lst (j := 6) W m rfl rfl h
theorem x_L6i {K : PySem.W.Frag} {p : Addr} {d0 d1 d2 d3 d4 d5 : PyData} {n : Int} {r : List PyData} (W : Wd b sa H0 H acc dacc) (m : In2 (.ref p) (.list (d0 :: d1 :: d2 :: d3 :: d4 :: d5 :: .int n :: r)) acc dacc) (h : Q (.int n) H) : rIxL K (.ref p) (.int 6) H Q := x_lst (j := 6) W m rfl rfl (v_int fun _ => h)
theorem x_T7 {K : PySem.W.Frag} {p : Addr} {d0 d1 d2 d3 d4 d5 d6 : PyData} {d : PyData} {r : List PyData} (W : Wd b sa H0 H acc dacc) (m : In2 (.ref p) (.tuple (d0 :: d1 :: d2 :: d3 :: d4 :: d5 :: d6 :: d :: r)) acc dacc) (h : VS d fun x => Wd b sa H0 H (x :: acc) (d :: dacc) → Q x H) : rIxT K (.ref p) (.int 7) H Q := x_tup (j := 7) W m rfl rfl h
theorem x_T7i {K : PySem.W.Frag} {p : Addr} {d0 d1 d2 d3 d4 d5 d6 : PyData} {n : Int} {r : List PyData} (W : Wd b sa H0 H acc dacc) (m : In2 (.ref p) (.tuple (d0 :: d1 :: d2 :: d3 :: d4 :: d5 :: d6 :: .int n :: r)) acc dacc) (h : Q (.int n) H) : rIxT K (.ref p) (.int 7) H Q := x_tup (j := 7) W m rfl rfl (v_int fun _ => h)
theorem x_L7 {K : PySem.W.Frag} {p : Addr} {d0 d1 d2 d3 d4 d5 d6 : PyData} {d : PyData} {r : List PyData} (W : Wd b sa H0 H acc dacc) (m : In2 (.ref p) (.list (d0 :: d1 :: d2 :: d3 :: d4 :: d5 :: d6 :: d :: r)) acc dacc) (h : VS d fun x => Wd b sa H0 H (x :: acc) (d :: dacc) → Q x H) : rIxL K (.ref p) (.int 7) H Q := x_lst (j := 7) W m rfl rfl h
theorem x_L7i {K : PySem.W.Frag} {p : Addr} {d0 d1 d2 d3 d4 d5 d6 : PyData} {n : Int} {r : List PyData} (W : Wd b sa H0 H acc dacc) (m : In2 (.ref p) (.list (d0 :: d1 :: d2 :: d3 :: d4 :: d5 :: d6 :: .int n :: r)) acc dacc) (h : Q (.int n) H) : rIxL K (.ref p) (.int 7) H Q := x_lst (j := 7) W m rfl rfl (v_int fun _ => h)
theorem x_T8 {K : PySem.W.Frag} {p : Addr} {d0 d1 d2 d3 d4 d5 d6 d7 : PyData} {d : PyData} {r : List PyData} (W : Wd b sa H0 H acc dacc) (m : In2 (.ref p) (.tuple (d0 :: d1 :: d2 :: d3 :: d4 :: d5 :: d6 :: d7 :: d :: r)) acc dacc) (h : VS d fun x => Wd b sa H0 H (x :: acc) (d :: dacc) → Q x H) : rIxT K (.ref p) (.int 8) H Q := x_tup (j := 8) W m rfl rfl h
theorem x_T8i {K : PySem.W.Frag} {p : Addr} {d0 d1 d2 d3 d4 d5 d6 d7 : PyData} {n : Int} {r : List PyData} (W : Wd b sa H0 H acc dacc) (m : In2 (.ref p) (.tuple (d0 :: d1 :: d2 :: d3 :: d4 :: d5 :: d6 :: d7 :: .int n :: r)) acc dacc) (h : Q (.int n) H) : rIxT K (.ref p) (.int 8) H Q := x_tup (j := 8) W m rfl rfl (v_int fun _ => h)
theorem x_L8 {K : PySem.W.Frag} {p : Addr} {d0 d1 d2 d3 d4 d5 d6 d7 : PyData} {d : PyData} {r : List PyData} (W : Wd b sa H0 H acc dacc) (m : In2 (.ref p) (.list (d0 :: d1 :: d2 :: d3 :: d4 :: d5 :: d6 :: d7 :: d :: r)) acc dacc) (h : VS d fun x => Wd b sa H0 H (x :: acc) (d :: dacc) → Q x H) : rIxL K (.ref p) (.int 8) H Q := x_lst (j := 8) W m rfl rfl h
theorem x_L8i {K : PySem.W.Frag} {p : Addr} {d0 d1 d2 d3 d4 d5 d6 d7 : PyData} {n : Int} {r : List PyData} (W : Wd b sa H0 H acc dacc) (m : In2 (.ref p) (.list (d0 :: d1 :: d2 :: d3 :: d4 :: d5 :: d6 :: d7 :: .int n :: r)) acc dacc) (h : Q (.int n) H) : rIxL K (.ref p) (.int 8) H Q := x_lst (j := 8) W m rfl rfl (v_int fun _ => h)
end
theorem rps1 {sa : Addr} {H : Hp} {vs : List V} {d0 : PyData} (r : Rps sa H vs [d0]) : ∃ x0, vs = [x0] ∧ Rp sa H x0 d0 := by
  cases r with | cons h0 t0 =>
  cases t0
  exact ⟨_, rfl, h0⟩
theorem rps2 {sa : Addr} {H : Hp} {vs : List V} {d0 d1 : PyData} (r : Rps sa H vs [d0, d1]) : ∃ x0 x1, vs = [x0, x1] ∧ Rp sa H x0 d0 ∧ Rp sa H x1 d1 := by
  cases r with | cons h0 t0 =>
  cases t0 with | cons h1 t1 =>
  cases t1
  exact ⟨_, _, rfl, h0, h1⟩
theorem rps3 {sa : Addr} {H : Hp} {vs : List V} {d0 d1 d2 : PyData} (r : Rps sa H vs [d0, d1, d2]) : ∃ x0 x1 x2, vs = [x0, x1, x2] ∧ Rp sa H x0 d0 ∧ Rp sa H x1 d1 ∧ Rp sa H x2 d2 := by
  cases r with | cons h0 t0 =>
  cases t0 with | cons h1 t1 =>
  cases t1 with | cons h2 t2 =>
  cases t2
  exact ⟨_, _, _, rfl, h0, h1, h2⟩
theorem rps4 {sa : Addr} {H : Hp} {vs : List V} {d0 d1 d2 d3 : PyData} (r : Rps sa H vs [d0, d1, d2, d3]) : ∃ x0 x1 x2 x3, vs = [x0, x1, x2, x3] ∧ Rp sa H x0 d0 ∧ Rp sa H x1 d1 ∧ Rp sa H x2 d2 ∧ Rp sa H x3 d3 := by
  cases r with | cons h0 t0 =>
  cases t0 with | cons h1 t1 =>
  cases t1 with | cons h2 t2 =>
  cases t2 with | cons h3 t3 =>
  cases t3
  exact ⟨_, _, _, _, rfl, h0, h1, h2, h3⟩
theorem rps5 {sa : Addr} {H : Hp} {vs : List V} {d0 d1 d2 d3 d4 : PyData} (r : Rps sa H vs [d0, d1, d2, d3, d4]) : ∃ x0 x1 x2 x3 x4, vs = [x0, x1, x2, x3, x4] ∧ Rp sa H x0 d0 ∧ Rp sa H x1 d1 ∧ Rp sa H x2 d2 ∧ Rp sa H x3 d3 ∧ Rp sa H x4 d4 := by
  cases r with | cons h0 t0 =>
  cases t0 with | cons h1 t1 =>
  cases t1 with | cons h2 t2 =>
  cases t2 with | cons h3 t3 =>
  cases t3 with | cons h4 t4 =>
  cases t4
  exact ⟨_, _, _, _, _, rfl, h0, h1, h2, h3, h4⟩
theorem rps6 {sa : Addr} {H : Hp} {vs : List V} {d0 d1 d2 d3 d4 d5 : PyData} (r : Rps sa H vs [d0, d1, d2, d3, d4, d5]) : ∃ x0 x1 x2 x3 x4 x5, vs = [x0, x1, x2, x3, x4, x5] ∧ Rp sa H x0 d0 ∧ Rp sa H x1 d1 ∧ Rp sa H x2 d2 ∧ Rp sa H x3 d3 ∧ Rp sa H x4 d4 ∧ Rp sa H x5 d5 := by
  cases r with | cons h0 t0 =>
  cases t0 with | cons h1 t1 =>
  cases t1 with | cons h2 t2 =>
  cases t2 with | cons h3 t3 =>
  cases t3 with | cons h4 t4 =>
  cases t4 with | cons h5 t5 =>
  cases t5
  exact ⟨_, _, _, _, _, _, rfl, h0, h1, h2, h3, h4, h5⟩
theorem rps7 {sa : Addr} {H : Hp} {vs : List V} {d0 d1 d2 d3 d4 d5 d6 : PyData} (r : Rps sa H vs [d0, d1, d2, d3, d4, d5, d6]) : ∃ x0 x1 x2 x3 x4 x5 x6, vs = [x0, x1, x2, x3, x4, x5, x6] ∧ Rp sa H x0 d0 ∧ Rp sa H x1 d1 ∧ Rp sa H x2 d2 ∧ Rp sa H x3 d3 ∧ Rp sa H x4 d4 ∧ Rp sa H x5 d5 ∧ Rp sa H x6 d6 := by
  cases r with | cons h0 t0 =>
  cases t0 with | cons h1 t1 =>
  cases t1 with | cons h2 t2 =>
  cases t2 with | cons h3 t3 =>
  cases t3 with | cons h4 t4 =>
  cases t4 with | cons h5 t5 =>
  cases t5 with | cons h6 t6 =>
  cases t6
  exact ⟨_, _, _, _, _, _, _, rfl, h0, h1, h2, h3, h4, h5, h6⟩
theorem rps8 {sa : Addr} {H : Hp} {vs : List V} {d0 d1 d2 d3 d4 d5 d6 d7 : PyData} (r : Rps sa H vs [d0, d1, d2, d3, d4, d5, d6, d7]) : ∃ x0 x1 x2 x3 x4 x5 x6 x7, vs = [x0, x1, x2, x3, x4, x5, x6, x7] ∧ Rp sa H x0 d0 ∧ Rp sa H x1 d1 ∧ Rp sa H x2 d2 ∧ Rp sa H x3 d3 ∧ Rp sa H x4 d4 ∧ Rp sa H x5 d5 ∧ Rp sa H x6 d6 ∧ Rp sa H x7 d7 := by
  cases r with | cons h0 t0 =>
  cases t0 with | cons h1 t1 =>
  cases t1 with | cons h2 t2 =>
  cases t2 with | cons h3 t3 =>
  cases t3 with | cons h4 t4 =>
  cases t4 with | cons h5 t5 =>
  cases t5 with | cons h6 t6 =>
  cases t6 with | cons h7 t7 =>
  cases t7
  exact ⟨_, _, _, _, _, _, _, _, rfl, h0, h1, h2, h3, h4, h5, h6, h7⟩
theorem v_any {F : V → Prop} {d : PyData} (h : ∀ x, F x) : VS d F := by
  cases d <;> first | exact h _ | exact fun p => h _
theorem iteT' {A B : Prop} (h : A) : if true = true then A else B := iteT h
theorem iteF' {A B : Prop} (h : B) : if false = true then A else B := iteF h
/-- a def that raises, for some data, an error of the class at C, and else hands back a datum -/
def Px (C : Addr) (pre : List PyData → Prop) (bad : List PyData → Bool) (fn : List PyData → PyData) : Sp := fun vs H Q E => ∃ (sa : Addr) (ds : List PyData), (∃ o, H sa = some o) ∧ Rps sa H vs ds ∧ pre ds ∧
  (bad ds = true → ∀ H', Same H H' → E (.ref C) none H') ∧ (bad ds = false → ∀ H' x, Same H H' → Rp sa H' x (fn ds) → Q x H')
theorem call_X {b : Bool} {sa : Addr} {H0 H : Hp} {acc : List V} {dacc : List PyData} {Q : VK} {E : XK} {C : Addr} {pre : List PyData → Prop} {bad : List PyData → Bool} {fn : List PyData → PyData} {vs : List V} {ds : List PyData} (W : Wd b sa H0 H acc dacc) (r : Rps sa H vs ds) (hp : pre ds)
    (h1 : bad ds = true → ∀ H', Wd b sa H0 H' acc dacc → E (.ref C) none H') (h2 : bad ds = false → ∀ H', VS (fn ds) fun x => Wd b sa H0 H' (x :: acc) (fn ds :: dacc) → Q x H') : Px C pre bad fn vs H Q E :=
  ⟨sa, ds, W.tr, r, hp, fun e H' s => h1 e H' (W.go s), fun e H' x s rx => (h2 e H').of rx ((W.go s).put rx)⟩
/-! ### loops -/
def LoopG (J : It) (g : TG) (tb : TS) (D : Ends) (σ : L2.St) (H : Hp) : Prop := ∃ W : Nat → Nat → L2.St → Hp → Prop, (∃ m, W 0 m σ H) ∧ ∀ i m σ H, W i m σ H →
  (J.stop i H ∧ D.nx σ H) ∨ (J.go i H ∧ ∃ N : L2.St → Hp → Prop, (∀ σ' H', N σ' H' → ∃ m', m' < m ∧ W (i + 1) m' σ' H') ∧ ∀ x H', J.yld i H x H' → g x σ H' fun σ2 H2 => tb { D with nx := N, ct := N, bk := D.nx } σ2 H2)
def Rng1G (vs : List V) (H : Hp) (R : It → Hp → Prop) : Prop := ∃ j : Int, vs = [.int j] ∧ -(2 ^ 62) ≤ j ∧ j < 2 ^ 62 ∧ R (Itr 0 j.toNat) H
def Rng2G (vs : List V) (H : Hp) (R : It → Hp → Prop) : Prop := ∃ i j : Int, vs = [.int i, .int j] ∧ (-(2 ^ 62) ≤ i ∧ i < 2 ^ 62 ∧ -(2 ^ 62) ≤ j ∧ j < 2 ^ 62) ∧ R (Itr i (j - i).toNat) H
section
variable {K : PySem.W.Frag} {D : Ends} {σ : L2.St} {H : Hp} {g : TG} {tb : TS} {R : It → Hp → Prop}
theorem w_for {wi : TI} (h : wi σ H fun J H1 => LoopG J g tb D σ H1) : tFor wi g tb D σ H := h
theorem w_rng1 {ta : TA} (h : ta σ H fun vs H1 => Rng1G vs H1 R) : iRng1 ta σ H R := h
theorem w_rng2 {ta : TA} (h : ta σ H fun vs H1 => Rng2G vs H1 R) : iRng2 ta σ H R := h
theorem rng1 {j : Int} (h0 : -4000000000000000000 ≤ j ∧ j ≤ 4000000000000000000) (h : R (Itr 0 j.toNat) H) : Rng1G [.int j] H R := ⟨j, rfl, by omega, by omega, h⟩
theorem rng2 {i j : Int} (h0 : (-4000000000000000000 ≤ i ∧ i ≤ 4000000000000000000) ∧ -4000000000000000000 ≤ j ∧ j ≤ 4000000000000000000) (h : R (Itr i (j - i).toNat) H) : Rng2G [.int i, .int j] H R := ⟨i, j, rfl, ⟨by omega, by omega, by omega, by omega⟩, h⟩
theorem lp_range {lo : Int} {n : Nat} (Pv : Nat → L2.St → Hp → Prop) (h0 : Pv 0 σ H)
    (hs : ∀ i σ H, i < n → Pv i σ H → g (.int (lo + i)) σ H fun σ2 H2 => tb { D with nx := Pv (i + 1), ct := Pv (i + 1), bk := D.nx } σ2 H2) (hd : ∀ σ H, Pv n σ H → D.nx σ H) : LoopG (Itr lo n) g tb D σ H := for_range Pv h0 hs hd
theorem lp_list {a : Addr} {xs : List V} (Pv : Nat → L2.St → Hp → Prop) (h0 : Pv 0 σ H) (hl : ∀ i σ H, i ≤ xs.length → Pv i σ H → SqL K H a xs)
    (hs : ∀ i x σ H, xs[i]? = some x → Pv i σ H → g x σ H fun σ2 H2 => tb { D with nx := Pv (i + 1), ct := Pv (i + 1), bk := D.nx } σ2 H2) (hd : ∀ σ H, Pv xs.length σ H → D.nx σ H) : LoopG (Itl K a) g tb D σ H := for_list Pv h0 hl hs hd
end
/-! ### sizes, shut: x is below 2 ^ k -/
@[irreducible] def Bt (k : Nat) (x : Int) : Prop := x.natAbs < 2 ^ k
theorem bt_def {k : Nat} {x : Int} : Bt k x ↔ x.natAbs < 2 ^ k := by unfold Bt; exact Iff.rfl
theorem Bt.mono {k l : Nat} {x : Int} (h : Bt k x) (e : k ≤ l) : Bt l x := bt_def.mpr (Nat.lt_of_lt_of_le (bt_def.mp h) (Nat.pow_le_pow_right (by decide) e))
theorem Bt.mul {k l : Nat} {x y : Int} (h : Bt k x) (g : Bt l y) : Bt (k + l) (x * y) := by
  have h := bt_def.mp h
  have g := bt_def.mp g
  refine bt_def.mpr ?_
  rw [Int.natAbs_mul, Nat.pow_add]
  exact Nat.mul_lt_mul'' h g
theorem Bt.add {k l : Nat} {x y : Int} (h : Bt k x) (g : Bt l y) : Bt (max k l + 1) (x + y) := by
  have h := bt_def.mp (h.mono (Nat.le_max_left k l))
  have g := bt_def.mp (g.mono (Nat.le_max_right k l))
  refine bt_def.mpr ?_
  rw [Nat.pow_succ]
  have e := Int.natAbs_add_le x y
  omega
theorem Bt.neg {k : Nat} {x : Int} (h : Bt k x) : Bt k (-x) := by
  refine bt_def.mpr ?_
  rw [Int.natAbs_neg]
  exact bt_def.mp h
theorem Bt.sub {k l : Nat} {x y : Int} (h : Bt k x) (g : Bt l y) : Bt (max k l + 1) (x - y) := h.add g.neg
theorem Bt.mulx {k l : Nat} {x y : Int} (h : Bt k x) (g : Bt l y) (e : k + l ≤ 134217728) : CMulX x y := mulx_ok (bt_def.mp h) (bt_def.mp g) e
theorem Bt.log {k : Nat} {x : Int} (h : Bt k x) (e : 0 < k ∧ k ≤ 9000) : x.natAbs.log2 < 9000 := Nat.lt_of_lt_of_le (PySem.Flt.log2_lt_of e.1 (bt_def.mp h)) e.2
theorem Bt.le {k : Nat} {x y : Int} (h : Bt k x) (e : y.natAbs ≤ x.natAbs) : Bt k y := bt_def.mpr (Nat.lt_of_le_of_lt e (bt_def.mp h))
theorem bt_39 {x : Int} (h : x.natAbs < 1000000000000000000000000000000000000000) : Bt 130 x := bt_def.mpr (Nat.lt_trans h (by decide))
theorem bt_lit {x : Int} (k : Nat) (h : x.natAbs < 2 ^ k) : Bt k x := bt_def.mpr h
theorem w_intB {b : Bool} {H : Hp} {Q : VK} (h : Q (.int (if b then 1 else 0)) H) : rInt1 [.bl b] H Q := .inr ⟨b, rfl, h⟩
theorem g_tup2 {b : Bool} {sa : Addr} {H0 H : Hp} {acc : List V} {dacc : List PyData} {K : PySem.W.Frag} {p : Addr} {d0 d1 : PyData} {i j : Nat} {σ : L2.St} {Q : L2.St → Hp → Prop} (W : Wd b sa H0 H acc dacc) (m : In2 (.ref p) (.tuple [d0, d1]) acc dacc)
    (h : VS d0 fun x => VS d1 fun y => Wd b sa H0 H (y :: x :: acc) (d1 :: d0 :: dacc) → Q ((σ.set i (some x)).set j (some y)) H) : gTup K 2 (gCons (gName i) (gCons (gName j) gNil)) (.ref p) σ H Q := by
  cases W.get m with
  | @tup _ xs _ n hx r =>
    obtain ⟨x, y, rfl, r0, r1⟩ := rps2 r
    exact ⟨p, [x, y], rfl, SqT.of hx, rfl, x, [y], rfl, y, [], rfl, rfl, ((h.of r0).of r1) ((W.put r0).put r1)⟩
theorem g_tup3 {b : Bool} {sa : Addr} {H0 H : Hp} {acc : List V} {dacc : List PyData} {K : PySem.W.Frag} {p : Addr} {d0 d1 d2 : PyData} {i j k : Nat} {σ : L2.St} {Q : L2.St → Hp → Prop} (W : Wd b sa H0 H acc dacc) (m : In2 (.ref p) (.tuple [d0, d1, d2]) acc dacc)
    (h : VS d0 fun x => VS d1 fun y => VS d2 fun z => Wd b sa H0 H (z :: y :: x :: acc) (d2 :: d1 :: d0 :: dacc) → Q (((σ.set i (some x)).set j (some y)).set k (some z)) H) : gTup K 3 (gCons (gName i) (gCons (gName j) (gCons (gName k) gNil))) (.ref p) σ H Q := by
  cases W.get m with
  | @tup _ xs _ n hx r =>
    obtain ⟨x, y, z, rfl, r0, r1, r2⟩ := rps3 r
    exact ⟨p, [x, y, z], rfl, SqT.of hx, rfl, x, [y, z], rfl, y, [z], rfl, z, [], rfl, rfl, (((h.of r0).of r1).of r2) (((W.put r0).put r1).put r2)⟩
def swap2 {α : Type} : List α → List α
  | [a, b] => [b, a]
  | l => l
theorem vals_swap2 {zs : List V} {ws : List Value} (r : Vals zs ws) (h : zs.length = 2) : Vals (swap2 zs) (swap2 ws) := by
  cases r with
  | nil => cases h
  | cons a t =>
    cases t with
    | nil => cases h
    | cons b u =>
      cases u with
      | nil => exact .cons b (.cons a .nil)
      | cons c v => simp at h
/-- the law: over a list of at most 63 ints it answers True -/
def sp_law (K : PySem.W.Frag) : Sp := fun vs H Q _ => ∃ (a : Addr) (ns : List Int), vs = [.ref a] ∧ SqL K H a (ns.map V.int) ∧ ns.length ≤ 63 ∧ ∀ H', Q (.bl true) H'
/-- a def without a stream that hands back some datum -/
def Pr (pre : List PyData → Prop) (R : List PyData → PyData → Prop) : Sp := fun vs H Q _ => ∃ (sa : Addr) (ds : List PyData), (∃ o, H sa = some o) ∧ Rps sa H vs ds ∧ pre ds ∧ ∀ H' x d, Same H H' → Rp sa H' x d → R ds d → Q x H'
theorem call_R {b : Bool} {sa : Addr} {H0 H : Hp} {acc : List V} {dacc : List PyData} {Q : VK} {E : XK} {pre : List PyData → Prop} {R : List PyData → PyData → Prop} {vs : List V} {ds : List PyData} (W : Wd b sa H0 H acc dacc) (r : Rps sa H vs ds) (hp : pre ds)
    (h : ∀ H' d, R ds d → VS d fun x => Wd b sa H0 H' (x :: acc) (d :: dacc) → Q x H') : Pr pre R vs H Q E :=
  ⟨sa, ds, W.tr, r, hp, fun H' x d s rx hR => (h H' d hR).of rx ((W.go s).put rx)⟩
theorem bl_dec {a b : Bool} : decide (V.bl a = V.bl b) = (a == b) := by
  cases a <;> cases b <;> rfl
theorem w_eqBB {a b : Bool} {H : Hp} {Q : VK} (h : Q (.bl (a == b)) H) : rEq (.bl a) (.bl b) H Q := ⟨rfl, by rw [bl_dec]; exact h⟩
theorem w_neBB {a b : Bool} {H : Hp} {Q : VK} (h : Q (.bl (!(a == b))) H) : rNe (.bl a) (.bl b) H Q := ⟨rfl, by rw [bl_dec]; exact h⟩
theorem Rp.tupF {sa : Addr} {H : Hp} {v : V} {ds : List PyData} (r : Rp sa H v (.tuple ds)) : ∃ p xs, v = .ref p ∧ H p = some (.tup xs) := by
  cases r with
  | tup n h r => exact ⟨_, _, rfl, h⟩
/-- things that are tuples of ints stand when a list is changed -/
theorem Rp.tupStay {sa g : Addr} {H : Hp} {v : V} {a b : Int} {xs ys : List V} (r : Rp sa H v (.tuple [.int a, .int b])) (hg : H g = some (.lst xs)) : Rp sa (upd H g (.lst ys)) v (.tuple [.int a, .int b]) := by
  cases r with
  | @tup p zs _ n h r =>
    have ne : p ≠ g := fun e => by
      rw [e, hg] at h
      cases h
    obtain ⟨x, y, rfl, r0, r1⟩ := rps2 r
    cases r0
    cases r1
    exact .tup n (by rw [upd_ne ne]; exact h) (.cons (.int _) (.cons (.int _) .nil))
theorem Stm.setL {H : Hp} {a g : Addr} {x : V} {xs ys : List V} (s : Stm H a) (hg : H g = some (.lst (x :: xs))) (hx : ∀ n, x ≠ .int n) (ne : g ≠ a) : Stm (upd H g (.lst ys)) a := by
  obtain ⟨c, p, q, n, ns, h1, h2, h3, h4, h5⟩ := s
  have nc : c ≠ g := fun e => by
    rw [e, hg] at h4
    cases ns with
    | nil => simp at h5
    | cons m r =>
      injection h4 with h4
      injection h4 with h4
      injection h4 with h4 _
      exact hx _ h4
  exact ⟨c, p, q, n, ns, by rw [upd_ne (Ne.symm ne)]; exact h1, h2, h3, by rw [upd_ne nc]; exact h4, h5⟩
/-! ### data without lists and dicts: they stand when a list is changed -/
mutual
def tupOnly : PyData → Bool
  | .list _ => false
  | .tuple ds => tupOnlys ds
  | .dict _ => false
  | _ => true
def tupOnlys : List PyData → Bool
  | [] => true
  | d :: ds => tupOnly d && tupOnlys ds
end
mutual
theorem Rp.stay {sa g : Addr} {H : Hp} {xs ys : List V} (hg : H g = some (.lst xs)) : ∀ {v : V} {d : PyData}, Rp sa H v d → tupOnly d = true → Rp sa (upd H g (.lst ys)) v d
  | _, _, .non, _ => .non
  | _, _, .bl b, _ => .bl b
  | _, _, .int i, _ => .int i
  | _, _, .str x, _ => .str x
  | _, _, .lst _ _ _, e => nomatch e
  | _, _, .tup n h r, e => .tup n (by
      rw [upd_ne (fun z => by
        rw [z, hg] at h
        cases h)]
      exact h) (Rps.stay hg r e)
  | _, _, .dct _ _, e => nomatch e
theorem Rps.stay {sa g : Addr} {H : Hp} {xs ys : List V} (hg : H g = some (.lst xs)) : ∀ {vs : List V} {ds : List PyData}, Rps sa H vs ds → tupOnlys ds = true → Rps sa (upd H g (.lst ys)) vs ds
  | _, _, .nil, _ => .nil
  | _, _, .cons h t, e => .cons (Rp.stay hg h (by
      unfold tupOnlys at e
      exact (Bool.and_eq_true _ _ ▸ e).1)) (Rps.stay hg t (by
      unfold tupOnlys at e
      exact (Bool.and_eq_true _ _ ▸ e).2))
end
theorem tupOnlys_all : ∀ {ds : List PyData}, (∀ d ∈ ds, tupOnly d = true) → tupOnlys ds = true
  | [], _ => rfl
  | d :: ds, h => by
    unfold tupOnlys
    rw [h d List.mem_cons_self, tupOnlys_all fun e he => h e (List.mem_cons_of_mem _ he)]
    rfl
theorem Rps.set {sa : Addr} {H : Hp} {y : V} {dy : PyData} (hy : Rp sa H y dy) : ∀ {vs : List V} {ds : List PyData} (j : Nat), Rps sa H vs ds → Rps sa H (vs.set j y) (ds.set j dy)
  | _, _, _, .nil => .nil
  | _, _, 0, .cons _ t => .cons hy t
  | _, _, j + 1, .cons h t => .cons h (Rps.set hy j t)
theorem Stm.putL {H : Hp} {a g : Addr} {xs ys : List V} (s : Stm H a) (hg : H g = some (.lst xs)) (ne : g ≠ a) (hx : ∀ c p q n, H a = some (.lst [.ref c, .int p, .int q, .int n]) → c ≠ g) : Stm (upd H g (.lst ys)) a := by
  obtain ⟨c, p, q, n, ns, h1, h2, h3, h4, h5⟩ := s
  exact ⟨c, p, q, n, ns, by rw [upd_ne (Ne.symm ne)]; exact h1, h2, h3, by rw [upd_ne (hx c p q n h1)]; exact h4, h5⟩
theorem But.put {a g : Addr} {H H' : Hp} {o : HO} (b : But a H H') (h : H g = none) : But a H (L2.upd H' g o) := fun c u n e => by
  rw [upd_ne (ne_of_none e h)]
  exact b c u n e
/-- the stream's cells, told by the address -/
def StmC (H : Hp) (a c : Addr) : Prop := ∃ (p g n : Int) (ns : List Int), H a = some (.lst [.ref c, .int p, .int g, .int n]) ∧ 0 ≤ p ∧ 0 ≤ g ∧ H c = some (.lst (ns.map V.int)) ∧ 0 < ns.length
theorem lcYes {σ : L2.St} {H : Hp} {A B : Hp → Prop} (h : A H) : tYes σ H fun b H3 => if b = true then A H3 else B H3 := by
  show (if true = true then A H else B H)
  exact iteT h
/-- [te for j in range(n)], te drawing; its items hold no lists -/
theorem lc_RN {sa : Addr} {H : Hp} {j n : Nat} {te : TE} {vs : List Nat} {σ : L2.St} {Q : VK} (st : Stm H sa) (hn : n ≤ 1000) (R : PyData → Prop) (hR : ∀ d, R d → tupOnly d = true) (hr : ∀ v d H', R d → Rp sa H' v d → ∀ i, v ≠ .int i)
    (hw : ∀ x, wipe ((wipe σ vs).set j (some x)) vs = wipe σ vs)
    (hs : ∀ (i : Nat) H' Q', i < n → But sa H H' → Stm H' sa → (∀ y H4 dy, But sa H' H4 → Stm H4 sa → Rp sa H4 y dy → R dy → Q' y H4) → te ((wipe σ vs).set j (some (.int (0 + (i : Int))))) H' Q')
    (hd : ∀ H' D xs ds, H D = none → But sa H H' → Stm H' sa → D ≠ sa → H' D = some (.lst xs) → Rps sa H' xs ds → ds.length = n → (∀ d ∈ ds, R d) → Q (.ref D) H') : tLc (iRng1 (tCons (tC (.int (n : Int))) tNil)) (gName j) tYes te vs σ H Q := by
  refine ⟨(n : Int), rfl, by omega, by omega, fun D nD => ?_⟩
  have nsa : D ≠ sa := st.ne nD
  -- the cells of the stream stand apart from D
  have cells : ∀ H', But sa H H' → Stm H' sa → (∃ xs, H' D = some (.lst xs) ∧ ∀ i ∈ xs, ∀ k, i ≠ V.int k) → ∀ c p q m, H' sa = some (.lst [.ref c, .int p, .int q, .int m]) → ∀ ns : List Int, H' c = some (.lst (ns.map V.int)) → 0 < ns.length → c ≠ D := fun H' b s ⟨xs, h1, h2⟩ c p q m h3 ns h4 h5 e => by
    rw [e, h1] at h4
    injection h4 with h4
    injection h4 with h4
    cases ns with
    | nil => simp at h5
    | cons k r =>
      rw [h4] at h2
      exact h2 (.int k) (by simp) k rfl
  refine lc_range (lo := 0) (n := n) (fun i H' => But sa H H' ∧ Stm H' sa ∧ ∃ xs ds, H' D = some (.lst xs) ∧ Rps sa H' xs ds ∧ ds.length = i ∧ ∀ d ∈ ds, R d) ?_ (fun i H' hi hP => ?_) (fun H' hP => ?_)
  · exact ⟨(But.refl sa H).put nD, st.keep (same_new nD), [], [], upd_same, .nil, rfl, fun d hd => absurd hd (by simp)⟩
  · obtain ⟨bb, s, xs, ds, h1, h2, h3, h4⟩ := hP
    refine ⟨hw _, lcYes ?_⟩
    refine hs i H' _ hi bb s fun y H4 dy b4 s4 ry hy => ?_
    have e4 : H4 D = some (.lst xs) := b4 _ _ nsa h1
    have r4 : Rps sa H4 xs ds := h2.but b4
    have all : tupOnlys ds = true := tupOnlys_all fun d hd => hR d (h4 d hd)
    refine ⟨xs, e4, by rw [h2.lens, h3]; exact small1000 (by omega), (bb.trans b4).put nD, ?_, xs ++ [y], ds ++ [dy], upd_same, (r4.stay e4 all).app (.cons (ry.stay e4 (hR _ hy)) .nil), by rw [List.length_append, h3]; rfl, fun d hd => ?_⟩
    · obtain ⟨c, p, q, m, ns, k1, k2, k3, k4, k5⟩ := s4
      have nc : c ≠ D := fun e => by
        rw [e, e4] at k4
        cases xs with
        | nil =>
          cases ns with
          | nil => simp at k5
          | cons _ _ => cases k4
        | cons x r =>
          cases ns with
          | nil => simp at k5
          | cons z _ =>
            injection k4 with k4
            injection k4 with k4
            injection k4 with k4 _
            cases r4 with
            | @cons _ _ d0 _ hx t => exact hr x d0 H4 (h4 d0 List.mem_cons_self) hx z k4
      exact ⟨c, p, q, m, ns, by rw [upd_ne (Ne.symm nsa)]; exact k1, k2, k3, by rw [upd_ne nc]; exact k4, k5⟩
    · rcases List.mem_append.mp hd with hd | hd
      · exact h4 d hd
      · rw [List.mem_singleton.mp hd]
        exact hy
  · obtain ⟨bb, s, xs, ds, h1, h2, h3, h4⟩ := hP
    exact hd H' D xs ds nD bb s nsa h1 h2 h3 h4
theorem lc_R {sa : Addr} {H : Hp} {j n : Nat} {te : TE} {vs : List Nat} {σ : L2.St} {Q : VK} (st : Stm H sa) (hn : n ≤ 1000) (R : PyData → Prop) (hR : ∀ d, R d → tupOnly d = true) (hr : ∀ v d H', R d → Rp sa H' v d → ∀ i, v ≠ .int i)
    (hw : ∀ x, wipe ((wipe σ vs).set j (some x)) vs = wipe σ vs)
    (hs : ∀ (i : Nat) H' Q', i < n → But sa H H' → Stm H' sa → (∀ y H4 dy, But sa H' H4 → Stm H4 sa → Rp sa H4 y dy → R dy → Q' y H4) → te ((wipe σ vs).set j (some (.int (0 + (i : Int))))) H' Q')
    (hd : ∀ H' D xs ds, But sa H H' → Stm H' sa → D ≠ sa → H' D = some (.lst xs) → Rps sa H' xs ds → ds.length = n → (∀ d ∈ ds, R d) → Q (.ref D) H') : tLc (iRng1 (tCons (tC (.int (n : Int))) tNil)) (gName j) tYes te vs σ H Q :=
  lc_RN st hn R hR hr hw hs fun H' D xs ds _ => hd H' D xs ds
/-- the script stands beside the stream -/
theorem sq_but {K : PySem.W.Frag} {a c : Addr} {H H' : Hp} {ns : List Int} (b : But a H H') (s : Stm H a) (h : SqL K H c (ns.map V.int)) : SqL K H' c (ns.map V.int) := by
  obtain ⟨c0, p, q, n, ms, h1, _⟩ := s
  rcases h with (h | ⟨o, h⟩) | h
  · refine .inl (.inl (b _ _ (fun e => ?_) h))
    rw [e, h1] at h
    injection h with h
    injection h with h
    cases ns with
    | nil => cases h
    | cons x r => cases h
  · refine .inl (.inr ⟨o, b _ _ (fun e => ?_) h⟩)
    rw [e, h1] at h
    cases h
  · exact .inr h
/-- the greatest number whose square is at most n -/
def IsRt (n r : Nat) : Prop := r * r ≤ n ∧ n < (r + 1) * (r + 1)
theorem small8 {n : Nat} (h : n < 8) : IsRt n (Float64.rootBelow8 n) := by
  unfold Float64.rootBelow8 IsRt
  rcases (show n = 0 ∨ n = 1 ∨ n = 2 ∨ n = 3 ∨ n = 4 ∨ n = 5 ∨ n = 6 ∨ n = 7 by omega) with rfl | rfl | rfl | rfl | rfl | rfl | rfl | rfl <;> decide
/-- Newton's step from above stays above -/
theorem newt_ge {n x m : Nat} (hx : 0 < x) (h : m * m ≤ n) : m ≤ (x + n / x) / 2 := by
  have h2 : n < (n / x + 1) * x := by
    have := Nat.lt_div_mul_add hx (a := n)
    rw [Nat.add_mul, Nat.one_mul]
    exact this
  generalize n / x = q at h2
  have h3 : 4 * ((q + 1) * x) ≤ (q + 1 + x) * (q + 1 + x) := by
    rcases Nat.le_total (q + 1) x with h | h
    · obtain ⟨e, he⟩ := Nat.exists_eq_add_of_le h
      have : (q + 1 + x) * (q + 1 + x) = 4 * ((q + 1) * x) + e * e := by grind
      omega
    · obtain ⟨e, he⟩ := Nat.exists_eq_add_of_le h
      have : (q + 1 + x) * (q + 1 + x) = 4 * ((q + 1) * x) + e * e := by grind
      omega
  have h4 : (2 * m) * (2 * m) < (q + 1 + x) * (q + 1 + x) := by
    have : (2 * m) * (2 * m) = 4 * (m * m) := by grind
    omega
  have h5 : 2 * m < q + 1 + x := Nat.mul_self_lt_mul_self_iff.mp h4
  omega
/-- and comes near: x = c + t, t * t small -/
theorem newt_le {n x c t : Nat} (hx : x = c + t) (hc : c * c ≤ n) (hn : n < x * x) (ht : t * t ≤ 2 * x) : ((x + n / x) / 2 - 1) * ((x + n / x) / 2 - 1) ≤ n := by
  have x0 : 0 < x := by
    rcases Nat.eq_zero_or_pos x with h | h
    · subst h
      simp at hn
    · exact h
  have hq : n / x * x ≤ n := Nat.div_mul_le_self n x
  have hqx : n / x < x := (Nat.div_lt_iff_lt_mul x0).mpr hn
  generalize n / x = q at hq hqx
  refine Nat.not_lt.mp fun hz => ?_
  generalize hy : (x + q) / 2 = y at hz
  have hy2 : 2 * y ≤ x + q := by omega
  cases y with
  | zero => simp at hz
  | succ z =>
    rw [Nat.add_sub_cancel] at hz
    have zc : c < z := by
      refine Nat.not_le.mp fun h => ?_
      have := Nat.mul_le_mul h h
      omega
    have zx : z < x := by omega
    obtain ⟨e, he⟩ := Nat.exists_eq_add_of_lt zx
    -- x = z + e + 1, e + 1 < t
    have et : e + 1 < t := by omega
    have h1 : 2 * (z + 1) * x ≤ x * x + q * x := by
      have := Nat.mul_le_mul_right x hy2
      grind
    have h2 : 2 * (z + 1) * x ≤ x * x + n := by omega
    have h3 : (e + 1) * (e + 1) + 2 * z * x = x * x + z * z := by grind
    have h4 : 2 * (z + 1) * x = 2 * z * x + 2 * x := by grind
    have h5 : 2 * x < (e + 1) * (e + 1) := by omega
    have h6 : (e + 1) * (e + 1) ≤ t * t := Nat.mul_le_mul (Nat.le_of_lt et) (Nat.le_of_lt et)
    omega
/-- the model's own root is the root -/
theorem rootBy (levels : Nat) : ∀ n : Nat, (8 ≤ n → n.log2 ≤ levels) → IsRt n (Float64.rootByHalves levels n) := by
  induction levels with
  | zero =>
    intro n h
    by_cases h8 : n < 8
    · exact small8 h8
    · have z := h (by omega)
      have : n < 2 ^ 1 := (Nat.log2_lt (by omega)).mp (by omega)
      omega
  | succ l ih =>
    intro n h
    unfold Float64.rootByHalves
    by_cases h8 : n < 8
    · rw [if_pos h8]
      exact small8 h8
    · rw [if_neg h8]
      dsimp only
      have n0 : n ≠ 0 := by omega
      have hL : n.log2 ≤ l + 1 := h (by omega)
      have L3 : 3 ≤ n.log2 := (Nat.le_log2 n0).mpr (by omega)
      generalize hk : (n.log2 + 1) / 4 = k
      have k1 : 1 ≤ k := by omega
      have up : n < 2 ^ (n.log2 + 1) := (Nat.log2_lt n0).mp (Nat.lt_succ_self _)
      have lo : 2 ^ n.log2 ≤ n := (Nat.le_log2 n0).mp (Nat.le_refl _)
      have p4 : 0 < 4 ^ k := Nat.pow_pos (by decide)
      have r := ih (n / 4 ^ k) fun _ => by
        have nz : n / 4 ^ k ≠ 0 := by omega
        have : n / 4 ^ k < 2 ^ (n.log2 + 1 - 2 * k) := by
          rw [Nat.div_lt_iff_lt_mul p4]
          have e : 2 ^ (n.log2 + 1 - 2 * k) * 4 ^ k = 2 ^ (n.log2 + 1) := by
            rw [show (4 : Nat) = 2 ^ 2 from rfl, ← Nat.pow_mul, ← Nat.pow_add]
            congr 1
            omega
          rw [e]
          exact up
        have := (Nat.log2_lt nz).mpr this
        omega
      generalize Float64.rootByHalves l (n / 4 ^ k) = s at r
      obtain ⟨r1, r2⟩ := r
      have t2 : 2 ^ k * 2 ^ k = 4 ^ k := by rw [← Nat.mul_pow]
      have lo4 : s * s * 4 ^ k ≤ n := by
        have := Nat.mul_le_mul_right (4 ^ k) r1
        exact Nat.le_trans this (Nat.div_mul_le_self n _)
      have hi4 : n < (s + 1) * (s + 1) * 4 ^ k := by
        have := (Nat.div_lt_iff_lt_mul p4).mp r2
        exact this
      generalize ht : 2 ^ k = t at *
      have t0 : 0 < t := by rw [← ht]; exact Nat.pow_pos (by decide)
      have hx : (s + 1) * t = s * t + t := by grind
      have hc : s * t * (s * t) ≤ n := by
        have : s * t * (s * t) = s * s * 4 ^ k := by rw [← t2]; grind
        omega
      have hn : n < (s + 1) * t * ((s + 1) * t) := by
        have : (s + 1) * t * ((s + 1) * t) = (s + 1) * (s + 1) * 4 ^ k := by rw [← t2]; grind
        omega
      have x0 : 0 < (s + 1) * t := Nat.mul_pos (by omega) t0
      have t4 : t * t * (t * t) ≤ 2 * n := by
        have e : t * t * (t * t) = 2 ^ (4 * k) := by
          rw [t2, ← Nat.mul_pow, show (4 * 4 : Nat) = 2 ^ 4 from rfl, ← Nat.pow_mul]
        rw [e]
        have : 2 ^ (4 * k) ≤ 2 ^ (n.log2 + 1) := Nat.pow_le_pow_right (by decide) (by omega)
        rw [Nat.pow_succ] at this
        omega
      generalize (s + 1) * t = x at hx hn x0
      have tt : t * t ≤ 2 * x := by
        refine Nat.not_lt.mp fun hz => ?_
        have a1 : 2 * x * (2 * x) < t * t * (t * t) := Nat.mul_lt_mul'' hz hz
        have a2 : 2 * x * (2 * x) = 4 * (x * x) := by grind
        omega
      have ge : ∀ m, m * m ≤ n → m ≤ (x + n / x) / 2 := fun m hm => newt_ge x0 hm
      have le := newt_le hx hc hn tt
      show IsRt n (if (x + n / x) / 2 * ((x + n / x) / 2) > n then (x + n / x) / 2 - 1 else (x + n / x) / 2)
      generalize (x + n / x) / 2 = y at ge le
      have big : n < (y + 1) * (y + 1) := Nat.not_le.mp fun h => by
        have := ge _ h
        omega
      by_cases hy : y * y > n
      · rw [if_pos hy]
        refine ⟨le, ?_⟩
        have : y ≠ 0 := fun z => by rw [z] at hy; omega
        rw [Nat.sub_add_cancel (by omega)]
        exact hy
      · rw [if_neg hy]
        exact ⟨by omega, big⟩
theorem isqrt_ok (n : Nat) : IsRt n (Float64.isqrt n) := rootBy _ n fun _ => Nat.le_refl _
theorem IsRt.uniq {n r s : Nat} (h : IsRt n r) (k : IsRt n s) : r = s := by
  have a : r < s + 1 := Nat.mul_self_lt_mul_self_iff.mp (Nat.lt_of_le_of_lt h.1 k.2)
  have b : s < r + 1 := Nat.mul_self_lt_mul_self_iff.mp (Nat.lt_of_le_of_lt k.1 h.2)
  omega
theorem isqrt_sq (r : Nat) : Float64.isqrt (r * r) = r := (isqrt_ok _).uniq ⟨Nat.le_refl _, by grind⟩
def rIsq : List V → Hp → VK → Prop := fun vs H Q => ∃ a : Int, vs = [.int a] ∧ 0 ≤ a ∧ a.toNat.log2 < 9000 ∧ Q (.int ((Float64.isqrt a.toNat : Nat) : Int)) H
theorem cr_isqrt {X : Cx} : CallR X (.builtin "math.isqrt") rIsq := by
  intro pins s σ H vs us Q I r h
  obtain ⟨a, rfl, h0, hl, q⟩ := h
  obtain ⟨u, us', rfl, ⟨t, rfl⟩, rfl⟩ : ∃ u us', us = u :: us' ∧ RelV (.int a) u ∧ us' = [] := by
    cases r with
    | cons ra rn =>
      cases rn
      exact ⟨_, _, rfl, ra, rfl⟩
  exact PySem.call_function_meets PySem.W.MGF.kind_isqrt PySem.W.MGF.plain_isqrt PySem.W.MGF.entry_isqrt (PySem.W.MGF.args_isqrt _) (PySem.W.mg_run_isqrt a t (by omega) (by omega) (by omega)).meets ⟨.int _, H, I.tok _, ⟨_, rfl⟩, q⟩
theorem w_isq {n : Int} {H : Hp} {Q : VK} (h0 : 0 ≤ n) (hl : n.toNat.log2 < 9000) (h : Q (.int ((Float64.isqrt n.toNat : Nat) : Int)) H) : rIsq [.int n] H Q := ⟨n, rfl, h0, hl, h⟩
def rShl1 : R2 := fun x y H Q => ∃ k : Nat, x = .int 1 ∧ y = .int (k : Int) ∧ k ≤ 134217727 ∧ Q (.int (2 ^ k)) H
theorem oq_shl1 {X : Cx} : OpR X (binaryOp .LShift) rShl1 := op_oneShl
theorem w_bits {te : TE} {σ : L2.St} {H : Hp} {Q : VK} (h : te σ H fun x H1 => ∃ i, x = .int i ∧ Q (.int (Builtin.Int.intBits i : Nat)) H1) : tBits te σ H Q := h
theorem w_xi {i : Int} {F : Int → Prop} (h : F i) : ∃ j, V.int i = .int j ∧ F j := ⟨i, rfl, h⟩
theorem passLS {X : Cx} {σ : L2.St} : PassesAt (L2.CX X.prog X.w) X σ E0 := fun pins H s e s' I h => passL pins σ H s e s' I h
theorem w_isNone {x : V} {H : Hp} {Q : VK} (h : Q (.bl (decide (x = .non))) H) : rIsN x .non H Q := ⟨rfl, h⟩
theorem w_notNone {x : V} {H : Hp} {Q : VK} (h : Q (.bl (!decide (x = .non))) H) : rNotN x .non H Q := ⟨rfl, h⟩
theorem dn_non : decide (V.non = .non) = true := rfl
theorem dn_int {i : Int} : decide (V.int i = .non) = false := rfl
theorem dn_ref {a : Addr} : decide (V.ref a = .non) = false := rfl
theorem w_isN_i {i : Int} {H : Hp} {Q : VK} (h : Q (.bl false) H) : rIsN (.int i) .non H Q := ⟨rfl, h⟩
theorem w_isN_r {a : Addr} {H : Hp} {Q : VK} (h : Q (.bl false) H) : rIsN (.ref a) .non H Q := ⟨rfl, h⟩
theorem w_isN_n {H : Hp} {Q : VK} (h : Q (.bl true) H) : rIsN .non .non H Q := ⟨rfl, h⟩
theorem w_noN_i {i : Int} {H : Hp} {Q : VK} (h : Q (.bl true) H) : rNotN (.int i) .non H Q := ⟨rfl, h⟩
theorem w_noN_r {a : Addr} {H : Hp} {Q : VK} (h : Q (.bl true) H) : rNotN (.ref a) .non H Q := ⟨rfl, h⟩
theorem w_noN_n {H : Hp} {Q : VK} (h : Q (.bl false) H) : rNotN .non .non H Q := ⟨rfl, h⟩
theorem w_shl {k : Int} {H : Hp} {Q : VK} (h0 : 0 ≤ k) (h1 : k ≤ 134217727) (h : Q (.int ((2 ^ k.toNat : Nat) : Int)) H) : rShl1 (.int 1) (.int k) H Q := ⟨k.toNat, rfl, by rw [Int.toNat_of_nonneg h0], by omega, by rw [Int.natCast_pow] at h; exact h⟩
local macro_rules | `(tactic| walk_at "call1") => `(tactic| fail)
local macro_rules | `(tactic| walk_at "w") => `(tactic| (repeat (first
  | with_reducible refine iteT' ?_
  | with_reducible refine iteF' ?_
  | with_reducible refine w_seq ?_
  | with_reducible refine w_asg ?_
  | with_reducible refine w_op ?_
  | ((with_reducible show tVar _ _ _ _); first | with_reducible refine w_v0 ?_ | with_reducible refine w_v1 ?_ | with_reducible refine w_v2 ?_ | with_reducible refine w_v3 ?_ | with_reducible refine w_v4 ?_ | with_reducible refine w_v5 ?_ | with_reducible refine w_v6 ?_ | with_reducible refine w_v7 ?_ | with_reducible refine w_v8 ?_ | with_reducible refine w_v9 ?_ | with_reducible refine w_v10 ?_ | with_reducible refine w_v11 ?_ | with_reducible refine w_v12 ?_ | with_reducible refine w_v13 ?_ | with_reducible refine w_v14 ?_ | with_reducible refine w_v15 ?_ | with_reducible refine w_v16 ?_ | with_reducible refine w_v17 ?_ | with_reducible refine w_v18 ?_ | with_reducible refine w_v19 ?_ | with_reducible refine w_v20 ?_ | with_reducible refine w_v21 ?_ | with_reducible refine w_v22 ?_ | with_reducible refine w_v23 ?_)
  | ((with_reducible show gName _ _ _ _ _); first | with_reducible refine w_g0 ?_ | with_reducible refine w_g1 ?_ | with_reducible refine w_g2 ?_ | with_reducible refine w_g3 ?_ | with_reducible refine w_g4 ?_ | with_reducible refine w_g5 ?_ | with_reducible refine w_g6 ?_ | with_reducible refine w_g7 ?_ | with_reducible refine w_g8 ?_ | with_reducible refine w_g9 ?_ | with_reducible refine w_g10 ?_ | with_reducible refine w_g11 ?_ | with_reducible refine w_g12 ?_ | with_reducible refine w_g13 ?_ | with_reducible refine w_g14 ?_ | with_reducible refine w_g15 ?_ | with_reducible refine w_g16 ?_ | with_reducible refine w_g17 ?_ | with_reducible refine w_g18 ?_ | with_reducible refine w_g19 ?_ | with_reducible refine w_g20 ?_ | with_reducible refine w_g21 ?_ | with_reducible refine w_g22 ?_ | with_reducible refine w_g23 ?_)
  | with_reducible refine w_c ?_
  | with_reducible refine w_cb ?_
  | with_reducible refine w_cons ?_
  | with_reducible refine w_nil ?_
  | with_reducible refine w_call0 ?_
  | with_reducible refine w_callS ?_
  | with_reducible refine w_kws ?_
  | with_reducible refine w_lt ?_
  | with_reducible refine w_le ?_
  | with_reducible refine w_gt ?_
  | with_reducible refine w_ge ?_
  | with_reducible refine w_I0 ?_
  | with_reducible refine w_eqI ?_
  | with_reducible refine w_neI ?_
  | with_reducible refine w_eqBB ?_
  | with_reducible refine w_neBB ?_
  | with_reducible refine w_U ?_
  | with_reducible refine w_un ?_
  | with_reducible refine w_test ?_
  | with_reducible refine w_tB ?_
  | with_reducible refine w_bl ?_
  | with_reducible refine w_ifs ?_
  | with_reducible refine w_ife ?_
  | with_reducible refine w_and ?_
  | with_reducible refine w_or ?_
  | with_reducible refine w_not ?_
  | with_reducible refine w_andV ?_
  | with_reducible refine w_orV ?_
  | with_reducible refine w_notV ?_
  | with_reducible refine w_ret ?_
  | with_reducible refine w_retN ?_
  | with_reducible refine w_next ?_
  | with_reducible refine w_drop ?_
  | with_reducible refine w_brk ?_
  | with_reducible refine w_for ?_
  | with_reducible refine w_rng1 ?_
  | with_reducible refine w_rng2 ?_
  | with_reducible refine w_cont ?_
  | with_reducible refine w_int ?_
  | with_reducible refine w_intB ?_
  | with_reducible refine w_bits ?_
  | with_reducible refine w_xi ?_
  | with_reducible refine w_isN_i ?_
  | with_reducible refine w_isN_r ?_
  | with_reducible refine w_isN_n ?_
  | with_reducible refine w_noN_i ?_
  | with_reducible refine w_noN_r ?_
  | with_reducible refine w_noN_n ?_
  | with_reducible refine w_abs ?_
  | with_reducible refine w_min ?_
  | with_reducible refine w_max ?_
  | with_reducible refine w_gcd ?_
  | with_reducible refine w_tupN ?_
  | with_reducible refine w_lstN ?_
  | with_reducible refine w_newD ?_
  | with_reducible refine w_par ?_
  | with_reducible refine w_two ?_
  | with_reducible refine w_sub ?_
  | ((with_reducible show rI _ _ _ _ _ _); first
    | with_reducible refine w_pow9 ?_ | with_reducible refine w_pow13 ?_ | with_reducible refine w_pow18 ?_ | with_reducible refine w_pow30 ?_ | with_reducible refine w_pow8 ?_ | with_reducible refine w_pow50 ?_
    | ((with_reducible apply w_I); (focus (first | assumption | decide | exact Bt.mulx (by walk_at "bt") (by walk_at "bt") (by decide) | exact ⟨by decide, by decide⟩ | exact .inl ⟨by omega, by omega⟩ | exact .inr ⟨by omega, by omega⟩ | exact .inl ⟨by decide, by decide⟩ | exact .inr ⟨by decide, by decide⟩ | omega))))
  | ((with_reducible show NT _ _ _); (with_reducible apply n_tup); (focus assumption); (focus (walk_at "rps")); (focus rfl); intro _ _ _)
  | ((with_reducible show NL _ _ _); (with_reducible apply n_lst); (focus assumption); (focus (walk_at "rps")); (focus rfl); intro _ _ _)
  | ((with_reducible show ND _ _); (with_reducible apply n_dct); (focus assumption); intro _ _ _)
  | ((with_reducible show rIxT _ _ _ _ _); first
    | ((with_reducible apply x_T0i); (focus assumption); (focus (walk_at "in2")))
    | ((with_reducible apply x_T0); (focus assumption); (focus (walk_at "in2")))
    | ((with_reducible apply x_T1i); (focus assumption); (focus (walk_at "in2")))
    | ((with_reducible apply x_T1); (focus assumption); (focus (walk_at "in2")))
    | ((with_reducible apply x_T2i); (focus assumption); (focus (walk_at "in2")))
    | ((with_reducible apply x_T2); (focus assumption); (focus (walk_at "in2")))
    | ((with_reducible apply x_T3i); (focus assumption); (focus (walk_at "in2")))
    | ((with_reducible apply x_T3); (focus assumption); (focus (walk_at "in2")))
    | ((with_reducible apply x_T4i); (focus assumption); (focus (walk_at "in2")))
    | ((with_reducible apply x_T4); (focus assumption); (focus (walk_at "in2")))
    | ((with_reducible apply x_T5i); (focus assumption); (focus (walk_at "in2")))
    | ((with_reducible apply x_T5); (focus assumption); (focus (walk_at "in2")))
    | ((with_reducible apply w_ixT); (focus (walk_at "fact")); (focus (walk_at "place"))))
  | ((with_reducible show rIxL _ _ _ _ _); first
    | ((with_reducible apply x_L0i); (focus assumption); (focus (walk_at "in2")))
    | ((with_reducible apply x_L0); (focus assumption); (focus (walk_at "in2")))
    | ((with_reducible apply x_L1i); (focus assumption); (focus (walk_at "in2")))
    | ((with_reducible apply x_L1); (focus assumption); (focus (walk_at "in2")))
    | ((with_reducible apply x_L2i); (focus assumption); (focus (walk_at "in2")))
    | ((with_reducible apply x_L2); (focus assumption); (focus (walk_at "in2")))
    | ((with_reducible apply x_L3i); (focus assumption); (focus (walk_at "in2")))
    | ((with_reducible apply x_L3); (focus assumption); (focus (walk_at "in2")))
    | ((with_reducible apply x_L4i); (focus assumption); (focus (walk_at "in2")))
    | ((with_reducible apply x_L4); (focus assumption); (focus (walk_at "in2")))
    | ((with_reducible apply x_L5i); (focus assumption); (focus (walk_at "in2")))
    | ((with_reducible apply x_L5); (focus assumption); (focus (walk_at "in2")))
    | ((with_reducible apply w_ixL); (focus (walk_at "fact")); (focus (walk_at "place"))))
  | ((with_reducible show gTup _ _ _ _ _ _ _); first | ((with_reducible apply g_tup2); (focus assumption); (focus (walk_at "in2"))) | ((with_reducible apply g_tup3); (focus assumption); (focus (walk_at "in2"))))
  | ((with_reducible show Rng1G _ _ _); (with_reducible apply rng1); (focus (first | decide | omega | (constructor <;> first | omega | (split <;> omega)))))
  | ((with_reducible show VS _ _); first
    | ((with_reducible refine v_tup ?_); intro _) | ((with_reducible refine v_lst ?_); intro _) | ((with_reducible refine v_dct ?_); intro _)
    | with_reducible refine v_int ?_ | with_reducible refine v_bl ?_ | with_reducible refine v_str ?_ | with_reducible refine v_non ?_ | ((with_reducible refine v_any ?_); intro _))
  | ((with_reducible show Wd _ _ _ _ _ _ → _); intro _)
  | ((with_reducible show rLenQ _ _ _ _); first
    | ((with_reducible apply l_lst); (focus assumption); (focus (walk_at "in2"))) | ((with_reducible apply l_tup); (focus assumption); (focus (walk_at "in2")))
    | ((with_reducible apply w_lenL); (focus (walk_at "fact"))) | ((with_reducible apply w_lenT); (focus (walk_at "fact"))))
  | ((with_reducible show sp_take _ _ _ _); (with_reducible apply call_tk); (focus assumption); (focus (first | decide | omega)); (focus (first | decide | decide +kernel)); intro _ _ _ _ _)
  | ((with_reducible show sp_whole _ _ _ _); (with_reducible apply call_wh); (focus assumption); intro _ _ _ _)
  | ((with_reducible show rCat _ _ _ _); (with_reducible apply w_catL); (focus assumption); (focus (walk_at "in2")); (focus (walk_at "in2")); (focus rfl); intro _ _ _)
  | ((with_reducible show rSetL _ _ _ _ _); first | ((with_reducible apply w_set0); (focus (walk_at "heap"))) | ((with_reducible apply w_set1); (focus (walk_at "heap"))) | ((with_reducible apply w_set2); (focus (walk_at "heap"))) | ((with_reducible apply w_set3); (focus (walk_at "heap"))) | ((with_reducible apply w_set4); (focus (walk_at "heap"))) | ((with_reducible apply w_set5); (focus (walk_at "heap"))))
  | walk_at "call1"
  | dsimp only [List.set, notT, notF]
  | rw [List.length_map])))
local macro_rules | `(tactic| walk_at "fact") => `(tactic| first | assumption | exact .inl (.inl (by walk_at "heap")))
local macro_rules | `(tactic| walk_at "place") => `(tactic| with_reducible first | exact at0 | exact at1 | exact at2 | exact at3 | exact at4 | exact at5 | exact at6 | exact at7 | assumption)

local macro_rules | `(tactic| walk_at "heap") => `(tactic| first | assumption | exact upd_same | ((with_reducible refine (upd_ne (by first | assumption | exact Ne.symm (by assumption))).trans ?_); walk_at "heap"))
local macro_rules | `(tactic| walk_at "in2") => `(tactic| first | with_reducible exact In2.here | ((with_reducible apply In2.there); walk_at "in2"))
local macro_rules | `(tactic| walk_at "rp") => `(tactic| first | with_reducible exact Rp.int _ | with_reducible exact Rp.bl _ | with_reducible exact Rp.non | with_reducible exact Rp.str _ | ((with_reducible apply Wd.get); (focus assumption); walk_at "in2"))
local macro_rules | `(tactic| walk_at "rps") => `(tactic| first | with_reducible exact Rps.nil | ((with_reducible apply Rps.cons); (focus (walk_at "rp")); walk_at "rps"))
local macro_rules | `(tactic| walk_at "bt") => `(tactic| first | assumption | ((with_reducible show Bt _ (_ * _)); (with_reducible apply Bt.mul); (focus (walk_at "bt")); (focus (walk_at "bt"))) | ((with_reducible show Bt _ (_ + _)); (with_reducible apply Bt.add); (focus (walk_at "bt")); (focus (walk_at "bt"))) | ((with_reducible show Bt _ (_ - _)); (with_reducible apply Bt.sub); (focus (walk_at "bt")); (focus (walk_at "bt"))) | ((with_reducible show Bt _ (-_)); (with_reducible apply Bt.neg); (focus (walk_at "bt"))))
def topS (i : Nat) : Stmt := PySem.Challenge.pw_fourcreases_k05_lengths_and_turns.main.body.getD i (.Pass ⟨0, 0, 0, 0⟩)
abbrev s_lowest : Stmt := topS 5
abbrev NN_lowest : List Str := ["top", "bottom", "shared"]
theorem sc_lowest : FnScope ["top", "bottom", "shared"] ["top", "bottom"] (defScope s_lowest) := ⟨rfl, rfl, rfl, by decide +kernel, rfl, by decide +kernel, by decide +kernel⟩
abbrev s_whole_root : Stmt := topS 6
abbrev NN_whole_root : List Str := ["number", "root"]
theorem sc_whole_root : FnScope ["number", "root"] ["number"] (defScope s_whole_root) := ⟨rfl, rfl, rfl, by decide +kernel, rfl, by decide +kernel, by decide +kernel⟩
abbrev s_spread : Stmt := topS 8
abbrev NN_spread : List Str := ["point", "x", "below", "y", "under", "weight"]
theorem sc_spread : FnScope ["point", "x", "below", "y", "under", "weight"] ["point"] (defScope s_spread) := ⟨rfl, rfl, rfl, by decide +kernel, rfl, by decide +kernel, by decide +kernel⟩
abbrev s_arrow : Stmt := topS 9
abbrev NN_arrow : List Str := ["one", "other"]
theorem sc_arrow : FnScope ["one", "other"] ["one", "other"] (defScope s_arrow) := ⟨rfl, rfl, rfl, by decide +kernel, rfl, by decide +kernel, by decide +kernel⟩
abbrev s_dot : Stmt := topS 10
abbrev NN_dot : List Str := ["one", "other"]
theorem sc_dot : FnScope ["one", "other"] ["one", "other"] (defScope s_dot) := ⟨rfl, rfl, rfl, by decide +kernel, rfl, by decide +kernel, by decide +kernel⟩
abbrev s_size_of : Stmt := topS 11
abbrev NN_size_of : List Str := ["vector"]
theorem sc_size_of : FnScope ["vector"] ["vector"] (defScope s_size_of) := ⟨rfl, rfl, rfl, by decide +kernel, rfl, by decide +kernel, by decide +kernel⟩
abbrev s_distance : Stmt := topS 12
abbrev NN_distance : List Str := ["one", "other", "size"]
theorem sc_distance : FnScope ["one", "other", "size"] ["one", "other"] (defScope s_distance) := ⟨rfl, rfl, rfl, by decide +kernel, rfl, by decide +kernel, by decide +kernel⟩
abbrev s_line_through : Stmt := topS 13
abbrev NN_line_through : List Str := ["one", "other"]
theorem sc_line_through : FnScope ["one", "other"] ["one", "other"] (defScope s_line_through) := ⟨rfl, rfl, rfl, by decide +kernel, rfl, by decide +kernel, by decide +kernel⟩
abbrev s_side_of : Stmt := topS 14
abbrev NN_side_of : List Str := ["line", "spot"]
theorem sc_side_of : FnScope ["line", "spot"] ["line", "spot"] (defScope s_side_of) := ⟨rfl, rfl, rfl, by decide +kernel, rfl, by decide +kernel, by decide +kernel⟩
abbrev s_is_integer : Stmt := topS 16
abbrev NN_is_integer : List Str := ["thing"]
theorem sc_is_integer : FnScope ["thing"] ["thing"] (defScope s_is_integer) := ⟨rfl, rfl, rfl, by decide +kernel, rfl, by decide +kernel, by decide +kernel⟩
abbrev s_is_tuple_of : Stmt := topS 17
abbrev NN_is_tuple_of : List Str := ["thing", "many"]
theorem sc_is_tuple_of : FnScope ["thing", "many"] ["thing", "many"] (defScope s_is_tuple_of) := ⟨rfl, rfl, rfl, by decide +kernel, rfl, by decide +kernel, by decide +kernel⟩
abbrev s_is_fraction : Stmt := topS 18
abbrev NN_is_fraction : List Str := ["thing", "top", "bottom"]
theorem sc_is_fraction : FnScope ["thing", "top", "bottom"] ["thing"] (defScope s_is_fraction) := ⟨rfl, rfl, rfl, by decide +kernel, rfl, by decide +kernel, by decide +kernel⟩
abbrev s_are_fractions : Stmt := topS 19
abbrev NN_are_fractions : List Str := ["things", "thing"]
theorem sc_are_fractions : FnScope ["things", "thing"] ["things"] (defScope s_are_fractions) := ⟨rfl, rfl, rfl, by decide +kernel, rfl, by decide +kernel, by decide +kernel⟩
abbrev s_is_point : Stmt := topS 20
abbrev NN_is_point : List Str := ["thing"]
theorem sc_is_point : FnScope ["thing"] ["thing"] (defScope s_is_point) := ⟨rfl, rfl, rfl, by decide +kernel, rfl, by decide +kernel, by decide +kernel⟩
abbrev s_length_of : Stmt := topS 22
abbrev NN_length_of : List Str := ["one", "other"]
theorem sc_length_of : FnScope ["one", "other"] ["one", "other"] (defScope s_length_of) := ⟨rfl, rfl, rfl, by decide +kernel, rfl, by decide +kernel, by decide +kernel⟩
abbrev s_turn_of : Stmt := topS 23
abbrev NN_turn_of : List Str := ["one", "other", "third", "side"]
theorem sc_turn_of : FnScope ["one", "other", "third", "side"] ["one", "other", "third"] (defScope s_turn_of) := ⟨rfl, rfl, rfl, by decide +kernel, rfl, by decide +kernel, by decide +kernel⟩
abbrev s_law_mixed : Stmt := topS 25
abbrev NN_law_mixed : List Str := ["cell", "k", "number"]
theorem sc_law_mixed : FnScope ["cell", "k", "number"] ["cell", "k"] (defScope s_law_mixed) := ⟨rfl, rfl, rfl, by decide +kernel, rfl, by decide +kernel, by decide +kernel⟩
abbrev s_law_great : Stmt := topS 26
abbrev NN_law_great : List Str := ["cells", "place"]
theorem sc_law_great : FnScope ["cells", "place"] ["cells", "place"] (defScope s_law_great) := ⟨rfl, rfl, rfl, by decide +kernel, rfl, by decide +kernel, by decide +kernel⟩
abbrev s_law_stream : Stmt := topS 27
abbrev NN_law_stream : List Str := ["script", "cells"]
theorem sc_law_stream : FnScope ["script", "cells"] ["script"] (defScope s_law_stream) := ⟨rfl, rfl, rfl, by decide +kernel, rfl, by decide +kernel, by decide +kernel⟩
abbrev s_law_take : Stmt := topS 28
abbrev NN_law_take : List Str := ["stream", "many", "cells", "place", "digit"]
theorem sc_law_take : FnScope ["stream", "many", "cells", "place", "digit"] ["stream", "many"] (defScope s_law_take) := ⟨rfl, rfl, rfl, by decide +kernel, rfl, by decide +kernel, by decide +kernel⟩
abbrev s_law_low : Stmt := topS 29
abbrev NN_law_low : List Str := ["top", "bottom", "one", "other"]
theorem sc_law_low : FnScope ["top", "bottom", "one", "other"] ["top", "bottom"] (defScope s_law_low) := ⟨rfl, rfl, rfl, by decide +kernel, rfl, by decide +kernel, by decide +kernel⟩
abbrev s_law_add : Stmt := topS 30
abbrev NN_law_add : List Str := ["one", "other"]
theorem sc_law_add : FnScope ["one", "other"] ["one", "other"] (defScope s_law_add) := ⟨rfl, rfl, rfl, by decide +kernel, rfl, by decide +kernel, by decide +kernel⟩
abbrev s_law_sub : Stmt := topS 31
abbrev NN_law_sub : List Str := ["one", "other"]
theorem sc_law_sub : FnScope ["one", "other"] ["one", "other"] (defScope s_law_sub) := ⟨rfl, rfl, rfl, by decide +kernel, rfl, by decide +kernel, by decide +kernel⟩
abbrev s_law_mul : Stmt := topS 32
abbrev NN_law_mul : List Str := ["one", "other"]
theorem sc_law_mul : FnScope ["one", "other"] ["one", "other"] (defScope s_law_mul) := ⟨rfl, rfl, rfl, by decide +kernel, rfl, by decide +kernel, by decide +kernel⟩
abbrev s_law_plus : Stmt := topS 33
abbrev NN_law_plus : List Str := ["one", "other"]
theorem sc_law_plus : FnScope ["one", "other"] ["one", "other"] (defScope s_law_plus) := ⟨rfl, rfl, rfl, by decide +kernel, rfl, by decide +kernel, by decide +kernel⟩
abbrev s_law_minus : Stmt := topS 34
abbrev NN_law_minus : List Str := ["one", "other"]
theorem sc_law_minus : FnScope ["one", "other"] ["one", "other"] (defScope s_law_minus) := ⟨rfl, rfl, rfl, by decide +kernel, rfl, by decide +kernel, by decide +kernel⟩
abbrev s_law_times : Stmt := topS 35
abbrev NN_law_times : List Str := ["step", "factor"]
theorem sc_law_times : FnScope ["step", "factor"] ["step", "factor"] (defScope s_law_times) := ⟨rfl, rfl, rfl, by decide +kernel, rfl, by decide +kernel, by decide +kernel⟩
abbrev s_law_dot : Stmt := topS 36
abbrev NN_law_dot : List Str := ["one", "other"]
theorem sc_law_dot : FnScope ["one", "other"] ["one", "other"] (defScope s_law_dot) := ⟨rfl, rfl, rfl, by decide +kernel, rfl, by decide +kernel, by decide +kernel⟩
abbrev s_law_root : Stmt := topS 37
abbrev NN_law_root : List Str := ["number", "root", "k", "better"]
theorem sc_law_root : FnScope ["number", "root", "k", "better"] ["number"] (defScope s_law_root) := ⟨rfl, rfl, rfl, by decide +kernel, rfl, by decide +kernel, by decide +kernel⟩
abbrev s_law_size : Stmt := topS 38
abbrev NN_law_size : List Str := ["step", "square", "top", "bottom"]
theorem sc_law_size : FnScope ["step", "square", "top", "bottom"] ["step"] (defScope s_law_size) := ⟨rfl, rfl, rfl, by decide +kernel, rfl, by decide +kernel, by decide +kernel⟩
abbrev s_law_ray : Stmt := topS 39
abbrev NN_law_ray : List Str := ["slope", "top", "bottom"]
theorem sc_law_ray : FnScope ["slope", "top", "bottom"] ["slope"] (defScope s_law_ray) := ⟨rfl, rfl, rfl, by decide +kernel, rfl, by decide +kernel, by decide +kernel⟩
abbrev s_law_slope : Stmt := topS 40
abbrev NN_law_slope : List Str := ["stream", "most", "top"]
theorem sc_law_slope : FnScope ["stream", "most", "top"] ["stream", "most"] (defScope s_law_slope) := ⟨rfl, rfl, rfl, by decide +kernel, rfl, by decide +kernel, by decide +kernel⟩
abbrev s_law_whole : Stmt := topS 41
abbrev NN_law_whole : List Str := ["stream", "size", "sign", "number"]
theorem sc_law_whole : FnScope ["stream", "size", "sign", "number"] ["stream"] (defScope s_law_whole) := ⟨rfl, rfl, rfl, by decide +kernel, rfl, by decide +kernel, by decide +kernel⟩
abbrev s_law_fraction : Stmt := topS 42
abbrev NN_law_fraction : List Str := ["stream", "top"]
theorem sc_law_fraction : FnScope ["stream", "top"] ["stream"] (defScope s_law_fraction) := ⟨rfl, rfl, rfl, by decide +kernel, rfl, by decide +kernel, by decide +kernel⟩
abbrev s_law_tame : Stmt := topS 43
abbrev NN_law_tame : List Str := ["stream", "top"]
theorem sc_law_tame : FnScope ["stream", "top"] ["stream"] (defScope s_law_tame) := ⟨rfl, rfl, rfl, by decide +kernel, rfl, by decide +kernel, by decide +kernel⟩
abbrev s_law_point : Stmt := topS 44
abbrev NN_law_point : List Str := ["stream", "east"]
theorem sc_law_point : FnScope ["stream", "east"] ["stream"] (defScope s_law_point) := ⟨rfl, rfl, rfl, by decide +kernel, rfl, by decide +kernel, by decide +kernel⟩
abbrev s_law_is_integer : Stmt := topS 45
abbrev NN_law_is_integer : List Str := ["thing"]
theorem sc_law_is_integer : FnScope ["thing"] ["thing"] (defScope s_law_is_integer) := ⟨rfl, rfl, rfl, by decide +kernel, rfl, by decide +kernel, by decide +kernel⟩
abbrev s_law_is_frac : Stmt := topS 46
abbrev NN_law_is_frac : List Str := ["thing"]
theorem sc_law_is_frac : FnScope ["thing"] ["thing"] (defScope s_law_is_frac) := ⟨rfl, rfl, rfl, by decide +kernel, rfl, by decide +kernel, by decide +kernel⟩
abbrev s_law_is_point : Stmt := topS 47
abbrev NN_law_is_point : List Str := ["thing"]
theorem sc_law_is_point : FnScope ["thing"] ["thing"] (defScope s_law_is_point) := ⟨rfl, rfl, rfl, by decide +kernel, rfl, by decide +kernel, by decide +kernel⟩
abbrev s_law_no_point : Stmt := topS 48
abbrev NN_law_no_point : List Str := ["stream", "rows"]
theorem sc_law_no_point : FnScope ["stream", "rows"] ["stream"] (defScope s_law_no_point) := ⟨rfl, rfl, rfl, by decide +kernel, rfl, by decide +kernel, by decide +kernel⟩
abbrev s_law_flat : Stmt := topS 49
abbrev NN_law_flat : List Str := ["point"]
theorem sc_law_flat : FnScope ["point"] ["point"] (defScope s_law_flat) := ⟨rfl, rfl, rfl, by decide +kernel, rfl, by decide +kernel, by decide +kernel⟩
abbrev s_law_side : Stmt := topS 50
abbrev NN_law_side : List Str := ["one", "other", "third", "a", "b", "c", "whole"]
theorem sc_law_side : FnScope ["one", "other", "third", "a", "b", "c", "whole"] ["one", "other", "third"] (defScope s_law_side) := ⟨rfl, rfl, rfl, by decide +kernel, rfl, by decide +kernel, by decide +kernel⟩
abbrev s_law_triple : Stmt := topS 51
abbrev NN_law_triple : List Str := ["stream", "spoil", "second", "third", "points", "near", "plain", "slope", "k"]
theorem sc_law_triple : FnScope ["stream", "spoil", "second", "third", "points", "near", "plain", "slope", "k"] ["stream"] (defScope s_law_triple) := ⟨rfl, rfl, rfl, by decide +kernel, rfl, by decide +kernel, by decide +kernel⟩
abbrev s_law_length : Stmt := topS 52
abbrev NN_law_length : List Str := ["one", "other", "by_name"]
theorem sc_law_length : FnScope ["one", "other", "by_name"] ["one", "other", "by_name"] (defScope s_law_length) := ⟨rfl, rfl, rfl, by decide +kernel, rfl, by decide +kernel, by decide +kernel⟩
abbrev s_law_length_asked : Stmt := topS 53
abbrev NN_law_length_asked : List Str := ["one", "other", "by_name", "refused", "told", "again", "due"]
theorem sc_law_length_asked : FnScope ["one", "other", "by_name", "refused", "told", "again", "due"] ["one", "other", "by_name"] (defScope s_law_length_asked) := ⟨rfl, rfl, rfl, by decide +kernel, rfl, by decide +kernel, by decide +kernel⟩
abbrev s_law_turn_asked : Stmt := topS 54
abbrev NN_law_turn_asked : List Str := ["points", "by_name", "refused", "told", "due"]
theorem sc_law_turn_asked : FnScope ["points", "by_name", "refused", "told", "due"] ["points", "by_name"] (defScope s_law_turn_asked) := ⟨rfl, rfl, rfl, by decide +kernel, rfl, by decide +kernel, by decide +kernel⟩
abbrev s_law : Stmt := topS 55
abbrev NN_law : List Str := ["script", "stream", "k", "by_name", "points", "one"]
theorem sc_law : FnScope ["script", "stream", "k", "by_name", "points", "one"] ["script"] (defScope s_law) := ⟨rfl, rfl, rfl, by decide +kernel, rfl, by decide +kernel, by decide +kernel⟩
/-! ### lowest terms -/
def gI (a b : Int) : Int := ((Nat.gcd a.natAbs b.natAbs : Nat) : Int)
def sg (a b : Int) : Int := if b < 0 then -gI a b else gI a b
def nt (a b : Int) : Int := a.fdiv (sg a b)
def bN (a b : Int) : Int := b.fdiv (sg a b)
theorem gI_pos {a b : Int} (h : b ≠ 0) : 0 < gI a b := by
  have : 0 < Nat.gcd a.natAbs b.natAbs := Nat.gcd_pos_of_pos_right _ (by omega)
  unfold gI
  omega
theorem gI_le {a b : Int} (h : b ≠ 0) : gI a b ≤ (b.natAbs : Int) := by
  have : Nat.gcd a.natAbs b.natAbs ≤ b.natAbs := Nat.gcd_le_right _ (by omega)
  unfold gI
  omega
theorem sg_ne {a b : Int} (h : b ≠ 0) : sg a b ≠ 0 := by
  have := gI_pos (a := a) h
  unfold sg
  split <;> omega
theorem sg_abs {a b : Int} : (sg a b).natAbs = Nat.gcd a.natAbs b.natAbs := by
  unfold sg gI
  split <;> omega
theorem gI_dl (a b : Int) : gI a b ∣ a := Int.natAbs_dvd_natAbs.mp (by
  show ((Nat.gcd a.natAbs b.natAbs : Nat) : Int).natAbs ∣ _
  rw [Int.natAbs_natCast]
  exact Nat.gcd_dvd_left _ _)
theorem gI_dr (a b : Int) : gI a b ∣ b := Int.natAbs_dvd_natAbs.mp (by
  show ((Nat.gcd a.natAbs b.natAbs : Nat) : Int).natAbs ∣ _
  rw [Int.natAbs_natCast]
  exact Nat.gcd_dvd_right _ _)
theorem sg_dl (a b : Int) : sg a b ∣ a := by
  unfold sg
  split
  · exact Int.neg_dvd.mpr (gI_dl a b)
  · exact gI_dl a b
theorem sg_dr (a b : Int) : sg a b ∣ b := by
  unfold sg
  split
  · exact Int.neg_dvd.mpr (gI_dr a b)
  · exact gI_dr a b
theorem fdiv_exact {a d q : Int} (hd : d ≠ 0) (e : a = d * q) : a.fdiv d = q := by
  subst e
  exact Int.mul_fdiv_cancel_left q hd
theorem nt_mul {a b : Int} (h : b ≠ 0) : sg a b * nt a b = a := by
  obtain ⟨q, e⟩ := sg_dl a b
  have : nt a b = q := fdiv_exact (sg_ne h) e
  rw [this]
  exact e.symm
theorem nb_mul {a b : Int} (h : b ≠ 0) : sg a b * bN a b = b := by
  obtain ⟨q, e⟩ := sg_dr a b
  have : bN a b = q := fdiv_exact (sg_ne h) e
  rw [this]
  exact e.symm
theorem nb_pos {a b : Int} (h : b ≠ 0) : 0 < bN a b := by
  have e := nb_mul (a := a) h
  have g := gI_pos (a := a) h
  unfold sg at e
  by_cases hb : b < 0
  · rw [if_pos hb] at e
    refine Int.not_le.mp fun hn => ?_
    have := Int.mul_nonneg (Int.le_of_lt g) (Int.neg_nonneg_of_nonpos hn)
    have e2 : gI a b * -bN a b = b := (Int.mul_neg _ _).trans ((Int.neg_mul _ _).symm.trans e)
    omega
  · rw [if_neg hb] at e
    refine Int.not_le.mp fun hn => ?_
    have := Int.mul_nonneg (Int.le_of_lt g) (Int.neg_nonneg_of_nonpos hn)
    have e2 : gI a b * -bN a b = -b := (Int.mul_neg _ _).trans (congrArg Neg.neg e)
    omega
/-- the value stays -/
theorem nt_val {a b : Int} (h : b ≠ 0) : nt a b * b = a * bN a b := by
  have e1 := nt_mul (a := a) h
  have e2 := nb_mul (a := a) h
  calc nt a b * b = nt a b * (sg a b * bN a b) := by rw [e2]
    _ = sg a b * nt a b * bN a b := by rw [← Int.mul_assoc, Int.mul_comm (nt a b)]
    _ = a * bN a b := by rw [e1]
theorem nt_gcd {a b : Int} (h : b ≠ 0) : Nat.gcd (nt a b).natAbs (bN a b).natAbs = 1 := by
  have e1 := congrArg Int.natAbs (nt_mul (a := a) h)
  have e2 := congrArg Int.natAbs (nb_mul (a := a) h)
  rw [Int.natAbs_mul, sg_abs] at e1 e2
  have gp : 0 < Nat.gcd a.natAbs b.natAbs := Nat.gcd_pos_of_pos_right _ (by omega)
  have k : Nat.gcd a.natAbs b.natAbs * Nat.gcd (nt a b).natAbs (bN a b).natAbs = Nat.gcd a.natAbs b.natAbs * 1 := by
    rw [← Nat.gcd_mul_left, e1, e2, Nat.mul_one]
  exact Nat.eq_of_mul_eq_mul_left gp k
theorem nt_le {a b : Int} (h : b ≠ 0) : (nt a b).natAbs ≤ a.natAbs := by
  have e1 := congrArg Int.natAbs (nt_mul (a := a) h)
  rw [Int.natAbs_mul, sg_abs] at e1
  have gp : 0 < Nat.gcd a.natAbs b.natAbs := Nat.gcd_pos_of_pos_right _ (by omega)
  rw [← e1]
  exact Nat.le_mul_of_pos_left _ gp
theorem nb_le {a b : Int} (h : b ≠ 0) : (bN a b).natAbs ≤ b.natAbs := by
  have e1 := congrArg Int.natAbs (nb_mul (a := a) h)
  rw [Int.natAbs_mul, sg_abs] at e1
  have gp : 0 < Nat.gcd a.natAbs b.natAbs := Nat.gcd_pos_of_pos_right _ (by omega)
  have e2 : Nat.gcd a.natAbs b.natAbs * (bN a b).natAbs = b.natAbs := e1
  calc (bN a b).natAbs ≤ Nat.gcd a.natAbs b.natAbs * (bN a b).natAbs := Nat.le_mul_of_pos_left _ gp
    _ = b.natAbs := e2
/-- a pair in lowest terms -/
structure Low (a b : Int) : Prop where
  pos : 1 ≤ b
  one : Nat.gcd a.natAbs b.natAbs = 1
theorem nt_low {a b : Int} (h : b ≠ 0) : Low (nt a b) (bN a b) := ⟨nb_pos h, nt_gcd h⟩
theorem sg_one {a b : Int} (l : Low a b) : sg a b = 1 := by
  unfold sg gI
  have := l.pos
  rw [if_neg (by omega), l.one]
  rfl
theorem nt_id {a b : Int} (l : Low a b) : nt a b = a := by
  unfold nt
  rw [sg_one l]
  exact Int.fdiv_one a
theorem nb_id {a b : Int} (l : Low a b) : bN a b = b := by
  unfold bN
  rw [sg_one l]
  exact Int.fdiv_one b
theorem low_of {a b : Int} (h : 1 ≤ b) (e : bN a b = b) : Low a b := by
  have q := nt_low (a := a) (b := b) (by omega)
  have m := congrArg Int.natAbs (nb_mul (a := a) (b := b) (by omega))
  rw [Int.natAbs_mul, sg_abs, e] at m
  refine ⟨h, ?_⟩
  have bp : 0 < b.natAbs := by omega
  have : Nat.gcd a.natAbs b.natAbs * b.natAbs = 1 * b.natAbs := by rw [m, Nat.one_mul]
  exact Nat.eq_of_mul_eq_mul_right bp this
theorem log_of {j : Int} {k : Nat} (h : j.natAbs < 2 ^ k) (hk : 0 < k) : j.natAbs.log2 < k := PySem.Flt.log2_lt_of hk h
theorem sg_log {a b : Int} (h : b ≠ 0) (hb : b.natAbs.log2 < 9000) : (sg a b).natAbs.log2 < 9000 := by
  have l : (sg a b).natAbs ≤ b.natAbs := by
    rw [sg_abs]
    exact Nat.gcd_le_right _ (by omega)
  have b0 : b.natAbs ≠ 0 := by omega
  have h1 : b.natAbs < 2 ^ 9000 := (Nat.log2_lt b0).mp hb
  have s0 : (sg a b).natAbs ≠ 0 := by
    have := sg_ne (a := a) h
    omega
  exact (Nat.log2_lt s0).mpr (Nat.lt_of_le_of_lt l h1)
theorem eqv_pair {a b c d : Int} : PyData.eqv (.tuple [.int a, .int b]) (.tuple [.int c, .int d]) = decide (a = c ∧ b = d) := by
  show (a == c && (b == d && true)) = _
  rw [Bool.and_true]
  by_cases h1 : a = c
  · subst h1
    rw [beq_self_eq_true, Bool.true_and]
    by_cases h2 : b = d
    · subst h2
      rw [beq_self_eq_true]
      exact (decide_eq_true ⟨rfl, rfl⟩).symm
    · rw [beq_eq_false_iff_ne.mpr h2]
      exact (decide_eq_false fun z => h2 z.2).symm
  · rw [beq_eq_false_iff_ne.mpr h1, Bool.false_and]
    exact (decide_eq_false fun z => h1 z.1).symm

theorem sgn_small {d x : Int} (d0 : 0 ≤ d) (d1 : d < 2) (x0 : 0 ≤ x) (x1 : x < 1000000000000000000000000000000000000000) : ((1 - 2 * d) * x).natAbs < 1000000000000000000000000000000000000000 := by
  have e : d = 0 ∨ d = 1 := by omega
  rcases e with rfl | rfl <;> omega
section
variable {P : Program} {w : World} {K : PySem.W.Frag} {mg : Str → Option Value} {base : Heap}
theorem ok_law_mixed {f : Addr} {fd : FuncData} (F : Fun K "_law_mixed" "_law_mixed" s_law_mixed f fd) (nb : Nb mg) : FnOk P w K mg base CX0 1 f fd ["cell", "k"] sp_mixed := by
  have sc := sc_law_mixed
  refine F.ok sc (fun vs H Q E h => ?_) (fun cdv A outer s H vs Q E hr h => ?_)
  · obtain ⟨c, k, rfl, _⟩ := h
    rfl
  · obtain ⟨c, k, rfl, q⟩ := h
    refine ⟨_, (pss_cons (ps_asg (pe_op op_mod (pe_callTy cq_int (by rfl) nb.int (by decide +kernel) (pa_cons (pe_op op_mul (pe_op op_add (pe_op op_add (pe_op op_mod (pe_callTy cq_int (by rfl) nb.int (by decide +kernel) (pa_cons (pv 0) pa_nil)) pe_int) (pe_op op_mul pe_int (pv 1))) pe_int) pe_int) pa_nil)) pe_int) (pg_name (i := 2) sc.nd rfl (.inl rfl)))
    (pss_cons (ps_asg (pe_op op_mod (pe_callTy cq_int (by rfl) nb.int (by decide +kernel) (pa_cons (pe_op op_mul (pv 2) (pe_op op_add (pe_op op_fdivW (pv 2) pe_int) pe_int)) pa_nil)) pe_int) (pg_name (i := 2) sc.nd rfl (.inl rfl)))
    (pss_one (ps_ret (pe_op op_mod (pe_callTy cq_int (by rfl) nb.int (by decide +kernel) (pa_cons (pe_op op_mul (pv 2) (pe_op op_add (pe_op op_fdivW (pv 2) pe_int) pe_int)) pa_nil)) pe_int))))), ?_⟩
    (rw [show start ["cell", "k", "number"] [.int c, .int k] = [some (.int c), some (.int k), none] from rfl]; try dsimp only [cxOf])
    walk_at "w"
    generalize hn : (c % 2147483647 + 7919 * k + 1) * 48271 % 2147483647 = n
    have n0 : 0 ≤ n := by omega
    have n1 : n < 2147483647 := by omega
    walk_at "w"
    generalize hm : n * (n / 1009 + 69621) % 2147483647 = m
    have m0 : 0 ≤ m := by omega
    have m1 : m < 2147483647 := by omega
    walk_at "w"
    exact q _
theorem ok_law_great {f : Addr} {fd : FuncData} (F : Fun K "_law_great" "_law_great" s_law_great f fd) (nb : Nb mg) : FnOk P w K mg base CX0 1 f fd ["cells", "place"] (sp_great K) := by
  have sc := sc_law_great
  refine F.ok sc (fun vs H Q E h => ?_) (fun cdv A outer s H vs Q E hr h => ?_)
  · obtain ⟨c, p, ns, rfl, _⟩ := h
    rfl
  · obtain ⟨c, p, ns, rfl, hc, p0, q⟩ := h
    refine ⟨_, (pss_cons (ps_if (PW.pt (pw_and (pt_cmpR op_lt (pv 1) (pe_callB cq_len (by rfl) nb.len (by decide +kernel) (pa_cons (pv 0) pa_nil)) (nomark _)) (pw_and1 (pt_cmpR op_ge (pe_callB cq_abs (by rfl) nb.abs (by decide +kernel) (pa_cons (pe_ix ix_list (pv 0) (pv 1) (fun _ _ => rfl)) pa_nil)) (pe_op op_pow pe_int pe_int) (nomark _))))) (pss_one (ps_ret (pe_callB cq_abs (by rfl) nb.abs (by decide +kernel) (pa_cons (pe_ix ix_list (pv 0) (pv 1) (fun _ _ => rfl)) pa_nil)))) pss_nil)
    (pss_one (ps_ret pe_int))), ?_⟩
    (rw [show start ["cells", "place"] [.ref c, .int p] = [some (.ref c), some (.int p)] from rfl]; try dsimp only [cxOf])
    walk_at "w"
    refine w_ifd (fun h1 => ?_) (fun h1 => ?_)
    · skip
      obtain ⟨n, hn⟩ := at_ints p0 h1
      walk_at "w"
      refine w_ifd (fun h2 => ?_) (fun h2 => ?_)
      · walk_at "w"
        exact q _ (by omega)
      · walk_at "w"
        exact q _ (by omega)
    · refine iteF ?_
      walk_at "w"
      exact q _ (by omega)
theorem ok_law_stream {f : Addr} {fd : FuncData} (F : Fun K "_law_stream" "_law_stream" s_law_stream f fd) (nb : Nb mg) (d_law_great : Df P w K mg base CX0 1 "_law_great" ["cells", "place"] (sp_great K)) : FnOk P w K mg base CX0 2 f fd ["script"] (sp_stream K) := by
  have sc := sc_law_stream
  refine F.ok sc (fun vs H Q E h => ?_) (fun cdv A outer s H vs Q E hr h => ?_)
  · obtain ⟨c, ns, rfl, _⟩ := h
    rfl
  · obtain ⟨c, ns, rfl, hc, q⟩ := h
    refine ⟨_, (pss_cons (ps_asg (pe_callTy cq_list (by rfl) nb.list (by decide +kernel) (pa_cons (pv 0) pa_nil)) (pg_name (i := 1) sc.nd rfl (.inl rfl)))
    (pss_cons (ps_if (pt_cmpR op_eq (pe_callB cq_len (by rfl) nb.len (by decide +kernel) (pa_cons (pv 1) pa_nil)) pe_int (nomark _)) (pss_one (ps_asg (pe_lst (pa_cons pe_int pa_nil)) (pg_name (i := 1) sc.nd rfl (.inl rfl)))) pss_nil)
    (pss_one (ps_ret (pe_lst (pa_cons (pv 1) (pa_cons pe_int (pa_cons (pe_call d_law_great.F (hr.mono (by decide)) (by rfl) d_law_great.g d_law_great.kp d_law_great.b .nil pass0 (pa_cons (pv 1) (pa_cons pe_int pa_nil))) (pa_cons pe_int pa_nil))))))))), ?_⟩
    (rw [show start ["script", "cells"] [.ref c] = [some (.ref c), none] from rfl]; try dsimp only [cxOf])
    walk_at "w"
    refine ⟨c, ns.map V.int, rfl, .inl hc, fun l nl => ?_⟩
    walk_at "w"
    have s1 : Same H (upd H l (.lst (ns.map V.int))) := same_new nl
    refine w_ifd (fun h1 => ?_) (fun h1 => ?_)
    · walk_at "w"
      refine nl_mk fun p np => ?_
      walk_at "w"
      refine ⟨p, 0, [0], rfl, .inl (.inl upd_same), by decide, fun g g0 => ?_⟩
      walk_at "w"
      refine nl_mk fun t nt => ?_
      have tp : p ≠ t := ne_of_none upd_same nt
      refine q _ t ((s1.new np).new nt) ((s1.new np).free nt) ⟨p, 0, g, 0, [0], upd_same, by decide, g0, ?_, by decide⟩
      rw [upd_ne tp]
      exact upd_same
    · skip
      walk_at "w"
      refine ⟨l, 0, ns, rfl, .inl (.inl upd_same), by decide, fun g g0 => ?_⟩
      walk_at "w"
      refine nl_mk fun t nt => ?_
      have tp : l ≠ t := ne_of_none upd_same nt
      refine q _ t (s1.new nt) (s1.free nt) ⟨l, 0, g, 0, ns, upd_same, by decide, g0, ?_, by omega⟩
      rw [upd_ne tp]
      exact upd_same
theorem ok_law_take {f : Addr} {fd : FuncData} (F : Fun K "_law_take" "_law_take" s_law_take f fd) (nb : Nb mg) (d_law_great : Df P w K mg base CX0 1 "_law_great" ["cells", "place"] (sp_great K)) (d_law_mixed : Df P w K mg base CX0 1 "_law_mixed" ["cell", "k"] sp_mixed) : FnOk P w K mg base CX0 2 f fd ["stream", "many"] sp_take := by
  have sc := sc_law_take
  refine F.ok sc (fun vs H Q E h => ?_) (fun cdv A outer s H vs Q E hr h => ?_)
  · obtain ⟨a, m, rfl, _⟩ := h
    rfl
  · obtain ⟨a, m, rfl, hm, ⟨c, p, g, n, ns, h1, p0, g0, h4, hl⟩, q⟩ := h
    have ca := stm_ca h1 h4
    refine ⟨_, (pss_cons (ps_asg (pe_ix ix_list (pv 0) pe_int (fun _ _ => rfl)) (pg_name (i := 2) sc.nd rfl (.inl rfl)))
    (pss_cons (ps_asg (pe_ix ix_list (pv 0) pe_int (fun _ _ => rfl)) (pg_name (i := 3) sc.nd rfl (.inl rfl)))
    (pss_cons (ps_asg (pe_op op_add (pe_ix ix_list (pv 0) pe_int (fun _ _ => rfl)) pe_int) (pg_sub (pv 0) pe_int set_list))
    (pss_cons (ps_if (pt_cmpR op_gt (pe_ix ix_list (pv 0) pe_int (fun _ _ => rfl)) pe_int (nomark _)) (pss_cons (ps_asg (pe_op op_mod (pe_callTy cq_int (by rfl) nb.int (by decide +kernel) (pa_cons (pe_ix ix_list (pv 0) pe_int (fun _ _ => rfl)) pa_nil)) (pv 1)) (pg_name (i := 4) sc.nd rfl (.inl rfl)))
    (pss_cons (ps_asg (pe_op op_fdivW (pe_ix ix_list (pv 0) pe_int (fun _ _ => rfl)) (pv 1)) (pg_sub (pv 0) pe_int set_list))
    (pss_one (ps_if (pt_cmpR op_gt (pe_ix ix_list (pv 0) pe_int (fun _ _ => rfl)) pe_int (nomark _)) (pss_one (ps_ret (pv 4))) pss_nil)))) (pss_one (ps_asg (pe_op op_mod (pe_call d_law_mixed.F (hr.mono (by decide)) (by rfl) d_law_mixed.g d_law_mixed.kp d_law_mixed.b .nil pass0 (pa_cons (pe_ix ix_list (pv 2) (pe_op op_mod (pe_callTy cq_int (by rfl) nb.int (by decide +kernel) (pa_cons (pv 3) pa_nil)) (pe_callB cq_len (by rfl) nb.len (by decide +kernel) (pa_cons (pv 2) pa_nil))) (fun _ _ => rfl)) (pa_cons (pe_ix ix_list (pv 0) pe_int (fun _ _ => rfl)) pa_nil))) (pv 1)) (pg_name (i := 4) sc.nd rfl (.inl rfl)))))
    (pss_cons (ps_asg (pe_op op_add (pv 3) pe_int) (pg_sub (pv 0) pe_int set_list))
    (pss_cons (ps_asg (pe_call d_law_great.F (hr.mono (by decide)) (by rfl) d_law_great.g d_law_great.kp d_law_great.b .nil pass0 (pa_cons (pv 2) (pa_cons (pe_op op_add (pv 3) pe_int) pa_nil))) (pg_sub (pv 0) pe_int set_list))
    (pss_one (ps_ret (pv 4))))))))), ?_⟩
    (rw [show start ["stream", "many", "cells", "place", "digit"] [.ref a, .int m] = [some (.ref a), some (.int m), none, none, none] from rfl]; try dsimp only [cxOf])
    walk_at "w"
    refine w_ifd (fun hg => ?_) (fun hg => ?_)
    · walk_at "w"
      refine w_ifd (fun h2 => ?_) (fun h2 => ?_)
      · walk_at "w"
        refine q _ _ ?_ ⟨c, p, g / m, n + 1, ns, upd_same, p0, by omega, ?_, hl⟩ (Int.emod_nonneg _ (by omega)) (Int.emod_lt_of_pos _ (by omega))
        · exact (But.upd.trans But.upd)
        · walk_at "heap"
      · walk_at "w"
        refine ⟨c, p + 1, ns, rfl, .inl (.inl (by walk_at "heap")), by omega, fun g2 g20 => ?_⟩
        walk_at "w"
        refine q _ _ ?_ ⟨c, p + 1, g2, n + 1, ns, upd_same, by omega, g20, ?_, hl⟩ (Int.emod_nonneg _ (by omega)) (Int.emod_lt_of_pos _ (by omega))
        · exact ((But.upd.trans But.upd).trans But.upd).trans But.upd
        · walk_at "heap"
    · obtain ⟨z, hz⟩ := at_ints (ns := ns) (i := p % (ns.length : Int)) (Int.emod_nonneg _ (by omega)) (Int.emod_lt_of_pos _ (by omega))
      walk_at "w"
      refine ⟨z, n + 1, rfl, fun d0 => ?_⟩
      walk_at "w"
      refine ⟨c, p + 1, ns, rfl, .inl (.inl (by walk_at "heap")), by omega, fun g2 g20 => ?_⟩
      walk_at "w"
      refine q _ _ ?_ ⟨c, p + 1, g2, n + 1, ns, upd_same, by omega, g20, ?_, hl⟩ (Int.emod_nonneg _ (by omega)) (Int.emod_lt_of_pos _ (by omega))
      · exact (But.upd.trans But.upd).trans But.upd
      · walk_at "heap"
theorem call_take {H : Hp} {a : Addr} {m : Int} {Q : VK} {E : XK} (s : Stm H a) (hm : 0 < m) (hl : m.natAbs.log2 < 9000) (h : ∀ H' (d : Int), But a H H' → Stm H' a → 0 ≤ d → d < m → Q (.int d) H') : sp_take [.ref a, .int m] H Q E := ⟨a, m, rfl, ⟨hm, hl⟩, s, h⟩
theorem ok_law_whole {f : Addr} {fd : FuncData} (F : Fun K "_law_whole" "_law_whole" s_law_whole f fd) (d_law_take : Df P w K mg base CX0 2 "_law_take" ["stream", "many"] sp_take) : FnOk P w K mg base CX0 3 f fd ["stream"] sp_whole := by
  have sc := sc_law_whole
  refine F.ok sc (fun vs H Q E h => ?_) (fun cdv A outer s H vs Q E hr h => ?_)
  · obtain ⟨a, rfl, _⟩ := h
    rfl
  · obtain ⟨a, rfl, st, q⟩ := h
    refine ⟨_, (pss_cons (ps_asg (pe_call d_law_take.F (hr.mono (by decide)) (by rfl) d_law_take.g d_law_take.kp d_law_take.b .nil pass0 (pa_cons (pv 0) (pa_cons pe_int pa_nil))) (pg_name (i := 1) sc.nd rfl (.inl rfl)))
    (pss_cons (ps_asg (pe_op op_sub pe_int (pe_op op_mul pe_int (pe_call d_law_take.F (hr.mono (by decide)) (by rfl) d_law_take.g d_law_take.kp d_law_take.b .nil pass0 (pa_cons (pv 0) (pa_cons pe_int pa_nil))))) (pg_name (i := 2) sc.nd rfl (.inl rfl)))
    (pss_cons (ps_if (pt_cmpR op_eq (pv 1) pe_int (nomark _)) (pss_one (ps_ret (pe_op op_mul (pv 2) (pe_call d_law_take.F (hr.mono (by decide)) (by rfl) d_law_take.g d_law_take.kp d_law_take.b .nil pass0 (pa_cons (pv 0) (pa_cons pe_int pa_nil)))))) pss_nil)
    (pss_cons (ps_if (pt_cmpR op_eq (pv 1) pe_int (nomark _)) (pss_one (ps_ret (pe_op op_mul (pv 2) (pe_call d_law_take.F (hr.mono (by decide)) (by rfl) d_law_take.g d_law_take.kp d_law_take.b .nil pass0 (pa_cons (pv 0) (pa_cons pe_int pa_nil)))))) pss_nil)
    (pss_cons (ps_if (pt_cmpR op_eq (pv 1) pe_int (nomark _)) (pss_one (ps_ret (pe_op op_mul (pv 2) (pe_call d_law_take.F (hr.mono (by decide)) (by rfl) d_law_take.g d_law_take.kp d_law_take.b .nil pass0 (pa_cons (pv 0) (pa_cons (pe_op op_pow pe_int pe_int) pa_nil)))))) pss_nil)
    (pss_cons (ps_asg (pe_op op_add (pe_op op_mul (pe_call d_law_take.F (hr.mono (by decide)) (by rfl) d_law_take.g d_law_take.kp d_law_take.b .nil pass0 (pa_cons (pv 0) (pa_cons (pe_op op_pow pe_int pe_int) pa_nil))) (pe_op op_pow pe_int pe_int)) (pe_call d_law_take.F (hr.mono (by decide)) (by rfl) d_law_take.g d_law_take.kp d_law_take.b .nil pass0 (pa_cons (pv 0) (pa_cons (pe_op op_pow pe_int pe_int) pa_nil)))) (pg_name (i := 3) sc.nd rfl (.inl rfl)))
    (pss_cons (ps_if (pt_cmpR op_eq (pv 1) pe_int (nomark _)) (pss_one (ps_ret (pe_op op_mul (pv 2) (pv 3)))) pss_nil)
    (pss_one (ps_ret (pe_op op_mul (pv 2) (pe_op op_add (pe_op op_mul (pv 3) (pe_op op_pow pe_int pe_int)) (pe_call d_law_take.F (hr.mono (by decide)) (by rfl) d_law_take.g d_law_take.kp d_law_take.b .nil pass0 (pa_cons (pv 0) (pa_cons (pe_op op_pow pe_int pe_int) pa_nil)))))))))))))), ?_⟩
    (rw [show start ["stream", "size", "sign", "number"] [.ref a] = [some (.ref a), none, none, none] from rfl]; try dsimp only [cxOf])
    walk_at "w"
    refine call_take st (by decide) (by decide) fun H1 z b1 s1 z0 z1 => ?_
    walk_at "w"
    refine call_take s1 (by decide) (by decide) fun H2 d b2 s2 d0 d1 => ?_
    have bb := b1.trans b2
    walk_at "w"
    refine w_ifd (fun h0 => ?_) (fun h0 => ?_)
    · walk_at "w"
      refine call_take s2 (by decide) (by decide) fun H3 x b3 s3 x0 x1 => ?_
      walk_at "w"
      exact q _ _ (bb.trans b3) s3 (sgn_small d0 d1 x0 (Int.lt_of_lt_of_le x1 (by decide)))
    walk_at "w"
    refine w_ifd (fun h0 => ?_) (fun h0 => ?_)
    · walk_at "w"
      refine call_take s2 (by decide) (by decide) fun H3 x b3 s3 x0 x1 => ?_
      walk_at "w"
      exact q _ _ (bb.trans b3) s3 (sgn_small d0 d1 x0 (Int.lt_of_lt_of_le x1 (by decide)))
    walk_at "w"
    refine w_ifd (fun h0 => ?_) (fun h0 => ?_)
    · walk_at "w"
      refine call_take s2 (by decide) (by decide +kernel) fun H3 x b3 s3 x0 x1 => ?_
      walk_at "w"
      exact q _ _ (bb.trans b3) s3 (sgn_small d0 d1 x0 (Int.lt_of_lt_of_le x1 (by decide)))
    walk_at "w"
    refine call_take s2 (by decide) (by decide +kernel) fun H3 x b3 s3 x0 x1 => ?_
    walk_at "w"
    refine call_take s3 (by decide) (by decide +kernel) fun H4 y b4 s4 y0 y1 => ?_
    have b4' := (bb.trans b3).trans b4
    walk_at "w"
    refine w_ifd (fun h0 => ?_) (fun h0 => ?_)
    · walk_at "w"
      exact q _ _ b4' s4 (sgn_small d0 d1 (by omega) (by omega))
    walk_at "w"
    refine call_take s4 (by decide) (by decide +kernel) fun H5 u b5 s5 u0 u1 => ?_
    walk_at "w"
    exact q _ _ (b4'.trans b5) s5 (sgn_small d0 d1 (by omega) (by omega))
end

/-- a new pair in lowest terms -/
def sp_low : Sp := fun vs H Q _ => ∃ a b : Int, vs = [.int a, .int b] ∧ b ≠ 0 ∧ b.natAbs.log2 < 9000 ∧ ∀ H' p, Same H H' → H p = none → H' p = some (.tup [.int (nt a b), .int (bN a b)]) → Q (.ref p) H'
theorem call_low {H : Hp} {a b : Int} {Q : VK} {E : XK} (h0 : b ≠ 0) (hl : b.natAbs.log2 < 9000) (h : ∀ H' p, Same H H' → H p = none → H' p = some (.tup [.int (nt a b), .int (bN a b)]) → Q (.ref p) H') : sp_low [.int a, .int b] H Q E := ⟨a, b, rfl, h0, hl, h⟩
theorem c_low {b : Bool} {sa : Addr} {H0 H : Hp} {acc : List V} {dacc : List PyData} {Q : VK} {E : XK} {x y : Int} (W : Wd b sa H0 H acc dacc) (h0 : y ≠ 0) (hl : y.natAbs.log2 < 9000)
    (h : ∀ H' p, Wd b sa H0 H' (.ref p :: acc) (.tuple [.int (nt x y), .int (bN x y)] :: dacc) → Q (.ref p) H') : sp_low [.int x, .int y] H Q E :=
  ⟨x, y, rfl, h0, hl, fun H' p s np hp => h H' p ((W.go s).put (.tup (W.ne np) hp (.cons (.int _) (.cons (.int _) .nil))))⟩
section
variable {P : Program} {w : World} {K : PySem.W.Frag} {mg : Str → Option Value} {base : Heap}
theorem ok_lowest {f : Addr} {fd : FuncData} (F : Fun K "lowest" "lowest" s_lowest f fd) (mi_gcd : mg "gcd" = some (.builtin "math.gcd")) : FnOk P w K mg base CX0 1 f fd ["top", "bottom"] sp_low := by
  have sc := sc_lowest
  refine F.ok sc (fun vs H Q E h => ?_) (fun cdv A outer s H vs Q E hr h => ?_)
  · obtain ⟨a, b, rfl, _⟩ := h
    rfl
  · obtain ⟨a, b, rfl, h0, hl, q⟩ := h
    refine ⟨_, (pss_cons (ps_asg (pe_callBfun cr_gcd (by rfl) mi_gcd (pa_cons (pv 0) (pa_cons (pv 1) pa_nil))) (pg_name (i := 2) sc.nd rfl (.inl rfl)))
    (pss_cons (ps_if (pt_cmpR op_lt (pv 1) pe_int (nomark _)) (pss_one (ps_asg (pe_un un_neg (pv 2)) (pg_name (i := 2) sc.nd rfl (.inl rfl)))) pss_nil)
    (pss_one (ps_ret (pe_tup (pa_cons (pe_op op_fdivG (pv 0) (pv 2)) (pa_cons (pe_op op_fdivG (pv 1) (pv 2)) pa_nil))))))), ?_⟩
    (rw [show start ["top", "bottom", "shared"] [.int a, .int b] = [some (.int a), some (.int b), none] from rfl]; try dsimp only [cxOf])
    walk_at "w"
    have sc2 : sg a b ≠ 0 ∧ (sg a b).natAbs.log2 < 9000 := ⟨sg_ne (a := a) h0, sg_log (a := a) h0 hl⟩
    refine w_ifd (fun h1 => ?_) (fun h1 => ?_)
    · have e : sg a b = -((Nat.gcd a.natAbs b.natAbs : Nat) : Int) := if_pos h1
      walk_at "w"
      rw [← e]
      walk_at "w"
      refine nt_mk fun p np => ?_
      exact q _ p (same_new np) np upd_same
    · have e : sg a b = ((Nat.gcd a.natAbs b.natAbs : Nat) : Int) := if_neg h1
      walk_at "w"
      rw [← e]
      walk_at "w"
      refine nt_mk fun p np => ?_
      exact q _ p (same_new np) np upd_same
theorem ok_law_low {f : Addr} {fd : FuncData} (F : Fun K "_law_low" "_law_low" s_law_low f fd) (nb : Nb mg) : FnOk P w K mg base CX0 1 f fd ["top", "bottom"] sp_low := by
  have sc := sc_law_low
  refine F.ok sc (fun vs H Q E h => ?_) (fun cdv A outer s H vs Q E hr h => ?_)
  · obtain ⟨a, b, rfl, _⟩ := h
    rfl
  · obtain ⟨a, b, rfl, h0, hl, q⟩ := h
    refine ⟨_, (pss_cons (ps_asg (pe_callB cq_abs (by rfl) nb.abs (by decide +kernel) (pa_cons (pv 0) pa_nil)) (pg_name (i := 2) sc.nd rfl (.inl rfl)))
    (pss_cons (ps_asg (pe_callB cq_abs (by rfl) nb.abs (by decide +kernel) (pa_cons (pv 1) pa_nil)) (pg_name (i := 3) sc.nd rfl (.inl rfl)))
    (pss_cons (ps_while PassesOwn.never (pt_cmpR op_gt (pv 3) pe_int (nomark _)) (pss_one (ps_par (i := 2) (j := 3) (by rfl) sc.nd rfl rfl (by decide) rfl rfl (pa_cons (pv 3) (pa_cons (pe_op op_mod (pe_callTy cq_int (by rfl) nb.int (by decide +kernel) (pa_cons (pv 2) pa_nil)) (pv 3)) pa_nil)) (by rfl))))
    (pss_cons (ps_if (pt_cmpR op_lt (pv 1) pe_int (nomark _)) (pss_one (ps_asg (pe_un un_neg (pv 2)) (pg_name (i := 2) sc.nd rfl (.inl rfl)))) pss_nil)
    (pss_one (ps_ret (pe_tup (pa_cons (pe_op op_fdivG (pv 0) (pv 2)) (pa_cons (pe_op op_fdivG (pv 1) (pv 2)) pa_nil))))))))), ?_⟩
    (rw [show start ["top", "bottom", "one", "other"] [.int a, .int b] = [some (.int a), some (.int b), none, none] from rfl]; try dsimp only [cxOf])
    walk_at "w"
    refine ⟨fun m σ' H' => ∃ x y : Nat, σ' = [some (.int a), some (.int b), some (.int (x : Int)), some (.int (y : Int))] ∧ H' = H ∧ Nat.gcd x y = Nat.gcd a.natAbs b.natAbs ∧ m = y, ⟨_, a.natAbs, b.natAbs, rfl, rfl, rfl, rfl⟩, fun m σ' H' hW => ?_⟩
    obtain ⟨x, y, rfl, rfl, hg, rfl⟩ := hW
    walk_at "w"
    refine w_ifd (fun h1 => ?_) (fun h1 => ?_)
    · refine ⟨fun σ' H'' => ∃ x' y' : Nat, σ' = [some (.int a), some (.int b), some (.int (x' : Int)), some (.int (y' : Int))] ∧ H'' = H' ∧ Nat.gcd x' y' = Nat.gcd a.natAbs b.natAbs ∧ y' < m, fun σ' H'' hN => ?_, ?_⟩
      · obtain ⟨x', y', e1, e2, e3, e4⟩ := hN
        exact ⟨y', e4, x', y', e1, e2, e3, rfl⟩
      · walk_at "w"
        refine ⟨m, x % m, rfl, rfl, ?_, Nat.mod_lt _ (by omega)⟩
        rw [← hg, Nat.gcd_comm x m, Nat.gcd_rec m x, Nat.gcd_comm]
    · have y0 : m = 0 := by omega
      subst y0
      rw [Nat.gcd_zero_right] at hg
      subst hg
      walk_at "w"
      have sc2 : sg a b ≠ 0 ∧ (sg a b).natAbs.log2 < 9000 := ⟨sg_ne (a := a) h0, sg_log (a := a) h0 hl⟩
      refine w_ifd (fun h1 => ?_) (fun h1 => ?_)
      · have e : sg a b = -((Nat.gcd a.natAbs b.natAbs : Nat) : Int) := if_pos h1
        walk_at "w"
        rw [← e]
        walk_at "w"
        refine nt_mk fun p np => ?_
        exact q _ p (same_new np) np upd_same
      · have e : sg a b = ((Nat.gcd a.natAbs b.natAbs : Nat) : Int) := if_neg h1
        walk_at "w"
        rw [← e]
        walk_at "w"
        refine nt_mk fun p np => ?_
        exact q _ p (same_new np) np upd_same
end

def isI : PyData → Bool
  | .int _ => true
  | _ => false
theorem isI_n : isI .none = false := rfl
theorem isI_b {b : Bool} : isI (.bool b) = false := rfl
theorem isI_i {n : Int} : isI (.int n) = true := rfl
theorem isI_s {x : Str} : isI (.str x) = false := rfl
theorem isI_l {l : List PyData} : isI (.list l) = false := rfl
theorem isI_t {l : List PyData} : isI (.tuple l) = false := rfl
theorem isI_d {l : List (PyData × PyData)} : isI (.dict l) = false := rfl
def isB : PyData → Bool
  | .bool _ => true
  | _ => false
def isT : PyData → Bool
  | .tuple _ => true
  | _ => false
/-- a fraction in lowest terms -/
def isF : PyData → Bool
  | .tuple [.int a, .int b] => decide (1 ≤ b ∧ Nat.gcd a.natAbs b.natAbs = 1)
  | _ => false
theorem kd_int {K : PySem.W.Frag} (d : PyData) : PySem.W.kitOne K (.type (tyD d)) (.type "int") = some (isI d || isB d) := by
  cases d with
  | none => exact kit_ty (a := "NoneType") (b := "int") (r := false) (by decide +kernel)
  | bool z => exact kit_ty (a := "bool") (b := "int") (r := true) (by decide +kernel)
  | int z => exact kit_ty (a := "int") (b := "int") (r := true) (by decide +kernel)
  | str z => exact kit_ty (a := "str") (b := "int") (r := false) (by decide +kernel)
  | list z => exact kit_ty (a := "list") (b := "int") (r := false) (by decide +kernel)
  | tuple z => exact kit_ty (a := "tuple") (b := "int") (r := false) (by decide +kernel)
  | dict z => exact kit_ty (a := "dict") (b := "int") (r := false) (by decide +kernel)
theorem kd_bool {K : PySem.W.Frag} (d : PyData) : PySem.W.kitOne K (.type (tyD d)) (.type "bool") = some (isB d) := by
  cases d with
  | none => exact kit_ty (a := "NoneType") (b := "bool") (r := false) (by decide +kernel)
  | bool z => exact kit_ty (a := "bool") (b := "bool") (r := true) (by decide +kernel)
  | int z => exact kit_ty (a := "int") (b := "bool") (r := false) (by decide +kernel)
  | str z => exact kit_ty (a := "str") (b := "bool") (r := false) (by decide +kernel)
  | list z => exact kit_ty (a := "list") (b := "bool") (r := false) (by decide +kernel)
  | tuple z => exact kit_ty (a := "tuple") (b := "bool") (r := false) (by decide +kernel)
  | dict z => exact kit_ty (a := "dict") (b := "bool") (r := false) (by decide +kernel)
theorem kd_tuple {K : PySem.W.Frag} (d : PyData) : PySem.W.kitOne K (.type (tyD d)) (.type "tuple") = some (isT d) := by
  cases d with
  | none => exact kit_ty (a := "NoneType") (b := "tuple") (r := false) (by decide +kernel)
  | bool z => exact kit_ty (a := "bool") (b := "tuple") (r := false) (by decide +kernel)
  | int z => exact kit_ty (a := "int") (b := "tuple") (r := false) (by decide +kernel)
  | str z => exact kit_ty (a := "str") (b := "tuple") (r := false) (by decide +kernel)
  | list z => exact kit_ty (a := "list") (b := "tuple") (r := false) (by decide +kernel)
  | tuple z => exact kit_ty (a := "tuple") (b := "tuple") (r := true) (by decide +kernel)
  | dict z => exact kit_ty (a := "dict") (b := "tuple") (r := false) (by decide +kernel)
theorem w_isD {K : PySem.W.Frag} {sa : Addr} {H : Hp} {Q : VK} {x : V} {d : PyData} {u : String} {b : Bool} (r : Rp sa H x d) (k : PySem.W.kitOne K (.type (tyD d)) (.type u) = some b) (h : Q (.bl b) H) : rIsi K [x, .ty u] H Q := ⟨x, .ty u, _, .type u, b, rfl, .ty u, r.ty, k, h⟩
/-- the bottom of what may be a fraction is not too great -/
def Fit (d : PyData) : Prop := ∀ a b : Int, d = .tuple [.int a, .int b] → b.natAbs.log2 < 9000
def f_isI : List PyData → PyData
  | [d] => .bool (isI d)
  | _ => .none
def f_isF : List PyData → PyData
  | [d] => .bool (isF d)
  | _ => .none
abbrev sp_isI : Sp := Pf (fun ds => ∃ d, ds = [d]) f_isI
abbrev sp_isF : Sp := Pf (fun ds => ∃ d, ds = [d] ∧ Fit d) f_isF
section
variable {b : Bool} {sa : Addr} {H0 H : Hp} {acc : List V} {dacc : List PyData} {Q : VK} {E : XK} {x : V} {d : PyData}
theorem c_isI (W : Wd b sa H0 H acc dacc) (r : Rp sa H x d) (h : ∀ H', Wd b sa H0 H' acc dacc → Q (.bl (isI d)) H') : sp_isI [x] H Q E :=
  call_P (ds := [d]) W (.cons r .nil) ⟨d, rfl⟩ fun H' => v_bl fun W' => h H' (W'.sub (by cases W'.r; assumption))
theorem c_isF (W : Wd b sa H0 H acc dacc) (r : Rp sa H x d) (f : Fit d) (h : ∀ H', Wd b sa H0 H' acc dacc → Q (.bl (isF d)) H') : sp_isF [x] H Q E :=
  call_P (ds := [d]) W (.cons r .nil) ⟨d, rfl, f⟩ fun H' => v_bl fun W' => h H' (W'.sub (by cases W'.r; assumption))
end
theorem rp_isI {sa : Addr} {H : Hp} {x : V} {d : PyData} (r : Rp sa H x d) (h : isI d = true) : ∃ n, d = .int n ∧ x = .int n := by
  cases r with
  | int i => exact ⟨i, rfl, rfl⟩
  | _ => cases h
local macro_rules | `(tactic| walk_at "call1") => `(tactic| first
  | ((with_reducible show sp_isI _ _ _ _); (with_reducible apply c_isI); (focus assumption); (focus (walk_at "rp")); intro _ _)
  | dsimp only [isI_n, isI_b, isI_i, isI_s, isI_l, isI_t, isI_d])
section
variable {P : Program} {w : World} {K : PySem.W.Frag} {mg : Str → Option Value} {base : Heap}
theorem ok_law_is_integer {f : Addr} {fd : FuncData} (F : Fun K "_law_is_integer" "_law_is_integer" s_law_is_integer f fd) (nb : Nb mg) : FnOk P w K mg base CX0 1 f fd ["thing"] sp_isI := by
  have sc := sc_law_is_integer
  refine F.ok sc (fun vs H Q E h => ?_) (fun cdv A outer s H vs Q E hr h => ?_)
  · obtain ⟨sa, ds, t, r, ⟨d, rfl⟩, q⟩ := h
    exact r.lens
  · obtain ⟨sa, ds, t, r, ⟨d, rfl⟩, q⟩ := h
    obtain ⟨x, rfl, r0⟩ := rps1 r
    refine ⟨_, (pss_one (ps_ret (pe_and (pe_callB call_isi (by rfl) nb.isinstance (by decide +kernel) (pa_cons (pv 0) (pa_cons (pe_bltn (v := .ty "int") (u := .type "int") (by rfl) nb.int (by decide +kernel) rfl) pa_nil))) (pe_one (pe_not (pe_callB call_isi (by rfl) nb.isinstance (by decide +kernel) (pa_cons (pv 0) (pa_cons (pe_bltn (v := .ty "bool") (u := .type "bool") (by rfl) nb.bool (by decide +kernel) rfl) pa_nil)))))))), ?_⟩
    (rw [show start ["thing"] [x] = [some (x)] from rfl]; try dsimp only [cxOf])
    have fin : Q (.bl (isI d)) H := q H _ (Same.refl H) (.bl _)
    walk_at "w"
    refine w_isD r0 (kd_int d) ?_
    walk_at "w"
    cases d <;> first
      | exact iteF fin
      | (refine iteT ?_; walk_at "w"; refine w_isD r0 (kd_bool _) ?_; walk_at "w"; exact fin)
theorem ok_law_is_frac {f : Addr} {fd : FuncData} (F : Fun K "_law_is_frac" "_law_is_frac" s_law_is_frac f fd) (nb : Nb mg) (d_law_is_integer : Df P w K mg base CX0 1 "_law_is_integer" ["thing"] sp_isI) (d_law_low : Df P w K mg base CX0 1 "_law_low" ["top", "bottom"] sp_low) : FnOk P w K mg base CX0 2 f fd ["thing"] sp_isF := by
  have sc := sc_law_is_frac
  refine F.ok sc (fun vs H Q E h => ?_) (fun cdv A outer s H vs Q E hr h => ?_)
  · obtain ⟨sa, ds, t, r, ⟨d, rfl, _⟩, q⟩ := h
    exact r.lens
  · obtain ⟨sa, ds, t, r, ⟨d, rfl, fit⟩, q⟩ := h
    obtain ⟨x, rfl, r0⟩ := rps1 r
    · refine ⟨_, (pss_cons (ps_if (PW.pt (pw_or (pt_not (pt_val (pe_callB call_isi (by rfl) nb.isinstance (by decide +kernel) (pa_cons (pv 0) (pa_cons (pe_bltn (v := .ty "tuple") (u := .type "tuple") (by rfl) nb.tuple (by decide +kernel) rfl) pa_nil))))) (pw_or1 (pt_cmpR op_ne (pe_callB cq_len (by rfl) nb.len (by decide +kernel) (pa_cons (pv 0) pa_nil)) pe_int (nomark _))))) (pss_one (ps_ret pe_bl)) pss_nil)
    (pss_cons (ps_if (PW.pt (pw_or (pt_not (pt_val (pe_call d_law_is_integer.F (hr.mono (by decide)) (by rfl) d_law_is_integer.g d_law_is_integer.kp d_law_is_integer.b .nil pass0 (pa_cons (pe_ix ix_tup (pv 0) pe_int (fun _ _ => rfl)) pa_nil)))) (pw_or (pt_not (pt_val (pe_call d_law_is_integer.F (hr.mono (by decide)) (by rfl) d_law_is_integer.g d_law_is_integer.kp d_law_is_integer.b .nil pass0 (pa_cons (pe_ix ix_tup (pv 0) pe_int (fun _ _ => rfl)) pa_nil)))) (pw_or1 (pt_cmpR op_lt (pe_ix ix_tup (pv 0) pe_int (fun _ _ => rfl)) pe_int (nomark _)))))) (pss_one (ps_ret pe_bl)) pss_nil)
    (pss_one (ps_ret (pe_cmpR (op_eqD hr.units) (pe_call d_law_low.F (hr.mono (by decide)) (by rfl) d_law_low.g d_law_low.kp d_law_low.b .nil pass0 (pa_cons (pe_ix ix_tup (pv 0) pe_int (fun _ _ => rfl)) (pa_cons (pe_ix ix_tup (pv 0) pe_int (fun _ _ => rfl)) pa_nil))) (pv 0) (nomark _)))))), ?_⟩
      (rw [show start ["thing"] [x] = [some (x)] from rfl]; try dsimp only [cxOf])
      have W := wd_start t (.cons r0 .nil)
      have fin : ∀ H', Same H H' → Q (.bl (isF d)) H' := fun H' s => q H' _ s (.bl _)
      walk_at "w"
      refine w_isD r0 (kd_tuple d) ?_
      walk_at "w"
      cases d with
      | tuple ds =>
        obtain ⟨p, rfl⟩ : ∃ p, x = .ref p := by
          cases r0
          exact ⟨_, rfl⟩
        refine iteF ?_
        walk_at "w"
        refine w_ifn (fun h2 => ?_) (fun h2 => ?_)
        · walk_at "w"
          have e : isF (.tuple ds) = false := by
            unfold isF
            split
            · next e =>
              injection e with e
              subst e
              exact absurd rfl h2
            · rfl
          rw [e] at fin
          exact fin H (Same.refl H)
        · match ds, h2 with
          | [d0, d1], _ =>
            walk_at "w"
            rename_i x0 W0 _ W1
            refine w_if (fun h3 => ?_) (fun h3 => ?_)
            · walk_at "w"
              have e : isF (.tuple [d0, d1]) = false := by cases d0 <;> first | rfl | cases h3
              rw [e] at fin
              exact fin _ (W1.same rfl)
            · have e0 : isI d0 = true := by cases e : isI d0 <;> rw [e] at h3 <;> first | rfl | cases h3
              obtain ⟨a, rfl, rfl⟩ := rp_isI (W1.get In2.here) e0
              walk_at "w"
              rename_i x1 W2 _ W3
              refine w_if (fun h4 => ?_) (fun h4 => ?_)
              · walk_at "w"
                have e : isF (.tuple [.int a, d1]) = false := by cases d1 <;> first | rfl | cases h4
                rw [e] at fin
                exact fin _ (W3.same rfl)
              · have e1 : isI d1 = true := by cases e : isI d1 <;> rw [e] at h4 <;> first | rfl | cases h4
                obtain ⟨b, rfl, rfl⟩ := rp_isI (W3.get In2.here) e1
                walk_at "w"
                refine w_ifd (fun h5 => ?_) (fun h5 => ?_)
                · walk_at "w"
                  have e : isF (.tuple [.int a, .int b]) = false := decide_eq_false fun z => by omega
                  rw [e] at fin
                  exact fin _ (W3.same rfl)
                · have b1 : 1 ≤ b := by omega
                  walk_at "w"
                  refine c_low W3 (by omega) (fit a b rfl) fun H' q W4 => ?_
                  walk_at "w"
                  have e : PyData.eqv (.tuple [.int (nt a b), .int (bN a b)]) (.tuple [.int a, .int b]) = isF (.tuple [.int a, .int b]) := by
                    by_cases l : Low a b
                    · rw [nt_id l, nb_id l]
                      exact (eqv_pair).trans ((decide_eq_true ⟨rfl, rfl⟩).trans (decide_eq_true ⟨l.pos, l.one⟩).symm)
                    · exact (eqv_pair).trans ((decide_eq_false fun z => l (low_of b1 z.2)).trans (decide_eq_false fun z => l ⟨z.1, z.2⟩).symm)
                  have d1 := (W4.get In2.here).dp (K := K) rfl
                  have d2 := (W4.get (show In2 (.ref p) (.tuple [.int a, .int b]) _ _ by walk_at "in2")).dp (K := K) rfl
                  refine ⟨_, _, d1, d2, rfl, rfl, ?_⟩
                  rw [e]
                  exact fin _ (W4.same rfl)
      | _ =>
        refine iteT ?_
        walk_at "w"
        exact fin H (Same.refl H)
end

section
variable {P : Program} {w : World} {K : PySem.W.Frag} {mg : Str → Option Value} {base : Heap}
theorem ok_is_integer {f : Addr} {fd : FuncData} (F : Fun K "is_integer" "is_integer" s_is_integer f fd) (nb : Nb mg) : FnOk P w K mg base CX0 1 f fd ["thing"] sp_isI := by
  have sc := sc_is_integer
  refine F.ok sc (fun vs H Q E h => ?_) (fun cdv A outer s H vs Q E hr h => ?_)
  · obtain ⟨sa, ds, t, r, ⟨d, rfl⟩, q⟩ := h
    exact r.lens
  · obtain ⟨sa, ds, t, r, ⟨d, rfl⟩, q⟩ := h
    obtain ⟨x, rfl, r0⟩ := rps1 r
    refine ⟨_, (pss_one (ps_ret (pe_and (pe_callB call_isi (by rfl) nb.isinstance (by decide +kernel) (pa_cons (pv 0) (pa_cons (pe_bltn (v := .ty "int") (u := .type "int") (by rfl) nb.int (by decide +kernel) rfl) pa_nil))) (pe_one (pe_not (pe_callB call_isi (by rfl) nb.isinstance (by decide +kernel) (pa_cons (pv 0) (pa_cons (pe_bltn (v := .ty "bool") (u := .type "bool") (by rfl) nb.bool (by decide +kernel) rfl) pa_nil)))))))), ?_⟩
    (rw [show start ["thing"] [x] = [some (x)] from rfl]; try dsimp only [cxOf])
    have fin : Q (.bl (isI d)) H := q H _ (Same.refl H) (.bl _)
    walk_at "w"
    refine w_isD r0 (kd_int d) ?_
    walk_at "w"
    cases d <;> first
      | exact iteF fin
      | (refine iteT ?_; walk_at "w"; refine w_isD r0 (kd_bool _) ?_; walk_at "w"; exact fin)
end

/-! ### fractions as data -/
abbrev Fr (a b : Int) : PyData := .tuple [.int a, .int b]
abbrev rt (x y : Int) : PyData := .tuple [.int (nt x y), .int (bN x y)]
/-- if it is a fraction, top and bottom are below 2 ^ 2000 -/
def Sz (d : PyData) : Prop := ∀ a b : Int, d = Fr a b → Bt 2000 a ∧ Bt 2000 b
theorem Sz.fit {d : PyData} (h : Sz d) : Fit d := fun a b e => (h a b e).2.log (by decide)
theorem sz_fr {a b : Int} (ha : Bt 2000 a) (hb : Bt 2000 b) : Sz (Fr a b) := fun x y e => by
  injection e with e
  injection e with e1 e2
  injection e2 with e2 e3
  injection e1 with e1
  injection e2 with e2
  subst e1 e2
  exact ⟨ha, hb⟩
theorem isF_inv {d : PyData} (h : isF d = true) : ∃ a b, d = Fr a b ∧ Low a b := by
  unfold isF at h
  split at h
  · next a b =>
    have z := of_decide_eq_true h
    exact ⟨a, b, rfl, z.1, z.2⟩
  · cases h
theorem isF_fr {a b : Int} (l : Low a b) : isF (Fr a b) = true := decide_eq_true ⟨l.pos, l.one⟩
theorem isF_rt {x y : Int} (h : y ≠ 0) : isF (rt x y) = true := isF_fr (nt_low h)
/-- two things, of which something is asked -/
def pr2 (S : PyData → Prop) (ds : List PyData) : Prop := ∃ x y, ds = [x, y] ∧ S x ∧ S y
/-- two fractions -/
def prF (X : Int → Int → Int → Int → Prop) (ds : List PyData) : Prop := ∃ a b c d, ds = [Fr a b, Fr c d] ∧ (Low a b ∧ Low c d) ∧ (Bt 2000 a ∧ Bt 2000 b ∧ Bt 2000 c ∧ Bt 2000 d) ∧ X a b c d
def bad2 : List PyData → Bool
  | [x, y] => !(isF x && isF y)
  | _ => true
def badD : List PyData → Bool
  | [x, .tuple [.int c, .int d]] => !(isF x && isF (Fr c d)) || eqB c 0
  | _ => true
def f_plus : List PyData → PyData
  | [.tuple [.int a, .int b], .tuple [.int c, .int d]] => rt (a * d + c * b) (b * d)
  | _ => .none
def f_minus : List PyData → PyData
  | [.tuple [.int a, .int b], .tuple [.int c, .int d]] => rt (a * d - c * b) (b * d)
  | _ => .none
def f_times : List PyData → PyData
  | [.tuple [.int a, .int b], .tuple [.int c, .int d]] => rt (a * c) (b * d)
  | _ => .none
def f_divided : List PyData → PyData
  | [.tuple [.int a, .int b], .tuple [.int c, .int d]] => rt (a * d) (b * c)
  | _ => .none
/-- the sign of a gap -/
def sgn (g : Int) : Int := if g = 0 then 0 else if 0 < g then 1 else -1
def f_sign : List PyData → PyData
  | [.tuple [.int a, .int b], .tuple [.int c, .int d]] => .int (sgn (a * d - c * b))
  | _ => .none
def f_tupof : List PyData → PyData
  | [.tuple l, .int n] => .bool (eqB (l.length : Int) n)
  | [_, .int _] => .bool false
  | _ => .none
abbrev sp_tupof : Sp := Pf (fun ds => ∃ d n, ds = [d, .int n]) f_tupof
abbrev sp_isFp : Sp := Pf (fun ds => ∃ d, ds = [d]) f_isF
abbrev sp_plus : Sp := Pf (prF fun _ _ _ _ => True) f_plus
abbrev sp_minus : Sp := Pf (prF fun _ _ _ _ => True) f_minus
abbrev sp_times : Sp := Pf (prF fun _ _ _ _ => True) f_times
abbrev sp_divided : Sp := Pf (prF fun _ _ c _ => c ≠ 0) f_divided
abbrev sp_two (C : Addr) : Sp := Px C (pr2 fun _ => True) bad2 fun _ => .none
abbrev sp_frac_add (C : Addr) : Sp := Px C (pr2 Sz) bad2 f_plus
abbrev sp_frac_sub (C : Addr) : Sp := Px C (pr2 Sz) bad2 f_minus
abbrev sp_frac_mul (C : Addr) : Sp := Px C (pr2 Sz) bad2 f_times
abbrev sp_frac_div (C : Addr) : Sp := Px C (pr2 Sz) badD f_divided
abbrev sp_frac_sign (C : Addr) : Sp := Px C (pr2 Sz) bad2 f_sign
theorem bad2_inv {x y : PyData} (h : bad2 [x, y] = false) : ∃ a b c d, x = Fr a b ∧ y = Fr c d ∧ Low a b ∧ Low c d := by
  have z : (isF x && isF y) = true := by
    have h : (!(isF x && isF y)) = false := h
    cases e : (isF x && isF y) with
    | true => rfl
    | false =>
      rw [e] at h
      cases h
  rw [Bool.and_eq_true] at z
  obtain ⟨a, b, rfl, l1⟩ := isF_inv z.1
  obtain ⟨c, d, rfl, l2⟩ := isF_inv z.2
  exact ⟨a, b, c, d, rfl, rfl, l1, l2⟩
section
variable {b : Bool} {sa : Addr} {H0 H : Hp} {acc : List V} {dacc : List PyData} {Q : VK} {E : XK} {x : V} {d : PyData}
theorem c_isFp (W : Wd b sa H0 H acc dacc) (r : Rp sa H x d) (h : ∀ H', Wd b sa H0 H' acc dacc → Q (.bl (isF d)) H') : sp_isFp [x] H Q E :=
  call_P (ds := [d]) W (.cons r .nil) ⟨d, rfl⟩ fun H' => v_bl fun W' => h H' (W'.sub (by cases W'.r; assumption))
theorem c_tupof {n : Int} (W : Wd b sa H0 H acc dacc) (r : Rp sa H x d) (h : ∀ H' k, f_tupof [d, .int n] = .bool k → Wd b sa H0 H' acc dacc → Q (.bl k) H') : sp_tupof [x, .int n] H Q E :=
  call_P (ds := [d, .int n]) W (.cons r (.cons (.int n) .nil)) ⟨d, n, rfl⟩ fun H' => by
    have e : ∃ k, f_tupof [d, .int n] = .bool k := by cases d <;> exact ⟨_, rfl⟩
    obtain ⟨k, e⟩ := e
    rw [e]
    exact v_bl fun W' => h H' k e (W'.sub (by cases W'.r; assumption))
end
local macro_rules | `(tactic| walk_at "call1") => `(tactic| first
  | ((with_reducible show sp_isFp _ _ _ _); (with_reducible apply c_isFp); (focus assumption); (focus (walk_at "rp")); intro _ _)
  | ((with_reducible show sp_low _ _ _ _); (with_reducible apply c_low); (focus assumption); (focus (walk_at "ne0")); (focus (exact Bt.log (by walk_at "bt") (by decide))); intro _ _ _))
local macro_rules | `(tactic| walk_at "ne0") => `(tactic| first | assumption | omega | exact Int.ne_of_gt (by assumption))
section
variable {P : Program} {w : World} {K : PySem.W.Frag} {mg : Str → Option Value} {base : Heap}
theorem ok_is_tuple_of {f : Addr} {fd : FuncData} (F : Fun K "is_tuple_of" "is_tuple_of" s_is_tuple_of f fd) (nb : Nb mg) : FnOk P w K mg base CX0 1 f fd ["thing", "many"] sp_tupof := by
  have sc := sc_is_tuple_of
  refine F.ok sc (fun vs H Q E h => ?_) (fun cdv A outer s H vs Q E hr h => ?_)
  · obtain ⟨sa, ds, t, r, ⟨d, n, rfl⟩, q⟩ := h
    exact r.lens
  · obtain ⟨sa, ds, t, r, ⟨d, n, rfl⟩, q⟩ := h
    obtain ⟨x, y, rfl, r0, r1⟩ := rps2 r
    obtain rfl : y = .int n := by cases r1; rfl
    refine ⟨_, (pss_one (ps_ret (pe_and (pe_callB call_isi (by rfl) nb.isinstance (by decide +kernel) (pa_cons (pv 0) (pa_cons (pe_bltn (v := .ty "tuple") (u := .type "tuple") (by rfl) nb.tuple (by decide +kernel) rfl) pa_nil))) (pe_one (pe_cmpR op_eq (pe_callB cq_len (by rfl) nb.len (by decide +kernel) (pa_cons (pv 0) pa_nil)) (pv 1) (nomark _)))))), ?_⟩
    (rw [show start ["thing", "many"] [x, .int n] = [some (x), some (.int n)] from rfl]; try dsimp only [cxOf])
    have W := wd_start t (.cons r0 .nil)
    walk_at "w"
    refine w_isD r0 (kd_tuple d) ?_
    walk_at "w"
    cases d with
    | tuple l =>
      obtain ⟨p, rfl⟩ : ∃ p, x = .ref p := by
        cases r0
        exact ⟨_, rfl⟩
      refine iteT ?_
      walk_at "w"
      exact q H _ (Same.refl H) (.bl _)
    | _ => exact iteF (q H _ (Same.refl H) (.bl _))
theorem ok_is_fraction {f : Addr} {fd : FuncData} (F : Fun K "is_fraction" "is_fraction" s_is_fraction f fd) (nb : Nb mg) (mi_gcd : mg "gcd" = some (.builtin "math.gcd")) (d_is_tuple_of : Df P w K mg base CX0 1 "is_tuple_of" ["thing", "many"] sp_tupof) (d_is_integer : Df P w K mg base CX0 1 "is_integer" ["thing"] sp_isI) : FnOk P w K mg base CX0 2 f fd ["thing"] sp_isFp := by
  have sc := sc_is_fraction
  refine F.ok sc (fun vs H Q E h => ?_) (fun cdv A outer s H vs Q E hr h => ?_)
  · obtain ⟨sa, ds, t, r, ⟨d, rfl⟩, q⟩ := h
    exact r.lens
  · obtain ⟨sa, ds, t, r, ⟨d, rfl⟩, q⟩ := h
    obtain ⟨x, rfl, r0⟩ := rps1 r
    refine ⟨_, (pss_cons (ps_if (pt_not (pt_val (pe_call d_is_tuple_of.F (hr.mono (by decide)) (by rfl) d_is_tuple_of.g d_is_tuple_of.kp d_is_tuple_of.b .nil pass0 (pa_cons (pv 0) (pa_cons pe_int pa_nil))))) (pss_one (ps_ret pe_bl)) pss_nil)
    (pss_cons (ps_asg (pv 0) (pg_tup (n := 2) (by rfl) (pgs_cons (pg_name (i := 1) sc.nd rfl (.inl rfl)) (pgs_cons (pg_name (i := 2) sc.nd rfl (.inl rfl)) pgs_nil))))
    (pss_cons (ps_if (PW.pt (pw_or (pt_not (pt_val (pe_call d_is_integer.F (hr.mono (by decide)) (by rfl) d_is_integer.g d_is_integer.kp d_is_integer.b .nil pass0 (pa_cons (pv 1) pa_nil)))) (pw_or (pt_not (pt_val (pe_call d_is_integer.F (hr.mono (by decide)) (by rfl) d_is_integer.g d_is_integer.kp d_is_integer.b .nil pass0 (pa_cons (pv 2) pa_nil)))) (pw_or1 (pt_cmpR op_lt (pv 2) pe_int (nomark _)))))) (pss_one (ps_ret pe_bl)) pss_nil)
    (pss_one (ps_ret (pe_cmpR op_eq (pe_callBfun cr_gcd (by rfl) mi_gcd (pa_cons (pv 1) (pa_cons (pv 2) pa_nil))) pe_int (nomark _))))))), ?_⟩
    (rw [show start ["thing", "top", "bottom"] [x] = [some (x), none, none] from rfl]; try dsimp only [cxOf])
    have W := wd_start t (.cons r0 .nil)
    have fin : ∀ H', Same H H' → Q (.bl (isF d)) H' := fun H' s => q H' _ s (.bl _)
    walk_at "w"
    refine c_tupof W r0 fun H1 k hk W1 => ?_
    walk_at "w"
    cases k with
    | false =>
      walk_at "w"
      have e : isF d = false := by
        unfold isF
        split
        · exact absurd (show eqB 2 2 = false from PyData.bool.inj hk) (by rw [eqT rfl]; exact Bool.noConfusion)
        · rfl
      rw [e] at fin
      exact fin _ (W1.same rfl)
    | true =>
      obtain ⟨d0, d1, rfl⟩ : ∃ d0 d1, d = .tuple [d0, d1] := by
        cases d with
        | tuple l =>
          have e : (l.length : Int) = 2 := eqB_t (PyData.bool.inj hk)
          match l, e with
          | [d0, d1], _ => exact ⟨d0, d1, rfl⟩
        | _ => cases hk
      obtain ⟨p, rfl⟩ : ∃ p, x = .ref p := by
        cases r0
        exact ⟨_, rfl⟩
      walk_at "w"
      rename_i x0 x1 W2 _ W3
      refine w_if (fun h3 => ?_) (fun h3 => ?_)
      · walk_at "w"
        have e : isF (.tuple [d0, d1]) = false := by cases d0 <;> first | rfl | cases h3
        rw [e] at fin
        exact fin _ (W3.same rfl)
      · have e0 : isI d0 = true := by cases e : isI d0 <;> rw [e] at h3 <;> first | rfl | cases h3
        obtain ⟨a, rfl, rfl⟩ := rp_isI (W3.get (.there .here)) e0
        walk_at "w"
        rename_i W4
        refine w_if (fun h4 => ?_) (fun h4 => ?_)
        · walk_at "w"
          have e : isF (.tuple [.int a, d1]) = false := by cases d1 <;> first | rfl | cases h4
          rw [e] at fin
          exact fin _ (W4.same rfl)
        · have e1 : isI d1 = true := by cases e : isI d1 <;> rw [e] at h4 <;> first | rfl | cases h4
          obtain ⟨b, rfl, rfl⟩ := rp_isI (W4.get .here) e1
          walk_at "w"
          refine w_ifd (fun h5 => ?_) (fun h5 => ?_)
          · walk_at "w"
            have e : isF (.tuple [.int a, .int b]) = false := decide_eq_false fun z => by omega
            rw [e] at fin
            exact fin _ (W4.same rfl)
          · walk_at "w"
            have e : isF (.tuple [.int a, .int b]) = eqB ((Nat.gcd a.natAbs b.natAbs : Nat) : Int) 1 := by
              by_cases g : Nat.gcd a.natAbs b.natAbs = 1
              · rw [eqT (show ((Nat.gcd a.natAbs b.natAbs : Nat) : Int) = 1 by omega)]
                exact decide_eq_true ⟨by omega, g⟩
              · rw [eqF (show ¬ ((Nat.gcd a.natAbs b.natAbs : Nat) : Int) = 1 by omega)]
                exact decide_eq_false fun z => g z.2
            rw [← e]
            exact fin _ (W4.same rfl)
end

section
variable {P : Program} {w : World} {K : PySem.W.Frag} {mg : Str → Option Value} {base : Heap}
theorem badD_of {x : PyData} {c d : Int} (h : bad2 [x, Fr c d] = true) : badD [x, Fr c d] = true := by
  have h : (!(isF x && isF (Fr c d))) = true := h
  show (!(isF x && isF (Fr c d)) || eqB c 0) = true
  rw [h]
  rfl
theorem badD_two {x y : PyData} (h : bad2 [x, y] = true) : badD [x, y] = true := by
  unfold badD
  split
  · next e =>
    injection e with e1 e2
    injection e2 with e2 _
    subst e1 e2
    exact badD_of h
  · rfl
end

/-! ### drawn fractions -/
/-- a fraction in lowest terms, top and bottom below 10 ^ 39 and somewhat -/
abbrev RFr : List PyData → PyData → Prop := fun _ d => ∃ a b, d = Fr a b ∧ Low a b ∧ Bt 131 a ∧ Bt 131 b
abbrev sp_lfraction : Sp := Sf (fun ds => ds = []) RFr
theorem bt_nt {k : Nat} {x y : Int} (h : y ≠ 0) (b : Bt k x) : Bt k (nt x y) := b.le (nt_le h)
theorem bt_bN {k : Nat} {x y : Int} (h : y ≠ 0) (b : Bt k y) : Bt k (bN x y) := b.le (nb_le h)
theorem rfr_rt {x y : Int} (h : y ≠ 0) (bx : Bt 131 x) (by_ : Bt 131 y) : ∃ a b, rt x y = Fr a b ∧ Low a b ∧ Bt 131 a ∧ Bt 131 b := ⟨_, _, rfl, nt_low h, bt_nt h bx, bt_bN h by_⟩
section
variable {P : Program} {w : World} {K : PySem.W.Frag} {mg : Str → Option Value} {base : Heap}
theorem ok_law_fraction {f : Addr} {fd : FuncData} (F : Fun K "_law_fraction" "_law_fraction" s_law_fraction f fd) (nb : Nb mg) (d_law_whole : Df P w K mg base CX0 3 "_law_whole" ["stream"] sp_whole) (d_law_low : Df P w K mg base CX0 1 "_law_low" ["top", "bottom"] sp_low) : FnOk P w K mg base CX0 4 f fd ["stream"] sp_lfraction := by
  have sc := sc_law_fraction
  refine F.ok sc (fun vs H Q E h => ?_) (fun cdv A outer s H vs Q E hr h => ?_)
  · obtain ⟨a, vs', ds, rfl, st, r, rfl, _⟩ := h
    cases r
    rfl
  · obtain ⟨a, vs', ds, rfl, st, r, rfl, q⟩ := h
    cases r
    refine ⟨_, (pss_cons (ps_asg (pe_call d_law_whole.F (hr.mono (by decide)) (by rfl) d_law_whole.g d_law_whole.kp d_law_whole.b .nil pass0 (pa_cons (pv 0) pa_nil)) (pg_name (i := 1) sc.nd rfl (.inl rfl)))
    (pss_one (ps_ret (pe_call d_law_low.F (hr.mono (by decide)) (by rfl) d_law_low.g d_law_low.kp d_law_low.b .nil pass0 (pa_cons (pv 1) (pa_cons (pe_op op_add pe_int (pe_callB cq_abs (by rfl) nb.abs (by decide +kernel) (pa_cons (pe_call d_law_whole.F (hr.mono (by decide)) (by rfl) d_law_whole.g d_law_whole.kp d_law_whole.b .nil pass0 (pa_cons (pv 0) pa_nil)) pa_nil))) pa_nil)))))), ?_⟩
    (rw [show start ["stream", "top"] [.ref a] = [some (.ref a), none] from rfl]; try dsimp only [cxOf])
    have W := wd_startS st .nil
    walk_at "w"
    rename_i H1 x W1 hx H2 y W2 hy
    have bx : Bt 131 x := (bt_39 hx).mono (by decide)
    have bb : Bt 131 (1 + (y.natAbs : Int)) := bt_lit 131 (by omega)
    have nz : (1 + (y.natAbs : Int)) ≠ 0 := by omega
    walk_at "w"
    rename_i H3 p W3
    exact q _ _ _ W3.but (W3.st rfl) (W3.get .here) (rfr_rt nz bx bb)
end

section
variable {P : Program} {w : World} {K : PySem.W.Frag} {mg : Str → Option Value} {base : Heap}
theorem ok_law_add {f : Addr} {fd : FuncData} (F : Fun K "_law_add" "_law_add" s_law_add f fd) (d_law_low : Df P w K mg base CX0 1 "_law_low" ["top", "bottom"] sp_low) : FnOk P w K mg base CX0 2 f fd ["one", "other"] sp_plus := by
  have sc := sc_law_add
  refine F.ok sc (fun vs H Q E h => ?_) (fun cdv A outer s H vs Q E hr h => ?_)
  · obtain ⟨sa, ds, t, r, ⟨a, b, c, d, rfl, _⟩, q⟩ := h
    exact r.lens
  · obtain ⟨sa, ds, t, r, ⟨a, b, c, d, rfl, ⟨l1, l2⟩, ⟨ba, bb, bc, bd⟩, xc⟩, q⟩ := h
    obtain ⟨x, y, rfl, r0, r1⟩ := rps2 r
    obtain ⟨p, rfl⟩ : ∃ p, x = .ref p := by cases r0; exact ⟨_, rfl⟩
    obtain ⟨p2, rfl⟩ : ∃ p, y = .ref p := by cases r1; exact ⟨_, rfl⟩
    refine ⟨_, (pss_one (ps_ret (pe_call d_law_low.F (hr.mono (by decide)) (by rfl) d_law_low.g d_law_low.kp d_law_low.b .nil pass0 (pa_cons (pe_op op_add (pe_op op_mulX (pe_ix ix_tup (pv 0) pe_int (fun _ _ => rfl)) (pe_ix ix_tup (pv 1) pe_int (fun _ _ => rfl))) (pe_op op_mulX (pe_ix ix_tup (pv 1) pe_int (fun _ _ => rfl)) (pe_ix ix_tup (pv 0) pe_int (fun _ _ => rfl)))) (pa_cons (pe_op op_mulX (pe_ix ix_tup (pv 0) pe_int (fun _ _ => rfl)) (pe_ix ix_tup (pv 1) pe_int (fun _ _ => rfl))) pa_nil))))), ?_⟩
    (rw [show start ["one", "other"] [.ref p, .ref p2] = [some (.ref p), some (.ref p2)] from rfl]; try dsimp only [cxOf])
    have W := wd_start t (.cons r0 (.cons r1 .nil))
    have nz : b * d ≠ 0 := (Int.mul_ne_zero (by have := l1.pos; omega) (by have := l2.pos; omega))
    walk_at "w"
    rename_i H1 p3 W3
    exact q _ _ (W3.same rfl) (W3.get .here)
theorem ok_law_sub {f : Addr} {fd : FuncData} (F : Fun K "_law_sub" "_law_sub" s_law_sub f fd) (d_law_low : Df P w K mg base CX0 1 "_law_low" ["top", "bottom"] sp_low) : FnOk P w K mg base CX0 2 f fd ["one", "other"] sp_minus := by
  have sc := sc_law_sub
  refine F.ok sc (fun vs H Q E h => ?_) (fun cdv A outer s H vs Q E hr h => ?_)
  · obtain ⟨sa, ds, t, r, ⟨a, b, c, d, rfl, _⟩, q⟩ := h
    exact r.lens
  · obtain ⟨sa, ds, t, r, ⟨a, b, c, d, rfl, ⟨l1, l2⟩, ⟨ba, bb, bc, bd⟩, xc⟩, q⟩ := h
    obtain ⟨x, y, rfl, r0, r1⟩ := rps2 r
    obtain ⟨p, rfl⟩ : ∃ p, x = .ref p := by cases r0; exact ⟨_, rfl⟩
    obtain ⟨p2, rfl⟩ : ∃ p, y = .ref p := by cases r1; exact ⟨_, rfl⟩
    refine ⟨_, (pss_one (ps_ret (pe_call d_law_low.F (hr.mono (by decide)) (by rfl) d_law_low.g d_law_low.kp d_law_low.b .nil pass0 (pa_cons (pe_op op_sub (pe_op op_mulX (pe_ix ix_tup (pv 0) pe_int (fun _ _ => rfl)) (pe_ix ix_tup (pv 1) pe_int (fun _ _ => rfl))) (pe_op op_mulX (pe_ix ix_tup (pv 1) pe_int (fun _ _ => rfl)) (pe_ix ix_tup (pv 0) pe_int (fun _ _ => rfl)))) (pa_cons (pe_op op_mulX (pe_ix ix_tup (pv 0) pe_int (fun _ _ => rfl)) (pe_ix ix_tup (pv 1) pe_int (fun _ _ => rfl))) pa_nil))))), ?_⟩
    (rw [show start ["one", "other"] [.ref p, .ref p2] = [some (.ref p), some (.ref p2)] from rfl]; try dsimp only [cxOf])
    have W := wd_start t (.cons r0 (.cons r1 .nil))
    have nz : b * d ≠ 0 := (Int.mul_ne_zero (by have := l1.pos; omega) (by have := l2.pos; omega))
    walk_at "w"
    rename_i H1 p3 W3
    exact q _ _ (W3.same rfl) (W3.get .here)
theorem ok_law_mul {f : Addr} {fd : FuncData} (F : Fun K "_law_mul" "_law_mul" s_law_mul f fd) (d_law_low : Df P w K mg base CX0 1 "_law_low" ["top", "bottom"] sp_low) : FnOk P w K mg base CX0 2 f fd ["one", "other"] sp_times := by
  have sc := sc_law_mul
  refine F.ok sc (fun vs H Q E h => ?_) (fun cdv A outer s H vs Q E hr h => ?_)
  · obtain ⟨sa, ds, t, r, ⟨a, b, c, d, rfl, _⟩, q⟩ := h
    exact r.lens
  · obtain ⟨sa, ds, t, r, ⟨a, b, c, d, rfl, ⟨l1, l2⟩, ⟨ba, bb, bc, bd⟩, xc⟩, q⟩ := h
    obtain ⟨x, y, rfl, r0, r1⟩ := rps2 r
    obtain ⟨p, rfl⟩ : ∃ p, x = .ref p := by cases r0; exact ⟨_, rfl⟩
    obtain ⟨p2, rfl⟩ : ∃ p, y = .ref p := by cases r1; exact ⟨_, rfl⟩
    refine ⟨_, (pss_one (ps_ret (pe_call d_law_low.F (hr.mono (by decide)) (by rfl) d_law_low.g d_law_low.kp d_law_low.b .nil pass0 (pa_cons (pe_op op_mulX (pe_ix ix_tup (pv 0) pe_int (fun _ _ => rfl)) (pe_ix ix_tup (pv 1) pe_int (fun _ _ => rfl))) (pa_cons (pe_op op_mulX (pe_ix ix_tup (pv 0) pe_int (fun _ _ => rfl)) (pe_ix ix_tup (pv 1) pe_int (fun _ _ => rfl))) pa_nil))))), ?_⟩
    (rw [show start ["one", "other"] [.ref p, .ref p2] = [some (.ref p), some (.ref p2)] from rfl]; try dsimp only [cxOf])
    have W := wd_start t (.cons r0 (.cons r1 .nil))
    have nz : b * d ≠ 0 := (Int.mul_ne_zero (by have := l1.pos; omega) (by have := l2.pos; omega))
    walk_at "w"
    rename_i H1 p3 W3
    exact q _ _ (W3.same rfl) (W3.get .here)
end

/-! ### fractions of known size: what the sums and products of them are -/
structure Fq (k : Nat) (a b : Int) : Prop where
  low : Low a b
  ba : Bt k a
  bb : Bt k b
theorem Fq.mono {k l : Nat} {a b : Int} (f : Fq k a b) (e : k ≤ l) : Fq l a b := ⟨f.low, f.ba.mono e, f.bb.mono e⟩
theorem fq_rt {k : Nat} {x y : Int} (h : y ≠ 0) (bx : Bt k x) (by_ : Bt k y) : Fq k (nt x y) (bN x y) := ⟨nt_low h, bt_nt h bx, bt_bN h by_⟩
theorem Fq.ne {k : Nat} {a b : Int} (f : Fq k a b) : b ≠ 0 := by
  have := f.low.pos
  omega
/-- one pair for each value -/
theorem low_uni {a b c d : Int} (l : Low a b) (m : Low c d) (e : a * d = c * b) : a = c ∧ b = d := by
  have hb : b ∣ d := by
    have h1 : b.natAbs ∣ a.natAbs * d.natAbs := by
      rw [← Int.natAbs_mul, e, Int.natAbs_mul]
      exact Nat.dvd_mul_left _ _
    exact Int.natAbs_dvd_natAbs.mp ((Nat.Coprime.symm l.one).dvd_of_dvd_mul_left h1)
  have hd : d ∣ b := by
    have h1 : d.natAbs ∣ c.natAbs * b.natAbs := by
      rw [← Int.natAbs_mul, ← e, Int.natAbs_mul]
      exact Nat.dvd_mul_left _ _
    exact Int.natAbs_dvd_natAbs.mp ((Nat.Coprime.symm m.one).dvd_of_dvd_mul_left h1)
  have p1 := l.pos
  have p2 := m.pos
  have ebd : b = d := Int.le_antisymm (Int.le_of_dvd (by omega) hb) (Int.le_of_dvd (by omega) hd)
  subst ebd
  exact ⟨Int.eq_of_mul_eq_mul_right (by omega) e, rfl⟩
theorem c_eqF {K : PySem.W.Frag} {bb : Bool} {sa : Addr} {H0 H : Hp} {acc : List V} {dacc : List PyData} {Q : VK} {x y : V} {a b c d : Int} (W : Wd bb sa H0 H acc dacc) (r1 : Rp sa H x (Fr a b)) (r2 : Rp sa H y (Fr c d)) (h : Q (.bl (eqB a c && eqB b d)) H) : rEqD K x y H Q :=
  ⟨_, _, r1.dp rfl, r2.dp rfl, rfl, rfl, by
    rw [eqv_pair, show decide (a = c ∧ b = d) = (eqB a c && eqB b d) by rw [eqB_def, eqB_def, Bool.decide_and]]
    exact h⟩
theorem c_neF {K : PySem.W.Frag} {bb : Bool} {sa : Addr} {H0 H : Hp} {acc : List V} {dacc : List PyData} {Q : VK} {x y : V} {a b c d : Int} (W : Wd bb sa H0 H acc dacc) (r1 : Rp sa H x (Fr a b)) (r2 : Rp sa H y (Fr c d)) (h : Q (.bl (!(eqB a c && eqB b d))) H) : rNeD K x y H Q :=
  ⟨_, _, r1.dp rfl, r2.dp rfl, rfl, rfl, by
    rw [eqv_pair, show decide (a = c ∧ b = d) = (eqB a c && eqB b d) by rw [eqB_def, eqB_def, Bool.decide_and]]
    exact h⟩
section
variable {C : Addr} {z : Bool} {sa : Addr} {H0 H : Hp} {acc : List V} {dacc : List PyData} {Q : VK} {E : XK} {x y : V} {a b c d : Int} {k l : Nat}
theorem fq_bad {f1 : Fq k a b} {f2 : Fq l c d} : bad2 [Fr a b, Fr c d] = false := by
  show (!(isF (Fr a b) && isF (Fr c d))) = false
  rw [isF_fr f1.low, isF_fr f2.low]
  rfl
theorem c_fadd (W : Wd z sa H0 H acc dacc) (r1 : Rp sa H x (Fr a b)) (r2 : Rp sa H y (Fr c d)) (f1 : Fq k a b) (f2 : Fq l c d) (e : k ≤ 2000 ∧ l ≤ 2000)
    (h : ∀ H' p m n, Wd z sa H0 H' (.ref p :: acc) (Fr m n :: dacc) → Fq (k + l + 1) m n → m * (b * d) = (a * d + c * b) * n → Q (.ref p) H') : sp_frac_add C [x, y] H Q E :=
  call_X (ds := [Fr a b, Fr c d]) W (.cons r1 (.cons r2 .nil)) ⟨_, _, rfl, sz_fr (f1.ba.mono e.1) (f1.bb.mono e.1), sz_fr (f2.ba.mono e.2) (f2.bb.mono e.2)⟩ (fun hb => (by rw [fq_bad (f1 := f1) (f2 := f2)] at hb; cases hb)) fun _ H' => v_tup fun p W' => h H' p _ _ W' (fq_rt (Int.mul_ne_zero f1.ne f2.ne) (((f1.ba.mul f2.bb).add (f2.ba.mul f1.bb)).mono (by omega)) ((f1.bb.mul f2.bb).mono (by omega))) (nt_val (Int.mul_ne_zero f1.ne f2.ne))
theorem c_ladd (W : Wd z sa H0 H acc dacc) (r1 : Rp sa H x (Fr a b)) (r2 : Rp sa H y (Fr c d)) (f1 : Fq k a b) (f2 : Fq l c d) (e : k ≤ 2000 ∧ l ≤ 2000)
    (h : ∀ H' p m n, Wd z sa H0 H' (.ref p :: acc) (Fr m n :: dacc) → Fq (k + l + 1) m n → m * (b * d) = (a * d + c * b) * n → Q (.ref p) H') : sp_plus [x, y] H Q E :=
  call_P (ds := [Fr a b, Fr c d]) W (.cons r1 (.cons r2 .nil)) ⟨_, _, _, _, rfl, ⟨f1.low, f2.low⟩, ⟨f1.ba.mono e.1, f1.bb.mono e.1, f2.ba.mono e.2, f2.bb.mono e.2⟩, trivial⟩ fun H' => v_tup fun p W' => h H' p _ _ W' (fq_rt (Int.mul_ne_zero f1.ne f2.ne) (((f1.ba.mul f2.bb).add (f2.ba.mul f1.bb)).mono (by omega)) ((f1.bb.mul f2.bb).mono (by omega))) (nt_val (Int.mul_ne_zero f1.ne f2.ne))
theorem c_fsub (W : Wd z sa H0 H acc dacc) (r1 : Rp sa H x (Fr a b)) (r2 : Rp sa H y (Fr c d)) (f1 : Fq k a b) (f2 : Fq l c d) (e : k ≤ 2000 ∧ l ≤ 2000)
    (h : ∀ H' p m n, Wd z sa H0 H' (.ref p :: acc) (Fr m n :: dacc) → Fq (k + l + 1) m n → m * (b * d) = (a * d - c * b) * n → Q (.ref p) H') : sp_frac_sub C [x, y] H Q E :=
  call_X (ds := [Fr a b, Fr c d]) W (.cons r1 (.cons r2 .nil)) ⟨_, _, rfl, sz_fr (f1.ba.mono e.1) (f1.bb.mono e.1), sz_fr (f2.ba.mono e.2) (f2.bb.mono e.2)⟩ (fun hb => (by rw [fq_bad (f1 := f1) (f2 := f2)] at hb; cases hb)) fun _ H' => v_tup fun p W' => h H' p _ _ W' (fq_rt (Int.mul_ne_zero f1.ne f2.ne) (((f1.ba.mul f2.bb).sub (f2.ba.mul f1.bb)).mono (by omega)) ((f1.bb.mul f2.bb).mono (by omega))) (nt_val (Int.mul_ne_zero f1.ne f2.ne))
theorem c_lsub (W : Wd z sa H0 H acc dacc) (r1 : Rp sa H x (Fr a b)) (r2 : Rp sa H y (Fr c d)) (f1 : Fq k a b) (f2 : Fq l c d) (e : k ≤ 2000 ∧ l ≤ 2000)
    (h : ∀ H' p m n, Wd z sa H0 H' (.ref p :: acc) (Fr m n :: dacc) → Fq (k + l + 1) m n → m * (b * d) = (a * d - c * b) * n → Q (.ref p) H') : sp_minus [x, y] H Q E :=
  call_P (ds := [Fr a b, Fr c d]) W (.cons r1 (.cons r2 .nil)) ⟨_, _, _, _, rfl, ⟨f1.low, f2.low⟩, ⟨f1.ba.mono e.1, f1.bb.mono e.1, f2.ba.mono e.2, f2.bb.mono e.2⟩, trivial⟩ fun H' => v_tup fun p W' => h H' p _ _ W' (fq_rt (Int.mul_ne_zero f1.ne f2.ne) (((f1.ba.mul f2.bb).sub (f2.ba.mul f1.bb)).mono (by omega)) ((f1.bb.mul f2.bb).mono (by omega))) (nt_val (Int.mul_ne_zero f1.ne f2.ne))
theorem c_fmul (W : Wd z sa H0 H acc dacc) (r1 : Rp sa H x (Fr a b)) (r2 : Rp sa H y (Fr c d)) (f1 : Fq k a b) (f2 : Fq l c d) (e : k ≤ 2000 ∧ l ≤ 2000)
    (h : ∀ H' p m n, Wd z sa H0 H' (.ref p :: acc) (Fr m n :: dacc) → Fq (k + l) m n → m * (b * d) = (a * c) * n → Q (.ref p) H') : sp_frac_mul C [x, y] H Q E :=
  call_X (ds := [Fr a b, Fr c d]) W (.cons r1 (.cons r2 .nil)) ⟨_, _, rfl, sz_fr (f1.ba.mono e.1) (f1.bb.mono e.1), sz_fr (f2.ba.mono e.2) (f2.bb.mono e.2)⟩ (fun hb => (by rw [fq_bad (f1 := f1) (f2 := f2)] at hb; cases hb)) fun _ H' => v_tup fun p W' => h H' p _ _ W' (fq_rt (Int.mul_ne_zero f1.ne f2.ne) (f1.ba.mul f2.ba) (f1.bb.mul f2.bb)) (nt_val (Int.mul_ne_zero f1.ne f2.ne))
theorem c_lmul (W : Wd z sa H0 H acc dacc) (r1 : Rp sa H x (Fr a b)) (r2 : Rp sa H y (Fr c d)) (f1 : Fq k a b) (f2 : Fq l c d) (e : k ≤ 2000 ∧ l ≤ 2000)
    (h : ∀ H' p m n, Wd z sa H0 H' (.ref p :: acc) (Fr m n :: dacc) → Fq (k + l) m n → m * (b * d) = (a * c) * n → Q (.ref p) H') : sp_times [x, y] H Q E :=
  call_P (ds := [Fr a b, Fr c d]) W (.cons r1 (.cons r2 .nil)) ⟨_, _, _, _, rfl, ⟨f1.low, f2.low⟩, ⟨f1.ba.mono e.1, f1.bb.mono e.1, f2.ba.mono e.2, f2.bb.mono e.2⟩, trivial⟩ fun H' => v_tup fun p W' => h H' p _ _ W' (fq_rt (Int.mul_ne_zero f1.ne f2.ne) (f1.ba.mul f2.ba) (f1.bb.mul f2.bb)) (nt_val (Int.mul_ne_zero f1.ne f2.ne))
theorem c_fdiv (W : Wd z sa H0 H acc dacc) (r1 : Rp sa H x (Fr a b)) (r2 : Rp sa H y (Fr c d)) (f1 : Fq k a b) (f2 : Fq l c d) (hc : c ≠ 0) (e : k ≤ 2000 ∧ l ≤ 2000)
    (h : ∀ H' p m n, Wd z sa H0 H' (.ref p :: acc) (Fr m n :: dacc) → Fq (k + l) m n → m * (b * c) = (a * d) * n → Q (.ref p) H') : sp_frac_div C [x, y] H Q E :=
  call_X (ds := [Fr a b, Fr c d]) W (.cons r1 (.cons r2 .nil)) ⟨_, _, rfl, sz_fr (f1.ba.mono e.1) (f1.bb.mono e.1), sz_fr (f2.ba.mono e.2) (f2.bb.mono e.2)⟩ (fun hb => (by rw [show badD [Fr a b, Fr c d] = (bad2 [Fr a b, Fr c d] || eqB c 0) from rfl, fq_bad (f1 := f1) (f2 := f2), eqF hc] at hb; cases hb)) fun _ H' => v_tup fun p W' => h H' p _ _ W' (fq_rt (Int.mul_ne_zero f1.ne hc) (f1.ba.mul f2.bb) (f1.bb.mul f2.ba)) (nt_val (Int.mul_ne_zero f1.ne hc))
theorem c_ldiv (W : Wd z sa H0 H acc dacc) (r1 : Rp sa H x (Fr a b)) (r2 : Rp sa H y (Fr c d)) (f1 : Fq k a b) (f2 : Fq l c d) (hc : c ≠ 0) (e : k ≤ 2000 ∧ l ≤ 2000)
    (h : ∀ H' p m n, Wd z sa H0 H' (.ref p :: acc) (Fr m n :: dacc) → Fq (k + l) m n → m * (b * c) = (a * d) * n → Q (.ref p) H') : sp_divided [x, y] H Q E :=
  call_P (ds := [Fr a b, Fr c d]) W (.cons r1 (.cons r2 .nil)) ⟨_, _, _, _, rfl, ⟨f1.low, f2.low⟩, ⟨f1.ba.mono e.1, f1.bb.mono e.1, f2.ba.mono e.2, f2.bb.mono e.2⟩, hc⟩ fun H' => v_tup fun p W' => h H' p _ _ W' (fq_rt (Int.mul_ne_zero f1.ne hc) (f1.ba.mul f2.bb) (f1.bb.mul f2.ba)) (nt_val (Int.mul_ne_zero f1.ne hc))
theorem c_fsign (W : Wd z sa H0 H acc dacc) (r1 : Rp sa H x (Fr a b)) (r2 : Rp sa H y (Fr c d)) (f1 : Fq k a b) (f2 : Fq l c d) (e : k ≤ 2000 ∧ l ≤ 2000)
    (h : ∀ H', Wd z sa H0 H' acc dacc → Q (.int (sgn (a * d - c * b))) H') : sp_frac_sign C [x, y] H Q E :=
  call_X (ds := [Fr a b, Fr c d]) W (.cons r1 (.cons r2 .nil)) ⟨_, _, rfl, sz_fr (f1.ba.mono e.1) (f1.bb.mono e.1), sz_fr (f2.ba.mono e.2) (f2.bb.mono e.2)⟩ (fun hb => (by rw [fq_bad (f1 := f1) (f2 := f2)] at hb; cases hb)) fun _ H' => v_int fun W' => h H' (W'.sub (by cases W'.r; assumption))
end
local macro_rules | `(tactic| walk_at "fq") => `(tactic| assumption)
local macro_rules | `(tactic| walk_at "call1") => `(tactic| first
  | ((with_reducible show sp_frac_add _ _ _ _ _); (with_reducible apply c_fadd); (focus assumption); (focus (walk_at "rp")); (focus (walk_at "rp")); (focus (walk_at "fq")); (focus (walk_at "fq")); (focus (exact ⟨by decide, by decide⟩)); intro _ _ _ _ _ _ _)
  | ((with_reducible show sp_plus _ _ _ _); (with_reducible apply c_ladd); (focus assumption); (focus (walk_at "rp")); (focus (walk_at "rp")); (focus (walk_at "fq")); (focus (walk_at "fq")); (focus (exact ⟨by decide, by decide⟩)); intro _ _ _ _ _ _ _)
  | ((with_reducible show sp_frac_sub _ _ _ _ _); (with_reducible apply c_fsub); (focus assumption); (focus (walk_at "rp")); (focus (walk_at "rp")); (focus (walk_at "fq")); (focus (walk_at "fq")); (focus (exact ⟨by decide, by decide⟩)); intro _ _ _ _ _ _ _)
  | ((with_reducible show sp_minus _ _ _ _); (with_reducible apply c_lsub); (focus assumption); (focus (walk_at "rp")); (focus (walk_at "rp")); (focus (walk_at "fq")); (focus (walk_at "fq")); (focus (exact ⟨by decide, by decide⟩)); intro _ _ _ _ _ _ _)
  | ((with_reducible show sp_frac_mul _ _ _ _ _); (with_reducible apply c_fmul); (focus assumption); (focus (walk_at "rp")); (focus (walk_at "rp")); (focus (walk_at "fq")); (focus (walk_at "fq")); (focus (exact ⟨by decide, by decide⟩)); intro _ _ _ _ _ _ _)
  | ((with_reducible show sp_times _ _ _ _); (with_reducible apply c_lmul); (focus assumption); (focus (walk_at "rp")); (focus (walk_at "rp")); (focus (walk_at "fq")); (focus (walk_at "fq")); (focus (exact ⟨by decide, by decide⟩)); intro _ _ _ _ _ _ _)
  | ((with_reducible show sp_frac_div _ _ _ _ _); (with_reducible apply c_fdiv); (focus assumption); (focus (walk_at "rp")); (focus (walk_at "rp")); (focus (walk_at "fq")); (focus (walk_at "fq")); (focus assumption); (focus (exact ⟨by decide, by decide⟩)); intro _ _ _ _ _ _ _)
  | ((with_reducible show sp_divided _ _ _ _); (with_reducible apply c_ldiv); (focus assumption); (focus (walk_at "rp")); (focus (walk_at "rp")); (focus (walk_at "fq")); (focus (walk_at "fq")); (focus assumption); (focus (exact ⟨by decide, by decide⟩)); intro _ _ _ _ _ _ _)
  | ((with_reducible show sp_frac_sign _ _ _ _ _); (with_reducible apply c_fsign); (focus assumption); (focus (walk_at "rp")); (focus (walk_at "rp")); (focus (walk_at "fq")); (focus (walk_at "fq")); (focus (exact ⟨by decide, by decide⟩)); intro _ _)
  | ((with_reducible show rEqD _ _ _ _ _); (with_reducible apply c_eqF); (focus assumption); (focus (walk_at "rp")); (focus (walk_at "rp")))
  | ((with_reducible show rNeD _ _ _ _ _); (with_reducible apply c_neF); (focus assumption); (focus (walk_at "rp")); (focus (walk_at "rp"))))

/-! ### roots -/
def f_root : List PyData → PyData
  | [.int n] => if n < 0 then .none else if Float64.isqrt n.toNat * Float64.isqrt n.toNat = n.toNat then .int ((Float64.isqrt n.toNat : Nat) : Int) else .none
  | _ => .none
theorem f_root_neg {n : Int} (h : n < 0) : f_root [.int n] = .none := if_pos h
theorem f_root_sq {r : Nat} : f_root [.int ((r : Int) * r)] = .int (r : Int) := by
  have e : ((r : Int) * r).toNat = r * r := by
    rw [← Int.natCast_mul]
    rfl
  unfold f_root
  simp only []
  rw [if_neg (by have := Int.natCast_nonneg (r * r); rw [Int.natCast_mul] at this; omega), e, isqrt_sq, if_pos rfl]
theorem f_root_no {n : Int} (h : ∀ r : Nat, n ≠ (r : Int) * r) : f_root [.int n] = .none := by
  unfold f_root
  simp only []
  by_cases h0 : n < 0
  · rw [if_pos h0]
  · rw [if_neg h0, if_neg fun e => h (Float64.isqrt n.toNat) (by
      rw [← Int.natCast_mul, e]
      omega)]
/-- either a square, or no root -/
theorem root_cases (n : Int) : (∃ r : Nat, n = (r : Int) * r) ∨ ∀ r : Nat, n ≠ (r : Int) * r := by
  by_cases h : ∃ r : Nat, n = (r : Int) * r
  · exact .inl h
  · exact .inr fun r e => h ⟨r, e⟩
def f_frac_root : List PyData → PyData
  | [.tuple [.int a, .int b]] => match f_root [.int a], f_root [.int b] with
    | .int t, .int u => Fr t u
    | _, _ => .none
  | _ => .none
abbrev sp_wroot : Sp := Pf (fun ds => ∃ n, ds = [.int n] ∧ Bt 8000 n) f_root
abbrev sp_lroot : Sp := Pf (fun ds => ∃ n, ds = [.int n] ∧ 0 ≤ n ∧ Bt 8000 n) f_root
abbrev sp_frac_root (C : Addr) : Sp := Px C (fun ds => ∃ d, ds = [d] ∧ Sz d) (fun ds => match ds with | [d] => !isF d | _ => true) f_frac_root
theorem bt_isq {k : Nat} {n : Int} (h : Bt k n) : Bt k ((Float64.isqrt n.toNat : Nat) : Int) := h.le (by
  have := (isqrt_ok n.toNat).1
  have le : Float64.isqrt n.toNat ≤ Float64.isqrt n.toNat * Float64.isqrt n.toNat := Nat.le_mul_self _
  omega)
theorem newt_half {n x s : Nat} (r : IsRt n s) (h : s < x) : s ≤ (x + n / x) / 2 ∧ 2 * ((x + n / x) / 2 - s) ≤ x - s := by
  have g := newt_ge (n := n) (x := x) (by omega) r.1
  have q : n / x ≤ s := by
    refine Nat.not_lt.mp fun hz => ?_
    have a1 : n / x * x ≤ n := Nat.div_mul_le_self n x
    have a2 : (s + 1) * (s + 1) ≤ n / x * x := Nat.mul_le_mul hz h
    have := r.2
    omega
  omega
section
variable {P : Program} {w : World} {K : PySem.W.Frag} {mg : Str → Option Value} {base : Heap}
theorem ok_whole_root {f : Addr} {fd : FuncData} (F : Fun K "whole_root" "whole_root" s_whole_root f fd) (mi_isqrt : mg "isqrt" = some (.builtin "math.isqrt")) : FnOk P w K mg base CX0 1 f fd ["number"] sp_wroot := by
  have sc := sc_whole_root
  refine F.ok sc (fun vs H Q E h => ?_) (fun cdv A outer s H vs Q E hr h => ?_)
  · obtain ⟨sa, ds, t, r, ⟨n, rfl, _⟩, q⟩ := h
    exact r.lens
  · obtain ⟨sa, ds, t, r, ⟨n, rfl, bn⟩, q⟩ := h
    obtain ⟨x, rfl, r0⟩ := rps1 r
    obtain rfl : x = .int n := by cases r0; rfl
    refine ⟨_, (pss_cons (ps_if (pt_cmpR op_lt (pv 0) pe_int (nomark _)) (pss_one (ps_ret pe_non)) pss_nil)
    (pss_cons (ps_asg (pe_callBfun cr_isqrt (by rfl) mi_isqrt (pa_cons (pv 0) pa_nil)) (pg_name (i := 1) sc.nd rfl (.inl rfl)))
    (pss_cons (ps_if (pt_cmpR op_ne (pe_op op_mulX (pv 1) (pv 1)) (pv 0) (nomark _)) (pss_one (ps_ret pe_non)) pss_nil)
    (pss_one (ps_ret (pv 1)))))), ?_⟩
    (rw [show start ["number", "root"] [.int n] = [some (.int n), none] from rfl]; try dsimp only [cxOf])
    have fin : ∀ v d, f_root [.int n] = d → Rp sa H v d → Q v H := fun v d e rv => q H v (Same.refl H) (by rw [e]; exact rv)
    walk_at "w"
    refine w_ifd (fun h0 => ?_) (fun h0 => ?_)
    · walk_at "w"
      exact fin _ _ (f_root_neg h0) .non
    · walk_at "w"
      refine w_isq (by omega) (by have := bn.log (by decide); rw [show n.toNat = n.natAbs by omega]; exact this) ?_
      have br := bt_isq bn
      walk_at "w"
      refine w_ifn (fun h1 => ?_) (fun h1 => ?_)
      · walk_at "w"
        refine fin _ _ ((if_neg h0).trans (if_neg fun e => h1 ?_)) .non
        rw [← Int.natCast_mul, e]
        omega
      · walk_at "w"
        refine fin _ _ ((if_neg h0).trans (if_pos ?_)) (.int _)
        rw [← Int.natCast_mul] at h1
        omega
theorem ok_law_root {f : Addr} {fd : FuncData} (F : Fun K "_law_root" "_law_root" s_law_root f fd) (nb : Nb mg) : FnOk P w K mg base CX0 1 f fd ["number"] sp_lroot := by
  have sc := sc_law_root
  refine F.ok sc (fun vs H Q E h => ?_) (fun cdv A outer s H vs Q E hr h => ?_)
  · obtain ⟨sa, ds, t, r, ⟨n, rfl, _⟩, q⟩ := h
    exact r.lens
  · obtain ⟨sa, ds, t, r, ⟨n, rfl, n0, bn⟩, q⟩ := h
    obtain ⟨x, rfl, r0⟩ := rps1 r
    obtain rfl : x = .int n := by cases r0; rfl
    refine ⟨_, (pss_cons (ps_if (pt_cmpR op_eq (pv 0) pe_int (nomark _)) (pss_one (ps_ret pe_int)) pss_nil)
    (pss_cons (ps_asg (pe_op oq_shl1 pe_int (pe_op op_fdivW (pe_op op_add (pe_bits (pv 0)) pe_int) pe_int)) (pg_name (i := 1) sc.nd rfl (.inl rfl)))
    (Evl.pss_cut (ps_for PassesOwn.never rfl (pi_range1 (by rfl) nb.range (pa_cons (pe_op op_add (pe_bits (pv 0)) pe_int) pa_nil)) (pg_name (i := 2) sc.nd rfl (.inl rfl)) (pss_cons (ps_asg (pe_op op_fdivW (pe_op op_add (pv 1) (pe_op op_fdivW (pv 0) (pv 1))) pe_int) (pg_name (i := 3) sc.nd rfl (.inl rfl)))
    (pss_cons (ps_if (pt_cmpR op_ge (pv 3) (pv 1) (nomark _)) (pss_one ps_break) pss_nil)
    (pss_one (ps_asg (pv 3) (pg_name (i := 1) sc.nd rfl (.inl rfl)))))))
    (pss_cons (ps_if (pt_cmpR op_eq (pe_op op_mulX (pv 1) (pv 1)) (pv 0) (nomark _)) (pss_one (ps_ret (pv 1))) pss_nil)
    (pss_one (ps_ret pe_non)))))), ?_⟩
    (rw [show start ["number", "root", "k", "better"] [.int n] = [some (.int n), none, none, none] from rfl]; try dsimp only [cxOf])
    have fin : ∀ v d, f_root [.int n] = d → Rp sa H v d → Q v H := fun v d e rv => q H v (Same.refl H) (by rw [e]; exact rv)
    walk_at "w"
    refine w_ifd (fun h0 => ?_) (fun h0 => ?_)
    · walk_at "w"
      refine fin _ _ ?_ (.int 0)
      rw [h0]
      exact f_root_sq (r := 0)
    · walk_at "w"
      have nn : n.natAbs = n.toNat := by omega
      generalize hN : n.toNat = N at nn
      have eN : n = (N : Int) := by omega
      have hB : Builtin.Int.intBits n = N.log2 + 1 := by
        unfold Builtin.Int.intBits
        rw [if_neg (by simpa using h0), nn]
      have N0 : N ≠ 0 := by omega
      have lN : N.log2 < 8000 := (Nat.log2_lt N0).mpr (by rw [← nn]; exact bt_def.mp bn)
      rw [hB]
      refine w_shl (by omega) (by omega) ?_
      have rs := isqrt_ok N
      generalize hs : Float64.isqrt N = s at rs
      generalize hE : (((N.log2 + 1 : Nat) : Int) + 1) / 2 = e
      have e1 : e.toNat = (N.log2 + 2) / 2 := by omega
      generalize e.toNat = E at e1
      have up : N < 2 ^ (N.log2 + 1) := (Nat.log2_lt N0).mp (Nat.lt_succ_self _)
      have s0 : s ≤ 2 ^ E := by
        have h1 : s * s < 2 ^ E * 2 ^ E + 1 := by
          rw [← Nat.pow_add]
          have : 2 ^ (N.log2 + 1) ≤ 2 ^ (E + E) := Nat.pow_le_pow_right (by decide) (by omega)
          have := rs.1
          omega
        refine Nat.not_lt.mp fun z => ?_
        have := Nat.mul_lt_mul'' z z
        omega
      have E0 : 2 ^ E < 2 ^ 4002 := Nat.pow_lt_pow_right (by decide) (by omega)
      walk_at "w"
      refine ⟨fun σ' H' => ∃ o1 o2, σ' = [some (.int n), some (.int (s : Int)), o1, o2] ∧ H' = H, ?_, ?_⟩
      · walk_at "w"
        rw [hB]
        walk_at "w"
        refine lp_range (fun i σ' H' => ∃ (x : Nat) (o1 o2 : Option V), σ' = [some (.int n), some (.int (x : Int)), o1, o2] ∧ H' = H ∧ s ≤ x ∧ 0 < x ∧ x ≤ 2 ^ E ∧ (x - s) * 2 ^ i ≤ 2 ^ E) ⟨2 ^ E, none, none, rfl, rfl, s0, Nat.pow_pos (by decide), Nat.le_refl _, by rw [Nat.pow_zero, Nat.mul_one]; omega⟩ ?_ ?_
        · rintro i σ' H' hi ⟨x, o1, o2, rfl, rfl, sx, x0, xE, xi⟩
          have cx : (0 : Int) < (x : Int) ∧ ((x : Int)).natAbs.log2 < 9000 := ⟨by omega, (Bt.log (k := 4002) (bt_def.mpr (by rw [Int.natAbs_natCast]; exact Nat.lt_of_le_of_lt xE E0)) (by decide))⟩
          walk_at "w"
          rw [eN]
          rw [← Int.natCast_ediv, ← Int.natCast_add, show (((x + N / x : Nat) : Int) / 2) = (((x + N / x) / 2 : Nat) : Int) from rfl]
          refine w_ifd (fun h1 => ?_) (fun h1 => ?_)
          · walk_at "w"
            have xs : x = s := by
              refine Nat.le_antisymm (Nat.not_lt.mp fun z => ?_) sx
              have := newt_half rs z
              omega
            subst xs
            exact ⟨_, _, rfl, rfl⟩
          · walk_at "w"
            have xs : s < x := by
              refine Nat.lt_of_le_of_ne sx fun z => h1 ?_
              have := newt_ge (n := N) (x := x) x0 rs.1
              omega
            obtain ⟨g1, g2⟩ := newt_half rs xs
            refine ⟨(x + N / x) / 2, _, _, rfl, rfl, g1, ?_, by omega, ?_⟩
            · have : 0 < s := Nat.pos_of_ne_zero fun z => by
                have := rs.2
                rw [z] at this
                omega
              omega
            · rw [Nat.pow_succ]
              have : ((x + N / x) / 2 - s) * (2 ^ i * 2) = (2 * ((x + N / x) / 2 - s)) * 2 ^ i := by grind
              rw [this]
              exact Nat.le_trans (Nat.mul_le_mul_right _ g2) xi
        · rintro σ' H' ⟨x, o1, o2, rfl, rfl, sx, x0, xE, xi⟩
          have xs : x = s := by
            refine Nat.le_antisymm (Nat.not_lt.mp fun z => ?_) sx
            have h1 : 2 ^ ((((N.log2 + 1 : Nat) : Int) + 2).toNat) ≤ (x - s) * 2 ^ ((((N.log2 + 1 : Nat) : Int) + 2).toNat) := Nat.le_mul_of_pos_left _ (by omega)
            have h2 : 2 ^ E < 2 ^ ((((N.log2 + 1 : Nat) : Int) + 2).toNat) := Nat.pow_lt_pow_right (by decide) (by omega)
            omega
          subst xs
          exact ⟨_, _, rfl, rfl⟩
      · rintro σ' H' ⟨o1, o2, rfl, rfl⟩
        have bs : Bt 8000 (s : Int) := by
          rw [← hs, ← hN]
          exact bt_isq bn
        walk_at "w"
        refine w_ifd (fun h1 => ?_) (fun h1 => ?_)
        · walk_at "w"
          refine fin _ _ ?_ (.int _)
          rw [← h1]
          exact f_root_sq
        · walk_at "w"
          refine fin _ _ (f_root_no fun r e => h1 ?_) .non
          have : N = r * r := by
            rw [← Int.natCast_mul] at e
            omega
          rw [this, isqrt_sq] at hs
          subst hs
          exact e.symm
end

/-! ### points of the plane, and their weights -/
abbrev Pnt (a b c d : Int) : PyData := .tuple [Fr a b, Fr c d]
abbrev Tri (x y z : Int) : PyData := .tuple [.int x, .int y, .int z]
def rLcm : List V → Hp → VK → Prop := fun vs H Q => ∃ a b : Int, vs = [.int a, .int b] ∧ a.natAbs.log2 < 9000 ∧ b.natAbs.log2 < 9000 ∧ (a.natAbs.lcm b.natAbs).log2 < 18000 ∧ Q (.int ((a.natAbs.lcm b.natAbs : Nat) : Int)) H
def sq2 (a b c d e f : Int) : Int := (d * c - a * f) * (d * c - a * f) + (e * c - b * f) * (e * c - b * f)
def f_dist : List PyData → PyData
  | [.tuple [.int a, .int b, .int c], .tuple [.int d, .int e, .int f]] => (match f_root [.int (sq2 a b c d e f)] with | .int k => rt k (c * f) | _ => .none)
  | _ => .none
abbrev sp_dist : Sp := Pf (fun ds => ∃ a b c d e f, ds = [Tri a b c, Tri d e f] ∧ (Bt 1600 a ∧ Bt 1600 b ∧ Bt 1600 c) ∧ (Bt 1600 d ∧ Bt 1600 e ∧ Bt 1600 f) ∧ 1 ≤ c ∧ 1 ≤ f) f_dist
def f_areF : List PyData → PyData
  | [.tuple [d0, d1]] => .bool (isF d0 && isF d1)
  | _ => .none
abbrev sp_areF : Sp := Pf (fun ds => ∃ d0 d1, ds = [.tuple [d0, d1]]) f_areF
def isP : PyData → Bool
  | .tuple [x, y] => isF x && isF y
  | _ => false
def f_isP : List PyData → PyData
  | [d] => .bool (isP d)
  | _ => .none
abbrev sp_isP : Sp := Pf (fun ds => ∃ d, ds = [d]) f_isP
theorem lp_tup {K : PySem.W.Frag} {a : Addr} {xs : List V} {g : TG} {tb : TS} {D : Ends} {σ : L2.St} {H : Hp} (Pv : Nat → L2.St → Hp → Prop) (h0 : Pv 0 σ H) (hl : ∀ i σ H, i ≤ xs.length → Pv i σ H → SqT K H a xs)
    (hs : ∀ i x σ H, xs[i]? = some x → Pv i σ H → g x σ H fun σ2 H2 => tb { D with nx := Pv (i + 1), ct := Pv (i + 1), bk := D.nx } σ2 H2) (hd : ∀ σ H, Pv xs.length σ H → D.nx σ H) : LoopG (Itt K a) g tb D σ H := for_tup Pv h0 hl hs hd
theorem w_itup {K : PySem.W.Frag} {tl : TE} {σ : L2.St} {H : Hp} {R : It → Hp → Prop} (h : tl σ H fun x H1 => ∃ a, x = .ref a ∧ (∃ xs, SqT K H1 a xs) ∧ R (Itt K a) H1) : iTup K tl σ H R := h
theorem log_max {a b k : Nat} (h : a.log2 < k) (g : b.log2 < k) : (max a b).log2 < k := by
  rcases Nat.le_total a b with e | e
  · rw [Nat.max_eq_right e]; exact g
  · rw [Nat.max_eq_left e]; exact h
theorem cr_lcm {X : Cx} : CallR X (.builtin "math.lcm") rLcm := by
  intro pins s σ H vs us Q I r h
  obtain ⟨a, b, rfl, ha, hb, hl, q⟩ := h
  obtain ⟨u, v, us', rfl, ⟨t, rfl⟩, ⟨t2, rfl⟩, rfl⟩ : ∃ u v us', us = u :: v :: us' ∧ RelV (.int a) u ∧ RelV (.int b) v ∧ us' = [] := by
    cases r with
    | cons ra rn =>
      cases rn with
      | cons rb rm =>
        cases rm
        exact ⟨_, _, _, rfl, ra, rb, rfl⟩
  have e1 : Nat.lcm 1 a.natAbs = a.natAbs := by simp [Nat.lcm]
  have m1 : (max 1 a.natAbs).log2 < 9000 := log_max (by decide) ha
  have m2 : (max a.natAbs b.natAbs).log2 < 9000 := log_max ha hb
  have g := PySem.W.mg_run_lcm a t b t2 (by omega) (by omega) (by
    rw [e1]
    have : PySem.bitsLine = 134217728 := by decide
    rw [this, Int.natAbs_natCast]
    omega)
  rw [e1] at g
  exact PySem.call_function_meets PySem.W.MGF.kind_lcm PySem.W.MGF.plain_lcm PySem.W.MGF.entry_lcm (PySem.W.MGF.args_lcm _ _) g.meets ⟨.int _, H, I.tok _, ⟨_, rfl⟩, q⟩
def wg (b d : Int) : Int := ((b.natAbs.lcm d.natAbs : Nat) : Int)
theorem wg_pos {b d : Int} (hb : 1 ≤ b) (hd : 1 ≤ d) : 1 ≤ wg b d := by
  have := Nat.lcm_pos (show 0 < b.natAbs by omega) (show 0 < d.natAbs by omega)
  unfold wg
  omega
theorem wg_l (b d : Int) : b ∣ wg b d := Int.natAbs_dvd_natAbs.mp (by unfold wg; rw [Int.natAbs_natCast]; exact Nat.dvd_lcm_left _ _)
theorem wg_r (b d : Int) : d ∣ wg b d := Int.natAbs_dvd_natAbs.mp (by unfold wg; rw [Int.natAbs_natCast]; exact Nat.dvd_lcm_right _ _)
theorem wg_le {b d : Int} (hb : 1 ≤ b) (hd : 1 ≤ d) : wg b d ≤ b * d := by
  have h : b.natAbs.lcm d.natAbs ≤ b.natAbs * d.natAbs := Nat.le_of_dvd (Nat.mul_pos (by omega) (by omega)) (Nat.lcm_dvd_mul _ _)
  have e : ((b.natAbs * d.natAbs : Nat) : Int) = b * d := by rw [Int.natCast_mul, Int.natAbs_of_nonneg (by omega), Int.natAbs_of_nonneg (by omega)]
  unfold wg
  omega
/-- the quotient of the weight by a bottom -/
def qt (w b : Int) : Int := w.fdiv b
theorem qt_mul {w b : Int} (h : b ∣ w) : qt w b * b = w := by
  unfold qt
  obtain ⟨c, rfl⟩ := h
  by_cases z : b = 0
  · subst z
    simp
  · rw [Int.mul_fdiv_cancel_left c z]; exact Int.mul_comm c b
theorem bt_wg {k l : Nat} {b d : Int} (hb : 1 ≤ b) (hd : 1 ≤ d) (x : Bt k b) (y : Bt l d) : Bt (k + l) (wg b d) := (x.mul y).le (by
  have := wg_le hb hd
  have := wg_pos hb hd
  omega)
theorem bt_qt {k : Nat} {w b : Int} (hb : 1 ≤ b) (h : b ∣ w) (hw : 1 ≤ w) (x : Bt k w) : Bt k (qt w b) := x.le (by
  have e := qt_mul h
  have p : 0 < qt w b := by
    rcases Int.lt_or_le 0 (qt w b) with z | z
    · exact z
    · have := Int.mul_nonneg (show 0 ≤ -(qt w b) by omega) (show 0 ≤ b by omega)
      have : -(qt w b) * b = -w := by rw [Int.neg_mul, e]
      omega
  have : qt w b * 1 ≤ qt w b * b := Int.mul_le_mul_of_nonneg_left hb (by omega)
  omega)
def f_spread : List PyData → PyData
  | [.tuple [.tuple [.int a, .int b], .tuple [.int c, .int d]]] => Tri (a * qt (wg b d) b) (c * qt (wg b d) d) (wg b d)
  | _ => .none
abbrev sp_spread : Sp := Pf (fun ds => ∃ a b c d, ds = [Pnt a b c d] ∧ Fq 500 a b ∧ Fq 500 c d) f_spread
def f_arrow : List PyData → PyData
  | [.tuple [.int a, .int b, .int c], .tuple [.int d, .int e, .int f]] => .tuple [.int (d * c - a * f), .int (e * c - b * f)]
  | _ => .none
abbrev sp_arrow : Sp := Pf (fun ds => ∃ a b c d e f, ds = [Tri a b c, Tri d e f] ∧ (Bt 1600 a ∧ Bt 1600 b ∧ Bt 1600 c) ∧ (Bt 1600 d ∧ Bt 1600 e ∧ Bt 1600 f)) f_arrow
def f_dot : List PyData → PyData
  | [.tuple [.int a, .int b], .tuple [.int d, .int e]] => .int (a * d + b * e)
  | _ => .none
abbrev sp_dot : Sp := Pf (fun ds => ∃ a b d e, ds = [Fr a b, Fr d e] ∧ (Bt 3500 a ∧ Bt 3500 b) ∧ (Bt 3500 d ∧ Bt 3500 e)) f_dot
def f_line : List PyData → PyData
  | [.tuple [.int a, .int b, .int c], .tuple [.int d, .int e, .int f]] => Tri (b * f - c * e) (c * d - a * f) (a * e - b * d)
  | _ => .none
abbrev sp_line : Sp := Pf (fun ds => ∃ a b c d e f, ds = [Tri a b c, Tri d e f] ∧ (Bt 1600 a ∧ Bt 1600 b ∧ Bt 1600 c) ∧ (Bt 1600 d ∧ Bt 1600 e ∧ Bt 1600 f)) f_line
def f_side : List PyData → PyData
  | [.tuple [.int a, .int b, .int c], .tuple [.int d, .int e, .int f]] => .int (a * d + b * e + c * f)
  | _ => .none
abbrev sp_side : Sp := Pf (fun ds => ∃ a b c d e f, ds = [Tri a b c, Tri d e f] ∧ (Bt 3500 a ∧ Bt 3500 b ∧ Bt 3500 c) ∧ (Bt 1600 d ∧ Bt 1600 e ∧ Bt 1600 f)) f_side
def f_size : List PyData → PyData
  | [.tuple [.int a, .int b]] => f_root [.int (a * a + b * b)]
  | _ => .none
abbrev sp_size : Sp := Pf (fun ds => ∃ a b, ds = [Fr a b] ∧ Bt 3500 a ∧ Bt 3500 b) f_size
theorem w_lcm {a b : Int} {k l : Nat} {H : Hp} {Q : VK} (f1 : 1 ≤ a ∧ Bt k a) (f2 : 1 ≤ b ∧ Bt l b) (e : (0 < k ∧ k ≤ 4000) ∧ 0 < l ∧ l ≤ 4000) (h : Q (.int (wg a b)) H) : rLcm [.int a, .int b] H Q :=
  ⟨a, b, rfl, f1.2.log ⟨e.1.1, by omega⟩, f2.2.log ⟨e.2.1, by omega⟩, by
    have := (bt_wg f1.1 f2.1 f1.2 f2.2).log ⟨by omega, by omega⟩
    unfold wg at this
    rw [Int.natAbs_natCast] at this
    omega, h⟩
theorem g_tup2G {b : Bool} {sa : Addr} {H0 H : Hp} {acc : List V} {dacc : List PyData} {K : PySem.W.Frag} {p : Addr} {d0 d1 : PyData} {g1 g2 : TG} {σ : L2.St} {Q : L2.St → Hp → Prop} (W : Wd b sa H0 H acc dacc) (m : In2 (.ref p) (.tuple [d0, d1]) acc dacc)
    (h : VS d0 fun x => VS d1 fun y => Wd b sa H0 H (y :: x :: acc) (d1 :: d0 :: dacc) → gCons g1 (gCons g2 gNil) [x, y] σ H Q) : gTup K 2 (gCons g1 (gCons g2 gNil)) (.ref p) σ H Q := by
  cases W.get m with
  | @tup _ xs _ n hx r =>
    obtain ⟨x, y, rfl, r0, r1⟩ := rps2 r
    exact ⟨p, [x, y], rfl, SqT.of hx, rfl, ((h.of r0).of r1) ((W.put r0).put r1)⟩
theorem w_gcons {g : TG} {gs : List V → L2.St → Hp → (L2.St → Hp → Prop) → Prop} {x : V} {xs : List V} {σ : L2.St} {H : Hp} {Q : L2.St → Hp → Prop} (h : g x σ H fun σ1 H1 => gs xs σ1 H1 Q) : gCons g gs (x :: xs) σ H Q := ⟨x, xs, rfl, h⟩
theorem w_gnil {σ : L2.St} {H : Hp} {Q : L2.St → Hp → Prop} (h : Q σ H) : gNil [] σ H Q := ⟨rfl, h⟩
theorem c_isP {b : Bool} {sa : Addr} {H0 H : Hp} {acc : List V} {dacc : List PyData} {x : V} {d : PyData} {Q : VK} {E : XK} (W : Wd b sa H0 H acc dacc) (r : Rp sa H x d) (h : ∀ H', Wd b sa H0 H' acc dacc → Q (.bl (isP d)) H') : sp_isP [x] H Q E :=
  call_P (ds := [d]) W (.cons r .nil) ⟨d, rfl⟩ fun H' => v_bl fun W' => h H' (W'.sub (by cases W'.r; assumption))
theorem isP_inv {d : PyData} (h : isP d = true) : ∃ a b c e, d = Pnt a b c e ∧ Low a b ∧ Low c e := by
  unfold isP at h
  split at h
  · rename_i x y
    obtain ⟨hx, hy⟩ := Bool.and_eq_true_iff.mp h
    obtain ⟨a, b, rfl, l⟩ := isF_inv hx
    obtain ⟨c, e, rfl, m⟩ := isF_inv hy
    exact ⟨a, b, c, e, rfl, l, m⟩
  · cases h
def SzP (d : PyData) : Prop := ∀ a b c e : Int, d = Pnt a b c e → Bt 500 a ∧ Bt 500 b ∧ Bt 500 c ∧ Bt 500 e
def badP2 : List PyData → Bool
  | [d, e] => !isP d || !isP e
  | _ => true
def f_len : List PyData → PyData
  | [d, e] => f_dist [f_spread [d], f_spread [e]]
  | _ => .none
abbrev sp_len (C : Addr) : Sp := Px C (pr2 SzP) badP2 f_len
def badP3 : List PyData → Bool
  | [d, e, g] => !isP d || !isP e || !isP g
  | _ => true
def sgnD : PyData → PyData
  | .int z => .int (sgn z)
  | _ => .none
def f_turn : List PyData → PyData
  | [d, e, g] => sgnD (f_side [f_line [f_spread [d], f_spread [e]], f_spread [g]])
  | _ => .none
abbrev sp_turn (C : Addr) : Sp := Px C (fun ds => ∃ x y z, ds = [x, y, z] ∧ SzP x ∧ SzP y ∧ SzP z) badP3 f_turn
local macro_rules | `(tactic| walk_at "call1") => `(tactic| ((with_reducible show sp_isP _ _ _ _); (with_reducible apply c_isP); (focus assumption); (focus (walk_at "rp")); intro _ _))
/-- the spread of a point: its parts and their sizes -/
theorem spr {a b c d : Int} (f1 : Fq 500 a b) (f2 : Fq 500 c d) : 1 ≤ wg b d ∧ Bt 1600 (a * qt (wg b d) b) ∧ Bt 1600 (c * qt (wg b d) d) ∧ Bt 1600 (wg b d) ∧ (a * qt (wg b d) b) * b = a * wg b d ∧ (c * qt (wg b d) d) * d = c * wg b d := by
  have p1 : 1 ≤ b := f1.low.pos
  have p2 : 1 ≤ d := f2.low.pos
  have bw : Bt 1000 (wg b d) := bt_wg p1 p2 f1.bb f2.bb
  have wp := wg_pos p1 p2
  have q1 : Bt 1000 (qt (wg b d) b) := bt_qt p1 (wg_l b d) wp bw
  have q2 : Bt 1000 (qt (wg b d) d) := bt_qt p2 (wg_r b d) wp bw
  exact ⟨wp, (f1.ba.mul q1).mono (by decide), (f2.ba.mul q2).mono (by decide), bw.mono (by decide), by rw [Int.mul_assoc, qt_mul (wg_l b d)], by rw [Int.mul_assoc, qt_mul (wg_r b d)]⟩
theorem w_qt {a b : Int} {k : Nat} {H : Hp} {Q : VK} (hb : 1 ≤ b) (h : Bt k b) (e : 0 < k ∧ k ≤ 9000) (q : Q (.int (qt a b)) H) : rI (fun _ j => j ≠ 0 ∧ j.natAbs.log2 < 9000) (fun i j => .int (i.fdiv j)) (.int a) (.int b) H Q := ⟨a, b, rfl, rfl, ⟨by omega, h.log e⟩, q⟩
local macro_rules | `(tactic| walk_at "call1") => `(tactic| first
  | ((with_reducible show gTup _ _ _ _ _ _ _); (with_reducible apply g_tup2G); (focus assumption); (focus (walk_at "in2")))
  | ((with_reducible show gCons _ _ _ _ _ _); with_reducible refine w_gcons ?_)
  | ((with_reducible show gNil _ _ _ _); with_reducible refine w_gnil ?_))
section
variable {P : Program} {w : World} {K : PySem.W.Frag} {mg : Str → Option Value} {base : Heap}
theorem ok_spread {f : Addr} {fd : FuncData} (F : Fun K "spread" "spread" s_spread f fd) (mi_lcm : mg "lcm" = some (.builtin "math.lcm")) : FnOk P w K mg base CX0 1 f fd ["point"] sp_spread := by
  have sc := sc_spread
  refine F.ok sc (fun vs H Q E h => ?_) (fun cdv A outer s H vs Q E hr h => ?_)
  · obtain ⟨sa, ds, t, r, ⟨a, b, c, d, rfl, _⟩, q⟩ := h
    exact r.lens
  · obtain ⟨sa, ds, t, r, ⟨a, b, c, d, rfl, f1, f2⟩, q⟩ := h
    obtain ⟨x, rfl, r0⟩ := rps1 r
    obtain ⟨p, rfl⟩ : ∃ p, x = .ref p := by cases r0; exact ⟨_, rfl⟩
    refine ⟨_, (pss_cons (ps_asg (pv 0) (pg_tup (n := 2) (by rfl) (pgs_cons (pg_tup (n := 2) (by rfl) (pgs_cons (pg_name (i := 1) sc.nd rfl (.inl rfl)) (pgs_cons (pg_name (i := 2) sc.nd rfl (.inl rfl)) pgs_nil))) (pgs_cons (pg_tup (n := 2) (by rfl) (pgs_cons (pg_name (i := 3) sc.nd rfl (.inl rfl)) (pgs_cons (pg_name (i := 4) sc.nd rfl (.inl rfl)) pgs_nil))) pgs_nil))))
    (pss_cons (ps_asg (pe_callBfun cr_lcm (by rfl) mi_lcm (pa_cons (pv 2) (pa_cons (pv 4) pa_nil))) (pg_name (i := 5) sc.nd rfl (.inl rfl)))
    (pss_one (ps_ret (pe_tup (pa_cons (pe_op op_mulX (pv 1) (pe_op op_fdivG (pv 5) (pv 2))) (pa_cons (pe_op op_mulX (pv 3) (pe_op op_fdivG (pv 5) (pv 4))) (pa_cons (pv 5) pa_nil)))))))), ?_⟩
    (rw [show start ["point", "x", "below", "y", "under", "weight"] [.ref p] = [some (.ref p), none, none, none, none, none] from rfl]; try dsimp only [cxOf])
    have W := wd_start t (.cons r0 .nil)
    have p1 : 1 ≤ b := f1.low.pos
    have p2 : 1 ≤ d := f2.low.pos
    have ba := f1.ba
    have bb := f1.bb
    have bc := f2.ba
    have bd := f2.bb
    have bw : Bt 1000 (wg b d) := bt_wg p1 p2 bb bd
    have wp := wg_pos p1 p2
    have q1 : Bt 1000 (qt (wg b d) b) := bt_qt p1 (wg_l b d) wp bw
    have q2 : Bt 1000 (qt (wg b d) d) := bt_qt p2 (wg_r b d) wp bw
    walk_at "w"
    refine w_lcm ⟨p1, bb⟩ ⟨p2, bd⟩ (by decide) ?_
    walk_at "w"
    refine w_qt p1 bb (by decide) ?_
    walk_at "w"
    refine w_qt p2 bd (by decide) ?_
    walk_at "w"
    rename_i W2 H3 p3 W3
    exact q _ _ (W3.same rfl) (W3.get .here)
theorem ok_arrow {f : Addr} {fd : FuncData} (F : Fun K "arrow" "arrow" s_arrow f fd) : FnOk P w K mg base CX0 1 f fd ["one", "other"] sp_arrow := by
  have sc := sc_arrow
  refine F.ok sc (fun vs H Q E h => ?_) (fun cdv A outer s H vs Q E hr h => ?_)
  · obtain ⟨sa, ds, t, r, ⟨a, b, c, d, e, f, rfl, _⟩, q⟩ := h
    exact r.lens
  · obtain ⟨sa, ds, t, r, ⟨a, b, c, d, e, f, rfl, ⟨b1, b2, b3⟩, b4, b5, b6⟩, q⟩ := h
    obtain ⟨x, y, rfl, r0, r1⟩ := rps2 r
    obtain ⟨p, rfl⟩ : ∃ p, x = .ref p := by cases r0; exact ⟨_, rfl⟩
    obtain ⟨p2, rfl⟩ : ∃ p, y = .ref p := by cases r1; exact ⟨_, rfl⟩
    refine ⟨_, (pss_one (ps_ret (pe_tup (pa_cons (pe_op op_sub (pe_op op_mulX (pe_ix ix_tup (pv 1) pe_int (fun _ _ => rfl)) (pe_ix ix_tup (pv 0) pe_int (fun _ _ => rfl))) (pe_op op_mulX (pe_ix ix_tup (pv 0) pe_int (fun _ _ => rfl)) (pe_ix ix_tup (pv 1) pe_int (fun _ _ => rfl)))) (pa_cons (pe_op op_sub (pe_op op_mulX (pe_ix ix_tup (pv 1) pe_int (fun _ _ => rfl)) (pe_ix ix_tup (pv 0) pe_int (fun _ _ => rfl))) (pe_op op_mulX (pe_ix ix_tup (pv 0) pe_int (fun _ _ => rfl)) (pe_ix ix_tup (pv 1) pe_int (fun _ _ => rfl)))) pa_nil))))), ?_⟩
    (rw [show start ["one", "other"] [.ref p, .ref p2] = [some (.ref p), some (.ref p2)] from rfl]; try dsimp only [cxOf])
    have W := wd_start t (.cons r0 (.cons r1 .nil))
    walk_at "w"
    rename_i H3 p3 W3
    exact q _ _ (W3.same rfl) (W3.get .here)
theorem ok_dot {f : Addr} {fd : FuncData} (F : Fun K "dot" "dot" s_dot f fd) : FnOk P w K mg base CX0 1 f fd ["one", "other"] sp_dot := by
  have sc := sc_dot
  refine F.ok sc (fun vs H Q E h => ?_) (fun cdv A outer s H vs Q E hr h => ?_)
  · obtain ⟨sa, ds, t, r, ⟨a, b, d, e, rfl, _⟩, q⟩ := h
    exact r.lens
  · obtain ⟨sa, ds, t, r, ⟨a, b, d, e, rfl, ⟨b1, b2⟩, b4, b5⟩, q⟩ := h
    obtain ⟨x, y, rfl, r0, r1⟩ := rps2 r
    obtain ⟨p, rfl⟩ : ∃ p, x = .ref p := by cases r0; exact ⟨_, rfl⟩
    obtain ⟨p2, rfl⟩ : ∃ p, y = .ref p := by cases r1; exact ⟨_, rfl⟩
    refine ⟨_, (pss_one (ps_ret (pe_op op_add (pe_op op_mulX (pe_ix ix_tup (pv 0) pe_int (fun _ _ => rfl)) (pe_ix ix_tup (pv 1) pe_int (fun _ _ => rfl))) (pe_op op_mulX (pe_ix ix_tup (pv 0) pe_int (fun _ _ => rfl)) (pe_ix ix_tup (pv 1) pe_int (fun _ _ => rfl)))))), ?_⟩
    (rw [show start ["one", "other"] [.ref p, .ref p2] = [some (.ref p), some (.ref p2)] from rfl]; try dsimp only [cxOf])
    have W := wd_start t (.cons r0 (.cons r1 .nil))
    walk_at "w"
    exact q _ _ (W.same rfl) (.int _)
theorem ok_line_through {f : Addr} {fd : FuncData} (F : Fun K "line_through" "line_through" s_line_through f fd) : FnOk P w K mg base CX0 1 f fd ["one", "other"] sp_line := by
  have sc := sc_line_through
  refine F.ok sc (fun vs H Q E h => ?_) (fun cdv A outer s H vs Q E hr h => ?_)
  · obtain ⟨sa, ds, t, r, ⟨a, b, c, d, e, f, rfl, _⟩, q⟩ := h
    exact r.lens
  · obtain ⟨sa, ds, t, r, ⟨a, b, c, d, e, f, rfl, ⟨b1, b2, b3⟩, b4, b5, b6⟩, q⟩ := h
    obtain ⟨x, y, rfl, r0, r1⟩ := rps2 r
    obtain ⟨p, rfl⟩ : ∃ p, x = .ref p := by cases r0; exact ⟨_, rfl⟩
    obtain ⟨p2, rfl⟩ : ∃ p, y = .ref p := by cases r1; exact ⟨_, rfl⟩
    refine ⟨_, (pss_one (ps_ret (pe_tup (pa_cons (pe_op op_sub (pe_op op_mulX (pe_ix ix_tup (pv 0) pe_int (fun _ _ => rfl)) (pe_ix ix_tup (pv 1) pe_int (fun _ _ => rfl))) (pe_op op_mulX (pe_ix ix_tup (pv 0) pe_int (fun _ _ => rfl)) (pe_ix ix_tup (pv 1) pe_int (fun _ _ => rfl)))) (pa_cons (pe_op op_sub (pe_op op_mulX (pe_ix ix_tup (pv 0) pe_int (fun _ _ => rfl)) (pe_ix ix_tup (pv 1) pe_int (fun _ _ => rfl))) (pe_op op_mulX (pe_ix ix_tup (pv 0) pe_int (fun _ _ => rfl)) (pe_ix ix_tup (pv 1) pe_int (fun _ _ => rfl)))) (pa_cons (pe_op op_sub (pe_op op_mulX (pe_ix ix_tup (pv 0) pe_int (fun _ _ => rfl)) (pe_ix ix_tup (pv 1) pe_int (fun _ _ => rfl))) (pe_op op_mulX (pe_ix ix_tup (pv 0) pe_int (fun _ _ => rfl)) (pe_ix ix_tup (pv 1) pe_int (fun _ _ => rfl)))) pa_nil)))))), ?_⟩
    (rw [show start ["one", "other"] [.ref p, .ref p2] = [some (.ref p), some (.ref p2)] from rfl]; try dsimp only [cxOf])
    have W := wd_start t (.cons r0 (.cons r1 .nil))
    walk_at "w"
    rename_i H3 p3 W3
    exact q _ _ (W3.same rfl) (W3.get .here)
theorem ok_side_of {f : Addr} {fd : FuncData} (F : Fun K "side_of" "side_of" s_side_of f fd) : FnOk P w K mg base CX0 1 f fd ["line", "spot"] sp_side := by
  have sc := sc_side_of
  refine F.ok sc (fun vs H Q E h => ?_) (fun cdv A outer s H vs Q E hr h => ?_)
  · obtain ⟨sa, ds, t, r, ⟨a, b, c, d, e, f, rfl, _⟩, q⟩ := h
    exact r.lens
  · obtain ⟨sa, ds, t, r, ⟨a, b, c, d, e, f, rfl, ⟨b1, b2, b3⟩, b4, b5, b6⟩, q⟩ := h
    obtain ⟨x, y, rfl, r0, r1⟩ := rps2 r
    obtain ⟨p, rfl⟩ : ∃ p, x = .ref p := by cases r0; exact ⟨_, rfl⟩
    obtain ⟨p2, rfl⟩ : ∃ p, y = .ref p := by cases r1; exact ⟨_, rfl⟩
    refine ⟨_, (pss_one (ps_ret (pe_op op_add (pe_op op_add (pe_op op_mulX (pe_ix ix_tup (pv 0) pe_int (fun _ _ => rfl)) (pe_ix ix_tup (pv 1) pe_int (fun _ _ => rfl))) (pe_op op_mulX (pe_ix ix_tup (pv 0) pe_int (fun _ _ => rfl)) (pe_ix ix_tup (pv 1) pe_int (fun _ _ => rfl)))) (pe_op op_mulX (pe_ix ix_tup (pv 0) pe_int (fun _ _ => rfl)) (pe_ix ix_tup (pv 1) pe_int (fun _ _ => rfl)))))), ?_⟩
    (rw [show start ["line", "spot"] [.ref p, .ref p2] = [some (.ref p), some (.ref p2)] from rfl]; try dsimp only [cxOf])
    have W := wd_start t (.cons r0 (.cons r1 .nil))
    walk_at "w"
    exact q _ _ (W.same rfl) (.int _)
theorem ok_size_of {f : Addr} {fd : FuncData} (F : Fun K "size_of" "size_of" s_size_of f fd) (d_dot : Df P w K mg base CX0 1 "dot" ["one", "other"] sp_dot) (d_whole_root : Df P w K mg base CX0 1 "whole_root" ["number"] sp_wroot) : FnOk P w K mg base CX0 2 f fd ["vector"] sp_size := by
  have sc := sc_size_of
  refine F.ok sc (fun vs H Q E h => ?_) (fun cdv A outer s H vs Q E hr h => ?_)
  · obtain ⟨sa, ds, t, r, ⟨a, b, rfl, _⟩, q⟩ := h
    exact r.lens
  · obtain ⟨sa, ds, t, r, ⟨a, b, rfl, b1, b2⟩, q⟩ := h
    obtain ⟨x, rfl, r0⟩ := rps1 r
    obtain ⟨p, rfl⟩ : ∃ p, x = .ref p := by cases r0; exact ⟨_, rfl⟩
    refine ⟨_, (pss_one (ps_ret (pe_call d_whole_root.F (hr.mono (by decide)) (by rfl) d_whole_root.g d_whole_root.kp d_whole_root.b .nil pass0 (pa_cons (pe_call d_dot.F (hr.mono (by decide)) (by rfl) d_dot.g d_dot.kp d_dot.b .nil pass0 (pa_cons (pv 0) (pa_cons (pv 0) pa_nil))) pa_nil)))), ?_⟩
    (rw [show start ["vector"] [.ref p] = [some (.ref p)] from rfl]; try dsimp only [cxOf])
    have W := wd_start t (.cons r0 .nil)
    walk_at "w"
    refine call_P (ds := [Fr a b, Fr a b]) W (.cons r0 (.cons r0 .nil)) ⟨a, b, a, b, rfl, ⟨b1, b2⟩, b1, b2⟩ fun H2 => v_int fun W2 => ?_
    walk_at "w"
    refine call_P (ds := [.int (a * a + b * b)]) W2 (.cons (.int _) .nil) ⟨_, rfl, (((b1.mul b1).add (b2.mul b2)).mono (by decide))⟩ fun H3 => ?_
    exact v_any fun x W3 => q _ x (W3.same rfl) (W3.get .here)
theorem ok_distance {f : Addr} {fd : FuncData} (F : Fun K "distance" "distance" s_distance f fd) (d_arrow : Df P w K mg base CX0 1 "arrow" ["one", "other"] sp_arrow) (d_size_of : Df P w K mg base CX0 2 "size_of" ["vector"] sp_size) (d_lowest : Df P w K mg base CX0 1 "lowest" ["top", "bottom"] sp_low) : FnOk P w K mg base CX0 3 f fd ["one", "other"] sp_dist := by
  have sc := sc_distance
  refine F.ok sc (fun vs H Q E h => ?_) (fun cdv A outer s H vs Q E hr h => ?_)
  · obtain ⟨sa, ds, t, r, ⟨a, b, c, d, e, f, rfl, _⟩, q⟩ := h
    exact r.lens
  · obtain ⟨sa, ds, t, r, ⟨a, b, c, d, e, f, rfl, ⟨b1, b2, b3⟩, ⟨b4, b5, b6⟩, c1, f1⟩, q⟩ := h
    obtain ⟨x, y, rfl, r0, r1⟩ := rps2 r
    obtain ⟨p, rfl⟩ : ∃ p, x = .ref p := by cases r0; exact ⟨_, rfl⟩
    obtain ⟨p2, rfl⟩ : ∃ p, y = .ref p := by cases r1; exact ⟨_, rfl⟩
    refine ⟨_, (pss_cons (ps_asg (pe_call d_size_of.F (hr.mono (by decide)) (by rfl) d_size_of.g d_size_of.kp d_size_of.b .nil pass0 (pa_cons (pe_call d_arrow.F (hr.mono (by decide)) (by rfl) d_arrow.g d_arrow.kp d_arrow.b .nil pass0 (pa_cons (pv 0) (pa_cons (pv 1) pa_nil))) pa_nil)) (pg_name (i := 2) sc.nd rfl (.inl rfl)))
    (pss_cons (ps_if (pt_cmpR oq_isN (pv 2) pe_non (nomark _)) (pss_one (ps_ret pe_non)) pss_nil)
    (pss_one (ps_ret (pe_call d_lowest.F (hr.mono (by decide)) (by rfl) d_lowest.g d_lowest.kp d_lowest.b .nil pass0 (pa_cons (pv 2) (pa_cons (pe_op op_mulX (pe_ix ix_tup (pv 0) pe_int (fun _ _ => rfl)) (pe_ix ix_tup (pv 1) pe_int (fun _ _ => rfl))) pa_nil))))))), ?_⟩
    (rw [show start ["one", "other", "size"] [.ref p, .ref p2] = [some (.ref p), some (.ref p2), none] from rfl]; try dsimp only [cxOf])
    have W := wd_start t (.cons r0 (.cons r1 .nil))
    walk_at "w"
    refine call_P (ds := [Tri a b c, Tri d e f]) W (.cons r0 (.cons r1 .nil)) ⟨a, b, c, d, e, f, rfl, ⟨b1, b2, b3⟩, b4, b5, b6⟩ fun H2 => v_tup fun p3 W2 => ?_
    have g1 : Bt 3500 (d * c - a * f) := ((b4.mul b3).sub (b1.mul b6)).mono (by decide)
    have g2 : Bt 3500 (e * c - b * f) := ((b5.mul b3).sub (b2.mul b6)).mono (by decide)
    walk_at "w"
    refine call_P (ds := [Fr (d * c - a * f) (e * c - b * f)]) W2 (.cons (W2.get .here) .nil) ⟨_, _, rfl, g1, g2⟩ fun H3 => ?_
    rw [show f_size [Fr (d * c - a * f) (e * c - b * f)] = f_root [.int (sq2 a b c d e f)] from rfl]
    have fin : ∀ v z H', Same H H' → f_dist [Tri a b c, Tri d e f] = z → Rp sa H' v z → Q v H' := fun v z H' s ez rv => q H' v s (by rw [ez]; exact rv)
    rcases root_cases (sq2 a b c d e f) with ⟨k, ek⟩ | nk
    · have e1 : f_root [.int (sq2 a b c d e f)] = .int (k : Int) := by rw [ek]; exact f_root_sq
      have e2 : f_dist [Tri a b c, Tri d e f] = rt k (c * f) := by
        show (match f_root [.int (sq2 a b c d e f)] with | .int k => rt k (c * f) | _ => PyData.none) = _
        rw [e1]
      rw [e1]
      have nz : c * f ≠ 0 := Int.mul_ne_zero (by omega) (by omega)
      walk_at "w"
      rename_i W3 H4 p4 W4
      exact fin _ _ _ (W4.same rfl) e2 (W4.get .here)
    · have e1 := f_root_no nk
      have e2 : f_dist [Tri a b c, Tri d e f] = .none := by
        show (match f_root [.int (sq2 a b c d e f)] with | .int k => rt k (c * f) | _ => PyData.none) = _
        rw [e1]
      rw [e1]
      walk_at "w"
      exact fin _ _ _ (Wd.same (by assumption) rfl) e2 .non
theorem ok_are_fractions {f : Addr} {fd : FuncData} (F : Fun K "are_fractions" "are_fractions" s_are_fractions f fd) (d_is_fraction : Df P w K mg base CX0 2 "is_fraction" ["thing"] sp_isFp) : FnOk P w K mg base CX0 3 f fd ["things"] sp_areF := by
  have sc := sc_are_fractions
  refine F.ok sc (fun vs H Q E h => ?_) (fun cdv A outer s H vs Q E hr h => ?_)
  · obtain ⟨sa, ds, t, r, ⟨d0, d1, rfl⟩, q⟩ := h
    exact r.lens
  · obtain ⟨sa, ds, t, r, ⟨d0, d1, rfl⟩, q⟩ := h
    obtain ⟨x, rfl, r0⟩ := rps1 r
    obtain ⟨p, rfl⟩ : ∃ p, x = .ref p := by cases r0; exact ⟨_, rfl⟩
    refine ⟨_, (pss_cons (ps_for PassesOwn.never rfl (pi_tup (pv 0)) (pg_name (i := 1) sc.nd rfl (.inl rfl)) (pss_one (ps_if (pt_not (pt_val (pe_call d_is_fraction.F (hr.mono (by decide)) (by rfl) d_is_fraction.g d_is_fraction.kp d_is_fraction.b .nil pass0 (pa_cons (pv 1) pa_nil)))) (pss_one (ps_ret pe_bl)) pss_nil)))
    (pss_one (ps_ret pe_bl))), ?_⟩
    (rw [show start ["things", "thing"] [.ref p] = [some (.ref p), none] from rfl]; try dsimp only [cxOf])
    have W := wd_start t (.cons r0 .nil)
    walk_at "w"
    refine w_itup ?_
    walk_at "w"
    cases r0 with
    | @tup _ xs _ n hx r =>
    obtain ⟨x0, x1, rfl, ra, rb⟩ := rps2 r
    have W := (wd_start t (.cons (.tup n hx (.cons ra (.cons rb .nil))) .nil) : Wd false sa H H [.ref p] [.tuple [d0, d1]]).put ra |>.put rb
    have fin : ∀ H' z, Same H H' → (isF d0 && isF d1) = z → Q (.bl z) H' := fun H' z s e => q H' _ s (by rw [show f_areF [.tuple [d0, d1]] = .bool (isF d0 && isF d1) from rfl, e]; exact .bl z)
    refine ⟨p, rfl, ⟨_, SqT.of hx⟩, ?_⟩
    refine lp_tup (xs := [x0, x1]) (fun i σ H' => ∃ u, σ = [some (.ref p), u] ∧ Wd false sa H H' [x1, x0, .ref p] [d1, d0, .tuple [d0, d1]] ∧ (1 ≤ i → isF d0 = true) ∧ (2 ≤ i → isF d1 = true)) ⟨_, rfl, W, fun h => by omega, fun h => by omega⟩ ?_ ?_ ?_
    · rintro i σ H' hi ⟨u, rfl, W2, _⟩
      exact SqT.of (W2.same rfl _ _ hx)
    · rintro i x σ H' hi ⟨u, rfl, W2, h1, h2⟩
      walk_at "w"
      match i, hi with
      | 0, hi =>
        obtain rfl : x0 = x := Option.some.inj hi
        refine c_isFp W2 (W2.get (.there .here)) fun H3 W3 => ⟨_, rfl, ?_⟩
        cases e0 : isF d0 with
        | false => exact fin _ _ (W3.same rfl) (by rw [e0]; rfl)
        | true => exact ⟨_, rfl, W3, fun _ => rfl, fun h => absurd h (by omega)⟩
      | 1, hi =>
        obtain rfl : x1 = x := Option.some.inj hi
        refine c_isFp W2 (W2.get .here) fun H3 W3 => ⟨_, rfl, ?_⟩
        cases e1 : isF d1 with
        | false => exact fin _ _ (W3.same rfl) (by rw [e1]; cases isF d0 <;> rfl)
        | true => exact ⟨_, rfl, W3, fun _ => h1 (by omega), fun _ => rfl⟩
      | k + 2, hi => exact nomatch hi
    · rintro σ H' ⟨u, rfl, W2, h1, h2⟩
      walk_at "w"
      refine fin _ _ (W2.same rfl) ?_
      rw [h1 (by simp), h2 (by simp)]
      rfl
theorem ok_is_point {f : Addr} {fd : FuncData} (F : Fun K "is_point" "is_point" s_is_point f fd) (d_is_tuple_of : Df P w K mg base CX0 1 "is_tuple_of" ["thing", "many"] sp_tupof) (d_are_fractions : Df P w K mg base CX0 3 "are_fractions" ["things"] sp_areF) : FnOk P w K mg base CX0 4 f fd ["thing"] sp_isP := by
  have sc := sc_is_point
  refine F.ok sc (fun vs H Q E h => ?_) (fun cdv A outer s H vs Q E hr h => ?_)
  · obtain ⟨sa, ds, t, r, ⟨d, rfl⟩, q⟩ := h
    exact r.lens
  · obtain ⟨sa, ds, t, r, ⟨d, rfl⟩, q⟩ := h
    obtain ⟨x, rfl, r0⟩ := rps1 r
    refine ⟨_, (pss_one (ps_ret (pe_and (pe_call d_is_tuple_of.F (hr.mono (by decide)) (by rfl) d_is_tuple_of.g d_is_tuple_of.kp d_is_tuple_of.b .nil pass0 (pa_cons (pv 0) (pa_cons pe_int pa_nil))) (pe_one (pe_call d_are_fractions.F (hr.mono (by decide)) (by rfl) d_are_fractions.g d_are_fractions.kp d_are_fractions.b .nil pass0 (pa_cons (pv 0) pa_nil)))))), ?_⟩
    (rw [show start ["thing"] [x] = [some (x)] from rfl]; try dsimp only [cxOf])
    have W := wd_start t (.cons r0 .nil)
    have fin : ∀ H' z, Same H H' → isP d = z → Q (.bl z) H' := fun H' z s e => q H' _ s (by rw [← e]; exact .bl _)
    walk_at "w"
    refine c_tupof W r0 fun H1 k hk W1 => ?_
    cases k with
    | false =>
      walk_at "w"
      refine fin _ _ (W1.same rfl) ?_
      unfold isP
      split
      · exact absurd (show eqB 2 2 = false from PyData.bool.inj hk) (by rw [eqT rfl]; exact Bool.noConfusion)
      · rfl
    | true =>
      obtain ⟨d0, d1, rfl⟩ : ∃ d0 d1, d = .tuple [d0, d1] := by
        cases d with
        | tuple l =>
          have e : (l.length : Int) = 2 := eqB_t (PyData.bool.inj hk)
          match l, e with
          | [d0, d1], _ => exact ⟨d0, d1, rfl⟩
        | _ => cases hk
      walk_at "w"
      refine call_P (ds := [.tuple [d0, d1]]) W1 (.cons (W1.get .here) .nil) ⟨d0, d1, rfl⟩ fun H2 => v_bl fun W2 => ?_
      exact fin _ _ (W2.same rfl) rfl
theorem ok_length_of {f C : Addr} {fd : FuncData} (F : Fun K "length_of" "length_of" s_length_of f fd) (c_NoPoint : Ex0 P w K mg base "NoPoint" C) (d_is_point : Df P w K mg base CX0 4 "is_point" ["thing"] sp_isP) (d_spread : Df P w K mg base CX0 1 "spread" ["point"] sp_spread) (d_distance : Df P w K mg base CX0 3 "distance" ["one", "other"] sp_dist) : FnOk P w K mg base (L2.CX P w) 5 f fd ["one", "other"] (sp_len C) := by
  have sc := sc_length_of
  refine F.okX sc (fun vs H Q E h => ?_) (fun cdv A outer s H vs Q E hr h => ?_)
  · obtain ⟨sa, ds, t, r, ⟨x, y, rfl, _⟩, _⟩ := h
    exact r.lens
  · obtain ⟨sa, ds, t, r, ⟨d, e, rfl, z1, z2⟩, no, q⟩ := h
    obtain ⟨x, y, rfl, r0, r1⟩ := rps2 r
    refine ⟨_, (pss_cons (ps_if (PW.pt (pw_or (pt_not (pt_val (pe_call d_is_point.F (hr.mono (by decide)) (by rfl) d_is_point.g d_is_point.kp d_is_point.b .nil pass0 (pa_cons (pv 0) pa_nil)))) (pw_or1 (pt_not (pt_val (pe_call d_is_point.F (hr.mono (by decide)) (by rfl) d_is_point.g d_is_point.kp d_is_point.b .nil pass0 (pa_cons (pv 1) pa_nil))))))) (pss_one (ps_raise rfl (takes_of rfl rfl rfl rfl) (pmk0 c_NoPoint (hr.mono (by decide)) (by rfl)))) pss_nil)
    (pss_one (ps_ret (pe_call d_distance.F (hr.mono (by decide)) (by rfl) d_distance.g d_distance.kp d_distance.b .nil pass0 (pa_cons (pe_call d_spread.F (hr.mono (by decide)) (by rfl) d_spread.g d_spread.kp d_spread.b .nil pass0 (pa_cons (pv 0) pa_nil)) (pa_cons (pe_call d_spread.F (hr.mono (by decide)) (by rfl) d_spread.g d_spread.kp d_spread.b .nil pass0 (pa_cons (pv 1) pa_nil)) pa_nil)))))), ?_⟩
    (rw [show start ["one", "other"] [x, y] = [some (x), some (y)] from rfl]; try dsimp only [cxOf])
    have W := wd_start t (.cons r0 (.cons r1 .nil))
    walk_at "w"
    rename_i H1 W1
    cases hd : isP d with
    | false =>
      walk_at "w"
      exact no (show (!isP d || !isP e) = true by rw [hd]; rfl) _ (W1.same rfl)
    | true =>
      walk_at "w"
      rename_i H2 W2
      cases he : isP e with
      | false =>
        walk_at "w"
        exact no (show (!isP d || !isP e) = true by rw [hd, he]; rfl) _ (W2.same rfl)
      | true =>
        obtain ⟨a, b, c, g, rfl, l1, l2⟩ := isP_inv hd
        obtain ⟨a2, b2, c2, g2, rfl, m1, m2⟩ := isP_inv he
        obtain ⟨s1, s2, s3, s4⟩ := z1 _ _ _ _ rfl
        obtain ⟨t1, t2, t3, t4⟩ := z2 _ _ _ _ rfl
        have f1 : Fq 500 a b := ⟨l1, s1, s2⟩
        have f2 : Fq 500 c g := ⟨l2, s3, s4⟩
        have f3 : Fq 500 a2 b2 := ⟨m1, t1, t2⟩
        have f4 : Fq 500 c2 g2 := ⟨m2, t3, t4⟩
        obtain ⟨wp1, u1, u2, u3, _, _⟩ := spr f1 f2
        obtain ⟨wp2, v1, v2, v3, _, _⟩ := spr f3 f4
        walk_at "w"
        refine call_P (ds := [Pnt a b c g]) W2 (.cons (W2.get .here) .nil) ⟨_, _, _, _, rfl, f1, f2⟩ fun H3 => v_tup fun p3 W3 => ?_
        walk_at "w"
        refine call_P (ds := [Pnt a2 b2 c2 g2]) W3 (.cons (W3.get (.there (.there .here))) .nil) ⟨_, _, _, _, rfl, f3, f4⟩ fun H4 => v_tup fun p4 W4 => ?_
        walk_at "w"
        refine call_P (ds := [f_spread [Pnt a b c g], f_spread [Pnt a2 b2 c2 g2]]) W4 (.cons (W4.get (.there .here)) (.cons (W4.get .here) .nil)) ⟨_, _, _, _, _, _, rfl, ⟨u1, u2, u3⟩, ⟨v1, v2, v3⟩, wp1, wp2⟩ fun H5 => v_any fun v5 W5 => ?_
        exact q (show (!isP (Pnt a b c g) || !isP (Pnt a2 b2 c2 g2)) = false by rw [hd, he]; rfl) _ _ (W5.same rfl) (W5.get .here)
theorem ok_turn_of {f C : Addr} {fd : FuncData} (F : Fun K "turn_of" "turn_of" s_turn_of f fd) (c_NoPoint : Ex0 P w K mg base "NoPoint" C) (d_is_point : Df P w K mg base CX0 4 "is_point" ["thing"] sp_isP) (d_spread : Df P w K mg base CX0 1 "spread" ["point"] sp_spread) (d_line_through : Df P w K mg base CX0 1 "line_through" ["one", "other"] sp_line) (d_side_of : Df P w K mg base CX0 1 "side_of" ["line", "spot"] sp_side) : FnOk P w K mg base (L2.CX P w) 5 f fd ["one", "other", "third"] (sp_turn C) := by
  have sc := sc_turn_of
  refine F.okX sc (fun vs H Q E h => ?_) (fun cdv A outer s H vs Q E hr h => ?_)
  · obtain ⟨sa, ds, t, r, ⟨x, y, z, rfl, _⟩, _⟩ := h
    exact r.lens
  · obtain ⟨sa, ds, t, r, ⟨d, e, o, rfl, z1, z2, z3⟩, no, q⟩ := h
    obtain ⟨x, y, z, rfl, r0, r1, r2⟩ := rps3 r
    refine ⟨_, (pss_cons (ps_if (PW.pt (pw_or (pt_not (pt_val (pe_call d_is_point.F (hr.mono (by decide)) (by rfl) d_is_point.g d_is_point.kp d_is_point.b .nil pass0 (pa_cons (pv 0) pa_nil)))) (pw_or (pt_not (pt_val (pe_call d_is_point.F (hr.mono (by decide)) (by rfl) d_is_point.g d_is_point.kp d_is_point.b .nil pass0 (pa_cons (pv 1) pa_nil)))) (pw_or1 (pt_not (pt_val (pe_call d_is_point.F (hr.mono (by decide)) (by rfl) d_is_point.g d_is_point.kp d_is_point.b .nil pass0 (pa_cons (pv 2) pa_nil)))))))) (pss_one (ps_raise rfl (takes_of rfl rfl rfl rfl) (pmk0 c_NoPoint (hr.mono (by decide)) (by rfl)))) pss_nil)
    (pss_cons (ps_asg (pe_call d_side_of.F (hr.mono (by decide)) (by rfl) d_side_of.g d_side_of.kp d_side_of.b .nil pass0 (pa_cons (pe_call d_line_through.F (hr.mono (by decide)) (by rfl) d_line_through.g d_line_through.kp d_line_through.b .nil pass0 (pa_cons (pe_call d_spread.F (hr.mono (by decide)) (by rfl) d_spread.g d_spread.kp d_spread.b .nil pass0 (pa_cons (pv 0) pa_nil)) (pa_cons (pe_call d_spread.F (hr.mono (by decide)) (by rfl) d_spread.g d_spread.kp d_spread.b .nil pass0 (pa_cons (pv 1) pa_nil)) pa_nil))) (pa_cons (pe_call d_spread.F (hr.mono (by decide)) (by rfl) d_spread.g d_spread.kp d_spread.b .nil pass0 (pa_cons (pv 2) pa_nil)) pa_nil))) (pg_name (i := 3) sc.nd rfl (.inl rfl)))
    (pss_cons (ps_if (pt_cmpR op_eq (pv 3) pe_int (nomark _)) (pss_one (ps_ret pe_int)) pss_nil)
    (pss_one (ps_ret (pe_ifExp (pt_cmpR op_gt (pv 3) pe_int (nomark _)) pe_int (pe_un un_neg pe_int))))))), ?_⟩
    (rw [show start ["one", "other", "third", "side"] [x, y, z] = [some (x), some (y), some (z), none] from rfl]; try dsimp only [cxOf])
    have W := wd_start t (.cons r0 (.cons r1 (.cons r2 .nil)))
    walk_at "w"
    rename_i H1 W1
    cases hd : isP d with
    | false =>
      walk_at "w"
      exact no (show (!isP d || !isP e || !isP o) = true by rw [hd]; rfl) _ (W1.same rfl)
    | true =>
    walk_at "w"
    rename_i H2 W2
    cases he : isP e with
    | false =>
      walk_at "w"
      exact no (show (!isP d || !isP e || !isP o) = true by rw [hd, he]; rfl) _ (W2.same rfl)
    | true =>
    walk_at "w"
    rename_i H3 W3
    cases ho : isP o with
    | false =>
      walk_at "w"
      exact no (show (!isP d || !isP e || !isP o) = true by rw [hd, he, ho]; rfl) _ (W3.same rfl)
    | true =>
    obtain ⟨a, b, c, g, rfl, l1, l2⟩ := isP_inv hd
    obtain ⟨a2, b2, c2, g2, rfl, m1, m2⟩ := isP_inv he
    obtain ⟨a3, b3, c3, g3, rfl, n1, n2⟩ := isP_inv ho
    obtain ⟨s1, s2, s3, s4⟩ := z1 _ _ _ _ rfl
    obtain ⟨t1, t2, t3, t4⟩ := z2 _ _ _ _ rfl
    obtain ⟨o1, o2, o3, o4⟩ := z3 _ _ _ _ rfl
    have f1 : Fq 500 a b := ⟨l1, s1, s2⟩
    have f2 : Fq 500 c g := ⟨l2, s3, s4⟩
    have f3 : Fq 500 a2 b2 := ⟨m1, t1, t2⟩
    have f4 : Fq 500 c2 g2 := ⟨m2, t3, t4⟩
    have f5 : Fq 500 a3 b3 := ⟨n1, o1, o2⟩
    have f6 : Fq 500 c3 g3 := ⟨n2, o3, o4⟩
    obtain ⟨wp1, u1, u2, u3, _, _⟩ := spr f1 f2
    obtain ⟨wp2, v1, v2, v3, _, _⟩ := spr f3 f4
    obtain ⟨wp3, x1, x2, x3, _, _⟩ := spr f5 f6
    have hb : badP3 [Pnt a b c g, Pnt a2 b2 c2 g2, Pnt a3 b3 c3 g3] = false := (show (!isP (Pnt a b c g) || !isP (Pnt a2 b2 c2 g2) || !isP (Pnt a3 b3 c3 g3)) = false by rw [hd, he, ho]; rfl)
    walk_at "w"
    refine call_P (ds := [Pnt a b c g]) W3 (.cons (W3.get .here) .nil) ⟨_, _, _, _, rfl, f1, f2⟩ fun H4 => v_tup fun p4 W4 => ?_
    walk_at "w"
    refine call_P (ds := [Pnt a2 b2 c2 g2]) W4 (.cons (W4.get (.there (.there .here))) .nil) ⟨_, _, _, _, rfl, f3, f4⟩ fun H5 => v_tup fun p5 W5 => ?_
    walk_at "w"
    refine call_P (ds := [f_spread [Pnt a b c g], f_spread [Pnt a2 b2 c2 g2]]) W5 (.cons (W5.get (.there .here)) (.cons (W5.get .here) .nil)) ⟨_, _, _, _, _, _, rfl, ⟨u1, u2, u3⟩, v1, v2, v3⟩ fun H6 => v_tup fun p6 W6 => ?_
    walk_at "w"
    refine call_P (ds := [Pnt a3 b3 c3 g3]) W6 (.cons (W6.get (.there (.there (.there (.there (.there .here)))))) .nil) ⟨_, _, _, _, rfl, f5, f6⟩ fun H7 => v_tup fun p7 W7 => ?_
    walk_at "w"
    refine call_P (ds := [f_line [f_spread [Pnt a b c g], f_spread [Pnt a2 b2 c2 g2]], f_spread [Pnt a3 b3 c3 g3]]) W7 (.cons (W7.get (.there .here)) (.cons (W7.get .here) .nil)) ⟨_, _, _, _, _, _, rfl, ⟨((u2.mul v3).sub (u3.mul v2)).mono (by decide), ((u3.mul v1).sub (u1.mul v3)).mono (by decide), ((u1.mul v2).sub (u2.mul v1)).mono (by decide)⟩, x1, x2, x3⟩ fun H8 => ?_
    obtain ⟨k, ez⟩ : ∃ k, f_side [f_line [f_spread [Pnt a b c g], f_spread [Pnt a2 b2 c2 g2]], f_spread [Pnt a3 b3 c3 g3]] = .int k := ⟨_, rfl⟩
    have et : f_turn [Pnt a b c g, Pnt a2 b2 c2 g2, Pnt a3 b3 c3 g3] = .int (sgn k) := by
      show sgnD (f_side [f_line [f_spread [Pnt a b c g], f_spread [Pnt a2 b2 c2 g2]], f_spread [Pnt a3 b3 c3 g3]]) = _
      rw [ez]
      rfl
    have fin : ∀ j H', Same H H' → sgn k = j → Q (.int j) H' := fun j H' s ek => q hb H' _ s (by
      rw [et, ek]
      exact .int _)
    rw [ez]
    refine v_int fun W8 => ?_
    walk_at "w"
    refine w_ifd (fun h => ?_) (fun h => ?_)
    · walk_at "w"
      exact fin _ _ (W8.same rfl) (by subst h; rfl)
    · walk_at "w"
      refine w_ifd (fun h2 => ?_) (fun h2 => ?_)
      · walk_at "w"
        exact fin _ _ (W8.same rfl) (by unfold sgn; rw [if_neg h, if_pos h2])
      · walk_at "w"
        exact fin _ _ (W8.same rfl) (by unfold sgn; rw [if_neg h, if_neg h2])
end

/-! ### steps in the plane, as the law works with them -/
def f_lplus : List PyData → PyData
  | [.tuple [x, y], .tuple [z, t]] => .tuple [f_plus [x, z], f_plus [y, t]]
  | _ => .none
def f_lminus : List PyData → PyData
  | [.tuple [x, y], .tuple [z, t]] => .tuple [f_minus [x, z], f_minus [y, t]]
  | _ => .none
def f_ltimes : List PyData → PyData
  | [.tuple [x, y], z] => .tuple [f_times [x, z], f_times [y, z]]
  | _ => .none
def f_ldot : List PyData → PyData
  | [.tuple [x, y], .tuple [z, t]] => f_plus [f_times [x, z], f_times [y, t]]
  | _ => .none
/-- two points of known size -/
def twoP (k : Nat) (ds : List PyData) : Prop := ∃ a b c e a2 b2 c2 e2, ds = [Pnt a b c e, Pnt a2 b2 c2 e2] ∧ (Low a b ∧ Low c e) ∧ (Low a2 b2 ∧ Low c2 e2) ∧ (Bt k a ∧ Bt k b ∧ Bt k c ∧ Bt k e) ∧ (Bt k a2 ∧ Bt k b2 ∧ Bt k c2 ∧ Bt k e2)
abbrev sp_lplus : Sp := Pf (twoP 700) f_lplus
abbrev sp_lminus : Sp := Pf (twoP 700) f_lminus
abbrev sp_ldot : Sp := Pf (twoP 990) f_ldot
abbrev sp_ltimes : Sp := Pf (fun ds => ∃ a b c e s t, ds = [Pnt a b c e, Fr s t] ∧ (Low a b ∧ Low c e) ∧ Low s t ∧ (Bt 700 a ∧ Bt 700 b ∧ Bt 700 c ∧ Bt 700 e) ∧ (Bt 700 s ∧ Bt 700 t)) f_ltimes
section
variable {P : Program} {w : World} {K : PySem.W.Frag} {mg : Str → Option Value} {base : Heap}
theorem ok_law_plus {f : Addr} {fd : FuncData} (F : Fun K "_law_plus" "_law_plus" s_law_plus f fd) (d_law_add : Df P w K mg base CX0 2 "_law_add" ["one", "other"] sp_plus) : FnOk P w K mg base CX0 3 f fd ["one", "other"] sp_lplus := by
  have sc := sc_law_plus
  refine F.ok sc (fun vs H Q E h => ?_) (fun cdv A outer s H vs Q E hr h => ?_)
  · obtain ⟨sa, ds, t, r, ⟨a, b, c, e, a2, b2, c2, e2, rfl, _⟩, q⟩ := h
    exact r.lens
  · obtain ⟨sa, ds, t, r, ⟨a, b, c, e, a2, b2, c2, e2, rfl, ⟨l1, l2⟩, ⟨m1, m2⟩, ⟨t1, t2, t3, t4⟩, u1, u2, u3, u4⟩, q⟩ := h
    obtain ⟨x, y, rfl, r0, r1⟩ := rps2 r
    obtain ⟨p, rfl⟩ : ∃ p, x = .ref p := by cases r0; exact ⟨_, rfl⟩
    obtain ⟨p2, rfl⟩ : ∃ p, y = .ref p := by cases r1; exact ⟨_, rfl⟩
    refine ⟨_, (pss_one (ps_ret (pe_tup (pa_cons (pe_call d_law_add.F (hr.mono (by decide)) (by rfl) d_law_add.g d_law_add.kp d_law_add.b .nil pass0 (pa_cons (pe_ix ix_tup (pv 0) pe_int (fun _ _ => rfl)) (pa_cons (pe_ix ix_tup (pv 1) pe_int (fun _ _ => rfl)) pa_nil))) (pa_cons (pe_call d_law_add.F (hr.mono (by decide)) (by rfl) d_law_add.g d_law_add.kp d_law_add.b .nil pass0 (pa_cons (pe_ix ix_tup (pv 0) pe_int (fun _ _ => rfl)) (pa_cons (pe_ix ix_tup (pv 1) pe_int (fun _ _ => rfl)) pa_nil))) pa_nil))))), ?_⟩
    (rw [show start ["one", "other"] [.ref p, .ref p2] = [some (.ref p), some (.ref p2)] from rfl]; try dsimp only [cxOf])
    have W := wd_start t (.cons r0 (.cons r1 .nil))
    have z : ∀ {i : Int}, Bt 700 i → Bt 2000 i := fun h => h.mono (by decide)
    walk_at "w"
    refine call_P (ds := [Fr a b, Fr a2 b2]) (by assumption) (by walk_at "rps") ⟨_, _, _, _, rfl, ⟨l1, m1⟩, ⟨z t1, z t2, z u1, z u2⟩, trivial⟩ fun H2 => v_tup fun p3 W2 => ?_
    walk_at "w"
    refine call_P (ds := [Fr c e, Fr c2 e2]) (by assumption) (by walk_at "rps") ⟨_, _, _, _, rfl, ⟨l2, m2⟩, ⟨z t3, z t4, z u3, z u4⟩, trivial⟩ fun H3 => v_tup fun p4 W3 => ?_
    walk_at "w"
    rename_i H4 p5 W4
    exact q _ _ (W4.same rfl) (W4.get .here)
theorem ok_law_minus {f : Addr} {fd : FuncData} (F : Fun K "_law_minus" "_law_minus" s_law_minus f fd) (d_law_sub : Df P w K mg base CX0 2 "_law_sub" ["one", "other"] sp_minus) : FnOk P w K mg base CX0 3 f fd ["one", "other"] sp_lminus := by
  have sc := sc_law_minus
  refine F.ok sc (fun vs H Q E h => ?_) (fun cdv A outer s H vs Q E hr h => ?_)
  · obtain ⟨sa, ds, t, r, ⟨a, b, c, e, a2, b2, c2, e2, rfl, _⟩, q⟩ := h
    exact r.lens
  · obtain ⟨sa, ds, t, r, ⟨a, b, c, e, a2, b2, c2, e2, rfl, ⟨l1, l2⟩, ⟨m1, m2⟩, ⟨t1, t2, t3, t4⟩, u1, u2, u3, u4⟩, q⟩ := h
    obtain ⟨x, y, rfl, r0, r1⟩ := rps2 r
    obtain ⟨p, rfl⟩ : ∃ p, x = .ref p := by cases r0; exact ⟨_, rfl⟩
    obtain ⟨p2, rfl⟩ : ∃ p, y = .ref p := by cases r1; exact ⟨_, rfl⟩
    refine ⟨_, (pss_one (ps_ret (pe_tup (pa_cons (pe_call d_law_sub.F (hr.mono (by decide)) (by rfl) d_law_sub.g d_law_sub.kp d_law_sub.b .nil pass0 (pa_cons (pe_ix ix_tup (pv 0) pe_int (fun _ _ => rfl)) (pa_cons (pe_ix ix_tup (pv 1) pe_int (fun _ _ => rfl)) pa_nil))) (pa_cons (pe_call d_law_sub.F (hr.mono (by decide)) (by rfl) d_law_sub.g d_law_sub.kp d_law_sub.b .nil pass0 (pa_cons (pe_ix ix_tup (pv 0) pe_int (fun _ _ => rfl)) (pa_cons (pe_ix ix_tup (pv 1) pe_int (fun _ _ => rfl)) pa_nil))) pa_nil))))), ?_⟩
    (rw [show start ["one", "other"] [.ref p, .ref p2] = [some (.ref p), some (.ref p2)] from rfl]; try dsimp only [cxOf])
    have W := wd_start t (.cons r0 (.cons r1 .nil))
    have z : ∀ {i : Int}, Bt 700 i → Bt 2000 i := fun h => h.mono (by decide)
    walk_at "w"
    refine call_P (ds := [Fr a b, Fr a2 b2]) (by assumption) (by walk_at "rps") ⟨_, _, _, _, rfl, ⟨l1, m1⟩, ⟨z t1, z t2, z u1, z u2⟩, trivial⟩ fun H2 => v_tup fun p3 W2 => ?_
    walk_at "w"
    refine call_P (ds := [Fr c e, Fr c2 e2]) (by assumption) (by walk_at "rps") ⟨_, _, _, _, rfl, ⟨l2, m2⟩, ⟨z t3, z t4, z u3, z u4⟩, trivial⟩ fun H3 => v_tup fun p4 W3 => ?_
    walk_at "w"
    rename_i H4 p5 W4
    exact q _ _ (W4.same rfl) (W4.get .here)
theorem ok_law_times {f : Addr} {fd : FuncData} (F : Fun K "_law_times" "_law_times" s_law_times f fd) (d_law_mul : Df P w K mg base CX0 2 "_law_mul" ["one", "other"] sp_times) : FnOk P w K mg base CX0 3 f fd ["step", "factor"] sp_ltimes := by
  have sc := sc_law_times
  refine F.ok sc (fun vs H Q E h => ?_) (fun cdv A outer s H vs Q E hr h => ?_)
  · obtain ⟨sa, ds, t, r, ⟨a, b, c, e, k, m, rfl, _⟩, q⟩ := h
    exact r.lens
  · obtain ⟨sa, ds, t, r, ⟨a, b, c, e, k, m, rfl, ⟨l1, l2⟩, m1, ⟨t1, t2, t3, t4⟩, u1, u2⟩, q⟩ := h
    obtain ⟨x, y, rfl, r0, r1⟩ := rps2 r
    obtain ⟨p, rfl⟩ : ∃ p, x = .ref p := by cases r0; exact ⟨_, rfl⟩
    obtain ⟨p2, rfl⟩ : ∃ p, y = .ref p := by cases r1; exact ⟨_, rfl⟩
    refine ⟨_, (pss_one (ps_ret (pe_tup (pa_cons (pe_call d_law_mul.F (hr.mono (by decide)) (by rfl) d_law_mul.g d_law_mul.kp d_law_mul.b .nil pass0 (pa_cons (pe_ix ix_tup (pv 0) pe_int (fun _ _ => rfl)) (pa_cons (pv 1) pa_nil))) (pa_cons (pe_call d_law_mul.F (hr.mono (by decide)) (by rfl) d_law_mul.g d_law_mul.kp d_law_mul.b .nil pass0 (pa_cons (pe_ix ix_tup (pv 0) pe_int (fun _ _ => rfl)) (pa_cons (pv 1) pa_nil))) pa_nil))))), ?_⟩
    (rw [show start ["step", "factor"] [.ref p, .ref p2] = [some (.ref p), some (.ref p2)] from rfl]; try dsimp only [cxOf])
    have W := wd_start t (.cons r0 (.cons r1 .nil))
    have z : ∀ {i : Int}, Bt 700 i → Bt 2000 i := fun h => h.mono (by decide)
    walk_at "w"
    refine call_P (ds := [Fr a b, Fr k m]) (by assumption) (by walk_at "rps") ⟨_, _, _, _, rfl, ⟨l1, m1⟩, ⟨z t1, z t2, z u1, z u2⟩, trivial⟩ fun H2 => v_tup fun p3 W2 => ?_
    walk_at "w"
    refine call_P (ds := [Fr c e, Fr k m]) (by assumption) (by walk_at "rps") ⟨_, _, _, _, rfl, ⟨l2, m1⟩, ⟨z t3, z t4, z u1, z u2⟩, trivial⟩ fun H3 => v_tup fun p4 W3 => ?_
    walk_at "w"
    rename_i H4 p5 W4
    exact q _ _ (W4.same rfl) (W4.get .here)
theorem ok_law_dot {f : Addr} {fd : FuncData} (F : Fun K "_law_dot" "_law_dot" s_law_dot f fd) (d_law_add : Df P w K mg base CX0 2 "_law_add" ["one", "other"] sp_plus) (d_law_mul : Df P w K mg base CX0 2 "_law_mul" ["one", "other"] sp_times) : FnOk P w K mg base CX0 3 f fd ["one", "other"] sp_ldot := by
  have sc := sc_law_dot
  refine F.ok sc (fun vs H Q E h => ?_) (fun cdv A outer s H vs Q E hr h => ?_)
  · obtain ⟨sa, ds, t, r, ⟨a, b, c, e, a2, b2, c2, e2, rfl, _⟩, q⟩ := h
    exact r.lens
  · obtain ⟨sa, ds, t, r, ⟨a, b, c, e, a2, b2, c2, e2, rfl, ⟨l1, l2⟩, ⟨m1, m2⟩, ⟨t1, t2, t3, t4⟩, u1, u2, u3, u4⟩, q⟩ := h
    obtain ⟨x, y, rfl, r0, r1⟩ := rps2 r
    obtain ⟨p, rfl⟩ : ∃ p, x = .ref p := by cases r0; exact ⟨_, rfl⟩
    obtain ⟨p2, rfl⟩ : ∃ p, y = .ref p := by cases r1; exact ⟨_, rfl⟩
    refine ⟨_, (pss_one (ps_ret (pe_call d_law_add.F (hr.mono (by decide)) (by rfl) d_law_add.g d_law_add.kp d_law_add.b .nil pass0 (pa_cons (pe_call d_law_mul.F (hr.mono (by decide)) (by rfl) d_law_mul.g d_law_mul.kp d_law_mul.b .nil pass0 (pa_cons (pe_ix ix_tup (pv 0) pe_int (fun _ _ => rfl)) (pa_cons (pe_ix ix_tup (pv 1) pe_int (fun _ _ => rfl)) pa_nil))) (pa_cons (pe_call d_law_mul.F (hr.mono (by decide)) (by rfl) d_law_mul.g d_law_mul.kp d_law_mul.b .nil pass0 (pa_cons (pe_ix ix_tup (pv 0) pe_int (fun _ _ => rfl)) (pa_cons (pe_ix ix_tup (pv 1) pe_int (fun _ _ => rfl)) pa_nil))) pa_nil))))), ?_⟩
    (rw [show start ["one", "other"] [.ref p, .ref p2] = [some (.ref p), some (.ref p2)] from rfl]; try dsimp only [cxOf])
    have W := wd_start t (.cons r0 (.cons r1 .nil))
    have z : ∀ {i : Int}, Bt 990 i → Bt 2000 i := fun h => h.mono (by decide)
    have n1 : b * b2 ≠ 0 := Int.mul_ne_zero (by have := l1.pos; omega) (by have := m1.pos; omega)
    have n2 : e * e2 ≠ 0 := Int.mul_ne_zero (by have := l2.pos; omega) (by have := m2.pos; omega)
    have k1 : Fq 2000 (nt (a * a2) (b * b2)) (bN (a * a2) (b * b2)) := (fq_rt n1 (t1.mul u1) (t2.mul u2)).mono (by decide)
    have k2 : Fq 2000 (nt (c * c2) (e * e2)) (bN (c * c2) (e * e2)) := (fq_rt n2 (t3.mul u3) (t4.mul u4)).mono (by decide)
    clear n1 n2
    obtain ⟨k11, k12, k13⟩ := k1
    obtain ⟨k21, k22, k23⟩ := k2
    walk_at "w"
    refine call_P (ds := [Fr a b, Fr a2 b2]) (by assumption) (by walk_at "rps") ⟨_, _, _, _, rfl, ⟨l1, m1⟩, ⟨z t1, z t2, z u1, z u2⟩, trivial⟩ fun H2 => v_tup fun p3 W2 => ?_
    walk_at "w"
    refine call_P (ds := [Fr c e, Fr c2 e2]) (by assumption) (by walk_at "rps") ⟨_, _, _, _, rfl, ⟨l2, m2⟩, ⟨z t3, z t4, z u3, z u4⟩, trivial⟩ fun H3 => v_tup fun p4 W3 => ?_
    walk_at "w"
    refine call_P (ds := [f_times [Fr a b, Fr a2 b2], f_times [Fr c e, Fr c2 e2]]) W3 (by walk_at "rps") ⟨_, _, _, _, rfl, ⟨k11, k21⟩, ⟨k12, k13, k22, k23⟩, trivial⟩ fun H4 => v_tup fun p5 W4 => ?_
    exact q _ _ (W4.same rfl) (W4.get .here)
end
/-- the square of a step -/
theorem ldot_spec {k : Nat} {a b c e : Int} (f1 : Fq k a b) (f2 : Fq k c e) : ∃ S T, f_ldot [Pnt a b c e, Pnt a b c e] = Fr S T ∧ Fq (4 * k + 1) S T ∧ 0 ≤ S ∧ S * (b * b * (e * e)) = (a * a * (e * e) + c * c * (b * b)) * T := by
  have n1 : b * b ≠ 0 := Int.mul_ne_zero f1.ne f1.ne
  have n2 : e * e ≠ 0 := Int.mul_ne_zero f2.ne f2.ne
  have g1 := fq_rt n1 (f1.ba.mul f1.ba) (f1.bb.mul f1.bb)
  have g2 := fq_rt n2 (f2.ba.mul f2.ba) (f2.bb.mul f2.bb)
  have v1 := nt_val (a := a * a) (b := b * b) n1
  have v2 := nt_val (a := c * c) (b := e * e) n2
  have n3 : bN (a * a) (b * b) * bN (c * c) (e * e) ≠ 0 := Int.mul_ne_zero g1.ne g2.ne
  have v3 := nt_val (a := nt (a * a) (b * b) * bN (c * c) (e * e) + nt (c * c) (e * e) * bN (a * a) (b * b)) n3
  have g3 := fq_rt (k := 4 * k + 1) n3 (((g1.ba.mul g2.bb).add (g2.ba.mul g1.bb)).mono (by omega)) ((g1.bb.mul g2.bb).mono (by omega))
  obtain ⟨S, hS⟩ : ∃ S, S = nt (nt (a * a) (b * b) * bN (c * c) (e * e) + nt (c * c) (e * e) * bN (a * a) (b * b)) (bN (a * a) (b * b) * bN (c * c) (e * e)) := ⟨_, rfl⟩
  obtain ⟨T, hT⟩ : ∃ T, T = bN (nt (a * a) (b * b) * bN (c * c) (e * e) + nt (c * c) (e * e) * bN (a * a) (b * b)) (bN (a * a) (b * b) * bN (c * c) (e * e)) := ⟨_, rfl⟩
  rw [← hS, ← hT] at v3 g3
  have val : S * (b * b * (e * e)) = (a * a * (e * e) + c * c * (b * b)) * T := by
    refine Int.eq_of_mul_eq_mul_right n3 ?_
    generalize nt (a * a) (b * b) = m1 at v1 v3
    generalize nt (c * c) (e * e) = m2 at v2 v3
    generalize bN (a * a) (b * b) = p1 at v1 v3 ⊢
    generalize bN (c * c) (e * e) = p2 at v2 v3 ⊢
    clear g1 g2 g3 hS hT n3 n1 n2
    grind
  refine ⟨S, T, by rw [hS, hT]; rfl, g3, ?_, val⟩
  have sq0 : ∀ i : Int, 0 ≤ i * i := fun i => by rw [← Int.natAbs_mul_self]; omega
  have h1 : 0 ≤ (a * a * (e * e) + c * c * (b * b)) * T := Int.mul_nonneg (Int.add_nonneg (Int.mul_nonneg (sq0 a) (sq0 e)) (Int.mul_nonneg (sq0 c) (sq0 b))) (by have := g3.low.pos; omega)
  have h2 : 0 < b * b * (e * e) := by
    have := Int.mul_nonneg (sq0 b) (sq0 e)
    have := Int.mul_ne_zero n1 n2
    omega
  rcases Int.lt_or_le S 0 with z | z
  · have := Int.mul_lt_mul_of_pos_right z h2
    omega
  · exact z
/-- squares of coprime pairs -/
theorem low_sq {k w : Int} (l : Low k w) : Low (k * k) (w * w) := by
  have p := l.pos
  refine ⟨?_, ?_⟩
  · have := Int.mul_pos (show 0 < w by omega) (show 0 < w by omega)
    omega
  · rw [Int.natAbs_mul, Int.natAbs_mul]
    exact Nat.Coprime.mul_right (Nat.Coprime.mul_left l.one l.one) (Nat.Coprime.mul_left l.one l.one)
theorem root_frac {S T N W : Int} (l : Low S T) (hW : 1 ≤ W) (e : S * (W * W) = N * T) :
    (match f_root [.int S], f_root [.int T] with | .int t, .int u => Fr t u | _, _ => PyData.none) = (match f_root [.int N] with | .int k => rt k W | _ => .none) := by
  have w0 : W ≠ 0 := by omega
  rcases root_cases N with ⟨k, rfl⟩ | nk
  · have e1 : f_root [.int ((k : Int) * k)] = .int (k : Int) := f_root_sq
    have v := nt_val (a := (k : Int)) (b := W) w0
    have g := nt_low (a := (k : Int)) (b := W) w0
    have h1 : S * (bN k W * bN k W) = (nt k W * nt k W) * T := Int.eq_of_mul_eq_mul_right (Int.mul_ne_zero w0 w0) (by grind)
    obtain ⟨rfl, rfl⟩ := low_uni l (low_sq g) h1
    have p := g.pos
    have n0 : 0 ≤ nt (k : Int) W := by
      rcases Int.lt_or_le (nt (k : Int) W) 0 with z | z
      · have h2 := Int.mul_lt_mul_of_pos_right z (show 0 < W by omega)
        have h3 := Int.mul_nonneg (show 0 ≤ (k : Int) by omega) (show 0 ≤ bN (k : Int) W by omega)
        omega
      · exact z
    have e2 : f_root [.int (nt k W * nt k W)] = .int (nt k W) := by
      have := f_root_sq (r := (nt (k : Int) W).toNat)
      rwa [Int.toNat_of_nonneg n0] at this
    have e3 : f_root [.int (bN k W * bN k W)] = .int (bN k W) := by
      have := f_root_sq (r := (bN (k : Int) W).toNat)
      rwa [Int.toNat_of_nonneg (by omega)] at this
    rw [e1, e2, e3]
  · have e1 := f_root_no nk
    rw [e1]
    rcases root_cases S with ⟨s, rfl⟩ | ns
    · rcases root_cases T with ⟨t, rfl⟩ | n2
      · exfalso
        have t0 : (t : Int) ≠ 0 := by
          intro z
          have := l.pos
          rw [z] at this
          omega
        have v := nt_val (a := (s : Int) * W) (b := t) t0
        have g := nt_low (a := (s : Int) * W) (b := t) t0
        have h1 : (nt (s * W) t * nt (s * W) t) * 1 = N * (bN (s * W) t * bN (s * W) t) := Int.eq_of_mul_eq_mul_right (Int.mul_ne_zero t0 t0) (by grind)
        have lN : Low N 1 := ⟨by omega, by simp⟩
        obtain ⟨h2, _⟩ := low_uni (low_sq g) lN h1
        exact nk (nt (s * W) t).natAbs (by rw [Int.natAbs_mul_self' , h2])
      · rw [f_root_no n2]
        cases f_root [.int ((s : Int) * s)] <;> rfl
    · rw [f_root_no ns]
def f_lsize : List PyData → PyData
  | [d] => match f_ldot [d, d] with
    | .tuple [.int S, .int T] => (match f_root [.int S], f_root [.int T] with | .int t, .int u => Fr t u | _, _ => .none)
    | _ => .none
  | _ => .none
theorem size_main {a b c e a2 b2 c2 e2 : Int} (f1 : Fq 300 a b) (f2 : Fq 300 c e) (g1 : Fq 300 a2 b2) (g2 : Fq 300 c2 e2) : f_lsize [f_lminus [Pnt a2 b2 c2 e2, Pnt a b c e]] = f_len [Pnt a b c e, Pnt a2 b2 c2 e2] := by
  obtain ⟨wp1, _, _, _, x1, y1⟩ := spr (f1.mono (show 300 ≤ 500 by decide)) (f2.mono (show 300 ≤ 500 by decide))
  obtain ⟨wp2, _, _, _, x2, y2⟩ := spr (g1.mono (show 300 ≤ 500 by decide)) (g2.mono (show 300 ≤ 500 by decide))
  have nb : b2 * b ≠ 0 := Int.mul_ne_zero g1.ne f1.ne
  have ne : e2 * e ≠ 0 := Int.mul_ne_zero g2.ne f2.ne
  have h1 := fq_rt nb (((g1.ba.mul f1.bb).sub (f1.ba.mul g1.bb)).mono (show _ ≤ 601 by decide)) ((g1.bb.mul f1.bb).mono (by decide))
  have h2 := fq_rt ne (((g2.ba.mul f2.bb).sub (f2.ba.mul g2.bb)).mono (show _ ≤ 601 by decide)) ((g2.bb.mul f2.bb).mono (by decide))
  have v1 := nt_val (a := a2 * b - a * b2) nb
  have v2 := nt_val (a := c2 * e - c * e2) ne
  obtain ⟨S, T, e1, fS, _, val⟩ := ldot_spec h1 h2
  show (match f_ldot [Pnt _ _ _ _, Pnt _ _ _ _] with | .tuple [.int S, .int T] => (match f_root [.int S], f_root [.int T] with | .int t, .int u => Fr t u | _, _ => PyData.none) | _ => .none) = _
  rw [e1]
  refine (root_frac fS.low (N := sq2 (a * qt (wg b e) b) (c * qt (wg b e) e) (wg b e) (a2 * qt (wg b2 e2) b2) (c2 * qt (wg b2 e2) e2) (wg b2 e2)) (W := wg b e * wg b2 e2) ?_ ?_).trans rfl
  · have := Int.mul_pos (show 0 < wg b e by omega) (show 0 < wg b2 e2 by omega)
    omega
  · have n1 := h1.ne
    have n2 := h2.ne
    unfold sq2
    generalize nt (a2 * b - a * b2) (b2 * b) = m at v1 val
    generalize bN (a2 * b - a * b2) (b2 * b) = n at v1 val n1
    generalize nt (c2 * e - c * e2) (e2 * e) = u at v2 val
    generalize bN (c2 * e - c * e2) (e2 * e) = v at v2 val n2
    generalize a * qt (wg b e) b = X1 at x1 ⊢
    generalize c * qt (wg b e) e = Y1 at y1 ⊢
    generalize a2 * qt (wg b2 e2) b2 = X2 at x2 ⊢
    generalize c2 * qt (wg b2 e2) e2 = Y2 at y2 ⊢
    generalize wg b e = w1 at x1 y1 ⊢
    generalize wg b2 e2 = w2 at x2 y2 ⊢
    clear h1 h2 fS e1 wp1 wp2 f1 f2 g1 g2
    have k1 : m * (w1 * w2) = (X2 * w1 - X1 * w2) * n := by
      refine Int.eq_of_mul_eq_mul_right nb ?_
      grind
    have k2 : u * (w1 * w2) = (Y2 * w1 - Y1 * w2) * v := by
      refine Int.eq_of_mul_eq_mul_right ne ?_
      grind
    refine Int.eq_of_mul_eq_mul_right (Int.mul_ne_zero (Int.mul_ne_zero n1 n1) (Int.mul_ne_zero n2 n2)) ?_
    clear x1 x2 y1 y2 v1 v2 nb ne
    generalize X2 * w1 - X1 * w2 = A at k1 ⊢
    generalize Y2 * w1 - Y1 * w2 = B at k2 ⊢
    generalize w1 * w2 = W at k1 k2 ⊢
    grind

/-! ### what the law draws -/
theorem f_lsize_of {d z : PyData} {S T : Int} (e1 : f_ldot [d, d] = Fr S T) (ez : (match f_root [.int S], f_root [.int T] with | .int t, .int u => Fr t u | _, _ => PyData.none) = z) : f_lsize [d] = z := by
  unfold f_lsize
  simp only []
  rw [e1]
  exact ez
abbrev sp_lsize : Sp := Pf (fun ds => ∃ a b c e, ds = [Pnt a b c e] ∧ Fq 990 a b ∧ Fq 990 c e) f_lsize
/-- a point of known size -/
def PtK (k : Nat) (d : PyData) : Prop := ∃ a b c e, d = Pnt a b c e ∧ Fq k a b ∧ Fq k c e
abbrev sp_lray : Sp := Pr (fun ds => ∃ a b, ds = [Fr a b] ∧ Fq 8 a b) fun _ d => PtK 20 d
abbrev sp_lslope : Sp := Sf (fun ds => ∃ n : Int, ds = [.int n] ∧ 1 ≤ n ∧ n ≤ 100) fun _ d => ∃ a b, d = Fr a b ∧ Fq 8 a b
abbrev sp_ltame : Sp := Sf (fun ds => ds = []) fun _ d => ∃ a b, d = Fr a b ∧ Fq 8 a b
abbrev sp_lpoint : Sp := Sf (fun ds => ds = []) fun _ d => PtK 131 d
def FitP (d : PyData) : Prop := ∀ x y, d = .tuple [x, y] → Fit x ∧ Fit y
abbrev sp_lisP : Sp := Pf (fun ds => ∃ d, ds = [d] ∧ FitP d) f_isP
def f_flat : List PyData → PyData
  | [.tuple [.tuple [.int a, .int b], .tuple [.int c, .int e]]] => Tri (a * e) (c * b) (b * e)
  | _ => .none
abbrev sp_flat : Sp := Pf (fun ds => ∃ a b c e, ds = [Pnt a b c e] ∧ Fq 300 a b ∧ Fq 300 c e) f_flat
section
variable {P : Program} {w : World} {K : PySem.W.Frag} {mg : Str → Option Value} {base : Heap}
theorem ok_law_size {f : Addr} {fd : FuncData} (F : Fun K "_law_size" "_law_size" s_law_size f fd) (d_law_dot : Df P w K mg base CX0 3 "_law_dot" ["one", "other"] sp_ldot) (d_law_root : Df P w K mg base CX0 1 "_law_root" ["number"] sp_lroot) : FnOk P w K mg base CX0 4 f fd ["step"] sp_lsize := by
  have sc := sc_law_size
  refine F.ok sc (fun vs H Q E h => ?_) (fun cdv A outer s H vs Q E hr h => ?_)
  · obtain ⟨sa, ds, t, r, ⟨a, b, c, e, rfl, _⟩, q⟩ := h
    exact r.lens
  · obtain ⟨sa, ds, t, r, ⟨a, b, c, e, rfl, f1, f2⟩, q⟩ := h
    obtain ⟨x, rfl, r0⟩ := rps1 r
    obtain ⟨p, rfl⟩ : ∃ p, x = .ref p := by cases r0; exact ⟨_, rfl⟩
    refine ⟨_, (pss_cons (ps_asg (pe_call d_law_dot.F (hr.mono (by decide)) (by rfl) d_law_dot.g d_law_dot.kp d_law_dot.b .nil pass0 (pa_cons (pv 0) (pa_cons (pv 0) pa_nil))) (pg_name (i := 1) sc.nd rfl (.inl rfl)))
    (pss_cons (ps_asg (pe_call d_law_root.F (hr.mono (by decide)) (by rfl) d_law_root.g d_law_root.kp d_law_root.b .nil pass0 (pa_cons (pe_ix ix_tup (pv 1) pe_int (fun _ _ => rfl)) pa_nil)) (pg_name (i := 2) sc.nd rfl (.inl rfl)))
    (pss_cons (ps_asg (pe_call d_law_root.F (hr.mono (by decide)) (by rfl) d_law_root.g d_law_root.kp d_law_root.b .nil pass0 (pa_cons (pe_ix ix_tup (pv 1) pe_int (fun _ _ => rfl)) pa_nil)) (pg_name (i := 3) sc.nd rfl (.inl rfl)))
    (pss_cons (ps_if (PW.pt (pw_or (pt_cmpR oq_isN (pv 2) pe_non (nomark _)) (pw_or1 (pt_cmpR oq_isN (pv 3) pe_non (nomark _))))) (pss_one (ps_ret pe_non)) pss_nil)
    (pss_one (ps_ret (pe_tup (pa_cons (pv 2) (pa_cons (pv 3) pa_nil))))))))), ?_⟩
    (rw [show start ["step", "square", "top", "bottom"] [.ref p] = [some (.ref p), none, none, none] from rfl]; try dsimp only [cxOf])
    have W := wd_start t (.cons r0 .nil)
    obtain ⟨S, T, e1, fS, s0, _⟩ := ldot_spec f1 f2
    have t0 := fS.low.pos
    walk_at "w"
    refine call_P (ds := [Pnt a b c e, Pnt a b c e]) W (.cons r0 (.cons r0 .nil)) ⟨a, b, c, e, a, b, c, e, rfl, ⟨f1.low, f2.low⟩, ⟨f1.low, f2.low⟩, ⟨f1.ba, f1.bb, f2.ba, f2.bb⟩, f1.ba, f1.bb, f2.ba, f2.bb⟩ fun H2 => ?_
    rw [e1]
    refine v_tup fun p2 W2 => ?_
    have fin : ∀ v z H', Same H H' → (match f_root [.int S], f_root [.int T] with | .int t, .int u => Fr t u | _, _ => PyData.none) = z → Rp sa H' v z → Q v H' := fun v z H' s ez rv => q H' v s (by rw [f_lsize_of e1 ez]; exact rv)
    walk_at "w"
    rcases root_cases S with ⟨ra, ea⟩ | na
    · have e2 : f_root [.int S] = .int (ra : Int) := by rw [ea]; exact f_root_sq
      refine call_P (ds := [.int S]) (by assumption) (.cons (.int S) .nil) ⟨S, rfl, s0, fS.ba.mono (by decide)⟩ fun H3 => ?_
      rw [e2]
      walk_at "w"
      rcases root_cases T with ⟨rb, eb⟩ | nb
      · have e3 : f_root [.int T] = .int (rb : Int) := by rw [eb]; exact f_root_sq
        refine call_P (ds := [.int T]) (by assumption) (.cons (.int T) .nil) ⟨T, rfl, by omega, fS.bb.mono (by decide)⟩ fun H4 => ?_
        rw [e3]
        walk_at "w"
        rename_i W5
        exact fin _ (Fr ra rb) _ (W5.same rfl) (by rw [e2, e3]) (W5.get .here)
      · have e3 := f_root_no nb
        refine call_P (ds := [.int T]) (by assumption) (.cons (.int T) .nil) ⟨T, rfl, by omega, fS.bb.mono (by decide)⟩ fun H4 => ?_
        rw [e3]
        walk_at "w"
        exact fin _ .none _ (Wd.same (by assumption) rfl) (by rw [e2, e3]) .non
    · have e2 := f_root_no na
      refine call_P (ds := [.int S]) (by assumption) (.cons (.int S) .nil) ⟨S, rfl, s0, fS.ba.mono (by decide)⟩ fun H3 => ?_
      rw [e2]
      walk_at "w"
      refine call_P (ds := [.int T]) (by assumption) (.cons (.int T) .nil) ⟨T, rfl, by omega, fS.bb.mono (by decide)⟩ fun H4 => v_any fun v W4 => ?_
      walk_at "w"
      exact fin _ .none _ (Wd.same (by assumption) rfl) (by rw [e2]) .non
theorem ok_law_ray {f : Addr} {fd : FuncData} (F : Fun K "_law_ray" "_law_ray" s_law_ray f fd) (d_law_low : Df P w K mg base CX0 1 "_law_low" ["top", "bottom"] sp_low) : FnOk P w K mg base CX0 2 f fd ["slope"] sp_lray := by
  have sc := sc_law_ray
  refine F.ok sc (fun vs H Q E h => ?_) (fun cdv A outer s H vs Q E hr h => ?_)
  · obtain ⟨sa, ds, t, r, ⟨a, b, rfl, _⟩, q⟩ := h
    exact r.lens
  · obtain ⟨sa, ds, t, r, ⟨a, b, rfl, f1⟩, q⟩ := h
    obtain ⟨x, rfl, r0⟩ := rps1 r
    obtain ⟨p, rfl⟩ : ∃ p, x = .ref p := by cases r0; exact ⟨_, rfl⟩
    refine ⟨_, (pss_cons (ps_asg (pe_op op_mulX (pe_ix ix_tup (pv 0) pe_int (fun _ _ => rfl)) (pe_ix ix_tup (pv 0) pe_int (fun _ _ => rfl))) (pg_name (i := 1) sc.nd rfl (.inl rfl)))
    (pss_cons (ps_asg (pe_op op_mulX (pe_ix ix_tup (pv 0) pe_int (fun _ _ => rfl)) (pe_ix ix_tup (pv 0) pe_int (fun _ _ => rfl))) (pg_name (i := 2) sc.nd rfl (.inl rfl)))
    (pss_one (ps_ret (pe_tup (pa_cons (pe_call d_law_low.F (hr.mono (by decide)) (by rfl) d_law_low.g d_law_low.kp d_law_low.b .nil pass0 (pa_cons (pe_op op_sub (pv 2) (pv 1)) (pa_cons (pe_op op_add (pv 2) (pv 1)) pa_nil))) (pa_cons (pe_call d_law_low.F (hr.mono (by decide)) (by rfl) d_law_low.g d_law_low.kp d_law_low.b .nil pass0 (pa_cons (pe_op op_mulX (pe_op op_mulX pe_int (pe_ix ix_tup (pv 0) pe_int (fun _ _ => rfl))) (pe_ix ix_tup (pv 0) pe_int (fun _ _ => rfl))) (pa_cons (pe_op op_add (pv 2) (pv 1)) pa_nil))) pa_nil))))))), ?_⟩
    (rw [show start ["slope", "top", "bottom"] [.ref p] = [some (.ref p), none, none] from rfl]; try dsimp only [cxOf])
    have W := wd_start t (.cons r0 .nil)
    have ba := f1.ba
    have bb := f1.bb
    have b2 : Bt 2 (2 : Int) := bt_lit 2 (by decide)
    have sq0 : 0 ≤ a * a := by rw [← Int.natAbs_mul_self]; omega
    have sq1 : 0 < b * b := Int.mul_pos (by have := f1.low.pos; omega) (by have := f1.low.pos; omega)
    have nz : b * b + a * a ≠ 0 := by omega
    have fx := fq_rt nz (((bb.mul bb).sub (ba.mul ba)).mono (show _ ≤ 20 by decide)) (((bb.mul bb).add (ba.mul ba)).mono (show _ ≤ 20 by decide))
    have fy := fq_rt nz ((((bt_lit (x := 2) 2 (by decide)).mul ba).mul bb).mono (show _ ≤ 20 by decide)) (((bb.mul bb).add (ba.mul ba)).mono (show _ ≤ 20 by decide))
    walk_at "w"
    rename_i W9
    exact q _ _ _ (W9.same rfl) (W9.get .here) ⟨_, _, _, _, rfl, fx, fy⟩
theorem ok_law_slope {f : Addr} {fd : FuncData} (F : Fun K "_law_slope" "_law_slope" s_law_slope f fd) (d_law_take : Df P w K mg base CX0 2 "_law_take" ["stream", "many"] sp_take) (d_law_low : Df P w K mg base CX0 1 "_law_low" ["top", "bottom"] sp_low) : FnOk P w K mg base CX0 3 f fd ["stream", "most"] sp_lslope := by
  have sc := sc_law_slope
  refine F.ok sc (fun vs H Q E h => ?_) (fun cdv A outer s H vs Q E hr h => ?_)
  · obtain ⟨a, vs', ds, rfl, st, r, ⟨n, rfl, _⟩, _⟩ := h
    obtain ⟨x, rfl, r0⟩ := rps1 r
    rfl
  · obtain ⟨a, vs', ds, rfl, st, r, ⟨n, rfl, n1, n2⟩, q⟩ := h
    obtain ⟨x, rfl, r0⟩ := rps1 r
    obtain rfl : x = .int n := by cases r0; rfl
    refine ⟨_, (pss_cons (ps_asg (pe_op op_add pe_int (pe_call d_law_take.F (hr.mono (by decide)) (by rfl) d_law_take.g d_law_take.kp d_law_take.b .nil pass0 (pa_cons (pv 0) (pa_cons (pv 1) pa_nil)))) (pg_name (i := 2) sc.nd rfl (.inl rfl)))
    (pss_one (ps_ret (pe_call d_law_low.F (hr.mono (by decide)) (by rfl) d_law_low.g d_law_low.kp d_law_low.b .nil pass0 (pa_cons (pv 2) (pa_cons (pe_op op_add pe_int (pe_call d_law_take.F (hr.mono (by decide)) (by rfl) d_law_take.g d_law_take.kp d_law_take.b .nil pass0 (pa_cons (pv 0) (pa_cons (pv 1) pa_nil)))) pa_nil)))))), ?_⟩
    (rw [show start ["stream", "most", "top"] [.ref a, .int n] = [some (.ref a), some (.int n), none] from rfl]; try dsimp only [cxOf])
    have W := wd_startS st .nil
    have n3 : 0 < n := by omega
    have n4 : n.natAbs.log2 < 9000 := (bt_lit (x := n) 8 (by omega)).log (by decide)
    walk_at "w"
    refine call_tk (by assumption) n3 n4 fun H1 x W1 x0 x1 => ?_
    walk_at "w"
    refine call_tk (by assumption) n3 n4 fun H2 y W2 y0 y1 => ?_
    have bx : Bt 8 (1 + x) := bt_lit 8 (by omega)
    have bb : Bt 8 (1 + y) := bt_lit 8 (by omega)
    have nz : 1 + y ≠ 0 := by omega
    walk_at "w"
    rename_i H3 p W3
    exact q _ _ _ W3.but (W3.st rfl) (W3.get .here) ⟨_, _, rfl, fq_rt nz bx bb⟩
theorem ok_law_tame {f : Addr} {fd : FuncData} (F : Fun K "_law_tame" "_law_tame" s_law_tame f fd) (d_law_take : Df P w K mg base CX0 2 "_law_take" ["stream", "many"] sp_take) (d_law_low : Df P w K mg base CX0 1 "_law_low" ["top", "bottom"] sp_low) : FnOk P w K mg base CX0 3 f fd ["stream"] sp_ltame := by
  have sc := sc_law_tame
  refine F.ok sc (fun vs H Q E h => ?_) (fun cdv A outer s H vs Q E hr h => ?_)
  · obtain ⟨a, vs', ds, rfl, st, r, rfl, _⟩ := h
    cases r
    rfl
  · obtain ⟨a, vs', ds, rfl, st, r, rfl, q⟩ := h
    cases r
    refine ⟨_, (pss_cons (ps_asg (pe_op op_sub (pe_call d_law_take.F (hr.mono (by decide)) (by rfl) d_law_take.g d_law_take.kp d_law_take.b .nil pass0 (pa_cons (pv 0) (pa_cons pe_int pa_nil))) pe_int) (pg_name (i := 1) sc.nd rfl (.inl rfl)))
    (pss_one (ps_ret (pe_call d_law_low.F (hr.mono (by decide)) (by rfl) d_law_low.g d_law_low.kp d_law_low.b .nil pass0 (pa_cons (pv 1) (pa_cons (pe_op op_add pe_int (pe_call d_law_take.F (hr.mono (by decide)) (by rfl) d_law_take.g d_law_take.kp d_law_take.b .nil pass0 (pa_cons (pv 0) (pa_cons pe_int pa_nil)))) pa_nil)))))), ?_⟩
    (rw [show start ["stream", "top"] [.ref a] = [some (.ref a), none] from rfl]; try dsimp only [cxOf])
    have W := wd_startS st .nil
    walk_at "w"
    rename_i H1 x W1 x0 x1 H2 y W2 y0 y1
    have bx : Bt 8 (x - 20) := bt_lit 8 (by omega)
    have bb : Bt 8 (1 + y) := bt_lit 8 (by omega)
    have nz : 1 + y ≠ 0 := by omega
    walk_at "w"
    rename_i H3 p W3
    exact q _ _ _ W3.but (W3.st rfl) (W3.get .here) ⟨_, _, rfl, fq_rt nz bx bb⟩
theorem ok_law_point {f : Addr} {fd : FuncData} (F : Fun K "_law_point" "_law_point" s_law_point f fd) (d_law_take : Df P w K mg base CX0 2 "_law_take" ["stream", "many"] sp_take) (d_law_fraction : Df P w K mg base CX0 4 "_law_fraction" ["stream"] sp_lfraction) (d_law_tame : Df P w K mg base CX0 3 "_law_tame" ["stream"] sp_ltame) : FnOk P w K mg base CX0 5 f fd ["stream"] sp_lpoint := by
  have sc := sc_law_point
  refine F.ok sc (fun vs H Q E h => ?_) (fun cdv A outer s H vs Q E hr h => ?_)
  · obtain ⟨a, vs', ds, rfl, st, r, rfl, _⟩ := h
    cases r
    rfl
  · obtain ⟨a, vs', ds, rfl, st, r, rfl, q⟩ := h
    cases r
    refine ⟨_, (pss_cons (ps_if (pt_cmpR op_eq (pe_call d_law_take.F (hr.mono (by decide)) (by rfl) d_law_take.g d_law_take.kp d_law_take.b .nil pass0 (pa_cons (pv 0) (pa_cons pe_int pa_nil))) pe_int (nomark _)) (pss_cons (ps_asg (pe_call d_law_fraction.F (hr.mono (by decide)) (by rfl) d_law_fraction.g d_law_fraction.kp d_law_fraction.b .nil pass0 (pa_cons (pv 0) pa_nil)) (pg_name (i := 1) sc.nd rfl (.inl rfl)))
    (pss_one (ps_ret (pe_tup (pa_cons (pv 1) (pa_cons (pe_call d_law_fraction.F (hr.mono (by decide)) (by rfl) d_law_fraction.g d_law_fraction.kp d_law_fraction.b .nil pass0 (pa_cons (pv 0) pa_nil)) pa_nil)))))) pss_nil)
    (pss_cons (ps_asg (pe_call d_law_tame.F (hr.mono (by decide)) (by rfl) d_law_tame.g d_law_tame.kp d_law_tame.b .nil pass0 (pa_cons (pv 0) pa_nil)) (pg_name (i := 1) sc.nd rfl (.inl rfl)))
    (pss_one (ps_ret (pe_tup (pa_cons (pv 1) (pa_cons (pe_call d_law_tame.F (hr.mono (by decide)) (by rfl) d_law_tame.g d_law_tame.kp d_law_tame.b .nil pass0 (pa_cons (pv 0) pa_nil)) pa_nil))))))), ?_⟩
    (rw [show start ["stream", "east"] [.ref a] = [some (.ref a), none] from rfl]; try dsimp only [cxOf])
    have W := wd_startS st .nil
    walk_at "w"
    refine w_ifd (fun h => ?_) (fun h => ?_)
    · walk_at "w"
      refine call_S (by assumption) .nil rfl fun H3 x d W3 ⟨m, n, hd, l1, s1, s2⟩ => ?_
      subst hd
      obtain ⟨p, rfl⟩ : ∃ p, x = .ref p := by cases W3.get .here; exact ⟨_, rfl⟩
      walk_at "w"
      refine call_S (by assumption) .nil rfl fun H4 x d W4 ⟨u, v, hd, l2, s3, s4⟩ => ?_
      subst hd
      obtain ⟨p, rfl⟩ : ∃ p, x = .ref p := by cases W4.get .here; exact ⟨_, rfl⟩
      walk_at "w"
      rename_i W5
      exact q _ _ _ W5.but (W5.st rfl) (W5.get .here) ⟨_, _, _, _, rfl, ⟨l1, s1, s2⟩, ⟨l2, s3, s4⟩⟩
    · walk_at "w"
      refine call_S (by assumption) .nil rfl fun H3 x d W3 ⟨m, n, hd, g1⟩ => ?_
      subst hd
      obtain ⟨p, rfl⟩ : ∃ p, x = .ref p := by cases W3.get .here; exact ⟨_, rfl⟩
      walk_at "w"
      refine call_S (by assumption) .nil rfl fun H4 x d W4 ⟨u, v, hd, g2⟩ => ?_
      subst hd
      obtain ⟨p, rfl⟩ : ∃ p, x = .ref p := by cases W4.get .here; exact ⟨_, rfl⟩
      walk_at "w"
      rename_i W5
      exact q _ _ _ W5.but (W5.st rfl) (W5.get .here) ⟨_, _, _, _, rfl, g1.mono (by decide), g2.mono (by decide)⟩
theorem ok_law_flat {f : Addr} {fd : FuncData} (F : Fun K "_law_flat" "_law_flat" s_law_flat f fd) : FnOk P w K mg base CX0 1 f fd ["point"] sp_flat := by
  have sc := sc_law_flat
  refine F.ok sc (fun vs H Q E h => ?_) (fun cdv A outer s H vs Q E hr h => ?_)
  · obtain ⟨sa, ds, t, r, ⟨a, b, c, e, rfl, _⟩, q⟩ := h
    exact r.lens
  · obtain ⟨sa, ds, t, r, ⟨a, b, c, e, rfl, f1, f2⟩, q⟩ := h
    obtain ⟨x, rfl, r0⟩ := rps1 r
    obtain ⟨p, rfl⟩ : ∃ p, x = .ref p := by cases r0; exact ⟨_, rfl⟩
    refine ⟨_, (pss_one (ps_ret (pe_tup (pa_cons (pe_op op_mulX (pe_ix ix_tup (pe_ix ix_tup (pv 0) pe_int (fun _ _ => rfl)) pe_int (fun _ _ => rfl)) (pe_ix ix_tup (pe_ix ix_tup (pv 0) pe_int (fun _ _ => rfl)) pe_int (fun _ _ => rfl))) (pa_cons (pe_op op_mulX (pe_ix ix_tup (pe_ix ix_tup (pv 0) pe_int (fun _ _ => rfl)) pe_int (fun _ _ => rfl)) (pe_ix ix_tup (pe_ix ix_tup (pv 0) pe_int (fun _ _ => rfl)) pe_int (fun _ _ => rfl))) (pa_cons (pe_op op_mulX (pe_ix ix_tup (pe_ix ix_tup (pv 0) pe_int (fun _ _ => rfl)) pe_int (fun _ _ => rfl)) (pe_ix ix_tup (pe_ix ix_tup (pv 0) pe_int (fun _ _ => rfl)) pe_int (fun _ _ => rfl))) pa_nil)))))), ?_⟩
    (rw [show start ["point"] [.ref p] = [some (.ref p)] from rfl]; try dsimp only [cxOf])
    have W := wd_start t (.cons r0 .nil)
    have b1 := f1.ba
    have b2 := f1.bb
    have b3 := f2.ba
    have b4 := f2.bb
    walk_at "w"
    rename_i W9
    exact q _ _ (W9.same rfl) (W9.get .here)
end

/-! no list of that length in it -/
mutual
def noLen (n : Nat) : PyData → Bool
  | .list ds => !(ds.length == n) && noLens n ds
  | .tuple ds => noLens n ds
  | _ => true
def noLens (n : Nat) : List PyData → Bool
  | [] => true
  | d :: ds => noLen n d && noLens n ds
end
mutual
theorem Rp.stayN {sa g : Addr} {H : Hp} {xs ys : List V} (hg : H g = some (.lst xs)) : ∀ {v : V} {d : PyData}, Rp sa H v d → noLen xs.length d = true → Rp sa (upd H g (.lst ys)) v d
  | _, _, .non, _ => .non
  | _, _, .bl b, _ => .bl b
  | _, _, .int i, _ => .int i
  | _, _, .str x, _ => .str x
  | _, _, .lst n h r, e => by
    unfold noLen at e
    obtain ⟨e1, e2⟩ := Bool.and_eq_true_iff.mp e
    refine .lst n ?_ (Rps.stayN hg r e2)
    rw [upd_ne (fun z => by
      rw [z, hg] at h
      cases h
      rw [r.lens] at e1
      simp at e1)]
    exact h
  | _, _, .tup n h r, e => .tup n (by
      rw [upd_ne (fun z => by
        rw [z, hg] at h
        cases h)]
      exact h) (Rps.stayN hg r e)
  | _, _, .dct n h, _ => .dct n (by
      rw [upd_ne (fun z => by
        rw [z, hg] at h
        cases h)]
      exact h)
theorem Rps.stayN {sa g : Addr} {H : Hp} {xs ys : List V} (hg : H g = some (.lst xs)) : ∀ {vs : List V} {ds : List PyData}, Rps sa H vs ds → noLens xs.length ds = true → Rps sa (upd H g (.lst ys)) vs ds
  | _, _, .nil, _ => .nil
  | _, _, .cons h t, e => .cons (Rp.stayN hg h (by
      unfold noLens at e
      exact (Bool.and_eq_true _ _ ▸ e).1)) (Rps.stayN hg t (by
      unfold noLens at e
      exact (Bool.and_eq_true _ _ ▸ e).2))
end

/-! ### what the law asks -/
theorem sgn_eq (g : Int) : eqB (sgn g) ((if ltB 0 g = true then 1 else 0) - if ltB g 0 = true then 1 else 0) = true := by
  refine eqT ?_
  unfold sgn
  rw [ltB_def, ltB_def]
  split
  · rename_i h
    subst h
    rfl
  · split
    · rename_i h
      rw [if_pos (decide_eq_true h), if_neg (by simp; omega)]
      rfl
    · rename_i h
      rw [if_neg (by simp; omega), if_pos (decide_eq_true (by omega))]
      rfl
def detD : List PyData → PyData
  | [.tuple [.int a0, .int a1, .int a2], .tuple [.int b0, .int b1, .int b2], .tuple [.int c0, .int c1, .int c2]] => .int (a0 * (b1 * c2 - c1 * b2) - a1 * (b0 * c2 - c0 * b2) + a2 * (b0 * c1 - c0 * b1))
  | _ => .none
def f_lside : List PyData → PyData
  | [x, y, z] => sgnD (detD [f_flat [x], f_flat [y], f_flat [z]])
  | _ => .none
abbrev sp_lside : Sp := Pf (fun ds => ∃ x y z, ds = [x, y, z] ∧ PtK 300 x ∧ PtK 300 y ∧ PtK 300 z) f_lside
def GdP (d : PyData) : Prop := (SzP d ∧ ∀ a b c e : Int, d = Pnt a b c e → Bt 300 a ∧ Bt 300 b ∧ Bt 300 c ∧ Bt 300 e) ∧ FitP d
abbrev sp_nopoint : Sp := Sf (fun ds => ds = []) fun _ d => GdP d ∧ noLen 3 d = true
abbrev sp_llen (C : Addr) : Sp := Px C (fun ds => ∃ x y b, ds = [x, y, .bool b] ∧ SzP x ∧ SzP y) (fun ds => match ds with | [x, y, _] => badP2 [x, y] | _ => true) (fun ds => match ds with | [x, y, _] => f_len [x, y] | _ => .none)
abbrev sp_lasked : Sp := Pf (fun ds => ∃ x y b, ds = [x, y, .bool b] ∧ GdP x ∧ GdP y) fun _ => .bool true
/-- behind the try -/
def MidL (sa : Addr) (H : Hp) (d e : PyData) (x y : V) (b : Bool) : L2.St → Hp → Prop := fun σ' H' => ∃ rf told again u, σ' = [some x, some y, some (.bl b), some (.bl rf), some told, some again, u] ∧
  ((rf = true ∧ badP2 [d, e] = true ∧ Wd false sa H H' [x, y] [d, e]) ∨ (rf = false ∧ badP2 [d, e] = false ∧ Wd false sa H H' [again, told, x, y] [f_len [e, d], f_len [d, e], d, e]))
theorem badP2_comm (d e : PyData) : badP2 [d, e] = badP2 [e, d] := Bool.or_comm _ _
theorem c_neN {K : PySem.W.Frag} {H : Hp} {Q : VK} (h : Q (.bl false) H) : rNeD K .non .non H Q := ⟨.none, .none, .non, .non, rfl, rfl, h⟩
theorem c_lisP {b : Bool} {sa : Addr} {H0 H : Hp} {acc : List V} {dacc : List PyData} {x : V} {d : PyData} {Q : VK} {E : XK} (W : Wd b sa H0 H acc dacc) (r : Rp sa H x d) (f : FitP d) (h : ∀ H', Wd b sa H0 H' acc dacc → Q (.bl (isP d)) H') : sp_lisP [x] H Q E :=
  call_P (ds := [d]) W (.cons r .nil) ⟨d, rfl, f⟩ fun H' => v_bl fun W' => h H' (W'.sub (by cases W'.r; assumption))
theorem len_comm (a b c g a2 b2 c2 k2 : Int) : f_len [Pnt a2 b2 c2 k2, Pnt a b c g] = f_len [Pnt a b c g, Pnt a2 b2 c2 k2] := by
  show (match f_root [.int (sq2 (a2 * qt (wg b2 k2) b2) (c2 * qt (wg b2 k2) k2) (wg b2 k2) (a * qt (wg b g) b) (c * qt (wg b g) g) (wg b g))] with | .int k => rt k (wg b2 k2 * wg b g) | _ => PyData.none) = (match f_root [.int (sq2 (a * qt (wg b g) b) (c * qt (wg b g) g) (wg b g) (a2 * qt (wg b2 k2) b2) (c2 * qt (wg b2 k2) k2) (wg b2 k2))] with | .int k => rt k (wg b g * wg b2 k2) | _ => PyData.none)
  rw [show sq2 (a2 * qt (wg b2 k2) b2) (c2 * qt (wg b2 k2) k2) (wg b2 k2) (a * qt (wg b g) b) (c * qt (wg b g) g) (wg b g) = sq2 (a * qt (wg b g) b) (c * qt (wg b g) g) (wg b g) (a2 * qt (wg b2 k2) b2) (c2 * qt (wg b2 k2) k2) (wg b2 k2) by unfold sq2; grind, Int.mul_comm (wg b2 k2) (wg b g)]
theorem len_cases {a b c g a2 b2 c2 k2 : Int} (f1 : Fq 300 a b) (f2 : Fq 300 c g) (f3 : Fq 300 a2 b2) (f4 : Fq 300 c2 k2) : f_len [Pnt a b c g, Pnt a2 b2 c2 k2] = .none ∨ ∃ k m, f_len [Pnt a b c g, Pnt a2 b2 c2 k2] = Fr k m ∧ Low k m ∧ Bt 3200 m := by
  obtain ⟨wp1, _, _, z1, _, _⟩ := spr (f1.mono (show 300 ≤ 500 by decide)) (f2.mono (show 300 ≤ 500 by decide))
  obtain ⟨wp2, _, _, z2, _, _⟩ := spr (f3.mono (show 300 ≤ 500 by decide)) (f4.mono (show 300 ≤ 500 by decide))
  have nz : wg b g * wg b2 k2 ≠ 0 := Int.mul_ne_zero (by omega) (by omega)
  have e : f_len [Pnt a b c g, Pnt a2 b2 c2 k2] = (match f_root [.int (sq2 (a * qt (wg b g) b) (c * qt (wg b g) g) (wg b g) (a2 * qt (wg b2 k2) b2) (c2 * qt (wg b2 k2) k2) (wg b2 k2))] with | .int k => rt k (wg b g * wg b2 k2) | _ => PyData.none) := rfl
  rcases root_cases (sq2 (a * qt (wg b g) b) (c * qt (wg b g) g) (wg b g) (a2 * qt (wg b2 k2) b2) (c2 * qt (wg b2 k2) k2) (wg b2 k2)) with ⟨r, er⟩ | nr
  · refine .inr ⟨nt r (wg b g * wg b2 k2), bN r (wg b g * wg b2 k2), ?_, nt_low nz, bt_bN nz (z1.mul z2)⟩
    rw [e, er, f_root_sq]
  · refine .inl ?_
    rw [e, f_root_no nr]
theorem gd_no {d : PyData} (h : ∀ a b c e, d ≠ Pnt a b c e) (f : FitP d) : GdP d := ⟨⟨fun a b c e z => absurd z (h a b c e), fun a b c e z => absurd z (h a b c e)⟩, f⟩
theorem gd_pt {k : Nat} {a b c e : Int} (ha : Bt 300 a ∧ Bt 300 b ∧ Bt 300 c ∧ Bt 300 e) : GdP (Pnt a b c e) := by
  have key : ∀ a' b' c' e' : Int, Pnt a b c e = Pnt a' b' c' e' → Bt 300 a' ∧ Bt 300 b' ∧ Bt 300 c' ∧ Bt 300 e' := fun a' b' c' e' z => by
    injection z with z
    injection z with z1 z2
    injection z2 with z2 z3
    injection z1 with z1
    injection z1 with z1 z4
    injection z4 with z4 _
    injection z2 with z2
    injection z2 with z2 z5
    injection z5 with z5 _
    injection z1 with z1
    injection z2 with z2
    injection z4 with z4
    injection z5 with z5
    subst z1 z2 z4 z5
    exact ha
  refine ⟨⟨fun a' b' c' e' z => ?_, key⟩, fun x y z => ?_⟩
  · obtain ⟨h1, h2, h3, h4⟩ := key a' b' c' e' z
    exact ⟨h1.mono (by decide), h2.mono (by decide), h3.mono (by decide), h4.mono (by decide)⟩
  · injection z with z
    injection z with z1 z2
    injection z2 with z2 _
    subst z1 z2
    exact ⟨(sz_fr (ha.1.mono (by decide)) (ha.2.1.mono (by decide))).fit, (sz_fr (ha.2.2.1.mono (by decide)) (ha.2.2.2.mono (by decide))).fit⟩
theorem PtK.gd {d : PyData} {k : Nat} (h : PtK k d) (e : k ≤ 300) : GdP d := by
  obtain ⟨a, b, c, g, rfl, f1, f2⟩ := h
  exact gd_pt (k := 0) ⟨f1.ba.mono e, f1.bb.mono e, f2.ba.mono e, f2.bb.mono e⟩
theorem fit_no {d : PyData} (h : ∀ a b : Int, d ≠ .tuple [.int a, .int b]) : Fit d := fun a b e => absurd e (h a b)
theorem fit_lit {a b : Int} (h : b.natAbs < 2 ^ 100) : Fit (.tuple [.int a, .int b]) := fun a' b' e => by
  injection e with e
  injection e with _ e
  injection e with e
  injection e with e
  subst e
  exact (bt_lit 100 h).log (by decide)
local macro_rules | `(tactic| walk_at "fitt") => `(tactic| first | (refine fit_no ?_; intro _ _ z; cases z; done) | exact fit_lit (by decide))
section
variable {P : Program} {w : World} {K : PySem.W.Frag} {mg : Str → Option Value} {base : Heap}
theorem ok_law_is_point {f : Addr} {fd : FuncData} (F : Fun K "_law_is_point" "_law_is_point" s_law_is_point f fd) (nb : Nb mg) (d_law_is_frac : Df P w K mg base CX0 2 "_law_is_frac" ["thing"] sp_isF) : FnOk P w K mg base CX0 3 f fd ["thing"] sp_lisP := by
  have sc := sc_law_is_point
  refine F.ok sc (fun vs H Q E h => ?_) (fun cdv A outer s H vs Q E hr h => ?_)
  · obtain ⟨sa, ds, t, r, ⟨d, rfl, _⟩, q⟩ := h
    exact r.lens
  · obtain ⟨sa, ds, t, r, ⟨d, rfl, fit⟩, q⟩ := h
    obtain ⟨x, rfl, r0⟩ := rps1 r
    refine ⟨_, (pss_one (ps_ret (pe_and (pe_callB call_isi (by rfl) nb.isinstance (by decide +kernel) (pa_cons (pv 0) (pa_cons (pe_bltn (v := .ty "tuple") (u := .type "tuple") (by rfl) nb.tuple (by decide +kernel) rfl) pa_nil))) (pe_and (pe_cmpR op_eq (pe_callB cq_len (by rfl) nb.len (by decide +kernel) (pa_cons (pv 0) pa_nil)) pe_int (nomark _)) (pe_and (pe_call d_law_is_frac.F (hr.mono (by decide)) (by rfl) d_law_is_frac.g d_law_is_frac.kp d_law_is_frac.b .nil pass0 (pa_cons (pe_ix ix_tup (pv 0) pe_int (fun _ _ => rfl)) pa_nil)) (pe_one (pe_call d_law_is_frac.F (hr.mono (by decide)) (by rfl) d_law_is_frac.g d_law_is_frac.kp d_law_is_frac.b .nil pass0 (pa_cons (pe_ix ix_tup (pv 0) pe_int (fun _ _ => rfl)) pa_nil)))))))), ?_⟩
    (rw [show start ["thing"] [x] = [some (x)] from rfl]; try dsimp only [cxOf])
    have W := wd_start t (.cons r0 .nil)
    have fin : ∀ H' z, Same H H' → isP d = z → Q (.bl z) H' := fun H' z s e => q H' _ s (by rw [← e]; exact .bl _)
    walk_at "w"
    refine w_isD r0 (kd_tuple d) ?_
    walk_at "w"
    cases d with
    | tuple l =>
      obtain ⟨p, rfl⟩ : ∃ p, x = .ref p := by
        cases r0
        exact ⟨_, rfl⟩
      refine iteT ?_
      walk_at "w"
      refine w_ifd (fun h => ?_) (fun h => ?_)
      · match l, h with
        | [d0, d1], _ =>
          have ft := fit d0 d1 rfl
          walk_at "w"
          rename_i x0 W1
          refine c_isF W1 (W1.get .here) ft.1 fun H2 W2 => ?_
          cases h0 : isF d0 with
          | false =>
            walk_at "w"
            exact fin _ _ (W2.same rfl) (show (isF d0 && isF d1) = false by rw [h0]; rfl)
          | true =>
            walk_at "w"
            rename_i x1 W3
            refine c_isF W3 (W3.get .here) ft.2 fun H4 W4 => ?_
            exact fin _ _ (W4.same rfl) (show (isF d0 && isF d1) = isF d1 by rw [h0]; rfl)
      · refine fin _ _ (Same.refl H) ?_
        unfold isP
        split
        · rename_i e
          injection e with e
          subst e
          exact absurd rfl h
        · rfl
    | _ =>
      refine iteF ?_
      exact fin _ _ (Same.refl H) rfl
theorem ok_law_side {f : Addr} {fd : FuncData} (F : Fun K "_law_side" "_law_side" s_law_side f fd) (nb : Nb mg) (d_law_flat : Df P w K mg base CX0 1 "_law_flat" ["point"] sp_flat) : FnOk P w K mg base CX0 2 f fd ["one", "other", "third"] sp_lside := by
  have sc := sc_law_side
  refine F.ok sc (fun vs H Q E h => ?_) (fun cdv A outer s H vs Q E hr h => ?_)
  · obtain ⟨sa, ds, t, r, ⟨x, y, z, rfl, _⟩, _⟩ := h
    exact r.lens
  · obtain ⟨sa, ds, t, r, ⟨d, e, o, rfl, ⟨a, b, c, g, rfl, f1, f2⟩, ⟨a2, b2, c2, g2, rfl, f3, f4⟩, a3, b3, c3, g3, rfl, f5, f6⟩, q⟩ := h
    obtain ⟨x, y, z, rfl, r0, r1, r2⟩ := rps3 r
    refine ⟨_, (pss_cons (ps_asg (pe_call d_law_flat.F (hr.mono (by decide)) (by rfl) d_law_flat.g d_law_flat.kp d_law_flat.b .nil pass0 (pa_cons (pv 0) pa_nil)) (pg_name (i := 3) sc.nd rfl (.inl rfl)))
    (pss_cons (ps_asg (pe_call d_law_flat.F (hr.mono (by decide)) (by rfl) d_law_flat.g d_law_flat.kp d_law_flat.b .nil pass0 (pa_cons (pv 1) pa_nil)) (pg_name (i := 4) sc.nd rfl (.inl rfl)))
    (pss_cons (ps_asg (pe_call d_law_flat.F (hr.mono (by decide)) (by rfl) d_law_flat.g d_law_flat.kp d_law_flat.b .nil pass0 (pa_cons (pv 2) pa_nil)) (pg_name (i := 5) sc.nd rfl (.inl rfl)))
    (pss_cons (ps_asg (pe_op op_sub (pe_op op_mulX (pe_ix ix_tup (pv 3) pe_int (fun _ _ => rfl)) (pe_op op_sub (pe_op op_mulX (pe_ix ix_tup (pv 4) pe_int (fun _ _ => rfl)) (pe_ix ix_tup (pv 5) pe_int (fun _ _ => rfl))) (pe_op op_mulX (pe_ix ix_tup (pv 5) pe_int (fun _ _ => rfl)) (pe_ix ix_tup (pv 4) pe_int (fun _ _ => rfl))))) (pe_op op_mulX (pe_ix ix_tup (pv 3) pe_int (fun _ _ => rfl)) (pe_op op_sub (pe_op op_mulX (pe_ix ix_tup (pv 4) pe_int (fun _ _ => rfl)) (pe_ix ix_tup (pv 5) pe_int (fun _ _ => rfl))) (pe_op op_mulX (pe_ix ix_tup (pv 5) pe_int (fun _ _ => rfl)) (pe_ix ix_tup (pv 4) pe_int (fun _ _ => rfl)))))) (pg_name (i := 6) sc.nd rfl (.inl rfl)))
    (pss_cons (ps_asg (pe_op op_add (pv 6) (pe_op op_mulX (pe_ix ix_tup (pv 3) pe_int (fun _ _ => rfl)) (pe_op op_sub (pe_op op_mulX (pe_ix ix_tup (pv 4) pe_int (fun _ _ => rfl)) (pe_ix ix_tup (pv 5) pe_int (fun _ _ => rfl))) (pe_op op_mulX (pe_ix ix_tup (pv 5) pe_int (fun _ _ => rfl)) (pe_ix ix_tup (pv 4) pe_int (fun _ _ => rfl)))))) (pg_name (i := 6) sc.nd rfl (.inl rfl)))
    (pss_one (ps_ret (pe_op op_sub (pe_callTy cq_int (by rfl) nb.int (by decide +kernel) (pa_cons (pe_cmpR op_gt (pv 6) pe_int (nomark _)) pa_nil)) (pe_callTy cq_int (by rfl) nb.int (by decide +kernel) (pa_cons (pe_cmpR op_lt (pv 6) pe_int (nomark _)) pa_nil)))))))))), ?_⟩
    (rw [show start ["one", "other", "third", "a", "b", "c", "whole"] [x, y, z] = [some (x), some (y), some (z), none, none, none, none] from rfl]; try dsimp only [cxOf])
    have W := wd_start t (.cons r0 (.cons r1 (.cons r2 .nil)))
    walk_at "w"
    refine call_P (ds := [Pnt a b c g]) W (.cons r0 .nil) ⟨_, _, _, _, rfl, f1, f2⟩ fun H2 => v_tup fun p2 W2 => ?_
    walk_at "w"
    refine call_P (ds := [Pnt a2 b2 c2 g2]) W2 (.cons (W2.get (.there (.there .here))) .nil) ⟨_, _, _, _, rfl, f3, f4⟩ fun H3 => v_tup fun p3 W3 => ?_
    walk_at "w"
    refine call_P (ds := [Pnt a3 b3 c3 g3]) W3 (.cons (W3.get (.there (.there (.there (.there .here))))) .nil) ⟨_, _, _, _, rfl, f5, f6⟩ fun H4 => v_tup fun p4 W4 => ?_
    obtain ⟨u0, hu0⟩ : ∃ u, u = a * g := ⟨_, rfl⟩
    obtain ⟨u1, hu1⟩ : ∃ u, u = c * b := ⟨_, rfl⟩
    obtain ⟨u2, hu2⟩ : ∃ u, u = b * g := ⟨_, rfl⟩
    obtain ⟨v0, hv0⟩ : ∃ u, u = a2 * g2 := ⟨_, rfl⟩
    obtain ⟨v1, hv1⟩ : ∃ u, u = c2 * b2 := ⟨_, rfl⟩
    obtain ⟨v2, hv2⟩ : ∃ u, u = b2 * g2 := ⟨_, rfl⟩
    obtain ⟨t0, ht0⟩ : ∃ u, u = a3 * g3 := ⟨_, rfl⟩
    obtain ⟨t1, ht1⟩ : ∃ u, u = c3 * b3 := ⟨_, rfl⟩
    obtain ⟨t2, ht2⟩ : ∃ u, u = b3 * g3 := ⟨_, rfl⟩
    have bu0 : Bt 600 u0 := hu0 ▸ f1.ba.mul f2.bb
    have bu1 : Bt 600 u1 := hu1 ▸ f2.ba.mul f1.bb
    have bu2 : Bt 600 u2 := hu2 ▸ f1.bb.mul f2.bb
    have bv0 : Bt 600 v0 := hv0 ▸ f3.ba.mul f4.bb
    have bv1 : Bt 600 v1 := hv1 ▸ f4.ba.mul f3.bb
    have bv2 : Bt 600 v2 := hv2 ▸ f3.bb.mul f4.bb
    have bt0 : Bt 600 t0 := ht0 ▸ f5.ba.mul f6.bb
    have bt1 : Bt 600 t1 := ht1 ▸ f6.ba.mul f5.bb
    have bt2 : Bt 600 t2 := ht2 ▸ f5.bb.mul f6.bb
    have e1 : f_flat [Pnt a b c g] = Tri u0 u1 u2 := by rw [hu0, hu1, hu2]; rfl
    have e2 : f_flat [Pnt a2 b2 c2 g2] = Tri v0 v1 v2 := by rw [hv0, hv1, hv2]; rfl
    have e3 : f_flat [Pnt a3 b3 c3 g3] = Tri t0 t1 t2 := by rw [ht0, ht1, ht2]; rfl
    have et : f_lside [Pnt a b c g, Pnt a2 b2 c2 g2, Pnt a3 b3 c3 g3] = .int (sgn (u0 * (v1 * t2 - t1 * v2) - u1 * (v0 * t2 - t0 * v2) + u2 * (v0 * t1 - t0 * v1))) := by
      show sgnD (detD [f_flat [Pnt a b c g], f_flat [Pnt a2 b2 c2 g2], f_flat [Pnt a3 b3 c3 g3]]) = _
      rw [e1, e2, e3]
      rfl
    rw [e1, e2, e3] at W4
    clear hu0 hu1 hu2 hv0 hv1 hv2 ht0 ht1 ht2 W W2 W3
    walk_at "w"
    refine q _ _ (W4.same rfl) ?_
    rw [et, ← eqB_t (sgn_eq _)]
    exact .int _
theorem ok_law_no_point {f : Addr} {fd : FuncData} (F : Fun K "_law_no_point" "_law_no_point" s_law_no_point f fd) (nb : Nb mg) (d_law_take : Df P w K mg base CX0 2 "_law_take" ["stream", "many"] sp_take) : FnOk P w K mg base CX0 3 f fd ["stream"] sp_nopoint := by
  have sc := sc_law_no_point
  refine F.ok sc (fun vs H Q E h => ?_) (fun cdv A outer s H vs Q E hr h => ?_)
  · obtain ⟨a, vs', ds, rfl, st, r, rfl, _⟩ := h
    cases r
    rfl
  · obtain ⟨a, vs', ds, rfl, st, r, rfl, q⟩ := h
    cases r
    refine ⟨_, (pss_cons (ps_asg (pe_lst (pa_cons pe_non (pa_cons pe_bl (pa_cons pe_int (pa_cons pe_str (pa_cons (pe_lst pa_nil) (pa_cons (pe_tup pa_nil) (pa_cons (pe_tup (pa_cons (pe_tup (pa_cons pe_int (pa_cons pe_int pa_nil))) pa_nil)) (pa_cons (pe_tup (pa_cons (pe_tup (pa_cons pe_int (pa_cons pe_int pa_nil))) (pa_cons (pe_tup (pa_cons pe_int (pa_cons pe_int pa_nil))) (pa_cons (pe_tup (pa_cons pe_int (pa_cons pe_int pa_nil))) pa_nil)))) (pa_cons (pe_lst (pa_cons (pe_tup (pa_cons pe_int (pa_cons pe_int pa_nil))) (pa_cons (pe_tup (pa_cons pe_int (pa_cons pe_int pa_nil))) pa_nil))) (pa_cons (pe_tup (pa_cons (pe_tup (pa_cons pe_int (pa_cons pe_int pa_nil))) (pa_cons (pe_tup (pa_cons pe_int (pa_cons pe_int pa_nil))) pa_nil))) (pa_cons (pe_tup (pa_cons pe_int (pa_cons pe_int pa_nil))) pa_nil)))))))))))) (pg_name (i := 1) sc.nd rfl (.inl rfl)))
    (pss_cons (ps_asg (pe_op op_cat (pv 1) (pe_lst (pa_cons (pe_tup (pa_cons (pe_tup (pa_cons pe_int (pa_cons pe_int pa_nil))) (pa_cons (pe_tup (pa_cons pe_int (pa_cons pe_int pa_nil))) pa_nil))) (pa_cons (pe_tup (pa_cons (pe_tup (pa_cons pe_int (pa_cons pe_int pa_nil))) (pa_cons (pe_lst (pa_cons pe_int (pa_cons pe_int pa_nil))) pa_nil))) (pa_cons (pe_tup (pa_cons (pe_tup (pa_cons pe_bl (pa_cons pe_int pa_nil))) (pa_cons (pe_tup (pa_cons pe_int (pa_cons pe_int pa_nil))) pa_nil))) (pa_cons (pe_tup (pa_cons (pe_tup (pa_cons pe_int (pa_cons pe_int pa_nil))) (pa_cons pe_non pa_nil))) (pa_cons pe_dnewK (pa_cons (pe_tup (pa_cons (pe_tup (pa_cons pe_int (pa_cons (pe_un un_neg pe_int) pa_nil))) (pa_cons (pe_tup (pa_cons pe_int (pa_cons pe_int pa_nil))) pa_nil))) (pa_cons (pe_tup (pa_cons pe_int (pa_cons (pe_tup (pa_cons pe_int (pa_cons pe_int pa_nil))) pa_nil))) pa_nil))))))))) (pg_name (i := 1) sc.nd rfl (.inl rfl)))
    (pss_one (ps_ret (pe_ix ix_list (pv 1) (pe_call d_law_take.F (hr.mono (by decide)) (by rfl) d_law_take.g d_law_take.kp d_law_take.b .nil pass0 (pa_cons (pv 0) (pa_cons (pe_callB cq_len (by rfl) nb.len (by decide +kernel) (pa_cons (pv 1) pa_nil)) pa_nil))) (fun _ _ => rfl)))))), ?_⟩
    (rw [show start ["stream", "rows"] [.ref a] = [some (.ref a), none] from rfl]; try dsimp only [cxOf])
    have W := wd_startS st .nil
    walk_at "w"
    rename_i W1 _ _
    refine x_some W1 (show In2 _ _ _ _ by walk_at "in2") (by assumption) (by assumption) fun x d hd W2 => ?_
    refine q _ x d W2.but (W2.st rfl) (W2.get In2.here) ?_
    simp only [List.mem_append, List.mem_cons, List.not_mem_nil, or_false] at hd
    rcases hd with (rfl | rfl | rfl | rfl | rfl | rfl | rfl | rfl | rfl | rfl | rfl) | rfl | rfl | rfl | rfl | rfl | rfl | rfl <;> refine ⟨?_, by decide +kernel⟩ <;> first
      | exact gd_pt (k := 0) ⟨bt_lit _ (by decide), bt_lit _ (by decide), bt_lit _ (by decide), bt_lit _ (by decide)⟩
      | (refine gd_no (fun a b c e z => ?_) (fun x y z => ?_) <;> first | (cases z; done) | (cases z; constructor <;> walk_at "fitt"))
theorem ok_law_length {f C : Addr} {fd : FuncData} (F : Fun K "_law_length" "_law_length" s_law_length f fd) (d_length_of : Df P w K mg base (L2.CX P w) 5 "length_of" ["one", "other"] (sp_len C)) (kb_length_of : KB0 K d_length_of.fd ["one", "other"] ["other", "one"] swap2) : FnOk P w K mg base (L2.CX P w) 6 f fd ["one", "other", "by_name"] (sp_llen C) := by
  have sc := sc_law_length
  refine F.okX sc (fun vs H Q E h => ?_) (fun cdv A outer s H vs Q E hr h => ?_)
  · obtain ⟨sa, ds, t, r, ⟨d, e, b, rfl, _⟩, _⟩ := h
    exact r.lens
  · obtain ⟨sa, ds, t, r, ⟨d, e, b, rfl, z1, z2⟩, no, q⟩ := h
    obtain ⟨x, y, x3, rfl, r0, r1, r2⟩ := rps3 r
    obtain rfl : x3 = .bl b := by cases r2; rfl
    refine ⟨_, (pss_cons (ps_if (pt_val (pv 2)) (pss_one (ps_ret (pe_kwS d_length_of.F (hr.mono (by decide)) (by rfl) d_length_of.g d_length_of.kp kb_length_of (fun σ => passAt (takes_of rfl rfl rfl rfl) σ) (pk_cons (pv 1) (pk_cons (pv 0) pk_nil))))) pss_nil)
    (pss_one (ps_ret (pe_callS d_length_of.F (hr.mono (by decide)) (by rfl) d_length_of.g d_length_of.kp d_length_of.b (fun σ => passAt (takes_of rfl rfl rfl rfl) σ) (pa_cons (pv 0) (pa_cons (pv 1) pa_nil)))))), ?_⟩
    (rw [show start ["one", "other", "by_name"] [x, y, .bl b] = [some (x), some (y), some (.bl b)] from rfl]; try dsimp only [cxOf])
    have z : sp_len C [x, y] H Q E := ⟨sa, [d, e], t, .cons r0 (.cons r1 .nil), ⟨d, e, rfl, z1, z2⟩, fun hb H' s => no hb H' s, fun hb H' v s rv => q hb H' v s rv⟩
    walk_at "w"
    refine w_if (fun hb => ?_) (fun hb => ?_)
    · walk_at "w"
      exact ⟨rfl, z⟩
    · walk_at "w"
      exact z
theorem ok_law_length_asked {f C : Addr} {fd : FuncData} (F : Fun K "_law_length_asked" "_law_length_asked" s_law_length_asked f fd) (c_NoPoint : Ex0 P w K mg base "NoPoint" C) (d_law_length : Df P w K mg base (L2.CX P w) 6 "_law_length" ["one", "other", "by_name"] (sp_llen C)) (d_length_of : Df P w K mg base (L2.CX P w) 5 "length_of" ["one", "other"] (sp_len C))
    (d_law_is_point : Df P w K mg base CX0 3 "_law_is_point" ["thing"] sp_lisP) (d_law_size : Df P w K mg base CX0 4 "_law_size" ["step"] sp_lsize) (d_law_minus : Df P w K mg base CX0 3 "_law_minus" ["one", "other"] sp_lminus) (d_law_is_frac : Df P w K mg base CX0 2 "_law_is_frac" ["thing"] sp_isF) : FnOk P w K mg base CX0 8 f fd ["one", "other", "by_name"] sp_lasked := by
  have sc := sc_law_length_asked
  refine F.ok sc (fun vs H Q E h => ?_) (fun cdv A outer s H vs Q E hr h => ?_)
  · obtain ⟨sa, ds, t, r, ⟨d, e, b, rfl, _⟩, _⟩ := h
    exact r.lens
  · obtain ⟨sa, ds, t, r, ⟨d, e, b, rfl, g1, g2⟩, q⟩ := h
    obtain ⟨x, y, x3, rfl, r0, r1, r2⟩ := rps3 r
    obtain rfl : x3 = .bl b := by cases r2; rfl
    have fin : ∀ H', Same H H' → Q (.bl true) H' := fun H' s => q H' _ s (.bl true)
    have te : PySem.W.exmOne K (.ref C) (.ref C) = some true := c_NoPoint.te
    refine ⟨_, (pss_cons (ps_asg pe_bl (pg_name (i := 3) sc.nd rfl (.inl rfl)))
    (pss_cons (ps_asg pe_non (pg_name (i := 4) sc.nd rfl (.inl rfl)))
    (pss_cons (ps_asg pe_non (pg_name (i := 5) sc.nd rfl (.inl rfl)))
    (Evl.pss_cut (ps_try_only (tb := fun W => (tSeq (tAsg (tCallS (sp_llen C) (WE W) (tCons (tVar 0) (tCons (tVar 1) (tCons (tVar 2) tNil)))) (gName 4)) (tAsg (tCallS (sp_len C) (WE W) (tCons (tVar 1) (tCons (tVar 0) tNil))) (gName 5)))) (ts := fun _ _ _ => (tAsg (tC (.bl true)) (gName 3))) rfl rfl ⟨rfl, by decide, .inl c_NoPoint.gC⟩ takes0 (fun W pn xe tk _ => (pss_cons (ps_asg (pe_callS d_law_length.F (hr.mono (by decide)) (by rfl) d_law_length.g d_law_length.kp d_law_length.b (fun σ => passAt tk σ) (pa_cons (pv 0) (pa_cons (pv 1) (pa_cons (pv 2) pa_nil)))) (pg_name (i := 4) sc.nd rfl (.inl rfl)))
    (pss_one (ps_asg (pe_callS d_length_of.F (hr.mono (by decide)) (by rfl) d_length_of.g d_length_of.kp d_length_of.b (fun σ => passAt tk σ) (pa_cons (pv 1) (pa_cons (pv 0) pa_nil))) (pg_name (i := 5) sc.nd rfl (.inl rfl)))))) (fun a oe cls d pn _ _ => (pss_one (ps_asg pe_bl (pg_name (i := 3) sc.nd rfl (.inl rfl))))))
    (pss_cons (ps_if (PW.pt (pw_or (pt_not (pt_val (pe_call d_law_is_point.F (hr.mono (by decide)) (by rfl) d_law_is_point.g d_law_is_point.kp d_law_is_point.b .nil pass0 (pa_cons (pv 0) pa_nil)))) (pw_or1 (pt_not (pt_val (pe_call d_law_is_point.F (hr.mono (by decide)) (by rfl) d_law_is_point.g d_law_is_point.kp d_law_is_point.b .nil pass0 (pa_cons (pv 1) pa_nil))))))) (pss_one (ps_ret (pv 3))) pss_nil)
    (pss_cons (ps_if (PW.pt (pw_or (pt_val (pv 3)) (pw_or1 (pt_cmpR (op_neD hr.units) (pv 4) (pv 5) (nomark _))))) (pss_one (ps_ret pe_bl)) pss_nil)
    (pss_cons (ps_asg (pe_call d_law_size.F (hr.mono (by decide)) (by rfl) d_law_size.g d_law_size.kp d_law_size.b .nil pass0 (pa_cons (pe_call d_law_minus.F (hr.mono (by decide)) (by rfl) d_law_minus.g d_law_minus.kp d_law_minus.b .nil pass0 (pa_cons (pv 1) (pa_cons (pv 0) pa_nil))) pa_nil)) (pg_name (i := 6) sc.nd rfl (.inl rfl)))
    (pss_cons (ps_if (pt_cmpR oq_isN (pv 6) pe_non (nomark _)) (pss_one (ps_ret (pe_cmpR oq_isN (pv 4) pe_non (nomark _)))) pss_nil)
    (pss_one (ps_ret (pe_and (pe_call d_law_is_frac.F (hr.mono (by decide)) (by rfl) d_law_is_frac.g d_law_is_frac.kp d_law_is_frac.b .nil pass0 (pa_cons (pv 4) pa_nil)) (pe_one (pe_cmpR (op_eqD hr.units) (pv 4) (pv 6) (nomark _)))))))))))))), ?_⟩
    (rw [show start ["one", "other", "by_name", "refused", "told", "again", "due"] [x, y, .bl b] = [some (x), some (y), some (.bl b), none, none, none, none] from rfl]; try dsimp only [cxOf])
    have W := wd_start t (.cons r0 (.cons r1 .nil))
    walk_at "w"
    refine ⟨MidL sa H d e x y b, ?_, ?_⟩
    · walk_at "w"
      refine ⟨sa, [d, e, .bool b], t, .cons r0 (.cons r1 (.cons (.bl b) .nil)), ⟨d, e, b, rfl, g1.1.1, g2.1.1⟩, fun hb H' s => ?_, fun hb H' v s rv => ?_⟩
      · exact ⟨true, te, fun _ a _ => ⟨true, .non, .non, none, rfl, .inl ⟨rfl, hb, W.go s⟩⟩, fun z => nomatch z⟩
      · have W2 := (W.go s).put rv
        walk_at "w"
        refine ⟨sa, [e, d], W2.tr, .cons (W2.get (.there (.there .here))) (.cons (W2.get (.there .here)) .nil), ⟨e, d, rfl, g2.1.1, g1.1.1⟩, fun hb2 H' s => ?_, fun hb2 H' v2 s rv2 => ?_⟩
        · exact absurd ((badP2_comm d e).trans hb2) (by rw [show badP2 [d, e] = false from hb]; exact Bool.noConfusion)
        · exact ⟨false, v, v2, none, rfl, .inr ⟨rfl, hb, (W2.go s).put rv2⟩⟩
    · clear W
      rintro σ' H1 ⟨rf, told, again, u, rfl, ⟨rfl, hb, W1⟩ | ⟨rfl, hb, W1⟩⟩
      · walk_at "w"
        refine c_lisP W1 (W1.get .here) g1.2 fun H2 W2 => ?_
        cases hd : isP d with
        | false =>
          walk_at "w"
          exact fin _ (W2.same rfl)
        | true =>
          walk_at "w"
          refine c_lisP W2 (W2.get (.there .here)) g2.2 fun H3 W3 => ?_
          cases he : isP e with
          | false =>
            walk_at "w"
            exact fin _ (W3.same rfl)
          | true =>
            have hb' : (!isP d || !isP e) = true := hb
            rw [hd, he] at hb'
            cases hb'
      · have hb' : (!isP d || !isP e) = false := hb
        obtain ⟨hd, he⟩ : isP d = true ∧ isP e = true := by
          cases h1 : isP d <;> cases h2 : isP e <;> rw [h1, h2] at hb' <;> first | exact ⟨rfl, rfl⟩ | cases hb'
        walk_at "w"
        refine c_lisP W1 (W1.get (.there (.there .here))) g1.2 fun H2 W2 => ?_
        rw [hd]
        walk_at "w"
        refine c_lisP W2 (W2.get (.there (.there (.there .here)))) g2.2 fun H3 W3 => ?_
        rw [he]
        clear W1 W2
        obtain ⟨a, b, c, g, rfl, l1, l2⟩ := isP_inv hd
        obtain ⟨a2, b2, c2, k2, rfl, m1, m2⟩ := isP_inv he
        obtain ⟨s1, s2, s3, s4⟩ := g1.1.2 _ _ _ _ rfl
        obtain ⟨t1, t2, t3, t4⟩ := g2.1.2 _ _ _ _ rfl
        have f1 : Fq 300 a b := ⟨l1, s1, s2⟩
        have f2 : Fq 300 c g := ⟨l2, s3, s4⟩
        have f3 : Fq 300 a2 b2 := ⟨m1, t1, t2⟩
        have f4 : Fq 300 c2 k2 := ⟨m2, t3, t4⟩
        have sm := size_main f1 f2 f3 f4
        rw [len_comm a b c g a2 b2 c2 k2] at W3
        have n1 : b2 * b ≠ 0 := Int.mul_ne_zero f3.ne f1.ne
        have n2 : k2 * g ≠ 0 := Int.mul_ne_zero f4.ne f2.ne
        have h1 := fq_rt n1 (((f3.ba.mul f1.bb).sub (f1.ba.mul f3.bb)).mono (show _ ≤ 990 by decide)) ((f3.bb.mul f1.bb).mono (by decide))
        have h2 := fq_rt n2 (((f4.ba.mul f2.bb).sub (f2.ba.mul f4.bb)).mono (show _ ≤ 990 by decide)) ((f4.bb.mul f2.bb).mono (by decide))
        have u7 : ∀ {i : Int}, Bt 300 i → Bt 700 i := fun h => h.mono (by decide)
        obtain ⟨x1, rfl⟩ : ∃ p, x = .ref p := by cases r0; exact ⟨_, rfl⟩
        obtain ⟨y1, rfl⟩ : ∃ p, y = .ref p := by cases r1; exact ⟨_, rfl⟩
        rcases len_cases f1 f2 f3 f4 with e0 | ⟨k, m, e0, lk, bk⟩
        · rw [e0] at W3 sm
          obtain rfl : again = .non := by cases W3.get .here; rfl
          obtain rfl : told = .non := by cases W3.get (.there .here); rfl
          walk_at "w"
          refine c_neN ?_
          walk_at "w"
          refine call_P (ds := [Pnt a2 b2 c2 k2, Pnt a b c g]) W3 (.cons (W3.get (.there (.there (.there .here)))) (.cons (W3.get (.there (.there .here))) .nil)) ⟨_, _, _, _, _, _, _, _, rfl, ⟨m1, m2⟩, ⟨l1, l2⟩, ⟨u7 t1, u7 t2, u7 t3, u7 t4⟩, u7 s1, u7 s2, u7 s3, u7 s4⟩ fun H4 => v_tup fun p4 W4 => ?_
          walk_at "w"
          refine call_P (ds := [f_lminus [Pnt a2 b2 c2 k2, Pnt a b c g]]) W4 (.cons (W4.get .here) .nil) ⟨_, _, _, _, rfl, h1, h2⟩ fun H5 => ?_
          rw [sm]
          refine v_non fun W5 => ?_
          walk_at "w"
          exact fin _ (W5.same rfl)
        · rw [e0] at W3 sm
          obtain ⟨pa, rfl⟩ : ∃ p, again = .ref p := by cases W3.get .here; exact ⟨_, rfl⟩
          obtain ⟨pt, rfl⟩ : ∃ p, told = .ref p := by cases W3.get (.there .here); exact ⟨_, rfl⟩
          walk_at "w"
          rw [eqT rfl, eqT rfl, show (!(true && true)) = false from rfl]
          walk_at "w"
          refine call_P (ds := [Pnt a2 b2 c2 k2, Pnt a b c g]) W3 (.cons (W3.get (.there (.there (.there .here)))) (.cons (W3.get (.there (.there .here))) .nil)) ⟨_, _, _, _, _, _, _, _, rfl, ⟨m1, m2⟩, ⟨l1, l2⟩, ⟨u7 t1, u7 t2, u7 t3, u7 t4⟩, u7 s1, u7 s2, u7 s3, u7 s4⟩ fun H4 => v_tup fun p4 W4 => ?_
          walk_at "w"
          refine call_P (ds := [f_lminus [Pnt a2 b2 c2 k2, Pnt a b c g]]) W4 (.cons (W4.get .here) .nil) ⟨_, _, _, _, rfl, h1, h2⟩ fun H5 => ?_
          rw [sm]
          refine v_tup fun p5 W5 => ?_
          walk_at "w"
          have mt : In2 (.ref pt) (Fr k m) [.ref p5, .ref p4, .ref pa, .ref pt, .ref x1, .ref y1] [Fr k m, f_lminus [Pnt a2 b2 c2 k2, Pnt a b c g], Fr k m, Fr k m, Pnt a b c g, Pnt a2 b2 c2 k2] := .there (.there (.there .here))
          refine c_isF W5 (W5.get mt) (fun a' b' z => ?_) fun H6 W6 => ?_
          · injection z with z
            injection z with _ z
            injection z with z
            injection z with z
            subst z
            exact bk.log (by decide)
          rw [isF_fr lk]
          walk_at "w"
          rw [eqT rfl, eqT rfl]
          exact fin _ (W6.same rfl)
end

/-! ### turns asked, triples drawn -/
theorem sgn_neg (z : Int) : sgn (-z) = - sgn z := by
  unfold sgn
  by_cases h0 : z = 0
  · subst h0
    rfl
  · rw [if_neg h0, if_neg (by omega)]
    by_cases h1 : 0 < z
    · rw [if_pos h1, if_neg (by omega)]
    · rw [if_neg h1, if_pos (by omega)]
      rfl
theorem sgn_pos {z k : Int} (h : 0 < k) : sgn (z * k) = sgn z := by
  unfold sgn
  by_cases h0 : z = 0
  · subst h0
    simp
  · rw [if_neg h0, if_neg (Int.mul_ne_zero h0 (by omega))]
    by_cases h1 : 0 < z
    · rw [if_pos h1, if_pos (Int.mul_pos h1 h)]
    · rw [if_neg h1, if_neg (fun z2 => by
        have := Int.mul_lt_mul_of_pos_right (show z < 0 by omega) h
        omega)]
theorem gq {k : Nat} {a b c g : Int} (f1 : Fq k a b) (f2 : Fq k c g) : ∃ r, 0 < r ∧ wg b g * r = b * g := by
  have p1 : 1 ≤ b := f1.low.pos
  have p2 : 1 ≤ g := f2.low.pos
  refine ⟨((Nat.gcd b.natAbs g.natAbs : Nat) : Int), ?_, ?_⟩
  · have := Nat.gcd_pos_of_pos_left g.natAbs (show 0 < b.natAbs by omega)
    omega
  · unfold wg
    rw [← Int.natCast_mul, Nat.mul_comm, Nat.gcd_mul_lcm, Int.natCast_mul, Int.natAbs_of_nonneg (by omega), Int.natAbs_of_nonneg (by omega)]
theorem flat_eq {a b c g X Y w r : Int} (n1 : b ≠ 0) (n2 : g ≠ 0) (x : X * b = a * w) (y : Y * g = c * w) (e : w * r = b * g) : f_flat [Pnt a b c g] = Tri (X * r) (Y * r) (w * r) := by
  show Tri (a * g) (c * b) (b * g) = _
  have h1 : a * g = X * r := Int.eq_of_mul_eq_mul_right n1 (by grind)
  have h2 : c * b = Y * r := Int.eq_of_mul_eq_mul_right n2 (by grind)
  rw [h1, h2, e]
theorem turn_ring (a b c d e f g h i : Int) : (e * i - f * h) * a + (f * g - d * i) * b + (d * h - e * g) * c = (b * f - c * e) * g + (c * d - a * f) * h + (a * e - b * d) * i := by grind
theorem turn_ring2 (a b c d e f g h i : Int) : (e * c - f * b) * g + (f * a - d * c) * h + (d * b - e * a) * i = -((b * f - c * e) * g + (c * d - a * f) * h + (a * e - b * d) * i) := by grind
theorem det_1 (a b c d e f g h i r : Int) : (a * r) * (e * i - h * f) - (b * r) * (d * i - g * f) + (c * r) * (d * h - g * e) = (a * (e * i - h * f) - b * (d * i - g * f) + c * (d * h - g * e)) * r := by grind
theorem det_2 (a b c d e f g h i r : Int) : a * ((e * r) * i - h * (f * r)) - b * ((d * r) * i - g * (f * r)) + c * ((d * r) * h - g * (e * r)) = (a * (e * i - h * f) - b * (d * i - g * f) + c * (d * h - g * e)) * r := by grind
theorem det_3 (a b c d e f g h i r : Int) : a * (e * (i * r) - (h * r) * f) - b * (d * (i * r) - (g * r) * f) + c * (d * (h * r) - (g * r) * e) = (a * (e * i - h * f) - b * (d * i - g * f) + c * (d * h - g * e)) * r := by grind
theorem det_0 (a b c d e f g h i : Int) : a * (e * i - h * f) - b * (d * i - g * f) + c * (d * h - g * e) = (b * f - c * e) * g + (c * d - a * f) * h + (a * e - b * d) * i := by grind
theorem side_main {a b c g a2 b2 c2 g2 a3 b3 c3 g3 : Int} (f1 : Fq 300 a b) (f2 : Fq 300 c g) (f3 : Fq 300 a2 b2) (f4 : Fq 300 c2 g2) (f5 : Fq 300 a3 b3) (f6 : Fq 300 c3 g3) :
    ∃ k : Int, f_turn [Pnt a b c g, Pnt a2 b2 c2 g2, Pnt a3 b3 c3 g3] = .int k ∧ f_turn [Pnt a2 b2 c2 g2, Pnt a3 b3 c3 g3, Pnt a b c g] = .int k ∧ f_turn [Pnt a2 b2 c2 g2, Pnt a b c g, Pnt a3 b3 c3 g3] = .int (-k) ∧ f_lside [Pnt a b c g, Pnt a2 b2 c2 g2, Pnt a3 b3 c3 g3] = .int k := by
  obtain ⟨wp1, _, _, _, x1, y1⟩ := spr (f1.mono (show 300 ≤ 500 by decide)) (f2.mono (show 300 ≤ 500 by decide))
  obtain ⟨wp2, _, _, _, x2, y2⟩ := spr (f3.mono (show 300 ≤ 500 by decide)) (f4.mono (show 300 ≤ 500 by decide))
  obtain ⟨wp3, _, _, _, x3, y3⟩ := spr (f5.mono (show 300 ≤ 500 by decide)) (f6.mono (show 300 ≤ 500 by decide))
  have sp1 : f_spread [Pnt a b c g] = Tri (a * qt (wg b g) b) (c * qt (wg b g) g) (wg b g) := rfl
  have sp2 : f_spread [Pnt a2 b2 c2 g2] = Tri (a2 * qt (wg b2 g2) b2) (c2 * qt (wg b2 g2) g2) (wg b2 g2) := rfl
  have sp3 : f_spread [Pnt a3 b3 c3 g3] = Tri (a3 * qt (wg b3 g3) b3) (c3 * qt (wg b3 g3) g3) (wg b3 g3) := rfl
  obtain ⟨r1, q1, e1⟩ := gq f1 f2
  obtain ⟨r2, q2, e2⟩ := gq f3 f4
  obtain ⟨r3, q3, e3⟩ := gq f5 f6
  have n1 := f1.ne
  have n2 := f2.ne
  have n3 := f3.ne
  have n4 := f4.ne
  have n5 := f5.ne
  have n6 := f6.ne
  generalize a * qt (wg b g) b = X1 at x1 sp1
  generalize c * qt (wg b g) g = Y1 at y1 sp1
  generalize a2 * qt (wg b2 g2) b2 = X2 at x2 sp2
  generalize c2 * qt (wg b2 g2) g2 = Y2 at y2 sp2
  generalize a3 * qt (wg b3 g3) b3 = X3 at x3 sp3
  generalize c3 * qt (wg b3 g3) g3 = Y3 at y3 sp3
  generalize wg b g = w1 at *
  generalize wg b2 g2 = w2 at *
  generalize wg b3 g3 = w3 at *
  have fl1 : f_flat [Pnt a b c g] = Tri (X1 * r1) (Y1 * r1) (w1 * r1) := flat_eq n1 n2 x1 y1 e1
  have fl2 : f_flat [Pnt a2 b2 c2 g2] = Tri (X2 * r2) (Y2 * r2) (w2 * r2) := flat_eq n3 n4 x2 y2 e2
  have fl3 : f_flat [Pnt a3 b3 c3 g3] = Tri (X3 * r3) (Y3 * r3) (w3 * r3) := flat_eq n5 n6 x3 y3 e3
  have tn : ∀ d e o : PyData, f_turn [d, e, o] = sgnD (f_side [f_line [f_spread [d], f_spread [e]], f_spread [o]]) := fun _ _ _ => rfl
  have ls : ∀ d e o : PyData, f_lside [d, e, o] = sgnD (detD [f_flat [d], f_flat [e], f_flat [o]]) := fun _ _ _ => rfl
  have sd : ∀ a b c d e f g h i : Int, f_side [f_line [Tri a b c, Tri d e f], Tri g h i] = .int ((b * f - c * e) * g + (c * d - a * f) * h + (a * e - b * d) * i) := fun _ _ _ _ _ _ _ _ _ => rfl
  have dd : ∀ a0 a1 a2 b0 b1 b2 c0 c1 c2 : Int, detD [Tri a0 a1 a2, Tri b0 b1 b2, Tri c0 c1 c2] = .int (a0 * (b1 * c2 - c1 * b2) - a1 * (b0 * c2 - c0 * b2) + a2 * (b0 * c1 - c0 * b1)) := fun _ _ _ _ _ _ _ _ _ => rfl
  rw [tn, tn, tn, ls, sp1, sp2, sp3, fl1, fl2, fl3, sd, sd, sd, dd]
  refine ⟨_, rfl, ?_, ?_, ?_⟩
  · show PyData.int (sgn _) = PyData.int (sgn _)
    rw [turn_ring X1 Y1 w1 X2 Y2 w2 X3 Y3 w3]
  · show PyData.int (sgn _) = PyData.int (- sgn _)
    rw [← sgn_neg, turn_ring2 X1 Y1 w1 X2 Y2 w2 X3 Y3 w3]
  · show PyData.int (sgn _) = PyData.int (sgn _)
    rw [det_1, det_2, det_3, det_0, sgn_pos q1, sgn_pos q2, sgn_pos q3]

/-! ### turns asked -/
abbrev sp_triple : Sp := Sf (fun ds => ds = []) fun _ d => ∃ d0 d1 d2, d = .list [d0, d1, d2] ∧ GdP d0 ∧ GdP d1 ∧ GdP d2
abbrev sp_tasked : Sp := Pf (fun ds => ∃ d0 d1 d2 b, ds = [.list [d0, d1, d2], .bool b] ∧ GdP d0 ∧ GdP d1 ∧ GdP d2) fun _ => .bool true
def rev3 {α : Type} : List α → List α
  | [a, b, c] => [c, b, a]
  | l => l
theorem vals_rev3 {zs : List V} {ws : List Value} (r : Vals zs ws) (h : zs.length = 3) : Vals (rev3 zs) (rev3 ws) := by
  cases r with
  | cons r1 r => cases r with
    | cons r2 r => cases r with
      | cons r3 r => cases r with
        | nil => exact .cons r3 (.cons r2 (.cons r1 .nil))
        | cons _ _ => simp at h
      | nil => simp at h
    | nil => simp at h
  | nil => simp at h
theorem n_lstF {xs : List V} {H : Hp} {Q : VK} (hl : xs.length.ble 1000 = true) (h : ∀ p, H p = none → Q (.ref p) (upd H p (.lst xs))) : NL Q xs H := ⟨Nat.le_of_lt (small1000 (Nat.le_of_ble_eq_true hl)), fun p np => h p np⟩
theorem same_updN {H H' : Hp} {l : Addr} {o : HO} (s : Same H H') (n : H l = none) : Same H (upd H' l o) := fun b ob hb => by
  by_cases e : b = l
  · subst e
    rw [n] at hb
    cases hb
  · rw [upd_ne e]
    exact s b ob hb
theorem turns {d0 d1 d2 : PyData} (h0 : isP d0 = true) (h1 : isP d1 = true) (h2 : isP d2 = true) (g0 : GdP d0) (g1 : GdP d1) (g2 : GdP d2) :
    ∃ k : Int, f_turn [d0, d1, d2] = .int k ∧ f_turn [d1, d2, d0] = .int k ∧ f_turn [d1, d0, d2] = .int (-k) ∧ f_lside [d0, d1, d2] = .int k ∧ PtK 300 d0 ∧ PtK 300 d1 ∧ PtK 300 d2 := by
  obtain ⟨a, b, c, g, rfl, l1, l2⟩ := isP_inv h0
  obtain ⟨a2, b2, c2, k2, rfl, m1, m2⟩ := isP_inv h1
  obtain ⟨a3, b3, c3, k3, rfl, n1, n2⟩ := isP_inv h2
  obtain ⟨s1, s2, s3, s4⟩ := g0.1.2 _ _ _ _ rfl
  obtain ⟨t1, t2, t3, t4⟩ := g1.1.2 _ _ _ _ rfl
  obtain ⟨u1, u2, u3, u4⟩ := g2.1.2 _ _ _ _ rfl
  have f1 : Fq 300 a b := ⟨l1, s1, s2⟩
  have f2 : Fq 300 c g := ⟨l2, s3, s4⟩
  have f3 : Fq 300 a2 b2 := ⟨m1, t1, t2⟩
  have f4 : Fq 300 c2 k2 := ⟨m2, t3, t4⟩
  have f5 : Fq 300 a3 b3 := ⟨n1, u1, u2⟩
  have f6 : Fq 300 c3 k3 := ⟨n2, u3, u4⟩
  obtain ⟨k, e1, e2, e3, e4⟩ := side_main f1 f2 f3 f4 f5 f6
  exact ⟨k, e1, e2, e3, e4, ⟨_, _, _, _, rfl, f1, f2⟩, ⟨_, _, _, _, rfl, f3, f4⟩, ⟨_, _, _, _, rfl, f5, f6⟩⟩
theorem w_bm {K : PySem.W.Frag} {T : String} {r : V → List V → Hp → VK → Prop} {to : TE} {t : TA} {σ : L2.St} {H : Hp} {Q : VK} (h : to σ H fun x H1 => tyV K T x H1 ∧ t σ H1 fun xs H2 => r x xs H2 Q) : tBM K T r to t σ H Q := h
theorem tyV_lst {K : PySem.W.Frag} {H : Hp} {l : Addr} {xs : List V} (e : H l = some (.lst xs)) : tyV K "list" (.ref l) H := .inl ⟨rfl, xs, SqL.of e⟩
theorem ap_lst {H : Hp} {l : Addr} {xs : List V} {y : V} {Q : VK} (e : H l = some (.lst xs)) (hl : xs.length.ble 900 = true) (h : Q .non (upd H l (.lst (xs ++ [y])))) : rAppend (.ref l) [y] H Q := ⟨l, xs, y, rfl, rfl, e, small1000 (Nat.le_trans (Nat.le_of_ble_eq_true hl) (by decide)), h⟩
theorem eqv_three {a b c : Int} : PyData.eqv (.list [.int a, .int b, .int c]) (.list [.int a, .int b, .int c]) = true := by
  show (a == a && (b == b && (c == c && true))) = true
  rw [beq_self_eq_true, beq_self_eq_true, beq_self_eq_true]
  rfl
def MidT (H : Hp) (p : Addr) (ds : List PyData) (b : Bool) (k1 k2 k3 : PyData) : L2.St → Hp → Prop := fun σ' H' => ∃ rf told u, σ' = [some (.ref p), some (.bl b), some (.bl rf), some told, u] ∧ Same H H' ∧
  ((rf = true ∧ badP3 ds = true) ∨ (rf = false ∧ badP3 ds = false ∧ ∃ l i1 i2 i3, told = .ref l ∧ H' l = some (.lst [.int i1, .int i2, .int i3]) ∧ k1 = .int i1 ∧ k2 = .int i2 ∧ k3 = .int i3))
section
variable {P : Program} {w : World} {K : PySem.W.Frag} {mg : Str → Option Value} {base : Heap}
theorem ok_law_turn_asked {f C : Addr} {fd : FuncData} (F : Fun K "_law_turn_asked" "_law_turn_asked" s_law_turn_asked f fd) (c_NoPoint : Ex0 P w K mg base "NoPoint" C) (d_turn_of : Df P w K mg base (L2.CX P w) 5 "turn_of" ["one", "other", "third"] (sp_turn C)) (kb_turn_of : KB0 K d_turn_of.fd ["one", "other", "third"] ["third", "other", "one"] rev3)
    (d_law_is_point : Df P w K mg base CX0 3 "_law_is_point" ["thing"] sp_lisP) (d_law_is_integer : Df P w K mg base CX0 1 "_law_is_integer" ["thing"] sp_isI) (d_law_side : Df P w K mg base CX0 2 "_law_side" ["one", "other", "third"] sp_lside) : FnOk P w K mg base CX0 7 f fd ["points", "by_name"] sp_tasked := by
  have sc := sc_law_turn_asked
  refine F.ok sc (fun vs H Q E h => ?_) (fun cdv A outer s H vs Q E hr h => ?_)
  · obtain ⟨sa, ds, t, r, ⟨d0, d1, d2, b, rfl, _⟩, _⟩ := h
    exact r.lens
  · obtain ⟨sa, ds, t, r, ⟨d0, d1, d2, b, rfl, g0, g1, g2⟩, q⟩ := h
    obtain ⟨x, y, rfl, r0, r1⟩ := rps2 r
    obtain rfl : y = .bl b := by cases r1; rfl
    have fin : ∀ H', Same H H' → Q (.bl true) H' := fun H' s => q H' _ s (.bl true)
    have te : PySem.W.exmOne K (.ref C) (.ref C) = some true := c_NoPoint.te
    cases r0 with
    | @lst p xs _ n hx r =>
    obtain ⟨x0, x1, x2, rfl, ra, rb, rc⟩ := rps3 r
    refine ⟨_, (pss_cons (ps_asg pe_bl (pg_name (i := 2) sc.nd rfl (.inl rfl)))
    (pss_cons (ps_asg (pe_lst pa_nil) (pg_name (i := 3) sc.nd rfl (.inl rfl)))
    (Evl.pss_cut (ps_try_only (tb := fun W => (tSeq (tIfS (tB (tVar 1)) (tAsg (tLst (tCons (tCallKS (sp_turn C) 3 rev3 (WE W) (tCons (tOp (rIxL K) (tVar 0) (tC (.int 2))) (tCons (tOp (rIxL K) (tVar 0) (tC (.int 1))) (tCons (tOp (rIxL K) (tVar 0) (tC (.int 0))) tNil)))) tNil)) (gName 3)) (tAsg (tLst (tCons (tCallS (sp_turn C) (WE W) (tCons (tOp (rIxL K) (tVar 0) (tC (.int 0))) (tCons (tOp (rIxL K) (tVar 0) (tC (.int 1))) (tCons (tOp (rIxL K) (tVar 0) (tC (.int 2))) tNil)))) tNil)) (gName 3))) (tSeq (tDrop (tBM K "list" rAppend (tVar 3) (tCons (tCallS (sp_turn C) (WE W) (tCons (tOp (rIxL K) (tVar 0) (tC (.int 1))) (tCons (tOp (rIxL K) (tVar 0) (tC (.int 2))) (tCons (tOp (rIxL K) (tVar 0) (tC (.int 0))) tNil)))) tNil))) (tDrop (tBM K "list" rAppend (tVar 3) (tCons (tCallS (sp_turn C) (WE W) (tCons (tOp (rIxL K) (tVar 0) (tC (.int 1))) (tCons (tOp (rIxL K) (tVar 0) (tC (.int 0))) (tCons (tOp (rIxL K) (tVar 0) (tC (.int 2))) tNil)))) tNil)))))) (ts := fun _ _ _ => (tAsg (tC (.bl true)) (gName 2))) rfl rfl ⟨rfl, by decide, .inl c_NoPoint.gC⟩ takes0 (fun W pn xe tk _ => (pss_cons (ps_if (pt_val (pv 1)) (pss_one (ps_asg (pe_lst (pa_cons (pe_kwS d_turn_of.F (hr.mono (by decide)) (by rfl) d_turn_of.g d_turn_of.kp kb_turn_of (fun σ => passAt tk σ) (pk_cons (pe_ix ix_list (pv 0) pe_int (fun _ _ => rfl)) (pk_cons (pe_ix ix_list (pv 0) pe_int (fun _ _ => rfl)) (pk_cons (pe_ix ix_list (pv 0) pe_int (fun _ _ => rfl)) pk_nil)))) pa_nil)) (pg_name (i := 3) sc.nd rfl (.inl rfl)))) (pss_one (ps_asg (pe_lst (pa_cons (pe_callS d_turn_of.F (hr.mono (by decide)) (by rfl) d_turn_of.g d_turn_of.kp d_turn_of.b (fun σ => passAt tk σ) (pa_cons (pe_ix ix_list (pv 0) pe_int (fun _ _ => rfl)) (pa_cons (pe_ix ix_list (pv 0) pe_int (fun _ _ => rfl)) (pa_cons (pe_ix ix_list (pv 0) pe_int (fun _ _ => rfl)) pa_nil)))) pa_nil)) (pg_name (i := 3) sc.nd rfl (.inl rfl)))))
    (pss_cons (ps_expr (pe_bm PySem.F.plainAttrs_list PySem.F.slot_list_append PySem.F.type_list_append mt_append (pv 3) (pa_cons (pe_callS d_turn_of.F (hr.mono (by decide)) (by rfl) d_turn_of.g d_turn_of.kp d_turn_of.b (fun σ => passAt tk σ) (pa_cons (pe_ix ix_list (pv 0) pe_int (fun _ _ => rfl)) (pa_cons (pe_ix ix_list (pv 0) pe_int (fun _ _ => rfl)) (pa_cons (pe_ix ix_list (pv 0) pe_int (fun _ _ => rfl)) pa_nil)))) pa_nil)))
    (pss_one (ps_expr (pe_bm PySem.F.plainAttrs_list PySem.F.slot_list_append PySem.F.type_list_append mt_append (pv 3) (pa_cons (pe_callS d_turn_of.F (hr.mono (by decide)) (by rfl) d_turn_of.g d_turn_of.kp d_turn_of.b (fun σ => passAt tk σ) (pa_cons (pe_ix ix_list (pv 0) pe_int (fun _ _ => rfl)) (pa_cons (pe_ix ix_list (pv 0) pe_int (fun _ _ => rfl)) (pa_cons (pe_ix ix_list (pv 0) pe_int (fun _ _ => rfl)) pa_nil)))) pa_nil))))))) (fun a oe cls d pn _ _ => (pss_one (ps_asg pe_bl (pg_name (i := 2) sc.nd rfl (.inl rfl))))))
    (pss_cons (ps_if (PW.pt (pw_or (pt_not (pt_val (pe_call d_law_is_point.F (hr.mono (by decide)) (by rfl) d_law_is_point.g d_law_is_point.kp d_law_is_point.b .nil pass0 (pa_cons (pe_ix ix_list (pv 0) pe_int (fun _ _ => rfl)) pa_nil)))) (pw_or (pt_not (pt_val (pe_call d_law_is_point.F (hr.mono (by decide)) (by rfl) d_law_is_point.g d_law_is_point.kp d_law_is_point.b .nil pass0 (pa_cons (pe_ix ix_list (pv 0) pe_int (fun _ _ => rfl)) pa_nil)))) (pw_or1 (pt_not (pt_val (pe_call d_law_is_point.F (hr.mono (by decide)) (by rfl) d_law_is_point.g d_law_is_point.kp d_law_is_point.b .nil pass0 (pa_cons (pe_ix ix_list (pv 0) pe_int (fun _ _ => rfl)) pa_nil)))))))) (pss_one (ps_ret (pv 2))) pss_nil)
    (pss_cons (ps_if (PW.pt (pw_or (pt_val (pv 2)) (pw_or1 (pt_not (pt_val (pe_call d_law_is_integer.F (hr.mono (by decide)) (by rfl) d_law_is_integer.g d_law_is_integer.kp d_law_is_integer.b .nil pass0 (pa_cons (pe_ix ix_list (pv 3) pe_int (fun _ _ => rfl)) pa_nil))))))) (pss_one (ps_ret pe_bl)) pss_nil)
    (pss_cons (ps_asg (pe_call d_law_side.F (hr.mono (by decide)) (by rfl) d_law_side.g d_law_side.kp d_law_side.b .nil pass0 (pa_cons (pe_ix ix_list (pv 0) pe_int (fun _ _ => rfl)) (pa_cons (pe_ix ix_list (pv 0) pe_int (fun _ _ => rfl)) (pa_cons (pe_ix ix_list (pv 0) pe_int (fun _ _ => rfl)) pa_nil)))) (pg_name (i := 4) sc.nd rfl (.inl rfl)))
    (pss_one (ps_ret (pe_cmpR (op_eqD hr.units) (pv 3) (pe_lst (pa_cons (pv 4) (pa_cons (pv 4) (pa_cons (pe_un un_neg (pv 4)) pa_nil)))) (nomark _)))))))))), ?_⟩
    (rw [show start ["points", "by_name", "refused", "told", "due"] [.ref p, .bl b] = [some (.ref p), some (.bl b), none, none, none] from rfl]; try dsimp only [cxOf])
    walk_at "w"
    refine n_lstF rfl fun l0 nl0 => ?_
    walk_at "w"
    have sm0 : Same H (upd H l0 (.lst [])) := same_updN (Same.refl H) nl0
    have hp : SqL K (upd H l0 (.lst [])) p [x0, x1, x2] := SqL.of (sm0 _ _ hx)
    have W0 : Wd false sa H H [x2, x1, x0] [d2, d1, d0] := wd_start t (.cons rc (.cons rb (.cons ra .nil)))
    have hz : ∀ H' z, Same H H' → z = true → badP3 [d0, d1, d2] = z → MidT H p [d0, d1, d2] b (f_turn [d0, d1, d2]) (f_turn [d1, d2, d0]) (f_turn [d1, d0, d2]) [some (.ref p), some (.bl b), some (.bl true), some (.ref l0), none] H' := fun H' z s e1 e2 => ⟨true, _, _, rfl, s, .inl ⟨rfl, e2.trans e1⟩⟩
    refine ⟨MidT H p [d0, d1, d2] b (f_turn [d0, d1, d2]) (f_turn [d1, d2, d0]) (f_turn [d1, d0, d2]), ?_, ?_⟩
    · have tr0 : ∃ o, (upd H l0 (.lst [])) sa = some o := let ⟨o, e⟩ := t; ⟨o, sm0 _ _ e⟩
      have W1 := W0.go sm0
      have rr : Rps sa (upd H l0 (.lst [])) [x0, x1, x2] [d0, d1, d2] := .cons (W1.get (.there (.there .here))) (.cons (W1.get (.there .here)) (.cons (W1.get .here) .nil))
      cases hbad : badP3 [d0, d1, d2] with
      | true =>
        have bad : ∀ {QQ : VK} {EE : XK}, (∀ H', Same H H' → EE (.ref C) none H') → sp_turn C [x0, x1, x2] (upd H l0 (.lst [])) QQ EE := fun h => ⟨sa, [d0, d1, d2], tr0, rr, ⟨d0, d1, d2, rfl, g0.1.1, g1.1.1, g2.1.1⟩, fun _ H' s => h H' (sm0.trans s), fun hg => absurd (hbad.symm.trans hg) (by decide)⟩
        walk_at "w"
        refine w_if (fun hb => ?_) (fun hb => ?_)
        · walk_at "w"
          refine ⟨rfl, bad fun H' s => ?_⟩
          exact ⟨true, te, fun _ a _ => hz H' true s rfl hbad, fun z => nomatch z⟩
        · walk_at "w"
          refine bad fun H' s => ?_
          exact ⟨true, te, fun _ a _ => hz H' true s rfl hbad, fun z => nomatch z⟩
      | false =>
        have hbad' : (!isP d0 || !isP d1 || !isP d2) = false := hbad
        obtain ⟨h0, h1, h2⟩ : isP d0 = true ∧ isP d1 = true ∧ isP d2 = true := by
          cases z0 : isP d0 <;> cases z1 : isP d1 <;> cases z2 : isP d2 <;> rw [z0, z1, z2] at hbad' <;> first | exact ⟨rfl, rfl, rfl⟩ | cases hbad'
        obtain ⟨k, e1, e2, e3, e4, _⟩ := turns h0 h1 h2 g0 g1 g2
        have b2 : badP3 [d1, d2, d0] = false := show (!isP d1 || !isP d2 || !isP d0) = false by rw [h0, h1, h2]; rfl
        have b3 : badP3 [d1, d0, d2] = false := show (!isP d1 || !isP d0 || !isP d2) = false by rw [h0, h1, h2]; rfl
        have gt : ∀ {Hc : Hp} {QQ : VK} {EE : XK} {u v w : V} {du dv dw : PyData} {k : Int}, Same H Hc → Rps sa Hc [u, v, w] [du, dv, dw] → badP3 [du, dv, dw] = false → f_turn [du, dv, dw] = .int k → (∀ H', Same Hc H' → QQ (.int k) H') → (SzP du ∧ SzP dv ∧ SzP dw) → sp_turn C [u, v, w] Hc QQ EE := fun sm rr hb et h z =>
          ⟨sa, _, (let ⟨o, e⟩ := t; ⟨o, sm _ _ e⟩), rr, ⟨_, _, _, rfl, z.1, z.2.1, z.2.2⟩, fun hb2 => absurd (hb2.symm.trans hb) (by decide), fun _ H' v s rv => by
            rw [et] at rv
            cases rv
            exact h H' s⟩
        have fresh : ∀ {Hc : Hp} {l : Addr}, Same H Hc → Hc l = none → H l = none := fun {Hc l} sm n => by
          cases e : H l with
          | none => rfl
          | some o => rw [sm _ _ e] at n; cases n
        walk_at "w"
        refine w_if (fun hb => ?_) (fun hb => ?_)
        · walk_at "w"
          refine ⟨rfl, ?_⟩
          show sp_turn C [x0, x1, x2] _ _ _
          refine gt sm0 rr hbad e1 (fun H1 s1 => ?_) ⟨g0.1.1, g1.1.1, g2.1.1⟩
          walk_at "w"
          have smA := sm0.trans s1
          refine n_lstF rfl fun l1 nl1 => ?_
          have nl : H l1 = none := fresh smA nl1
          have sm1 := same_updN (o := .lst [.int k]) smA nl
          have hp1 : SqL K (upd H1 l1 (.lst [.int k])) p [x0, x1, x2] := SqL.of (sm1 _ _ hx)
          have W2 := W0.go sm1
          walk_at "w"
          refine w_bm ?_
          walk_at "w"
          refine ⟨tyV_lst upd_same, ?_⟩
          walk_at "w"
          refine gt sm1 (.cons (W2.get (.there .here)) (.cons (W2.get .here) (.cons (W2.get (.there (.there .here))) .nil))) b2 e2 (fun H3 s3 => ?_) ⟨g1.1.1, g2.1.1, g0.1.1⟩
          have hl3 : H3 l1 = some (.lst [.int k]) := s3 _ _ upd_same
          have sm3 := same_updN (o := .lst [.int k, .int k]) (sm1.trans s3) nl
          have hp3 : SqL K (upd H3 l1 (.lst [.int k, .int k])) p [x0, x1, x2] := SqL.of (sm3 _ _ hx)
          have W3 := W0.go sm3
          walk_at "w"
          refine ap_lst hl3 rfl ?_
          walk_at "w"
          refine w_bm ?_
          walk_at "w"
          refine ⟨tyV_lst upd_same, ?_⟩
          walk_at "w"
          refine gt sm3 (.cons (W3.get (.there .here)) (.cons (W3.get (.there (.there .here))) (.cons (W3.get .here) .nil))) b3 e3 (fun H5 s5 => ?_) ⟨g1.1.1, g0.1.1, g2.1.1⟩
          have hl5 : H5 l1 = some (.lst [.int k, .int k]) := s5 _ _ upd_same
          have sm5 := same_updN (o := .lst [.int k, .int k, .int (-k)]) (sm3.trans s5) nl
          walk_at "w"
          refine ap_lst hl5 rfl ?_
          walk_at "w"
          exact ⟨false, _, _, rfl, sm5, .inr ⟨rfl, hbad, l1, k, k, -k, rfl, upd_same, e1, e2, e3⟩⟩
        · walk_at "w"
          show sp_turn C [x0, x1, x2] _ _ _
          refine gt sm0 rr hbad e1 (fun H1 s1 => ?_) ⟨g0.1.1, g1.1.1, g2.1.1⟩
          walk_at "w"
          have smA := sm0.trans s1
          refine n_lstF rfl fun l1 nl1 => ?_
          have nl : H l1 = none := fresh smA nl1
          have sm1 := same_updN (o := .lst [.int k]) smA nl
          have hp1 : SqL K (upd H1 l1 (.lst [.int k])) p [x0, x1, x2] := SqL.of (sm1 _ _ hx)
          have W2 := W0.go sm1
          walk_at "w"
          refine w_bm ?_
          walk_at "w"
          refine ⟨tyV_lst upd_same, ?_⟩
          walk_at "w"
          refine gt sm1 (.cons (W2.get (.there .here)) (.cons (W2.get .here) (.cons (W2.get (.there (.there .here))) .nil))) b2 e2 (fun H3 s3 => ?_) ⟨g1.1.1, g2.1.1, g0.1.1⟩
          have hl3 : H3 l1 = some (.lst [.int k]) := s3 _ _ upd_same
          have sm3 := same_updN (o := .lst [.int k, .int k]) (sm1.trans s3) nl
          have hp3 : SqL K (upd H3 l1 (.lst [.int k, .int k])) p [x0, x1, x2] := SqL.of (sm3 _ _ hx)
          have W3 := W0.go sm3
          walk_at "w"
          refine ap_lst hl3 rfl ?_
          walk_at "w"
          refine w_bm ?_
          walk_at "w"
          refine ⟨tyV_lst upd_same, ?_⟩
          walk_at "w"
          refine gt sm3 (.cons (W3.get (.there .here)) (.cons (W3.get (.there (.there .here))) (.cons (W3.get .here) .nil))) b3 e3 (fun H5 s5 => ?_) ⟨g1.1.1, g0.1.1, g2.1.1⟩
          have hl5 : H5 l1 = some (.lst [.int k, .int k]) := s5 _ _ upd_same
          have sm5 := same_updN (o := .lst [.int k, .int k, .int (-k)]) (sm3.trans s5) nl
          walk_at "w"
          refine ap_lst hl5 rfl ?_
          walk_at "w"
          exact ⟨false, _, _, rfl, sm5, .inr ⟨rfl, hbad, l1, k, k, -k, rfl, upd_same, e1, e2, e3⟩⟩
    · rintro σ' H2 ⟨rf, told, u, rfl, sm, hm⟩
      have W2 := W0.go sm
      have hp2 : SqL K H2 p [x0, x1, x2] := SqL.of (sm _ _ hx)
      walk_at "w"
      have nxt : ∀ {H' acc dacc}, Wd false sa H H' acc dacc → SqL K H' p [x0, x1, x2] := fun W => SqL.of (W.same rfl _ _ hx)
      rcases hm with ⟨rfl, hb⟩ | ⟨rfl, hb, l, i1, i2, i3, rfl, hl, e1, e2, e3⟩
      · have hb' : (!isP d0 || !isP d1 || !isP d2) = true := hb
        refine c_lisP W2 (W2.get (.there (.there .here))) g0.2 fun H3 W3 => ?_
        cases z0 : isP d0 with
        | false =>
          walk_at "w"
          exact fin _ (W3.same rfl)
        | true =>
          have hp3 := nxt W3
          walk_at "w"
          refine c_lisP W3 (W3.get (.there .here)) g1.2 fun H4 W4 => ?_
          cases z1 : isP d1 with
          | false =>
            walk_at "w"
            exact fin _ (W4.same rfl)
          | true =>
            have hp4 := nxt W4
            walk_at "w"
            refine c_lisP W4 (W4.get .here) g2.2 fun H5 W5 => ?_
            cases z2 : isP d2 with
            | false =>
              walk_at "w"
              exact fin _ (W5.same rfl)
            | true =>
              rw [z0, z1, z2] at hb'
              cases hb'
      · have hb' : (!isP d0 || !isP d1 || !isP d2) = false := hb
        obtain ⟨h0, h1, h2⟩ : isP d0 = true ∧ isP d1 = true ∧ isP d2 = true := by
          cases z0 : isP d0 <;> cases z1 : isP d1 <;> cases z2 : isP d2 <;> rw [z0, z1, z2] at hb' <;> first | exact ⟨rfl, rfl, rfl⟩ | cases hb'
        obtain ⟨k, t1, t2, t3, t4, k0, k1, k2⟩ := turns h0 h1 h2 g0 g1 g2
        have hk1 : k = i1 := by rw [t1] at e1; cases e1; rfl
        have hk2 : k = i2 := by rw [t2] at e2; cases e2; rfl
        have hk3 : -k = i3 := by rw [t3] at e3; cases e3; rfl
        subst hk1 hk2 hk3
        have hlk : ∀ {H' acc dacc}, Wd false sa H2 H' acc dacc → SqL K H' l [.int k, .int k, .int (-k)] := fun W => SqL.of (W.same rfl _ _ hl)
        have V2 : Wd false sa H2 H2 [x2, x1, x0] [d2, d1, d0] := wd_start W2.tr W2.r
        have nx2 : ∀ {H' acc dacc}, Wd false sa H2 H' acc dacc → SqL K H' p [x0, x1, x2] := fun W => SqL.of (W.same rfl _ _ (sm _ _ hx))
        refine c_lisP V2 (V2.get (.there (.there .here))) g0.2 fun H3 W3 => ?_
        rw [h0]
        have hp3 := nx2 W3
        walk_at "w"
        refine c_lisP W3 (W3.get (.there .here)) g1.2 fun H4 W4 => ?_
        rw [h1]
        have hp4 := nx2 W4
        walk_at "w"
        refine c_lisP W4 (W4.get .here) g2.2 fun H5 W5 => ?_
        rw [h2]
        have hp5 := nx2 W5
        have hl5 := hlk W5
        walk_at "w"
        rename_i H6 W6
        have hp6 := nx2 W6
        walk_at "w"
        refine call_P (ds := [d0, d1, d2]) W6 (.cons (W6.get (.there (.there .here))) (.cons (W6.get (.there .here)) (.cons (W6.get .here) .nil))) ⟨_, _, _, rfl, k0, k1, k2⟩ fun H7 => ?_
        rw [t4]
        refine v_int fun W7 => ?_
        have hl7 := hlk W7
        walk_at "w"
        rename_i H8 l2 W8
        refine ⟨.list [.int k, .int k, .int (-k)], .list [.int k, .int k, .int (-k)], .lst (hlk W8) (.cons (.int _) (.cons (.int _) (.cons (.int _) .nil))), (W8.get .here).dp rfl, rfl, rfl, ?_⟩
        rw [eqv_three]
        exact fin _ (sm.trans (W8.same rfl))
end

/-! ### triples drawn -/
theorem PtK.mono {k l : Nat} {d : PyData} (h : PtK k d) (e : k ≤ l) : PtK l d := by
  obtain ⟨a, b, c, g, rfl, f1, f2⟩ := h
  exact ⟨a, b, c, g, rfl, f1.mono e, f2.mono e⟩
theorem PtK.tup {k : Nat} {d : PyData} (h : PtK k d) : tupOnly d = true := by
  obtain ⟨a, b, c, g, rfl, _⟩ := h
  rfl
theorem fq_plus {k l : Nat} {a b c d : Int} (f1 : Fq k a b) (f2 : Fq l c d) : ∃ m n, f_plus [Fr a b, Fr c d] = Fr m n ∧ Fq (k + l + 1) m n :=
  ⟨_, _, rfl, fq_rt (Int.mul_ne_zero f1.ne f2.ne) (((f1.ba.mul f2.bb).add (f2.ba.mul f1.bb)).mono (by omega)) ((f1.bb.mul f2.bb).mono (by omega))⟩
theorem fq_minus {k l : Nat} {a b c d : Int} (f1 : Fq k a b) (f2 : Fq l c d) : ∃ m n, f_minus [Fr a b, Fr c d] = Fr m n ∧ Fq (k + l + 1) m n :=
  ⟨_, _, rfl, fq_rt (Int.mul_ne_zero f1.ne f2.ne) (((f1.ba.mul f2.bb).sub (f2.ba.mul f1.bb)).mono (by omega)) ((f1.bb.mul f2.bb).mono (by omega))⟩
theorem fq_times {k l : Nat} {a b c d : Int} (f1 : Fq k a b) (f2 : Fq l c d) : ∃ m n, f_times [Fr a b, Fr c d] = Fr m n ∧ Fq (k + l) m n :=
  ⟨_, _, rfl, fq_rt (Int.mul_ne_zero f1.ne f2.ne) (f1.ba.mul f2.ba) (f1.bb.mul f2.bb)⟩
theorem ptk_plus {k l : Nat} {x y : PyData} (hx : PtK k x) (hy : PtK l y) : PtK (k + l + 1) (f_lplus [x, y]) := by
  obtain ⟨a, b, c, g, rfl, f1, f2⟩ := hx
  obtain ⟨a2, b2, c2, g2, rfl, f3, f4⟩ := hy
  obtain ⟨m, n, e1, h1⟩ := fq_plus f1 f3
  obtain ⟨m2, n2, e2, h2⟩ := fq_plus f2 f4
  exact ⟨m, n, m2, n2, by show PyData.tuple [f_plus _, f_plus _] = _; rw [e1, e2], h1, h2⟩
theorem ptk_minus {k l : Nat} {x y : PyData} (hx : PtK k x) (hy : PtK l y) : PtK (k + l + 1) (f_lminus [x, y]) := by
  obtain ⟨a, b, c, g, rfl, f1, f2⟩ := hx
  obtain ⟨a2, b2, c2, g2, rfl, f3, f4⟩ := hy
  obtain ⟨m, n, e1, h1⟩ := fq_minus f1 f3
  obtain ⟨m2, n2, e2, h2⟩ := fq_minus f2 f4
  exact ⟨m, n, m2, n2, by show PyData.tuple [f_minus _, f_minus _] = _; rw [e1, e2], h1, h2⟩
theorem ptk_times {k l : Nat} {x : PyData} {s t : Int} (hx : PtK k x) (hs : Fq l s t) : PtK (k + l) (f_ltimes [x, Fr s t]) := by
  obtain ⟨a, b, c, g, rfl, f1, f2⟩ := hx
  obtain ⟨m, n, e1, h1⟩ := fq_times f1 hs
  obtain ⟨m2, n2, e2, h2⟩ := fq_times f2 hs
  exact ⟨m, n, m2, n2, by show PyData.tuple [f_times _, f_times _] = _; rw [e1, e2], h1, h2⟩
theorem ptk_two {k l : Nat} {x y : PyData} (hx : PtK k x) (hy : PtK l y) (e : k ≤ 700 ∧ l ≤ 700) : twoP 700 [x, y] := by
  obtain ⟨a, b, c, g, rfl, f1, f2⟩ := hx.mono e.1
  obtain ⟨a2, b2, c2, g2, rfl, f3, f4⟩ := hy.mono e.2
  exact ⟨_, _, _, _, _, _, _, _, rfl, ⟨f1.low, f2.low⟩, ⟨f3.low, f4.low⟩, ⟨f1.ba, f1.bb, f2.ba, f2.bb⟩, f3.ba, f3.bb, f4.ba, f4.bb⟩
theorem but_none {a D : Addr} {H H' : Hp} (b : But a H H') (n : D ≠ a) (h : H' D = none) : H D = none := by
  cases e : H D with
  | none => rfl
  | some o =>
    rw [b D o n e] at h
    cases h
/-- an item of a list of the call's own is put -/
theorem set_in {a g : Addr} {H0 H : Hp} {acc vs' : List V} {dacc ds' ds : List PyData} {y : V} {d : PyData} {k : Int} {j : Nat} {F : Hp → Prop} (W : Wd true a H0 H acc dacc) (ng : H0 g = none) (i1 : In2 (.ref g) (.list ds) acc dacc) (hk : k = (j : Int)) (hj : j < ds.length)
    (i2 : Rp a H y d) (td : noLen ds.length d = true) (all : noLens ds.length ds = true) (h0 : ∀ n, ds[0]? ≠ some (.int n)) (r' : Rps a H vs' ds') (all' : noLens ds.length ds' = true) (h : ∀ H', Wd true a H0 H' (.ref g :: vs') (.list (ds.set j d) :: ds') → F H') : rSetL (.ref g) (.int k) y H F := by
  subst hk
  cases W.get i1 with
  | @lst _ xs _ nga hg r =>
    have el : ds.length = xs.length := r.lens.symm
    rw [el] at td all all'
    refine ⟨g, xs, (j : Int), j, rfl, rfl, hg, ixN_lt rfl (by rw [r.lens]; exact hj), h _ ?_⟩
    have st : Stm (upd H g (.lst (xs.set j y))) a := by
      cases xs with
      | nil => rw [el] at hj; simp at hj
      | cons x xs =>
        cases r with
        | @cons _ _ d0 _ hx t =>
          refine (W.st rfl).setL hg (fun n z => ?_) nga
          subst z
          cases hx
          exact h0 n rfl
    exact ⟨W.but.put ng, fun e => (nomatch e), fun _ => st, st.tr, .cons (.lst nga upd_same ((r.stayN hg all).set (i2.stayN hg td) j)) (r'.stayN hg all')⟩
/-- the triple under way: the list at D, what was drawn beside it -/
def MidP (a : Addr) (H : Hp) (D : Addr) (sp se th : Int) : L2.St → Hp → Prop := fun σ' H' => ∃ ne pl sl d0 d1 d2 n m s t pd, σ' = [some (.ref a), some (.int sp), some (.int se), some (.int th), some (.ref D), some (.ref ne), some (.ref pl), some (.ref sl), none] ∧
  Wd true a H H' [.ref D, .ref ne, .ref pl, .ref sl] [.list [d0, d1, d2], Fr n m, pd, Fr s t] ∧ PtK 300 d0 ∧ PtK 300 d1 ∧ PtK 300 d2 ∧ Fq 8 n m ∧ PtK 8 pd ∧ Fq 8 s t
theorem PtK.noLen {k n : Nat} {d : PyData} (h : PtK k d) : noLen n d = true := by
  obtain ⟨a, b, c, g, rfl, _⟩ := h
  rfl
theorem nl3 {n : Nat} {d0 d1 d2 : PyData} (h0 : noLen n d0 = true) (h1 : noLen n d1 = true) (h2 : noLen n d2 = true) : noLens n [d0, d1, d2] = true := by
  unfold noLens noLens noLens noLens
  rw [h0, h1, h2]
  rfl
theorem set_tr {a D : Addr} {H0 H : Hp} {acc vs' : List V} {dacc ds' : List PyData} {d0 d1 d2 d : PyData} {y : V} {k : Int} {j : Nat} {F : Hp → Prop} (W : Wd true a H0 H acc dacc) (ng : H0 D = none) (i1 : In2 (.ref D) (.list [d0, d1, d2]) acc dacc) (hk : k = (j : Int)) (hj : j < 3)
    (ry : Rp a H y d) (ny : noLen 3 d = true) (k0 : PtK 300 d0) (k1 : PtK 300 d1) (k2 : PtK 300 d2) (r' : Rps a H vs' ds') (n' : noLens 3 ds' = true) (h : ∀ H', Wd true a H0 H' (.ref D :: vs') (.list ([d0, d1, d2].set j d) :: ds') → F H') : rSetL (.ref D) (.int k) y H F :=
  set_in W ng i1 hk hj ry ny (nl3 k0.noLen k1.noLen k2.noLen) (fun n z => by
    obtain ⟨_, _, _, _, e, _⟩ := k0
    subst e
    cases z) r' n' h
theorem set_tr0 {a D : Addr} {H0 H : Hp} {acc vs' : List V} {dacc ds' : List PyData} {d0 d1 d2 d : PyData} {y : V} {F : Hp → Prop} (W : Wd true a H0 H acc dacc) (ng : H0 D = none) (i1 : In2 (.ref D) (.list [d0, d1, d2]) acc dacc)
    (ry : Rp a H y d) (ny : noLen 3 d = true) (k0 : PtK 300 d0) (k1 : PtK 300 d1) (k2 : PtK 300 d2) (r' : Rps a H vs' ds') (n' : noLens 3 ds' = true) (h : ∀ H', Wd true a H0 H' (.ref D :: vs') (.list [d, d1, d2] :: ds') → F H') : rSetL (.ref D) (.int 0) y H F := set_tr (j := 0) W ng i1 rfl (by decide) ry ny k0 k1 k2 r' n' h
theorem set_tr1 {a D : Addr} {H0 H : Hp} {acc vs' : List V} {dacc ds' : List PyData} {d0 d1 d2 d : PyData} {y : V} {F : Hp → Prop} (W : Wd true a H0 H acc dacc) (ng : H0 D = none) (i1 : In2 (.ref D) (.list [d0, d1, d2]) acc dacc)
    (ry : Rp a H y d) (ny : noLen 3 d = true) (k0 : PtK 300 d0) (k1 : PtK 300 d1) (k2 : PtK 300 d2) (r' : Rps a H vs' ds') (n' : noLens 3 ds' = true) (h : ∀ H', Wd true a H0 H' (.ref D :: vs') (.list [d0, d, d2] :: ds') → F H') : rSetL (.ref D) (.int 1) y H F := set_tr (j := 1) W ng i1 rfl (by decide) ry ny k0 k1 k2 r' n' h
theorem set_tr2 {a D : Addr} {H0 H : Hp} {acc vs' : List V} {dacc ds' : List PyData} {d0 d1 d2 d : PyData} {y : V} {F : Hp → Prop} (W : Wd true a H0 H acc dacc) (ng : H0 D = none) (i1 : In2 (.ref D) (.list [d0, d1, d2]) acc dacc)
    (ry : Rp a H y d) (ny : noLen 3 d = true) (k0 : PtK 300 d0) (k1 : PtK 300 d1) (k2 : PtK 300 d2) (r' : Rps a H vs' ds') (n' : noLens 3 ds' = true) (h : ∀ H', Wd true a H0 H' (.ref D :: vs') (.list [d0, d1, d] :: ds') → F H') : rSetL (.ref D) (.int 2) y H F := set_tr (j := 2) W ng i1 rfl (by decide) ry ny k0 k1 k2 r' n' h
section
variable {z : Bool} {sa : Addr} {H0 H : Hp} {acc : List V} {dacc : List PyData} {Q : VK} {E : XK} {x y : V} {d e : PyData} {k l : Nat}
theorem c_lplus (W : Wd z sa H0 H acc dacc) (r1 : Rp sa H x d) (r2 : Rp sa H y e) (k1 : PtK k d) (k2 : PtK l e) (hk : k ≤ 700 ∧ l ≤ 700) (h : ∀ H' p d', Wd z sa H0 H' (.ref p :: acc) (d' :: dacc) → PtK (k + l + 1) d' → Q (.ref p) H') : sp_lplus [x, y] H Q E :=
  call_P (ds := [d, e]) W (.cons r1 (.cons r2 .nil)) (ptk_two k1 k2 hk) fun H' => by
    obtain ⟨m, n, m2, n2, ee, h1, h2⟩ := ptk_plus k1 k2
    rw [ee]
    exact v_tup fun p W' => h H' p _ W' ⟨_, _, _, _, rfl, h1, h2⟩
theorem c_lminus (W : Wd z sa H0 H acc dacc) (r1 : Rp sa H x d) (r2 : Rp sa H y e) (k1 : PtK k d) (k2 : PtK l e) (hk : k ≤ 700 ∧ l ≤ 700) (h : ∀ H' p d', Wd z sa H0 H' (.ref p :: acc) (d' :: dacc) → PtK (k + l + 1) d' → Q (.ref p) H') : sp_lminus [x, y] H Q E :=
  call_P (ds := [d, e]) W (.cons r1 (.cons r2 .nil)) (ptk_two k1 k2 hk) fun H' => by
    obtain ⟨m, n, m2, n2, ee, h1, h2⟩ := ptk_minus k1 k2
    rw [ee]
    exact v_tup fun p W' => h H' p _ W' ⟨_, _, _, _, rfl, h1, h2⟩
theorem c_ltimes {s t : Int} (W : Wd z sa H0 H acc dacc) (r1 : Rp sa H x d) (r2 : Rp sa H y (Fr s t)) (k1 : PtK k d) (k2 : Fq l s t) (hk : k ≤ 700 ∧ l ≤ 700) (h : ∀ H' p d', Wd z sa H0 H' (.ref p :: acc) (d' :: dacc) → PtK (k + l) d' → Q (.ref p) H') : sp_ltimes [x, y] H Q E := by
  have hp := ptk_times k1 k2
  obtain ⟨a, b, c, g, rfl, f1, f2⟩ := k1.mono hk.1
  have f3 := k2.mono hk.2
  refine call_P (ds := [Pnt a b c g, Fr s t]) W (.cons r1 (.cons r2 .nil)) ⟨_, _, _, _, _, _, rfl, ⟨f1.low, f2.low⟩, f3.low, ⟨f1.ba, f1.bb, f2.ba, f2.bb⟩, f3.ba, f3.bb⟩ fun H' => ?_
  obtain ⟨m, n, m2, n2, ee, h1, h2⟩ := hp
  rw [ee]
  exact v_tup fun p W' => h H' p _ W' ⟨_, _, _, _, rfl, h1, h2⟩
end
/-- behind the spoiling -/
def MidE (a : Addr) (H : Hp) (D : Addr) : L2.St → Hp → Prop := fun σ' H' => ∃ u1 u2 u3 u5 u6 u7 u8 d0 d1 d2, σ' = [some (.ref a), u1, u2, u3, some (.ref D), u5, u6, u7, u8] ∧ Wd true a H H' [.ref D] [.list [d0, d1, d2]] ∧ GdP d0 ∧ GdP d1 ∧ GdP d2
section
variable {P : Program} {w : World} {K : PySem.W.Frag} {mg : Str → Option Value} {base : Heap}
theorem ok_law_triple {f : Addr} {fd : FuncData} (F : Fun K "_law_triple" "_law_triple" s_law_triple f fd) (nb : Nb mg) (d_law_take : Df P w K mg base CX0 2 "_law_take" ["stream", "many"] sp_take) (d_law_point : Df P w K mg base CX0 5 "_law_point" ["stream"] sp_lpoint) (d_law_tame : Df P w K mg base CX0 3 "_law_tame" ["stream"] sp_ltame) (d_law_low : Df P w K mg base CX0 1 "_law_low" ["top", "bottom"] sp_low)
    (d_law_plus : Df P w K mg base CX0 3 "_law_plus" ["one", "other"] sp_lplus) (d_law_minus : Df P w K mg base CX0 3 "_law_minus" ["one", "other"] sp_lminus) (d_law_times : Df P w K mg base CX0 3 "_law_times" ["step", "factor"] sp_ltimes) (d_law_ray : Df P w K mg base CX0 2 "_law_ray" ["slope"] sp_lray) (d_law_slope : Df P w K mg base CX0 3 "_law_slope" ["stream", "most"] sp_lslope) (d_law_no_point : Df P w K mg base CX0 3 "_law_no_point" ["stream"] sp_nopoint) : FnOk P w K mg base CX0 6 f fd ["stream"] sp_triple := by
  have sc := sc_law_triple
  refine F.ok sc (fun vs H Q E h => ?_) (fun cdv A outer s H vs Q E hr h => ?_)
  · obtain ⟨a, vs', ds, rfl, st, r, rfl, _⟩ := h
    cases r
    rfl
  · obtain ⟨a, vs', ds, rfl, st, r, rfl, q⟩ := h
    cases r
    refine ⟨_, (pss_cons (ps_asg (pe_call d_law_take.F (hr.mono (by decide)) (by rfl) d_law_take.g d_law_take.kp d_law_take.b .nil pass0 (pa_cons (pv 0) (pa_cons pe_int pa_nil))) (pg_name (i := 1) sc.nd rfl (.inl rfl)))
    (pss_cons (ps_asg (pe_call d_law_take.F (hr.mono (by decide)) (by rfl) d_law_take.g d_law_take.kp d_law_take.b .nil pass0 (pa_cons (pv 0) (pa_cons pe_int pa_nil))) (pg_name (i := 2) sc.nd rfl (.inl rfl)))
    (pss_cons (ps_asg (pe_call d_law_take.F (hr.mono (by decide)) (by rfl) d_law_take.g d_law_take.kp d_law_take.b .nil pass0 (pa_cons (pv 0) (pa_cons pe_int pa_nil))) (pg_name (i := 3) sc.nd rfl (.inl rfl)))
    (pss_cons (ps_setLc (i := 4) (own := [("k", 8)]) (g := gName 8) (tt := tYes) rfl sc.nd rfl rfl (sw_true rfl rfl rfl (by decide +kernel)) (pi_range1 (by rfl) nb.range (pa_cons pe_int pa_nil)) (blkOk_by (N := NN_law_triple) (sc := defScope s_law_triple) (by decide +kernel)) (fun _ _ _ _ _ => pg_name (i := 8) sc.nd rfl (Or.inl rfl)) (fun _ _ _ _ _ => pts_nil) (fun _ _ _ _ _ => (pe_call d_law_point.F (hr.mono (by decide)) (by rfl) d_law_point.g d_law_point.kp d_law_point.b .nil pass0 (pa_cons (pv 0) pa_nil))))
    (pss_cons (ps_asg (pe_call d_law_tame.F (hr.mono (by decide)) (by rfl) d_law_tame.g d_law_tame.kp d_law_tame.b .nil pass0 (pa_cons (pv 0) pa_nil)) (pg_name (i := 5) sc.nd rfl (.inl rfl)))
    (pss_cons (ps_asg (pe_tup (pa_cons (pv 5) (pa_cons (pe_call d_law_tame.F (hr.mono (by decide)) (by rfl) d_law_tame.g d_law_tame.kp d_law_tame.b .nil pass0 (pa_cons (pv 0) pa_nil)) pa_nil))) (pg_name (i := 6) sc.nd rfl (.inl rfl)))
    (pss_cons (ps_asg (pe_call d_law_low.F (hr.mono (by decide)) (by rfl) d_law_low.g d_law_low.kp d_law_low.b .nil pass0 (pa_cons (pe_op op_sub (pe_call d_law_take.F (hr.mono (by decide)) (by rfl) d_law_take.g d_law_take.kp d_law_take.b .nil pass0 (pa_cons (pv 0) (pa_cons pe_int pa_nil))) pe_int) (pa_cons (pe_op op_add pe_int (pe_call d_law_take.F (hr.mono (by decide)) (by rfl) d_law_take.g d_law_take.kp d_law_take.b .nil pass0 (pa_cons (pv 0) (pa_cons pe_int pa_nil)))) pa_nil))) (pg_name (i := 7) sc.nd rfl (.inl rfl)))
    (Evl.pss_cut (ps_if (pt_cmpR op_eq (pv 2) pe_int (nomark _)) (pss_cons (ps_asg (pv 6) (pg_sub (pv 4) pe_int set_list))
    (pss_one (ps_asg (pe_call d_law_plus.F (hr.mono (by decide)) (by rfl) d_law_plus.g d_law_plus.kp d_law_plus.b .nil pass0 (pa_cons (pv 6) (pa_cons (pe_call d_law_times.F (hr.mono (by decide)) (by rfl) d_law_times.g d_law_times.kp d_law_times.b .nil pass0 (pa_cons (pe_call d_law_ray.F (hr.mono (by decide)) (by rfl) d_law_ray.g d_law_ray.kp d_law_ray.b .nil pass0 (pa_cons (pv 7) pa_nil)) (pa_cons (pe_call d_law_slope.F (hr.mono (by decide)) (by rfl) d_law_slope.g d_law_slope.kp d_law_slope.b .nil pass0 (pa_cons (pv 0) (pa_cons pe_int pa_nil))) pa_nil))) pa_nil))) (pg_sub (pv 4) pe_int set_list)))) pss_nil)
    (Evl.pss_cut (ps_if (pt_cmpR op_eq (pv 3) pe_int (nomark _)) (pss_cons (ps_asg (pv 6) (pg_sub (pv 4) pe_int set_list))
    (pss_cons (ps_asg (pe_tup (pa_cons (pe_call d_law_tame.F (hr.mono (by decide)) (by rfl) d_law_tame.g d_law_tame.kp d_law_tame.b .nil pass0 (pa_cons (pv 0) pa_nil)) (pa_cons (pv 5) pa_nil))) (pg_sub (pv 4) pe_int set_list))
    (pss_one (ps_asg (pe_call d_law_plus.F (hr.mono (by decide)) (by rfl) d_law_plus.g d_law_plus.kp d_law_plus.b .nil pass0 (pa_cons (pv 6) (pa_cons (pe_call d_law_times.F (hr.mono (by decide)) (by rfl) d_law_times.g d_law_times.kp d_law_times.b .nil pass0 (pa_cons (pe_call d_law_minus.F (hr.mono (by decide)) (by rfl) d_law_minus.g d_law_minus.kp d_law_minus.b .nil pass0 (pa_cons (pe_ix ix_list (pv 4) pe_int (fun _ _ => rfl)) (pa_cons (pv 6) pa_nil))) (pa_cons (pe_call d_law_tame.F (hr.mono (by decide)) (by rfl) d_law_tame.g d_law_tame.kp d_law_tame.b .nil pass0 (pa_cons (pv 0) pa_nil)) pa_nil))) pa_nil))) (pg_sub (pv 4) pe_int set_list))))) pss_nil)
    (Evl.pss_cut (ps_if (pt_cmpR op_eq (pv 3) pe_int (nomark _)) (pss_one (ps_asg (pe_ix ix_list (pv 4) (pe_call d_law_take.F (hr.mono (by decide)) (by rfl) d_law_take.g d_law_take.kp d_law_take.b .nil pass0 (pa_cons (pv 0) (pa_cons pe_int pa_nil))) (fun _ _ => rfl)) (pg_sub (pv 4) pe_int set_list))) pss_nil)
    (Evl.pss_cut (ps_if (pt_cmpR op_eq (pv 3) pe_int (nomark _)) (pss_one (ps_asg (pe_ix ix_list (pv 4) pe_int (fun _ _ => rfl)) (pg_sub (pv 4) pe_int set_list))) pss_nil)
    (Evl.pss_cut (ps_if (pt_cmpR op_lt (pv 1) pe_int (nomark _)) (pss_one (ps_asg (pe_call d_law_no_point.F (hr.mono (by decide)) (by rfl) d_law_no_point.g d_law_no_point.kp d_law_no_point.b .nil pass0 (pa_cons (pv 0) pa_nil)) (pg_sub (pv 4) (pv 1) set_list))) pss_nil)
    (pss_one (ps_ret (pv 4))))))))))))))), ?_⟩
    (rw [show start ["stream", "spoil", "second", "third", "points", "near", "plain", "slope", "k"] [.ref a] = [some (.ref a), none, none, none, none, none, none, none, none] from rfl]; try dsimp only [cxOf])
    have W := wd_startS st .nil
    walk_at "w"
    rename_i H1 sp W1 sp0 sp1 H2 se W2 se0 se1 H3 th W3 th0 th1
    refine lc_RN (n := 3) (R := PtK 131) (W3.st rfl) (by decide) (fun d h => h.tup) (fun v d H' ⟨_, _, _, _, e, _⟩ r i => by rw [e] at r; cases r; intro z; cases z) (fun x => rfl) (fun i H4 Q' hi b4 st4 hq => ?_) (fun H4 D xs ds nD b4 st4 ng hg hr hl hR => ?_)
    · have W4 := wd_startS st4 .nil
      show tCall sp_lpoint [] E0 (tCons (tVar 0) tNil) [some (.ref a), some (.int sp), some (.int se), some (.int th), none, none, none, none, some (.int (0 + (i : Int)))] H4 Q'
      walk_at "w"
      refine call_S W4 .nil rfl fun H5 x d W5 hd => ?_
      exact hq _ _ d W5.but (W5.st rfl) (W5.get .here) hd
    · have nH : H D = none := but_none W3.but ng nD
      obtain ⟨d0, d1, d2, rfl⟩ : ∃ d0 d1 d2, ds = [d0, d1, d2] := by
        match ds, hl with
        | [d0, d1, d2], _ => exact ⟨_, _, _, rfl⟩
      have k0 := (hR d0 (by simp)).mono (show 131 ≤ 300 by decide)
      have k1 := (hR d1 (by simp)).mono (show 131 ≤ 300 by decide)
      have k2 := (hR d2 (by simp)).mono (show 131 ≤ 300 by decide)
      have W4 : Wd true a H H4 [.ref D] [.list [d0, d1, d2]] := ⟨W3.but.trans b4, fun e => (nomatch e), fun _ => st4, st4.tr, .cons (.lst ng hg hr) .nil⟩
      walk_at "w"
      refine call_S W4 .nil rfl fun H5 x d W5 ⟨n, m, hd, g1⟩ => ?_
      subst hd
      obtain ⟨ne, rfl⟩ : ∃ p, x = .ref p := by cases W5.get .here; exact ⟨_, rfl⟩
      walk_at "w"
      refine call_S W5 .nil rfl fun H6 x d W6 ⟨u, v, hd, g2⟩ => ?_
      subst hd
      obtain ⟨ne2, rfl⟩ : ∃ p, x = .ref p := by cases W6.get .here; exact ⟨_, rfl⟩
      walk_at "w"
      rename_i H7 pl W7 H8 x W8 x0 x1 H9 y W9 y0 y1
      have bx : Bt 8 (x - 20) := bt_lit 8 (by omega)
      have bb : Bt 8 (1 + y) := bt_lit 8 (by omega)
      have nz : 1 + y ≠ 0 := by omega
      walk_at "w"
      rename_i Ha sl Wa
      have ksl : Fq 8 (nt (x - 20) (1 + y)) (bN (x - 20) (1 + y)) := fq_rt nz bx bb
      have start : MidP a H D sp se th [some (.ref a), some (.int sp), some (.int se), some (.int th), some (.ref D), some (.ref ne), some (.ref pl), some (.ref sl), none] Ha := ⟨ne, pl, sl, d0, d1, d2, n, m, _, _, _, rfl, Wa.sub (by walk_at "rps"), k0, k1, k2, g1, ⟨_, _, _, _, rfl, g1, g2⟩, ksl⟩
      revert start
      generalize Ha = Hb
      generalize ([some (.ref a), some (.int sp), some (.int se), some (.int th), some (.ref D), some (.ref ne), some (.ref pl), some (.ref sl), none] : L2.St) = σb
      clear Wa W9 W8 W7 W6 W5 W4 hR hr
      intro start
      have ref : ∀ {k : Nat} {v : V} {d : PyData} {Hc : Hp} {acc dacc}, Wd true a H Hc (v :: acc) (d :: dacc) → PtK k d → ∃ p, v = .ref p := fun W h => by
        obtain ⟨_, _, _, _, e, _⟩ := h
        subst e
        cases W.get .here
        exact ⟨_, rfl⟩
      refine ⟨MidP a H D sp se th, ?_, ?_⟩
      · obtain ⟨ne, pl, sl, d0, d1, d2, n, m, s', t', pd, rfl, W, k0, k1, k2, g1, kp, ks⟩ := start
        walk_at "w"
        refine w_ifd (fun hc => ?_) (fun hc => ?_)
        · walk_at "w"
          refine set_tr0 W nH (In2.here) (W.get (.there (.there .here))) kp.noLen k0 k1 k2 (vs' := [.ref ne, .ref pl, .ref sl]) (ds' := [Fr n m, pd, Fr s' t']) (by walk_at "rps") (nl3 rfl kp.noLen rfl) fun Hc Wc => ?_
          walk_at "w"
          refine call_R (ds := [Fr s' t']) Wc (by walk_at "rps") ⟨_, _, rfl, ks⟩ fun Hd d hd => v_any fun x Wd1 => ?_
          obtain ⟨p1, rfl⟩ := ref Wd1 hd
          walk_at "w"
          refine call_S Wd1 (.cons (.int _) .nil) ⟨30, rfl, by decide, by decide⟩ fun He x d2' We ⟨u, v, e2, g3⟩ => ?_
          subst e2
          obtain ⟨p2, rfl⟩ : ∃ p, x = .ref p := by cases We.get .here; exact ⟨_, rfl⟩
          walk_at "w"
          refine c_ltimes We (We.get (.there .here)) (We.get .here) hd g3 ⟨by decide, by decide⟩ fun Hf p3 d3 Wf h3 => ?_
          walk_at "w"
          refine c_lplus Wf (Wf.get (by walk_at "in2")) (Wf.get .here) kp h3 ⟨by decide, by decide⟩ fun Hg p4 d4 Wg h4 => ?_
          walk_at "w"
          refine set_tr1 Wg nH (by walk_at "in2") (Wg.get .here) h4.noLen (kp.mono (by decide)) k1 k2 (vs' := [.ref ne, .ref pl, .ref sl]) (ds' := [Fr n m, pd, Fr s' t']) (by walk_at "rps") (nl3 rfl kp.noLen rfl) fun Hh Wh => ?_
          exact ⟨ne, pl, sl, _, _, _, n, m, s', t', pd, rfl, Wh, kp.mono (by decide), h4.mono (by decide), k2, g1, kp, ks⟩
        · walk_at "w"
          exact ⟨ne, pl, sl, _, _, _, n, m, s', t', pd, rfl, W, k0, k1, k2, g1, kp, ks⟩
      clear start
      rintro σb Hb ⟨ne, pl, sl, d0, d1, d2, n, m, s', t', pd, rfl, W, k0, k1, k2, g1, kp, ks⟩
      refine ⟨MidP a H D sp se th, ?_, ?_⟩
      · walk_at "w"
        refine w_ifd (fun hc => ?_) (fun hc => ?_)
        · walk_at "w"
          refine set_tr0 W nH (In2.here) (W.get (.there (.there .here))) kp.noLen k0 k1 k2 (vs' := [.ref ne, .ref pl, .ref sl]) (ds' := [Fr n m, pd, Fr s' t']) (by walk_at "rps") (nl3 rfl kp.noLen rfl) fun Hc Wc => ?_
          walk_at "w"
          refine call_S Wc .nil rfl fun He x d2' We ⟨u, v, e2, g3⟩ => ?_
          subst e2
          obtain ⟨p2, rfl⟩ : ∃ p, x = .ref p := by cases We.get .here; exact ⟨_, rfl⟩
          walk_at "w"
          rename_i Hf p3 Wf
          have h3 : PtK 8 (Pnt u v n m) := ⟨_, _, _, _, rfl, g3, g1⟩
          refine set_tr1 Wf nH (by walk_at "in2") (Wf.get .here) rfl (kp.mono (by decide)) k1 k2 (vs' := [.ref ne, .ref pl, .ref sl]) (ds' := [Fr n m, pd, Fr s' t']) (by walk_at "rps") (nl3 rfl kp.noLen rfl) fun Hg Wg => ?_
          walk_at "w"
          rename_i p4 Wh
          refine c_lminus Wh (Wh.get .here) (Wh.get (by walk_at "in2")) h3 kp ⟨by decide, by decide⟩ fun Hi p5 d5 Wi h5 => ?_
          walk_at "w"
          refine call_S Wi .nil rfl fun Hj x d2' Wj ⟨u2, v2, e2, g4⟩ => ?_
          subst e2
          obtain ⟨p6, rfl⟩ : ∃ p, x = .ref p := by cases Wj.get .here; exact ⟨_, rfl⟩
          walk_at "w"
          refine c_ltimes Wj (Wj.get (.there .here)) (Wj.get .here) h5 g4 ⟨by decide, by decide⟩ fun Hk p7 d7 Wk h7 => ?_
          walk_at "w"
          refine c_lplus Wk (Wk.get (by walk_at "in2")) (Wk.get .here) kp h7 ⟨by decide, by decide⟩ fun Hl p8 d8 Wl h8 => ?_
          walk_at "w"
          refine set_tr2 Wl nH (by walk_at "in2") (Wl.get .here) h8.noLen (kp.mono (by decide)) (h3.mono (by decide)) k2 (vs' := [.ref ne, .ref pl, .ref sl]) (ds' := [Fr n m, pd, Fr s' t']) (by walk_at "rps") (nl3 rfl kp.noLen rfl) fun Hm Wm => ?_
          exact ⟨ne, pl, sl, _, _, _, n, m, s', t', pd, rfl, Wm, kp.mono (by decide), h3.mono (by decide), h8.mono (by decide), g1, kp, ks⟩
        · walk_at "w"
          exact ⟨ne, pl, sl, _, _, _, n, m, s', t', pd, rfl, W, k0, k1, k2, g1, kp, ks⟩
      clear W k0 k1 k2 g1 kp ks
      rintro σb Hb ⟨ne, pl, sl, d0, d1, d2, n, m, s', t', pd, rfl, W, k0, k1, k2, g1, kp, ks⟩
      refine ⟨MidP a H D sp se th, ?_, ?_⟩
      · walk_at "w"
        refine w_ifd (fun hc => ?_) (fun hc => ?_)
        · walk_at "w"
          rename_i Hc z Wc z0 z1
          refine x_some (ds := [d0, d1, d2]) Wc (by walk_at "in2") z0 (show z < 3 by omega) fun x d hd Wd1 => ?_
          have kd : PtK 300 d := by
            simp only [List.mem_cons, List.not_mem_nil, or_false] at hd
            rcases hd with rfl | rfl | rfl <;> assumption
          obtain ⟨p1, rfl⟩ := ref Wd1 kd
          walk_at "w"
          refine set_tr2 Wd1 nH (by walk_at "in2") (Wd1.get .here) kd.noLen k0 k1 k2 (vs' := [.ref ne, .ref pl, .ref sl]) (ds' := [Fr n m, pd, Fr s' t']) (by walk_at "rps") (nl3 rfl kp.noLen rfl) fun Hm Wm => ?_
          exact ⟨ne, pl, sl, _, _, _, n, m, s', t', pd, rfl, Wm, k0, k1, kd, g1, kp, ks⟩
        · walk_at "w"
          exact ⟨ne, pl, sl, _, _, _, n, m, s', t', pd, rfl, W, k0, k1, k2, g1, kp, ks⟩
      clear W k0 k1 k2 g1 kp ks
      rintro σb Hb ⟨ne, pl, sl, d0, d1, d2, n, m, s', t', pd, rfl, W, k0, k1, k2, g1, kp, ks⟩
      refine ⟨MidP a H D sp se th, ?_, ?_⟩
      · walk_at "w"
        refine w_ifd (fun hc => ?_) (fun hc => ?_)
        · walk_at "w"
          rename_i x Wd1
          refine set_tr1 Wd1 nH (by walk_at "in2") (Wd1.get .here) k0.noLen k0 k1 k2 (vs' := [.ref ne, .ref pl, .ref sl]) (ds' := [Fr n m, pd, Fr s' t']) (by walk_at "rps") (nl3 rfl kp.noLen rfl) fun Hm Wm => ?_
          exact ⟨ne, pl, sl, _, _, _, n, m, s', t', pd, rfl, Wm, k0, k0, k2, g1, kp, ks⟩
        · walk_at "w"
          exact ⟨ne, pl, sl, _, _, _, n, m, s', t', pd, rfl, W, k0, k1, k2, g1, kp, ks⟩
      clear W k0 k1 k2 g1 kp ks
      rintro σb Hb ⟨ne, pl, sl, d0, d1, d2, n, m, s', t', pd, rfl, W, k0, k1, k2, g1, kp, ks⟩
      have h0 := k0.gd (show 300 ≤ 300 by decide)
      have h1 := k1.gd (show 300 ≤ 300 by decide)
      have h2 := k2.gd (show 300 ≤ 300 by decide)
      refine ⟨MidE a H D, ?_, ?_⟩
      · walk_at "w"
        refine w_ifd (fun hc => ?_) (fun hc => ?_)
        · walk_at "w"
          refine call_S W .nil rfl fun Hc x d Wc ⟨gd, nl⟩ => ?_
          walk_at "w"
          obtain ⟨j, rfl⟩ := Int.eq_ofNat_of_zero_le sp0
          refine set_tr (j := j) Wc nH (by walk_at "in2") rfl (by omega) (Wc.get .here) nl k0 k1 k2 (vs' := []) (ds' := []) .nil rfl fun Hm Wm => ?_
          rcases (show j = 0 ∨ j = 1 ∨ j = 2 by omega) with rfl | rfl | rfl
          · exact ⟨_, _, _, _, _, _, _, _, _, _, rfl, Wm, gd, h1, h2⟩
          · exact ⟨_, _, _, _, _, _, _, _, _, _, rfl, Wm, h0, gd, h2⟩
          · exact ⟨_, _, _, _, _, _, _, _, _, _, rfl, Wm, h0, h1, gd⟩
        · walk_at "w"
          exact ⟨_, _, _, _, _, _, _, _, _, _, rfl, W.sub (.cons (W.get .here) .nil), h0, h1, h2⟩
      rintro σb Hb ⟨_, _, _, _, _, _, _, d0, d1, d2, rfl, W, h0, h1, h2⟩
      walk_at "w"
      exact q _ _ _ W.but (W.st rfl) (W.get .here) ⟨d0, d1, d2, rfl, h0, h1, h2⟩
end

/-! ### the law itself -/
section
variable {P : Program} {w : World} {K : PySem.W.Frag} {mg : Str → Option Value} {base : Heap}
theorem ok_law {f : Addr} {fd : FuncData} (F : Fun K "law" "law" s_law f fd) (nb : Nb mg) (d_law_stream : Df P w K mg base CX0 2 "_law_stream" ["script"] (sp_stream K)) (d_law_take : Df P w K mg base CX0 2 "_law_take" ["stream", "many"] sp_take) (d_law_triple : Df P w K mg base CX0 6 "_law_triple" ["stream"] sp_triple)
    (d_law_turn_asked : Df P w K mg base CX0 7 "_law_turn_asked" ["points", "by_name"] sp_tasked) (d_law_length_asked : Df P w K mg base CX0 8 "_law_length_asked" ["one", "other", "by_name"] sp_lasked) : FnOk P w K mg base CX0 9 f fd ["script"] (sp_law K) := by
  have sc := sc_law
  refine F.ok sc (fun vs H Q E h => ?_) (fun cdv A outer s H vs Q E hr h => ?_)
  · obtain ⟨a, ns, rfl, _⟩ := h
    rfl
  · obtain ⟨c, ns, rfl, hS, hlen, q⟩ := h
    refine ⟨_, (pss_cons (ps_asg (pe_call d_law_stream.F (hr.mono (by decide)) (by rfl) d_law_stream.g d_law_stream.kp d_law_stream.b .nil pass0 (pa_cons (pv 0) pa_nil)) (pg_name (i := 1) sc.nd rfl (.inl rfl)))
    (pss_cons (ps_for PassesOwn.never rfl (pi_range1 (by rfl) nb.range (pa_cons (pe_op op_add pe_int (pe_callB (cq_min rfl) (by rfl) nb.min (by decide +kernel) (pa_cons pe_int (pa_cons (pe_callB cq_len (by rfl) nb.len (by decide +kernel) (pa_cons (pv 0) pa_nil)) pa_nil)))) pa_nil)) (pg_name (i := 2) sc.nd rfl (.inl rfl)) (pss_cons (ps_asg (pe_cmpR op_eq (pe_call d_law_take.F (hr.mono (by decide)) (by rfl) d_law_take.g d_law_take.kp d_law_take.b .nil pass0 (pa_cons (pv 1) (pa_cons pe_int pa_nil))) pe_int (nomark _)) (pg_name (i := 3) sc.nd rfl (.inl rfl)))
    (pss_cons (ps_asg (pe_call d_law_triple.F (hr.mono (by decide)) (by rfl) d_law_triple.g d_law_triple.kp d_law_triple.b .nil pass0 (pa_cons (pv 1) pa_nil)) (pg_name (i := 4) sc.nd rfl (.inl rfl)))
    (pss_cons (ps_if (pt_not (pt_val (pe_call d_law_turn_asked.F (hr.mono (by decide)) (by rfl) d_law_turn_asked.g d_law_turn_asked.kp d_law_turn_asked.b .nil pass0 (pa_cons (pv 4) (pa_cons (pv 3) pa_nil))))) (pss_one (ps_ret pe_bl)) pss_nil)
    (pss_one (ps_for PassesOwn.never rfl (pi_range1 (by rfl) nb.range (pa_cons pe_int pa_nil)) (pg_name (i := 5) sc.nd rfl (.inl rfl)) (pss_one (ps_if (pt_not (pt_val (pe_call d_law_length_asked.F (hr.mono (by decide)) (by rfl) d_law_length_asked.g d_law_length_asked.kp d_law_length_asked.b .nil pass0 (pa_cons (pe_ix ix_list (pv 4) (pv 5) (fun _ _ => rfl)) (pa_cons (pe_ix ix_list (pv 4) (pe_op op_mod (pe_op op_add (pv 5) pe_int) pe_int) (fun _ _ => rfl)) (pa_cons (pv 3) pa_nil)))))) (pss_one (ps_ret pe_bl)) pss_nil))))))))
    (pss_one (ps_ret pe_bl)))), ?_⟩
    (rw [show start ["script", "stream", "k", "by_name", "points", "one"] [.ref c] = [some (.ref c), none, none, none, none, none] from rfl]; try dsimp only [cxOf])
    walk_at "w"
    refine ⟨c, ns, rfl, hS, fun H1 a s1 na st => ?_⟩
    have hS1 : SqL K H1 c (ns.map V.int) := s1.seq hS
    walk_at "w"
    refine lp_range (fun _ σ' H' => ∃ u1 u2 u3 u4, σ' = [some (.ref c), some (.ref a), u1, u2, u3, u4] ∧ Stm H' a) ⟨_, _, _, _, rfl, st⟩ ?_ ?_
    · rintro i σ' H2 hi ⟨u1, u2, u3, u4, rfl, st2⟩
      have W := wd_startS st2 .nil
      walk_at "w"
      refine call_S (by assumption) .nil rfl fun H3 x d W3 ⟨d0, d1, d2, hd, g0, g1, g2⟩ => ?_
      subst hd
      obtain ⟨p, rfl⟩ : ∃ p, x = .ref p := by cases W3.get .here; exact ⟨_, rfl⟩
      walk_at "w"
      refine call_P (ds := [.list [d0, d1, d2], .bool _]) W3 (.cons (W3.get .here) (.cons (.bl _) .nil)) ⟨d0, d1, d2, _, rfl, g0, g1, g2⟩ fun H4 => v_bl fun W4 => ?_
      walk_at "w"
      refine lp_range (fun _ σ' H' => ∃ u, σ' = [some (.ref c), some (.ref a), some (.int (0 + (i : Int))), some (.bl _), some (.ref p), u] ∧ Wd true a H2 H' [.ref p] [.list [d0, d1, d2]]) ⟨_, rfl, W4.sub (by cases W4.r; assumption)⟩ ?_ ?_
      · rintro j σ' H5 hj ⟨u, rfl, W5⟩
        rcases (show j = 0 ∨ j = 1 ∨ j = 2 by omega) with rfl | rfl | rfl
        · walk_at "w"
          refine x_L0 W5 .here (v_any fun x0 W6 => ?_)
          walk_at "w"
          refine x_L1 W6 (.there .here) (v_any fun x1 W7 => ?_)
          walk_at "w"
          refine call_P (ds := [d0, d1, .bool _]) W7 (.cons (W7.get (.there .here)) (.cons (W7.get .here) (.cons (.bl _) .nil))) ⟨d0, d1, _, rfl, g0, g1⟩ fun H6 => v_bl fun W8 => ?_
          walk_at "w"
          exact ⟨_, rfl, W8.sub (by cases W8.r with | cons _ r => cases r with | cons _ r => cases r with | cons _ r => exact r)⟩
        · walk_at "w"
          refine x_L1 W5 .here (v_any fun x0 W6 => ?_)
          walk_at "w"
          refine x_L2 W6 (.there .here) (v_any fun x1 W7 => ?_)
          walk_at "w"
          refine call_P (ds := [d1, d2, .bool _]) W7 (.cons (W7.get (.there .here)) (.cons (W7.get .here) (.cons (.bl _) .nil))) ⟨d1, d2, _, rfl, g1, g2⟩ fun H6 => v_bl fun W8 => ?_
          walk_at "w"
          exact ⟨_, rfl, W8.sub (by cases W8.r with | cons _ r => cases r with | cons _ r => cases r with | cons _ r => exact r)⟩
        · walk_at "w"
          refine x_L2 W5 .here (v_any fun x0 W6 => ?_)
          walk_at "w"
          refine x_L0 W6 (.there .here) (v_any fun x1 W7 => ?_)
          walk_at "w"
          refine call_P (ds := [d2, d0, .bool _]) W7 (.cons (W7.get (.there .here)) (.cons (W7.get .here) (.cons (.bl _) .nil))) ⟨d2, d0, _, rfl, g2, g0⟩ fun H6 => v_bl fun W8 => ?_
          walk_at "w"
          exact ⟨_, rfl, W8.sub (by cases W8.r with | cons _ r => cases r with | cons _ r => cases r with | cons _ r => exact r)⟩
      · rintro σ' H5 ⟨u, rfl, W5⟩
        exact ⟨_, _, _, _, rfl, W5.st rfl⟩
    · rintro σ' H2 ⟨u1, u2, u3, u4, rfl, st2⟩
      walk_at "w"
      exact q _
end

abbrev i0_NoPoint : Stmt := inClass (topS 3) 0
theorem sci_NoPoint : FnScope ["self"] ["self"] (defScope i0_NoPoint) := ⟨rfl, rfl, rfl, by decide +kernel, rfl, by decide +kernel, by decide +kernel⟩
theorem okinit_NoPoint {P : Program} {w : World} {K : PySem.W.Frag} {mg : Str → Option Value} {base : Heap} {f : Addr} {fd : FuncData} (F : Fun K "__init__" "NoPoint.__init__" i0_NoPoint f fd) : FnOk P w K mg base CX0 1 f fd ["self"] spPass := by
  refine F.ok sci_NoPoint (fun vs H Q E h => ?_) (fun cdv A outer s H vs Q E hr h => ?_)
  · obtain ⟨⟨v, rfl⟩, _⟩ := h
    rfl
  · obtain ⟨⟨v, rfl⟩, q⟩ := h
    exact ⟨_, pss_one ps_pass, q⟩
theorem all_mk {l : PySem.W.OpenLaw} {w : World} {K : PySem.W.Frag} {h : Heap} {mg : Str → Option Value} {fa : Addr} (X : K.In h) (G : h.Ns mainGlobals mg) (hfa : mg "law" = some (.ref fa))
    {f_law_mixed : Addr} {od_law_mixed an_law_mixed : Option Addr} {sl_law_mixed : Array (Option Value)} {oc_law_mixed kV_law_mixed dc_law_mixed pm_law_mixed cd_law_mixed ct_law_mixed : Value}
    {f_law_great : Addr} {od_law_great an_law_great : Option Addr} {sl_law_great : Array (Option Value)} {oc_law_great kV_law_great dc_law_great pm_law_great cd_law_great ct_law_great : Value}
    {f_law_stream : Addr} {od_law_stream an_law_stream : Option Addr} {sl_law_stream : Array (Option Value)} {oc_law_stream kV_law_stream dc_law_stream pm_law_stream cd_law_stream ct_law_stream : Value}
    {f_law_take : Addr} {od_law_take an_law_take : Option Addr} {sl_law_take : Array (Option Value)} {oc_law_take kV_law_take dc_law_take pm_law_take cd_law_take ct_law_take : Value}
    {f_law_whole : Addr} {od_law_whole an_law_whole : Option Addr} {sl_law_whole : Array (Option Value)} {oc_law_whole kV_law_whole dc_law_whole pm_law_whole cd_law_whole ct_law_whole : Value}
    {f_law_low : Addr} {od_law_low an_law_low : Option Addr} {sl_law_low : Array (Option Value)} {oc_law_low kV_law_low dc_law_low pm_law_low cd_law_low ct_law_low : Value}
    {f_lowest : Addr} {od_lowest an_lowest : Option Addr} {sl_lowest : Array (Option Value)} {oc_lowest kV_lowest dc_lowest pm_lowest cd_lowest ct_lowest : Value}
    {f_is_integer : Addr} {od_is_integer an_is_integer : Option Addr} {sl_is_integer : Array (Option Value)} {oc_is_integer kV_is_integer dc_is_integer pm_is_integer cd_is_integer ct_is_integer : Value}
    {f_law_is_integer : Addr} {od_law_is_integer an_law_is_integer : Option Addr} {sl_law_is_integer : Array (Option Value)} {oc_law_is_integer kV_law_is_integer dc_law_is_integer pm_law_is_integer cd_law_is_integer ct_law_is_integer : Value}
    {f_law_is_frac : Addr} {od_law_is_frac an_law_is_frac : Option Addr} {sl_law_is_frac : Array (Option Value)} {oc_law_is_frac kV_law_is_frac dc_law_is_frac pm_law_is_frac cd_law_is_frac ct_law_is_frac : Value}
    {f_is_tuple_of : Addr} {od_is_tuple_of an_is_tuple_of : Option Addr} {sl_is_tuple_of : Array (Option Value)} {oc_is_tuple_of kV_is_tuple_of dc_is_tuple_of pm_is_tuple_of cd_is_tuple_of ct_is_tuple_of : Value}
    {f_is_fraction : Addr} {od_is_fraction an_is_fraction : Option Addr} {sl_is_fraction : Array (Option Value)} {oc_is_fraction kV_is_fraction dc_is_fraction pm_is_fraction cd_is_fraction ct_is_fraction : Value}
    {f_whole_root : Addr} {od_whole_root an_whole_root : Option Addr} {sl_whole_root : Array (Option Value)} {oc_whole_root kV_whole_root dc_whole_root pm_whole_root cd_whole_root ct_whole_root : Value}
    {f_spread : Addr} {od_spread an_spread : Option Addr} {sl_spread : Array (Option Value)} {oc_spread kV_spread dc_spread pm_spread cd_spread ct_spread : Value}
    {f_arrow : Addr} {od_arrow an_arrow : Option Addr} {sl_arrow : Array (Option Value)} {oc_arrow kV_arrow dc_arrow pm_arrow cd_arrow ct_arrow : Value}
    {f_dot : Addr} {od_dot an_dot : Option Addr} {sl_dot : Array (Option Value)} {oc_dot kV_dot dc_dot pm_dot cd_dot ct_dot : Value}
    {f_size_of : Addr} {od_size_of an_size_of : Option Addr} {sl_size_of : Array (Option Value)} {oc_size_of kV_size_of dc_size_of pm_size_of cd_size_of ct_size_of : Value}
    {f_distance : Addr} {od_distance an_distance : Option Addr} {sl_distance : Array (Option Value)} {oc_distance kV_distance dc_distance pm_distance cd_distance ct_distance : Value}
    {f_line_through : Addr} {od_line_through an_line_through : Option Addr} {sl_line_through : Array (Option Value)} {oc_line_through kV_line_through dc_line_through pm_line_through cd_line_through ct_line_through : Value}
    {f_side_of : Addr} {od_side_of an_side_of : Option Addr} {sl_side_of : Array (Option Value)} {oc_side_of kV_side_of dc_side_of pm_side_of cd_side_of ct_side_of : Value}
    {f_are_fractions : Addr} {od_are_fractions an_are_fractions : Option Addr} {sl_are_fractions : Array (Option Value)} {oc_are_fractions kV_are_fractions dc_are_fractions pm_are_fractions cd_are_fractions ct_are_fractions : Value}
    {f_is_point : Addr} {od_is_point an_is_point : Option Addr} {sl_is_point : Array (Option Value)} {oc_is_point kV_is_point dc_is_point pm_is_point cd_is_point ct_is_point : Value}
    {f_length_of : Addr} {od_length_of an_length_of : Option Addr} {sl_length_of : Array (Option Value)} {oc_length_of kV_length_of dc_length_of pm_length_of cd_length_of ct_length_of : Value}
    {f_turn_of : Addr} {od_turn_of an_turn_of : Option Addr} {sl_turn_of : Array (Option Value)} {oc_turn_of kV_turn_of dc_turn_of pm_turn_of cd_turn_of ct_turn_of : Value}
    {f_law_add : Addr} {od_law_add an_law_add : Option Addr} {sl_law_add : Array (Option Value)} {oc_law_add kV_law_add dc_law_add pm_law_add cd_law_add ct_law_add : Value}
    {f_law_sub : Addr} {od_law_sub an_law_sub : Option Addr} {sl_law_sub : Array (Option Value)} {oc_law_sub kV_law_sub dc_law_sub pm_law_sub cd_law_sub ct_law_sub : Value}
    {f_law_mul : Addr} {od_law_mul an_law_mul : Option Addr} {sl_law_mul : Array (Option Value)} {oc_law_mul kV_law_mul dc_law_mul pm_law_mul cd_law_mul ct_law_mul : Value}
    {f_law_plus : Addr} {od_law_plus an_law_plus : Option Addr} {sl_law_plus : Array (Option Value)} {oc_law_plus kV_law_plus dc_law_plus pm_law_plus cd_law_plus ct_law_plus : Value}
    {f_law_minus : Addr} {od_law_minus an_law_minus : Option Addr} {sl_law_minus : Array (Option Value)} {oc_law_minus kV_law_minus dc_law_minus pm_law_minus cd_law_minus ct_law_minus : Value}
    {f_law_times : Addr} {od_law_times an_law_times : Option Addr} {sl_law_times : Array (Option Value)} {oc_law_times kV_law_times dc_law_times pm_law_times cd_law_times ct_law_times : Value}
    {f_law_dot : Addr} {od_law_dot an_law_dot : Option Addr} {sl_law_dot : Array (Option Value)} {oc_law_dot kV_law_dot dc_law_dot pm_law_dot cd_law_dot ct_law_dot : Value}
    {f_law_root : Addr} {od_law_root an_law_root : Option Addr} {sl_law_root : Array (Option Value)} {oc_law_root kV_law_root dc_law_root pm_law_root cd_law_root ct_law_root : Value}
    {f_law_size : Addr} {od_law_size an_law_size : Option Addr} {sl_law_size : Array (Option Value)} {oc_law_size kV_law_size dc_law_size pm_law_size cd_law_size ct_law_size : Value}
    {f_law_ray : Addr} {od_law_ray an_law_ray : Option Addr} {sl_law_ray : Array (Option Value)} {oc_law_ray kV_law_ray dc_law_ray pm_law_ray cd_law_ray ct_law_ray : Value}
    {f_law_slope : Addr} {od_law_slope an_law_slope : Option Addr} {sl_law_slope : Array (Option Value)} {oc_law_slope kV_law_slope dc_law_slope pm_law_slope cd_law_slope ct_law_slope : Value}
    {f_law_fraction : Addr} {od_law_fraction an_law_fraction : Option Addr} {sl_law_fraction : Array (Option Value)} {oc_law_fraction kV_law_fraction dc_law_fraction pm_law_fraction cd_law_fraction ct_law_fraction : Value}
    {f_law_tame : Addr} {od_law_tame an_law_tame : Option Addr} {sl_law_tame : Array (Option Value)} {oc_law_tame kV_law_tame dc_law_tame pm_law_tame cd_law_tame ct_law_tame : Value}
    {f_law_point : Addr} {od_law_point an_law_point : Option Addr} {sl_law_point : Array (Option Value)} {oc_law_point kV_law_point dc_law_point pm_law_point cd_law_point ct_law_point : Value}
    {f_law_is_point : Addr} {od_law_is_point an_law_is_point : Option Addr} {sl_law_is_point : Array (Option Value)} {oc_law_is_point kV_law_is_point dc_law_is_point pm_law_is_point cd_law_is_point ct_law_is_point : Value}
    {f_law_no_point : Addr} {od_law_no_point an_law_no_point : Option Addr} {sl_law_no_point : Array (Option Value)} {oc_law_no_point kV_law_no_point dc_law_no_point pm_law_no_point cd_law_no_point ct_law_no_point : Value}
    {f_law_flat : Addr} {od_law_flat an_law_flat : Option Addr} {sl_law_flat : Array (Option Value)} {oc_law_flat kV_law_flat dc_law_flat pm_law_flat cd_law_flat ct_law_flat : Value}
    {f_law_side : Addr} {od_law_side an_law_side : Option Addr} {sl_law_side : Array (Option Value)} {oc_law_side kV_law_side dc_law_side pm_law_side cd_law_side ct_law_side : Value}
    {f_law_triple : Addr} {od_law_triple an_law_triple : Option Addr} {sl_law_triple : Array (Option Value)} {oc_law_triple kV_law_triple dc_law_triple pm_law_triple cd_law_triple ct_law_triple : Value}
    {f_law_length : Addr} {od_law_length an_law_length : Option Addr} {sl_law_length : Array (Option Value)} {oc_law_length kV_law_length dc_law_length pm_law_length cd_law_length ct_law_length : Value}
    {f_law_length_asked : Addr} {od_law_length_asked an_law_length_asked : Option Addr} {sl_law_length_asked : Array (Option Value)} {oc_law_length_asked kV_law_length_asked dc_law_length_asked pm_law_length_asked cd_law_length_asked ct_law_length_asked : Value}
    {f_law_turn_asked : Addr} {od_law_turn_asked an_law_turn_asked : Option Addr} {sl_law_turn_asked : Array (Option Value)} {oc_law_turn_asked kV_law_turn_asked dc_law_turn_asked pm_law_turn_asked cd_law_turn_asked ct_law_turn_asked : Value}
    {f_law : Addr} {od_law an_law : Option Addr} {sl_law : Array (Option Value)} {oc_law kV_law dc_law pm_law cd_law ct_law : Value}
    {C_NoPoint B_NoPoint i_NoPoint : Addr} {nm_NoPoint q_NoPoint : Str} {N_NoPoint : Addr} {bs_NoPoint : List Value} {sn_NoPoint : List Str} {sub_NoPoint : List Value} {ab_NoPoint : Bool} {col_NoPoint : Option Bool} {dd_NoPoint : Option Addr} {m0_NoPoint m1_NoPoint m2_NoPoint m3_NoPoint m5_NoPoint : Option Value}
    {iod_NoPoint ian_NoPoint : Option Addr} {isl_NoPoint : Array (Option Value)} {ioc_NoPoint ikV_NoPoint idc_NoPoint ipm_NoPoint icd_NoPoint ict_NoPoint : Value}
    (a_law_mixed : PySem.W.nsIn K mainGlobals "_law_mixed" = some (some (.ref f_law_mixed)))
    (l_law_mixed : K.lookup f_law_mixed = some ⟨oc_law_mixed, od_law_mixed, .func (PySem.W.fnOf "_law_mixed" "_law_mixed" (defArgs s_law_mixed) (defBody s_law_mixed) (defScope s_law_mixed) .none kV_law_mixed dc_law_mixed pm_law_mixed an_law_mixed cd_law_mixed ct_law_mixed), sl_law_mixed⟩)
    (c_law_mixed : PySem.W.codeIn K cd_law_mixed "_law_mixed" = true)
    (k_law_mixed : PySem.W.keepIn K (.ref f_law_mixed) = true)
    (a_law_great : PySem.W.nsIn K mainGlobals "_law_great" = some (some (.ref f_law_great)))
    (l_law_great : K.lookup f_law_great = some ⟨oc_law_great, od_law_great, .func (PySem.W.fnOf "_law_great" "_law_great" (defArgs s_law_great) (defBody s_law_great) (defScope s_law_great) .none kV_law_great dc_law_great pm_law_great an_law_great cd_law_great ct_law_great), sl_law_great⟩)
    (c_law_great : PySem.W.codeIn K cd_law_great "_law_great" = true)
    (k_law_great : PySem.W.keepIn K (.ref f_law_great) = true)
    (a_law_stream : PySem.W.nsIn K mainGlobals "_law_stream" = some (some (.ref f_law_stream)))
    (l_law_stream : K.lookup f_law_stream = some ⟨oc_law_stream, od_law_stream, .func (PySem.W.fnOf "_law_stream" "_law_stream" (defArgs s_law_stream) (defBody s_law_stream) (defScope s_law_stream) .none kV_law_stream dc_law_stream pm_law_stream an_law_stream cd_law_stream ct_law_stream), sl_law_stream⟩)
    (c_law_stream : PySem.W.codeIn K cd_law_stream "_law_stream" = true)
    (k_law_stream : PySem.W.keepIn K (.ref f_law_stream) = true)
    (a_law_take : PySem.W.nsIn K mainGlobals "_law_take" = some (some (.ref f_law_take)))
    (l_law_take : K.lookup f_law_take = some ⟨oc_law_take, od_law_take, .func (PySem.W.fnOf "_law_take" "_law_take" (defArgs s_law_take) (defBody s_law_take) (defScope s_law_take) .none kV_law_take dc_law_take pm_law_take an_law_take cd_law_take ct_law_take), sl_law_take⟩)
    (c_law_take : PySem.W.codeIn K cd_law_take "_law_take" = true)
    (k_law_take : PySem.W.keepIn K (.ref f_law_take) = true)
    (a_law_whole : PySem.W.nsIn K mainGlobals "_law_whole" = some (some (.ref f_law_whole)))
    (l_law_whole : K.lookup f_law_whole = some ⟨oc_law_whole, od_law_whole, .func (PySem.W.fnOf "_law_whole" "_law_whole" (defArgs s_law_whole) (defBody s_law_whole) (defScope s_law_whole) .none kV_law_whole dc_law_whole pm_law_whole an_law_whole cd_law_whole ct_law_whole), sl_law_whole⟩)
    (c_law_whole : PySem.W.codeIn K cd_law_whole "_law_whole" = true)
    (k_law_whole : PySem.W.keepIn K (.ref f_law_whole) = true)
    (a_law_low : PySem.W.nsIn K mainGlobals "_law_low" = some (some (.ref f_law_low)))
    (l_law_low : K.lookup f_law_low = some ⟨oc_law_low, od_law_low, .func (PySem.W.fnOf "_law_low" "_law_low" (defArgs s_law_low) (defBody s_law_low) (defScope s_law_low) .none kV_law_low dc_law_low pm_law_low an_law_low cd_law_low ct_law_low), sl_law_low⟩)
    (c_law_low : PySem.W.codeIn K cd_law_low "_law_low" = true)
    (k_law_low : PySem.W.keepIn K (.ref f_law_low) = true)
    (a_lowest : PySem.W.nsIn K mainGlobals "lowest" = some (some (.ref f_lowest)))
    (l_lowest : K.lookup f_lowest = some ⟨oc_lowest, od_lowest, .func (PySem.W.fnOf "lowest" "lowest" (defArgs s_lowest) (defBody s_lowest) (defScope s_lowest) .none kV_lowest dc_lowest pm_lowest an_lowest cd_lowest ct_lowest), sl_lowest⟩)
    (c_lowest : PySem.W.codeIn K cd_lowest "lowest" = true)
    (k_lowest : PySem.W.keepIn K (.ref f_lowest) = true)
    (a_is_integer : PySem.W.nsIn K mainGlobals "is_integer" = some (some (.ref f_is_integer)))
    (l_is_integer : K.lookup f_is_integer = some ⟨oc_is_integer, od_is_integer, .func (PySem.W.fnOf "is_integer" "is_integer" (defArgs s_is_integer) (defBody s_is_integer) (defScope s_is_integer) .none kV_is_integer dc_is_integer pm_is_integer an_is_integer cd_is_integer ct_is_integer), sl_is_integer⟩)
    (c_is_integer : PySem.W.codeIn K cd_is_integer "is_integer" = true)
    (k_is_integer : PySem.W.keepIn K (.ref f_is_integer) = true)
    (a_law_is_integer : PySem.W.nsIn K mainGlobals "_law_is_integer" = some (some (.ref f_law_is_integer)))
    (l_law_is_integer : K.lookup f_law_is_integer = some ⟨oc_law_is_integer, od_law_is_integer, .func (PySem.W.fnOf "_law_is_integer" "_law_is_integer" (defArgs s_law_is_integer) (defBody s_law_is_integer) (defScope s_law_is_integer) .none kV_law_is_integer dc_law_is_integer pm_law_is_integer an_law_is_integer cd_law_is_integer ct_law_is_integer), sl_law_is_integer⟩)
    (c_law_is_integer : PySem.W.codeIn K cd_law_is_integer "_law_is_integer" = true)
    (k_law_is_integer : PySem.W.keepIn K (.ref f_law_is_integer) = true)
    (a_law_is_frac : PySem.W.nsIn K mainGlobals "_law_is_frac" = some (some (.ref f_law_is_frac)))
    (l_law_is_frac : K.lookup f_law_is_frac = some ⟨oc_law_is_frac, od_law_is_frac, .func (PySem.W.fnOf "_law_is_frac" "_law_is_frac" (defArgs s_law_is_frac) (defBody s_law_is_frac) (defScope s_law_is_frac) .none kV_law_is_frac dc_law_is_frac pm_law_is_frac an_law_is_frac cd_law_is_frac ct_law_is_frac), sl_law_is_frac⟩)
    (c_law_is_frac : PySem.W.codeIn K cd_law_is_frac "_law_is_frac" = true)
    (k_law_is_frac : PySem.W.keepIn K (.ref f_law_is_frac) = true)
    (a_is_tuple_of : PySem.W.nsIn K mainGlobals "is_tuple_of" = some (some (.ref f_is_tuple_of)))
    (l_is_tuple_of : K.lookup f_is_tuple_of = some ⟨oc_is_tuple_of, od_is_tuple_of, .func (PySem.W.fnOf "is_tuple_of" "is_tuple_of" (defArgs s_is_tuple_of) (defBody s_is_tuple_of) (defScope s_is_tuple_of) .none kV_is_tuple_of dc_is_tuple_of pm_is_tuple_of an_is_tuple_of cd_is_tuple_of ct_is_tuple_of), sl_is_tuple_of⟩)
    (c_is_tuple_of : PySem.W.codeIn K cd_is_tuple_of "is_tuple_of" = true)
    (k_is_tuple_of : PySem.W.keepIn K (.ref f_is_tuple_of) = true)
    (a_is_fraction : PySem.W.nsIn K mainGlobals "is_fraction" = some (some (.ref f_is_fraction)))
    (l_is_fraction : K.lookup f_is_fraction = some ⟨oc_is_fraction, od_is_fraction, .func (PySem.W.fnOf "is_fraction" "is_fraction" (defArgs s_is_fraction) (defBody s_is_fraction) (defScope s_is_fraction) .none kV_is_fraction dc_is_fraction pm_is_fraction an_is_fraction cd_is_fraction ct_is_fraction), sl_is_fraction⟩)
    (c_is_fraction : PySem.W.codeIn K cd_is_fraction "is_fraction" = true)
    (k_is_fraction : PySem.W.keepIn K (.ref f_is_fraction) = true)
    (a_whole_root : PySem.W.nsIn K mainGlobals "whole_root" = some (some (.ref f_whole_root)))
    (l_whole_root : K.lookup f_whole_root = some ⟨oc_whole_root, od_whole_root, .func (PySem.W.fnOf "whole_root" "whole_root" (defArgs s_whole_root) (defBody s_whole_root) (defScope s_whole_root) .none kV_whole_root dc_whole_root pm_whole_root an_whole_root cd_whole_root ct_whole_root), sl_whole_root⟩)
    (c_whole_root : PySem.W.codeIn K cd_whole_root "whole_root" = true)
    (k_whole_root : PySem.W.keepIn K (.ref f_whole_root) = true)
    (a_spread : PySem.W.nsIn K mainGlobals "spread" = some (some (.ref f_spread)))
    (l_spread : K.lookup f_spread = some ⟨oc_spread, od_spread, .func (PySem.W.fnOf "spread" "spread" (defArgs s_spread) (defBody s_spread) (defScope s_spread) .none kV_spread dc_spread pm_spread an_spread cd_spread ct_spread), sl_spread⟩)
    (c_spread : PySem.W.codeIn K cd_spread "spread" = true)
    (k_spread : PySem.W.keepIn K (.ref f_spread) = true)
    (a_arrow : PySem.W.nsIn K mainGlobals "arrow" = some (some (.ref f_arrow)))
    (l_arrow : K.lookup f_arrow = some ⟨oc_arrow, od_arrow, .func (PySem.W.fnOf "arrow" "arrow" (defArgs s_arrow) (defBody s_arrow) (defScope s_arrow) .none kV_arrow dc_arrow pm_arrow an_arrow cd_arrow ct_arrow), sl_arrow⟩)
    (c_arrow : PySem.W.codeIn K cd_arrow "arrow" = true)
    (k_arrow : PySem.W.keepIn K (.ref f_arrow) = true)
    (a_dot : PySem.W.nsIn K mainGlobals "dot" = some (some (.ref f_dot)))
    (l_dot : K.lookup f_dot = some ⟨oc_dot, od_dot, .func (PySem.W.fnOf "dot" "dot" (defArgs s_dot) (defBody s_dot) (defScope s_dot) .none kV_dot dc_dot pm_dot an_dot cd_dot ct_dot), sl_dot⟩)
    (c_dot : PySem.W.codeIn K cd_dot "dot" = true)
    (k_dot : PySem.W.keepIn K (.ref f_dot) = true)
    (a_size_of : PySem.W.nsIn K mainGlobals "size_of" = some (some (.ref f_size_of)))
    (l_size_of : K.lookup f_size_of = some ⟨oc_size_of, od_size_of, .func (PySem.W.fnOf "size_of" "size_of" (defArgs s_size_of) (defBody s_size_of) (defScope s_size_of) .none kV_size_of dc_size_of pm_size_of an_size_of cd_size_of ct_size_of), sl_size_of⟩)
    (c_size_of : PySem.W.codeIn K cd_size_of "size_of" = true)
    (k_size_of : PySem.W.keepIn K (.ref f_size_of) = true)
    (a_distance : PySem.W.nsIn K mainGlobals "distance" = some (some (.ref f_distance)))
    (l_distance : K.lookup f_distance = some ⟨oc_distance, od_distance, .func (PySem.W.fnOf "distance" "distance" (defArgs s_distance) (defBody s_distance) (defScope s_distance) .none kV_distance dc_distance pm_distance an_distance cd_distance ct_distance), sl_distance⟩)
    (c_distance : PySem.W.codeIn K cd_distance "distance" = true)
    (k_distance : PySem.W.keepIn K (.ref f_distance) = true)
    (a_line_through : PySem.W.nsIn K mainGlobals "line_through" = some (some (.ref f_line_through)))
    (l_line_through : K.lookup f_line_through = some ⟨oc_line_through, od_line_through, .func (PySem.W.fnOf "line_through" "line_through" (defArgs s_line_through) (defBody s_line_through) (defScope s_line_through) .none kV_line_through dc_line_through pm_line_through an_line_through cd_line_through ct_line_through), sl_line_through⟩)
    (c_line_through : PySem.W.codeIn K cd_line_through "line_through" = true)
    (k_line_through : PySem.W.keepIn K (.ref f_line_through) = true)
    (a_side_of : PySem.W.nsIn K mainGlobals "side_of" = some (some (.ref f_side_of)))
    (l_side_of : K.lookup f_side_of = some ⟨oc_side_of, od_side_of, .func (PySem.W.fnOf "side_of" "side_of" (defArgs s_side_of) (defBody s_side_of) (defScope s_side_of) .none kV_side_of dc_side_of pm_side_of an_side_of cd_side_of ct_side_of), sl_side_of⟩)
    (c_side_of : PySem.W.codeIn K cd_side_of "side_of" = true)
    (k_side_of : PySem.W.keepIn K (.ref f_side_of) = true)
    (a_are_fractions : PySem.W.nsIn K mainGlobals "are_fractions" = some (some (.ref f_are_fractions)))
    (l_are_fractions : K.lookup f_are_fractions = some ⟨oc_are_fractions, od_are_fractions, .func (PySem.W.fnOf "are_fractions" "are_fractions" (defArgs s_are_fractions) (defBody s_are_fractions) (defScope s_are_fractions) .none kV_are_fractions dc_are_fractions pm_are_fractions an_are_fractions cd_are_fractions ct_are_fractions), sl_are_fractions⟩)
    (c_are_fractions : PySem.W.codeIn K cd_are_fractions "are_fractions" = true)
    (k_are_fractions : PySem.W.keepIn K (.ref f_are_fractions) = true)
    (a_is_point : PySem.W.nsIn K mainGlobals "is_point" = some (some (.ref f_is_point)))
    (l_is_point : K.lookup f_is_point = some ⟨oc_is_point, od_is_point, .func (PySem.W.fnOf "is_point" "is_point" (defArgs s_is_point) (defBody s_is_point) (defScope s_is_point) .none kV_is_point dc_is_point pm_is_point an_is_point cd_is_point ct_is_point), sl_is_point⟩)
    (c_is_point : PySem.W.codeIn K cd_is_point "is_point" = true)
    (k_is_point : PySem.W.keepIn K (.ref f_is_point) = true)
    (a_length_of : PySem.W.nsIn K mainGlobals "length_of" = some (some (.ref f_length_of)))
    (l_length_of : K.lookup f_length_of = some ⟨oc_length_of, od_length_of, .func (PySem.W.fnOf "length_of" "length_of" (defArgs s_length_of) (defBody s_length_of) (defScope s_length_of) .none kV_length_of dc_length_of pm_length_of an_length_of cd_length_of ct_length_of), sl_length_of⟩)
    (c_length_of : PySem.W.codeIn K cd_length_of "length_of" = true)
    (k_length_of : PySem.W.keepIn K (.ref f_length_of) = true)
    (a_turn_of : PySem.W.nsIn K mainGlobals "turn_of" = some (some (.ref f_turn_of)))
    (l_turn_of : K.lookup f_turn_of = some ⟨oc_turn_of, od_turn_of, .func (PySem.W.fnOf "turn_of" "turn_of" (defArgs s_turn_of) (defBody s_turn_of) (defScope s_turn_of) .none kV_turn_of dc_turn_of pm_turn_of an_turn_of cd_turn_of ct_turn_of), sl_turn_of⟩)
    (c_turn_of : PySem.W.codeIn K cd_turn_of "turn_of" = true)
    (k_turn_of : PySem.W.keepIn K (.ref f_turn_of) = true)
    (a_law_add : PySem.W.nsIn K mainGlobals "_law_add" = some (some (.ref f_law_add)))
    (l_law_add : K.lookup f_law_add = some ⟨oc_law_add, od_law_add, .func (PySem.W.fnOf "_law_add" "_law_add" (defArgs s_law_add) (defBody s_law_add) (defScope s_law_add) .none kV_law_add dc_law_add pm_law_add an_law_add cd_law_add ct_law_add), sl_law_add⟩)
    (c_law_add : PySem.W.codeIn K cd_law_add "_law_add" = true)
    (k_law_add : PySem.W.keepIn K (.ref f_law_add) = true)
    (a_law_sub : PySem.W.nsIn K mainGlobals "_law_sub" = some (some (.ref f_law_sub)))
    (l_law_sub : K.lookup f_law_sub = some ⟨oc_law_sub, od_law_sub, .func (PySem.W.fnOf "_law_sub" "_law_sub" (defArgs s_law_sub) (defBody s_law_sub) (defScope s_law_sub) .none kV_law_sub dc_law_sub pm_law_sub an_law_sub cd_law_sub ct_law_sub), sl_law_sub⟩)
    (c_law_sub : PySem.W.codeIn K cd_law_sub "_law_sub" = true)
    (k_law_sub : PySem.W.keepIn K (.ref f_law_sub) = true)
    (a_law_mul : PySem.W.nsIn K mainGlobals "_law_mul" = some (some (.ref f_law_mul)))
    (l_law_mul : K.lookup f_law_mul = some ⟨oc_law_mul, od_law_mul, .func (PySem.W.fnOf "_law_mul" "_law_mul" (defArgs s_law_mul) (defBody s_law_mul) (defScope s_law_mul) .none kV_law_mul dc_law_mul pm_law_mul an_law_mul cd_law_mul ct_law_mul), sl_law_mul⟩)
    (c_law_mul : PySem.W.codeIn K cd_law_mul "_law_mul" = true)
    (k_law_mul : PySem.W.keepIn K (.ref f_law_mul) = true)
    (a_law_plus : PySem.W.nsIn K mainGlobals "_law_plus" = some (some (.ref f_law_plus)))
    (l_law_plus : K.lookup f_law_plus = some ⟨oc_law_plus, od_law_plus, .func (PySem.W.fnOf "_law_plus" "_law_plus" (defArgs s_law_plus) (defBody s_law_plus) (defScope s_law_plus) .none kV_law_plus dc_law_plus pm_law_plus an_law_plus cd_law_plus ct_law_plus), sl_law_plus⟩)
    (c_law_plus : PySem.W.codeIn K cd_law_plus "_law_plus" = true)
    (k_law_plus : PySem.W.keepIn K (.ref f_law_plus) = true)
    (a_law_minus : PySem.W.nsIn K mainGlobals "_law_minus" = some (some (.ref f_law_minus)))
    (l_law_minus : K.lookup f_law_minus = some ⟨oc_law_minus, od_law_minus, .func (PySem.W.fnOf "_law_minus" "_law_minus" (defArgs s_law_minus) (defBody s_law_minus) (defScope s_law_minus) .none kV_law_minus dc_law_minus pm_law_minus an_law_minus cd_law_minus ct_law_minus), sl_law_minus⟩)
    (c_law_minus : PySem.W.codeIn K cd_law_minus "_law_minus" = true)
    (k_law_minus : PySem.W.keepIn K (.ref f_law_minus) = true)
    (a_law_times : PySem.W.nsIn K mainGlobals "_law_times" = some (some (.ref f_law_times)))
    (l_law_times : K.lookup f_law_times = some ⟨oc_law_times, od_law_times, .func (PySem.W.fnOf "_law_times" "_law_times" (defArgs s_law_times) (defBody s_law_times) (defScope s_law_times) .none kV_law_times dc_law_times pm_law_times an_law_times cd_law_times ct_law_times), sl_law_times⟩)
    (c_law_times : PySem.W.codeIn K cd_law_times "_law_times" = true)
    (k_law_times : PySem.W.keepIn K (.ref f_law_times) = true)
    (a_law_dot : PySem.W.nsIn K mainGlobals "_law_dot" = some (some (.ref f_law_dot)))
    (l_law_dot : K.lookup f_law_dot = some ⟨oc_law_dot, od_law_dot, .func (PySem.W.fnOf "_law_dot" "_law_dot" (defArgs s_law_dot) (defBody s_law_dot) (defScope s_law_dot) .none kV_law_dot dc_law_dot pm_law_dot an_law_dot cd_law_dot ct_law_dot), sl_law_dot⟩)
    (c_law_dot : PySem.W.codeIn K cd_law_dot "_law_dot" = true)
    (k_law_dot : PySem.W.keepIn K (.ref f_law_dot) = true)
    (a_law_root : PySem.W.nsIn K mainGlobals "_law_root" = some (some (.ref f_law_root)))
    (l_law_root : K.lookup f_law_root = some ⟨oc_law_root, od_law_root, .func (PySem.W.fnOf "_law_root" "_law_root" (defArgs s_law_root) (defBody s_law_root) (defScope s_law_root) .none kV_law_root dc_law_root pm_law_root an_law_root cd_law_root ct_law_root), sl_law_root⟩)
    (c_law_root : PySem.W.codeIn K cd_law_root "_law_root" = true)
    (k_law_root : PySem.W.keepIn K (.ref f_law_root) = true)
    (a_law_size : PySem.W.nsIn K mainGlobals "_law_size" = some (some (.ref f_law_size)))
    (l_law_size : K.lookup f_law_size = some ⟨oc_law_size, od_law_size, .func (PySem.W.fnOf "_law_size" "_law_size" (defArgs s_law_size) (defBody s_law_size) (defScope s_law_size) .none kV_law_size dc_law_size pm_law_size an_law_size cd_law_size ct_law_size), sl_law_size⟩)
    (c_law_size : PySem.W.codeIn K cd_law_size "_law_size" = true)
    (k_law_size : PySem.W.keepIn K (.ref f_law_size) = true)
    (a_law_ray : PySem.W.nsIn K mainGlobals "_law_ray" = some (some (.ref f_law_ray)))
    (l_law_ray : K.lookup f_law_ray = some ⟨oc_law_ray, od_law_ray, .func (PySem.W.fnOf "_law_ray" "_law_ray" (defArgs s_law_ray) (defBody s_law_ray) (defScope s_law_ray) .none kV_law_ray dc_law_ray pm_law_ray an_law_ray cd_law_ray ct_law_ray), sl_law_ray⟩)
    (c_law_ray : PySem.W.codeIn K cd_law_ray "_law_ray" = true)
    (k_law_ray : PySem.W.keepIn K (.ref f_law_ray) = true)
    (a_law_slope : PySem.W.nsIn K mainGlobals "_law_slope" = some (some (.ref f_law_slope)))
    (l_law_slope : K.lookup f_law_slope = some ⟨oc_law_slope, od_law_slope, .func (PySem.W.fnOf "_law_slope" "_law_slope" (defArgs s_law_slope) (defBody s_law_slope) (defScope s_law_slope) .none kV_law_slope dc_law_slope pm_law_slope an_law_slope cd_law_slope ct_law_slope), sl_law_slope⟩)
    (c_law_slope : PySem.W.codeIn K cd_law_slope "_law_slope" = true)
    (k_law_slope : PySem.W.keepIn K (.ref f_law_slope) = true)
    (a_law_fraction : PySem.W.nsIn K mainGlobals "_law_fraction" = some (some (.ref f_law_fraction)))
    (l_law_fraction : K.lookup f_law_fraction = some ⟨oc_law_fraction, od_law_fraction, .func (PySem.W.fnOf "_law_fraction" "_law_fraction" (defArgs s_law_fraction) (defBody s_law_fraction) (defScope s_law_fraction) .none kV_law_fraction dc_law_fraction pm_law_fraction an_law_fraction cd_law_fraction ct_law_fraction), sl_law_fraction⟩)
    (c_law_fraction : PySem.W.codeIn K cd_law_fraction "_law_fraction" = true)
    (k_law_fraction : PySem.W.keepIn K (.ref f_law_fraction) = true)
    (a_law_tame : PySem.W.nsIn K mainGlobals "_law_tame" = some (some (.ref f_law_tame)))
    (l_law_tame : K.lookup f_law_tame = some ⟨oc_law_tame, od_law_tame, .func (PySem.W.fnOf "_law_tame" "_law_tame" (defArgs s_law_tame) (defBody s_law_tame) (defScope s_law_tame) .none kV_law_tame dc_law_tame pm_law_tame an_law_tame cd_law_tame ct_law_tame), sl_law_tame⟩)
    (c_law_tame : PySem.W.codeIn K cd_law_tame "_law_tame" = true)
    (k_law_tame : PySem.W.keepIn K (.ref f_law_tame) = true)
    (a_law_point : PySem.W.nsIn K mainGlobals "_law_point" = some (some (.ref f_law_point)))
    (l_law_point : K.lookup f_law_point = some ⟨oc_law_point, od_law_point, .func (PySem.W.fnOf "_law_point" "_law_point" (defArgs s_law_point) (defBody s_law_point) (defScope s_law_point) .none kV_law_point dc_law_point pm_law_point an_law_point cd_law_point ct_law_point), sl_law_point⟩)
    (c_law_point : PySem.W.codeIn K cd_law_point "_law_point" = true)
    (k_law_point : PySem.W.keepIn K (.ref f_law_point) = true)
    (a_law_is_point : PySem.W.nsIn K mainGlobals "_law_is_point" = some (some (.ref f_law_is_point)))
    (l_law_is_point : K.lookup f_law_is_point = some ⟨oc_law_is_point, od_law_is_point, .func (PySem.W.fnOf "_law_is_point" "_law_is_point" (defArgs s_law_is_point) (defBody s_law_is_point) (defScope s_law_is_point) .none kV_law_is_point dc_law_is_point pm_law_is_point an_law_is_point cd_law_is_point ct_law_is_point), sl_law_is_point⟩)
    (c_law_is_point : PySem.W.codeIn K cd_law_is_point "_law_is_point" = true)
    (k_law_is_point : PySem.W.keepIn K (.ref f_law_is_point) = true)
    (a_law_no_point : PySem.W.nsIn K mainGlobals "_law_no_point" = some (some (.ref f_law_no_point)))
    (l_law_no_point : K.lookup f_law_no_point = some ⟨oc_law_no_point, od_law_no_point, .func (PySem.W.fnOf "_law_no_point" "_law_no_point" (defArgs s_law_no_point) (defBody s_law_no_point) (defScope s_law_no_point) .none kV_law_no_point dc_law_no_point pm_law_no_point an_law_no_point cd_law_no_point ct_law_no_point), sl_law_no_point⟩)
    (c_law_no_point : PySem.W.codeIn K cd_law_no_point "_law_no_point" = true)
    (k_law_no_point : PySem.W.keepIn K (.ref f_law_no_point) = true)
    (a_law_flat : PySem.W.nsIn K mainGlobals "_law_flat" = some (some (.ref f_law_flat)))
    (l_law_flat : K.lookup f_law_flat = some ⟨oc_law_flat, od_law_flat, .func (PySem.W.fnOf "_law_flat" "_law_flat" (defArgs s_law_flat) (defBody s_law_flat) (defScope s_law_flat) .none kV_law_flat dc_law_flat pm_law_flat an_law_flat cd_law_flat ct_law_flat), sl_law_flat⟩)
    (c_law_flat : PySem.W.codeIn K cd_law_flat "_law_flat" = true)
    (k_law_flat : PySem.W.keepIn K (.ref f_law_flat) = true)
    (a_law_side : PySem.W.nsIn K mainGlobals "_law_side" = some (some (.ref f_law_side)))
    (l_law_side : K.lookup f_law_side = some ⟨oc_law_side, od_law_side, .func (PySem.W.fnOf "_law_side" "_law_side" (defArgs s_law_side) (defBody s_law_side) (defScope s_law_side) .none kV_law_side dc_law_side pm_law_side an_law_side cd_law_side ct_law_side), sl_law_side⟩)
    (c_law_side : PySem.W.codeIn K cd_law_side "_law_side" = true)
    (k_law_side : PySem.W.keepIn K (.ref f_law_side) = true)
    (a_law_triple : PySem.W.nsIn K mainGlobals "_law_triple" = some (some (.ref f_law_triple)))
    (l_law_triple : K.lookup f_law_triple = some ⟨oc_law_triple, od_law_triple, .func (PySem.W.fnOf "_law_triple" "_law_triple" (defArgs s_law_triple) (defBody s_law_triple) (defScope s_law_triple) .none kV_law_triple dc_law_triple pm_law_triple an_law_triple cd_law_triple ct_law_triple), sl_law_triple⟩)
    (c_law_triple : PySem.W.codeIn K cd_law_triple "_law_triple" = true)
    (k_law_triple : PySem.W.keepIn K (.ref f_law_triple) = true)
    (a_law_length : PySem.W.nsIn K mainGlobals "_law_length" = some (some (.ref f_law_length)))
    (l_law_length : K.lookup f_law_length = some ⟨oc_law_length, od_law_length, .func (PySem.W.fnOf "_law_length" "_law_length" (defArgs s_law_length) (defBody s_law_length) (defScope s_law_length) .none kV_law_length dc_law_length pm_law_length an_law_length cd_law_length ct_law_length), sl_law_length⟩)
    (c_law_length : PySem.W.codeIn K cd_law_length "_law_length" = true)
    (k_law_length : PySem.W.keepIn K (.ref f_law_length) = true)
    (a_law_length_asked : PySem.W.nsIn K mainGlobals "_law_length_asked" = some (some (.ref f_law_length_asked)))
    (l_law_length_asked : K.lookup f_law_length_asked = some ⟨oc_law_length_asked, od_law_length_asked, .func (PySem.W.fnOf "_law_length_asked" "_law_length_asked" (defArgs s_law_length_asked) (defBody s_law_length_asked) (defScope s_law_length_asked) .none kV_law_length_asked dc_law_length_asked pm_law_length_asked an_law_length_asked cd_law_length_asked ct_law_length_asked), sl_law_length_asked⟩)
    (c_law_length_asked : PySem.W.codeIn K cd_law_length_asked "_law_length_asked" = true)
    (k_law_length_asked : PySem.W.keepIn K (.ref f_law_length_asked) = true)
    (a_law_turn_asked : PySem.W.nsIn K mainGlobals "_law_turn_asked" = some (some (.ref f_law_turn_asked)))
    (l_law_turn_asked : K.lookup f_law_turn_asked = some ⟨oc_law_turn_asked, od_law_turn_asked, .func (PySem.W.fnOf "_law_turn_asked" "_law_turn_asked" (defArgs s_law_turn_asked) (defBody s_law_turn_asked) (defScope s_law_turn_asked) .none kV_law_turn_asked dc_law_turn_asked pm_law_turn_asked an_law_turn_asked cd_law_turn_asked ct_law_turn_asked), sl_law_turn_asked⟩)
    (c_law_turn_asked : PySem.W.codeIn K cd_law_turn_asked "_law_turn_asked" = true)
    (k_law_turn_asked : PySem.W.keepIn K (.ref f_law_turn_asked) = true)
    (a_law : PySem.W.nsIn K mainGlobals "law" = some (some (.ref f_law)))
    (l_law : K.lookup f_law = some ⟨oc_law, od_law, .func (PySem.W.fnOf "law" "law" (defArgs s_law) (defBody s_law) (defScope s_law) .none kV_law dc_law pm_law an_law cd_law ct_law), sl_law⟩)
    (c_law : PySem.W.codeIn K cd_law "law" = true)
    (k_law : PySem.W.keepIn K (.ref f_law) = true)
    (aC_NoPoint : PySem.W.nsIn K mainGlobals "NoPoint" = some (some (.ref C_NoPoint)))
    (xL_NoPoint : K.lookup C_NoPoint = some (excClassObj nm_NoPoint q_NoPoint C_NoPoint N_NoPoint bs_NoPoint [.ref B_NoPoint, .type "ValueError", .type "Exception", .type "BaseException", .type "object"] true sn_NoPoint sub_NoPoint ab_NoPoint col_NoPoint dd_NoPoint m0_NoPoint m1_NoPoint m2_NoPoint m3_NoPoint m5_NoPoint "ValueError.__new__"))
    (sa_NoPoint : PySem.W.findIn K (.ref C_NoPoint) "__setattr__" = some (some (.builtin "object.__setattr__")))
    (in_NoPoint : PySem.W.findIn K (.ref C_NoPoint) "__init__" = some (some (.ref i_NoPoint)))
    (ti_NoPoint : PySem.W.typeIn K (.ref i_NoPoint) = some (.type "function"))
    (li_NoPoint : K.lookup i_NoPoint = some ⟨ioc_NoPoint, iod_NoPoint, .func (PySem.W.fnOf "__init__" "NoPoint.__init__" (defArgs i0_NoPoint) (defBody i0_NoPoint) (defScope i0_NoPoint) .none ikV_NoPoint idc_NoPoint ipm_NoPoint ian_NoPoint icd_NoPoint ict_NoPoint), isl_NoPoint⟩)
    (ci_NoPoint : PySem.W.codeIn K icd_NoPoint "NoPoint.__init__" = true)
    (ki_NoPoint : PySem.W.keepIn K (.ref i_NoPoint) = true)
    (kC_NoPoint : PySem.W.keepIn K (.ref C_NoPoint) = true)
    (eC_NoPoint : PySem.W.subIn K (.ref C_NoPoint) (.type "BaseException") = some true)
    (tC_NoPoint : PySem.W.typeIn K (.ref C_NoPoint) = some (.type "type"))
    (iC_NoPoint : PySem.W.isClsIn K C_NoPoint = true)
    (sC_NoPoint : PySem.W.subIn K (.ref C_NoPoint) (.ref C_NoPoint) = some true)
    (z_int : PySem.W.nsIn K mainGlobals "int" = some none)
    (z_bool : PySem.W.nsIn K mainGlobals "bool" = some none)
    (z_tuple : PySem.W.nsIn K mainGlobals "tuple" = some none)
    (z_list : PySem.W.nsIn K mainGlobals "list" = some none)
    (z_len : PySem.W.nsIn K mainGlobals "len" = some none)
    (z_abs : PySem.W.nsIn K mainGlobals "abs" = some none)
    (z_min : PySem.W.nsIn K mainGlobals "min" = some none)
    (z_max : PySem.W.nsIn K mainGlobals "max" = some none)
    (z_range : PySem.W.nsIn K mainGlobals "range" = some none)
    (z_isinstance : PySem.W.nsIn K mainGlobals "isinstance" = some none)
    (y_gcd : PySem.W.nsIn K mainGlobals "gcd" = some (some (.builtin "math.gcd")))
    (y_isqrt : PySem.W.nsIn K mainGlobals "isqrt" = some (some (.builtin "math.isqrt")))
    (y_lcm : PySem.W.nsIn K mainGlobals "lcm" = some (some (.builtin "math.lcm"))) :
    ∃ fd : FuncData, (∀ (s : Shared) (v : Value), BindsTo s fd ⟨[v], []⟩ [("script", v)]) ∧ ∀ base : Heap, K.In base → base.Ns mainGlobals mg → FnOk l.prog w K mg base CX0 9 fa fd ["script"] (sp_law K) := by
  have e := hfa.symm.trans (PySem.W.mg_of X G a_law)
  cases e
  have nb : Nb mg := { int := PySem.W.mg_none_of X G z_int, bool := PySem.W.mg_none_of X G z_bool, tuple := PySem.W.mg_none_of X G z_tuple, list := PySem.W.mg_none_of X G z_list, len := PySem.W.mg_none_of X G z_len, abs := PySem.W.mg_none_of X G z_abs, min := PySem.W.mg_none_of X G z_min, max := PySem.W.mg_none_of X G z_max, range := PySem.W.mg_none_of X G z_range, isinstance := PySem.W.mg_none_of X G z_isinstance }
  have mi_gcd := PySem.W.mg_of X G y_gcd
  have mi_isqrt := PySem.W.mg_of X G y_isqrt
  have mi_lcm := PySem.W.mg_of X G y_lcm
  have F_law_mixed := fun_mk (st := s_law_mixed) l_law_mixed c_law_mixed k_law_mixed
  have b_law_mixed := F_law_mixed.binds (ps := ["cell", "k"]) fun _ _ _ _ _ _ us hl => match us, hl with | [_, _], _ => rfl
  have F_law_great := fun_mk (st := s_law_great) l_law_great c_law_great k_law_great
  have b_law_great := F_law_great.binds (ps := ["cells", "place"]) fun _ _ _ _ _ _ us hl => match us, hl with | [_, _], _ => rfl
  have F_law_stream := fun_mk (st := s_law_stream) l_law_stream c_law_stream k_law_stream
  have b_law_stream := F_law_stream.binds (ps := ["script"]) fun _ _ _ _ _ _ us hl => match us, hl with | [_], _ => rfl
  have F_law_take := fun_mk (st := s_law_take) l_law_take c_law_take k_law_take
  have b_law_take := F_law_take.binds (ps := ["stream", "many"]) fun _ _ _ _ _ _ us hl => match us, hl with | [_, _], _ => rfl
  have F_law_whole := fun_mk (st := s_law_whole) l_law_whole c_law_whole k_law_whole
  have b_law_whole := F_law_whole.binds (ps := ["stream"]) fun _ _ _ _ _ _ us hl => match us, hl with | [_], _ => rfl
  have F_law_low := fun_mk (st := s_law_low) l_law_low c_law_low k_law_low
  have b_law_low := F_law_low.binds (ps := ["top", "bottom"]) fun _ _ _ _ _ _ us hl => match us, hl with | [_, _], _ => rfl
  have F_lowest := fun_mk (st := s_lowest) l_lowest c_lowest k_lowest
  have b_lowest := F_lowest.binds (ps := ["top", "bottom"]) fun _ _ _ _ _ _ us hl => match us, hl with | [_, _], _ => rfl
  have F_is_integer := fun_mk (st := s_is_integer) l_is_integer c_is_integer k_is_integer
  have b_is_integer := F_is_integer.binds (ps := ["thing"]) fun _ _ _ _ _ _ us hl => match us, hl with | [_], _ => rfl
  have F_law_is_integer := fun_mk (st := s_law_is_integer) l_law_is_integer c_law_is_integer k_law_is_integer
  have b_law_is_integer := F_law_is_integer.binds (ps := ["thing"]) fun _ _ _ _ _ _ us hl => match us, hl with | [_], _ => rfl
  have F_law_is_frac := fun_mk (st := s_law_is_frac) l_law_is_frac c_law_is_frac k_law_is_frac
  have b_law_is_frac := F_law_is_frac.binds (ps := ["thing"]) fun _ _ _ _ _ _ us hl => match us, hl with | [_], _ => rfl
  have F_is_tuple_of := fun_mk (st := s_is_tuple_of) l_is_tuple_of c_is_tuple_of k_is_tuple_of
  have b_is_tuple_of := F_is_tuple_of.binds (ps := ["thing", "many"]) fun _ _ _ _ _ _ us hl => match us, hl with | [_, _], _ => rfl
  have F_is_fraction := fun_mk (st := s_is_fraction) l_is_fraction c_is_fraction k_is_fraction
  have b_is_fraction := F_is_fraction.binds (ps := ["thing"]) fun _ _ _ _ _ _ us hl => match us, hl with | [_], _ => rfl
  have F_whole_root := fun_mk (st := s_whole_root) l_whole_root c_whole_root k_whole_root
  have b_whole_root := F_whole_root.binds (ps := ["number"]) fun _ _ _ _ _ _ us hl => match us, hl with | [_], _ => rfl
  have F_spread := fun_mk (st := s_spread) l_spread c_spread k_spread
  have b_spread := F_spread.binds (ps := ["point"]) fun _ _ _ _ _ _ us hl => match us, hl with | [_], _ => rfl
  have F_arrow := fun_mk (st := s_arrow) l_arrow c_arrow k_arrow
  have b_arrow := F_arrow.binds (ps := ["one", "other"]) fun _ _ _ _ _ _ us hl => match us, hl with | [_, _], _ => rfl
  have F_dot := fun_mk (st := s_dot) l_dot c_dot k_dot
  have b_dot := F_dot.binds (ps := ["one", "other"]) fun _ _ _ _ _ _ us hl => match us, hl with | [_, _], _ => rfl
  have F_size_of := fun_mk (st := s_size_of) l_size_of c_size_of k_size_of
  have b_size_of := F_size_of.binds (ps := ["vector"]) fun _ _ _ _ _ _ us hl => match us, hl with | [_], _ => rfl
  have F_distance := fun_mk (st := s_distance) l_distance c_distance k_distance
  have b_distance := F_distance.binds (ps := ["one", "other"]) fun _ _ _ _ _ _ us hl => match us, hl with | [_, _], _ => rfl
  have F_line_through := fun_mk (st := s_line_through) l_line_through c_line_through k_line_through
  have b_line_through := F_line_through.binds (ps := ["one", "other"]) fun _ _ _ _ _ _ us hl => match us, hl with | [_, _], _ => rfl
  have F_side_of := fun_mk (st := s_side_of) l_side_of c_side_of k_side_of
  have b_side_of := F_side_of.binds (ps := ["line", "spot"]) fun _ _ _ _ _ _ us hl => match us, hl with | [_, _], _ => rfl
  have F_are_fractions := fun_mk (st := s_are_fractions) l_are_fractions c_are_fractions k_are_fractions
  have b_are_fractions := F_are_fractions.binds (ps := ["things"]) fun _ _ _ _ _ _ us hl => match us, hl with | [_], _ => rfl
  have F_is_point := fun_mk (st := s_is_point) l_is_point c_is_point k_is_point
  have b_is_point := F_is_point.binds (ps := ["thing"]) fun _ _ _ _ _ _ us hl => match us, hl with | [_], _ => rfl
  have F_length_of := fun_mk (st := s_length_of) l_length_of c_length_of k_length_of
  have b_length_of := F_length_of.binds (ps := ["one", "other"]) fun _ _ _ _ _ _ us hl => match us, hl with | [_, _], _ => rfl
  have F_turn_of := fun_mk (st := s_turn_of) l_turn_of c_turn_of k_turn_of
  have b_turn_of := F_turn_of.binds (ps := ["one", "other", "third"]) fun _ _ _ _ _ _ us hl => match us, hl with | [_, _, _], _ => rfl
  have F_law_add := fun_mk (st := s_law_add) l_law_add c_law_add k_law_add
  have b_law_add := F_law_add.binds (ps := ["one", "other"]) fun _ _ _ _ _ _ us hl => match us, hl with | [_, _], _ => rfl
  have F_law_sub := fun_mk (st := s_law_sub) l_law_sub c_law_sub k_law_sub
  have b_law_sub := F_law_sub.binds (ps := ["one", "other"]) fun _ _ _ _ _ _ us hl => match us, hl with | [_, _], _ => rfl
  have F_law_mul := fun_mk (st := s_law_mul) l_law_mul c_law_mul k_law_mul
  have b_law_mul := F_law_mul.binds (ps := ["one", "other"]) fun _ _ _ _ _ _ us hl => match us, hl with | [_, _], _ => rfl
  have F_law_plus := fun_mk (st := s_law_plus) l_law_plus c_law_plus k_law_plus
  have b_law_plus := F_law_plus.binds (ps := ["one", "other"]) fun _ _ _ _ _ _ us hl => match us, hl with | [_, _], _ => rfl
  have F_law_minus := fun_mk (st := s_law_minus) l_law_minus c_law_minus k_law_minus
  have b_law_minus := F_law_minus.binds (ps := ["one", "other"]) fun _ _ _ _ _ _ us hl => match us, hl with | [_, _], _ => rfl
  have F_law_times := fun_mk (st := s_law_times) l_law_times c_law_times k_law_times
  have b_law_times := F_law_times.binds (ps := ["step", "factor"]) fun _ _ _ _ _ _ us hl => match us, hl with | [_, _], _ => rfl
  have F_law_dot := fun_mk (st := s_law_dot) l_law_dot c_law_dot k_law_dot
  have b_law_dot := F_law_dot.binds (ps := ["one", "other"]) fun _ _ _ _ _ _ us hl => match us, hl with | [_, _], _ => rfl
  have F_law_root := fun_mk (st := s_law_root) l_law_root c_law_root k_law_root
  have b_law_root := F_law_root.binds (ps := ["number"]) fun _ _ _ _ _ _ us hl => match us, hl with | [_], _ => rfl
  have F_law_size := fun_mk (st := s_law_size) l_law_size c_law_size k_law_size
  have b_law_size := F_law_size.binds (ps := ["step"]) fun _ _ _ _ _ _ us hl => match us, hl with | [_], _ => rfl
  have F_law_ray := fun_mk (st := s_law_ray) l_law_ray c_law_ray k_law_ray
  have b_law_ray := F_law_ray.binds (ps := ["slope"]) fun _ _ _ _ _ _ us hl => match us, hl with | [_], _ => rfl
  have F_law_slope := fun_mk (st := s_law_slope) l_law_slope c_law_slope k_law_slope
  have b_law_slope := F_law_slope.binds (ps := ["stream", "most"]) fun _ _ _ _ _ _ us hl => match us, hl with | [_, _], _ => rfl
  have F_law_fraction := fun_mk (st := s_law_fraction) l_law_fraction c_law_fraction k_law_fraction
  have b_law_fraction := F_law_fraction.binds (ps := ["stream"]) fun _ _ _ _ _ _ us hl => match us, hl with | [_], _ => rfl
  have F_law_tame := fun_mk (st := s_law_tame) l_law_tame c_law_tame k_law_tame
  have b_law_tame := F_law_tame.binds (ps := ["stream"]) fun _ _ _ _ _ _ us hl => match us, hl with | [_], _ => rfl
  have F_law_point := fun_mk (st := s_law_point) l_law_point c_law_point k_law_point
  have b_law_point := F_law_point.binds (ps := ["stream"]) fun _ _ _ _ _ _ us hl => match us, hl with | [_], _ => rfl
  have F_law_is_point := fun_mk (st := s_law_is_point) l_law_is_point c_law_is_point k_law_is_point
  have b_law_is_point := F_law_is_point.binds (ps := ["thing"]) fun _ _ _ _ _ _ us hl => match us, hl with | [_], _ => rfl
  have F_law_no_point := fun_mk (st := s_law_no_point) l_law_no_point c_law_no_point k_law_no_point
  have b_law_no_point := F_law_no_point.binds (ps := ["stream"]) fun _ _ _ _ _ _ us hl => match us, hl with | [_], _ => rfl
  have F_law_flat := fun_mk (st := s_law_flat) l_law_flat c_law_flat k_law_flat
  have b_law_flat := F_law_flat.binds (ps := ["point"]) fun _ _ _ _ _ _ us hl => match us, hl with | [_], _ => rfl
  have F_law_side := fun_mk (st := s_law_side) l_law_side c_law_side k_law_side
  have b_law_side := F_law_side.binds (ps := ["one", "other", "third"]) fun _ _ _ _ _ _ us hl => match us, hl with | [_, _, _], _ => rfl
  have F_law_triple := fun_mk (st := s_law_triple) l_law_triple c_law_triple k_law_triple
  have b_law_triple := F_law_triple.binds (ps := ["stream"]) fun _ _ _ _ _ _ us hl => match us, hl with | [_], _ => rfl
  have F_law_length := fun_mk (st := s_law_length) l_law_length c_law_length k_law_length
  have b_law_length := F_law_length.binds (ps := ["one", "other", "by_name"]) fun _ _ _ _ _ _ us hl => match us, hl with | [_, _, _], _ => rfl
  have F_law_length_asked := fun_mk (st := s_law_length_asked) l_law_length_asked c_law_length_asked k_law_length_asked
  have b_law_length_asked := F_law_length_asked.binds (ps := ["one", "other", "by_name"]) fun _ _ _ _ _ _ us hl => match us, hl with | [_, _, _], _ => rfl
  have F_law_turn_asked := fun_mk (st := s_law_turn_asked) l_law_turn_asked c_law_turn_asked k_law_turn_asked
  have b_law_turn_asked := F_law_turn_asked.binds (ps := ["points", "by_name"]) fun _ _ _ _ _ _ us hl => match us, hl with | [_, _], _ => rfl
  have F_law := fun_mk (st := s_law) l_law c_law k_law
  refine ⟨PySem.W.fnOf "law" "law" (defArgs s_law) (defBody s_law) (defScope s_law) .none kV_law dc_law pm_law an_law cd_law ct_law, fun s v => .of_eq rfl, fun base _ _ => ?_⟩
  have I_NoPoint := fun_mk (st := i0_NoPoint) li_NoPoint ci_NoPoint ki_NoPoint
  have c_NoPoint : Ex0 l.prog w K mg base "NoPoint" C_NoPoint := ⟨⟨⟨nm_NoPoint, q_NoPoint, N_NoPoint, bs_NoPoint, _, sn_NoPoint, sub_NoPoint, ab_NoPoint, col_NoPoint, dd_NoPoint, m0_NoPoint, m1_NoPoint, m2_NoPoint, m3_NoPoint, m5_NoPoint, xL_NoPoint, (show (PySem.HandSPX.veTail == PySem.HandSPX.veTail) = true by decide +kernel)⟩, sa_NoPoint, eC_NoPoint, tC_NoPoint, kC_NoPoint⟩, PySem.W.mg_of X G aC_NoPoint, exm_own eC_NoPoint iC_NoPoint tC_NoPoint sC_NoPoint, ⟨i_NoPoint, _, in_NoPoint, ti_NoPoint, okinit_NoPoint I_NoPoint, I_NoPoint.binds fun _ _ _ _ _ _ us hl => match us, hl with | [_], _ => rfl⟩⟩
  let d_law_mixed : Df l.prog w K mg base CX0 1 "_law_mixed" ["cell", "k"] sp_mixed := ⟨f_law_mixed, _, PySem.W.mg_of X G a_law_mixed, k_law_mixed, b_law_mixed, ok_law_mixed F_law_mixed nb⟩
  let d_law_great : Df l.prog w K mg base CX0 1 "_law_great" ["cells", "place"] (sp_great K) := ⟨f_law_great, _, PySem.W.mg_of X G a_law_great, k_law_great, b_law_great, ok_law_great F_law_great nb⟩
  let d_law_stream : Df l.prog w K mg base CX0 2 "_law_stream" ["script"] (sp_stream K) := ⟨f_law_stream, _, PySem.W.mg_of X G a_law_stream, k_law_stream, b_law_stream, ok_law_stream F_law_stream nb d_law_great⟩
  let d_law_take : Df l.prog w K mg base CX0 2 "_law_take" ["stream", "many"] sp_take := ⟨f_law_take, _, PySem.W.mg_of X G a_law_take, k_law_take, b_law_take, ok_law_take F_law_take nb d_law_great d_law_mixed⟩
  let d_law_whole : Df l.prog w K mg base CX0 3 "_law_whole" ["stream"] sp_whole := ⟨f_law_whole, _, PySem.W.mg_of X G a_law_whole, k_law_whole, b_law_whole, ok_law_whole F_law_whole d_law_take⟩
  let d_law_low : Df l.prog w K mg base CX0 1 "_law_low" ["top", "bottom"] sp_low := ⟨f_law_low, _, PySem.W.mg_of X G a_law_low, k_law_low, b_law_low, ok_law_low F_law_low nb⟩
  let d_lowest : Df l.prog w K mg base CX0 1 "lowest" ["top", "bottom"] sp_low := ⟨f_lowest, _, PySem.W.mg_of X G a_lowest, k_lowest, b_lowest, ok_lowest F_lowest mi_gcd⟩
  let d_is_integer : Df l.prog w K mg base CX0 1 "is_integer" ["thing"] sp_isI := ⟨f_is_integer, _, PySem.W.mg_of X G a_is_integer, k_is_integer, b_is_integer, ok_is_integer F_is_integer nb⟩
  let d_law_is_integer : Df l.prog w K mg base CX0 1 "_law_is_integer" ["thing"] sp_isI := ⟨f_law_is_integer, _, PySem.W.mg_of X G a_law_is_integer, k_law_is_integer, b_law_is_integer, ok_law_is_integer F_law_is_integer nb⟩
  let d_law_is_frac : Df l.prog w K mg base CX0 2 "_law_is_frac" ["thing"] sp_isF := ⟨f_law_is_frac, _, PySem.W.mg_of X G a_law_is_frac, k_law_is_frac, b_law_is_frac, ok_law_is_frac F_law_is_frac nb d_law_is_integer d_law_low⟩
  let d_is_tuple_of : Df l.prog w K mg base CX0 1 "is_tuple_of" ["thing", "many"] sp_tupof := ⟨f_is_tuple_of, _, PySem.W.mg_of X G a_is_tuple_of, k_is_tuple_of, b_is_tuple_of, ok_is_tuple_of F_is_tuple_of nb⟩
  let d_is_fraction : Df l.prog w K mg base CX0 2 "is_fraction" ["thing"] sp_isFp := ⟨f_is_fraction, _, PySem.W.mg_of X G a_is_fraction, k_is_fraction, b_is_fraction, ok_is_fraction F_is_fraction nb mi_gcd d_is_tuple_of d_is_integer⟩
  let d_whole_root : Df l.prog w K mg base CX0 1 "whole_root" ["number"] sp_wroot := ⟨f_whole_root, _, PySem.W.mg_of X G a_whole_root, k_whole_root, b_whole_root, ok_whole_root F_whole_root mi_isqrt⟩
  let d_spread : Df l.prog w K mg base CX0 1 "spread" ["point"] sp_spread := ⟨f_spread, _, PySem.W.mg_of X G a_spread, k_spread, b_spread, ok_spread F_spread mi_lcm⟩
  let d_arrow : Df l.prog w K mg base CX0 1 "arrow" ["one", "other"] sp_arrow := ⟨f_arrow, _, PySem.W.mg_of X G a_arrow, k_arrow, b_arrow, ok_arrow F_arrow⟩
  let d_dot : Df l.prog w K mg base CX0 1 "dot" ["one", "other"] sp_dot := ⟨f_dot, _, PySem.W.mg_of X G a_dot, k_dot, b_dot, ok_dot F_dot⟩
  let d_size_of : Df l.prog w K mg base CX0 2 "size_of" ["vector"] sp_size := ⟨f_size_of, _, PySem.W.mg_of X G a_size_of, k_size_of, b_size_of, ok_size_of F_size_of d_dot d_whole_root⟩
  let d_distance : Df l.prog w K mg base CX0 3 "distance" ["one", "other"] sp_dist := ⟨f_distance, _, PySem.W.mg_of X G a_distance, k_distance, b_distance, ok_distance F_distance d_arrow d_size_of d_lowest⟩
  let d_line_through : Df l.prog w K mg base CX0 1 "line_through" ["one", "other"] sp_line := ⟨f_line_through, _, PySem.W.mg_of X G a_line_through, k_line_through, b_line_through, ok_line_through F_line_through⟩
  let d_side_of : Df l.prog w K mg base CX0 1 "side_of" ["line", "spot"] sp_side := ⟨f_side_of, _, PySem.W.mg_of X G a_side_of, k_side_of, b_side_of, ok_side_of F_side_of⟩
  let d_are_fractions : Df l.prog w K mg base CX0 3 "are_fractions" ["things"] sp_areF := ⟨f_are_fractions, _, PySem.W.mg_of X G a_are_fractions, k_are_fractions, b_are_fractions, ok_are_fractions F_are_fractions d_is_fraction⟩
  let d_is_point : Df l.prog w K mg base CX0 4 "is_point" ["thing"] sp_isP := ⟨f_is_point, _, PySem.W.mg_of X G a_is_point, k_is_point, b_is_point, ok_is_point F_is_point d_is_tuple_of d_are_fractions⟩
  let d_length_of : Df l.prog w K mg base (L2.CX l.prog w) 5 "length_of" ["one", "other"] (sp_len C_NoPoint) := ⟨f_length_of, _, PySem.W.mg_of X G a_length_of, k_length_of, b_length_of, ok_length_of F_length_of c_NoPoint d_is_point d_spread d_distance⟩
  have kb_length_of : KB0 K d_length_of.fd ["one", "other"] ["other", "one"] swap2 := ⟨fun s ws hl => match ws, hl with | [_, _], _ => .of_eq rfl, fun r hl => vals_swap2 r hl⟩
  let d_turn_of : Df l.prog w K mg base (L2.CX l.prog w) 5 "turn_of" ["one", "other", "third"] (sp_turn C_NoPoint) := ⟨f_turn_of, _, PySem.W.mg_of X G a_turn_of, k_turn_of, b_turn_of, ok_turn_of F_turn_of c_NoPoint d_is_point d_spread d_line_through d_side_of⟩
  have kb_turn_of : KB0 K d_turn_of.fd ["one", "other", "third"] ["third", "other", "one"] rev3 := ⟨fun s ws hl => match ws, hl with | [_, _, _], _ => .of_eq rfl, fun r hl => vals_rev3 r hl⟩
  let d_law_add : Df l.prog w K mg base CX0 2 "_law_add" ["one", "other"] sp_plus := ⟨f_law_add, _, PySem.W.mg_of X G a_law_add, k_law_add, b_law_add, ok_law_add F_law_add d_law_low⟩
  let d_law_sub : Df l.prog w K mg base CX0 2 "_law_sub" ["one", "other"] sp_minus := ⟨f_law_sub, _, PySem.W.mg_of X G a_law_sub, k_law_sub, b_law_sub, ok_law_sub F_law_sub d_law_low⟩
  let d_law_mul : Df l.prog w K mg base CX0 2 "_law_mul" ["one", "other"] sp_times := ⟨f_law_mul, _, PySem.W.mg_of X G a_law_mul, k_law_mul, b_law_mul, ok_law_mul F_law_mul d_law_low⟩
  let d_law_plus : Df l.prog w K mg base CX0 3 "_law_plus" ["one", "other"] sp_lplus := ⟨f_law_plus, _, PySem.W.mg_of X G a_law_plus, k_law_plus, b_law_plus, ok_law_plus F_law_plus d_law_add⟩
  let d_law_minus : Df l.prog w K mg base CX0 3 "_law_minus" ["one", "other"] sp_lminus := ⟨f_law_minus, _, PySem.W.mg_of X G a_law_minus, k_law_minus, b_law_minus, ok_law_minus F_law_minus d_law_sub⟩
  let d_law_times : Df l.prog w K mg base CX0 3 "_law_times" ["step", "factor"] sp_ltimes := ⟨f_law_times, _, PySem.W.mg_of X G a_law_times, k_law_times, b_law_times, ok_law_times F_law_times d_law_mul⟩
  let d_law_dot : Df l.prog w K mg base CX0 3 "_law_dot" ["one", "other"] sp_ldot := ⟨f_law_dot, _, PySem.W.mg_of X G a_law_dot, k_law_dot, b_law_dot, ok_law_dot F_law_dot d_law_add d_law_mul⟩
  let d_law_root : Df l.prog w K mg base CX0 1 "_law_root" ["number"] sp_lroot := ⟨f_law_root, _, PySem.W.mg_of X G a_law_root, k_law_root, b_law_root, ok_law_root F_law_root nb⟩
  let d_law_size : Df l.prog w K mg base CX0 4 "_law_size" ["step"] sp_lsize := ⟨f_law_size, _, PySem.W.mg_of X G a_law_size, k_law_size, b_law_size, ok_law_size F_law_size d_law_dot d_law_root⟩
  let d_law_ray : Df l.prog w K mg base CX0 2 "_law_ray" ["slope"] sp_lray := ⟨f_law_ray, _, PySem.W.mg_of X G a_law_ray, k_law_ray, b_law_ray, ok_law_ray F_law_ray d_law_low⟩
  let d_law_slope : Df l.prog w K mg base CX0 3 "_law_slope" ["stream", "most"] sp_lslope := ⟨f_law_slope, _, PySem.W.mg_of X G a_law_slope, k_law_slope, b_law_slope, ok_law_slope F_law_slope d_law_take d_law_low⟩
  let d_law_fraction : Df l.prog w K mg base CX0 4 "_law_fraction" ["stream"] sp_lfraction := ⟨f_law_fraction, _, PySem.W.mg_of X G a_law_fraction, k_law_fraction, b_law_fraction, ok_law_fraction F_law_fraction nb d_law_whole d_law_low⟩
  let d_law_tame : Df l.prog w K mg base CX0 3 "_law_tame" ["stream"] sp_ltame := ⟨f_law_tame, _, PySem.W.mg_of X G a_law_tame, k_law_tame, b_law_tame, ok_law_tame F_law_tame d_law_take d_law_low⟩
  let d_law_point : Df l.prog w K mg base CX0 5 "_law_point" ["stream"] sp_lpoint := ⟨f_law_point, _, PySem.W.mg_of X G a_law_point, k_law_point, b_law_point, ok_law_point F_law_point d_law_take d_law_fraction d_law_tame⟩
  let d_law_is_point : Df l.prog w K mg base CX0 3 "_law_is_point" ["thing"] sp_lisP := ⟨f_law_is_point, _, PySem.W.mg_of X G a_law_is_point, k_law_is_point, b_law_is_point, ok_law_is_point F_law_is_point nb d_law_is_frac⟩
  let d_law_no_point : Df l.prog w K mg base CX0 3 "_law_no_point" ["stream"] sp_nopoint := ⟨f_law_no_point, _, PySem.W.mg_of X G a_law_no_point, k_law_no_point, b_law_no_point, ok_law_no_point F_law_no_point nb d_law_take⟩
  let d_law_flat : Df l.prog w K mg base CX0 1 "_law_flat" ["point"] sp_flat := ⟨f_law_flat, _, PySem.W.mg_of X G a_law_flat, k_law_flat, b_law_flat, ok_law_flat F_law_flat⟩
  let d_law_side : Df l.prog w K mg base CX0 2 "_law_side" ["one", "other", "third"] sp_lside := ⟨f_law_side, _, PySem.W.mg_of X G a_law_side, k_law_side, b_law_side, ok_law_side F_law_side nb d_law_flat⟩
  let d_law_triple : Df l.prog w K mg base CX0 6 "_law_triple" ["stream"] sp_triple := ⟨f_law_triple, _, PySem.W.mg_of X G a_law_triple, k_law_triple, b_law_triple, ok_law_triple F_law_triple nb d_law_take d_law_point d_law_tame d_law_low d_law_plus d_law_minus d_law_times d_law_ray d_law_slope d_law_no_point⟩
  let d_law_length : Df l.prog w K mg base (L2.CX l.prog w) 6 "_law_length" ["one", "other", "by_name"] (sp_llen C_NoPoint) := ⟨f_law_length, _, PySem.W.mg_of X G a_law_length, k_law_length, b_law_length, ok_law_length F_law_length d_length_of kb_length_of⟩
  let d_law_length_asked : Df l.prog w K mg base CX0 8 "_law_length_asked" ["one", "other", "by_name"] sp_lasked := ⟨f_law_length_asked, _, PySem.W.mg_of X G a_law_length_asked, k_law_length_asked, b_law_length_asked, ok_law_length_asked F_law_length_asked c_NoPoint d_law_length d_length_of d_law_is_point d_law_size d_law_minus d_law_is_frac⟩
  let d_law_turn_asked : Df l.prog w K mg base CX0 7 "_law_turn_asked" ["points", "by_name"] sp_tasked := ⟨f_law_turn_asked, _, PySem.W.mg_of X G a_law_turn_asked, k_law_turn_asked, b_law_turn_asked, ok_law_turn_asked F_law_turn_asked c_NoPoint d_turn_of kb_turn_of d_law_is_point d_law_is_integer d_law_side⟩
  exact ok_law F_law nb d_law_stream d_law_take d_law_triple d_law_turn_asked d_law_length_asked
end Fc
open PySem PySem.W PyProof.Rows
set_option maxRecDepth 100000 in
set_option maxHeartbeats 0 in
theorem PySem.Challenge.cw_fourcreases_k05_lengths_and_turns_holds : PySem.Challenge.rw_fourcreases_k05_lengths_and_turns.Holds := by
  w_on; o_law; k_head; (case hw => w_witness2)
  k_fill
  refine L2.walk_of (l := PySem.Challenge.rw_fourcreases_k05_lengths_and_turns) (n := 63) (k := 9) (x := "script") (CX := fun _ => L2.CX0) (sp := fun w => Fc.sp_law _) rfl (by decide) rfl ⟨rfl, by decide, by decide⟩ (fun w h Y => PySem.W.kIn_of Y) ?F (fun _ _ a ns hl _ hS => ⟨a, ns, rfl, hS, hl, fun _ => rfl⟩) (fun _ _ _ _ _ h => h)
  case F =>
    intro w mg fa h KX G hmg
    refine' Fc.all_mk KX G hmg ?a_law_mixed ?l_law_mixed ?c_law_mixed ?k_law_mixed ?a_law_great ?l_law_great ?c_law_great ?k_law_great ?a_law_stream ?l_law_stream ?c_law_stream ?k_law_stream ?a_law_take ?l_law_take ?c_law_take ?k_law_take ?a_law_whole ?l_law_whole ?c_law_whole ?k_law_whole ?a_law_low ?l_law_low ?c_law_low ?k_law_low ?a_lowest ?l_lowest ?c_lowest ?k_lowest ?a_is_integer ?l_is_integer ?c_is_integer ?k_is_integer ?a_law_is_integer ?l_law_is_integer ?c_law_is_integer ?k_law_is_integer ?a_law_is_frac ?l_law_is_frac ?c_law_is_frac ?k_law_is_frac ?a_is_tuple_of ?l_is_tuple_of ?c_is_tuple_of ?k_is_tuple_of ?a_is_fraction ?l_is_fraction ?c_is_fraction ?k_is_fraction ?a_whole_root ?l_whole_root ?c_whole_root ?k_whole_root ?a_spread ?l_spread ?c_spread ?k_spread ?a_arrow ?l_arrow ?c_arrow ?k_arrow ?a_dot ?l_dot ?c_dot ?k_dot ?a_size_of ?l_size_of ?c_size_of ?k_size_of ?a_distance ?l_distance ?c_distance ?k_distance ?a_line_through ?l_line_through ?c_line_through ?k_line_through ?a_side_of ?l_side_of ?c_side_of ?k_side_of ?a_are_fractions ?l_are_fractions ?c_are_fractions ?k_are_fractions ?a_is_point ?l_is_point ?c_is_point ?k_is_point ?a_length_of ?l_length_of ?c_length_of ?k_length_of ?a_turn_of ?l_turn_of ?c_turn_of ?k_turn_of ?a_law_add ?l_law_add ?c_law_add ?k_law_add ?a_law_sub ?l_law_sub ?c_law_sub ?k_law_sub ?a_law_mul ?l_law_mul ?c_law_mul ?k_law_mul ?a_law_plus ?l_law_plus ?c_law_plus ?k_law_plus ?a_law_minus ?l_law_minus ?c_law_minus ?k_law_minus ?a_law_times ?l_law_times ?c_law_times ?k_law_times ?a_law_dot ?l_law_dot ?c_law_dot ?k_law_dot ?a_law_root ?l_law_root ?c_law_root ?k_law_root ?a_law_size ?l_law_size ?c_law_size ?k_law_size ?a_law_ray ?l_law_ray ?c_law_ray ?k_law_ray ?a_law_slope ?l_law_slope ?c_law_slope ?k_law_slope ?a_law_fraction ?l_law_fraction ?c_law_fraction ?k_law_fraction ?a_law_tame ?l_law_tame ?c_law_tame ?k_law_tame ?a_law_point ?l_law_point ?c_law_point ?k_law_point ?a_law_is_point ?l_law_is_point ?c_law_is_point ?k_law_is_point ?a_law_no_point ?l_law_no_point ?c_law_no_point ?k_law_no_point ?a_law_flat ?l_law_flat ?c_law_flat ?k_law_flat ?a_law_side ?l_law_side ?c_law_side ?k_law_side ?a_law_triple ?l_law_triple ?c_law_triple ?k_law_triple ?a_law_length ?l_law_length ?c_law_length ?k_law_length ?a_law_length_asked ?l_law_length_asked ?c_law_length_asked ?k_law_length_asked ?a_law_turn_asked ?l_law_turn_asked ?c_law_turn_asked ?k_law_turn_asked ?a_law ?l_law ?c_law ?k_law ?aC_NoPoint ?xL_NoPoint ?sa_NoPoint ?in_NoPoint ?ti_NoPoint ?li_NoPoint ?ci_NoPoint ?ki_NoPoint ?kC_NoPoint ?eC_NoPoint ?tC_NoPoint ?iC_NoPoint ?sC_NoPoint ?z_int ?z_bool ?z_tuple ?z_list ?z_len ?z_abs ?z_min ?z_max ?z_range ?z_isinstance ?y_gcd ?y_isqrt ?y_lcm
    (case a_law_mixed => first | k_is | rfl)
    (case l_law_mixed => first | k_is | rfl)
    (case c_law_mixed => first | k_is | rfl)
    (case k_law_mixed => first | k_is | rfl)
    (case a_law_great => first | k_is | rfl)
    (case l_law_great => first | k_is | rfl)
    (case c_law_great => first | k_is | rfl)
    (case k_law_great => first | k_is | rfl)
    (case a_law_stream => first | k_is | rfl)
    (case l_law_stream => first | k_is | rfl)
    (case c_law_stream => first | k_is | rfl)
    (case k_law_stream => first | k_is | rfl)
    (case a_law_take => first | k_is | rfl)
    (case l_law_take => first | k_is | rfl)
    (case c_law_take => first | k_is | rfl)
    (case k_law_take => first | k_is | rfl)
    (case a_law_whole => first | k_is | rfl)
    (case l_law_whole => first | k_is | rfl)
    (case c_law_whole => first | k_is | rfl)
    (case k_law_whole => first | k_is | rfl)
    (case a_law_low => first | k_is | rfl)
    (case l_law_low => first | k_is | rfl)
    (case c_law_low => first | k_is | rfl)
    (case k_law_low => first | k_is | rfl)
    (case a_lowest => first | k_is | rfl)
    (case l_lowest => first | k_is | rfl)
    (case c_lowest => first | k_is | rfl)
    (case k_lowest => first | k_is | rfl)
    (case a_is_integer => first | k_is | rfl)
    (case l_is_integer => first | k_is | rfl)
    (case c_is_integer => first | k_is | rfl)
    (case k_is_integer => first | k_is | rfl)
    (case a_law_is_integer => first | k_is | rfl)
    (case l_law_is_integer => first | k_is | rfl)
    (case c_law_is_integer => first | k_is | rfl)
    (case k_law_is_integer => first | k_is | rfl)
    (case a_law_is_frac => first | k_is | rfl)
    (case l_law_is_frac => first | k_is | rfl)
    (case c_law_is_frac => first | k_is | rfl)
    (case k_law_is_frac => first | k_is | rfl)
    (case a_is_tuple_of => first | k_is | rfl)
    (case l_is_tuple_of => first | k_is | rfl)
    (case c_is_tuple_of => first | k_is | rfl)
    (case k_is_tuple_of => first | k_is | rfl)
    (case a_is_fraction => first | k_is | rfl)
    (case l_is_fraction => first | k_is | rfl)
    (case c_is_fraction => first | k_is | rfl)
    (case k_is_fraction => first | k_is | rfl)
    (case a_whole_root => first | k_is | rfl)
    (case l_whole_root => first | k_is | rfl)
    (case c_whole_root => first | k_is | rfl)
    (case k_whole_root => first | k_is | rfl)
    (case a_spread => first | k_is | rfl)
    (case l_spread => first | k_is | rfl)
    (case c_spread => first | k_is | rfl)
    (case k_spread => first | k_is | rfl)
    (case a_arrow => first | k_is | rfl)
    (case l_arrow => first | k_is | rfl)
    (case c_arrow => first | k_is | rfl)
    (case k_arrow => first | k_is | rfl)
    (case a_dot => first | k_is | rfl)
    (case l_dot => first | k_is | rfl)
    (case c_dot => first | k_is | rfl)
    (case k_dot => first | k_is | rfl)
    (case a_size_of => first | k_is | rfl)
    (case l_size_of => first | k_is | rfl)
    (case c_size_of => first | k_is | rfl)
    (case k_size_of => first | k_is | rfl)
    (case a_distance => first | k_is | rfl)
    (case l_distance => first | k_is | rfl)
    (case c_distance => first | k_is | rfl)
    (case k_distance => first | k_is | rfl)
    (case a_line_through => first | k_is | rfl)
    (case l_line_through => first | k_is | rfl)
    (case c_line_through => first | k_is | rfl)
    (case k_line_through => first | k_is | rfl)
    (case a_side_of => first | k_is | rfl)
    (case l_side_of => first | k_is | rfl)
    (case c_side_of => first | k_is | rfl)
    (case k_side_of => first | k_is | rfl)
    (case a_are_fractions => first | k_is | rfl)
    (case l_are_fractions => first | k_is | rfl)
    (case c_are_fractions => first | k_is | rfl)
    (case k_are_fractions => first | k_is | rfl)
    (case a_is_point => first | k_is | rfl)
    (case l_is_point => first | k_is | rfl)
    (case c_is_point => first | k_is | rfl)
    (case k_is_point => first | k_is | rfl)
    (case a_length_of => first | k_is | rfl)
    (case l_length_of => first | k_is | rfl)
    (case c_length_of => first | k_is | rfl)
    (case k_length_of => first | k_is | rfl)
    (case a_turn_of => first | k_is | rfl)
    (case l_turn_of => first | k_is | rfl)
    (case c_turn_of => first | k_is | rfl)
    (case k_turn_of => first | k_is | rfl)
    (case a_law_add => first | k_is | rfl)
    (case l_law_add => first | k_is | rfl)
    (case c_law_add => first | k_is | rfl)
    (case k_law_add => first | k_is | rfl)
    (case a_law_sub => first | k_is | rfl)
    (case l_law_sub => first | k_is | rfl)
    (case c_law_sub => first | k_is | rfl)
    (case k_law_sub => first | k_is | rfl)
    (case a_law_mul => first | k_is | rfl)
    (case l_law_mul => first | k_is | rfl)
    (case c_law_mul => first | k_is | rfl)
    (case k_law_mul => first | k_is | rfl)
    (case a_law_plus => first | k_is | rfl)
    (case l_law_plus => first | k_is | rfl)
    (case c_law_plus => first | k_is | rfl)
    (case k_law_plus => first | k_is | rfl)
    (case a_law_minus => first | k_is | rfl)
    (case l_law_minus => first | k_is | rfl)
    (case c_law_minus => first | k_is | rfl)
    (case k_law_minus => first | k_is | rfl)
    (case a_law_times => first | k_is | rfl)
    (case l_law_times => first | k_is | rfl)
    (case c_law_times => first | k_is | rfl)
    (case k_law_times => first | k_is | rfl)
    (case a_law_dot => first | k_is | rfl)
    (case l_law_dot => first | k_is | rfl)
    (case c_law_dot => first | k_is | rfl)
    (case k_law_dot => first | k_is | rfl)
    (case a_law_root => first | k_is | rfl)
    (case l_law_root => first | k_is | rfl)
    (case c_law_root => first | k_is | rfl)
    (case k_law_root => first | k_is | rfl)
    (case a_law_size => first | k_is | rfl)
    (case l_law_size => first | k_is | rfl)
    (case c_law_size => first | k_is | rfl)
    (case k_law_size => first | k_is | rfl)
    (case a_law_ray => first | k_is | rfl)
    (case l_law_ray => first | k_is | rfl)
    (case c_law_ray => first | k_is | rfl)
    (case k_law_ray => first | k_is | rfl)
    (case a_law_slope => first | k_is | rfl)
    (case l_law_slope => first | k_is | rfl)
    (case c_law_slope => first | k_is | rfl)
    (case k_law_slope => first | k_is | rfl)
    (case a_law_fraction => first | k_is | rfl)
    (case l_law_fraction => first | k_is | rfl)
    (case c_law_fraction => first | k_is | rfl)
    (case k_law_fraction => first | k_is | rfl)
    (case a_law_tame => first | k_is | rfl)
    (case l_law_tame => first | k_is | rfl)
    (case c_law_tame => first | k_is | rfl)
    (case k_law_tame => first | k_is | rfl)
    (case a_law_point => first | k_is | rfl)
    (case l_law_point => first | k_is | rfl)
    (case c_law_point => first | k_is | rfl)
    (case k_law_point => first | k_is | rfl)
    (case a_law_is_point => first | k_is | rfl)
    (case l_law_is_point => first | k_is | rfl)
    (case c_law_is_point => first | k_is | rfl)
    (case k_law_is_point => first | k_is | rfl)
    (case a_law_no_point => first | k_is | rfl)
    (case l_law_no_point => first | k_is | rfl)
    (case c_law_no_point => first | k_is | rfl)
    (case k_law_no_point => first | k_is | rfl)
    (case a_law_flat => first | k_is | rfl)
    (case l_law_flat => first | k_is | rfl)
    (case c_law_flat => first | k_is | rfl)
    (case k_law_flat => first | k_is | rfl)
    (case a_law_side => first | k_is | rfl)
    (case l_law_side => first | k_is | rfl)
    (case c_law_side => first | k_is | rfl)
    (case k_law_side => first | k_is | rfl)
    (case a_law_triple => first | k_is | rfl)
    (case l_law_triple => first | k_is | rfl)
    (case c_law_triple => first | k_is | rfl)
    (case k_law_triple => first | k_is | rfl)
    (case a_law_length => first | k_is | rfl)
    (case l_law_length => first | k_is | rfl)
    (case c_law_length => first | k_is | rfl)
    (case k_law_length => first | k_is | rfl)
    (case a_law_length_asked => first | k_is | rfl)
    (case l_law_length_asked => first | k_is | rfl)
    (case c_law_length_asked => first | k_is | rfl)
    (case k_law_length_asked => first | k_is | rfl)
    (case a_law_turn_asked => first | k_is | rfl)
    (case l_law_turn_asked => first | k_is | rfl)
    (case c_law_turn_asked => first | k_is | rfl)
    (case k_law_turn_asked => first | k_is | rfl)
    (case a_law => first | k_is | rfl)
    (case l_law => first | k_is | rfl)
    (case c_law => first | k_is | rfl)
    (case k_law => first | k_is | rfl)
    (case aC_NoPoint => first | k_is | rfl)
    (case xL_NoPoint => first | k_is | rfl)
    (case sa_NoPoint => first | k_is | rfl)
    (case in_NoPoint => first | k_is | rfl)
    (case ti_NoPoint => first | k_is | rfl)
    (case li_NoPoint => first | k_is | rfl)
    (case ci_NoPoint => first | k_is | rfl)
    (case ki_NoPoint => first | k_is | rfl)
    (case kC_NoPoint => first | k_is | rfl)
    (case eC_NoPoint => first | k_is | rfl)
    (case tC_NoPoint => first | k_is | rfl)
    (case iC_NoPoint => first | k_is | rfl)
    (case sC_NoPoint => first | k_is | rfl)
    (case z_int => first | k_is | rfl)
    (case z_bool => first | k_is | rfl)
    (case z_tuple => first | k_is | rfl)
    (case z_list => first | k_is | rfl)
    (case z_len => first | k_is | rfl)
    (case z_abs => first | k_is | rfl)
    (case z_min => first | k_is | rfl)
    (case z_max => first | k_is | rfl)
    (case z_range => first | k_is | rfl)
    (case z_isinstance => first | k_is | rfl)
    (case y_gcd => first | k_is | rfl)
    (case y_isqrt => first | k_is | rfl)
    (case y_lcm => first | k_is | rfl)
