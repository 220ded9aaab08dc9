import PyProof.Rows.All
import Wide.All
import OpenK.AllK
import Wide.FinOn
import PySem.Challenge.RW_fourcreases_k00_errors_and_their_fields
import HandS.ForMost
import HandS.ForExc
import HandS.WordsExc
import HandS.TryOnly
import HandS.IsInst
import HandS.Wide
import HandS.WideBits
import HandS.Gcd
import HandS.ExcInit
import HandS.Evl
import HandS.HotCalls
import HandS.ExcField
import KE.KExcIs
import HandS.Head2
import HandS.HeadHook2
import HandS.HeadEnd
import HandS.HeadWalk
set_option Elab.async false
set_option linter.all false
set_option maxRecDepth 100000
set_option maxHeartbeats 4000000
namespace Fc
open PySem PySem.Spec PyProof.Rows L2
section
variable {X : Cx}
theorem op_fdivG : OpR X (binaryOp .FloorDiv) (rI (fun _ j => j ≠ 0 ∧ j.natAbs.log2 < 9000) fun i j => .int (i.fdiv j)) :=
  opI fun _ _ _ _ _ _ _ hc q => PyProof.Rows.floordiv_int hc.1 q (.inl (PyProof.noPylong_of_log2 hc.2))

/-- the empty __init__ of an error -/
def spPass : Sp := fun vs H Q _ => (∃ v, vs = [v]) ∧ Q .non H
variable {C fI : Addr} {x : Str} {p pos : Pos} {k : Nat} {fd : FuncData}
/-- what is known of an error's class whose __init__ has no arguments and does nothing -/
structure Ex0 (P : Program) (w : World) (K : PySem.W.Frag) (mg : Str → Option Value) (base : Heap) (x : Str) (C : Addr) : Prop where
  T : OexC K C
  gC : mg x = some (.ref C)
  te : PySem.W.exmOne K (.ref C) (.ref C) = some true
  ini : ∃ fI fd, PySem.W.findIn K (.ref C) "__init__" = some (some (.ref fI)) ∧ PySem.W.typeIn K (.ref fI) = some (.type "function") ∧
    FnOk P w K mg base CX0 1 fI fd ["self"] spPass ∧ Binds K fd ["self"] []
theorem pmk0 (Z : Ex0 X.prog X.w X.K X.mg X.base x C) (hr : Room 2 X.A) (hg : Gl X x) (hdb : (x == ("__debug__" : Str)) = false := by decide) :
    PMk X (.Call (.Name x p) [] [] pos) (fun _ H Q => Q (.ref C) none H) := by
  intro pins s σ H Q I h
  obtain ⟨fI, fd, iC, tI, F1, hb⟩ := Z.ini
  obtain ⟨nm, q, N, bs, bm, sn, sub, ab, col, dd, k0, k1, k2, k3, k5, hC, hbm⟩ := Z.T.cls
  refine wpAny_Call_Name_kw (ld_glob I hg Z.gC ?_ hdb)
  refine PySem.W.callWith_K0 I.kIn Z.T.kC ?_
  obtain ⟨hp, g, dr, tk, os⟩ := s
  have hsz : hp.objs.size ≤ hp.objs.size + 1 := Nat.le_succ _
  have hn : H (hp.objs.size + 1) = none := I.hok.fresh hsz
  let hp2 := (hp.push (PySem.W.kdv_tup [])).push (PySem.HandSPX.excO C hp.objs.size)
  have kk : ∀ b o, hp.get? b = some o → hp2.get? b = some o := fun b o e => Heap.get?_push_of_some _ (Heap.get?_push_of_some _ e)
  have hget : hp2.get? (hp.objs.size + 1) = some (PySem.HandSPX.excO C hp.objs.size) := by
    show ((hp.push (PySem.W.kdv_tup [])).push (PySem.HandSPX.excO C hp.objs.size)).get? (hp.objs.size + 1) = _
    heap_get
  have I2 : Inv X pins σ H ⟨hp2, g, dr, tk, os⟩ := I.kept (t' := tk) kk
  have r2 : Vals [V.ref (hp.objs.size + 1)] [Value.ref (hp.objs.size + 1)] := .cons rfl .nil
  refine wpAny_call (PySem.HandSPX.call_own F.excBase_ValueError (fun Y => PySem.HandSPX.refsVE_contains Y bm hbm) (I.kIn _ _ hC) (PySem.W.looks_findIn I.kIn iC) (fun self => PySem.W.bind_fn I.kIn self tI) (Nat.zero_le _)
    (codeAny_mono (F1.run _ X.stack _ _ ⟨[Value.ref (hp.objs.size + 1)], []⟩ [Value.ref (hp.objs.size + 1)] _ (fun v H2 => v = .non ∧ H2 = H) (fun _ _ _ => False) ((hr.make C [] []).mono (by decide)) (I2.env0.make C [] []) (hb _ [Value.ref (hp.objs.size + 1)] I2.kIn rfl) r2 ⟨⟨_, rfl⟩, rfl, rfl⟩) fun r s' hq' => ?_))
  cases r with
  | error er => exact False.elim hq'
  | ok fl =>
    cases fl with
    | next => exact False.elim hq'
    | brk => exact False.elim hq'
    | cont => exact False.elim hq'
    | ret u =>
      obtain ⟨v, H2, os2, bare2, un2, hok2, rv, ev, eH⟩ := hq'
      subst ev eH
      obtain ⟨h2, g2, d2, t2, os'⟩ := s'
      obtain rfl : os' = os := os2
      have nh : ∀ {b : Addr} {o : Obj}, hp.get? b = some o → b ≠ hp.objs.size + 1 := fun {b o} z => Nat.ne_of_lt (Nat.lt_of_lt_of_le (Heap.lt_size z) hsz)
      obtain ⟨sl, he⟩ := un2.any hget hn (by simp)
      obtain ⟨G', g1, g2'⟩ := restrict h2 fun b => decide (b ≠ hp.objs.size + 1)
      have gk : ∀ b, b ≠ hp.objs.size + 1 → G'.get? b = h2.get? b := fun b hb => g1 b (decide_eq_true hb)
      have ge : G'.get? (hp.objs.size + 1) = none := g2' _ (by simp)
      have U : Un (frs X.stack) [] H2 H2 hp G' := {
        keep := fun b o z n hf hx => (gk b (nh z)).trans (un2.keep b o (kk b o z) n hf hx)
        slot := fun b o z n hf hx => by
          rw [gk b (nh z)]
          exact un2.slot b o (kk b o z) n hf hx
        free := fun b o z n hx => n
        there := fun b o z hx => by
          rw [gk b (nh z)]
          exact un2.there b o (kk b o z) hx
        tups := fun b xs z => z
        frzs := fun b o v z => z
        tbls := fun b ps z => un2.tbls b ps z }
      have hok3 : HOk X.prog X.w H2 G' := fun b o z => by
        have ne : ∀ c u, H2 c = some u → c ≠ hp.objs.size + 1 := fun c u e => ne_of_none e hn
        refine (hok2 b o z).stay (fun c v hc y => ?_) (fun c hc => hc) (fun c xs hc => hc)
        rcases hc with rfl | hc
        · rw [gk _ (ne _ _ z)]
          exact y
        · rw [gk _ (ne _ _ hc)]
          exact y
      have J : L2.Inv X pins σ H2 ⟨G', g2, d2, t2, os'⟩ := I.call' (ch := []) rfl U hok3 bare2 (fun b z => absurd z (by simp))
      refine ⟨rv, hp.objs.size + 1, _, _, ⟨G', g2, d2, t2, os'⟩, H2, .ref C, none, rfl, J, fun b o z => ?_, ge, he, ⟨rfl, rfl⟩, rfl, rfl, hn, rfl, bare2, raises_own Z.T.exC Z.T.tyC, h⟩
      by_cases hb : b = hp.objs.size + 1
      · have z' : G'.get? b = some o := z
        rw [hb, ge] at z'
        cases z'
      · exact (gk b hb).symm.trans z

end
/-! ### a def as its callers know it -/
structure Df (P : Program) (w : World) (K : PySem.W.Frag) (mg : Str → Option Value) (base : Heap) (CX : CXT) (k : Nat) (x : Str) (ps : List Str) (sp : Sp) where
  f : Addr
  fd : FuncData
  g : mg x = some (.ref f)
  kp : PySem.W.keepIn K (.ref f) = true
  b : Binds K fd ps []
  F : FnOk P w K mg base CX k f fd ps sp
/-- the built-in names that the text leaves alone -/
structure Nb (mg : Str → Option Value) : Prop where
  int : mg "int" = none
  bool : mg "bool" = none
  tuple : mg "tuple" = none
  list : mg "list" = none
  len : mg "len" = none
  abs : mg "abs" = none
  min : mg "min" = none
  max : mg "max" = none
  range : mg "range" = none
  isinstance : mg "isinstance" = none
/-! ### readings by name -/
def rAbs : List V → Hp → VK → Prop := fun xs H Q => ∃ i, xs = [.int i] ∧ Q (.int (if i < 0 then -i else i)) H
def rInt1 : List V → Hp → VK → Prop := fun xs H Q => (∃ i, xs = [.int i] ∧ Q (.int i) H) ∨ ∃ k, xs = [.bl k] ∧ Q (.int (if k then 1 else 0)) H
def rLenQ (K : PySem.W.Frag) : List V → Hp → VK → Prop := fun xs H Q => ∃ p ys, xs = [.ref p] ∧ (SqL K H p ys ∨ SqT K H p ys) ∧ Q (.int ys.length) H
def rListOf (K : PySem.W.Frag) : List V → Hp → VK → Prop := fun xs H Q => ∃ p ys, xs = [.ref p] ∧ (SqL K H p ys ∨ SqT K H p ys) ∧ ∀ l, H l = none → Q (.ref l) (upd H l (.lst ys))
def rMin2 : List V → Hp → VK → Prop := fun xs H Q => ∃ i j, xs = [.int i, .int j] ∧ Q (.int (if j < i then j else i)) H
def rMax2 : List V → Hp → VK → Prop := fun xs H Q => ∃ i j, xs = [.int i, .int j] ∧ Q (.int (if i < j then j else i)) H
def rIsN : R2 := fun x y H Q => y = .non ∧ Q (.bl (decide (x = .non))) H
def rNotN : R2 := fun x y H Q => y = .non ∧ Q (.bl (!decide (x = .non))) H
section
variable {X : Cx}
theorem cq_abs : CallR X (.builtin "abs") rAbs := call_abs
theorem cq_int : CallR X (.type "int") rInt1 := call_int1
theorem cq_len : CallR X (.builtin "len") (rLenQ X.K) := call_len_seq
theorem cq_list : CallR X (.type "list") (rListOf X.K) := call_list_of
theorem cq_min (hc : X.calm = true) : CallR X (.builtin "min") rMin2 := call_min2 hc
theorem cq_max (hc : X.calm = true) : CallR X (.builtin "max") rMax2 := call_max2 hc
theorem oq_isN : OpR X (compareOp .Is) rIsN := op_isN
theorem oq_notN : OpR X (compareOp .IsNot) rNotN := op_notN
end
theorem notT : (!true) = false := rfl
theorem notF : (!false) = true := rfl
/-! ### comparisons, shut -/
@[irreducible] def ltB (i j : Int) : Bool := decide (i < j)
@[irreducible] def leB (i j : Int) : Bool := decide (i ≤ j)
@[irreducible] def eqB (i j : Int) : Bool := decide (i = j)
theorem ltB_def {i j : Int} : ltB i j = decide (i < j) := by unfold ltB; rfl
theorem leB_def {i j : Int} : leB i j = decide (i ≤ j) := by unfold leB; rfl
theorem eqB_def {i j : Int} : eqB i j = decide (i = j) := by unfold eqB; rfl
/-- what a flag says -/
class BP (b : Bool) (p : outParam Prop) : Prop where
  iff : b = true ↔ p
instance {i j : Int} : BP (ltB i j) (i < j) := ⟨by rw [ltB_def]; exact decide_eq_true_iff⟩
instance {i j : Int} : BP (leB i j) (i ≤ j) := ⟨by rw [leB_def]; exact decide_eq_true_iff⟩
instance {i j : Int} : BP (eqB i j) (i = j) := ⟨by rw [eqB_def]; exact decide_eq_true_iff⟩
instance {p : Prop} [Decidable p] : BP (decide p) p := ⟨decide_eq_true_iff⟩
instance {b c : Bool} {p q : Prop} [h : BP b p] [k : BP c q] : BP (b && c) (p ∧ q) := ⟨by rw [Bool.and_eq_true, h.iff, k.iff]⟩
instance {b c : Bool} {p q : Prop} [h : BP b p] [k : BP c q] : BP (b || c) (p ∨ q) := ⟨by rw [Bool.or_eq_true, h.iff, k.iff]⟩
instance {b : Bool} {p : Prop} [h : BP b p] : BP (!b) (¬ p) := ⟨by rw [← h.iff, Bool.not_eq_true']; cases b <;> simp⟩
theorem bp_t {b : Bool} {p : Prop} [k : BP b p] (h : p) : b = true := k.iff.mpr h
theorem bp_f {b : Bool} {p : Prop} [k : BP b p] (h : ¬ p) : b = false := by
  cases e : b with
  | false => rfl
  | true => exact absurd (k.iff.mp e) h
theorem eqT {i j : Int} (h : i = j) : eqB i j = true := bp_t h
theorem eqF {i j : Int} (h : i ≠ j) : eqB i j = false := bp_f h
theorem eqB_t {i j : Int} (h : eqB i j = true) : i = j := by rw [eqB_def] at h; exact of_decide_eq_true h
theorem eqB_f {i j : Int} (h : eqB i j = false) : i ≠ j := by rw [eqB_def] at h; exact of_decide_eq_false h
theorem ltT {i j : Int} (h : i < j) : ltB i j = true := bp_t h
theorem ltF {i j : Int} (h : ¬ i < j) : ltB i j = false := bp_f h
/-! ### steps of a reading -/
section
variable {K : PySem.W.Frag} {D : Ends} {σ : L2.St} {H : Hp} {Q : VK} {v : V} {te ta tb : TE} {t u : TS} {g : TG}
theorem w_seq (h : t { D with nx := u D } σ H) : tSeq t u D σ H := h
theorem w_next (h : D.nx σ H) : tNext D σ H := h
theorem w_asg (h : te σ H fun x H1 => g x σ H1 D.nx) : tAsg te g D σ H := h
theorem w_drop (h : te σ H fun _ H1 => D.nx σ H1) : tDrop te D σ H := h
theorem w_ret (h : te σ H D.rt) : tRet te D σ H := h
theorem w_retN (h : D.rt .non H) : tRetN D σ H := h
theorem w_brk (h : D.bk σ H) : tBreak D σ H := h
theorem w_cont (h : D.ct σ H) : tCont D σ H := h
theorem w_c (h : Q v H) : tC v σ H Q := h
theorem w_op {r : R2} (h : ta σ H fun x H1 => tb σ H1 fun y H2 => r x y H2 Q) : tOp r ta tb σ H Q := h
theorem w_un {r : V → Hp → VK → Prop} (h : ta σ H fun x H1 => r x H1 Q) : tUn r ta σ H Q := h
theorem w_cb {r : List V → Hp → VK → Prop} {tt : TA} (h : tt σ H fun vs H1 => r vs H1 Q) : tCB r tt σ H Q := h
theorem w_nil {Q : List V → Hp → Prop} (h : Q [] H) : tNil σ H Q := h
theorem w_cons {Q : List V → Hp → Prop} {tr : TA} (h : ta σ H fun x H1 => tr σ H1 fun xs H2 => Q (x :: xs) H2) : tCons ta tr σ H Q := h
theorem w_call {sp : Sp} {dvs : List V} {E : XK} {tt : TA} (h : tt σ H fun vs H1 => sp (vs ++ dvs) H1 Q E) : tCall sp dvs E tt σ H Q := h
theorem w_tup {tt : TA} (h : tt σ H fun xs H1 => xs.length ≤ sizeLine ∧ ∀ p, H1 p = none → Q (.ref p) (upd H1 p (.tup xs))) : tTup tt σ H Q := h
theorem w_lst {tt : TA} (h : tt σ H fun xs H1 => xs.length ≤ sizeLine ∧ ∀ p, H1 p = none → Q (.ref p) (upd H1 p (.lst xs))) : tLst tt σ H Q := h
theorem w_new {xs : List V} {F : Addr → Prop} (h : ∀ p, H p = none → F p) (hl : xs.length.ble 1000 = true := by rfl) : xs.length ≤ sizeLine ∧ ∀ p, H p = none → F p := ⟨Nat.le_of_lt (small1000 (Nat.le_of_ble_eq_true hl)), h⟩
theorem w_ifs {c : TT} (h : c σ H fun b H1 => if b = true then t D σ H1 else u D σ H1) : tIfS c t u D σ H := h
theorem w_ife {c : TT} (h : c σ H fun b H1 => if b = true then ta σ H1 Q else tb σ H1 Q) : tIf c ta tb σ H Q := h
theorem w_test {Q : Bool → Hp → Prop} (h : te σ H fun x H1 => ∃ k, x = .bl k ∧ Q k H1) : tTest te σ H Q := h
theorem w_tB {Q : Bool → Hp → Prop} (h : te σ H fun x H1 => ∃ k, x = .bl k ∧ Q k H1) : tB te σ H Q := h
theorem w_bl {b : Bool} {F : Bool → Prop} (h : F b) : ∃ k, V.bl b = .bl k ∧ F k := ⟨b, rfl, h⟩
theorem w_and {c d : TT} {Q : Bool → Hp → Prop} (h : c σ H fun b H1 => if b = true then d σ H1 Q else Q false H1) : tAnd c d σ H Q := h
theorem w_or {c d : TT} {Q : Bool → Hp → Prop} (h : c σ H fun b H1 => if b = true then Q true H1 else d σ H1 Q) : tOr c d σ H Q := h
theorem w_not {c : TT} {Q : Bool → Hp → Prop} (h : c σ H fun b H1 => Q (!b) H1) : tNot c σ H Q := h
theorem w_andV (h : ta σ H fun x H1 => ∃ c, x = .bl c ∧ if c = true then tb σ H1 Q else Q (.bl false) H1) : tAndV ta tb σ H Q := h
theorem w_orV (h : ta σ H fun x H1 => ∃ c, x = .bl c ∧ if c = true then Q (.bl true) H1 else tb σ H1 Q) : tOrV ta tb σ H Q := h
theorem w_notV (h : ta σ H fun x H1 => ∃ c, x = .bl c ∧ Q (.bl (!c)) H1) : tNotV ta σ H Q := h
theorem w_I0 {gg : Int → Int → V} {i j : Int} (h : Q (gg i j) H) : rI0 gg (.int i) (.int j) H Q := ⟨i, j, rfl, rfl, h⟩
theorem w_I {C : Int → Int → Prop} {gg : Int → Int → V} {i j : Int} (hc : C i j) (h : Q (gg i j) H) : rI C gg (.int i) (.int j) H Q := ⟨i, j, rfl, rfl, hc, h⟩
theorem w_U {gg : Int → V} {i : Int} (h : Q (gg i) H) : rU gg (.int i) H Q := ⟨i, rfl, h⟩
theorem int_dec {i j : Int} : decide (V.int i = V.int j) = decide (i = j) := by
  by_cases h : i = j
  · subst h
    rw [decide_eq_true rfl, decide_eq_true rfl]
  · rw [decide_eq_false h, decide_eq_false fun e => h (V.int.inj e)]
theorem w_eqI {i j : Int} (h : Q (.bl (eqB i j)) H) : rEq (.int i) (.int j) H Q := ⟨rfl, by rw [int_dec, ← eqB_def]; exact h⟩
theorem w_neI {i j : Int} (h : Q (.bl (!eqB i j)) H) : rNe (.int i) (.int j) H Q := ⟨rfl, by rw [int_dec, ← eqB_def]; exact h⟩
theorem w_lt {i j : Int} (h : Q (.bl (ltB i j)) H) : rI0 (fun i j => .bl (decide (i < j))) (.int i) (.int j) H Q := ⟨i, j, rfl, rfl, by show Q (.bl (decide (i < j))) H; rw [← ltB_def]; exact h⟩
theorem w_le {i j : Int} (h : Q (.bl (leB i j)) H) : rI0 (fun i j => .bl (decide (i ≤ j))) (.int i) (.int j) H Q := ⟨i, j, rfl, rfl, by show Q (.bl (decide (i ≤ j))) H; rw [← leB_def]; exact h⟩
theorem w_gt {i j : Int} (h : Q (.bl (ltB j i)) H) : rI0 (fun i j => .bl (decide (j < i))) (.int i) (.int j) H Q := ⟨i, j, rfl, rfl, by show Q (.bl (decide (j < i))) H; rw [← ltB_def]; exact h⟩
theorem w_ge {i j : Int} (h : Q (.bl (leB j i)) H) : rI0 (fun i j => .bl (decide (j ≤ i))) (.int i) (.int j) H Q := ⟨i, j, rfl, rfl, by show Q (.bl (decide (j ≤ i))) H; rw [← leB_def]; exact h⟩
theorem w_abs {i : Int} (h : Q (.int (i.natAbs : Int)) H) : rAbs [.int i] H Q := ⟨i, rfl, by
  have e : (if i < 0 then -i else i) = (i.natAbs : Int) := by split <;> omega
  rw [e]
  exact h⟩
theorem w_int {i : Int} (h : Q (.int i) H) : rInt1 [.int i] H Q := .inl ⟨i, rfl, h⟩
theorem w_lenL {p : Addr} {ys : List V} (e : SqL K H p ys) (h : Q (.int ys.length) H) : rLenQ K [.ref p] H Q := ⟨p, ys, rfl, .inl e, h⟩
theorem w_lenT {p : Addr} {ys : List V} (e : SqT K H p ys) (h : Q (.int ys.length) H) : rLenQ K [.ref p] H Q := ⟨p, ys, rfl, .inr e, h⟩
theorem w_min {i j : Int} (h : Q (.int (if j < i then j else i)) H) : rMin2 [.int i, .int j] H Q := ⟨i, j, rfl, h⟩
theorem w_max {i j : Int} (h : Q (.int (if i < j then j else i)) H) : rMax2 [.int i, .int j] H Q := ⟨i, j, rfl, h⟩
theorem w_ixL {p : Addr} {xs : List V} {i : Int} {v : V} (e : SqL K H p xs) (ha : atI xs i = some v) (h : Q v H) : rIxL K (.ref p) (.int i) H Q := ⟨p, xs, i, v, rfl, rfl, e, ha, h⟩
theorem w_ixT {p : Addr} {xs : List V} {i : Int} {v : V} (e : SqT K H p xs) (ha : atI xs i = some v) (h : Q v H) : rIxT K (.ref p) (.int i) H Q := ⟨p, xs, i, v, rfl, rfl, e, ha, h⟩
theorem w_gcd {a b : Int} (h : Q (.int ((Nat.gcd a.natAbs b.natAbs : Nat) : Int)) H) : rGcd [.int a, .int b] H Q := ⟨a, b, rfl, h⟩
theorem w_sub {to ti : TE} {tset : TSet} {Q : L2.St → Hp → Prop} (h : to σ H fun o H1 => ti σ H1 fun i H2 => tset o i v H2 fun H3 => Q σ H3) : gSub to ti tset v σ H Q := h
theorem w_setL {p : Addr} {xs : List V} {k : Int} {j : Nat} {y : V} {Q : Hp → Prop} (e : H p = some (.lst xs)) (hj : ixN xs.length k = some j) (h : Q (upd H p (.lst (xs.set j y)))) : rSetL (.ref p) (.int k) y H Q := ⟨p, xs, k, j, rfl, rfl, e, hj, h⟩
theorem w_par {i j : Nat} {tt : TA} (h : tt σ H fun vs H1 => ∃ v w, vs = [v, w] ∧ D.nx ((σ.set i (some v)).set j (some w)) H1) : tPar i j tt D σ H := h
theorem w_two {a b : V} {F : V → V → Prop} (h : F a b) : ∃ v w, [a, b] = [v, w] ∧ F v w := ⟨a, b, rfl, h⟩
theorem w_if {b : Bool} {A B : Prop} (h1 : b = true → A) (h2 : b = false → B) : if b = true then A else B := by
  cases b with
  | true => exact iteT (h1 rfl)
  | false => exact iteF (h2 rfl)
theorem w_ifd {b : Bool} {p : Prop} {A B : Prop} [k : BP b p] (h1 : p → A) (h2 : ¬ p → B) : if b = true then A else B := w_if (fun c => h1 (k.iff.mp c)) fun c => h2 fun z => by
  rw [k.iff.mpr z] at c
  cases c
theorem w_ifn {b : Bool} {p : Prop} {A B : Prop} [k : BP b p] (h1 : ¬ p → A) (h2 : p → B) : if (!b) = true then A else B := by
  cases e : b with
  | true => exact iteF (h2 (k.iff.mp e))
  | false => exact iteT (h1 fun z => by
      rw [k.iff.mpr z] at e
      cases e)
theorem w_v0 {r : L2.St} (h : Q v H) : tVar 0 (some v :: r) H Q := ⟨v, rfl, h⟩
theorem w_g0 {o : Option V} {r : L2.St} {Q : L2.St → Hp → Prop} (h : Q (some v :: r) H) : gName 0 v (o :: r) H Q := h
theorem w_s0 {o p : Option V} {r : L2.St} {F : L2.St → Prop} (h : F (p :: r)) : F ((o :: r).set 0 p) := h
theorem w_v1 {x0 : Option V} {r : L2.St} (h : Q v H) : tVar 1 (x0 :: some v :: r) H Q := ⟨v, rfl, h⟩
theorem w_g1 {x0 : Option V} {o : Option V} {r : L2.St} {Q : L2.St → Hp → Prop} (h : Q (x0 :: some v :: r) H) : gName 1 v (x0 :: o :: r) H Q := h
theorem w_s1 {x0 : Option V} {o p : Option V} {r : L2.St} {F : L2.St → Prop} (h : F (x0 :: p :: r)) : F ((x0 :: o :: r).set 1 p) := h
theorem w_v2 {x0 x1 : Option V} {r : L2.St} (h : Q v H) : tVar 2 (x0 :: x1 :: some v :: r) H Q := ⟨v, rfl, h⟩
theorem w_g2 {x0 x1 : Option V} {o : Option V} {r : L2.St} {Q : L2.St → Hp → Prop} (h : Q (x0 :: x1 :: some v :: r) H) : gName 2 v (x0 :: x1 :: o :: r) H Q := h
theorem w_s2 {x0 x1 : Option V} {o p : Option V} {r : L2.St} {F : L2.St → Prop} (h : F (x0 :: x1 :: p :: r)) : F ((x0 :: x1 :: o :: r).set 2 p) := h
theorem w_v3 {x0 x1 x2 : Option V} {r : L2.St} (h : Q v H) : tVar 3 (x0 :: x1 :: x2 :: some v :: r) H Q := ⟨v, rfl, h⟩
theorem w_g3 {x0 x1 x2 : Option V} {o : Option V} {r : L2.St} {Q : L2.St → Hp → Prop} (h : Q (x0 :: x1 :: x2 :: some v :: r) H) : gName 3 v (x0 :: x1 :: x2 :: o :: r) H Q := h
theorem w_s3 {x0 x1 x2 : Option V} {o p : Option V} {r : L2.St} {F : L2.St → Prop} (h : F (x0 :: x1 :: x2 :: p :: r)) : F ((x0 :: x1 :: x2 :: o :: r).set 3 p) := h
theorem w_v4 {x0 x1 x2 x3 : Option V} {r : L2.St} (h : Q v H) : tVar 4 (x0 :: x1 :: x2 :: x3 :: some v :: r) H Q := ⟨v, rfl, h⟩
theorem w_g4 {x0 x1 x2 x3 : Option V} {o : Option V} {r : L2.St} {Q : L2.St → Hp → Prop} (h : Q (x0 :: x1 :: x2 :: x3 :: some v :: r) H) : gName 4 v (x0 :: x1 :: x2 :: x3 :: o :: r) H Q := h
theorem w_s4 {x0 x1 x2 x3 : Option V} {o p : Option V} {r : L2.St} {F : L2.St → Prop} (h : F (x0 :: x1 :: x2 :: x3 :: p :: r)) : F ((x0 :: x1 :: x2 :: x3 :: o :: r).set 4 p) := h
theorem w_v5 {x0 x1 x2 x3 x4 : Option V} {r : L2.St} (h : Q v H) : tVar 5 (x0 :: x1 :: x2 :: x3 :: x4 :: some v :: r) H Q := ⟨v, rfl, h⟩
theorem w_g5 {x0 x1 x2 x3 x4 : Option V} {o : Option V} {r : L2.St} {Q : L2.St → Hp → Prop} (h : Q (x0 :: x1 :: x2 :: x3 :: x4 :: some v :: r) H) : gName 5 v (x0 :: x1 :: x2 :: x3 :: x4 :: o :: r) H Q := h
theorem w_s5 {x0 x1 x2 x3 x4 : Option V} {o p : Option V} {r : L2.St} {F : L2.St → Prop} (h : F (x0 :: x1 :: x2 :: x3 :: x4 :: p :: r)) : F ((x0 :: x1 :: x2 :: x3 :: x4 :: o :: r).set 5 p) := h
theorem w_v6 {x0 x1 x2 x3 x4 x5 : Option V} {r : L2.St} (h : Q v H) : tVar 6 (x0 :: x1 :: x2 :: x3 :: x4 :: x5 :: some v :: r) H Q := ⟨v, rfl, h⟩
theorem w_g6 {x0 x1 x2 x3 x4 x5 : Option V} {o : Option V} {r : L2.St} {Q : L2.St → Hp → Prop} (h : Q (x0 :: x1 :: x2 :: x3 :: x4 :: x5 :: some v :: r) H) : gName 6 v (x0 :: x1 :: x2 :: x3 :: x4 :: x5 :: o :: r) H Q := h
theorem w_s6 {x0 x1 x2 x3 x4 x5 : Option V} {o p : Option V} {r : L2.St} {F : L2.St → Prop} (h : F (x0 :: x1 :: x2 :: x3 :: x4 :: x5 :: p :: r)) : F ((x0 :: x1 :: x2 :: x3 :: x4 :: x5 :: o :: r).set 6 p) := h
theorem w_v7 {x0 x1 x2 x3 x4 x5 x6 : Option V} {r : L2.St} (h : Q v H) : tVar 7 (x0 :: x1 :: x2 :: x3 :: x4 :: x5 :: x6 :: some v :: r) H Q := ⟨v, rfl, h⟩
theorem w_g7 {x0 x1 x2 x3 x4 x5 x6 : Option V} {o : Option V} {r : L2.St} {Q : L2.St → Hp → Prop} (h : Q (x0 :: x1 :: x2 :: x3 :: x4 :: x5 :: x6 :: some v :: r) H) : gName 7 v (x0 :: x1 :: x2 :: x3 :: x4 :: x5 :: x6 :: o :: r) H Q := h
theorem w_s7 {x0 x1 x2 x3 x4 x5 x6 : Option V} {o p : Option V} {r : L2.St} {F : L2.St → Prop} (h : F (x0 :: x1 :: x2 :: x3 :: x4 :: x5 :: x6 :: p :: r)) : F ((x0 :: x1 :: x2 :: x3 :: x4 :: x5 :: x6 :: o :: r).set 7 p) := h
theorem w_v8 {x0 x1 x2 x3 x4 x5 x6 x7 : Option V} {r : L2.St} (h : Q v H) : tVar 8 (x0 :: x1 :: x2 :: x3 :: x4 :: x5 :: x6 :: x7 :: some v :: r) H Q := ⟨v, rfl, h⟩
theorem w_g8 {x0 x1 x2 x3 x4 x5 x6 x7 : Option V} {o : Option V} {r : L2.St} {Q : L2.St → Hp → Prop} (h : Q (x0 :: x1 :: x2 :: x3 :: x4 :: x5 :: x6 :: x7 :: some v :: r) H) : gName 8 v (x0 :: x1 :: x2 :: x3 :: x4 :: x5 :: x6 :: x7 :: o :: r) H Q := h
theorem w_s8 {x0 x1 x2 x3 x4 x5 x6 x7 : Option V} {o p : Option V} {r : L2.St} {F : L2.St → Prop} (h : F (x0 :: x1 :: x2 :: x3 :: x4 :: x5 :: x6 :: x7 :: p :: r)) : F ((x0 :: x1 :: x2 :: x3 :: x4 :: x5 :: x6 :: x7 :: o :: r).set 8 p) := h
theorem w_v9 {x0 x1 x2 x3 x4 x5 x6 x7 x8 : Option V} {r : L2.St} (h : Q v H) : tVar 9 (x0 :: x1 :: x2 :: x3 :: x4 :: x5 :: x6 :: x7 :: x8 :: some v :: r) H Q := ⟨v, rfl, h⟩
theorem w_g9 {x0 x1 x2 x3 x4 x5 x6 x7 x8 : Option V} {o : Option V} {r : L2.St} {Q : L2.St → Hp → Prop} (h : Q (x0 :: x1 :: x2 :: x3 :: x4 :: x5 :: x6 :: x7 :: x8 :: some v :: r) H) : gName 9 v (x0 :: x1 :: x2 :: x3 :: x4 :: x5 :: x6 :: x7 :: x8 :: o :: r) H Q := h
theorem w_s9 {x0 x1 x2 x3 x4 x5 x6 x7 x8 : Option V} {o p : Option V} {r : L2.St} {F : L2.St → Prop} (h : F (x0 :: x1 :: x2 :: x3 :: x4 :: x5 :: x6 :: x7 :: x8 :: p :: r)) : F ((x0 :: x1 :: x2 :: x3 :: x4 :: x5 :: x6 :: x7 :: x8 :: o :: r).set 9 p) := h
theorem w_v10 {x0 x1 x2 x3 x4 x5 x6 x7 x8 x9 : Option V} {r : L2.St} (h : Q v H) : tVar 10 (x0 :: x1 :: x2 :: x3 :: x4 :: x5 :: x6 :: x7 :: x8 :: x9 :: some v :: r) H Q := ⟨v, rfl, h⟩
theorem w_g10 {x0 x1 x2 x3 x4 x5 x6 x7 x8 x9 : Option V} {o : Option V} {r : L2.St} {Q : L2.St → Hp → Prop} (h : Q (x0 :: x1 :: x2 :: x3 :: x4 :: x5 :: x6 :: x7 :: x8 :: x9 :: some v :: r) H) : gName 10 v (x0 :: x1 :: x2 :: x3 :: x4 :: x5 :: x6 :: x7 :: x8 :: x9 :: o :: r) H Q := h
theorem w_s10 {x0 x1 x2 x3 x4 x5 x6 x7 x8 x9 : Option V} {o p : Option V} {r : L2.St} {F : L2.St → Prop} (h : F (x0 :: x1 :: x2 :: x3 :: x4 :: x5 :: x6 :: x7 :: x8 :: x9 :: p :: r)) : F ((x0 :: x1 :: x2 :: x3 :: x4 :: x5 :: x6 :: x7 :: x8 :: x9 :: o :: r).set 10 p) := h
theorem w_v11 {x0 x1 x2 x3 x4 x5 x6 x7 x8 x9 x10 : Option V} {r : L2.St} (h : Q v H) : tVar 11 (x0 :: x1 :: x2 :: x3 :: x4 :: x5 :: x6 :: x7 :: x8 :: x9 :: x10 :: some v :: r) H Q := ⟨v, rfl, h⟩
theorem w_g11 {x0 x1 x2 x3 x4 x5 x6 x7 x8 x9 x10 : Option V} {o : Option V} {r : L2.St} {Q : L2.St → Hp → Prop} (h : Q (x0 :: x1 :: x2 :: x3 :: x4 :: x5 :: x6 :: x7 :: x8 :: x9 :: x10 :: some v :: r) H) : gName 11 v (x0 :: x1 :: x2 :: x3 :: x4 :: x5 :: x6 :: x7 :: x8 :: x9 :: x10 :: o :: r) H Q := h
theorem w_s11 {x0 x1 x2 x3 x4 x5 x6 x7 x8 x9 x10 : Option V} {o p : Option V} {r : L2.St} {F : L2.St → Prop} (h : F (x0 :: x1 :: x2 :: x3 :: x4 :: x5 :: x6 :: x7 :: x8 :: x9 :: x10 :: p :: r)) : F ((x0 :: x1 :: x2 :: x3 :: x4 :: x5 :: x6 :: x7 :: x8 :: x9 :: x10 :: o :: r).set 11 p) := h
theorem w_v12 {x0 x1 x2 x3 x4 x5 x6 x7 x8 x9 x10 x11 : Option V} {r : L2.St} (h : Q v H) : tVar 12 (x0 :: x1 :: x2 :: x3 :: x4 :: x5 :: x6 :: x7 :: x8 :: x9 :: x10 :: x11 :: some v :: r) H Q := ⟨v, rfl, h⟩
theorem w_g12 {x0 x1 x2 x3 x4 x5 x6 x7 x8 x9 x10 x11 : Option V} {o : Option V} {r : L2.St} {Q : L2.St → Hp → Prop} (h : Q (x0 :: x1 :: x2 :: x3 :: x4 :: x5 :: x6 :: x7 :: x8 :: x9 :: x10 :: x11 :: some v :: r) H) : gName 12 v (x0 :: x1 :: x2 :: x3 :: x4 :: x5 :: x6 :: x7 :: x8 :: x9 :: x10 :: x11 :: o :: r) H Q := h
theorem w_s12 {x0 x1 x2 x3 x4 x5 x6 x7 x8 x9 x10 x11 : Option V} {o p : Option V} {r : L2.St} {F : L2.St → Prop} (h : F (x0 :: x1 :: x2 :: x3 :: x4 :: x5 :: x6 :: x7 :: x8 :: x9 :: x10 :: x11 :: p :: r)) : F ((x0 :: x1 :: x2 :: x3 :: x4 :: x5 :: x6 :: x7 :: x8 :: x9 :: x10 :: x11 :: o :: r).set 12 p) := h
theorem w_v13 {x0 x1 x2 x3 x4 x5 x6 x7 x8 x9 x10 x11 x12 : Option V} {r : L2.St} (h : Q v H) : tVar 13 (x0 :: x1 :: x2 :: x3 :: x4 :: x5 :: x6 :: x7 :: x8 :: x9 :: x10 :: x11 :: x12 :: some v :: r) H Q := ⟨v, rfl, h⟩
theorem w_g13 {x0 x1 x2 x3 x4 x5 x6 x7 x8 x9 x10 x11 x12 : Option V} {o : Option V} {r : L2.St} {Q : L2.St → Hp → Prop} (h : Q (x0 :: x1 :: x2 :: x3 :: x4 :: x5 :: x6 :: x7 :: x8 :: x9 :: x10 :: x11 :: x12 :: some v :: r) H) : gName 13 v (x0 :: x1 :: x2 :: x3 :: x4 :: x5 :: x6 :: x7 :: x8 :: x9 :: x10 :: x11 :: x12 :: o :: r) H Q := h
theorem w_s13 {x0 x1 x2 x3 x4 x5 x6 x7 x8 x9 x10 x11 x12 : Option V} {o p : Option V} {r : L2.St} {F : L2.St → Prop} (h : F (x0 :: x1 :: x2 :: x3 :: x4 :: x5 :: x6 :: x7 :: x8 :: x9 :: x10 :: x11 :: x12 :: p :: r)) : F ((x0 :: x1 :: x2 :: x3 :: x4 :: x5 :: x6 :: x7 :: x8 :: x9 :: x10 :: x11 :: x12 :: o :: r).set 13 p) := h
theorem w_v14 {x0 x1 x2 x3 x4 x5 x6 x7 x8 x9 x10 x11 x12 x13 : Option V} {r : L2.St} (h : Q v H) : tVar 14 (x0 :: x1 :: x2 :: x3 :: x4 :: x5 :: x6 :: x7 :: x8 :: x9 :: x10 :: x11 :: x12 :: x13 :: some v :: r) H Q := ⟨v, rfl, h⟩
theorem w_g14 {x0 x1 x2 x3 x4 x5 x6 x7 x8 x9 x10 x11 x12 x13 : Option V} {o : Option V} {r : L2.St} {Q : L2.St → Hp → Prop} (h : Q (x0 :: x1 :: x2 :: x3 :: x4 :: x5 :: x6 :: x7 :: x8 :: x9 :: x10 :: x11 :: x12 :: x13 :: some v :: r) H) : gName 14 v (x0 :: x1 :: x2 :: x3 :: x4 :: x5 :: x6 :: x7 :: x8 :: x9 :: x10 :: x11 :: x12 :: x13 :: o :: r) H Q := h
theorem w_s14 {x0 x1 x2 x3 x4 x5 x6 x7 x8 x9 x10 x11 x12 x13 : Option V} {o p : Option V} {r : L2.St} {F : L2.St → Prop} (h : F (x0 :: x1 :: x2 :: x3 :: x4 :: x5 :: x6 :: x7 :: x8 :: x9 :: x10 :: x11 :: x12 :: x13 :: p :: r)) : F ((x0 :: x1 :: x2 :: x3 :: x4 :: x5 :: x6 :: x7 :: x8 :: x9 :: x10 :: x11 :: x12 :: x13 :: o :: r).set 14 p) := h
theorem w_v15 {x0 x1 x2 x3 x4 x5 x6 x7 x8 x9 x10 x11 x12 x13 x14 : Option V} {r : L2.St} (h : Q v H) : tVar 15 (x0 :: x1 :: x2 :: x3 :: x4 :: x5 :: x6 :: x7 :: x8 :: x9 :: x10 :: x11 :: x12 :: x13 :: x14 :: some v :: r) H Q := ⟨v, rfl, h⟩
theorem w_g15 {x0 x1 x2 x3 x4 x5 x6 x7 x8 x9 x10 x11 x12 x13 x14 : Option V} {o : Option V} {r : L2.St} {Q : L2.St → Hp → Prop} (h : Q (x0 :: x1 :: x2 :: x3 :: x4 :: x5 :: x6 :: x7 :: x8 :: x9 :: x10 :: x11 :: x12 :: x13 :: x14 :: some v :: r) H) : gName 15 v (x0 :: x1 :: x2 :: x3 :: x4 :: x5 :: x6 :: x7 :: x8 :: x9 :: x10 :: x11 :: x12 :: x13 :: x14 :: o :: r) H Q := h
theorem w_s15 {x0 x1 x2 x3 x4 x5 x6 x7 x8 x9 x10 x11 x12 x13 x14 : Option V} {o p : Option V} {r : L2.St} {F : L2.St → Prop} (h : F (x0 :: x1 :: x2 :: x3 :: x4 :: x5 :: x6 :: x7 :: x8 :: x9 :: x10 :: x11 :: x12 :: x13 :: x14 :: p :: r)) : F ((x0 :: x1 :: x2 :: x3 :: x4 :: x5 :: x6 :: x7 :: x8 :: x9 :: x10 :: x11 :: x12 :: x13 :: x14 :: o :: r).set 15 p) := h
theorem w_v16 {x0 x1 x2 x3 x4 x5 x6 x7 x8 x9 x10 x11 x12 x13 x14 x15 : Option V} {r : L2.St} (h : Q v H) : tVar 16 (x0 :: x1 :: x2 :: x3 :: x4 :: x5 :: x6 :: x7 :: x8 :: x9 :: x10 :: x11 :: x12 :: x13 :: x14 :: x15 :: some v :: r) H Q := ⟨v, rfl, h⟩
theorem w_g16 {x0 x1 x2 x3 x4 x5 x6 x7 x8 x9 x10 x11 x12 x13 x14 x15 : Option V} {o : Option V} {r : L2.St} {Q : L2.St → Hp → Prop} (h : Q (x0 :: x1 :: x2 :: x3 :: x4 :: x5 :: x6 :: x7 :: x8 :: x9 :: x10 :: x11 :: x12 :: x13 :: x14 :: x15 :: some v :: r) H) : gName 16 v (x0 :: x1 :: x2 :: x3 :: x4 :: x5 :: x6 :: x7 :: x8 :: x9 :: x10 :: x11 :: x12 :: x13 :: x14 :: x15 :: o :: r) H Q := h
theorem w_s16 {x0 x1 x2 x3 x4 x5 x6 x7 x8 x9 x10 x11 x12 x13 x14 x15 : Option V} {o p : Option V} {r : L2.St} {F : L2.St → Prop} (h : F (x0 :: x1 :: x2 :: x3 :: x4 :: x5 :: x6 :: x7 :: x8 :: x9 :: x10 :: x11 :: x12 :: x13 :: x14 :: x15 :: p :: r)) : F ((x0 :: x1 :: x2 :: x3 :: x4 :: x5 :: x6 :: x7 :: x8 :: x9 :: x10 :: x11 :: x12 :: x13 :: x14 :: x15 :: o :: r).set 16 p) := h
theorem w_v17 {x0 x1 x2 x3 x4 x5 x6 x7 x8 x9 x10 x11 x12 x13 x14 x15 x16 : Option V} {r : L2.St} (h : Q v H) : tVar 17 (x0 :: x1 :: x2 :: x3 :: x4 :: x5 :: x6 :: x7 :: x8 :: x9 :: x10 :: x11 :: x12 :: x13 :: x14 :: x15 :: x16 :: some v :: r) H Q := ⟨v, rfl, h⟩
theorem w_g17 {x0 x1 x2 x3 x4 x5 x6 x7 x8 x9 x10 x11 x12 x13 x14 x15 x16 : Option V} {o : Option V} {r : L2.St} {Q : L2.St → Hp → Prop} (h : Q (x0 :: x1 :: x2 :: x3 :: x4 :: x5 :: x6 :: x7 :: x8 :: x9 :: x10 :: x11 :: x12 :: x13 :: x14 :: x15 :: x16 :: some v :: r) H) : gName 17 v (x0 :: x1 :: x2 :: x3 :: x4 :: x5 :: x6 :: x7 :: x8 :: x9 :: x10 :: x11 :: x12 :: x13 :: x14 :: x15 :: x16 :: o :: r) H Q := h
theorem w_s17 {x0 x1 x2 x3 x4 x5 x6 x7 x8 x9 x10 x11 x12 x13 x14 x15 x16 : Option V} {o p : Option V} {r : L2.St} {F : L2.St → Prop} (h : F (x0 :: x1 :: x2 :: x3 :: x4 :: x5 :: x6 :: x7 :: x8 :: x9 :: x10 :: x11 :: x12 :: x13 :: x14 :: x15 :: x16 :: p :: r)) : F ((x0 :: x1 :: x2 :: x3 :: x4 :: x5 :: x6 :: x7 :: x8 :: x9 :: x10 :: x11 :: x12 :: x13 :: x14 :: x15 :: x16 :: o :: r).set 17 p) := h
theorem w_v18 {x0 x1 x2 x3 x4 x5 x6 x7 x8 x9 x10 x11 x12 x13 x14 x15 x16 x17 : Option V} {r : L2.St} (h : Q v H) : tVar 18 (x0 :: x1 :: x2 :: x3 :: x4 :: x5 :: x6 :: x7 :: x8 :: x9 :: x10 :: x11 :: x12 :: x13 :: x14 :: x15 :: x16 :: x17 :: some v :: r) H Q := ⟨v, rfl, h⟩
theorem w_g18 {x0 x1 x2 x3 x4 x5 x6 x7 x8 x9 x10 x11 x12 x13 x14 x15 x16 x17 : Option V} {o : Option V} {r : L2.St} {Q : L2.St → Hp → Prop} (h : Q (x0 :: x1 :: x2 :: x3 :: x4 :: x5 :: x6 :: x7 :: x8 :: x9 :: x10 :: x11 :: x12 :: x13 :: x14 :: x15 :: x16 :: x17 :: some v :: r) H) : gName 18 v (x0 :: x1 :: x2 :: x3 :: x4 :: x5 :: x6 :: x7 :: x8 :: x9 :: x10 :: x11 :: x12 :: x13 :: x14 :: x15 :: x16 :: x17 :: o :: r) H Q := h
theorem w_s18 {x0 x1 x2 x3 x4 x5 x6 x7 x8 x9 x10 x11 x12 x13 x14 x15 x16 x17 : Option V} {o p : Option V} {r : L2.St} {F : L2.St → Prop} (h : F (x0 :: x1 :: x2 :: x3 :: x4 :: x5 :: x6 :: x7 :: x8 :: x9 :: x10 :: x11 :: x12 :: x13 :: x14 :: x15 :: x16 :: x17 :: p :: r)) : F ((x0 :: x1 :: x2 :: x3 :: x4 :: x5 :: x6 :: x7 :: x8 :: x9 :: x10 :: x11 :: x12 :: x13 :: x14 :: x15 :: x16 :: x17 :: o :: r).set 18 p) := h
theorem w_v19 {x0 x1 x2 x3 x4 x5 x6 x7 x8 x9 x10 x11 x12 x13 x14 x15 x16 x17 x18 : Option V} {r : L2.St} (h : Q v H) : tVar 19 (x0 :: x1 :: x2 :: x3 :: x4 :: x5 :: x6 :: x7 :: x8 :: x9 :: x10 :: x11 :: x12 :: x13 :: x14 :: x15 :: x16 :: x17 :: x18 :: some v :: r) H Q := ⟨v, rfl, h⟩
theorem w_g19 {x0 x1 x2 x3 x4 x5 x6 x7 x8 x9 x10 x11 x12 x13 x14 x15 x16 x17 x18 : Option V} {o : Option V} {r : L2.St} {Q : L2.St → Hp → Prop} (h : Q (x0 :: x1 :: x2 :: x3 :: x4 :: x5 :: x6 :: x7 :: x8 :: x9 :: x10 :: x11 :: x12 :: x13 :: x14 :: x15 :: x16 :: x17 :: x18 :: some v :: r) H) : gName 19 v (x0 :: x1 :: x2 :: x3 :: x4 :: x5 :: x6 :: x7 :: x8 :: x9 :: x10 :: x11 :: x12 :: x13 :: x14 :: x15 :: x16 :: x17 :: x18 :: o :: r) H Q := h
theorem w_s19 {x0 x1 x2 x3 x4 x5 x6 x7 x8 x9 x10 x11 x12 x13 x14 x15 x16 x17 x18 : Option V} {o p : Option V} {r : L2.St} {F : L2.St → Prop} (h : F (x0 :: x1 :: x2 :: x3 :: x4 :: x5 :: x6 :: x7 :: x8 :: x9 :: x10 :: x11 :: x12 :: x13 :: x14 :: x15 :: x16 :: x17 :: x18 :: p :: r)) : F ((x0 :: x1 :: x2 :: x3 :: x4 :: x5 :: x6 :: x7 :: x8 :: x9 :: x10 :: x11 :: x12 :: x13 :: x14 :: x15 :: x16 :: x17 :: x18 :: o :: r).set 19 p) := h
theorem w_v20 {x0 x1 x2 x3 x4 x5 x6 x7 x8 x9 x10 x11 x12 x13 x14 x15 x16 x17 x18 x19 : Option V} {r : L2.St} (h : Q v H) : tVar 20 (x0 :: x1 :: x2 :: x3 :: x4 :: x5 :: x6 :: x7 :: x8 :: x9 :: x10 :: x11 :: x12 :: x13 :: x14 :: x15 :: x16 :: x17 :: x18 :: x19 :: some v :: r) H Q := ⟨v, rfl, h⟩
theorem w_g20 {x0 x1 x2 x3 x4 x5 x6 x7 x8 x9 x10 x11 x12 x13 x14 x15 x16 x17 x18 x19 : Option V} {o : Option V} {r : L2.St} {Q : L2.St → Hp → Prop} (h : Q (x0 :: x1 :: x2 :: x3 :: x4 :: x5 :: x6 :: x7 :: x8 :: x9 :: x10 :: x11 :: x12 :: x13 :: x14 :: x15 :: x16 :: x17 :: x18 :: x19 :: some v :: r) H) : gName 20 v (x0 :: x1 :: x2 :: x3 :: x4 :: x5 :: x6 :: x7 :: x8 :: x9 :: x10 :: x11 :: x12 :: x13 :: x14 :: x15 :: x16 :: x17 :: x18 :: x19 :: o :: r) H Q := h
theorem w_s20 {x0 x1 x2 x3 x4 x5 x6 x7 x8 x9 x10 x11 x12 x13 x14 x15 x16 x17 x18 x19 : Option V} {o p : Option V} {r : L2.St} {F : L2.St → Prop} (h : F (x0 :: x1 :: x2 :: x3 :: x4 :: x5 :: x6 :: x7 :: x8 :: x9 :: x10 :: x11 :: x12 :: x13 :: x14 :: x15 :: x16 :: x17 :: x18 :: x19 :: p :: r)) : F ((x0 :: x1 :: x2 :: x3 :: x4 :: x5 :: x6 :: x7 :: x8 :: x9 :: x10 :: x11 :: x12 :: x13 :: x14 :: x15 :: x16 :: x17 :: x18 :: x19 :: o :: r).set 20 p) := h
theorem w_v21 {x0 x1 x2 x3 x4 x5 x6 x7 x8 x9 x10 x11 x12 x13 x14 x15 x16 x17 x18 x19 x20 : Option V} {r : L2.St} (h : Q v H) : tVar 21 (x0 :: x1 :: x2 :: x3 :: x4 :: x5 :: x6 :: x7 :: x8 :: x9 :: x10 :: x11 :: x12 :: x13 :: x14 :: x15 :: x16 :: x17 :: x18 :: x19 :: x20 :: some v :: r) H Q := ⟨v, rfl, h⟩
theorem w_g21 {x0 x1 x2 x3 x4 x5 x6 x7 x8 x9 x10 x11 x12 x13 x14 x15 x16 x17 x18 x19 x20 : Option V} {o : Option V} {r : L2.St} {Q : L2.St → Hp → Prop} (h : Q (x0 :: x1 :: x2 :: x3 :: x4 :: x5 :: x6 :: x7 :: x8 :: x9 :: x10 :: x11 :: x12 :: x13 :: x14 :: x15 :: x16 :: x17 :: x18 :: x19 :: x20 :: some v :: r) H) : gName 21 v (x0 :: x1 :: x2 :: x3 :: x4 :: x5 :: x6 :: x7 :: x8 :: x9 :: x10 :: x11 :: x12 :: x13 :: x14 :: x15 :: x16 :: x17 :: x18 :: x19 :: x20 :: o :: r) H Q := h
theorem w_s21 {x0 x1 x2 x3 x4 x5 x6 x7 x8 x9 x10 x11 x12 x13 x14 x15 x16 x17 x18 x19 x20 : Option V} {o p : Option V} {r : L2.St} {F : L2.St → Prop} (h : F (x0 :: x1 :: x2 :: x3 :: x4 :: x5 :: x6 :: x7 :: x8 :: x9 :: x10 :: x11 :: x12 :: x13 :: x14 :: x15 :: x16 :: x17 :: x18 :: x19 :: x20 :: p :: r)) : F ((x0 :: x1 :: x2 :: x3 :: x4 :: x5 :: x6 :: x7 :: x8 :: x9 :: x10 :: x11 :: x12 :: x13 :: x14 :: x15 :: x16 :: x17 :: x18 :: x19 :: x20 :: o :: r).set 21 p) := h
theorem w_v22 {x0 x1 x2 x3 x4 x5 x6 x7 x8 x9 x10 x11 x12 x13 x14 x15 x16 x17 x18 x19 x20 x21 : Option V} {r : L2.St} (h : Q v H) : tVar 22 (x0 :: x1 :: x2 :: x3 :: x4 :: x5 :: x6 :: x7 :: x8 :: x9 :: x10 :: x11 :: x12 :: x13 :: x14 :: x15 :: x16 :: x17 :: x18 :: x19 :: x20 :: x21 :: some v :: r) H Q := ⟨v, rfl, h⟩
theorem w_g22 {x0 x1 x2 x3 x4 x5 x6 x7 x8 x9 x10 x11 x12 x13 x14 x15 x16 x17 x18 x19 x20 x21 : Option V} {o : Option V} {r : L2.St} {Q : L2.St → Hp → Prop} (h : Q (x0 :: x1 :: x2 :: x3 :: x4 :: x5 :: x6 :: x7 :: x8 :: x9 :: x10 :: x11 :: x12 :: x13 :: x14 :: x15 :: x16 :: x17 :: x18 :: x19 :: x20 :: x21 :: some v :: r) H) : gName 22 v (x0 :: x1 :: x2 :: x3 :: x4 :: x5 :: x6 :: x7 :: x8 :: x9 :: x10 :: x11 :: x12 :: x13 :: x14 :: x15 :: x16 :: x17 :: x18 :: x19 :: x20 :: x21 :: o :: r) H Q := h
theorem w_s22 {x0 x1 x2 x3 x4 x5 x6 x7 x8 x9 x10 x11 x12 x13 x14 x15 x16 x17 x18 x19 x20 x21 : Option V} {o p : Option V} {r : L2.St} {F : L2.St → Prop} (h : F (x0 :: x1 :: x2 :: x3 :: x4 :: x5 :: x6 :: x7 :: x8 :: x9 :: x10 :: x11 :: x12 :: x13 :: x14 :: x15 :: x16 :: x17 :: x18 :: x19 :: x20 :: x21 :: p :: r)) : F ((x0 :: x1 :: x2 :: x3 :: x4 :: x5 :: x6 :: x7 :: x8 :: x9 :: x10 :: x11 :: x12 :: x13 :: x14 :: x15 :: x16 :: x17 :: x18 :: x19 :: x20 :: x21 :: o :: r).set 22 p) := h
theorem w_v23 {x0 x1 x2 x3 x4 x5 x6 x7 x8 x9 x10 x11 x12 x13 x14 x15 x16 x17 x18 x19 x20 x21 x22 : Option V} {r : L2.St} (h : Q v H) : tVar 23 (x0 :: x1 :: x2 :: x3 :: x4 :: x5 :: x6 :: x7 :: x8 :: x9 :: x10 :: x11 :: x12 :: x13 :: x14 :: x15 :: x16 :: x17 :: x18 :: x19 :: x20 :: x21 :: x22 :: some v :: r) H Q := ⟨v, rfl, h⟩
theorem w_g23 {x0 x1 x2 x3 x4 x5 x6 x7 x8 x9 x10 x11 x12 x13 x14 x15 x16 x17 x18 x19 x20 x21 x22 : Option V} {o : Option V} {r : L2.St} {Q : L2.St → Hp → Prop} (h : Q (x0 :: x1 :: x2 :: x3 :: x4 :: x5 :: x6 :: x7 :: x8 :: x9 :: x10 :: x11 :: x12 :: x13 :: x14 :: x15 :: x16 :: x17 :: x18 :: x19 :: x20 :: x21 :: x22 :: some v :: r) H) : gName 23 v (x0 :: x1 :: x2 :: x3 :: x4 :: x5 :: x6 :: x7 :: x8 :: x9 :: x10 :: x11 :: x12 :: x13 :: x14 :: x15 :: x16 :: x17 :: x18 :: x19 :: x20 :: x21 :: x22 :: o :: r) H Q := h
theorem w_s23 {x0 x1 x2 x3 x4 x5 x6 x7 x8 x9 x10 x11 x12 x13 x14 x15 x16 x17 x18 x19 x20 x21 x22 : Option V} {o p : Option V} {r : L2.St} {F : L2.St → Prop} (h : F (x0 :: x1 :: x2 :: x3 :: x4 :: x5 :: x6 :: x7 :: x8 :: x9 :: x10 :: x11 :: x12 :: x13 :: x14 :: x15 :: x16 :: x17 :: x18 :: x19 :: x20 :: x21 :: x22 :: p :: r)) : F ((x0 :: x1 :: x2 :: x3 :: x4 :: x5 :: x6 :: x7 :: x8 :: x9 :: x10 :: x11 :: x12 :: x13 :: x14 :: x15 :: x16 :: x17 :: x18 :: x19 :: x20 :: x21 :: x22 :: o :: r).set 23 p) := h
theorem w_v24 {x0 x1 x2 x3 x4 x5 x6 x7 x8 x9 x10 x11 x12 x13 x14 x15 x16 x17 x18 x19 x20 x21 x22 x23 : Option V} {r : L2.St} (h : Q v H) : tVar 24 (x0 :: x1 :: x2 :: x3 :: x4 :: x5 :: x6 :: x7 :: x8 :: x9 :: x10 :: x11 :: x12 :: x13 :: x14 :: x15 :: x16 :: x17 :: x18 :: x19 :: x20 :: x21 :: x22 :: x23 :: some v :: r) H Q := ⟨v, rfl, h⟩
theorem w_g24 {x0 x1 x2 x3 x4 x5 x6 x7 x8 x9 x10 x11 x12 x13 x14 x15 x16 x17 x18 x19 x20 x21 x22 x23 : Option V} {o : Option V} {r : L2.St} {Q : L2.St → Hp → Prop} (h : Q (x0 :: x1 :: x2 :: x3 :: x4 :: x5 :: x6 :: x7 :: x8 :: x9 :: x10 :: x11 :: x12 :: x13 :: x14 :: x15 :: x16 :: x17 :: x18 :: x19 :: x20 :: x21 :: x22 :: x23 :: some v :: r) H) : gName 24 v (x0 :: x1 :: x2 :: x3 :: x4 :: x5 :: x6 :: x7 :: x8 :: x9 :: x10 :: x11 :: x12 :: x13 :: x14 :: x15 :: x16 :: x17 :: x18 :: x19 :: x20 :: x21 :: x22 :: x23 :: o :: r) H Q := h
theorem w_s24 {x0 x1 x2 x3 x4 x5 x6 x7 x8 x9 x10 x11 x12 x13 x14 x15 x16 x17 x18 x19 x20 x21 x22 x23 : Option V} {o p : Option V} {r : L2.St} {F : L2.St → Prop} (h : F (x0 :: x1 :: x2 :: x3 :: x4 :: x5 :: x6 :: x7 :: x8 :: x9 :: x10 :: x11 :: x12 :: x13 :: x14 :: x15 :: x16 :: x17 :: x18 :: x19 :: x20 :: x21 :: x22 :: x23 :: p :: r)) : F ((x0 :: x1 :: x2 :: x3 :: x4 :: x5 :: x6 :: x7 :: x8 :: x9 :: x10 :: x11 :: x12 :: x13 :: x14 :: x15 :: x16 :: x17 :: x18 :: x19 :: x20 :: x21 :: x22 :: x23 :: o :: r).set 24 p) := h
theorem w_v25 {x0 x1 x2 x3 x4 x5 x6 x7 x8 x9 x10 x11 x12 x13 x14 x15 x16 x17 x18 x19 x20 x21 x22 x23 x24 : Option V} {r : L2.St} (h : Q v H) : tVar 25 (x0 :: x1 :: x2 :: x3 :: x4 :: x5 :: x6 :: x7 :: x8 :: x9 :: x10 :: x11 :: x12 :: x13 :: x14 :: x15 :: x16 :: x17 :: x18 :: x19 :: x20 :: x21 :: x22 :: x23 :: x24 :: some v :: r) H Q := ⟨v, rfl, h⟩
theorem w_g25 {x0 x1 x2 x3 x4 x5 x6 x7 x8 x9 x10 x11 x12 x13 x14 x15 x16 x17 x18 x19 x20 x21 x22 x23 x24 : Option V} {o : Option V} {r : L2.St} {Q : L2.St → Hp → Prop} (h : Q (x0 :: x1 :: x2 :: x3 :: x4 :: x5 :: x6 :: x7 :: x8 :: x9 :: x10 :: x11 :: x12 :: x13 :: x14 :: x15 :: x16 :: x17 :: x18 :: x19 :: x20 :: x21 :: x22 :: x23 :: x24 :: some v :: r) H) : gName 25 v (x0 :: x1 :: x2 :: x3 :: x4 :: x5 :: x6 :: x7 :: x8 :: x9 :: x10 :: x11 :: x12 :: x13 :: x14 :: x15 :: x16 :: x17 :: x18 :: x19 :: x20 :: x21 :: x22 :: x23 :: x24 :: o :: r) H Q := h
theorem w_s25 {x0 x1 x2 x3 x4 x5 x6 x7 x8 x9 x10 x11 x12 x13 x14 x15 x16 x17 x18 x19 x20 x21 x22 x23 x24 : Option V} {o p : Option V} {r : L2.St} {F : L2.St → Prop} (h : F (x0 :: x1 :: x2 :: x3 :: x4 :: x5 :: x6 :: x7 :: x8 :: x9 :: x10 :: x11 :: x12 :: x13 :: x14 :: x15 :: x16 :: x17 :: x18 :: x19 :: x20 :: x21 :: x22 :: x23 :: x24 :: p :: r)) : F ((x0 :: x1 :: x2 :: x3 :: x4 :: x5 :: x6 :: x7 :: x8 :: x9 :: x10 :: x11 :: x12 :: x13 :: x14 :: x15 :: x16 :: x17 :: x18 :: x19 :: x20 :: x21 :: x22 :: x23 :: x24 :: o :: r).set 25 p) := h
theorem w_v26 {x0 x1 x2 x3 x4 x5 x6 x7 x8 x9 x10 x11 x12 x13 x14 x15 x16 x17 x18 x19 x20 x21 x22 x23 x24 x25 : Option V} {r : L2.St} (h : Q v H) : tVar 26 (x0 :: x1 :: x2 :: x3 :: x4 :: x5 :: x6 :: x7 :: x8 :: x9 :: x10 :: x11 :: x12 :: x13 :: x14 :: x15 :: x16 :: x17 :: x18 :: x19 :: x20 :: x21 :: x22 :: x23 :: x24 :: x25 :: some v :: r) H Q := ⟨v, rfl, h⟩
theorem w_g26 {x0 x1 x2 x3 x4 x5 x6 x7 x8 x9 x10 x11 x12 x13 x14 x15 x16 x17 x18 x19 x20 x21 x22 x23 x24 x25 : Option V} {o : Option V} {r : L2.St} {Q : L2.St → Hp → Prop} (h : Q (x0 :: x1 :: x2 :: x3 :: x4 :: x5 :: x6 :: x7 :: x8 :: x9 :: x10 :: x11 :: x12 :: x13 :: x14 :: x15 :: x16 :: x17 :: x18 :: x19 :: x20 :: x21 :: x22 :: x23 :: x24 :: x25 :: some v :: r) H) : gName 26 v (x0 :: x1 :: x2 :: x3 :: x4 :: x5 :: x6 :: x7 :: x8 :: x9 :: x10 :: x11 :: x12 :: x13 :: x14 :: x15 :: x16 :: x17 :: x18 :: x19 :: x20 :: x21 :: x22 :: x23 :: x24 :: x25 :: o :: r) H Q := h
theorem w_s26 {x0 x1 x2 x3 x4 x5 x6 x7 x8 x9 x10 x11 x12 x13 x14 x15 x16 x17 x18 x19 x20 x21 x22 x23 x24 x25 : Option V} {o p : Option V} {r : L2.St} {F : L2.St → Prop} (h : F (x0 :: x1 :: x2 :: x3 :: x4 :: x5 :: x6 :: x7 :: x8 :: x9 :: x10 :: x11 :: x12 :: x13 :: x14 :: x15 :: x16 :: x17 :: x18 :: x19 :: x20 :: x21 :: x22 :: x23 :: x24 :: x25 :: p :: r)) : F ((x0 :: x1 :: x2 :: x3 :: x4 :: x5 :: x6 :: x7 :: x8 :: x9 :: x10 :: x11 :: x12 :: x13 :: x14 :: x15 :: x16 :: x17 :: x18 :: x19 :: x20 :: x21 :: x22 :: x23 :: x24 :: x25 :: o :: r).set 26 p) := h
theorem w_v27 {x0 x1 x2 x3 x4 x5 x6 x7 x8 x9 x10 x11 x12 x13 x14 x15 x16 x17 x18 x19 x20 x21 x22 x23 x24 x25 x26 : Option V} {r : L2.St} (h : Q v H) : tVar 27 (x0 :: x1 :: x2 :: x3 :: x4 :: x5 :: x6 :: x7 :: x8 :: x9 :: x10 :: x11 :: x12 :: x13 :: x14 :: x15 :: x16 :: x17 :: x18 :: x19 :: x20 :: x21 :: x22 :: x23 :: x24 :: x25 :: x26 :: some v :: r) H Q := ⟨v, rfl, h⟩
theorem w_g27 {x0 x1 x2 x3 x4 x5 x6 x7 x8 x9 x10 x11 x12 x13 x14 x15 x16 x17 x18 x19 x20 x21 x22 x23 x24 x25 x26 : Option V} {o : Option V} {r : L2.St} {Q : L2.St → Hp → Prop} (h : Q (x0 :: x1 :: x2 :: x3 :: x4 :: x5 :: x6 :: x7 :: x8 :: x9 :: x10 :: x11 :: x12 :: x13 :: x14 :: x15 :: x16 :: x17 :: x18 :: x19 :: x20 :: x21 :: x22 :: x23 :: x24 :: x25 :: x26 :: some v :: r) H) : gName 27 v (x0 :: x1 :: x2 :: x3 :: x4 :: x5 :: x6 :: x7 :: x8 :: x9 :: x10 :: x11 :: x12 :: x13 :: x14 :: x15 :: x16 :: x17 :: x18 :: x19 :: x20 :: x21 :: x22 :: x23 :: x24 :: x25 :: x26 :: o :: r) H Q := h
theorem w_s27 {x0 x1 x2 x3 x4 x5 x6 x7 x8 x9 x10 x11 x12 x13 x14 x15 x16 x17 x18 x19 x20 x21 x22 x23 x24 x25 x26 : Option V} {o p : Option V} {r : L2.St} {F : L2.St → Prop} (h : F (x0 :: x1 :: x2 :: x3 :: x4 :: x5 :: x6 :: x7 :: x8 :: x9 :: x10 :: x11 :: x12 :: x13 :: x14 :: x15 :: x16 :: x17 :: x18 :: x19 :: x20 :: x21 :: x22 :: x23 :: x24 :: x25 :: x26 :: p :: r)) : F ((x0 :: x1 :: x2 :: x3 :: x4 :: x5 :: x6 :: x7 :: x8 :: x9 :: x10 :: x11 :: x12 :: x13 :: x14 :: x15 :: x16 :: x17 :: x18 :: x19 :: x20 :: x21 :: x22 :: x23 :: x24 :: x25 :: x26 :: o :: r).set 27 p) := h
theorem w_v28 {x0 x1 x2 x3 x4 x5 x6 x7 x8 x9 x10 x11 x12 x13 x14 x15 x16 x17 x18 x19 x20 x21 x22 x23 x24 x25 x26 x27 : Option V} {r : L2.St} (h : Q v H) : tVar 28 (x0 :: x1 :: x2 :: x3 :: x4 :: x5 :: x6 :: x7 :: x8 :: x9 :: x10 :: x11 :: x12 :: x13 :: x14 :: x15 :: x16 :: x17 :: x18 :: x19 :: x20 :: x21 :: x22 :: x23 :: x24 :: x25 :: x26 :: x27 :: some v :: r) H Q := ⟨v, rfl, h⟩
theorem w_g28 {x0 x1 x2 x3 x4 x5 x6 x7 x8 x9 x10 x11 x12 x13 x14 x15 x16 x17 x18 x19 x20 x21 x22 x23 x24 x25 x26 x27 : Option V} {o : Option V} {r : L2.St} {Q : L2.St → Hp → Prop} (h : Q (x0 :: x1 :: x2 :: x3 :: x4 :: x5 :: x6 :: x7 :: x8 :: x9 :: x10 :: x11 :: x12 :: x13 :: x14 :: x15 :: x16 :: x17 :: x18 :: x19 :: x20 :: x21 :: x22 :: x23 :: x24 :: x25 :: x26 :: x27 :: some v :: r) H) : gName 28 v (x0 :: x1 :: x2 :: x3 :: x4 :: x5 :: x6 :: x7 :: x8 :: x9 :: x10 :: x11 :: x12 :: x13 :: x14 :: x15 :: x16 :: x17 :: x18 :: x19 :: x20 :: x21 :: x22 :: x23 :: x24 :: x25 :: x26 :: x27 :: o :: r) H Q := h
theorem w_s28 {x0 x1 x2 x3 x4 x5 x6 x7 x8 x9 x10 x11 x12 x13 x14 x15 x16 x17 x18 x19 x20 x21 x22 x23 x24 x25 x26 x27 : Option V} {o p : Option V} {r : L2.St} {F : L2.St → Prop} (h : F (x0 :: x1 :: x2 :: x3 :: x4 :: x5 :: x6 :: x7 :: x8 :: x9 :: x10 :: x11 :: x12 :: x13 :: x14 :: x15 :: x16 :: x17 :: x18 :: x19 :: x20 :: x21 :: x22 :: x23 :: x24 :: x25 :: x26 :: x27 :: p :: r)) : F ((x0 :: x1 :: x2 :: x3 :: x4 :: x5 :: x6 :: x7 :: x8 :: x9 :: x10 :: x11 :: x12 :: x13 :: x14 :: x15 :: x16 :: x17 :: x18 :: x19 :: x20 :: x21 :: x22 :: x23 :: x24 :: x25 :: x26 :: x27 :: o :: r).set 28 p) := h
theorem w_v29 {x0 x1 x2 x3 x4 x5 x6 x7 x8 x9 x10 x11 x12 x13 x14 x15 x16 x17 x18 x19 x20 x21 x22 x23 x24 x25 x26 x27 x28 : Option V} {r : L2.St} (h : Q v H) : tVar 29 (x0 :: x1 :: x2 :: x3 :: x4 :: x5 :: x6 :: x7 :: x8 :: x9 :: x10 :: x11 :: x12 :: x13 :: x14 :: x15 :: x16 :: x17 :: x18 :: x19 :: x20 :: x21 :: x22 :: x23 :: x24 :: x25 :: x26 :: x27 :: x28 :: some v :: r) H Q := ⟨v, rfl, h⟩
theorem w_g29 {x0 x1 x2 x3 x4 x5 x6 x7 x8 x9 x10 x11 x12 x13 x14 x15 x16 x17 x18 x19 x20 x21 x22 x23 x24 x25 x26 x27 x28 : Option V} {o : Option V} {r : L2.St} {Q : L2.St → Hp → Prop} (h : Q (x0 :: x1 :: x2 :: x3 :: x4 :: x5 :: x6 :: x7 :: x8 :: x9 :: x10 :: x11 :: x12 :: x13 :: x14 :: x15 :: x16 :: x17 :: x18 :: x19 :: x20 :: x21 :: x22 :: x23 :: x24 :: x25 :: x26 :: x27 :: x28 :: some v :: r) H) : gName 29 v (x0 :: x1 :: x2 :: x3 :: x4 :: x5 :: x6 :: x7 :: x8 :: x9 :: x10 :: x11 :: x12 :: x13 :: x14 :: x15 :: x16 :: x17 :: x18 :: x19 :: x20 :: x21 :: x22 :: x23 :: x24 :: x25 :: x26 :: x27 :: x28 :: o :: r) H Q := h
theorem w_s29 {x0 x1 x2 x3 x4 x5 x6 x7 x8 x9 x10 x11 x12 x13 x14 x15 x16 x17 x18 x19 x20 x21 x22 x23 x24 x25 x26 x27 x28 : Option V} {o p : Option V} {r : L2.St} {F : L2.St → Prop} (h : F (x0 :: x1 :: x2 :: x3 :: x4 :: x5 :: x6 :: x7 :: x8 :: x9 :: x10 :: x11 :: x12 :: x13 :: x14 :: x15 :: x16 :: x17 :: x18 :: x19 :: x20 :: x21 :: x22 :: x23 :: x24 :: x25 :: x26 :: x27 :: x28 :: p :: r)) : F ((x0 :: x1 :: x2 :: x3 :: x4 :: x5 :: x6 :: x7 :: x8 :: x9 :: x10 :: x11 :: x12 :: x13 :: x14 :: x15 :: x16 :: x17 :: x18 :: x19 :: x20 :: x21 :: x22 :: x23 :: x24 :: x25 :: x26 :: x27 :: x28 :: o :: r).set 29 p) := h
theorem w_v30 {x0 x1 x2 x3 x4 x5 x6 x7 x8 x9 x10 x11 x12 x13 x14 x15 x16 x17 x18 x19 x20 x21 x22 x23 x24 x25 x26 x27 x28 x29 : Option V} {r : L2.St} (h : Q v H) : tVar 30 (x0 :: x1 :: x2 :: x3 :: x4 :: x5 :: x6 :: x7 :: x8 :: x9 :: x10 :: x11 :: x12 :: x13 :: x14 :: x15 :: x16 :: x17 :: x18 :: x19 :: x20 :: x21 :: x22 :: x23 :: x24 :: x25 :: x26 :: x27 :: x28 :: x29 :: some v :: r) H Q := ⟨v, rfl, h⟩
theorem w_g30 {x0 x1 x2 x3 x4 x5 x6 x7 x8 x9 x10 x11 x12 x13 x14 x15 x16 x17 x18 x19 x20 x21 x22 x23 x24 x25 x26 x27 x28 x29 : Option V} {o : Option V} {r : L2.St} {Q : L2.St → Hp → Prop} (h : Q (x0 :: x1 :: x2 :: x3 :: x4 :: x5 :: x6 :: x7 :: x8 :: x9 :: x10 :: x11 :: x12 :: x13 :: x14 :: x15 :: x16 :: x17 :: x18 :: x19 :: x20 :: x21 :: x22 :: x23 :: x24 :: x25 :: x26 :: x27 :: x28 :: x29 :: some v :: r) H) : gName 30 v (x0 :: x1 :: x2 :: x3 :: x4 :: x5 :: x6 :: x7 :: x8 :: x9 :: x10 :: x11 :: x12 :: x13 :: x14 :: x15 :: x16 :: x17 :: x18 :: x19 :: x20 :: x21 :: x22 :: x23 :: x24 :: x25 :: x26 :: x27 :: x28 :: x29 :: o :: r) H Q := h
theorem w_s30 {x0 x1 x2 x3 x4 x5 x6 x7 x8 x9 x10 x11 x12 x13 x14 x15 x16 x17 x18 x19 x20 x21 x22 x23 x24 x25 x26 x27 x28 x29 : Option V} {o p : Option V} {r : L2.St} {F : L2.St → Prop} (h : F (x0 :: x1 :: x2 :: x3 :: x4 :: x5 :: x6 :: x7 :: x8 :: x9 :: x10 :: x11 :: x12 :: x13 :: x14 :: x15 :: x16 :: x17 :: x18 :: x19 :: x20 :: x21 :: x22 :: x23 :: x24 :: x25 :: x26 :: x27 :: x28 :: x29 :: p :: r)) : F ((x0 :: x1 :: x2 :: x3 :: x4 :: x5 :: x6 :: x7 :: x8 :: x9 :: x10 :: x11 :: x12 :: x13 :: x14 :: x15 :: x16 :: x17 :: x18 :: x19 :: x20 :: x21 :: x22 :: x23 :: x24 :: x25 :: x26 :: x27 :: x28 :: x29 :: o :: r).set 30 p) := h
end
theorem w_pow0 {Q : VK} {H : Hp} (h : Q (.int 1) H) : rI CPow (fun i j => .int (i ^ j.toNat)) (.int 10) (.int 0) H Q := ⟨10, 0, rfl, rfl, ⟨by decide, by decide, by decide⟩, h⟩
theorem w_pow1 {Q : VK} {H : Hp} (h : Q (.int 10) H) : rI CPow (fun i j => .int (i ^ j.toNat)) (.int 10) (.int 1) H Q := ⟨10, 1, rfl, rfl, ⟨by decide, by decide, by decide⟩, h⟩
theorem w_pow2 {Q : VK} {H : Hp} (h : Q (.int 100) H) : rI CPow (fun i j => .int (i ^ j.toNat)) (.int 10) (.int 2) H Q := ⟨10, 2, rfl, rfl, ⟨by decide, by decide, by decide⟩, h⟩
theorem w_pow3 {Q : VK} {H : Hp} (h : Q (.int 1000) H) : rI CPow (fun i j => .int (i ^ j.toNat)) (.int 10) (.int 3) H Q := ⟨10, 3, rfl, rfl, ⟨by decide, by decide, by decide⟩, h⟩
theorem w_pow4 {Q : VK} {H : Hp} (h : Q (.int 10000) H) : rI CPow (fun i j => .int (i ^ j.toNat)) (.int 10) (.int 4) H Q := ⟨10, 4, rfl, rfl, ⟨by decide, by decide, by decide⟩, h⟩
theorem w_pow5 {Q : VK} {H : Hp} (h : Q (.int 100000) H) : rI CPow (fun i j => .int (i ^ j.toNat)) (.int 10) (.int 5) H Q := ⟨10, 5, rfl, rfl, ⟨by decide, by decide, by decide⟩, h⟩
theorem w_pow6 {Q : VK} {H : Hp} (h : Q (.int 1000000) H) : rI CPow (fun i j => .int (i ^ j.toNat)) (.int 10) (.int 6) H Q := ⟨10, 6, rfl, rfl, ⟨by decide, by decide, by decide⟩, h⟩
theorem w_pow7 {Q : VK} {H : Hp} (h : Q (.int 10000000) H) : rI CPow (fun i j => .int (i ^ j.toNat)) (.int 10) (.int 7) H Q := ⟨10, 7, rfl, rfl, ⟨by decide, by decide, by decide⟩, h⟩
theorem w_pow8 {Q : VK} {H : Hp} (h : Q (.int 100000000) H) : rI CPow (fun i j => .int (i ^ j.toNat)) (.int 10) (.int 8) H Q := ⟨10, 8, rfl, rfl, ⟨by decide, by decide, by decide⟩, h⟩
theorem w_pow9 {Q : VK} {H : Hp} (h : Q (.int 1000000000) H) : rI CPow (fun i j => .int (i ^ j.toNat)) (.int 10) (.int 9) H Q := ⟨10, 9, rfl, rfl, ⟨by decide, by decide, by decide⟩, h⟩
theorem w_pow10 {Q : VK} {H : Hp} (h : Q (.int 10000000000) H) : rI CPow (fun i j => .int (i ^ j.toNat)) (.int 10) (.int 10) H Q := ⟨10, 10, rfl, rfl, ⟨by decide, by decide, by decide⟩, h⟩
theorem w_pow11 {Q : VK} {H : Hp} (h : Q (.int 100000000000) H) : rI CPow (fun i j => .int (i ^ j.toNat)) (.int 10) (.int 11) H Q := ⟨10, 11, rfl, rfl, ⟨by decide, by decide, by decide⟩, h⟩
theorem w_pow12 {Q : VK} {H : Hp} (h : Q (.int 1000000000000) H) : rI CPow (fun i j => .int (i ^ j.toNat)) (.int 10) (.int 12) H Q := ⟨10, 12, rfl, rfl, ⟨by decide, by decide, by decide⟩, h⟩
theorem w_pow13 {Q : VK} {H : Hp} (h : Q (.int 10000000000000) H) : rI CPow (fun i j => .int (i ^ j.toNat)) (.int 10) (.int 13) H Q := ⟨10, 13, rfl, rfl, ⟨by decide, by decide, by decide⟩, h⟩
theorem w_pow14 {Q : VK} {H : Hp} (h : Q (.int 100000000000000) H) : rI CPow (fun i j => .int (i ^ j.toNat)) (.int 10) (.int 14) H Q := ⟨10, 14, rfl, rfl, ⟨by decide, by decide, by decide⟩, h⟩
theorem w_pow15 {Q : VK} {H : Hp} (h : Q (.int 1000000000000000) H) : rI CPow (fun i j => .int (i ^ j.toNat)) (.int 10) (.int 15) H Q := ⟨10, 15, rfl, rfl, ⟨by decide, by decide, by decide⟩, h⟩
theorem w_pow16 {Q : VK} {H : Hp} (h : Q (.int 10000000000000000) H) : rI CPow (fun i j => .int (i ^ j.toNat)) (.int 10) (.int 16) H Q := ⟨10, 16, rfl, rfl, ⟨by decide, by decide, by decide⟩, h⟩
theorem w_pow17 {Q : VK} {H : Hp} (h : Q (.int 100000000000000000) H) : rI CPow (fun i j => .int (i ^ j.toNat)) (.int 10) (.int 17) H Q := ⟨10, 17, rfl, rfl, ⟨by decide, by decide, by decide⟩, h⟩
theorem w_pow18 {Q : VK} {H : Hp} (h : Q (.int 1000000000000000000) H) : rI CPow (fun i j => .int (i ^ j.toNat)) (.int 10) (.int 18) H Q := ⟨10, 18, rfl, rfl, ⟨by decide, by decide, by decide⟩, h⟩
theorem w_pow19 {Q : VK} {H : Hp} (h : Q (.int 10000000000000000000) H) : rI CPow (fun i j => .int (i ^ j.toNat)) (.int 10) (.int 19) H Q := ⟨10, 19, rfl, rfl, ⟨by decide, by decide, by decide⟩, h⟩
theorem w_pow20 {Q : VK} {H : Hp} (h : Q (.int 100000000000000000000) H) : rI CPow (fun i j => .int (i ^ j.toNat)) (.int 10) (.int 20) H Q := ⟨10, 20, rfl, rfl, ⟨by decide, by decide, by decide⟩, h⟩
theorem w_pow21 {Q : VK} {H : Hp} (h : Q (.int 1000000000000000000000) H) : rI CPow (fun i j => .int (i ^ j.toNat)) (.int 10) (.int 21) H Q := ⟨10, 21, rfl, rfl, ⟨by decide, by decide, by decide⟩, h⟩
theorem w_pow22 {Q : VK} {H : Hp} (h : Q (.int 10000000000000000000000) H) : rI CPow (fun i j => .int (i ^ j.toNat)) (.int 10) (.int 22) H Q := ⟨10, 22, rfl, rfl, ⟨by decide, by decide, by decide⟩, h⟩
theorem w_pow23 {Q : VK} {H : Hp} (h : Q (.int 100000000000000000000000) H) : rI CPow (fun i j => .int (i ^ j.toNat)) (.int 10) (.int 23) H Q := ⟨10, 23, rfl, rfl, ⟨by decide, by decide, by decide⟩, h⟩
theorem w_pow24 {Q : VK} {H : Hp} (h : Q (.int 1000000000000000000000000) H) : rI CPow (fun i j => .int (i ^ j.toNat)) (.int 10) (.int 24) H Q := ⟨10, 24, rfl, rfl, ⟨by decide, by decide, by decide⟩, h⟩
theorem w_pow25 {Q : VK} {H : Hp} (h : Q (.int 10000000000000000000000000) H) : rI CPow (fun i j => .int (i ^ j.toNat)) (.int 10) (.int 25) H Q := ⟨10, 25, rfl, rfl, ⟨by decide, by decide, by decide⟩, h⟩
theorem w_pow26 {Q : VK} {H : Hp} (h : Q (.int 100000000000000000000000000) H) : rI CPow (fun i j => .int (i ^ j.toNat)) (.int 10) (.int 26) H Q := ⟨10, 26, rfl, rfl, ⟨by decide, by decide, by decide⟩, h⟩
theorem w_pow27 {Q : VK} {H : Hp} (h : Q (.int 1000000000000000000000000000) H) : rI CPow (fun i j => .int (i ^ j.toNat)) (.int 10) (.int 27) H Q := ⟨10, 27, rfl, rfl, ⟨by decide, by decide, by decide⟩, h⟩
theorem w_pow28 {Q : VK} {H : Hp} (h : Q (.int 10000000000000000000000000000) H) : rI CPow (fun i j => .int (i ^ j.toNat)) (.int 10) (.int 28) H Q := ⟨10, 28, rfl, rfl, ⟨by decide, by decide, by decide⟩, h⟩
theorem w_pow29 {Q : VK} {H : Hp} (h : Q (.int 100000000000000000000000000000) H) : rI CPow (fun i j => .int (i ^ j.toNat)) (.int 10) (.int 29) H Q := ⟨10, 29, rfl, rfl, ⟨by decide, by decide, by decide⟩, h⟩
theorem w_pow30 {Q : VK} {H : Hp} (h : Q (.int 1000000000000000000000000000000) H) : rI CPow (fun i j => .int (i ^ j.toNat)) (.int 10) (.int 30) H Q := ⟨10, 30, rfl, rfl, ⟨by decide, by decide, by decide⟩, h⟩
theorem w_pow31 {Q : VK} {H : Hp} (h : Q (.int 10000000000000000000000000000000) H) : rI CPow (fun i j => .int (i ^ j.toNat)) (.int 10) (.int 31) H Q := ⟨10, 31, rfl, rfl, ⟨by decide, by decide, by decide⟩, h⟩
theorem w_pow32 {Q : VK} {H : Hp} (h : Q (.int 100000000000000000000000000000000) H) : rI CPow (fun i j => .int (i ^ j.toNat)) (.int 10) (.int 32) H Q := ⟨10, 32, rfl, rfl, ⟨by decide, by decide, by decide⟩, h⟩
theorem w_pow33 {Q : VK} {H : Hp} (h : Q (.int 1000000000000000000000000000000000) H) : rI CPow (fun i j => .int (i ^ j.toNat)) (.int 10) (.int 33) H Q := ⟨10, 33, rfl, rfl, ⟨by decide, by decide, by decide⟩, h⟩
theorem w_pow34 {Q : VK} {H : Hp} (h : Q (.int 10000000000000000000000000000000000) H) : rI CPow (fun i j => .int (i ^ j.toNat)) (.int 10) (.int 34) H Q := ⟨10, 34, rfl, rfl, ⟨by decide, by decide, by decide⟩, h⟩
theorem w_pow35 {Q : VK} {H : Hp} (h : Q (.int 100000000000000000000000000000000000) H) : rI CPow (fun i j => .int (i ^ j.toNat)) (.int 10) (.int 35) H Q := ⟨10, 35, rfl, rfl, ⟨by decide, by decide, by decide⟩, h⟩
theorem w_pow36 {Q : VK} {H : Hp} (h : Q (.int 1000000000000000000000000000000000000) H) : rI CPow (fun i j => .int (i ^ j.toNat)) (.int 10) (.int 36) H Q := ⟨10, 36, rfl, rfl, ⟨by decide, by decide, by decide⟩, h⟩
theorem w_pow37 {Q : VK} {H : Hp} (h : Q (.int 10000000000000000000000000000000000000) H) : rI CPow (fun i j => .int (i ^ j.toNat)) (.int 10) (.int 37) H Q := ⟨10, 37, rfl, rfl, ⟨by decide, by decide, by decide⟩, h⟩
theorem w_pow38 {Q : VK} {H : Hp} (h : Q (.int 100000000000000000000000000000000000000) H) : rI CPow (fun i j => .int (i ^ j.toNat)) (.int 10) (.int 38) H Q := ⟨10, 38, rfl, rfl, ⟨by decide, by decide, by decide⟩, h⟩
theorem w_pow39 {Q : VK} {H : Hp} (h : Q (.int 1000000000000000000000000000000000000000) H) : rI CPow (fun i j => .int (i ^ j.toNat)) (.int 10) (.int 39) H Q := ⟨10, 39, rfl, rfl, ⟨by decide, by decide, by decide⟩, h⟩
theorem w_pow40 {Q : VK} {H : Hp} (h : Q (.int 10000000000000000000000000000000000000000) H) : rI CPow (fun i j => .int (i ^ j.toNat)) (.int 10) (.int 40) H Q := ⟨10, 40, rfl, rfl, ⟨by decide, by decide, by decide⟩, h⟩
theorem w_pow41 {Q : VK} {H : Hp} (h : Q (.int 100000000000000000000000000000000000000000) H) : rI CPow (fun i j => .int (i ^ j.toNat)) (.int 10) (.int 41) H Q := ⟨10, 41, rfl, rfl, ⟨by decide, by decide, by decide⟩, h⟩
theorem w_pow42 {Q : VK} {H : Hp} (h : Q (.int 1000000000000000000000000000000000000000000) H) : rI CPow (fun i j => .int (i ^ j.toNat)) (.int 10) (.int 42) H Q := ⟨10, 42, rfl, rfl, ⟨by decide, by decide, by decide⟩, h⟩
theorem w_pow43 {Q : VK} {H : Hp} (h : Q (.int 10000000000000000000000000000000000000000000) H) : rI CPow (fun i j => .int (i ^ j.toNat)) (.int 10) (.int 43) H Q := ⟨10, 43, rfl, rfl, ⟨by decide, by decide, by decide⟩, h⟩
theorem w_pow44 {Q : VK} {H : Hp} (h : Q (.int 100000000000000000000000000000000000000000000) H) : rI CPow (fun i j => .int (i ^ j.toNat)) (.int 10) (.int 44) H Q := ⟨10, 44, rfl, rfl, ⟨by decide, by decide, by decide⟩, h⟩
theorem w_pow45 {Q : VK} {H : Hp} (h : Q (.int 1000000000000000000000000000000000000000000000) H) : rI CPow (fun i j => .int (i ^ j.toNat)) (.int 10) (.int 45) H Q := ⟨10, 45, rfl, rfl, ⟨by decide, by decide, by decide⟩, h⟩
theorem w_pow46 {Q : VK} {H : Hp} (h : Q (.int 10000000000000000000000000000000000000000000000) H) : rI CPow (fun i j => .int (i ^ j.toNat)) (.int 10) (.int 46) H Q := ⟨10, 46, rfl, rfl, ⟨by decide, by decide, by decide⟩, h⟩
theorem w_pow47 {Q : VK} {H : Hp} (h : Q (.int 100000000000000000000000000000000000000000000000) H) : rI CPow (fun i j => .int (i ^ j.toNat)) (.int 10) (.int 47) H Q := ⟨10, 47, rfl, rfl, ⟨by decide, by decide, by decide⟩, h⟩
theorem w_pow48 {Q : VK} {H : Hp} (h : Q (.int 1000000000000000000000000000000000000000000000000) H) : rI CPow (fun i j => .int (i ^ j.toNat)) (.int 10) (.int 48) H Q := ⟨10, 48, rfl, rfl, ⟨by decide, by decide, by decide⟩, h⟩
theorem w_pow49 {Q : VK} {H : Hp} (h : Q (.int 10000000000000000000000000000000000000000000000000) H) : rI CPow (fun i j => .int (i ^ j.toNat)) (.int 10) (.int 49) H Q := ⟨10, 49, rfl, rfl, ⟨by decide, by decide, by decide⟩, h⟩
theorem w_pow50 {Q : VK} {H : Hp} (h : Q (.int 100000000000000000000000000000000000000000000000000) H) : rI CPow (fun i j => .int (i ^ j.toNat)) (.int 10) (.int 50) H Q := ⟨10, 50, rfl, rfl, ⟨by decide, by decide, by decide⟩, h⟩
theorem w_pow51 {Q : VK} {H : Hp} (h : Q (.int 1000000000000000000000000000000000000000000000000000) H) : rI CPow (fun i j => .int (i ^ j.toNat)) (.int 10) (.int 51) H Q := ⟨10, 51, rfl, rfl, ⟨by decide, by decide, by decide⟩, h⟩
theorem w_pow52 {Q : VK} {H : Hp} (h : Q (.int 10000000000000000000000000000000000000000000000000000) H) : rI CPow (fun i j => .int (i ^ j.toNat)) (.int 10) (.int 52) H Q := ⟨10, 52, rfl, rfl, ⟨by decide, by decide, by decide⟩, h⟩
theorem w_pow53 {Q : VK} {H : Hp} (h : Q (.int 100000000000000000000000000000000000000000000000000000) H) : rI CPow (fun i j => .int (i ^ j.toNat)) (.int 10) (.int 53) H Q := ⟨10, 53, rfl, rfl, ⟨by decide, by decide, by decide⟩, h⟩
theorem w_pow54 {Q : VK} {H : Hp} (h : Q (.int 1000000000000000000000000000000000000000000000000000000) H) : rI CPow (fun i j => .int (i ^ j.toNat)) (.int 10) (.int 54) H Q := ⟨10, 54, rfl, rfl, ⟨by decide, by decide, by decide⟩, h⟩
theorem w_pow55 {Q : VK} {H : Hp} (h : Q (.int 10000000000000000000000000000000000000000000000000000000) H) : rI CPow (fun i j => .int (i ^ j.toNat)) (.int 10) (.int 55) H Q := ⟨10, 55, rfl, rfl, ⟨by decide, by decide, by decide⟩, h⟩
theorem w_pow56 {Q : VK} {H : Hp} (h : Q (.int 100000000000000000000000000000000000000000000000000000000) H) : rI CPow (fun i j => .int (i ^ j.toNat)) (.int 10) (.int 56) H Q := ⟨10, 56, rfl, rfl, ⟨by decide, by decide, by decide⟩, h⟩
theorem w_pow57 {Q : VK} {H : Hp} (h : Q (.int 1000000000000000000000000000000000000000000000000000000000) H) : rI CPow (fun i j => .int (i ^ j.toNat)) (.int 10) (.int 57) H Q := ⟨10, 57, rfl, rfl, ⟨by decide, by decide, by decide⟩, h⟩
theorem w_pow58 {Q : VK} {H : Hp} (h : Q (.int 10000000000000000000000000000000000000000000000000000000000) H) : rI CPow (fun i j => .int (i ^ j.toNat)) (.int 10) (.int 58) H Q := ⟨10, 58, rfl, rfl, ⟨by decide, by decide, by decide⟩, h⟩
theorem w_pow59 {Q : VK} {H : Hp} (h : Q (.int 100000000000000000000000000000000000000000000000000000000000) H) : rI CPow (fun i j => .int (i ^ j.toNat)) (.int 10) (.int 59) H Q := ⟨10, 59, rfl, rfl, ⟨by decide, by decide, by decide⟩, h⟩
theorem w_pow60 {Q : VK} {H : Hp} (h : Q (.int 1000000000000000000000000000000000000000000000000000000000000) H) : rI CPow (fun i j => .int (i ^ j.toNat)) (.int 10) (.int 60) H Q := ⟨10, 60, rfl, rfl, ⟨by decide, by decide, by decide⟩, h⟩

/-! ### the drawing stream: a list of the cells, a place, a great number in use, a count -/
def Stm (H : Hp) (a : Addr) : Prop := ∃ (c : Addr) (p g n : Int) (ns : List Int), H a = some (.lst [.ref c, .int p, .int g, .int n]) ∧ 0 ≤ p ∧ 0 ≤ g ∧ H c = some (.lst (ns.map V.int)) ∧ 0 < ns.length
/-- all but a stands -/
def But (a : Addr) (H H' : Hp) : Prop := ∀ b o, b ≠ a → H b = some o → H' b = some o
theorem But.refl (a : Addr) (H : Hp) : But a H H := fun _ _ _ h => h
theorem But.trans {a : Addr} {H H1 H2 : Hp} (x : But a H H1) (y : But a H1 H2) : But a H H2 := fun b o n h => y b o n (x b o n h)
theorem But.upd {a : Addr} {H : Hp} {o : HO} : But a H (upd H a o) := fun b u n h => by
  rw [upd_ne n]
  exact h
theorem But.new {a : Addr} {H H1 : Hp} {p : Addr} {o : HO} (x : But a H H1) (hp : H1 p = none) : But a H (L2.upd H1 p o) := fun b u n h => by
  rw [upd_ne (ne_of_none (x b u n h) hp)]
  exact x b u n h
theorem _root_.L2.Same.but {a : Addr} {H H1 : Hp} (x : Same H H1) : But a H H1 := fun b o _ h => x b o h
theorem same_new {H : Hp} {p : Addr} {o : HO} (h : H p = none) : Same H (upd H p o) := fun b u e => by
  rw [upd_ne (ne_of_none e h)]
  exact e
theorem _root_.L2.Same.new {H H1 : Hp} {p : Addr} {o : HO} (x : Same H H1) (h : H1 p = none) : Same H (upd H1 p o) := x.trans (same_new h)
theorem Stm.keep {H H' : Hp} {a : Addr} (s : Stm H a) (x : Same H H') : Stm H' a := by
  obtain ⟨c, p, g, n, ns, h1, h2, h3, h4, h5⟩ := s
  exact ⟨c, p, g, n, ns, x _ _ h1, h2, h3, x _ _ h4, h5⟩
theorem Stm.ne {H : Hp} {a p : Addr} (s : Stm H a) (h : H p = none) : p ≠ a := by
  obtain ⟨c, p, g, n, ns, h1, _⟩ := s
  exact (ne_of_none h1 h).symm
theorem stm_ca {H : Hp} {a c : Addr} {p g n : Int} {ns : List Int} (h1 : H a = some (.lst [.ref c, .int p, .int g, .int n])) (h4 : H c = some (.lst (ns.map V.int))) : c ≠ a := fun e => by
  rw [e, h1] at h4
  cases ns with
  | nil => cases h4
  | cons x r => cases h4
/-! what the drawing defs promise -/
def sp_mixed : Sp := fun vs H Q _ => ∃ c k : Int, vs = [.int c, .int k] ∧ ∀ d : Int, Q (.int d) H
def sp_great (K : PySem.W.Frag) : Sp := fun vs H Q _ => ∃ (c : Addr) (p : Int) (ns : List Int), vs = [.ref c, .int p] ∧ SqL K H c (ns.map V.int) ∧ 0 ≤ p ∧ ∀ g : Int, 0 ≤ g → Q (.int g) H
def sp_stream (K : PySem.W.Frag) : Sp := fun vs H Q _ => ∃ (a : Addr) (ns : List Int), vs = [.ref a] ∧ SqL K H a (ns.map V.int) ∧ ∀ H' p, Same H H' → H p = none → Stm H' p → Q (.ref p) H'
def sp_take : Sp := fun vs H Q _ => ∃ (a : Addr) (m : Int), vs = [.ref a, .int m] ∧ (0 < m ∧ m.natAbs.log2 < 9000) ∧ Stm H a ∧ ∀ H' (d : Int), But a H H' → Stm H' a → 0 ≤ d → d < m → Q (.int d) H'
/-- an int below 10 ^ 39 in size -/
def sp_whole : Sp := fun vs H Q _ => ∃ (a : Addr), vs = [.ref a] ∧ Stm H a ∧ ∀ H' (n : Int), But a H H' → Stm H' a → n.natAbs < 1000000000000000000000000000000000000000 → Q (.int n) H'

/-! items by a written place -/
theorem at0 {x : V} {r : List V} : atI (x :: r) 0 = some x := atI_nat (j := 0) rfl
theorem at1 {x0 : V} {x : V} {r : List V} : atI (x0 :: x :: r) 1 = some x := atI_nat (j := 1) rfl
theorem at2 {x0 x1 : V} {x : V} {r : List V} : atI (x0 :: x1 :: x :: r) 2 = some x := atI_nat (j := 2) rfl
theorem at3 {x0 x1 x2 : V} {x : V} {r : List V} : atI (x0 :: x1 :: x2 :: x :: r) 3 = some x := atI_nat (j := 3) rfl
theorem at4 {x0 x1 x2 x3 : V} {x : V} {r : List V} : atI (x0 :: x1 :: x2 :: x3 :: x :: r) 4 = some x := atI_nat (j := 4) rfl
theorem at5 {x0 x1 x2 x3 x4 : V} {x : V} {r : List V} : atI (x0 :: x1 :: x2 :: x3 :: x4 :: x :: r) 5 = some x := atI_nat (j := 5) rfl
theorem at6 {x0 x1 x2 x3 x4 x5 : V} {x : V} {r : List V} : atI (x0 :: x1 :: x2 :: x3 :: x4 :: x5 :: x :: r) 6 = some x := atI_nat (j := 6) rfl
theorem at7 {x0 x1 x2 x3 x4 x5 x6 : V} {x : V} {r : List V} : atI (x0 :: x1 :: x2 :: x3 :: x4 :: x5 :: x6 :: x :: r) 7 = some x := atI_nat (j := 7) rfl
theorem at8 {x0 x1 x2 x3 x4 x5 x6 x7 : V} {x : V} {r : List V} : atI (x0 :: x1 :: x2 :: x3 :: x4 :: x5 :: x6 :: x7 :: x :: r) 8 = some x := atI_nat (j := 8) rfl
theorem at9 {x0 x1 x2 x3 x4 x5 x6 x7 x8 : V} {x : V} {r : List V} : atI (x0 :: x1 :: x2 :: x3 :: x4 :: x5 :: x6 :: x7 :: x8 :: x :: r) 9 = some x := atI_nat (j := 9) rfl
theorem at10 {x0 x1 x2 x3 x4 x5 x6 x7 x8 x9 : V} {x : V} {r : List V} : atI (x0 :: x1 :: x2 :: x3 :: x4 :: x5 :: x6 :: x7 :: x8 :: x9 :: x :: r) 10 = some x := atI_nat (j := 10) rfl
theorem at11 {x0 x1 x2 x3 x4 x5 x6 x7 x8 x9 x10 : V} {x : V} {r : List V} : atI (x0 :: x1 :: x2 :: x3 :: x4 :: x5 :: x6 :: x7 :: x8 :: x9 :: x10 :: x :: r) 11 = some x := atI_nat (j := 11) rfl
theorem at12 {x0 x1 x2 x3 x4 x5 x6 x7 x8 x9 x10 x11 : V} {x : V} {r : List V} : atI (x0 :: x1 :: x2 :: x3 :: x4 :: x5 :: x6 :: x7 :: x8 :: x9 :: x10 :: x11 :: x :: r) 12 = some x := atI_nat (j := 12) rfl
theorem at13 {x0 x1 x2 x3 x4 x5 x6 x7 x8 x9 x10 x11 x12 : V} {x : V} {r : List V} : atI (x0 :: x1 :: x2 :: x3 :: x4 :: x5 :: x6 :: x7 :: x8 :: x9 :: x10 :: x11 :: x12 :: x :: r) 13 = some x := atI_nat (j := 13) rfl
theorem at14 {x0 x1 x2 x3 x4 x5 x6 x7 x8 x9 x10 x11 x12 x13 : V} {x : V} {r : List V} : atI (x0 :: x1 :: x2 :: x3 :: x4 :: x5 :: x6 :: x7 :: x8 :: x9 :: x10 :: x11 :: x12 :: x13 :: x :: r) 14 = some x := atI_nat (j := 14) rfl
theorem at15 {x0 x1 x2 x3 x4 x5 x6 x7 x8 x9 x10 x11 x12 x13 x14 : V} {x : V} {r : List V} : atI (x0 :: x1 :: x2 :: x3 :: x4 :: x5 :: x6 :: x7 :: x8 :: x9 :: x10 :: x11 :: x12 :: x13 :: x14 :: x :: r) 15 = some x := atI_nat (j := 15) rfl

theorem ixN_lt {n : Nat} {i : Int} {j : Nat} (e : i = (j : Int)) (h : j < n) : ixN n i = some j := by
  unfold ixN
  rw [if_pos (by omega), if_pos (by omega)]
  congr 1
  omega
theorem at_get {xs : List V} {i : Int} {j : Nat} (e : i = (j : Int)) (h : j < xs.length) : atI xs i = some xs[j] := by
  subst e
  exact atI_nat (List.getElem?_eq_getElem h)
theorem at_ints {ns : List Int} {i : Int} (h0 : 0 ≤ i) (h : i < (ns.length : Int)) : ∃ n, atI (ns.map V.int) i = some (.int n) := by
  obtain ⟨j, rfl⟩ := Int.eq_ofNat_of_zero_le h0
  have hj : j < ns.length := by omega
  refine ⟨ns[j], ?_⟩
  refine atI_nat ?_
  rw [List.getElem?_map, List.getElem?_eq_getElem hj]
  rfl
theorem w_set0 {H : Hp} {Q : Hp → Prop} {p : Addr} {y : V} {x : V} {r : List V} (e : H p = some (.lst (x :: r))) (h : Q (upd H p (.lst (y :: r)))) : rSetL (.ref p) (.int 0) y H Q := ⟨p, _, 0, 0, rfl, rfl, e, ixN_lt rfl (by simp), h⟩
theorem w_set1 {H : Hp} {Q : Hp → Prop} {p : Addr} {y : V} {x0 : V} {x : V} {r : List V} (e : H p = some (.lst (x0 :: x :: r))) (h : Q (upd H p (.lst (x0 :: y :: r)))) : rSetL (.ref p) (.int 1) y H Q := ⟨p, _, 1, 1, rfl, rfl, e, ixN_lt rfl (by simp), h⟩
theorem w_set2 {H : Hp} {Q : Hp → Prop} {p : Addr} {y : V} {x0 x1 : V} {x : V} {r : List V} (e : H p = some (.lst (x0 :: x1 :: x :: r))) (h : Q (upd H p (.lst (x0 :: x1 :: y :: r)))) : rSetL (.ref p) (.int 2) y H Q := ⟨p, _, 2, 2, rfl, rfl, e, ixN_lt rfl (by simp), h⟩
theorem w_set3 {H : Hp} {Q : Hp → Prop} {p : Addr} {y : V} {x0 x1 x2 : V} {x : V} {r : List V} (e : H p = some (.lst (x0 :: x1 :: x2 :: x :: r))) (h : Q (upd H p (.lst (x0 :: x1 :: x2 :: y :: r)))) : rSetL (.ref p) (.int 3) y H Q := ⟨p, _, 3, 3, rfl, rfl, e, ixN_lt rfl (by simp), h⟩
theorem w_set4 {H : Hp} {Q : Hp → Prop} {p : Addr} {y : V} {x0 x1 x2 x3 : V} {x : V} {r : List V} (e : H p = some (.lst (x0 :: x1 :: x2 :: x3 :: x :: r))) (h : Q (upd H p (.lst (x0 :: x1 :: x2 :: x3 :: y :: r)))) : rSetL (.ref p) (.int 4) y H Q := ⟨p, _, 4, 4, rfl, rfl, e, ixN_lt rfl (by simp), h⟩
theorem w_set5 {H : Hp} {Q : Hp → Prop} {p : Addr} {y : V} {x0 x1 x2 x3 x4 : V} {x : V} {r : List V} (e : H p = some (.lst (x0 :: x1 :: x2 :: x3 :: x4 :: x :: r))) (h : Q (upd H p (.lst (x0 :: x1 :: x2 :: x3 :: x4 :: y :: r)))) : rSetL (.ref p) (.int 5) y H Q := ⟨p, _, 5, 5, rfl, rfl, e, ixN_lt rfl (by simp), h⟩
theorem w_set6 {H : Hp} {Q : Hp → Prop} {p : Addr} {y : V} {x0 x1 x2 x3 x4 x5 : V} {x : V} {r : List V} (e : H p = some (.lst (x0 :: x1 :: x2 :: x3 :: x4 :: x5 :: x :: r))) (h : Q (upd H p (.lst (x0 :: x1 :: x2 :: x3 :: x4 :: x5 :: y :: r)))) : rSetL (.ref p) (.int 6) y H Q := ⟨p, _, 6, 6, rfl, rfl, e, ixN_lt rfl (by simp), h⟩
theorem w_set7 {H : Hp} {Q : Hp → Prop} {p : Addr} {y : V} {x0 x1 x2 x3 x4 x5 x6 : V} {x : V} {r : List V} (e : H p = some (.lst (x0 :: x1 :: x2 :: x3 :: x4 :: x5 :: x6 :: x :: r))) (h : Q (upd H p (.lst (x0 :: x1 :: x2 :: x3 :: x4 :: x5 :: x6 :: y :: r)))) : rSetL (.ref p) (.int 7) y H Q := ⟨p, _, 7, 7, rfl, rfl, e, ixN_lt rfl (by simp), h⟩
theorem w_set8 {H : Hp} {Q : Hp → Prop} {p : Addr} {y : V} {x0 x1 x2 x3 x4 x5 x6 x7 : V} {x : V} {r : List V} (e : H p = some (.lst (x0 :: x1 :: x2 :: x3 :: x4 :: x5 :: x6 :: x7 :: x :: r))) (h : Q (upd H p (.lst (x0 :: x1 :: x2 :: x3 :: x4 :: x5 :: x6 :: x7 :: y :: r)))) : rSetL (.ref p) (.int 8) y H Q := ⟨p, _, 8, 8, rfl, rfl, e, ixN_lt rfl (by simp), h⟩
theorem w_set9 {H : Hp} {Q : Hp → Prop} {p : Addr} {y : V} {x0 x1 x2 x3 x4 x5 x6 x7 x8 : V} {x : V} {r : List V} (e : H p = some (.lst (x0 :: x1 :: x2 :: x3 :: x4 :: x5 :: x6 :: x7 :: x8 :: x :: r))) (h : Q (upd H p (.lst (x0 :: x1 :: x2 :: x3 :: x4 :: x5 :: x6 :: x7 :: x8 :: y :: r)))) : rSetL (.ref p) (.int 9) y H Q := ⟨p, _, 9, 9, rfl, rfl, e, ixN_lt rfl (by simp), h⟩
theorem w_set10 {H : Hp} {Q : Hp → Prop} {p : Addr} {y : V} {x0 x1 x2 x3 x4 x5 x6 x7 x8 x9 : V} {x : V} {r : List V} (e : H p = some (.lst (x0 :: x1 :: x2 :: x3 :: x4 :: x5 :: x6 :: x7 :: x8 :: x9 :: x :: r))) (h : Q (upd H p (.lst (x0 :: x1 :: x2 :: x3 :: x4 :: x5 :: x6 :: x7 :: x8 :: x9 :: y :: r)))) : rSetL (.ref p) (.int 10) y H Q := ⟨p, _, 10, 10, rfl, rfl, e, ixN_lt rfl (by simp), h⟩
theorem w_set11 {H : Hp} {Q : Hp → Prop} {p : Addr} {y : V} {x0 x1 x2 x3 x4 x5 x6 x7 x8 x9 x10 : V} {x : V} {r : List V} (e : H p = some (.lst (x0 :: x1 :: x2 :: x3 :: x4 :: x5 :: x6 :: x7 :: x8 :: x9 :: x10 :: x :: r))) (h : Q (upd H p (.lst (x0 :: x1 :: x2 :: x3 :: x4 :: x5 :: x6 :: x7 :: x8 :: x9 :: x10 :: y :: r)))) : rSetL (.ref p) (.int 11) y H Q := ⟨p, _, 11, 11, rfl, rfl, e, ixN_lt rfl (by simp), h⟩
theorem w_set12 {H : Hp} {Q : Hp → Prop} {p : Addr} {y : V} {x0 x1 x2 x3 x4 x5 x6 x7 x8 x9 x10 x11 : V} {x : V} {r : List V} (e : H p = some (.lst (x0 :: x1 :: x2 :: x3 :: x4 :: x5 :: x6 :: x7 :: x8 :: x9 :: x10 :: x11 :: x :: r))) (h : Q (upd H p (.lst (x0 :: x1 :: x2 :: x3 :: x4 :: x5 :: x6 :: x7 :: x8 :: x9 :: x10 :: x11 :: y :: r)))) : rSetL (.ref p) (.int 12) y H Q := ⟨p, _, 12, 12, rfl, rfl, e, ixN_lt rfl (by simp), h⟩

/-! ### a call by keywords alone, of a def that may raise -/
structure KB0 (K : PySem.W.Frag) (fd : FuncData) (ps ks : List Str) (g : {α : Type} → List α → List α) : Prop where
  to : ∀ (s : Shared) (ws : List Value), ws.length = ks.length → BindsTo s fd ⟨[], ks.zip ws⟩ (ps.zip (g ws))
  rel : ∀ {zs : List V} {ws : List Value}, Vals zs ws → zs.length = ks.length → Vals (g zs) (g ws)
def tCallKS (sp : Sp) (n : Nat) (g : {α : Type} → List α → List α) (E : L2.St → XK) (tk : TA) : TE := fun σ H Q => tk σ H fun zs H1 => zs.length = n ∧ sp (g zs) H1 Q (E σ)
section
variable {X : Cx} {CX : CXT} {k : Nat} {f : Addr} {fd : FuncData} {ps ks : List Str} {sp : Sp} {E : L2.St → XK} {x : Str} {p pos : Pos} {kws : List Keyword} {tk : TA} {g : {α : Type} → List α → List α}
theorem pe_kwS (F : FnOk X.prog X.w X.K X.mg X.base CX k f fd ps sp) (hr : Room k X.A) (hg : Gl X x) (hm : X.mg x = some (.ref f)) (hk : PySem.W.keepIn X.K (.ref f) = true) (hb : KB0 X.K fd ps ks g) (hx : ∀ σ, PassesAt CX X σ (E σ))
    (hkw : PK X kws tk) (hall : (backToKw pos (keywordEach kws X.env)).all (·.1.isSome) = true := by rfl) (hks : (backToKw pos (keywordEach kws X.env)).filterMap (·.1) = ks := by rfl)
    (hdb : (x == ("__debug__" : Str)) = false := by decide) (hpl : ((backTo pos (starEach [] X.env)).any (·.1) || (backToKw pos (keywordEach kws X.env)).any (·.1.isNone)) = false := by rfl) :
    PE X (.Call (.Name x p) [] kws pos) (tCallKS sp ks.length g E tk) := by
  refine ⟨fun pins s σ H Q I h => ?_⟩
  refine wpAny_Call_Name_kw (ld_glob I hg hm ?_ hdb)
  refine PySem.W.callWith_KW0 (h₀ := X.base) I.ok.mod.kin hk hall (thn (hkw.run pos pins s σ H _ I h) fun ws s2 ⟨zs, H2, I2, rz, hl, q2⟩ => ⟨I2.kIn, ?_⟩) hpl
  rw [hks, List.append_nil]
  have r2 := hb.rel rz hl
  refine wpAny_call (codeAny_mono (F.run X.A X.stack s2 H2 ⟨[], ks.zip ws⟩ (g ws) (g zs) Q (E σ) hr I2.env0 (hb.to s2 ws (rz.length.symm.trans hl)) r2 q2) fun r s' hq => ?_)
  cases r with
  | error e => exact hx σ pins H2 s2 e s' I2 hq
  | ok fl =>
    cases fl with
    | ret u => exact I2.after hq
    | next => exact False.elim hq
    | brk => exact False.elim hq
    | cont => exact False.elim hq
end
theorem w_kws {sp : Sp} {n : Nat} {g : {α : Type} → List α → List α} {E : L2.St → XK} {tk : TA} {σ : L2.St} {H : Hp} {Q : VK} (h : tk σ H fun zs H1 => zs.length = n ∧ sp (g zs) H1 Q (E σ)) : tCallKS sp n g E tk σ H Q := h
theorem w_callS {sp : Sp} {E : L2.St → XK} {t : TA} {σ : L2.St} {H : Hp} {Q : VK} (h : t σ H fun vs H1 => sp vs H1 Q (E σ)) : tCallS sp E t σ H Q := h
/-! ### things: a value that bears a datum; no part of it is the object at sa -/
mutual
inductive Rp (sa : Addr) (H : Hp) : V → PyData → Prop
  | non : Rp sa H .non .none
  | bl (b : Bool) : Rp sa H (.bl b) (.bool b)
  | int (i : Int) : Rp sa H (.int i) (.int i)
  | str (x : Str) : Rp sa H (.str x) (.str x)
  | lst {a : Addr} {xs : List V} {ds : List PyData} (n : a ≠ sa) (h : H a = some (.lst xs)) (r : Rps sa H xs ds) : Rp sa H (.ref a) (.list ds)
  | tup {a : Addr} {xs : List V} {ds : List PyData} (n : a ≠ sa) (h : H a = some (.tup xs)) (r : Rps sa H xs ds) : Rp sa H (.ref a) (.tuple ds)
  | dct {a : Addr} (n : a ≠ sa) (h : H a = some (.dK [])) : Rp sa H (.ref a) (.dict [])
inductive Rps (sa : Addr) (H : Hp) : List V → List PyData → Prop
  | nil : Rps sa H [] []
  | cons {v : V} {vs : List V} {d : PyData} {ds : List PyData} (h : Rp sa H v d) (t : Rps sa H vs ds) : Rps sa H (v :: vs) (d :: ds)
end
mutual
theorem Rp.but {sa : Addr} {H H' : Hp} (b : But sa H H') : ∀ {v : V} {d : PyData}, Rp sa H v d → Rp sa H' v d
  | _, _, .non => .non
  | _, _, .bl b => .bl b
  | _, _, .int i => .int i
  | _, _, .str x => .str x
  | _, _, .lst n h r => .lst n (b _ _ n h) (Rps.but b r)
  | _, _, .tup n h r => .tup n (b _ _ n h) (Rps.but b r)
  | _, _, .dct n h => .dct n (b _ _ n h)
theorem Rps.but {sa : Addr} {H H' : Hp} (b : But sa H H') : ∀ {vs : List V} {ds : List PyData}, Rps sa H vs ds → Rps sa H' vs ds
  | _, _, .nil => .nil
  | _, _, .cons h t => .cons (Rp.but b h) (Rps.but b t)
end
theorem Rp.same {sa : Addr} {H H' : Hp} {v : V} {d : PyData} (r : Rp sa H v d) (b : Same H H') : Rp sa H' v d := r.but b.but
mutual
def noDict : PyData → Bool
  | .list ds => noDicts ds
  | .tuple ds => noDicts ds
  | .dict _ => false
  | _ => true
def noDicts : List PyData → Bool
  | [] => true
  | d :: ds => noDict d && noDicts ds
end
mutual
theorem Rp.dp {K : PySem.W.Frag} {sa : Addr} {H : Hp} : ∀ {v : V} {d : PyData}, Rp sa H v d → noDict d = true → Dp K H v d
  | _, _, .non, _ => .non
  | _, _, .bl b, _ => .bl b
  | _, _, .int i, _ => .int i
  | _, _, .str x, _ => .str x
  | _, _, .lst n h r, e => .lst (SqL.of h) (Rps.dp r e)
  | _, _, .tup n h r, e => .tup (SqT.of h) (Rps.dp r e)
  | _, _, .dct n h, e => nomatch e
theorem Rps.dp {K : PySem.W.Frag} {sa : Addr} {H : Hp} : ∀ {vs : List V} {ds : List PyData}, Rps sa H vs ds → noDicts ds = true → DpAll K H vs ds
  | _, _, .nil, _ => .nil
  | _, _, .cons h t, e => .cons (Rp.dp h (by
      unfold noDicts at e
      exact (Bool.and_eq_true _ _ ▸ e).1)) (Rps.dp t (by
      unfold noDicts at e
      exact (Bool.and_eq_true _ _ ▸ e).2))
end

/-- the name of a datum's type -/
def tyD : PyData → String
  | .none => "NoneType"
  | .bool _ => "bool"
  | .int _ => "int"
  | .str _ => "str"
  | .list _ => "list"
  | .tuple _ => "tuple"
  | .dict _ => "dict"
theorem Rp.ty {K : PySem.W.Frag} {sa : Addr} {H : Hp} {v : V} {d : PyData} (r : Rp sa H v d) : TyX K H v (.type (tyD d)) := by
  cases r with
  | non => exact .base .non
  | bl b => exact .base (.bl b)
  | int i => exact .base (.int i)
  | str x => exact .base (.str x)
  | lst n h r => exact .base (.lst h)
  | tup n h r => exact .base (.tup h)
  | dct n h => exact .base (.dK h)
/-- an error of the class at S is what «except S» names -/
theorem exm_own {K : PySem.W.Frag} {S : Addr} (h1 : PySem.W.subIn K (.ref S) (.type "BaseException") = some true) (h2 : PySem.W.isClsIn K S = true) (h3 : PySem.W.typeIn K (.ref S) = some (.type "type")) (h4 : PySem.W.subIn K (.ref S) (.ref S) = some true) :
    PySem.W.exmOne K (.ref S) (.ref S) = some true := by
  have z1 : (PySem.W.subIn K (.ref S) (.type "BaseException") == some true) = true := by
    rw [h1]
    rfl
  have z2 : ((PySem.W.clsIn K S).isSome && PySem.W.typeIn K (.ref S) == some (.type "type")) = true := by
    have q : (PySem.W.clsIn K S).isSome = true := h2
    rw [q, h3]
    rfl
  show (if (PySem.W.subIn K (.ref S) (.type "BaseException") == some true) = true then PySem.W.kitCls K (.ref S) (.ref S) else none) = some true
  rw [if_pos z1]
  show (if ((PySem.W.clsIn K S).isSome && PySem.W.typeIn K (.ref S) == some (.type "type")) = true then PySem.W.subIn K (.ref S) (.ref S) else none) = some true
  rw [if_pos z2]
  exact h4
/-! ### the ground under a def: what stood stands (but for the stream), the things at hand bear their data -/
structure Wd (b : Bool) (sa : Addr) (H0 H : Hp) (vs : List V) (ds : List PyData) : Prop where
  but : But sa H0 H
  same : b = false → Same H0 H
  st : b = true → Stm H sa
  tr : ∃ o, H sa = some o
  r : Rps sa H vs ds
theorem Stm.tr {H : Hp} {a : Addr} (s : Stm H a) : ∃ o, H a = some o := by
  obtain ⟨c, p, g, n, ns, h1, _⟩ := s
  exact ⟨_, h1⟩
/-- v bears d among the things at hand -/
inductive In2 : V → PyData → List V → List PyData → Prop
  | here {v : V} {d : PyData} {vs : List V} {ds : List PyData} : In2 v d (v :: vs) (d :: ds)
  | there {v w : V} {d e : PyData} {vs : List V} {ds : List PyData} (h : In2 v d vs ds) : In2 v d (w :: vs) (e :: ds)
section
variable {b : Bool} {sa : Addr} {H0 H H' : Hp} {vs : List V} {ds : List PyData} {v : V} {d : PyData} {K : PySem.W.Frag}
theorem In2.rp (m : In2 v d vs ds) (r : Rps sa H vs ds) : Rp sa H v d := by
  induction m with
  | here => cases r with | cons h t => exact h
  | there m ih => cases r with | cons h t => exact ih t
theorem Wd.get (W : Wd b sa H0 H vs ds) (m : In2 v d vs ds) : Rp sa H v d := m.rp W.r
theorem Wd.go (W : Wd b sa H0 H vs ds) (s : Same H H') : Wd b sa H0 H' vs ds := ⟨W.but.trans s.but, fun e => (W.same e).trans s, fun e => (W.st e).keep s, (let ⟨o, e⟩ := W.tr; ⟨o, s _ _ e⟩), W.r.but s.but⟩
theorem Wd.put (W : Wd b sa H0 H vs ds) (r : Rp sa H v d) : Wd b sa H0 H (v :: vs) (d :: ds) := ⟨W.but, W.same, W.st, W.tr, .cons r W.r⟩
theorem Wd.sub (W : Wd b sa H0 H vs ds) {vs' : List V} {ds' : List PyData} (r : Rps sa H vs' ds') : Wd b sa H0 H vs' ds' := ⟨W.but, W.same, W.st, W.tr, r⟩
theorem Wd.draw (W : Wd true sa H0 H vs ds) (x : But sa H H') (s : Stm H' sa) : Wd true sa H0 H' vs ds := ⟨W.but.trans x, fun e => (nomatch e), fun _ => s, s.tr, W.r.but x⟩
theorem wd_start (t : ∃ o, H sa = some o) (r : Rps sa H vs ds) : Wd false sa H H vs ds := ⟨But.refl _ _, fun _ => Same.refl _, fun e => (nomatch e), t, r⟩
theorem wd_startS (s : Stm H sa) (r : Rps sa H vs ds) : Wd true sa H H vs ds := ⟨But.refl _ _, fun e => (nomatch e), fun _ => s, s.tr, r⟩
/-- a new object is not the stream -/
theorem Wd.ne (W : Wd b sa H0 H vs ds) {p : Addr} (h : H p = none) : p ≠ sa := by
  obtain ⟨o, e⟩ := W.tr
  exact (ne_of_none e h).symm
end
/-- what is asked of a value that bears d: scalars are known -/
def VS (d : PyData) (F : V → Prop) : Prop := match d with
  | .none => F .non
  | .bool b => F (.bl b)
  | .int i => F (.int i)
  | .str s => F (.str s)
  | .list _ => ∀ p, F (.ref p)
  | .tuple _ => ∀ p, F (.ref p)
  | .dict _ => ∀ p, F (.ref p)
theorem VS.of {sa : Addr} {H : Hp} {v : V} {d : PyData} {F : V → Prop} (h : VS d F) (r : Rp sa H v d) : F v := by
  cases r with
  | non => exact h
  | bl b => exact h
  | int i => exact h
  | str x => exact h
  | lst n e r => exact h _
  | tup n e r => exact h _
  | dct n e => exact h _
/-! ### kinds of promises -/
/-- a def without a stream: from data to a datum -/
def Pf (pre : List PyData → Prop) (fn : List PyData → PyData) : Sp := fun vs H Q _ => ∃ (sa : Addr) (ds : List PyData), (∃ o, H sa = some o) ∧ Rps sa H vs ds ∧ pre ds ∧ ∀ H' x, Same H H' → Rp sa H' x (fn ds) → Q x H'
/-- a def that draws: data in, some datum out -/
def Sf (pre : List PyData → Prop) (R : List PyData → PyData → Prop) : Sp := fun vs H Q _ => ∃ (sa : Addr) (vs' : List V) (ds : List PyData), vs = .ref sa :: vs' ∧ Stm H sa ∧ Rps sa H vs' ds ∧ pre ds ∧ ∀ H' x d, But sa H H' → Stm H' sa → Rp sa H' x d → R ds d → Q x H'
section
variable {b : Bool} {sa : Addr} {H0 H : Hp} {acc : List V} {dacc : List PyData} {Q : VK} {E : XK}
theorem call_P {pre : List PyData → Prop} {fn : List PyData → PyData} {vs : List V} {ds : List PyData} (W : Wd b sa H0 H acc dacc) (r : Rps sa H vs ds) (hp : pre ds)
    (h : ∀ H', VS (fn ds) fun x => Wd b sa H0 H' (x :: acc) (fn ds :: dacc) → Q x H') : Pf pre fn vs H Q E :=
  ⟨sa, ds, W.tr, r, hp, fun H' x s rx => (h H').of rx ((W.go s).put rx)⟩
theorem call_S {pre : List PyData → Prop} {R : List PyData → PyData → Prop} {vs : List V} {ds : List PyData} (W : Wd true sa H0 H acc dacc) (r : Rps sa H vs ds) (hp : pre ds)
    (h : ∀ H' x d, Wd true sa H0 H' (x :: acc) (d :: dacc) → R ds d → Q x H') : Sf pre R (.ref sa :: vs) H Q E :=
  ⟨sa, vs, ds, rfl, W.st rfl, r, hp, fun H' x d bb s rx hR => h H' x d ((W.draw bb s).put rx) hR⟩
/-- int(stream's digit) -/
theorem call_tk {m : Int} (W : Wd true sa H0 H acc dacc) (hm : 0 < m) (hl : m.natAbs.log2 < 9000) (h : ∀ H' (d : Int), Wd true sa H0 H' acc dacc → 0 ≤ d → d < m → Q (.int d) H') : sp_take [.ref sa, .int m] H Q E :=
  ⟨sa, m, rfl, ⟨hm, hl⟩, W.st rfl, fun H' d bb s d0 d1 => h H' d (W.draw bb s) d0 d1⟩
theorem call_wh (W : Wd true sa H0 H acc dacc) (h : ∀ H' (n : Int), Wd true sa H0 H' acc dacc → n.natAbs < 1000000000000000000000000000000000000000 → Q (.int n) H') : sp_whole [.ref sa] H Q E :=
  ⟨sa, rfl, W.st rfl, fun H' d bb s d0 => h H' d (W.draw bb s) d0⟩
/-! ### new tuples, lists, dicts -/
def NT (Q : VK) (xs : List V) (H : Hp) : Prop := xs.length ≤ sizeLine ∧ ∀ p, H p = none → Q (.ref p) (upd H p (.tup xs))
def NL (Q : VK) (xs : List V) (H : Hp) : Prop := xs.length ≤ sizeLine ∧ ∀ p, H p = none → Q (.ref p) (upd H p (.lst xs))
def ND (Q : VK) (H : Hp) : Prop := ∀ p, H p = none → Q (.ref p) (upd H p (.dK []))
theorem w_tupN {tt : TA} {σ : L2.St} (h : tt σ H fun xs H1 => NT Q xs H1) : tTup tt σ H Q := h
theorem w_lstN {tt : TA} {σ : L2.St} (h : tt σ H fun xs H1 => NL Q xs H1) : tLst tt σ H Q := h
theorem nt_mk {xs : List V} (h : ∀ p, H p = none → Q (.ref p) (upd H p (.tup xs))) (hl : xs.length.ble 1000 = true := by rfl) : NT Q xs H := w_new h hl
theorem nl_mk {xs : List V} (h : ∀ p, H p = none → Q (.ref p) (upd H p (.lst xs))) (hl : xs.length.ble 1000 = true := by rfl) : NL Q xs H := w_new h hl
theorem n_tup {xs : List V} {ds : List PyData} (W : Wd b sa H0 H acc dacc) (r : Rps sa H xs ds) (hl : xs.length.ble 1000 = true) (h : ∀ H' p, Wd b sa H0 H' (.ref p :: acc) (.tuple ds :: dacc) → Q (.ref p) H') : NT Q xs H :=
  ⟨Nat.le_of_lt (small1000 (Nat.le_of_ble_eq_true hl)), fun p np => h _ p ((W.go (same_new np)).put (.tup (W.ne np) upd_same (r.but (same_new np).but)))⟩
theorem n_lst {xs : List V} {ds : List PyData} (W : Wd b sa H0 H acc dacc) (r : Rps sa H xs ds) (hl : xs.length.ble 1000 = true) (h : ∀ H' p, Wd b sa H0 H' (.ref p :: acc) (.list ds :: dacc) → Q (.ref p) H') : NL Q xs H :=
  ⟨Nat.le_of_lt (small1000 (Nat.le_of_ble_eq_true hl)), fun p np => h _ p ((W.go (same_new np)).put (.lst (W.ne np) upd_same (r.but (same_new np).but)))⟩
theorem n_dct (W : Wd b sa H0 H acc dacc) (h : ∀ H' p, Wd b sa H0 H' (.ref p :: acc) (.dict [] :: dacc) → Q (.ref p) H') : ND Q H :=
  fun p np => h _ p ((W.go (same_new np)).put (.dct (W.ne np) upd_same))
/-! ### reading an item of a thing -/
theorem rps_at {vs : List V} {ds : List PyData} {j : Nat} {d : PyData} (r : Rps sa H vs ds) (e : ds[j]? = some d) : ∃ v, vs[j]? = some v ∧ Rp sa H v d := by
  induction ds generalizing vs j with
  | nil => simp at e
  | cons d0 ds ih =>
    cases r with
    | cons h t =>
      cases j with
      | zero =>
        simp at e
        subst e
        exact ⟨_, rfl, h⟩
      | succ j =>
        simp at e
        obtain ⟨v, e1, r1⟩ := ih t e
        exact ⟨v, by simpa using e1, r1⟩
theorem x_tup {K : PySem.W.Frag} {p : Addr} {ds : List PyData} {j : Nat} {d : PyData} {i : Int} (W : Wd b sa H0 H acc dacc) (m : In2 (.ref p) (.tuple ds) acc dacc) (hi : i = (j : Int)) (e : ds[j]? = some d)
    (h : VS d fun x => Wd b sa H0 H (x :: acc) (d :: dacc) → Q x H) : rIxT K (.ref p) (.int i) H Q := by
  subst hi
  cases W.get m with
  | @tup _ xs _ n hx r =>
    obtain ⟨v, e1, r1⟩ := rps_at r e
    exact ⟨p, xs, j, v, rfl, rfl, SqT.of hx, atI_nat e1, h.of r1 (W.put r1)⟩
theorem x_lst {K : PySem.W.Frag} {p : Addr} {ds : List PyData} {j : Nat} {d : PyData} {i : Int} (W : Wd b sa H0 H acc dacc) (m : In2 (.ref p) (.list ds) acc dacc) (hi : i = (j : Int)) (e : ds[j]? = some d)
    (h : VS d fun x => Wd b sa H0 H (x :: acc) (d :: dacc) → Q x H) : rIxL K (.ref p) (.int i) H Q := by
  subst hi
  cases W.get m with
  | @lst _ xs _ n hx r =>
    obtain ⟨v, e1, r1⟩ := rps_at r e
    exact ⟨p, xs, j, v, rfl, rfl, SqL.of hx, atI_nat e1, h.of r1 (W.put r1)⟩
theorem Rps.app {vs ws : List V} {ds es : List PyData} (r : Rps sa H vs ds) (t : Rps sa H ws es) : Rps sa H (vs ++ ws) (ds ++ es) := by
  induction ds generalizing vs with
  | nil => cases r; exact t
  | cons d ds ih =>
    cases r with
    | cons h k => exact .cons h (ih k)
/-- an item at a place that is not known -/
theorem x_some {K : PySem.W.Frag} {p : Addr} {ds : List PyData} {i : Int} (W : Wd b sa H0 H acc dacc) (m : In2 (.ref p) (.list ds) acc dacc) (h0 : 0 ≤ i) (h1 : i < (ds.length : Int))
    (h : ∀ x d, d ∈ ds → Wd b sa H0 H (x :: acc) (d :: dacc) → Q x H) : rIxL K (.ref p) (.int i) H Q := by
  obtain ⟨j, rfl⟩ := Int.eq_ofNat_of_zero_le h0
  have hj : j < ds.length := by omega
  cases W.get m with
  | @lst _ xs _ n hx r =>
    obtain ⟨v, e1, r1⟩ := rps_at r (List.getElem?_eq_getElem hj)
    exact ⟨p, xs, j, v, rfl, rfl, SqL.of hx, atI_nat e1, h v _ (List.getElem_mem hj) (W.put r1)⟩
theorem Rps.lens {vs : List V} {ds : List PyData} (r : Rps sa H vs ds) : vs.length = ds.length := by
  induction ds generalizing vs with
  | nil => cases r; rfl
  | cons d ds ih =>
    cases r with
    | cons h t => exact congrArg (· + 1) (ih t)
theorem l_lst {K : PySem.W.Frag} {p : Addr} {ds : List PyData} (W : Wd b sa H0 H acc dacc) (m : In2 (.ref p) (.list ds) acc dacc) (h : Q (.int (ds.length : Int)) H) : rLenQ K [.ref p] H Q := by
  cases W.get m with
  | @lst _ xs _ n hx r => exact ⟨p, xs, rfl, .inl (SqL.of hx), by rw [r.lens]; exact h⟩
theorem l_tup {K : PySem.W.Frag} {p : Addr} {ds : List PyData} (W : Wd b sa H0 H acc dacc) (m : In2 (.ref p) (.tuple ds) acc dacc) (h : Q (.int (ds.length : Int)) H) : rLenQ K [.ref p] H Q := by
  cases W.get m with
  | @tup _ xs _ n hx r => exact ⟨p, xs, rfl, .inr (SqT.of hx), by rw [r.lens]; exact h⟩

/-- a list that stands: lists of the call's own, joined -/
theorem w_catL {p q : Addr} {ds es : List PyData} (W : Wd b sa H0 H acc dacc) (m : In2 (.ref p) (.list ds) acc dacc) (n : In2 (.ref q) (.list es) acc dacc) (hl : (ds.length + es.length).ble 1000 = true)
    (h : ∀ H' p, Wd b sa H0 H' (.ref p :: acc) (.list (ds ++ es) :: dacc) → Q (.ref p) H') : rCat (.ref p) (.ref q) H Q := by
  cases W.get m with
  | @lst _ xs _ n1 hx r =>
    cases W.get n with
    | @lst _ ys _ n2 hy r2 =>
      refine ⟨p, q, xs, ys, rfl, rfl, hx, hy, ?_, fun p' np => ?_⟩
      · rw [r.lens, r2.lens]
        exact Nat.le_of_lt (small1000 (Nat.le_of_ble_eq_true hl))
      · exact h _ p' ((W.go (same_new np)).put (.lst (W.ne np) upd_same ((r.app r2).but (same_new np).but)))
end

section
variable {b : Bool} {sa : Addr} {H0 H : Hp} {acc : List V} {dacc : List PyData} {Q : VK} {E : XK}
theorem w_call0 {sp : Sp} {tt : TA} {σ : L2.St} (h : tt σ H fun vs H1 => sp vs H1 Q E) : tCall sp [] E tt σ H Q := by
  show tt σ H fun vs H1 => sp (vs ++ []) H1 Q E
  have e : (fun (vs : List V) (H1 : Hp) => sp (vs ++ []) H1 Q E) = fun vs H1 => sp vs H1 Q E := by
    funext vs H1
    rw [List.append_nil]
  rw [e]
  exact h
theorem v_non {F : V → Prop} (h : F .non) : VS .none F := h
theorem v_bl {F : V → Prop} {x : Bool} (h : F (.bl x)) : VS (.bool x) F := h
theorem v_int {F : V → Prop} {x : Int} (h : F (.int x)) : VS (.int x) F := h
theorem v_str {F : V → Prop} {x : Str} (h : F (.str x)) : VS (.str x) F := h
theorem v_tup {F : V → Prop} {x : List PyData} (h : ∀ p, F (.ref p)) : VS (.tuple x) F := h
theorem v_lst {F : V → Prop} {x : List PyData} (h : ∀ p, F (.ref p)) : VS (.list x) F := h
theorem v_dct {F : V → Prop} {x : List (PyData × PyData)} (h : ∀ p, F (.ref p)) : VS (.dict x) F := h
theorem w_newD {Q : VK} {σ : L2.St} (h : ND Q H) : tDNewK σ H Q := h
theorem x_T0 {K : PySem.W.Frag} {p : Addr} {d : PyData} {r : List PyData} (W : Wd b sa H0 H acc dacc) (m : In2 (.ref p) (.tuple (d :: r)) acc dacc) (h : VS d fun x => Wd b sa H0 H (x :: acc) (d :: dacc) → Q x H) : rIxT K (.ref p) (.int 0) H Q := x_tup (j := 0) W m rfl rfl h
theorem x_T0i {K : PySem.W.Frag} {p : Addr} {n : Int} {r : List PyData} (W : Wd b sa H0 H acc dacc) (m : In2 (.ref p) (.tuple (.int n :: r)) acc dacc) (h : Q (.int n) H) : rIxT K (.ref p) (.int 0) H Q := x_tup (j := 0) W m rfl rfl (v_int fun _ => h)
theorem x_L0 {K : PySem.W.Frag} {p : Addr} {d : PyData} {r : List PyData} (W : Wd b sa H0 H acc dacc) (m : In2 (.ref p) (.list (d :: r)) acc dacc) (h : VS d fun x => Wd b sa H0 H (x :: acc) (d :: dacc) → Q x H) : rIxL K (.ref p) (.int 0) H Q := x_lst (j := 0) W m rfl rfl h
theorem x_L0i {K : PySem.W.Frag} {p : Addr} {n : Int} {r : List PyData} (W : Wd b sa H0 H acc dacc) (m : In2 (.ref p) (.list (.int n :: r)) acc dacc) (h : Q (.int n) H) : rIxL K (.ref p) (.int 0) H Q := x_lst (j := 0) W m rfl rfl (v_int fun _ => h)
theorem x_T1 {K : PySem.W.Frag} {p : Addr} {d0 : PyData} {d : PyData} {r : List PyData} (W : Wd b sa H0 H acc dacc) (m : In2 (.ref p) (.tuple (d0 :: d :: r)) acc dacc) (h : VS d fun x => Wd b sa H0 H (x :: acc) (d :: dacc) → Q x H) : rIxT K (.ref p) (.int 1) H Q := x_tup (j := 1) W m rfl rfl h
theorem x_T1i {K : PySem.W.Frag} {p : Addr} {d0 : PyData} {n : Int} {r : List PyData} (W : Wd b sa H0 H acc dacc) (m : In2 (.ref p) (.tuple (d0 :: .int n :: r)) acc dacc) (h : Q (.int n) H) : rIxT K (.ref p) (.int 1) H Q := x_tup (j := 1) W m rfl rfl (v_int fun _ => h)
theorem x_L1 {K : PySem.W.Frag} {p : Addr} {d0 : PyData} {d : PyData} {r : List PyData} (W : Wd b sa H0 H acc dacc) (m : In2 (.ref p) (.list (d0 :: d :: r)) acc dacc) (h : VS d fun x => Wd b sa H0 H (x :: acc) (d :: dacc) → Q x H) : rIxL K (.ref p) (.int 1) H Q := x_lst (j := 1) W m rfl rfl h
theorem x_L1i {K : PySem.W.Frag} {p : Addr} {d0 : PyData} {n : Int} {r : List PyData} (W : Wd b sa H0 H acc dacc) (m : In2 (.ref p) (.list (d0 :: .int n :: r)) acc dacc) (h : Q (.int n) H) : rIxL K (.ref p) (.int 1) H Q := x_lst (j := 1) W m rfl rfl (v_int fun _ => h)
theorem x_T2 {K : PySem.W.Frag} {p : Addr} {d0 d1 : PyData} {d : PyData} {r : List PyData} (W : Wd b sa H0 H acc dacc) (m : In2 (.ref p) (.tuple (d0 :: d1 :: d :: r)) acc dacc) (h : VS d fun x => Wd b sa H0 H (x :: acc) (d :: dacc) → Q x H) : rIxT K (.ref p) (.int 2) H Q := x_tup (j := 2) W m rfl rfl h
theorem x_T2i {K : PySem.W.Frag} {p : Addr} {d0 d1 : PyData} {n : Int} {r : List PyData} (W : Wd b sa H0 H acc dacc) (m : In2 (.ref p) (.tuple (d0 :: d1 :: .int n :: r)) acc dacc) (h : Q (.int n) H) : rIxT K (.ref p) (.int 2) H Q := x_tup (j := 2) W m rfl rfl (v_int fun _ => h)
theorem x_L2 {K : PySem.W.Frag} {p : Addr} {d0 d1 : PyData} {d : PyData} {r : List PyData} (W : Wd b sa H0 H acc dacc) (m : In2 (.ref p) (.list (d0 :: d1 :: d :: r)) acc dacc) (h : VS d fun x => Wd b sa H0 H (x :: acc) (d :: dacc) → Q x H) : rIxL K (.ref p) (.int 2) H Q := x_lst (j := 2) W m rfl rfl h
theorem x_L2i {K : PySem.W.Frag} {p : Addr} {d0 d1 : PyData} {n : Int} {r : List PyData} (W : Wd b sa H0 H acc dacc) (m : In2 (.ref p) (.list (d0 :: d1 :: .int n :: r)) acc dacc) (h : Q (.int n) H) : rIxL K (.ref p) (.int 2) H Q := x_lst (j := 2) W m rfl rfl (v_int fun _ => h)
theorem x_T3 {K : PySem.W.Frag} {p : Addr} {d0 d1 d2 : PyData} {d : PyData} {r : List PyData} (W : Wd b sa H0 H acc dacc) (m : In2 (.ref p) (.tuple (d0 :: d1 :: d2 :: d :: r)) acc dacc) (h : VS d fun x => Wd b sa H0 H (x :: acc) (d :: dacc) → Q x H) : rIxT K (.ref p) (.int 3) H Q := x_tup (j := 3) W m rfl rfl h
theorem x_T3i {K : PySem.W.Frag} {p : Addr} {d0 d1 d2 : PyData} {n : Int} {r : List PyData} (W : Wd b sa H0 H acc dacc) (m : In2 (.ref p) (.tuple (d0 :: d1 :: d2 :: .int n :: r)) acc dacc) (h : Q (.int n) H) : rIxT K (.ref p) (.int 3) H Q := x_tup (j := 3) W m rfl rfl (v_int fun _ => h)
theorem x_L3 {K : PySem.W.Frag} {p : Addr} {d0 d1 d2 : PyData} {d : PyData} {r : List PyData} (W : Wd b sa H0 H acc dacc) (m : In2 (.ref p) (.list (d0 :: d1 :: d2 :: d :: r)) acc dacc) (h : VS d fun x => Wd b sa H0 H (x :: acc) (d :: dacc) → Q x H) : rIxL K (.ref p) (.int 3) H Q := x_lst (j := 3) W m rfl rfl h
theorem x_L3i {K : PySem.W.Frag} {p : Addr} {d0 d1 d2 : PyData} {n : Int} {r : List PyData} (W : Wd b sa H0 H acc dacc) (m : In2 (.ref p) (.list (d0 :: d1 :: d2 :: .int n :: r)) acc dacc) (h : Q (.int n) H) : rIxL K (.ref p) (.int 3) H Q := x_lst (j := 3) W m rfl rfl (v_int fun _ => h)
theorem x_T4 {K : PySem.W.Frag} {p : Addr} {d0 d1 d2 d3 : PyData} {d : PyData} {r : List PyData} (W : Wd b sa H0 H acc dacc) (m : In2 (.ref p) (.tuple (d0 :: d1 :: d2 :: d3 :: d :: r)) acc dacc) (h : VS d fun x => Wd b sa H0 H (x :: acc) (d :: dacc) → Q x H) : rIxT K (.ref p) (.int 4) H Q := x_tup (j := 4) W m rfl rfl h
theorem x_T4i {K : PySem.W.Frag} {p : Addr} {d0 d1 d2 d3 : PyData} {n : Int} {r : List PyData} (W : Wd b sa H0 H acc dacc) (m : In2 (.ref p) (.tuple (d0 :: d1 :: d2 :: d3 :: .int n :: r)) acc dacc) (h : Q (.int n) H) : rIxT K (.ref p) (.int 4) H Q := x_tup (j := 4) W m rfl rfl (v_int fun _ => h)
theorem x_L4 {K : PySem.W.Frag} {p : Addr} {d0 d1 d2 d3 : PyData} {d : PyData} {r : List PyData} (W : Wd b sa H0 H acc dacc) (m : In2 (.ref p) (.list (d0 :: d1 :: d2 :: d3 :: d :: r)) acc dacc) (h : VS d fun x => Wd b sa H0 H (x :: acc) (d :: dacc) → Q x H) : rIxL K (.ref p) (.int 4) H Q := x_lst (j := 4) W m rfl rfl h
theorem x_L4i {K : PySem.W.Frag} {p : Addr} {d0 d1 d2 d3 : PyData} {n : Int} {r : List PyData} (W : Wd b sa H0 H acc dacc) (m : In2 (.ref p) (.list (d0 :: d1 :: d2 :: d3 :: .int n :: r)) acc dacc) (h : Q (.int n) H) : rIxL K (.ref p) (.int 4) H Q := x_lst (j := 4) W m rfl rfl (v_int fun _ => h)
theorem x_T5 {K : PySem.W.Frag} {p : Addr} {d0 d1 d2 d3 d4 : PyData} {d : PyData} {r : List PyData} (W : Wd b sa H0 H acc dacc) (m : In2 (.ref p) (.tuple (d0 :: d1 :: d2 :: d3 :: d4 :: d :: r)) acc dacc) (h : VS d fun x => Wd b sa H0 H (x :: acc) (d :: dacc) → Q x H) : rIxT K (.ref p) (.int 5) H Q := x_tup (j := 5) W m rfl rfl h
theorem x_T5i {K : PySem.W.Frag} {p : Addr} {d0 d1 d2 d3 d4 : PyData} {n : Int} {r : List PyData} (W : Wd b sa H0 H acc dacc) (m : In2 (.ref p) (.tuple (d0 :: d1 :: d2 :: d3 :: d4 :: .int n :: r)) acc dacc) (h : Q (.int n) H) : rIxT K (.ref p) (.int 5) H Q := x_tup (j := 5) W m rfl rfl (v_int fun _ => h)
theorem x_L5 {K : PySem.W.Frag} {p : Addr} {d0 d1 d2 d3 d4 : PyData} {d : PyData} {r : List PyData} (W : Wd b sa H0 H acc dacc) (m : In2 (.ref p) (.list (d0 :: d1 :: d2 :: d3 :: d4 :: d :: r)) acc dacc) (h : VS d fun x => Wd b sa H0 H (x :: acc) (d :: dacc) → Q x H) : rIxL K (.ref p) (.int 5) H Q := x_lst (j := 5) W m rfl rfl h
theorem x_L5i {K : PySem.W.Frag} {p : Addr} {d0 d1 d2 d3 d4 : PyData} {n : Int} {r : List PyData} (W : Wd b sa H0 H acc dacc) (m : In2 (.ref p) (.list (d0 :: d1 :: d2 :: d3 :: d4 :: .int n :: r)) acc dacc) (h : Q (.int n) H) : rIxL K (.ref p) (.int 5) H Q := x_lst (j := 5) W m rfl rfl (v_int fun _ => h)
theorem x_T6 {K : PySem.W.Frag} {p : Addr} {d0 d1 d2 d3 d4 d5 : PyData} {d : PyData} {r : List PyData} (W : Wd b sa H0 H acc dacc) (m : In2 (.ref p) (.tuple (d0 :: d1 :: d2 :: d3 :: d4 :: d5 :: d :: r)) acc dacc) (h : VS d fun x => Wd b sa H0 H (x :: acc) (d :: dacc) → Q x H) : rIxT K (.ref p) (.int 6) H Q := x_tup (j := 6) W m rfl rfl h
theorem x_T6i {K : PySem.W.Frag} {p : Addr} {d0 d1 d2 d3 d4 d5 : PyData} {n : Int} {r : List PyData} (W : Wd b sa H0 H acc dacc) (m : In2 (.ref p) (.tuple (d0 :: d1 :: d2 :: d3 :: d4 :: d5 :: .int n :: r)) acc dacc) (h : Q (.int n) H) : rIxT K (.ref p) (.int 6) H Q := x_tup (j := 6) W m rfl rfl (v_int fun _ => h)
theorem x_L6 {K : PySem.W.Frag} {p : Addr} {d0 d1 d2 d3 d4 d5 : PyData} {d : PyData} {r : List PyData} (W : Wd b sa H0 H acc dacc) (m : In2 (.ref p) (.list (d0 :: d1 :: d2 :: d3 :: d4 :: d5 :: d :: r)) acc dacc) (h : VS d fun x => Wd b sa H0 H (x :: acc) (d :: dacc) → Q x H) : rIxL K (.ref p) (.int 6) H Q := x_lst (j := 6) W m rfl rfl h
theorem x_L6i {K : PySem.W.Frag} {p : Addr} {d0 d1 d2 d3 d4 d5 : PyData} {n : Int} {r : List PyData} (W : Wd b sa H0 H acc dacc) (m : In2 (.ref p) (.list (d0 :: d1 :: d2 :: d3 :: d4 :: d5 :: .int n :: r)) acc dacc) (h : Q (.int n) H) : rIxL K (.ref p) (.int 6) H Q := x_lst (j := 6) W m rfl rfl (v_int fun _ => h)
theorem x_T7 {K : PySem.W.Frag} {p : Addr} {d0 d1 d2 d3 d4 d5 d6 : PyData} {d : PyData} {r : List PyData} (W : Wd b sa H0 H acc dacc) (m : In2 (.ref p) (.tuple (d0 :: d1 :: d2 :: d3 :: d4 :: d5 :: d6 :: d :: r)) acc dacc) (h : VS d fun x => Wd b sa H0 H (x :: acc) (d :: dacc) → Q x H) : rIxT K (.ref p) (.int 7) H Q := x_tup (j := 7) W m rfl rfl h
theorem x_T7i {K : PySem.W.Frag} {p : Addr} {d0 d1 d2 d3 d4 d5 d6 : PyData} {n : Int} {r : List PyData} (W : Wd b sa H0 H acc dacc) (m : In2 (.ref p) (.tuple (d0 :: d1 :: d2 :: d3 :: d4 :: d5 :: d6 :: .int n :: r)) acc dacc) (h : Q (.int n) H) : rIxT K (.ref p) (.int 7) H Q := x_tup (j := 7) W m rfl rfl (v_int fun _ => h)
theorem x_L7 {K : PySem.W.Frag} {p : Addr} {d0 d1 d2 d3 d4 d5 d6 : PyData} {d : PyData} {r : List PyData} (W : Wd b sa H0 H acc dacc) (m : In2 (.ref p) (.list (d0 :: d1 :: d2 :: d3 :: d4 :: d5 :: d6 :: d :: r)) acc dacc) (h : VS d fun x => Wd b sa H0 H (x :: acc) (d :: dacc) → Q x H) : rIxL K (.ref p) (.int 7) H Q := x_lst (j := 7) W m rfl rfl h
theorem x_L7i {K : PySem.W.Frag} {p : Addr} {d0 d1 d2 d3 d4 d5 d6 : PyData} {n : Int} {r : List PyData} (W : Wd b sa H0 H acc dacc) (m : In2 (.ref p) (.list (d0 :: d1 :: d2 :: d3 :: d4 :: d5 :: d6 :: .int n :: r)) acc dacc) (h : Q (.int n) H) : rIxL K (.ref p) (.int 7) H Q := x_lst (j := 7) W m rfl rfl (v_int fun _ => h)
theorem x_T8 {K : PySem.W.Frag} {p : Addr} {d0 d1 d2 d3 d4 d5 d6 d7 : PyData} {d : PyData} {r : List PyData} (W : Wd b sa H0 H acc dacc) (m : In2 (.ref p) (.tuple (d0 :: d1 :: d2 :: d3 :: d4 :: d5 :: d6 :: d7 :: d :: r)) acc dacc) (h : VS d fun x => Wd b sa H0 H (x :: acc) (d :: dacc) → Q x H) : rIxT K (.ref p) (.int 8) H Q := x_tup (j := 8) W m rfl rfl h
theorem x_T8i {K : PySem.W.Frag} {p : Addr} {d0 d1 d2 d3 d4 d5 d6 d7 : PyData} {n : Int} {r : List PyData} (W : Wd b sa H0 H acc dacc) (m : In2 (.ref p) (.tuple (d0 :: d1 :: d2 :: d3 :: d4 :: d5 :: d6 :: d7 :: .int n :: r)) acc dacc) (h : Q (.int n) H) : rIxT K (.ref p) (.int 8) H Q := x_tup (j := 8) W m rfl rfl (v_int fun _ => h)
theorem x_L8 {K : PySem.W.Frag} {p : Addr} {d0 d1 d2 d3 d4 d5 d6 d7 : PyData} {d : PyData} {r : List PyData} (W : Wd b sa H0 H acc dacc) (m : In2 (.ref p) (.list (d0 :: d1 :: d2 :: d3 :: d4 :: d5 :: d6 :: d7 :: d :: r)) acc dacc) (h : VS d fun x => Wd b sa H0 H (x :: acc) (d :: dacc) → Q x H) : rIxL K (.ref p) (.int 8) H Q := x_lst (j := 8) W m rfl rfl h
theorem x_L8i {K : PySem.W.Frag} {p : Addr} {d0 d1 d2 d3 d4 d5 d6 d7 : PyData} {n : Int} {r : List PyData} (W : Wd b sa H0 H acc dacc) (m : In2 (.ref p) (.list (d0 :: d1 :: d2 :: d3 :: d4 :: d5 :: d6 :: d7 :: .int n :: r)) acc dacc) (h : Q (.int n) H) : rIxL K (.ref p) (.int 8) H Q := x_lst (j := 8) W m rfl rfl (v_int fun _ => h)
end
theorem rps1 {sa : Addr} {H : Hp} {vs : List V} {d0 : PyData} (r : Rps sa H vs [d0]) : ∃ x0, vs = [x0] ∧ Rp sa H x0 d0 := by
  cases r with | cons h0 t0 =>
  cases t0
  exact ⟨_, rfl, h0⟩
theorem rps2 {sa : Addr} {H : Hp} {vs : List V} {d0 d1 : PyData} (r : Rps sa H vs [d0, d1]) : ∃ x0 x1, vs = [x0, x1] ∧ Rp sa H x0 d0 ∧ Rp sa H x1 d1 := by
  cases r with | cons h0 t0 =>
  cases t0 with | cons h1 t1 =>
  cases t1
  exact ⟨_, _, rfl, h0, h1⟩
theorem rps3 {sa : Addr} {H : Hp} {vs : List V} {d0 d1 d2 : PyData} (r : Rps sa H vs [d0, d1, d2]) : ∃ x0 x1 x2, vs = [x0, x1, x2] ∧ Rp sa H x0 d0 ∧ Rp sa H x1 d1 ∧ Rp sa H x2 d2 := by
  cases r with | cons h0 t0 =>
  cases t0 with | cons h1 t1 =>
  cases t1 with | cons h2 t2 =>
  cases t2
  exact ⟨_, _, _, rfl, h0, h1, h2⟩
theorem rps4 {sa : Addr} {H : Hp} {vs : List V} {d0 d1 d2 d3 : PyData} (r : Rps sa H vs [d0, d1, d2, d3]) : ∃ x0 x1 x2 x3, vs = [x0, x1, x2, x3] ∧ Rp sa H x0 d0 ∧ Rp sa H x1 d1 ∧ Rp sa H x2 d2 ∧ Rp sa H x3 d3 := by
  cases r with | cons h0 t0 =>
  cases t0 with | cons h1 t1 =>
  cases t1 with | cons h2 t2 =>
  cases t2 with | cons h3 t3 =>
  cases t3
  exact ⟨_, _, _, _, rfl, h0, h1, h2, h3⟩
theorem rps5 {sa : Addr} {H : Hp} {vs : List V} {d0 d1 d2 d3 d4 : PyData} (r : Rps sa H vs [d0, d1, d2, d3, d4]) : ∃ x0 x1 x2 x3 x4, vs = [x0, x1, x2, x3, x4] ∧ Rp sa H x0 d0 ∧ Rp sa H x1 d1 ∧ Rp sa H x2 d2 ∧ Rp sa H x3 d3 ∧ Rp sa H x4 d4 := by
  cases r with | cons h0 t0 =>
  cases t0 with | cons h1 t1 =>
  cases t1 with | cons h2 t2 =>
  cases t2 with | cons h3 t3 =>
  cases t3 with | cons h4 t4 =>
  cases t4
  exact ⟨_, _, _, _, _, rfl, h0, h1, h2, h3, h4⟩
theorem rps6 {sa : Addr} {H : Hp} {vs : List V} {d0 d1 d2 d3 d4 d5 : PyData} (r : Rps sa H vs [d0, d1, d2, d3, d4, d5]) : ∃ x0 x1 x2 x3 x4 x5, vs = [x0, x1, x2, x3, x4, x5] ∧ Rp sa H x0 d0 ∧ Rp sa H x1 d1 ∧ Rp sa H x2 d2 ∧ Rp sa H x3 d3 ∧ Rp sa H x4 d4 ∧ Rp sa H x5 d5 := by
  cases r with | cons h0 t0 =>
  cases t0 with | cons h1 t1 =>
  cases t1 with | cons h2 t2 =>
  cases t2 with | cons h3 t3 =>
  cases t3 with | cons h4 t4 =>
  cases t4 with | cons h5 t5 =>
  cases t5
  exact ⟨_, _, _, _, _, _, rfl, h0, h1, h2, h3, h4, h5⟩
theorem rps7 {sa : Addr} {H : Hp} {vs : List V} {d0 d1 d2 d3 d4 d5 d6 : PyData} (r : Rps sa H vs [d0, d1, d2, d3, d4, d5, d6]) : ∃ x0 x1 x2 x3 x4 x5 x6, vs = [x0, x1, x2, x3, x4, x5, x6] ∧ Rp sa H x0 d0 ∧ Rp sa H x1 d1 ∧ Rp sa H x2 d2 ∧ Rp sa H x3 d3 ∧ Rp sa H x4 d4 ∧ Rp sa H x5 d5 ∧ Rp sa H x6 d6 := by
  cases r with | cons h0 t0 =>
  cases t0 with | cons h1 t1 =>
  cases t1 with | cons h2 t2 =>
  cases t2 with | cons h3 t3 =>
  cases t3 with | cons h4 t4 =>
  cases t4 with | cons h5 t5 =>
  cases t5 with | cons h6 t6 =>
  cases t6
  exact ⟨_, _, _, _, _, _, _, rfl, h0, h1, h2, h3, h4, h5, h6⟩
theorem rps8 {sa : Addr} {H : Hp} {vs : List V} {d0 d1 d2 d3 d4 d5 d6 d7 : PyData} (r : Rps sa H vs [d0, d1, d2, d3, d4, d5, d6, d7]) : ∃ x0 x1 x2 x3 x4 x5 x6 x7, vs = [x0, x1, x2, x3, x4, x5, x6, x7] ∧ Rp sa H x0 d0 ∧ Rp sa H x1 d1 ∧ Rp sa H x2 d2 ∧ Rp sa H x3 d3 ∧ Rp sa H x4 d4 ∧ Rp sa H x5 d5 ∧ Rp sa H x6 d6 ∧ Rp sa H x7 d7 := by
  cases r with | cons h0 t0 =>
  cases t0 with | cons h1 t1 =>
  cases t1 with | cons h2 t2 =>
  cases t2 with | cons h3 t3 =>
  cases t3 with | cons h4 t4 =>
  cases t4 with | cons h5 t5 =>
  cases t5 with | cons h6 t6 =>
  cases t6 with | cons h7 t7 =>
  cases t7
  exact ⟨_, _, _, _, _, _, _, _, rfl, h0, h1, h2, h3, h4, h5, h6, h7⟩
theorem v_any {F : V → Prop} {d : PyData} (h : ∀ x, F x) : VS d F := by
  cases d <;> first | exact h _ | exact fun p => h _
theorem iteT' {A B : Prop} (h : A) : if true = true then A else B := iteT h
theorem iteF' {A B : Prop} (h : B) : if false = true then A else B := iteF h
/-- a def that raises, for some data, an error of the class at C, and else hands back a datum -/
def Px (C : Addr) (pre : List PyData → Prop) (bad : List PyData → Bool) (fn : List PyData → PyData) : Sp := fun vs H Q E => ∃ (sa : Addr) (ds : List PyData), (∃ o, H sa = some o) ∧ Rps sa H vs ds ∧ pre ds ∧
  (bad ds = true → ∀ H', Same H H' → E (.ref C) none H') ∧ (bad ds = false → ∀ H' x, Same H H' → Rp sa H' x (fn ds) → Q x H')
theorem call_X {b : Bool} {sa : Addr} {H0 H : Hp} {acc : List V} {dacc : List PyData} {Q : VK} {E : XK} {C : Addr} {pre : List PyData → Prop} {bad : List PyData → Bool} {fn : List PyData → PyData} {vs : List V} {ds : List PyData} (W : Wd b sa H0 H acc dacc) (r : Rps sa H vs ds) (hp : pre ds)
    (h1 : bad ds = true → ∀ H', Wd b sa H0 H' acc dacc → E (.ref C) none H') (h2 : bad ds = false → ∀ H', VS (fn ds) fun x => Wd b sa H0 H' (x :: acc) (fn ds :: dacc) → Q x H') : Px C pre bad fn vs H Q E :=
  ⟨sa, ds, W.tr, r, hp, fun e H' s => h1 e H' (W.go s), fun e H' x s rx => (h2 e H').of rx ((W.go s).put rx)⟩
/-! ### loops -/
def LoopG (J : It) (g : TG) (tb : TS) (D : Ends) (σ : L2.St) (H : Hp) : Prop := ∃ W : Nat → Nat → L2.St → Hp → Prop, (∃ m, W 0 m σ H) ∧ ∀ i m σ H, W i m σ H →
  (J.stop i H ∧ D.nx σ H) ∨ (J.go i H ∧ ∃ N : L2.St → Hp → Prop, (∀ σ' H', N σ' H' → ∃ m', m' < m ∧ W (i + 1) m' σ' H') ∧ ∀ x H', J.yld i H x H' → g x σ H' fun σ2 H2 => tb { D with nx := N, ct := N, bk := D.nx } σ2 H2)
def Rng1G (vs : List V) (H : Hp) (R : It → Hp → Prop) : Prop := ∃ j : Int, vs = [.int j] ∧ -(2 ^ 62) ≤ j ∧ j < 2 ^ 62 ∧ R (Itr 0 j.toNat) H
def Rng2G (vs : List V) (H : Hp) (R : It → Hp → Prop) : Prop := ∃ i j : Int, vs = [.int i, .int j] ∧ (-(2 ^ 62) ≤ i ∧ i < 2 ^ 62 ∧ -(2 ^ 62) ≤ j ∧ j < 2 ^ 62) ∧ R (Itr i (j - i).toNat) H
section
variable {K : PySem.W.Frag} {D : Ends} {σ : L2.St} {H : Hp} {g : TG} {tb : TS} {R : It → Hp → Prop}
theorem w_for {wi : TI} (h : wi σ H fun J H1 => LoopG J g tb D σ H1) : tFor wi g tb D σ H := h
theorem w_rng1 {ta : TA} (h : ta σ H fun vs H1 => Rng1G vs H1 R) : iRng1 ta σ H R := h
theorem w_rng2 {ta : TA} (h : ta σ H fun vs H1 => Rng2G vs H1 R) : iRng2 ta σ H R := h
theorem rng1 {j : Int} (h0 : -4000000000000000000 ≤ j ∧ j ≤ 4000000000000000000) (h : R (Itr 0 j.toNat) H) : Rng1G [.int j] H R := ⟨j, rfl, by omega, by omega, h⟩
theorem rng2 {i j : Int} (h0 : (-4000000000000000000 ≤ i ∧ i ≤ 4000000000000000000) ∧ -4000000000000000000 ≤ j ∧ j ≤ 4000000000000000000) (h : R (Itr i (j - i).toNat) H) : Rng2G [.int i, .int j] H R := ⟨i, j, rfl, ⟨by omega, by omega, by omega, by omega⟩, h⟩
theorem lp_range {lo : Int} {n : Nat} (Pv : Nat → L2.St → Hp → Prop) (h0 : Pv 0 σ H)
    (hs : ∀ i σ H, i < n → Pv i σ H → g (.int (lo + i)) σ H fun σ2 H2 => tb { D with nx := Pv (i + 1), ct := Pv (i + 1), bk := D.nx } σ2 H2) (hd : ∀ σ H, Pv n σ H → D.nx σ H) : LoopG (Itr lo n) g tb D σ H := for_range Pv h0 hs hd
theorem lp_list {a : Addr} {xs : List V} (Pv : Nat → L2.St → Hp → Prop) (h0 : Pv 0 σ H) (hl : ∀ i σ H, i ≤ xs.length → Pv i σ H → SqL K H a xs)
    (hs : ∀ i x σ H, xs[i]? = some x → Pv i σ H → g x σ H fun σ2 H2 => tb { D with nx := Pv (i + 1), ct := Pv (i + 1), bk := D.nx } σ2 H2) (hd : ∀ σ H, Pv xs.length σ H → D.nx σ H) : LoopG (Itl K a) g tb D σ H := for_list Pv h0 hl hs hd
end
/-! ### sizes, shut: x is below 2 ^ k -/
@[irreducible] def Bt (k : Nat) (x : Int) : Prop := x.natAbs < 2 ^ k
theorem bt_def {k : Nat} {x : Int} : Bt k x ↔ x.natAbs < 2 ^ k := by unfold Bt; exact Iff.rfl
theorem Bt.mono {k l : Nat} {x : Int} (h : Bt k x) (e : k ≤ l) : Bt l x := bt_def.mpr (Nat.lt_of_lt_of_le (bt_def.mp h) (Nat.pow_le_pow_right (by decide) e))
theorem Bt.mul {k l : Nat} {x y : Int} (h : Bt k x) (g : Bt l y) : Bt (k + l) (x * y) := by
  have h := bt_def.mp h
  have g := bt_def.mp g
  refine bt_def.mpr ?_
  rw [Int.natAbs_mul, Nat.pow_add]
  exact Nat.mul_lt_mul'' h g
theorem Bt.add {k l : Nat} {x y : Int} (h : Bt k x) (g : Bt l y) : Bt (max k l + 1) (x + y) := by
  have h := bt_def.mp (h.mono (Nat.le_max_left k l))
  have g := bt_def.mp (g.mono (Nat.le_max_right k l))
  refine bt_def.mpr ?_
  rw [Nat.pow_succ]
  have e := Int.natAbs_add_le x y
  omega
theorem Bt.neg {k : Nat} {x : Int} (h : Bt k x) : Bt k (-x) := by
  refine bt_def.mpr ?_
  rw [Int.natAbs_neg]
  exact bt_def.mp h
theorem Bt.sub {k l : Nat} {x y : Int} (h : Bt k x) (g : Bt l y) : Bt (max k l + 1) (x - y) := h.add g.neg
theorem Bt.mulx {k l : Nat} {x y : Int} (h : Bt k x) (g : Bt l y) (e : k + l ≤ 134217728) : CMulX x y := mulx_ok (bt_def.mp h) (bt_def.mp g) e
theorem Bt.log {k : Nat} {x : Int} (h : Bt k x) (e : 0 < k ∧ k ≤ 9000) : x.natAbs.log2 < 9000 := Nat.lt_of_lt_of_le (PySem.Flt.log2_lt_of e.1 (bt_def.mp h)) e.2
theorem Bt.le {k : Nat} {x y : Int} (h : Bt k x) (e : y.natAbs ≤ x.natAbs) : Bt k y := bt_def.mpr (Nat.lt_of_le_of_lt e (bt_def.mp h))
theorem bt_39 {x : Int} (h : x.natAbs < 1000000000000000000000000000000000000000) : Bt 130 x := bt_def.mpr (Nat.lt_trans h (by decide))
theorem bt_lit {x : Int} (k : Nat) (h : x.natAbs < 2 ^ k) : Bt k x := bt_def.mpr h
theorem w_intB {b : Bool} {H : Hp} {Q : VK} (h : Q (.int (if b then 1 else 0)) H) : rInt1 [.bl b] H Q := .inr ⟨b, rfl, h⟩
theorem g_tup2 {b : Bool} {sa : Addr} {H0 H : Hp} {acc : List V} {dacc : List PyData} {K : PySem.W.Frag} {p : Addr} {d0 d1 : PyData} {i j : Nat} {σ : L2.St} {Q : L2.St → Hp → Prop} (W : Wd b sa H0 H acc dacc) (m : In2 (.ref p) (.tuple [d0, d1]) acc dacc)
    (h : VS d0 fun x => VS d1 fun y => Wd b sa H0 H (y :: x :: acc) (d1 :: d0 :: dacc) → Q ((σ.set i (some x)).set j (some y)) H) : gTup K 2 (gCons (gName i) (gCons (gName j) gNil)) (.ref p) σ H Q := by
  cases W.get m with
  | @tup _ xs _ n hx r =>
    obtain ⟨x, y, rfl, r0, r1⟩ := rps2 r
    exact ⟨p, [x, y], rfl, SqT.of hx, rfl, x, [y], rfl, y, [], rfl, rfl, ((h.of r0).of r1) ((W.put r0).put r1)⟩
theorem g_tup3 {b : Bool} {sa : Addr} {H0 H : Hp} {acc : List V} {dacc : List PyData} {K : PySem.W.Frag} {p : Addr} {d0 d1 d2 : PyData} {i j k : Nat} {σ : L2.St} {Q : L2.St → Hp → Prop} (W : Wd b sa H0 H acc dacc) (m : In2 (.ref p) (.tuple [d0, d1, d2]) acc dacc)
    (h : VS d0 fun x => VS d1 fun y => VS d2 fun z => Wd b sa H0 H (z :: y :: x :: acc) (d2 :: d1 :: d0 :: dacc) → Q (((σ.set i (some x)).set j (some y)).set k (some z)) H) : gTup K 3 (gCons (gName i) (gCons (gName j) (gCons (gName k) gNil))) (.ref p) σ H Q := by
  cases W.get m with
  | @tup _ xs _ n hx r =>
    obtain ⟨x, y, z, rfl, r0, r1, r2⟩ := rps3 r
    exact ⟨p, [x, y, z], rfl, SqT.of hx, rfl, x, [y, z], rfl, y, [z], rfl, z, [], rfl, rfl, (((h.of r0).of r1).of r2) (((W.put r0).put r1).put r2)⟩
def swap2 {α : Type} : List α → List α
  | [a, b] => [b, a]
  | l => l
theorem vals_swap2 {zs : List V} {ws : List Value} (r : Vals zs ws) (h : zs.length = 2) : Vals (swap2 zs) (swap2 ws) := by
  cases r with
  | nil => cases h
  | cons a t =>
    cases t with
    | nil => cases h
    | cons b u =>
      cases u with
      | nil => exact .cons b (.cons a .nil)
      | cons c v => simp at h
/-- the law: over a list of at most 63 ints it answers True -/
def sp_law (K : PySem.W.Frag) : Sp := fun vs H Q _ => ∃ (a : Addr) (ns : List Int), vs = [.ref a] ∧ SqL K H a (ns.map V.int) ∧ ns.length ≤ 63 ∧ ∀ H', Q (.bl true) H'
/-- a def without a stream that hands back some datum -/
def Pr (pre : List PyData → Prop) (R : List PyData → PyData → Prop) : Sp := fun vs H Q _ => ∃ (sa : Addr) (ds : List PyData), (∃ o, H sa = some o) ∧ Rps sa H vs ds ∧ pre ds ∧ ∀ H' x d, Same H H' → Rp sa H' x d → R ds d → Q x H'
theorem call_R {b : Bool} {sa : Addr} {H0 H : Hp} {acc : List V} {dacc : List PyData} {Q : VK} {E : XK} {pre : List PyData → Prop} {R : List PyData → PyData → Prop} {vs : List V} {ds : List PyData} (W : Wd b sa H0 H acc dacc) (r : Rps sa H vs ds) (hp : pre ds)
    (h : ∀ H' d, R ds d → VS d fun x => Wd b sa H0 H' (x :: acc) (d :: dacc) → Q x H') : Pr pre R vs H Q E :=
  ⟨sa, ds, W.tr, r, hp, fun H' x d s rx hR => (h H' d hR).of rx ((W.go s).put rx)⟩
theorem bl_dec {a b : Bool} : decide (V.bl a = V.bl b) = (a == b) := by
  cases a <;> cases b <;> rfl
theorem w_eqBB {a b : Bool} {H : Hp} {Q : VK} (h : Q (.bl (a == b)) H) : rEq (.bl a) (.bl b) H Q := ⟨rfl, by rw [bl_dec]; exact h⟩
theorem w_neBB {a b : Bool} {H : Hp} {Q : VK} (h : Q (.bl (!(a == b))) H) : rNe (.bl a) (.bl b) H Q := ⟨rfl, by rw [bl_dec]; exact h⟩
theorem Rp.tupF {sa : Addr} {H : Hp} {v : V} {ds : List PyData} (r : Rp sa H v (.tuple ds)) : ∃ p xs, v = .ref p ∧ H p = some (.tup xs) := by
  cases r with
  | tup n h r => exact ⟨_, _, rfl, h⟩
/-- things that are tuples of ints stand when a list is changed -/
theorem Rp.tupStay {sa g : Addr} {H : Hp} {v : V} {a b : Int} {xs ys : List V} (r : Rp sa H v (.tuple [.int a, .int b])) (hg : H g = some (.lst xs)) : Rp sa (upd H g (.lst ys)) v (.tuple [.int a, .int b]) := by
  cases r with
  | @tup p zs _ n h r =>
    have ne : p ≠ g := fun e => by
      rw [e, hg] at h
      cases h
    obtain ⟨x, y, rfl, r0, r1⟩ := rps2 r
    cases r0
    cases r1
    exact .tup n (by rw [upd_ne ne]; exact h) (.cons (.int _) (.cons (.int _) .nil))
theorem Stm.setL {H : Hp} {a g : Addr} {x : V} {xs ys : List V} (s : Stm H a) (hg : H g = some (.lst (x :: xs))) (hx : ∀ n, x ≠ .int n) (ne : g ≠ a) : Stm (upd H g (.lst ys)) a := by
  obtain ⟨c, p, q, n, ns, h1, h2, h3, h4, h5⟩ := s
  have nc : c ≠ g := fun e => by
    rw [e, hg] at h4
    cases ns with
    | nil => simp at h5
    | cons m r =>
      injection h4 with h4
      injection h4 with h4
      injection h4 with h4 _
      exact hx _ h4
  exact ⟨c, p, q, n, ns, by rw [upd_ne (Ne.symm ne)]; exact h1, h2, h3, by rw [upd_ne nc]; exact h4, h5⟩
/-! ### data without lists and dicts: they stand when a list is changed -/
mutual
def tupOnly : PyData → Bool
  | .list _ => false
  | .tuple ds => tupOnlys ds
  | .dict _ => false
  | _ => true
def tupOnlys : List PyData → Bool
  | [] => true
  | d :: ds => tupOnly d && tupOnlys ds
end
mutual
theorem Rp.stay {sa g : Addr} {H : Hp} {xs ys : List V} (hg : H g = some (.lst xs)) : ∀ {v : V} {d : PyData}, Rp sa H v d → tupOnly d = true → Rp sa (upd H g (.lst ys)) v d
  | _, _, .non, _ => .non
  | _, _, .bl b, _ => .bl b
  | _, _, .int i, _ => .int i
  | _, _, .str x, _ => .str x
  | _, _, .lst _ _ _, e => nomatch e
  | _, _, .tup n h r, e => .tup n (by
      rw [upd_ne (fun z => by
        rw [z, hg] at h
        cases h)]
      exact h) (Rps.stay hg r e)
  | _, _, .dct _ _, e => nomatch e
theorem Rps.stay {sa g : Addr} {H : Hp} {xs ys : List V} (hg : H g = some (.lst xs)) : ∀ {vs : List V} {ds : List PyData}, Rps sa H vs ds → tupOnlys ds = true → Rps sa (upd H g (.lst ys)) vs ds
  | _, _, .nil, _ => .nil
  | _, _, .cons h t, e => .cons (Rp.stay hg h (by
      unfold tupOnlys at e
      exact (Bool.and_eq_true _ _ ▸ e).1)) (Rps.stay hg t (by
      unfold tupOnlys at e
      exact (Bool.and_eq_true _ _ ▸ e).2))
end
theorem tupOnlys_all : ∀ {ds : List PyData}, (∀ d ∈ ds, tupOnly d = true) → tupOnlys ds = true
  | [], _ => rfl
  | d :: ds, h => by
    unfold tupOnlys
    rw [h d List.mem_cons_self, tupOnlys_all fun e he => h e (List.mem_cons_of_mem _ he)]
    rfl
theorem Rps.set {sa : Addr} {H : Hp} {y : V} {dy : PyData} (hy : Rp sa H y dy) : ∀ {vs : List V} {ds : List PyData} (j : Nat), Rps sa H vs ds → Rps sa H (vs.set j y) (ds.set j dy)
  | _, _, _, .nil => .nil
  | _, _, 0, .cons _ t => .cons hy t
  | _, _, j + 1, .cons h t => .cons h (Rps.set hy j t)
theorem Stm.putL {H : Hp} {a g : Addr} {xs ys : List V} (s : Stm H a) (hg : H g = some (.lst xs)) (ne : g ≠ a) (hx : ∀ c p q n, H a = some (.lst [.ref c, .int p, .int q, .int n]) → c ≠ g) : Stm (upd H g (.lst ys)) a := by
  obtain ⟨c, p, q, n, ns, h1, h2, h3, h4, h5⟩ := s
  exact ⟨c, p, q, n, ns, by rw [upd_ne (Ne.symm ne)]; exact h1, h2, h3, by rw [upd_ne (hx c p q n h1)]; exact h4, h5⟩
theorem But.put {a g : Addr} {H H' : Hp} {o : HO} (b : But a H H') (h : H g = none) : But a H (L2.upd H' g o) := fun c u n e => by
  rw [upd_ne (ne_of_none e h)]
  exact b c u n e
/-- the stream's cells, told by the address -/
def StmC (H : Hp) (a c : Addr) : Prop := ∃ (p g n : Int) (ns : List Int), H a = some (.lst [.ref c, .int p, .int g, .int n]) ∧ 0 ≤ p ∧ 0 ≤ g ∧ H c = some (.lst (ns.map V.int)) ∧ 0 < ns.length
theorem lcYes {σ : L2.St} {H : Hp} {A B : Hp → Prop} (h : A H) : tYes σ H fun b H3 => if b = true then A H3 else B H3 := by
  show (if true = true then A H else B H)
  exact iteT h
/-- [te for j in range(n)], te drawing; its items hold no lists -/
theorem lc_RN {sa : Addr} {H : Hp} {j n : Nat} {te : TE} {vs : List Nat} {σ : L2.St} {Q : VK} (st : Stm H sa) (hn : n ≤ 1000) (R : PyData → Prop) (hR : ∀ d, R d → tupOnly d = true) (hr : ∀ v d H', R d → Rp sa H' v d → ∀ i, v ≠ .int i)
    (hw : ∀ x, wipe ((wipe σ vs).set j (some x)) vs = wipe σ vs)
    (hs : ∀ (i : Nat) H' Q', i < n → But sa H H' → Stm H' sa → (∀ y H4 dy, But sa H' H4 → Stm H4 sa → Rp sa H4 y dy → R dy → Q' y H4) → te ((wipe σ vs).set j (some (.int (0 + (i : Int))))) H' Q')
    (hd : ∀ H' D xs ds, H D = none → But sa H H' → Stm H' sa → D ≠ sa → H' D = some (.lst xs) → Rps sa H' xs ds → ds.length = n → (∀ d ∈ ds, R d) → Q (.ref D) H') : tLc (iRng1 (tCons (tC (.int (n : Int))) tNil)) (gName j) tYes te vs σ H Q := by
  refine ⟨(n : Int), rfl, by omega, by omega, fun D nD => ?_⟩
  have nsa : D ≠ sa := st.ne nD
  -- the cells of the stream stand apart from D
  have cells : ∀ H', But sa H H' → Stm H' sa → (∃ xs, H' D = some (.lst xs) ∧ ∀ i ∈ xs, ∀ k, i ≠ V.int k) → ∀ c p q m, H' sa = some (.lst [.ref c, .int p, .int q, .int m]) → ∀ ns : List Int, H' c = some (.lst (ns.map V.int)) → 0 < ns.length → c ≠ D := fun H' b s ⟨xs, h1, h2⟩ c p q m h3 ns h4 h5 e => by
    rw [e, h1] at h4
    injection h4 with h4
    injection h4 with h4
    cases ns with
    | nil => simp at h5
    | cons k r =>
      rw [h4] at h2
      exact h2 (.int k) (by simp) k rfl
  refine lc_range (lo := 0) (n := n) (fun i H' => But sa H H' ∧ Stm H' sa ∧ ∃ xs ds, H' D = some (.lst xs) ∧ Rps sa H' xs ds ∧ ds.length = i ∧ ∀ d ∈ ds, R d) ?_ (fun i H' hi hP => ?_) (fun H' hP => ?_)
  · exact ⟨(But.refl sa H).put nD, st.keep (same_new nD), [], [], upd_same, .nil, rfl, fun d hd => absurd hd (by simp)⟩
  · obtain ⟨bb, s, xs, ds, h1, h2, h3, h4⟩ := hP
    refine ⟨hw _, lcYes ?_⟩
    refine hs i H' _ hi bb s fun y H4 dy b4 s4 ry hy => ?_
    have e4 : H4 D = some (.lst xs) := b4 _ _ nsa h1
    have r4 : Rps sa H4 xs ds := h2.but b4
    have all : tupOnlys ds = true := tupOnlys_all fun d hd => hR d (h4 d hd)
    refine ⟨xs, e4, by rw [h2.lens, h3]; exact small1000 (by omega), (bb.trans b4).put nD, ?_, xs ++ [y], ds ++ [dy], upd_same, (r4.stay e4 all).app (.cons (ry.stay e4 (hR _ hy)) .nil), by rw [List.length_append, h3]; rfl, fun d hd => ?_⟩
    · obtain ⟨c, p, q, m, ns, k1, k2, k3, k4, k5⟩ := s4
      have nc : c ≠ D := fun e => by
        rw [e, e4] at k4
        cases xs with
        | nil =>
          cases ns with
          | nil => simp at k5
          | cons _ _ => cases k4
        | cons x r =>
          cases ns with
          | nil => simp at k5
          | cons z _ =>
            injection k4 with k4
            injection k4 with k4
            injection k4 with k4 _
            cases r4 with
            | @cons _ _ d0 _ hx t => exact hr x d0 H4 (h4 d0 List.mem_cons_self) hx z k4
      exact ⟨c, p, q, m, ns, by rw [upd_ne (Ne.symm nsa)]; exact k1, k2, k3, by rw [upd_ne nc]; exact k4, k5⟩
    · rcases List.mem_append.mp hd with hd | hd
      · exact h4 d hd
      · rw [List.mem_singleton.mp hd]
        exact hy
  · obtain ⟨bb, s, xs, ds, h1, h2, h3, h4⟩ := hP
    exact hd H' D xs ds nD bb s nsa h1 h2 h3 h4
theorem lc_R {sa : Addr} {H : Hp} {j n : Nat} {te : TE} {vs : List Nat} {σ : L2.St} {Q : VK} (st : Stm H sa) (hn : n ≤ 1000) (R : PyData → Prop) (hR : ∀ d, R d → tupOnly d = true) (hr : ∀ v d H', R d → Rp sa H' v d → ∀ i, v ≠ .int i)
    (hw : ∀ x, wipe ((wipe σ vs).set j (some x)) vs = wipe σ vs)
    (hs : ∀ (i : Nat) H' Q', i < n → But sa H H' → Stm H' sa → (∀ y H4 dy, But sa H' H4 → Stm H4 sa → Rp sa H4 y dy → R dy → Q' y H4) → te ((wipe σ vs).set j (some (.int (0 + (i : Int))))) H' Q')
    (hd : ∀ H' D xs ds, But sa H H' → Stm H' sa → D ≠ sa → H' D = some (.lst xs) → Rps sa H' xs ds → ds.length = n → (∀ d ∈ ds, R d) → Q (.ref D) H') : tLc (iRng1 (tCons (tC (.int (n : Int))) tNil)) (gName j) tYes te vs σ H Q :=
  lc_RN st hn R hR hr hw hs fun H' D xs ds _ => hd H' D xs ds
/-- the script stands beside the stream -/
theorem sq_but {K : PySem.W.Frag} {a c : Addr} {H H' : Hp} {ns : List Int} (b : But a H H') (s : Stm H a) (h : SqL K H c (ns.map V.int)) : SqL K H' c (ns.map V.int) := by
  obtain ⟨c0, p, q, n, ms, h1, _⟩ := s
  rcases h with (h | ⟨o, h⟩) | h
  · refine .inl (.inl (b _ _ (fun e => ?_) h))
    rw [e, h1] at h
    injection h with h
    injection h with h
    cases ns with
    | nil => cases h
    | cons x r => cases h
  · refine .inl (.inr ⟨o, b _ _ (fun e => ?_) h⟩)
    rw [e, h1] at h
    cases h
  · exact .inr h
/-- the greatest number whose square is at most n -/
def IsRt (n r : Nat) : Prop := r * r ≤ n ∧ n < (r + 1) * (r + 1)
theorem small8 {n : Nat} (h : n < 8) : IsRt n (Float64.rootBelow8 n) := by
  unfold Float64.rootBelow8 IsRt
  rcases (show n = 0 ∨ n = 1 ∨ n = 2 ∨ n = 3 ∨ n = 4 ∨ n = 5 ∨ n = 6 ∨ n = 7 by omega) with rfl | rfl | rfl | rfl | rfl | rfl | rfl | rfl <;> decide
/-- Newton's step from above stays above -/
theorem newt_ge {n x m : Nat} (hx : 0 < x) (h : m * m ≤ n) : m ≤ (x + n / x) / 2 := by
  have h2 : n < (n / x + 1) * x := by
    have := Nat.lt_div_mul_add hx (a := n)
    rw [Nat.add_mul, Nat.one_mul]
    exact this
  generalize n / x = q at h2
  have h3 : 4 * ((q + 1) * x) ≤ (q + 1 + x) * (q + 1 + x) := by
    rcases Nat.le_total (q + 1) x with h | h
    · obtain ⟨e, he⟩ := Nat.exists_eq_add_of_le h
      have : (q + 1 + x) * (q + 1 + x) = 4 * ((q + 1) * x) + e * e := by grind
      omega
    · obtain ⟨e, he⟩ := Nat.exists_eq_add_of_le h
      have : (q + 1 + x) * (q + 1 + x) = 4 * ((q + 1) * x) + e * e := by grind
      omega
  have h4 : (2 * m) * (2 * m) < (q + 1 + x) * (q + 1 + x) := by
    have : (2 * m) * (2 * m) = 4 * (m * m) := by grind
    omega
  have h5 : 2 * m < q + 1 + x := Nat.mul_self_lt_mul_self_iff.mp h4
  omega
/-- and comes near: x = c + t, t * t small -/
theorem newt_le {n x c t : Nat} (hx : x = c + t) (hc : c * c ≤ n) (hn : n < x * x) (ht : t * t ≤ 2 * x) : ((x + n / x) / 2 - 1) * ((x + n / x) / 2 - 1) ≤ n := by
  have x0 : 0 < x := by
    rcases Nat.eq_zero_or_pos x with h | h
    · subst h
      simp at hn
    · exact h
  have hq : n / x * x ≤ n := Nat.div_mul_le_self n x
  have hqx : n / x < x := (Nat.div_lt_iff_lt_mul x0).mpr hn
  generalize n / x = q at hq hqx
  refine Nat.not_lt.mp fun hz => ?_
  generalize hy : (x + q) / 2 = y at hz
  have hy2 : 2 * y ≤ x + q := by omega
  cases y with
  | zero => simp at hz
  | succ z =>
    rw [Nat.add_sub_cancel] at hz
    have zc : c < z := by
      refine Nat.not_le.mp fun h => ?_
      have := Nat.mul_le_mul h h
      omega
    have zx : z < x := by omega
    obtain ⟨e, he⟩ := Nat.exists_eq_add_of_lt zx
    -- x = z + e + 1, e + 1 < t
    have et : e + 1 < t := by omega
    have h1 : 2 * (z + 1) * x ≤ x * x + q * x := by
      have := Nat.mul_le_mul_right x hy2
      grind
    have h2 : 2 * (z + 1) * x ≤ x * x + n := by omega
    have h3 : (e + 1) * (e + 1) + 2 * z * x = x * x + z * z := by grind
    have h4 : 2 * (z + 1) * x = 2 * z * x + 2 * x := by grind
    have h5 : 2 * x < (e + 1) * (e + 1) := by omega
    have h6 : (e + 1) * (e + 1) ≤ t * t := Nat.mul_le_mul (Nat.le_of_lt et) (Nat.le_of_lt et)
    omega
/-- the model's own root is the root -/
theorem rootBy (levels : Nat) : ∀ n : Nat, (8 ≤ n → n.log2 ≤ levels) → IsRt n (Float64.rootByHalves levels n) := by
  induction levels with
  | zero =>
    intro n h
    by_cases h8 : n < 8
    · exact small8 h8
    · have z := h (by omega)
      have : n < 2 ^ 1 := (Nat.log2_lt (by omega)).mp (by omega)
      omega
  | succ l ih =>
    intro n h
    unfold Float64.rootByHalves
    by_cases h8 : n < 8
    · rw [if_pos h8]
      exact small8 h8
    · rw [if_neg h8]
      dsimp only
      have n0 : n ≠ 0 := by omega
      have hL : n.log2 ≤ l + 1 := h (by omega)
      have L3 : 3 ≤ n.log2 := (Nat.le_log2 n0).mpr (by omega)
      generalize hk : (n.log2 + 1) / 4 = k
      have k1 : 1 ≤ k := by omega
      have up : n < 2 ^ (n.log2 + 1) := (Nat.log2_lt n0).mp (Nat.lt_succ_self _)
      have lo : 2 ^ n.log2 ≤ n := (Nat.le_log2 n0).mp (Nat.le_refl _)
      have p4 : 0 < 4 ^ k := Nat.pow_pos (by decide)
      have r := ih (n / 4 ^ k) fun _ => by
        have nz : n / 4 ^ k ≠ 0 := by omega
        have : n / 4 ^ k < 2 ^ (n.log2 + 1 - 2 * k) := by
          rw [Nat.div_lt_iff_lt_mul p4]
          have e : 2 ^ (n.log2 + 1 - 2 * k) * 4 ^ k = 2 ^ (n.log2 + 1) := by
            rw [show (4 : Nat) = 2 ^ 2 from rfl, ← Nat.pow_mul, ← Nat.pow_add]
            congr 1
            omega
          rw [e]
          exact up
        have := (Nat.log2_lt nz).mpr this
        omega
      generalize Float64.rootByHalves l (n / 4 ^ k) = s at r
      obtain ⟨r1, r2⟩ := r
      have t2 : 2 ^ k * 2 ^ k = 4 ^ k := by rw [← Nat.mul_pow]
      have lo4 : s * s * 4 ^ k ≤ n := by
        have := Nat.mul_le_mul_right (4 ^ k) r1
        exact Nat.le_trans this (Nat.div_mul_le_self n _)
      have hi4 : n < (s + 1) * (s + 1) * 4 ^ k := by
        have := (Nat.div_lt_iff_lt_mul p4).mp r2
        exact this
      generalize ht : 2 ^ k = t at *
      have t0 : 0 < t := by rw [← ht]; exact Nat.pow_pos (by decide)
      have hx : (s + 1) * t = s * t + t := by grind
      have hc : s * t * (s * t) ≤ n := by
        have : s * t * (s * t) = s * s * 4 ^ k := by rw [← t2]; grind
        omega
      have hn : n < (s + 1) * t * ((s + 1) * t) := by
        have : (s + 1) * t * ((s + 1) * t) = (s + 1) * (s + 1) * 4 ^ k := by rw [← t2]; grind
        omega
      have x0 : 0 < (s + 1) * t := Nat.mul_pos (by omega) t0
      have t4 : t * t * (t * t) ≤ 2 * n := by
        have e : t * t * (t * t) = 2 ^ (4 * k) := by
          rw [t2, ← Nat.mul_pow, show (4 * 4 : Nat) = 2 ^ 4 from rfl, ← Nat.pow_mul]
        rw [e]
        have : 2 ^ (4 * k) ≤ 2 ^ (n.log2 + 1) := Nat.pow_le_pow_right (by decide) (by omega)
        rw [Nat.pow_succ] at this
        omega
      generalize (s + 1) * t = x at hx hn x0
      have tt : t * t ≤ 2 * x := by
        refine Nat.not_lt.mp fun hz => ?_
        have a1 : 2 * x * (2 * x) < t * t * (t * t) := Nat.mul_lt_mul'' hz hz
        have a2 : 2 * x * (2 * x) = 4 * (x * x) := by grind
        omega
      have ge : ∀ m, m * m ≤ n → m ≤ (x + n / x) / 2 := fun m hm => newt_ge x0 hm
      have le := newt_le hx hc hn tt
      show IsRt n (if (x + n / x) / 2 * ((x + n / x) / 2) > n then (x + n / x) / 2 - 1 else (x + n / x) / 2)
      generalize (x + n / x) / 2 = y at ge le
      have big : n < (y + 1) * (y + 1) := Nat.not_le.mp fun h => by
        have := ge _ h
        omega
      by_cases hy : y * y > n
      · rw [if_pos hy]
        refine ⟨le, ?_⟩
        have : y ≠ 0 := fun z => by rw [z] at hy; omega
        rw [Nat.sub_add_cancel (by omega)]
        exact hy
      · rw [if_neg hy]
        exact ⟨by omega, big⟩
theorem isqrt_ok (n : Nat) : IsRt n (Float64.isqrt n) := rootBy _ n fun _ => Nat.le_refl _
theorem IsRt.uniq {n r s : Nat} (h : IsRt n r) (k : IsRt n s) : r = s := by
  have a : r < s + 1 := Nat.mul_self_lt_mul_self_iff.mp (Nat.lt_of_le_of_lt h.1 k.2)
  have b : s < r + 1 := Nat.mul_self_lt_mul_self_iff.mp (Nat.lt_of_le_of_lt k.1 h.2)
  omega
theorem isqrt_sq (r : Nat) : Float64.isqrt (r * r) = r := (isqrt_ok _).uniq ⟨Nat.le_refl _, by grind⟩
def rIsq : List V → Hp → VK → Prop := fun vs H Q => ∃ a : Int, vs = [.int a] ∧ 0 ≤ a ∧ a.toNat.log2 < 9000 ∧ Q (.int ((Float64.isqrt a.toNat : Nat) : Int)) H
theorem cr_isqrt {X : Cx} : CallR X (.builtin "math.isqrt") rIsq := by
  intro pins s σ H vs us Q I r h
  obtain ⟨a, rfl, h0, hl, q⟩ := h
  obtain ⟨u, us', rfl, ⟨t, rfl⟩, rfl⟩ : ∃ u us', us = u :: us' ∧ RelV (.int a) u ∧ us' = [] := by
    cases r with
    | cons ra rn =>
      cases rn
      exact ⟨_, _, rfl, ra, rfl⟩
  exact PySem.call_function_meets PySem.W.MGF.kind_isqrt PySem.W.MGF.plain_isqrt PySem.W.MGF.entry_isqrt (PySem.W.MGF.args_isqrt _) (PySem.W.mg_run_isqrt a t (by omega) (by omega) (by omega)).meets ⟨.int _, H, I.tok _, ⟨_, rfl⟩, q⟩
theorem w_isq {n : Int} {H : Hp} {Q : VK} (h0 : 0 ≤ n) (hl : n.toNat.log2 < 9000) (h : Q (.int ((Float64.isqrt n.toNat : Nat) : Int)) H) : rIsq [.int n] H Q := ⟨n, rfl, h0, hl, h⟩
def rShl1 : R2 := fun x y H Q => ∃ k : Nat, x = .int 1 ∧ y = .int (k : Int) ∧ k ≤ 134217727 ∧ Q (.int (2 ^ k)) H
theorem oq_shl1 {X : Cx} : OpR X (binaryOp .LShift) rShl1 := op_oneShl
theorem w_bits {te : TE} {σ : L2.St} {H : Hp} {Q : VK} (h : te σ H fun x H1 => ∃ i, x = .int i ∧ Q (.int (Builtin.Int.intBits i : Nat)) H1) : tBits te σ H Q := h
theorem w_xi {i : Int} {F : Int → Prop} (h : F i) : ∃ j, V.int i = .int j ∧ F j := ⟨i, rfl, h⟩
theorem passLS {X : Cx} {σ : L2.St} : PassesAt (L2.CX X.prog X.w) X σ E0 := fun pins H s e s' I h => passL pins σ H s e s' I h
theorem w_isNone {x : V} {H : Hp} {Q : VK} (h : Q (.bl (decide (x = .non))) H) : rIsN x .non H Q := ⟨rfl, h⟩
theorem w_notNone {x : V} {H : Hp} {Q : VK} (h : Q (.bl (!decide (x = .non))) H) : rNotN x .non H Q := ⟨rfl, h⟩
theorem dn_non : decide (V.non = .non) = true := rfl
theorem dn_int {i : Int} : decide (V.int i = .non) = false := rfl
theorem dn_ref {a : Addr} : decide (V.ref a = .non) = false := rfl
theorem w_isN_i {i : Int} {H : Hp} {Q : VK} (h : Q (.bl false) H) : rIsN (.int i) .non H Q := ⟨rfl, h⟩
theorem w_isN_r {a : Addr} {H : Hp} {Q : VK} (h : Q (.bl false) H) : rIsN (.ref a) .non H Q := ⟨rfl, h⟩
theorem w_isN_n {H : Hp} {Q : VK} (h : Q (.bl true) H) : rIsN .non .non H Q := ⟨rfl, h⟩
theorem w_noN_i {i : Int} {H : Hp} {Q : VK} (h : Q (.bl true) H) : rNotN (.int i) .non H Q := ⟨rfl, h⟩
theorem w_noN_r {a : Addr} {H : Hp} {Q : VK} (h : Q (.bl true) H) : rNotN (.ref a) .non H Q := ⟨rfl, h⟩
theorem w_noN_n {H : Hp} {Q : VK} (h : Q (.bl false) H) : rNotN .non .non H Q := ⟨rfl, h⟩
theorem w_shl {k : Int} {H : Hp} {Q : VK} (h0 : 0 ≤ k) (h1 : k ≤ 134217727) (h : Q (.int ((2 ^ k.toNat : Nat) : Int)) H) : rShl1 (.int 1) (.int k) H Q := ⟨k.toNat, rfl, by rw [Int.toNat_of_nonneg h0], by omega, by rw [Int.natCast_pow] at h; exact h⟩
/-! ### a def that is handed the exception which a suite holds: it stands pinned in the def's own frame -/
section
variable {P : Program} {w : World} {K : PySem.W.Frag} {mg : Str → Option Value} {base : Heap}
/-- its promise may speak of the pinned object q -/
structure FnE (P : Program) (w : World) (K : PySem.W.Frag) (mg : Str → Option Value) (base : Heap) (k : Nat) (f : Addr) (fd : FuncData) (ps : List Str) (sp : Addr × Obj → Sp) : Prop where
  len : ∀ q vs H Q E, sp q vs H Q E → vs.length = ps.length
  run : ∀ (A : Around) (outer : List Env) (s : Shared) (H : Hp) (args : Args) (us : List Value) (vs : List V) (Q : VK) (E : XK) (q : Addr × Obj), L2H.RoomH k A → L2H.PinOk outer H s q → Env0 P w K mg base A outer s H →
    BindsTo s fd args (ps.zip us) → Vals vs us → sp q vs H Q E → codeAny (model P w) A (.call (.ref f) args) (CR CX0 outer P w H s Q E) s
theorem fnE_ok {x qual : Str} {st : Stmt} {f : Addr} {fd : FuncData} {N ps : List Str} {k : Nat} {sp : Addr × Obj → Sp} (F : Fun K x qual st f fd) (S : FnScope N ps (defScope st)) (len : ∀ q vs H Q E, sp q vs H Q E → vs.length = ps.length)
    (hbody : ∀ (cdv : Value) (A : Around) (outer : List Env) (s : Shared) (H : Hp) (vs : List V) (Q : VK) (E : XK) (q : Addr × Obj), L2H.RoomH k (A.deeper (envOfC qual (defScope st) s.heap.objs.size f cdv)) → sp q vs H Q E →
      ∃ t, PSs (L2H.cxH CX0 P w K mg base N qual (defScope st) f cdv A outer s H E q) (defBody st) t ∧ t { nx := fun _ H' => Q .non H', rt := Q } (start N vs) H) : FnE P w K mg base (k + 1) f fd ps sp := by
  obtain ⟨oc, od, kV, doc, pm, an, cdv, ct, osl, rfl, lk, hcd⟩ := F.ex
  constructor
  · exact len
  intro A outer s H args us vs Q E q room pin e0 binds rel hs
  have nvs := len _ _ _ _ _ hs
  have inK : K.In s.heap := e0.mod.kin.keeps fun b o eb => (e0.bs b o eb).1
  have noLim : s.heap.NoLimit := e0.mod.nolimit.keeps fun b o eb => (e0.bs b o eb).1
  have kinds : ∀ y ∈ ps.zip us, (defScope st).names.lookup y.1 = some .local ∨ ((defScope st).names.lookup y.1 = some .cell ∧ ((cellsFrom (s.heap.objs.size + 1) (defScope st).names []).lookup y.1).isSome = true) := by
    rintro ⟨n, v⟩ hy
    rcases S.par n (List.of_mem_zip hy).1 with hl | hc
    · left
      exact hl
    · right
      exact ⟨hc, PySem.W.cellsFrom_some _ _ _ (.inl hc)⟩
  apply codeAny_call_function room.depth (inK _ _ lk) rfl S.co S.gen rfl (PySem.W.codeRec_of inK hcd) (binds _ _ _ _ ?_)
  apply wpAny_newFunctionEnv_cells S.kind kinds
  intro env hev s1 call
  subst hev
  constructor
  · exact noLim.keeps call.toInCall.keep
  apply codeAny_func
  obtain ⟨t, ht, hq⟩ := hbody cdv A outer s H vs Q E q (room.deeper _) hs
  have I0 := L2H.inv_startH (CX := CX0) (E := E) S pin e0 nvs rel call
  refine wpAny_mono (ht.run [] s1 _ H _ I0 hq) (fun fl s2 r2 => ?_) fun _ _ z => z
  cases fl with
  | next =>
    obtain ⟨_, H2, J, qn⟩ := r2
    exact ⟨V.non, H2, J.os, J.bare, J.base, J.hok, rfl, qn⟩
  | ret u =>
    obtain ⟨v, _, H2, J, rv, qn⟩ := r2
    exact ⟨v, H2, J.os, J.bare, J.base, J.hok, rv, qn⟩
  | brk => exact r2.elim fun _ z => z.elim fun _ z => z.2.elim
  | cont => exact r2.elim fun _ z => z.elim fun _ z => z.2.elim
end
section
variable {X : Cx} {k : Nat} {f : Addr} {fd : FuncData} {ps : List Str} {sp : Addr × Obj → Sp} {q : Addr × Obj} {x : Str} {p pos : Pos} {e : Expr} {es : List Expr} {t : TA} {te : TE}
def tCallE (sp : Sp) (t : TA) : TE := fun σ H Q => t σ H fun vs H1 => sp vs H1 Q E0
/-- f(e, ..) where the frame bears the pinned q -/
theorem pe_callE {sp0 : Sp} (F : FnE X.prog X.w X.K X.mg X.base k f fd ps sp) (hsp : ∀ vs H Q E, sp0 vs H Q E → sp q vs H Q E) (hr : L2H.RoomH k X.A) (hq : q ∈ X.pn) (hg : Gl X x) (hm : X.mg x = some (.ref f)) (hk : PySem.W.keepIn X.K (.ref f) = true) (hb : Binds X.K fd ps [])
    (ha : PA X (e :: es) t) (hdb : (x == ("__debug__" : Str)) = false := by decide) (he : starEach (e :: es) X.env = (false, eval e X.env) :: starEach es X.env := by rfl) (hpl : (backTo pos (starEach es X.env)).any (·.1) = false := by rfl) :
    PE X (.Call (.Name x p) (e :: es) [] pos) (tCallE sp0 t) := by
  constructor
  intro pins s σ H Q I h
  apply wpAny_Call_Name_kw (ld_glob I hg hm ?_ hdb)
  refine PySem.W.callWith_K (h₀ := X.base) I.ok.mod.kin hk (thn (ha.run pos pins s σ H _ I h) ?_) he hpl
  rintro us s1 ⟨vs, H1, I1, rel, hs0⟩
  have hs := hsp _ _ _ _ hs0
  refine ⟨I1.kIn, ?_⟩
  have nus : us.length = ps.length := rel.length.symm.trans (F.len _ _ _ _ _ hs)
  have bd := hb s1 us I1.kIn (by rw [List.append_nil]; exact nus)
  rw [List.append_nil] at bd
  have pn := I1.pin q (List.mem_append_left _ hq)
  have pok : L2H.PinOk X.stack H1 s1 q := ⟨pn.1, pn.2.1, fun hm => (List.mem_cons.mp (I1.stkSub q.1 hm)).elim pn.2.2.1 pn.2.2.2.1, pn.2.2.2.2⟩
  apply wpAny_call
  apply codeAny_mono (F.run X.A X.stack s1 H1 ⟨us, []⟩ us vs Q E0 q hr pok I1.env0 bd rel hs)
  intro r s2 hr2
  cases r with
  | error er => exact hr2.elim
  | ok fl =>
    cases fl with
    | ret u => exact I1.after hr2
    | next => exact hr2.elim
    | brk => exact hr2.elim
    | cont => exact hr2.elim
/-- what must be known of the class of the pinned exception -/
structure XCls (K : PySem.W.Frag) (C : Addr) : Prop where
  F : XfC K C
  cl : (PySem.W.clsIn K C).isSome = true
  ha : PySem.W.findIn K (.ref C) "__class__" = some (some (.builtin "object.__class__"))
  hn : PySem.W.specialIn K (.builtin "object.__class__") "__get__" = some (some (.builtin "getset_descriptor.__get__"))
  ht : PySem.W.takesIn K (.builtin "object.__class__") = some true
  hm : PySem.W.mroIn K C (.type "object") = some true
/-- the pinned object is an exception of the class at C, its dict at d -/
structure XObj (q : Addr × Obj) (C : Addr) (d : Option Addr) : Prop where
  z : Zc (.ref C) d q.2
  f : ∃ vs, q.2.data = .fields vs
/-- its dict, if there is one, stands -/
def XDct (H : Hp) (d : Option Addr) : Prop := ∀ dd, d = some dd → ∃ fs, H dd = some (.xd fs)
theorem inst_of {pins : List (Addr × Obj)} {σ : L2.St} {H : Hp} {s : Shared} {C : Addr} {d : Option Addr} (I : Inv X pins σ H s) (hq : q ∈ X.pn) (o : XObj q C d) (hd : XDct H d) :
    ∃ od, PySem.W.InstAt s.heap q.1 q.2 C od ∧ ∀ dd, d = some dd → ∀ fs, H dd = some (.xd fs) → ∃ (ob : Obj) (mA : Str → Option Value), od = some ob ∧ (∀ g, RelO (fs.lookup g) (mA g)) ∧ ∀ g, PySem.W.lookIn g ob = some (mA g) := by
  have pn := (I.pin q (List.mem_append_left _ hq)).1
  obtain ⟨vs, dat⟩ := o.f
  have nc : PySem.W.notCls q.2 := by unfold PySem.W.notCls; rw [dat] <;> rfl
  cases d with
  | none => exact ⟨none, ⟨pn, o.z.1, nc, by rw [o.z.2]; trivial⟩, fun dd z => nomatch z⟩
  | some dd =>
    obtain ⟨fs, hfs⟩ := hd dd rfl
    have x : ObjOk X.prog X.w H s.heap dd (.xd fs) := I.hok dd _ hfs
    obtain ⟨mA, ns, rel⟩ := x
    obtain ⟨od, ho, look⟩ := lookIn_ns ns
    refine ⟨some od, ⟨pn, o.z.1, nc, by rw [o.z.2]; exact ho⟩, fun d2 z fs2 h2 => ?_⟩
    cases z
    rw [hfs] at h2
    cases h2
    exact ⟨od, mA, rfl, rel, look⟩
/-- e.f of the pinned exception -/
def tXp (q : Addr × Obj) (K : PySem.W.Frag) (n : Str) (te : TE) : TE := fun σ H Q => te σ H fun x H1 => ∃ (C dd : Addr) (fs : List (Str × V)) (v : V), x = .ref q.1 ∧ XObj q C (some dd) ∧ XCls K C ∧ PySem.W.findIn K (.ref C) n = some none ∧ H1 dd = some (.xd fs) ∧ fs.lookup n = some v ∧ Q v H1
theorem pe_xp {n : Str} (hq : q ∈ X.pn) (he : PE X e te) (hb : attributeBase e n X.env (eval e X.env) = eval e X.env := by rfl) : PE X (.Attribute e n pos) (tXp q X.K n te) := by
  constructor
  intro pins s σ H Q I h
  apply attr_of hb
  apply thn (he.run pins s σ H _ I h)
  rintro u s1 ⟨x, H1, I1, rx, C, dd, fs, v, ex, o, c, hno, hfs, hl, hQ⟩
  subst ex
  cases (show u = Value.ref q.1 from rx)
  obtain ⟨od, J, look⟩ := inst_of I1 hq o fun d2 z => by cases z; exact ⟨fs, hfs⟩
  obtain ⟨ob, mA, rfl, rel, hm⟩ := look dd rfl fs hfs
  obtain ⟨u, hu, ru⟩ := RelO.some_of (v := v) (o := mA n) (by rw [← hl]; exact rel n)
  exact HandSPX.exc_get I1.kIn J c.F.ga c.F.gg c.F.exC (PySem.W.findObj_own c.F.hdC hno rfl (by rw [hm n, hu])) (handed_of ru) ⟨v, H1, I1.tok _, ru, hQ⟩
/-- isinstance of the pinned exception -/
def rIsP (K : PySem.W.Frag) (q : Addr × Obj) : List V → Hp → VK → Prop := fun xs H Q => ∃ (c : V) (cv : Value) (b : Bool) (C : Addr) (d : Option Addr), xs = [.ref q.1, c] ∧ (∀ u, RelV c u → u = cv) ∧ XObj q C d ∧ XCls K C ∧ XDct H d ∧ PySem.W.kitOne K (.ref C) cv = some b ∧ Q (.bl b) H
theorem call_isP (hq : q ∈ X.pn) : CallR X (.builtin "isinstance") (rIsP X.K q) := by
  intro pins s σ H xs us Q I rel h
  obtain ⟨c, cv, b, C, d, rfl, hcv, o, cc, hd, hk, hQ⟩ := h
  obtain ⟨od, J, _⟩ := inst_of I hq o hd
  cases rel with
  | cons r1 rest =>
    cases rest with
    | cons r2 rest =>
      cases rest
      cases r1
      cases hcv _ r2
      exact PySem.W.kia_one (PySem.W.kitx_exc cc.cl cc.F.ga cc.F.gg cc.F.exC cc.ha cc.hn cc.ht cc.hm) I.kIn J hk (fun z => nomatch z) fun tk => ⟨.bl b, H, I.kept (t' := tk) fun _ _ z => z, rfl, hQ⟩
end
section
variable {X : Cx} {a : Addr} {oe : Obj} {cls : Value} {d : Option Addr}
/-- the same in a suite, the object told by its place, its class and its dict -/
def rIsS (K : PySem.W.Frag) (a : Addr) (cls : Value) (d : Option Addr) : List V → Hp → VK → Prop := fun xs H Q => ∃ (c : V) (cv : Value) (b : Bool) (C : Addr), xs = [.ref a, c] ∧ (∀ u, RelV c u → u = cv) ∧ cls = .ref C ∧ XCls K C ∧ XDct H d ∧ PySem.W.kitOne K (.ref C) cv = some b ∧ Q (.bl b) H
theorem call_isS (hq : (a, oe) ∈ X.pn) (hz : Zc cls d oe) (hf : ∃ vs, oe.data = .fields vs) : CallR X (.builtin "isinstance") (rIsS X.K a cls d) := by
  intro pins s σ H xs us Q I rel h
  obtain ⟨c, cv, b, C, e1, hcv, rfl, cc, hd, hk, hQ⟩ := h
  exact call_isP hq pins s σ H xs us Q I rel ⟨c, cv, b, C, d, e1, hcv, ⟨hz, hf⟩, cc, hd, hk, hQ⟩
end
/-! ### an own class without an own __init__, made without arguments -/
section
variable {X : Cx} {x : Str} {C : Addr} {p pos : Pos} {bmB : List Value} {B newId initId : String}
theorem pmk_own0 (F : ExcBaseFacts B newId initId bmB) (hq : PySem.W.excIn X.K C bmB newId = true) (gC : X.mg x = some (.ref C)) (kC : PySem.W.keepIn X.K (.ref C) = true) (r : Raises X (.ref C)) (hg : Gl X x)
    (hdb : (x == ("__debug__" : Str)) = false := by decide) : PMk X (.Call (.Name x p) [] [] pos) (fun _ H Q => Q (.ref C) none H) := by
  intro pins s σ H Q I h
  apply wpAny_Call_Name_kw (ld_glob I hg gC ?_ hdb)
  apply PySem.W.callWith_K0 I.kIn kC
  obtain ⟨bm, N, nm, qn, bs, hdct, sn, sub, ab, col, dd, k0, k1, k2, k3, k5, mN, hC, hN, hni, T⟩ := exc_obj I.kIn hq
  apply wpAny_call_exc_subT F T hC hN hni (fun h' er made => ?_) (Nat.zero_le _)
  exact mk_of I made r h (I.hok.gone made.new)
end
theorem pe_cls {X : Cx} {x : Str} {C : Addr} {pos : Pos} (hg : Gl X x) (hm : X.mg x = some (.ref C)) (hd : (x == ("__debug__" : Str)) = false := by decide) : PE X (.Name x pos) (tC (.ref C)) := pe_glob (v := .ref C) hg hm rfl hd
/-! ### own classes whose __init__ keeps what it is handed -/
structure ExF (P : Program) (w : World) (K : PySem.W.Frag) (mg : Str → Option Value) (base : Heap) (x : Str) (C : Addr) (ps : List Str) (sp : Sp) : Prop where
  T : OexC K C
  gC : mg x = some (.ref C)
  ini : ∃ fI fd, PySem.W.findIn K (.ref C) "__init__" = some (some (.ref fI)) ∧ PySem.W.typeIn K (.ref fI) = some (.type "function") ∧ FnOk P w K mg base CX0 1 fI fd ps sp ∧ Binds K fd ps []
theorem pmkA {X : Cx} {x : Str} {C : Addr} {ps : List Str} {sp : Sp} {p pos : Pos} {e : Expr} {es : List Expr} {ta : TA} (Z : ExF X.prog X.w X.K X.mg X.base x C ps sp) (hr : Room 2 X.A) (hg : Gl X x) (ha : PA X (e :: es) ta) (hdb : (x == ("__debug__" : Str)) = false := by decide)
    (he : starEach (e :: es) X.env = (false, eval e X.env) :: starEach es X.env := by rfl) (hpl : (backTo pos (starEach es X.env)).any (·.1) = false := by rfl) : PMk X (.Call (.Name x p) (e :: es) [] pos) (tMkO C sp [] ta) := by
  obtain ⟨fI, fd, iC, tI, F1, hb⟩ := Z.ini
  exact pmk_oex Z.T iC tI F1 hr hb .nil pass0 hg Z.gC ha hdb he hpl
structure ExB (K : PySem.W.Frag) (mg : Str → Option Value) (x : Str) (C : Addr) : Prop where
  gC : mg x = some (.ref C)
  ex : PySem.W.excIn K C [.type "ValueError", .type "Exception", .type "BaseException", .type "object"] "ValueError.__new__" = true
  kC : PySem.W.keepIn K (.ref C) = true
  exC : PySem.W.subIn K (.ref C) (.type "BaseException") = some true
  tyC : PySem.W.typeIn K (.ref C) = some (.type "type")
/-- what an __init__ of one field, of two fields, promises -/
def sp_ini1 (K : PySem.W.Frag) (C : Addr) (f : Str) : Sp := fun vs H Q _ => ∃ (a : Addr) (v : V), vs = [.ref a, v] ∧ OexC K C ∧ PySem.W.findIn K (.ref C) f = some none ∧ H a = some (exo a C none) ∧ ∀ dx, H dx = none → dx ≠ a → Q .non (upd (upd H dx (exd dx [(f, v)])) a (exo a C (some dx)))
def sp_ini2 (K : PySem.W.Frag) (C : Addr) (f g : Str) : Sp := fun vs H Q _ => ∃ (a : Addr) (v u : V), vs = [.ref a, v, u] ∧ OexC K C ∧ PySem.W.findIn K (.ref C) f = some none ∧ PySem.W.findIn K (.ref C) g = some none ∧ H a = some (exo a C none) ∧
  ∀ dx, H dx = none → dx ≠ a → Q .non (upd (upd (upd H dx (exd dx [(f, v)])) a (exo a C (some dx))) dx (exd dx [(g, u), (f, v)]))
def mkE (C : Addr) (sp : Sp) (H : Hp) (vs : List V) (Q : XK) : Prop := vs.length ≤ 1000 ∧ ∀ a, H a = none → sp (.ref a :: (vs ++ [])) (upd H a (exo a C none)) (fun v H2 => v = .non ∧ ∃ (d : Addr) (fs : List (Str × V)), H2 a = some (exo a C (some d)) ∧ H2 d = some (exd d fs) ∧ H d = none ∧ Q (.ref C) (some d) (upd (del H2 a) d (.xd fs))) fun _ _ _ => False
theorem w_mko {C : Addr} {sp : Sp} {ta : TA} {σ : L2.St} {H : Hp} {Q : XK} (h : ta σ H fun vs H1 => mkE C sp H1 vs Q) : tMkO C sp [] ta σ H Q := h
theorem same_xd {H H2 : Hp} {a dx : Addr} {o : HO} (hs : ∀ b u, b ≠ a → b ≠ dx → H b = some u → H2 b = some u) (na : H a = none) (nd : H dx = none) : Same H (upd (del H2 a) dx o) := fun b u e => by
  have h1 := ne_of_none e na
  have h2 := ne_of_none e nd
  rw [upd_ne h2, del_ne h1]
  exact hs b u h1 h2 e
theorem mk_ini1 {K : PySem.W.Frag} {C : Addr} {f : Str} {H : Hp} {v : V} {Q : XK} (T : OexC K C) (no : PySem.W.findIn K (.ref C) f = some none) (h : ∀ d H2, Same H H2 → H2 d = some (.xd [(f, v)]) → Q (.ref C) (some d) H2) : mkE C (sp_ini1 K C f) H [v] Q :=
  ⟨Nat.le_of_ble_eq_true rfl, fun a na => ⟨a, v, rfl, T, no, upd_same, fun dx nd ne => ⟨rfl, dx, _, upd_same, (upd_ne ne).trans upd_same, (upd_ne ne).symm.trans nd, h dx _ (same_xd (fun b u h1 h2 e => by rw [upd_ne h1, upd_ne h2, upd_ne h1]; exact e) na ((upd_ne ne).symm.trans nd)) upd_same⟩⟩⟩
theorem mk_ini2 {K : PySem.W.Frag} {C : Addr} {f g : Str} {H : Hp} {v u : V} {Q : XK} (T : OexC K C) (no : PySem.W.findIn K (.ref C) f = some none) (no2 : PySem.W.findIn K (.ref C) g = some none) (h : ∀ d H2, Same H H2 → H2 d = some (.xd [(g, u), (f, v)]) → Q (.ref C) (some d) H2) : mkE C (sp_ini2 K C f g) H [v, u] Q :=
  ⟨Nat.le_of_ble_eq_true rfl, fun a na => ⟨a, v, u, rfl, T, no, no2, upd_same, fun dx nd ne => ⟨rfl, dx, _, (upd_ne (Ne.symm ne)).trans upd_same, upd_same, (upd_ne ne).symm.trans nd, h dx _ (same_xd (fun b x h1 h2 e => by rw [upd_ne h2, upd_ne h1, upd_ne h2, upd_ne h1]; exact e) na ((upd_ne ne).symm.trans nd)) upd_same⟩⟩⟩
/-! ### the top's end told by names -/
theorem fun_ofD {K : PySem.W.Frag} {x q : Str} {st : Stmt} {f : Addr} {fd : FuncData} (F : FunD K x q (defArgs st) (defBody st) (defScope st) [] [] f fd) : Fun K x q st f fd := by
  obtain ⟨oc, od, dV, kV, doc, pm, an, cdv, ct, osl, rfl, lk, hcd, hd, _⟩ := F.ex
  rcases hd with ⟨_, rfl⟩ | ⟨h, _⟩
  · exact ⟨⟨oc, od, kV, doc, pm, an, cdv, ct, osl, rfl, lk, hcd⟩, F.kp⟩
  · exact absurd rfl h
/-- the library's Hook and a check of one's own -/
def hookX (n : Nat) (fa : List He.Fa) (fn : List He.DefD) (ck : PySem.W.Frag → Bool) : PySem.W.Hook where
  α := He.AlD × Bool
  obs := fun s => (He.obsDG n fa fn s.heap.get?, ck (He.frG s.heap.get? (He.asD s.heap.get? n)))
  val := fun _ => (He.valD fn, true)
  says := fun _ h => ∃ K : PySem.W.Frag, K.In h ∧ He.SaysD fa fn K ∧ ck K = true
  of := fun _ _ e => ⟨_, He.frG_in, congrArg Prod.fst e, congrArg Prod.snd e⟩
  keeps := fun _ _ _ ⟨K, hK, c⟩ k => ⟨K, PySem.W.Frag.In.keeps hK k, c⟩
def obX (n : Nat) (fa : List He.Fa) (fn : List He.DefD) (ck : PySem.W.Frag → Bool) (s : PySem.W.SharedT) : He.AlD × Bool := (He.obsDG n fa fn (HandSHeadRun.getT s), ck (He.frG (HandSHeadRun.getT s) (He.asD (HandSHeadRun.getT s) n)))
theorem obX_eq (n : Nat) (fa : List He.Fa) (fn : List He.DefD) (ck : PySem.W.Frag → Bool) (s : PySem.W.SharedT) : obX n fa fn ck s = (hookX n fa fn ck).obs s.abs := by
  have e : HandSHeadRun.getT s = s.abs.heap.get? := funext (HandSHeadRun.getT_eq s)
  unfold obX
  rw [e] <;> rfl
/-- what must be seen of an own exception class -/
def oexB (K : PySem.W.Frag) (C : Addr) : Bool := match K.lookup C with
  | some ⟨oc, _, .cls cd, sl⟩ => decide (oc = .type "type") && (match cd.mro, sl.toList with
    | .ref C' :: bm, [_, _, _, _, some (.builtin n), _] => decide (C' = C) && (decide (n = "ValueError.__new__") && (cd.hasDict && (!cd.hasDel && PySem.HandSPX.refsVE bm)))
    | _, _ => false)
  | _ => false
theorem oexB_ok {K : PySem.W.Frag} {C : Addr} (h : oexB K C = true) : ∃ nm q N bs bm sn sub ab col dd k0 k1 k2 k3 k5, K.lookup C = some (excClassObj nm q C N bs bm true sn sub ab col dd k0 k1 k2 k3 k5 "ValueError.__new__") ∧ PySem.HandSPX.refsVE bm = true := by
  unfold oexB at h
  split at h
  · rename_i oc dd cd sl e
    obtain ⟨h1, h2⟩ := Bool.and_eq_true_iff.mp h
    have e1 := of_decide_eq_true h1
    subst e1
    split at h2
    · rename_i C' bm k0 k1 k2 k3 n k5 em es
      simp only [Bool.and_eq_true, decide_eq_true_eq, Bool.not_eq_true'] at h2
      obtain ⟨rfl, rfl, hd, hx, hb⟩ := h2
      obtain ⟨nm, bs, mro, ns, qn, hdt, sn, sub, ab, col, del⟩ := cd
      dsimp only at em hd hx
      subst em hd hx
      have es2 : sl = #[k0, k1, k2, k3, some (.builtin "ValueError.__new__"), k5] := Array.toList_inj.mp es
      subst es2
      exact ⟨nm, qn, ns, bs, bm, sn, sub, ab, col, dd, k0, k1, k2, k3, k5, e, hb⟩
    · cases h2
  · cases h
def exB (K : PySem.W.Frag) (C : Addr) : Bool := oexB K C && (decide (PySem.W.findIn K (.ref C) "__setattr__" = some (some (.builtin "object.__setattr__"))) && (decide (PySem.W.subIn K (.ref C) (.type "BaseException") = some true) && (decide (PySem.W.typeIn K (.ref C) = some (.type "type")) && (PySem.W.keepIn K (.ref C) && decide (PySem.W.exmOne K (.ref C) (.ref C) = some true)))))
theorem exB_ok {K : PySem.W.Frag} {C : Addr} (h : exB K C = true) : OexC K C ∧ PySem.W.exmOne K (.ref C) (.ref C) = some true := by
  unfold exB at h
  simp only [Bool.and_eq_true, decide_eq_true_eq] at h
  exact ⟨⟨oexB_ok h.1, h.2.1, h.2.2.1, h.2.2.2.1, h.2.2.2.2.1⟩, h.2.2.2.2.2⟩
def inB (K : PySem.W.Frag) (C : Addr) : Bool := decide (PySem.W.findIn K (.ref C) "__init__" = some (some (.ref (He.ma K C "__init__")))) && decide (PySem.W.typeIn K (.ref (He.ma K C "__init__")) = some (.type "function"))
theorem inB_ok {K : PySem.W.Frag} {C : Addr} (h : inB K C = true) : PySem.W.findIn K (.ref C) "__init__" = some (some (.ref (He.ma K C "__init__"))) ∧ PySem.W.typeIn K (.ref (He.ma K C "__init__")) = some (.type "function") := by
  unfold inB at h
  simp only [Bool.and_eq_true, decide_eq_true_eq] at h
  exact h
def bareB (K : PySem.W.Frag) (C : Addr) : Bool := PySem.W.excIn K C [.type "ValueError", .type "Exception", .type "BaseException", .type "object"] "ValueError.__new__" && (PySem.W.keepIn K (.ref C) && (decide (PySem.W.subIn K (.ref C) (.type "BaseException") = some true) && decide (PySem.W.typeIn K (.ref C) = some (.type "type"))))
theorem bareB_ok {K : PySem.W.Frag} {C : Addr} {mg : Str → Option Value} {x : Str} (h : bareB K C = true) (g : mg x = some (.ref C)) : ExB K mg x C := by
  unfold bareB at h
  simp only [Bool.and_eq_true, decide_eq_true_eq] at h
  exact ⟨g, h.1, h.2.1, h.2.2.1, h.2.2.2⟩
local macro_rules | `(tactic| walk_at "call1") => `(tactic| fail)
local macro_rules | `(tactic| walk_at "w") => `(tactic| (repeat (first
  | with_reducible refine iteT' ?_
  | with_reducible refine iteF' ?_
  | with_reducible refine w_seq ?_
  | with_reducible refine w_asg ?_
  | with_reducible refine w_op ?_
  | ((with_reducible show tVar _ _ _ _); first | with_reducible refine w_v0 ?_ | with_reducible refine w_v1 ?_ | with_reducible refine w_v2 ?_ | with_reducible refine w_v3 ?_ | with_reducible refine w_v4 ?_ | with_reducible refine w_v5 ?_ | with_reducible refine w_v6 ?_ | with_reducible refine w_v7 ?_ | with_reducible refine w_v8 ?_ | with_reducible refine w_v9 ?_ | with_reducible refine w_v10 ?_ | with_reducible refine w_v11 ?_ | with_reducible refine w_v12 ?_ | with_reducible refine w_v13 ?_ | with_reducible refine w_v14 ?_ | with_reducible refine w_v15 ?_ | with_reducible refine w_v16 ?_ | with_reducible refine w_v17 ?_ | with_reducible refine w_v18 ?_ | with_reducible refine w_v19 ?_ | with_reducible refine w_v20 ?_ | with_reducible refine w_v21 ?_ | with_reducible refine w_v22 ?_ | with_reducible refine w_v23 ?_)
  | ((with_reducible show gName _ _ _ _ _); first | with_reducible refine w_g0 ?_ | with_reducible refine w_g1 ?_ | with_reducible refine w_g2 ?_ | with_reducible refine w_g3 ?_ | with_reducible refine w_g4 ?_ | with_reducible refine w_g5 ?_ | with_reducible refine w_g6 ?_ | with_reducible refine w_g7 ?_ | with_reducible refine w_g8 ?_ | with_reducible refine w_g9 ?_ | with_reducible refine w_g10 ?_ | with_reducible refine w_g11 ?_ | with_reducible refine w_g12 ?_ | with_reducible refine w_g13 ?_ | with_reducible refine w_g14 ?_ | with_reducible refine w_g15 ?_ | with_reducible refine w_g16 ?_ | with_reducible refine w_g17 ?_ | with_reducible refine w_g18 ?_ | with_reducible refine w_g19 ?_ | with_reducible refine w_g20 ?_ | with_reducible refine w_g21 ?_ | with_reducible refine w_g22 ?_ | with_reducible refine w_g23 ?_)
  | with_reducible refine w_c ?_
  | with_reducible refine w_cb ?_
  | with_reducible refine w_cons ?_
  | with_reducible refine w_nil ?_
  | with_reducible refine w_call0 ?_
  | with_reducible refine w_callS ?_
  | with_reducible refine w_kws ?_
  | with_reducible refine w_lt ?_
  | with_reducible refine w_le ?_
  | with_reducible refine w_gt ?_
  | with_reducible refine w_ge ?_
  | with_reducible refine w_I0 ?_
  | with_reducible refine w_eqI ?_
  | with_reducible refine w_neI ?_
  | with_reducible refine w_eqBB ?_
  | with_reducible refine w_neBB ?_
  | with_reducible refine w_U ?_
  | with_reducible refine w_un ?_
  | with_reducible refine w_test ?_
  | with_reducible refine w_tB ?_
  | with_reducible refine w_bl ?_
  | with_reducible refine w_ifs ?_
  | with_reducible refine w_ife ?_
  | with_reducible refine w_and ?_
  | with_reducible refine w_or ?_
  | with_reducible refine w_not ?_
  | with_reducible refine w_andV ?_
  | with_reducible refine w_orV ?_
  | with_reducible refine w_notV ?_
  | with_reducible refine w_ret ?_
  | with_reducible refine w_retN ?_
  | with_reducible refine w_next ?_
  | with_reducible refine w_drop ?_
  | with_reducible refine w_brk ?_
  | with_reducible refine w_for ?_
  | with_reducible refine w_rng1 ?_
  | with_reducible refine w_rng2 ?_
  | with_reducible refine w_cont ?_
  | with_reducible refine w_int ?_
  | with_reducible refine w_intB ?_
  | with_reducible refine w_bits ?_
  | with_reducible refine w_xi ?_
  | with_reducible refine w_isN_i ?_
  | with_reducible refine w_isN_r ?_
  | with_reducible refine w_isN_n ?_
  | with_reducible refine w_noN_i ?_
  | with_reducible refine w_noN_r ?_
  | with_reducible refine w_noN_n ?_
  | with_reducible refine w_abs ?_
  | with_reducible refine w_min ?_
  | with_reducible refine w_max ?_
  | with_reducible refine w_gcd ?_
  | with_reducible refine w_tupN ?_
  | with_reducible refine w_lstN ?_
  | with_reducible refine w_newD ?_
  | with_reducible refine w_par ?_
  | with_reducible refine w_two ?_
  | with_reducible refine w_sub ?_
  | ((with_reducible show rI _ _ _ _ _ _); first
    | with_reducible refine w_pow9 ?_ | with_reducible refine w_pow13 ?_ | with_reducible refine w_pow18 ?_ | with_reducible refine w_pow30 ?_ | with_reducible refine w_pow8 ?_ | with_reducible refine w_pow50 ?_
    | ((with_reducible apply w_I); (focus (first | assumption | decide | exact Bt.mulx (by walk_at "bt") (by walk_at "bt") (by decide) | exact ⟨by decide, by decide⟩ | exact .inl ⟨by omega, by omega⟩ | exact .inr ⟨by omega, by omega⟩ | exact .inl ⟨by decide, by decide⟩ | exact .inr ⟨by decide, by decide⟩ | omega))))
  | ((with_reducible show NT _ _ _); (with_reducible apply n_tup); (focus assumption); (focus (walk_at "rps")); (focus rfl); intro _ _ _)
  | ((with_reducible show NL _ _ _); (with_reducible apply n_lst); (focus assumption); (focus (walk_at "rps")); (focus rfl); intro _ _ _)
  | ((with_reducible show ND _ _); (with_reducible apply n_dct); (focus assumption); intro _ _ _)
  | ((with_reducible show rIxT _ _ _ _ _); first
    | ((with_reducible apply x_T0i); (focus assumption); (focus (walk_at "in2")))
    | ((with_reducible apply x_T0); (focus assumption); (focus (walk_at "in2")))
    | ((with_reducible apply x_T1i); (focus assumption); (focus (walk_at "in2")))
    | ((with_reducible apply x_T1); (focus assumption); (focus (walk_at "in2")))
    | ((with_reducible apply x_T2i); (focus assumption); (focus (walk_at "in2")))
    | ((with_reducible apply x_T2); (focus assumption); (focus (walk_at "in2")))
    | ((with_reducible apply x_T3i); (focus assumption); (focus (walk_at "in2")))
    | ((with_reducible apply x_T3); (focus assumption); (focus (walk_at "in2")))
    | ((with_reducible apply x_T4i); (focus assumption); (focus (walk_at "in2")))
    | ((with_reducible apply x_T4); (focus assumption); (focus (walk_at "in2")))
    | ((with_reducible apply x_T5i); (focus assumption); (focus (walk_at "in2")))
    | ((with_reducible apply x_T5); (focus assumption); (focus (walk_at "in2")))
    | ((with_reducible apply w_ixT); (focus (walk_at "fact")); (focus (walk_at "place"))))
  | ((with_reducible show rIxL _ _ _ _ _); first
    | ((with_reducible apply x_L0i); (focus assumption); (focus (walk_at "in2")))
    | ((with_reducible apply x_L0); (focus assumption); (focus (walk_at "in2")))
    | ((with_reducible apply x_L1i); (focus assumption); (focus (walk_at "in2")))
    | ((with_reducible apply x_L1); (focus assumption); (focus (walk_at "in2")))
    | ((with_reducible apply x_L2i); (focus assumption); (focus (walk_at "in2")))
    | ((with_reducible apply x_L2); (focus assumption); (focus (walk_at "in2")))
    | ((with_reducible apply x_L3i); (focus assumption); (focus (walk_at "in2")))
    | ((with_reducible apply x_L3); (focus assumption); (focus (walk_at "in2")))
    | ((with_reducible apply x_L4i); (focus assumption); (focus (walk_at "in2")))
    | ((with_reducible apply x_L4); (focus assumption); (focus (walk_at "in2")))
    | ((with_reducible apply x_L5i); (focus assumption); (focus (walk_at "in2")))
    | ((with_reducible apply x_L5); (focus assumption); (focus (walk_at "in2")))
    | ((with_reducible apply w_ixL); (focus (walk_at "fact")); (focus (walk_at "place"))))
  | ((with_reducible show gTup _ _ _ _ _ _ _); first | ((with_reducible apply g_tup2); (focus assumption); (focus (walk_at "in2"))) | ((with_reducible apply g_tup3); (focus assumption); (focus (walk_at "in2"))))
  | ((with_reducible show Rng1G _ _ _); (with_reducible apply rng1); (focus (first | decide | omega | (constructor <;> first | omega | (split <;> omega)))))
  | ((with_reducible show VS _ _); first
    | ((with_reducible refine v_tup ?_); intro _) | ((with_reducible refine v_lst ?_); intro _) | ((with_reducible refine v_dct ?_); intro _)
    | with_reducible refine v_int ?_ | with_reducible refine v_bl ?_ | with_reducible refine v_str ?_ | with_reducible refine v_non ?_ | ((with_reducible refine v_any ?_); intro _))
  | ((with_reducible show Wd _ _ _ _ _ _ → _); intro _)
  | ((with_reducible show rLenQ _ _ _ _); first
    | ((with_reducible apply l_lst); (focus assumption); (focus (walk_at "in2"))) | ((with_reducible apply l_tup); (focus assumption); (focus (walk_at "in2")))
    | ((with_reducible apply w_lenL); (focus (walk_at "fact"))) | ((with_reducible apply w_lenT); (focus (walk_at "fact"))))
  | ((with_reducible show sp_take _ _ _ _); (with_reducible apply call_tk); (focus assumption); (focus (first | decide | omega)); (focus (first | decide | decide +kernel)); intro _ _ _ _ _)
  | ((with_reducible show sp_whole _ _ _ _); (with_reducible apply call_wh); (focus assumption); intro _ _ _ _)
  | ((with_reducible show rCat _ _ _ _); (with_reducible apply w_catL); (focus assumption); (focus (walk_at "in2")); (focus (walk_at "in2")); (focus rfl); intro _ _ _)
  | ((with_reducible show rSetL _ _ _ _ _); first | ((with_reducible apply w_set0); (focus (walk_at "heap"))) | ((with_reducible apply w_set1); (focus (walk_at "heap"))) | ((with_reducible apply w_set2); (focus (walk_at "heap"))) | ((with_reducible apply w_set3); (focus (walk_at "heap"))) | ((with_reducible apply w_set4); (focus (walk_at "heap"))) | ((with_reducible apply w_set5); (focus (walk_at "heap"))))
  | walk_at "call1"
  | dsimp only [List.set, notT, notF]
  | rw [List.length_map])))
local macro_rules | `(tactic| walk_at "fact") => `(tactic| first | assumption | exact .inl (.inl (by walk_at "heap")))
local macro_rules | `(tactic| walk_at "place") => `(tactic| with_reducible first | exact at0 | exact at1 | exact at2 | exact at3 | exact at4 | exact at5 | exact at6 | exact at7 | assumption)

local macro_rules | `(tactic| walk_at "heap") => `(tactic| first | assumption | exact upd_same | ((with_reducible refine (upd_ne (by first | assumption | exact Ne.symm (by assumption))).trans ?_); walk_at "heap"))
local macro_rules | `(tactic| walk_at "in2") => `(tactic| first | with_reducible exact In2.here | ((with_reducible apply In2.there); walk_at "in2"))
local macro_rules | `(tactic| walk_at "rp") => `(tactic| first | with_reducible exact Rp.int _ | with_reducible exact Rp.bl _ | with_reducible exact Rp.non | with_reducible exact Rp.str _ | ((with_reducible apply Wd.get); (focus assumption); walk_at "in2"))
local macro_rules | `(tactic| walk_at "rps") => `(tactic| first | with_reducible exact Rps.nil | ((with_reducible apply Rps.cons); (focus (walk_at "rp")); walk_at "rps"))
local macro_rules | `(tactic| walk_at "bt") => `(tactic| first | assumption | ((with_reducible show Bt _ (_ * _)); (with_reducible apply Bt.mul); (focus (walk_at "bt")); (focus (walk_at "bt"))) | ((with_reducible show Bt _ (_ + _)); (with_reducible apply Bt.add); (focus (walk_at "bt")); (focus (walk_at "bt"))) | ((with_reducible show Bt _ (_ - _)); (with_reducible apply Bt.sub); (focus (walk_at "bt")); (focus (walk_at "bt"))) | ((with_reducible show Bt _ (-_)); (with_reducible apply Bt.neg); (focus (walk_at "bt"))))
def topS (i : Nat) : Stmt := PySem.Challenge.pw_fourcreases_k00_errors_and_their_fields.main.body.getD i (.Pass ⟨0, 0, 0, 0⟩)
abbrev s_law_mixed : Stmt := topS 39
abbrev NN_law_mixed : List Str := ["cell", "k", "number"]
theorem sc_law_mixed : FnScope ["cell", "k", "number"] ["cell", "k"] (defScope s_law_mixed) := ⟨rfl, rfl, rfl, by decide +kernel, rfl, by decide +kernel, by decide +kernel⟩
abbrev s_law_great : Stmt := topS 40
abbrev NN_law_great : List Str := ["cells", "place"]
theorem sc_law_great : FnScope ["cells", "place"] ["cells", "place"] (defScope s_law_great) := ⟨rfl, rfl, rfl, by decide +kernel, rfl, by decide +kernel, by decide +kernel⟩
abbrev s_law_stream : Stmt := topS 41
abbrev NN_law_stream : List Str := ["script", "cells"]
theorem sc_law_stream : FnScope ["script", "cells"] ["script"] (defScope s_law_stream) := ⟨rfl, rfl, rfl, by decide +kernel, rfl, by decide +kernel, by decide +kernel⟩
abbrev s_law_take : Stmt := topS 42
abbrev NN_law_take : List Str := ["stream", "many", "cells", "place", "digit"]
theorem sc_law_take : FnScope ["stream", "many", "cells", "place", "digit"] ["stream", "many"] (defScope s_law_take) := ⟨rfl, rfl, rfl, by decide +kernel, rfl, by decide +kernel, by decide +kernel⟩
abbrev s_law_whole : Stmt := topS 43
abbrev NN_law_whole : List Str := ["stream", "size", "sign", "number"]
theorem sc_law_whole : FnScope ["stream", "size", "sign", "number"] ["stream"] (defScope s_law_whole) := ⟨rfl, rfl, rfl, by decide +kernel, rfl, by decide +kernel, by decide +kernel⟩
abbrev s_law_raise_early : Stmt := topS 44
abbrev NN_law_raise_early : List Str := ["k", "word", "number"]
theorem sc_law_raise_early : FnScope ["k", "word", "number"] ["k", "word", "number"] (defScope s_law_raise_early) := ⟨rfl, rfl, rfl, by decide +kernel, rfl, by decide +kernel, by decide +kernel⟩
abbrev s_law_raise_late : Stmt := topS 45
abbrev NN_law_raise_late : List Str := ["k", "word", "number"]
theorem sc_law_raise_late : FnScope ["k", "word", "number"] ["k", "word", "number"] (defScope s_law_raise_late) := ⟨rfl, rfl, rfl, by decide +kernel, rfl, by decide +kernel, by decide +kernel⟩
abbrev s_law_raise : Stmt := topS 46
abbrev NN_law_raise : List Str := ["k", "word", "number"]
theorem sc_law_raise : FnScope ["k", "word", "number"] ["k", "word", "number"] (defScope s_law_raise) := ⟨rfl, rfl, rfl, by decide +kernel, rfl, by decide +kernel, by decide +kernel⟩
abbrev s_law_classes : Stmt := topS 47
abbrev NN_law_classes : List Str := ["e", "flags"]
theorem sc_law_classes : FnScope ["e", "flags"] ["e"] (defScope s_law_classes) := ⟨rfl, rfl, rfl, by decide +kernel, rfl, by decide +kernel, by decide +kernel⟩
abbrev s_law_fields : Stmt := topS 48
abbrev NN_law_fields : List Str := ["k", "e"]
theorem sc_law_fields : FnScope ["k", "e"] ["k", "e"] (defScope s_law_fields) := ⟨rfl, rfl, rfl, by decide +kernel, rfl, by decide +kernel, by decide +kernel⟩
abbrev s_law_due : Stmt := topS 49
abbrev NN_law_due : List Str := ["k", "word", "number"]
theorem sc_law_due : FnScope ["k", "word", "number"] ["k", "word", "number"] (defScope s_law_due) := ⟨rfl, rfl, rfl, by decide +kernel, rfl, by decide +kernel, by decide +kernel⟩
abbrev s_law_asked : Stmt := topS 50
abbrev NN_law_asked : List Str := ["k", "word", "number", "caught", "told", "flags", "is_value", "e", "at"]
theorem sc_law_asked : FnScope ["k", "word", "number", "caught", "told", "flags", "is_value", "e", "at"] ["k", "word", "number"] (defScope s_law_asked) := ⟨rfl, rfl, rfl, by decide +kernel, rfl, by decide +kernel, by decide +kernel⟩
abbrev s_law : Stmt := topS 51
abbrev NN_law : List Str := ["script", "stream", "cell", "k", "number", "letters", "word", "at"]
theorem sc_law : FnScope ["script", "stream", "cell", "k", "number", "letters", "word", "at"] ["script"] (defScope s_law) := ⟨rfl, rfl, rfl, by decide +kernel, rfl, by decide +kernel, by decide +kernel⟩
/-! ### what is asked of the written part -/
def cl (L : List Addr) (k : Nat) : Addr := L.getD k 0
def fNames : List Str := ["at", "word", "most", "crease", "number"]
def xcB (K : PySem.W.Frag) (C : Addr) : Bool := xfB K C && ((PySem.W.clsIn K C).isSome && (decide (PySem.W.findIn K (.ref C) "__class__" = some (some (.builtin "object.__class__"))) && (decide (PySem.W.specialIn K (.builtin "object.__class__") "__get__" = some (some (.builtin "getset_descriptor.__get__"))) && (decide (PySem.W.takesIn K (.builtin "object.__class__") = some true) && decide (PySem.W.mroIn K C (.type "object") = some true)))))
def chkB (K : PySem.W.Frag) (L : List Addr) (k : Nat) : Bool := xcB K (cl L k) && (fNames.all (fun f => decide (PySem.W.findIn K (.ref (cl L k)) f = some none)) && ((List.range 36).all (fun j => decide (PySem.W.kitOne K (.ref (cl L k)) (.ref (cl L j)) = some (decide (k = j)))) &&
  (decide (PySem.W.kitOne K (.ref (cl L k)) (.type "ValueError") = some true) && decide (PySem.W.exmOne K (.ref (cl L k)) (.ref (cl L 36)) = some true))))

abbrev i0_NoFraction : Stmt := inClass (topS 2) 0
theorem sci_NoFraction : FnScope ["self"] ["self"] (defScope i0_NoFraction) := ⟨rfl, rfl, rfl, by decide +kernel, rfl, by decide +kernel, by decide +kernel⟩
theorem okinit_NoFraction {P : Program} {w : World} {K : PySem.W.Frag} {mg : Str → Option Value} {base : Heap} {f : Addr} {fd : FuncData} (F : Fun K "__init__" "NoFraction.__init__" i0_NoFraction f fd) : FnOk P w K mg base CX0 1 f fd ["self"] spPass := by
  refine F.ok sci_NoFraction (fun vs H Q E h => ?_) (fun cdv A outer s H vs Q E hr h => ?_)
  · obtain ⟨⟨v, rfl⟩, _⟩ := h
    rfl
  · obtain ⟨⟨v, rfl⟩, q⟩ := h
    exact ⟨_, pss_one ps_pass, q⟩
abbrev i0_NoPoint : Stmt := inClass (topS 3) 0
theorem sci_NoPoint : FnScope ["self"] ["self"] (defScope i0_NoPoint) := ⟨rfl, rfl, rfl, by decide +kernel, rfl, by decide +kernel, by decide +kernel⟩
theorem okinit_NoPoint {P : Program} {w : World} {K : PySem.W.Frag} {mg : Str → Option Value} {base : Heap} {f : Addr} {fd : FuncData} (F : Fun K "__init__" "NoPoint.__init__" i0_NoPoint f fd) : FnOk P w K mg base CX0 1 f fd ["self"] spPass := by
  refine F.ok sci_NoPoint (fun vs H Q E h => ?_) (fun cdv A outer s H vs Q E hr h => ?_)
  · obtain ⟨⟨v, rfl⟩, _⟩ := h
    rfl
  · obtain ⟨⟨v, rfl⟩, q⟩ := h
    exact ⟨_, pss_one ps_pass, q⟩
abbrev i0_NoPlate : Stmt := inClass (topS 4) 0
theorem sci_NoPlate : FnScope ["self"] ["self"] (defScope i0_NoPlate) := ⟨rfl, rfl, rfl, by decide +kernel, rfl, by decide +kernel, by decide +kernel⟩
theorem okinit_NoPlate {P : Program} {w : World} {K : PySem.W.Frag} {mg : Str → Option Value} {base : Heap} {f : Addr} {fd : FuncData} (F : Fun K "__init__" "NoPlate.__init__" i0_NoPlate f fd) : FnOk P w K mg base CX0 1 f fd ["self"] spPass := by
  refine F.ok sci_NoPlate (fun vs H Q E h => ?_) (fun cdv A outer s H vs Q E hr h => ?_)
  · obtain ⟨⟨v, rfl⟩, _⟩ := h
    rfl
  · obtain ⟨⟨v, rfl⟩, q⟩ := h
    exact ⟨_, pss_one ps_pass, q⟩
abbrev i0_BadCorners : Stmt := inClass (topS 5) 0
theorem sci_BadCorners : FnScope ["self", "at"] ["self", "at"] (defScope i0_BadCorners) := ⟨rfl, rfl, rfl, by decide +kernel, rfl, by decide +kernel, by decide +kernel⟩
theorem okinit_BadCorners {P : Program} {w : World} {K : PySem.W.Frag} {mg : Str → Option Value} {base : Heap} {C f : Addr} {fd : FuncData} (F : Fun K "__init__" "BadCorners.__init__" i0_BadCorners f fd) : FnOk P w K mg base CX0 1 f fd ["self", "at"] (sp_ini1 K C "at") := by
  refine F.ok sci_BadCorners (fun vs H Q E h => ?_) (fun cdv A outer s H vs Q E hr h => ?_)
  · obtain ⟨a, v, rfl, _⟩ := h
    rfl
  · obtain ⟨a, v, rfl, T, no, e, q⟩ := h
    exact ⟨_, pss_one (ps_ost (pv 0) (pv 1)), ⟨v, rfl, .ref a, rfl, a, C, rfl, T, no, .inl ⟨e, fun dx n1 n2 => q dx n1 n2⟩⟩⟩
abbrev i0_BadPlates : Stmt := inClass (topS 6) 0
theorem sci_BadPlates : FnScope ["self", "at"] ["self", "at"] (defScope i0_BadPlates) := ⟨rfl, rfl, rfl, by decide +kernel, rfl, by decide +kernel, by decide +kernel⟩
theorem okinit_BadPlates {P : Program} {w : World} {K : PySem.W.Frag} {mg : Str → Option Value} {base : Heap} {C f : Addr} {fd : FuncData} (F : Fun K "__init__" "BadPlates.__init__" i0_BadPlates f fd) : FnOk P w K mg base CX0 1 f fd ["self", "at"] (sp_ini1 K C "at") := by
  refine F.ok sci_BadPlates (fun vs H Q E h => ?_) (fun cdv A outer s H vs Q E hr h => ?_)
  · obtain ⟨a, v, rfl, _⟩ := h
    rfl
  · obtain ⟨a, v, rfl, T, no, e, q⟩ := h
    exact ⟨_, pss_one (ps_ost (pv 0) (pv 1)), ⟨v, rfl, .ref a, rfl, a, C, rfl, T, no, .inl ⟨e, fun dx n1 n2 => q dx n1 n2⟩⟩⟩
abbrev i0_BadSheet : Stmt := inClass (topS 7) 0
theorem sci_BadSheet : FnScope ["self", "word", "at"] ["self", "word", "at"] (defScope i0_BadSheet) := ⟨rfl, rfl, rfl, by decide +kernel, rfl, by decide +kernel, by decide +kernel⟩
theorem okinit_BadSheet {P : Program} {w : World} {K : PySem.W.Frag} {mg : Str → Option Value} {base : Heap} {C f : Addr} {fd : FuncData} (F : Fun K "__init__" "BadSheet.__init__" i0_BadSheet f fd) : FnOk P w K mg base CX0 1 f fd ["self", "word", "at"] (sp_ini2 K C "word" "at") := by
  refine F.ok sci_BadSheet (fun vs H Q E h => ?_) (fun cdv A outer s H vs Q E hr h => ?_)
  · obtain ⟨a, v, u, rfl, _⟩ := h
    rfl
  · obtain ⟨a, v, u, rfl, T, no, no2, e, q⟩ := h
    exact ⟨_, pss_cons (ps_ost (pv 0) (pv 1)) (pss_one (ps_ost (pv 0) (pv 2))), ⟨v, rfl, .ref a, rfl, a, C, rfl, T, no, .inl ⟨e, fun dx n1 n2 => ⟨u, rfl, .ref a, rfl, a, C, rfl, T, no2, .inr ⟨dx, _, upd_same, (upd_ne n2).trans upd_same, Nat.le_of_ble_eq_true rfl, q dx n1 n2⟩⟩⟩⟩⟩
abbrev i0_TooMany : Stmt := inClass (topS 8) 0
theorem sci_TooMany : FnScope ["self", "most"] ["self", "most"] (defScope i0_TooMany) := ⟨rfl, rfl, rfl, by decide +kernel, rfl, by decide +kernel, by decide +kernel⟩
theorem okinit_TooMany {P : Program} {w : World} {K : PySem.W.Frag} {mg : Str → Option Value} {base : Heap} {C f : Addr} {fd : FuncData} (F : Fun K "__init__" "TooMany.__init__" i0_TooMany f fd) : FnOk P w K mg base CX0 1 f fd ["self", "most"] (sp_ini1 K C "most") := by
  refine F.ok sci_TooMany (fun vs H Q E h => ?_) (fun cdv A outer s H vs Q E hr h => ?_)
  · obtain ⟨a, v, rfl, _⟩ := h
    rfl
  · obtain ⟨a, v, rfl, T, no, e, q⟩ := h
    exact ⟨_, pss_one (ps_ost (pv 0) (pv 1)), ⟨v, rfl, .ref a, rfl, a, C, rfl, T, no, .inl ⟨e, fun dx n1 n2 => q dx n1 n2⟩⟩⟩
abbrev i0_NoCorner : Stmt := inClass (topS 9) 0
theorem sci_NoCorner : FnScope ["self"] ["self"] (defScope i0_NoCorner) := ⟨rfl, rfl, rfl, by decide +kernel, rfl, by decide +kernel, by decide +kernel⟩
theorem okinit_NoCorner {P : Program} {w : World} {K : PySem.W.Frag} {mg : Str → Option Value} {base : Heap} {f : Addr} {fd : FuncData} (F : Fun K "__init__" "NoCorner.__init__" i0_NoCorner f fd) : FnOk P w K mg base CX0 1 f fd ["self"] spPass := by
  refine F.ok sci_NoCorner (fun vs H Q E h => ?_) (fun cdv A outer s H vs Q E hr h => ?_)
  · obtain ⟨⟨v, rfl⟩, _⟩ := h
    rfl
  · obtain ⟨⟨v, rfl⟩, q⟩ := h
    exact ⟨_, pss_one ps_pass, q⟩
abbrev i0_NoCrease : Stmt := inClass (topS 10) 0
theorem sci_NoCrease : FnScope ["self"] ["self"] (defScope i0_NoCrease) := ⟨rfl, rfl, rfl, by decide +kernel, rfl, by decide +kernel, by decide +kernel⟩
theorem okinit_NoCrease {P : Program} {w : World} {K : PySem.W.Frag} {mg : Str → Option Value} {base : Heap} {f : Addr} {fd : FuncData} (F : Fun K "__init__" "NoCrease.__init__" i0_NoCrease f fd) : FnOk P w K mg base CX0 1 f fd ["self"] spPass := by
  refine F.ok sci_NoCrease (fun vs H Q E h => ?_) (fun cdv A outer s H vs Q E hr h => ?_)
  · obtain ⟨⟨v, rfl⟩, _⟩ := h
    rfl
  · obtain ⟨⟨v, rfl⟩, q⟩ := h
    exact ⟨_, pss_one ps_pass, q⟩
abbrev i0_NoNumbers : Stmt := inClass (topS 11) 0
theorem sci_NoNumbers : FnScope ["self"] ["self"] (defScope i0_NoNumbers) := ⟨rfl, rfl, rfl, by decide +kernel, rfl, by decide +kernel, by decide +kernel⟩
theorem okinit_NoNumbers {P : Program} {w : World} {K : PySem.W.Frag} {mg : Str → Option Value} {base : Heap} {f : Addr} {fd : FuncData} (F : Fun K "__init__" "NoNumbers.__init__" i0_NoNumbers f fd) : FnOk P w K mg base CX0 1 f fd ["self"] spPass := by
  refine F.ok sci_NoNumbers (fun vs H Q E h => ?_) (fun cdv A outer s H vs Q E hr h => ?_)
  · obtain ⟨⟨v, rfl⟩, _⟩ := h
    rfl
  · obtain ⟨⟨v, rfl⟩, q⟩ := h
    exact ⟨_, pss_one ps_pass, q⟩
abbrev i0_NoStand : Stmt := inClass (topS 12) 0
theorem sci_NoStand : FnScope ["self"] ["self"] (defScope i0_NoStand) := ⟨rfl, rfl, rfl, by decide +kernel, rfl, by decide +kernel, by decide +kernel⟩
theorem okinit_NoStand {P : Program} {w : World} {K : PySem.W.Frag} {mg : Str → Option Value} {base : Heap} {f : Addr} {fd : FuncData} (F : Fun K "__init__" "NoStand.__init__" i0_NoStand f fd) : FnOk P w K mg base CX0 1 f fd ["self"] spPass := by
  refine F.ok sci_NoStand (fun vs H Q E h => ?_) (fun cdv A outer s H vs Q E hr h => ?_)
  · obtain ⟨⟨v, rfl⟩, _⟩ := h
    rfl
  · obtain ⟨⟨v, rfl⟩, q⟩ := h
    exact ⟨_, pss_one ps_pass, q⟩
abbrev i0_BadChoice : Stmt := inClass (topS 13) 0
theorem sci_BadChoice : FnScope ["self"] ["self"] (defScope i0_BadChoice) := ⟨rfl, rfl, rfl, by decide +kernel, rfl, by decide +kernel, by decide +kernel⟩
theorem okinit_BadChoice {P : Program} {w : World} {K : PySem.W.Frag} {mg : Str → Option Value} {base : Heap} {f : Addr} {fd : FuncData} (F : Fun K "__init__" "BadChoice.__init__" i0_BadChoice f fd) : FnOk P w K mg base CX0 1 f fd ["self"] spPass := by
  refine F.ok sci_BadChoice (fun vs H Q E h => ?_) (fun cdv A outer s H vs Q E hr h => ?_)
  · obtain ⟨⟨v, rfl⟩, _⟩ := h
    rfl
  · obtain ⟨⟨v, rfl⟩, q⟩ := h
    exact ⟨_, pss_one ps_pass, q⟩
abbrev i0_BadSpaces : Stmt := inClass (topS 14) 0
theorem sci_BadSpaces : FnScope ["self", "at"] ["self", "at"] (defScope i0_BadSpaces) := ⟨rfl, rfl, rfl, by decide +kernel, rfl, by decide +kernel, by decide +kernel⟩
theorem okinit_BadSpaces {P : Program} {w : World} {K : PySem.W.Frag} {mg : Str → Option Value} {base : Heap} {C f : Addr} {fd : FuncData} (F : Fun K "__init__" "BadSpaces.__init__" i0_BadSpaces f fd) : FnOk P w K mg base CX0 1 f fd ["self", "at"] (sp_ini1 K C "at") := by
  refine F.ok sci_BadSpaces (fun vs H Q E h => ?_) (fun cdv A outer s H vs Q E hr h => ?_)
  · obtain ⟨a, v, rfl, _⟩ := h
    rfl
  · obtain ⟨a, v, rfl, T, no, e, q⟩ := h
    exact ⟨_, pss_one (ps_ost (pv 0) (pv 1)), ⟨v, rfl, .ref a, rfl, a, C, rfl, T, no, .inl ⟨e, fun dx n1 n2 => q dx n1 n2⟩⟩⟩
abbrev i0_NoPlacing : Stmt := inClass (topS 15) 0
theorem sci_NoPlacing : FnScope ["self"] ["self"] (defScope i0_NoPlacing) := ⟨rfl, rfl, rfl, by decide +kernel, rfl, by decide +kernel, by decide +kernel⟩
theorem okinit_NoPlacing {P : Program} {w : World} {K : PySem.W.Frag} {mg : Str → Option Value} {base : Heap} {f : Addr} {fd : FuncData} (F : Fun K "__init__" "NoPlacing.__init__" i0_NoPlacing f fd) : FnOk P w K mg base CX0 1 f fd ["self"] spPass := by
  refine F.ok sci_NoPlacing (fun vs H Q E h => ?_) (fun cdv A outer s H vs Q E hr h => ?_)
  · obtain ⟨⟨v, rfl⟩, _⟩ := h
    rfl
  · obtain ⟨⟨v, rfl⟩, q⟩ := h
    exact ⟨_, pss_one ps_pass, q⟩
abbrev i0_Shut : Stmt := inClass (topS 16) 0
theorem sci_Shut : FnScope ["self", "crease"] ["self", "crease"] (defScope i0_Shut) := ⟨rfl, rfl, rfl, by decide +kernel, rfl, by decide +kernel, by decide +kernel⟩
theorem okinit_Shut {P : Program} {w : World} {K : PySem.W.Frag} {mg : Str → Option Value} {base : Heap} {C f : Addr} {fd : FuncData} (F : Fun K "__init__" "Shut.__init__" i0_Shut f fd) : FnOk P w K mg base CX0 1 f fd ["self", "crease"] (sp_ini1 K C "crease") := by
  refine F.ok sci_Shut (fun vs H Q E h => ?_) (fun cdv A outer s H vs Q E hr h => ?_)
  · obtain ⟨a, v, rfl, _⟩ := h
    rfl
  · obtain ⟨a, v, rfl, T, no, e, q⟩ := h
    exact ⟨_, pss_one (ps_ost (pv 0) (pv 1)), ⟨v, rfl, .ref a, rfl, a, C, rfl, T, no, .inl ⟨e, fun dx n1 n2 => q dx n1 n2⟩⟩⟩
abbrev i0_NoSpot : Stmt := inClass (topS 17) 0
theorem sci_NoSpot : FnScope ["self"] ["self"] (defScope i0_NoSpot) := ⟨rfl, rfl, rfl, by decide +kernel, rfl, by decide +kernel, by decide +kernel⟩
theorem okinit_NoSpot {P : Program} {w : World} {K : PySem.W.Frag} {mg : Str → Option Value} {base : Heap} {f : Addr} {fd : FuncData} (F : Fun K "__init__" "NoSpot.__init__" i0_NoSpot f fd) : FnOk P w K mg base CX0 1 f fd ["self"] spPass := by
  refine F.ok sci_NoSpot (fun vs H Q E h => ?_) (fun cdv A outer s H vs Q E hr h => ?_)
  · obtain ⟨⟨v, rfl⟩, _⟩ := h
    rfl
  · obtain ⟨⟨v, rfl⟩, q⟩ := h
    exact ⟨_, pss_one ps_pass, q⟩
abbrev i0_BadNumber : Stmt := inClass (topS 18) 0
theorem sci_BadNumber : FnScope ["self", "word"] ["self", "word"] (defScope i0_BadNumber) := ⟨rfl, rfl, rfl, by decide +kernel, rfl, by decide +kernel, by decide +kernel⟩
theorem okinit_BadNumber {P : Program} {w : World} {K : PySem.W.Frag} {mg : Str → Option Value} {base : Heap} {C f : Addr} {fd : FuncData} (F : Fun K "__init__" "BadNumber.__init__" i0_BadNumber f fd) : FnOk P w K mg base CX0 1 f fd ["self", "word"] (sp_ini1 K C "word") := by
  refine F.ok sci_BadNumber (fun vs H Q E h => ?_) (fun cdv A outer s H vs Q E hr h => ?_)
  · obtain ⟨a, v, rfl, _⟩ := h
    rfl
  · obtain ⟨a, v, rfl, T, no, e, q⟩ := h
    exact ⟨_, pss_one (ps_ost (pv 0) (pv 1)), ⟨v, rfl, .ref a, rfl, a, C, rfl, T, no, .inl ⟨e, fun dx n1 n2 => q dx n1 n2⟩⟩⟩
abbrev i0_NoPolynomial : Stmt := inClass (topS 19) 0
theorem sci_NoPolynomial : FnScope ["self"] ["self"] (defScope i0_NoPolynomial) := ⟨rfl, rfl, rfl, by decide +kernel, rfl, by decide +kernel, by decide +kernel⟩
theorem okinit_NoPolynomial {P : Program} {w : World} {K : PySem.W.Frag} {mg : Str → Option Value} {base : Heap} {f : Addr} {fd : FuncData} (F : Fun K "__init__" "NoPolynomial.__init__" i0_NoPolynomial f fd) : FnOk P w K mg base CX0 1 f fd ["self"] spPass := by
  refine F.ok sci_NoPolynomial (fun vs H Q E h => ?_) (fun cdv A outer s H vs Q E hr h => ?_)
  · obtain ⟨⟨v, rfl⟩, _⟩ := h
    rfl
  · obtain ⟨⟨v, rfl⟩, q⟩ := h
    exact ⟨_, pss_one ps_pass, q⟩
abbrev i0_BadLot : Stmt := inClass (topS 20) 0
theorem sci_BadLot : FnScope ["self"] ["self"] (defScope i0_BadLot) := ⟨rfl, rfl, rfl, by decide +kernel, rfl, by decide +kernel, by decide +kernel⟩
theorem okinit_BadLot {P : Program} {w : World} {K : PySem.W.Frag} {mg : Str → Option Value} {base : Heap} {f : Addr} {fd : FuncData} (F : Fun K "__init__" "BadLot.__init__" i0_BadLot f fd) : FnOk P w K mg base CX0 1 f fd ["self"] spPass := by
  refine F.ok sci_BadLot (fun vs H Q E h => ?_) (fun cdv A outer s H vs Q E hr h => ?_)
  · obtain ⟨⟨v, rfl⟩, _⟩ := h
    rfl
  · obtain ⟨⟨v, rfl⟩, q⟩ := h
    exact ⟨_, pss_one ps_pass, q⟩
abbrev i0_BadBook : Stmt := inClass (topS 21) 0
theorem sci_BadBook : FnScope ["self"] ["self"] (defScope i0_BadBook) := ⟨rfl, rfl, rfl, by decide +kernel, rfl, by decide +kernel, by decide +kernel⟩
theorem okinit_BadBook {P : Program} {w : World} {K : PySem.W.Frag} {mg : Str → Option Value} {base : Heap} {f : Addr} {fd : FuncData} (F : Fun K "__init__" "BadBook.__init__" i0_BadBook f fd) : FnOk P w K mg base CX0 1 f fd ["self"] spPass := by
  refine F.ok sci_BadBook (fun vs H Q E h => ?_) (fun cdv A outer s H vs Q E hr h => ?_)
  · obtain ⟨⟨v, rfl⟩, _⟩ := h
    rfl
  · obtain ⟨⟨v, rfl⟩, q⟩ := h
    exact ⟨_, pss_one ps_pass, q⟩
abbrev i0_BadTold : Stmt := inClass (topS 22) 0
theorem sci_BadTold : FnScope ["self"] ["self"] (defScope i0_BadTold) := ⟨rfl, rfl, rfl, by decide +kernel, rfl, by decide +kernel, by decide +kernel⟩
theorem okinit_BadTold {P : Program} {w : World} {K : PySem.W.Frag} {mg : Str → Option Value} {base : Heap} {f : Addr} {fd : FuncData} (F : Fun K "__init__" "BadTold.__init__" i0_BadTold f fd) : FnOk P w K mg base CX0 1 f fd ["self"] spPass := by
  refine F.ok sci_BadTold (fun vs H Q E h => ?_) (fun cdv A outer s H vs Q E hr h => ?_)
  · obtain ⟨⟨v, rfl⟩, _⟩ := h
    rfl
  · obtain ⟨⟨v, rfl⟩, q⟩ := h
    exact ⟨_, pss_one ps_pass, q⟩
abbrev i0_NoFit : Stmt := inClass (topS 23) 0
theorem sci_NoFit : FnScope ["self"] ["self"] (defScope i0_NoFit) := ⟨rfl, rfl, rfl, by decide +kernel, rfl, by decide +kernel, by decide +kernel⟩
theorem okinit_NoFit {P : Program} {w : World} {K : PySem.W.Frag} {mg : Str → Option Value} {base : Heap} {f : Addr} {fd : FuncData} (F : Fun K "__init__" "NoFit.__init__" i0_NoFit f fd) : FnOk P w K mg base CX0 1 f fd ["self"] spPass := by
  refine F.ok sci_NoFit (fun vs H Q E h => ?_) (fun cdv A outer s H vs Q E hr h => ?_)
  · obtain ⟨⟨v, rfl⟩, _⟩ := h
    rfl
  · obtain ⟨⟨v, rfl⟩, q⟩ := h
    exact ⟨_, pss_one ps_pass, q⟩
abbrev i0_BadPrices : Stmt := inClass (topS 24) 0
theorem sci_BadPrices : FnScope ["self"] ["self"] (defScope i0_BadPrices) := ⟨rfl, rfl, rfl, by decide +kernel, rfl, by decide +kernel, by decide +kernel⟩
theorem okinit_BadPrices {P : Program} {w : World} {K : PySem.W.Frag} {mg : Str → Option Value} {base : Heap} {f : Addr} {fd : FuncData} (F : Fun K "__init__" "BadPrices.__init__" i0_BadPrices f fd) : FnOk P w K mg base CX0 1 f fd ["self"] spPass := by
  refine F.ok sci_BadPrices (fun vs H Q E h => ?_) (fun cdv A outer s H vs Q E hr h => ?_)
  · obtain ⟨⟨v, rfl⟩, _⟩ := h
    rfl
  · obtain ⟨⟨v, rfl⟩, q⟩ := h
    exact ⟨_, pss_one ps_pass, q⟩
abbrev i0_BadHeld : Stmt := inClass (topS 25) 0
theorem sci_BadHeld : FnScope ["self"] ["self"] (defScope i0_BadHeld) := ⟨rfl, rfl, rfl, by decide +kernel, rfl, by decide +kernel, by decide +kernel⟩
theorem okinit_BadHeld {P : Program} {w : World} {K : PySem.W.Frag} {mg : Str → Option Value} {base : Heap} {f : Addr} {fd : FuncData} (F : Fun K "__init__" "BadHeld.__init__" i0_BadHeld f fd) : FnOk P w K mg base CX0 1 f fd ["self"] spPass := by
  refine F.ok sci_BadHeld (fun vs H Q E h => ?_) (fun cdv A outer s H vs Q E hr h => ?_)
  · obtain ⟨⟨v, rfl⟩, _⟩ := h
    rfl
  · obtain ⟨⟨v, rfl⟩, q⟩ := h
    exact ⟨_, pss_one ps_pass, q⟩
abbrev i0_NotHeld : Stmt := inClass (topS 26) 0
theorem sci_NotHeld : FnScope ["self", "at"] ["self", "at"] (defScope i0_NotHeld) := ⟨rfl, rfl, rfl, by decide +kernel, rfl, by decide +kernel, by decide +kernel⟩
theorem okinit_NotHeld {P : Program} {w : World} {K : PySem.W.Frag} {mg : Str → Option Value} {base : Heap} {C f : Addr} {fd : FuncData} (F : Fun K "__init__" "NotHeld.__init__" i0_NotHeld f fd) : FnOk P w K mg base CX0 1 f fd ["self", "at"] (sp_ini1 K C "at") := by
  refine F.ok sci_NotHeld (fun vs H Q E h => ?_) (fun cdv A outer s H vs Q E hr h => ?_)
  · obtain ⟨a, v, rfl, _⟩ := h
    rfl
  · obtain ⟨a, v, rfl, T, no, e, q⟩ := h
    exact ⟨_, pss_one (ps_ost (pv 0) (pv 1)), ⟨v, rfl, .ref a, rfl, a, C, rfl, T, no, .inl ⟨e, fun dx n1 n2 => q dx n1 n2⟩⟩⟩
abbrev i0_BadSeam : Stmt := inClass (topS 27) 0
theorem sci_BadSeam : FnScope ["self", "word"] ["self", "word"] (defScope i0_BadSeam) := ⟨rfl, rfl, rfl, by decide +kernel, rfl, by decide +kernel, by decide +kernel⟩
theorem okinit_BadSeam {P : Program} {w : World} {K : PySem.W.Frag} {mg : Str → Option Value} {base : Heap} {C f : Addr} {fd : FuncData} (F : Fun K "__init__" "BadSeam.__init__" i0_BadSeam f fd) : FnOk P w K mg base CX0 1 f fd ["self", "word"] (sp_ini1 K C "word") := by
  refine F.ok sci_BadSeam (fun vs H Q E h => ?_) (fun cdv A outer s H vs Q E hr h => ?_)
  · obtain ⟨a, v, rfl, _⟩ := h
    rfl
  · obtain ⟨a, v, rfl, T, no, e, q⟩ := h
    exact ⟨_, pss_one (ps_ost (pv 0) (pv 1)), ⟨v, rfl, .ref a, rfl, a, C, rfl, T, no, .inl ⟨e, fun dx n1 n2 => q dx n1 n2⟩⟩⟩
abbrev i0_BadTable : Stmt := inClass (topS 28) 0
theorem sci_BadTable : FnScope ["self"] ["self"] (defScope i0_BadTable) := ⟨rfl, rfl, rfl, by decide +kernel, rfl, by decide +kernel, by decide +kernel⟩
theorem okinit_BadTable {P : Program} {w : World} {K : PySem.W.Frag} {mg : Str → Option Value} {base : Heap} {f : Addr} {fd : FuncData} (F : Fun K "__init__" "BadTable.__init__" i0_BadTable f fd) : FnOk P w K mg base CX0 1 f fd ["self"] spPass := by
  refine F.ok sci_BadTable (fun vs H Q E h => ?_) (fun cdv A outer s H vs Q E hr h => ?_)
  · obtain ⟨⟨v, rfl⟩, _⟩ := h
    rfl
  · obtain ⟨⟨v, rfl⟩, q⟩ := h
    exact ⟨_, pss_one ps_pass, q⟩
abbrev i0_BadWish : Stmt := inClass (topS 29) 0
theorem sci_BadWish : FnScope ["self"] ["self"] (defScope i0_BadWish) := ⟨rfl, rfl, rfl, by decide +kernel, rfl, by decide +kernel, by decide +kernel⟩
theorem okinit_BadWish {P : Program} {w : World} {K : PySem.W.Frag} {mg : Str → Option Value} {base : Heap} {f : Addr} {fd : FuncData} (F : Fun K "__init__" "BadWish.__init__" i0_BadWish f fd) : FnOk P w K mg base CX0 1 f fd ["self"] spPass := by
  refine F.ok sci_BadWish (fun vs H Q E h => ?_) (fun cdv A outer s H vs Q E hr h => ?_)
  · obtain ⟨⟨v, rfl⟩, _⟩ := h
    rfl
  · obtain ⟨⟨v, rfl⟩, q⟩ := h
    exact ⟨_, pss_one ps_pass, q⟩
abbrev i0_BadLengths : Stmt := inClass (topS 30) 0
theorem sci_BadLengths : FnScope ["self"] ["self"] (defScope i0_BadLengths) := ⟨rfl, rfl, rfl, by decide +kernel, rfl, by decide +kernel, by decide +kernel⟩
theorem okinit_BadLengths {P : Program} {w : World} {K : PySem.W.Frag} {mg : Str → Option Value} {base : Heap} {f : Addr} {fd : FuncData} (F : Fun K "__init__" "BadLengths.__init__" i0_BadLengths f fd) : FnOk P w K mg base CX0 1 f fd ["self"] spPass := by
  refine F.ok sci_BadLengths (fun vs H Q E h => ?_) (fun cdv A outer s H vs Q E hr h => ?_)
  · obtain ⟨⟨v, rfl⟩, _⟩ := h
    rfl
  · obtain ⟨⟨v, rfl⟩, q⟩ := h
    exact ⟨_, pss_one ps_pass, q⟩
abbrev i0_NoSlit : Stmt := inClass (topS 31) 0
theorem sci_NoSlit : FnScope ["self"] ["self"] (defScope i0_NoSlit) := ⟨rfl, rfl, rfl, by decide +kernel, rfl, by decide +kernel, by decide +kernel⟩
theorem okinit_NoSlit {P : Program} {w : World} {K : PySem.W.Frag} {mg : Str → Option Value} {base : Heap} {f : Addr} {fd : FuncData} (F : Fun K "__init__" "NoSlit.__init__" i0_NoSlit f fd) : FnOk P w K mg base CX0 1 f fd ["self"] spPass := by
  refine F.ok sci_NoSlit (fun vs H Q E h => ?_) (fun cdv A outer s H vs Q E hr h => ?_)
  · obtain ⟨⟨v, rfl⟩, _⟩ := h
    rfl
  · obtain ⟨⟨v, rfl⟩, q⟩ := h
    exact ⟨_, pss_one ps_pass, q⟩
abbrev i0_NoPart : Stmt := inClass (topS 32) 0
theorem sci_NoPart : FnScope ["self"] ["self"] (defScope i0_NoPart) := ⟨rfl, rfl, rfl, by decide +kernel, rfl, by decide +kernel, by decide +kernel⟩
theorem okinit_NoPart {P : Program} {w : World} {K : PySem.W.Frag} {mg : Str → Option Value} {base : Heap} {f : Addr} {fd : FuncData} (F : Fun K "__init__" "NoPart.__init__" i0_NoPart f fd) : FnOk P w K mg base CX0 1 f fd ["self"] spPass := by
  refine F.ok sci_NoPart (fun vs H Q E h => ?_) (fun cdv A outer s H vs Q E hr h => ?_)
  · obtain ⟨⟨v, rfl⟩, _⟩ := h
    rfl
  · obtain ⟨⟨v, rfl⟩, q⟩ := h
    exact ⟨_, pss_one ps_pass, q⟩
abbrev i0_BadText : Stmt := inClass (topS 33) 0
theorem sci_BadText : FnScope ["self", "at"] ["self", "at"] (defScope i0_BadText) := ⟨rfl, rfl, rfl, by decide +kernel, rfl, by decide +kernel, by decide +kernel⟩
theorem okinit_BadText {P : Program} {w : World} {K : PySem.W.Frag} {mg : Str → Option Value} {base : Heap} {C f : Addr} {fd : FuncData} (F : Fun K "__init__" "BadText.__init__" i0_BadText f fd) : FnOk P w K mg base CX0 1 f fd ["self", "at"] (sp_ini1 K C "at") := by
  refine F.ok sci_BadText (fun vs H Q E h => ?_) (fun cdv A outer s H vs Q E hr h => ?_)
  · obtain ⟨a, v, rfl, _⟩ := h
    rfl
  · obtain ⟨a, v, rfl, T, no, e, q⟩ := h
    exact ⟨_, pss_one (ps_ost (pv 0) (pv 1)), ⟨v, rfl, .ref a, rfl, a, C, rfl, T, no, .inl ⟨e, fun dx n1 n2 => q dx n1 n2⟩⟩⟩
abbrev i0_NoTree : Stmt := inClass (topS 34) 0
theorem sci_NoTree : FnScope ["self"] ["self"] (defScope i0_NoTree) := ⟨rfl, rfl, rfl, by decide +kernel, rfl, by decide +kernel, by decide +kernel⟩
theorem okinit_NoTree {P : Program} {w : World} {K : PySem.W.Frag} {mg : Str → Option Value} {base : Heap} {f : Addr} {fd : FuncData} (F : Fun K "__init__" "NoTree.__init__" i0_NoTree f fd) : FnOk P w K mg base CX0 1 f fd ["self"] spPass := by
  refine F.ok sci_NoTree (fun vs H Q E h => ?_) (fun cdv A outer s H vs Q E hr h => ?_)
  · obtain ⟨⟨v, rfl⟩, _⟩ := h
    rfl
  · obtain ⟨⟨v, rfl⟩, q⟩ := h
    exact ⟨_, pss_one ps_pass, q⟩
abbrev i0_LiesOver : Stmt := inClass (topS 35) 0
theorem sci_LiesOver : FnScope ["self", "number"] ["self", "number"] (defScope i0_LiesOver) := ⟨rfl, rfl, rfl, by decide +kernel, rfl, by decide +kernel, by decide +kernel⟩
theorem okinit_LiesOver {P : Program} {w : World} {K : PySem.W.Frag} {mg : Str → Option Value} {base : Heap} {C f : Addr} {fd : FuncData} (F : Fun K "__init__" "LiesOver.__init__" i0_LiesOver f fd) : FnOk P w K mg base CX0 1 f fd ["self", "number"] (sp_ini1 K C "number") := by
  refine F.ok sci_LiesOver (fun vs H Q E h => ?_) (fun cdv A outer s H vs Q E hr h => ?_)
  · obtain ⟨a, v, rfl, _⟩ := h
    rfl
  · obtain ⟨a, v, rfl, T, no, e, q⟩ := h
    exact ⟨_, pss_one (ps_ost (pv 0) (pv 1)), ⟨v, rfl, .ref a, rfl, a, C, rfl, T, no, .inl ⟨e, fun dx n1 n2 => q dx n1 n2⟩⟩⟩
abbrev i0_NoUndo : Stmt := inClass (topS 36) 0
theorem sci_NoUndo : FnScope ["self"] ["self"] (defScope i0_NoUndo) := ⟨rfl, rfl, rfl, by decide +kernel, rfl, by decide +kernel, by decide +kernel⟩
theorem okinit_NoUndo {P : Program} {w : World} {K : PySem.W.Frag} {mg : Str → Option Value} {base : Heap} {f : Addr} {fd : FuncData} (F : Fun K "__init__" "NoUndo.__init__" i0_NoUndo f fd) : FnOk P w K mg base CX0 1 f fd ["self"] spPass := by
  refine F.ok sci_NoUndo (fun vs H Q E h => ?_) (fun cdv A outer s H vs Q E hr h => ?_)
  · obtain ⟨⟨v, rfl⟩, _⟩ := h
    rfl
  · obtain ⟨⟨v, rfl⟩, q⟩ := h
    exact ⟨_, pss_one ps_pass, q⟩
abbrev i0_BadTries : Stmt := inClass (topS 37) 0
theorem sci_BadTries : FnScope ["self"] ["self"] (defScope i0_BadTries) := ⟨rfl, rfl, rfl, by decide +kernel, rfl, by decide +kernel, by decide +kernel⟩
theorem okinit_BadTries {P : Program} {w : World} {K : PySem.W.Frag} {mg : Str → Option Value} {base : Heap} {f : Addr} {fd : FuncData} (F : Fun K "__init__" "BadTries.__init__" i0_BadTries f fd) : FnOk P w K mg base CX0 1 f fd ["self"] spPass := by
  refine F.ok sci_BadTries (fun vs H Q E h => ?_) (fun cdv A outer s H vs Q E hr h => ?_)
  · obtain ⟨⟨v, rfl⟩, _⟩ := h
    rfl
  · obtain ⟨⟨v, rfl⟩, q⟩ := h
    exact ⟨_, pss_one ps_pass, q⟩
def dd_law_mixed : He.DefD := ⟨("_law_mixed", none), "_law_mixed", "_law_mixed", defArgs s_law_mixed, defBody s_law_mixed, defScope s_law_mixed, [], []⟩
def dd_law_great : He.DefD := ⟨("_law_great", none), "_law_great", "_law_great", defArgs s_law_great, defBody s_law_great, defScope s_law_great, [], []⟩
def dd_law_stream : He.DefD := ⟨("_law_stream", none), "_law_stream", "_law_stream", defArgs s_law_stream, defBody s_law_stream, defScope s_law_stream, [], []⟩
def dd_law_take : He.DefD := ⟨("_law_take", none), "_law_take", "_law_take", defArgs s_law_take, defBody s_law_take, defScope s_law_take, [], []⟩
def dd_law_whole : He.DefD := ⟨("_law_whole", none), "_law_whole", "_law_whole", defArgs s_law_whole, defBody s_law_whole, defScope s_law_whole, [], []⟩
def dd_law_raise_early : He.DefD := ⟨("_law_raise_early", none), "_law_raise_early", "_law_raise_early", defArgs s_law_raise_early, defBody s_law_raise_early, defScope s_law_raise_early, [], []⟩
def dd_law_raise_late : He.DefD := ⟨("_law_raise_late", none), "_law_raise_late", "_law_raise_late", defArgs s_law_raise_late, defBody s_law_raise_late, defScope s_law_raise_late, [], []⟩
def dd_law_raise : He.DefD := ⟨("_law_raise", none), "_law_raise", "_law_raise", defArgs s_law_raise, defBody s_law_raise, defScope s_law_raise, [], []⟩
def dd_law_classes : He.DefD := ⟨("_law_classes", none), "_law_classes", "_law_classes", defArgs s_law_classes, defBody s_law_classes, defScope s_law_classes, [], []⟩
def dd_law_fields : He.DefD := ⟨("_law_fields", none), "_law_fields", "_law_fields", defArgs s_law_fields, defBody s_law_fields, defScope s_law_fields, [], []⟩
def dd_law_due : He.DefD := ⟨("_law_due", none), "_law_due", "_law_due", defArgs s_law_due, defBody s_law_due, defScope s_law_due, [], []⟩
def dd_law_asked : He.DefD := ⟨("_law_asked", none), "_law_asked", "_law_asked", defArgs s_law_asked, defBody s_law_asked, defScope s_law_asked, [], []⟩
def dd_law : He.DefD := ⟨("law", none), "law", "law", defArgs s_law, defBody s_law, defScope s_law, [], []⟩
def di_NoFraction : He.DefD := ⟨("NoFraction", some "__init__"), "__init__", "NoFraction.__init__", defArgs i0_NoFraction, defBody i0_NoFraction, defScope i0_NoFraction, [], []⟩
def di_NoPoint : He.DefD := ⟨("NoPoint", some "__init__"), "__init__", "NoPoint.__init__", defArgs i0_NoPoint, defBody i0_NoPoint, defScope i0_NoPoint, [], []⟩
def di_NoPlate : He.DefD := ⟨("NoPlate", some "__init__"), "__init__", "NoPlate.__init__", defArgs i0_NoPlate, defBody i0_NoPlate, defScope i0_NoPlate, [], []⟩
def di_BadCorners : He.DefD := ⟨("BadCorners", some "__init__"), "__init__", "BadCorners.__init__", defArgs i0_BadCorners, defBody i0_BadCorners, defScope i0_BadCorners, [], []⟩
def di_BadPlates : He.DefD := ⟨("BadPlates", some "__init__"), "__init__", "BadPlates.__init__", defArgs i0_BadPlates, defBody i0_BadPlates, defScope i0_BadPlates, [], []⟩
def di_BadSheet : He.DefD := ⟨("BadSheet", some "__init__"), "__init__", "BadSheet.__init__", defArgs i0_BadSheet, defBody i0_BadSheet, defScope i0_BadSheet, [], []⟩
def di_TooMany : He.DefD := ⟨("TooMany", some "__init__"), "__init__", "TooMany.__init__", defArgs i0_TooMany, defBody i0_TooMany, defScope i0_TooMany, [], []⟩
def di_NoCorner : He.DefD := ⟨("NoCorner", some "__init__"), "__init__", "NoCorner.__init__", defArgs i0_NoCorner, defBody i0_NoCorner, defScope i0_NoCorner, [], []⟩
def di_NoCrease : He.DefD := ⟨("NoCrease", some "__init__"), "__init__", "NoCrease.__init__", defArgs i0_NoCrease, defBody i0_NoCrease, defScope i0_NoCrease, [], []⟩
def di_NoNumbers : He.DefD := ⟨("NoNumbers", some "__init__"), "__init__", "NoNumbers.__init__", defArgs i0_NoNumbers, defBody i0_NoNumbers, defScope i0_NoNumbers, [], []⟩
def di_NoStand : He.DefD := ⟨("NoStand", some "__init__"), "__init__", "NoStand.__init__", defArgs i0_NoStand, defBody i0_NoStand, defScope i0_NoStand, [], []⟩
def di_BadChoice : He.DefD := ⟨("BadChoice", some "__init__"), "__init__", "BadChoice.__init__", defArgs i0_BadChoice, defBody i0_BadChoice, defScope i0_BadChoice, [], []⟩
def di_BadSpaces : He.DefD := ⟨("BadSpaces", some "__init__"), "__init__", "BadSpaces.__init__", defArgs i0_BadSpaces, defBody i0_BadSpaces, defScope i0_BadSpaces, [], []⟩
def di_NoPlacing : He.DefD := ⟨("NoPlacing", some "__init__"), "__init__", "NoPlacing.__init__", defArgs i0_NoPlacing, defBody i0_NoPlacing, defScope i0_NoPlacing, [], []⟩
def di_Shut : He.DefD := ⟨("Shut", some "__init__"), "__init__", "Shut.__init__", defArgs i0_Shut, defBody i0_Shut, defScope i0_Shut, [], []⟩
def di_NoSpot : He.DefD := ⟨("NoSpot", some "__init__"), "__init__", "NoSpot.__init__", defArgs i0_NoSpot, defBody i0_NoSpot, defScope i0_NoSpot, [], []⟩
def di_BadNumber : He.DefD := ⟨("BadNumber", some "__init__"), "__init__", "BadNumber.__init__", defArgs i0_BadNumber, defBody i0_BadNumber, defScope i0_BadNumber, [], []⟩
def di_NoPolynomial : He.DefD := ⟨("NoPolynomial", some "__init__"), "__init__", "NoPolynomial.__init__", defArgs i0_NoPolynomial, defBody i0_NoPolynomial, defScope i0_NoPolynomial, [], []⟩
def di_BadLot : He.DefD := ⟨("BadLot", some "__init__"), "__init__", "BadLot.__init__", defArgs i0_BadLot, defBody i0_BadLot, defScope i0_BadLot, [], []⟩
def di_BadBook : He.DefD := ⟨("BadBook", some "__init__"), "__init__", "BadBook.__init__", defArgs i0_BadBook, defBody i0_BadBook, defScope i0_BadBook, [], []⟩
def di_BadTold : He.DefD := ⟨("BadTold", some "__init__"), "__init__", "BadTold.__init__", defArgs i0_BadTold, defBody i0_BadTold, defScope i0_BadTold, [], []⟩
def di_NoFit : He.DefD := ⟨("NoFit", some "__init__"), "__init__", "NoFit.__init__", defArgs i0_NoFit, defBody i0_NoFit, defScope i0_NoFit, [], []⟩
def di_BadPrices : He.DefD := ⟨("BadPrices", some "__init__"), "__init__", "BadPrices.__init__", defArgs i0_BadPrices, defBody i0_BadPrices, defScope i0_BadPrices, [], []⟩
def di_BadHeld : He.DefD := ⟨("BadHeld", some "__init__"), "__init__", "BadHeld.__init__", defArgs i0_BadHeld, defBody i0_BadHeld, defScope i0_BadHeld, [], []⟩
def di_NotHeld : He.DefD := ⟨("NotHeld", some "__init__"), "__init__", "NotHeld.__init__", defArgs i0_NotHeld, defBody i0_NotHeld, defScope i0_NotHeld, [], []⟩
def di_BadSeam : He.DefD := ⟨("BadSeam", some "__init__"), "__init__", "BadSeam.__init__", defArgs i0_BadSeam, defBody i0_BadSeam, defScope i0_BadSeam, [], []⟩
def di_BadTable : He.DefD := ⟨("BadTable", some "__init__"), "__init__", "BadTable.__init__", defArgs i0_BadTable, defBody i0_BadTable, defScope i0_BadTable, [], []⟩
def di_BadWish : He.DefD := ⟨("BadWish", some "__init__"), "__init__", "BadWish.__init__", defArgs i0_BadWish, defBody i0_BadWish, defScope i0_BadWish, [], []⟩
def di_BadLengths : He.DefD := ⟨("BadLengths", some "__init__"), "__init__", "BadLengths.__init__", defArgs i0_BadLengths, defBody i0_BadLengths, defScope i0_BadLengths, [], []⟩
def di_NoSlit : He.DefD := ⟨("NoSlit", some "__init__"), "__init__", "NoSlit.__init__", defArgs i0_NoSlit, defBody i0_NoSlit, defScope i0_NoSlit, [], []⟩
def di_NoPart : He.DefD := ⟨("NoPart", some "__init__"), "__init__", "NoPart.__init__", defArgs i0_NoPart, defBody i0_NoPart, defScope i0_NoPart, [], []⟩
def di_BadText : He.DefD := ⟨("BadText", some "__init__"), "__init__", "BadText.__init__", defArgs i0_BadText, defBody i0_BadText, defScope i0_BadText, [], []⟩
def di_NoTree : He.DefD := ⟨("NoTree", some "__init__"), "__init__", "NoTree.__init__", defArgs i0_NoTree, defBody i0_NoTree, defScope i0_NoTree, [], []⟩
def di_LiesOver : He.DefD := ⟨("LiesOver", some "__init__"), "__init__", "LiesOver.__init__", defArgs i0_LiesOver, defBody i0_LiesOver, defScope i0_LiesOver, [], []⟩
def di_NoUndo : He.DefD := ⟨("NoUndo", some "__init__"), "__init__", "NoUndo.__init__", defArgs i0_NoUndo, defBody i0_NoUndo, defScope i0_NoUndo, [], []⟩
def di_BadTries : He.DefD := ⟨("BadTries", some "__init__"), "__init__", "BadTries.__init__", defArgs i0_BadTries, defBody i0_BadTries, defScope i0_BadTries, [], []⟩
def fnL : List He.DefD := [dd_law_mixed, dd_law_great, dd_law_stream, dd_law_take, dd_law_whole, dd_law_raise_early, dd_law_raise_late, dd_law_raise, dd_law_classes, dd_law_fields, dd_law_due, dd_law_asked, dd_law, di_NoFraction, di_NoPoint, di_NoPlate, di_BadCorners, di_BadPlates, di_BadSheet, di_TooMany, di_NoCorner, di_NoCrease, di_NoNumbers, di_NoStand, di_BadChoice, di_BadSpaces, di_NoPlacing, di_Shut, di_NoSpot, di_BadNumber, di_NoPolynomial, di_BadLot, di_BadBook, di_BadTold, di_NoFit, di_BadPrices, di_BadHeld, di_NotHeld, di_BadSeam, di_BadTable, di_BadWish, di_BadLengths, di_NoSlit, di_NoPart, di_BadText, di_NoTree, di_LiesOver, di_NoUndo, di_BadTries]
def faL : List He.Fa := [.glo "_law_mixed", .glo "_law_great", .glo "_law_stream", .glo "_law_take", .glo "_law_whole", .glo "_law_raise_early", .glo "_law_raise_late", .glo "_law_raise", .glo "_law_classes", .glo "_law_fields", .glo "_law_due", .glo "_law_asked", .glo "law", .free "int", .free "bool", .free "tuple", .free "list", .free "len", .free "abs", .free "min", .free "max", .free "range", .free "isinstance", .free "ValueError"]
def LL : List Addr := [44, 63, 82, 101, 120, 139, 158, 177, 196, 215, 234, 253, 272, 291, 310, 329, 348, 367, 386, 405, 424, 443, 462, 481, 500, 519, 538, 557, 576, 595, 614, 633, 652, 671, 690, 709, 24]
def initL : List Addr := [44, 63, 82, 101, 120, 139, 158, 177, 196, 215, 234, 253, 272, 291, 310, 329, 348, 367, 386, 405, 424, 443, 462, 481, 500, 519, 538, 557, 576, 595, 614, 633, 652, 671, 690, 709]
def ckK (K : PySem.W.Frag) : Bool := (initL.all (fun C => exB K C && inB K C) && (bareB K 24 && ((List.range 37).all (chkB K LL) && (decide (PySem.W.nsIn K mainGlobals "NoFraction" = some (some (.ref 44))) && (decide (PySem.W.nsIn K mainGlobals "NoPoint" = some (some (.ref 63))) && (decide (PySem.W.nsIn K mainGlobals "NoPlate" = some (some (.ref 82))) && (decide (PySem.W.nsIn K mainGlobals "BadCorners" = some (some (.ref 101))) && (decide (PySem.W.nsIn K mainGlobals "BadPlates" = some (some (.ref 120))) && (decide (PySem.W.nsIn K mainGlobals "BadSheet" = some (some (.ref 139))) && (decide (PySem.W.nsIn K mainGlobals "TooMany" = some (some (.ref 158))) && (decide (PySem.W.nsIn K mainGlobals "NoCorner" = some (some (.ref 177))) && (decide (PySem.W.nsIn K mainGlobals "NoCrease" = some (some (.ref 196))) && (decide (PySem.W.nsIn K mainGlobals "NoNumbers" = some (some (.ref 215))) && (decide (PySem.W.nsIn K mainGlobals "NoStand" = some (some (.ref 234))) && (decide (PySem.W.nsIn K mainGlobals "BadChoice" = some (some (.ref 253))) && (decide (PySem.W.nsIn K mainGlobals "BadSpaces" = some (some (.ref 272))) && (decide (PySem.W.nsIn K mainGlobals "NoPlacing" = some (some (.ref 291))) && (decide (PySem.W.nsIn K mainGlobals "Shut" = some (some (.ref 310))) && (decide (PySem.W.nsIn K mainGlobals "NoSpot" = some (some (.ref 329))) && (decide (PySem.W.nsIn K mainGlobals "BadNumber" = some (some (.ref 348))) && (decide (PySem.W.nsIn K mainGlobals "NoPolynomial" = some (some (.ref 367))) && (decide (PySem.W.nsIn K mainGlobals "BadLot" = some (some (.ref 386))) && (decide (PySem.W.nsIn K mainGlobals "BadBook" = some (some (.ref 405))) && (decide (PySem.W.nsIn K mainGlobals "BadTold" = some (some (.ref 424))) && (decide (PySem.W.nsIn K mainGlobals "NoFit" = some (some (.ref 443))) && (decide (PySem.W.nsIn K mainGlobals "BadPrices" = some (some (.ref 462))) && (decide (PySem.W.nsIn K mainGlobals "BadHeld" = some (some (.ref 481))) && (decide (PySem.W.nsIn K mainGlobals "NotHeld" = some (some (.ref 500))) && (decide (PySem.W.nsIn K mainGlobals "BadSeam" = some (some (.ref 519))) && (decide (PySem.W.nsIn K mainGlobals "BadTable" = some (some (.ref 538))) && (decide (PySem.W.nsIn K mainGlobals "BadWish" = some (some (.ref 557))) && (decide (PySem.W.nsIn K mainGlobals "BadLengths" = some (some (.ref 576))) && (decide (PySem.W.nsIn K mainGlobals "NoSlit" = some (some (.ref 595))) && (decide (PySem.W.nsIn K mainGlobals "NoPart" = some (some (.ref 614))) && (decide (PySem.W.nsIn K mainGlobals "BadText" = some (some (.ref 633))) && (decide (PySem.W.nsIn K mainGlobals "NoTree" = some (some (.ref 652))) && (decide (PySem.W.nsIn K mainGlobals "LiesOver" = some (some (.ref 671))) && (decide (PySem.W.nsIn K mainGlobals "NoUndo" = some (some (.ref 690))) && (decide (PySem.W.nsIn K mainGlobals "BadTries" = some (some (.ref 709))) && (decide (PySem.W.nsIn K mainGlobals "FoldError" = some (some (.ref 24))) && true))))))))))))))))))))))))))))))))))))))))
abbrev RW : PySem.W.OpenRow := PySem.W.OpenLaw.row PySem.Challenge.rw_fourcreases_k00_errors_and_their_fields
def looseL : List Str := (["FoldError", "NoFraction", "NoPoint", "NoPlate", "BadCorners", "BadPlates", "BadSheet", "TooMany", "NoCorner", "NoCrease", "NoNumbers", "NoStand", "BadChoice", "BadSpaces", "NoPlacing", "Shut", "NoSpot", "BadNumber", "NoPolynomial", "BadLot", "BadBook", "BadTold", "NoFit", "BadPrices", "BadHeld", "NotHeld", "BadSeam", "BadTable", "BadWish", "BadLengths"] : List Str) ++ (["NoSlit", "NoPart", "BadText", "NoTree", "LiesOver", "NoUndo", "BadTries", "_law_mixed", "_law_great", "_law_stream", "_law_take", "_law_whole", "_law_raise_early", "_law_raise_late", "_law_raise", "_law_classes", "_law_fields", "_law_due", "_law_asked"] : List Str)
set_option maxHeartbeats 0 in
theorem run (w : World) : HandSHeadRun.RunEq RW (PySem.W.view RW.prog [51]) (hookX 5 faL fnL ckK) (obX 5 faL fnL ckK) 15000 looseL w := by
  intro os
  kernel_rfl
/-! ### lowest terms -/
def gI (a b : Int) : Int := ((Nat.gcd a.natAbs b.natAbs : Nat) : Int)
def sg (a b : Int) : Int := if b < 0 then -gI a b else gI a b
def nt (a b : Int) : Int := a.fdiv (sg a b)
def bN (a b : Int) : Int := b.fdiv (sg a b)
theorem gI_pos {a b : Int} (h : b ≠ 0) : 0 < gI a b := by
  have : 0 < Nat.gcd a.natAbs b.natAbs := Nat.gcd_pos_of_pos_right _ (by omega)
  unfold gI
  omega
theorem gI_le {a b : Int} (h : b ≠ 0) : gI a b ≤ (b.natAbs : Int) := by
  have : Nat.gcd a.natAbs b.natAbs ≤ b.natAbs := Nat.gcd_le_right _ (by omega)
  unfold gI
  omega
theorem sg_ne {a b : Int} (h : b ≠ 0) : sg a b ≠ 0 := by
  have := gI_pos (a := a) h
  unfold sg
  split <;> omega
theorem sg_abs {a b : Int} : (sg a b).natAbs = Nat.gcd a.natAbs b.natAbs := by
  unfold sg gI
  split <;> omega
theorem gI_dl (a b : Int) : gI a b ∣ a := Int.natAbs_dvd_natAbs.mp (by
  show ((Nat.gcd a.natAbs b.natAbs : Nat) : Int).natAbs ∣ _
  rw [Int.natAbs_natCast]
  exact Nat.gcd_dvd_left _ _)
theorem gI_dr (a b : Int) : gI a b ∣ b := Int.natAbs_dvd_natAbs.mp (by
  show ((Nat.gcd a.natAbs b.natAbs : Nat) : Int).natAbs ∣ _
  rw [Int.natAbs_natCast]
  exact Nat.gcd_dvd_right _ _)
theorem sg_dl (a b : Int) : sg a b ∣ a := by
  unfold sg
  split
  · exact Int.neg_dvd.mpr (gI_dl a b)
  · exact gI_dl a b
theorem sg_dr (a b : Int) : sg a b ∣ b := by
  unfold sg
  split
  · exact Int.neg_dvd.mpr (gI_dr a b)
  · exact gI_dr a b
theorem fdiv_exact {a d q : Int} (hd : d ≠ 0) (e : a = d * q) : a.fdiv d = q := by
  subst e
  exact Int.mul_fdiv_cancel_left q hd
theorem nt_mul {a b : Int} (h : b ≠ 0) : sg a b * nt a b = a := by
  obtain ⟨q, e⟩ := sg_dl a b
  have : nt a b = q := fdiv_exact (sg_ne h) e
  rw [this]
  exact e.symm
theorem nb_mul {a b : Int} (h : b ≠ 0) : sg a b * bN a b = b := by
  obtain ⟨q, e⟩ := sg_dr a b
  have : bN a b = q := fdiv_exact (sg_ne h) e
  rw [this]
  exact e.symm
theorem nb_pos {a b : Int} (h : b ≠ 0) : 0 < bN a b := by
  have e := nb_mul (a := a) h
  have g := gI_pos (a := a) h
  unfold sg at e
  by_cases hb : b < 0
  · rw [if_pos hb] at e
    refine Int.not_le.mp fun hn => ?_
    have := Int.mul_nonneg (Int.le_of_lt g) (Int.neg_nonneg_of_nonpos hn)
    have e2 : gI a b * -bN a b = b := (Int.mul_neg _ _).trans ((Int.neg_mul _ _).symm.trans e)
    omega
  · rw [if_neg hb] at e
    refine Int.not_le.mp fun hn => ?_
    have := Int.mul_nonneg (Int.le_of_lt g) (Int.neg_nonneg_of_nonpos hn)
    have e2 : gI a b * -bN a b = -b := (Int.mul_neg _ _).trans (congrArg Neg.neg e)
    omega
/-- the value stays -/
theorem nt_val {a b : Int} (h : b ≠ 0) : nt a b * b = a * bN a b := by
  have e1 := nt_mul (a := a) h
  have e2 := nb_mul (a := a) h
  calc nt a b * b = nt a b * (sg a b * bN a b) := by rw [e2]
    _ = sg a b * nt a b * bN a b := by rw [← Int.mul_assoc, Int.mul_comm (nt a b)]
    _ = a * bN a b := by rw [e1]
theorem nt_gcd {a b : Int} (h : b ≠ 0) : Nat.gcd (nt a b).natAbs (bN a b).natAbs = 1 := by
  have e1 := congrArg Int.natAbs (nt_mul (a := a) h)
  have e2 := congrArg Int.natAbs (nb_mul (a := a) h)
  rw [Int.natAbs_mul, sg_abs] at e1 e2
  have gp : 0 < Nat.gcd a.natAbs b.natAbs := Nat.gcd_pos_of_pos_right _ (by omega)
  have k : Nat.gcd a.natAbs b.natAbs * Nat.gcd (nt a b).natAbs (bN a b).natAbs = Nat.gcd a.natAbs b.natAbs * 1 := by
    rw [← Nat.gcd_mul_left, e1, e2, Nat.mul_one]
  exact Nat.eq_of_mul_eq_mul_left gp k
theorem nt_le {a b : Int} (h : b ≠ 0) : (nt a b).natAbs ≤ a.natAbs := by
  have e1 := congrArg Int.natAbs (nt_mul (a := a) h)
  rw [Int.natAbs_mul, sg_abs] at e1
  have gp : 0 < Nat.gcd a.natAbs b.natAbs := Nat.gcd_pos_of_pos_right _ (by omega)
  rw [← e1]
  exact Nat.le_mul_of_pos_left _ gp
theorem nb_le {a b : Int} (h : b ≠ 0) : (bN a b).natAbs ≤ b.natAbs := by
  have e1 := congrArg Int.natAbs (nb_mul (a := a) h)
  rw [Int.natAbs_mul, sg_abs] at e1
  have gp : 0 < Nat.gcd a.natAbs b.natAbs := Nat.gcd_pos_of_pos_right _ (by omega)
  have e2 : Nat.gcd a.natAbs b.natAbs * (bN a b).natAbs = b.natAbs := e1
  calc (bN a b).natAbs ≤ Nat.gcd a.natAbs b.natAbs * (bN a b).natAbs := Nat.le_mul_of_pos_left _ gp
    _ = b.natAbs := e2
/-- a pair in lowest terms -/
structure Low (a b : Int) : Prop where
  pos : 1 ≤ b
  one : Nat.gcd a.natAbs b.natAbs = 1
theorem nt_low {a b : Int} (h : b ≠ 0) : Low (nt a b) (bN a b) := ⟨nb_pos h, nt_gcd h⟩
theorem sg_one {a b : Int} (l : Low a b) : sg a b = 1 := by
  unfold sg gI
  have := l.pos
  rw [if_neg (by omega), l.one]
  rfl
theorem nt_id {a b : Int} (l : Low a b) : nt a b = a := by
  unfold nt
  rw [sg_one l]
  exact Int.fdiv_one a
theorem nb_id {a b : Int} (l : Low a b) : bN a b = b := by
  unfold bN
  rw [sg_one l]
  exact Int.fdiv_one b
theorem low_of {a b : Int} (h : 1 ≤ b) (e : bN a b = b) : Low a b := by
  have q := nt_low (a := a) (b := b) (by omega)
  have m := congrArg Int.natAbs (nb_mul (a := a) (b := b) (by omega))
  rw [Int.natAbs_mul, sg_abs, e] at m
  refine ⟨h, ?_⟩
  have bp : 0 < b.natAbs := by omega
  have : Nat.gcd a.natAbs b.natAbs * b.natAbs = 1 * b.natAbs := by rw [m, Nat.one_mul]
  exact Nat.eq_of_mul_eq_mul_right bp this
theorem log_of {j : Int} {k : Nat} (h : j.natAbs < 2 ^ k) (hk : 0 < k) : j.natAbs.log2 < k := PySem.Flt.log2_lt_of hk h
theorem sg_log {a b : Int} (h : b ≠ 0) (hb : b.natAbs.log2 < 9000) : (sg a b).natAbs.log2 < 9000 := by
  have l : (sg a b).natAbs ≤ b.natAbs := by
    rw [sg_abs]
    exact Nat.gcd_le_right _ (by omega)
  have b0 : b.natAbs ≠ 0 := by omega
  have h1 : b.natAbs < 2 ^ 9000 := (Nat.log2_lt b0).mp hb
  have s0 : (sg a b).natAbs ≠ 0 := by
    have := sg_ne (a := a) h
    omega
  exact (Nat.log2_lt s0).mpr (Nat.lt_of_le_of_lt l h1)
theorem eqv_pair {a b c d : Int} : PyData.eqv (.tuple [.int a, .int b]) (.tuple [.int c, .int d]) = decide (a = c ∧ b = d) := by
  show (a == c && (b == d && true)) = _
  rw [Bool.and_true]
  by_cases h1 : a = c
  · subst h1
    rw [beq_self_eq_true, Bool.true_and]
    by_cases h2 : b = d
    · subst h2
      rw [beq_self_eq_true]
      exact (decide_eq_true ⟨rfl, rfl⟩).symm
    · rw [beq_eq_false_iff_ne.mpr h2]
      exact (decide_eq_false fun z => h2 z.2).symm
  · rw [beq_eq_false_iff_ne.mpr h1, Bool.false_and]
    exact (decide_eq_false fun z => h1 z.1).symm

theorem sgn_small {d x : Int} (d0 : 0 ≤ d) (d1 : d < 2) (x0 : 0 ≤ x) (x1 : x < 1000000000000000000000000000000000000000) : ((1 - 2 * d) * x).natAbs < 1000000000000000000000000000000000000000 := by
  have e : d = 0 ∨ d = 1 := by omega
  rcases e with rfl | rfl <;> omega
section
variable {P : Program} {w : World} {K : PySem.W.Frag} {mg : Str → Option Value} {base : Heap}
theorem ok_law_mixed {f : Addr} {fd : FuncData} (F : Fun K "_law_mixed" "_law_mixed" s_law_mixed f fd) (nb : Nb mg) : FnOk P w K mg base CX0 1 f fd ["cell", "k"] sp_mixed := by
  have sc := sc_law_mixed
  refine F.ok sc (fun vs H Q E h => ?_) (fun cdv A outer s H vs Q E hr h => ?_)
  · obtain ⟨c, k, rfl, _⟩ := h
    rfl
  · obtain ⟨c, k, rfl, q⟩ := h
    refine ⟨_, (pss_cons (ps_asg (pe_op op_mod (pe_callTy cq_int (by rfl) nb.int (by decide +kernel) (pa_cons (pe_op op_mul (pe_op op_add (pe_op op_add (pe_op op_mod (pe_callTy cq_int (by rfl) nb.int (by decide +kernel) (pa_cons (pv 0) pa_nil)) pe_int) (pe_op op_mul pe_int (pv 1))) pe_int) pe_int) pa_nil)) pe_int) (pg_name (i := 2) sc.nd rfl (.inl rfl)))
    (pss_cons (ps_asg (pe_op op_mod (pe_callTy cq_int (by rfl) nb.int (by decide +kernel) (pa_cons (pe_op op_mul (pv 2) (pe_op op_add (pe_op op_fdivW (pv 2) pe_int) pe_int)) pa_nil)) pe_int) (pg_name (i := 2) sc.nd rfl (.inl rfl)))
    (pss_one (ps_ret (pe_op op_mod (pe_callTy cq_int (by rfl) nb.int (by decide +kernel) (pa_cons (pe_op op_mul (pv 2) (pe_op op_add (pe_op op_fdivW (pv 2) pe_int) pe_int)) pa_nil)) pe_int))))), ?_⟩
    (rw [show start ["cell", "k", "number"] [.int c, .int k] = [some (.int c), some (.int k), none] from rfl]; try dsimp only [cxOf])
    walk_at "w"
    generalize hn : (c % 2147483647 + 7919 * k + 1) * 48271 % 2147483647 = n
    have n0 : 0 ≤ n := by omega
    have n1 : n < 2147483647 := by omega
    walk_at "w"
    generalize hm : n * (n / 1009 + 69621) % 2147483647 = m
    have m0 : 0 ≤ m := by omega
    have m1 : m < 2147483647 := by omega
    walk_at "w"
    exact q _
theorem ok_law_great {f : Addr} {fd : FuncData} (F : Fun K "_law_great" "_law_great" s_law_great f fd) (nb : Nb mg) : FnOk P w K mg base CX0 1 f fd ["cells", "place"] (sp_great K) := by
  have sc := sc_law_great
  refine F.ok sc (fun vs H Q E h => ?_) (fun cdv A outer s H vs Q E hr h => ?_)
  · obtain ⟨c, p, ns, rfl, _⟩ := h
    rfl
  · obtain ⟨c, p, ns, rfl, hc, p0, q⟩ := h
    refine ⟨_, (pss_cons (ps_if (PW.pt (pw_and (pt_cmpR op_lt (pv 1) (pe_callB cq_len (by rfl) nb.len (by decide +kernel) (pa_cons (pv 0) pa_nil)) (nomark _)) (pw_and1 (pt_cmpR op_ge (pe_callB cq_abs (by rfl) nb.abs (by decide +kernel) (pa_cons (pe_ix ix_list (pv 0) (pv 1) (fun _ _ => rfl)) pa_nil)) (pe_op op_pow pe_int pe_int) (nomark _))))) (pss_one (ps_ret (pe_callB cq_abs (by rfl) nb.abs (by decide +kernel) (pa_cons (pe_ix ix_list (pv 0) (pv 1) (fun _ _ => rfl)) pa_nil)))) pss_nil)
    (pss_one (ps_ret pe_int))), ?_⟩
    (rw [show start ["cells", "place"] [.ref c, .int p] = [some (.ref c), some (.int p)] from rfl]; try dsimp only [cxOf])
    walk_at "w"
    refine w_ifd (fun h1 => ?_) (fun h1 => ?_)
    · skip
      obtain ⟨n, hn⟩ := at_ints p0 h1
      walk_at "w"
      refine w_ifd (fun h2 => ?_) (fun h2 => ?_)
      · walk_at "w"
        exact q _ (by omega)
      · walk_at "w"
        exact q _ (by omega)
    · refine iteF ?_
      walk_at "w"
      exact q _ (by omega)
theorem ok_law_stream {f : Addr} {fd : FuncData} (F : Fun K "_law_stream" "_law_stream" s_law_stream f fd) (nb : Nb mg) (d_law_great : Df P w K mg base CX0 1 "_law_great" ["cells", "place"] (sp_great K)) : FnOk P w K mg base CX0 2 f fd ["script"] (sp_stream K) := by
  have sc := sc_law_stream
  refine F.ok sc (fun vs H Q E h => ?_) (fun cdv A outer s H vs Q E hr h => ?_)
  · obtain ⟨c, ns, rfl, _⟩ := h
    rfl
  · obtain ⟨c, ns, rfl, hc, q⟩ := h
    refine ⟨_, (pss_cons (ps_asg (pe_callTy cq_list (by rfl) nb.list (by decide +kernel) (pa_cons (pv 0) pa_nil)) (pg_name (i := 1) sc.nd rfl (.inl rfl)))
    (pss_cons (ps_if (pt_cmpR op_eq (pe_callB cq_len (by rfl) nb.len (by decide +kernel) (pa_cons (pv 1) pa_nil)) pe_int (nomark _)) (pss_one (ps_asg (pe_lst (pa_cons pe_int pa_nil)) (pg_name (i := 1) sc.nd rfl (.inl rfl)))) pss_nil)
    (pss_one (ps_ret (pe_lst (pa_cons (pv 1) (pa_cons pe_int (pa_cons (pe_call d_law_great.F (hr.mono (by decide)) (by rfl) d_law_great.g d_law_great.kp d_law_great.b .nil pass0 (pa_cons (pv 1) (pa_cons pe_int pa_nil))) (pa_cons pe_int pa_nil))))))))), ?_⟩
    (rw [show start ["script", "cells"] [.ref c] = [some (.ref c), none] from rfl]; try dsimp only [cxOf])
    walk_at "w"
    refine ⟨c, ns.map V.int, rfl, .inl hc, fun l nl => ?_⟩
    walk_at "w"
    have s1 : Same H (upd H l (.lst (ns.map V.int))) := same_new nl
    refine w_ifd (fun h1 => ?_) (fun h1 => ?_)
    · walk_at "w"
      refine nl_mk fun p np => ?_
      walk_at "w"
      refine ⟨p, 0, [0], rfl, .inl (.inl upd_same), by decide, fun g g0 => ?_⟩
      walk_at "w"
      refine nl_mk fun t nt => ?_
      have tp : p ≠ t := ne_of_none upd_same nt
      refine q _ t ((s1.new np).new nt) ((s1.new np).free nt) ⟨p, 0, g, 0, [0], upd_same, by decide, g0, ?_, by decide⟩
      rw [upd_ne tp]
      exact upd_same
    · skip
      walk_at "w"
      refine ⟨l, 0, ns, rfl, .inl (.inl upd_same), by decide, fun g g0 => ?_⟩
      walk_at "w"
      refine nl_mk fun t nt => ?_
      have tp : l ≠ t := ne_of_none upd_same nt
      refine q _ t (s1.new nt) (s1.free nt) ⟨l, 0, g, 0, ns, upd_same, by decide, g0, ?_, by omega⟩
      rw [upd_ne tp]
      exact upd_same
theorem ok_law_take {f : Addr} {fd : FuncData} (F : Fun K "_law_take" "_law_take" s_law_take f fd) (nb : Nb mg) (d_law_great : Df P w K mg base CX0 1 "_law_great" ["cells", "place"] (sp_great K)) (d_law_mixed : Df P w K mg base CX0 1 "_law_mixed" ["cell", "k"] sp_mixed) : FnOk P w K mg base CX0 2 f fd ["stream", "many"] sp_take := by
  have sc := sc_law_take
  refine F.ok sc (fun vs H Q E h => ?_) (fun cdv A outer s H vs Q E hr h => ?_)
  · obtain ⟨a, m, rfl, _⟩ := h
    rfl
  · obtain ⟨a, m, rfl, hm, ⟨c, p, g, n, ns, h1, p0, g0, h4, hl⟩, q⟩ := h
    have ca := stm_ca h1 h4
    refine ⟨_, (pss_cons (ps_asg (pe_ix ix_list (pv 0) pe_int (fun _ _ => rfl)) (pg_name (i := 2) sc.nd rfl (.inl rfl)))
    (pss_cons (ps_asg (pe_ix ix_list (pv 0) pe_int (fun _ _ => rfl)) (pg_name (i := 3) sc.nd rfl (.inl rfl)))
    (pss_cons (ps_asg (pe_op op_add (pe_ix ix_list (pv 0) pe_int (fun _ _ => rfl)) pe_int) (pg_sub (pv 0) pe_int set_list))
    (pss_cons (ps_if (pt_cmpR op_gt (pe_ix ix_list (pv 0) pe_int (fun _ _ => rfl)) pe_int (nomark _)) (pss_cons (ps_asg (pe_op op_mod (pe_callTy cq_int (by rfl) nb.int (by decide +kernel) (pa_cons (pe_ix ix_list (pv 0) pe_int (fun _ _ => rfl)) pa_nil)) (pv 1)) (pg_name (i := 4) sc.nd rfl (.inl rfl)))
    (pss_cons (ps_asg (pe_op op_fdivW (pe_ix ix_list (pv 0) pe_int (fun _ _ => rfl)) (pv 1)) (pg_sub (pv 0) pe_int set_list))
    (pss_one (ps_if (pt_cmpR op_gt (pe_ix ix_list (pv 0) pe_int (fun _ _ => rfl)) pe_int (nomark _)) (pss_one (ps_ret (pv 4))) pss_nil)))) (pss_one (ps_asg (pe_op op_mod (pe_call d_law_mixed.F (hr.mono (by decide)) (by rfl) d_law_mixed.g d_law_mixed.kp d_law_mixed.b .nil pass0 (pa_cons (pe_ix ix_list (pv 2) (pe_op op_mod (pe_callTy cq_int (by rfl) nb.int (by decide +kernel) (pa_cons (pv 3) pa_nil)) (pe_callB cq_len (by rfl) nb.len (by decide +kernel) (pa_cons (pv 2) pa_nil))) (fun _ _ => rfl)) (pa_cons (pe_ix ix_list (pv 0) pe_int (fun _ _ => rfl)) pa_nil))) (pv 1)) (pg_name (i := 4) sc.nd rfl (.inl rfl)))))
    (pss_cons (ps_asg (pe_op op_add (pv 3) pe_int) (pg_sub (pv 0) pe_int set_list))
    (pss_cons (ps_asg (pe_call d_law_great.F (hr.mono (by decide)) (by rfl) d_law_great.g d_law_great.kp d_law_great.b .nil pass0 (pa_cons (pv 2) (pa_cons (pe_op op_add (pv 3) pe_int) pa_nil))) (pg_sub (pv 0) pe_int set_list))
    (pss_one (ps_ret (pv 4))))))))), ?_⟩
    (rw [show start ["stream", "many", "cells", "place", "digit"] [.ref a, .int m] = [some (.ref a), some (.int m), none, none, none] from rfl]; try dsimp only [cxOf])
    walk_at "w"
    refine w_ifd (fun hg => ?_) (fun hg => ?_)
    · walk_at "w"
      refine w_ifd (fun h2 => ?_) (fun h2 => ?_)
      · walk_at "w"
        refine q _ _ ?_ ⟨c, p, g / m, n + 1, ns, upd_same, p0, by omega, ?_, hl⟩ (Int.emod_nonneg _ (by omega)) (Int.emod_lt_of_pos _ (by omega))
        · exact (But.upd.trans But.upd)
        · walk_at "heap"
      · walk_at "w"
        refine ⟨c, p + 1, ns, rfl, .inl (.inl (by walk_at "heap")), by omega, fun g2 g20 => ?_⟩
        walk_at "w"
        refine q _ _ ?_ ⟨c, p + 1, g2, n + 1, ns, upd_same, by omega, g20, ?_, hl⟩ (Int.emod_nonneg _ (by omega)) (Int.emod_lt_of_pos _ (by omega))
        · exact ((But.upd.trans But.upd).trans But.upd).trans But.upd
        · walk_at "heap"
    · obtain ⟨z, hz⟩ := at_ints (ns := ns) (i := p % (ns.length : Int)) (Int.emod_nonneg _ (by omega)) (Int.emod_lt_of_pos _ (by omega))
      walk_at "w"
      refine ⟨z, n + 1, rfl, fun d0 => ?_⟩
      walk_at "w"
      refine ⟨c, p + 1, ns, rfl, .inl (.inl (by walk_at "heap")), by omega, fun g2 g20 => ?_⟩
      walk_at "w"
      refine q _ _ ?_ ⟨c, p + 1, g2, n + 1, ns, upd_same, by omega, g20, ?_, hl⟩ (Int.emod_nonneg _ (by omega)) (Int.emod_lt_of_pos _ (by omega))
      · exact (But.upd.trans But.upd).trans But.upd
      · walk_at "heap"
theorem call_take {H : Hp} {a : Addr} {m : Int} {Q : VK} {E : XK} (s : Stm H a) (hm : 0 < m) (hl : m.natAbs.log2 < 9000) (h : ∀ H' (d : Int), But a H H' → Stm H' a → 0 ≤ d → d < m → Q (.int d) H') : sp_take [.ref a, .int m] H Q E := ⟨a, m, rfl, ⟨hm, hl⟩, s, h⟩
theorem ok_law_whole {f : Addr} {fd : FuncData} (F : Fun K "_law_whole" "_law_whole" s_law_whole f fd) (d_law_take : Df P w K mg base CX0 2 "_law_take" ["stream", "many"] sp_take) : FnOk P w K mg base CX0 3 f fd ["stream"] sp_whole := by
  have sc := sc_law_whole
  refine F.ok sc (fun vs H Q E h => ?_) (fun cdv A outer s H vs Q E hr h => ?_)
  · obtain ⟨a, rfl, _⟩ := h
    rfl
  · obtain ⟨a, rfl, st, q⟩ := h
    refine ⟨_, (pss_cons (ps_asg (pe_call d_law_take.F (hr.mono (by decide)) (by rfl) d_law_take.g d_law_take.kp d_law_take.b .nil pass0 (pa_cons (pv 0) (pa_cons pe_int pa_nil))) (pg_name (i := 1) sc.nd rfl (.inl rfl)))
    (pss_cons (ps_asg (pe_op op_sub pe_int (pe_op op_mul pe_int (pe_call d_law_take.F (hr.mono (by decide)) (by rfl) d_law_take.g d_law_take.kp d_law_take.b .nil pass0 (pa_cons (pv 0) (pa_cons pe_int pa_nil))))) (pg_name (i := 2) sc.nd rfl (.inl rfl)))
    (pss_cons (ps_if (pt_cmpR op_eq (pv 1) pe_int (nomark _)) (pss_one (ps_ret (pe_op op_mul (pv 2) (pe_call d_law_take.F (hr.mono (by decide)) (by rfl) d_law_take.g d_law_take.kp d_law_take.b .nil pass0 (pa_cons (pv 0) (pa_cons pe_int pa_nil)))))) pss_nil)
    (pss_cons (ps_if (pt_cmpR op_eq (pv 1) pe_int (nomark _)) (pss_one (ps_ret (pe_op op_mul (pv 2) (pe_call d_law_take.F (hr.mono (by decide)) (by rfl) d_law_take.g d_law_take.kp d_law_take.b .nil pass0 (pa_cons (pv 0) (pa_cons pe_int pa_nil)))))) pss_nil)
    (pss_cons (ps_if (pt_cmpR op_eq (pv 1) pe_int (nomark _)) (pss_one (ps_ret (pe_op op_mul (pv 2) (pe_call d_law_take.F (hr.mono (by decide)) (by rfl) d_law_take.g d_law_take.kp d_law_take.b .nil pass0 (pa_cons (pv 0) (pa_cons (pe_op op_pow pe_int pe_int) pa_nil)))))) pss_nil)
    (pss_cons (ps_asg (pe_op op_add (pe_op op_mul (pe_call d_law_take.F (hr.mono (by decide)) (by rfl) d_law_take.g d_law_take.kp d_law_take.b .nil pass0 (pa_cons (pv 0) (pa_cons (pe_op op_pow pe_int pe_int) pa_nil))) (pe_op op_pow pe_int pe_int)) (pe_call d_law_take.F (hr.mono (by decide)) (by rfl) d_law_take.g d_law_take.kp d_law_take.b .nil pass0 (pa_cons (pv 0) (pa_cons (pe_op op_pow pe_int pe_int) pa_nil)))) (pg_name (i := 3) sc.nd rfl (.inl rfl)))
    (pss_cons (ps_if (pt_cmpR op_eq (pv 1) pe_int (nomark _)) (pss_one (ps_ret (pe_op op_mul (pv 2) (pv 3)))) pss_nil)
    (pss_one (ps_ret (pe_op op_mul (pv 2) (pe_op op_add (pe_op op_mul (pv 3) (pe_op op_pow pe_int pe_int)) (pe_call d_law_take.F (hr.mono (by decide)) (by rfl) d_law_take.g d_law_take.kp d_law_take.b .nil pass0 (pa_cons (pv 0) (pa_cons (pe_op op_pow pe_int pe_int) pa_nil)))))))))))))), ?_⟩
    (rw [show start ["stream", "size", "sign", "number"] [.ref a] = [some (.ref a), none, none, none] from rfl]; try dsimp only [cxOf])
    walk_at "w"
    refine call_take st (by decide) (by decide) fun H1 z b1 s1 z0 z1 => ?_
    walk_at "w"
    refine call_take s1 (by decide) (by decide) fun H2 d b2 s2 d0 d1 => ?_
    have bb := b1.trans b2
    walk_at "w"
    refine w_ifd (fun h0 => ?_) (fun h0 => ?_)
    · walk_at "w"
      refine call_take s2 (by decide) (by decide) fun H3 x b3 s3 x0 x1 => ?_
      walk_at "w"
      exact q _ _ (bb.trans b3) s3 (sgn_small d0 d1 x0 (Int.lt_of_lt_of_le x1 (by decide)))
    walk_at "w"
    refine w_ifd (fun h0 => ?_) (fun h0 => ?_)
    · walk_at "w"
      refine call_take s2 (by decide) (by decide) fun H3 x b3 s3 x0 x1 => ?_
      walk_at "w"
      exact q _ _ (bb.trans b3) s3 (sgn_small d0 d1 x0 (Int.lt_of_lt_of_le x1 (by decide)))
    walk_at "w"
    refine w_ifd (fun h0 => ?_) (fun h0 => ?_)
    · walk_at "w"
      refine call_take s2 (by decide) (by decide +kernel) fun H3 x b3 s3 x0 x1 => ?_
      walk_at "w"
      exact q _ _ (bb.trans b3) s3 (sgn_small d0 d1 x0 (Int.lt_of_lt_of_le x1 (by decide)))
    walk_at "w"
    refine call_take s2 (by decide) (by decide +kernel) fun H3 x b3 s3 x0 x1 => ?_
    walk_at "w"
    refine call_take s3 (by decide) (by decide +kernel) fun H4 y b4 s4 y0 y1 => ?_
    have b4' := (bb.trans b3).trans b4
    walk_at "w"
    refine w_ifd (fun h0 => ?_) (fun h0 => ?_)
    · walk_at "w"
      exact q _ _ b4' s4 (sgn_small d0 d1 (by omega) (by omega))
    walk_at "w"
    refine call_take s4 (by decide) (by decide +kernel) fun H5 u b5 s5 u0 u1 => ?_
    walk_at "w"
    exact q _ _ (b4'.trans b5) s5 (sgn_small d0 d1 (by omega) (by omega))
end

/-! ### the classes of errors, told by their numbers -/
structure Cls (K : PySem.W.Frag) (L : List Addr) : Prop where
  x : ∀ k, k < 37 → XCls K (cl L k)
  no : ∀ k, k < 37 → ∀ f ∈ fNames, PySem.W.findIn K (.ref (cl L k)) f = some none
  is : ∀ k, k < 37 → ∀ j, j < 36 → PySem.W.kitOne K (.ref (cl L k)) (.ref (cl L j)) = some (decide (k = j))
  ve : ∀ k, k < 37 → PySem.W.kitOne K (.ref (cl L k)) (.type "ValueError") = some true
  ex : ∀ k, k < 37 → PySem.W.exmOne K (.ref (cl L k)) (.ref (cl L 36)) = some true
/-- which fields the error number k has -/
def kin (k : Nat) : Nat := [0, 0, 0, 1, 1, 2, 3, 0, 0, 0, 0, 0, 1, 0, 4, 0, 5, 0, 0, 0, 0, 0, 0, 0, 1, 5, 0, 0, 0, 0, 0, 1, 0, 6, 0, 0, 0].getD k 0
def fldK (c : Nat) (w : Str) (n : Int) : List (Str × PyData) := match c with
  | 1 => [("at", .int n)]
  | 2 => [("at", .int n), ("word", .str w)]
  | 3 => [("most", .int n)]
  | 4 => [("crease", .tuple [.int n, .int (n + 1)])]
  | 5 => [("word", .str w)]
  | 6 => [("number", .int n)]
  | _ => []
def dueK (c : Nat) (w : Str) (n : Int) : PyData := match c with
  | 1 => .tuple [.str "at", .int n]
  | 2 => .tuple [.str "both", .str w, .int n]
  | 3 => .tuple [.str "most", .int n]
  | 4 => .tuple [.str "crease", .tuple [.int n, .int (n + 1)]]
  | 5 => .tuple [.str "word", .str w]
  | 6 => .tuple [.str "number", .int n]
  | _ => .tuple [.str "none"]
abbrev fldOf (k : Nat) (w : Str) (n : Int) : List (Str × PyData) := fldK (kin k) w n
/-- the dict of a caught error has these fields -/
def XFld (sa : Addr) (H : Hp) (d : Option Addr) (l : List (Str × PyData)) : Prop := (l = [] → d = none) ∧ (l ≠ [] → ∃ dd fs, d = some dd ∧ H dd = some (.xd fs) ∧ ∀ p ∈ l, ∃ v, fs.lookup p.1 = some v ∧ Rp sa H v p.2)
theorem XFld.dct {sa : Addr} {H : Hp} {d : Option Addr} {l : List (Str × PyData)} (h : XFld sa H d l) : XDct H d := fun dd e => by
  by_cases hl : l = []
  · rw [h.1 hl] at e
    cases e
  · obtain ⟨d2, fs, e2, e3, _⟩ := h.2 hl
    rw [e] at e2
    cases e2
    exact ⟨fs, e3⟩
theorem XFld.same {sa : Addr} {H H' : Hp} {d : Option Addr} {l : List (Str × PyData)} (h : XFld sa H d l) (s : Same H H') : XFld sa H' d l := ⟨h.1, fun hl => by
  obtain ⟨dd, fs, e1, e2, e3⟩ := h.2 hl
  exact ⟨dd, fs, e1, s _ _ e2, fun p hp => let ⟨v, a, b⟩ := e3 p hp; ⟨v, a, b.same s⟩⟩⟩
theorem XDct.same {H H' : Hp} {d : Option Addr} (h : XDct H d) (s : Same H H') : XDct H' d := fun dd e => let ⟨fs, a⟩ := h dd e; ⟨fs, s _ _ a⟩
theorem xfld_one {sa : Addr} {H : Hp} {d : Addr} {g : Str} {v : V} {dv : PyData} (hd : H d = some (.xd [(g, v)])) (r : Rp sa H v dv) : XFld sa H (some d) [(g, dv)] := ⟨fun z => (nomatch z), fun _ => ⟨d, _, rfl, hd, fun p hp => by
  rw [List.mem_singleton.mp hp]
  exact ⟨v, by rw [lookup_put, if_pos rfl], r⟩⟩⟩
theorem xfld_two {sa : Addr} {H : Hp} {d : Addr} {v u : V} {dv du : PyData} (hd : H d = some (.xd [("at", u), ("word", v)])) (ru : Rp sa H u du) (rv : Rp sa H v dv) : XFld sa H (some d) [("at", du), ("word", dv)] := ⟨fun z => (nomatch z), fun _ => ⟨d, _, rfl, hd, fun p hp => by
  rcases List.mem_cons.mp hp with rfl | hp
  · exact ⟨u, by rw [lookup_put, if_pos rfl], ru⟩
  · rw [List.mem_singleton.mp hp]
    exact ⟨v, by rw [lookup_put, if_neg (show ¬ ("word" : Str) = "at" by decide), lookup_put, if_pos rfl], rv⟩⟩⟩
theorem n_tupF {xs : List V} {H : Hp} {Q : VK} (hl : xs.length.ble 1000 = true) (h : ∀ p, H p = none → Q (.ref p) (upd H p (.tup xs))) : NT Q xs H := ⟨Nat.le_of_lt (small1000 (Nat.le_of_ble_eq_true hl)), fun p np => h p np⟩
/-- the number k is raised -/
abbrev sp_rs (L : List Addr) (lo hi : Nat) : Sp := fun vs H Q E => ∃ (sa : Addr) (k : Nat) (w : Str) (n : Int), vs = [.int (k : Int), .str w, .int n] ∧ (∃ o, H sa = some o) ∧ lo ≤ k ∧ k < hi ∧ ∀ H' d, Same H H' → XFld sa H' d (fldOf k w n) → E (.ref (cl L k)) d H'
local macro_rules | `(tactic| walk_at "call1") => `(tactic| with_reducible refine w_mko ?_)
section
variable {P : Program} {w : World} {K : PySem.W.Frag} {mg : Str → Option Value} {base : Heap} {L : List Addr}
theorem ok_law_raise_early {f : Addr} {fd : FuncData} (F : Fun K "_law_raise_early" "_law_raise_early" s_law_raise_early f fd) (S : Cls K L) (c_NoFraction : Ex0 P w K mg base "NoFraction" (cl L 0)) (c_NoPoint : Ex0 P w K mg base "NoPoint" (cl L 1)) (c_NoPlate : Ex0 P w K mg base "NoPlate" (cl L 2)) (c_BadCorners : ExF P w K mg base "BadCorners" (cl L 3) ["self", "at"] (sp_ini1 K (cl L 3) "at")) (c_BadPlates : ExF P w K mg base "BadPlates" (cl L 4) ["self", "at"] (sp_ini1 K (cl L 4) "at")) (c_BadSheet : ExF P w K mg base "BadSheet" (cl L 5) ["self", "word", "at"] (sp_ini2 K (cl L 5) "word" "at")) (c_TooMany : ExF P w K mg base "TooMany" (cl L 6) ["self", "most"] (sp_ini1 K (cl L 6) "most")) (c_NoCorner : Ex0 P w K mg base "NoCorner" (cl L 7)) (c_NoCrease : Ex0 P w K mg base "NoCrease" (cl L 8)) (c_NoNumbers : Ex0 P w K mg base "NoNumbers" (cl L 9)) (c_NoStand : Ex0 P w K mg base "NoStand" (cl L 10)) (c_BadChoice : Ex0 P w K mg base "BadChoice" (cl L 11)) (c_BadSpaces : ExF P w K mg base "BadSpaces" (cl L 12) ["self", "at"] (sp_ini1 K (cl L 12) "at")) (c_NoPlacing : Ex0 P w K mg base "NoPlacing" (cl L 13)) (c_Shut : ExF P w K mg base "Shut" (cl L 14) ["self", "crease"] (sp_ini1 K (cl L 14) "crease")) (c_NoSpot : Ex0 P w K mg base "NoSpot" (cl L 15)) (c_BadNumber : ExF P w K mg base "BadNumber" (cl L 16) ["self", "word"] (sp_ini1 K (cl L 16) "word")) (c_NoPolynomial : Ex0 P w K mg base "NoPolynomial" (cl L 17)) : FnOk P w K mg base (L2.CX P w) 3 f fd ["k", "word", "number"] (sp_rs L 0 18) := by
  have sc := sc_law_raise_early
  refine F.okX sc (fun vs H Q E h => ?_) (fun cdv A outer s H vs Q E hr h => ?_)
  · obtain ⟨sa, k, wd, n, rfl, _⟩ := h
    rfl
  · obtain ⟨sa, k, wd, n, rfl, t, lo, hi, q⟩ := h
    refine ⟨_, (pss_cons (ps_if (pt_cmpR op_eq (pv 0) pe_int (nomark _)) (pss_one (ps_raise rfl (takes_of rfl rfl rfl rfl) (pmk0 c_NoFraction (hr.mono (by decide)) (by rfl)))) pss_nil)
    (pss_cons (ps_if (pt_cmpR op_eq (pv 0) pe_int (nomark _)) (pss_one (ps_raise rfl (takes_of rfl rfl rfl rfl) (pmk0 c_NoPoint (hr.mono (by decide)) (by rfl)))) pss_nil)
    (pss_cons (ps_if (pt_cmpR op_eq (pv 0) pe_int (nomark _)) (pss_one (ps_raise rfl (takes_of rfl rfl rfl rfl) (pmk0 c_NoPlate (hr.mono (by decide)) (by rfl)))) pss_nil)
    (pss_cons (ps_if (pt_cmpR op_eq (pv 0) pe_int (nomark _)) (pss_one (ps_raise rfl (takes_of rfl rfl rfl rfl) (pmkA c_BadCorners (hr.mono (by decide)) (by rfl) (pa_cons (pv 2) pa_nil)))) pss_nil)
    (pss_cons (ps_if (pt_cmpR op_eq (pv 0) pe_int (nomark _)) (pss_one (ps_raise rfl (takes_of rfl rfl rfl rfl) (pmkA c_BadPlates (hr.mono (by decide)) (by rfl) (pa_cons (pv 2) pa_nil)))) pss_nil)
    (pss_cons (ps_if (pt_cmpR op_eq (pv 0) pe_int (nomark _)) (pss_one (ps_raise rfl (takes_of rfl rfl rfl rfl) (pmkA c_BadSheet (hr.mono (by decide)) (by rfl) (pa_cons (pv 1) (pa_cons (pv 2) pa_nil))))) pss_nil)
    (pss_cons (ps_if (pt_cmpR op_eq (pv 0) pe_int (nomark _)) (pss_one (ps_raise rfl (takes_of rfl rfl rfl rfl) (pmkA c_TooMany (hr.mono (by decide)) (by rfl) (pa_cons (pv 2) pa_nil)))) pss_nil)
    (pss_cons (ps_if (pt_cmpR op_eq (pv 0) pe_int (nomark _)) (pss_one (ps_raise rfl (takes_of rfl rfl rfl rfl) (pmk0 c_NoCorner (hr.mono (by decide)) (by rfl)))) pss_nil)
    (pss_cons (ps_if (pt_cmpR op_eq (pv 0) pe_int (nomark _)) (pss_one (ps_raise rfl (takes_of rfl rfl rfl rfl) (pmk0 c_NoCrease (hr.mono (by decide)) (by rfl)))) pss_nil)
    (pss_cons (ps_if (pt_cmpR op_eq (pv 0) pe_int (nomark _)) (pss_one (ps_raise rfl (takes_of rfl rfl rfl rfl) (pmk0 c_NoNumbers (hr.mono (by decide)) (by rfl)))) pss_nil)
    (pss_cons (ps_if (pt_cmpR op_eq (pv 0) pe_int (nomark _)) (pss_one (ps_raise rfl (takes_of rfl rfl rfl rfl) (pmk0 c_NoStand (hr.mono (by decide)) (by rfl)))) pss_nil)
    (pss_cons (ps_if (pt_cmpR op_eq (pv 0) pe_int (nomark _)) (pss_one (ps_raise rfl (takes_of rfl rfl rfl rfl) (pmk0 c_BadChoice (hr.mono (by decide)) (by rfl)))) pss_nil)
    (pss_cons (ps_if (pt_cmpR op_eq (pv 0) pe_int (nomark _)) (pss_one (ps_raise rfl (takes_of rfl rfl rfl rfl) (pmkA c_BadSpaces (hr.mono (by decide)) (by rfl) (pa_cons (pv 2) pa_nil)))) pss_nil)
    (pss_cons (ps_if (pt_cmpR op_eq (pv 0) pe_int (nomark _)) (pss_one (ps_raise rfl (takes_of rfl rfl rfl rfl) (pmk0 c_NoPlacing (hr.mono (by decide)) (by rfl)))) pss_nil)
    (pss_cons (ps_if (pt_cmpR op_eq (pv 0) pe_int (nomark _)) (pss_one (ps_raise rfl (takes_of rfl rfl rfl rfl) (pmkA c_Shut (hr.mono (by decide)) (by rfl) (pa_cons (pe_tup (pa_cons (pv 2) (pa_cons (pe_op op_add (pv 2) pe_int) pa_nil))) pa_nil)))) pss_nil)
    (pss_cons (ps_if (pt_cmpR op_eq (pv 0) pe_int (nomark _)) (pss_one (ps_raise rfl (takes_of rfl rfl rfl rfl) (pmk0 c_NoSpot (hr.mono (by decide)) (by rfl)))) pss_nil)
    (pss_cons (ps_if (pt_cmpR op_eq (pv 0) pe_int (nomark _)) (pss_one (ps_raise rfl (takes_of rfl rfl rfl rfl) (pmkA c_BadNumber (hr.mono (by decide)) (by rfl) (pa_cons (pv 1) pa_nil)))) pss_nil)
    (pss_cons (ps_if (pt_cmpR op_eq (pv 0) pe_int (nomark _)) (pss_one (ps_raise rfl (takes_of rfl rfl rfl rfl) (pmk0 c_NoPolynomial (hr.mono (by decide)) (by rfl)))) pss_nil)
    (pss_one (ps_ret pe_bl)))))))))))))))))))), ?_⟩
    (rw [show start ["k", "word", "number"] [.int k, .str wd, .int n] = [some (.int k), some (.str wd), some (.int n)] from rfl]; try dsimp only [cxOf])
    have none_ : ∀ j : Nat, k = j → fldOf j wd n = [] → E (.ref (cl L j)) none H := fun j e z => by
      subst e
      exact q H none (Same.refl H) ⟨fun _ => rfl, fun h => absurd z h⟩
    have one : ∀ (j : Nat) (g : Str) (v : V) (dv : PyData), k = j → fldOf j wd n = [(g, dv)] → (∀ H', Rp sa H' v dv) → OexC K (cl L j) → PySem.W.findIn K (.ref (cl L j)) g = some none → mkE (cl L j) (sp_ini1 K (cl L j) g) H [v] E := fun j g v dv e z r T no => by
      subst e
      refine mk_ini1 T no fun d H2 sm hd => q H2 (some d) sm ?_
      rw [z]
      exact xfld_one hd (r H2)
    have two : k = 5 → mkE (cl L 5) (sp_ini2 K (cl L 5) "word" "at") H [.str wd, .int n] E := fun e => by
      subst e
      exact mk_ini2 c_BadSheet.T (S.no 5 (by decide) _ (by decide)) (S.no 5 (by decide) _ (by decide)) fun d H2 sm hd => q H2 (some d) sm (xfld_two hd (.int _) (.str _))
    have shut : k = 14 → ∀ p, H p = none → mkE (cl L 14) (sp_ini1 K (cl L 14) "crease") (upd H p (.tup [.int n, .int (n + 1)])) [.ref p] E := fun e p np => by
      subst e
      refine mk_ini1 c_Shut.T (S.no 14 (by decide) _ (by decide)) fun d H2 sm hd => q H2 (some d) ((same_new np).trans sm) ?_
      obtain ⟨o, eo⟩ := t
      exact xfld_one hd (.tup (ne_of_none eo np).symm (sm _ _ upd_same) (.cons (.int _) (.cons (.int _) .nil)))
    walk_at "w"
    refine w_ifd (fun h0 => ?_) (fun h0 => ?_)
    · walk_at "w"
      exact none_ 0 (by omega) rfl
    walk_at "w"
    refine w_ifd (fun h1 => ?_) (fun h1 => ?_)
    · walk_at "w"
      exact none_ 1 (by omega) rfl
    walk_at "w"
    refine w_ifd (fun h2 => ?_) (fun h2 => ?_)
    · walk_at "w"
      exact none_ 2 (by omega) rfl
    walk_at "w"
    refine w_ifd (fun h3 => ?_) (fun h3 => ?_)
    · walk_at "w"
      exact one 3 "at" (.int n) (.int n) (by omega) rfl (fun _ => .int _) c_BadCorners.T (S.no 3 (by decide) _ (by decide))
    walk_at "w"
    refine w_ifd (fun h4 => ?_) (fun h4 => ?_)
    · walk_at "w"
      exact one 4 "at" (.int n) (.int n) (by omega) rfl (fun _ => .int _) c_BadPlates.T (S.no 4 (by decide) _ (by decide))
    walk_at "w"
    refine w_ifd (fun h5 => ?_) (fun h5 => ?_)
    · walk_at "w"
      exact two (by omega)
    walk_at "w"
    refine w_ifd (fun h6 => ?_) (fun h6 => ?_)
    · walk_at "w"
      exact one 6 "most" (.int n) (.int n) (by omega) rfl (fun _ => .int _) c_TooMany.T (S.no 6 (by decide) _ (by decide))
    walk_at "w"
    refine w_ifd (fun h7 => ?_) (fun h7 => ?_)
    · walk_at "w"
      exact none_ 7 (by omega) rfl
    walk_at "w"
    refine w_ifd (fun h8 => ?_) (fun h8 => ?_)
    · walk_at "w"
      exact none_ 8 (by omega) rfl
    walk_at "w"
    refine w_ifd (fun h9 => ?_) (fun h9 => ?_)
    · walk_at "w"
      exact none_ 9 (by omega) rfl
    walk_at "w"
    refine w_ifd (fun h10 => ?_) (fun h10 => ?_)
    · walk_at "w"
      exact none_ 10 (by omega) rfl
    walk_at "w"
    refine w_ifd (fun h11 => ?_) (fun h11 => ?_)
    · walk_at "w"
      exact none_ 11 (by omega) rfl
    walk_at "w"
    refine w_ifd (fun h12 => ?_) (fun h12 => ?_)
    · walk_at "w"
      exact one 12 "at" (.int n) (.int n) (by omega) rfl (fun _ => .int _) c_BadSpaces.T (S.no 12 (by decide) _ (by decide))
    walk_at "w"
    refine w_ifd (fun h13 => ?_) (fun h13 => ?_)
    · walk_at "w"
      exact none_ 13 (by omega) rfl
    walk_at "w"
    refine w_ifd (fun h14 => ?_) (fun h14 => ?_)
    · walk_at "w"
      refine n_tupF rfl fun p np => ?_
      walk_at "w"
      exact shut (by omega) p np
    walk_at "w"
    refine w_ifd (fun h15 => ?_) (fun h15 => ?_)
    · walk_at "w"
      exact none_ 15 (by omega) rfl
    walk_at "w"
    refine w_ifd (fun h16 => ?_) (fun h16 => ?_)
    · walk_at "w"
      exact one 16 "word" (.str wd) (.str wd) (by omega) rfl (fun _ => .str _) c_BadNumber.T (S.no 16 (by decide) _ (by decide))
    walk_at "w"
    refine w_ifd (fun h17 => ?_) (fun h17 => ?_)
    · walk_at "w"
      exact none_ 17 (by omega) rfl
    exact absurd hi (by omega)
theorem ok_law_raise_late {f : Addr} {fd : FuncData} (F : Fun K "_law_raise_late" "_law_raise_late" s_law_raise_late f fd) (S : Cls K L) (c_BadLot : Ex0 P w K mg base "BadLot" (cl L 18)) (c_BadBook : Ex0 P w K mg base "BadBook" (cl L 19)) (c_BadTold : Ex0 P w K mg base "BadTold" (cl L 20)) (c_NoFit : Ex0 P w K mg base "NoFit" (cl L 21)) (c_BadPrices : Ex0 P w K mg base "BadPrices" (cl L 22)) (c_BadHeld : Ex0 P w K mg base "BadHeld" (cl L 23)) (c_NotHeld : ExF P w K mg base "NotHeld" (cl L 24) ["self", "at"] (sp_ini1 K (cl L 24) "at")) (c_BadSeam : ExF P w K mg base "BadSeam" (cl L 25) ["self", "word"] (sp_ini1 K (cl L 25) "word")) (c_BadTable : Ex0 P w K mg base "BadTable" (cl L 26)) (c_BadWish : Ex0 P w K mg base "BadWish" (cl L 27)) (c_BadLengths : Ex0 P w K mg base "BadLengths" (cl L 28)) (c_NoSlit : Ex0 P w K mg base "NoSlit" (cl L 29)) (c_NoPart : Ex0 P w K mg base "NoPart" (cl L 30)) (c_BadText : ExF P w K mg base "BadText" (cl L 31) ["self", "at"] (sp_ini1 K (cl L 31) "at")) (c_NoTree : Ex0 P w K mg base "NoTree" (cl L 32)) (c_LiesOver : ExF P w K mg base "LiesOver" (cl L 33) ["self", "number"] (sp_ini1 K (cl L 33) "number")) (c_NoUndo : Ex0 P w K mg base "NoUndo" (cl L 34)) (c_BadTries : Ex0 P w K mg base "BadTries" (cl L 35)) (c_FoldError : ExB K mg "FoldError" (cl L 36)) : FnOk P w K mg base (L2.CX P w) 3 f fd ["k", "word", "number"] (sp_rs L 18 37) := by
  have sc := sc_law_raise_late
  refine F.okX sc (fun vs H Q E h => ?_) (fun cdv A outer s H vs Q E hr h => ?_)
  · obtain ⟨sa, k, wd, n, rfl, _⟩ := h
    rfl
  · obtain ⟨sa, k, wd, n, rfl, t, lo, hi, q⟩ := h
    refine ⟨_, (pss_cons (ps_if (pt_cmpR op_eq (pv 0) pe_int (nomark _)) (pss_one (ps_raise rfl (takes_of rfl rfl rfl rfl) (pmk0 c_BadLot (hr.mono (by decide)) (by rfl)))) pss_nil)
    (pss_cons (ps_if (pt_cmpR op_eq (pv 0) pe_int (nomark _)) (pss_one (ps_raise rfl (takes_of rfl rfl rfl rfl) (pmk0 c_BadBook (hr.mono (by decide)) (by rfl)))) pss_nil)
    (pss_cons (ps_if (pt_cmpR op_eq (pv 0) pe_int (nomark _)) (pss_one (ps_raise rfl (takes_of rfl rfl rfl rfl) (pmk0 c_BadTold (hr.mono (by decide)) (by rfl)))) pss_nil)
    (pss_cons (ps_if (pt_cmpR op_eq (pv 0) pe_int (nomark _)) (pss_one (ps_raise rfl (takes_of rfl rfl rfl rfl) (pmk0 c_NoFit (hr.mono (by decide)) (by rfl)))) pss_nil)
    (pss_cons (ps_if (pt_cmpR op_eq (pv 0) pe_int (nomark _)) (pss_one (ps_raise rfl (takes_of rfl rfl rfl rfl) (pmk0 c_BadPrices (hr.mono (by decide)) (by rfl)))) pss_nil)
    (pss_cons (ps_if (pt_cmpR op_eq (pv 0) pe_int (nomark _)) (pss_one (ps_raise rfl (takes_of rfl rfl rfl rfl) (pmk0 c_BadHeld (hr.mono (by decide)) (by rfl)))) pss_nil)
    (pss_cons (ps_if (pt_cmpR op_eq (pv 0) pe_int (nomark _)) (pss_one (ps_raise rfl (takes_of rfl rfl rfl rfl) (pmkA c_NotHeld (hr.mono (by decide)) (by rfl) (pa_cons (pv 2) pa_nil)))) pss_nil)
    (pss_cons (ps_if (pt_cmpR op_eq (pv 0) pe_int (nomark _)) (pss_one (ps_raise rfl (takes_of rfl rfl rfl rfl) (pmkA c_BadSeam (hr.mono (by decide)) (by rfl) (pa_cons (pv 1) pa_nil)))) pss_nil)
    (pss_cons (ps_if (pt_cmpR op_eq (pv 0) pe_int (nomark _)) (pss_one (ps_raise rfl (takes_of rfl rfl rfl rfl) (pmk0 c_BadTable (hr.mono (by decide)) (by rfl)))) pss_nil)
    (pss_cons (ps_if (pt_cmpR op_eq (pv 0) pe_int (nomark _)) (pss_one (ps_raise rfl (takes_of rfl rfl rfl rfl) (pmk0 c_BadWish (hr.mono (by decide)) (by rfl)))) pss_nil)
    (pss_cons (ps_if (pt_cmpR op_eq (pv 0) pe_int (nomark _)) (pss_one (ps_raise rfl (takes_of rfl rfl rfl rfl) (pmk0 c_BadLengths (hr.mono (by decide)) (by rfl)))) pss_nil)
    (pss_cons (ps_if (pt_cmpR op_eq (pv 0) pe_int (nomark _)) (pss_one (ps_raise rfl (takes_of rfl rfl rfl rfl) (pmk0 c_NoSlit (hr.mono (by decide)) (by rfl)))) pss_nil)
    (pss_cons (ps_if (pt_cmpR op_eq (pv 0) pe_int (nomark _)) (pss_one (ps_raise rfl (takes_of rfl rfl rfl rfl) (pmk0 c_NoPart (hr.mono (by decide)) (by rfl)))) pss_nil)
    (pss_cons (ps_if (pt_cmpR op_eq (pv 0) pe_int (nomark _)) (pss_one (ps_raise rfl (takes_of rfl rfl rfl rfl) (pmkA c_BadText (hr.mono (by decide)) (by rfl) (pa_cons (pv 2) pa_nil)))) pss_nil)
    (pss_cons (ps_if (pt_cmpR op_eq (pv 0) pe_int (nomark _)) (pss_one (ps_raise rfl (takes_of rfl rfl rfl rfl) (pmk0 c_NoTree (hr.mono (by decide)) (by rfl)))) pss_nil)
    (pss_cons (ps_if (pt_cmpR op_eq (pv 0) pe_int (nomark _)) (pss_one (ps_raise rfl (takes_of rfl rfl rfl rfl) (pmkA c_LiesOver (hr.mono (by decide)) (by rfl) (pa_cons (pv 2) pa_nil)))) pss_nil)
    (pss_cons (ps_if (pt_cmpR op_eq (pv 0) pe_int (nomark _)) (pss_one (ps_raise rfl (takes_of rfl rfl rfl rfl) (pmk0 c_NoUndo (hr.mono (by decide)) (by rfl)))) pss_nil)
    (pss_cons (ps_if (pt_cmpR op_eq (pv 0) pe_int (nomark _)) (pss_one (ps_raise rfl (takes_of rfl rfl rfl rfl) (pmk0 c_BadTries (hr.mono (by decide)) (by rfl)))) pss_nil)
    (pss_cons (ps_if (pt_cmpR op_eq (pv 0) pe_int (nomark _)) (pss_one (ps_raise rfl (takes_of rfl rfl rfl rfl) (pmk_own0 PySem.F.excBase_ValueError c_FoldError.ex c_FoldError.gC c_FoldError.kC (raises_own c_FoldError.exC c_FoldError.tyC) (by rfl)))) pss_nil)
    (pss_one (ps_ret pe_bl))))))))))))))))))))), ?_⟩
    (rw [show start ["k", "word", "number"] [.int k, .str wd, .int n] = [some (.int k), some (.str wd), some (.int n)] from rfl]; try dsimp only [cxOf])
    have none_ : ∀ j : Nat, k = j → fldOf j wd n = [] → E (.ref (cl L j)) none H := fun j e z => by
      subst e
      exact q H none (Same.refl H) ⟨fun _ => rfl, fun h => absurd z h⟩
    have one : ∀ (j : Nat) (g : Str) (v : V) (dv : PyData), k = j → fldOf j wd n = [(g, dv)] → (∀ H', Rp sa H' v dv) → OexC K (cl L j) → PySem.W.findIn K (.ref (cl L j)) g = some none → mkE (cl L j) (sp_ini1 K (cl L j) g) H [v] E := fun j g v dv e z r T no => by
      subst e
      refine mk_ini1 T no fun d H2 sm hd => q H2 (some d) sm ?_
      rw [z]
      exact xfld_one hd (r H2)
    walk_at "w"
    refine w_ifd (fun h18 => ?_) (fun h18 => ?_)
    · walk_at "w"
      exact none_ 18 (by omega) rfl
    walk_at "w"
    refine w_ifd (fun h19 => ?_) (fun h19 => ?_)
    · walk_at "w"
      exact none_ 19 (by omega) rfl
    walk_at "w"
    refine w_ifd (fun h20 => ?_) (fun h20 => ?_)
    · walk_at "w"
      exact none_ 20 (by omega) rfl
    walk_at "w"
    refine w_ifd (fun h21 => ?_) (fun h21 => ?_)
    · walk_at "w"
      exact none_ 21 (by omega) rfl
    walk_at "w"
    refine w_ifd (fun h22 => ?_) (fun h22 => ?_)
    · walk_at "w"
      exact none_ 22 (by omega) rfl
    walk_at "w"
    refine w_ifd (fun h23 => ?_) (fun h23 => ?_)
    · walk_at "w"
      exact none_ 23 (by omega) rfl
    walk_at "w"
    refine w_ifd (fun h24 => ?_) (fun h24 => ?_)
    · walk_at "w"
      exact one 24 "at" (.int n) (.int n) (by omega) rfl (fun _ => .int _) c_NotHeld.T (S.no 24 (by decide) _ (by decide))
    walk_at "w"
    refine w_ifd (fun h25 => ?_) (fun h25 => ?_)
    · walk_at "w"
      exact one 25 "word" (.str wd) (.str wd) (by omega) rfl (fun _ => .str _) c_BadSeam.T (S.no 25 (by decide) _ (by decide))
    walk_at "w"
    refine w_ifd (fun h26 => ?_) (fun h26 => ?_)
    · walk_at "w"
      exact none_ 26 (by omega) rfl
    walk_at "w"
    refine w_ifd (fun h27 => ?_) (fun h27 => ?_)
    · walk_at "w"
      exact none_ 27 (by omega) rfl
    walk_at "w"
    refine w_ifd (fun h28 => ?_) (fun h28 => ?_)
    · walk_at "w"
      exact none_ 28 (by omega) rfl
    walk_at "w"
    refine w_ifd (fun h29 => ?_) (fun h29 => ?_)
    · walk_at "w"
      exact none_ 29 (by omega) rfl
    walk_at "w"
    refine w_ifd (fun h30 => ?_) (fun h30 => ?_)
    · walk_at "w"
      exact none_ 30 (by omega) rfl
    walk_at "w"
    refine w_ifd (fun h31 => ?_) (fun h31 => ?_)
    · walk_at "w"
      exact one 31 "at" (.int n) (.int n) (by omega) rfl (fun _ => .int _) c_BadText.T (S.no 31 (by decide) _ (by decide))
    walk_at "w"
    refine w_ifd (fun h32 => ?_) (fun h32 => ?_)
    · walk_at "w"
      exact none_ 32 (by omega) rfl
    walk_at "w"
    refine w_ifd (fun h33 => ?_) (fun h33 => ?_)
    · walk_at "w"
      exact one 33 "number" (.int n) (.int n) (by omega) rfl (fun _ => .int _) c_LiesOver.T (S.no 33 (by decide) _ (by decide))
    walk_at "w"
    refine w_ifd (fun h34 => ?_) (fun h34 => ?_)
    · walk_at "w"
      exact none_ 34 (by omega) rfl
    walk_at "w"
    refine w_ifd (fun h35 => ?_) (fun h35 => ?_)
    · walk_at "w"
      exact none_ 35 (by omega) rfl
    walk_at "w"
    refine w_ifd (fun h36 => ?_) (fun h36 => ?_)
    · walk_at "w"
      exact none_ 36 (by omega) rfl
    exact absurd hi (by omega)
end

/-! ### what is asked of the caught error -/
theorem c_in5 {K : PySem.W.Frag} {z : Bool} {sa : Addr} {H0 H : Hp} {acc : List V} {dacc : List PyData} {Q : VK} {p : Addr} {k a b c d e : Int} (W : Wd z sa H0 H acc dacc) (m : In2 (.ref p) (.tuple [.int a, .int b, .int c, .int d, .int e]) acc dacc) (h : Q (.bl (decide (k = a ∨ k = b ∨ k = c ∨ k = d ∨ k = e))) H) : rIn K false (.int k) (.ref p) H Q := by
  cases W.get m with
  | @tup _ xs _ n hx r =>
    cases r with | cons r0 r => cases r with | cons r1 r => cases r with | cons r2 r => cases r with | cons r3 r => cases r with | cons r4 r =>
    cases r
    cases r0
    cases r1
    cases r2
    cases r3
    cases r4
    refine ⟨p, _, rfl, .inr (SqT.of hx), rfl, rfl, ?_⟩
    have e : inV (.int k) [.int a, .int b, .int c, .int d, .int e] = decide (k = a ∨ k = b ∨ k = c ∨ k = d ∨ k = e) := by
      unfold inV
      simp [eqV, eq_comm, Bool.decide_or, Bool.beq_eq_decide_eq]
      try grind
    rw [if_neg Bool.false_ne_true, e]
    exact h
theorem c_in2 {K : PySem.W.Frag} {z : Bool} {sa : Addr} {H0 H : Hp} {acc : List V} {dacc : List PyData} {Q : VK} {p : Addr} {k a b : Int} (W : Wd z sa H0 H acc dacc) (m : In2 (.ref p) (.tuple [.int a, .int b]) acc dacc) (h : Q (.bl (decide (k = a ∨ k = b))) H) : rIn K false (.int k) (.ref p) H Q := by
  cases W.get m with
  | @tup _ xs _ n hx r =>
    cases r with | cons r0 r => cases r with | cons r1 r =>
    cases r
    cases r0
    cases r1
    refine ⟨p, _, rfl, .inr (SqT.of hx), rfl, rfl, ?_⟩
    have e : inV (.int k) [.int a, .int b] = decide (k = a ∨ k = b) := by
      unfold inV
      simp [eqV, eq_comm, Bool.decide_or, Bool.beq_eq_decide_eq]
      try grind
    rw [if_neg Bool.false_ne_true, e]
    exact h
def xpR (q : Addr × Obj) (K : PySem.W.Frag) (n : Str) (x : V) (H : Hp) (Q : VK) : Prop := ∃ (C dd : Addr) (fs : List (Str × V)) (v : V), x = .ref q.1 ∧ XObj q C (some dd) ∧ XCls K C ∧ PySem.W.findIn K (.ref C) n = some none ∧ H dd = some (.xd fs) ∧ fs.lookup n = some v ∧ Q v H
theorem w_xp {q : Addr × Obj} {K : PySem.W.Frag} {n : Str} {te : TE} {σ : L2.St} {H : Hp} {Q : VK} (h : te σ H fun x H1 => xpR q K n x H1 Q) : tXp q K n te σ H Q := h
theorem c_xp {K : PySem.W.Frag} {L : List Addr} {q : Addr × Obj} {n : Str} {z : Bool} {sa : Addr} {H0 H : Hp} {acc : List V} {dacc : List PyData} {Q : VK} {k : Nat} {d : Option Addr} {l : List (Str × PyData)} {dv : PyData} (W : Wd false sa H0 H acc dacc) (S : Cls K L) (hk : k < 37) (o : XObj q (cl L k) d) (xf : XFld sa H0 d l)
    (hm : (n, dv) ∈ l) (hn : n ∈ fNames) (h : VS dv fun v => Wd false sa H0 H (v :: acc) (dv :: dacc) → Q v H) : xpR q K n (.ref q.1) H Q := by
  obtain ⟨dd, fs, rfl, hd, hl⟩ := xf.2 fun e => by
    rw [e] at hm
    cases hm
  obtain ⟨v, e1, r⟩ := hl _ hm
  have r2 := r.same (W.same rfl)
  exact ⟨_, dd, fs, v, rfl, o, S.x k hk, S.no k hk n hn, W.same rfl _ _ hd, e1, h.of r2 (W.put r2)⟩
theorem c_isX {K : PySem.W.Frag} {L : List Addr} {q : Addr × Obj} {sa : Addr} {H0 H : Hp} {acc : List V} {dacc : List PyData} {Q : VK} {k j : Nat} {d : Option Addr} (W : Wd false sa H0 H acc dacc) (S : Cls K L) (hk : k < 37) (o : XObj q (cl L k) d) (xd : XDct H0 d) (hj : j < 36) (h : Q (.bl (decide (k = j))) H) :
    rIsP K q [.ref q.1, .ref (cl L j)] H Q :=
  ⟨_, _, _, _, d, rfl, fun u e => e, o, S.x k hk, xd.same (W.same rfl), S.is k hk j hj, h⟩
abbrev sp_fldA (L : List Addr) (a : Addr) (cls : Value) (d : Option Addr) : Sp := fun vs H Q _ => ∃ (sa : Addr) (k : Nat) (w : Str) (n : Int), vs = [.int (k : Int), .ref a] ∧ (∃ o, H sa = some o) ∧ k < 37 ∧ cls = .ref (cl L k) ∧ XFld sa H d (fldOf k w n) ∧ ∀ H' x, Same H H' → Rp sa H' x (dueK (kin k) w n) → Q x H'
abbrev sp_fld (L : List Addr) (q : Addr × Obj) : Sp := fun vs H Q E => ∃ cls d, Zc cls d q.2 ∧ (∃ us, q.2.data = .fields us) ∧ sp_fldA L q.1 cls d vs H Q E
def flg (k : Nat) : List PyData := (List.range 36).map fun j => .bool (decide (k = j))
abbrev sp_clsA (L : List Addr) (a : Addr) (cls : Value) (d : Option Addr) : Sp := fun vs H Q _ => ∃ (sa : Addr) (k : Nat), vs = [.ref a] ∧ (∃ o, H sa = some o) ∧ k < 37 ∧ cls = .ref (cl L k) ∧ XDct H d ∧ ∀ H' x, Same H H' → Rp sa H' x (.list (flg k)) → Q x H'
abbrev sp_cls (L : List Addr) (q : Addr × Obj) : Sp := fun vs H Q E => ∃ cls d, Zc cls d q.2 ∧ (∃ us, q.2.data = .fields us) ∧ sp_clsA L q.1 cls d vs H Q E
abbrev sp_due : Sp := fun vs H Q _ => ∃ (sa : Addr) (k : Nat) (w : Str) (n : Int), vs = [.int (k : Int), .str w, .int n] ∧ (∃ o, H sa = some o) ∧ k < 37 ∧ ∀ H' x, Same H H' → Rp sa H' x (dueK (kin k) w n) → Q x H'
theorem kin1 {k : Nat} (h : (k : Int) = 3 ∨ (k : Int) = 4 ∨ (k : Int) = 12 ∨ (k : Int) = 24 ∨ (k : Int) = 31) : kin k = 1 := by
  rcases (show k = 3 ∨ k = 4 ∨ k = 12 ∨ k = 24 ∨ k = 31 by omega) with rfl | rfl | rfl | rfl | rfl <;> rfl
theorem kin5 {k : Nat} (h : (k : Int) = 16 ∨ (k : Int) = 25) : kin k = 5 := by
  rcases (show k = 16 ∨ k = 25 by omega) with rfl | rfl <;> rfl
theorem kin_0 : ∀ k : Nat, k < 37 → (¬ (k = 3 ∨ k = 4 ∨ k = 12 ∨ k = 24 ∨ k = 31 ∨ k = 5 ∨ k = 6 ∨ k = 14 ∨ k = 16 ∨ k = 25 ∨ k = 33)) → kin k = 0 := by decide
local macro_rules | `(tactic| walk_at "call1") => `(tactic| first
  | with_reducible refine w_mko ?_
  | with_reducible refine w_xp ?_
  | ((with_reducible show rIn _ false _ _ _ _); first | ((with_reducible apply c_in5); (focus assumption); (focus (walk_at "in2"))) | ((with_reducible apply c_in2); (focus assumption); (focus (walk_at "in2"))))
  | ((with_reducible show rIsP _ _ _ _ _); (with_reducible apply c_isX); (focus assumption); (focus assumption); (focus assumption); (focus assumption); (focus assumption); (focus (decide))))
section
variable {P : Program} {w : World} {K : PySem.W.Frag} {mg : Str → Option Value} {base : Heap} {L : List Addr}
theorem ok_law_raise {f : Addr} {fd : FuncData} (F : Fun K "_law_raise" "_law_raise" s_law_raise f fd) (d_law_raise_early : Df P w K mg base (L2.CX P w) 3 "_law_raise_early" ["k", "word", "number"] (sp_rs L 0 18)) (d_law_raise_late : Df P w K mg base (L2.CX P w) 3 "_law_raise_late" ["k", "word", "number"] (sp_rs L 18 37)) : FnOk P w K mg base (L2.CX P w) 4 f fd ["k", "word", "number"] (sp_rs L 0 37) := by
  have sc := sc_law_raise
  refine F.okX sc (fun vs H Q E h => ?_) (fun cdv A outer s H vs Q E hr h => ?_)
  · obtain ⟨sa, k, wd, n, rfl, _⟩ := h
    rfl
  · obtain ⟨sa, k, wd, n, rfl, t, lo, hi, q⟩ := h
    refine ⟨_, (pss_cons (ps_if (pt_cmpR op_lt (pv 0) pe_int (nomark _)) (pss_one (ps_ret (pe_callS d_law_raise_early.F (hr.mono (by decide)) (by rfl) d_law_raise_early.g d_law_raise_early.kp d_law_raise_early.b (fun σ => passAt (takes_of rfl rfl rfl rfl) σ) (pa_cons (pv 0) (pa_cons (pv 1) (pa_cons (pv 2) pa_nil)))))) pss_nil)
    (pss_one (ps_ret (pe_callS d_law_raise_late.F (hr.mono (by decide)) (by rfl) d_law_raise_late.g d_law_raise_late.kp d_law_raise_late.b (fun σ => passAt (takes_of rfl rfl rfl rfl) σ) (pa_cons (pv 0) (pa_cons (pv 1) (pa_cons (pv 2) pa_nil))))))), ?_⟩
    (rw [show start ["k", "word", "number"] [.int k, .str wd, .int n] = [some (.int k), some (.str wd), some (.int n)] from rfl]; try dsimp only [cxOf])
    walk_at "w"
    refine w_ifd (fun h => ?_) (fun h => ?_)
    · walk_at "w"
      exact ⟨sa, k, wd, n, rfl, t, lo, by omega, q⟩
    · walk_at "w"
      exact ⟨sa, k, wd, n, rfl, t, by omega, hi, q⟩
theorem ok_law_due {f : Addr} {fd : FuncData} (F : Fun K "_law_due" "_law_due" s_law_due f fd) : FnOk P w K mg base CX0 1 f fd ["k", "word", "number"] sp_due := by
  have sc := sc_law_due
  refine F.ok sc (fun vs H Q E h => ?_) (fun cdv A outer s H vs Q E hr h => ?_)
  · obtain ⟨sa, k, wd, n, rfl, _⟩ := h
    rfl
  · obtain ⟨sa, k, wd, n, rfl, t, hk, q⟩ := h
    refine ⟨_, (pss_cons (ps_if (pt_cmpR op_in_seq (pv 0) (pe_tup (pa_cons pe_int (pa_cons pe_int (pa_cons pe_int (pa_cons pe_int (pa_cons pe_int pa_nil)))))) (by rfl)) (pss_one (ps_ret (pe_tup (pa_cons pe_str (pa_cons (pv 2) pa_nil))))) pss_nil)
    (pss_cons (ps_if (pt_cmpR op_eq (pv 0) pe_int (nomark _)) (pss_one (ps_ret (pe_tup (pa_cons pe_str (pa_cons (pv 1) (pa_cons (pv 2) pa_nil)))))) pss_nil)
    (pss_cons (ps_if (pt_cmpR op_eq (pv 0) pe_int (nomark _)) (pss_one (ps_ret (pe_tup (pa_cons pe_str (pa_cons (pv 2) pa_nil))))) pss_nil)
    (pss_cons (ps_if (pt_cmpR op_eq (pv 0) pe_int (nomark _)) (pss_one (ps_ret (pe_tup (pa_cons pe_str (pa_cons (pe_tup (pa_cons (pv 2) (pa_cons (pe_op op_add (pv 2) pe_int) pa_nil))) pa_nil))))) pss_nil)
    (pss_cons (ps_if (pt_cmpR op_in_seq (pv 0) (pe_tup (pa_cons pe_int (pa_cons pe_int pa_nil))) (by rfl)) (pss_one (ps_ret (pe_tup (pa_cons pe_str (pa_cons (pv 1) pa_nil))))) pss_nil)
    (pss_cons (ps_if (pt_cmpR op_eq (pv 0) pe_int (nomark _)) (pss_one (ps_ret (pe_tup (pa_cons pe_str (pa_cons (pv 2) pa_nil))))) pss_nil)
    (pss_one (ps_ret (pe_tup (pa_cons pe_str pa_nil)))))))))), ?_⟩
    (rw [show start ["k", "word", "number"] [.int k, .str wd, .int n] = [some (.int k), some (.str wd), some (.int n)] from rfl]; try dsimp only [cxOf])
    have W : Wd false sa H H [] [] := wd_start t .nil
    walk_at "w"
    refine w_ifd (fun h1 => ?_) (fun h1 => ?_)
    · walk_at "w"
      rw [kin1 h1] at q
      exact q _ _ (Wd.same (by assumption) rfl) (Wd.get (by assumption) .here)
    walk_at "w"
    refine w_ifd (fun h2 => ?_) (fun h2 => ?_)
    · obtain rfl : k = 5 := by omega
      walk_at "w"
      exact q _ _ (Wd.same (by assumption) rfl) (Wd.get (by assumption) .here)
    walk_at "w"
    refine w_ifd (fun h3 => ?_) (fun h3 => ?_)
    · obtain rfl : k = 6 := by omega
      walk_at "w"
      exact q _ _ (Wd.same (by assumption) rfl) (Wd.get (by assumption) .here)
    walk_at "w"
    refine w_ifd (fun h4 => ?_) (fun h4 => ?_)
    · obtain rfl : k = 14 := by omega
      walk_at "w"
      exact q _ _ (Wd.same (by assumption) rfl) (Wd.get (by assumption) .here)
    walk_at "w"
    refine w_ifd (fun h5 => ?_) (fun h5 => ?_)
    · walk_at "w"
      rw [kin5 h5] at q
      exact q _ _ (Wd.same (by assumption) rfl) (Wd.get (by assumption) .here)
    walk_at "w"
    refine w_ifd (fun h6 => ?_) (fun h6 => ?_)
    · obtain rfl : k = 33 := by omega
      walk_at "w"
      exact q _ _ (Wd.same (by assumption) rfl) (Wd.get (by assumption) .here)
    walk_at "w"
    rw [show kin k = 0 from kin_0 k hk (by omega)] at q
    exact q _ _ (Wd.same (by assumption) rfl) (Wd.get (by assumption) .here)
theorem ok_law_fields {f : Addr} {fd : FuncData} (F : Fun K "_law_fields" "_law_fields" s_law_fields f fd) (S : Cls K L) : FnE P w K mg base 1 f fd ["k", "e"] (sp_fld L) := by
  have sc := sc_law_fields
  refine fnE_ok F sc (fun p vs H Q E h => ?_) (fun cdv A outer s H vs Q E p hr h => ?_)
  · obtain ⟨_, _, _, _, sa, k, wd, n, rfl, _⟩ := h
    rfl
  · obtain ⟨_, d, hz, hf, sa, k, wd, n, rfl, t, hk, rfl, xf, q⟩ := h
    have hq : ∀ {N : List Str} {qual : Str} {sg : Scope} {cd : Value}, p ∈ (L2H.cxH CX0 P w K mg base N qual sg f cd A outer s H E p).pn := List.mem_cons_self
    have xo : XObj p (cl L k) d := ⟨hz, hf⟩
    refine ⟨_, (pss_cons (ps_if (pt_cmpR op_in_seq (pv 0) (pe_tup (pa_cons pe_int (pa_cons pe_int (pa_cons pe_int (pa_cons pe_int (pa_cons pe_int pa_nil)))))) (by rfl)) (pss_one (ps_ret (pe_tup (pa_cons pe_str (pa_cons (pe_xp hq (pv 1)) pa_nil))))) pss_nil)
    (pss_cons (ps_if (pt_cmpR op_eq (pv 0) pe_int (nomark _)) (pss_one (ps_ret (pe_tup (pa_cons pe_str (pa_cons (pe_xp hq (pv 1)) (pa_cons (pe_xp hq (pv 1)) pa_nil)))))) pss_nil)
    (pss_cons (ps_if (pt_cmpR op_eq (pv 0) pe_int (nomark _)) (pss_one (ps_ret (pe_tup (pa_cons pe_str (pa_cons (pe_xp hq (pv 1)) pa_nil))))) pss_nil)
    (pss_cons (ps_if (pt_cmpR op_eq (pv 0) pe_int (nomark _)) (pss_one (ps_ret (pe_tup (pa_cons pe_str (pa_cons (pe_xp hq (pv 1)) pa_nil))))) pss_nil)
    (pss_cons (ps_if (pt_cmpR op_in_seq (pv 0) (pe_tup (pa_cons pe_int (pa_cons pe_int pa_nil))) (by rfl)) (pss_one (ps_ret (pe_tup (pa_cons pe_str (pa_cons (pe_xp hq (pv 1)) pa_nil))))) pss_nil)
    (pss_cons (ps_if (pt_cmpR op_eq (pv 0) pe_int (nomark _)) (pss_one (ps_ret (pe_tup (pa_cons pe_str (pa_cons (pe_xp hq (pv 1)) pa_nil))))) pss_nil)
    (pss_one (ps_ret (pe_tup (pa_cons pe_str pa_nil)))))))))), ?_⟩
    (rw [show start ["k", "e"] [.int k, .ref p.1] = [some (.int k), some (.ref p.1)] from rfl]; try dsimp only [cxOf])
    have W : Wd false sa H H [] [] := wd_start t .nil
    walk_at "w"
    refine w_ifd (fun h1 => ?_) (fun h1 => ?_)
    · rw [show fldOf k wd n = fldK 1 wd n by show fldK (kin k) wd n = _; rw [kin1 h1]] at xf
      rw [kin1 h1] at q
      walk_at "w"
      refine c_xp (z := true) (by assumption) S hk xo xf (List.mem_cons_self) (by decide) (v_int fun W2 => ?_)
      walk_at "w"
      exact q _ _ (Wd.same (by assumption) rfl) (Wd.get (by assumption) .here)
    walk_at "w"
    refine w_ifd (fun h2 => ?_) (fun h2 => ?_)
    · obtain rfl : k = 5 := by omega
      walk_at "w"
      refine c_xp (z := true) (by assumption) S hk xo xf (List.mem_cons_of_mem _ List.mem_cons_self) (by decide) (v_str fun W2 => ?_)
      walk_at "w"
      refine c_xp (z := true) W2 S hk xo xf (List.mem_cons_self) (by decide) (v_int fun W3 => ?_)
      walk_at "w"
      exact q _ _ (Wd.same (by assumption) rfl) (Wd.get (by assumption) .here)
    walk_at "w"
    refine w_ifd (fun h3 => ?_) (fun h3 => ?_)
    · obtain rfl : k = 6 := by omega
      walk_at "w"
      refine c_xp (z := true) (by assumption) S hk xo xf (List.mem_cons_self) (by decide) (v_int fun W2 => ?_)
      walk_at "w"
      exact q _ _ (Wd.same (by assumption) rfl) (Wd.get (by assumption) .here)
    walk_at "w"
    refine w_ifd (fun h4 => ?_) (fun h4 => ?_)
    · obtain rfl : k = 14 := by omega
      walk_at "w"
      refine c_xp (z := true) (by assumption) S hk xo xf (List.mem_cons_self) (by decide) (v_tup fun p2 W2 => ?_)
      walk_at "w"
      exact q _ _ (Wd.same (by assumption) rfl) (Wd.get (by assumption) .here)
    walk_at "w"
    refine w_ifd (fun h5 => ?_) (fun h5 => ?_)
    · rw [show fldOf k wd n = fldK 5 wd n by show fldK (kin k) wd n = _; rw [kin5 h5]] at xf
      rw [kin5 h5] at q
      walk_at "w"
      refine c_xp (z := true) (by assumption) S hk xo xf (List.mem_cons_self) (by decide) (v_str fun W2 => ?_)
      walk_at "w"
      exact q _ _ (Wd.same (by assumption) rfl) (Wd.get (by assumption) .here)
    walk_at "w"
    refine w_ifd (fun h6 => ?_) (fun h6 => ?_)
    · obtain rfl : k = 33 := by omega
      walk_at "w"
      refine c_xp (z := true) (by assumption) S hk xo xf (List.mem_cons_self) (by decide) (v_int fun W2 => ?_)
      walk_at "w"
      exact q _ _ (Wd.same (by assumption) rfl) (Wd.get (by assumption) .here)
    walk_at "w"
    rw [show kin k = 0 from kin_0 k hk (by omega)] at q
    exact q _ _ (Wd.same (by assumption) rfl) (Wd.get (by assumption) .here)
end

/-! ### the same digit, told with the place of the cells -/
def sp_take2 : Sp := fun vs H Q _ => ∃ (a : Addr) (m : Int) (c : Addr), vs = [.ref a, .int m] ∧ (0 < m ∧ m.natAbs.log2 < 9000) ∧ StmC H a c ∧ ∀ H' (d : Int), But a H H' → StmC H' a c → 0 ≤ d → d < m → Q (.int d) H'
section
variable {P : Program} {w : World} {K : PySem.W.Frag} {mg : Str → Option Value} {base : Heap}
theorem ok_law_take2 {f : Addr} {fd : FuncData} (F : Fun K "_law_take" "_law_take" s_law_take f fd) (nb : Nb mg) (d_law_great : Df P w K mg base CX0 1 "_law_great" ["cells", "place"] (sp_great K)) (d_law_mixed : Df P w K mg base CX0 1 "_law_mixed" ["cell", "k"] sp_mixed) : FnOk P w K mg base CX0 2 f fd ["stream", "many"] sp_take2 := by
  have sc := sc_law_take
  refine F.ok sc (fun vs H Q E h => ?_) (fun cdv A outer s H vs Q E hr h => ?_)
  · obtain ⟨a, m, c, rfl, _⟩ := h
    rfl
  · obtain ⟨a, m, c, rfl, hm, ⟨p, g, n, ns, h1, p0, g0, h4, hl⟩, q⟩ := h
    have ca := stm_ca h1 h4
    refine ⟨_, (pss_cons (ps_asg (pe_ix ix_list (pv 0) pe_int (fun _ _ => rfl)) (pg_name (i := 2) sc.nd rfl (.inl rfl)))
    (pss_cons (ps_asg (pe_ix ix_list (pv 0) pe_int (fun _ _ => rfl)) (pg_name (i := 3) sc.nd rfl (.inl rfl)))
    (pss_cons (ps_asg (pe_op op_add (pe_ix ix_list (pv 0) pe_int (fun _ _ => rfl)) pe_int) (pg_sub (pv 0) pe_int set_list))
    (pss_cons (ps_if (pt_cmpR op_gt (pe_ix ix_list (pv 0) pe_int (fun _ _ => rfl)) pe_int (nomark _)) (pss_cons (ps_asg (pe_op op_mod (pe_callTy cq_int (by rfl) nb.int (by decide +kernel) (pa_cons (pe_ix ix_list (pv 0) pe_int (fun _ _ => rfl)) pa_nil)) (pv 1)) (pg_name (i := 4) sc.nd rfl (.inl rfl)))
    (pss_cons (ps_asg (pe_op op_fdivW (pe_ix ix_list (pv 0) pe_int (fun _ _ => rfl)) (pv 1)) (pg_sub (pv 0) pe_int set_list))
    (pss_one (ps_if (pt_cmpR op_gt (pe_ix ix_list (pv 0) pe_int (fun _ _ => rfl)) pe_int (nomark _)) (pss_one (ps_ret (pv 4))) pss_nil)))) (pss_one (ps_asg (pe_op op_mod (pe_call d_law_mixed.F (hr.mono (by decide)) (by rfl) d_law_mixed.g d_law_mixed.kp d_law_mixed.b .nil pass0 (pa_cons (pe_ix ix_list (pv 2) (pe_op op_mod (pe_callTy cq_int (by rfl) nb.int (by decide +kernel) (pa_cons (pv 3) pa_nil)) (pe_callB cq_len (by rfl) nb.len (by decide +kernel) (pa_cons (pv 2) pa_nil))) (fun _ _ => rfl)) (pa_cons (pe_ix ix_list (pv 0) pe_int (fun _ _ => rfl)) pa_nil))) (pv 1)) (pg_name (i := 4) sc.nd rfl (.inl rfl)))))
    (pss_cons (ps_asg (pe_op op_add (pv 3) pe_int) (pg_sub (pv 0) pe_int set_list))
    (pss_cons (ps_asg (pe_call d_law_great.F (hr.mono (by decide)) (by rfl) d_law_great.g d_law_great.kp d_law_great.b .nil pass0 (pa_cons (pv 2) (pa_cons (pe_op op_add (pv 3) pe_int) pa_nil))) (pg_sub (pv 0) pe_int set_list))
    (pss_one (ps_ret (pv 4))))))))), ?_⟩
    (rw [show start ["stream", "many", "cells", "place", "digit"] [.ref a, .int m] = [some (.ref a), some (.int m), none, none, none] from rfl]; try dsimp only [cxOf])
    walk_at "w"
    refine w_ifd (fun hg => ?_) (fun hg => ?_)
    · walk_at "w"
      refine w_ifd (fun h2 => ?_) (fun h2 => ?_)
      · walk_at "w"
        refine q _ _ ?_ ⟨p, g / m, n + 1, ns, upd_same, p0, by omega, ?_, hl⟩ (Int.emod_nonneg _ (by omega)) (Int.emod_lt_of_pos _ (by omega))
        · exact (But.upd.trans But.upd)
        · walk_at "heap"
      · walk_at "w"
        refine ⟨c, p + 1, ns, rfl, .inl (.inl (by walk_at "heap")), by omega, fun g2 g20 => ?_⟩
        walk_at "w"
        refine q _ _ ?_ ⟨p + 1, g2, n + 1, ns, upd_same, by omega, g20, ?_, hl⟩ (Int.emod_nonneg _ (by omega)) (Int.emod_lt_of_pos _ (by omega))
        · exact ((But.upd.trans But.upd).trans But.upd).trans But.upd
        · walk_at "heap"
    · obtain ⟨z, hz⟩ := at_ints (ns := ns) (i := p % (ns.length : Int)) (Int.emod_nonneg _ (by omega)) (Int.emod_lt_of_pos _ (by omega))
      walk_at "w"
      refine ⟨z, n + 1, rfl, fun d0 => ?_⟩
      walk_at "w"
      refine ⟨c, p + 1, ns, rfl, .inl (.inl (by walk_at "heap")), by omega, fun g2 g20 => ?_⟩
      walk_at "w"
      refine q _ _ ?_ ⟨p + 1, g2, n + 1, ns, upd_same, by omega, g20, ?_, hl⟩ (Int.emod_nonneg _ (by omega)) (Int.emod_lt_of_pos _ (by omega))
      · exact (But.upd.trans But.upd).trans But.upd
      · walk_at "heap"
end

/-! ### of which classes it is -/
section
variable {P : Program} {w : World} {K : PySem.W.Frag} {mg : Str → Option Value} {base : Heap} {L : List Addr}
theorem ok_law_classes {f : Addr} {fd : FuncData} (F : Fun K "_law_classes" "_law_classes" s_law_classes f fd) (nb : Nb mg) (S : Cls K L) (c_NoFraction : Ex0 P w K mg base "NoFraction" (cl L 0)) (c_NoPoint : Ex0 P w K mg base "NoPoint" (cl L 1)) (c_NoPlate : Ex0 P w K mg base "NoPlate" (cl L 2)) (c_BadCorners : ExF P w K mg base "BadCorners" (cl L 3) ["self", "at"] (sp_ini1 K (cl L 3) "at")) (c_BadPlates : ExF P w K mg base "BadPlates" (cl L 4) ["self", "at"] (sp_ini1 K (cl L 4) "at")) (c_BadSheet : ExF P w K mg base "BadSheet" (cl L 5) ["self", "word", "at"] (sp_ini2 K (cl L 5) "word" "at")) (c_TooMany : ExF P w K mg base "TooMany" (cl L 6) ["self", "most"] (sp_ini1 K (cl L 6) "most")) (c_NoCorner : Ex0 P w K mg base "NoCorner" (cl L 7)) (c_NoCrease : Ex0 P w K mg base "NoCrease" (cl L 8)) (c_NoNumbers : Ex0 P w K mg base "NoNumbers" (cl L 9)) (c_NoStand : Ex0 P w K mg base "NoStand" (cl L 10)) (c_BadChoice : Ex0 P w K mg base "BadChoice" (cl L 11)) (c_BadSpaces : ExF P w K mg base "BadSpaces" (cl L 12) ["self", "at"] (sp_ini1 K (cl L 12) "at")) (c_NoPlacing : Ex0 P w K mg base "NoPlacing" (cl L 13)) (c_Shut : ExF P w K mg base "Shut" (cl L 14) ["self", "crease"] (sp_ini1 K (cl L 14) "crease")) (c_NoSpot : Ex0 P w K mg base "NoSpot" (cl L 15)) (c_BadNumber : ExF P w K mg base "BadNumber" (cl L 16) ["self", "word"] (sp_ini1 K (cl L 16) "word")) (c_NoPolynomial : Ex0 P w K mg base "NoPolynomial" (cl L 17)) (c_BadLot : Ex0 P w K mg base "BadLot" (cl L 18)) (c_BadBook : Ex0 P w K mg base "BadBook" (cl L 19)) (c_BadTold : Ex0 P w K mg base "BadTold" (cl L 20)) (c_NoFit : Ex0 P w K mg base "NoFit" (cl L 21)) (c_BadPrices : Ex0 P w K mg base "BadPrices" (cl L 22)) (c_BadHeld : Ex0 P w K mg base "BadHeld" (cl L 23)) (c_NotHeld : ExF P w K mg base "NotHeld" (cl L 24) ["self", "at"] (sp_ini1 K (cl L 24) "at")) (c_BadSeam : ExF P w K mg base "BadSeam" (cl L 25) ["self", "word"] (sp_ini1 K (cl L 25) "word")) (c_BadTable : Ex0 P w K mg base "BadTable" (cl L 26)) (c_BadWish : Ex0 P w K mg base "BadWish" (cl L 27)) (c_BadLengths : Ex0 P w K mg base "BadLengths" (cl L 28)) (c_NoSlit : Ex0 P w K mg base "NoSlit" (cl L 29)) (c_NoPart : Ex0 P w K mg base "NoPart" (cl L 30)) (c_BadText : ExF P w K mg base "BadText" (cl L 31) ["self", "at"] (sp_ini1 K (cl L 31) "at")) (c_NoTree : Ex0 P w K mg base "NoTree" (cl L 32)) (c_LiesOver : ExF P w K mg base "LiesOver" (cl L 33) ["self", "number"] (sp_ini1 K (cl L 33) "number")) (c_NoUndo : Ex0 P w K mg base "NoUndo" (cl L 34)) (c_BadTries : Ex0 P w K mg base "BadTries" (cl L 35)) : FnE P w K mg base 1 f fd ["e"] (sp_cls L) := by
  have sc := sc_law_classes
  refine fnE_ok F sc (fun p vs H Q E h => ?_) (fun cdv A outer s H vs Q E p hr h => ?_)
  · obtain ⟨_, _, _, _, sa, k, rfl, _⟩ := h
    rfl
  · obtain ⟨_, d, hz, hf, sa, k, rfl, t, hk, rfl, xd, q⟩ := h
    have hq : ∀ {N : List Str} {qual : Str} {sg : Scope} {cd : Value}, p ∈ (L2H.cxH CX0 P w K mg base N qual sg f cd A outer s H E p).pn := List.mem_cons_self
    have xo : XObj p (cl L k) d := ⟨hz, hf⟩
    refine ⟨_, (pss_cons (ps_asg (pe_lst (pa_cons (pe_callB (call_isP hq) (by rfl) nb.isinstance (by decide +kernel) (pa_cons (pv 0) (pa_cons (pe_cls (by rfl) c_NoFraction.gC) pa_nil))) (pa_cons (pe_callB (call_isP hq) (by rfl) nb.isinstance (by decide +kernel) (pa_cons (pv 0) (pa_cons (pe_cls (by rfl) c_NoPoint.gC) pa_nil))) (pa_cons (pe_callB (call_isP hq) (by rfl) nb.isinstance (by decide +kernel) (pa_cons (pv 0) (pa_cons (pe_cls (by rfl) c_NoPlate.gC) pa_nil))) (pa_cons (pe_callB (call_isP hq) (by rfl) nb.isinstance (by decide +kernel) (pa_cons (pv 0) (pa_cons (pe_cls (by rfl) c_BadCorners.gC) pa_nil))) pa_nil))))) (pg_name (i := 1) sc.nd rfl (.inl rfl)))
    (pss_cons (ps_asg (pe_op op_cat (pv 1) (pe_lst (pa_cons (pe_callB (call_isP hq) (by rfl) nb.isinstance (by decide +kernel) (pa_cons (pv 0) (pa_cons (pe_cls (by rfl) c_BadPlates.gC) pa_nil))) (pa_cons (pe_callB (call_isP hq) (by rfl) nb.isinstance (by decide +kernel) (pa_cons (pv 0) (pa_cons (pe_cls (by rfl) c_BadSheet.gC) pa_nil))) (pa_cons (pe_callB (call_isP hq) (by rfl) nb.isinstance (by decide +kernel) (pa_cons (pv 0) (pa_cons (pe_cls (by rfl) c_TooMany.gC) pa_nil))) (pa_cons (pe_callB (call_isP hq) (by rfl) nb.isinstance (by decide +kernel) (pa_cons (pv 0) (pa_cons (pe_cls (by rfl) c_NoCorner.gC) pa_nil))) pa_nil)))))) (pg_name (i := 1) sc.nd rfl (.inl rfl)))
    (pss_cons (ps_asg (pe_op op_cat (pv 1) (pe_lst (pa_cons (pe_callB (call_isP hq) (by rfl) nb.isinstance (by decide +kernel) (pa_cons (pv 0) (pa_cons (pe_cls (by rfl) c_NoCrease.gC) pa_nil))) (pa_cons (pe_callB (call_isP hq) (by rfl) nb.isinstance (by decide +kernel) (pa_cons (pv 0) (pa_cons (pe_cls (by rfl) c_NoNumbers.gC) pa_nil))) (pa_cons (pe_callB (call_isP hq) (by rfl) nb.isinstance (by decide +kernel) (pa_cons (pv 0) (pa_cons (pe_cls (by rfl) c_NoStand.gC) pa_nil))) (pa_cons (pe_callB (call_isP hq) (by rfl) nb.isinstance (by decide +kernel) (pa_cons (pv 0) (pa_cons (pe_cls (by rfl) c_BadChoice.gC) pa_nil))) pa_nil)))))) (pg_name (i := 1) sc.nd rfl (.inl rfl)))
    (pss_cons (ps_asg (pe_op op_cat (pv 1) (pe_lst (pa_cons (pe_callB (call_isP hq) (by rfl) nb.isinstance (by decide +kernel) (pa_cons (pv 0) (pa_cons (pe_cls (by rfl) c_BadSpaces.gC) pa_nil))) (pa_cons (pe_callB (call_isP hq) (by rfl) nb.isinstance (by decide +kernel) (pa_cons (pv 0) (pa_cons (pe_cls (by rfl) c_NoPlacing.gC) pa_nil))) (pa_cons (pe_callB (call_isP hq) (by rfl) nb.isinstance (by decide +kernel) (pa_cons (pv 0) (pa_cons (pe_cls (by rfl) c_Shut.gC) pa_nil))) (pa_cons (pe_callB (call_isP hq) (by rfl) nb.isinstance (by decide +kernel) (pa_cons (pv 0) (pa_cons (pe_cls (by rfl) c_NoSpot.gC) pa_nil))) pa_nil)))))) (pg_name (i := 1) sc.nd rfl (.inl rfl)))
    (pss_cons (ps_asg (pe_op op_cat (pv 1) (pe_lst (pa_cons (pe_callB (call_isP hq) (by rfl) nb.isinstance (by decide +kernel) (pa_cons (pv 0) (pa_cons (pe_cls (by rfl) c_BadNumber.gC) pa_nil))) (pa_cons (pe_callB (call_isP hq) (by rfl) nb.isinstance (by decide +kernel) (pa_cons (pv 0) (pa_cons (pe_cls (by rfl) c_NoPolynomial.gC) pa_nil))) (pa_cons (pe_callB (call_isP hq) (by rfl) nb.isinstance (by decide +kernel) (pa_cons (pv 0) (pa_cons (pe_cls (by rfl) c_BadLot.gC) pa_nil))) (pa_cons (pe_callB (call_isP hq) (by rfl) nb.isinstance (by decide +kernel) (pa_cons (pv 0) (pa_cons (pe_cls (by rfl) c_BadBook.gC) pa_nil))) pa_nil)))))) (pg_name (i := 1) sc.nd rfl (.inl rfl)))
    (pss_cons (ps_asg (pe_op op_cat (pv 1) (pe_lst (pa_cons (pe_callB (call_isP hq) (by rfl) nb.isinstance (by decide +kernel) (pa_cons (pv 0) (pa_cons (pe_cls (by rfl) c_BadTold.gC) pa_nil))) (pa_cons (pe_callB (call_isP hq) (by rfl) nb.isinstance (by decide +kernel) (pa_cons (pv 0) (pa_cons (pe_cls (by rfl) c_NoFit.gC) pa_nil))) (pa_cons (pe_callB (call_isP hq) (by rfl) nb.isinstance (by decide +kernel) (pa_cons (pv 0) (pa_cons (pe_cls (by rfl) c_BadPrices.gC) pa_nil))) (pa_cons (pe_callB (call_isP hq) (by rfl) nb.isinstance (by decide +kernel) (pa_cons (pv 0) (pa_cons (pe_cls (by rfl) c_BadHeld.gC) pa_nil))) pa_nil)))))) (pg_name (i := 1) sc.nd rfl (.inl rfl)))
    (pss_cons (ps_asg (pe_op op_cat (pv 1) (pe_lst (pa_cons (pe_callB (call_isP hq) (by rfl) nb.isinstance (by decide +kernel) (pa_cons (pv 0) (pa_cons (pe_cls (by rfl) c_NotHeld.gC) pa_nil))) (pa_cons (pe_callB (call_isP hq) (by rfl) nb.isinstance (by decide +kernel) (pa_cons (pv 0) (pa_cons (pe_cls (by rfl) c_BadSeam.gC) pa_nil))) (pa_cons (pe_callB (call_isP hq) (by rfl) nb.isinstance (by decide +kernel) (pa_cons (pv 0) (pa_cons (pe_cls (by rfl) c_BadTable.gC) pa_nil))) (pa_cons (pe_callB (call_isP hq) (by rfl) nb.isinstance (by decide +kernel) (pa_cons (pv 0) (pa_cons (pe_cls (by rfl) c_BadWish.gC) pa_nil))) pa_nil)))))) (pg_name (i := 1) sc.nd rfl (.inl rfl)))
    (pss_cons (ps_asg (pe_op op_cat (pv 1) (pe_lst (pa_cons (pe_callB (call_isP hq) (by rfl) nb.isinstance (by decide +kernel) (pa_cons (pv 0) (pa_cons (pe_cls (by rfl) c_BadLengths.gC) pa_nil))) (pa_cons (pe_callB (call_isP hq) (by rfl) nb.isinstance (by decide +kernel) (pa_cons (pv 0) (pa_cons (pe_cls (by rfl) c_NoSlit.gC) pa_nil))) (pa_cons (pe_callB (call_isP hq) (by rfl) nb.isinstance (by decide +kernel) (pa_cons (pv 0) (pa_cons (pe_cls (by rfl) c_NoPart.gC) pa_nil))) (pa_cons (pe_callB (call_isP hq) (by rfl) nb.isinstance (by decide +kernel) (pa_cons (pv 0) (pa_cons (pe_cls (by rfl) c_BadText.gC) pa_nil))) pa_nil)))))) (pg_name (i := 1) sc.nd rfl (.inl rfl)))
    (pss_one (ps_ret (pe_op op_cat (pv 1) (pe_lst (pa_cons (pe_callB (call_isP hq) (by rfl) nb.isinstance (by decide +kernel) (pa_cons (pv 0) (pa_cons (pe_cls (by rfl) c_NoTree.gC) pa_nil))) (pa_cons (pe_callB (call_isP hq) (by rfl) nb.isinstance (by decide +kernel) (pa_cons (pv 0) (pa_cons (pe_cls (by rfl) c_LiesOver.gC) pa_nil))) (pa_cons (pe_callB (call_isP hq) (by rfl) nb.isinstance (by decide +kernel) (pa_cons (pv 0) (pa_cons (pe_cls (by rfl) c_NoUndo.gC) pa_nil))) (pa_cons (pe_callB (call_isP hq) (by rfl) nb.isinstance (by decide +kernel) (pa_cons (pv 0) (pa_cons (pe_cls (by rfl) c_BadTries.gC) pa_nil))) pa_nil)))))))))))))))), ?_⟩
    (rw [show start ["e", "flags"] [.ref p.1] = [some (.ref p.1), none] from rfl]; try dsimp only [cxOf])
    have W : Wd false sa H H [] [] := wd_start t .nil
    walk_at "w"
    exact q _ _ (Wd.same (by assumption) rfl) (Wd.get (by assumption) .here)
end

/-! ### raised, caught, asked -/
structure DfE (P : Program) (w : World) (K : PySem.W.Frag) (mg : Str → Option Value) (base : Heap) (k : Nat) (x : Str) (ps : List Str) (sp : Addr × Obj → Sp) where
  f : Addr
  fd : FuncData
  g : mg x = some (.ref f)
  kp : PySem.W.keepIn K (.ref f) = true
  b : Binds K fd ps []
  F : FnE P w K mg base k f fd ps sp
abbrev sp_askedE : Sp := Pf (fun ds => ∃ (k : Nat) (wd : Str) (n : Int), ds = [.int (k : Int), .str wd, .int n] ∧ k < 37 ∧ PyData.strOk wd = true) fun _ => .bool true
theorem same_updN {H H' : Hp} {l : Addr} {o : HO} (s : Same H H') (n : H l = none) : Same H (upd H' l o) := fun b ob hb => by
  by_cases e : b = l
  · subst e
    rw [n] at hb
    cases hb
  · rw [upd_ne e]
    exact s b ob hb
def MidA (sa : Addr) (H : Hp) (k : Nat) (wd : Str) (n : Int) : L2.St → Hp → Prop := fun σ' H' => ∃ x y, σ' = [some (.int (k : Int)), some (.str wd), some (.int n), some (.bl true), some x, some y, some (.bl true), none, none] ∧ Wd false sa H H' [y, x] [.list (flg k), dueK (kin k) wd n]
theorem w_callE {sp : Sp} {t : TA} {σ : L2.St} {H : Hp} {Q : VK} (h : t σ H fun vs H1 => sp vs H1 Q E0) : tCallE sp t σ H Q := h
theorem due_nd (c : Nat) (wd : Str) (n : Int) : noDict (dueK c wd n) = true := by
  unfold dueK
  split <;> rfl
theorem sok_at : PyData.strOk ("at" : Str) = true ∧ PyData.strOk ("both" : Str) = true ∧ PyData.strOk ("most" : Str) = true ∧ PyData.strOk ("crease" : Str) = true ∧ PyData.strOk ("word" : Str) = true ∧ PyData.strOk ("number" : Str) = true ∧ PyData.strOk ("none" : Str) = true := by decide +kernel
theorem due_sh (c : Nat) {wd : Str} (n : Int) (h : PyData.strOk wd = true) : SeqAt.shaped (dueK c wd n) = true := by
  obtain ⟨h1, h2, h3, h4, h5, h6, h7⟩ := sok_at
  have dp : (dueK c wd n).depth ≤ 64 := by
    unfold dueK
    split <;> simp [PyData.depth, PyData.depthAll]
  have cn : (dueK c wd n).canLay0 = true := by
    unfold dueK
    split <;> simp [PyData.canLay0, PyData.canLayAll0, h, h1, h2, h3, h4, h5, h6, h7]
  unfold SeqAt.shaped
  rw [cn, decide_eq_true dp]
  rfl
theorem due_eq (c : Nat) (wd : Str) (n : Int) : PyData.eqv (dueK c wd n) (dueK c wd n) = true := by
  unfold dueK
  split <;> simp [PyData.eqv, PyData.eqvAll]
theorem dp_bools {K : PySem.W.Frag} {H : Hp} {g : Nat → Bool} : ∀ l : List Nat, DpAll K H (l.map fun j => V.bl (g j)) (l.map fun j => PyData.bool (g j))
  | [] => .nil
  | _ :: l => .cons (.bl _) (dp_bools l)
theorem eqv_bools {f g : Nat → Bool} : ∀ l : List Nat, (∀ j ∈ l, f j = g j) → PyData.eqvAll (l.map fun j => PyData.bool (f j)) (l.map fun j => PyData.bool (g j)) = true
  | [], _ => by simp [PyData.eqvAll]
  | a :: l, h => by
    simp only [List.map_cons, PyData.eqvAll, PyData.eqv]
    rw [h a List.mem_cons_self, eqv_bools l fun j hj => h j (List.mem_cons_of_mem _ hj)]
    cases g a <;> rfl
theorem sh_bools (g : Nat → Bool) : SeqAt.shaped (.list ((List.range 36).map fun j => .bool (g j))) = true := rfl
theorem flg_nd (k : Nat) : noDict (.list (flg k)) = true := rfl
local macro_rules | `(tactic| walk_at "call1") => `(tactic| with_reducible refine w_callE ?_)
section
variable {P : Program} {w : World} {K : PySem.W.Frag} {mg : Str → Option Value} {base : Heap} {L : List Addr}
theorem ok_law_asked {f : Addr} {fd : FuncData} (F : Fun K "_law_asked" "_law_asked" s_law_asked f fd) (nb : Nb mg) (nVE : mg "ValueError" = none) (S : Cls K L) (c_FoldError : ExB K mg "FoldError" (cl L 36)) (d_law_raise : Df P w K mg base (L2.CX P w) 4 "_law_raise" ["k", "word", "number"] (sp_rs L 0 37))
    (d_law_fields : DfE P w K mg base 1 "_law_fields" ["k", "e"] (sp_fld L)) (d_law_classes : DfE P w K mg base 1 "_law_classes" ["e"] (sp_cls L)) (d_law_due : Df P w K mg base CX0 1 "_law_due" ["k", "word", "number"] sp_due) : FnOk P w K mg base CX0 5 f fd ["k", "word", "number"] sp_askedE := by
  have sc := sc_law_asked
  refine F.ok sc (fun vs H Q E h => ?_) (fun cdv A outer s H vs Q E hr h => ?_)
  · obtain ⟨sa, ds, t, r, ⟨k, wd, n, rfl, _⟩, _⟩ := h
    exact r.lens
  · obtain ⟨sa, ds, t, r, ⟨k, wd, n, rfl, hk, hw⟩, q⟩ := h
    obtain ⟨x, y, z, rfl, r0, r1, r2⟩ := rps3 r
    cases r0
    cases r1
    cases r2
    refine ⟨_, (pss_cons (ps_asg pe_bl (pg_name (i := 3) sc.nd rfl (.inl rfl)))
    (pss_cons (ps_asg pe_non (pg_name (i := 4) sc.nd rfl (.inl rfl)))
    (pss_cons (ps_asg (pe_lst pa_nil) (pg_name (i := 5) sc.nd rfl (.inl rfl)))
    (pss_cons (ps_asg pe_bl (pg_name (i := 6) sc.nd rfl (.inl rfl)))
    (Evl.pss_cut (ps_try_as (tb := fun W => (tDrop (tCallS (sp_rs L 0 37) (WE W) (tCons (tVar 0) (tCons (tVar 1) (tCons (tVar 2) tNil)))))) (ts := fun a cls d => (tSeq (tAsg (tC (.bl true)) (gName 3)) (tSeq (tAsg (tCallE (sp_fldA L a cls d) (tCons (tVar 0) (tCons (tVar 7) tNil))) (gName 4)) (tSeq (tAsg (tCallE (sp_clsA L a cls d) (tCons (tVar 7) tNil)) (gName 5)) (tAsg (tCB (rIsS K a cls d) (tCons (tVar 7) (tCons (tC (.ty "ValueError")) tNil))) (gName 6)))))) rfl rfl sc.nd (i := 7) rfl rfl ⟨rfl, by decide, .inl c_FoldError.gC⟩ takes0 (fun W pn xe tk _ => (pss_one (ps_expr (pe_callS d_law_raise.F (hr.mono (by decide)) (by rfl) d_law_raise.g d_law_raise.kp d_law_raise.b (fun σ => passAt tk σ) (pa_cons (pv 0) (pa_cons (pv 1) (pa_cons (pv 2) pa_nil))))))) (fun a oe cls d pn hz hf => (pss_cons (ps_asg pe_bl (pg_name (i := 3) sc.nd rfl (.inl rfl))) (pss_cons (ps_asg (pe_callE (k := 1) d_law_fields.F (fun vs H Q E h => ⟨cls, d, hz, hf, h⟩) ⟨((L2H.roomH_of hr).mono (show 1 ≤ 4 by decide)).dp, ((L2H.roomH_of hr).mono (show 1 ≤ 4 by decide)).un⟩ List.mem_cons_self (by rfl) d_law_fields.g d_law_fields.kp d_law_fields.b (pa_cons (pv 0) (pa_cons (pv 7) pa_nil))) (pg_name (i := 4) sc.nd rfl (.inl rfl))) (pss_cons (ps_asg (pe_callE (k := 1) d_law_classes.F (fun vs H Q E h => ⟨cls, d, hz, hf, h⟩) ⟨((L2H.roomH_of hr).mono (show 1 ≤ 4 by decide)).dp, ((L2H.roomH_of hr).mono (show 1 ≤ 4 by decide)).un⟩ List.mem_cons_self (by rfl) d_law_classes.g d_law_classes.kp d_law_classes.b (pa_cons (pv 7) pa_nil)) (pg_name (i := 5) sc.nd rfl (.inl rfl))) (pss_one (ps_asg (pe_callB (call_isS List.mem_cons_self hz hf) (by rfl) nb.isinstance (by decide +kernel) (pa_cons (pv 7) (pa_cons (pe_bltn (v := .ty "ValueError") (u := .type "ValueError") (by rfl) nVE (by decide +kernel) rfl) pa_nil))) (pg_name (i := 6) sc.nd rfl (.inl rfl)))))))))
    (pss_cons (ps_if (PW.pt (pw_or (pt_not (pt_val (pv 3))) (pw_or (pt_not (pt_val (pv 6))) (pw_or1 (pt_cmpR (op_neD hr.units) (pv 4) (pe_call d_law_due.F (hr.mono (by decide)) (by rfl) d_law_due.g d_law_due.kp d_law_due.b .nil pass0 (pa_cons (pv 0) (pa_cons (pv 1) (pa_cons (pv 2) pa_nil)))) (nomark _)))))) (pss_one (ps_ret pe_bl)) pss_nil)
    (pss_one (ps_ret (pe_cmpR (op_eqD hr.units) (pv 5) (pe_lc (own := [("at", 8)]) (g := gName 8) (tt := tYes) rfl sc.nd (pi_range1 (by rfl) nb.range (pa_cons pe_int pa_nil)) (blkOk_by (N := NN_law_asked) (sc := defScope s_law_asked) (by decide +kernel)) (fun _ _ _ _ _ => pg_name (i := 8) sc.nd rfl (Or.inl rfl)) (fun _ _ _ _ _ => pts_nil) (fun _ _ _ _ _ => (pe_cmpR op_eq (pv 8) (pv 0) (nomark _)))) (nomark _)))))))))), ?_⟩
    (rw [show start ["k", "word", "number", "caught", "told", "flags", "is_value", "e", "at"] [.int k, .str wd, .int n] = [some (.int k), some (.str wd), some (.int n), none, none, none, none, none, none] from rfl]; try dsimp only [cxOf])
    have W : Wd false sa H H [] [] := wd_start t .nil
    walk_at "w"
    rename_i H1 p1 W1
    refine ⟨MidA sa H k wd n, ?_, ?_⟩
    · walk_at "w"
      refine ⟨sa, k, wd, n, rfl, W1.tr, Nat.zero_le _, hk, fun H2 d sm xf => ?_⟩
      have W2 := W1.go sm
      refine ⟨true, S.ex k hk, fun _ a na => ?_, fun z => (nomatch z)⟩
      walk_at "w"
      refine ⟨sa, k, wd, n, rfl, W2.tr, hk, rfl, xf, fun H3 x3 s3 r3 => ?_⟩
      have W3 := (W2.go s3).put r3
      walk_at "w"
      refine ⟨sa, k, rfl, W3.tr, hk, rfl, (xf.same s3).dct, fun H4 x4 s4 r4 => ?_⟩
      have W4 := (W3.go s4).put r4
      walk_at "w"
      refine ⟨.ty "ValueError", .type "ValueError", true, cl L k, rfl, fun u e => e, rfl, S.x k hk, ((xf.same s3).same s4).dct, S.ve k hk, ?_⟩
      walk_at "w"
      exact ⟨x3, x4, rfl, W4.sub (.cons (W4.get .here) (.cons (W4.get (.there .here)) .nil))⟩
    · rintro σ' H2 ⟨x, y, rfl, W2⟩
      walk_at "w"
      refine ⟨sa, k, wd, n, rfl, W2.tr, hk, fun H3 z s3 rz => ?_⟩
      have W3 := W2.go s3
      refine ⟨_, _, (W3.get (.there .here)).dp (due_nd _ _ _), rz.dp (due_nd _ _ _), due_sh _ _ hw, due_sh _ _ hw, ?_⟩
      rw [due_eq]
      walk_at "w"
      refine ⟨36, rfl, by decide, by decide, fun D nD => ?_⟩
      refine lc_range (lo := 0) (n := 36) (fun i H' => Same H3 H' ∧ H' D = some (.lst ((List.range i).map fun (j : Nat) => V.bl (eqB (j : Int) (k : Int))))) ⟨same_new nD, upd_same⟩ (fun i H' hi hP => ?_) (fun H' hP => ?_)
      · refine ⟨rfl, lcYes ?_⟩
        show tOp rEq (tVar 8) (tVar 0) [some (.int (k : Int)), some (.str wd), some (.int n), some (.bl true), some x, some y, some (.bl true), none, some (.int (0 + (i : Int)))] H' _
        walk_at "w"
        refine ⟨_, hP.2, small1000 (by simp; omega), same_updN hP.1 nD, ?_⟩
        rw [upd_same, List.range_succ, List.map_append, Int.zero_add]
        rfl
      · obtain ⟨s5, e5⟩ := hP
        have W5 := W3.go s5
        refine ⟨.list (flg k), .list ((List.range 36).map fun (j : Nat) => PyData.bool (eqB (j : Int) (k : Int))), (W5.get .here).dp (flg_nd k), .lst (SqL.of e5) (dp_bools _), sh_bools _, sh_bools _, ?_⟩
        rw [show PyData.eqv (.list (flg k)) (.list ((List.range 36).map fun (j : Nat) => PyData.bool (eqB (j : Int) (k : Int)))) = true from by
          rw [PyData.eqv]
          exact eqv_bools _ fun j _ => by
            by_cases h : k = j
            · rw [decide_eq_true h, eqT (by omega)]
            · rw [decide_eq_false h, eqF (by omega)]]
        exact q _ _ (W5.same rfl) (.bl true)
end

/-! ### what the written part says of the classes -/
theorem xcB_ok {K : PySem.W.Frag} {C : Addr} (h : xcB K C = true) : XCls K C := by
  unfold xcB at h
  simp only [Bool.and_eq_true, decide_eq_true_eq] at h
  exact ⟨xfB_ok h.1, h.2.1, h.2.2.1, h.2.2.2.1, h.2.2.2.2.1, h.2.2.2.2.2⟩
theorem cls_of {K : PySem.W.Frag} {L : List Addr} (h : (List.range 37).all (chkB K L) = true) : Cls K L := by
  have z : ∀ k, k < 37 → chkB K L k = true := fun k hk => List.all_eq_true.mp h k (List.mem_range.mpr hk)
  have y : ∀ k, k < 37 → xcB K (cl L k) = true ∧ (∀ f ∈ fNames, PySem.W.findIn K (.ref (cl L k)) f = some none) ∧ (∀ j, j < 36 → PySem.W.kitOne K (.ref (cl L k)) (.ref (cl L j)) = some (decide (k = j))) ∧ PySem.W.kitOne K (.ref (cl L k)) (.type "ValueError") = some true ∧ PySem.W.exmOne K (.ref (cl L k)) (.ref (cl L 36)) = some true := fun k hk => by
    have := z k hk
    unfold chkB at this
    simp only [Bool.and_eq_true, decide_eq_true_eq, List.all_eq_true, List.mem_range] at this
    exact ⟨this.1, this.2.1, this.2.2.1, this.2.2.2.1, this.2.2.2.2⟩
  exact ⟨fun k hk => xcB_ok (y k hk).1, fun k hk => (y k hk).2.1, fun k hk => (y k hk).2.2.1, fun k hk => (y k hk).2.2.2.1, fun k hk => (y k hk).2.2.2.2⟩

/-! ### the law itself -/
theorem StmC.stm {H : Hp} {a c : Addr} (s : StmC H a c) : Stm H a := let ⟨p, g, n, ns, h1, h2, h3, h4, h5⟩ := s; ⟨c, p, g, n, ns, h1, h2, h3, h4, h5⟩
theorem Stm.cs {H : Hp} {a : Addr} (s : Stm H a) : ∃ c, StmC H a c := let ⟨c, p, g, n, ns, h1, h2, h3, h4, h5⟩ := s; ⟨c, p, g, n, ns, h1, h2, h3, h4, h5⟩
theorem StmC.cell {H : Hp} {a c : Addr} (s : StmC H a c) : ∃ o, H c = some o := let ⟨_, _, _, _, _, _, _, h4, _⟩ := s; ⟨_, h4⟩
theorem StmC.put {H : Hp} {a c D : Addr} {o : HO} (s : StmC H a c) (h1 : D ≠ a) (h2 : D ≠ c) : StmC (upd H D o) a c := by
  obtain ⟨p, g, n, ns, e1, e2, e3, e4, e5⟩ := s
  exact ⟨p, g, n, ns, by rw [upd_ne (Ne.symm h1)]; exact e1, e2, e3, by rw [upd_ne (Ne.symm h2)]; exact e4, e5⟩
theorem c_tk2 {sa : Addr} {H0 H : Hp} {acc : List V} {dacc : List PyData} {m : Int} {Q : VK} {E : XK} (W : Wd true sa H0 H acc dacc) (hm : 0 < m) (hl : m.natAbs.log2 < 9000) (h : ∀ H' (d : Int), Wd true sa H0 H' acc dacc → 0 ≤ d → d < m → Q (.int d) H') : sp_take2 [.ref sa, .int m] H Q E := by
  obtain ⟨c, s⟩ := (W.st rfl).cs
  exact ⟨sa, m, c, rfl, ⟨hm, hl⟩, s, fun H' d bb s' d0 d1 => h H' d (W.draw bb s'.stm) d0 d1⟩
theorem lc_I {sa c : Addr} {H : Hp} {j n : Nat} {te : TE} {vs : List Nat} {σ : L2.St} {Q : VK} {m : Int} (st : StmC H sa c) (hn : n ≤ 900) (hw : ∀ x, wipe ((wipe σ vs).set j (some x)) vs = wipe σ vs)
    (hs : ∀ (i : Nat) H' Q', i < n → But sa H H' → StmC H' sa c → (∀ (d : Int) H4, But sa H' H4 → StmC H4 sa c → 0 ≤ d → d < m → Q' (.int d) H4) → te ((wipe σ vs).set j (some (.int (0 + (i : Int))))) H' Q')
    (hd : ∀ H' D (ds : List Int), H D = none → But sa H H' → StmC H' sa c → D ≠ sa → H' D = some (.lst (ds.map V.int)) → ds.length = n → (∀ d ∈ ds, 0 ≤ d ∧ d < m) → Q (.ref D) H') : tLc (fun _ H' R => R (Itr 0 n) H') (gName j) tYes te vs σ H Q := by
  intro D nD
  have nsa : D ≠ sa := st.stm.ne nD
  have nc : D ≠ c := fun e => by
    obtain ⟨o, eo⟩ := st.cell
    rw [← e, nD] at eo
    cases eo
  refine lc_range (lo := 0) (n := n) (fun i H' => But sa H H' ∧ StmC H' sa c ∧ ∃ ds : List Int, H' D = some (.lst (ds.map V.int)) ∧ ds.length = i ∧ ∀ d ∈ ds, 0 ≤ d ∧ d < m) ?_ (fun i H' hi hP => ?_) (fun H' hP => ?_)
  · exact ⟨(But.refl sa H).put nD, st.put nsa nc, [], upd_same, rfl, fun d hd => absurd hd (by simp)⟩
  · obtain ⟨bb, s, ds, h1, h2, h3⟩ := hP
    refine ⟨hw _, lcYes ?_⟩
    refine hs i H' _ hi bb s fun d H4 b4 s4 d0 d1 => ?_
    refine ⟨_, b4 _ _ nsa h1, by rw [List.length_map, h2]; exact small1000 (by omega), (bb.trans b4).put nD, s4.put nsa nc, ds ++ [d], by rw [upd_same, List.map_append]; rfl, by rw [List.length_append, h2]; rfl, fun x hx => ?_⟩
    rcases List.mem_append.mp hx with hx | hx
    · exact h3 x hx
    · rw [List.mem_singleton.mp hx]
      exact ⟨d0, d1⟩
  · obtain ⟨bb, s, ds, h1, h2, h3⟩ := hP
    exact hd H' D ds nD bb s nsa h1 h2 h3
theorem w_lc {wi : TI} {g : TG} {tt : TT} {te : TE} {vs : List Nat} {σ : L2.St} {H : Hp} {Q : VK} (h : wi σ H fun J H1 => tLc (fun _ H' R => R J H') g tt te vs σ H1 Q) : tLc wi g tt te vs σ H Q := h
theorem w_ilst {K : PySem.W.Frag} {tl : TE} {σ : L2.St} {H : Hp} {R : It → Hp → Prop} (h : tl σ H fun x H1 => ∃ a, x = .ref a ∧ (∃ xs, SqL K H1 a xs) ∧ R (Itl K a) H1) : iList K tl σ H R := h
theorem w_sl {r : V → Option Int → Option Int → Hp → VK → Prop} {te : TE} {tl th : TO} {σ : L2.St} {H : Hp} {Q : VK} (h : te σ H fun x H1 => tl σ H1 fun l H2 => th σ H2 fun u H3 => r x l u H3 Q) : tSl r te tl th σ H Q := h
theorem alph {d : Int} (h0 : 0 ≤ d) (h1 : d < 26) : ∃ c, atI ("abcdefghijklmnopqrstuvwxyz" : Str).cps.toList d = some c ∧ c < 0x110000 := by
  obtain ⟨j, rfl⟩ := Int.eq_ofNat_of_zero_le h0
  have z := (show ∀ j : Fin 26, (match atI ("abcdefghijklmnopqrstuvwxyz" : Str).cps.toList (j.1 : Int) with | some c => decide (c < 0x110000) | none => false) = true from by decide +kernel) ⟨j, by omega⟩
  cases e : atI ("abcdefghijklmnopqrstuvwxyz" : Str).cps.toList (j : Int) with
  | none =>
    simp only [e] at z
    cases z
  | some c =>
    simp only [e] at z
    exact ⟨c, rfl, of_decide_eq_true z⟩
theorem ok_fold {z : Str} (hz : PyData.strOk z = true) : ∀ (l : List Str) (acc : Array Nat), acc.all (· < 0x110000) = true → (∀ y ∈ l, PyData.strOk y = true) → (l.foldl (fun acc p => acc ++ z.cps ++ p.cps) acc).all (· < 0x110000) = true
  | [], acc, h, _ => h
  | y :: l, acc, h, hl => ok_fold hz l _ (by
      rw [Array.all_append, Array.all_append, h, show z.cps.all _ = true from hz, show y.cps.all _ = true from hl y List.mem_cons_self]
      rfl) fun x hx => hl x (List.mem_cons_of_mem _ hx)
theorem ok_join {z : Str} (hz : PyData.strOk z = true) {ys : List Str} (h : ∀ y ∈ ys, PyData.strOk y = true) : PyData.strOk (Txt.join z ys) = true := by
  show (Builtin.Str.glued z ys).cps.all _ = true
  unfold Builtin.Str.glued
  cases ys with
  | nil => exact (show (#[] : Array Nat).all _ = true from by simp)
  | cons y l => exact ok_fold hz l _ (h y List.mem_cons_self) fun x hx => h x (List.mem_cons_of_mem _ hx)
theorem sum_ones : ∀ {ys : List Str}, (∀ y ∈ ys, y.length = 1) → (ys.map (·.length)).sum = ys.length
  | [], _ => rfl
  | y :: l, h => by
    rw [List.map_cons, List.sum_cons, h y List.mem_cons_self, sum_ones fun x hx => h x (List.mem_cons_of_mem _ hx), List.length_cons, Nat.add_comm]
theorem cut_ints (ns : List Int) (lo hi : Option Int) : ∃ ms : List Int, cutV (ns.map V.int) lo hi = ms.map V.int ∧ ms.length ≤ ns.length := by
  unfold cutV
  rw [← List.map_drop, ← List.map_take]
  exact ⟨_, rfl, by rw [List.length_take, List.length_drop]; omega⟩
local macro_rules | `(tactic| walk_at "call1") => `(tactic| first
  | with_reducible refine w_sl ?_
  | with_reducible refine w_ilst ?_
  | ((with_reducible show sp_take2 _ _ _ _); (with_reducible apply c_tk2); (focus assumption); (focus (first | decide | omega)); (focus (first | decide | decide +kernel)); intro _ _ _ _ _))
section
variable {P : Program} {w : World} {K : PySem.W.Frag} {mg : Str → Option Value} {base : Heap}
theorem ok_law {f : Addr} {fd : FuncData} (F : Fun K "law" "law" s_law f fd) (nb : Nb mg) (d_law_stream : Df P w K mg base CX0 2 "_law_stream" ["script"] (sp_stream K)) (d_law_take : Df P w K mg base CX0 2 "_law_take" ["stream", "many"] sp_take2) (d_law_whole : Df P w K mg base CX0 3 "_law_whole" ["stream"] sp_whole)
    (d_law_asked : Df P w K mg base CX0 5 "_law_asked" ["k", "word", "number"] sp_askedE) : FnOk P w K mg base CX0 6 f fd ["script"] (sp_law K) := by
  have sc := sc_law
  refine F.ok sc (fun vs H Q E h => ?_) (fun cdv A outer s H vs Q E hr h => ?_)
  · obtain ⟨a, ns, rfl, _⟩ := h
    rfl
  · obtain ⟨c, ns, rfl, hS, hlen, q⟩ := h
    refine ⟨_, (pss_cons (ps_asg (pe_call d_law_stream.F (hr.mono (by decide)) (by rfl) d_law_stream.g d_law_stream.kp d_law_stream.b .nil pass0 (pa_cons (pv 0) pa_nil)) (pg_name (i := 1) sc.nd rfl (.inr rfl)))
    (pss_cons (ps_for PassesOwn.never rfl (pi_list (pe_op op_cat (pe_lst (pa_cons pe_int pa_nil)) (pe_slice sl_list (pv 0) po_none (po_some pe_int)))) (pg_name (i := 2) sc.nd rfl (.inl rfl)) (pss_cons (ps_asg (pe_op op_mod (pe_callTy cq_int (by rfl) nb.int (by decide +kernel) (pa_cons (pe_op op_add (pe_call d_law_take.F (hr.mono (by decide)) (by rfl) d_law_take.g d_law_take.kp d_law_take.b .nil pass0 (pa_cons (pv 1) (pa_cons pe_int pa_nil))) (pv 2)) pa_nil)) pe_int) (pg_name (i := 3) sc.nd rfl (.inl rfl)))
    (pss_cons (ps_asg (pe_call d_law_whole.F (hr.mono (by decide)) (by rfl) d_law_whole.g d_law_whole.kp d_law_whole.b .nil pass0 (pa_cons (pv 1) pa_nil)) (pg_name (i := 4) sc.nd rfl (.inl rfl)))
    (pss_cons (ps_setLc (i := 5) (own := [("at", 7)]) (g := gName 7) (tt := tYes) rfl sc.nd rfl rfl (sw_true rfl rfl rfl (by decide +kernel)) (pi_range1 (by rfl) nb.range (pa_cons (pe_op op_add pe_int (pe_call d_law_take.F (hr.mono (by decide)) (by rfl) d_law_take.g d_law_take.kp d_law_take.b .nil pass0 (pa_cons (pv 1) (pa_cons pe_int pa_nil)))) pa_nil)) (blkOk_by (N := NN_law) (sc := defScope s_law) (by decide +kernel)) (fun _ _ _ _ _ => pg_name (i := 7) sc.nd rfl (Or.inl rfl)) (fun _ _ _ _ _ => pts_nil) (fun _ _ _ _ _ => (pe_call d_law_take.F (hr.mono (by decide)) (by rfl) d_law_take.g d_law_take.kp d_law_take.b .nil pass0 (pa_cons (pv 1) (pa_cons pe_int pa_nil)))))
    (pss_cons (ps_asg (pe_join pe_str (pe_lc (own := [("at", 7)]) (g := gName 7) (tt := tYes) rfl sc.nd (pi_list (pv 5)) (blkOk_by (N := NN_law) (sc := defScope s_law) (by decide +kernel)) (fun _ _ _ _ _ => pg_name (i := 7) sc.nd rfl (Or.inl rfl)) (fun _ _ _ _ _ => pts_nil) (fun _ _ _ _ _ => (pe_ix ix_str pe_str (pv 7) (fun _ _ => rfl))))) (pg_name (i := 6) sc.nd rfl (.inl rfl)))
    (pss_one (ps_if (pt_not (pt_val (pe_call d_law_asked.F (hr.mono (by decide)) (by rfl) d_law_asked.g d_law_asked.kp d_law_asked.b .nil pass0 (pa_cons (pv 3) (pa_cons (pv 6) (pa_cons (pv 4) pa_nil)))))) (pss_one (ps_ret pe_bl)) pss_nil)))))))
    (pss_one (ps_ret pe_bl)))), ?_⟩
    (rw [show start ["script", "stream", "cell", "k", "number", "letters", "word", "at"] [.ref c] = [some (.ref c), none, none, none, none, none, none, none] from rfl]; try dsimp only [cxOf])
    walk_at "w"
    refine ⟨c, ns, rfl, hS, fun H1 a s1 na st => ?_⟩
    have hS1 : SqL K H1 c (ns.map V.int) := s1.seq hS
    have W1 : Wd true a H1 H1 [] [] := wd_startS st .nil
    walk_at "w"
    rename_i H2 p1 W2
    refine ⟨40, rfl, c, ns.map V.int, rfl, sq_but W2.but st hS1, fun p2 n2 => ?_⟩
    obtain ⟨ms, em, lm⟩ := cut_ints ns none (some 40)
    rw [em]
    have hp1 : H2 p1 = some (.lst [.int 0]) := by
      cases W2.get .here with
      | @lst _ xs _ n hx r =>
        cases r with | cons r0 r =>
        cases r
        cases r0
        exact hx
    have s3 : Same H2 (upd H2 p2 (.lst (ms.map V.int))) := same_new n2
    refine ⟨p1, p2, [.int 0], ms.map V.int, rfl, rfl, s3 _ _ hp1, upd_same, by rw [List.length_map]; exact Nat.le_of_lt (small1000 (by show 1 + ms.length ≤ 1000; omega)), fun p3 n3 => ?_⟩
    have s4 : Same (upd H2 p2 (.lst (ms.map V.int))) (upd (upd H2 p2 (.lst (ms.map V.int))) p3 (.lst ([.int 0] ++ ms.map V.int))) := same_new n3
    have W4 := W2.go (s3.trans s4)
    have e4 : (upd (upd H2 p2 (.lst (ms.map V.int))) p3 (.lst ([.int 0] ++ ms.map V.int))) p3 = some (.lst (((0 : Int) :: ms).map V.int)) := upd_same
    have n4 : p3 ≠ a := (W2.go s3).ne n3
    generalize (upd (upd H2 p2 (.lst (ms.map V.int))) p3 (.lst ([.int 0] ++ ms.map V.int))) = H4 at W4 e4
    refine ⟨p3, rfl, ⟨_, SqL.of e4⟩, ?_⟩
    refine lp_list (xs := ((0 : Int) :: ms).map V.int) (fun _ σ' H' => ∃ u2 u3 u4 u5 u6 u7, σ' = [some (.ref c), some (.ref a), u2, u3, u4, u5, u6, u7] ∧ Stm H' a ∧ But a H4 H') ⟨_, _, _, _, _, _, rfl, W4.st rfl, But.refl a H4⟩ (fun i σ' H' hi hP => ?_) (fun i x σ' H5 hx hP => ?_) (fun σ' H5 hP => ?_)
    · obtain ⟨u2, u3, u4, u5, u6, u7, _, _, bb⟩ := hP
      exact SqL.of (bb _ _ n4 e4)
    · obtain ⟨u2, u3, u4, u5, u6, u7, rfl, st5, b5⟩ := hP
      obtain ⟨z, rfl⟩ : ∃ z, x = .int z := by
        rw [List.getElem?_map] at hx
        cases e : ((0 : Int) :: ms)[i]? with
        | none => rw [e] at hx; cases hx
        | some z => rw [e] at hx; cases hx; exact ⟨z, rfl⟩
      have W5 := wd_startS st5 .nil
      walk_at "w"
      rename_i H6 d W6 d0 d1 H7 n W7 hn
      refine w_lc ?_
      walk_at "w"
      rename_i H8 e W8 e0 e1
      obtain ⟨cc, sC⟩ := (W8.st rfl).cs
      refine lc_I (n := (1 + e).toNat) (m := 26) sC (by omega) (fun x => rfl) (fun i H9 Q' hi b9 s9 hq => ?_) (fun H9 D ds nD b9 s9 ng e9 hl hds => ?_)
      · show tCall sp_take2 [] E0 (tCons (tVar 1) (tCons (tC (.int 26)) tNil)) [some (.ref c), some (.ref a), some (.int z), some (.int ((d + z) % 37)), some (.int n), u5, u6, some (.int (0 + (i : Int)))] H9 Q'
        walk_at "w"
        exact ⟨a, 26, cc, rfl, ⟨by decide, by decide +kernel⟩, s9, fun H' d' bb s' d0 d1 => hq d' H' bb s' d0 d1⟩
      · have W9 := W8.draw b9 s9.stm
        walk_at "w"
        refine ⟨⟨_, rfl⟩, ?_⟩
        refine w_lc ?_
        walk_at "w"
        refine ⟨D, rfl, ⟨_, SqL.of e9⟩, fun D2 nD2 => ?_⟩
        have hle : ds.length ≤ 12 := by omega
        refine lc_list (a := D) (xs := ds.map V.int) (fun i H' => Same H9 H' ∧ ∃ ys : List Str, H' D2 = some (.lst (ys.map V.str)) ∧ ys.length = i ∧ ∀ y ∈ ys, PyData.strOk y = true ∧ y.length = 1) ⟨same_new nD2, [], upd_same, rfl, fun y hy => absurd hy (by simp)⟩ (fun i H' hi hP => SqL.of (hP.1 _ _ e9)) (fun i x H' hx hP => ?_) (fun H' hP => ?_)
        · obtain ⟨s10, ys, e10, l10, ok10⟩ := hP
          obtain ⟨x0, hx0, rfl⟩ : ∃ x0 ∈ ds, x = .int x0 := by
            rw [List.getElem?_map] at hx
            cases e : ds[i]? with
            | none => rw [e] at hx; cases hx
            | some z => rw [e] at hx; cases hx; exact ⟨z, List.mem_of_getElem? e, rfl⟩
          have hi : i < ds.length := by
            have := (List.getElem?_eq_some_iff.mp hx).1
            rwa [List.length_map] at this
          obtain ⟨ch, h1, h2⟩ := alph (hds x0 hx0).1 (hds x0 hx0).2
          refine ⟨rfl, lcYes ?_⟩
          show tOp rIxS (tC (.str "abcdefghijklmnopqrstuvwxyz")) (tVar 7) [some (.ref c), some (.ref a), some (.int z), some (.int ((d + z) % 37)), some (.int n), some (.ref D), u6, some (.int x0)] H' _
          walk_at "w"
          refine ⟨_, x0, ch, rfl, rfl, Nat.le_of_lt (small1000 (by decide +kernel)), h1, ?_⟩
          refine ⟨_, e10, by rw [List.length_map, l10]; exact small1000 (by omega), same_updN s10 nD2, ys ++ [⟨#[ch]⟩], by rw [upd_same, List.map_append]; rfl, by rw [List.length_append, l10]; rfl, fun y hy => ?_⟩
          rcases List.mem_append.mp hy with hy | hy
          · exact ok10 y hy
          · rw [List.mem_singleton.mp hy]
            exact ⟨by show (#[ch] : Array Nat).all _ = true; simp; exact h2, rfl⟩
        · obtain ⟨s10, ys, e10, l10, ok10⟩ := hP
          rw [List.length_map] at l10
          have W10 := W9.go s10
          refine ⟨_, D2, ys, rfl, rfl, .inl (SqL.of e10), ?_, ?_⟩
          · rw [sum_ones fun y hy => (ok10 y hy).2, l10, show (Str.ofString "").length = 0 from by decide +kernel]
            omega
          have okw := ok_join (z := Str.ofString "") (by decide +kernel) fun y hy => (ok10 y hy).1
          generalize Txt.join (Str.ofString "") ys = wd at okw
          obtain ⟨kn, hkn⟩ := Int.eq_ofNat_of_zero_le (Int.emod_nonneg (d + z) (show (37 : Int) ≠ 0 by decide))
          have hk37 : kn < 37 := by
            have := Int.emod_lt_of_pos (d + z) (show (0 : Int) < 37 by decide)
            omega
          walk_at "w"
          refine call_P (ds := [.int ((d + z) % 37), .str wd, .int n]) W10 (.cons (.int _) (.cons (.str _) (.cons (.int _) .nil))) ⟨kn, wd, n, by rw [hkn], hk37, okw⟩ fun H11 => v_bl fun W11 => ?_
          walk_at "w"
          exact ⟨_, _, _, _, _, _, rfl, W11.st rfl, b5.trans W11.but⟩
    · obtain ⟨u2, u3, u4, u5, u6, u7, rfl, _⟩ := hP
      walk_at "w"
      exact q _
end

theorem facts {l : PySem.W.OpenLaw} {w : World} {K : PySem.W.Frag} {h : Heap} {mg : Str → Option Value} {fa : Addr} (X : K.In h) (G : h.Ns mainGlobals mg) (hfa : mg "law" = some (.ref fa)) (c : He.SaysD faL fnL K) (ck : ckK K = true) :
    ∃ fd : FuncData, (∀ (s : Shared) (v : Value), BindsTo s fd ⟨[v], []⟩ [("script", v)]) ∧ ∀ base : Heap, K.In base → base.Ns mainGlobals mg → FnOk l.prog w K mg base CX0 6 fa fd ["script"] (sp_law K) := by
  unfold ckK at ck
  simp only [Bool.and_eq_true, decide_eq_true_eq, and_true] at ck
  obtain ⟨ck_own, ck_FoldError, ck_all, n_NoFraction, n_NoPoint, n_NoPlate, n_BadCorners, n_BadPlates, n_BadSheet, n_TooMany, n_NoCorner, n_NoCrease, n_NoNumbers, n_NoStand, n_BadChoice, n_BadSpaces, n_NoPlacing, n_Shut, n_NoSpot, n_BadNumber, n_NoPolynomial, n_BadLot, n_BadBook, n_BadTold, n_NoFit, n_BadPrices, n_BadHeld, n_NotHeld, n_BadSeam, n_BadTable, n_BadWish, n_BadLengths, n_NoSlit, n_NoPart, n_BadText, n_NoTree, n_LiesOver, n_NoUndo, n_BadTries, n_FoldError⟩ := ck
  have g_law_mixed := He.glo_ok X G (c.fact 0 (f := .glo "_law_mixed") rfl)
  have g_law_great := He.glo_ok X G (c.fact 1 (f := .glo "_law_great") rfl)
  have g_law_stream := He.glo_ok X G (c.fact 2 (f := .glo "_law_stream") rfl)
  have g_law_take := He.glo_ok X G (c.fact 3 (f := .glo "_law_take") rfl)
  have g_law_whole := He.glo_ok X G (c.fact 4 (f := .glo "_law_whole") rfl)
  have g_law_raise_early := He.glo_ok X G (c.fact 5 (f := .glo "_law_raise_early") rfl)
  have g_law_raise_late := He.glo_ok X G (c.fact 6 (f := .glo "_law_raise_late") rfl)
  have g_law_raise := He.glo_ok X G (c.fact 7 (f := .glo "_law_raise") rfl)
  have g_law_classes := He.glo_ok X G (c.fact 8 (f := .glo "_law_classes") rfl)
  have g_law_fields := He.glo_ok X G (c.fact 9 (f := .glo "_law_fields") rfl)
  have g_law_due := He.glo_ok X G (c.fact 10 (f := .glo "_law_due") rfl)
  have g_law_asked := He.glo_ok X G (c.fact 11 (f := .glo "_law_asked") rfl)
  have g_law := He.glo_ok X G (c.fact 12 (f := .glo "law") rfl)
  have g_C_NoFraction := PySem.W.mg_of X G n_NoFraction
  have g_C_NoPoint := PySem.W.mg_of X G n_NoPoint
  have g_C_NoPlate := PySem.W.mg_of X G n_NoPlate
  have g_C_BadCorners := PySem.W.mg_of X G n_BadCorners
  have g_C_BadPlates := PySem.W.mg_of X G n_BadPlates
  have g_C_BadSheet := PySem.W.mg_of X G n_BadSheet
  have g_C_TooMany := PySem.W.mg_of X G n_TooMany
  have g_C_NoCorner := PySem.W.mg_of X G n_NoCorner
  have g_C_NoCrease := PySem.W.mg_of X G n_NoCrease
  have g_C_NoNumbers := PySem.W.mg_of X G n_NoNumbers
  have g_C_NoStand := PySem.W.mg_of X G n_NoStand
  have g_C_BadChoice := PySem.W.mg_of X G n_BadChoice
  have g_C_BadSpaces := PySem.W.mg_of X G n_BadSpaces
  have g_C_NoPlacing := PySem.W.mg_of X G n_NoPlacing
  have g_C_Shut := PySem.W.mg_of X G n_Shut
  have g_C_NoSpot := PySem.W.mg_of X G n_NoSpot
  have g_C_BadNumber := PySem.W.mg_of X G n_BadNumber
  have g_C_NoPolynomial := PySem.W.mg_of X G n_NoPolynomial
  have g_C_BadLot := PySem.W.mg_of X G n_BadLot
  have g_C_BadBook := PySem.W.mg_of X G n_BadBook
  have g_C_BadTold := PySem.W.mg_of X G n_BadTold
  have g_C_NoFit := PySem.W.mg_of X G n_NoFit
  have g_C_BadPrices := PySem.W.mg_of X G n_BadPrices
  have g_C_BadHeld := PySem.W.mg_of X G n_BadHeld
  have g_C_NotHeld := PySem.W.mg_of X G n_NotHeld
  have g_C_BadSeam := PySem.W.mg_of X G n_BadSeam
  have g_C_BadTable := PySem.W.mg_of X G n_BadTable
  have g_C_BadWish := PySem.W.mg_of X G n_BadWish
  have g_C_BadLengths := PySem.W.mg_of X G n_BadLengths
  have g_C_NoSlit := PySem.W.mg_of X G n_NoSlit
  have g_C_NoPart := PySem.W.mg_of X G n_NoPart
  have g_C_BadText := PySem.W.mg_of X G n_BadText
  have g_C_NoTree := PySem.W.mg_of X G n_NoTree
  have g_C_LiesOver := PySem.W.mg_of X G n_LiesOver
  have g_C_NoUndo := PySem.W.mg_of X G n_NoUndo
  have g_C_BadTries := PySem.W.mg_of X G n_BadTries
  have g_C_FoldError := PySem.W.mg_of X G n_FoldError
  have e := hfa.symm.trans g_law
  cases e
  have nb : Nb mg := { int := He.free_ok X G (c.fact 13 (f := .free "int") rfl), bool := He.free_ok X G (c.fact 14 (f := .free "bool") rfl), tuple := He.free_ok X G (c.fact 15 (f := .free "tuple") rfl), list := He.free_ok X G (c.fact 16 (f := .free "list") rfl), len := He.free_ok X G (c.fact 17 (f := .free "len") rfl), abs := He.free_ok X G (c.fact 18 (f := .free "abs") rfl), min := He.free_ok X G (c.fact 19 (f := .free "min") rfl), max := He.free_ok X G (c.fact 20 (f := .free "max") rfl), range := He.free_ok X G (c.fact 21 (f := .free "range") rfl), isinstance := He.free_ok X G (c.fact 22 (f := .free "isinstance") rfl) }
  have nVE := He.free_ok X G (c.fact 23 (f := .free "ValueError") rfl)
  obtain ⟨fd_law_mixed, D_law_mixed⟩ := c.def_ 0 (d := dd_law_mixed) rfl
  have F_law_mixed := fun_ofD (st := s_law_mixed) D_law_mixed
  have b_law_mixed := F_law_mixed.binds (ps := ["cell", "k"]) fun _ _ _ _ _ _ us hl => match us, hl with | [_, _], _ => rfl
  obtain ⟨fd_law_great, D_law_great⟩ := c.def_ 1 (d := dd_law_great) rfl
  have F_law_great := fun_ofD (st := s_law_great) D_law_great
  have b_law_great := F_law_great.binds (ps := ["cells", "place"]) fun _ _ _ _ _ _ us hl => match us, hl with | [_, _], _ => rfl
  obtain ⟨fd_law_stream, D_law_stream⟩ := c.def_ 2 (d := dd_law_stream) rfl
  have F_law_stream := fun_ofD (st := s_law_stream) D_law_stream
  have b_law_stream := F_law_stream.binds (ps := ["script"]) fun _ _ _ _ _ _ us hl => match us, hl with | [_], _ => rfl
  obtain ⟨fd_law_take, D_law_take⟩ := c.def_ 3 (d := dd_law_take) rfl
  have F_law_take := fun_ofD (st := s_law_take) D_law_take
  have b_law_take := F_law_take.binds (ps := ["stream", "many"]) fun _ _ _ _ _ _ us hl => match us, hl with | [_, _], _ => rfl
  obtain ⟨fd_law_whole, D_law_whole⟩ := c.def_ 4 (d := dd_law_whole) rfl
  have F_law_whole := fun_ofD (st := s_law_whole) D_law_whole
  have b_law_whole := F_law_whole.binds (ps := ["stream"]) fun _ _ _ _ _ _ us hl => match us, hl with | [_], _ => rfl
  obtain ⟨fd_law_raise_early, D_law_raise_early⟩ := c.def_ 5 (d := dd_law_raise_early) rfl
  have F_law_raise_early := fun_ofD (st := s_law_raise_early) D_law_raise_early
  have b_law_raise_early := F_law_raise_early.binds (ps := ["k", "word", "number"]) fun _ _ _ _ _ _ us hl => match us, hl with | [_, _, _], _ => rfl
  obtain ⟨fd_law_raise_late, D_law_raise_late⟩ := c.def_ 6 (d := dd_law_raise_late) rfl
  have F_law_raise_late := fun_ofD (st := s_law_raise_late) D_law_raise_late
  have b_law_raise_late := F_law_raise_late.binds (ps := ["k", "word", "number"]) fun _ _ _ _ _ _ us hl => match us, hl with | [_, _, _], _ => rfl
  obtain ⟨fd_law_raise, D_law_raise⟩ := c.def_ 7 (d := dd_law_raise) rfl
  have F_law_raise := fun_ofD (st := s_law_raise) D_law_raise
  have b_law_raise := F_law_raise.binds (ps := ["k", "word", "number"]) fun _ _ _ _ _ _ us hl => match us, hl with | [_, _, _], _ => rfl
  obtain ⟨fd_law_classes, D_law_classes⟩ := c.def_ 8 (d := dd_law_classes) rfl
  have F_law_classes := fun_ofD (st := s_law_classes) D_law_classes
  have b_law_classes := F_law_classes.binds (ps := ["e"]) fun _ _ _ _ _ _ us hl => match us, hl with | [_], _ => rfl
  obtain ⟨fd_law_fields, D_law_fields⟩ := c.def_ 9 (d := dd_law_fields) rfl
  have F_law_fields := fun_ofD (st := s_law_fields) D_law_fields
  have b_law_fields := F_law_fields.binds (ps := ["k", "e"]) fun _ _ _ _ _ _ us hl => match us, hl with | [_, _], _ => rfl
  obtain ⟨fd_law_due, D_law_due⟩ := c.def_ 10 (d := dd_law_due) rfl
  have F_law_due := fun_ofD (st := s_law_due) D_law_due
  have b_law_due := F_law_due.binds (ps := ["k", "word", "number"]) fun _ _ _ _ _ _ us hl => match us, hl with | [_, _, _], _ => rfl
  obtain ⟨fd_law_asked, D_law_asked⟩ := c.def_ 11 (d := dd_law_asked) rfl
  have F_law_asked := fun_ofD (st := s_law_asked) D_law_asked
  have b_law_asked := F_law_asked.binds (ps := ["k", "word", "number"]) fun _ _ _ _ _ _ us hl => match us, hl with | [_, _, _], _ => rfl
  obtain ⟨fd_law, D_law⟩ := c.def_ 12 (d := dd_law) rfl
  have F_law := fun_ofD (st := s_law) D_law
  have b_law := F_law.binds (ps := ["script"]) fun _ _ _ _ _ _ us hl => match us, hl with | [_], _ => rfl
  have bl := FunD.bindsA (ps := ["script"]) D_law fun _ _ _ _ _ _ us hl => match us, hl with | [_], _ => rfl
  refine ⟨fd_law, fun s v => bl s [v] rfl, fun base _ _ => ?_⟩
  have S : Cls K LL := cls_of ck_all
  obtain ⟨fdi_NoFraction, Di_NoFraction⟩ := c.def_ 13 (d := di_NoFraction) rfl
  have q_NoFraction : He.fAd K ("NoFraction", some "__init__") = He.ma K 44 "__init__" := by
    show He.ma K (He.ga K "NoFraction") "__init__" = _
    rw [show He.ga K "NoFraction" = 44 from by unfold He.ga; rw [n_NoFraction]]
  have I_NoFraction : Fun K "__init__" "NoFraction.__init__" i0_NoFraction (He.ma K 44 "__init__") fdi_NoFraction := q_NoFraction ▸ fun_ofD (st := i0_NoFraction) Di_NoFraction
  have z_NoFraction := List.all_eq_true.mp ck_own 44 (by decide)
  have x_NoFraction := exB_ok (Bool.and_eq_true_iff.mp z_NoFraction).1
  have w_NoFraction := inB_ok (Bool.and_eq_true_iff.mp z_NoFraction).2
  have c_NoFraction : Ex0 l.prog w K mg base "NoFraction" 44 := ⟨x_NoFraction.1, g_C_NoFraction, x_NoFraction.2, ⟨_, fdi_NoFraction, w_NoFraction.1, w_NoFraction.2, okinit_NoFraction I_NoFraction, I_NoFraction.binds fun _ _ _ _ _ _ us hl => match us, hl with | [_], _ => rfl⟩⟩
  obtain ⟨fdi_NoPoint, Di_NoPoint⟩ := c.def_ 14 (d := di_NoPoint) rfl
  have q_NoPoint : He.fAd K ("NoPoint", some "__init__") = He.ma K 63 "__init__" := by
    show He.ma K (He.ga K "NoPoint") "__init__" = _
    rw [show He.ga K "NoPoint" = 63 from by unfold He.ga; rw [n_NoPoint]]
  have I_NoPoint : Fun K "__init__" "NoPoint.__init__" i0_NoPoint (He.ma K 63 "__init__") fdi_NoPoint := q_NoPoint ▸ fun_ofD (st := i0_NoPoint) Di_NoPoint
  have z_NoPoint := List.all_eq_true.mp ck_own 63 (by decide)
  have x_NoPoint := exB_ok (Bool.and_eq_true_iff.mp z_NoPoint).1
  have w_NoPoint := inB_ok (Bool.and_eq_true_iff.mp z_NoPoint).2
  have c_NoPoint : Ex0 l.prog w K mg base "NoPoint" 63 := ⟨x_NoPoint.1, g_C_NoPoint, x_NoPoint.2, ⟨_, fdi_NoPoint, w_NoPoint.1, w_NoPoint.2, okinit_NoPoint I_NoPoint, I_NoPoint.binds fun _ _ _ _ _ _ us hl => match us, hl with | [_], _ => rfl⟩⟩
  obtain ⟨fdi_NoPlate, Di_NoPlate⟩ := c.def_ 15 (d := di_NoPlate) rfl
  have q_NoPlate : He.fAd K ("NoPlate", some "__init__") = He.ma K 82 "__init__" := by
    show He.ma K (He.ga K "NoPlate") "__init__" = _
    rw [show He.ga K "NoPlate" = 82 from by unfold He.ga; rw [n_NoPlate]]
  have I_NoPlate : Fun K "__init__" "NoPlate.__init__" i0_NoPlate (He.ma K 82 "__init__") fdi_NoPlate := q_NoPlate ▸ fun_ofD (st := i0_NoPlate) Di_NoPlate
  have z_NoPlate := List.all_eq_true.mp ck_own 82 (by decide)
  have x_NoPlate := exB_ok (Bool.and_eq_true_iff.mp z_NoPlate).1
  have w_NoPlate := inB_ok (Bool.and_eq_true_iff.mp z_NoPlate).2
  have c_NoPlate : Ex0 l.prog w K mg base "NoPlate" 82 := ⟨x_NoPlate.1, g_C_NoPlate, x_NoPlate.2, ⟨_, fdi_NoPlate, w_NoPlate.1, w_NoPlate.2, okinit_NoPlate I_NoPlate, I_NoPlate.binds fun _ _ _ _ _ _ us hl => match us, hl with | [_], _ => rfl⟩⟩
  obtain ⟨fdi_BadCorners, Di_BadCorners⟩ := c.def_ 16 (d := di_BadCorners) rfl
  have q_BadCorners : He.fAd K ("BadCorners", some "__init__") = He.ma K 101 "__init__" := by
    show He.ma K (He.ga K "BadCorners") "__init__" = _
    rw [show He.ga K "BadCorners" = 101 from by unfold He.ga; rw [n_BadCorners]]
  have I_BadCorners : Fun K "__init__" "BadCorners.__init__" i0_BadCorners (He.ma K 101 "__init__") fdi_BadCorners := q_BadCorners ▸ fun_ofD (st := i0_BadCorners) Di_BadCorners
  have z_BadCorners := List.all_eq_true.mp ck_own 101 (by decide)
  have x_BadCorners := exB_ok (Bool.and_eq_true_iff.mp z_BadCorners).1
  have w_BadCorners := inB_ok (Bool.and_eq_true_iff.mp z_BadCorners).2
  have c_BadCorners : ExF l.prog w K mg base "BadCorners" 101 ["self", "at"] (sp_ini1 K 101 "at") := ⟨x_BadCorners.1, g_C_BadCorners, ⟨_, fdi_BadCorners, w_BadCorners.1, w_BadCorners.2, okinit_BadCorners I_BadCorners, I_BadCorners.binds fun _ _ _ _ _ _ us hl => match us, hl with | [_, _], _ => rfl⟩⟩
  obtain ⟨fdi_BadPlates, Di_BadPlates⟩ := c.def_ 17 (d := di_BadPlates) rfl
  have q_BadPlates : He.fAd K ("BadPlates", some "__init__") = He.ma K 120 "__init__" := by
    show He.ma K (He.ga K "BadPlates") "__init__" = _
    rw [show He.ga K "BadPlates" = 120 from by unfold He.ga; rw [n_BadPlates]]
  have I_BadPlates : Fun K "__init__" "BadPlates.__init__" i0_BadPlates (He.ma K 120 "__init__") fdi_BadPlates := q_BadPlates ▸ fun_ofD (st := i0_BadPlates) Di_BadPlates
  have z_BadPlates := List.all_eq_true.mp ck_own 120 (by decide)
  have x_BadPlates := exB_ok (Bool.and_eq_true_iff.mp z_BadPlates).1
  have w_BadPlates := inB_ok (Bool.and_eq_true_iff.mp z_BadPlates).2
  have c_BadPlates : ExF l.prog w K mg base "BadPlates" 120 ["self", "at"] (sp_ini1 K 120 "at") := ⟨x_BadPlates.1, g_C_BadPlates, ⟨_, fdi_BadPlates, w_BadPlates.1, w_BadPlates.2, okinit_BadPlates I_BadPlates, I_BadPlates.binds fun _ _ _ _ _ _ us hl => match us, hl with | [_, _], _ => rfl⟩⟩
  obtain ⟨fdi_BadSheet, Di_BadSheet⟩ := c.def_ 18 (d := di_BadSheet) rfl
  have q_BadSheet : He.fAd K ("BadSheet", some "__init__") = He.ma K 139 "__init__" := by
    show He.ma K (He.ga K "BadSheet") "__init__" = _
    rw [show He.ga K "BadSheet" = 139 from by unfold He.ga; rw [n_BadSheet]]
  have I_BadSheet : Fun K "__init__" "BadSheet.__init__" i0_BadSheet (He.ma K 139 "__init__") fdi_BadSheet := q_BadSheet ▸ fun_ofD (st := i0_BadSheet) Di_BadSheet
  have z_BadSheet := List.all_eq_true.mp ck_own 139 (by decide)
  have x_BadSheet := exB_ok (Bool.and_eq_true_iff.mp z_BadSheet).1
  have w_BadSheet := inB_ok (Bool.and_eq_true_iff.mp z_BadSheet).2
  have c_BadSheet : ExF l.prog w K mg base "BadSheet" 139 ["self", "word", "at"] (sp_ini2 K 139 "word" "at") := ⟨x_BadSheet.1, g_C_BadSheet, ⟨_, fdi_BadSheet, w_BadSheet.1, w_BadSheet.2, okinit_BadSheet I_BadSheet, I_BadSheet.binds fun _ _ _ _ _ _ us hl => match us, hl with | [_, _, _], _ => rfl⟩⟩
  obtain ⟨fdi_TooMany, Di_TooMany⟩ := c.def_ 19 (d := di_TooMany) rfl
  have q_TooMany : He.fAd K ("TooMany", some "__init__") = He.ma K 158 "__init__" := by
    show He.ma K (He.ga K "TooMany") "__init__" = _
    rw [show He.ga K "TooMany" = 158 from by unfold He.ga; rw [n_TooMany]]
  have I_TooMany : Fun K "__init__" "TooMany.__init__" i0_TooMany (He.ma K 158 "__init__") fdi_TooMany := q_TooMany ▸ fun_ofD (st := i0_TooMany) Di_TooMany
  have z_TooMany := List.all_eq_true.mp ck_own 158 (by decide)
  have x_TooMany := exB_ok (Bool.and_eq_true_iff.mp z_TooMany).1
  have w_TooMany := inB_ok (Bool.and_eq_true_iff.mp z_TooMany).2
  have c_TooMany : ExF l.prog w K mg base "TooMany" 158 ["self", "most"] (sp_ini1 K 158 "most") := ⟨x_TooMany.1, g_C_TooMany, ⟨_, fdi_TooMany, w_TooMany.1, w_TooMany.2, okinit_TooMany I_TooMany, I_TooMany.binds fun _ _ _ _ _ _ us hl => match us, hl with | [_, _], _ => rfl⟩⟩
  obtain ⟨fdi_NoCorner, Di_NoCorner⟩ := c.def_ 20 (d := di_NoCorner) rfl
  have q_NoCorner : He.fAd K ("NoCorner", some "__init__") = He.ma K 177 "__init__" := by
    show He.ma K (He.ga K "NoCorner") "__init__" = _
    rw [show He.ga K "NoCorner" = 177 from by unfold He.ga; rw [n_NoCorner]]
  have I_NoCorner : Fun K "__init__" "NoCorner.__init__" i0_NoCorner (He.ma K 177 "__init__") fdi_NoCorner := q_NoCorner ▸ fun_ofD (st := i0_NoCorner) Di_NoCorner
  have z_NoCorner := List.all_eq_true.mp ck_own 177 (by decide)
  have x_NoCorner := exB_ok (Bool.and_eq_true_iff.mp z_NoCorner).1
  have w_NoCorner := inB_ok (Bool.and_eq_true_iff.mp z_NoCorner).2
  have c_NoCorner : Ex0 l.prog w K mg base "NoCorner" 177 := ⟨x_NoCorner.1, g_C_NoCorner, x_NoCorner.2, ⟨_, fdi_NoCorner, w_NoCorner.1, w_NoCorner.2, okinit_NoCorner I_NoCorner, I_NoCorner.binds fun _ _ _ _ _ _ us hl => match us, hl with | [_], _ => rfl⟩⟩
  obtain ⟨fdi_NoCrease, Di_NoCrease⟩ := c.def_ 21 (d := di_NoCrease) rfl
  have q_NoCrease : He.fAd K ("NoCrease", some "__init__") = He.ma K 196 "__init__" := by
    show He.ma K (He.ga K "NoCrease") "__init__" = _
    rw [show He.ga K "NoCrease" = 196 from by unfold He.ga; rw [n_NoCrease]]
  have I_NoCrease : Fun K "__init__" "NoCrease.__init__" i0_NoCrease (He.ma K 196 "__init__") fdi_NoCrease := q_NoCrease ▸ fun_ofD (st := i0_NoCrease) Di_NoCrease
  have z_NoCrease := List.all_eq_true.mp ck_own 196 (by decide)
  have x_NoCrease := exB_ok (Bool.and_eq_true_iff.mp z_NoCrease).1
  have w_NoCrease := inB_ok (Bool.and_eq_true_iff.mp z_NoCrease).2
  have c_NoCrease : Ex0 l.prog w K mg base "NoCrease" 196 := ⟨x_NoCrease.1, g_C_NoCrease, x_NoCrease.2, ⟨_, fdi_NoCrease, w_NoCrease.1, w_NoCrease.2, okinit_NoCrease I_NoCrease, I_NoCrease.binds fun _ _ _ _ _ _ us hl => match us, hl with | [_], _ => rfl⟩⟩
  obtain ⟨fdi_NoNumbers, Di_NoNumbers⟩ := c.def_ 22 (d := di_NoNumbers) rfl
  have q_NoNumbers : He.fAd K ("NoNumbers", some "__init__") = He.ma K 215 "__init__" := by
    show He.ma K (He.ga K "NoNumbers") "__init__" = _
    rw [show He.ga K "NoNumbers" = 215 from by unfold He.ga; rw [n_NoNumbers]]
  have I_NoNumbers : Fun K "__init__" "NoNumbers.__init__" i0_NoNumbers (He.ma K 215 "__init__") fdi_NoNumbers := q_NoNumbers ▸ fun_ofD (st := i0_NoNumbers) Di_NoNumbers
  have z_NoNumbers := List.all_eq_true.mp ck_own 215 (by decide)
  have x_NoNumbers := exB_ok (Bool.and_eq_true_iff.mp z_NoNumbers).1
  have w_NoNumbers := inB_ok (Bool.and_eq_true_iff.mp z_NoNumbers).2
  have c_NoNumbers : Ex0 l.prog w K mg base "NoNumbers" 215 := ⟨x_NoNumbers.1, g_C_NoNumbers, x_NoNumbers.2, ⟨_, fdi_NoNumbers, w_NoNumbers.1, w_NoNumbers.2, okinit_NoNumbers I_NoNumbers, I_NoNumbers.binds fun _ _ _ _ _ _ us hl => match us, hl with | [_], _ => rfl⟩⟩
  obtain ⟨fdi_NoStand, Di_NoStand⟩ := c.def_ 23 (d := di_NoStand) rfl
  have q_NoStand : He.fAd K ("NoStand", some "__init__") = He.ma K 234 "__init__" := by
    show He.ma K (He.ga K "NoStand") "__init__" = _
    rw [show He.ga K "NoStand" = 234 from by unfold He.ga; rw [n_NoStand]]
  have I_NoStand : Fun K "__init__" "NoStand.__init__" i0_NoStand (He.ma K 234 "__init__") fdi_NoStand := q_NoStand ▸ fun_ofD (st := i0_NoStand) Di_NoStand
  have z_NoStand := List.all_eq_true.mp ck_own 234 (by decide)
  have x_NoStand := exB_ok (Bool.and_eq_true_iff.mp z_NoStand).1
  have w_NoStand := inB_ok (Bool.and_eq_true_iff.mp z_NoStand).2
  have c_NoStand : Ex0 l.prog w K mg base "NoStand" 234 := ⟨x_NoStand.1, g_C_NoStand, x_NoStand.2, ⟨_, fdi_NoStand, w_NoStand.1, w_NoStand.2, okinit_NoStand I_NoStand, I_NoStand.binds fun _ _ _ _ _ _ us hl => match us, hl with | [_], _ => rfl⟩⟩
  obtain ⟨fdi_BadChoice, Di_BadChoice⟩ := c.def_ 24 (d := di_BadChoice) rfl
  have q_BadChoice : He.fAd K ("BadChoice", some "__init__") = He.ma K 253 "__init__" := by
    show He.ma K (He.ga K "BadChoice") "__init__" = _
    rw [show He.ga K "BadChoice" = 253 from by unfold He.ga; rw [n_BadChoice]]
  have I_BadChoice : Fun K "__init__" "BadChoice.__init__" i0_BadChoice (He.ma K 253 "__init__") fdi_BadChoice := q_BadChoice ▸ fun_ofD (st := i0_BadChoice) Di_BadChoice
  have z_BadChoice := List.all_eq_true.mp ck_own 253 (by decide)
  have x_BadChoice := exB_ok (Bool.and_eq_true_iff.mp z_BadChoice).1
  have w_BadChoice := inB_ok (Bool.and_eq_true_iff.mp z_BadChoice).2
  have c_BadChoice : Ex0 l.prog w K mg base "BadChoice" 253 := ⟨x_BadChoice.1, g_C_BadChoice, x_BadChoice.2, ⟨_, fdi_BadChoice, w_BadChoice.1, w_BadChoice.2, okinit_BadChoice I_BadChoice, I_BadChoice.binds fun _ _ _ _ _ _ us hl => match us, hl with | [_], _ => rfl⟩⟩
  obtain ⟨fdi_BadSpaces, Di_BadSpaces⟩ := c.def_ 25 (d := di_BadSpaces) rfl
  have q_BadSpaces : He.fAd K ("BadSpaces", some "__init__") = He.ma K 272 "__init__" := by
    show He.ma K (He.ga K "BadSpaces") "__init__" = _
    rw [show He.ga K "BadSpaces" = 272 from by unfold He.ga; rw [n_BadSpaces]]
  have I_BadSpaces : Fun K "__init__" "BadSpaces.__init__" i0_BadSpaces (He.ma K 272 "__init__") fdi_BadSpaces := q_BadSpaces ▸ fun_ofD (st := i0_BadSpaces) Di_BadSpaces
  have z_BadSpaces := List.all_eq_true.mp ck_own 272 (by decide)
  have x_BadSpaces := exB_ok (Bool.and_eq_true_iff.mp z_BadSpaces).1
  have w_BadSpaces := inB_ok (Bool.and_eq_true_iff.mp z_BadSpaces).2
  have c_BadSpaces : ExF l.prog w K mg base "BadSpaces" 272 ["self", "at"] (sp_ini1 K 272 "at") := ⟨x_BadSpaces.1, g_C_BadSpaces, ⟨_, fdi_BadSpaces, w_BadSpaces.1, w_BadSpaces.2, okinit_BadSpaces I_BadSpaces, I_BadSpaces.binds fun _ _ _ _ _ _ us hl => match us, hl with | [_, _], _ => rfl⟩⟩
  obtain ⟨fdi_NoPlacing, Di_NoPlacing⟩ := c.def_ 26 (d := di_NoPlacing) rfl
  have q_NoPlacing : He.fAd K ("NoPlacing", some "__init__") = He.ma K 291 "__init__" := by
    show He.ma K (He.ga K "NoPlacing") "__init__" = _
    rw [show He.ga K "NoPlacing" = 291 from by unfold He.ga; rw [n_NoPlacing]]
  have I_NoPlacing : Fun K "__init__" "NoPlacing.__init__" i0_NoPlacing (He.ma K 291 "__init__") fdi_NoPlacing := q_NoPlacing ▸ fun_ofD (st := i0_NoPlacing) Di_NoPlacing
  have z_NoPlacing := List.all_eq_true.mp ck_own 291 (by decide)
  have x_NoPlacing := exB_ok (Bool.and_eq_true_iff.mp z_NoPlacing).1
  have w_NoPlacing := inB_ok (Bool.and_eq_true_iff.mp z_NoPlacing).2
  have c_NoPlacing : Ex0 l.prog w K mg base "NoPlacing" 291 := ⟨x_NoPlacing.1, g_C_NoPlacing, x_NoPlacing.2, ⟨_, fdi_NoPlacing, w_NoPlacing.1, w_NoPlacing.2, okinit_NoPlacing I_NoPlacing, I_NoPlacing.binds fun _ _ _ _ _ _ us hl => match us, hl with | [_], _ => rfl⟩⟩
  obtain ⟨fdi_Shut, Di_Shut⟩ := c.def_ 27 (d := di_Shut) rfl
  have q_Shut : He.fAd K ("Shut", some "__init__") = He.ma K 310 "__init__" := by
    show He.ma K (He.ga K "Shut") "__init__" = _
    rw [show He.ga K "Shut" = 310 from by unfold He.ga; rw [n_Shut]]
  have I_Shut : Fun K "__init__" "Shut.__init__" i0_Shut (He.ma K 310 "__init__") fdi_Shut := q_Shut ▸ fun_ofD (st := i0_Shut) Di_Shut
  have z_Shut := List.all_eq_true.mp ck_own 310 (by decide)
  have x_Shut := exB_ok (Bool.and_eq_true_iff.mp z_Shut).1
  have w_Shut := inB_ok (Bool.and_eq_true_iff.mp z_Shut).2
  have c_Shut : ExF l.prog w K mg base "Shut" 310 ["self", "crease"] (sp_ini1 K 310 "crease") := ⟨x_Shut.1, g_C_Shut, ⟨_, fdi_Shut, w_Shut.1, w_Shut.2, okinit_Shut I_Shut, I_Shut.binds fun _ _ _ _ _ _ us hl => match us, hl with | [_, _], _ => rfl⟩⟩
  obtain ⟨fdi_NoSpot, Di_NoSpot⟩ := c.def_ 28 (d := di_NoSpot) rfl
  have q_NoSpot : He.fAd K ("NoSpot", some "__init__") = He.ma K 329 "__init__" := by
    show He.ma K (He.ga K "NoSpot") "__init__" = _
    rw [show He.ga K "NoSpot" = 329 from by unfold He.ga; rw [n_NoSpot]]
  have I_NoSpot : Fun K "__init__" "NoSpot.__init__" i0_NoSpot (He.ma K 329 "__init__") fdi_NoSpot := q_NoSpot ▸ fun_ofD (st := i0_NoSpot) Di_NoSpot
  have z_NoSpot := List.all_eq_true.mp ck_own 329 (by decide)
  have x_NoSpot := exB_ok (Bool.and_eq_true_iff.mp z_NoSpot).1
  have w_NoSpot := inB_ok (Bool.and_eq_true_iff.mp z_NoSpot).2
  have c_NoSpot : Ex0 l.prog w K mg base "NoSpot" 329 := ⟨x_NoSpot.1, g_C_NoSpot, x_NoSpot.2, ⟨_, fdi_NoSpot, w_NoSpot.1, w_NoSpot.2, okinit_NoSpot I_NoSpot, I_NoSpot.binds fun _ _ _ _ _ _ us hl => match us, hl with | [_], _ => rfl⟩⟩
  obtain ⟨fdi_BadNumber, Di_BadNumber⟩ := c.def_ 29 (d := di_BadNumber) rfl
  have q_BadNumber : He.fAd K ("BadNumber", some "__init__") = He.ma K 348 "__init__" := by
    show He.ma K (He.ga K "BadNumber") "__init__" = _
    rw [show He.ga K "BadNumber" = 348 from by unfold He.ga; rw [n_BadNumber]]
  have I_BadNumber : Fun K "__init__" "BadNumber.__init__" i0_BadNumber (He.ma K 348 "__init__") fdi_BadNumber := q_BadNumber ▸ fun_ofD (st := i0_BadNumber) Di_BadNumber
  have z_BadNumber := List.all_eq_true.mp ck_own 348 (by decide)
  have x_BadNumber := exB_ok (Bool.and_eq_true_iff.mp z_BadNumber).1
  have w_BadNumber := inB_ok (Bool.and_eq_true_iff.mp z_BadNumber).2
  have c_BadNumber : ExF l.prog w K mg base "BadNumber" 348 ["self", "word"] (sp_ini1 K 348 "word") := ⟨x_BadNumber.1, g_C_BadNumber, ⟨_, fdi_BadNumber, w_BadNumber.1, w_BadNumber.2, okinit_BadNumber I_BadNumber, I_BadNumber.binds fun _ _ _ _ _ _ us hl => match us, hl with | [_, _], _ => rfl⟩⟩
  obtain ⟨fdi_NoPolynomial, Di_NoPolynomial⟩ := c.def_ 30 (d := di_NoPolynomial) rfl
  have q_NoPolynomial : He.fAd K ("NoPolynomial", some "__init__") = He.ma K 367 "__init__" := by
    show He.ma K (He.ga K "NoPolynomial") "__init__" = _
    rw [show He.ga K "NoPolynomial" = 367 from by unfold He.ga; rw [n_NoPolynomial]]
  have I_NoPolynomial : Fun K "__init__" "NoPolynomial.__init__" i0_NoPolynomial (He.ma K 367 "__init__") fdi_NoPolynomial := q_NoPolynomial ▸ fun_ofD (st := i0_NoPolynomial) Di_NoPolynomial
  have z_NoPolynomial := List.all_eq_true.mp ck_own 367 (by decide)
  have x_NoPolynomial := exB_ok (Bool.and_eq_true_iff.mp z_NoPolynomial).1
  have w_NoPolynomial := inB_ok (Bool.and_eq_true_iff.mp z_NoPolynomial).2
  have c_NoPolynomial : Ex0 l.prog w K mg base "NoPolynomial" 367 := ⟨x_NoPolynomial.1, g_C_NoPolynomial, x_NoPolynomial.2, ⟨_, fdi_NoPolynomial, w_NoPolynomial.1, w_NoPolynomial.2, okinit_NoPolynomial I_NoPolynomial, I_NoPolynomial.binds fun _ _ _ _ _ _ us hl => match us, hl with | [_], _ => rfl⟩⟩
  obtain ⟨fdi_BadLot, Di_BadLot⟩ := c.def_ 31 (d := di_BadLot) rfl
  have q_BadLot : He.fAd K ("BadLot", some "__init__") = He.ma K 386 "__init__" := by
    show He.ma K (He.ga K "BadLot") "__init__" = _
    rw [show He.ga K "BadLot" = 386 from by unfold He.ga; rw [n_BadLot]]
  have I_BadLot : Fun K "__init__" "BadLot.__init__" i0_BadLot (He.ma K 386 "__init__") fdi_BadLot := q_BadLot ▸ fun_ofD (st := i0_BadLot) Di_BadLot
  have z_BadLot := List.all_eq_true.mp ck_own 386 (by decide)
  have x_BadLot := exB_ok (Bool.and_eq_true_iff.mp z_BadLot).1
  have w_BadLot := inB_ok (Bool.and_eq_true_iff.mp z_BadLot).2
  have c_BadLot : Ex0 l.prog w K mg base "BadLot" 386 := ⟨x_BadLot.1, g_C_BadLot, x_BadLot.2, ⟨_, fdi_BadLot, w_BadLot.1, w_BadLot.2, okinit_BadLot I_BadLot, I_BadLot.binds fun _ _ _ _ _ _ us hl => match us, hl with | [_], _ => rfl⟩⟩
  obtain ⟨fdi_BadBook, Di_BadBook⟩ := c.def_ 32 (d := di_BadBook) rfl
  have q_BadBook : He.fAd K ("BadBook", some "__init__") = He.ma K 405 "__init__" := by
    show He.ma K (He.ga K "BadBook") "__init__" = _
    rw [show He.ga K "BadBook" = 405 from by unfold He.ga; rw [n_BadBook]]
  have I_BadBook : Fun K "__init__" "BadBook.__init__" i0_BadBook (He.ma K 405 "__init__") fdi_BadBook := q_BadBook ▸ fun_ofD (st := i0_BadBook) Di_BadBook
  have z_BadBook := List.all_eq_true.mp ck_own 405 (by decide)
  have x_BadBook := exB_ok (Bool.and_eq_true_iff.mp z_BadBook).1
  have w_BadBook := inB_ok (Bool.and_eq_true_iff.mp z_BadBook).2
  have c_BadBook : Ex0 l.prog w K mg base "BadBook" 405 := ⟨x_BadBook.1, g_C_BadBook, x_BadBook.2, ⟨_, fdi_BadBook, w_BadBook.1, w_BadBook.2, okinit_BadBook I_BadBook, I_BadBook.binds fun _ _ _ _ _ _ us hl => match us, hl with | [_], _ => rfl⟩⟩
  obtain ⟨fdi_BadTold, Di_BadTold⟩ := c.def_ 33 (d := di_BadTold) rfl
  have q_BadTold : He.fAd K ("BadTold", some "__init__") = He.ma K 424 "__init__" := by
    show He.ma K (He.ga K "BadTold") "__init__" = _
    rw [show He.ga K "BadTold" = 424 from by unfold He.ga; rw [n_BadTold]]
  have I_BadTold : Fun K "__init__" "BadTold.__init__" i0_BadTold (He.ma K 424 "__init__") fdi_BadTold := q_BadTold ▸ fun_ofD (st := i0_BadTold) Di_BadTold
  have z_BadTold := List.all_eq_true.mp ck_own 424 (by decide)
  have x_BadTold := exB_ok (Bool.and_eq_true_iff.mp z_BadTold).1
  have w_BadTold := inB_ok (Bool.and_eq_true_iff.mp z_BadTold).2
  have c_BadTold : Ex0 l.prog w K mg base "BadTold" 424 := ⟨x_BadTold.1, g_C_BadTold, x_BadTold.2, ⟨_, fdi_BadTold, w_BadTold.1, w_BadTold.2, okinit_BadTold I_BadTold, I_BadTold.binds fun _ _ _ _ _ _ us hl => match us, hl with | [_], _ => rfl⟩⟩
  obtain ⟨fdi_NoFit, Di_NoFit⟩ := c.def_ 34 (d := di_NoFit) rfl
  have q_NoFit : He.fAd K ("NoFit", some "__init__") = He.ma K 443 "__init__" := by
    show He.ma K (He.ga K "NoFit") "__init__" = _
    rw [show He.ga K "NoFit" = 443 from by unfold He.ga; rw [n_NoFit]]
  have I_NoFit : Fun K "__init__" "NoFit.__init__" i0_NoFit (He.ma K 443 "__init__") fdi_NoFit := q_NoFit ▸ fun_ofD (st := i0_NoFit) Di_NoFit
  have z_NoFit := List.all_eq_true.mp ck_own 443 (by decide)
  have x_NoFit := exB_ok (Bool.and_eq_true_iff.mp z_NoFit).1
  have w_NoFit := inB_ok (Bool.and_eq_true_iff.mp z_NoFit).2
  have c_NoFit : Ex0 l.prog w K mg base "NoFit" 443 := ⟨x_NoFit.1, g_C_NoFit, x_NoFit.2, ⟨_, fdi_NoFit, w_NoFit.1, w_NoFit.2, okinit_NoFit I_NoFit, I_NoFit.binds fun _ _ _ _ _ _ us hl => match us, hl with | [_], _ => rfl⟩⟩
  obtain ⟨fdi_BadPrices, Di_BadPrices⟩ := c.def_ 35 (d := di_BadPrices) rfl
  have q_BadPrices : He.fAd K ("BadPrices", some "__init__") = He.ma K 462 "__init__" := by
    show He.ma K (He.ga K "BadPrices") "__init__" = _
    rw [show He.ga K "BadPrices" = 462 from by unfold He.ga; rw [n_BadPrices]]
  have I_BadPrices : Fun K "__init__" "BadPrices.__init__" i0_BadPrices (He.ma K 462 "__init__") fdi_BadPrices := q_BadPrices ▸ fun_ofD (st := i0_BadPrices) Di_BadPrices
  have z_BadPrices := List.all_eq_true.mp ck_own 462 (by decide)
  have x_BadPrices := exB_ok (Bool.and_eq_true_iff.mp z_BadPrices).1
  have w_BadPrices := inB_ok (Bool.and_eq_true_iff.mp z_BadPrices).2
  have c_BadPrices : Ex0 l.prog w K mg base "BadPrices" 462 := ⟨x_BadPrices.1, g_C_BadPrices, x_BadPrices.2, ⟨_, fdi_BadPrices, w_BadPrices.1, w_BadPrices.2, okinit_BadPrices I_BadPrices, I_BadPrices.binds fun _ _ _ _ _ _ us hl => match us, hl with | [_], _ => rfl⟩⟩
  obtain ⟨fdi_BadHeld, Di_BadHeld⟩ := c.def_ 36 (d := di_BadHeld) rfl
  have q_BadHeld : He.fAd K ("BadHeld", some "__init__") = He.ma K 481 "__init__" := by
    show He.ma K (He.ga K "BadHeld") "__init__" = _
    rw [show He.ga K "BadHeld" = 481 from by unfold He.ga; rw [n_BadHeld]]
  have I_BadHeld : Fun K "__init__" "BadHeld.__init__" i0_BadHeld (He.ma K 481 "__init__") fdi_BadHeld := q_BadHeld ▸ fun_ofD (st := i0_BadHeld) Di_BadHeld
  have z_BadHeld := List.all_eq_true.mp ck_own 481 (by decide)
  have x_BadHeld := exB_ok (Bool.and_eq_true_iff.mp z_BadHeld).1
  have w_BadHeld := inB_ok (Bool.and_eq_true_iff.mp z_BadHeld).2
  have c_BadHeld : Ex0 l.prog w K mg base "BadHeld" 481 := ⟨x_BadHeld.1, g_C_BadHeld, x_BadHeld.2, ⟨_, fdi_BadHeld, w_BadHeld.1, w_BadHeld.2, okinit_BadHeld I_BadHeld, I_BadHeld.binds fun _ _ _ _ _ _ us hl => match us, hl with | [_], _ => rfl⟩⟩
  obtain ⟨fdi_NotHeld, Di_NotHeld⟩ := c.def_ 37 (d := di_NotHeld) rfl
  have q_NotHeld : He.fAd K ("NotHeld", some "__init__") = He.ma K 500 "__init__" := by
    show He.ma K (He.ga K "NotHeld") "__init__" = _
    rw [show He.ga K "NotHeld" = 500 from by unfold He.ga; rw [n_NotHeld]]
  have I_NotHeld : Fun K "__init__" "NotHeld.__init__" i0_NotHeld (He.ma K 500 "__init__") fdi_NotHeld := q_NotHeld ▸ fun_ofD (st := i0_NotHeld) Di_NotHeld
  have z_NotHeld := List.all_eq_true.mp ck_own 500 (by decide)
  have x_NotHeld := exB_ok (Bool.and_eq_true_iff.mp z_NotHeld).1
  have w_NotHeld := inB_ok (Bool.and_eq_true_iff.mp z_NotHeld).2
  have c_NotHeld : ExF l.prog w K mg base "NotHeld" 500 ["self", "at"] (sp_ini1 K 500 "at") := ⟨x_NotHeld.1, g_C_NotHeld, ⟨_, fdi_NotHeld, w_NotHeld.1, w_NotHeld.2, okinit_NotHeld I_NotHeld, I_NotHeld.binds fun _ _ _ _ _ _ us hl => match us, hl with | [_, _], _ => rfl⟩⟩
  obtain ⟨fdi_BadSeam, Di_BadSeam⟩ := c.def_ 38 (d := di_BadSeam) rfl
  have q_BadSeam : He.fAd K ("BadSeam", some "__init__") = He.ma K 519 "__init__" := by
    show He.ma K (He.ga K "BadSeam") "__init__" = _
    rw [show He.ga K "BadSeam" = 519 from by unfold He.ga; rw [n_BadSeam]]
  have I_BadSeam : Fun K "__init__" "BadSeam.__init__" i0_BadSeam (He.ma K 519 "__init__") fdi_BadSeam := q_BadSeam ▸ fun_ofD (st := i0_BadSeam) Di_BadSeam
  have z_BadSeam := List.all_eq_true.mp ck_own 519 (by decide)
  have x_BadSeam := exB_ok (Bool.and_eq_true_iff.mp z_BadSeam).1
  have w_BadSeam := inB_ok (Bool.and_eq_true_iff.mp z_BadSeam).2
  have c_BadSeam : ExF l.prog w K mg base "BadSeam" 519 ["self", "word"] (sp_ini1 K 519 "word") := ⟨x_BadSeam.1, g_C_BadSeam, ⟨_, fdi_BadSeam, w_BadSeam.1, w_BadSeam.2, okinit_BadSeam I_BadSeam, I_BadSeam.binds fun _ _ _ _ _ _ us hl => match us, hl with | [_, _], _ => rfl⟩⟩
  obtain ⟨fdi_BadTable, Di_BadTable⟩ := c.def_ 39 (d := di_BadTable) rfl
  have q_BadTable : He.fAd K ("BadTable", some "__init__") = He.ma K 538 "__init__" := by
    show He.ma K (He.ga K "BadTable") "__init__" = _
    rw [show He.ga K "BadTable" = 538 from by unfold He.ga; rw [n_BadTable]]
  have I_BadTable : Fun K "__init__" "BadTable.__init__" i0_BadTable (He.ma K 538 "__init__") fdi_BadTable := q_BadTable ▸ fun_ofD (st := i0_BadTable) Di_BadTable
  have z_BadTable := List.all_eq_true.mp ck_own 538 (by decide)
  have x_BadTable := exB_ok (Bool.and_eq_true_iff.mp z_BadTable).1
  have w_BadTable := inB_ok (Bool.and_eq_true_iff.mp z_BadTable).2
  have c_BadTable : Ex0 l.prog w K mg base "BadTable" 538 := ⟨x_BadTable.1, g_C_BadTable, x_BadTable.2, ⟨_, fdi_BadTable, w_BadTable.1, w_BadTable.2, okinit_BadTable I_BadTable, I_BadTable.binds fun _ _ _ _ _ _ us hl => match us, hl with | [_], _ => rfl⟩⟩
  obtain ⟨fdi_BadWish, Di_BadWish⟩ := c.def_ 40 (d := di_BadWish) rfl
  have q_BadWish : He.fAd K ("BadWish", some "__init__") = He.ma K 557 "__init__" := by
    show He.ma K (He.ga K "BadWish") "__init__" = _
    rw [show He.ga K "BadWish" = 557 from by unfold He.ga; rw [n_BadWish]]
  have I_BadWish : Fun K "__init__" "BadWish.__init__" i0_BadWish (He.ma K 557 "__init__") fdi_BadWish := q_BadWish ▸ fun_ofD (st := i0_BadWish) Di_BadWish
  have z_BadWish := List.all_eq_true.mp ck_own 557 (by decide)
  have x_BadWish := exB_ok (Bool.and_eq_true_iff.mp z_BadWish).1
  have w_BadWish := inB_ok (Bool.and_eq_true_iff.mp z_BadWish).2
  have c_BadWish : Ex0 l.prog w K mg base "BadWish" 557 := ⟨x_BadWish.1, g_C_BadWish, x_BadWish.2, ⟨_, fdi_BadWish, w_BadWish.1, w_BadWish.2, okinit_BadWish I_BadWish, I_BadWish.binds fun _ _ _ _ _ _ us hl => match us, hl with | [_], _ => rfl⟩⟩
  obtain ⟨fdi_BadLengths, Di_BadLengths⟩ := c.def_ 41 (d := di_BadLengths) rfl
  have q_BadLengths : He.fAd K ("BadLengths", some "__init__") = He.ma K 576 "__init__" := by
    show He.ma K (He.ga K "BadLengths") "__init__" = _
    rw [show He.ga K "BadLengths" = 576 from by unfold He.ga; rw [n_BadLengths]]
  have I_BadLengths : Fun K "__init__" "BadLengths.__init__" i0_BadLengths (He.ma K 576 "__init__") fdi_BadLengths := q_BadLengths ▸ fun_ofD (st := i0_BadLengths) Di_BadLengths
  have z_BadLengths := List.all_eq_true.mp ck_own 576 (by decide)
  have x_BadLengths := exB_ok (Bool.and_eq_true_iff.mp z_BadLengths).1
  have w_BadLengths := inB_ok (Bool.and_eq_true_iff.mp z_BadLengths).2
  have c_BadLengths : Ex0 l.prog w K mg base "BadLengths" 576 := ⟨x_BadLengths.1, g_C_BadLengths, x_BadLengths.2, ⟨_, fdi_BadLengths, w_BadLengths.1, w_BadLengths.2, okinit_BadLengths I_BadLengths, I_BadLengths.binds fun _ _ _ _ _ _ us hl => match us, hl with | [_], _ => rfl⟩⟩
  obtain ⟨fdi_NoSlit, Di_NoSlit⟩ := c.def_ 42 (d := di_NoSlit) rfl
  have q_NoSlit : He.fAd K ("NoSlit", some "__init__") = He.ma K 595 "__init__" := by
    show He.ma K (He.ga K "NoSlit") "__init__" = _
    rw [show He.ga K "NoSlit" = 595 from by unfold He.ga; rw [n_NoSlit]]
  have I_NoSlit : Fun K "__init__" "NoSlit.__init__" i0_NoSlit (He.ma K 595 "__init__") fdi_NoSlit := q_NoSlit ▸ fun_ofD (st := i0_NoSlit) Di_NoSlit
  have z_NoSlit := List.all_eq_true.mp ck_own 595 (by decide)
  have x_NoSlit := exB_ok (Bool.and_eq_true_iff.mp z_NoSlit).1
  have w_NoSlit := inB_ok (Bool.and_eq_true_iff.mp z_NoSlit).2
  have c_NoSlit : Ex0 l.prog w K mg base "NoSlit" 595 := ⟨x_NoSlit.1, g_C_NoSlit, x_NoSlit.2, ⟨_, fdi_NoSlit, w_NoSlit.1, w_NoSlit.2, okinit_NoSlit I_NoSlit, I_NoSlit.binds fun _ _ _ _ _ _ us hl => match us, hl with | [_], _ => rfl⟩⟩
  obtain ⟨fdi_NoPart, Di_NoPart⟩ := c.def_ 43 (d := di_NoPart) rfl
  have q_NoPart : He.fAd K ("NoPart", some "__init__") = He.ma K 614 "__init__" := by
    show He.ma K (He.ga K "NoPart") "__init__" = _
    rw [show He.ga K "NoPart" = 614 from by unfold He.ga; rw [n_NoPart]]
  have I_NoPart : Fun K "__init__" "NoPart.__init__" i0_NoPart (He.ma K 614 "__init__") fdi_NoPart := q_NoPart ▸ fun_ofD (st := i0_NoPart) Di_NoPart
  have z_NoPart := List.all_eq_true.mp ck_own 614 (by decide)
  have x_NoPart := exB_ok (Bool.and_eq_true_iff.mp z_NoPart).1
  have w_NoPart := inB_ok (Bool.and_eq_true_iff.mp z_NoPart).2
  have c_NoPart : Ex0 l.prog w K mg base "NoPart" 614 := ⟨x_NoPart.1, g_C_NoPart, x_NoPart.2, ⟨_, fdi_NoPart, w_NoPart.1, w_NoPart.2, okinit_NoPart I_NoPart, I_NoPart.binds fun _ _ _ _ _ _ us hl => match us, hl with | [_], _ => rfl⟩⟩
  obtain ⟨fdi_BadText, Di_BadText⟩ := c.def_ 44 (d := di_BadText) rfl
  have q_BadText : He.fAd K ("BadText", some "__init__") = He.ma K 633 "__init__" := by
    show He.ma K (He.ga K "BadText") "__init__" = _
    rw [show He.ga K "BadText" = 633 from by unfold He.ga; rw [n_BadText]]
  have I_BadText : Fun K "__init__" "BadText.__init__" i0_BadText (He.ma K 633 "__init__") fdi_BadText := q_BadText ▸ fun_ofD (st := i0_BadText) Di_BadText
  have z_BadText := List.all_eq_true.mp ck_own 633 (by decide)
  have x_BadText := exB_ok (Bool.and_eq_true_iff.mp z_BadText).1
  have w_BadText := inB_ok (Bool.and_eq_true_iff.mp z_BadText).2
  have c_BadText : ExF l.prog w K mg base "BadText" 633 ["self", "at"] (sp_ini1 K 633 "at") := ⟨x_BadText.1, g_C_BadText, ⟨_, fdi_BadText, w_BadText.1, w_BadText.2, okinit_BadText I_BadText, I_BadText.binds fun _ _ _ _ _ _ us hl => match us, hl with | [_, _], _ => rfl⟩⟩
  obtain ⟨fdi_NoTree, Di_NoTree⟩ := c.def_ 45 (d := di_NoTree) rfl
  have q_NoTree : He.fAd K ("NoTree", some "__init__") = He.ma K 652 "__init__" := by
    show He.ma K (He.ga K "NoTree") "__init__" = _
    rw [show He.ga K "NoTree" = 652 from by unfold He.ga; rw [n_NoTree]]
  have I_NoTree : Fun K "__init__" "NoTree.__init__" i0_NoTree (He.ma K 652 "__init__") fdi_NoTree := q_NoTree ▸ fun_ofD (st := i0_NoTree) Di_NoTree
  have z_NoTree := List.all_eq_true.mp ck_own 652 (by decide)
  have x_NoTree := exB_ok (Bool.and_eq_true_iff.mp z_NoTree).1
  have w_NoTree := inB_ok (Bool.and_eq_true_iff.mp z_NoTree).2
  have c_NoTree : Ex0 l.prog w K mg base "NoTree" 652 := ⟨x_NoTree.1, g_C_NoTree, x_NoTree.2, ⟨_, fdi_NoTree, w_NoTree.1, w_NoTree.2, okinit_NoTree I_NoTree, I_NoTree.binds fun _ _ _ _ _ _ us hl => match us, hl with | [_], _ => rfl⟩⟩
  obtain ⟨fdi_LiesOver, Di_LiesOver⟩ := c.def_ 46 (d := di_LiesOver) rfl
  have q_LiesOver : He.fAd K ("LiesOver", some "__init__") = He.ma K 671 "__init__" := by
    show He.ma K (He.ga K "LiesOver") "__init__" = _
    rw [show He.ga K "LiesOver" = 671 from by unfold He.ga; rw [n_LiesOver]]
  have I_LiesOver : Fun K "__init__" "LiesOver.__init__" i0_LiesOver (He.ma K 671 "__init__") fdi_LiesOver := q_LiesOver ▸ fun_ofD (st := i0_LiesOver) Di_LiesOver
  have z_LiesOver := List.all_eq_true.mp ck_own 671 (by decide)
  have x_LiesOver := exB_ok (Bool.and_eq_true_iff.mp z_LiesOver).1
  have w_LiesOver := inB_ok (Bool.and_eq_true_iff.mp z_LiesOver).2
  have c_LiesOver : ExF l.prog w K mg base "LiesOver" 671 ["self", "number"] (sp_ini1 K 671 "number") := ⟨x_LiesOver.1, g_C_LiesOver, ⟨_, fdi_LiesOver, w_LiesOver.1, w_LiesOver.2, okinit_LiesOver I_LiesOver, I_LiesOver.binds fun _ _ _ _ _ _ us hl => match us, hl with | [_, _], _ => rfl⟩⟩
  obtain ⟨fdi_NoUndo, Di_NoUndo⟩ := c.def_ 47 (d := di_NoUndo) rfl
  have q_NoUndo : He.fAd K ("NoUndo", some "__init__") = He.ma K 690 "__init__" := by
    show He.ma K (He.ga K "NoUndo") "__init__" = _
    rw [show He.ga K "NoUndo" = 690 from by unfold He.ga; rw [n_NoUndo]]
  have I_NoUndo : Fun K "__init__" "NoUndo.__init__" i0_NoUndo (He.ma K 690 "__init__") fdi_NoUndo := q_NoUndo ▸ fun_ofD (st := i0_NoUndo) Di_NoUndo
  have z_NoUndo := List.all_eq_true.mp ck_own 690 (by decide)
  have x_NoUndo := exB_ok (Bool.and_eq_true_iff.mp z_NoUndo).1
  have w_NoUndo := inB_ok (Bool.and_eq_true_iff.mp z_NoUndo).2
  have c_NoUndo : Ex0 l.prog w K mg base "NoUndo" 690 := ⟨x_NoUndo.1, g_C_NoUndo, x_NoUndo.2, ⟨_, fdi_NoUndo, w_NoUndo.1, w_NoUndo.2, okinit_NoUndo I_NoUndo, I_NoUndo.binds fun _ _ _ _ _ _ us hl => match us, hl with | [_], _ => rfl⟩⟩
  obtain ⟨fdi_BadTries, Di_BadTries⟩ := c.def_ 48 (d := di_BadTries) rfl
  have q_BadTries : He.fAd K ("BadTries", some "__init__") = He.ma K 709 "__init__" := by
    show He.ma K (He.ga K "BadTries") "__init__" = _
    rw [show He.ga K "BadTries" = 709 from by unfold He.ga; rw [n_BadTries]]
  have I_BadTries : Fun K "__init__" "BadTries.__init__" i0_BadTries (He.ma K 709 "__init__") fdi_BadTries := q_BadTries ▸ fun_ofD (st := i0_BadTries) Di_BadTries
  have z_BadTries := List.all_eq_true.mp ck_own 709 (by decide)
  have x_BadTries := exB_ok (Bool.and_eq_true_iff.mp z_BadTries).1
  have w_BadTries := inB_ok (Bool.and_eq_true_iff.mp z_BadTries).2
  have c_BadTries : Ex0 l.prog w K mg base "BadTries" 709 := ⟨x_BadTries.1, g_C_BadTries, x_BadTries.2, ⟨_, fdi_BadTries, w_BadTries.1, w_BadTries.2, okinit_BadTries I_BadTries, I_BadTries.binds fun _ _ _ _ _ _ us hl => match us, hl with | [_], _ => rfl⟩⟩
  have c_FoldError := bareB_ok (x := "FoldError") ck_FoldError g_C_FoldError
  let d_law_mixed : Df l.prog w K mg base CX0 1 "_law_mixed" ["cell", "k"] sp_mixed := ⟨_, _, g_law_mixed, F_law_mixed.kp, b_law_mixed, ok_law_mixed F_law_mixed nb⟩
  let d_law_great : Df l.prog w K mg base CX0 1 "_law_great" ["cells", "place"] (sp_great K) := ⟨_, _, g_law_great, F_law_great.kp, b_law_great, ok_law_great F_law_great nb⟩
  let d_law_stream : Df l.prog w K mg base CX0 2 "_law_stream" ["script"] (sp_stream K) := ⟨_, _, g_law_stream, F_law_stream.kp, b_law_stream, ok_law_stream F_law_stream nb d_law_great⟩
  let d_law_take : Df l.prog w K mg base CX0 2 "_law_take" ["stream", "many"] sp_take := ⟨_, _, g_law_take, F_law_take.kp, b_law_take, ok_law_take F_law_take nb d_law_great d_law_mixed⟩
  let d_law_take2 : Df l.prog w K mg base CX0 2 "_law_take" ["stream", "many"] sp_take2 := ⟨_, _, g_law_take, F_law_take.kp, b_law_take, ok_law_take2 F_law_take nb d_law_great d_law_mixed⟩
  let d_law_whole : Df l.prog w K mg base CX0 3 "_law_whole" ["stream"] sp_whole := ⟨_, _, g_law_whole, F_law_whole.kp, b_law_whole, ok_law_whole F_law_whole d_law_take⟩
  let d_law_raise_early : Df l.prog w K mg base (L2.CX l.prog w) 3 "_law_raise_early" ["k", "word", "number"] (sp_rs LL 0 18) := ⟨_, _, g_law_raise_early, F_law_raise_early.kp, b_law_raise_early, ok_law_raise_early F_law_raise_early S c_NoFraction c_NoPoint c_NoPlate c_BadCorners c_BadPlates c_BadSheet c_TooMany c_NoCorner c_NoCrease c_NoNumbers c_NoStand c_BadChoice c_BadSpaces c_NoPlacing c_Shut c_NoSpot c_BadNumber c_NoPolynomial⟩
  let d_law_raise_late : Df l.prog w K mg base (L2.CX l.prog w) 3 "_law_raise_late" ["k", "word", "number"] (sp_rs LL 18 37) := ⟨_, _, g_law_raise_late, F_law_raise_late.kp, b_law_raise_late, ok_law_raise_late F_law_raise_late S c_BadLot c_BadBook c_BadTold c_NoFit c_BadPrices c_BadHeld c_NotHeld c_BadSeam c_BadTable c_BadWish c_BadLengths c_NoSlit c_NoPart c_BadText c_NoTree c_LiesOver c_NoUndo c_BadTries c_FoldError⟩
  let d_law_raise : Df l.prog w K mg base (L2.CX l.prog w) 4 "_law_raise" ["k", "word", "number"] (sp_rs LL 0 37) := ⟨_, _, g_law_raise, F_law_raise.kp, b_law_raise, ok_law_raise F_law_raise d_law_raise_early d_law_raise_late⟩
  let d_law_classes : DfE l.prog w K mg base 1 "_law_classes" ["e"] (sp_cls LL) := ⟨_, _, g_law_classes, F_law_classes.kp, b_law_classes, ok_law_classes F_law_classes nb S c_NoFraction c_NoPoint c_NoPlate c_BadCorners c_BadPlates c_BadSheet c_TooMany c_NoCorner c_NoCrease c_NoNumbers c_NoStand c_BadChoice c_BadSpaces c_NoPlacing c_Shut c_NoSpot c_BadNumber c_NoPolynomial c_BadLot c_BadBook c_BadTold c_NoFit c_BadPrices c_BadHeld c_NotHeld c_BadSeam c_BadTable c_BadWish c_BadLengths c_NoSlit c_NoPart c_BadText c_NoTree c_LiesOver c_NoUndo c_BadTries⟩
  let d_law_fields : DfE l.prog w K mg base 1 "_law_fields" ["k", "e"] (sp_fld LL) := ⟨_, _, g_law_fields, F_law_fields.kp, b_law_fields, ok_law_fields F_law_fields S⟩
  let d_law_due : Df l.prog w K mg base CX0 1 "_law_due" ["k", "word", "number"] sp_due := ⟨_, _, g_law_due, F_law_due.kp, b_law_due, ok_law_due F_law_due⟩
  let d_law_asked : Df l.prog w K mg base CX0 5 "_law_asked" ["k", "word", "number"] sp_askedE := ⟨_, _, g_law_asked, F_law_asked.kp, b_law_asked, ok_law_asked F_law_asked nb nVE S c_FoldError d_law_raise d_law_fields d_law_classes d_law_due⟩
  exact ok_law F_law nb d_law_stream d_law_take2 d_law_whole d_law_asked
end Fc
open PySem PySem.W PySem.Calls PyProof.Rows
set_option maxRecDepth 100000 in
set_option maxHeartbeats 0 in
theorem PySem.Challenge.cw_fourcreases_k00_errors_and_their_fields_holds : PySem.Challenge.rw_fourcreases_k00_errors_and_their_fields.Holds := by
  w_on; o_law
  refine HandSHeadRun.head_any (r := OpenLaw.row PySem.Challenge.rw_fourcreases_k00_errors_and_their_fields) (q := view (OpenLaw.row PySem.Challenge.rw_fourcreases_k00_errors_and_their_fields).prog [51]) (H := Fc.hookX 5 Fc.faL Fc.fnL Fc.ckK) (ob := Fc.obX 5 Fc.faL Fc.fnL Fc.ckK) (M := 15000) (loose := Fc.looseL) (d := HandSHeadRun.topDef (OpenLaw.row PySem.Challenge.rw_fourcreases_k00_errors_and_their_fields).prog 51) (kwd := []) (Fc.obX_eq 5 Fc.faL Fc.fnL Fc.ckK)
    (by kernel_rfl) (fun s => by kernel_rfl) Fc.run (by kernel_rfl) (by kernel_rfl) (by kernel_rfl) (by rfl) (by first | assumption | decide +kernel) (by decide +kernel) ⟨rfl, rfl, rfl, rfl, rfl, by decide +kernel⟩ ?hw ?hc
  case hw => w_witness2
  case hc =>
    refine L2.walk_ofE (l := PySem.Challenge.rw_fourcreases_k00_errors_and_their_fields) (n := 63) (k := 6) (x := "script") (CX := L2.CX0) rfl (by decide) (by kernel_rfl) ⟨rfl, by decide, by decide⟩ ?F (fun _ _ _ _ z => z)
    intro w mg fa h Y G hmg0
    obtain ⟨K, KX, c, ck⟩ := Y
    have hmg : mg ("law" : PySem.Str) = some (.ref fa) := by
      have e : (HandSHeadRun.topDef (OpenLaw.row PySem.Challenge.rw_fourcreases_k00_errors_and_their_fields).prog 51).name = ("law" : PySem.Str) := by kernel_rfl
      rw [← e]
      exact hmg0
    obtain ⟨fd, hb, hF⟩ := Fc.facts (l := PySem.Challenge.rw_fourcreases_k00_errors_and_their_fields) (w := w) KX G hmg c ck
    exact ⟨K, fd, Fc.sp_law K, KX, hb, fun H a ns hl _ hS => ⟨a, ns, rfl, hS, hl, fun _ => rfl⟩, hF⟩
