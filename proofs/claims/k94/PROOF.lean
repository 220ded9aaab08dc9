import PyProof.Rows.All
import Wide.All
import OpenK.AllK
import Wide.FinOn
import PySem.Challenge.RW_fourcreases_k94_whole_numbers_and_trees
import HandS.ForMost
import HandS.ForExc
import HandS.WordsExc
import HandS.TryOnly
import HandS.IsInst
import HandS.Wide
import HandS.WideBits
import HandS.Gcd
import HandS.ExcInit
import HandS.Evl
import HandS.DictComp
import HandS.HotCalls
import HandS.ExcField
import KE.KExcIs
import HandS.Conv
import HandS.More
import HandS.Style
import KE.GoesZip
import KE.GoesMore
import KE.DataEq
import HandS.TryMany
import HandS.StrMore
import HandS.Steps
import HandS.Deep
import HandS.Text
import HandS.Codes
import HandS.ExcField
import HandS.AnyAll
set_option Elab.async false
set_option linter.all false
set_option maxRecDepth 100000
set_option maxHeartbeats 4000000
namespace Fc
open PySem PySem.Spec PyProof.Rows L2
section
variable {X : Cx}
theorem op_fdivG : OpR X (binaryOp .FloorDiv) (rI (fun _ j => j ≠ 0 ∧ j.natAbs.log2 < 9000) fun i j => .int (i.fdiv j)) :=
  opI fun _ _ _ _ _ _ _ hc q => PyProof.Rows.floordiv_int hc.1 q (.inl (PyProof.noPylong_of_log2 hc.2))

/-- the empty __init__ of an error -/
def spPass : Sp := fun vs H Q _ => (∃ v, vs = [v]) ∧ Q .non H
variable {C fI : Addr} {x : Str} {p pos : Pos} {k : Nat} {fd : FuncData}
/-- what is known of an error's class whose __init__ has no arguments and does nothing -/
structure Ex0 (P : Program) (w : World) (K : PySem.W.Frag) (mg : Str → Option Value) (base : Heap) (x : Str) (C : Addr) : Prop where
  T : OexC K C
  gC : mg x = some (.ref C)
  te : PySem.W.exmOne K (.ref C) (.ref C) = some true
  ini : ∃ fI fd, PySem.W.findIn K (.ref C) "__init__" = some (some (.ref fI)) ∧ PySem.W.typeIn K (.ref fI) = some (.type "function") ∧
    FnOk P w K mg base CX0 1 fI fd ["self"] spPass ∧ Binds K fd ["self"] []
theorem pmk0 (Z : Ex0 X.prog X.w X.K X.mg X.base x C) (hr : Room 2 X.A) (hg : Gl X x) (hdb : (x == ("__debug__" : Str)) = false := by decide) :
    PMk X (.Call (.Name x p) [] [] pos) (fun _ H Q => Q (.ref C) none H) := by
  intro pins s σ H Q I h
  obtain ⟨fI, fd, iC, tI, F1, hb⟩ := Z.ini
  obtain ⟨nm, q, N, bs, bm, sn, sub, ab, col, dd, k0, k1, k2, k3, k5, hC, hbm⟩ := Z.T.cls
  refine wpAny_Call_Name_kw (ld_glob I hg Z.gC ?_ hdb)
  refine PySem.W.callWith_K0 I.kIn Z.T.kC ?_
  obtain ⟨hp, g, dr, tk, os⟩ := s
  have hsz : hp.objs.size ≤ hp.objs.size + 1 := Nat.le_succ _
  have hn : H (hp.objs.size + 1) = none := I.hok.fresh hsz
  let hp2 := (hp.push (PySem.W.kdv_tup [])).push (PySem.HandSPX.excO C hp.objs.size)
  have kk : ∀ b o, hp.get? b = some o → hp2.get? b = some o := fun b o e => Heap.get?_push_of_some _ (Heap.get?_push_of_some _ e)
  have hget : hp2.get? (hp.objs.size + 1) = some (PySem.HandSPX.excO C hp.objs.size) := by
    show ((hp.push (PySem.W.kdv_tup [])).push (PySem.HandSPX.excO C hp.objs.size)).get? (hp.objs.size + 1) = _
    heap_get
  have I2 : Inv X pins σ H ⟨hp2, g, dr, tk, os⟩ := I.kept (t' := tk) kk
  have r2 : Vals [V.ref (hp.objs.size + 1)] [Value.ref (hp.objs.size + 1)] := .cons rfl .nil
  refine wpAny_call (PySem.HandSPX.call_own F.excBase_ValueError (fun Y => PySem.HandSPX.refsVE_contains Y bm hbm) (I.kIn _ _ hC) (PySem.W.looks_findIn I.kIn iC) (fun self => PySem.W.bind_fn I.kIn self tI) (Nat.zero_le _)
    (codeAny_mono (F1.run _ X.stack _ _ ⟨[Value.ref (hp.objs.size + 1)], []⟩ [Value.ref (hp.objs.size + 1)] _ (fun v H2 => v = .non ∧ H2 = H) (fun _ _ _ => False) ((hr.make C [] []).mono (by decide)) (I2.env0.make C [] []) (hb _ [Value.ref (hp.objs.size + 1)] I2.kIn rfl) r2 ⟨⟨_, rfl⟩, rfl, rfl⟩) fun r s' hq' => ?_))
  cases r with
  | error er => exact False.elim hq'
  | ok fl =>
    cases fl with
    | next => exact False.elim hq'
    | brk => exact False.elim hq'
    | cont => exact False.elim hq'
    | ret u =>
      obtain ⟨v, H2, os2, bare2, un2, hok2, rv, ev, eH⟩ := hq'
      subst ev eH
      obtain ⟨h2, g2, d2, t2, os'⟩ := s'
      obtain rfl : os' = os := os2
      have nh : ∀ {b : Addr} {o : Obj}, hp.get? b = some o → b ≠ hp.objs.size + 1 := fun {b o} z => Nat.ne_of_lt (Nat.lt_of_lt_of_le (Heap.lt_size z) hsz)
      obtain ⟨sl, he⟩ := un2.any hget hn (by simp)
      obtain ⟨G', g1, g2'⟩ := restrict h2 fun b => decide (b ≠ hp.objs.size + 1)
      have gk : ∀ b, b ≠ hp.objs.size + 1 → G'.get? b = h2.get? b := fun b hb => g1 b (decide_eq_true hb)
      have ge : G'.get? (hp.objs.size + 1) = none := g2' _ (by simp)
      have U : Un (frs X.stack) [] H2 H2 hp G' := {
        keep := fun b o z n hf hx => (gk b (nh z)).trans (un2.keep b o (kk b o z) n hf hx)
        slot := fun b o z n hf hx => by
          rw [gk b (nh z)]
          exact un2.slot b o (kk b o z) n hf hx
        free := fun b o z n hx => n
        there := fun b o z hx => by
          rw [gk b (nh z)]
          exact un2.there b o (kk b o z) hx
        tups := fun b xs z => z
        frzs := fun b o v z => z
        tbls := fun b ps z => un2.tbls b ps z }
      have hok3 : HOk X.prog X.w H2 G' := fun b o z => by
        have ne : ∀ c u, H2 c = some u → c ≠ hp.objs.size + 1 := fun c u e => ne_of_none e hn
        refine (hok2 b o z).stay (fun c v hc y => ?_) (fun c hc => hc) (fun c xs hc => hc)
        rcases hc with rfl | hc
        · rw [gk _ (ne _ _ z)]
          exact y
        · rw [gk _ (ne _ _ hc)]
          exact y
      have J : L2.Inv X pins σ H2 ⟨G', g2, d2, t2, os'⟩ := I.call' (ch := []) rfl U hok3 bare2 (fun b z => absurd z (by simp))
      refine ⟨rv, hp.objs.size + 1, _, _, ⟨G', g2, d2, t2, os'⟩, H2, .ref C, none, rfl, J, fun b o z => ?_, ge, he, ⟨rfl, rfl⟩, rfl, rfl, hn, rfl, bare2, raises_own Z.T.exC Z.T.tyC, h⟩
      by_cases hb : b = hp.objs.size + 1
      · have z' : G'.get? b = some o := z
        rw [hb, ge] at z'
        cases z'
      · exact (gk b hb).symm.trans z

end
/-! ### a def as its callers know it -/
structure Df (P : Program) (w : World) (K : PySem.W.Frag) (mg : Str → Option Value) (base : Heap) (CX : CXT) (k : Nat) (x : Str) (ps : List Str) (sp : Sp) where
  f : Addr
  fd : FuncData
  g : mg x = some (.ref f)
  kp : PySem.W.keepIn K (.ref f) = true
  b : Binds K fd ps []
  F : FnOk P w K mg base CX k f fd ps sp
/-- the built-in names that the text leaves alone -/
structure Nb (mg : Str → Option Value) : Prop where
  int : mg "int" = none
  bool : mg "bool" = none
  tuple : mg "tuple" = none
  list : mg "list" = none
  len : mg "len" = none
  abs : mg "abs" = none
  min : mg "min" = none
  max : mg "max" = none
  range : mg "range" = none
  isinstance : mg "isinstance" = none
  enumerate : mg "enumerate" = none
  zip : mg "zip" = none
  sum : mg "sum" = none
  str : mg "str" = none
  sorted : mg "sorted" = none
  divmod : mg "divmod" = none
  all : mg "all" = none
  any : mg "any" = none
  reversed : mg "reversed" = none
  dict : mg "dict" = none
/-! ### readings by name -/
def rAbs : List V → Hp → VK → Prop := fun xs H Q => ∃ i, xs = [.int i] ∧ Q (.int (if i < 0 then -i else i)) H
def rInt1 : List V → Hp → VK → Prop := fun xs H Q => (∃ i, xs = [.int i] ∧ Q (.int i) H) ∨ ∃ k, xs = [.bl k] ∧ Q (.int (if k then 1 else 0)) H
def rLenQ (K : PySem.W.Frag) : List V → Hp → VK → Prop := fun xs H Q => ∃ p ys, xs = [.ref p] ∧ (SqL K H p ys ∨ SqT K H p ys) ∧ Q (.int ys.length) H
def rListOf (K : PySem.W.Frag) : List V → Hp → VK → Prop := fun xs H Q => ∃ p ys, xs = [.ref p] ∧ (SqL K H p ys ∨ SqT K H p ys) ∧ ∀ l, H l = none → Q (.ref l) (upd H l (.lst ys))
def rMin2 : List V → Hp → VK → Prop := fun xs H Q => ∃ i j, xs = [.int i, .int j] ∧ Q (.int (if j < i then j else i)) H
def rMax2 : List V → Hp → VK → Prop := fun xs H Q => ∃ i j, xs = [.int i, .int j] ∧ Q (.int (if i < j then j else i)) H
def rIsN : R2 := fun x y H Q => y = .non ∧ Q (.bl (decide (x = .non))) H
def rNotN : R2 := fun x y H Q => y = .non ∧ Q (.bl (!decide (x = .non))) H
section
variable {X : Cx}
theorem cq_abs : CallR X (.builtin "abs") rAbs := call_abs
theorem cq_int : CallR X (.type "int") rInt1 := call_int1
theorem cq_len : CallR X (.builtin "len") (rLenQ X.K) := call_len_seq
theorem cq_list : CallR X (.type "list") (rListOf X.K) := call_list_of
theorem cq_min (hc : X.calm = true) : CallR X (.builtin "min") rMin2 := call_min2 hc
theorem cq_max (hc : X.calm = true) : CallR X (.builtin "max") rMax2 := call_max2 hc
theorem oq_isN : OpR X (compareOp .Is) rIsN := op_isN
theorem oq_notN : OpR X (compareOp .IsNot) rNotN := op_notN
end
theorem notT : (!true) = false := rfl
theorem notF : (!false) = true := rfl
/-! ### comparisons, shut -/
@[irreducible] def ltB (i j : Int) : Bool := decide (i < j)
@[irreducible] def leB (i j : Int) : Bool := decide (i ≤ j)
@[irreducible] def eqB (i j : Int) : Bool := decide (i = j)
theorem ltB_def {i j : Int} : ltB i j = decide (i < j) := by unfold ltB; rfl
theorem leB_def {i j : Int} : leB i j = decide (i ≤ j) := by unfold leB; rfl
theorem eqB_def {i j : Int} : eqB i j = decide (i = j) := by unfold eqB; rfl
/-- what a flag says -/
class BP (b : Bool) (p : outParam Prop) : Prop where
  iff : b = true ↔ p
instance {i j : Int} : BP (ltB i j) (i < j) := ⟨by rw [ltB_def]; exact decide_eq_true_iff⟩
instance {i j : Int} : BP (leB i j) (i ≤ j) := ⟨by rw [leB_def]; exact decide_eq_true_iff⟩
instance {i j : Int} : BP (eqB i j) (i = j) := ⟨by rw [eqB_def]; exact decide_eq_true_iff⟩
instance {p : Prop} [Decidable p] : BP (decide p) p := ⟨decide_eq_true_iff⟩
instance {b c : Bool} {p q : Prop} [h : BP b p] [k : BP c q] : BP (b && c) (p ∧ q) := ⟨by rw [Bool.and_eq_true, h.iff, k.iff]⟩
instance {b c : Bool} {p q : Prop} [h : BP b p] [k : BP c q] : BP (b || c) (p ∨ q) := ⟨by rw [Bool.or_eq_true, h.iff, k.iff]⟩
instance {b : Bool} {p : Prop} [h : BP b p] : BP (!b) (¬ p) := ⟨by rw [← h.iff, Bool.not_eq_true']; cases b <;> simp⟩
theorem bp_t {b : Bool} {p : Prop} [k : BP b p] (h : p) : b = true := k.iff.mpr h
theorem bp_f {b : Bool} {p : Prop} [k : BP b p] (h : ¬ p) : b = false := by
  cases e : b with
  | false => rfl
  | true => exact absurd (k.iff.mp e) h
theorem eqT {i j : Int} (h : i = j) : eqB i j = true := bp_t h
theorem eqF {i j : Int} (h : i ≠ j) : eqB i j = false := bp_f h
theorem eqB_t {i j : Int} (h : eqB i j = true) : i = j := by rw [eqB_def] at h; exact of_decide_eq_true h
theorem eqB_f {i j : Int} (h : eqB i j = false) : i ≠ j := by rw [eqB_def] at h; exact of_decide_eq_false h
theorem ltT {i j : Int} (h : i < j) : ltB i j = true := bp_t h
theorem ltF {i j : Int} (h : ¬ i < j) : ltB i j = false := bp_f h
/-! ### steps of a reading -/
section
variable {K : PySem.W.Frag} {D : Ends} {σ : L2.St} {H : Hp} {Q : VK} {v : V} {te ta tb : TE} {t u : TS} {g : TG}
theorem w_seq (h : t { D with nx := u D } σ H) : tSeq t u D σ H := h
theorem w_next (h : D.nx σ H) : tNext D σ H := h
theorem w_asg (h : te σ H fun x H1 => g x σ H1 D.nx) : tAsg te g D σ H := h
theorem w_drop (h : te σ H fun _ H1 => D.nx σ H1) : tDrop te D σ H := h
theorem w_ret (h : te σ H D.rt) : tRet te D σ H := h
theorem w_retN (h : D.rt .non H) : tRetN D σ H := h
theorem w_brk (h : D.bk σ H) : tBreak D σ H := h
theorem w_cont (h : D.ct σ H) : tCont D σ H := h
theorem w_c (h : Q v H) : tC v σ H Q := h
theorem w_op {r : R2} (h : ta σ H fun x H1 => tb σ H1 fun y H2 => r x y H2 Q) : tOp r ta tb σ H Q := h
theorem w_un {r : V → Hp → VK → Prop} (h : ta σ H fun x H1 => r x H1 Q) : tUn r ta σ H Q := h
theorem w_cb {r : List V → Hp → VK → Prop} {tt : TA} (h : tt σ H fun vs H1 => r vs H1 Q) : tCB r tt σ H Q := h
theorem w_nil {Q : List V → Hp → Prop} (h : Q [] H) : tNil σ H Q := h
theorem w_cons {Q : List V → Hp → Prop} {tr : TA} (h : ta σ H fun x H1 => tr σ H1 fun xs H2 => Q (x :: xs) H2) : tCons ta tr σ H Q := h
theorem w_call {sp : Sp} {dvs : List V} {E : XK} {tt : TA} (h : tt σ H fun vs H1 => sp (vs ++ dvs) H1 Q E) : tCall sp dvs E tt σ H Q := h
theorem w_tup {tt : TA} (h : tt σ H fun xs H1 => xs.length ≤ sizeLine ∧ ∀ p, H1 p = none → Q (.ref p) (upd H1 p (.tup xs))) : tTup tt σ H Q := h
theorem w_lst {tt : TA} (h : tt σ H fun xs H1 => xs.length ≤ sizeLine ∧ ∀ p, H1 p = none → Q (.ref p) (upd H1 p (.lst xs))) : tLst tt σ H Q := h
theorem w_new {xs : List V} {F : Addr → Prop} (h : ∀ p, H p = none → F p) (hl : xs.length.ble 1000 = true := by rfl) : xs.length ≤ sizeLine ∧ ∀ p, H p = none → F p := ⟨Nat.le_of_lt (small1000 (Nat.le_of_ble_eq_true hl)), h⟩
theorem w_ifs {c : TT} (h : c σ H fun b H1 => if b = true then t D σ H1 else u D σ H1) : tIfS c t u D σ H := h
theorem w_ife {c : TT} (h : c σ H fun b H1 => if b = true then ta σ H1 Q else tb σ H1 Q) : tIf c ta tb σ H Q := h
theorem w_test {Q : Bool → Hp → Prop} (h : te σ H fun x H1 => ∃ k, x = .bl k ∧ Q k H1) : tTest te σ H Q := h
theorem w_tB {Q : Bool → Hp → Prop} (h : te σ H fun x H1 => ∃ k, x = .bl k ∧ Q k H1) : tB te σ H Q := h
theorem w_bl {b : Bool} {F : Bool → Prop} (h : F b) : ∃ k, V.bl b = .bl k ∧ F k := ⟨b, rfl, h⟩
theorem w_and {c d : TT} {Q : Bool → Hp → Prop} (h : c σ H fun b H1 => if b = true then d σ H1 Q else Q false H1) : tAnd c d σ H Q := h
theorem w_or {c d : TT} {Q : Bool → Hp → Prop} (h : c σ H fun b H1 => if b = true then Q true H1 else d σ H1 Q) : tOr c d σ H Q := h
theorem w_not {c : TT} {Q : Bool → Hp → Prop} (h : c σ H fun b H1 => Q (!b) H1) : tNot c σ H Q := h
theorem w_andV (h : ta σ H fun x H1 => ∃ c, x = .bl c ∧ if c = true then tb σ H1 Q else Q (.bl false) H1) : tAndV ta tb σ H Q := h
theorem w_orV (h : ta σ H fun x H1 => ∃ c, x = .bl c ∧ if c = true then Q (.bl true) H1 else tb σ H1 Q) : tOrV ta tb σ H Q := h
theorem w_notV (h : ta σ H fun x H1 => ∃ c, x = .bl c ∧ Q (.bl (!c)) H1) : tNotV ta σ H Q := h
theorem w_I0 {gg : Int → Int → V} {i j : Int} (h : Q (gg i j) H) : rI0 gg (.int i) (.int j) H Q := ⟨i, j, rfl, rfl, h⟩
theorem w_I {C : Int → Int → Prop} {gg : Int → Int → V} {i j : Int} (hc : C i j) (h : Q (gg i j) H) : rI C gg (.int i) (.int j) H Q := ⟨i, j, rfl, rfl, hc, h⟩
theorem w_U {gg : Int → V} {i : Int} (h : Q (gg i) H) : rU gg (.int i) H Q := ⟨i, rfl, h⟩
theorem int_dec {i j : Int} : decide (V.int i = V.int j) = decide (i = j) := by
  by_cases h : i = j
  · subst h
    rw [decide_eq_true rfl, decide_eq_true rfl]
  · rw [decide_eq_false h, decide_eq_false fun e => h (V.int.inj e)]
theorem w_eqI {i j : Int} (h : Q (.bl (eqB i j)) H) : rEq (.int i) (.int j) H Q := ⟨rfl, by rw [int_dec, ← eqB_def]; exact h⟩
theorem w_neI {i j : Int} (h : Q (.bl (!eqB i j)) H) : rNe (.int i) (.int j) H Q := ⟨rfl, by rw [int_dec, ← eqB_def]; exact h⟩
theorem w_lt {i j : Int} (h : Q (.bl (ltB i j)) H) : rI0 (fun i j => .bl (decide (i < j))) (.int i) (.int j) H Q := ⟨i, j, rfl, rfl, by show Q (.bl (decide (i < j))) H; rw [← ltB_def]; exact h⟩
theorem w_le {i j : Int} (h : Q (.bl (leB i j)) H) : rI0 (fun i j => .bl (decide (i ≤ j))) (.int i) (.int j) H Q := ⟨i, j, rfl, rfl, by show Q (.bl (decide (i ≤ j))) H; rw [← leB_def]; exact h⟩
theorem w_gt {i j : Int} (h : Q (.bl (ltB j i)) H) : rI0 (fun i j => .bl (decide (j < i))) (.int i) (.int j) H Q := ⟨i, j, rfl, rfl, by show Q (.bl (decide (j < i))) H; rw [← ltB_def]; exact h⟩
theorem w_ge {i j : Int} (h : Q (.bl (leB j i)) H) : rI0 (fun i j => .bl (decide (j ≤ i))) (.int i) (.int j) H Q := ⟨i, j, rfl, rfl, by show Q (.bl (decide (j ≤ i))) H; rw [← leB_def]; exact h⟩
theorem w_abs {i : Int} (h : Q (.int (i.natAbs : Int)) H) : rAbs [.int i] H Q := ⟨i, rfl, by
  have e : (if i < 0 then -i else i) = (i.natAbs : Int) := by split <;> omega
  rw [e]
  exact h⟩
theorem w_int {i : Int} (h : Q (.int i) H) : rInt1 [.int i] H Q := .inl ⟨i, rfl, h⟩
theorem w_lenL {p : Addr} {ys : List V} (e : SqL K H p ys) (h : Q (.int ys.length) H) : rLenQ K [.ref p] H Q := ⟨p, ys, rfl, .inl e, h⟩
theorem w_lenT {p : Addr} {ys : List V} (e : SqT K H p ys) (h : Q (.int ys.length) H) : rLenQ K [.ref p] H Q := ⟨p, ys, rfl, .inr e, h⟩
theorem w_min {i j : Int} (h : Q (.int (if j < i then j else i)) H) : rMin2 [.int i, .int j] H Q := ⟨i, j, rfl, h⟩
theorem w_max {i j : Int} (h : Q (.int (if i < j then j else i)) H) : rMax2 [.int i, .int j] H Q := ⟨i, j, rfl, h⟩
theorem w_ixL {p : Addr} {xs : List V} {i : Int} {v : V} (e : SqL K H p xs) (ha : atI xs i = some v) (h : Q v H) : rIxL K (.ref p) (.int i) H Q := ⟨p, xs, i, v, rfl, rfl, e, ha, h⟩
theorem w_ixT {p : Addr} {xs : List V} {i : Int} {v : V} (e : SqT K H p xs) (ha : atI xs i = some v) (h : Q v H) : rIxT K (.ref p) (.int i) H Q := ⟨p, xs, i, v, rfl, rfl, e, ha, h⟩
theorem w_gcd {a b : Int} (h : Q (.int ((Nat.gcd a.natAbs b.natAbs : Nat) : Int)) H) : rGcd [.int a, .int b] H Q := ⟨a, b, rfl, h⟩
theorem w_sub {to ti : TE} {tset : TSet} {Q : L2.St → Hp → Prop} (h : to σ H fun o H1 => ti σ H1 fun i H2 => tset o i v H2 fun H3 => Q σ H3) : gSub to ti tset v σ H Q := h
theorem w_setL {p : Addr} {xs : List V} {k : Int} {j : Nat} {y : V} {Q : Hp → Prop} (e : H p = some (.lst xs)) (hj : ixN xs.length k = some j) (h : Q (upd H p (.lst (xs.set j y)))) : rSetL (.ref p) (.int k) y H Q := ⟨p, xs, k, j, rfl, rfl, e, hj, h⟩
theorem w_par {i j : Nat} {tt : TA} (h : tt σ H fun vs H1 => ∃ v w, vs = [v, w] ∧ D.nx ((σ.set i (some v)).set j (some w)) H1) : tPar i j tt D σ H := h
theorem w_two {a b : V} {F : V → V → Prop} (h : F a b) : ∃ v w, [a, b] = [v, w] ∧ F v w := ⟨a, b, rfl, h⟩
theorem w_if {b : Bool} {A B : Prop} (h1 : b = true → A) (h2 : b = false → B) : if b = true then A else B := by
  cases b with
  | true => exact iteT (h1 rfl)
  | false => exact iteF (h2 rfl)
theorem w_ifd {b : Bool} {p : Prop} {A B : Prop} [k : BP b p] (h1 : p → A) (h2 : ¬ p → B) : if b = true then A else B := w_if (fun c => h1 (k.iff.mp c)) fun c => h2 fun z => by
  rw [k.iff.mpr z] at c
  cases c
theorem w_ifn {b : Bool} {p : Prop} {A B : Prop} [k : BP b p] (h1 : ¬ p → A) (h2 : p → B) : if (!b) = true then A else B := by
  cases e : b with
  | true => exact iteF (h2 (k.iff.mp e))
  | false => exact iteT (h1 fun z => by
      rw [k.iff.mpr z] at e
      cases e)
theorem w_v0 {r : L2.St} (h : Q v H) : tVar 0 (some v :: r) H Q := ⟨v, rfl, h⟩
theorem w_g0 {o : Option V} {r : L2.St} {Q : L2.St → Hp → Prop} (h : Q (some v :: r) H) : gName 0 v (o :: r) H Q := h
theorem w_s0 {o p : Option V} {r : L2.St} {F : L2.St → Prop} (h : F (p :: r)) : F ((o :: r).set 0 p) := h
theorem w_v1 {x0 : Option V} {r : L2.St} (h : Q v H) : tVar 1 (x0 :: some v :: r) H Q := ⟨v, rfl, h⟩
theorem w_g1 {x0 : Option V} {o : Option V} {r : L2.St} {Q : L2.St → Hp → Prop} (h : Q (x0 :: some v :: r) H) : gName 1 v (x0 :: o :: r) H Q := h
theorem w_s1 {x0 : Option V} {o p : Option V} {r : L2.St} {F : L2.St → Prop} (h : F (x0 :: p :: r)) : F ((x0 :: o :: r).set 1 p) := h
theorem w_v2 {x0 x1 : Option V} {r : L2.St} (h : Q v H) : tVar 2 (x0 :: x1 :: some v :: r) H Q := ⟨v, rfl, h⟩
theorem w_g2 {x0 x1 : Option V} {o : Option V} {r : L2.St} {Q : L2.St → Hp → Prop} (h : Q (x0 :: x1 :: some v :: r) H) : gName 2 v (x0 :: x1 :: o :: r) H Q := h
theorem w_s2 {x0 x1 : Option V} {o p : Option V} {r : L2.St} {F : L2.St → Prop} (h : F (x0 :: x1 :: p :: r)) : F ((x0 :: x1 :: o :: r).set 2 p) := h
theorem w_v3 {x0 x1 x2 : Option V} {r : L2.St} (h : Q v H) : tVar 3 (x0 :: x1 :: x2 :: some v :: r) H Q := ⟨v, rfl, h⟩
theorem w_g3 {x0 x1 x2 : Option V} {o : Option V} {r : L2.St} {Q : L2.St → Hp → Prop} (h : Q (x0 :: x1 :: x2 :: some v :: r) H) : gName 3 v (x0 :: x1 :: x2 :: o :: r) H Q := h
theorem w_s3 {x0 x1 x2 : Option V} {o p : Option V} {r : L2.St} {F : L2.St → Prop} (h : F (x0 :: x1 :: x2 :: p :: r)) : F ((x0 :: x1 :: x2 :: o :: r).set 3 p) := h
theorem w_v4 {x0 x1 x2 x3 : Option V} {r : L2.St} (h : Q v H) : tVar 4 (x0 :: x1 :: x2 :: x3 :: some v :: r) H Q := ⟨v, rfl, h⟩
theorem w_g4 {x0 x1 x2 x3 : Option V} {o : Option V} {r : L2.St} {Q : L2.St → Hp → Prop} (h : Q (x0 :: x1 :: x2 :: x3 :: some v :: r) H) : gName 4 v (x0 :: x1 :: x2 :: x3 :: o :: r) H Q := h
theorem w_s4 {x0 x1 x2 x3 : Option V} {o p : Option V} {r : L2.St} {F : L2.St → Prop} (h : F (x0 :: x1 :: x2 :: x3 :: p :: r)) : F ((x0 :: x1 :: x2 :: x3 :: o :: r).set 4 p) := h
theorem w_v5 {x0 x1 x2 x3 x4 : Option V} {r : L2.St} (h : Q v H) : tVar 5 (x0 :: x1 :: x2 :: x3 :: x4 :: some v :: r) H Q := ⟨v, rfl, h⟩
theorem w_g5 {x0 x1 x2 x3 x4 : Option V} {o : Option V} {r : L2.St} {Q : L2.St → Hp → Prop} (h : Q (x0 :: x1 :: x2 :: x3 :: x4 :: some v :: r) H) : gName 5 v (x0 :: x1 :: x2 :: x3 :: x4 :: o :: r) H Q := h
theorem w_s5 {x0 x1 x2 x3 x4 : Option V} {o p : Option V} {r : L2.St} {F : L2.St → Prop} (h : F (x0 :: x1 :: x2 :: x3 :: x4 :: p :: r)) : F ((x0 :: x1 :: x2 :: x3 :: x4 :: o :: r).set 5 p) := h
theorem w_v6 {x0 x1 x2 x3 x4 x5 : Option V} {r : L2.St} (h : Q v H) : tVar 6 (x0 :: x1 :: x2 :: x3 :: x4 :: x5 :: some v :: r) H Q := ⟨v, rfl, h⟩
theorem w_g6 {x0 x1 x2 x3 x4 x5 : Option V} {o : Option V} {r : L2.St} {Q : L2.St → Hp → Prop} (h : Q (x0 :: x1 :: x2 :: x3 :: x4 :: x5 :: some v :: r) H) : gName 6 v (x0 :: x1 :: x2 :: x3 :: x4 :: x5 :: o :: r) H Q := h
theorem w_s6 {x0 x1 x2 x3 x4 x5 : Option V} {o p : Option V} {r : L2.St} {F : L2.St → Prop} (h : F (x0 :: x1 :: x2 :: x3 :: x4 :: x5 :: p :: r)) : F ((x0 :: x1 :: x2 :: x3 :: x4 :: x5 :: o :: r).set 6 p) := h
theorem w_v7 {x0 x1 x2 x3 x4 x5 x6 : Option V} {r : L2.St} (h : Q v H) : tVar 7 (x0 :: x1 :: x2 :: x3 :: x4 :: x5 :: x6 :: some v :: r) H Q := ⟨v, rfl, h⟩
theorem w_g7 {x0 x1 x2 x3 x4 x5 x6 : Option V} {o : Option V} {r : L2.St} {Q : L2.St → Hp → Prop} (h : Q (x0 :: x1 :: x2 :: x3 :: x4 :: x5 :: x6 :: some v :: r) H) : gName 7 v (x0 :: x1 :: x2 :: x3 :: x4 :: x5 :: x6 :: o :: r) H Q := h
theorem w_s7 {x0 x1 x2 x3 x4 x5 x6 : Option V} {o p : Option V} {r : L2.St} {F : L2.St → Prop} (h : F (x0 :: x1 :: x2 :: x3 :: x4 :: x5 :: x6 :: p :: r)) : F ((x0 :: x1 :: x2 :: x3 :: x4 :: x5 :: x6 :: o :: r).set 7 p) := h
theorem w_v8 {x0 x1 x2 x3 x4 x5 x6 x7 : Option V} {r : L2.St} (h : Q v H) : tVar 8 (x0 :: x1 :: x2 :: x3 :: x4 :: x5 :: x6 :: x7 :: some v :: r) H Q := ⟨v, rfl, h⟩
theorem w_g8 {x0 x1 x2 x3 x4 x5 x6 x7 : Option V} {o : Option V} {r : L2.St} {Q : L2.St → Hp → Prop} (h : Q (x0 :: x1 :: x2 :: x3 :: x4 :: x5 :: x6 :: x7 :: some v :: r) H) : gName 8 v (x0 :: x1 :: x2 :: x3 :: x4 :: x5 :: x6 :: x7 :: o :: r) H Q := h
theorem w_s8 {x0 x1 x2 x3 x4 x5 x6 x7 : Option V} {o p : Option V} {r : L2.St} {F : L2.St → Prop} (h : F (x0 :: x1 :: x2 :: x3 :: x4 :: x5 :: x6 :: x7 :: p :: r)) : F ((x0 :: x1 :: x2 :: x3 :: x4 :: x5 :: x6 :: x7 :: o :: r).set 8 p) := h
theorem w_v9 {x0 x1 x2 x3 x4 x5 x6 x7 x8 : Option V} {r : L2.St} (h : Q v H) : tVar 9 (x0 :: x1 :: x2 :: x3 :: x4 :: x5 :: x6 :: x7 :: x8 :: some v :: r) H Q := ⟨v, rfl, h⟩
theorem w_g9 {x0 x1 x2 x3 x4 x5 x6 x7 x8 : Option V} {o : Option V} {r : L2.St} {Q : L2.St → Hp → Prop} (h : Q (x0 :: x1 :: x2 :: x3 :: x4 :: x5 :: x6 :: x7 :: x8 :: some v :: r) H) : gName 9 v (x0 :: x1 :: x2 :: x3 :: x4 :: x5 :: x6 :: x7 :: x8 :: o :: r) H Q := h
theorem w_s9 {x0 x1 x2 x3 x4 x5 x6 x7 x8 : Option V} {o p : Option V} {r : L2.St} {F : L2.St → Prop} (h : F (x0 :: x1 :: x2 :: x3 :: x4 :: x5 :: x6 :: x7 :: x8 :: p :: r)) : F ((x0 :: x1 :: x2 :: x3 :: x4 :: x5 :: x6 :: x7 :: x8 :: o :: r).set 9 p) := h
theorem w_v10 {x0 x1 x2 x3 x4 x5 x6 x7 x8 x9 : Option V} {r : L2.St} (h : Q v H) : tVar 10 (x0 :: x1 :: x2 :: x3 :: x4 :: x5 :: x6 :: x7 :: x8 :: x9 :: some v :: r) H Q := ⟨v, rfl, h⟩
theorem w_g10 {x0 x1 x2 x3 x4 x5 x6 x7 x8 x9 : Option V} {o : Option V} {r : L2.St} {Q : L2.St → Hp → Prop} (h : Q (x0 :: x1 :: x2 :: x3 :: x4 :: x5 :: x6 :: x7 :: x8 :: x9 :: some v :: r) H) : gName 10 v (x0 :: x1 :: x2 :: x3 :: x4 :: x5 :: x6 :: x7 :: x8 :: x9 :: o :: r) H Q := h
theorem w_s10 {x0 x1 x2 x3 x4 x5 x6 x7 x8 x9 : Option V} {o p : Option V} {r : L2.St} {F : L2.St → Prop} (h : F (x0 :: x1 :: x2 :: x3 :: x4 :: x5 :: x6 :: x7 :: x8 :: x9 :: p :: r)) : F ((x0 :: x1 :: x2 :: x3 :: x4 :: x5 :: x6 :: x7 :: x8 :: x9 :: o :: r).set 10 p) := h
theorem w_v11 {x0 x1 x2 x3 x4 x5 x6 x7 x8 x9 x10 : Option V} {r : L2.St} (h : Q v H) : tVar 11 (x0 :: x1 :: x2 :: x3 :: x4 :: x5 :: x6 :: x7 :: x8 :: x9 :: x10 :: some v :: r) H Q := ⟨v, rfl, h⟩
theorem w_g11 {x0 x1 x2 x3 x4 x5 x6 x7 x8 x9 x10 : Option V} {o : Option V} {r : L2.St} {Q : L2.St → Hp → Prop} (h : Q (x0 :: x1 :: x2 :: x3 :: x4 :: x5 :: x6 :: x7 :: x8 :: x9 :: x10 :: some v :: r) H) : gName 11 v (x0 :: x1 :: x2 :: x3 :: x4 :: x5 :: x6 :: x7 :: x8 :: x9 :: x10 :: o :: r) H Q := h
theorem w_s11 {x0 x1 x2 x3 x4 x5 x6 x7 x8 x9 x10 : Option V} {o p : Option V} {r : L2.St} {F : L2.St → Prop} (h : F (x0 :: x1 :: x2 :: x3 :: x4 :: x5 :: x6 :: x7 :: x8 :: x9 :: x10 :: p :: r)) : F ((x0 :: x1 :: x2 :: x3 :: x4 :: x5 :: x6 :: x7 :: x8 :: x9 :: x10 :: o :: r).set 11 p) := h
theorem w_v12 {x0 x1 x2 x3 x4 x5 x6 x7 x8 x9 x10 x11 : Option V} {r : L2.St} (h : Q v H) : tVar 12 (x0 :: x1 :: x2 :: x3 :: x4 :: x5 :: x6 :: x7 :: x8 :: x9 :: x10 :: x11 :: some v :: r) H Q := ⟨v, rfl, h⟩
theorem w_g12 {x0 x1 x2 x3 x4 x5 x6 x7 x8 x9 x10 x11 : Option V} {o : Option V} {r : L2.St} {Q : L2.St → Hp → Prop} (h : Q (x0 :: x1 :: x2 :: x3 :: x4 :: x5 :: x6 :: x7 :: x8 :: x9 :: x10 :: x11 :: some v :: r) H) : gName 12 v (x0 :: x1 :: x2 :: x3 :: x4 :: x5 :: x6 :: x7 :: x8 :: x9 :: x10 :: x11 :: o :: r) H Q := h
theorem w_s12 {x0 x1 x2 x3 x4 x5 x6 x7 x8 x9 x10 x11 : Option V} {o p : Option V} {r : L2.St} {F : L2.St → Prop} (h : F (x0 :: x1 :: x2 :: x3 :: x4 :: x5 :: x6 :: x7 :: x8 :: x9 :: x10 :: x11 :: p :: r)) : F ((x0 :: x1 :: x2 :: x3 :: x4 :: x5 :: x6 :: x7 :: x8 :: x9 :: x10 :: x11 :: o :: r).set 12 p) := h
theorem w_v13 {x0 x1 x2 x3 x4 x5 x6 x7 x8 x9 x10 x11 x12 : Option V} {r : L2.St} (h : Q v H) : tVar 13 (x0 :: x1 :: x2 :: x3 :: x4 :: x5 :: x6 :: x7 :: x8 :: x9 :: x10 :: x11 :: x12 :: some v :: r) H Q := ⟨v, rfl, h⟩
theorem w_g13 {x0 x1 x2 x3 x4 x5 x6 x7 x8 x9 x10 x11 x12 : Option V} {o : Option V} {r : L2.St} {Q : L2.St → Hp → Prop} (h : Q (x0 :: x1 :: x2 :: x3 :: x4 :: x5 :: x6 :: x7 :: x8 :: x9 :: x10 :: x11 :: x12 :: some v :: r) H) : gName 13 v (x0 :: x1 :: x2 :: x3 :: x4 :: x5 :: x6 :: x7 :: x8 :: x9 :: x10 :: x11 :: x12 :: o :: r) H Q := h
theorem w_s13 {x0 x1 x2 x3 x4 x5 x6 x7 x8 x9 x10 x11 x12 : Option V} {o p : Option V} {r : L2.St} {F : L2.St → Prop} (h : F (x0 :: x1 :: x2 :: x3 :: x4 :: x5 :: x6 :: x7 :: x8 :: x9 :: x10 :: x11 :: x12 :: p :: r)) : F ((x0 :: x1 :: x2 :: x3 :: x4 :: x5 :: x6 :: x7 :: x8 :: x9 :: x10 :: x11 :: x12 :: o :: r).set 13 p) := h
theorem w_v14 {x0 x1 x2 x3 x4 x5 x6 x7 x8 x9 x10 x11 x12 x13 : Option V} {r : L2.St} (h : Q v H) : tVar 14 (x0 :: x1 :: x2 :: x3 :: x4 :: x5 :: x6 :: x7 :: x8 :: x9 :: x10 :: x11 :: x12 :: x13 :: some v :: r) H Q := ⟨v, rfl, h⟩
theorem w_g14 {x0 x1 x2 x3 x4 x5 x6 x7 x8 x9 x10 x11 x12 x13 : Option V} {o : Option V} {r : L2.St} {Q : L2.St → Hp → Prop} (h : Q (x0 :: x1 :: x2 :: x3 :: x4 :: x5 :: x6 :: x7 :: x8 :: x9 :: x10 :: x11 :: x12 :: x13 :: some v :: r) H) : gName 14 v (x0 :: x1 :: x2 :: x3 :: x4 :: x5 :: x6 :: x7 :: x8 :: x9 :: x10 :: x11 :: x12 :: x13 :: o :: r) H Q := h
theorem w_s14 {x0 x1 x2 x3 x4 x5 x6 x7 x8 x9 x10 x11 x12 x13 : Option V} {o p : Option V} {r : L2.St} {F : L2.St → Prop} (h : F (x0 :: x1 :: x2 :: x3 :: x4 :: x5 :: x6 :: x7 :: x8 :: x9 :: x10 :: x11 :: x12 :: x13 :: p :: r)) : F ((x0 :: x1 :: x2 :: x3 :: x4 :: x5 :: x6 :: x7 :: x8 :: x9 :: x10 :: x11 :: x12 :: x13 :: o :: r).set 14 p) := h
theorem w_v15 {x0 x1 x2 x3 x4 x5 x6 x7 x8 x9 x10 x11 x12 x13 x14 : Option V} {r : L2.St} (h : Q v H) : tVar 15 (x0 :: x1 :: x2 :: x3 :: x4 :: x5 :: x6 :: x7 :: x8 :: x9 :: x10 :: x11 :: x12 :: x13 :: x14 :: some v :: r) H Q := ⟨v, rfl, h⟩
theorem w_g15 {x0 x1 x2 x3 x4 x5 x6 x7 x8 x9 x10 x11 x12 x13 x14 : Option V} {o : Option V} {r : L2.St} {Q : L2.St → Hp → Prop} (h : Q (x0 :: x1 :: x2 :: x3 :: x4 :: x5 :: x6 :: x7 :: x8 :: x9 :: x10 :: x11 :: x12 :: x13 :: x14 :: some v :: r) H) : gName 15 v (x0 :: x1 :: x2 :: x3 :: x4 :: x5 :: x6 :: x7 :: x8 :: x9 :: x10 :: x11 :: x12 :: x13 :: x14 :: o :: r) H Q := h
theorem w_s15 {x0 x1 x2 x3 x4 x5 x6 x7 x8 x9 x10 x11 x12 x13 x14 : Option V} {o p : Option V} {r : L2.St} {F : L2.St → Prop} (h : F (x0 :: x1 :: x2 :: x3 :: x4 :: x5 :: x6 :: x7 :: x8 :: x9 :: x10 :: x11 :: x12 :: x13 :: x14 :: p :: r)) : F ((x0 :: x1 :: x2 :: x3 :: x4 :: x5 :: x6 :: x7 :: x8 :: x9 :: x10 :: x11 :: x12 :: x13 :: x14 :: o :: r).set 15 p) := h
theorem w_v16 {x0 x1 x2 x3 x4 x5 x6 x7 x8 x9 x10 x11 x12 x13 x14 x15 : Option V} {r : L2.St} (h : Q v H) : tVar 16 (x0 :: x1 :: x2 :: x3 :: x4 :: x5 :: x6 :: x7 :: x8 :: x9 :: x10 :: x11 :: x12 :: x13 :: x14 :: x15 :: some v :: r) H Q := ⟨v, rfl, h⟩
theorem w_g16 {x0 x1 x2 x3 x4 x5 x6 x7 x8 x9 x10 x11 x12 x13 x14 x15 : Option V} {o : Option V} {r : L2.St} {Q : L2.St → Hp → Prop} (h : Q (x0 :: x1 :: x2 :: x3 :: x4 :: x5 :: x6 :: x7 :: x8 :: x9 :: x10 :: x11 :: x12 :: x13 :: x14 :: x15 :: some v :: r) H) : gName 16 v (x0 :: x1 :: x2 :: x3 :: x4 :: x5 :: x6 :: x7 :: x8 :: x9 :: x10 :: x11 :: x12 :: x13 :: x14 :: x15 :: o :: r) H Q := h
theorem w_s16 {x0 x1 x2 x3 x4 x5 x6 x7 x8 x9 x10 x11 x12 x13 x14 x15 : Option V} {o p : Option V} {r : L2.St} {F : L2.St → Prop} (h : F (x0 :: x1 :: x2 :: x3 :: x4 :: x5 :: x6 :: x7 :: x8 :: x9 :: x10 :: x11 :: x12 :: x13 :: x14 :: x15 :: p :: r)) : F ((x0 :: x1 :: x2 :: x3 :: x4 :: x5 :: x6 :: x7 :: x8 :: x9 :: x10 :: x11 :: x12 :: x13 :: x14 :: x15 :: o :: r).set 16 p) := h
theorem w_v17 {x0 x1 x2 x3 x4 x5 x6 x7 x8 x9 x10 x11 x12 x13 x14 x15 x16 : Option V} {r : L2.St} (h : Q v H) : tVar 17 (x0 :: x1 :: x2 :: x3 :: x4 :: x5 :: x6 :: x7 :: x8 :: x9 :: x10 :: x11 :: x12 :: x13 :: x14 :: x15 :: x16 :: some v :: r) H Q := ⟨v, rfl, h⟩
theorem w_g17 {x0 x1 x2 x3 x4 x5 x6 x7 x8 x9 x10 x11 x12 x13 x14 x15 x16 : Option V} {o : Option V} {r : L2.St} {Q : L2.St → Hp → Prop} (h : Q (x0 :: x1 :: x2 :: x3 :: x4 :: x5 :: x6 :: x7 :: x8 :: x9 :: x10 :: x11 :: x12 :: x13 :: x14 :: x15 :: x16 :: some v :: r) H) : gName 17 v (x0 :: x1 :: x2 :: x3 :: x4 :: x5 :: x6 :: x7 :: x8 :: x9 :: x10 :: x11 :: x12 :: x13 :: x14 :: x15 :: x16 :: o :: r) H Q := h
theorem w_s17 {x0 x1 x2 x3 x4 x5 x6 x7 x8 x9 x10 x11 x12 x13 x14 x15 x16 : Option V} {o p : Option V} {r : L2.St} {F : L2.St → Prop} (h : F (x0 :: x1 :: x2 :: x3 :: x4 :: x5 :: x6 :: x7 :: x8 :: x9 :: x10 :: x11 :: x12 :: x13 :: x14 :: x15 :: x16 :: p :: r)) : F ((x0 :: x1 :: x2 :: x3 :: x4 :: x5 :: x6 :: x7 :: x8 :: x9 :: x10 :: x11 :: x12 :: x13 :: x14 :: x15 :: x16 :: o :: r).set 17 p) := h
theorem w_v18 {x0 x1 x2 x3 x4 x5 x6 x7 x8 x9 x10 x11 x12 x13 x14 x15 x16 x17 : Option V} {r : L2.St} (h : Q v H) : tVar 18 (x0 :: x1 :: x2 :: x3 :: x4 :: x5 :: x6 :: x7 :: x8 :: x9 :: x10 :: x11 :: x12 :: x13 :: x14 :: x15 :: x16 :: x17 :: some v :: r) H Q := ⟨v, rfl, h⟩
theorem w_g18 {x0 x1 x2 x3 x4 x5 x6 x7 x8 x9 x10 x11 x12 x13 x14 x15 x16 x17 : Option V} {o : Option V} {r : L2.St} {Q : L2.St → Hp → Prop} (h : Q (x0 :: x1 :: x2 :: x3 :: x4 :: x5 :: x6 :: x7 :: x8 :: x9 :: x10 :: x11 :: x12 :: x13 :: x14 :: x15 :: x16 :: x17 :: some v :: r) H) : gName 18 v (x0 :: x1 :: x2 :: x3 :: x4 :: x5 :: x6 :: x7 :: x8 :: x9 :: x10 :: x11 :: x12 :: x13 :: x14 :: x15 :: x16 :: x17 :: o :: r) H Q := h
theorem w_s18 {x0 x1 x2 x3 x4 x5 x6 x7 x8 x9 x10 x11 x12 x13 x14 x15 x16 x17 : Option V} {o p : Option V} {r : L2.St} {F : L2.St → Prop} (h : F (x0 :: x1 :: x2 :: x3 :: x4 :: x5 :: x6 :: x7 :: x8 :: x9 :: x10 :: x11 :: x12 :: x13 :: x14 :: x15 :: x16 :: x17 :: p :: r)) : F ((x0 :: x1 :: x2 :: x3 :: x4 :: x5 :: x6 :: x7 :: x8 :: x9 :: x10 :: x11 :: x12 :: x13 :: x14 :: x15 :: x16 :: x17 :: o :: r).set 18 p) := h
theorem w_v19 {x0 x1 x2 x3 x4 x5 x6 x7 x8 x9 x10 x11 x12 x13 x14 x15 x16 x17 x18 : Option V} {r : L2.St} (h : Q v H) : tVar 19 (x0 :: x1 :: x2 :: x3 :: x4 :: x5 :: x6 :: x7 :: x8 :: x9 :: x10 :: x11 :: x12 :: x13 :: x14 :: x15 :: x16 :: x17 :: x18 :: some v :: r) H Q := ⟨v, rfl, h⟩
theorem w_g19 {x0 x1 x2 x3 x4 x5 x6 x7 x8 x9 x10 x11 x12 x13 x14 x15 x16 x17 x18 : Option V} {o : Option V} {r : L2.St} {Q : L2.St → Hp → Prop} (h : Q (x0 :: x1 :: x2 :: x3 :: x4 :: x5 :: x6 :: x7 :: x8 :: x9 :: x10 :: x11 :: x12 :: x13 :: x14 :: x15 :: x16 :: x17 :: x18 :: some v :: r) H) : gName 19 v (x0 :: x1 :: x2 :: x3 :: x4 :: x5 :: x6 :: x7 :: x8 :: x9 :: x10 :: x11 :: x12 :: x13 :: x14 :: x15 :: x16 :: x17 :: x18 :: o :: r) H Q := h
theorem w_s19 {x0 x1 x2 x3 x4 x5 x6 x7 x8 x9 x10 x11 x12 x13 x14 x15 x16 x17 x18 : Option V} {o p : Option V} {r : L2.St} {F : L2.St → Prop} (h : F (x0 :: x1 :: x2 :: x3 :: x4 :: x5 :: x6 :: x7 :: x8 :: x9 :: x10 :: x11 :: x12 :: x13 :: x14 :: x15 :: x16 :: x17 :: x18 :: p :: r)) : F ((x0 :: x1 :: x2 :: x3 :: x4 :: x5 :: x6 :: x7 :: x8 :: x9 :: x10 :: x11 :: x12 :: x13 :: x14 :: x15 :: x16 :: x17 :: x18 :: o :: r).set 19 p) := h
theorem w_v20 {x0 x1 x2 x3 x4 x5 x6 x7 x8 x9 x10 x11 x12 x13 x14 x15 x16 x17 x18 x19 : Option V} {r : L2.St} (h : Q v H) : tVar 20 (x0 :: x1 :: x2 :: x3 :: x4 :: x5 :: x6 :: x7 :: x8 :: x9 :: x10 :: x11 :: x12 :: x13 :: x14 :: x15 :: x16 :: x17 :: x18 :: x19 :: some v :: r) H Q := ⟨v, rfl, h⟩
theorem w_g20 {x0 x1 x2 x3 x4 x5 x6 x7 x8 x9 x10 x11 x12 x13 x14 x15 x16 x17 x18 x19 : Option V} {o : Option V} {r : L2.St} {Q : L2.St → Hp → Prop} (h : Q (x0 :: x1 :: x2 :: x3 :: x4 :: x5 :: x6 :: x7 :: x8 :: x9 :: x10 :: x11 :: x12 :: x13 :: x14 :: x15 :: x16 :: x17 :: x18 :: x19 :: some v :: r) H) : gName 20 v (x0 :: x1 :: x2 :: x3 :: x4 :: x5 :: x6 :: x7 :: x8 :: x9 :: x10 :: x11 :: x12 :: x13 :: x14 :: x15 :: x16 :: x17 :: x18 :: x19 :: o :: r) H Q := h
theorem w_s20 {x0 x1 x2 x3 x4 x5 x6 x7 x8 x9 x10 x11 x12 x13 x14 x15 x16 x17 x18 x19 : Option V} {o p : Option V} {r : L2.St} {F : L2.St → Prop} (h : F (x0 :: x1 :: x2 :: x3 :: x4 :: x5 :: x6 :: x7 :: x8 :: x9 :: x10 :: x11 :: x12 :: x13 :: x14 :: x15 :: x16 :: x17 :: x18 :: x19 :: p :: r)) : F ((x0 :: x1 :: x2 :: x3 :: x4 :: x5 :: x6 :: x7 :: x8 :: x9 :: x10 :: x11 :: x12 :: x13 :: x14 :: x15 :: x16 :: x17 :: x18 :: x19 :: o :: r).set 20 p) := h
theorem w_v21 {x0 x1 x2 x3 x4 x5 x6 x7 x8 x9 x10 x11 x12 x13 x14 x15 x16 x17 x18 x19 x20 : Option V} {r : L2.St} (h : Q v H) : tVar 21 (x0 :: x1 :: x2 :: x3 :: x4 :: x5 :: x6 :: x7 :: x8 :: x9 :: x10 :: x11 :: x12 :: x13 :: x14 :: x15 :: x16 :: x17 :: x18 :: x19 :: x20 :: some v :: r) H Q := ⟨v, rfl, h⟩
theorem w_g21 {x0 x1 x2 x3 x4 x5 x6 x7 x8 x9 x10 x11 x12 x13 x14 x15 x16 x17 x18 x19 x20 : Option V} {o : Option V} {r : L2.St} {Q : L2.St → Hp → Prop} (h : Q (x0 :: x1 :: x2 :: x3 :: x4 :: x5 :: x6 :: x7 :: x8 :: x9 :: x10 :: x11 :: x12 :: x13 :: x14 :: x15 :: x16 :: x17 :: x18 :: x19 :: x20 :: some v :: r) H) : gName 21 v (x0 :: x1 :: x2 :: x3 :: x4 :: x5 :: x6 :: x7 :: x8 :: x9 :: x10 :: x11 :: x12 :: x13 :: x14 :: x15 :: x16 :: x17 :: x18 :: x19 :: x20 :: o :: r) H Q := h
theorem w_s21 {x0 x1 x2 x3 x4 x5 x6 x7 x8 x9 x10 x11 x12 x13 x14 x15 x16 x17 x18 x19 x20 : Option V} {o p : Option V} {r : L2.St} {F : L2.St → Prop} (h : F (x0 :: x1 :: x2 :: x3 :: x4 :: x5 :: x6 :: x7 :: x8 :: x9 :: x10 :: x11 :: x12 :: x13 :: x14 :: x15 :: x16 :: x17 :: x18 :: x19 :: x20 :: p :: r)) : F ((x0 :: x1 :: x2 :: x3 :: x4 :: x5 :: x6 :: x7 :: x8 :: x9 :: x10 :: x11 :: x12 :: x13 :: x14 :: x15 :: x16 :: x17 :: x18 :: x19 :: x20 :: o :: r).set 21 p) := h
theorem w_v22 {x0 x1 x2 x3 x4 x5 x6 x7 x8 x9 x10 x11 x12 x13 x14 x15 x16 x17 x18 x19 x20 x21 : Option V} {r : L2.St} (h : Q v H) : tVar 22 (x0 :: x1 :: x2 :: x3 :: x4 :: x5 :: x6 :: x7 :: x8 :: x9 :: x10 :: x11 :: x12 :: x13 :: x14 :: x15 :: x16 :: x17 :: x18 :: x19 :: x20 :: x21 :: some v :: r) H Q := ⟨v, rfl, h⟩
theorem w_g22 {x0 x1 x2 x3 x4 x5 x6 x7 x8 x9 x10 x11 x12 x13 x14 x15 x16 x17 x18 x19 x20 x21 : Option V} {o : Option V} {r : L2.St} {Q : L2.St → Hp → Prop} (h : Q (x0 :: x1 :: x2 :: x3 :: x4 :: x5 :: x6 :: x7 :: x8 :: x9 :: x10 :: x11 :: x12 :: x13 :: x14 :: x15 :: x16 :: x17 :: x18 :: x19 :: x20 :: x21 :: some v :: r) H) : gName 22 v (x0 :: x1 :: x2 :: x3 :: x4 :: x5 :: x6 :: x7 :: x8 :: x9 :: x10 :: x11 :: x12 :: x13 :: x14 :: x15 :: x16 :: x17 :: x18 :: x19 :: x20 :: x21 :: o :: r) H Q := h
theorem w_s22 {x0 x1 x2 x3 x4 x5 x6 x7 x8 x9 x10 x11 x12 x13 x14 x15 x16 x17 x18 x19 x20 x21 : Option V} {o p : Option V} {r : L2.St} {F : L2.St → Prop} (h : F (x0 :: x1 :: x2 :: x3 :: x4 :: x5 :: x6 :: x7 :: x8 :: x9 :: x10 :: x11 :: x12 :: x13 :: x14 :: x15 :: x16 :: x17 :: x18 :: x19 :: x20 :: x21 :: p :: r)) : F ((x0 :: x1 :: x2 :: x3 :: x4 :: x5 :: x6 :: x7 :: x8 :: x9 :: x10 :: x11 :: x12 :: x13 :: x14 :: x15 :: x16 :: x17 :: x18 :: x19 :: x20 :: x21 :: o :: r).set 22 p) := h
theorem w_v23 {x0 x1 x2 x3 x4 x5 x6 x7 x8 x9 x10 x11 x12 x13 x14 x15 x16 x17 x18 x19 x20 x21 x22 : Option V} {r : L2.St} (h : Q v H) : tVar 23 (x0 :: x1 :: x2 :: x3 :: x4 :: x5 :: x6 :: x7 :: x8 :: x9 :: x10 :: x11 :: x12 :: x13 :: x14 :: x15 :: x16 :: x17 :: x18 :: x19 :: x20 :: x21 :: x22 :: some v :: r) H Q := ⟨v, rfl, h⟩
theorem w_g23 {x0 x1 x2 x3 x4 x5 x6 x7 x8 x9 x10 x11 x12 x13 x14 x15 x16 x17 x18 x19 x20 x21 x22 : Option V} {o : Option V} {r : L2.St} {Q : L2.St → Hp → Prop} (h : Q (x0 :: x1 :: x2 :: x3 :: x4 :: x5 :: x6 :: x7 :: x8 :: x9 :: x10 :: x11 :: x12 :: x13 :: x14 :: x15 :: x16 :: x17 :: x18 :: x19 :: x20 :: x21 :: x22 :: some v :: r) H) : gName 23 v (x0 :: x1 :: x2 :: x3 :: x4 :: x5 :: x6 :: x7 :: x8 :: x9 :: x10 :: x11 :: x12 :: x13 :: x14 :: x15 :: x16 :: x17 :: x18 :: x19 :: x20 :: x21 :: x22 :: o :: r) H Q := h
theorem w_s23 {x0 x1 x2 x3 x4 x5 x6 x7 x8 x9 x10 x11 x12 x13 x14 x15 x16 x17 x18 x19 x20 x21 x22 : Option V} {o p : Option V} {r : L2.St} {F : L2.St → Prop} (h : F (x0 :: x1 :: x2 :: x3 :: x4 :: x5 :: x6 :: x7 :: x8 :: x9 :: x10 :: x11 :: x12 :: x13 :: x14 :: x15 :: x16 :: x17 :: x18 :: x19 :: x20 :: x21 :: x22 :: p :: r)) : F ((x0 :: x1 :: x2 :: x3 :: x4 :: x5 :: x6 :: x7 :: x8 :: x9 :: x10 :: x11 :: x12 :: x13 :: x14 :: x15 :: x16 :: x17 :: x18 :: x19 :: x20 :: x21 :: x22 :: o :: r).set 23 p) := h
theorem w_v24 {x0 x1 x2 x3 x4 x5 x6 x7 x8 x9 x10 x11 x12 x13 x14 x15 x16 x17 x18 x19 x20 x21 x22 x23 : Option V} {r : L2.St} (h : Q v H) : tVar 24 (x0 :: x1 :: x2 :: x3 :: x4 :: x5 :: x6 :: x7 :: x8 :: x9 :: x10 :: x11 :: x12 :: x13 :: x14 :: x15 :: x16 :: x17 :: x18 :: x19 :: x20 :: x21 :: x22 :: x23 :: some v :: r) H Q := ⟨v, rfl, h⟩
theorem w_g24 {x0 x1 x2 x3 x4 x5 x6 x7 x8 x9 x10 x11 x12 x13 x14 x15 x16 x17 x18 x19 x20 x21 x22 x23 : Option V} {o : Option V} {r : L2.St} {Q : L2.St → Hp → Prop} (h : Q (x0 :: x1 :: x2 :: x3 :: x4 :: x5 :: x6 :: x7 :: x8 :: x9 :: x10 :: x11 :: x12 :: x13 :: x14 :: x15 :: x16 :: x17 :: x18 :: x19 :: x20 :: x21 :: x22 :: x23 :: some v :: r) H) : gName 24 v (x0 :: x1 :: x2 :: x3 :: x4 :: x5 :: x6 :: x7 :: x8 :: x9 :: x10 :: x11 :: x12 :: x13 :: x14 :: x15 :: x16 :: x17 :: x18 :: x19 :: x20 :: x21 :: x22 :: x23 :: o :: r) H Q := h
theorem w_s24 {x0 x1 x2 x3 x4 x5 x6 x7 x8 x9 x10 x11 x12 x13 x14 x15 x16 x17 x18 x19 x20 x21 x22 x23 : Option V} {o p : Option V} {r : L2.St} {F : L2.St → Prop} (h : F (x0 :: x1 :: x2 :: x3 :: x4 :: x5 :: x6 :: x7 :: x8 :: x9 :: x10 :: x11 :: x12 :: x13 :: x14 :: x15 :: x16 :: x17 :: x18 :: x19 :: x20 :: x21 :: x22 :: x23 :: p :: r)) : F ((x0 :: x1 :: x2 :: x3 :: x4 :: x5 :: x6 :: x7 :: x8 :: x9 :: x10 :: x11 :: x12 :: x13 :: x14 :: x15 :: x16 :: x17 :: x18 :: x19 :: x20 :: x21 :: x22 :: x23 :: o :: r).set 24 p) := h
theorem w_v25 {x0 x1 x2 x3 x4 x5 x6 x7 x8 x9 x10 x11 x12 x13 x14 x15 x16 x17 x18 x19 x20 x21 x22 x23 x24 : Option V} {r : L2.St} (h : Q v H) : tVar 25 (x0 :: x1 :: x2 :: x3 :: x4 :: x5 :: x6 :: x7 :: x8 :: x9 :: x10 :: x11 :: x12 :: x13 :: x14 :: x15 :: x16 :: x17 :: x18 :: x19 :: x20 :: x21 :: x22 :: x23 :: x24 :: some v :: r) H Q := ⟨v, rfl, h⟩
theorem w_g25 {x0 x1 x2 x3 x4 x5 x6 x7 x8 x9 x10 x11 x12 x13 x14 x15 x16 x17 x18 x19 x20 x21 x22 x23 x24 : Option V} {o : Option V} {r : L2.St} {Q : L2.St → Hp → Prop} (h : Q (x0 :: x1 :: x2 :: x3 :: x4 :: x5 :: x6 :: x7 :: x8 :: x9 :: x10 :: x11 :: x12 :: x13 :: x14 :: x15 :: x16 :: x17 :: x18 :: x19 :: x20 :: x21 :: x22 :: x23 :: x24 :: some v :: r) H) : gName 25 v (x0 :: x1 :: x2 :: x3 :: x4 :: x5 :: x6 :: x7 :: x8 :: x9 :: x10 :: x11 :: x12 :: x13 :: x14 :: x15 :: x16 :: x17 :: x18 :: x19 :: x20 :: x21 :: x22 :: x23 :: x24 :: o :: r) H Q := h
theorem w_s25 {x0 x1 x2 x3 x4 x5 x6 x7 x8 x9 x10 x11 x12 x13 x14 x15 x16 x17 x18 x19 x20 x21 x22 x23 x24 : Option V} {o p : Option V} {r : L2.St} {F : L2.St → Prop} (h : F (x0 :: x1 :: x2 :: x3 :: x4 :: x5 :: x6 :: x7 :: x8 :: x9 :: x10 :: x11 :: x12 :: x13 :: x14 :: x15 :: x16 :: x17 :: x18 :: x19 :: x20 :: x21 :: x22 :: x23 :: x24 :: p :: r)) : F ((x0 :: x1 :: x2 :: x3 :: x4 :: x5 :: x6 :: x7 :: x8 :: x9 :: x10 :: x11 :: x12 :: x13 :: x14 :: x15 :: x16 :: x17 :: x18 :: x19 :: x20 :: x21 :: x22 :: x23 :: x24 :: o :: r).set 25 p) := h
theorem w_v26 {x0 x1 x2 x3 x4 x5 x6 x7 x8 x9 x10 x11 x12 x13 x14 x15 x16 x17 x18 x19 x20 x21 x22 x23 x24 x25 : Option V} {r : L2.St} (h : Q v H) : tVar 26 (x0 :: x1 :: x2 :: x3 :: x4 :: x5 :: x6 :: x7 :: x8 :: x9 :: x10 :: x11 :: x12 :: x13 :: x14 :: x15 :: x16 :: x17 :: x18 :: x19 :: x20 :: x21 :: x22 :: x23 :: x24 :: x25 :: some v :: r) H Q := ⟨v, rfl, h⟩
theorem w_g26 {x0 x1 x2 x3 x4 x5 x6 x7 x8 x9 x10 x11 x12 x13 x14 x15 x16 x17 x18 x19 x20 x21 x22 x23 x24 x25 : Option V} {o : Option V} {r : L2.St} {Q : L2.St → Hp → Prop} (h : Q (x0 :: x1 :: x2 :: x3 :: x4 :: x5 :: x6 :: x7 :: x8 :: x9 :: x10 :: x11 :: x12 :: x13 :: x14 :: x15 :: x16 :: x17 :: x18 :: x19 :: x20 :: x21 :: x22 :: x23 :: x24 :: x25 :: some v :: r) H) : gName 26 v (x0 :: x1 :: x2 :: x3 :: x4 :: x5 :: x6 :: x7 :: x8 :: x9 :: x10 :: x11 :: x12 :: x13 :: x14 :: x15 :: x16 :: x17 :: x18 :: x19 :: x20 :: x21 :: x22 :: x23 :: x24 :: x25 :: o :: r) H Q := h
theorem w_s26 {x0 x1 x2 x3 x4 x5 x6 x7 x8 x9 x10 x11 x12 x13 x14 x15 x16 x17 x18 x19 x20 x21 x22 x23 x24 x25 : Option V} {o p : Option V} {r : L2.St} {F : L2.St → Prop} (h : F (x0 :: x1 :: x2 :: x3 :: x4 :: x5 :: x6 :: x7 :: x8 :: x9 :: x10 :: x11 :: x12 :: x13 :: x14 :: x15 :: x16 :: x17 :: x18 :: x19 :: x20 :: x21 :: x22 :: x23 :: x24 :: x25 :: p :: r)) : F ((x0 :: x1 :: x2 :: x3 :: x4 :: x5 :: x6 :: x7 :: x8 :: x9 :: x10 :: x11 :: x12 :: x13 :: x14 :: x15 :: x16 :: x17 :: x18 :: x19 :: x20 :: x21 :: x22 :: x23 :: x24 :: x25 :: o :: r).set 26 p) := h
theorem w_v27 {x0 x1 x2 x3 x4 x5 x6 x7 x8 x9 x10 x11 x12 x13 x14 x15 x16 x17 x18 x19 x20 x21 x22 x23 x24 x25 x26 : Option V} {r : L2.St} (h : Q v H) : tVar 27 (x0 :: x1 :: x2 :: x3 :: x4 :: x5 :: x6 :: x7 :: x8 :: x9 :: x10 :: x11 :: x12 :: x13 :: x14 :: x15 :: x16 :: x17 :: x18 :: x19 :: x20 :: x21 :: x22 :: x23 :: x24 :: x25 :: x26 :: some v :: r) H Q := ⟨v, rfl, h⟩
theorem w_g27 {x0 x1 x2 x3 x4 x5 x6 x7 x8 x9 x10 x11 x12 x13 x14 x15 x16 x17 x18 x19 x20 x21 x22 x23 x24 x25 x26 : Option V} {o : Option V} {r : L2.St} {Q : L2.St → Hp → Prop} (h : Q (x0 :: x1 :: x2 :: x3 :: x4 :: x5 :: x6 :: x7 :: x8 :: x9 :: x10 :: x11 :: x12 :: x13 :: x14 :: x15 :: x16 :: x17 :: x18 :: x19 :: x20 :: x21 :: x22 :: x23 :: x24 :: x25 :: x26 :: some v :: r) H) : gName 27 v (x0 :: x1 :: x2 :: x3 :: x4 :: x5 :: x6 :: x7 :: x8 :: x9 :: x10 :: x11 :: x12 :: x13 :: x14 :: x15 :: x16 :: x17 :: x18 :: x19 :: x20 :: x21 :: x22 :: x23 :: x24 :: x25 :: x26 :: o :: r) H Q := h
theorem w_s27 {x0 x1 x2 x3 x4 x5 x6 x7 x8 x9 x10 x11 x12 x13 x14 x15 x16 x17 x18 x19 x20 x21 x22 x23 x24 x25 x26 : Option V} {o p : Option V} {r : L2.St} {F : L2.St → Prop} (h : F (x0 :: x1 :: x2 :: x3 :: x4 :: x5 :: x6 :: x7 :: x8 :: x9 :: x10 :: x11 :: x12 :: x13 :: x14 :: x15 :: x16 :: x17 :: x18 :: x19 :: x20 :: x21 :: x22 :: x23 :: x24 :: x25 :: x26 :: p :: r)) : F ((x0 :: x1 :: x2 :: x3 :: x4 :: x5 :: x6 :: x7 :: x8 :: x9 :: x10 :: x11 :: x12 :: x13 :: x14 :: x15 :: x16 :: x17 :: x18 :: x19 :: x20 :: x21 :: x22 :: x23 :: x24 :: x25 :: x26 :: o :: r).set 27 p) := h
theorem w_v28 {x0 x1 x2 x3 x4 x5 x6 x7 x8 x9 x10 x11 x12 x13 x14 x15 x16 x17 x18 x19 x20 x21 x22 x23 x24 x25 x26 x27 : Option V} {r : L2.St} (h : Q v H) : tVar 28 (x0 :: x1 :: x2 :: x3 :: x4 :: x5 :: x6 :: x7 :: x8 :: x9 :: x10 :: x11 :: x12 :: x13 :: x14 :: x15 :: x16 :: x17 :: x18 :: x19 :: x20 :: x21 :: x22 :: x23 :: x24 :: x25 :: x26 :: x27 :: some v :: r) H Q := ⟨v, rfl, h⟩
theorem w_g28 {x0 x1 x2 x3 x4 x5 x6 x7 x8 x9 x10 x11 x12 x13 x14 x15 x16 x17 x18 x19 x20 x21 x22 x23 x24 x25 x26 x27 : Option V} {o : Option V} {r : L2.St} {Q : L2.St → Hp → Prop} (h : Q (x0 :: x1 :: x2 :: x3 :: x4 :: x5 :: x6 :: x7 :: x8 :: x9 :: x10 :: x11 :: x12 :: x13 :: x14 :: x15 :: x16 :: x17 :: x18 :: x19 :: x20 :: x21 :: x22 :: x23 :: x24 :: x25 :: x26 :: x27 :: some v :: r) H) : gName 28 v (x0 :: x1 :: x2 :: x3 :: x4 :: x5 :: x6 :: x7 :: x8 :: x9 :: x10 :: x11 :: x12 :: x13 :: x14 :: x15 :: x16 :: x17 :: x18 :: x19 :: x20 :: x21 :: x22 :: x23 :: x24 :: x25 :: x26 :: x27 :: o :: r) H Q := h
theorem w_s28 {x0 x1 x2 x3 x4 x5 x6 x7 x8 x9 x10 x11 x12 x13 x14 x15 x16 x17 x18 x19 x20 x21 x22 x23 x24 x25 x26 x27 : Option V} {o p : Option V} {r : L2.St} {F : L2.St → Prop} (h : F (x0 :: x1 :: x2 :: x3 :: x4 :: x5 :: x6 :: x7 :: x8 :: x9 :: x10 :: x11 :: x12 :: x13 :: x14 :: x15 :: x16 :: x17 :: x18 :: x19 :: x20 :: x21 :: x22 :: x23 :: x24 :: x25 :: x26 :: x27 :: p :: r)) : F ((x0 :: x1 :: x2 :: x3 :: x4 :: x5 :: x6 :: x7 :: x8 :: x9 :: x10 :: x11 :: x12 :: x13 :: x14 :: x15 :: x16 :: x17 :: x18 :: x19 :: x20 :: x21 :: x22 :: x23 :: x24 :: x25 :: x26 :: x27 :: o :: r).set 28 p) := h
theorem w_v29 {x0 x1 x2 x3 x4 x5 x6 x7 x8 x9 x10 x11 x12 x13 x14 x15 x16 x17 x18 x19 x20 x21 x22 x23 x24 x25 x26 x27 x28 : Option V} {r : L2.St} (h : Q v H) : tVar 29 (x0 :: x1 :: x2 :: x3 :: x4 :: x5 :: x6 :: x7 :: x8 :: x9 :: x10 :: x11 :: x12 :: x13 :: x14 :: x15 :: x16 :: x17 :: x18 :: x19 :: x20 :: x21 :: x22 :: x23 :: x24 :: x25 :: x26 :: x27 :: x28 :: some v :: r) H Q := ⟨v, rfl, h⟩
theorem w_g29 {x0 x1 x2 x3 x4 x5 x6 x7 x8 x9 x10 x11 x12 x13 x14 x15 x16 x17 x18 x19 x20 x21 x22 x23 x24 x25 x26 x27 x28 : Option V} {o : Option V} {r : L2.St} {Q : L2.St → Hp → Prop} (h : Q (x0 :: x1 :: x2 :: x3 :: x4 :: x5 :: x6 :: x7 :: x8 :: x9 :: x10 :: x11 :: x12 :: x13 :: x14 :: x15 :: x16 :: x17 :: x18 :: x19 :: x20 :: x21 :: x22 :: x23 :: x24 :: x25 :: x26 :: x27 :: x28 :: some v :: r) H) : gName 29 v (x0 :: x1 :: x2 :: x3 :: x4 :: x5 :: x6 :: x7 :: x8 :: x9 :: x10 :: x11 :: x12 :: x13 :: x14 :: x15 :: x16 :: x17 :: x18 :: x19 :: x20 :: x21 :: x22 :: x23 :: x24 :: x25 :: x26 :: x27 :: x28 :: o :: r) H Q := h
theorem w_s29 {x0 x1 x2 x3 x4 x5 x6 x7 x8 x9 x10 x11 x12 x13 x14 x15 x16 x17 x18 x19 x20 x21 x22 x23 x24 x25 x26 x27 x28 : Option V} {o p : Option V} {r : L2.St} {F : L2.St → Prop} (h : F (x0 :: x1 :: x2 :: x3 :: x4 :: x5 :: x6 :: x7 :: x8 :: x9 :: x10 :: x11 :: x12 :: x13 :: x14 :: x15 :: x16 :: x17 :: x18 :: x19 :: x20 :: x21 :: x22 :: x23 :: x24 :: x25 :: x26 :: x27 :: x28 :: p :: r)) : F ((x0 :: x1 :: x2 :: x3 :: x4 :: x5 :: x6 :: x7 :: x8 :: x9 :: x10 :: x11 :: x12 :: x13 :: x14 :: x15 :: x16 :: x17 :: x18 :: x19 :: x20 :: x21 :: x22 :: x23 :: x24 :: x25 :: x26 :: x27 :: x28 :: o :: r).set 29 p) := h
theorem w_v30 {x0 x1 x2 x3 x4 x5 x6 x7 x8 x9 x10 x11 x12 x13 x14 x15 x16 x17 x18 x19 x20 x21 x22 x23 x24 x25 x26 x27 x28 x29 : Option V} {r : L2.St} (h : Q v H) : tVar 30 (x0 :: x1 :: x2 :: x3 :: x4 :: x5 :: x6 :: x7 :: x8 :: x9 :: x10 :: x11 :: x12 :: x13 :: x14 :: x15 :: x16 :: x17 :: x18 :: x19 :: x20 :: x21 :: x22 :: x23 :: x24 :: x25 :: x26 :: x27 :: x28 :: x29 :: some v :: r) H Q := ⟨v, rfl, h⟩
theorem w_g30 {x0 x1 x2 x3 x4 x5 x6 x7 x8 x9 x10 x11 x12 x13 x14 x15 x16 x17 x18 x19 x20 x21 x22 x23 x24 x25 x26 x27 x28 x29 : Option V} {o : Option V} {r : L2.St} {Q : L2.St → Hp → Prop} (h : Q (x0 :: x1 :: x2 :: x3 :: x4 :: x5 :: x6 :: x7 :: x8 :: x9 :: x10 :: x11 :: x12 :: x13 :: x14 :: x15 :: x16 :: x17 :: x18 :: x19 :: x20 :: x21 :: x22 :: x23 :: x24 :: x25 :: x26 :: x27 :: x28 :: x29 :: some v :: r) H) : gName 30 v (x0 :: x1 :: x2 :: x3 :: x4 :: x5 :: x6 :: x7 :: x8 :: x9 :: x10 :: x11 :: x12 :: x13 :: x14 :: x15 :: x16 :: x17 :: x18 :: x19 :: x20 :: x21 :: x22 :: x23 :: x24 :: x25 :: x26 :: x27 :: x28 :: x29 :: o :: r) H Q := h
theorem w_s30 {x0 x1 x2 x3 x4 x5 x6 x7 x8 x9 x10 x11 x12 x13 x14 x15 x16 x17 x18 x19 x20 x21 x22 x23 x24 x25 x26 x27 x28 x29 : Option V} {o p : Option V} {r : L2.St} {F : L2.St → Prop} (h : F (x0 :: x1 :: x2 :: x3 :: x4 :: x5 :: x6 :: x7 :: x8 :: x9 :: x10 :: x11 :: x12 :: x13 :: x14 :: x15 :: x16 :: x17 :: x18 :: x19 :: x20 :: x21 :: x22 :: x23 :: x24 :: x25 :: x26 :: x27 :: x28 :: x29 :: p :: r)) : F ((x0 :: x1 :: x2 :: x3 :: x4 :: x5 :: x6 :: x7 :: x8 :: x9 :: x10 :: x11 :: x12 :: x13 :: x14 :: x15 :: x16 :: x17 :: x18 :: x19 :: x20 :: x21 :: x22 :: x23 :: x24 :: x25 :: x26 :: x27 :: x28 :: x29 :: o :: r).set 30 p) := h
end
theorem w_pow0 {Q : VK} {H : Hp} (h : Q (.int 1) H) : rI CPow (fun i j => .int (i ^ j.toNat)) (.int 10) (.int 0) H Q := ⟨10, 0, rfl, rfl, ⟨by decide, by decide, by decide⟩, h⟩
theorem w_pow1 {Q : VK} {H : Hp} (h : Q (.int 10) H) : rI CPow (fun i j => .int (i ^ j.toNat)) (.int 10) (.int 1) H Q := ⟨10, 1, rfl, rfl, ⟨by decide, by decide, by decide⟩, h⟩
theorem w_pow2 {Q : VK} {H : Hp} (h : Q (.int 100) H) : rI CPow (fun i j => .int (i ^ j.toNat)) (.int 10) (.int 2) H Q := ⟨10, 2, rfl, rfl, ⟨by decide, by decide, by decide⟩, h⟩
theorem w_pow3 {Q : VK} {H : Hp} (h : Q (.int 1000) H) : rI CPow (fun i j => .int (i ^ j.toNat)) (.int 10) (.int 3) H Q := ⟨10, 3, rfl, rfl, ⟨by decide, by decide, by decide⟩, h⟩
theorem w_pow4 {Q : VK} {H : Hp} (h : Q (.int 10000) H) : rI CPow (fun i j => .int (i ^ j.toNat)) (.int 10) (.int 4) H Q := ⟨10, 4, rfl, rfl, ⟨by decide, by decide, by decide⟩, h⟩
theorem w_pow5 {Q : VK} {H : Hp} (h : Q (.int 100000) H) : rI CPow (fun i j => .int (i ^ j.toNat)) (.int 10) (.int 5) H Q := ⟨10, 5, rfl, rfl, ⟨by decide, by decide, by decide⟩, h⟩
theorem w_pow6 {Q : VK} {H : Hp} (h : Q (.int 1000000) H) : rI CPow (fun i j => .int (i ^ j.toNat)) (.int 10) (.int 6) H Q := ⟨10, 6, rfl, rfl, ⟨by decide, by decide, by decide⟩, h⟩
theorem w_pow7 {Q : VK} {H : Hp} (h : Q (.int 10000000) H) : rI CPow (fun i j => .int (i ^ j.toNat)) (.int 10) (.int 7) H Q := ⟨10, 7, rfl, rfl, ⟨by decide, by decide, by decide⟩, h⟩
theorem w_pow8 {Q : VK} {H : Hp} (h : Q (.int 100000000) H) : rI CPow (fun i j => .int (i ^ j.toNat)) (.int 10) (.int 8) H Q := ⟨10, 8, rfl, rfl, ⟨by decide, by decide, by decide⟩, h⟩
theorem w_pow9 {Q : VK} {H : Hp} (h : Q (.int 1000000000) H) : rI CPow (fun i j => .int (i ^ j.toNat)) (.int 10) (.int 9) H Q := ⟨10, 9, rfl, rfl, ⟨by decide, by decide, by decide⟩, h⟩
theorem w_pow10 {Q : VK} {H : Hp} (h : Q (.int 10000000000) H) : rI CPow (fun i j => .int (i ^ j.toNat)) (.int 10) (.int 10) H Q := ⟨10, 10, rfl, rfl, ⟨by decide, by decide, by decide⟩, h⟩
theorem w_pow11 {Q : VK} {H : Hp} (h : Q (.int 100000000000) H) : rI CPow (fun i j => .int (i ^ j.toNat)) (.int 10) (.int 11) H Q := ⟨10, 11, rfl, rfl, ⟨by decide, by decide, by decide⟩, h⟩
theorem w_pow12 {Q : VK} {H : Hp} (h : Q (.int 1000000000000) H) : rI CPow (fun i j => .int (i ^ j.toNat)) (.int 10) (.int 12) H Q := ⟨10, 12, rfl, rfl, ⟨by decide, by decide, by decide⟩, h⟩
theorem w_pow13 {Q : VK} {H : Hp} (h : Q (.int 10000000000000) H) : rI CPow (fun i j => .int (i ^ j.toNat)) (.int 10) (.int 13) H Q := ⟨10, 13, rfl, rfl, ⟨by decide, by decide, by decide⟩, h⟩
theorem w_pow14 {Q : VK} {H : Hp} (h : Q (.int 100000000000000) H) : rI CPow (fun i j => .int (i ^ j.toNat)) (.int 10) (.int 14) H Q := ⟨10, 14, rfl, rfl, ⟨by decide, by decide, by decide⟩, h⟩
theorem w_pow15 {Q : VK} {H : Hp} (h : Q (.int 1000000000000000) H) : rI CPow (fun i j => .int (i ^ j.toNat)) (.int 10) (.int 15) H Q := ⟨10, 15, rfl, rfl, ⟨by decide, by decide, by decide⟩, h⟩
theorem w_pow16 {Q : VK} {H : Hp} (h : Q (.int 10000000000000000) H) : rI CPow (fun i j => .int (i ^ j.toNat)) (.int 10) (.int 16) H Q := ⟨10, 16, rfl, rfl, ⟨by decide, by decide, by decide⟩, h⟩
theorem w_pow17 {Q : VK} {H : Hp} (h : Q (.int 100000000000000000) H) : rI CPow (fun i j => .int (i ^ j.toNat)) (.int 10) (.int 17) H Q := ⟨10, 17, rfl, rfl, ⟨by decide, by decide, by decide⟩, h⟩
theorem w_pow18 {Q : VK} {H : Hp} (h : Q (.int 1000000000000000000) H) : rI CPow (fun i j => .int (i ^ j.toNat)) (.int 10) (.int 18) H Q := ⟨10, 18, rfl, rfl, ⟨by decide, by decide, by decide⟩, h⟩
theorem w_pow19 {Q : VK} {H : Hp} (h : Q (.int 10000000000000000000) H) : rI CPow (fun i j => .int (i ^ j.toNat)) (.int 10) (.int 19) H Q := ⟨10, 19, rfl, rfl, ⟨by decide, by decide, by decide⟩, h⟩
theorem w_pow20 {Q : VK} {H : Hp} (h : Q (.int 100000000000000000000) H) : rI CPow (fun i j => .int (i ^ j.toNat)) (.int 10) (.int 20) H Q := ⟨10, 20, rfl, rfl, ⟨by decide, by decide, by decide⟩, h⟩
theorem w_pow21 {Q : VK} {H : Hp} (h : Q (.int 1000000000000000000000) H) : rI CPow (fun i j => .int (i ^ j.toNat)) (.int 10) (.int 21) H Q := ⟨10, 21, rfl, rfl, ⟨by decide, by decide, by decide⟩, h⟩
theorem w_pow22 {Q : VK} {H : Hp} (h : Q (.int 10000000000000000000000) H) : rI CPow (fun i j => .int (i ^ j.toNat)) (.int 10) (.int 22) H Q := ⟨10, 22, rfl, rfl, ⟨by decide, by decide, by decide⟩, h⟩
theorem w_pow23 {Q : VK} {H : Hp} (h : Q (.int 100000000000000000000000) H) : rI CPow (fun i j => .int (i ^ j.toNat)) (.int 10) (.int 23) H Q := ⟨10, 23, rfl, rfl, ⟨by decide, by decide, by decide⟩, h⟩
theorem w_pow24 {Q : VK} {H : Hp} (h : Q (.int 1000000000000000000000000) H) : rI CPow (fun i j => .int (i ^ j.toNat)) (.int 10) (.int 24) H Q := ⟨10, 24, rfl, rfl, ⟨by decide, by decide, by decide⟩, h⟩
theorem w_pow25 {Q : VK} {H : Hp} (h : Q (.int 10000000000000000000000000) H) : rI CPow (fun i j => .int (i ^ j.toNat)) (.int 10) (.int 25) H Q := ⟨10, 25, rfl, rfl, ⟨by decide, by decide, by decide⟩, h⟩
theorem w_pow26 {Q : VK} {H : Hp} (h : Q (.int 100000000000000000000000000) H) : rI CPow (fun i j => .int (i ^ j.toNat)) (.int 10) (.int 26) H Q := ⟨10, 26, rfl, rfl, ⟨by decide, by decide, by decide⟩, h⟩
theorem w_pow27 {Q : VK} {H : Hp} (h : Q (.int 1000000000000000000000000000) H) : rI CPow (fun i j => .int (i ^ j.toNat)) (.int 10) (.int 27) H Q := ⟨10, 27, rfl, rfl, ⟨by decide, by decide, by decide⟩, h⟩
theorem w_pow28 {Q : VK} {H : Hp} (h : Q (.int 10000000000000000000000000000) H) : rI CPow (fun i j => .int (i ^ j.toNat)) (.int 10) (.int 28) H Q := ⟨10, 28, rfl, rfl, ⟨by decide, by decide, by decide⟩, h⟩
theorem w_pow29 {Q : VK} {H : Hp} (h : Q (.int 100000000000000000000000000000) H) : rI CPow (fun i j => .int (i ^ j.toNat)) (.int 10) (.int 29) H Q := ⟨10, 29, rfl, rfl, ⟨by decide, by decide, by decide⟩, h⟩
theorem w_pow30 {Q : VK} {H : Hp} (h : Q (.int 1000000000000000000000000000000) H) : rI CPow (fun i j => .int (i ^ j.toNat)) (.int 10) (.int 30) H Q := ⟨10, 30, rfl, rfl, ⟨by decide, by decide, by decide⟩, h⟩
theorem w_pow31 {Q : VK} {H : Hp} (h : Q (.int 10000000000000000000000000000000) H) : rI CPow (fun i j => .int (i ^ j.toNat)) (.int 10) (.int 31) H Q := ⟨10, 31, rfl, rfl, ⟨by decide, by decide, by decide⟩, h⟩
theorem w_pow32 {Q : VK} {H : Hp} (h : Q (.int 100000000000000000000000000000000) H) : rI CPow (fun i j => .int (i ^ j.toNat)) (.int 10) (.int 32) H Q := ⟨10, 32, rfl, rfl, ⟨by decide, by decide, by decide⟩, h⟩
theorem w_pow33 {Q : VK} {H : Hp} (h : Q (.int 1000000000000000000000000000000000) H) : rI CPow (fun i j => .int (i ^ j.toNat)) (.int 10) (.int 33) H Q := ⟨10, 33, rfl, rfl, ⟨by decide, by decide, by decide⟩, h⟩
theorem w_pow34 {Q : VK} {H : Hp} (h : Q (.int 10000000000000000000000000000000000) H) : rI CPow (fun i j => .int (i ^ j.toNat)) (.int 10) (.int 34) H Q := ⟨10, 34, rfl, rfl, ⟨by decide, by decide, by decide⟩, h⟩
theorem w_pow35 {Q : VK} {H : Hp} (h : Q (.int 100000000000000000000000000000000000) H) : rI CPow (fun i j => .int (i ^ j.toNat)) (.int 10) (.int 35) H Q := ⟨10, 35, rfl, rfl, ⟨by decide, by decide, by decide⟩, h⟩
theorem w_pow36 {Q : VK} {H : Hp} (h : Q (.int 1000000000000000000000000000000000000) H) : rI CPow (fun i j => .int (i ^ j.toNat)) (.int 10) (.int 36) H Q := ⟨10, 36, rfl, rfl, ⟨by decide, by decide, by decide⟩, h⟩
theorem w_pow37 {Q : VK} {H : Hp} (h : Q (.int 10000000000000000000000000000000000000) H) : rI CPow (fun i j => .int (i ^ j.toNat)) (.int 10) (.int 37) H Q := ⟨10, 37, rfl, rfl, ⟨by decide, by decide, by decide⟩, h⟩
theorem w_pow38 {Q : VK} {H : Hp} (h : Q (.int 100000000000000000000000000000000000000) H) : rI CPow (fun i j => .int (i ^ j.toNat)) (.int 10) (.int 38) H Q := ⟨10, 38, rfl, rfl, ⟨by decide, by decide, by decide⟩, h⟩
theorem w_pow39 {Q : VK} {H : Hp} (h : Q (.int 1000000000000000000000000000000000000000) H) : rI CPow (fun i j => .int (i ^ j.toNat)) (.int 10) (.int 39) H Q := ⟨10, 39, rfl, rfl, ⟨by decide, by decide, by decide⟩, h⟩
theorem w_pow40 {Q : VK} {H : Hp} (h : Q (.int 10000000000000000000000000000000000000000) H) : rI CPow (fun i j => .int (i ^ j.toNat)) (.int 10) (.int 40) H Q := ⟨10, 40, rfl, rfl, ⟨by decide, by decide, by decide⟩, h⟩
theorem w_pow41 {Q : VK} {H : Hp} (h : Q (.int 100000000000000000000000000000000000000000) H) : rI CPow (fun i j => .int (i ^ j.toNat)) (.int 10) (.int 41) H Q := ⟨10, 41, rfl, rfl, ⟨by decide, by decide, by decide⟩, h⟩
theorem w_pow42 {Q : VK} {H : Hp} (h : Q (.int 1000000000000000000000000000000000000000000) H) : rI CPow (fun i j => .int (i ^ j.toNat)) (.int 10) (.int 42) H Q := ⟨10, 42, rfl, rfl, ⟨by decide, by decide, by decide⟩, h⟩
theorem w_pow43 {Q : VK} {H : Hp} (h : Q (.int 10000000000000000000000000000000000000000000) H) : rI CPow (fun i j => .int (i ^ j.toNat)) (.int 10) (.int 43) H Q := ⟨10, 43, rfl, rfl, ⟨by decide, by decide, by decide⟩, h⟩
theorem w_pow44 {Q : VK} {H : Hp} (h : Q (.int 100000000000000000000000000000000000000000000) H) : rI CPow (fun i j => .int (i ^ j.toNat)) (.int 10) (.int 44) H Q := ⟨10, 44, rfl, rfl, ⟨by decide, by decide, by decide⟩, h⟩
theorem w_pow45 {Q : VK} {H : Hp} (h : Q (.int 1000000000000000000000000000000000000000000000) H) : rI CPow (fun i j => .int (i ^ j.toNat)) (.int 10) (.int 45) H Q := ⟨10, 45, rfl, rfl, ⟨by decide, by decide, by decide⟩, h⟩
theorem w_pow46 {Q : VK} {H : Hp} (h : Q (.int 10000000000000000000000000000000000000000000000) H) : rI CPow (fun i j => .int (i ^ j.toNat)) (.int 10) (.int 46) H Q := ⟨10, 46, rfl, rfl, ⟨by decide, by decide, by decide⟩, h⟩
theorem w_pow47 {Q : VK} {H : Hp} (h : Q (.int 100000000000000000000000000000000000000000000000) H) : rI CPow (fun i j => .int (i ^ j.toNat)) (.int 10) (.int 47) H Q := ⟨10, 47, rfl, rfl, ⟨by decide, by decide, by decide⟩, h⟩
theorem w_pow48 {Q : VK} {H : Hp} (h : Q (.int 1000000000000000000000000000000000000000000000000) H) : rI CPow (fun i j => .int (i ^ j.toNat)) (.int 10) (.int 48) H Q := ⟨10, 48, rfl, rfl, ⟨by decide, by decide, by decide⟩, h⟩
theorem w_pow49 {Q : VK} {H : Hp} (h : Q (.int 10000000000000000000000000000000000000000000000000) H) : rI CPow (fun i j => .int (i ^ j.toNat)) (.int 10) (.int 49) H Q := ⟨10, 49, rfl, rfl, ⟨by decide, by decide, by decide⟩, h⟩
theorem w_pow50 {Q : VK} {H : Hp} (h : Q (.int 100000000000000000000000000000000000000000000000000) H) : rI CPow (fun i j => .int (i ^ j.toNat)) (.int 10) (.int 50) H Q := ⟨10, 50, rfl, rfl, ⟨by decide, by decide, by decide⟩, h⟩
theorem w_pow51 {Q : VK} {H : Hp} (h : Q (.int 1000000000000000000000000000000000000000000000000000) H) : rI CPow (fun i j => .int (i ^ j.toNat)) (.int 10) (.int 51) H Q := ⟨10, 51, rfl, rfl, ⟨by decide, by decide, by decide⟩, h⟩
theorem w_pow52 {Q : VK} {H : Hp} (h : Q (.int 10000000000000000000000000000000000000000000000000000) H) : rI CPow (fun i j => .int (i ^ j.toNat)) (.int 10) (.int 52) H Q := ⟨10, 52, rfl, rfl, ⟨by decide, by decide, by decide⟩, h⟩
theorem w_pow53 {Q : VK} {H : Hp} (h : Q (.int 100000000000000000000000000000000000000000000000000000) H) : rI CPow (fun i j => .int (i ^ j.toNat)) (.int 10) (.int 53) H Q := ⟨10, 53, rfl, rfl, ⟨by decide, by decide, by decide⟩, h⟩
theorem w_pow54 {Q : VK} {H : Hp} (h : Q (.int 1000000000000000000000000000000000000000000000000000000) H) : rI CPow (fun i j => .int (i ^ j.toNat)) (.int 10) (.int 54) H Q := ⟨10, 54, rfl, rfl, ⟨by decide, by decide, by decide⟩, h⟩
theorem w_pow55 {Q : VK} {H : Hp} (h : Q (.int 10000000000000000000000000000000000000000000000000000000) H) : rI CPow (fun i j => .int (i ^ j.toNat)) (.int 10) (.int 55) H Q := ⟨10, 55, rfl, rfl, ⟨by decide, by decide, by decide⟩, h⟩
theorem w_pow56 {Q : VK} {H : Hp} (h : Q (.int 100000000000000000000000000000000000000000000000000000000) H) : rI CPow (fun i j => .int (i ^ j.toNat)) (.int 10) (.int 56) H Q := ⟨10, 56, rfl, rfl, ⟨by decide, by decide, by decide⟩, h⟩
theorem w_pow57 {Q : VK} {H : Hp} (h : Q (.int 1000000000000000000000000000000000000000000000000000000000) H) : rI CPow (fun i j => .int (i ^ j.toNat)) (.int 10) (.int 57) H Q := ⟨10, 57, rfl, rfl, ⟨by decide, by decide, by decide⟩, h⟩
theorem w_pow58 {Q : VK} {H : Hp} (h : Q (.int 10000000000000000000000000000000000000000000000000000000000) H) : rI CPow (fun i j => .int (i ^ j.toNat)) (.int 10) (.int 58) H Q := ⟨10, 58, rfl, rfl, ⟨by decide, by decide, by decide⟩, h⟩
theorem w_pow59 {Q : VK} {H : Hp} (h : Q (.int 100000000000000000000000000000000000000000000000000000000000) H) : rI CPow (fun i j => .int (i ^ j.toNat)) (.int 10) (.int 59) H Q := ⟨10, 59, rfl, rfl, ⟨by decide, by decide, by decide⟩, h⟩
theorem w_pow60 {Q : VK} {H : Hp} (h : Q (.int 1000000000000000000000000000000000000000000000000000000000000) H) : rI CPow (fun i j => .int (i ^ j.toNat)) (.int 10) (.int 60) H Q := ⟨10, 60, rfl, rfl, ⟨by decide, by decide, by decide⟩, h⟩

/-! ### the drawing stream: a list of the cells, a place, a great number in use, a count -/
def Stm (H : Hp) (a : Addr) : Prop := ∃ (c : Addr) (p g n : Int) (ns : List Int), H a = some (.lst [.ref c, .int p, .int g, .int n]) ∧ 0 ≤ p ∧ 0 ≤ g ∧ H c = some (.lst (ns.map V.int)) ∧ 0 < ns.length
/-- all but a stands -/
def But (a : Addr) (H H' : Hp) : Prop := ∀ b o, b ≠ a → H b = some o → H' b = some o
theorem But.refl (a : Addr) (H : Hp) : But a H H := fun _ _ _ h => h
theorem But.trans {a : Addr} {H H1 H2 : Hp} (x : But a H H1) (y : But a H1 H2) : But a H H2 := fun b o n h => y b o n (x b o n h)
theorem But.upd {a : Addr} {H : Hp} {o : HO} : But a H (upd H a o) := fun b u n h => by
  rw [upd_ne n]
  exact h
theorem But.new {a : Addr} {H H1 : Hp} {p : Addr} {o : HO} (x : But a H H1) (hp : H1 p = none) : But a H (L2.upd H1 p o) := fun b u n h => by
  rw [upd_ne (ne_of_none (x b u n h) hp)]
  exact x b u n h
theorem _root_.L2.Same.but {a : Addr} {H H1 : Hp} (x : Same H H1) : But a H H1 := fun b o _ h => x b o h
theorem same_new {H : Hp} {p : Addr} {o : HO} (h : H p = none) : Same H (upd H p o) := fun b u e => by
  rw [upd_ne (ne_of_none e h)]
  exact e
theorem _root_.L2.Same.new {H H1 : Hp} {p : Addr} {o : HO} (x : Same H H1) (h : H1 p = none) : Same H (upd H1 p o) := x.trans (same_new h)
theorem Stm.keep {H H' : Hp} {a : Addr} (s : Stm H a) (x : Same H H') : Stm H' a := by
  obtain ⟨c, p, g, n, ns, h1, h2, h3, h4, h5⟩ := s
  exact ⟨c, p, g, n, ns, x _ _ h1, h2, h3, x _ _ h4, h5⟩
theorem Stm.ne {H : Hp} {a p : Addr} (s : Stm H a) (h : H p = none) : p ≠ a := by
  obtain ⟨c, p, g, n, ns, h1, _⟩ := s
  exact (ne_of_none h1 h).symm
theorem stm_ca {H : Hp} {a c : Addr} {p g n : Int} {ns : List Int} (h1 : H a = some (.lst [.ref c, .int p, .int g, .int n])) (h4 : H c = some (.lst (ns.map V.int))) : c ≠ a := fun e => by
  rw [e, h1] at h4
  cases ns with
  | nil => cases h4
  | cons x r => cases h4
/-! what the drawing defs promise -/
def sp_mixed : Sp := fun vs H Q _ => ∃ c k : Int, vs = [.int c, .int k] ∧ ∀ d : Int, Q (.int d) H
def sp_great (K : PySem.W.Frag) : Sp := fun vs H Q _ => ∃ (c : Addr) (p : Int) (ns : List Int), vs = [.ref c, .int p] ∧ SqL K H c (ns.map V.int) ∧ 0 ≤ p ∧ ∀ g : Int, 0 ≤ g → Q (.int g) H
def sp_stream (K : PySem.W.Frag) : Sp := fun vs H Q _ => ∃ (a : Addr) (ns : List Int), vs = [.ref a] ∧ SqL K H a (ns.map V.int) ∧ ∀ H' p, Same H H' → H p = none → Stm H' p → Q (.ref p) H'
def sp_take : Sp := fun vs H Q _ => ∃ (a : Addr) (m : Int), vs = [.ref a, .int m] ∧ (0 < m ∧ m.natAbs.log2 < 9000) ∧ Stm H a ∧ ∀ H' (d : Int), But a H H' → Stm H' a → 0 ≤ d → d < m → Q (.int d) H'
/-- an int below 10 ^ 39 in size -/
def sp_whole : Sp := fun vs H Q _ => ∃ (a : Addr), vs = [.ref a] ∧ Stm H a ∧ ∀ H' (n : Int), But a H H' → Stm H' a → n.natAbs < 1000000000000000000000000000000000000000 → Q (.int n) H'

/-! items by a written place -/
theorem at0 {x : V} {r : List V} : atI (x :: r) 0 = some x := atI_nat (j := 0) rfl
theorem at1 {x0 : V} {x : V} {r : List V} : atI (x0 :: x :: r) 1 = some x := atI_nat (j := 1) rfl
theorem at2 {x0 x1 : V} {x : V} {r : List V} : atI (x0 :: x1 :: x :: r) 2 = some x := atI_nat (j := 2) rfl
theorem at3 {x0 x1 x2 : V} {x : V} {r : List V} : atI (x0 :: x1 :: x2 :: x :: r) 3 = some x := atI_nat (j := 3) rfl
theorem at4 {x0 x1 x2 x3 : V} {x : V} {r : List V} : atI (x0 :: x1 :: x2 :: x3 :: x :: r) 4 = some x := atI_nat (j := 4) rfl
theorem at5 {x0 x1 x2 x3 x4 : V} {x : V} {r : List V} : atI (x0 :: x1 :: x2 :: x3 :: x4 :: x :: r) 5 = some x := atI_nat (j := 5) rfl
theorem at6 {x0 x1 x2 x3 x4 x5 : V} {x : V} {r : List V} : atI (x0 :: x1 :: x2 :: x3 :: x4 :: x5 :: x :: r) 6 = some x := atI_nat (j := 6) rfl
theorem at7 {x0 x1 x2 x3 x4 x5 x6 : V} {x : V} {r : List V} : atI (x0 :: x1 :: x2 :: x3 :: x4 :: x5 :: x6 :: x :: r) 7 = some x := atI_nat (j := 7) rfl
theorem at8 {x0 x1 x2 x3 x4 x5 x6 x7 : V} {x : V} {r : List V} : atI (x0 :: x1 :: x2 :: x3 :: x4 :: x5 :: x6 :: x7 :: x :: r) 8 = some x := atI_nat (j := 8) rfl
theorem at9 {x0 x1 x2 x3 x4 x5 x6 x7 x8 : V} {x : V} {r : List V} : atI (x0 :: x1 :: x2 :: x3 :: x4 :: x5 :: x6 :: x7 :: x8 :: x :: r) 9 = some x := atI_nat (j := 9) rfl
theorem at10 {x0 x1 x2 x3 x4 x5 x6 x7 x8 x9 : V} {x : V} {r : List V} : atI (x0 :: x1 :: x2 :: x3 :: x4 :: x5 :: x6 :: x7 :: x8 :: x9 :: x :: r) 10 = some x := atI_nat (j := 10) rfl
theorem at11 {x0 x1 x2 x3 x4 x5 x6 x7 x8 x9 x10 : V} {x : V} {r : List V} : atI (x0 :: x1 :: x2 :: x3 :: x4 :: x5 :: x6 :: x7 :: x8 :: x9 :: x10 :: x :: r) 11 = some x := atI_nat (j := 11) rfl
theorem at12 {x0 x1 x2 x3 x4 x5 x6 x7 x8 x9 x10 x11 : V} {x : V} {r : List V} : atI (x0 :: x1 :: x2 :: x3 :: x4 :: x5 :: x6 :: x7 :: x8 :: x9 :: x10 :: x11 :: x :: r) 12 = some x := atI_nat (j := 12) rfl
theorem at13 {x0 x1 x2 x3 x4 x5 x6 x7 x8 x9 x10 x11 x12 : V} {x : V} {r : List V} : atI (x0 :: x1 :: x2 :: x3 :: x4 :: x5 :: x6 :: x7 :: x8 :: x9 :: x10 :: x11 :: x12 :: x :: r) 13 = some x := atI_nat (j := 13) rfl
theorem at14 {x0 x1 x2 x3 x4 x5 x6 x7 x8 x9 x10 x11 x12 x13 : V} {x : V} {r : List V} : atI (x0 :: x1 :: x2 :: x3 :: x4 :: x5 :: x6 :: x7 :: x8 :: x9 :: x10 :: x11 :: x12 :: x13 :: x :: r) 14 = some x := atI_nat (j := 14) rfl
theorem at15 {x0 x1 x2 x3 x4 x5 x6 x7 x8 x9 x10 x11 x12 x13 x14 : V} {x : V} {r : List V} : atI (x0 :: x1 :: x2 :: x3 :: x4 :: x5 :: x6 :: x7 :: x8 :: x9 :: x10 :: x11 :: x12 :: x13 :: x14 :: x :: r) 15 = some x := atI_nat (j := 15) rfl

theorem ixN_lt {n : Nat} {i : Int} {j : Nat} (e : i = (j : Int)) (h : j < n) : ixN n i = some j := by
  unfold ixN
  rw [if_pos (by omega), if_pos (by omega)]
  congr 1
  omega
theorem at_get {xs : List V} {i : Int} {j : Nat} (e : i = (j : Int)) (h : j < xs.length) : atI xs i = some xs[j] := by
  subst e
  exact atI_nat (List.getElem?_eq_getElem h)
theorem at_ints {ns : List Int} {i : Int} (h0 : 0 ≤ i) (h : i < (ns.length : Int)) : ∃ n, atI (ns.map V.int) i = some (.int n) := by
  obtain ⟨j, rfl⟩ := Int.eq_ofNat_of_zero_le h0
  have hj : j < ns.length := by omega
  refine ⟨ns[j], ?_⟩
  refine atI_nat ?_
  rw [List.getElem?_map, List.getElem?_eq_getElem hj]
  rfl
theorem w_set0 {H : Hp} {Q : Hp → Prop} {p : Addr} {y : V} {x : V} {r : List V} (e : H p = some (.lst (x :: r))) (h : Q (upd H p (.lst (y :: r)))) : rSetL (.ref p) (.int 0) y H Q := ⟨p, _, 0, 0, rfl, rfl, e, ixN_lt rfl (by simp), h⟩
theorem w_set1 {H : Hp} {Q : Hp → Prop} {p : Addr} {y : V} {x0 : V} {x : V} {r : List V} (e : H p = some (.lst (x0 :: x :: r))) (h : Q (upd H p (.lst (x0 :: y :: r)))) : rSetL (.ref p) (.int 1) y H Q := ⟨p, _, 1, 1, rfl, rfl, e, ixN_lt rfl (by simp), h⟩
theorem w_set2 {H : Hp} {Q : Hp → Prop} {p : Addr} {y : V} {x0 x1 : V} {x : V} {r : List V} (e : H p = some (.lst (x0 :: x1 :: x :: r))) (h : Q (upd H p (.lst (x0 :: x1 :: y :: r)))) : rSetL (.ref p) (.int 2) y H Q := ⟨p, _, 2, 2, rfl, rfl, e, ixN_lt rfl (by simp), h⟩
theorem w_set3 {H : Hp} {Q : Hp → Prop} {p : Addr} {y : V} {x0 x1 x2 : V} {x : V} {r : List V} (e : H p = some (.lst (x0 :: x1 :: x2 :: x :: r))) (h : Q (upd H p (.lst (x0 :: x1 :: x2 :: y :: r)))) : rSetL (.ref p) (.int 3) y H Q := ⟨p, _, 3, 3, rfl, rfl, e, ixN_lt rfl (by simp), h⟩
theorem w_set4 {H : Hp} {Q : Hp → Prop} {p : Addr} {y : V} {x0 x1 x2 x3 : V} {x : V} {r : List V} (e : H p = some (.lst (x0 :: x1 :: x2 :: x3 :: x :: r))) (h : Q (upd H p (.lst (x0 :: x1 :: x2 :: x3 :: y :: r)))) : rSetL (.ref p) (.int 4) y H Q := ⟨p, _, 4, 4, rfl, rfl, e, ixN_lt rfl (by simp), h⟩
theorem w_set5 {H : Hp} {Q : Hp → Prop} {p : Addr} {y : V} {x0 x1 x2 x3 x4 : V} {x : V} {r : List V} (e : H p = some (.lst (x0 :: x1 :: x2 :: x3 :: x4 :: x :: r))) (h : Q (upd H p (.lst (x0 :: x1 :: x2 :: x3 :: x4 :: y :: r)))) : rSetL (.ref p) (.int 5) y H Q := ⟨p, _, 5, 5, rfl, rfl, e, ixN_lt rfl (by simp), h⟩
theorem w_set6 {H : Hp} {Q : Hp → Prop} {p : Addr} {y : V} {x0 x1 x2 x3 x4 x5 : V} {x : V} {r : List V} (e : H p = some (.lst (x0 :: x1 :: x2 :: x3 :: x4 :: x5 :: x :: r))) (h : Q (upd H p (.lst (x0 :: x1 :: x2 :: x3 :: x4 :: x5 :: y :: r)))) : rSetL (.ref p) (.int 6) y H Q := ⟨p, _, 6, 6, rfl, rfl, e, ixN_lt rfl (by simp), h⟩
theorem w_set7 {H : Hp} {Q : Hp → Prop} {p : Addr} {y : V} {x0 x1 x2 x3 x4 x5 x6 : V} {x : V} {r : List V} (e : H p = some (.lst (x0 :: x1 :: x2 :: x3 :: x4 :: x5 :: x6 :: x :: r))) (h : Q (upd H p (.lst (x0 :: x1 :: x2 :: x3 :: x4 :: x5 :: x6 :: y :: r)))) : rSetL (.ref p) (.int 7) y H Q := ⟨p, _, 7, 7, rfl, rfl, e, ixN_lt rfl (by simp), h⟩
theorem w_set8 {H : Hp} {Q : Hp → Prop} {p : Addr} {y : V} {x0 x1 x2 x3 x4 x5 x6 x7 : V} {x : V} {r : List V} (e : H p = some (.lst (x0 :: x1 :: x2 :: x3 :: x4 :: x5 :: x6 :: x7 :: x :: r))) (h : Q (upd H p (.lst (x0 :: x1 :: x2 :: x3 :: x4 :: x5 :: x6 :: x7 :: y :: r)))) : rSetL (.ref p) (.int 8) y H Q := ⟨p, _, 8, 8, rfl, rfl, e, ixN_lt rfl (by simp), h⟩
theorem w_set9 {H : Hp} {Q : Hp → Prop} {p : Addr} {y : V} {x0 x1 x2 x3 x4 x5 x6 x7 x8 : V} {x : V} {r : List V} (e : H p = some (.lst (x0 :: x1 :: x2 :: x3 :: x4 :: x5 :: x6 :: x7 :: x8 :: x :: r))) (h : Q (upd H p (.lst (x0 :: x1 :: x2 :: x3 :: x4 :: x5 :: x6 :: x7 :: x8 :: y :: r)))) : rSetL (.ref p) (.int 9) y H Q := ⟨p, _, 9, 9, rfl, rfl, e, ixN_lt rfl (by simp), h⟩
theorem w_set10 {H : Hp} {Q : Hp → Prop} {p : Addr} {y : V} {x0 x1 x2 x3 x4 x5 x6 x7 x8 x9 : V} {x : V} {r : List V} (e : H p = some (.lst (x0 :: x1 :: x2 :: x3 :: x4 :: x5 :: x6 :: x7 :: x8 :: x9 :: x :: r))) (h : Q (upd H p (.lst (x0 :: x1 :: x2 :: x3 :: x4 :: x5 :: x6 :: x7 :: x8 :: x9 :: y :: r)))) : rSetL (.ref p) (.int 10) y H Q := ⟨p, _, 10, 10, rfl, rfl, e, ixN_lt rfl (by simp), h⟩
theorem w_set11 {H : Hp} {Q : Hp → Prop} {p : Addr} {y : V} {x0 x1 x2 x3 x4 x5 x6 x7 x8 x9 x10 : V} {x : V} {r : List V} (e : H p = some (.lst (x0 :: x1 :: x2 :: x3 :: x4 :: x5 :: x6 :: x7 :: x8 :: x9 :: x10 :: x :: r))) (h : Q (upd H p (.lst (x0 :: x1 :: x2 :: x3 :: x4 :: x5 :: x6 :: x7 :: x8 :: x9 :: x10 :: y :: r)))) : rSetL (.ref p) (.int 11) y H Q := ⟨p, _, 11, 11, rfl, rfl, e, ixN_lt rfl (by simp), h⟩
theorem w_set12 {H : Hp} {Q : Hp → Prop} {p : Addr} {y : V} {x0 x1 x2 x3 x4 x5 x6 x7 x8 x9 x10 x11 : V} {x : V} {r : List V} (e : H p = some (.lst (x0 :: x1 :: x2 :: x3 :: x4 :: x5 :: x6 :: x7 :: x8 :: x9 :: x10 :: x11 :: x :: r))) (h : Q (upd H p (.lst (x0 :: x1 :: x2 :: x3 :: x4 :: x5 :: x6 :: x7 :: x8 :: x9 :: x10 :: x11 :: y :: r)))) : rSetL (.ref p) (.int 12) y H Q := ⟨p, _, 12, 12, rfl, rfl, e, ixN_lt rfl (by simp), h⟩

/-! ### a call by keywords alone, of a def that may raise -/
structure KB0 (K : PySem.W.Frag) (fd : FuncData) (ps ks : List Str) (g : {α : Type} → List α → List α) : Prop where
  to : ∀ (s : Shared) (ws : List Value), ws.length = ks.length → BindsTo s fd ⟨[], ks.zip ws⟩ (ps.zip (g ws))
  rel : ∀ {zs : List V} {ws : List Value}, Vals zs ws → zs.length = ks.length → Vals (g zs) (g ws)
def tCallKS (sp : Sp) (n : Nat) (g : {α : Type} → List α → List α) (E : L2.St → XK) (tk : TA) : TE := fun σ H Q => tk σ H fun zs H1 => zs.length = n ∧ sp (g zs) H1 Q (E σ)
section
variable {X : Cx} {CX : CXT} {k : Nat} {f : Addr} {fd : FuncData} {ps ks : List Str} {sp : Sp} {E : L2.St → XK} {x : Str} {p pos : Pos} {kws : List Keyword} {tk : TA} {g : {α : Type} → List α → List α}
theorem pe_kwS (F : FnOk X.prog X.w X.K X.mg X.base CX k f fd ps sp) (hr : Room k X.A) (hg : Gl X x) (hm : X.mg x = some (.ref f)) (hk : PySem.W.keepIn X.K (.ref f) = true) (hb : KB0 X.K fd ps ks g) (hx : ∀ σ, PassesAt CX X σ (E σ))
    (hkw : PK X kws tk) (hall : (backToKw pos (keywordEach kws X.env)).all (·.1.isSome) = true := by rfl) (hks : (backToKw pos (keywordEach kws X.env)).filterMap (·.1) = ks := by rfl)
    (hdb : (x == ("__debug__" : Str)) = false := by decide) (hpl : ((backTo pos (starEach [] X.env)).any (·.1) || (backToKw pos (keywordEach kws X.env)).any (·.1.isNone)) = false := by rfl) :
    PE X (.Call (.Name x p) [] kws pos) (tCallKS sp ks.length g E tk) := by
  refine ⟨fun pins s σ H Q I h => ?_⟩
  refine wpAny_Call_Name_kw (ld_glob I hg hm ?_ hdb)
  refine PySem.W.callWith_KW0 (h₀ := X.base) I.ok.mod.kin hk hall (thn (hkw.run pos pins s σ H _ I h) fun ws s2 ⟨zs, H2, I2, rz, hl, q2⟩ => ⟨I2.kIn, ?_⟩) hpl
  rw [hks, List.append_nil]
  have r2 := hb.rel rz hl
  refine wpAny_call (codeAny_mono (F.run X.A X.stack s2 H2 ⟨[], ks.zip ws⟩ (g ws) (g zs) Q (E σ) hr I2.env0 (hb.to s2 ws (rz.length.symm.trans hl)) r2 q2) fun r s' hq => ?_)
  cases r with
  | error e => exact hx σ pins H2 s2 e s' I2 hq
  | ok fl =>
    cases fl with
    | ret u => exact I2.after hq
    | next => exact False.elim hq
    | brk => exact False.elim hq
    | cont => exact False.elim hq
end
theorem w_kws {sp : Sp} {n : Nat} {g : {α : Type} → List α → List α} {E : L2.St → XK} {tk : TA} {σ : L2.St} {H : Hp} {Q : VK} (h : tk σ H fun zs H1 => zs.length = n ∧ sp (g zs) H1 Q (E σ)) : tCallKS sp n g E tk σ H Q := h
theorem w_callS {sp : Sp} {E : L2.St → XK} {t : TA} {σ : L2.St} {H : Hp} {Q : VK} (h : t σ H fun vs H1 => sp vs H1 Q (E σ)) : tCallS sp E t σ H Q := h
/-! ### things: a value that bears a datum; no part of it is the object at sa -/
mutual
inductive Rp (sa : Addr) (H : Hp) : V → PyData → Prop
  | non : Rp sa H .non .none
  | bl (b : Bool) : Rp sa H (.bl b) (.bool b)
  | int (i : Int) : Rp sa H (.int i) (.int i)
  | str (x : Str) : Rp sa H (.str x) (.str x)
  | lst {a : Addr} {xs : List V} {ds : List PyData} (n : a ≠ sa) (h : H a = some (.lst xs)) (r : Rps sa H xs ds) : Rp sa H (.ref a) (.list ds)
  | tup {a : Addr} {xs : List V} {ds : List PyData} (n : a ≠ sa) (h : H a = some (.tup xs)) (r : Rps sa H xs ds) : Rp sa H (.ref a) (.tuple ds)
  | dct {a : Addr} {kvs : List (Key × V)} {ds : List (PyData × PyData)} (n : a ≠ sa) (h : H a = some (.dK kvs)) (l : kvs.length = ds.length ∧ ∀ p ∈ kvs, valV kvs p.1 = some p.2 ∧ flatB p.2 = true) : Rp sa H (.ref a) (.dict ds)
inductive Rps (sa : Addr) (H : Hp) : List V → List PyData → Prop
  | nil : Rps sa H [] []
  | cons {v : V} {vs : List V} {d : PyData} {ds : List PyData} (h : Rp sa H v d) (t : Rps sa H vs ds) : Rps sa H (v :: vs) (d :: ds)
end
mutual
theorem Rp.but {sa : Addr} {H H' : Hp} (b : But sa H H') : ∀ {v : V} {d : PyData}, Rp sa H v d → Rp sa H' v d
  | _, _, .non => .non
  | _, _, .bl b => .bl b
  | _, _, .int i => .int i
  | _, _, .str x => .str x
  | _, _, .lst n h r => .lst n (b _ _ n h) (Rps.but b r)
  | _, _, .tup n h r => .tup n (b _ _ n h) (Rps.but b r)
  | _, _, .dct n h l => .dct n (b _ _ n h) l
theorem Rps.but {sa : Addr} {H H' : Hp} (b : But sa H H') : ∀ {vs : List V} {ds : List PyData}, Rps sa H vs ds → Rps sa H' vs ds
  | _, _, .nil => .nil
  | _, _, .cons h t => .cons (Rp.but b h) (Rps.but b t)
end
theorem Rp.same {sa : Addr} {H H' : Hp} {v : V} {d : PyData} (r : Rp sa H v d) (b : Same H H') : Rp sa H' v d := r.but b.but
mutual
def noDict : PyData → Bool
  | .list ds => noDicts ds
  | .tuple ds => noDicts ds
  | .dict _ => false
  | _ => true
def noDicts : List PyData → Bool
  | [] => true
  | d :: ds => noDict d && noDicts ds
end
mutual
theorem Rp.dp {K : PySem.W.Frag} {sa : Addr} {H : Hp} : ∀ {v : V} {d : PyData}, Rp sa H v d → noDict d = true → Dp K H v d
  | _, _, .non, _ => .non
  | _, _, .bl b, _ => .bl b
  | _, _, .int i, _ => .int i
  | _, _, .str x, _ => .str x
  | _, _, .lst n h r, e => .lst (SqL.of h) (Rps.dp r e)
  | _, _, .tup n h r, e => .tup (SqT.of h) (Rps.dp r e)
  | _, _, .dct n h l, e => nomatch e
theorem Rps.dp {K : PySem.W.Frag} {sa : Addr} {H : Hp} : ∀ {vs : List V} {ds : List PyData}, Rps sa H vs ds → noDicts ds = true → DpAll K H vs ds
  | _, _, .nil, _ => .nil
  | _, _, .cons h t, e => .cons (Rp.dp h (by
      unfold noDicts at e
      exact (Bool.and_eq_true _ _ ▸ e).1)) (Rps.dp t (by
      unfold noDicts at e
      exact (Bool.and_eq_true _ _ ▸ e).2))
end

/-- the name of a datum's type -/
def tyD : PyData → String
  | .none => "NoneType"
  | .bool _ => "bool"
  | .int _ => "int"
  | .str _ => "str"
  | .list _ => "list"
  | .tuple _ => "tuple"
  | .dict _ => "dict"
theorem Rp.ty {K : PySem.W.Frag} {sa : Addr} {H : Hp} {v : V} {d : PyData} (r : Rp sa H v d) : TyX K H v (.type (tyD d)) := by
  cases r with
  | non => exact .base .non
  | bl b => exact .base (.bl b)
  | int i => exact .base (.int i)
  | str x => exact .base (.str x)
  | lst n h r => exact .base (.lst h)
  | tup n h r => exact .base (.tup h)
  | dct n h l => exact .base (.dK h)
/-- an error of the class at S is what «except S» names -/
theorem exm_own {K : PySem.W.Frag} {S : Addr} (h1 : PySem.W.subIn K (.ref S) (.type "BaseException") = some true) (h2 : PySem.W.isClsIn K S = true) (h3 : PySem.W.typeIn K (.ref S) = some (.type "type")) (h4 : PySem.W.subIn K (.ref S) (.ref S) = some true) :
    PySem.W.exmOne K (.ref S) (.ref S) = some true := by
  have z1 : (PySem.W.subIn K (.ref S) (.type "BaseException") == some true) = true := by
    rw [h1]
    rfl
  have z2 : ((PySem.W.clsIn K S).isSome && PySem.W.typeIn K (.ref S) == some (.type "type")) = true := by
    have q : (PySem.W.clsIn K S).isSome = true := h2
    rw [q, h3]
    rfl
  show (if (PySem.W.subIn K (.ref S) (.type "BaseException") == some true) = true then PySem.W.kitCls K (.ref S) (.ref S) else none) = some true
  rw [if_pos z1]
  show (if ((PySem.W.clsIn K S).isSome && PySem.W.typeIn K (.ref S) == some (.type "type")) = true then PySem.W.subIn K (.ref S) (.ref S) else none) = some true
  rw [if_pos z2]
  exact h4
/-! ### the ground under a def: what stood stands (but for the stream), the things at hand bear their data -/
structure Wd (b : Bool) (sa : Addr) (H0 H : Hp) (vs : List V) (ds : List PyData) : Prop where
  but : But sa H0 H
  same : b = false → Same H0 H
  st : b = true → Stm H sa
  tr : ∃ o, H sa = some o
  r : Rps sa H vs ds
theorem Stm.tr {H : Hp} {a : Addr} (s : Stm H a) : ∃ o, H a = some o := by
  obtain ⟨c, p, g, n, ns, h1, _⟩ := s
  exact ⟨_, h1⟩
/-- v bears d among the things at hand -/
inductive In2 : V → PyData → List V → List PyData → Prop
  | here {v : V} {d : PyData} {vs : List V} {ds : List PyData} : In2 v d (v :: vs) (d :: ds)
  | there {v w : V} {d e : PyData} {vs : List V} {ds : List PyData} (h : In2 v d vs ds) : In2 v d (w :: vs) (e :: ds)
section
variable {b : Bool} {sa : Addr} {H0 H H' : Hp} {vs : List V} {ds : List PyData} {v : V} {d : PyData} {K : PySem.W.Frag}
theorem In2.rp (m : In2 v d vs ds) (r : Rps sa H vs ds) : Rp sa H v d := by
  induction m with
  | here => cases r with | cons h t => exact h
  | there m ih => cases r with | cons h t => exact ih t
theorem Wd.get (W : Wd b sa H0 H vs ds) (m : In2 v d vs ds) : Rp sa H v d := m.rp W.r
theorem Wd.go (W : Wd b sa H0 H vs ds) (s : Same H H') : Wd b sa H0 H' vs ds := ⟨W.but.trans s.but, fun e => (W.same e).trans s, fun e => (W.st e).keep s, (let ⟨o, e⟩ := W.tr; ⟨o, s _ _ e⟩), W.r.but s.but⟩
theorem Wd.put (W : Wd b sa H0 H vs ds) (r : Rp sa H v d) : Wd b sa H0 H (v :: vs) (d :: ds) := ⟨W.but, W.same, W.st, W.tr, .cons r W.r⟩
theorem Wd.sub (W : Wd b sa H0 H vs ds) {vs' : List V} {ds' : List PyData} (r : Rps sa H vs' ds') : Wd b sa H0 H vs' ds' := ⟨W.but, W.same, W.st, W.tr, r⟩
theorem Wd.draw (W : Wd true sa H0 H vs ds) (x : But sa H H') (s : Stm H' sa) : Wd true sa H0 H' vs ds := ⟨W.but.trans x, fun e => (nomatch e), fun _ => s, s.tr, W.r.but x⟩
theorem wd_start (t : ∃ o, H sa = some o) (r : Rps sa H vs ds) : Wd false sa H H vs ds := ⟨But.refl _ _, fun _ => Same.refl _, fun e => (nomatch e), t, r⟩
theorem wd_startS (s : Stm H sa) (r : Rps sa H vs ds) : Wd true sa H H vs ds := ⟨But.refl _ _, fun e => (nomatch e), fun _ => s, s.tr, r⟩
/-- a new object is not the stream -/
theorem Wd.ne (W : Wd b sa H0 H vs ds) {p : Addr} (h : H p = none) : p ≠ sa := by
  obtain ⟨o, e⟩ := W.tr
  exact (ne_of_none e h).symm
end
/-- what is asked of a value that bears d: scalars are known -/
def VS (d : PyData) (F : V → Prop) : Prop := match d with
  | .none => F .non
  | .bool b => F (.bl b)
  | .int i => F (.int i)
  | .str s => F (.str s)
  | .list _ => ∀ p, F (.ref p)
  | .tuple _ => ∀ p, F (.ref p)
  | .dict _ => ∀ p, F (.ref p)
theorem VS.of {sa : Addr} {H : Hp} {v : V} {d : PyData} {F : V → Prop} (h : VS d F) (r : Rp sa H v d) : F v := by
  cases r with
  | non => exact h
  | bl b => exact h
  | int i => exact h
  | str x => exact h
  | lst n e r => exact h _
  | tup n e r => exact h _
  | dct n e l => exact h _
/-! ### kinds of promises -/
/-- a def without a stream: from data to a datum -/
def Pf (pre : List PyData → Prop) (fn : List PyData → PyData) : Sp := fun vs H Q _ => ∃ (sa : Addr) (ds : List PyData), (∃ o, H sa = some o) ∧ Rps sa H vs ds ∧ pre ds ∧ ∀ H' x, Same H H' → Rp sa H' x (fn ds) → Q x H'
/-- a def that draws: data in, some datum out -/
def Sf (pre : List PyData → Prop) (R : List PyData → PyData → Prop) : Sp := fun vs H Q _ => ∃ (sa : Addr) (vs' : List V) (ds : List PyData), vs = .ref sa :: vs' ∧ Stm H sa ∧ Rps sa H vs' ds ∧ pre ds ∧ ∀ H' x d, But sa H H' → Stm H' sa → Rp sa H' x d → R ds d → Q x H'
section
variable {b : Bool} {sa : Addr} {H0 H : Hp} {acc : List V} {dacc : List PyData} {Q : VK} {E : XK}
theorem call_P {pre : List PyData → Prop} {fn : List PyData → PyData} {vs : List V} {ds : List PyData} (W : Wd b sa H0 H acc dacc) (r : Rps sa H vs ds) (hp : pre ds)
    (h : ∀ H', VS (fn ds) fun x => Wd b sa H0 H' (x :: acc) (fn ds :: dacc) → Q x H') : Pf pre fn vs H Q E :=
  ⟨sa, ds, W.tr, r, hp, fun H' x s rx => (h H').of rx ((W.go s).put rx)⟩
theorem call_S {pre : List PyData → Prop} {R : List PyData → PyData → Prop} {vs : List V} {ds : List PyData} (W : Wd true sa H0 H acc dacc) (r : Rps sa H vs ds) (hp : pre ds)
    (h : ∀ H' x d, Wd true sa H0 H' (x :: acc) (d :: dacc) → R ds d → Q x H') : Sf pre R (.ref sa :: vs) H Q E :=
  ⟨sa, vs, ds, rfl, W.st rfl, r, hp, fun H' x d bb s rx hR => h H' x d ((W.draw bb s).put rx) hR⟩
/-- int(stream's digit) -/
theorem call_tk {m : Int} (W : Wd true sa H0 H acc dacc) (hm : 0 < m) (hl : m.natAbs.log2 < 9000) (h : ∀ H' (d : Int), Wd true sa H0 H' acc dacc → 0 ≤ d → d < m → Q (.int d) H') : sp_take [.ref sa, .int m] H Q E :=
  ⟨sa, m, rfl, ⟨hm, hl⟩, W.st rfl, fun H' d bb s d0 d1 => h H' d (W.draw bb s) d0 d1⟩
theorem call_wh (W : Wd true sa H0 H acc dacc) (h : ∀ H' (n : Int), Wd true sa H0 H' acc dacc → n.natAbs < 1000000000000000000000000000000000000000 → Q (.int n) H') : sp_whole [.ref sa] H Q E :=
  ⟨sa, rfl, W.st rfl, fun H' d bb s d0 => h H' d (W.draw bb s) d0⟩
/-! ### new tuples, lists, dicts -/
def NT (Q : VK) (xs : List V) (H : Hp) : Prop := xs.length ≤ sizeLine ∧ ∀ p, H p = none → Q (.ref p) (upd H p (.tup xs))
def NL (Q : VK) (xs : List V) (H : Hp) : Prop := xs.length ≤ sizeLine ∧ ∀ p, H p = none → Q (.ref p) (upd H p (.lst xs))
def ND (Q : VK) (H : Hp) : Prop := ∀ p, H p = none → Q (.ref p) (upd H p (.dK []))
theorem w_tupN {tt : TA} {σ : L2.St} (h : tt σ H fun xs H1 => NT Q xs H1) : tTup tt σ H Q := h
theorem w_lstN {tt : TA} {σ : L2.St} (h : tt σ H fun xs H1 => NL Q xs H1) : tLst tt σ H Q := h
theorem nt_mk {xs : List V} (h : ∀ p, H p = none → Q (.ref p) (upd H p (.tup xs))) (hl : xs.length.ble 1000 = true := by rfl) : NT Q xs H := w_new h hl
theorem nl_mk {xs : List V} (h : ∀ p, H p = none → Q (.ref p) (upd H p (.lst xs))) (hl : xs.length.ble 1000 = true := by rfl) : NL Q xs H := w_new h hl
theorem n_tup {xs : List V} {ds : List PyData} (W : Wd b sa H0 H acc dacc) (r : Rps sa H xs ds) (hl : xs.length.ble 1000 = true) (h : ∀ H' p, Wd b sa H0 H' (.ref p :: acc) (.tuple ds :: dacc) → Q (.ref p) H') : NT Q xs H :=
  ⟨Nat.le_of_lt (small1000 (Nat.le_of_ble_eq_true hl)), fun p np => h _ p ((W.go (same_new np)).put (.tup (W.ne np) upd_same (r.but (same_new np).but)))⟩
theorem n_lst {xs : List V} {ds : List PyData} (W : Wd b sa H0 H acc dacc) (r : Rps sa H xs ds) (hl : xs.length.ble 1000 = true) (h : ∀ H' p, Wd b sa H0 H' (.ref p :: acc) (.list ds :: dacc) → Q (.ref p) H') : NL Q xs H :=
  ⟨Nat.le_of_lt (small1000 (Nat.le_of_ble_eq_true hl)), fun p np => h _ p ((W.go (same_new np)).put (.lst (W.ne np) upd_same (r.but (same_new np).but)))⟩
theorem n_dct (W : Wd b sa H0 H acc dacc) (h : ∀ H' p, Wd b sa H0 H' (.ref p :: acc) (.dict [] :: dacc) → Q (.ref p) H') : ND Q H :=
  fun p np => h _ p ((W.go (same_new np)).put (.dct (W.ne np) upd_same ⟨rfl, fun p hp => absurd hp (by simp)⟩))
/-! ### reading an item of a thing -/
theorem rps_at {vs : List V} {ds : List PyData} {j : Nat} {d : PyData} (r : Rps sa H vs ds) (e : ds[j]? = some d) : ∃ v, vs[j]? = some v ∧ Rp sa H v d := by
  induction ds generalizing vs j with
  | nil => simp at e
  | cons d0 ds ih =>
    cases r with
    | cons h t =>
      cases j with
      | zero =>
        simp at e
        subst e
        exact ⟨_, rfl, h⟩
      | succ j =>
        simp at e
        obtain ⟨v, e1, r1⟩ := ih t e
        exact ⟨v, by simpa using e1, r1⟩
theorem x_tup {K : PySem.W.Frag} {p : Addr} {ds : List PyData} {j : Nat} {d : PyData} {i : Int} (W : Wd b sa H0 H acc dacc) (m : In2 (.ref p) (.tuple ds) acc dacc) (hi : i = (j : Int)) (e : ds[j]? = some d)
    (h : VS d fun x => Wd b sa H0 H (x :: acc) (d :: dacc) → Q x H) : rIxT K (.ref p) (.int i) H Q := by
  subst hi
  cases W.get m with
  | @tup _ xs _ n hx r =>
    obtain ⟨v, e1, r1⟩ := rps_at r e
    exact ⟨p, xs, j, v, rfl, rfl, SqT.of hx, atI_nat e1, h.of r1 (W.put r1)⟩
theorem x_lst {K : PySem.W.Frag} {p : Addr} {ds : List PyData} {j : Nat} {d : PyData} {i : Int} (W : Wd b sa H0 H acc dacc) (m : In2 (.ref p) (.list ds) acc dacc) (hi : i = (j : Int)) (e : ds[j]? = some d)
    (h : VS d fun x => Wd b sa H0 H (x :: acc) (d :: dacc) → Q x H) : rIxL K (.ref p) (.int i) H Q := by
  subst hi
  cases W.get m with
  | @lst _ xs _ n hx r =>
    obtain ⟨v, e1, r1⟩ := rps_at r e
    exact ⟨p, xs, j, v, rfl, rfl, SqL.of hx, atI_nat e1, h.of r1 (W.put r1)⟩
theorem Rps.app {vs ws : List V} {ds es : List PyData} (r : Rps sa H vs ds) (t : Rps sa H ws es) : Rps sa H (vs ++ ws) (ds ++ es) := by
  induction ds generalizing vs with
  | nil => cases r; exact t
  | cons d ds ih =>
    cases r with
    | cons h k => exact .cons h (ih k)
/-- an item at a place that is not known -/
theorem x_some {K : PySem.W.Frag} {p : Addr} {ds : List PyData} {i : Int} (W : Wd b sa H0 H acc dacc) (m : In2 (.ref p) (.list ds) acc dacc) (h0 : 0 ≤ i) (h1 : i < (ds.length : Int))
    (h : ∀ x d, d ∈ ds → Wd b sa H0 H (x :: acc) (d :: dacc) → Q x H) : rIxL K (.ref p) (.int i) H Q := by
  obtain ⟨j, rfl⟩ := Int.eq_ofNat_of_zero_le h0
  have hj : j < ds.length := by omega
  cases W.get m with
  | @lst _ xs _ n hx r =>
    obtain ⟨v, e1, r1⟩ := rps_at r (List.getElem?_eq_getElem hj)
    exact ⟨p, xs, j, v, rfl, rfl, SqL.of hx, atI_nat e1, h v _ (List.getElem_mem hj) (W.put r1)⟩
theorem Rps.lens {vs : List V} {ds : List PyData} (r : Rps sa H vs ds) : vs.length = ds.length := by
  induction ds generalizing vs with
  | nil => cases r; rfl
  | cons d ds ih =>
    cases r with
    | cons h t => exact congrArg (· + 1) (ih t)
theorem l_lst {K : PySem.W.Frag} {p : Addr} {ds : List PyData} (W : Wd b sa H0 H acc dacc) (m : In2 (.ref p) (.list ds) acc dacc) (h : Q (.int (ds.length : Int)) H) : rLenQ K [.ref p] H Q := by
  cases W.get m with
  | @lst _ xs _ n hx r => exact ⟨p, xs, rfl, .inl (SqL.of hx), by rw [r.lens]; exact h⟩
theorem l_tup {K : PySem.W.Frag} {p : Addr} {ds : List PyData} (W : Wd b sa H0 H acc dacc) (m : In2 (.ref p) (.tuple ds) acc dacc) (h : Q (.int (ds.length : Int)) H) : rLenQ K [.ref p] H Q := by
  cases W.get m with
  | @tup _ xs _ n hx r => exact ⟨p, xs, rfl, .inr (SqT.of hx), by rw [r.lens]; exact h⟩

/-- a list that stands: lists of the call's own, joined -/
theorem w_catL {p q : Addr} {ds es : List PyData} (W : Wd b sa H0 H acc dacc) (m : In2 (.ref p) (.list ds) acc dacc) (n : In2 (.ref q) (.list es) acc dacc) (hl : (ds.length + es.length).ble 1000 = true)
    (h : ∀ H' p, Wd b sa H0 H' (.ref p :: acc) (.list (ds ++ es) :: dacc) → Q (.ref p) H') : rCat (.ref p) (.ref q) H Q := by
  cases W.get m with
  | @lst _ xs _ n1 hx r =>
    cases W.get n with
    | @lst _ ys _ n2 hy r2 =>
      refine ⟨p, q, xs, ys, rfl, rfl, hx, hy, ?_, fun p' np => ?_⟩
      · rw [r.lens, r2.lens]
        exact Nat.le_of_lt (small1000 (Nat.le_of_ble_eq_true hl))
      · exact h _ p' ((W.go (same_new np)).put (.lst (W.ne np) upd_same ((r.app r2).but (same_new np).but)))
end

section
variable {b : Bool} {sa : Addr} {H0 H : Hp} {acc : List V} {dacc : List PyData} {Q : VK} {E : XK}
theorem w_call0 {sp : Sp} {tt : TA} {σ : L2.St} (h : tt σ H fun vs H1 => sp vs H1 Q E) : tCall sp [] E tt σ H Q := by
  show tt σ H fun vs H1 => sp (vs ++ []) H1 Q E
  have e : (fun (vs : List V) (H1 : Hp) => sp (vs ++ []) H1 Q E) = fun vs H1 => sp vs H1 Q E := by
    funext vs H1
    rw [List.append_nil]
  rw [e]
  exact h
theorem v_non {F : V → Prop} (h : F .non) : VS .none F := h
theorem v_bl {F : V → Prop} {x : Bool} (h : F (.bl x)) : VS (.bool x) F := h
theorem v_int {F : V → Prop} {x : Int} (h : F (.int x)) : VS (.int x) F := h
theorem v_str {F : V → Prop} {x : Str} (h : F (.str x)) : VS (.str x) F := h
theorem v_tup {F : V → Prop} {x : List PyData} (h : ∀ p, F (.ref p)) : VS (.tuple x) F := h
theorem v_lst {F : V → Prop} {x : List PyData} (h : ∀ p, F (.ref p)) : VS (.list x) F := h
theorem v_dct {F : V → Prop} {x : List (PyData × PyData)} (h : ∀ p, F (.ref p)) : VS (.dict x) F := h
theorem w_newD {Q : VK} {σ : L2.St} (h : ND Q H) : tDNewK σ H Q := h
theorem x_T0 {K : PySem.W.Frag} {p : Addr} {d : PyData} {r : List PyData} (W : Wd b sa H0 H acc dacc) (m : In2 (.ref p) (.tuple (d :: r)) acc dacc) (h : VS d fun x => Wd b sa H0 H (x :: acc) (d :: dacc) → Q x H) : rIxT K (.ref p) (.int 0) H Q := x_tup (j := 0) W m rfl rfl h
theorem x_T0i {K : PySem.W.Frag} {p : Addr} {n : Int} {r : List PyData} (W : Wd b sa H0 H acc dacc) (m : In2 (.ref p) (.tuple (.int n :: r)) acc dacc) (h : Q (.int n) H) : rIxT K (.ref p) (.int 0) H Q := x_tup (j := 0) W m rfl rfl (v_int fun _ => h)
theorem x_L0 {K : PySem.W.Frag} {p : Addr} {d : PyData} {r : List PyData} (W : Wd b sa H0 H acc dacc) (m : In2 (.ref p) (.list (d :: r)) acc dacc) (h : VS d fun x => Wd b sa H0 H (x :: acc) (d :: dacc) → Q x H) : rIxL K (.ref p) (.int 0) H Q := x_lst (j := 0) W m rfl rfl h
theorem x_L0i {K : PySem.W.Frag} {p : Addr} {n : Int} {r : List PyData} (W : Wd b sa H0 H acc dacc) (m : In2 (.ref p) (.list (.int n :: r)) acc dacc) (h : Q (.int n) H) : rIxL K (.ref p) (.int 0) H Q := x_lst (j := 0) W m rfl rfl (v_int fun _ => h)
theorem x_T1 {K : PySem.W.Frag} {p : Addr} {d0 : PyData} {d : PyData} {r : List PyData} (W : Wd b sa H0 H acc dacc) (m : In2 (.ref p) (.tuple (d0 :: d :: r)) acc dacc) (h : VS d fun x => Wd b sa H0 H (x :: acc) (d :: dacc) → Q x H) : rIxT K (.ref p) (.int 1) H Q := x_tup (j := 1) W m rfl rfl h
theorem x_T1i {K : PySem.W.Frag} {p : Addr} {d0 : PyData} {n : Int} {r : List PyData} (W : Wd b sa H0 H acc dacc) (m : In2 (.ref p) (.tuple (d0 :: .int n :: r)) acc dacc) (h : Q (.int n) H) : rIxT K (.ref p) (.int 1) H Q := x_tup (j := 1) W m rfl rfl (v_int fun _ => h)
theorem x_L1 {K : PySem.W.Frag} {p : Addr} {d0 : PyData} {d : PyData} {r : List PyData} (W : Wd b sa H0 H acc dacc) (m : In2 (.ref p) (.list (d0 :: d :: r)) acc dacc) (h : VS d fun x => Wd b sa H0 H (x :: acc) (d :: dacc) → Q x H) : rIxL K (.ref p) (.int 1) H Q := x_lst (j := 1) W m rfl rfl h
theorem x_L1i {K : PySem.W.Frag} {p : Addr} {d0 : PyData} {n : Int} {r : List PyData} (W : Wd b sa H0 H acc dacc) (m : In2 (.ref p) (.list (d0 :: .int n :: r)) acc dacc) (h : Q (.int n) H) : rIxL K (.ref p) (.int 1) H Q := x_lst (j := 1) W m rfl rfl (v_int fun _ => h)
theorem x_T2 {K : PySem.W.Frag} {p : Addr} {d0 d1 : PyData} {d : PyData} {r : List PyData} (W : Wd b sa H0 H acc dacc) (m : In2 (.ref p) (.tuple (d0 :: d1 :: d :: r)) acc dacc) (h : VS d fun x => Wd b sa H0 H (x :: acc) (d :: dacc) → Q x H) : rIxT K (.ref p) (.int 2) H Q := x_tup (j := 2) W m rfl rfl h
theorem x_T2i {K : PySem.W.Frag} {p : Addr} {d0 d1 : PyData} {n : Int} {r : List PyData} (W : Wd b sa H0 H acc dacc) (m : In2 (.ref p) (.tuple (d0 :: d1 :: .int n :: r)) acc dacc) (h : Q (.int n) H) : rIxT K (.ref p) (.int 2) H Q := x_tup (j := 2) W m rfl rfl (v_int fun _ => h)
theorem x_L2 {K : PySem.W.Frag} {p : Addr} {d0 d1 : PyData} {d : PyData} {r : List PyData} (W : Wd b sa H0 H acc dacc) (m : In2 (.ref p) (.list (d0 :: d1 :: d :: r)) acc dacc) (h : VS d fun x => Wd b sa H0 H (x :: acc) (d :: dacc) → Q x H) : rIxL K (.ref p) (.int 2) H Q := x_lst (j := 2) W m rfl rfl h
theorem x_L2i {K : PySem.W.Frag} {p : Addr} {d0 d1 : PyData} {n : Int} {r : List PyData} (W : Wd b sa H0 H acc dacc) (m : In2 (.ref p) (.list (d0 :: d1 :: .int n :: r)) acc dacc) (h : Q (.int n) H) : rIxL K (.ref p) (.int 2) H Q := x_lst (j := 2) W m rfl rfl (v_int fun _ => h)
theorem x_T3 {K : PySem.W.Frag} {p : Addr} {d0 d1 d2 : PyData} {d : PyData} {r : List PyData} (W : Wd b sa H0 H acc dacc) (m : In2 (.ref p) (.tuple (d0 :: d1 :: d2 :: d :: r)) acc dacc) (h : VS d fun x => Wd b sa H0 H (x :: acc) (d :: dacc) → Q x H) : rIxT K (.ref p) (.int 3) H Q := x_tup (j := 3) W m rfl rfl h
theorem x_T3i {K : PySem.W.Frag} {p : Addr} {d0 d1 d2 : PyData} {n : Int} {r : List PyData} (W : Wd b sa H0 H acc dacc) (m : In2 (.ref p) (.tuple (d0 :: d1 :: d2 :: .int n :: r)) acc dacc) (h : Q (.int n) H) : rIxT K (.ref p) (.int 3) H Q := x_tup (j := 3) W m rfl rfl (v_int fun _ => h)
theorem x_L3 {K : PySem.W.Frag} {p : Addr} {d0 d1 d2 : PyData} {d : PyData} {r : List PyData} (W : Wd b sa H0 H acc dacc) (m : In2 (.ref p) (.list (d0 :: d1 :: d2 :: d :: r)) acc dacc) (h : VS d fun x => Wd b sa H0 H (x :: acc) (d :: dacc) → Q x H) : rIxL K (.ref p) (.int 3) H Q := x_lst (j := 3) W m rfl rfl h
theorem x_L3i {K : PySem.W.Frag} {p : Addr} {d0 d1 d2 : PyData} {n : Int} {r : List PyData} (W : Wd b sa H0 H acc dacc) (m : In2 (.ref p) (.list (d0 :: d1 :: d2 :: .int n :: r)) acc dacc) (h : Q (.int n) H) : rIxL K (.ref p) (.int 3) H Q := x_lst (j := 3) W m rfl rfl (v_int fun _ => h)
theorem x_T4 {K : PySem.W.Frag} {p : Addr} {d0 d1 d2 d3 : PyData} {d : PyData} {r : List PyData} (W : Wd b sa H0 H acc dacc) (m : In2 (.ref p) (.tuple (d0 :: d1 :: d2 :: d3 :: d :: r)) acc dacc) (h : VS d fun x => Wd b sa H0 H (x :: acc) (d :: dacc) → Q x H) : rIxT K (.ref p) (.int 4) H Q := x_tup (j := 4) W m rfl rfl h
theorem x_T4i {K : PySem.W.Frag} {p : Addr} {d0 d1 d2 d3 : PyData} {n : Int} {r : List PyData} (W : Wd b sa H0 H acc dacc) (m : In2 (.ref p) (.tuple (d0 :: d1 :: d2 :: d3 :: .int n :: r)) acc dacc) (h : Q (.int n) H) : rIxT K (.ref p) (.int 4) H Q := x_tup (j := 4) W m rfl rfl (v_int fun _ => h)
theorem x_L4 {K : PySem.W.Frag} {p : Addr} {d0 d1 d2 d3 : PyData} {d : PyData} {r : List PyData} (W : Wd b sa H0 H acc dacc) (m : In2 (.ref p) (.list (d0 :: d1 :: d2 :: d3 :: d :: r)) acc dacc) (h : VS d fun x => Wd b sa H0 H (x :: acc) (d :: dacc) → Q x H) : rIxL K (.ref p) (.int 4) H Q := x_lst (j := 4) W m rfl rfl h
theorem x_L4i {K : PySem.W.Frag} {p : Addr} {d0 d1 d2 d3 : PyData} {n : Int} {r : List PyData} (W : Wd b sa H0 H acc dacc) (m : In2 (.ref p) (.list (d0 :: d1 :: d2 :: d3 :: .int n :: r)) acc dacc) (h : Q (.int n) H) : rIxL K (.ref p) (.int 4) H Q := x_lst (j := 4) W m rfl rfl (v_int fun _ => h)
theorem x_T5 {K : PySem.W.Frag} {p : Addr} {d0 d1 d2 d3 d4 : PyData} {d : PyData} {r : List PyData} (W : Wd b sa H0 H acc dacc) (m : In2 (.ref p) (.tuple (d0 :: d1 :: d2 :: d3 :: d4 :: d :: r)) acc dacc) (h : VS d fun x => Wd b sa H0 H (x :: acc) (d :: dacc) → Q x H) : rIxT K (.ref p) (.int 5) H Q := x_tup (j := 5) W m rfl rfl h
theorem x_T5i {K : PySem.W.Frag} {p : Addr} {d0 d1 d2 d3 d4 : PyData} {n : Int} {r : List PyData} (W : Wd b sa H0 H acc dacc) (m : In2 (.ref p) (.tuple (d0 :: d1 :: d2 :: d3 :: d4 :: .int n :: r)) acc dacc) (h : Q (.int n) H) : rIxT K (.ref p) (.int 5) H Q := x_tup (j := 5) W m rfl rfl (v_int fun _ => h)
theorem x_L5 {K : PySem.W.Frag} {p : Addr} {d0 d1 d2 d3 d4 : PyData} {d : PyData} {r : List PyData} (W : Wd b sa H0 H acc dacc) (m : In2 (.ref p) (.list (d0 :: d1 :: d2 :: d3 :: d4 :: d :: r)) acc dacc) (h : VS d fun x => Wd b sa H0 H (x :: acc) (d :: dacc) → Q x H) : rIxL K (.ref p) (.int 5) H Q := x_lst (j := 5) W m rfl rfl h
theorem x_L5i {K : PySem.W.Frag} {p : Addr} {d0 d1 d2 d3 d4 : PyData} {n : Int} {r : List PyData} (W : Wd b sa H0 H acc dacc) (m : In2 (.ref p) (.list (d0 :: d1 :: d2 :: d3 :: d4 :: .int n :: r)) acc dacc) (h : Q (.int n) H) : rIxL K (.ref p) (.int 5) H Q := x_lst (j := 5) W m rfl rfl (v_int fun _ => h)
theorem x_T6 {K : PySem.W.Frag} {p : Addr} {d0 d1 d2 d3 d4 d5 : PyData} {d : PyData} {r : List PyData} (W : Wd b sa H0 H acc dacc) (m : In2 (.ref p) (.tuple (d0 :: d1 :: d2 :: d3 :: d4 :: d5 :: d :: r)) acc dacc) (h : VS d fun x => Wd b sa H0 H (x :: acc) (d :: dacc) → Q x H) : rIxT K (.ref p) (.int 6) H Q := x_tup (j := 6) W m rfl rfl h
theorem x_T6i {K : PySem.W.Frag} {p : Addr} {d0 d1 d2 d3 d4 d5 : PyData} {n : Int} {r : List PyData} (W : Wd b sa H0 H acc dacc) (m : In2 (.ref p) (.tuple (d0 :: d1 :: d2 :: d3 :: d4 :: d5 :: .int n :: r)) acc dacc) (h : Q (.int n) H) : rIxT K (.ref p) (.int 6) H Q := x_tup (j := 6) W m rfl rfl (v_int fun _ => h)
theorem x_L6 {K : PySem.W.Frag} {p : Addr} {d0 d1 d2 d3 d4 d5 : PyData} {d : PyData} {r : List PyData} (W : Wd b sa H0 H acc dacc) (m : In2 (.ref p) (.list (d0 :: d1 :: d2 :: d3 :: d4 :: d5 :: d :: r)) acc dacc) (h : VS d fun x => Wd b sa H0 H (x :: acc) (d :: dacc) → Q x H) : rIxL K (.ref p) (.int 6) H Q := x_lst (j := 6) W m rfl rfl h
theorem x_L6i {K : PySem.W.Frag} {p : Addr} {d0 d1 d2 d3 d4 d5 : PyData} {n : Int} {r : List PyData} (W : Wd b sa H0 H acc dacc) (m : In2 (.ref p) (.list (d0 :: d1 :: d2 :: d3 :: d4 :: d5 :: .int n :: r)) acc dacc) (h : Q (.int n) H) : rIxL K (.ref p) (.int 6) H Q := x_lst (j := 6) W m rfl rfl (v_int fun _ => h)
theorem x_T7 {K : PySem.W.Frag} {p : Addr} {d0 d1 d2 d3 d4 d5 d6 : PyData} {d : PyData} {r : List PyData} (W : Wd b sa H0 H acc dacc) (m : In2 (.ref p) (.tuple (d0 :: d1 :: d2 :: d3 :: d4 :: d5 :: d6 :: d :: r)) acc dacc) (h : VS d fun x => Wd b sa H0 H (x :: acc) (d :: dacc) → Q x H) : rIxT K (.ref p) (.int 7) H Q := x_tup (j := 7) W m rfl rfl h
theorem x_T7i {K : PySem.W.Frag} {p : Addr} {d0 d1 d2 d3 d4 d5 d6 : PyData} {n : Int} {r : List PyData} (W : Wd b sa H0 H acc dacc) (m : In2 (.ref p) (.tuple (d0 :: d1 :: d2 :: d3 :: d4 :: d5 :: d6 :: .int n :: r)) acc dacc) (h : Q (.int n) H) : rIxT K (.ref p) (.int 7) H Q := x_tup (j := 7) W m rfl rfl (v_int fun _ => h)
theorem x_L7 {K : PySem.W.Frag} {p : Addr} {d0 d1 d2 d3 d4 d5 d6 : PyData} {d : PyData} {r : List PyData} (W : Wd b sa H0 H acc dacc) (m : In2 (.ref p) (.list (d0 :: d1 :: d2 :: d3 :: d4 :: d5 :: d6 :: d :: r)) acc dacc) (h : VS d fun x => Wd b sa H0 H (x :: acc) (d :: dacc) → Q x H) : rIxL K (.ref p) (.int 7) H Q := x_lst (j := 7) W m rfl rfl h
theorem x_L7i {K : PySem.W.Frag} {p : Addr} {d0 d1 d2 d3 d4 d5 d6 : PyData} {n : Int} {r : List PyData} (W : Wd b sa H0 H acc dacc) (m : In2 (.ref p) (.list (d0 :: d1 :: d2 :: d3 :: d4 :: d5 :: d6 :: .int n :: r)) acc dacc) (h : Q (.int n) H) : rIxL K (.ref p) (.int 7) H Q := x_lst (j := 7) W m rfl rfl (v_int fun _ => h)
theorem x_T8 {K : PySem.W.Frag} {p : Addr} {d0 d1 d2 d3 d4 d5 d6 d7 : PyData} {d : PyData} {r : List PyData} (W : Wd b sa H0 H acc dacc) (m : In2 (.ref p) (.tuple (d0 :: d1 :: d2 :: d3 :: d4 :: d5 :: d6 :: d7 :: d :: r)) acc dacc) (h : VS d fun x => Wd b sa H0 H (x :: acc) (d :: dacc) → Q x H) : rIxT K (.ref p) (.int 8) H Q := x_tup (j := 8) W m rfl rfl h
theorem x_T8i {K : PySem.W.Frag} {p : Addr} {d0 d1 d2 d3 d4 d5 d6 d7 : PyData} {n : Int} {r : List PyData} (W : Wd b sa H0 H acc dacc) (m : In2 (.ref p) (.tuple (d0 :: d1 :: d2 :: d3 :: d4 :: d5 :: d6 :: d7 :: .int n :: r)) acc dacc) (h : Q (.int n) H) : rIxT K (.ref p) (.int 8) H Q := x_tup (j := 8) W m rfl rfl (v_int fun _ => h)
theorem x_L8 {K : PySem.W.Frag} {p : Addr} {d0 d1 d2 d3 d4 d5 d6 d7 : PyData} {d : PyData} {r : List PyData} (W : Wd b sa H0 H acc dacc) (m : In2 (.ref p) (.list (d0 :: d1 :: d2 :: d3 :: d4 :: d5 :: d6 :: d7 :: d :: r)) acc dacc) (h : VS d fun x => Wd b sa H0 H (x :: acc) (d :: dacc) → Q x H) : rIxL K (.ref p) (.int 8) H Q := x_lst (j := 8) W m rfl rfl h
theorem x_L8i {K : PySem.W.Frag} {p : Addr} {d0 d1 d2 d3 d4 d5 d6 d7 : PyData} {n : Int} {r : List PyData} (W : Wd b sa H0 H acc dacc) (m : In2 (.ref p) (.list (d0 :: d1 :: d2 :: d3 :: d4 :: d5 :: d6 :: d7 :: .int n :: r)) acc dacc) (h : Q (.int n) H) : rIxL K (.ref p) (.int 8) H Q := x_lst (j := 8) W m rfl rfl (v_int fun _ => h)
end
theorem rps1 {sa : Addr} {H : Hp} {vs : List V} {d0 : PyData} (r : Rps sa H vs [d0]) : ∃ x0, vs = [x0] ∧ Rp sa H x0 d0 := by
  cases r with | cons h0 t0 =>
  cases t0
  exact ⟨_, rfl, h0⟩
theorem rps2 {sa : Addr} {H : Hp} {vs : List V} {d0 d1 : PyData} (r : Rps sa H vs [d0, d1]) : ∃ x0 x1, vs = [x0, x1] ∧ Rp sa H x0 d0 ∧ Rp sa H x1 d1 := by
  cases r with | cons h0 t0 =>
  cases t0 with | cons h1 t1 =>
  cases t1
  exact ⟨_, _, rfl, h0, h1⟩
theorem rps3 {sa : Addr} {H : Hp} {vs : List V} {d0 d1 d2 : PyData} (r : Rps sa H vs [d0, d1, d2]) : ∃ x0 x1 x2, vs = [x0, x1, x2] ∧ Rp sa H x0 d0 ∧ Rp sa H x1 d1 ∧ Rp sa H x2 d2 := by
  cases r with | cons h0 t0 =>
  cases t0 with | cons h1 t1 =>
  cases t1 with | cons h2 t2 =>
  cases t2
  exact ⟨_, _, _, rfl, h0, h1, h2⟩
theorem rps4 {sa : Addr} {H : Hp} {vs : List V} {d0 d1 d2 d3 : PyData} (r : Rps sa H vs [d0, d1, d2, d3]) : ∃ x0 x1 x2 x3, vs = [x0, x1, x2, x3] ∧ Rp sa H x0 d0 ∧ Rp sa H x1 d1 ∧ Rp sa H x2 d2 ∧ Rp sa H x3 d3 := by
  cases r with | cons h0 t0 =>
  cases t0 with | cons h1 t1 =>
  cases t1 with | cons h2 t2 =>
  cases t2 with | cons h3 t3 =>
  cases t3
  exact ⟨_, _, _, _, rfl, h0, h1, h2, h3⟩
theorem rps5 {sa : Addr} {H : Hp} {vs : List V} {d0 d1 d2 d3 d4 : PyData} (r : Rps sa H vs [d0, d1, d2, d3, d4]) : ∃ x0 x1 x2 x3 x4, vs = [x0, x1, x2, x3, x4] ∧ Rp sa H x0 d0 ∧ Rp sa H x1 d1 ∧ Rp sa H x2 d2 ∧ Rp sa H x3 d3 ∧ Rp sa H x4 d4 := by
  cases r with | cons h0 t0 =>
  cases t0 with | cons h1 t1 =>
  cases t1 with | cons h2 t2 =>
  cases t2 with | cons h3 t3 =>
  cases t3 with | cons h4 t4 =>
  cases t4
  exact ⟨_, _, _, _, _, rfl, h0, h1, h2, h3, h4⟩
theorem rps6 {sa : Addr} {H : Hp} {vs : List V} {d0 d1 d2 d3 d4 d5 : PyData} (r : Rps sa H vs [d0, d1, d2, d3, d4, d5]) : ∃ x0 x1 x2 x3 x4 x5, vs = [x0, x1, x2, x3, x4, x5] ∧ Rp sa H x0 d0 ∧ Rp sa H x1 d1 ∧ Rp sa H x2 d2 ∧ Rp sa H x3 d3 ∧ Rp sa H x4 d4 ∧ Rp sa H x5 d5 := by
  cases r with | cons h0 t0 =>
  cases t0 with | cons h1 t1 =>
  cases t1 with | cons h2 t2 =>
  cases t2 with | cons h3 t3 =>
  cases t3 with | cons h4 t4 =>
  cases t4 with | cons h5 t5 =>
  cases t5
  exact ⟨_, _, _, _, _, _, rfl, h0, h1, h2, h3, h4, h5⟩
theorem rps7 {sa : Addr} {H : Hp} {vs : List V} {d0 d1 d2 d3 d4 d5 d6 : PyData} (r : Rps sa H vs [d0, d1, d2, d3, d4, d5, d6]) : ∃ x0 x1 x2 x3 x4 x5 x6, vs = [x0, x1, x2, x3, x4, x5, x6] ∧ Rp sa H x0 d0 ∧ Rp sa H x1 d1 ∧ Rp sa H x2 d2 ∧ Rp sa H x3 d3 ∧ Rp sa H x4 d4 ∧ Rp sa H x5 d5 ∧ Rp sa H x6 d6 := by
  cases r with | cons h0 t0 =>
  cases t0 with | cons h1 t1 =>
  cases t1 with | cons h2 t2 =>
  cases t2 with | cons h3 t3 =>
  cases t3 with | cons h4 t4 =>
  cases t4 with | cons h5 t5 =>
  cases t5 with | cons h6 t6 =>
  cases t6
  exact ⟨_, _, _, _, _, _, _, rfl, h0, h1, h2, h3, h4, h5, h6⟩
theorem rps8 {sa : Addr} {H : Hp} {vs : List V} {d0 d1 d2 d3 d4 d5 d6 d7 : PyData} (r : Rps sa H vs [d0, d1, d2, d3, d4, d5, d6, d7]) : ∃ x0 x1 x2 x3 x4 x5 x6 x7, vs = [x0, x1, x2, x3, x4, x5, x6, x7] ∧ Rp sa H x0 d0 ∧ Rp sa H x1 d1 ∧ Rp sa H x2 d2 ∧ Rp sa H x3 d3 ∧ Rp sa H x4 d4 ∧ Rp sa H x5 d5 ∧ Rp sa H x6 d6 ∧ Rp sa H x7 d7 := by
  cases r with | cons h0 t0 =>
  cases t0 with | cons h1 t1 =>
  cases t1 with | cons h2 t2 =>
  cases t2 with | cons h3 t3 =>
  cases t3 with | cons h4 t4 =>
  cases t4 with | cons h5 t5 =>
  cases t5 with | cons h6 t6 =>
  cases t6 with | cons h7 t7 =>
  cases t7
  exact ⟨_, _, _, _, _, _, _, _, rfl, h0, h1, h2, h3, h4, h5, h6, h7⟩
theorem v_any {F : V → Prop} {d : PyData} (h : ∀ x, F x) : VS d F := by
  cases d <;> first | exact h _ | exact fun p => h _
theorem iteT' {A B : Prop} (h : A) : if true = true then A else B := iteT h
theorem iteF' {A B : Prop} (h : B) : if false = true then A else B := iteF h
/-- a def that raises, for some data, an error of the class at C, and else hands back a datum -/
def Px (C : Addr) (pre : List PyData → Prop) (bad : List PyData → Bool) (fn : List PyData → PyData) : Sp := fun vs H Q E => ∃ (sa : Addr) (ds : List PyData), (∃ o, H sa = some o) ∧ Rps sa H vs ds ∧ pre ds ∧
  (bad ds = true → ∀ H', Same H H' → E (.ref C) none H') ∧ (bad ds = false → ∀ H' x, Same H H' → Rp sa H' x (fn ds) → Q x H')
theorem call_X {b : Bool} {sa : Addr} {H0 H : Hp} {acc : List V} {dacc : List PyData} {Q : VK} {E : XK} {C : Addr} {pre : List PyData → Prop} {bad : List PyData → Bool} {fn : List PyData → PyData} {vs : List V} {ds : List PyData} (W : Wd b sa H0 H acc dacc) (r : Rps sa H vs ds) (hp : pre ds)
    (h1 : bad ds = true → ∀ H', Wd b sa H0 H' acc dacc → E (.ref C) none H') (h2 : bad ds = false → ∀ H', VS (fn ds) fun x => Wd b sa H0 H' (x :: acc) (fn ds :: dacc) → Q x H') : Px C pre bad fn vs H Q E :=
  ⟨sa, ds, W.tr, r, hp, fun e H' s => h1 e H' (W.go s), fun e H' x s rx => (h2 e H').of rx ((W.go s).put rx)⟩
/-! ### loops -/
def LoopG (J : It) (g : TG) (tb : TS) (D : Ends) (σ : L2.St) (H : Hp) : Prop := ∃ W : Nat → Nat → L2.St → Hp → Prop, (∃ m, W 0 m σ H) ∧ ∀ i m σ H, W i m σ H →
  (J.stop i H ∧ D.nx σ H) ∨ (J.go i H ∧ ∃ N : L2.St → Hp → Prop, (∀ σ' H', N σ' H' → ∃ m', m' < m ∧ W (i + 1) m' σ' H') ∧ ∀ x H', J.yld i H x H' → g x σ H' fun σ2 H2 => tb { D with nx := N, ct := N, bk := D.nx } σ2 H2)
def Rng1G (vs : List V) (H : Hp) (R : It → Hp → Prop) : Prop := ∃ j : Int, vs = [.int j] ∧ -(2 ^ 62) ≤ j ∧ j < 2 ^ 62 ∧ R (Itr 0 j.toNat) H
def Rng2G (vs : List V) (H : Hp) (R : It → Hp → Prop) : Prop := ∃ i j : Int, vs = [.int i, .int j] ∧ (-(2 ^ 62) ≤ i ∧ i < 2 ^ 62 ∧ -(2 ^ 62) ≤ j ∧ j < 2 ^ 62) ∧ R (Itr i (j - i).toNat) H
section
variable {K : PySem.W.Frag} {D : Ends} {σ : L2.St} {H : Hp} {g : TG} {tb : TS} {R : It → Hp → Prop}
theorem w_for {wi : TI} (h : wi σ H fun J H1 => LoopG J g tb D σ H1) : tFor wi g tb D σ H := h
theorem w_rng1 {ta : TA} (h : ta σ H fun vs H1 => Rng1G vs H1 R) : iRng1 ta σ H R := h
theorem w_rng2 {ta : TA} (h : ta σ H fun vs H1 => Rng2G vs H1 R) : iRng2 ta σ H R := h
theorem rng1 {j : Int} (h0 : -4000000000000000000 ≤ j ∧ j ≤ 4000000000000000000) (h : R (Itr 0 j.toNat) H) : Rng1G [.int j] H R := ⟨j, rfl, by omega, by omega, h⟩
theorem rng2 {i j : Int} (h0 : (-4000000000000000000 ≤ i ∧ i ≤ 4000000000000000000) ∧ -4000000000000000000 ≤ j ∧ j ≤ 4000000000000000000) (h : R (Itr i (j - i).toNat) H) : Rng2G [.int i, .int j] H R := ⟨i, j, rfl, ⟨by omega, by omega, by omega, by omega⟩, h⟩
theorem lp_range {lo : Int} {n : Nat} (Pv : Nat → L2.St → Hp → Prop) (h0 : Pv 0 σ H)
    (hs : ∀ i σ H, i < n → Pv i σ H → g (.int (lo + i)) σ H fun σ2 H2 => tb { D with nx := Pv (i + 1), ct := Pv (i + 1), bk := D.nx } σ2 H2) (hd : ∀ σ H, Pv n σ H → D.nx σ H) : LoopG (Itr lo n) g tb D σ H := for_range Pv h0 hs hd
theorem lp_list {a : Addr} {xs : List V} (Pv : Nat → L2.St → Hp → Prop) (h0 : Pv 0 σ H) (hl : ∀ i σ H, i ≤ xs.length → Pv i σ H → SqL K H a xs)
    (hs : ∀ i x σ H, xs[i]? = some x → Pv i σ H → g x σ H fun σ2 H2 => tb { D with nx := Pv (i + 1), ct := Pv (i + 1), bk := D.nx } σ2 H2) (hd : ∀ σ H, Pv xs.length σ H → D.nx σ H) : LoopG (Itl K a) g tb D σ H := for_list Pv h0 hl hs hd
end
/-! ### sizes, shut: x is below 2 ^ k -/
@[irreducible] def Bt (k : Nat) (x : Int) : Prop := x.natAbs < 2 ^ k
theorem bt_def {k : Nat} {x : Int} : Bt k x ↔ x.natAbs < 2 ^ k := by unfold Bt; exact Iff.rfl
theorem Bt.mono {k l : Nat} {x : Int} (h : Bt k x) (e : k ≤ l) : Bt l x := bt_def.mpr (Nat.lt_of_lt_of_le (bt_def.mp h) (Nat.pow_le_pow_right (by decide) e))
theorem Bt.mul {k l : Nat} {x y : Int} (h : Bt k x) (g : Bt l y) : Bt (k + l) (x * y) := by
  have h := bt_def.mp h
  have g := bt_def.mp g
  refine bt_def.mpr ?_
  rw [Int.natAbs_mul, Nat.pow_add]
  exact Nat.mul_lt_mul'' h g
theorem Bt.add {k l : Nat} {x y : Int} (h : Bt k x) (g : Bt l y) : Bt (max k l + 1) (x + y) := by
  have h := bt_def.mp (h.mono (Nat.le_max_left k l))
  have g := bt_def.mp (g.mono (Nat.le_max_right k l))
  refine bt_def.mpr ?_
  rw [Nat.pow_succ]
  have e := Int.natAbs_add_le x y
  omega
theorem Bt.neg {k : Nat} {x : Int} (h : Bt k x) : Bt k (-x) := by
  refine bt_def.mpr ?_
  rw [Int.natAbs_neg]
  exact bt_def.mp h
theorem Bt.sub {k l : Nat} {x y : Int} (h : Bt k x) (g : Bt l y) : Bt (max k l + 1) (x - y) := h.add g.neg
theorem Bt.mulx {k l : Nat} {x y : Int} (h : Bt k x) (g : Bt l y) (e : k + l ≤ 134217728) : CMulX x y := mulx_ok (bt_def.mp h) (bt_def.mp g) e
theorem Bt.log {k : Nat} {x : Int} (h : Bt k x) (e : 0 < k ∧ k ≤ 9000) : x.natAbs.log2 < 9000 := Nat.lt_of_lt_of_le (PySem.Flt.log2_lt_of e.1 (bt_def.mp h)) e.2
theorem Bt.le {k : Nat} {x y : Int} (h : Bt k x) (e : y.natAbs ≤ x.natAbs) : Bt k y := bt_def.mpr (Nat.lt_of_le_of_lt e (bt_def.mp h))
theorem bt_39 {x : Int} (h : x.natAbs < 1000000000000000000000000000000000000000) : Bt 130 x := bt_def.mpr (Nat.lt_trans h (by decide))
theorem bt_lit {x : Int} (k : Nat) (h : x.natAbs < 2 ^ k) : Bt k x := bt_def.mpr h
theorem w_intB {b : Bool} {H : Hp} {Q : VK} (h : Q (.int (if b then 1 else 0)) H) : rInt1 [.bl b] H Q := .inr ⟨b, rfl, h⟩
theorem g_tup2 {b : Bool} {sa : Addr} {H0 H : Hp} {acc : List V} {dacc : List PyData} {K : PySem.W.Frag} {p : Addr} {d0 d1 : PyData} {i j : Nat} {σ : L2.St} {Q : L2.St → Hp → Prop} (W : Wd b sa H0 H acc dacc) (m : In2 (.ref p) (.tuple [d0, d1]) acc dacc)
    (h : VS d0 fun x => VS d1 fun y => Wd b sa H0 H (y :: x :: acc) (d1 :: d0 :: dacc) → Q ((σ.set i (some x)).set j (some y)) H) : gTup K 2 (gCons (gName i) (gCons (gName j) gNil)) (.ref p) σ H Q := by
  cases W.get m with
  | @tup _ xs _ n hx r =>
    obtain ⟨x, y, rfl, r0, r1⟩ := rps2 r
    exact ⟨p, [x, y], rfl, SqT.of hx, rfl, x, [y], rfl, y, [], rfl, rfl, ((h.of r0).of r1) ((W.put r0).put r1)⟩
theorem g_tup3 {b : Bool} {sa : Addr} {H0 H : Hp} {acc : List V} {dacc : List PyData} {K : PySem.W.Frag} {p : Addr} {d0 d1 d2 : PyData} {i j k : Nat} {σ : L2.St} {Q : L2.St → Hp → Prop} (W : Wd b sa H0 H acc dacc) (m : In2 (.ref p) (.tuple [d0, d1, d2]) acc dacc)
    (h : VS d0 fun x => VS d1 fun y => VS d2 fun z => Wd b sa H0 H (z :: y :: x :: acc) (d2 :: d1 :: d0 :: dacc) → Q (((σ.set i (some x)).set j (some y)).set k (some z)) H) : gTup K 3 (gCons (gName i) (gCons (gName j) (gCons (gName k) gNil))) (.ref p) σ H Q := by
  cases W.get m with
  | @tup _ xs _ n hx r =>
    obtain ⟨x, y, z, rfl, r0, r1, r2⟩ := rps3 r
    exact ⟨p, [x, y, z], rfl, SqT.of hx, rfl, x, [y, z], rfl, y, [z], rfl, z, [], rfl, rfl, (((h.of r0).of r1).of r2) (((W.put r0).put r1).put r2)⟩
def swap2 {α : Type} : List α → List α
  | [a, b] => [b, a]
  | l => l
theorem vals_swap2 {zs : List V} {ws : List Value} (r : Vals zs ws) (h : zs.length = 2) : Vals (swap2 zs) (swap2 ws) := by
  cases r with
  | nil => cases h
  | cons a t =>
    cases t with
    | nil => cases h
    | cons b u =>
      cases u with
      | nil => exact .cons b (.cons a .nil)
      | cons c v => simp at h
/-- the law: over a list of at most 63 ints it answers True -/
def sp_law (K : PySem.W.Frag) : Sp := fun vs H Q _ => ∃ (a : Addr) (ns : List Int), vs = [.ref a] ∧ SqL K H a (ns.map V.int) ∧ ns.length ≤ 63 ∧ ∀ H', Q (.bl true) H'
/-- a def without a stream that hands back some datum -/
def Pr (pre : List PyData → Prop) (R : List PyData → PyData → Prop) : Sp := fun vs H Q _ => ∃ (sa : Addr) (ds : List PyData), (∃ o, H sa = some o) ∧ Rps sa H vs ds ∧ pre ds ∧ ∀ H' x d, Same H H' → Rp sa H' x d → R ds d → Q x H'
theorem call_R {b : Bool} {sa : Addr} {H0 H : Hp} {acc : List V} {dacc : List PyData} {Q : VK} {E : XK} {pre : List PyData → Prop} {R : List PyData → PyData → Prop} {vs : List V} {ds : List PyData} (W : Wd b sa H0 H acc dacc) (r : Rps sa H vs ds) (hp : pre ds)
    (h : ∀ H' d, R ds d → VS d fun x => Wd b sa H0 H' (x :: acc) (d :: dacc) → Q x H') : Pr pre R vs H Q E :=
  ⟨sa, ds, W.tr, r, hp, fun H' x d s rx hR => (h H' d hR).of rx ((W.go s).put rx)⟩
theorem bl_dec {a b : Bool} : decide (V.bl a = V.bl b) = (a == b) := by
  cases a <;> cases b <;> rfl
theorem w_eqBB {a b : Bool} {H : Hp} {Q : VK} (h : Q (.bl (a == b)) H) : rEq (.bl a) (.bl b) H Q := ⟨rfl, by rw [bl_dec]; exact h⟩
theorem w_neBB {a b : Bool} {H : Hp} {Q : VK} (h : Q (.bl (!(a == b))) H) : rNe (.bl a) (.bl b) H Q := ⟨rfl, by rw [bl_dec]; exact h⟩
theorem Rp.tupF {sa : Addr} {H : Hp} {v : V} {ds : List PyData} (r : Rp sa H v (.tuple ds)) : ∃ p xs, v = .ref p ∧ H p = some (.tup xs) := by
  cases r with
  | tup n h r => exact ⟨_, _, rfl, h⟩
/-- things that are tuples of ints stand when a list is changed -/
theorem Rp.tupStay {sa g : Addr} {H : Hp} {v : V} {a b : Int} {xs ys : List V} (r : Rp sa H v (.tuple [.int a, .int b])) (hg : H g = some (.lst xs)) : Rp sa (upd H g (.lst ys)) v (.tuple [.int a, .int b]) := by
  cases r with
  | @tup p zs _ n h r =>
    have ne : p ≠ g := fun e => by
      rw [e, hg] at h
      cases h
    obtain ⟨x, y, rfl, r0, r1⟩ := rps2 r
    cases r0
    cases r1
    exact .tup n (by rw [upd_ne ne]; exact h) (.cons (.int _) (.cons (.int _) .nil))
theorem Stm.setL {H : Hp} {a g : Addr} {x : V} {xs ys : List V} (s : Stm H a) (hg : H g = some (.lst (x :: xs))) (hx : ∀ n, x ≠ .int n) (ne : g ≠ a) : Stm (upd H g (.lst ys)) a := by
  obtain ⟨c, p, q, n, ns, h1, h2, h3, h4, h5⟩ := s
  have nc : c ≠ g := fun e => by
    rw [e, hg] at h4
    cases ns with
    | nil => simp at h5
    | cons m r =>
      injection h4 with h4
      injection h4 with h4
      injection h4 with h4 _
      exact hx _ h4
  exact ⟨c, p, q, n, ns, by rw [upd_ne (Ne.symm ne)]; exact h1, h2, h3, by rw [upd_ne nc]; exact h4, h5⟩
/-! ### data without lists and dicts: they stand when a list is changed -/
mutual
def tupOnly : PyData → Bool
  | .list _ => false
  | .tuple ds => tupOnlys ds
  | .dict _ => false
  | _ => true
def tupOnlys : List PyData → Bool
  | [] => true
  | d :: ds => tupOnly d && tupOnlys ds
end
mutual
theorem Rp.stay {sa g : Addr} {H : Hp} {xs ys : List V} (hg : H g = some (.lst xs)) : ∀ {v : V} {d : PyData}, Rp sa H v d → tupOnly d = true → Rp sa (upd H g (.lst ys)) v d
  | _, _, .non, _ => .non
  | _, _, .bl b, _ => .bl b
  | _, _, .int i, _ => .int i
  | _, _, .str x, _ => .str x
  | _, _, .lst _ _ _, e => nomatch e
  | _, _, .tup n h r, e => .tup n (by
      rw [upd_ne (fun z => by
        rw [z, hg] at h
        cases h)]
      exact h) (Rps.stay hg r e)
  | _, _, .dct _ _ _, e => nomatch e
theorem Rps.stay {sa g : Addr} {H : Hp} {xs ys : List V} (hg : H g = some (.lst xs)) : ∀ {vs : List V} {ds : List PyData}, Rps sa H vs ds → tupOnlys ds = true → Rps sa (upd H g (.lst ys)) vs ds
  | _, _, .nil, _ => .nil
  | _, _, .cons h t, e => .cons (Rp.stay hg h (by
      unfold tupOnlys at e
      exact (Bool.and_eq_true _ _ ▸ e).1)) (Rps.stay hg t (by
      unfold tupOnlys at e
      exact (Bool.and_eq_true _ _ ▸ e).2))
end
theorem tupOnlys_all : ∀ {ds : List PyData}, (∀ d ∈ ds, tupOnly d = true) → tupOnlys ds = true
  | [], _ => rfl
  | d :: ds, h => by
    unfold tupOnlys
    rw [h d List.mem_cons_self, tupOnlys_all fun e he => h e (List.mem_cons_of_mem _ he)]
    rfl
theorem Rps.set {sa : Addr} {H : Hp} {y : V} {dy : PyData} (hy : Rp sa H y dy) : ∀ {vs : List V} {ds : List PyData} (j : Nat), Rps sa H vs ds → Rps sa H (vs.set j y) (ds.set j dy)
  | _, _, _, .nil => .nil
  | _, _, 0, .cons _ t => .cons hy t
  | _, _, j + 1, .cons h t => .cons h (Rps.set hy j t)
theorem Stm.putL {H : Hp} {a g : Addr} {xs ys : List V} (s : Stm H a) (hg : H g = some (.lst xs)) (ne : g ≠ a) (hx : ∀ c p q n, H a = some (.lst [.ref c, .int p, .int q, .int n]) → c ≠ g) : Stm (upd H g (.lst ys)) a := by
  obtain ⟨c, p, q, n, ns, h1, h2, h3, h4, h5⟩ := s
  exact ⟨c, p, q, n, ns, by rw [upd_ne (Ne.symm ne)]; exact h1, h2, h3, by rw [upd_ne (hx c p q n h1)]; exact h4, h5⟩
theorem But.put {a g : Addr} {H H' : Hp} {o : HO} (b : But a H H') (h : H g = none) : But a H (L2.upd H' g o) := fun c u n e => by
  rw [upd_ne (ne_of_none e h)]
  exact b c u n e
/-- the stream's cells, told by the address -/
def StmC (H : Hp) (a c : Addr) : Prop := ∃ (p g n : Int) (ns : List Int), H a = some (.lst [.ref c, .int p, .int g, .int n]) ∧ 0 ≤ p ∧ 0 ≤ g ∧ H c = some (.lst (ns.map V.int)) ∧ 0 < ns.length
theorem lcYes {σ : L2.St} {H : Hp} {A B : Hp → Prop} (h : A H) : tYes σ H fun b H3 => if b = true then A H3 else B H3 := by
  show (if true = true then A H else B H)
  exact iteT h
/-- [te for j in range(n)], te drawing; its items hold no lists -/
theorem lc_RN {sa : Addr} {H : Hp} {j n : Nat} {te : TE} {vs : List Nat} {σ : L2.St} {Q : VK} (st : Stm H sa) (hn : n ≤ 1000) (R : PyData → Prop) (hR : ∀ d, R d → tupOnly d = true) (hr : ∀ v d H', R d → Rp sa H' v d → ∀ i, v ≠ .int i)
    (hw : ∀ x, wipe ((wipe σ vs).set j (some x)) vs = wipe σ vs)
    (hs : ∀ (i : Nat) H' Q', i < n → But sa H H' → Stm H' sa → (∀ y H4 dy, But sa H' H4 → Stm H4 sa → Rp sa H4 y dy → R dy → Q' y H4) → te ((wipe σ vs).set j (some (.int (0 + (i : Int))))) H' Q')
    (hd : ∀ H' D xs ds, H D = none → But sa H H' → Stm H' sa → D ≠ sa → H' D = some (.lst xs) → Rps sa H' xs ds → ds.length = n → (∀ d ∈ ds, R d) → Q (.ref D) H') : tLc (iRng1 (tCons (tC (.int (n : Int))) tNil)) (gName j) tYes te vs σ H Q := by
  refine ⟨(n : Int), rfl, by omega, by omega, fun D nD => ?_⟩
  have nsa : D ≠ sa := st.ne nD
  -- the cells of the stream stand apart from D
  have cells : ∀ H', But sa H H' → Stm H' sa → (∃ xs, H' D = some (.lst xs) ∧ ∀ i ∈ xs, ∀ k, i ≠ V.int k) → ∀ c p q m, H' sa = some (.lst [.ref c, .int p, .int q, .int m]) → ∀ ns : List Int, H' c = some (.lst (ns.map V.int)) → 0 < ns.length → c ≠ D := fun H' b s ⟨xs, h1, h2⟩ c p q m h3 ns h4 h5 e => by
    rw [e, h1] at h4
    injection h4 with h4
    injection h4 with h4
    cases ns with
    | nil => simp at h5
    | cons k r =>
      rw [h4] at h2
      exact h2 (.int k) (by simp) k rfl
  refine lc_range (lo := 0) (n := n) (fun i H' => But sa H H' ∧ Stm H' sa ∧ ∃ xs ds, H' D = some (.lst xs) ∧ Rps sa H' xs ds ∧ ds.length = i ∧ ∀ d ∈ ds, R d) ?_ (fun i H' hi hP => ?_) (fun H' hP => ?_)
  · exact ⟨(But.refl sa H).put nD, st.keep (same_new nD), [], [], upd_same, .nil, rfl, fun d hd => absurd hd (by simp)⟩
  · obtain ⟨bb, s, xs, ds, h1, h2, h3, h4⟩ := hP
    refine ⟨hw _, lcYes ?_⟩
    refine hs i H' _ hi bb s fun y H4 dy b4 s4 ry hy => ?_
    have e4 : H4 D = some (.lst xs) := b4 _ _ nsa h1
    have r4 : Rps sa H4 xs ds := h2.but b4
    have all : tupOnlys ds = true := tupOnlys_all fun d hd => hR d (h4 d hd)
    refine ⟨xs, e4, by rw [h2.lens, h3]; exact small1000 (by omega), (bb.trans b4).put nD, ?_, xs ++ [y], ds ++ [dy], upd_same, (r4.stay e4 all).app (.cons (ry.stay e4 (hR _ hy)) .nil), by rw [List.length_append, h3]; rfl, fun d hd => ?_⟩
    · obtain ⟨c, p, q, m, ns, k1, k2, k3, k4, k5⟩ := s4
      have nc : c ≠ D := fun e => by
        rw [e, e4] at k4
        cases xs with
        | nil =>
          cases ns with
          | nil => simp at k5
          | cons _ _ => cases k4
        | cons x r =>
          cases ns with
          | nil => simp at k5
          | cons z _ =>
            injection k4 with k4
            injection k4 with k4
            injection k4 with k4 _
            cases r4 with
            | @cons _ _ d0 _ hx t => exact hr x d0 H4 (h4 d0 List.mem_cons_self) hx z k4
      exact ⟨c, p, q, m, ns, by rw [upd_ne (Ne.symm nsa)]; exact k1, k2, k3, by rw [upd_ne nc]; exact k4, k5⟩
    · rcases List.mem_append.mp hd with hd | hd
      · exact h4 d hd
      · rw [List.mem_singleton.mp hd]
        exact hy
  · obtain ⟨bb, s, xs, ds, h1, h2, h3, h4⟩ := hP
    exact hd H' D xs ds nD bb s nsa h1 h2 h3 h4
theorem lc_R {sa : Addr} {H : Hp} {j n : Nat} {te : TE} {vs : List Nat} {σ : L2.St} {Q : VK} (st : Stm H sa) (hn : n ≤ 1000) (R : PyData → Prop) (hR : ∀ d, R d → tupOnly d = true) (hr : ∀ v d H', R d → Rp sa H' v d → ∀ i, v ≠ .int i)
    (hw : ∀ x, wipe ((wipe σ vs).set j (some x)) vs = wipe σ vs)
    (hs : ∀ (i : Nat) H' Q', i < n → But sa H H' → Stm H' sa → (∀ y H4 dy, But sa H' H4 → Stm H4 sa → Rp sa H4 y dy → R dy → Q' y H4) → te ((wipe σ vs).set j (some (.int (0 + (i : Int))))) H' Q')
    (hd : ∀ H' D xs ds, But sa H H' → Stm H' sa → D ≠ sa → H' D = some (.lst xs) → Rps sa H' xs ds → ds.length = n → (∀ d ∈ ds, R d) → Q (.ref D) H') : tLc (iRng1 (tCons (tC (.int (n : Int))) tNil)) (gName j) tYes te vs σ H Q :=
  lc_RN st hn R hR hr hw hs fun H' D xs ds _ => hd H' D xs ds
/-- the script stands beside the stream -/
theorem sq_but {K : PySem.W.Frag} {a c : Addr} {H H' : Hp} {ns : List Int} (b : But a H H') (s : Stm H a) (h : SqL K H c (ns.map V.int)) : SqL K H' c (ns.map V.int) := by
  obtain ⟨c0, p, q, n, ms, h1, _⟩ := s
  rcases h with (h | ⟨o, h⟩) | h
  · refine .inl (.inl (b _ _ (fun e => ?_) h))
    rw [e, h1] at h
    injection h with h
    injection h with h
    cases ns with
    | nil => cases h
    | cons x r => cases h
  · refine .inl (.inr ⟨o, b _ _ (fun e => ?_) h⟩)
    rw [e, h1] at h
    cases h
  · exact .inr h
/-- the greatest number whose square is at most n -/
def IsRt (n r : Nat) : Prop := r * r ≤ n ∧ n < (r + 1) * (r + 1)
theorem small8 {n : Nat} (h : n < 8) : IsRt n (Float64.rootBelow8 n) := by
  unfold Float64.rootBelow8 IsRt
  rcases (show n = 0 ∨ n = 1 ∨ n = 2 ∨ n = 3 ∨ n = 4 ∨ n = 5 ∨ n = 6 ∨ n = 7 by omega) with rfl | rfl | rfl | rfl | rfl | rfl | rfl | rfl <;> decide
/-- Newton's step from above stays above -/
theorem newt_ge {n x m : Nat} (hx : 0 < x) (h : m * m ≤ n) : m ≤ (x + n / x) / 2 := by
  have h2 : n < (n / x + 1) * x := by
    have := Nat.lt_div_mul_add hx (a := n)
    rw [Nat.add_mul, Nat.one_mul]
    exact this
  generalize n / x = q at h2
  have h3 : 4 * ((q + 1) * x) ≤ (q + 1 + x) * (q + 1 + x) := by
    rcases Nat.le_total (q + 1) x with h | h
    · obtain ⟨e, he⟩ := Nat.exists_eq_add_of_le h
      have : (q + 1 + x) * (q + 1 + x) = 4 * ((q + 1) * x) + e * e := by grind
      omega
    · obtain ⟨e, he⟩ := Nat.exists_eq_add_of_le h
      have : (q + 1 + x) * (q + 1 + x) = 4 * ((q + 1) * x) + e * e := by grind
      omega
  have h4 : (2 * m) * (2 * m) < (q + 1 + x) * (q + 1 + x) := by
    have : (2 * m) * (2 * m) = 4 * (m * m) := by grind
    omega
  have h5 : 2 * m < q + 1 + x := Nat.mul_self_lt_mul_self_iff.mp h4
  omega
/-- and comes near: x = c + t, t * t small -/
theorem newt_le {n x c t : Nat} (hx : x = c + t) (hc : c * c ≤ n) (hn : n < x * x) (ht : t * t ≤ 2 * x) : ((x + n / x) / 2 - 1) * ((x + n / x) / 2 - 1) ≤ n := by
  have x0 : 0 < x := by
    rcases Nat.eq_zero_or_pos x with h | h
    · subst h
      simp at hn
    · exact h
  have hq : n / x * x ≤ n := Nat.div_mul_le_self n x
  have hqx : n / x < x := (Nat.div_lt_iff_lt_mul x0).mpr hn
  generalize n / x = q at hq hqx
  refine Nat.not_lt.mp fun hz => ?_
  generalize hy : (x + q) / 2 = y at hz
  have hy2 : 2 * y ≤ x + q := by omega
  cases y with
  | zero => simp at hz
  | succ z =>
    rw [Nat.add_sub_cancel] at hz
    have zc : c < z := by
      refine Nat.not_le.mp fun h => ?_
      have := Nat.mul_le_mul h h
      omega
    have zx : z < x := by omega
    obtain ⟨e, he⟩ := Nat.exists_eq_add_of_lt zx
    -- x = z + e + 1, e + 1 < t
    have et : e + 1 < t := by omega
    have h1 : 2 * (z + 1) * x ≤ x * x + q * x := by
      have := Nat.mul_le_mul_right x hy2
      grind
    have h2 : 2 * (z + 1) * x ≤ x * x + n := by omega
    have h3 : (e + 1) * (e + 1) + 2 * z * x = x * x + z * z := by grind
    have h4 : 2 * (z + 1) * x = 2 * z * x + 2 * x := by grind
    have h5 : 2 * x < (e + 1) * (e + 1) := by omega
    have h6 : (e + 1) * (e + 1) ≤ t * t := Nat.mul_le_mul (Nat.le_of_lt et) (Nat.le_of_lt et)
    omega
/-- the model's own root is the root -/
theorem rootBy (levels : Nat) : ∀ n : Nat, (8 ≤ n → n.log2 ≤ levels) → IsRt n (Float64.rootByHalves levels n) := by
  induction levels with
  | zero =>
    intro n h
    by_cases h8 : n < 8
    · exact small8 h8
    · have z := h (by omega)
      have : n < 2 ^ 1 := (Nat.log2_lt (by omega)).mp (by omega)
      omega
  | succ l ih =>
    intro n h
    unfold Float64.rootByHalves
    by_cases h8 : n < 8
    · rw [if_pos h8]
      exact small8 h8
    · rw [if_neg h8]
      dsimp only
      have n0 : n ≠ 0 := by omega
      have hL : n.log2 ≤ l + 1 := h (by omega)
      have L3 : 3 ≤ n.log2 := (Nat.le_log2 n0).mpr (by omega)
      generalize hk : (n.log2 + 1) / 4 = k
      have k1 : 1 ≤ k := by omega
      have up : n < 2 ^ (n.log2 + 1) := (Nat.log2_lt n0).mp (Nat.lt_succ_self _)
      have lo : 2 ^ n.log2 ≤ n := (Nat.le_log2 n0).mp (Nat.le_refl _)
      have p4 : 0 < 4 ^ k := Nat.pow_pos (by decide)
      have r := ih (n / 4 ^ k) fun _ => by
        have nz : n / 4 ^ k ≠ 0 := by omega
        have : n / 4 ^ k < 2 ^ (n.log2 + 1 - 2 * k) := by
          rw [Nat.div_lt_iff_lt_mul p4]
          have e : 2 ^ (n.log2 + 1 - 2 * k) * 4 ^ k = 2 ^ (n.log2 + 1) := by
            rw [show (4 : Nat) = 2 ^ 2 from rfl, ← Nat.pow_mul, ← Nat.pow_add]
            congr 1
            omega
          rw [e]
          exact up
        have := (Nat.log2_lt nz).mpr this
        omega
      generalize Float64.rootByHalves l (n / 4 ^ k) = s at r
      obtain ⟨r1, r2⟩ := r
      have t2 : 2 ^ k * 2 ^ k = 4 ^ k := by rw [← Nat.mul_pow]
      have lo4 : s * s * 4 ^ k ≤ n := by
        have := Nat.mul_le_mul_right (4 ^ k) r1
        exact Nat.le_trans this (Nat.div_mul_le_self n _)
      have hi4 : n < (s + 1) * (s + 1) * 4 ^ k := by
        have := (Nat.div_lt_iff_lt_mul p4).mp r2
        exact this
      generalize ht : 2 ^ k = t at *
      have t0 : 0 < t := by rw [← ht]; exact Nat.pow_pos (by decide)
      have hx : (s + 1) * t = s * t + t := by grind
      have hc : s * t * (s * t) ≤ n := by
        have : s * t * (s * t) = s * s * 4 ^ k := by rw [← t2]; grind
        omega
      have hn : n < (s + 1) * t * ((s + 1) * t) := by
        have : (s + 1) * t * ((s + 1) * t) = (s + 1) * (s + 1) * 4 ^ k := by rw [← t2]; grind
        omega
      have x0 : 0 < (s + 1) * t := Nat.mul_pos (by omega) t0
      have t4 : t * t * (t * t) ≤ 2 * n := by
        have e : t * t * (t * t) = 2 ^ (4 * k) := by
          rw [t2, ← Nat.mul_pow, show (4 * 4 : Nat) = 2 ^ 4 from rfl, ← Nat.pow_mul]
        rw [e]
        have : 2 ^ (4 * k) ≤ 2 ^ (n.log2 + 1) := Nat.pow_le_pow_right (by decide) (by omega)
        rw [Nat.pow_succ] at this
        omega
      generalize (s + 1) * t = x at hx hn x0
      have tt : t * t ≤ 2 * x := by
        refine Nat.not_lt.mp fun hz => ?_
        have a1 : 2 * x * (2 * x) < t * t * (t * t) := Nat.mul_lt_mul'' hz hz
        have a2 : 2 * x * (2 * x) = 4 * (x * x) := by grind
        omega
      have ge : ∀ m, m * m ≤ n → m ≤ (x + n / x) / 2 := fun m hm => newt_ge x0 hm
      have le := newt_le hx hc hn tt
      show IsRt n (if (x + n / x) / 2 * ((x + n / x) / 2) > n then (x + n / x) / 2 - 1 else (x + n / x) / 2)
      generalize (x + n / x) / 2 = y at ge le
      have big : n < (y + 1) * (y + 1) := Nat.not_le.mp fun h => by
        have := ge _ h
        omega
      by_cases hy : y * y > n
      · rw [if_pos hy]
        refine ⟨le, ?_⟩
        have : y ≠ 0 := fun z => by rw [z] at hy; omega
        rw [Nat.sub_add_cancel (by omega)]
        exact hy
      · rw [if_neg hy]
        exact ⟨by omega, big⟩
theorem isqrt_ok (n : Nat) : IsRt n (Float64.isqrt n) := rootBy _ n fun _ => Nat.le_refl _
theorem IsRt.uniq {n r s : Nat} (h : IsRt n r) (k : IsRt n s) : r = s := by
  have a : r < s + 1 := Nat.mul_self_lt_mul_self_iff.mp (Nat.lt_of_le_of_lt h.1 k.2)
  have b : s < r + 1 := Nat.mul_self_lt_mul_self_iff.mp (Nat.lt_of_le_of_lt k.1 h.2)
  omega
theorem isqrt_sq (r : Nat) : Float64.isqrt (r * r) = r := (isqrt_ok _).uniq ⟨Nat.le_refl _, by grind⟩
def rIsq : List V → Hp → VK → Prop := fun vs H Q => ∃ a : Int, vs = [.int a] ∧ 0 ≤ a ∧ a.toNat.log2 < 9000 ∧ Q (.int ((Float64.isqrt a.toNat : Nat) : Int)) H
theorem cr_isqrt {X : Cx} : CallR X (.builtin "math.isqrt") rIsq := by
  intro pins s σ H vs us Q I r h
  obtain ⟨a, rfl, h0, hl, q⟩ := h
  obtain ⟨u, us', rfl, ⟨t, rfl⟩, rfl⟩ : ∃ u us', us = u :: us' ∧ RelV (.int a) u ∧ us' = [] := by
    cases r with
    | cons ra rn =>
      cases rn
      exact ⟨_, _, rfl, ra, rfl⟩
  exact PySem.call_function_meets PySem.W.MGF.kind_isqrt PySem.W.MGF.plain_isqrt PySem.W.MGF.entry_isqrt (PySem.W.MGF.args_isqrt _) (PySem.W.mg_run_isqrt a t (by omega) (by omega) (by omega)).meets ⟨.int _, H, I.tok _, ⟨_, rfl⟩, q⟩
theorem w_isq {n : Int} {H : Hp} {Q : VK} (h0 : 0 ≤ n) (hl : n.toNat.log2 < 9000) (h : Q (.int ((Float64.isqrt n.toNat : Nat) : Int)) H) : rIsq [.int n] H Q := ⟨n, rfl, h0, hl, h⟩
def rShl1 : R2 := fun x y H Q => ∃ k : Nat, x = .int 1 ∧ y = .int (k : Int) ∧ k ≤ 134217727 ∧ Q (.int (2 ^ k)) H
theorem oq_shl1 {X : Cx} : OpR X (binaryOp .LShift) rShl1 := op_oneShl
theorem w_bits {te : TE} {σ : L2.St} {H : Hp} {Q : VK} (h : te σ H fun x H1 => ∃ i, x = .int i ∧ Q (.int (Builtin.Int.intBits i : Nat)) H1) : tBits te σ H Q := h
theorem w_xi {i : Int} {F : Int → Prop} (h : F i) : ∃ j, V.int i = .int j ∧ F j := ⟨i, rfl, h⟩
theorem passLS {X : Cx} {σ : L2.St} : PassesAt (L2.CX X.prog X.w) X σ E0 := fun pins H s e s' I h => passL pins σ H s e s' I h
theorem w_isNone {x : V} {H : Hp} {Q : VK} (h : Q (.bl (decide (x = .non))) H) : rIsN x .non H Q := ⟨rfl, h⟩
theorem w_notNone {x : V} {H : Hp} {Q : VK} (h : Q (.bl (!decide (x = .non))) H) : rNotN x .non H Q := ⟨rfl, h⟩
theorem dn_non : decide (V.non = .non) = true := rfl
theorem dn_int {i : Int} : decide (V.int i = .non) = false := rfl
theorem dn_ref {a : Addr} : decide (V.ref a = .non) = false := rfl
theorem w_isN_i {i : Int} {H : Hp} {Q : VK} (h : Q (.bl false) H) : rIsN (.int i) .non H Q := ⟨rfl, h⟩
theorem w_isN_r {a : Addr} {H : Hp} {Q : VK} (h : Q (.bl false) H) : rIsN (.ref a) .non H Q := ⟨rfl, h⟩
theorem w_isN_n {H : Hp} {Q : VK} (h : Q (.bl true) H) : rIsN .non .non H Q := ⟨rfl, h⟩
theorem w_noN_i {i : Int} {H : Hp} {Q : VK} (h : Q (.bl true) H) : rNotN (.int i) .non H Q := ⟨rfl, h⟩
theorem w_noN_r {a : Addr} {H : Hp} {Q : VK} (h : Q (.bl true) H) : rNotN (.ref a) .non H Q := ⟨rfl, h⟩
theorem w_noN_n {H : Hp} {Q : VK} (h : Q (.bl false) H) : rNotN .non .non H Q := ⟨rfl, h⟩
theorem w_shl {k : Int} {H : Hp} {Q : VK} (h0 : 0 ≤ k) (h1 : k ≤ 134217727) (h : Q (.int ((2 ^ k.toNat : Nat) : Int)) H) : rShl1 (.int 1) (.int k) H Q := ⟨k.toNat, rfl, by rw [Int.toNat_of_nonneg h0], by omega, by rw [Int.natCast_pow] at h; exact h⟩
/-! ### a def that is handed the exception which a suite holds: it stands pinned in the def's own frame -/
section
variable {P : Program} {w : World} {K : PySem.W.Frag} {mg : Str → Option Value} {base : Heap}
/-- its promise may speak of the pinned object q -/
structure FnE (P : Program) (w : World) (K : PySem.W.Frag) (mg : Str → Option Value) (base : Heap) (k : Nat) (f : Addr) (fd : FuncData) (ps : List Str) (sp : Addr × Obj → Sp) : Prop where
  len : ∀ q vs H Q E, sp q vs H Q E → vs.length = ps.length
  run : ∀ (A : Around) (outer : List Env) (s : Shared) (H : Hp) (args : Args) (us : List Value) (vs : List V) (Q : VK) (E : XK) (q : Addr × Obj), L2H.RoomH k A → L2H.PinOk outer H s q → Env0 P w K mg base A outer s H →
    BindsTo s fd args (ps.zip us) → Vals vs us → sp q vs H Q E → codeAny (model P w) A (.call (.ref f) args) (CR CX0 outer P w H s Q E) s
theorem fnE_ok {x qual : Str} {st : Stmt} {f : Addr} {fd : FuncData} {N ps : List Str} {k : Nat} {sp : Addr × Obj → Sp} (F : Fun K x qual st f fd) (S : FnScope N ps (defScope st)) (len : ∀ q vs H Q E, sp q vs H Q E → vs.length = ps.length)
    (hbody : ∀ (cdv : Value) (A : Around) (outer : List Env) (s : Shared) (H : Hp) (vs : List V) (Q : VK) (E : XK) (q : Addr × Obj), L2H.RoomH k (A.deeper (envOfC qual (defScope st) s.heap.objs.size f cdv)) → sp q vs H Q E →
      ∃ t, PSs (L2H.cxH CX0 P w K mg base N qual (defScope st) f cdv A outer s H E q) (defBody st) t ∧ t { nx := fun _ H' => Q .non H', rt := Q } (start N vs) H) : FnE P w K mg base (k + 1) f fd ps sp := by
  obtain ⟨oc, od, kV, doc, pm, an, cdv, ct, osl, rfl, lk, hcd⟩ := F.ex
  constructor
  · exact len
  intro A outer s H args us vs Q E q room pin e0 binds rel hs
  have nvs := len _ _ _ _ _ hs
  have inK : K.In s.heap := e0.mod.kin.keeps fun b o eb => (e0.bs b o eb).1
  have noLim : s.heap.NoLimit := e0.mod.nolimit.keeps fun b o eb => (e0.bs b o eb).1
  have kinds : ∀ y ∈ ps.zip us, (defScope st).names.lookup y.1 = some .local ∨ ((defScope st).names.lookup y.1 = some .cell ∧ ((cellsFrom (s.heap.objs.size + 1) (defScope st).names []).lookup y.1).isSome = true) := by
    rintro ⟨n, v⟩ hy
    rcases S.par n (List.of_mem_zip hy).1 with hl | hc
    · left
      exact hl
    · right
      exact ⟨hc, PySem.W.cellsFrom_some _ _ _ (.inl hc)⟩
  apply codeAny_call_function room.depth (inK _ _ lk) rfl S.co S.gen rfl (PySem.W.codeRec_of inK hcd) (binds _ _ _ _ ?_)
  apply wpAny_newFunctionEnv_cells S.kind kinds
  intro env hev s1 call
  subst hev
  constructor
  · exact noLim.keeps call.toInCall.keep
  apply codeAny_func
  obtain ⟨t, ht, hq⟩ := hbody cdv A outer s H vs Q E q (room.deeper _) hs
  have I0 := L2H.inv_startH (CX := CX0) (E := E) S pin e0 nvs rel call
  refine wpAny_mono (ht.run [] s1 _ H _ I0 hq) (fun fl s2 r2 => ?_) fun _ _ z => z
  cases fl with
  | next =>
    obtain ⟨_, H2, J, qn⟩ := r2
    exact ⟨V.non, H2, J.os, J.bare, J.base, J.hok, rfl, qn⟩
  | ret u =>
    obtain ⟨v, _, H2, J, rv, qn⟩ := r2
    exact ⟨v, H2, J.os, J.bare, J.base, J.hok, rv, qn⟩
  | brk => exact r2.elim fun _ z => z.elim fun _ z => z.2.elim
  | cont => exact r2.elim fun _ z => z.elim fun _ z => z.2.elim
end
section
variable {X : Cx} {k : Nat} {f : Addr} {fd : FuncData} {ps : List Str} {sp : Addr × Obj → Sp} {q : Addr × Obj} {x : Str} {p pos : Pos} {e : Expr} {es : List Expr} {t : TA} {te : TE}
def tCallE (sp : Sp) (t : TA) : TE := fun σ H Q => t σ H fun vs H1 => sp vs H1 Q E0
/-- f(e, ..) where the frame bears the pinned q -/
theorem pe_callE {sp0 : Sp} (F : FnE X.prog X.w X.K X.mg X.base k f fd ps sp) (hsp : ∀ vs H Q E, sp0 vs H Q E → sp q vs H Q E) (hr : L2H.RoomH k X.A) (hq : q ∈ X.pn) (hg : Gl X x) (hm : X.mg x = some (.ref f)) (hk : PySem.W.keepIn X.K (.ref f) = true) (hb : Binds X.K fd ps [])
    (ha : PA X (e :: es) t) (hdb : (x == ("__debug__" : Str)) = false := by decide) (he : starEach (e :: es) X.env = (false, eval e X.env) :: starEach es X.env := by rfl) (hpl : (backTo pos (starEach es X.env)).any (·.1) = false := by rfl) :
    PE X (.Call (.Name x p) (e :: es) [] pos) (tCallE sp0 t) := by
  constructor
  intro pins s σ H Q I h
  apply wpAny_Call_Name_kw (ld_glob I hg hm ?_ hdb)
  refine PySem.W.callWith_K (h₀ := X.base) I.ok.mod.kin hk (thn (ha.run pos pins s σ H _ I h) ?_) he hpl
  rintro us s1 ⟨vs, H1, I1, rel, hs0⟩
  have hs := hsp _ _ _ _ hs0
  refine ⟨I1.kIn, ?_⟩
  have nus : us.length = ps.length := rel.length.symm.trans (F.len _ _ _ _ _ hs)
  have bd := hb s1 us I1.kIn (by rw [List.append_nil]; exact nus)
  rw [List.append_nil] at bd
  have pn := I1.pin q (List.mem_append_left _ hq)
  have pok : L2H.PinOk X.stack H1 s1 q := ⟨pn.1, pn.2.1, fun hm => (List.mem_cons.mp (I1.stkSub q.1 hm)).elim pn.2.2.1 pn.2.2.2.1, pn.2.2.2.2⟩
  apply wpAny_call
  apply codeAny_mono (F.run X.A X.stack s1 H1 ⟨us, []⟩ us vs Q E0 q hr pok I1.env0 bd rel hs)
  intro r s2 hr2
  cases r with
  | error er => exact hr2.elim
  | ok fl =>
    cases fl with
    | ret u => exact I1.after hr2
    | next => exact hr2.elim
    | brk => exact hr2.elim
    | cont => exact hr2.elim
/-- what must be known of the class of the pinned exception -/
structure XCls (K : PySem.W.Frag) (C : Addr) : Prop where
  F : XfC K C
  cl : (PySem.W.clsIn K C).isSome = true
  ha : PySem.W.findIn K (.ref C) "__class__" = some (some (.builtin "object.__class__"))
  hn : PySem.W.specialIn K (.builtin "object.__class__") "__get__" = some (some (.builtin "getset_descriptor.__get__"))
  ht : PySem.W.takesIn K (.builtin "object.__class__") = some true
  hm : PySem.W.mroIn K C (.type "object") = some true
/-- the pinned object is an exception of the class at C, its dict at d -/
structure XObj (q : Addr × Obj) (C : Addr) (d : Option Addr) : Prop where
  z : Zc (.ref C) d q.2
  f : ∃ vs, q.2.data = .fields vs
/-- its dict, if there is one, stands -/
def XDct (H : Hp) (d : Option Addr) : Prop := ∀ dd, d = some dd → ∃ fs, H dd = some (.xd fs)
theorem inst_of {pins : List (Addr × Obj)} {σ : L2.St} {H : Hp} {s : Shared} {C : Addr} {d : Option Addr} (I : Inv X pins σ H s) (hq : q ∈ X.pn) (o : XObj q C d) (hd : XDct H d) :
    ∃ od, PySem.W.InstAt s.heap q.1 q.2 C od ∧ ∀ dd, d = some dd → ∀ fs, H dd = some (.xd fs) → ∃ (ob : Obj) (mA : Str → Option Value), od = some ob ∧ (∀ g, RelO (fs.lookup g) (mA g)) ∧ ∀ g, PySem.W.lookIn g ob = some (mA g) := by
  have pn := (I.pin q (List.mem_append_left _ hq)).1
  obtain ⟨vs, dat⟩ := o.f
  have nc : PySem.W.notCls q.2 := by unfold PySem.W.notCls; rw [dat] <;> rfl
  cases d with
  | none => exact ⟨none, ⟨pn, o.z.1, nc, by rw [o.z.2]; trivial⟩, fun dd z => nomatch z⟩
  | some dd =>
    obtain ⟨fs, hfs⟩ := hd dd rfl
    have x : ObjOk X.prog X.w H s.heap dd (.xd fs) := I.hok dd _ hfs
    obtain ⟨mA, ns, rel⟩ := x
    obtain ⟨od, ho, look⟩ := lookIn_ns ns
    refine ⟨some od, ⟨pn, o.z.1, nc, by rw [o.z.2]; exact ho⟩, fun d2 z fs2 h2 => ?_⟩
    cases z
    rw [hfs] at h2
    cases h2
    exact ⟨od, mA, rfl, rel, look⟩
/-- e.f of the pinned exception -/
def tXp (q : Addr × Obj) (K : PySem.W.Frag) (n : Str) (te : TE) : TE := fun σ H Q => te σ H fun x H1 => ∃ (C dd : Addr) (fs : List (Str × V)) (v : V), x = .ref q.1 ∧ XObj q C (some dd) ∧ XCls K C ∧ PySem.W.findIn K (.ref C) n = some none ∧ H1 dd = some (.xd fs) ∧ fs.lookup n = some v ∧ Q v H1
theorem pe_xp {n : Str} (hq : q ∈ X.pn) (he : PE X e te) (hb : attributeBase e n X.env (eval e X.env) = eval e X.env := by rfl) : PE X (.Attribute e n pos) (tXp q X.K n te) := by
  constructor
  intro pins s σ H Q I h
  apply attr_of hb
  apply thn (he.run pins s σ H _ I h)
  rintro u s1 ⟨x, H1, I1, rx, C, dd, fs, v, ex, o, c, hno, hfs, hl, hQ⟩
  subst ex
  cases (show u = Value.ref q.1 from rx)
  obtain ⟨od, J, look⟩ := inst_of I1 hq o fun d2 z => by cases z; exact ⟨fs, hfs⟩
  obtain ⟨ob, mA, rfl, rel, hm⟩ := look dd rfl fs hfs
  obtain ⟨u, hu, ru⟩ := RelO.some_of (v := v) (o := mA n) (by rw [← hl]; exact rel n)
  exact HandSPX.exc_get I1.kIn J c.F.ga c.F.gg c.F.exC (PySem.W.findObj_own c.F.hdC hno rfl (by rw [hm n, hu])) (handed_of ru) ⟨v, H1, I1.tok _, ru, hQ⟩
/-- isinstance of the pinned exception -/
def rIsP (K : PySem.W.Frag) (q : Addr × Obj) : List V → Hp → VK → Prop := fun xs H Q => ∃ (c : V) (cv : Value) (b : Bool) (C : Addr) (d : Option Addr), xs = [.ref q.1, c] ∧ (∀ u, RelV c u → u = cv) ∧ XObj q C d ∧ XCls K C ∧ XDct H d ∧ PySem.W.kitOne K (.ref C) cv = some b ∧ Q (.bl b) H
theorem call_isP (hq : q ∈ X.pn) : CallR X (.builtin "isinstance") (rIsP X.K q) := by
  intro pins s σ H xs us Q I rel h
  obtain ⟨c, cv, b, C, d, rfl, hcv, o, cc, hd, hk, hQ⟩ := h
  obtain ⟨od, J, _⟩ := inst_of I hq o hd
  cases rel with
  | cons r1 rest =>
    cases rest with
    | cons r2 rest =>
      cases rest
      cases r1
      cases hcv _ r2
      exact PySem.W.kia_one (PySem.W.kitx_exc cc.cl cc.F.ga cc.F.gg cc.F.exC cc.ha cc.hn cc.ht cc.hm) I.kIn J hk (fun z => nomatch z) fun tk => ⟨.bl b, H, I.kept (t' := tk) fun _ _ z => z, rfl, hQ⟩
end
section
variable {X : Cx} {a : Addr} {oe : Obj} {cls : Value} {d : Option Addr}
/-- the same in a suite, the object told by its place, its class and its dict -/
def rIsS (K : PySem.W.Frag) (a : Addr) (cls : Value) (d : Option Addr) : List V → Hp → VK → Prop := fun xs H Q => ∃ (c : V) (cv : Value) (b : Bool) (C : Addr), xs = [.ref a, c] ∧ (∀ u, RelV c u → u = cv) ∧ cls = .ref C ∧ XCls K C ∧ XDct H d ∧ PySem.W.kitOne K (.ref C) cv = some b ∧ Q (.bl b) H
theorem call_isS (hq : (a, oe) ∈ X.pn) (hz : Zc cls d oe) (hf : ∃ vs, oe.data = .fields vs) : CallR X (.builtin "isinstance") (rIsS X.K a cls d) := by
  intro pins s σ H xs us Q I rel h
  obtain ⟨c, cv, b, C, e1, hcv, rfl, cc, hd, hk, hQ⟩ := h
  exact call_isP hq pins s σ H xs us Q I rel ⟨c, cv, b, C, d, e1, hcv, ⟨hz, hf⟩, cc, hd, hk, hQ⟩
end
/-! ### an own class without an own __init__, made without arguments -/
section
variable {X : Cx} {x : Str} {C : Addr} {p pos : Pos} {bmB : List Value} {B newId initId : String}
theorem pmk_own0 (F : ExcBaseFacts B newId initId bmB) (hq : PySem.W.excIn X.K C bmB newId = true) (gC : X.mg x = some (.ref C)) (kC : PySem.W.keepIn X.K (.ref C) = true) (r : Raises X (.ref C)) (hg : Gl X x)
    (hdb : (x == ("__debug__" : Str)) = false := by decide) : PMk X (.Call (.Name x p) [] [] pos) (fun _ H Q => Q (.ref C) none H) := by
  intro pins s σ H Q I h
  apply wpAny_Call_Name_kw (ld_glob I hg gC ?_ hdb)
  apply PySem.W.callWith_K0 I.kIn kC
  obtain ⟨bm, N, nm, qn, bs, hdct, sn, sub, ab, col, dd, k0, k1, k2, k3, k5, mN, hC, hN, hni, T⟩ := exc_obj I.kIn hq
  apply wpAny_call_exc_subT F T hC hN hni (fun h' er made => ?_) (Nat.zero_le _)
  exact mk_of I made r h (I.hok.gone made.new)
end
theorem pe_cls {X : Cx} {x : Str} {C : Addr} {pos : Pos} (hg : Gl X x) (hm : X.mg x = some (.ref C)) (hd : (x == ("__debug__" : Str)) = false := by decide) : PE X (.Name x pos) (tC (.ref C)) := pe_glob (v := .ref C) hg hm rfl hd
/-! ### own classes whose __init__ keeps what it is handed -/
structure ExF (P : Program) (w : World) (K : PySem.W.Frag) (mg : Str → Option Value) (base : Heap) (x : Str) (C : Addr) (ps : List Str) (sp : Sp) : Prop where
  T : OexC K C
  gC : mg x = some (.ref C)
  ini : ∃ fI fd, PySem.W.findIn K (.ref C) "__init__" = some (some (.ref fI)) ∧ PySem.W.typeIn K (.ref fI) = some (.type "function") ∧ FnOk P w K mg base CX0 1 fI fd ps sp ∧ Binds K fd ps []
theorem pmkA {X : Cx} {x : Str} {C : Addr} {ps : List Str} {sp : Sp} {p pos : Pos} {e : Expr} {es : List Expr} {ta : TA} (Z : ExF X.prog X.w X.K X.mg X.base x C ps sp) (hr : Room 2 X.A) (hg : Gl X x) (ha : PA X (e :: es) ta) (hdb : (x == ("__debug__" : Str)) = false := by decide)
    (he : starEach (e :: es) X.env = (false, eval e X.env) :: starEach es X.env := by rfl) (hpl : (backTo pos (starEach es X.env)).any (·.1) = false := by rfl) : PMk X (.Call (.Name x p) (e :: es) [] pos) (tMkO C sp [] ta) := by
  obtain ⟨fI, fd, iC, tI, F1, hb⟩ := Z.ini
  exact pmk_oex Z.T iC tI F1 hr hb .nil pass0 hg Z.gC ha hdb he hpl
structure ExB (K : PySem.W.Frag) (mg : Str → Option Value) (x : Str) (C : Addr) : Prop where
  gC : mg x = some (.ref C)
  ex : PySem.W.excIn K C [.type "ValueError", .type "Exception", .type "BaseException", .type "object"] "ValueError.__new__" = true
  kC : PySem.W.keepIn K (.ref C) = true
  exC : PySem.W.subIn K (.ref C) (.type "BaseException") = some true
  tyC : PySem.W.typeIn K (.ref C) = some (.type "type")
/-- what an __init__ of one field, of two fields, promises -/
def sp_ini1 (K : PySem.W.Frag) (C : Addr) (f : Str) : Sp := fun vs H Q _ => ∃ (a : Addr) (v : V), vs = [.ref a, v] ∧ OexC K C ∧ PySem.W.findIn K (.ref C) f = some none ∧ H a = some (exo a C none) ∧ ∀ dx, H dx = none → dx ≠ a → Q .non (upd (upd H dx (exd dx [(f, v)])) a (exo a C (some dx)))
def sp_ini2 (K : PySem.W.Frag) (C : Addr) (f g : Str) : Sp := fun vs H Q _ => ∃ (a : Addr) (v u : V), vs = [.ref a, v, u] ∧ OexC K C ∧ PySem.W.findIn K (.ref C) f = some none ∧ PySem.W.findIn K (.ref C) g = some none ∧ H a = some (exo a C none) ∧
  ∀ dx, H dx = none → dx ≠ a → Q .non (upd (upd (upd H dx (exd dx [(f, v)])) a (exo a C (some dx))) dx (exd dx [(g, u), (f, v)]))
def mkE (C : Addr) (sp : Sp) (H : Hp) (vs : List V) (Q : XK) : Prop := vs.length ≤ 1000 ∧ ∀ a, H a = none → sp (.ref a :: (vs ++ [])) (upd H a (exo a C none)) (fun v H2 => v = .non ∧ ∃ (d : Addr) (fs : List (Str × V)), H2 a = some (exo a C (some d)) ∧ H2 d = some (exd d fs) ∧ H d = none ∧ Q (.ref C) (some d) (upd (del H2 a) d (.xd fs))) fun _ _ _ => False
theorem w_mko {C : Addr} {sp : Sp} {ta : TA} {σ : L2.St} {H : Hp} {Q : XK} (h : ta σ H fun vs H1 => mkE C sp H1 vs Q) : tMkO C sp [] ta σ H Q := h
theorem same_xd {H H2 : Hp} {a dx : Addr} {o : HO} (hs : ∀ b u, b ≠ a → b ≠ dx → H b = some u → H2 b = some u) (na : H a = none) (nd : H dx = none) : Same H (upd (del H2 a) dx o) := fun b u e => by
  have h1 := ne_of_none e na
  have h2 := ne_of_none e nd
  rw [upd_ne h2, del_ne h1]
  exact hs b u h1 h2 e
theorem mk_ini1 {K : PySem.W.Frag} {C : Addr} {f : Str} {H : Hp} {v : V} {Q : XK} (T : OexC K C) (no : PySem.W.findIn K (.ref C) f = some none) (h : ∀ d H2, Same H H2 → H2 d = some (.xd [(f, v)]) → Q (.ref C) (some d) H2) : mkE C (sp_ini1 K C f) H [v] Q :=
  ⟨Nat.le_of_ble_eq_true rfl, fun a na => ⟨a, v, rfl, T, no, upd_same, fun dx nd ne => ⟨rfl, dx, _, upd_same, (upd_ne ne).trans upd_same, (upd_ne ne).symm.trans nd, h dx _ (same_xd (fun b u h1 h2 e => by rw [upd_ne h1, upd_ne h2, upd_ne h1]; exact e) na ((upd_ne ne).symm.trans nd)) upd_same⟩⟩⟩
theorem mk_ini2 {K : PySem.W.Frag} {C : Addr} {f g : Str} {H : Hp} {v u : V} {Q : XK} (T : OexC K C) (no : PySem.W.findIn K (.ref C) f = some none) (no2 : PySem.W.findIn K (.ref C) g = some none) (h : ∀ d H2, Same H H2 → H2 d = some (.xd [(g, u), (f, v)]) → Q (.ref C) (some d) H2) : mkE C (sp_ini2 K C f g) H [v, u] Q :=
  ⟨Nat.le_of_ble_eq_true rfl, fun a na => ⟨a, v, u, rfl, T, no, no2, upd_same, fun dx nd ne => ⟨rfl, dx, _, (upd_ne (Ne.symm ne)).trans upd_same, upd_same, (upd_ne ne).symm.trans nd, h dx _ (same_xd (fun b x h1 h2 e => by rw [upd_ne h2, upd_ne h1, upd_ne h2, upd_ne h1]; exact e) na ((upd_ne ne).symm.trans nd)) upd_same⟩⟩⟩
local macro_rules | `(tactic| walk_at "call1") => `(tactic| fail)
local macro_rules | `(tactic| walk_at "w") => `(tactic| (repeat (first
  | with_reducible refine iteT' ?_
  | with_reducible refine iteF' ?_
  | with_reducible refine w_seq ?_
  | with_reducible refine w_asg ?_
  | with_reducible refine w_op ?_
  | ((with_reducible show tVar _ _ _ _); first | with_reducible refine w_v0 ?_ | with_reducible refine w_v1 ?_ | with_reducible refine w_v2 ?_ | with_reducible refine w_v3 ?_ | with_reducible refine w_v4 ?_ | with_reducible refine w_v5 ?_ | with_reducible refine w_v6 ?_ | with_reducible refine w_v7 ?_ | with_reducible refine w_v8 ?_ | with_reducible refine w_v9 ?_ | with_reducible refine w_v10 ?_ | with_reducible refine w_v11 ?_ | with_reducible refine w_v12 ?_ | with_reducible refine w_v13 ?_ | with_reducible refine w_v14 ?_ | with_reducible refine w_v15 ?_ | with_reducible refine w_v16 ?_ | with_reducible refine w_v17 ?_ | with_reducible refine w_v18 ?_ | with_reducible refine w_v19 ?_ | with_reducible refine w_v20 ?_ | with_reducible refine w_v21 ?_ | with_reducible refine w_v22 ?_ | with_reducible refine w_v23 ?_)
  | ((with_reducible show gName _ _ _ _ _); first | with_reducible refine w_g0 ?_ | with_reducible refine w_g1 ?_ | with_reducible refine w_g2 ?_ | with_reducible refine w_g3 ?_ | with_reducible refine w_g4 ?_ | with_reducible refine w_g5 ?_ | with_reducible refine w_g6 ?_ | with_reducible refine w_g7 ?_ | with_reducible refine w_g8 ?_ | with_reducible refine w_g9 ?_ | with_reducible refine w_g10 ?_ | with_reducible refine w_g11 ?_ | with_reducible refine w_g12 ?_ | with_reducible refine w_g13 ?_ | with_reducible refine w_g14 ?_ | with_reducible refine w_g15 ?_ | with_reducible refine w_g16 ?_ | with_reducible refine w_g17 ?_ | with_reducible refine w_g18 ?_ | with_reducible refine w_g19 ?_ | with_reducible refine w_g20 ?_ | with_reducible refine w_g21 ?_ | with_reducible refine w_g22 ?_ | with_reducible refine w_g23 ?_)
  | with_reducible refine w_c ?_
  | with_reducible refine w_cb ?_
  | with_reducible refine w_cons ?_
  | with_reducible refine w_nil ?_
  | with_reducible refine w_call0 ?_
  | with_reducible refine w_callS ?_
  | with_reducible refine w_kws ?_
  | with_reducible refine w_lt ?_
  | with_reducible refine w_le ?_
  | with_reducible refine w_gt ?_
  | with_reducible refine w_ge ?_
  | with_reducible refine w_I0 ?_
  | with_reducible refine w_eqI ?_
  | with_reducible refine w_neI ?_
  | with_reducible refine w_eqBB ?_
  | with_reducible refine w_neBB ?_
  | with_reducible refine w_U ?_
  | with_reducible refine w_un ?_
  | with_reducible refine w_test ?_
  | with_reducible refine w_tB ?_
  | with_reducible refine w_bl ?_
  | with_reducible refine w_ifs ?_
  | with_reducible refine w_ife ?_
  | with_reducible refine w_and ?_
  | with_reducible refine w_or ?_
  | with_reducible refine w_not ?_
  | with_reducible refine w_andV ?_
  | with_reducible refine w_orV ?_
  | with_reducible refine w_notV ?_
  | with_reducible refine w_ret ?_
  | with_reducible refine w_retN ?_
  | with_reducible refine w_next ?_
  | with_reducible refine w_drop ?_
  | with_reducible refine w_brk ?_
  | with_reducible refine w_for ?_
  | with_reducible refine w_rng1 ?_
  | with_reducible refine w_rng2 ?_
  | with_reducible refine w_cont ?_
  | with_reducible refine w_int ?_
  | with_reducible refine w_intB ?_
  | with_reducible refine w_bits ?_
  | with_reducible refine w_xi ?_
  | with_reducible refine w_isN_i ?_
  | with_reducible refine w_isN_r ?_
  | with_reducible refine w_isN_n ?_
  | with_reducible refine w_noN_i ?_
  | with_reducible refine w_noN_r ?_
  | with_reducible refine w_noN_n ?_
  | with_reducible refine w_abs ?_
  | with_reducible refine w_min ?_
  | with_reducible refine w_max ?_
  | with_reducible refine w_gcd ?_
  | with_reducible refine w_tupN ?_
  | with_reducible refine w_lstN ?_
  | with_reducible refine w_newD ?_
  | with_reducible refine w_par ?_
  | with_reducible refine w_two ?_
  | with_reducible refine w_sub ?_
  | ((with_reducible show rI _ _ _ _ _ _); first
    | with_reducible refine w_pow9 ?_ | with_reducible refine w_pow13 ?_ | with_reducible refine w_pow18 ?_ | with_reducible refine w_pow30 ?_ | with_reducible refine w_pow8 ?_ | with_reducible refine w_pow50 ?_
    | ((with_reducible apply w_I); (focus (first | assumption | decide | exact Bt.mulx (by walk_at "bt") (by walk_at "bt") (by decide) | exact ⟨by decide, by decide⟩ | exact .inl ⟨by omega, by omega⟩ | exact .inr ⟨by omega, by omega⟩ | exact .inl ⟨by decide, by decide⟩ | exact .inr ⟨by decide, by decide⟩ | omega))))
  | ((with_reducible show NT _ _ _); (with_reducible apply n_tup); (focus assumption); (focus (walk_at "rps")); (focus rfl); intro _ _ _)
  | ((with_reducible show NL _ _ _); (with_reducible apply n_lst); (focus assumption); (focus (walk_at "rps")); (focus rfl); intro _ _ _)
  | ((with_reducible show ND _ _); (with_reducible apply n_dct); (focus assumption); intro _ _ _)
  | ((with_reducible show rIxT _ _ _ _ _); first
    | ((with_reducible apply x_T0i); (focus assumption); (focus (walk_at "in2")))
    | ((with_reducible apply x_T0); (focus assumption); (focus (walk_at "in2")))
    | ((with_reducible apply x_T1i); (focus assumption); (focus (walk_at "in2")))
    | ((with_reducible apply x_T1); (focus assumption); (focus (walk_at "in2")))
    | ((with_reducible apply x_T2i); (focus assumption); (focus (walk_at "in2")))
    | ((with_reducible apply x_T2); (focus assumption); (focus (walk_at "in2")))
    | ((with_reducible apply x_T3i); (focus assumption); (focus (walk_at "in2")))
    | ((with_reducible apply x_T3); (focus assumption); (focus (walk_at "in2")))
    | ((with_reducible apply x_T4i); (focus assumption); (focus (walk_at "in2")))
    | ((with_reducible apply x_T4); (focus assumption); (focus (walk_at "in2")))
    | ((with_reducible apply x_T5i); (focus assumption); (focus (walk_at "in2")))
    | ((with_reducible apply x_T5); (focus assumption); (focus (walk_at "in2")))
    | ((with_reducible apply w_ixT); (focus (walk_at "fact")); (focus (walk_at "place"))))
  | ((with_reducible show rIxL _ _ _ _ _); first
    | ((with_reducible apply x_L0i); (focus assumption); (focus (walk_at "in2")))
    | ((with_reducible apply x_L0); (focus assumption); (focus (walk_at "in2")))
    | ((with_reducible apply x_L1i); (focus assumption); (focus (walk_at "in2")))
    | ((with_reducible apply x_L1); (focus assumption); (focus (walk_at "in2")))
    | ((with_reducible apply x_L2i); (focus assumption); (focus (walk_at "in2")))
    | ((with_reducible apply x_L2); (focus assumption); (focus (walk_at "in2")))
    | ((with_reducible apply x_L3i); (focus assumption); (focus (walk_at "in2")))
    | ((with_reducible apply x_L3); (focus assumption); (focus (walk_at "in2")))
    | ((with_reducible apply x_L4i); (focus assumption); (focus (walk_at "in2")))
    | ((with_reducible apply x_L4); (focus assumption); (focus (walk_at "in2")))
    | ((with_reducible apply x_L5i); (focus assumption); (focus (walk_at "in2")))
    | ((with_reducible apply x_L5); (focus assumption); (focus (walk_at "in2")))
    | ((with_reducible apply w_ixL); (focus (walk_at "fact")); (focus (walk_at "place"))))
  | ((with_reducible show gTup _ _ _ _ _ _ _); first | ((with_reducible apply g_tup2); (focus assumption); (focus (walk_at "in2"))) | ((with_reducible apply g_tup3); (focus assumption); (focus (walk_at "in2"))))
  | ((with_reducible show Rng1G _ _ _); (with_reducible apply rng1); (focus (first | decide | omega | (constructor <;> first | omega | (split <;> omega)))))
  | ((with_reducible show VS _ _); first
    | ((with_reducible refine v_tup ?_); intro _) | ((with_reducible refine v_lst ?_); intro _) | ((with_reducible refine v_dct ?_); intro _)
    | with_reducible refine v_int ?_ | with_reducible refine v_bl ?_ | with_reducible refine v_str ?_ | with_reducible refine v_non ?_ | ((with_reducible refine v_any ?_); intro _))
  | ((with_reducible show Wd _ _ _ _ _ _ → _); intro _)
  | ((with_reducible show rLenQ _ _ _ _); first
    | ((with_reducible apply l_lst); (focus assumption); (focus (walk_at "in2"))) | ((with_reducible apply l_tup); (focus assumption); (focus (walk_at "in2")))
    | ((with_reducible apply w_lenL); (focus (walk_at "fact"))) | ((with_reducible apply w_lenT); (focus (walk_at "fact"))))
  | ((with_reducible show sp_take _ _ _ _); (with_reducible apply call_tk); (focus assumption); (focus (first | decide | omega)); (focus (first | decide | decide +kernel)); intro _ _ _ _ _)
  | ((with_reducible show sp_whole _ _ _ _); (with_reducible apply call_wh); (focus assumption); intro _ _ _ _)
  | ((with_reducible show rCat _ _ _ _); (with_reducible apply w_catL); (focus assumption); (focus (walk_at "in2")); (focus (walk_at "in2")); (focus rfl); intro _ _ _)
  | ((with_reducible show rSetL _ _ _ _ _); first | ((with_reducible apply w_set0); (focus (walk_at "heap"))) | ((with_reducible apply w_set1); (focus (walk_at "heap"))) | ((with_reducible apply w_set2); (focus (walk_at "heap"))) | ((with_reducible apply w_set3); (focus (walk_at "heap"))) | ((with_reducible apply w_set4); (focus (walk_at "heap"))) | ((with_reducible apply w_set5); (focus (walk_at "heap"))))
  | walk_at "call1"
  | dsimp only [List.set, notT, notF]
  | rw [List.length_map])))
local macro_rules | `(tactic| walk_at "fact") => `(tactic| first | assumption | exact .inl (.inl (by walk_at "heap")))
local macro_rules | `(tactic| walk_at "place") => `(tactic| with_reducible first | exact at0 | exact at1 | exact at2 | exact at3 | exact at4 | exact at5 | exact at6 | exact at7 | assumption)

local macro_rules | `(tactic| walk_at "heap") => `(tactic| first | assumption | exact upd_same | ((with_reducible refine (upd_ne (by first | assumption | exact Ne.symm (by assumption))).trans ?_); walk_at "heap"))
local macro_rules | `(tactic| walk_at "in2") => `(tactic| first | with_reducible exact In2.here | ((with_reducible apply In2.there); walk_at "in2"))
local macro_rules | `(tactic| walk_at "rp") => `(tactic| first | with_reducible exact Rp.int _ | with_reducible exact Rp.bl _ | with_reducible exact Rp.non | with_reducible exact Rp.str _ | ((with_reducible apply Wd.get); (focus assumption); walk_at "in2"))
local macro_rules | `(tactic| walk_at "rps") => `(tactic| first | with_reducible exact Rps.nil | ((with_reducible apply Rps.cons); (focus (walk_at "rp")); walk_at "rps"))
local macro_rules | `(tactic| walk_at "bt") => `(tactic| first | assumption | ((with_reducible show Bt _ (_ * _)); (with_reducible apply Bt.mul); (focus (walk_at "bt")); (focus (walk_at "bt"))) | ((with_reducible show Bt _ (_ + _)); (with_reducible apply Bt.add); (focus (walk_at "bt")); (focus (walk_at "bt"))) | ((with_reducible show Bt _ (_ - _)); (with_reducible apply Bt.sub); (focus (walk_at "bt")); (focus (walk_at "bt"))) | ((with_reducible show Bt _ (-_)); (with_reducible apply Bt.neg); (focus (walk_at "bt"))))
local macro_rules | `(tactic| walk_at "v") => `(tactic| (repeat (first
  | with_reducible refine iteT' ?_
  | with_reducible refine iteF' ?_
  | with_reducible refine w_seq ?_
  | with_reducible refine w_asg ?_
  | with_reducible refine w_op ?_
  | ((with_reducible show tVar _ _ _ _); first | with_reducible refine w_v0 ?_ | with_reducible refine w_v1 ?_ | with_reducible refine w_v2 ?_ | with_reducible refine w_v3 ?_ | with_reducible refine w_v4 ?_ | with_reducible refine w_v5 ?_ | with_reducible refine w_v6 ?_ | with_reducible refine w_v7 ?_ | with_reducible refine w_v8 ?_ | with_reducible refine w_v9 ?_ | with_reducible refine w_v10 ?_ | with_reducible refine w_v11 ?_ | with_reducible refine w_v12 ?_ | with_reducible refine w_v13 ?_ | with_reducible refine w_v14 ?_ | with_reducible refine w_v15 ?_ | with_reducible refine w_v16 ?_ | with_reducible refine w_v17 ?_ | with_reducible refine w_v18 ?_ | with_reducible refine w_v19 ?_ | with_reducible refine w_v20 ?_ | with_reducible refine w_v21 ?_ | with_reducible refine w_v22 ?_ | with_reducible refine w_v23 ?_)
  | ((with_reducible show gName _ _ _ _ _); first | with_reducible refine w_g0 ?_ | with_reducible refine w_g1 ?_ | with_reducible refine w_g2 ?_ | with_reducible refine w_g3 ?_ | with_reducible refine w_g4 ?_ | with_reducible refine w_g5 ?_ | with_reducible refine w_g6 ?_ | with_reducible refine w_g7 ?_ | with_reducible refine w_g8 ?_ | with_reducible refine w_g9 ?_ | with_reducible refine w_g10 ?_ | with_reducible refine w_g11 ?_ | with_reducible refine w_g12 ?_ | with_reducible refine w_g13 ?_ | with_reducible refine w_g14 ?_ | with_reducible refine w_g15 ?_ | with_reducible refine w_g16 ?_ | with_reducible refine w_g17 ?_ | with_reducible refine w_g18 ?_ | with_reducible refine w_g19 ?_ | with_reducible refine w_g20 ?_ | with_reducible refine w_g21 ?_ | with_reducible refine w_g22 ?_ | with_reducible refine w_g23 ?_)
  | with_reducible refine w_c ?_
  | with_reducible refine w_cb ?_
  | with_reducible refine w_cons ?_
  | with_reducible refine w_nil ?_
  | with_reducible refine w_call0 ?_
  | with_reducible refine w_callS ?_
  | with_reducible refine w_kws ?_
  | with_reducible refine w_lt ?_
  | with_reducible refine w_le ?_
  | with_reducible refine w_gt ?_
  | with_reducible refine w_ge ?_
  | with_reducible refine w_I0 ?_
  | with_reducible refine w_eqI ?_
  | with_reducible refine w_neI ?_
  | with_reducible refine w_eqBB ?_
  | with_reducible refine w_neBB ?_
  | with_reducible refine w_U ?_
  | with_reducible refine w_un ?_
  | with_reducible refine w_test ?_
  | with_reducible refine w_tB ?_
  | with_reducible refine w_bl ?_
  | with_reducible refine w_ifs ?_
  | with_reducible refine w_ife ?_
  | with_reducible refine w_and ?_
  | with_reducible refine w_or ?_
  | with_reducible refine w_not ?_
  | with_reducible refine w_andV ?_
  | with_reducible refine w_orV ?_
  | with_reducible refine w_notV ?_
  | with_reducible refine w_ret ?_
  | with_reducible refine w_retN ?_
  | with_reducible refine w_next ?_
  | with_reducible refine w_drop ?_
  | with_reducible refine w_brk ?_
  | with_reducible refine w_for ?_
  | with_reducible refine w_rng1 ?_
  | with_reducible refine w_rng2 ?_
  | with_reducible refine w_cont ?_
  | with_reducible refine w_int ?_
  | with_reducible refine w_intB ?_
  | with_reducible refine w_bits ?_
  | with_reducible refine w_xi ?_
  | with_reducible refine w_isN_i ?_
  | with_reducible refine w_isN_r ?_
  | with_reducible refine w_isN_n ?_
  | with_reducible refine w_noN_i ?_
  | with_reducible refine w_noN_r ?_
  | with_reducible refine w_noN_n ?_
  | with_reducible refine w_abs ?_
  | with_reducible refine w_min ?_
  | with_reducible refine w_max ?_
  | with_reducible refine w_gcd ?_
  | with_reducible refine w_tupN ?_
  | with_reducible refine w_lstN ?_
  | with_reducible refine w_newD ?_
  | with_reducible refine w_par ?_
  | with_reducible refine w_two ?_
  | with_reducible refine w_sub ?_
  | ((with_reducible show rI _ _ _ _ _ _); first
    | with_reducible refine w_pow9 ?_ | with_reducible refine w_pow13 ?_ | with_reducible refine w_pow18 ?_ | with_reducible refine w_pow30 ?_ | with_reducible refine w_pow8 ?_ | with_reducible refine w_pow50 ?_
    | ((with_reducible apply w_I); (focus (first | assumption | decide | exact Bt.mulx (by walk_at "bt") (by walk_at "bt") (by decide) | exact ⟨by decide, by decide⟩ | exact .inl ⟨by omega, by omega⟩ | exact .inr ⟨by omega, by omega⟩ | exact .inl ⟨by decide, by decide⟩ | exact .inr ⟨by decide, by decide⟩ | omega))))
  | ((with_reducible show NT _ _ _); (with_reducible apply n_tup); (focus assumption); (focus (walk_at "rps")); (focus rfl); intro _ _ _)
  | ((with_reducible show ND _ _); (with_reducible apply n_dct); (focus assumption); intro _ _ _)
  | ((with_reducible show rIxT _ _ _ _ _); first
    | ((with_reducible apply x_T0i); (focus assumption); (focus (walk_at "in2")))
    | ((with_reducible apply x_T0); (focus assumption); (focus (walk_at "in2")))
    | ((with_reducible apply x_T1i); (focus assumption); (focus (walk_at "in2")))
    | ((with_reducible apply x_T1); (focus assumption); (focus (walk_at "in2")))
    | ((with_reducible apply x_T2i); (focus assumption); (focus (walk_at "in2")))
    | ((with_reducible apply x_T2); (focus assumption); (focus (walk_at "in2")))
    | ((with_reducible apply x_T3i); (focus assumption); (focus (walk_at "in2")))
    | ((with_reducible apply x_T3); (focus assumption); (focus (walk_at "in2")))
    | ((with_reducible apply x_T4i); (focus assumption); (focus (walk_at "in2")))
    | ((with_reducible apply x_T4); (focus assumption); (focus (walk_at "in2")))
    | ((with_reducible apply x_T5i); (focus assumption); (focus (walk_at "in2")))
    | ((with_reducible apply x_T5); (focus assumption); (focus (walk_at "in2")))
    | ((with_reducible apply w_ixT); (focus (walk_at "fact")); (focus (walk_at "place"))))
  | ((with_reducible show rIxL _ _ _ _ _); first
    | ((with_reducible apply x_L0i); (focus assumption); (focus (walk_at "in2")))
    | ((with_reducible apply x_L0); (focus assumption); (focus (walk_at "in2")))
    | ((with_reducible apply x_L1i); (focus assumption); (focus (walk_at "in2")))
    | ((with_reducible apply x_L1); (focus assumption); (focus (walk_at "in2")))
    | ((with_reducible apply x_L2i); (focus assumption); (focus (walk_at "in2")))
    | ((with_reducible apply x_L2); (focus assumption); (focus (walk_at "in2")))
    | ((with_reducible apply x_L3i); (focus assumption); (focus (walk_at "in2")))
    | ((with_reducible apply x_L3); (focus assumption); (focus (walk_at "in2")))
    | ((with_reducible apply x_L4i); (focus assumption); (focus (walk_at "in2")))
    | ((with_reducible apply x_L4); (focus assumption); (focus (walk_at "in2")))
    | ((with_reducible apply x_L5i); (focus assumption); (focus (walk_at "in2")))
    | ((with_reducible apply x_L5); (focus assumption); (focus (walk_at "in2")))
    | ((with_reducible apply w_ixL); (focus (walk_at "fact")); (focus (walk_at "place"))))
  | ((with_reducible show gTup _ _ _ _ _ _ _); first | ((with_reducible apply g_tup2); (focus assumption); (focus (walk_at "in2"))) | ((with_reducible apply g_tup3); (focus assumption); (focus (walk_at "in2"))))
  | ((with_reducible show Rng1G _ _ _); (with_reducible apply rng1); (focus (first | decide | omega | (constructor <;> first | omega | (split <;> omega)))))
  | ((with_reducible show VS _ _); first
    | ((with_reducible refine v_tup ?_); intro _) | ((with_reducible refine v_lst ?_); intro _) | ((with_reducible refine v_dct ?_); intro _)
    | with_reducible refine v_int ?_ | with_reducible refine v_bl ?_ | with_reducible refine v_str ?_ | with_reducible refine v_non ?_ | ((with_reducible refine v_any ?_); intro _))
  | ((with_reducible show Wd _ _ _ _ _ _ → _); intro _)
  | ((with_reducible show rLenQ _ _ _ _); first
    | ((with_reducible apply l_lst); (focus assumption); (focus (walk_at "in2"))) | ((with_reducible apply l_tup); (focus assumption); (focus (walk_at "in2")))
    | ((with_reducible apply w_lenL); (focus (walk_at "fact"))) | ((with_reducible apply w_lenT); (focus (walk_at "fact"))))
  | ((with_reducible show sp_take _ _ _ _); (with_reducible apply call_tk); (focus assumption); (focus (first | decide | omega)); (focus (first | decide | decide +kernel)); intro _ _ _ _ _)
  | ((with_reducible show sp_whole _ _ _ _); (with_reducible apply call_wh); (focus assumption); intro _ _ _ _)
  | ((with_reducible show rCat _ _ _ _); (with_reducible apply w_catL); (focus assumption); (focus (walk_at "in2")); (focus (walk_at "in2")); (focus rfl); intro _ _ _)
  | ((with_reducible show rSetL _ _ _ _ _); first | ((with_reducible apply w_set0); (focus (walk_at "heap"))) | ((with_reducible apply w_set1); (focus (walk_at "heap"))) | ((with_reducible apply w_set2); (focus (walk_at "heap"))) | ((with_reducible apply w_set3); (focus (walk_at "heap"))) | ((with_reducible apply w_set4); (focus (walk_at "heap"))) | ((with_reducible apply w_set5); (focus (walk_at "heap"))))
  | walk_at "call1"
  | dsimp only [List.set, notT, notF]
  | rw [List.length_map])))
def topS (i : Nat) : Stmt := PySem.Challenge.pw_fourcreases_k94_whole_numbers_and_trees.main.body.getD i (.Pass ⟨0, 0, 0, 0⟩)
abbrev s_is_integer : Stmt := topS 7
abbrev NN_is_integer : List Str := ["thing"]
theorem sc_is_integer : FnScope ["thing"] ["thing"] (defScope s_is_integer) := ⟨rfl, rfl, rfl, by decide +kernel, rfl, by decide +kernel, by decide +kernel⟩
abbrev s_is_row : Stmt := topS 8
abbrev NN_is_row : List Str := ["thing"]
theorem sc_is_row : FnScope ["thing"] ["thing"] (defScope s_is_row) := ⟨rfl, rfl, rfl, by decide +kernel, rfl, by decide +kernel, by decide +kernel⟩
abbrev s_is_tuple_of : Stmt := topS 9
abbrev NN_is_tuple_of : List Str := ["thing", "many"]
theorem sc_is_tuple_of : FnScope ["thing", "many"] ["thing", "many"] (defScope s_is_tuple_of) := ⟨rfl, rfl, rfl, by decide +kernel, rfl, by decide +kernel, by decide +kernel⟩
abbrev s_is_fraction : Stmt := topS 10
abbrev NN_is_fraction : List Str := ["thing", "top", "bottom"]
theorem sc_is_fraction : FnScope ["thing", "top", "bottom"] ["thing"] (defScope s_is_fraction) := ⟨rfl, rfl, rfl, by decide +kernel, rfl, by decide +kernel, by decide +kernel⟩
abbrev s_are_fractions : Stmt := topS 11
abbrev NN_are_fractions : List Str := ["things", "thing"]
theorem sc_are_fractions : FnScope ["things", "thing"] ["things"] (defScope s_are_fractions) := ⟨rfl, rfl, rfl, by decide +kernel, rfl, by decide +kernel, by decide +kernel⟩
abbrev s_word_of : Stmt := topS 17
abbrev NN_word_of : List Str := ["number", "pieces", "rest", "piece"]
theorem sc_word_of : FnScope ["number", "pieces", "rest", "piece"] ["number"] (defScope s_word_of) := ⟨rfl, rfl, rfl, by decide +kernel, rfl, by decide +kernel, by decide +kernel⟩
abbrev s_is_whole_word : Stmt := topS 18
abbrev NN_is_whole_word : List Str := ["word", "sign"]
theorem sc_is_whole_word : FnScope ["word", "sign"] ["word"] (defScope s_is_whole_word) := ⟨rfl, rfl, rfl, by decide +kernel, rfl, by decide +kernel, by decide +kernel⟩
abbrev s_number_in : Stmt := topS 19
abbrev NN_number_in : List Str := ["word", "number", "start", "at"]
theorem sc_number_in : FnScope ["word", "number", "start", "at"] ["word"] (defScope s_number_in) := ⟨rfl, rfl, rfl, by decide +kernel, rfl, by decide +kernel, by decide +kernel⟩
abbrev s_fraction_word : Stmt := topS 20
abbrev NN_fraction_word : List Str := ["one", "top", "bottom"]
theorem sc_fraction_word : FnScope ["one", "top", "bottom"] ["one"] (defScope s_fraction_word) := ⟨rfl, rfl, rfl, by decide +kernel, rfl, by decide +kernel, by decide +kernel⟩
abbrev s_fraction_in : Stmt := topS 21
abbrev NN_fraction_in : List Str := ["word", "negative", "top", "slash", "bottom", "number", "below"]
theorem sc_fraction_in : FnScope ["word", "negative", "top", "slash", "bottom", "number", "below"] ["word"] (defScope s_fraction_in) := ⟨rfl, rfl, rfl, by decide +kernel, rfl, by decide +kernel, by decide +kernel⟩
abbrev s_numbers_text : Stmt := topS 24
abbrev NN_numbers_text : List Str := ["numbers", "one"]
theorem sc_numbers_text : FnScope ["numbers", "one"] ["numbers"] (defScope s_numbers_text) := ⟨rfl, rfl, rfl, by decide +kernel, rfl, by decide +kernel, by decide +kernel⟩
abbrev s_read_numbers : Stmt := topS 25
abbrev NN_read_numbers : List Str := ["text", "numbers", "at", "word", "one"]
theorem sc_read_numbers : FnScope ["text", "numbers", "at", "word", "one"] ["text"] (defScope s_read_numbers) := ⟨rfl, rfl, rfl, by decide +kernel, rfl, by decide +kernel, by decide +kernel⟩
abbrev s_is_number : Stmt := topS 26
abbrev NN_is_number : List Str := ["thing"]
theorem sc_is_number : FnScope ["thing"] ["thing"] (defScope s_is_number) := ⟨rfl, rfl, rfl, by decide +kernel, rfl, by decide +kernel, by decide +kernel⟩
abbrev s_is_tree : Stmt := topS 27
abbrev NN_is_tree : List Str := ["thing", "deepest"]
theorem sc_is_tree : FnScope ["thing", "deepest"] ["thing", "deepest"] (defScope s_is_tree) := ⟨rfl, rfl, rfl, by decide +kernel, rfl, by decide +kernel, by decide +kernel⟩
abbrev s_written_tree : Stmt := topS 28
abbrev NN_written_tree : List Str := ["tree"]
theorem sc_written_tree : FnScope ["tree"] ["tree"] (defScope s_written_tree) := ⟨rfl, rfl, rfl, by decide +kernel, rfl, by decide +kernel, by decide +kernel⟩
abbrev s_tree_text : Stmt := topS 29
abbrev NN_tree_text : List Str := ["tree"]
theorem sc_tree_text : FnScope ["tree"] ["tree"] (defScope s_tree_text) := ⟨rfl, rfl, rfl, by decide +kernel, rfl, by decide +kernel, by decide +kernel⟩
abbrev s_sign_at : Stmt := topS 30
abbrev NN_sign_at : List Str := ["text", "at"]
theorem sc_sign_at : FnScope ["text", "at"] ["text", "at"] (defScope s_sign_at) := ⟨rfl, rfl, rfl, by decide +kernel, rfl, by decide +kernel, by decide +kernel⟩
abbrev s_behind_sign : Stmt := topS 31
abbrev NN_behind_sign : List Str := ["text", "at", "wanted"]
theorem sc_behind_sign : FnScope ["text", "at", "wanted"] ["text", "at", "wanted"] (defScope s_behind_sign) := ⟨rfl, rfl, rfl, by decide +kernel, rfl, by decide +kernel, by decide +kernel⟩
abbrev s_read_number : Stmt := topS 32
abbrev NN_read_number : List Str := ["text", "at", "end"]
theorem sc_read_number : FnScope ["text", "at", "end"] ["text", "at"] (defScope s_read_number) := ⟨rfl, rfl, rfl, by decide +kernel, rfl, by decide +kernel, by decide +kernel⟩
abbrev s_tree_from : Stmt := topS 33
abbrev NN_tree_from : List Str := ["text", "at", "deepest", "sign", "number", "end", "corner", "first", "second"]
theorem sc_tree_from : FnScope ["text", "at", "deepest", "sign", "number", "end", "corner", "first", "second"] ["text", "at", "deepest"] (defScope s_tree_from) := ⟨rfl, rfl, rfl, by decide +kernel, rfl, by decide +kernel, by decide +kernel⟩
abbrev s_read_tree : Stmt := topS 34
abbrev NN_read_tree : List Str := ["text", "tree", "end"]
theorem sc_read_tree : FnScope ["text", "tree", "end"] ["text"] (defScope s_read_tree) := ⟨rfl, rfl, rfl, by decide +kernel, rfl, by decide +kernel, by decide +kernel⟩
abbrev s_law_mixed : Stmt := topS 36
abbrev NN_law_mixed : List Str := ["cell", "k", "number"]
theorem sc_law_mixed : FnScope ["cell", "k", "number"] ["cell", "k"] (defScope s_law_mixed) := ⟨rfl, rfl, rfl, by decide +kernel, rfl, by decide +kernel, by decide +kernel⟩
abbrev s_law_great : Stmt := topS 37
abbrev NN_law_great : List Str := ["cells", "place"]
theorem sc_law_great : FnScope ["cells", "place"] ["cells", "place"] (defScope s_law_great) := ⟨rfl, rfl, rfl, by decide +kernel, rfl, by decide +kernel, by decide +kernel⟩
abbrev s_law_stream : Stmt := topS 38
abbrev NN_law_stream : List Str := ["script", "cells"]
theorem sc_law_stream : FnScope ["script", "cells"] ["script"] (defScope s_law_stream) := ⟨rfl, rfl, rfl, by decide +kernel, rfl, by decide +kernel, by decide +kernel⟩
abbrev s_law_take : Stmt := topS 39
abbrev NN_law_take : List Str := ["stream", "many", "cells", "place", "digit"]
theorem sc_law_take : FnScope ["stream", "many", "cells", "place", "digit"] ["stream", "many"] (defScope s_law_take) := ⟨rfl, rfl, rfl, by decide +kernel, rfl, by decide +kernel, by decide +kernel⟩
abbrev s_law_low : Stmt := topS 40
abbrev NN_law_low : List Str := ["top", "bottom", "one", "other"]
theorem sc_law_low : FnScope ["top", "bottom", "one", "other"] ["top", "bottom"] (defScope s_law_low) := ⟨rfl, rfl, rfl, by decide +kernel, rfl, by decide +kernel, by decide +kernel⟩
abbrev s_law_is_integer : Stmt := topS 41
abbrev NN_law_is_integer : List Str := ["thing"]
theorem sc_law_is_integer : FnScope ["thing"] ["thing"] (defScope s_law_is_integer) := ⟨rfl, rfl, rfl, by decide +kernel, rfl, by decide +kernel, by decide +kernel⟩
abbrev s_law_alike : Stmt := topS 42
abbrev NN_law_alike : List Str := ["told", "due", "k"]
theorem sc_law_alike : FnScope ["told", "due", "k"] ["told", "due"] (defScope s_law_alike) := ⟨rfl, rfl, rfl, by decide +kernel, rfl, by decide +kernel, by decide +kernel⟩
abbrev s_law_word : Stmt := topS 43
abbrev NN_law_word : List Str := ["one"]
theorem sc_law_word : FnScope ["one"] ["one"] (defScope s_law_word) := ⟨rfl, rfl, rfl, by decide +kernel, rfl, by decide +kernel, by decide +kernel⟩
abbrev s_law_whole : Stmt := topS 44
abbrev NN_law_whole : List Str := ["word", "sign"]
theorem sc_law_whole : FnScope ["word", "sign"] ["word"] (defScope s_law_whole) := ⟨rfl, rfl, rfl, by decide +kernel, rfl, by decide +kernel, by decide +kernel⟩
abbrev s_law_read_word : Stmt := topS 45
abbrev NN_law_read_word : List Str := ["word", "parts", "top", "factor", "first", "second"]
theorem sc_law_read_word : FnScope ["word", "parts", "top", "factor", "first", "second"] ["word"] (defScope s_law_read_word) := ⟨rfl, rfl, rfl, by decide +kernel, rfl, by decide +kernel, by decide +kernel⟩
abbrev s_law_is_long : Stmt := topS 46
abbrev NN_law_is_long : List Str := ["text", "run", "sign"]
theorem sc_law_is_long : FnScope ["text", "run", "sign"] ["text"] (defScope s_law_is_long) := ⟨rfl, rfl, rfl, by decide +kernel, rfl, by decide +kernel, by decide +kernel⟩
abbrev s_law_numbers_due : Stmt := topS 47
abbrev NN_law_numbers_due : List Str := ["text", "words", "items", "word"]
theorem sc_law_numbers_due : FnScope ["text", "words", "items", "word"] ["text"] (defScope s_law_numbers_due) := ⟨rfl, rfl, rfl, by decide +kernel, rfl, by decide +kernel, by decide +kernel⟩
abbrev s_law_numbers_read : Stmt := topS 48
abbrev NN_law_numbers_read : List Str := ["text", "found", "e"]
theorem sc_law_numbers_read : FnScope ["text", "found", "e"] ["text"] (defScope s_law_numbers_read) := ⟨rfl, rfl, rfl, by decide +kernel, rfl, by decide +kernel, by decide +kernel⟩
abbrev s_law_tree_read : Stmt := topS 49
abbrev NN_law_tree_read : List Str := ["text", "found", "e"]
theorem sc_law_tree_read : FnScope ["text", "found", "e"] ["text"] (defScope s_law_tree_read) := ⟨rfl, rfl, rfl, by decide +kernel, rfl, by decide +kernel, by decide +kernel⟩
abbrev s_law_no_numbers : Stmt := topS 50
abbrev NN_law_no_numbers : List Str := ["thing", "refused", "e"]
theorem sc_law_no_numbers : FnScope ["thing", "refused", "e"] ["thing"] (defScope s_law_no_numbers) := ⟨rfl, rfl, rfl, by decide +kernel, rfl, by decide +kernel, by decide +kernel⟩
abbrev s_law_no_tree : Stmt := topS 51
abbrev NN_law_no_tree : List Str := ["thing", "refused", "e"]
theorem sc_law_no_tree : FnScope ["thing", "refused", "e"] ["thing"] (defScope s_law_no_tree) := ⟨rfl, rfl, rfl, by decide +kernel, rfl, by decide +kernel, by decide +kernel⟩
abbrev s_law_changed : Stmt := topS 52
abbrev NN_law_changed : List Str := ["stream", "text", "most", "kind", "at", "sign"]
theorem sc_law_changed : FnScope ["stream", "text", "most", "kind", "at", "sign"] ["stream", "text", "most"] (defScope s_law_changed) := ⟨rfl, rfl, rfl, by decide +kernel, rfl, by decide +kernel, by decide +kernel⟩
abbrev s_law_size_drawn : Stmt := topS 53
abbrev NN_law_size_drawn : List Str := ["stream"]
theorem sc_law_size_drawn : FnScope ["stream"] ["stream"] (defScope s_law_size_drawn) := ⟨rfl, rfl, rfl, by decide +kernel, rfl, by decide +kernel, by decide +kernel⟩
abbrev s_law_numbers_judged : Stmt := topS 54
abbrev NN_law_numbers_judged : List Str := ["stream", "numbers", "turn", "minus", "top", "text", "most", "changed", "at", "kind", "bad", "item"]
theorem sc_law_numbers_judged : FnScope ["stream", "numbers", "turn", "minus", "top", "text", "most", "changed", "at", "kind", "bad", "item"] ["stream"] (defScope s_law_numbers_judged) := ⟨rfl, rfl, rfl, by decide +kernel, rfl, by decide +kernel, by decide +kernel⟩
abbrev s_law_tree_drawn : Stmt := topS 55
abbrev NN_law_tree_drawn : List Str := ["stream", "deep", "many", "kind", "number", "half"]
theorem sc_law_tree_drawn : FnScope ["stream", "deep", "many", "kind", "number", "half"] ["stream", "deep", "many"] (defScope s_law_tree_drawn) := ⟨rfl, rfl, rfl, by decide +kernel, rfl, by decide +kernel, by decide +kernel⟩
abbrev s_law_tree_word : Stmt := topS 56
abbrev NN_law_tree_word : List Str := ["tree"]
theorem sc_law_tree_word : FnScope ["tree"] ["tree"] (defScope s_law_tree_word) := ⟨rfl, rfl, rfl, by decide +kernel, rfl, by decide +kernel, by decide +kernel⟩
abbrev s_law_is_tree : Stmt := topS 57
abbrev NN_law_is_tree : List Str := ["tree"]
theorem sc_law_is_tree : FnScope ["tree"] ["tree"] (defScope s_law_is_tree) := ⟨rfl, rfl, rfl, by decide +kernel, rfl, by decide +kernel, by decide +kernel⟩
abbrev s_law_bad_sign : Stmt := topS 58
abbrev NN_law_bad_sign : List Str := ["text", "due", "digits", "at", "sign", "wish"]
theorem sc_law_bad_sign : FnScope ["text", "due", "digits", "at", "sign", "wish"] ["text"] (defScope s_law_bad_sign) := ⟨rfl, rfl, rfl, by decide +kernel, rfl, by decide +kernel, by decide +kernel⟩
abbrev s_law_spoilt : Stmt := topS 59
abbrev NN_law_spoilt : List Str := ["stream", "tree", "kind", "side"]
theorem sc_law_spoilt : FnScope ["stream", "tree", "kind", "side"] ["stream", "tree"] (defScope s_law_spoilt) := ⟨rfl, rfl, rfl, by decide +kernel, rfl, by decide +kernel, by decide +kernel⟩
abbrev s_law_trees_judged : Stmt := topS 60
abbrev NN_law_trees_judged : List Str := ["stream", "deep", "tree", "text", "most", "changed", "told", "bad"]
theorem sc_law_trees_judged : FnScope ["stream", "deep", "tree", "text", "most", "changed", "told", "bad"] ["stream"] (defScope s_law_trees_judged) := ⟨rfl, rfl, rfl, by decide +kernel, rfl, by decide +kernel, by decide +kernel⟩
abbrev s_law_deepest : Stmt := topS 61
abbrev NN_law_deepest : List Str := ["stream", "number", "tree", "turn", "text", "longer"]
theorem sc_law_deepest : FnScope ["stream", "number", "tree", "turn", "text", "longer"] ["stream"] (defScope s_law_deepest) := ⟨rfl, rfl, rfl, by decide +kernel, rfl, by decide +kernel, by decide +kernel⟩
abbrev s_law : Stmt := topS 62
abbrev NN_law : List Str := ["script", "stream", "kind", "other", "digits"]
theorem sc_law : FnScope ["script", "stream", "kind", "other", "digits"] ["script"] (defScope s_law) := ⟨rfl, rfl, rfl, by decide +kernel, rfl, by decide +kernel, by decide +kernel⟩

/-! ### lowest terms -/
def gI (a b : Int) : Int := ((Nat.gcd a.natAbs b.natAbs : Nat) : Int)
def sg (a b : Int) : Int := if b < 0 then -gI a b else gI a b
def nt (a b : Int) : Int := a.fdiv (sg a b)
def bN (a b : Int) : Int := b.fdiv (sg a b)
theorem gI_pos {a b : Int} (h : b ≠ 0) : 0 < gI a b := by
  have : 0 < Nat.gcd a.natAbs b.natAbs := Nat.gcd_pos_of_pos_right _ (by omega)
  unfold gI
  omega
theorem gI_le {a b : Int} (h : b ≠ 0) : gI a b ≤ (b.natAbs : Int) := by
  have : Nat.gcd a.natAbs b.natAbs ≤ b.natAbs := Nat.gcd_le_right _ (by omega)
  unfold gI
  omega
theorem sg_ne {a b : Int} (h : b ≠ 0) : sg a b ≠ 0 := by
  have := gI_pos (a := a) h
  unfold sg
  split <;> omega
theorem sg_abs {a b : Int} : (sg a b).natAbs = Nat.gcd a.natAbs b.natAbs := by
  unfold sg gI
  split <;> omega
theorem gI_dl (a b : Int) : gI a b ∣ a := Int.natAbs_dvd_natAbs.mp (by
  show ((Nat.gcd a.natAbs b.natAbs : Nat) : Int).natAbs ∣ _
  rw [Int.natAbs_natCast]
  exact Nat.gcd_dvd_left _ _)
theorem gI_dr (a b : Int) : gI a b ∣ b := Int.natAbs_dvd_natAbs.mp (by
  show ((Nat.gcd a.natAbs b.natAbs : Nat) : Int).natAbs ∣ _
  rw [Int.natAbs_natCast]
  exact Nat.gcd_dvd_right _ _)
theorem sg_dl (a b : Int) : sg a b ∣ a := by
  unfold sg
  split
  · exact Int.neg_dvd.mpr (gI_dl a b)
  · exact gI_dl a b
theorem sg_dr (a b : Int) : sg a b ∣ b := by
  unfold sg
  split
  · exact Int.neg_dvd.mpr (gI_dr a b)
  · exact gI_dr a b
theorem fdiv_exact {a d q : Int} (hd : d ≠ 0) (e : a = d * q) : a.fdiv d = q := by
  subst e
  exact Int.mul_fdiv_cancel_left q hd
theorem nt_mul {a b : Int} (h : b ≠ 0) : sg a b * nt a b = a := by
  obtain ⟨q, e⟩ := sg_dl a b
  have : nt a b = q := fdiv_exact (sg_ne h) e
  rw [this]
  exact e.symm
theorem nb_mul {a b : Int} (h : b ≠ 0) : sg a b * bN a b = b := by
  obtain ⟨q, e⟩ := sg_dr a b
  have : bN a b = q := fdiv_exact (sg_ne h) e
  rw [this]
  exact e.symm
theorem nb_pos {a b : Int} (h : b ≠ 0) : 0 < bN a b := by
  have e := nb_mul (a := a) h
  have g := gI_pos (a := a) h
  unfold sg at e
  by_cases hb : b < 0
  · rw [if_pos hb] at e
    refine Int.not_le.mp fun hn => ?_
    have := Int.mul_nonneg (Int.le_of_lt g) (Int.neg_nonneg_of_nonpos hn)
    have e2 : gI a b * -bN a b = b := (Int.mul_neg _ _).trans ((Int.neg_mul _ _).symm.trans e)
    omega
  · rw [if_neg hb] at e
    refine Int.not_le.mp fun hn => ?_
    have := Int.mul_nonneg (Int.le_of_lt g) (Int.neg_nonneg_of_nonpos hn)
    have e2 : gI a b * -bN a b = -b := (Int.mul_neg _ _).trans (congrArg Neg.neg e)
    omega
/-- the value stays -/
theorem nt_val {a b : Int} (h : b ≠ 0) : nt a b * b = a * bN a b := by
  have e1 := nt_mul (a := a) h
  have e2 := nb_mul (a := a) h
  calc nt a b * b = nt a b * (sg a b * bN a b) := by rw [e2]
    _ = sg a b * nt a b * bN a b := by rw [← Int.mul_assoc, Int.mul_comm (nt a b)]
    _ = a * bN a b := by rw [e1]
theorem nt_gcd {a b : Int} (h : b ≠ 0) : Nat.gcd (nt a b).natAbs (bN a b).natAbs = 1 := by
  have e1 := congrArg Int.natAbs (nt_mul (a := a) h)
  have e2 := congrArg Int.natAbs (nb_mul (a := a) h)
  rw [Int.natAbs_mul, sg_abs] at e1 e2
  have gp : 0 < Nat.gcd a.natAbs b.natAbs := Nat.gcd_pos_of_pos_right _ (by omega)
  have k : Nat.gcd a.natAbs b.natAbs * Nat.gcd (nt a b).natAbs (bN a b).natAbs = Nat.gcd a.natAbs b.natAbs * 1 := by
    rw [← Nat.gcd_mul_left, e1, e2, Nat.mul_one]
  exact Nat.eq_of_mul_eq_mul_left gp k
theorem nt_le {a b : Int} (h : b ≠ 0) : (nt a b).natAbs ≤ a.natAbs := by
  have e1 := congrArg Int.natAbs (nt_mul (a := a) h)
  rw [Int.natAbs_mul, sg_abs] at e1
  have gp : 0 < Nat.gcd a.natAbs b.natAbs := Nat.gcd_pos_of_pos_right _ (by omega)
  rw [← e1]
  exact Nat.le_mul_of_pos_left _ gp
theorem nb_le {a b : Int} (h : b ≠ 0) : (bN a b).natAbs ≤ b.natAbs := by
  have e1 := congrArg Int.natAbs (nb_mul (a := a) h)
  rw [Int.natAbs_mul, sg_abs] at e1
  have gp : 0 < Nat.gcd a.natAbs b.natAbs := Nat.gcd_pos_of_pos_right _ (by omega)
  have e2 : Nat.gcd a.natAbs b.natAbs * (bN a b).natAbs = b.natAbs := e1
  calc (bN a b).natAbs ≤ Nat.gcd a.natAbs b.natAbs * (bN a b).natAbs := Nat.le_mul_of_pos_left _ gp
    _ = b.natAbs := e2
/-- a pair in lowest terms -/
structure Low (a b : Int) : Prop where
  pos : 1 ≤ b
  one : Nat.gcd a.natAbs b.natAbs = 1
theorem nt_low {a b : Int} (h : b ≠ 0) : Low (nt a b) (bN a b) := ⟨nb_pos h, nt_gcd h⟩
theorem sg_one {a b : Int} (l : Low a b) : sg a b = 1 := by
  unfold sg gI
  have := l.pos
  rw [if_neg (by omega), l.one]
  rfl
theorem nt_id {a b : Int} (l : Low a b) : nt a b = a := by
  unfold nt
  rw [sg_one l]
  exact Int.fdiv_one a
theorem nb_id {a b : Int} (l : Low a b) : bN a b = b := by
  unfold bN
  rw [sg_one l]
  exact Int.fdiv_one b
theorem low_of {a b : Int} (h : 1 ≤ b) (e : bN a b = b) : Low a b := by
  have q := nt_low (a := a) (b := b) (by omega)
  have m := congrArg Int.natAbs (nb_mul (a := a) (b := b) (by omega))
  rw [Int.natAbs_mul, sg_abs, e] at m
  refine ⟨h, ?_⟩
  have bp : 0 < b.natAbs := by omega
  have : Nat.gcd a.natAbs b.natAbs * b.natAbs = 1 * b.natAbs := by rw [m, Nat.one_mul]
  exact Nat.eq_of_mul_eq_mul_right bp this
theorem log_of {j : Int} {k : Nat} (h : j.natAbs < 2 ^ k) (hk : 0 < k) : j.natAbs.log2 < k := PySem.Flt.log2_lt_of hk h
theorem sg_log {a b : Int} (h : b ≠ 0) (hb : b.natAbs.log2 < 9000) : (sg a b).natAbs.log2 < 9000 := by
  have l : (sg a b).natAbs ≤ b.natAbs := by
    rw [sg_abs]
    exact Nat.gcd_le_right _ (by omega)
  have b0 : b.natAbs ≠ 0 := by omega
  have h1 : b.natAbs < 2 ^ 9000 := (Nat.log2_lt b0).mp hb
  have s0 : (sg a b).natAbs ≠ 0 := by
    have := sg_ne (a := a) h
    omega
  exact (Nat.log2_lt s0).mpr (Nat.lt_of_le_of_lt l h1)
theorem eqv_pair {a b c d : Int} : PyData.eqv (.tuple [.int a, .int b]) (.tuple [.int c, .int d]) = decide (a = c ∧ b = d) := by
  show (a == c && (b == d && true)) = _
  rw [Bool.and_true]
  by_cases h1 : a = c
  · subst h1
    rw [beq_self_eq_true, Bool.true_and]
    by_cases h2 : b = d
    · subst h2
      rw [beq_self_eq_true]
      exact (decide_eq_true ⟨rfl, rfl⟩).symm
    · rw [beq_eq_false_iff_ne.mpr h2]
      exact (decide_eq_false fun z => h2 z.2).symm
  · rw [beq_eq_false_iff_ne.mpr h1, Bool.false_and]
    exact (decide_eq_false fun z => h1 z.1).symm

theorem sgn_small {d x : Int} (d0 : 0 ≤ d) (d1 : d < 2) (x0 : 0 ≤ x) (x1 : x < 1000000000000000000000000000000000000000) : ((1 - 2 * d) * x).natAbs < 1000000000000000000000000000000000000000 := by
  have e : d = 0 ∨ d = 1 := by omega
  rcases e with rfl | rfl <;> omega
section
variable {P : Program} {w : World} {K : PySem.W.Frag} {mg : Str → Option Value} {base : Heap}
theorem ok_law_mixed {f : Addr} {fd : FuncData} (F : Fun K "_law_mixed" "_law_mixed" s_law_mixed f fd) (nb : Nb mg) : FnOk P w K mg base CX0 1 f fd ["cell", "k"] sp_mixed := by
  have sc := sc_law_mixed
  refine F.ok sc (fun vs H Q E h => ?_) (fun cdv A outer s H vs Q E hr h => ?_)
  · obtain ⟨c, k, rfl, _⟩ := h
    rfl
  · obtain ⟨c, k, rfl, q⟩ := h
    refine ⟨_, (pss_cons (ps_asg (pe_op op_mod (pe_callTy cq_int (by rfl) nb.int (by decide +kernel) (pa_cons (pe_op op_mul (pe_op op_add (pe_op op_add (pe_op op_mod (pe_callTy cq_int (by rfl) nb.int (by decide +kernel) (pa_cons (pv 0) pa_nil)) pe_int) (pe_op op_mul pe_int (pv 1))) pe_int) pe_int) pa_nil)) pe_int) (pg_name (i := 2) sc.nd rfl (.inl rfl)))
    (pss_cons (ps_asg (pe_op op_mod (pe_callTy cq_int (by rfl) nb.int (by decide +kernel) (pa_cons (pe_op op_mul (pv 2) (pe_op op_add (pe_op op_fdivW (pv 2) pe_int) pe_int)) pa_nil)) pe_int) (pg_name (i := 2) sc.nd rfl (.inl rfl)))
    (pss_one (ps_ret (pe_op op_mod (pe_callTy cq_int (by rfl) nb.int (by decide +kernel) (pa_cons (pe_op op_mul (pv 2) (pe_op op_add (pe_op op_fdivW (pv 2) pe_int) pe_int)) pa_nil)) pe_int))))), ?_⟩
    (rw [show start ["cell", "k", "number"] [.int c, .int k] = [some (.int c), some (.int k), none] from rfl]; try dsimp only [cxOf])
    walk_at "w"
    generalize hn : (c % 2147483647 + 7919 * k + 1) * 48271 % 2147483647 = n
    have n0 : 0 ≤ n := by omega
    have n1 : n < 2147483647 := by omega
    walk_at "w"
    generalize hm : n * (n / 1009 + 69621) % 2147483647 = m
    have m0 : 0 ≤ m := by omega
    have m1 : m < 2147483647 := by omega
    walk_at "w"
    exact q _
theorem ok_law_great {f : Addr} {fd : FuncData} (F : Fun K "_law_great" "_law_great" s_law_great f fd) (nb : Nb mg) : FnOk P w K mg base CX0 1 f fd ["cells", "place"] (sp_great K) := by
  have sc := sc_law_great
  refine F.ok sc (fun vs H Q E h => ?_) (fun cdv A outer s H vs Q E hr h => ?_)
  · obtain ⟨c, p, ns, rfl, _⟩ := h
    rfl
  · obtain ⟨c, p, ns, rfl, hc, p0, q⟩ := h
    refine ⟨_, (pss_cons (ps_if (PW.pt (pw_and (pt_cmpR op_lt (pv 1) (pe_callB cq_len (by rfl) nb.len (by decide +kernel) (pa_cons (pv 0) pa_nil)) (nomark _)) (pw_and1 (pt_cmpR op_ge (pe_callB cq_abs (by rfl) nb.abs (by decide +kernel) (pa_cons (pe_ix ix_list (pv 0) (pv 1) (fun _ _ => rfl)) pa_nil)) (pe_op op_pow pe_int pe_int) (nomark _))))) (pss_one (ps_ret (pe_callB cq_abs (by rfl) nb.abs (by decide +kernel) (pa_cons (pe_ix ix_list (pv 0) (pv 1) (fun _ _ => rfl)) pa_nil)))) pss_nil)
    (pss_one (ps_ret pe_int))), ?_⟩
    (rw [show start ["cells", "place"] [.ref c, .int p] = [some (.ref c), some (.int p)] from rfl]; try dsimp only [cxOf])
    walk_at "w"
    refine w_ifd (fun h1 => ?_) (fun h1 => ?_)
    · skip
      obtain ⟨n, hn⟩ := at_ints p0 h1
      walk_at "w"
      refine w_ifd (fun h2 => ?_) (fun h2 => ?_)
      · walk_at "w"
        exact q _ (by omega)
      · walk_at "w"
        exact q _ (by omega)
    · refine iteF ?_
      walk_at "w"
      exact q _ (by omega)
theorem ok_law_stream {f : Addr} {fd : FuncData} (F : Fun K "_law_stream" "_law_stream" s_law_stream f fd) (nb : Nb mg) (d_law_great : Df P w K mg base CX0 1 "_law_great" ["cells", "place"] (sp_great K)) : FnOk P w K mg base CX0 2 f fd ["script"] (sp_stream K) := by
  have sc := sc_law_stream
  refine F.ok sc (fun vs H Q E h => ?_) (fun cdv A outer s H vs Q E hr h => ?_)
  · obtain ⟨c, ns, rfl, _⟩ := h
    rfl
  · obtain ⟨c, ns, rfl, hc, q⟩ := h
    refine ⟨_, (pss_cons (ps_asg (pe_callTy cq_list (by rfl) nb.list (by decide +kernel) (pa_cons (pv 0) pa_nil)) (pg_name (i := 1) sc.nd rfl (.inl rfl)))
    (pss_cons (ps_if (pt_cmpR op_eq (pe_callB cq_len (by rfl) nb.len (by decide +kernel) (pa_cons (pv 1) pa_nil)) pe_int (nomark _)) (pss_one (ps_asg (pe_lst (pa_cons pe_int pa_nil)) (pg_name (i := 1) sc.nd rfl (.inl rfl)))) pss_nil)
    (pss_one (ps_ret (pe_lst (pa_cons (pv 1) (pa_cons pe_int (pa_cons (pe_call d_law_great.F (hr.mono (by first | decide | omega)) (by rfl) d_law_great.g d_law_great.kp d_law_great.b .nil pass0 (pa_cons (pv 1) (pa_cons pe_int pa_nil))) (pa_cons pe_int pa_nil))))))))), ?_⟩
    (rw [show start ["script", "cells"] [.ref c] = [some (.ref c), none] from rfl]; try dsimp only [cxOf])
    walk_at "w"
    refine ⟨c, ns.map V.int, rfl, .inl hc, fun l nl => ?_⟩
    walk_at "w"
    have s1 : Same H (upd H l (.lst (ns.map V.int))) := same_new nl
    refine w_ifd (fun h1 => ?_) (fun h1 => ?_)
    · walk_at "w"
      refine nl_mk fun p np => ?_
      walk_at "w"
      refine ⟨p, 0, [0], rfl, .inl (.inl upd_same), by decide, fun g g0 => ?_⟩
      walk_at "w"
      refine nl_mk fun t nt => ?_
      have tp : p ≠ t := ne_of_none upd_same nt
      refine q _ t ((s1.new np).new nt) ((s1.new np).free nt) ⟨p, 0, g, 0, [0], upd_same, by decide, g0, ?_, by decide⟩
      rw [upd_ne tp]
      exact upd_same
    · skip
      walk_at "w"
      refine ⟨l, 0, ns, rfl, .inl (.inl upd_same), by decide, fun g g0 => ?_⟩
      walk_at "w"
      refine nl_mk fun t nt => ?_
      have tp : l ≠ t := ne_of_none upd_same nt
      refine q _ t (s1.new nt) (s1.free nt) ⟨l, 0, g, 0, ns, upd_same, by decide, g0, ?_, by omega⟩
      rw [upd_ne tp]
      exact upd_same
theorem ok_law_take {f : Addr} {fd : FuncData} (F : Fun K "_law_take" "_law_take" s_law_take f fd) (nb : Nb mg) (d_law_great : Df P w K mg base CX0 1 "_law_great" ["cells", "place"] (sp_great K)) (d_law_mixed : Df P w K mg base CX0 1 "_law_mixed" ["cell", "k"] sp_mixed) : FnOk P w K mg base CX0 2 f fd ["stream", "many"] sp_take := by
  have sc := sc_law_take
  refine F.ok sc (fun vs H Q E h => ?_) (fun cdv A outer s H vs Q E hr h => ?_)
  · obtain ⟨a, m, rfl, _⟩ := h
    rfl
  · obtain ⟨a, m, rfl, hm, ⟨c, p, g, n, ns, h1, p0, g0, h4, hl⟩, q⟩ := h
    have ca := stm_ca h1 h4
    refine ⟨_, (pss_cons (ps_asg (pe_ix ix_list (pv 0) pe_int (fun _ _ => rfl)) (pg_name (i := 2) sc.nd rfl (.inl rfl)))
    (pss_cons (ps_asg (pe_ix ix_list (pv 0) pe_int (fun _ _ => rfl)) (pg_name (i := 3) sc.nd rfl (.inl rfl)))
    (pss_cons (ps_asg (pe_op op_add (pe_ix ix_list (pv 0) pe_int (fun _ _ => rfl)) pe_int) (pg_sub (pv 0) pe_int set_list))
    (pss_cons (ps_if (pt_cmpR op_gt (pe_ix ix_list (pv 0) pe_int (fun _ _ => rfl)) pe_int (nomark _)) (pss_cons (ps_asg (pe_op op_mod (pe_callTy cq_int (by rfl) nb.int (by decide +kernel) (pa_cons (pe_ix ix_list (pv 0) pe_int (fun _ _ => rfl)) pa_nil)) (pv 1)) (pg_name (i := 4) sc.nd rfl (.inl rfl)))
    (pss_cons (ps_asg (pe_op op_fdivW (pe_ix ix_list (pv 0) pe_int (fun _ _ => rfl)) (pv 1)) (pg_sub (pv 0) pe_int set_list))
    (pss_one (ps_if (pt_cmpR op_gt (pe_ix ix_list (pv 0) pe_int (fun _ _ => rfl)) pe_int (nomark _)) (pss_one (ps_ret (pv 4))) pss_nil)))) (pss_one (ps_asg (pe_op op_mod (pe_call d_law_mixed.F (hr.mono (by first | decide | omega)) (by rfl) d_law_mixed.g d_law_mixed.kp d_law_mixed.b .nil pass0 (pa_cons (pe_ix ix_list (pv 2) (pe_op op_mod (pe_callTy cq_int (by rfl) nb.int (by decide +kernel) (pa_cons (pv 3) pa_nil)) (pe_callB cq_len (by rfl) nb.len (by decide +kernel) (pa_cons (pv 2) pa_nil))) (fun _ _ => rfl)) (pa_cons (pe_ix ix_list (pv 0) pe_int (fun _ _ => rfl)) pa_nil))) (pv 1)) (pg_name (i := 4) sc.nd rfl (.inl rfl)))))
    (pss_cons (ps_asg (pe_op op_add (pv 3) pe_int) (pg_sub (pv 0) pe_int set_list))
    (pss_cons (ps_asg (pe_call d_law_great.F (hr.mono (by first | decide | omega)) (by rfl) d_law_great.g d_law_great.kp d_law_great.b .nil pass0 (pa_cons (pv 2) (pa_cons (pe_op op_add (pv 3) pe_int) pa_nil))) (pg_sub (pv 0) pe_int set_list))
    (pss_one (ps_ret (pv 4))))))))), ?_⟩
    (rw [show start ["stream", "many", "cells", "place", "digit"] [.ref a, .int m] = [some (.ref a), some (.int m), none, none, none] from rfl]; try dsimp only [cxOf])
    walk_at "w"
    refine w_ifd (fun hg => ?_) (fun hg => ?_)
    · walk_at "w"
      refine w_ifd (fun h2 => ?_) (fun h2 => ?_)
      · walk_at "w"
        refine q _ _ ?_ ⟨c, p, g / m, n + 1, ns, upd_same, p0, by omega, ?_, hl⟩ (Int.emod_nonneg _ (by omega)) (Int.emod_lt_of_pos _ (by omega))
        · exact (But.upd.trans But.upd)
        · walk_at "heap"
      · walk_at "w"
        refine ⟨c, p + 1, ns, rfl, .inl (.inl (by walk_at "heap")), by omega, fun g2 g20 => ?_⟩
        walk_at "w"
        refine q _ _ ?_ ⟨c, p + 1, g2, n + 1, ns, upd_same, by omega, g20, ?_, hl⟩ (Int.emod_nonneg _ (by omega)) (Int.emod_lt_of_pos _ (by omega))
        · exact ((But.upd.trans But.upd).trans But.upd).trans But.upd
        · walk_at "heap"
    · obtain ⟨z, hz⟩ := at_ints (ns := ns) (i := p % (ns.length : Int)) (Int.emod_nonneg _ (by omega)) (Int.emod_lt_of_pos _ (by omega))
      walk_at "w"
      refine ⟨z, n + 1, rfl, fun d0 => ?_⟩
      walk_at "w"
      refine ⟨c, p + 1, ns, rfl, .inl (.inl (by walk_at "heap")), by omega, fun g2 g20 => ?_⟩
      walk_at "w"
      refine q _ _ ?_ ⟨c, p + 1, g2, n + 1, ns, upd_same, by omega, g20, ?_, hl⟩ (Int.emod_nonneg _ (by omega)) (Int.emod_lt_of_pos _ (by omega))
      · exact (But.upd.trans But.upd).trans But.upd
      · walk_at "heap"
theorem call_take {H : Hp} {a : Addr} {m : Int} {Q : VK} {E : XK} (s : Stm H a) (hm : 0 < m) (hl : m.natAbs.log2 < 9000) (h : ∀ H' (d : Int), But a H H' → Stm H' a → 0 ≤ d → d < m → Q (.int d) H') : sp_take [.ref a, .int m] H Q E := ⟨a, m, rfl, ⟨hm, hl⟩, s, h⟩
end

/-- a new pair in lowest terms -/
def sp_low : Sp := fun vs H Q _ => ∃ a b : Int, vs = [.int a, .int b] ∧ b ≠ 0 ∧ b.natAbs.log2 < 9000 ∧ ∀ H' p, Same H H' → H p = none → H' p = some (.tup [.int (nt a b), .int (bN a b)]) → Q (.ref p) H'
theorem call_low {H : Hp} {a b : Int} {Q : VK} {E : XK} (h0 : b ≠ 0) (hl : b.natAbs.log2 < 9000) (h : ∀ H' p, Same H H' → H p = none → H' p = some (.tup [.int (nt a b), .int (bN a b)]) → Q (.ref p) H') : sp_low [.int a, .int b] H Q E := ⟨a, b, rfl, h0, hl, h⟩
theorem c_low {b : Bool} {sa : Addr} {H0 H : Hp} {acc : List V} {dacc : List PyData} {Q : VK} {E : XK} {x y : Int} (W : Wd b sa H0 H acc dacc) (h0 : y ≠ 0) (hl : y.natAbs.log2 < 9000)
    (h : ∀ H' p, Wd b sa H0 H' (.ref p :: acc) (.tuple [.int (nt x y), .int (bN x y)] :: dacc) → Q (.ref p) H') : sp_low [.int x, .int y] H Q E :=
  ⟨x, y, rfl, h0, hl, fun H' p s np hp => h H' p ((W.go s).put (.tup (W.ne np) hp (.cons (.int _) (.cons (.int _) .nil))))⟩
section
variable {P : Program} {w : World} {K : PySem.W.Frag} {mg : Str → Option Value} {base : Heap}
theorem ok_law_low {f : Addr} {fd : FuncData} (F : Fun K "_law_low" "_law_low" s_law_low f fd) (nb : Nb mg) : FnOk P w K mg base CX0 1 f fd ["top", "bottom"] sp_low := by
  have sc := sc_law_low
  refine F.ok sc (fun vs H Q E h => ?_) (fun cdv A outer s H vs Q E hr h => ?_)
  · obtain ⟨a, b, rfl, _⟩ := h
    rfl
  · obtain ⟨a, b, rfl, h0, hl, q⟩ := h
    refine ⟨_, (pss_cons (ps_asg (pe_callB cq_abs (by rfl) nb.abs (by decide +kernel) (pa_cons (pv 0) pa_nil)) (pg_name (i := 2) sc.nd rfl (.inl rfl)))
    (pss_cons (ps_asg (pe_callB cq_abs (by rfl) nb.abs (by decide +kernel) (pa_cons (pv 1) pa_nil)) (pg_name (i := 3) sc.nd rfl (.inl rfl)))
    (pss_cons (ps_while PassesOwn.never (pt_cmpR op_gt (pv 3) pe_int (nomark _)) (pss_one (ps_par (i := 2) (j := 3) (by rfl) sc.nd rfl rfl (by decide) rfl rfl (pa_cons (pv 3) (pa_cons (pe_op op_mod (pe_callTy cq_int (by rfl) nb.int (by decide +kernel) (pa_cons (pv 2) pa_nil)) (pv 3)) pa_nil)) (by rfl))))
    (pss_cons (ps_if (pt_cmpR op_lt (pv 1) pe_int (nomark _)) (pss_one (ps_asg (pe_un un_neg (pv 2)) (pg_name (i := 2) sc.nd rfl (.inl rfl)))) pss_nil)
    (pss_one (ps_ret (pe_tup (pa_cons (pe_op op_fdivG (pv 0) (pv 2)) (pa_cons (pe_op op_fdivG (pv 1) (pv 2)) pa_nil))))))))), ?_⟩
    (rw [show start ["top", "bottom", "one", "other"] [.int a, .int b] = [some (.int a), some (.int b), none, none] from rfl]; try dsimp only [cxOf])
    walk_at "w"
    refine ⟨fun m σ' H' => ∃ x y : Nat, σ' = [some (.int a), some (.int b), some (.int (x : Int)), some (.int (y : Int))] ∧ H' = H ∧ Nat.gcd x y = Nat.gcd a.natAbs b.natAbs ∧ m = y, ⟨_, a.natAbs, b.natAbs, rfl, rfl, rfl, rfl⟩, fun m σ' H' hW => ?_⟩
    obtain ⟨x, y, rfl, rfl, hg, rfl⟩ := hW
    walk_at "w"
    refine w_ifd (fun h1 => ?_) (fun h1 => ?_)
    · refine ⟨fun σ' H'' => ∃ x' y' : Nat, σ' = [some (.int a), some (.int b), some (.int (x' : Int)), some (.int (y' : Int))] ∧ H'' = H' ∧ Nat.gcd x' y' = Nat.gcd a.natAbs b.natAbs ∧ y' < m, fun σ' H'' hN => ?_, ?_⟩
      · obtain ⟨x', y', e1, e2, e3, e4⟩ := hN
        exact ⟨y', e4, x', y', e1, e2, e3, rfl⟩
      · walk_at "w"
        refine ⟨m, x % m, rfl, rfl, ?_, Nat.mod_lt _ (by omega)⟩
        rw [← hg, Nat.gcd_comm x m, Nat.gcd_rec m x, Nat.gcd_comm]
    · have y0 : m = 0 := by omega
      subst y0
      rw [Nat.gcd_zero_right] at hg
      subst hg
      walk_at "w"
      have sc2 : sg a b ≠ 0 ∧ (sg a b).natAbs.log2 < 9000 := ⟨sg_ne (a := a) h0, sg_log (a := a) h0 hl⟩
      refine w_ifd (fun h1 => ?_) (fun h1 => ?_)
      · have e : sg a b = -((Nat.gcd a.natAbs b.natAbs : Nat) : Int) := if_pos h1
        walk_at "w"
        rw [← e]
        walk_at "w"
        refine nt_mk fun p np => ?_
        exact q _ p (same_new np) np upd_same
      · have e : sg a b = ((Nat.gcd a.natAbs b.natAbs : Nat) : Int) := if_neg h1
        walk_at "w"
        rw [← e]
        walk_at "w"
        refine nt_mk fun p np => ?_
        exact q _ p (same_new np) np upd_same
end

def isI : PyData → Bool
  | .int _ => true
  | _ => false
theorem isI_n : isI .none = false := rfl
theorem isI_b {b : Bool} : isI (.bool b) = false := rfl
theorem isI_i {n : Int} : isI (.int n) = true := rfl
theorem isI_s {x : Str} : isI (.str x) = false := rfl
theorem isI_l {l : List PyData} : isI (.list l) = false := rfl
theorem isI_t {l : List PyData} : isI (.tuple l) = false := rfl
theorem isI_d {l : List (PyData × PyData)} : isI (.dict l) = false := rfl
def isB : PyData → Bool
  | .bool _ => true
  | _ => false
def isT : PyData → Bool
  | .tuple _ => true
  | _ => false
/-- a fraction in lowest terms -/
def isF : PyData → Bool
  | .tuple [.int a, .int b] => decide (1 ≤ b ∧ Nat.gcd a.natAbs b.natAbs = 1)
  | _ => false
theorem kd_int {K : PySem.W.Frag} (d : PyData) : PySem.W.kitOne K (.type (tyD d)) (.type "int") = some (isI d || isB d) := by
  cases d with
  | none => exact kit_ty (a := "NoneType") (b := "int") (r := false) (by decide +kernel)
  | bool z => exact kit_ty (a := "bool") (b := "int") (r := true) (by decide +kernel)
  | int z => exact kit_ty (a := "int") (b := "int") (r := true) (by decide +kernel)
  | str z => exact kit_ty (a := "str") (b := "int") (r := false) (by decide +kernel)
  | list z => exact kit_ty (a := "list") (b := "int") (r := false) (by decide +kernel)
  | tuple z => exact kit_ty (a := "tuple") (b := "int") (r := false) (by decide +kernel)
  | dict z => exact kit_ty (a := "dict") (b := "int") (r := false) (by decide +kernel)
theorem kd_bool {K : PySem.W.Frag} (d : PyData) : PySem.W.kitOne K (.type (tyD d)) (.type "bool") = some (isB d) := by
  cases d with
  | none => exact kit_ty (a := "NoneType") (b := "bool") (r := false) (by decide +kernel)
  | bool z => exact kit_ty (a := "bool") (b := "bool") (r := true) (by decide +kernel)
  | int z => exact kit_ty (a := "int") (b := "bool") (r := false) (by decide +kernel)
  | str z => exact kit_ty (a := "str") (b := "bool") (r := false) (by decide +kernel)
  | list z => exact kit_ty (a := "list") (b := "bool") (r := false) (by decide +kernel)
  | tuple z => exact kit_ty (a := "tuple") (b := "bool") (r := false) (by decide +kernel)
  | dict z => exact kit_ty (a := "dict") (b := "bool") (r := false) (by decide +kernel)
theorem kd_tuple {K : PySem.W.Frag} (d : PyData) : PySem.W.kitOne K (.type (tyD d)) (.type "tuple") = some (isT d) := by
  cases d with
  | none => exact kit_ty (a := "NoneType") (b := "tuple") (r := false) (by decide +kernel)
  | bool z => exact kit_ty (a := "bool") (b := "tuple") (r := false) (by decide +kernel)
  | int z => exact kit_ty (a := "int") (b := "tuple") (r := false) (by decide +kernel)
  | str z => exact kit_ty (a := "str") (b := "tuple") (r := false) (by decide +kernel)
  | list z => exact kit_ty (a := "list") (b := "tuple") (r := false) (by decide +kernel)
  | tuple z => exact kit_ty (a := "tuple") (b := "tuple") (r := true) (by decide +kernel)
  | dict z => exact kit_ty (a := "dict") (b := "tuple") (r := false) (by decide +kernel)
theorem w_isD {K : PySem.W.Frag} {sa : Addr} {H : Hp} {Q : VK} {x : V} {d : PyData} {u : String} {b : Bool} (r : Rp sa H x d) (k : PySem.W.kitOne K (.type (tyD d)) (.type u) = some b) (h : Q (.bl b) H) : rIsi K [x, .ty u] H Q := ⟨x, .ty u, _, .type u, b, rfl, .ty u, r.ty, k, h⟩
/-- the bottom of what may be a fraction is not too great -/
def Fit (d : PyData) : Prop := ∀ a b : Int, d = .tuple [.int a, .int b] → b.natAbs.log2 < 9000
def f_isI : List PyData → PyData
  | [d] => .bool (isI d)
  | _ => .none
def f_isF : List PyData → PyData
  | [d] => .bool (isF d)
  | _ => .none
abbrev sp_isI : Sp := Pf (fun ds => ∃ d, ds = [d]) f_isI
abbrev sp_isF : Sp := Pf (fun ds => ∃ d, ds = [d] ∧ Fit d) f_isF
section
variable {b : Bool} {sa : Addr} {H0 H : Hp} {acc : List V} {dacc : List PyData} {Q : VK} {E : XK} {x : V} {d : PyData}
theorem c_isI (W : Wd b sa H0 H acc dacc) (r : Rp sa H x d) (h : ∀ H', Wd b sa H0 H' acc dacc → Q (.bl (isI d)) H') : sp_isI [x] H Q E :=
  call_P (ds := [d]) W (.cons r .nil) ⟨d, rfl⟩ fun H' => v_bl fun W' => h H' (W'.sub (by cases W'.r; assumption))
theorem c_isF (W : Wd b sa H0 H acc dacc) (r : Rp sa H x d) (f : Fit d) (h : ∀ H', Wd b sa H0 H' acc dacc → Q (.bl (isF d)) H') : sp_isF [x] H Q E :=
  call_P (ds := [d]) W (.cons r .nil) ⟨d, rfl, f⟩ fun H' => v_bl fun W' => h H' (W'.sub (by cases W'.r; assumption))
end
theorem rp_isI {sa : Addr} {H : Hp} {x : V} {d : PyData} (r : Rp sa H x d) (h : isI d = true) : ∃ n, d = .int n ∧ x = .int n := by
  cases r with
  | int i => exact ⟨i, rfl, rfl⟩
  | _ => cases h
local macro_rules | `(tactic| walk_at "call1") => `(tactic| first
  | ((with_reducible show sp_isI _ _ _ _); (with_reducible apply c_isI); (focus assumption); (focus (walk_at "rp")); intro _ _)
  | dsimp only [isI_n, isI_b, isI_i, isI_s, isI_l, isI_t, isI_d])
section
variable {P : Program} {w : World} {K : PySem.W.Frag} {mg : Str → Option Value} {base : Heap}
theorem ok_law_is_integer {f : Addr} {fd : FuncData} (F : Fun K "_law_is_integer" "_law_is_integer" s_law_is_integer f fd) (nb : Nb mg) : FnOk P w K mg base CX0 1 f fd ["thing"] sp_isI := by
  have sc := sc_law_is_integer
  refine F.ok sc (fun vs H Q E h => ?_) (fun cdv A outer s H vs Q E hr h => ?_)
  · obtain ⟨sa, ds, t, r, ⟨d, rfl⟩, q⟩ := h
    exact r.lens
  · obtain ⟨sa, ds, t, r, ⟨d, rfl⟩, q⟩ := h
    obtain ⟨x, rfl, r0⟩ := rps1 r
    refine ⟨_, (pss_one (ps_ret (pe_and (pe_callB call_isi (by rfl) nb.isinstance (by decide +kernel) (pa_cons (pv 0) (pa_cons (pe_bltn (v := .ty "int") (u := .type "int") (by rfl) nb.int (by decide +kernel) rfl) pa_nil))) (pe_one (pe_not (pe_callB call_isi (by rfl) nb.isinstance (by decide +kernel) (pa_cons (pv 0) (pa_cons (pe_bltn (v := .ty "bool") (u := .type "bool") (by rfl) nb.bool (by decide +kernel) rfl) pa_nil)))))))), ?_⟩
    (rw [show start ["thing"] [x] = [some (x)] from rfl]; try dsimp only [cxOf])
    have fin : Q (.bl (isI d)) H := q H _ (Same.refl H) (.bl _)
    walk_at "w"
    refine w_isD r0 (kd_int d) ?_
    walk_at "w"
    cases d <;> first
      | exact iteF fin
      | (refine iteT ?_; walk_at "w"; refine w_isD r0 (kd_bool _) ?_; walk_at "w"; exact fin)
end

section
variable {P : Program} {w : World} {K : PySem.W.Frag} {mg : Str → Option Value} {base : Heap}
theorem ok_is_integer {f : Addr} {fd : FuncData} (F : Fun K "is_integer" "is_integer" s_is_integer f fd) (nb : Nb mg) : FnOk P w K mg base CX0 1 f fd ["thing"] sp_isI := by
  have sc := sc_is_integer
  refine F.ok sc (fun vs H Q E h => ?_) (fun cdv A outer s H vs Q E hr h => ?_)
  · obtain ⟨sa, ds, t, r, ⟨d, rfl⟩, q⟩ := h
    exact r.lens
  · obtain ⟨sa, ds, t, r, ⟨d, rfl⟩, q⟩ := h
    obtain ⟨x, rfl, r0⟩ := rps1 r
    refine ⟨_, (pss_one (ps_ret (pe_and (pe_callB call_isi (by rfl) nb.isinstance (by decide +kernel) (pa_cons (pv 0) (pa_cons (pe_bltn (v := .ty "int") (u := .type "int") (by rfl) nb.int (by decide +kernel) rfl) pa_nil))) (pe_one (pe_not (pe_callB call_isi (by rfl) nb.isinstance (by decide +kernel) (pa_cons (pv 0) (pa_cons (pe_bltn (v := .ty "bool") (u := .type "bool") (by rfl) nb.bool (by decide +kernel) rfl) pa_nil)))))))), ?_⟩
    (rw [show start ["thing"] [x] = [some (x)] from rfl]; try dsimp only [cxOf])
    have fin : Q (.bl (isI d)) H := q H _ (Same.refl H) (.bl _)
    walk_at "w"
    refine w_isD r0 (kd_int d) ?_
    walk_at "w"
    cases d <;> first
      | exact iteF fin
      | (refine iteT ?_; walk_at "w"; refine w_isD r0 (kd_bool _) ?_; walk_at "w"; exact fin)
end

/-! ### fractions as data -/
abbrev Fr (a b : Int) : PyData := .tuple [.int a, .int b]
abbrev rt (x y : Int) : PyData := .tuple [.int (nt x y), .int (bN x y)]
/-- if it is a fraction, top and bottom are below 2 ^ 2000 -/
def Sz (d : PyData) : Prop := ∀ a b : Int, d = Fr a b → Bt 2000 a ∧ Bt 2000 b
theorem Sz.fit {d : PyData} (h : Sz d) : Fit d := fun a b e => (h a b e).2.log (by decide)
theorem sz_fr {a b : Int} (ha : Bt 2000 a) (hb : Bt 2000 b) : Sz (Fr a b) := fun x y e => by
  injection e with e
  injection e with e1 e2
  injection e2 with e2 e3
  injection e1 with e1
  injection e2 with e2
  subst e1 e2
  exact ⟨ha, hb⟩
theorem isF_inv {d : PyData} (h : isF d = true) : ∃ a b, d = Fr a b ∧ Low a b := by
  unfold isF at h
  split at h
  · next a b =>
    have z := of_decide_eq_true h
    exact ⟨a, b, rfl, z.1, z.2⟩
  · cases h
theorem isF_fr {a b : Int} (l : Low a b) : isF (Fr a b) = true := decide_eq_true ⟨l.pos, l.one⟩
theorem isF_rt {x y : Int} (h : y ≠ 0) : isF (rt x y) = true := isF_fr (nt_low h)
/-- two things, of which something is asked -/
def pr2 (S : PyData → Prop) (ds : List PyData) : Prop := ∃ x y, ds = [x, y] ∧ S x ∧ S y
/-- two fractions -/
def prF (X : Int → Int → Int → Int → Prop) (ds : List PyData) : Prop := ∃ a b c d, ds = [Fr a b, Fr c d] ∧ (Low a b ∧ Low c d) ∧ (Bt 2000 a ∧ Bt 2000 b ∧ Bt 2000 c ∧ Bt 2000 d) ∧ X a b c d
def bad2 : List PyData → Bool
  | [x, y] => !(isF x && isF y)
  | _ => true
def badD : List PyData → Bool
  | [x, .tuple [.int c, .int d]] => !(isF x && isF (Fr c d)) || eqB c 0
  | _ => true
def f_plus : List PyData → PyData
  | [.tuple [.int a, .int b], .tuple [.int c, .int d]] => rt (a * d + c * b) (b * d)
  | _ => .none
def f_minus : List PyData → PyData
  | [.tuple [.int a, .int b], .tuple [.int c, .int d]] => rt (a * d - c * b) (b * d)
  | _ => .none
def f_times : List PyData → PyData
  | [.tuple [.int a, .int b], .tuple [.int c, .int d]] => rt (a * c) (b * d)
  | _ => .none
def f_divided : List PyData → PyData
  | [.tuple [.int a, .int b], .tuple [.int c, .int d]] => rt (a * d) (b * c)
  | _ => .none
/-- the sign of a gap -/
def sgn (g : Int) : Int := if g = 0 then 0 else if 0 < g then 1 else -1
def f_sign : List PyData → PyData
  | [.tuple [.int a, .int b], .tuple [.int c, .int d]] => .int (sgn (a * d - c * b))
  | _ => .none
def f_tupof : List PyData → PyData
  | [.tuple l, .int n] => .bool (eqB (l.length : Int) n)
  | [_, .int _] => .bool false
  | _ => .none
abbrev sp_tupof : Sp := Pf (fun ds => ∃ d n, ds = [d, .int n]) f_tupof
abbrev sp_isFp : Sp := Pf (fun ds => ∃ d, ds = [d]) f_isF
abbrev sp_plus : Sp := Pf (prF fun _ _ _ _ => True) f_plus
abbrev sp_minus : Sp := Pf (prF fun _ _ _ _ => True) f_minus
abbrev sp_times : Sp := Pf (prF fun _ _ _ _ => True) f_times
abbrev sp_divided : Sp := Pf (prF fun _ _ c _ => c ≠ 0) f_divided
abbrev sp_two (C : Addr) : Sp := Px C (pr2 fun _ => True) bad2 fun _ => .none
abbrev sp_frac_add (C : Addr) : Sp := Px C (pr2 Sz) bad2 f_plus
abbrev sp_frac_sub (C : Addr) : Sp := Px C (pr2 Sz) bad2 f_minus
abbrev sp_frac_mul (C : Addr) : Sp := Px C (pr2 Sz) bad2 f_times
abbrev sp_frac_div (C : Addr) : Sp := Px C (pr2 Sz) badD f_divided
abbrev sp_frac_sign (C : Addr) : Sp := Px C (pr2 Sz) bad2 f_sign
theorem bad2_inv {x y : PyData} (h : bad2 [x, y] = false) : ∃ a b c d, x = Fr a b ∧ y = Fr c d ∧ Low a b ∧ Low c d := by
  have z : (isF x && isF y) = true := by
    have h : (!(isF x && isF y)) = false := h
    cases e : (isF x && isF y) with
    | true => rfl
    | false =>
      rw [e] at h
      cases h
  rw [Bool.and_eq_true] at z
  obtain ⟨a, b, rfl, l1⟩ := isF_inv z.1
  obtain ⟨c, d, rfl, l2⟩ := isF_inv z.2
  exact ⟨a, b, c, d, rfl, rfl, l1, l2⟩
section
variable {b : Bool} {sa : Addr} {H0 H : Hp} {acc : List V} {dacc : List PyData} {Q : VK} {E : XK} {x : V} {d : PyData}
theorem c_isFp (W : Wd b sa H0 H acc dacc) (r : Rp sa H x d) (h : ∀ H', Wd b sa H0 H' acc dacc → Q (.bl (isF d)) H') : sp_isFp [x] H Q E :=
  call_P (ds := [d]) W (.cons r .nil) ⟨d, rfl⟩ fun H' => v_bl fun W' => h H' (W'.sub (by cases W'.r; assumption))
theorem c_tupof {n : Int} (W : Wd b sa H0 H acc dacc) (r : Rp sa H x d) (h : ∀ H' k, f_tupof [d, .int n] = .bool k → Wd b sa H0 H' acc dacc → Q (.bl k) H') : sp_tupof [x, .int n] H Q E :=
  call_P (ds := [d, .int n]) W (.cons r (.cons (.int n) .nil)) ⟨d, n, rfl⟩ fun H' => by
    have e : ∃ k, f_tupof [d, .int n] = .bool k := by cases d <;> exact ⟨_, rfl⟩
    obtain ⟨k, e⟩ := e
    rw [e]
    exact v_bl fun W' => h H' k e (W'.sub (by cases W'.r; assumption))
end
local macro_rules | `(tactic| walk_at "call1") => `(tactic| first
  | ((with_reducible show sp_isFp _ _ _ _); (with_reducible apply c_isFp); (focus assumption); (focus (walk_at "rp")); intro _ _)
  | ((with_reducible show sp_low _ _ _ _); (with_reducible apply c_low); (focus assumption); (focus (walk_at "ne0")); (focus (exact Bt.log (by walk_at "bt") (by decide))); intro _ _ _))
local macro_rules | `(tactic| walk_at "ne0") => `(tactic| first | assumption | omega | exact Int.ne_of_gt (by assumption))
section
variable {P : Program} {w : World} {K : PySem.W.Frag} {mg : Str → Option Value} {base : Heap}
theorem ok_is_tuple_of {f : Addr} {fd : FuncData} (F : Fun K "is_tuple_of" "is_tuple_of" s_is_tuple_of f fd) (nb : Nb mg) : FnOk P w K mg base CX0 1 f fd ["thing", "many"] sp_tupof := by
  have sc := sc_is_tuple_of
  refine F.ok sc (fun vs H Q E h => ?_) (fun cdv A outer s H vs Q E hr h => ?_)
  · obtain ⟨sa, ds, t, r, ⟨d, n, rfl⟩, q⟩ := h
    exact r.lens
  · obtain ⟨sa, ds, t, r, ⟨d, n, rfl⟩, q⟩ := h
    obtain ⟨x, y, rfl, r0, r1⟩ := rps2 r
    obtain rfl : y = .int n := by cases r1; rfl
    refine ⟨_, (pss_one (ps_ret (pe_and (pe_callB call_isi (by rfl) nb.isinstance (by decide +kernel) (pa_cons (pv 0) (pa_cons (pe_bltn (v := .ty "tuple") (u := .type "tuple") (by rfl) nb.tuple (by decide +kernel) rfl) pa_nil))) (pe_one (pe_cmpR op_eq (pe_callB cq_len (by rfl) nb.len (by decide +kernel) (pa_cons (pv 0) pa_nil)) (pv 1) (nomark _)))))), ?_⟩
    (rw [show start ["thing", "many"] [x, .int n] = [some (x), some (.int n)] from rfl]; try dsimp only [cxOf])
    have W := wd_start t (.cons r0 .nil)
    walk_at "w"
    refine w_isD r0 (kd_tuple d) ?_
    walk_at "w"
    cases d with
    | tuple l =>
      obtain ⟨p, rfl⟩ : ∃ p, x = .ref p := by
        cases r0
        exact ⟨_, rfl⟩
      refine iteT ?_
      walk_at "w"
      exact q H _ (Same.refl H) (.bl _)
    | _ => exact iteF (q H _ (Same.refl H) (.bl _))
theorem ok_is_fraction {f : Addr} {fd : FuncData} (F : Fun K "is_fraction" "is_fraction" s_is_fraction f fd) (nb : Nb mg) (mi_gcd : mg "gcd" = some (.builtin "math.gcd")) (d_is_tuple_of : Df P w K mg base CX0 1 "is_tuple_of" ["thing", "many"] sp_tupof) (d_is_integer : Df P w K mg base CX0 1 "is_integer" ["thing"] sp_isI) : FnOk P w K mg base CX0 2 f fd ["thing"] sp_isFp := by
  have sc := sc_is_fraction
  refine F.ok sc (fun vs H Q E h => ?_) (fun cdv A outer s H vs Q E hr h => ?_)
  · obtain ⟨sa, ds, t, r, ⟨d, rfl⟩, q⟩ := h
    exact r.lens
  · obtain ⟨sa, ds, t, r, ⟨d, rfl⟩, q⟩ := h
    obtain ⟨x, rfl, r0⟩ := rps1 r
    refine ⟨_, (pss_cons (ps_if (pt_not (pt_val (pe_call d_is_tuple_of.F (hr.mono (by first | decide | omega)) (by rfl) d_is_tuple_of.g d_is_tuple_of.kp d_is_tuple_of.b .nil pass0 (pa_cons (pv 0) (pa_cons pe_int pa_nil))))) (pss_one (ps_ret pe_bl)) pss_nil)
    (pss_cons (ps_asg (pv 0) (pg_tup (n := 2) (by rfl) (pgs_cons (pg_name (i := 1) sc.nd rfl (.inl rfl)) (pgs_cons (pg_name (i := 2) sc.nd rfl (.inl rfl)) pgs_nil))))
    (pss_cons (ps_if (PW.pt (pw_or (pt_not (pt_val (pe_call d_is_integer.F (hr.mono (by first | decide | omega)) (by rfl) d_is_integer.g d_is_integer.kp d_is_integer.b .nil pass0 (pa_cons (pv 1) pa_nil)))) (pw_or (pt_not (pt_val (pe_call d_is_integer.F (hr.mono (by first | decide | omega)) (by rfl) d_is_integer.g d_is_integer.kp d_is_integer.b .nil pass0 (pa_cons (pv 2) pa_nil)))) (pw_or1 (pt_cmpR op_lt (pv 2) pe_int (nomark _)))))) (pss_one (ps_ret pe_bl)) pss_nil)
    (pss_one (ps_ret (pe_cmpR op_eq (pe_callBfun cr_gcd (by rfl) mi_gcd (pa_cons (pv 1) (pa_cons (pv 2) pa_nil))) pe_int (nomark _))))))), ?_⟩
    (rw [show start ["thing", "top", "bottom"] [x] = [some (x), none, none] from rfl]; try dsimp only [cxOf])
    have W := wd_start t (.cons r0 .nil)
    have fin : ∀ H', Same H H' → Q (.bl (isF d)) H' := fun H' s => q H' _ s (.bl _)
    walk_at "w"
    refine c_tupof W r0 fun H1 k hk W1 => ?_
    walk_at "w"
    cases k with
    | false =>
      walk_at "w"
      have e : isF d = false := by
        unfold isF
        split
        · exact absurd (show eqB 2 2 = false from PyData.bool.inj hk) (by rw [eqT rfl]; exact Bool.noConfusion)
        · rfl
      rw [e] at fin
      exact fin _ (W1.same rfl)
    | true =>
      obtain ⟨d0, d1, rfl⟩ : ∃ d0 d1, d = .tuple [d0, d1] := by
        cases d with
        | tuple l =>
          have e : (l.length : Int) = 2 := eqB_t (PyData.bool.inj hk)
          match l, e with
          | [d0, d1], _ => exact ⟨d0, d1, rfl⟩
        | _ => cases hk
      obtain ⟨p, rfl⟩ : ∃ p, x = .ref p := by
        cases r0
        exact ⟨_, rfl⟩
      walk_at "w"
      rename_i x0 x1 W2 _ W3
      refine w_if (fun h3 => ?_) (fun h3 => ?_)
      · walk_at "w"
        have e : isF (.tuple [d0, d1]) = false := by cases d0 <;> first | rfl | cases h3
        rw [e] at fin
        exact fin _ (W3.same rfl)
      · have e0 : isI d0 = true := by cases e : isI d0 <;> rw [e] at h3 <;> first | rfl | cases h3
        obtain ⟨a, rfl, rfl⟩ := rp_isI (W3.get (.there .here)) e0
        walk_at "w"
        rename_i W4
        refine w_if (fun h4 => ?_) (fun h4 => ?_)
        · walk_at "w"
          have e : isF (.tuple [.int a, d1]) = false := by cases d1 <;> first | rfl | cases h4
          rw [e] at fin
          exact fin _ (W4.same rfl)
        · have e1 : isI d1 = true := by cases e : isI d1 <;> rw [e] at h4 <;> first | rfl | cases h4
          obtain ⟨b, rfl, rfl⟩ := rp_isI (W4.get .here) e1
          walk_at "w"
          refine w_ifd (fun h5 => ?_) (fun h5 => ?_)
          · walk_at "w"
            have e : isF (.tuple [.int a, .int b]) = false := decide_eq_false fun z => by omega
            rw [e] at fin
            exact fin _ (W4.same rfl)
          · walk_at "w"
            have e : isF (.tuple [.int a, .int b]) = eqB ((Nat.gcd a.natAbs b.natAbs : Nat) : Int) 1 := by
              by_cases g : Nat.gcd a.natAbs b.natAbs = 1
              · rw [eqT (show ((Nat.gcd a.natAbs b.natAbs : Nat) : Int) = 1 by omega)]
                exact decide_eq_true ⟨by omega, g⟩
              · rw [eqF (show ¬ ((Nat.gcd a.natAbs b.natAbs : Nat) : Int) = 1 by omega)]
                exact decide_eq_false fun z => g z.2
            rw [← e]
            exact fin _ (W4.same rfl)
end

/-! ### lists that change -/
theorem w_bm {K : PySem.W.Frag} {T : String} {r : V → List V → Hp → VK → Prop} {to : TE} {t : TA} {σ : L2.St} {H : Hp} {Q : VK} (h : to σ H fun x H1 => tyV K T x H1 ∧ t σ H1 fun xs H2 => r x xs H2 Q) : tBM K T r to t σ H Q := h
theorem tyV_lst {K : PySem.W.Frag} {H : Hp} {l : Addr} {xs : List V} (e : H l = some (.lst xs)) : tyV K "list" (.ref l) H := .inl ⟨rfl, xs, SqL.of e⟩
theorem ap_lst {H : Hp} {l : Addr} {xs : List V} {y : V} {Q : VK} (e : H l = some (.lst xs)) (hl : xs.length ≤ 900) (h : Q .non (upd H l (.lst (xs ++ [y])))) : rAppend (.ref l) [y] H Q := ⟨l, xs, y, rfl, rfl, e, small1000 (Nat.le_trans hl (by decide)), h⟩
theorem w_sl {r : V → Option Int → Option Int → Hp → VK → Prop} {te : TE} {tl th : TO} {σ : L2.St} {H : Hp} {Q : VK} (h : te σ H fun x H1 => tl σ H1 fun l H2 => th σ H2 fun u H3 => r x l u H3 Q) : tSl r te tl th σ H Q := h
theorem w_part {t : TE} {σ : L2.St} {H : Hp} {Q : Option Int → Hp → Prop} (h : t σ H fun x H1 => ∃ i, x = .int i ∧ Q (some i) H1) : tPart t σ H Q := h
theorem w_npart {σ : L2.St} {H : Hp} {Q : Option Int → Hp → Prop} (h : Q none H) : tNoPart σ H Q := h
theorem Rps.take {sa : Addr} {H : Hp} : ∀ (n : Nat) {vs : List V} {ds : List PyData}, Rps sa H vs ds → Rps sa H (vs.take n) (ds.take n)
  | 0, _, _, _ => .nil
  | _ + 1, _, _, .nil => .nil
  | n + 1, _, _, .cons h t => .cons h (Rps.take n t)
theorem Rps.drop {sa : Addr} {H : Hp} : ∀ (n : Nat) {vs : List V} {ds : List PyData}, Rps sa H vs ds → Rps sa H (vs.drop n) (ds.drop n)
  | 0, _, _, h => h
  | _ + 1, _, _, .nil => .nil
  | n + 1, _, _, .cons _ t => Rps.drop n t
theorem cut_lo {xs : List V} {i : Int} {k : Nat} (e : i = (k : Int)) : cutV xs none (some i) = xs.take k := by
  subst e
  unfold cutV
  rw [HT.sIx_none, HT.sIx_nat]
  rw [Nat.sub_zero, List.drop_zero]
  rcases Nat.le_total k xs.length with z | z
  · rw [Nat.min_eq_left z]
  · rw [Nat.min_eq_right z, List.take_of_length_le z, List.take_of_length_le (Nat.le_refl _)]
theorem cut_hi {xs : List V} {i : Int} {k : Nat} (e : i = (k : Int)) : cutV xs (some i) none = xs.drop k := by
  subst e
  unfold cutV
  rw [HT.sIx_none, HT.sIx_nat]
  rcases Nat.le_total k xs.length with z | z
  · rw [Nat.min_eq_left z]
    exact List.take_of_length_le (by rw [List.length_drop]; omega)
  · rw [Nat.min_eq_right z, Nat.sub_self, List.drop_of_length_le z, List.take_zero]
/-- a tuple is no list -/
theorem rp_tl {sa : Addr} {H : Hp} {v : V} {ds es : List PyData} (h : Rp sa H v (.tuple ds)) (g : Rp sa H v (.list es)) : False := by
  cases h with
  | tup n e r =>
    cases g with
    | lst n2 e2 r2 =>
      rw [e] at e2
      injection e2 with e2
      cases e2
theorem rp_ti {sa : Addr} {H : Hp} {v : V} {ds : List PyData} {i : Int} (h : Rp sa H v (.tuple ds)) (g : Rp sa H v (.int i)) : False := by
  cases h
  cases g
theorem rp_li {sa : Addr} {H : Hp} {v : V} {ds : List PyData} {i : Int} (h : Rp sa H v (.list ds)) (g : Rp sa H v (.int i)) : False := by
  cases h
  cases g
section
variable {b : Bool} {sa : Addr} {H0 H : Hp} {acc : List V} {dacc : List PyData} {Q : VK}
theorem sl_lo {K : PySem.W.Frag} {p : Addr} {ds : List PyData} {i : Int} {k : Nat} (W : Wd b sa H0 H acc dacc) (m : In2 (.ref p) (.list ds) acc dacc) (e : i = (k : Int)) (h : ∀ H' q, Wd b sa H0 H' (.ref q :: acc) (.list (ds.take k) :: dacc) → Q (.ref q) H') : rSlL K (.ref p) none (some i) H Q := by
  cases W.get m with
  | @lst _ xs _ n hx r =>
    refine ⟨p, xs, rfl, SqL.of hx, fun q nq => ?_⟩
    rw [cut_lo e]
    exact h _ q ((W.go (same_new nq)).put (.lst (W.ne nq) upd_same ((r.take k).but (same_new nq).but)))
theorem sl_hi {K : PySem.W.Frag} {p : Addr} {ds : List PyData} {i : Int} {k : Nat} (W : Wd b sa H0 H acc dacc) (m : In2 (.ref p) (.list ds) acc dacc) (e : i = (k : Int)) (h : ∀ H' q, Wd b sa H0 H' (.ref q :: acc) (.list (ds.drop k) :: dacc) → Q (.ref q) H') : rSlL K (.ref p) (some i) none H Q := by
  cases W.get m with
  | @lst _ xs _ n hx r =>
    refine ⟨p, xs, rfl, SqL.of hx, fun q nq => ?_⟩
    rw [cut_hi e]
    exact h _ q ((W.go (same_new nq)).put (.lst (W.ne nq) upd_same ((r.drop k).but (same_new nq).but)))
theorem cat_le {p q : Addr} {ds es : List PyData} (W : Wd b sa H0 H acc dacc) (m : In2 (.ref p) (.list ds) acc dacc) (n : In2 (.ref q) (.list es) acc dacc) (hl : ds.length + es.length ≤ 1000)
    (h : ∀ H' p, Wd b sa H0 H' (.ref p :: acc) (.list (ds ++ es) :: dacc) → Q (.ref p) H') : rCat (.ref p) (.ref q) H Q := w_catL W m n (Nat.ble_eq_true_of_le hl) h
end
theorem tups_app {ds es : List PyData} (h : tupOnlys ds = true) (g : tupOnlys es = true) : tupOnlys (ds ++ es) = true := by
  induction ds with
  | nil => exact g
  | cons d ds ih =>
    rw [List.cons_append]
    unfold tupOnlys at h ⊢
    rw [Bool.and_eq_true] at h ⊢
    exact ⟨h.1, ih h.2⟩
theorem tups_set {ds : List PyData} {d : PyData} (i : Nat) (h : tupOnlys ds = true) (g : tupOnly d = true) : tupOnlys (ds.set i d) = true := by
  induction ds generalizing i with
  | nil => exact h
  | cons e ds ih =>
    unfold tupOnlys at h
    rw [Bool.and_eq_true] at h
    cases i with
    | zero =>
      rw [List.set_cons_zero]
      unfold tupOnlys
      rw [Bool.and_eq_true]
      exact ⟨g, h.2⟩
    | succ i =>
      rw [List.set_cons_succ]
      unfold tupOnlys
      rw [Bool.and_eq_true]
      exact ⟨h.1, ih i h.2⟩
theorem tups_ints (nums : List Nat) : tupOnlys (nums.map fun (n : Nat) => PyData.int (n : Int)) = true := tupOnlys_all fun d h => by
  obtain ⟨n, _, rfl⟩ := List.mem_map.mp h
  rfl
/-- ints stand in no place of a list of references -/
theorem ints_ne {sa : Addr} {H : Hp} {p q : Addr} {x : V} {ds : List PyData} {i : Int} {es : List PyData} {vs : List V} (r : Rp sa H (.ref p) (.list (.int i :: es))) (hq : H q = some (.lst (x :: vs))) (hx : Rp sa H x (.list ds)) : p ≠ q := fun z => by
  cases r with
  | lst n h r =>
    rw [z, hq] at h
    injection h with h
    injection h with h
    cases r with
    | cons h1 t =>
      injection h with h h'
      subst h
      exact rp_li hx h1
theorem n_lstN {b : Bool} {sa : Addr} {H0 H : Hp} {acc : List V} {dacc : List PyData} {Q : VK} {xs : List V} {ds : List PyData} (W : Wd b sa H0 H acc dacc) (r : Rps sa H xs ds) (hl : xs.length.ble 1000 = true) (h : ∀ H' p, p ≠ sa → H0 p = none → Wd b sa H0 H' (.ref p :: acc) (.list ds :: dacc) → Q (.ref p) H') : NL Q xs H :=
  ⟨Nat.le_of_lt (small1000 (Nat.le_of_ble_eq_true hl)), fun p np => h _ p (W.ne np) (by
    cases e : H0 p with
    | none => rfl
    | some o =>
      have := W.but p o (W.ne np) e
      rw [np] at this
      cases this) ((W.go (same_new np)).put (.lst (W.ne np) upd_same (r.but (same_new np).but)))⟩
/-- the stream stands where two lists of other things change -/
theorem stm_fr {H H' : Hp} {a C Pl : Addr} (s : Stm H a) (fr : ∀ q o, q ≠ C → q ≠ Pl → H q = some o → H' q = some o) (hC : C ≠ a) (hP : Pl ≠ a) (gC : ∃ (cs : List V) (z : Nat) (v : V), H C = some (.lst cs) ∧ cs[z]? = some v ∧ ∀ i, v ≠ .int i) (gP : ∃ (cs : List V) (z : Nat) (v : V), H Pl = some (.lst cs) ∧ cs[z]? = some v ∧ ∀ i, v ≠ .int i) : Stm H' a := by
  obtain ⟨c, p, q, n, ns, h1, h2, h3, h4, h5⟩ := s
  have ne : ∀ {X : Addr}, (∃ (cs : List V) (z : Nat) (v : V), H X = some (.lst cs) ∧ cs[z]? = some v ∧ ∀ i, v ≠ .int i) → c ≠ X := fun ⟨cs, z, v, e1, e2, e3⟩ e => by
    rw [← e, h4] at e1
    injection e1 with e1
    injection e1 with e1
    rw [← e1, List.getElem?_map] at e2
    cases e4 : ns[z]? with
    | none => rw [e4] at e2; cases e2
    | some i => rw [e4] at e2; cases e2; exact e3 i rfl
  exact ⟨c, p, q, n, ns, fr a _ (Ne.symm hC) (Ne.symm hP) h1, h2, h3, fr c _ (ne gC) (ne gP) h4, h5⟩
theorem mp_at {b : Bool} {a p : Addr} {H0 H : Hp} {vs : List V} {ds : List PyData} {pts : List PyData} (W : Wd b a H0 H vs ds) (m : In2 (.ref p) (.list pts) vs ds) : ∃ xs, H p = some (.lst xs) ∧ Rps a H xs pts := by
  cases W.get m with
  | lst _ h r => exact ⟨_, h, r⟩

/-! ### comprehensions whose items draw nothing -/
theorem w_lc {wi : TI} {g : TG} {tt : TT} {te : TE} {vs : List Nat} {σ : L2.St} {H : Hp} {Q : VK} (h : wi σ H fun J H1 => tLc (fun _ H' R => R J H') g tt te vs σ H1 Q) : tLc wi g tt te vs σ H Q := h
theorem same_updN {H H' : Hp} {p : Addr} {o : HO} (s : Same H H') (h : H p = none) : Same H (upd H' p o) := fun b u e => by
  rw [upd_ne (ne_of_none e h)]
  exact s b u e
/-- what a comprehension has made so far -/
def LcP (sa : Addr) (H : Hp) (D : Addr) (R : Nat → PyData → Prop) (i : Nat) (H' : Hp) : Prop := Same H H' ∧ ∃ ys es, H' D = some (.lst ys) ∧ Rps sa H' ys es ∧ es.length = i ∧ ∀ (k : Nat) (d : PyData), es[k]? = some d → R k d
theorem lcP0 {sa D : Addr} {H : Hp} {R : Nat → PyData → Prop} (nD : H D = none) : LcP sa H D R 0 (upd H D (.lst [])) := ⟨same_new nD, [], [], upd_same, .nil, rfl, fun k d e => by simp at e⟩
theorem lcPS {sa D : Addr} {H H4 : Hp} {R : Nat → PyData → Prop} (hR : ∀ i d, R i d → tupOnly d = true) {i : Nat} {y : V} {dy : PyData} {ys : List V} {es : List PyData} (nD : H D = none) (s : Same H H4) (h1 : H4 D = some (.lst ys)) (r : Rps sa H4 ys es) (hl : es.length = i) (ha : ∀ (k : Nat) (d : PyData), es[k]? = some d → R k d)
    (ry : Rp sa H4 y dy) (hy : R i dy) : LcP sa H D R (i + 1) (upd H4 D (.lst (ys ++ [y]))) := by
  have all : tupOnlys es = true := tupOnlys_all fun d hd => by
    obtain ⟨k, hk, e⟩ := List.getElem_of_mem hd
    exact hR k d (ha k d (by rw [List.getElem?_eq_getElem hk, e]))
  refine ⟨same_updN s nD, ys ++ [y], es ++ [dy], upd_same, (r.stay h1 all).app (.cons (ry.stay h1 (hR _ _ hy)) .nil), by rw [List.length_append, hl]; rfl, fun k d e => ?_⟩
  rcases Nat.lt_trichotomy k es.length with z | z | z
  · rw [List.getElem?_append_left z] at e
    exact ha k d e
  · rw [z, List.getElem?_append_right (Nat.le_refl _), Nat.sub_self] at e
    injection e with e
    subst e
    rw [z, hl]
    exact hy
  · rw [List.getElem?_eq_none (by rw [List.length_append]; simp; omega)] at e
    cases e
section
variable {b : Bool} {sa : Addr} {H0 H : Hp} {acc : List V} {dacc : List PyData} {Q : VK} {K : PySem.W.Frag} {j : Nat} {te : TE} {vs : List Nat} {σ : L2.St}
theorem lcp_done {R : Nat → PyData → Prop} {n : Nat} {D : Addr} {H' : Hp} (W : Wd b sa H0 H acc dacc) (nD : H D = none) (h : LcP sa H D R n H')
    (done : ∀ H' D es, Wd b sa H0 H' (.ref D :: acc) (.list es :: dacc) → es.length = n → (∀ (k : Nat) (d : PyData), es[k]? = some d → R k d) → Q (.ref D) H') : Q (.ref D) H' := by
  obtain ⟨s, ys, es, h1, r, hl, ha⟩ := h
  exact done H' D es ((W.go s).put (.lst (W.ne nD) h1 r)) hl ha
theorem lcp_list {p : Addr} {ds : List PyData} (W : Wd b sa H0 H acc dacc) (m : In2 (.ref p) (.list ds) acc dacc) (hl : ds.length ≤ 1000) (R : Nat → PyData → Prop) (hR : ∀ i d, R i d → tupOnly d = true) (hw : ∀ x, wipe ((wipe σ vs).set j (some x)) vs = wipe σ vs)
    (step : ∀ (i : Nat) x d H' Q', ds[i]? = some d → Wd false sa H' H' (x :: acc) (d :: dacc) → (∀ y H4 dy, Same H' H4 → Rp sa H4 y dy → R i dy → Q' y H4) → te ((wipe σ vs).set j (some x)) H' Q')
    (done : ∀ H' D es, Wd b sa H0 H' (.ref D :: acc) (.list es :: dacc) → es.length = ds.length → (∀ (k : Nat) (d : PyData), es[k]? = some d → R k d) → Q (.ref D) H') : tLc (fun _ H' R => R (Itl K p) H') (gName j) tYes te vs σ H Q := by
  cases W.get m with
  | @lst _ xs _ n hx r =>
  intro D nD
  have ll := r.lens
  refine lc_list (xs := xs) (LcP sa H D R) (lcP0 nD) (fun i H' hi hP => SqL.of (hP.1 _ _ hx)) (fun i x H' hi hP => ?_) (fun H' hP => ?_)
  · obtain ⟨s, ys, es, h1, r2, h3, h4⟩ := hP
    have hi2 : i < ds.length := by
      rw [← ll]
      exact (List.getElem?_eq_some_iff.mp hi).1
    obtain ⟨v, e1, r1⟩ := rps_at r (List.getElem?_eq_getElem hi2)
    rw [hi] at e1
    injection e1 with e1
    subst e1
    refine ⟨hw x, lcYes ?_⟩
    refine step i x _ H' _ (List.getElem?_eq_getElem hi2) ⟨But.refl _ _, fun _ => Same.refl _, fun e => (nomatch e), (let ⟨o, e⟩ := W.tr; ⟨o, s _ _ e⟩), .cons (r1.same s) (W.r.but s.but)⟩ fun y H4 dy s4 ry hy => ?_
    have e4 := s4 _ _ h1
    exact ⟨ys, e4, by rw [r2.lens, h3]; exact small1000 (by omega), lcPS hR nD (s.trans s4) e4 (r2.but s4.but) h3 h4 ry hy⟩
  · rw [ll] at hP
    exact lcp_done W nD hP done
theorem lcp_tup {p : Addr} {ds : List PyData} (W : Wd b sa H0 H acc dacc) (m : In2 (.ref p) (.tuple ds) acc dacc) (hl : ds.length ≤ 1000) (R : Nat → PyData → Prop) (hR : ∀ i d, R i d → tupOnly d = true) (hw : ∀ x, wipe ((wipe σ vs).set j (some x)) vs = wipe σ vs)
    (step : ∀ (i : Nat) x d H' Q', ds[i]? = some d → Wd false sa H' H' (x :: acc) (d :: dacc) → (∀ y H4 dy, Same H' H4 → Rp sa H4 y dy → R i dy → Q' y H4) → te ((wipe σ vs).set j (some x)) H' Q')
    (done : ∀ H' D es, Wd b sa H0 H' (.ref D :: acc) (.list es :: dacc) → es.length = ds.length → (∀ (k : Nat) (d : PyData), es[k]? = some d → R k d) → Q (.ref D) H') : tLc (fun _ H' R => R (Itt K p) H') (gName j) tYes te vs σ H Q := by
  cases W.get m with
  | @tup _ xs _ n hx r =>
  intro D nD
  have ll := r.lens
  refine lc_tup (xs := xs) (LcP sa H D R) (lcP0 nD) (fun i H' hi hP => SqT.of (hP.1 _ _ hx)) (fun i x H' hi hP => ?_) (fun H' hP => ?_)
  · obtain ⟨s, ys, es, h1, r2, h3, h4⟩ := hP
    have hi2 : i < ds.length := by
      rw [← ll]
      exact (List.getElem?_eq_some_iff.mp hi).1
    obtain ⟨v, e1, r1⟩ := rps_at r (List.getElem?_eq_getElem hi2)
    rw [hi] at e1
    injection e1 with e1
    subst e1
    refine ⟨hw x, lcYes ?_⟩
    refine step i x _ H' _ (List.getElem?_eq_getElem hi2) ⟨But.refl _ _, fun _ => Same.refl _, fun e => (nomatch e), (let ⟨o, e⟩ := W.tr; ⟨o, s _ _ e⟩), .cons (r1.same s) (W.r.but s.but)⟩ fun y H4 dy s4 ry hy => ?_
    have e4 := s4 _ _ h1
    exact ⟨ys, e4, by rw [r2.lens, h3]; exact small1000 (by omega), lcPS hR nD (s.trans s4) e4 (r2.but s4.but) h3 h4 ry hy⟩
  · rw [ll] at hP
    exact lcp_done W nD hP done
theorem lcp_range {n : Nat} (W : Wd b sa H0 H acc dacc) (hl : n ≤ 1000) (R : Nat → PyData → Prop) (hR : ∀ i d, R i d → tupOnly d = true) (hw : ∀ x, wipe ((wipe σ vs).set j (some x)) vs = wipe σ vs)
    (step : ∀ (i : Nat) H' Q', i < n → Wd false sa H' H' acc dacc → (∀ y H4 dy, Same H' H4 → Rp sa H4 y dy → R i dy → Q' y H4) → te ((wipe σ vs).set j (some (.int (0 + (i : Int))))) H' Q')
    (done : ∀ H' D es, Wd b sa H0 H' (.ref D :: acc) (.list es :: dacc) → es.length = n → (∀ (k : Nat) (d : PyData), es[k]? = some d → R k d) → Q (.ref D) H') : tLc (fun _ H' R => R (Itr 0 n) H') (gName j) tYes te vs σ H Q := by
  intro D nD
  refine lc_range (lo := 0) (n := n) (LcP sa H D R) (lcP0 nD) (fun i H' hi hP => ?_) (fun H' hP => ?_)
  · obtain ⟨s, ys, es, h1, r2, h3, h4⟩ := hP
    refine ⟨hw _, lcYes ?_⟩
    refine step i H' _ hi ⟨But.refl _ _, fun _ => Same.refl _, fun e => (nomatch e), (let ⟨o, e⟩ := W.tr; ⟨o, s _ _ e⟩), W.r.but s.but⟩ fun y H4 dy s4 ry hy => ?_
    have e4 := s4 _ _ h1
    exact ⟨ys, e4, by rw [r2.lens, h3]; exact small1000 (by omega), lcPS hR nD (s.trans s4) e4 (r2.but s4.but) h3 h4 ry hy⟩
  · exact lcp_done W nD hP done
/-- where the list is no list of the ground's -/
theorem lcp_raw {p : Addr} {xs : List V} {ds : List PyData} (W : Wd b sa H0 H acc dacc) (hx : H p = some (.lst xs)) (r : Rps sa H xs ds) (hl : ds.length ≤ 1000) (R : Nat → PyData → Prop) (hR : ∀ i d, R i d → tupOnly d = true) (hw : ∀ x, wipe ((wipe σ vs).set j (some x)) vs = wipe σ vs)
    (step : ∀ (i : Nat) x d H' Q', ds[i]? = some d → Wd false sa H' H' (x :: acc) (d :: dacc) → (∀ y H4 dy, Same H' H4 → Rp sa H4 y dy → R i dy → Q' y H4) → te ((wipe σ vs).set j (some x)) H' Q')
    (done : ∀ H' D es, Wd b sa H0 H' (.ref D :: acc) (.list es :: dacc) → es.length = ds.length → (∀ (k : Nat) (d : PyData), es[k]? = some d → R k d) → Q (.ref D) H') : tLc (fun _ H' R => R (Itl K p) H') (gName j) tYes te vs σ H Q := by
  intro D nD
  have ll := r.lens
  refine lc_list (xs := xs) (LcP sa H D R) (lcP0 nD) (fun i H' hi hP => SqL.of (hP.1 _ _ hx)) (fun i x H' hi hP => ?_) (fun H' hP => ?_)
  · obtain ⟨s, ys, es, h1, r2, h3, h4⟩ := hP
    have hi2 : i < ds.length := by
      rw [← ll]
      exact (List.getElem?_eq_some_iff.mp hi).1
    obtain ⟨v, e1, r1⟩ := rps_at r (List.getElem?_eq_getElem hi2)
    rw [hi] at e1
    injection e1 with e1
    subst e1
    refine ⟨hw x, lcYes ?_⟩
    refine step i x _ H' _ (List.getElem?_eq_getElem hi2) ⟨But.refl _ _, fun _ => Same.refl _, fun e => (nomatch e), (let ⟨o, e⟩ := W.tr; ⟨o, s _ _ e⟩), .cons (r1.same s) (W.r.but s.but)⟩ fun y H4 dy s4 ry hy => ?_
    have e4 := s4 _ _ h1
    exact ⟨ys, e4, by rw [r2.lens, h3]; exact small1000 (by omega), lcPS hR nD (s.trans s4) e4 (r2.but s4.but) h3 h4 ry hy⟩
  · rw [ll] at hP
    exact lcp_done W nD hP done
end

/-! ### rules of our own: slices with a step, rows of either kind, what is compared with its copy -/
def idxs (n : Nat) (lo hi st : Option Int) : List Nat := sliceRange (sliceBounds lo hi st n).1 (sliceBounds lo hi st n).2.1 (sliceBounds lo hi st n).2.2
def pickV (xs : List V) (lo hi st : Option Int) : List V := (idxs xs.length lo hi st).filterMap (xs[·]?)
theorem vals_at : ∀ {xs : List V} {us : List Value} (r : Vals xs us) (j : Nat), (xs[j]? = none ∧ us[j]? = none) ∨ ∃ x u, xs[j]? = some x ∧ us[j]? = some u ∧ RelV x u
  | [], [], .nil, j => .inl ⟨by simp, by simp⟩
  | x :: xs, u :: us, .cons h t, 0 => .inr ⟨x, u, rfl, rfl, h⟩
  | x :: xs, u :: us, .cons h t, j + 1 => by
    have := vals_at t j
    simpa using this
theorem vals_pick {xs : List V} {us : List Value} (r : Vals xs us) : ∀ l : List Nat, Vals (l.filterMap (xs[·]?)) (l.filterMap (us[·]?))
  | [] => .nil
  | j :: l => by
    rcases vals_at r j with ⟨h1, h2⟩ | ⟨x, u, h1, h2, h3⟩
    · rw [List.filterMap_cons_none h1, List.filterMap_cons_none h2]
      exact vals_pick r l
    · rw [List.filterMap_cons_some h1, List.filterMap_cons_some h2]
      exact .cons h3 (vals_pick r l)
theorem rps_pick {sa : Addr} {H : Hp} {xs : List V} {ds : List PyData} (r : Rps sa H xs ds) : ∀ l : List Nat, Rps sa H (l.filterMap (xs[·]?)) (l.filterMap (ds[·]?))
  | [] => .nil
  | j :: l => by
    cases e : ds[j]? with
    | none =>
      have e2 : xs[j]? = none := by
        rw [List.getElem?_eq_none_iff, r.lens]
        exact List.getElem?_eq_none_iff.mp e
      rw [List.filterMap_cons_none e, List.filterMap_cons_none e2]
      exact rps_pick r l
    | some d =>
      obtain ⟨v, e2, rv⟩ := rps_at r e
      rw [List.filterMap_cons_some e, List.filterMap_cons_some e2]
      exact .cons rv (rps_pick r l)
theorem idxs_le (n : Nat) (lo hi st : Option Int) : (idxs n lo hi st).length ≤ n := by
  unfold idxs
  refine sliceRange_length_le _ _ _ _ (fun hc => ?_) fun hc => ?_
  · simp only [sliceBounds] at hc ⊢
    simp only [hc, if_true]
    constructor
    · cases lo with
      | none => simp
      | some i => dsimp only; omega
    · cases hi with
      | none => simp
      | some i => dsimp only; omega
  · simp only [sliceBounds] at hc ⊢
    simp only [hc, if_false]
    constructor
    · cases lo with
      | none => simp
      | some i => dsimp only; omega
    · cases hi with
      | none => simp
      | some i => dsimp only; omega
def tSl3 (K : PySem.W.Frag) (te : TE) (tl th : TO) (ts : TE) : TE := fun σ H Q => te σ H fun x H1 => tl σ H1 fun l H2 => th σ H2 fun u H3 => ts σ H3 fun o H4 => ∃ i : Int, o = .int i ∧ i ≠ 0 ∧ ∃ a xs, x = .ref a ∧ SqL K H4 a xs ∧ ∀ p, H4 p = none → Q (.ref p) (upd H4 p (.lst (pickV xs l u (some i))))
theorem pe_sl3 {X : Cx} {e st : Expr} {lo hi : Option Expr} {te ts : TE} {tl th : TO} {p3 pos : Pos} (he : PE X e te) (hl : PO X lo tl) (hu : PO X hi th) (hst : PE X st ts) : PE X (.Subscript e (.Slice lo hi (some st) p3) pos) (tSl3 X.K te tl th ts) := by
  refine ⟨fun pins s σ H Q I h => ?_⟩
  refine Subscript_ (thn (he.run pins s σ H _ I h) fun v s1 ⟨x, H1, I1, r1, q1⟩ => ?_)
  refine wpAny_Slice (thn (hl.run pins s1 σ H1 _ I1 q1) fun vl s2 ⟨l, H2, I2, pl, q2⟩ => thn (hu.run pins s2 σ H2 _ I2 q2) fun vu s3 ⟨u, H3, I3, pu, q3⟩ => ?_)
  have hs : PO X (some st) (tPart ts) := po_some hst
  refine thn (hs.run pins s3 σ H3 (fun o H4 => ∃ i : Int, o = some i ∧ i ≠ 0 ∧ ∃ a xs, x = .ref a ∧ SqL X.K H4 a xs ∧ ∀ p, H4 p = none → Q (.ref p) (upd H4 p (.lst (pickV xs l u (some i))))) I3 ?_) fun vs s4 ⟨o, H4, I4, ps, q4⟩ => ?_
  · have mono : ∀ {R R' : VK}, (∀ x H, R x H → R' x H) → R = R' ∨ True := fun _ => .inr trivial
    show ts σ H3 fun x H1 => ∃ i, x = .int i ∧ _
    exact (by
      have e : (fun (o : V) (H4 : Hp) => ∃ i : Int, o = .int i ∧ i ≠ 0 ∧ ∃ a xs, x = .ref a ∧ SqL X.K H4 a xs ∧ ∀ p, H4 p = none → Q (.ref p) (upd H4 p (.lst (pickV xs l u (some i))))) = fun (y : V) (H1 : Hp) => ∃ i : Int, y = .int i ∧ ∃ j : Int, some i = some j ∧ j ≠ 0 ∧ ∃ a xs, x = .ref a ∧ SqL X.K H1 a xs ∧ ∀ p, H1 p = none → Q (.ref p) (upd H1 p (.lst (pickV xs l u (some j)))) := by
        funext o H4
        apply propext
        constructor
        · rintro ⟨i, h1, h2, h3⟩
          exact ⟨i, h1, i, rfl, h2, h3⟩
        · rintro ⟨i, h1, j, h2, h3, h4⟩
          cases h2
          exact ⟨i, h1, h3, h4⟩
      rw [← e]
      exact q3)
  obtain ⟨i, rfl, i0, a, xs, ex, hx, q⟩ := q4
  subst ex
  cases r1
  have I5 : Inv X pins σ H4 { s4 with heap := s4.heap.push { cls := .type "slice", data := .fields #[vl, vu, vs] } } := I4.kept (t' := s4.toks) fun b ob q => Heap.get?_push_of_some _ q
  obtain ⟨its, r, ht, hz⟩ := I5.list hx
  have hlen := r.length
  show wpAny (model X.prog X.w) X.A (subscriptTail e (.Slice lo hi (some st) p3) (.ref a) (.ref s4.heap.objs.size)) (EP X pins σ Q) X.xe { s4 with heap := s4.heap.push { cls := .type "slice", data := .fields #[vl, vu, vs] } }
  refine tail_any (ops := [.ref a, .ref s4.heap.objs.size]) ht.isList.typeIs (PySem.slot_list_getitem.lookup) ?_ (by with_unfolding_all rfl)
  refine wpAny_getItem_list_slice ht.isList (Heap.IsSliceOf.new _ vl vu vs) pl pu ps (fun z => i0 (by cases z; rfl)) ?_ (by rw [List.size_toArray]; omega)
  have ep : slicePick its.toArray l u (some i) = ((idxs xs.length l u (some i)).filterMap (its[·]?)).toArray := by
    unfold slicePick idxs
    rw [List.size_toArray, ← hlen]
    congr 2
    funext x
    simp
  rw [ep]
  refine ⟨.ref _, _, I5.laid (t' := s4.toks) (o := .lst (pickV xs l u (some i))) (fun b ob q => Heap.get?_push_of_some _ q) (Nat.le_refl _) ?_, rfl, q _ (I5.hok.fresh (Nat.le_refl _))⟩
  exact ⟨Nat.le_trans (Nat.le_trans (List.length_filterMap_le _ _) (idxs_le _ _ _ _)) hz, _, 0, vals_pick r _, Heap.get?_push_size _ rfl⟩
theorem w_sl3 {K : PySem.W.Frag} {te ts : TE} {tl th : TO} {σ : L2.St} {H : Hp} {Q : VK} (h : te σ H fun x H1 => tl σ H1 fun l H2 => th σ H2 fun u H3 => ts σ H3 fun o H4 => ∃ i : Int, o = .int i ∧ i ≠ 0 ∧ ∃ a xs, x = .ref a ∧ SqL K H4 a xs ∧ ∀ p, H4 p = none → Q (.ref p) (upd H4 p (.lst (pickV xs l u (some i))))) : tSl3 K te tl th ts σ H Q := h
theorem sl3 {K : PySem.W.Frag} {b : Bool} {sa : Addr} {H0 H : Hp} {acc : List V} {dacc : List PyData} {Q : VK} {p : Addr} {ds : List PyData} {l u : Option Int} {i : Int} (W : Wd b sa H0 H acc dacc) (m : In2 (.ref p) (.list ds) acc dacc) (i0 : i ≠ 0)
    (h : ∀ H' q es, es.length ≤ ds.length → (∀ d ∈ es, d ∈ ds) → Wd b sa H0 H' (.ref q :: acc) (.list es :: dacc) → Q (.ref q) H') : ∃ j : Int, V.int i = .int j ∧ j ≠ 0 ∧ ∃ a xs, V.ref p = .ref a ∧ SqL K H a xs ∧ ∀ p, H p = none → Q (.ref p) (upd H p (.lst (pickV xs l u (some j)))) := by
  cases W.get m with
  | @lst _ xs _ n hx r =>
    refine ⟨i, rfl, i0, p, xs, rfl, SqL.of hx, fun q nq => ?_⟩
    refine h _ q ((idxs xs.length l u (some i)).filterMap (ds[·]?)) ?_ (fun d hd => ?_) ((W.go (same_new nq)).put (.lst (W.ne nq) upd_same ((rps_pick r _).but (same_new nq).but)))
    · refine Nat.le_trans (List.length_filterMap_le _ _) ?_
      rw [← r.lens]
      exact idxs_le _ _ _ _
    · obtain ⟨j, _, e⟩ := List.mem_filterMap.mp hd
      exact List.mem_of_getElem? e
/-! rows: lists and tuples alike -/
def iSeq (K : PySem.W.Frag) (tl : TE) : TI := fun σ H R => tl σ H fun x H1 => ∃ a, x = .ref a ∧ (((∃ xs, SqL K H1 a xs) ∧ R (Itl K a) H1) ∨ ((∃ xs, SqT K H1 a xs) ∧ R (Itt K a) H1))
theorem pi_seq {X : Cx} {tg l : Expr} {tl : TE} (hl : PE X l tl) : PI X tg l (iSeq X.K tl) := by
  refine ⟨fun pins s σ H R I h => ?_⟩
  refine thn (hl.run pins s σ H _ I h) fun v s1 ⟨x, H1, I1, r1, q1⟩ => ?_
  obtain ⟨a, e, q⟩ := q1
  subst e
  cases r1
  rcases q with ⟨⟨xs, hq⟩, q⟩ | ⟨⟨xs, hq⟩, q⟩
  · obtain ⟨its, rv, p, hz⟩ := I1.list hq
    refine wpAny_pyIter_list p.isList ?_
    refine ⟨s1.heap.objs.size, [s1.heap.objs.size], _, _, H1, rfl, I1.kept (t' := s1.toks) fun b o e => Heap.get?_push_of_some _ e, turn_list a _, ⟨_, Heap.get?_push_size _ rfl, rfl, rfl⟩, fun b hb => ?_, q⟩
    have e : b = s1.heap.objs.size := by simpa using hb
    subst e
    exact I1.fpOk (Nat.le_refl _) (I1.hok.fresh (Nat.le_refl _))
  · obtain ⟨its, rv, p, hz⟩ := I1.tuple hq
    refine wpAny_pyIter_tuple (show s1.heap.IsTuple a its.toArray from p) ?_
    refine ⟨s1.heap.objs.size, [s1.heap.objs.size], _, _, H1, rfl, I1.kept (t' := s1.toks) fun b o e => Heap.get?_push_of_some _ e, turn_tuple a _, ⟨_, Heap.get?_push_size _ rfl, rfl, rfl⟩, fun b hb => ?_, q⟩
    have e : b = s1.heap.objs.size := by simpa using hb
    subst e
    exact I1.fpOk (Nat.le_refl _) (I1.hok.fresh (Nat.le_refl _))
theorem w_iseq {K : PySem.W.Frag} {tl : TE} {σ : L2.St} {H : Hp} {R : It → Hp → Prop} (h : tl σ H fun x H1 => ∃ a, x = .ref a ∧ (((∃ xs, SqL K H1 a xs) ∧ R (Itl K a) H1) ∨ ((∃ xs, SqT K H1 a xs) ∧ R (Itt K a) H1))) : iSeq K tl σ H R := h
/-! isinstance(x, (list, tuple)) -/
def isLT : PyData → Bool | .list _ => true | .tuple _ => true | _ => false
theorem kd_list {K : PySem.W.Frag} (d : PyData) : PySem.W.kitOne K (.type (tyD d)) (.type "list") = some (match d with | .list _ => true | _ => false) := by
  cases d with
  | none => exact kit_ty (a := "NoneType") (b := "list") (r := false) (by decide +kernel)
  | bool z => exact kit_ty (a := "bool") (b := "list") (r := false) (by decide +kernel)
  | int z => exact kit_ty (a := "int") (b := "list") (r := false) (by decide +kernel)
  | str z => exact kit_ty (a := "str") (b := "list") (r := false) (by decide +kernel)
  | list z => exact kit_ty (a := "list") (b := "list") (r := true) (by decide +kernel)
  | tuple z => exact kit_ty (a := "tuple") (b := "list") (r := false) (by decide +kernel)
  | dict z => exact kit_ty (a := "dict") (b := "list") (r := false) (by decide +kernel)
theorem kd_LT {K : PySem.W.Frag} (d : PyData) : PySem.W.kitAny K (.type (tyD d)) [.type "list", .type "tuple"] = some (isLT d) := by
  show (match PySem.W.kitOne K (.type (tyD d)) (.type "list") with | some true => some true | some false => (match PySem.W.kitOne K (.type (tyD d)) (.type "tuple") with | some true => some true | some false => some false | none => none) | none => none) = _
  rw [kd_list, kd_tuple]
  cases d <;> rfl
theorem nt_ty {xs : List V} {H : Hp} {Q : VK} (hl : xs.length.ble 1000 = true) (h : ∀ p, H p = none → Q (.ref p) (upd H p (.tup xs))) : NT Q xs H := ⟨Nat.le_of_lt (small1000 (Nat.le_of_ble_eq_true hl)), h⟩
theorem c_isLT {K : PySem.W.Frag} {b : Bool} {sa : Addr} {H0 H : Hp} {acc : List V} {dacc : List PyData} {Q : VK} {x : V} {d : PyData} {p : Addr} (W : Wd b sa H0 H acc dacc) (np : H p = none) (r : Rp sa H x d) (h : ∀ H', Wd b sa H0 H' acc dacc → Q (.bl (isLT d)) H') : rIsiT K [x, .ref p] (upd H p (.tup [.ty "list", .ty "tuple"])) Q :=
  ⟨x, p, _, _, [.type "list", .type "tuple"], isLT d, rfl, upd_same, .cons (.ty "list") (.cons (.ty "tuple") .nil), (r.but (same_new np).but).ty, kd_LT d, h _ (W.go (same_new np))⟩
/-! != of a row and its copy, of a thing and itself -/
def okV : V → Bool | .non => true | .bl _ => true | .int _ => true | .str _ => true | .ref _ => true | _ => false
theorem okV_of {sa : Addr} {H : Hp} {v : V} {d : PyData} (r : Rp sa H v d) : okV v = true := by cases r <;> rfl
theorem okVs_of {sa : Addr} {H : Hp} : ∀ {vs : List V} {ds : List PyData}, Rps sa H vs ds → ∀ v ∈ vs, okV v = true
  | _, _, .nil, v, h => absurd h (by simp)
  | _, _, .cons r t, v, h => by
    rcases List.mem_cons.mp h with rfl | h
    · exact okV_of r
    · exact okVs_of t v h
theorem eqAt_self {A : Around} {s : Shared} {x : V} {u v : Value} (h : okV x = true) (ru : RelV x u) (rv : RelV x v) : SeqAt.EqAt A s u v true := by
  cases x with
  | non =>
    cases ru
    cases rv
    exact SeqAt.EqAt.same _
  | bl b =>
    cases ru
    cases rv
    exact SeqAt.EqAt.same _
  | int i =>
    have := eqAt_V (A := A) (s := s) (y := .int i) (x := .int i) ru rv rfl rfl
    rwa [show eqV (.int i) (.int i) = true from beq_self_eq_true i] at this
  | str z =>
    have := eqAt_V (A := A) (s := s) (y := .str z) (x := .str z) ru rv rfl rfl
    rwa [show eqV (.str z) (.str z) = true from beq_self_eq_true z] at this
  | ref a =>
    cases ru
    cases rv
    exact SeqAt.EqAt.same _
  | _ => cases h
def rNeC (K : PySem.W.Frag) : R2 := fun x y H Q => Q (.bl false) H ∧ ((x = y ∧ (x = .non ∨ (∃ b, x = .bl b) ∨ (∃ i, x = .int i) ∨ ∃ z, x = .str z)) ∨ (∃ a b xs, x = .ref a ∧ y = .ref b ∧ H a = some (.lst xs) ∧ H b = some (.lst xs) ∧ ∀ v ∈ xs, okV v = true) ∨
  (∃ a xs, x = .ref a ∧ y = .ref a ∧ H a = some (.tup xs) ∧ ∀ v ∈ xs, okV v = true) ∨ ∃ a kvs, x = .ref a ∧ y = .ref a ∧ H a = some (.dK kvs) ∧ ∀ p ∈ kvs, valV kvs p.1 = some p.2 ∧ flatB p.2 = true)
theorem eqAt_items {A : Around} {s : Shared} : ∀ {xs : List V} {us vs : List Value}, (∀ v ∈ xs, okV v = true) → Vals xs us → Vals xs vs → ∀ (j : Nat) (j1 : j < us.length) (j2 : j < vs.length), SeqAt.EqAt A s us[j] vs[j] true
  | [], _, _, _, .nil, .nil, j, j1, _ => absurd j1 (by simp)
  | x :: xs, u :: us, v :: vs, h, .cons r t, .cons r2 t2, 0, _, _ => eqAt_self (h x List.mem_cons_self) r r2
  | x :: xs, u :: us, v :: vs, h, .cons r t, .cons r2 t2, j + 1, j1, j2 => eqAt_items (fun z hz => h z (List.mem_cons_of_mem _ hz)) t t2 j (by simpa using j1) (by simpa using j2)
theorem op_neC {X : Cx} (hu : X.A.units + 64 < cLine) : OpR X (compareOp .NotEq) (rNeC X.K) := by
  intro pins s σ H x y v u Q I rx ry h
  obtain ⟨q, h⟩ := h
  have hu1 : X.A.units < cLine := by omega
  rcases h with ⟨rfl, h⟩ | ⟨a, b, xs, rfl, rfl, ha, hb, ok⟩ | ⟨a, xs, rfl, rfl, ha, ok⟩ | ⟨a, kvs, rfl, rfl, ha, ok⟩
  · rcases h with rfl | ⟨b, rfl⟩ | ⟨i, rfl⟩ | ⟨z, rfl⟩
    · cases rx
      cases ry
      exact SeqAt.RcNeAt.none_none X.prog X.w X.xe _ ⟨.bl _, H, I, rfl, q⟩
    · cases rx
      cases ry
      refine SeqAt.RcNeAt.bool_bool b b X.prog X.w X.xe _ ⟨.bl _, H, I, rfl, ?_⟩
      rw [beq_self_eq_true]
      exact q
    · obtain ⟨t, rfl⟩ := rx
      obtain ⟨t', rfl⟩ := ry
      refine SeqAt.RcNeAt.int_int i _ i _ X.prog X.w X.xe _ ⟨.bl _, H, I, rfl, ?_⟩
      rw [beq_self_eq_true]
      exact q
    · obtain ⟨t, rfl⟩ := rx
      obtain ⟨t', rfl⟩ := ry
      refine SeqAt.RcNeAt.str_str z _ z _ X.prog X.w X.xe _ ⟨.bl _, H, I, rfl, ?_⟩
      rw [beq_self_eq_true]
      exact q
  · cases rx
    cases ry
    obtain ⟨its, r, pl, hz⟩ := I.list (SqL.of ha)
    obtain ⟨its2, r2, pl2, hz2⟩ := I.list (SqL.of hb)
    have l1 := r.length
    have l2 := r2.length
    have := SeqAt.RcNeAt.lists (A := X.A) (e := fun _ => true) pl.isList pl2.isList (by rw [List.size_toArray, List.size_toArray]; omega) hu1 (fun j j1 j2 => by
      have := eqAt_items (A := X.A.in1) (s := s) ok r r2 j (by simpa using j1) (by simpa using j2)
      simpa using this)
    refine this X.prog X.w X.xe _ ⟨.bl _, H, I, rfl, ?_⟩
    have e : ∀ n : Nat, ((List.range n).all fun _ => true) = true := fun n => List.all_eq_true.mpr fun _ _ => rfl
    rw [e]
    exact q
  · cases rx
    cases ry
    obtain ⟨its, r, pl, hz⟩ := I.tuple (SqT.of ha)
    have := SeqAt.RcNeAt.tuples (A := X.A) (e := fun _ => true) (show s.heap.IsTuple a its.toArray from pl) (show s.heap.IsTuple a its.toArray from pl) hu1 (fun j j1 j2 => by
      have := eqAt_items (A := X.A.in1) (s := s) ok r r j (by simpa using j1) (by simpa using j2)
      simpa using this)
    refine this X.prog X.w X.xe _ ⟨.bl _, H, I, rfl, ?_⟩
    have e : ∀ n : Nat, ((List.range n).all fun _ => true) = true := fun n => List.all_eq_true.mpr fun _ _ => rfl
    try rw [e]
    first | exact q | (simpa using q)
  · exact op_ne_dictA hu1 pins s σ H _ _ v u Q I rx ry ⟨a, a, kvs, kvs, rfl, rfl, ha, ha, rfl, ok, q⟩

/-! ### the top's constants of the texts -/
theorem pe_constI {X : Cx} {x : Str} {i : Int} {pos : Pos} (hg : Gl X x) (h : ∃ t, X.mg x = some (.int i t)) (hd : (x == ("__debug__" : Str)) = false := by decide) : PE X (.Name x pos) (tC (.int i)) := by
  obtain ⟨t, e⟩ := h
  exact pe_glob hg e ⟨t, rfl⟩ hd
theorem pe_constS {X : Cx} {x y : Str} {pos : Pos} (hg : Gl X x) (h : ∃ t, X.mg x = some (.str y t)) (hd : (x == ("__debug__" : Str)) = false := by decide) : PE X (.Name x pos) (tC (.str y)) := by
  obtain ⟨t, e⟩ := h
  exact pe_glob hg e ⟨t, rfl⟩ hd
theorem pe_constR {X : Cx} {x : Str} {a : Addr} {pos : Pos} (hg : Gl X x) (h : X.mg x = some (.ref a)) (hd : (x == ("__debug__" : Str)) = false := by decide) : PE X (.Name x pos) (tC (.ref a)) := pe_glob hg h rfl hd
def KTup (K : PySem.W.Frag) (a : Addr) (xs : List V) : Prop := ∃ (o : Obj) (its : Array Value) (n : Nat), K.lookup a = some o ∧ o.cls = .type "tuple" ∧ o.data = .seq its n ∧ its.size ≤ sizeLine ∧ Vals xs its.toList
structure Cst9 (K : PySem.W.Frag) (mg : Str → Option Value) (nA : Addr) : Prop where
  piece : ∃ t, mg "PIECE" = some (.int 60 t)
  deepest : ∃ t, mg "DEEPEST" = some (.int 12 t)
  longest : ∃ t, mg "LONGEST" = some (.int 40 t)
  digits : ∃ t, mg "DIGITS" = some (.str "0123456789" t)
  nought : mg "NOUGHT" = some (.ref nA)
  kn : KTup K nA [.int 0, .int 1]
theorem units65 {k : Nat} {A : Around} (r : Room k A) : A.units + 65 < cLine := by have := r.un; omega
/-! readings of strings, by name -/
def rLenS : List V → Hp → VK → Prop := fun xs H Q => ∃ z, xs = [.str z] ∧ z.length ≤ sizeLine ∧ Q (.int z.length) H
theorem cq_lenS {X : Cx} : CallR X (.builtin "len") rLenS := call_len_str
def rIntS : List V → Hp → VK → Prop := fun xs H Q => ∃ a n, xs = [.str a] ∧ PySem.intText? a = some n ∧ a.length ≤ 640 ∧ Q (.int n) H
theorem cq_intS {X : Cx} : CallR X (.type "int") rIntS := call_int_str
def rStrI : List V → Hp → VK → Prop := fun xs H Q => ∃ i, xs = [.int i] ∧ i.natAbs.log2 < 1920 ∧ Q (.str (toString i)) H
theorem cq_strI {X : Cx} : CallR X (.type "str") rStrI := call_str_int
def rStarts : V → List V → Hp → VK → Prop := fun x xs H Q => ∃ a b, x = .str a ∧ xs = [.str b] ∧ Q (.bl (Txt.startswith a b)) H
theorem mq_starts {X : Cx} : MtR X "str.startswith" rStarts := mt_startswith
def rPartQ : V → List V → Hp → VK → Prop := fun x xs H Q => ∃ a b, x = .str a ∧ xs = [.str b] ∧ (b.length == 0) = false ∧ a.length ≤ sizeLine ∧ ∀ p, H p = none → Q (.ref p) (upd H p (.tup [.str (Txt.partition a b).1, .str (Txt.partition a b).2.1, .str (Txt.partition a b).2.2]))
theorem mq_part {X : Cx} : MtR X "str.partition" rPartQ := mt_partition
def rSplitQ : V → List V → Hp → VK → Prop := fun x xs H Q => ∃ a b, x = .str a ∧ xs = [.str b] ∧ (b.length == 0) = false ∧ a.length + 2 ≤ sizeLine ∧ rNewStrs (Txt.split a b) H Q
theorem mq_split {X : Cx} : MtR X "str.split" rSplitQ := mt_split
def rTupOf (K : PySem.W.Frag) : List V → Hp → VK → Prop := fun xs H Q => ∃ p ys, xs = [.ref p] ∧ ((SqL K H p ys ∧ ∀ l, H l = none → Q (.ref l) (upd H l (.tup ys))) ∨ (SqT K H p ys ∧ Q (.ref p) H))
theorem cq_tuple {X : Cx} : CallR X (.type "tuple") (rTupOf X.K) := call_tuple_of

/-! ### signs, words of digits, fractions as words: lists of code points -/
/-- signs that are digits -/
def IsDig (c : Nat) : Prop := 48 ≤ c ∧ c ≤ 57
instance (c : Nat) : Decidable (IsDig c) := inferInstanceAs (Decidable (_ ∧ _))
theorem adig {l : List Nat} : NumText.AllDigits l ↔ ∀ c ∈ l, IsDig c := Iff.rfl
/-- a number's word: digits without needless zeros -/
def WW (l : List Nat) : Prop := (∀ c ∈ l, IsDig c) ∧ l ≠ [] ∧ (l.head? = some 48 → l.length = 1)
theorem num_head : ∀ n : Nat, 1 ≤ n → (TL.numL n).head? ≠ some 48 := by
  intro n
  induction n using Nat.strongRecOn with
  | _ n ih =>
    intro h
    by_cases h1 : n < 10
    · rw [TL.numL_lt h1]
      intro z
      injection z with z
      omega
    · rw [TL.numL_step (by omega)]
      have i := ih (n / 10) (by omega) (by omega)
      have ne := TL.numL_ne (n / 10)
      cases e : TL.numL (n / 10) with
      | nil => exact absurd e ne
      | cons c r =>
        rw [e] at i
        exact i
theorem num_ww (n : Nat) : WW (TL.numL n) := by
  refine ⟨TL.numL_digits n, TL.numL_ne n, fun h => ?_⟩
  by_cases h0 : 1 ≤ n
  · exact absurd h (num_head n h0)
  · have e : n = 0 := by omega
    subst e
    rw [TL.numL_lt (by decide)]
    rfl
theorem chr_back : ∀ c : Nat, c < 58 → (Char.ofNat c).toNat = c := by decide
theorem ww_num {l : List Nat} (h : WW l) : TL.numL (NumText.digitsVal l) = l := by
  obtain ⟨h1, h2, h3⟩ := h
  have e := NumText.toDigits_digitsVal (l.length - 1) l (by cases l with | nil => exact absurd rfl h2 | cons c r => simp) h1 (by
    cases l with
    | nil => exact absurd rfl h2
    | cons c r =>
      by_cases hc : c = 48
      · left
        have := h3 (by rw [hc]; rfl)
        omega
      · right
        exact ⟨c, r, rfl, by have := (h1 c (List.mem_cons_self ..)).1; omega⟩)
  unfold TL.numL
  rw [e, List.map_map]
  have : ∀ m : List Nat, (∀ c ∈ m, IsDig c) → m.map (Char.toNat ∘ Char.ofNat) = m := by
    intro m
    induction m with
    | nil => intro _; rfl
    | cons c r ih =>
      intro h
      rw [List.map_cons, ih fun d hd => h d (List.mem_cons_of_mem _ hd)]
      show (Char.ofNat c).toNat :: r = c :: r
      rw [chr_back c (by have := (h c (List.mem_cons_self ..)).2; omega)]
  exact this l h1
theorem foldl_lt : ∀ (l : List Nat) (a k : Nat), (∀ c ∈ l, IsDig c) → a < 10 ^ k → l.foldl (fun acc c => acc * 10 + (c - 48)) a < 10 ^ (k + l.length)
  | [], a, k, _, h => h
  | c :: r, a, k, hd, h => by
    have hc := hd c (List.mem_cons_self ..)
    have h2 : a * 10 + (c - 48) < 10 ^ (k + 1) := by
      rw [Nat.pow_succ]
      have := hc.1
      have := hc.2
      omega
    have := foldl_lt r _ _ (fun d e => hd d (List.mem_cons_of_mem _ e)) h2
    rw [List.length_cons, show k + (r.length + 1) = k + 1 + r.length by omega]
    exact this
theorem val_lt {l : List Nat} (h : ∀ c ∈ l, IsDig c) : NumText.digitsVal l < 10 ^ l.length := by
  have := foldl_lt l 0 0 h (by decide)
  rw [Nat.zero_add] at this
  exact this
theorem num_free {n s : Nat} (h : ¬ IsDig s) : s ∉ TL.numL n := fun z => h (TL.numL_digits n s z)
def intL (a : Int) : List Nat := if a < 0 then 45 :: TL.numL a.natAbs else TL.numL a.natAbs
def fracL (a b : Int) : List Nat := if b = 1 then intL a else intL a ++ 47 :: intL b
/-- l is the word of the fraction a / b -/
def RdF (l : List Nat) (a b : Int) : Prop := Low a b ∧ l = fracL a b
theorem intL_pos {n : Nat} : intL (n : Int) = TL.numL n := by
  unfold intL
  rw [if_neg (by omega), Int.natAbs_natCast]
theorem intL_neg {n : Nat} (h : 0 < n) : intL (-(n : Int)) = 45 :: TL.numL n := by
  unfold intL
  rw [if_pos (by omega), Int.natAbs_neg, Int.natAbs_natCast]
theorem intL_free {a : Int} {s : Nat} (h : ¬ IsDig s) (h2 : s ≠ 45) : s ∉ intL a := by
  unfold intL
  split
  · intro z
    rcases List.mem_cons.mp z with z | z
    · exact h2 z
    · exact num_free h z
  · exact num_free h
theorem cut_uniq {s : Nat} : ∀ {x y u v : List Nat}, s ∉ x → s ∉ y → x ++ s :: u = y ++ s :: v → x = y ∧ u = v
  | [], [], _, _, _, _, e => ⟨rfl, by injection e⟩
  | [], c :: y, _, _, _, h, e => by
    injection e with e1 e2
    exact absurd (by rw [e1]; exact List.mem_cons_self ..) h
  | c :: x, [], _, _, h, _, e => by
    injection e with e1 e2
    exact absurd (by rw [← e1]; exact List.mem_cons_self ..) h
  | c :: x, d :: y, _, _, h, g, e => by
    injection e with e1 e2
    obtain ⟨i, j⟩ := cut_uniq (fun z => h (List.mem_cons_of_mem _ z)) (fun z => g (List.mem_cons_of_mem _ z)) e2
    exact ⟨by rw [e1, i], j⟩
def preN (neg : Bool) : List Nat := if neg then [45] else []
def tailO : Option (List Nat) → List Nat
  | none => []
  | some q => 47 :: q
def valS (neg : Bool) (t : List Nat) : Int := if neg then -(NumText.digitsVal t : Int) else (NumText.digitsVal t : Int)
/-- what a word tells, by its parts -/
def RdP (neg : Bool) (t : List Nat) (o : Option (List Nat)) (a b : Int) : Prop :=
  WW t ∧ (NumText.digitsVal t = 0 → neg = false) ∧ a = valS neg t ∧ (match o with | none => b = 1 | some q => WW q ∧ 2 ≤ NumText.digitsVal q ∧ b = (NumText.digitsVal q : Int) ∧ Nat.gcd (NumText.digitsVal t) (NumText.digitsVal q) = 1)
theorem not_dig {s : Nat} (h : s < 48 ∨ 57 < s) : ¬ IsDig s := fun z => by
  have := z.1
  have := z.2
  omega
theorem intL_parts {neg : Bool} {t : List Nat} {a : Int} (hn : neg = false → t.head? ≠ some 45) : preN neg ++ t = intL a ↔ WW t ∧ (NumText.digitsVal t = 0 → neg = false) ∧ a = valS neg t := by
  constructor
  · intro e
    by_cases h : a < 0
    · unfold intL at e
      rw [if_pos h] at e
      cases neg with
      | false =>
        have e : t = 45 :: TL.numL a.natAbs := e
        exact absurd (by rw [e]; rfl) (hn rfl)
      | true =>
        have e : 45 :: t = 45 :: TL.numL a.natAbs := e
        injection e with _ e
        subst e
        refine ⟨num_ww _, fun z => ?_, ?_⟩
        · rw [TL.numL_val] at z
          omega
        · show a = -((NumText.digitsVal (TL.numL a.natAbs) : Nat) : Int)
          rw [TL.numL_val]
          omega
    · unfold intL at e
      rw [if_neg h] at e
      cases neg with
      | false =>
        have e : t = TL.numL a.natAbs := e
        subst e
        refine ⟨num_ww _, fun _ => rfl, ?_⟩
        show a = ((NumText.digitsVal (TL.numL a.natAbs) : Nat) : Int)
        rw [TL.numL_val]
        omega
      | true =>
        have e : 45 :: t = TL.numL a.natAbs := e
        exact absurd (by rw [← e]; exact List.mem_cons_self ..) (num_free (n := a.natAbs) (s := 45) (not_dig (by decide)))
  · rintro ⟨h1, h2, rfl⟩
    cases neg with
    | false =>
      show t = intL ((NumText.digitsVal t : Nat) : Int)
      rw [intL_pos, ww_num h1]
    | true =>
      show 45 :: t = intL (-((NumText.digitsVal t : Nat) : Int))
      rw [intL_neg (by
        have : NumText.digitsVal t ≠ 0 := fun z => nomatch (h2 z)
        omega), ww_num h1]
theorem low_mk {a b : Int} (h : 1 ≤ b) (g : Nat.gcd a.natAbs b.natAbs = 1) : Low a b := ⟨h, g⟩
theorem valS_abs {neg : Bool} {t : List Nat} : (valS neg t).natAbs = NumText.digitsVal t := by
  unfold valS
  cases neg <;> simp
theorem rd_iff {neg : Bool} {t : List Nat} {o : Option (List Nat)} {a b : Int} (ht : 47 ∉ t) (hn : neg = false → t.head? ≠ some 45) : RdF (preN neg ++ t ++ tailO o) a b ↔ RdP neg t o a b := by
  have f1 : 47 ∉ preN neg ++ t := fun z => by
    rcases List.mem_append.mp z with z | z
    · cases neg with
      | false => cases z
      | true => rcases List.mem_cons.mp z with z | z <;> cases z
    · exact ht z
  have f2 : 47 ∉ intL a := intL_free (not_dig (by decide)) (by decide)
  constructor
  · rintro ⟨lo, e⟩
    unfold fracL at e
    by_cases hb : b = 1
    · rw [if_pos hb] at e
      cases o with
      | some q => exact absurd (by rw [← e]; exact List.mem_append_right _ (List.mem_cons_self ..)) f2
      | none =>
        have e : preN neg ++ t = intL a := by
          rw [← e]
          exact (List.append_nil _).symm
        obtain ⟨h1, h2, h3⟩ := (intL_parts hn).mp e
        exact ⟨h1, h2, h3, hb⟩
    · rw [if_neg hb] at e
      cases o with
      | none =>
        have e : preN neg ++ t ++ [] = intL a ++ 47 :: intL b := e
        rw [List.append_nil] at e
        exact absurd (by rw [e]; exact List.mem_append_right _ (List.mem_cons_self ..)) f1
      | some q =>
        obtain ⟨e1, e2⟩ := cut_uniq f1 f2 e
        obtain ⟨h1, h2, h3⟩ := (intL_parts hn).mp e1
        have bp := lo.pos
        have eb : b = ((b.toNat : Nat) : Int) := by omega
        have e3 : q = TL.numL b.toNat := by rw [e2, eb, intL_pos, Int.toNat_natCast]
        have e4 : NumText.digitsVal q = b.toNat := by rw [e3, TL.numL_val]
        refine ⟨h1, h2, h3, ?_, ?_, ?_, ?_⟩
        · rw [e3]
          exact num_ww _
        · rw [e4]
          omega
        · rw [e4]
          exact eb
        · have g := lo.one
          rw [h3, valS_abs] at g
          rw [e4, show b.toNat = b.natAbs by omega]
          exact g
  · rintro ⟨h1, h2, h3, h4⟩
    have e1 := (intL_parts hn).mpr ⟨h1, h2, h3⟩
    cases o with
    | none =>
      have h4 : b = 1 := h4
      subst h4
      refine ⟨low_mk (by omega) (by simp), ?_⟩
      unfold fracL
      rw [if_pos rfl, e1]
      exact List.append_nil _
    | some q =>
      obtain ⟨h5, h6, h7, h8⟩ := h4
      refine ⟨low_mk (by omega) ?_, ?_⟩
      · rw [h3, valS_abs, h7, Int.natAbs_natCast]
        exact h8
      · unfold fracL
        rw [if_neg (by omega), e1, h7, intL_pos, ww_num h5]
        rfl
theorem cut_key : ∀ l : List Nat, ∃ t o, l = t ++ tailO o ∧ 47 ∉ t := by
  intro l
  induction l with
  | nil => exact ⟨[], none, rfl, by simp⟩
  | cons c r ih =>
    by_cases h : c = 47
    · subst h
      exact ⟨[], some r, rfl, by simp⟩
    · obtain ⟨t, o, e, f⟩ := ih
      refine ⟨c :: t, o, by rw [e]; rfl, fun z => ?_⟩
      rcases List.mem_cons.mp z with z | z
      · exact h z.symm
      · exact f z
/-- a sign ahead -/
theorem neg_key (l : List Nat) : ∃ neg m, l = preN neg ++ m ∧ neg = decide (l.head? = some 45) ∧ (neg = false → m.head? ≠ some 45) ∧ m = (if neg then l.drop 1 else l) := by
  by_cases h : l.head? = some 45
  · cases l with
    | nil => cases h
    | cons c r =>
      injection h with h
      subst h
      exact ⟨true, r, rfl, (decide_eq_true rfl).symm, fun z => (nomatch z), rfl⟩
  · exact ⟨false, l, rfl, (decide_eq_false h).symm, fun _ => h, rfl⟩
theorem head_app {t : List Nat} {o : Option (List Nat)} (h : (t ++ tailO o).head? ≠ some 45) : t.head? ≠ some 45 := fun z => h (by
  cases t with
  | nil => cases z
  | cons c r => exact z)
/-- each word has parts -/
theorem word_parts (l : List Nat) : ∃ neg t o, l = preN neg ++ t ++ tailO o ∧ 47 ∉ t ∧ (neg = false → t.head? ≠ some 45) := by
  obtain ⟨neg, m, e, _, hn, _⟩ := neg_key l
  obtain ⟨t, o, rfl, f⟩ := cut_key m
  exact ⟨neg, t, o, by rw [e, List.append_assoc], f, fun z => head_app (hn z)⟩
theorem rdp_uniq {neg : Bool} {t : List Nat} {o : Option (List Nat)} {a b c d : Int} (h : RdP neg t o a b) (g : RdP neg t o c d) : a = c ∧ b = d := by
  obtain ⟨_, _, h3, h4⟩ := h
  obtain ⟨_, _, g3, g4⟩ := g
  refine ⟨h3.trans g3.symm, ?_⟩
  cases o with
  | none => exact (show b = 1 from h4).trans (show d = 1 from g4).symm
  | some q => exact h4.2.2.1.trans g4.2.2.1.symm
theorem rdf_uniq {l : List Nat} {a b c d : Int} (h : RdF l a b) (g : RdF l c d) : a = c ∧ b = d := by
  obtain ⟨neg, t, o, rfl, ht, hn⟩ := word_parts l
  exact rdp_uniq ((rd_iff ht hn).mp h) ((rd_iff ht hn).mp g)
/-- no more than forty digits one behind the other -/
def NoLong (l : List Nat) : Prop := ∀ u d v : List Nat, l = u ++ d ++ v → (∀ c ∈ d, IsDig c) → d.length ≤ 40
theorem NoLong.sub {l m u v : List Nat} (h : NoLong l) (e : l = u ++ m ++ v) : NoLong m := fun a d b e2 hd => h (u ++ a) d (b ++ v) (by rw [e, e2]; simp [List.append_assoc]) hd
theorem NoLong.len {l : List Nat} (h : NoLong l) (hd : ∀ c ∈ l, IsDig c) : l.length ≤ 40 := h [] l [] (by simp) hd
theorem val_40 {l : List Nat} (hd : ∀ c ∈ l, IsDig c) (h : l.length ≤ 40) : NumText.digitsVal l < 10 ^ 40 := Nat.lt_of_lt_of_le (val_lt hd) (Nat.pow_le_pow_right (by decide) h)
theorem num_len40 {n : Nat} (h : n < 10 ^ 40) : (TL.numL n).length ≤ 40 := TL.numL_len (by decide) h

/-! ### trees, their texts, the reader and the stack of what is due: lists of code points -/
inductive Tr where
  | leaf
  | mot (n : Nat)
  | spl (n : Nat) (a b : Tr)
def Tr.dep : Tr → Nat
  | .leaf => 1
  | .mot _ => 1
  | .spl _ a b => 1 + max a.dep b.dep
/-- all its numbers have at most forty digits -/
def Tr.sm : Tr → Prop
  | .leaf => True
  | .mot n => n < 10 ^ 40
  | .spl n a b => n < 10 ^ 40 ∧ a.sm ∧ b.sm
def trL : Tr → List Nat
  | .leaf => [46]
  | .mot n => TL.numL n
  | .spl n a b => 40 :: (TL.numL n ++ (32 :: (trL a ++ (32 :: (trL b ++ [41])))))
theorem Tr.dep_pos (t : Tr) : 1 ≤ t.dep := by
  cases t <;> simp [Tr.dep] <;> omega
def skp : Nat → List Nat → List Nat
  | _, [] => []
  | g, c :: r => if 0 < g ∧ IsDig c then skp (g - 1) r else c :: r
def tkn : Nat → List Nat → List Nat
  | _, [] => []
  | g, c :: r => if 0 < g ∧ IsDig c then c :: tkn (g - 1) r else []
def gap (c : Nat) : Nat := if c = 48 then 0 else 39
def rdn : List Nat → List Nat ⊕ (Nat × List Nat)
  | [] => .inl []
  | c :: r => if IsDig c then .inr (NumText.digitsVal (c :: tkn (gap c) r), skp (gap c) r) else .inl (c :: r)
def bhd (s : Nat) : List Nat → List Nat ⊕ List Nat
  | [] => .inl []
  | c :: r => if c = s then .inr r else .inl (c :: r)
def bnd {α β ε : Type} (x : ε ⊕ α) (f : α → ε ⊕ β) : ε ⊕ β := match x with | .inl e => .inl e | .inr a => f a
def prs : Nat → List Nat → List Nat ⊕ (Tr × List Nat)
  | 0, l => .inl l
  | _ + 1, [] => .inl []
  | k + 1, c :: r =>
    if c = 46 then .inr (.leaf, r)
    else if c ≠ 40 ∨ k = 0 then bnd (rdn (c :: r)) fun q => .inr (.mot q.1, q.2)
    else bnd (rdn r) fun q => bnd (bhd 32 q.2) fun r2 => bnd (prs k r2) fun p => bnd (bhd 32 p.2) fun r4 => bnd (prs k r4) fun p2 => bnd (bhd 41 p2.2) fun r6 => .inr (.spl q.1 p.1 p2.1, r6)
/-- what is due: a number, a tree at a depth, a sign -/
inductive Due where
  | num
  | tree (w : Nat)
  | sgn (c : Nat)
def aut (due : List Due) (g : Nat) : List Nat → Option (List Nat)
  | [] => if due.isEmpty then none else some []
  | c :: r =>
    if 0 < g ∧ IsDig c then aut due (g - 1) r
    else match due with
      | [] => some (c :: r)
      | .num :: d => if IsDig c then aut d (gap c) r else some (c :: r)
      | .sgn s :: d => if c = s then aut d 0 r else some (c :: r)
      | .tree w :: d => if IsDig c then aut d (gap c) r else if c = 40 ∧ w < 12 then aut (.num :: .sgn 32 :: .tree (w + 1) :: .sgn 32 :: .tree (w + 1) :: .sgn 41 :: d) 0 r else if c = 46 then aut d 0 r else some (c :: r)
theorem aut_go {due : List Due} {g c : Nat} {r : List Nat} (h : 0 < g ∧ IsDig c) : aut due g (c :: r) = aut due (g - 1) r := by
  rw [aut.eq_def]
  dsimp only
  rw [if_pos h]
theorem aut_stop {due : List Due} {g c : Nat} {r : List Nat} (h : ¬ (0 < g ∧ IsDig c)) : aut due g (c :: r) = aut due 0 (c :: r) := by
  rw [aut.eq_def, aut.eq_def due 0]
  dsimp only
  rw [if_neg h, if_neg (show ¬ (0 < 0 ∧ IsDig c) by omega)]
theorem aut_skp (due : List Due) : ∀ (l : List Nat) (g : Nat), aut due g l = aut due 0 (skp g l)
  | [], g => by
    unfold skp
    rw [aut.eq_def, aut.eq_def due 0]
  | c :: r, g => by
    by_cases h : 0 < g ∧ IsDig c
    · have e2 : skp g (c :: r) = skp (g - 1) r := by
        rw [skp, if_pos h]
      rw [aut_go h, e2]
      exact aut_skp due r (g - 1)
    · have e2 : skp g (c :: r) = c :: r := by
        rw [skp, if_neg h]
      rw [e2]
      exact aut_stop h
theorem aut_num (d : List Due) (l : List Nat) : aut (.num :: d) 0 l = match rdn l with | .inl e => some e | .inr q => aut d 0 q.2 := by
  cases l with
  | nil => simp [aut, rdn]
  | cons c r =>
    rw [aut, if_neg (by omega)]
    unfold rdn
    by_cases h : IsDig c
    · rw [if_pos h]
      simp only [if_pos h]
      exact aut_skp d r (gap c)
    · rw [if_neg h]
      simp only [if_neg h]
theorem aut_sgn (s : Nat) (d : List Due) (l : List Nat) : aut (.sgn s :: d) 0 l = match bhd s l with | .inl e => some e | .inr r => aut d 0 r := by
  cases l with
  | nil => simp [aut, bhd]
  | cons c r =>
    rw [aut, if_neg (by omega)]
    unfold bhd
    by_cases h : c = s
    · rw [if_pos h]
      simp only [if_pos h]
    · rw [if_neg h]
      simp only [if_neg h]
theorem aut_t {w c : Nat} {d : List Due} {r : List Nat} : aut (.tree w :: d) 0 (c :: r) = if IsDig c then aut d (gap c) r else if c = 40 ∧ w < 12 then aut (.num :: .sgn 32 :: .tree (w + 1) :: .sgn 32 :: .tree (w + 1) :: .sgn 41 :: d) 0 r else if c = 46 then aut d 0 r else some (c :: r) := by
  rw [aut.eq_def]
  dsimp only
  rw [if_neg (show ¬ (0 < 0 ∧ IsDig c) by omega)]
theorem aut_tree : ∀ (k w : Nat) (d : List Due) (l : List Nat), k + w = 12 → aut (.tree w :: d) 0 l = match prs (k + 1) l with | .inl e => some e | .inr p => aut d 0 p.2
  | k, w, d, [], _ => by simp [aut, prs]
  | k, w, d, c :: r, hk => by
    rw [aut_t]
    unfold prs
    by_cases h46 : c = 46
    · have n1 : ¬ IsDig c := by
        rw [h46]
        exact not_dig (by decide)
      have n2 : ¬ (c = 40 ∧ w < 12) := by omega
      simp only [if_pos h46, if_neg n1, if_neg n2]
    · by_cases hd : IsDig c
      · have hne : c ≠ 40 ∨ k = 0 := .inl fun z => by
          subst z
          exact not_dig (by decide) hd
        simp only [if_pos hd, if_neg h46, if_pos hne, rdn, bnd]
        exact aut_skp d r (gap c)
      · by_cases h40 : c = 40 ∧ w < 12
        · obtain ⟨k', rfl⟩ : ∃ k', k = k' + 1 := ⟨k - 1, by omega⟩
          have hne : ¬ (c ≠ 40 ∨ k' + 1 = 0) := by omega
          simp only [if_neg hd, if_neg h46, if_pos h40, if_neg hne]
          rw [aut_num]
          cases e1 : rdn r with
          | inl e => rfl
          | inr q =>
            show aut (.sgn 32 :: .tree (w + 1) :: .sgn 32 :: .tree (w + 1) :: .sgn 41 :: d) 0 q.2 = _
            rw [aut_sgn]
            unfold bnd
            dsimp only
            cases e2 : bhd 32 q.2 with
            | inl e => rfl
            | inr r2 =>
              dsimp only
              rw [aut_tree k' (w + 1) _ r2 (by omega)]
              cases e3 : prs (k' + 1) r2 with
              | inl e => rfl
              | inr p =>
                dsimp only
                rw [aut_sgn]
                cases e4 : bhd 32 p.2 with
                | inl e => rfl
                | inr r4 =>
                  dsimp only
                  rw [aut_tree k' (w + 1) _ r4 (by omega)]
                  cases e5 : prs (k' + 1) r4 with
                  | inl e => rfl
                  | inr p2 =>
                    dsimp only
                    rw [aut_sgn]
                    cases e6 : bhd 41 p2.2 with
                    | inl e => rfl
                    | inr r6 => rfl
        · have hne : c ≠ 40 ∨ k = 0 := by omega
          simp only [if_neg hd, if_neg h46, if_neg h40, if_pos hne, rdn, bnd]
/-- the two readers agree -/
theorem aut_prs (l : List Nat) : aut [.tree 1] 0 l = match prs 12 l with | .inl e => some e | .inr p => if p.2 = [] then none else some p.2 := by
  rw [aut_tree 11 1 [] l rfl]
  cases prs 12 l with
  | inl e => rfl
  | inr p =>
    dsimp only
    cases e : p.2 with
    | nil => rfl
    | cons c r =>
      rw [aut, if_neg (by omega), if_neg (by simp)]
theorem skp_tkn : ∀ (l : List Nat) (g : Nat), tkn g l ++ skp g l = l ∧ (∀ c ∈ tkn g l, IsDig c) ∧ (tkn g l).length ≤ g
  | [], g => ⟨rfl, by simp [tkn], by simp [tkn]⟩
  | c :: r, g => by
    unfold tkn skp
    by_cases h : 0 < g ∧ IsDig c
    · rw [if_pos h, if_pos h]
      obtain ⟨i, j, k⟩ := skp_tkn r (g - 1)
      refine ⟨by rw [List.cons_append, i], fun d hd => ?_, ?_⟩
      · rcases List.mem_cons.mp hd with z | z
        · rw [z]
          exact h.2
        · exact j d z
      · rw [List.length_cons]
        omega
    · rw [if_neg h, if_neg h]
      exact ⟨rfl, by simp, by simp⟩
theorem word_ww {c : Nat} {r : List Nat} (h : IsDig c) : WW (c :: tkn (gap c) r) ∧ (c :: tkn (gap c) r).length ≤ 40 := by
  obtain ⟨_, j, k⟩ := skp_tkn r (gap c)
  have k2 : gap c ≤ 39 := by unfold gap; split <;> omega
  refine ⟨⟨fun d hd => ?_, by simp, fun z => ?_⟩, ?_⟩
  · rcases List.mem_cons.mp hd with z | z
    · rw [z]
      exact h
    · exact j d z
  · have : c = 48 := by
      injection z
    unfold gap at k
    rw [if_pos this] at k
    unfold gap
    rw [if_pos this, List.length_cons]
    omega
  · rw [List.length_cons]
    omega
theorem rdn_ok {l r : List Nat} {n : Nat} (h : rdn l = .inr (n, r)) : l = TL.numL n ++ r ∧ n < 10 ^ 40 := by
  cases l with
  | nil => cases h
  | cons c r0 =>
    unfold rdn at h
    dsimp only at h
    by_cases hd : IsDig c
    · rw [if_pos hd] at h
      injection h with h
      injection h with h1 h2
      obtain ⟨w, wl⟩ := word_ww (r := r0) hd
      subst h1 h2
      rw [ww_num w]
      refine ⟨?_, Nat.lt_of_lt_of_le (val_lt w.1) (Nat.pow_le_pow_right (by decide) wl)⟩
      rw [List.cons_append, (skp_tkn r0 (gap c)).1]
    · rw [if_neg hd] at h
      cases h
theorem rdn_suf {l e : List Nat} (h : rdn l = .inl e) : e = l := by
  cases l with
  | nil => cases h; rfl
  | cons c r0 =>
    unfold rdn at h
    dsimp only at h
    by_cases hd : IsDig c
    · rw [if_pos hd] at h
      cases h
    · rw [if_neg hd] at h
      cases h
      rfl
theorem bhd_ok {s : Nat} {l r : List Nat} (h : bhd s l = .inr r) : l = s :: r := by
  cases l with
  | nil => cases h
  | cons c r0 =>
    unfold bhd at h
    dsimp only at h
    by_cases hd : c = s
    · rw [if_pos hd] at h
      cases h
      rw [hd]
    · rw [if_neg hd] at h
      cases h
theorem bhd_suf {s : Nat} {l e : List Nat} (h : bhd s l = .inl e) : e = l := by
  cases l with
  | nil => cases h; rfl
  | cons c r0 =>
    unfold bhd at h
    dsimp only at h
    by_cases hd : c = s
    · rw [if_pos hd] at h
      cases h
    · rw [if_neg hd] at h
      cases h
      rfl
theorem bnd_r {α β ε : Type} {a : α} {f : α → ε ⊕ β} : bnd (.inr a) f = f a := rfl
theorem bnd_inr {α β ε : Type} {x : ε ⊕ α} {f : α → ε ⊕ β} {y : β} (h : bnd x f = .inr y) : ∃ a, x = .inr a ∧ f a = .inr y := by
  cases x with
  | inl e => cases h
  | inr a => exact ⟨a, rfl, h⟩
theorem bnd_inl {α β ε : Type} {x : ε ⊕ α} {f : α → ε ⊕ β} {y : ε} (h : bnd x f = .inl y) : x = .inl y ∨ ∃ a, x = .inr a ∧ f a = .inl y := by
  cases x with
  | inl e =>
    left
    injection h with h
    rw [h]
  | inr a => exact .inr ⟨a, rfl, h⟩
theorem prs_ok : ∀ (k : Nat) {l r : List Nat} {t : Tr}, prs k l = .inr (t, r) → l = trL t ++ r ∧ t.dep ≤ k ∧ t.sm
  | 0, l, r, t, h => by cases h
  | k + 1, [], r, t, h => by cases h
  | k + 1, c :: r0, r, t, h => by
    unfold prs at h
    by_cases h46 : c = 46
    · rw [if_pos h46] at h
      injection h with h
      injection h with h1 h2
      subst h1 h2 h46
      exact ⟨rfl, by simp [Tr.dep], trivial⟩
    · rw [if_neg h46] at h
      by_cases h2 : c ≠ 40 ∨ k = 0
      · rw [if_pos h2] at h
        obtain ⟨⟨n, q⟩, e1, e2⟩ := bnd_inr h
        obtain ⟨i, j⟩ := rdn_ok e1
        injection e2 with e2
        injection e2 with e2 e3
        subst e2 e3
        exact ⟨i, by simp [Tr.dep], j⟩
      · rw [if_neg h2] at h
        have c40 : c = 40 := by omega
        obtain ⟨⟨n, q⟩, e1, h⟩ := bnd_inr h
        obtain ⟨r2, e2, h⟩ := bnd_inr h
        obtain ⟨⟨t1, r3⟩, e3, h⟩ := bnd_inr h
        obtain ⟨r4, e4, h⟩ := bnd_inr h
        obtain ⟨⟨t2, r5⟩, e5, h⟩ := bnd_inr h
        obtain ⟨r6, e6, h⟩ := bnd_inr h
        injection h with h
        injection h with h1 h2
        obtain ⟨i1, j1⟩ := rdn_ok e1
        have i2 := bhd_ok e2
        obtain ⟨i3, j3, s3⟩ := prs_ok k e3
        have i4 := bhd_ok e4
        obtain ⟨i5, j5, s5⟩ := prs_ok k e5
        have i6 := bhd_ok e6
        dsimp only at i2 i4 i6
        subst h1 h2
        refine ⟨?_, by simp only [Tr.dep]; omega, j1, s3, s5⟩
        rw [i1, i2, i3, i4, i5, i6, c40]
        simp [trL]
/-- what is left is an end of the text -/
theorem prs_suf : ∀ (k : Nat) {l e : List Nat}, prs k l = .inl e → ∃ u, l = u ++ e
  | 0, l, e, h => by
    cases h
    exact ⟨[], rfl⟩
  | k + 1, [], e, h => by
    cases h
    exact ⟨[], rfl⟩
  | k + 1, c :: r0, e, h => by
    unfold prs at h
    by_cases h46 : c = 46
    · rw [if_pos h46] at h
      cases h
    · rw [if_neg h46] at h
      by_cases h2 : c ≠ 40 ∨ k = 0
      · rw [if_pos h2] at h
        rcases bnd_inl h with e1 | ⟨_, _, e1⟩
        · exact ⟨[], (rdn_suf e1).symm⟩
        · cases e1
      · rw [if_neg h2] at h
        rcases bnd_inl h with z | ⟨⟨n, q⟩, e1, h⟩
        · exact ⟨[c], by rw [rdn_suf z]; rfl⟩
        have i1 := (rdn_ok e1).1
        rcases bnd_inl h with z | ⟨r2, e2, h⟩
        · exact ⟨c :: TL.numL n, by rw [i1, bhd_suf z]; rfl⟩
        have i2 := bhd_ok e2
        dsimp only at i2
        rcases bnd_inl h with z | ⟨⟨t1, r3⟩, e3, h⟩
        · obtain ⟨u, hu⟩ := prs_suf k z
          exact ⟨c :: (TL.numL n ++ 32 :: u), by rw [i1, i2, hu]; simp⟩
        have i3 := (prs_ok k e3).1
        rcases bnd_inl h with z | ⟨r4, e4, h⟩
        · exact ⟨c :: (TL.numL n ++ 32 :: trL t1), by rw [i1, i2, i3, bhd_suf z]; simp⟩
        have i4 := bhd_ok e4
        dsimp only at i4
        rcases bnd_inl h with z | ⟨⟨t2, r5⟩, e5, h⟩
        · obtain ⟨u, hu⟩ := prs_suf k z
          exact ⟨c :: (TL.numL n ++ 32 :: (trL t1 ++ 32 :: u)), by rw [i1, i2, i3, i4, hu]; simp⟩
        have i5 := (prs_ok k e5).1
        rcases bnd_inl h with z | ⟨r6, e6, h⟩
        · exact ⟨c :: (TL.numL n ++ 32 :: (trL t1 ++ 32 :: trL t2)), by rw [i1, i2, i3, i4, i5, bhd_suf z]; simp⟩
        cases h
def NoDigHead (r : List Nat) : Prop := ∀ c, r.head? = some c → ¬ IsDig c
theorem tkn_all : ∀ {u r : List Nat} {g : Nat}, (∀ c ∈ u, IsDig c) → u.length ≤ g → NoDigHead r → tkn g (u ++ r) = u ∧ skp g (u ++ r) = r
  | [], [], g, _, _, _ => ⟨rfl, rfl⟩
  | [], c :: r, g, _, _, h => by
    have n : ¬ (0 < g ∧ IsDig c) := fun z => h c rfl z.2
    show tkn g (c :: r) = [] ∧ skp g (c :: r) = c :: r
    unfold tkn skp
    rw [if_neg n, if_neg n]
    exact ⟨rfl, rfl⟩
  | c :: u, r, g, hd, hl, h => by
    rw [List.length_cons] at hl
    have y : 0 < g ∧ IsDig c := ⟨by omega, hd c (List.mem_cons_self ..)⟩
    obtain ⟨i, j⟩ := tkn_all (u := u) (r := r) (g := g - 1) (fun d e => hd d (List.mem_cons_of_mem _ e)) (by omega) h
    show tkn g (c :: (u ++ r)) = c :: u ∧ skp g (c :: (u ++ r)) = r
    unfold tkn skp
    rw [if_pos y, if_pos y]
    exact ⟨by rw [i], j⟩
theorem rdn_num {n : Nat} {r : List Nat} (h : n < 10 ^ 40) (hr : NoDigHead r) : rdn (TL.numL n ++ r) = .inr (n, r) := by
  have w := num_ww n
  have l := num_len40 h
  have v := TL.numL_val n
  cases e : TL.numL n with
  | nil => exact absurd e (TL.numL_ne n)
  | cons c u =>
    rw [e] at w l v
    have hc := w.1 c (List.mem_cons_self ..)
    rw [List.length_cons] at l
    have g : u.length ≤ gap c := by
      unfold gap
      split
      · next z =>
        have := w.2.2 (by rw [z]; rfl)
        rw [List.length_cons] at this
        omega
      · omega
    obtain ⟨i, j⟩ := tkn_all (u := u) (r := r) (fun d z => w.1 d (List.mem_cons_of_mem _ z)) g hr
    show rdn (c :: (u ++ r)) = _
    unfold rdn
    dsimp only
    rw [if_pos hc, i, j, v]
theorem nodig_cons {c : Nat} {r : List Nat} (h : ¬ IsDig c) : NoDigHead (c :: r) := fun d e => by
  injection e with e
  rw [← e]
  exact h
theorem nodig_nil : NoDigHead [] := fun _ e => by cases e
theorem bhd_hit {s : Nat} {r : List Nat} : bhd s (s :: r) = .inr r := if_pos rfl
theorem trL_cons (t : Tr) : ∃ c r, trL t = c :: r := by
  cases t with
  | leaf => exact ⟨_, _, rfl⟩
  | mot n =>
    cases e : TL.numL n with
    | nil => exact absurd e (TL.numL_ne n)
    | cons c u => exact ⟨c, u, e⟩
  | spl n a b => exact ⟨_, _, rfl⟩
theorem prs_tr : ∀ (k : Nat) (t : Tr) (r : List Nat), t.dep ≤ k → t.sm → NoDigHead r → prs k (trL t ++ r) = .inr (t, r)
  | 0, t, r, h, _, _ => by
    have := t.dep_pos
    omega
  | k + 1, .leaf, r, _, _, _ => rfl
  | k + 1, .mot n, r, _, hs, hr => by
    have e := rdn_num hs hr
    cases e0 : TL.numL n with
    | nil => exact absurd e0 (TL.numL_ne n)
    | cons c u =>
      have hc : IsDig c := (num_ww n).1 c (by rw [e0]; exact List.mem_cons_self ..)
      show prs (k + 1) (TL.numL n ++ r) = _
      rw [e0] at e ⊢
      rw [List.cons_append] at e ⊢
      unfold prs
      rw [if_neg (fun z => not_dig (by decide) (z ▸ hc)), if_pos (.inl fun z => not_dig (by decide) (z ▸ hc)), e]
      rfl
  | k + 1, .spl n a b, r, h, hs, hr => by
    simp only [Tr.dep] at h
    obtain ⟨h1, h2, h3⟩ := hs
    have pa := a.dep_pos
    have e : trL (.spl n a b) ++ r = 40 :: (TL.numL n ++ (32 :: (trL a ++ (32 :: (trL b ++ (41 :: r)))))) := by simp [trL]
    rw [e]
    unfold prs
    rw [if_neg (by decide), if_neg (by omega), rdn_num h1 (nodig_cons (not_dig (by decide))), bnd_r]
    dsimp only
    rw [bhd_hit, bnd_r, prs_tr k a _ (by omega) h2 (nodig_cons (not_dig (by decide))), bnd_r]
    dsimp only
    rw [bhd_hit, bnd_r, prs_tr k b _ (by omega) h3 (nodig_cons (not_dig (by decide))), bnd_r]
    dsimp only
    rw [bhd_hit, bnd_r]
theorem prs_whole {t : Tr} {k : Nat} (h : t.dep ≤ k) (hs : t.sm) : prs k (trL t) = .inr (t, []) := by
  have := prs_tr k t [] h hs nodig_nil
  rw [List.append_nil] at this
  exact this
/-- a text that is nested too deep is wrong somewhere -/
theorem aut_deep {t : Tr} (h : 12 < t.dep) (hs : t.sm) : ∃ e, aut [.tree 1] 0 (trL t) = some e := by
  rw [aut_prs]
  cases e : prs 12 (trL t) with
  | inl x => exact ⟨x, rfl⟩
  | inr p =>
    dsimp only
    by_cases z : p.2 = []
    · obtain ⟨t2, r⟩ := p
      have z : r = [] := z
      subst z
      obtain ⟨i, j, k⟩ := prs_ok 12 e
      rw [List.append_nil] at i
      have e1 := prs_whole (Nat.le_refl t.dep) hs
      rw [i, prs_whole (by omega) k] at e1
      injection e1 with e1
      injection e1 with e1
      rw [e1] at j
      omega
    · exact ⟨p.2, if_neg z⟩
def trD : Tr → PyData
  | .leaf => .tuple [.str "leaf"]
  | .mot n => .tuple [.str "motion", .int (n : Int)]
  | .spl n a b => .tuple [.str "split", .int (n : Int), trD a, trD b]
theorem str_ne1 : ("leaf" : Str) ≠ "motion" := by decide
theorem trD_inj : ∀ {a b : Tr}, trD a = trD b → a = b
  | .leaf, .leaf, _ => rfl
  | .leaf, .mot _, h => by simp [trD] at h
  | .leaf, .spl _ _ _, h => by simp [trD] at h
  | .mot _, .leaf, h => by simp [trD] at h
  | .mot m, .mot n, h => by
    simp [trD] at h
    have h : (m : Int) = (n : Int) := h
    obtain rfl : m = n := by omega
    rfl
  | .mot _, .spl _ _ _, h => by simp [trD] at h
  | .spl _ _ _, .leaf, h => by simp [trD] at h
  | .spl _ _ _, .mot _, h => by simp [trD] at h
  | .spl m a b, .spl n c d, h => by
    simp [trD] at h
    have h1 : (m : Int) = (n : Int) := h.1
    obtain rfl : m = n := by omega
    rw [trD_inj h.2.1, trD_inj h.2.2]
theorem trL_len : ∀ (k : Nat) (t : Tr), t.dep ≤ k → t.sm → (trL t).length + 44 ≤ 84 * 2 ^ (k - 1)
  | 0, t, h, _ => by
    have := t.dep_pos
    omega
  | k + 1, .leaf, _, _ => by
    have : 1 ≤ 2 ^ k := Nat.two_pow_pos k
    simp [trL]
    omega
  | k + 1, .mot n, _, hs => by
    have : 1 ≤ 2 ^ k := Nat.two_pow_pos k
    have := num_len40 hs
    simp only [trL, Nat.add_sub_cancel]
    omega
  | k + 1, .spl n a b, h, hs => by
    simp only [Tr.dep] at h
    have pa := a.dep_pos
    have ha := trL_len k a (by omega) hs.2.1
    have hb := trL_len k b (by omega) hs.2.2
    have hn := num_len40 hs.1
    obtain ⟨j, rfl⟩ : ∃ j, k = j + 1 := ⟨k - 1, by omega⟩
    simp only [trL, List.length_cons, List.length_append, List.length_nil, Nat.add_sub_cancel] at ha hb ⊢
    have : 2 ^ (j + 1) = 2 * 2 ^ j := by rw [Nat.pow_succ]; omega
    omega

/-! ### texts: signs -/
/-- BadText raised with its place -/
def BadE (C : Addr) (n : Int) (H : Hp) (E : XK) : Prop := ∀ H' d, Same H H' → H' d = some (.xd [("at", .int n)]) → E (.ref C) (some d) H'
theorem BadE.same {C : Addr} {n : Int} {H H1 : Hp} {E : XK} (h : BadE C n H E) (S : Same H H1) : BadE C n H1 E := fun H' d s e => h H' d (S.trans s) e
def TB : Nat := 350000
theorem sz_txt {n : Nat} (h : n ≤ TB) : n ≤ sizeLine := Nat.le_trans h (by decide)
theorem w_istr {te : TE} {σ : L2.St} {H : Hp} {R : It → Hp → Prop} (h : te σ H fun v H1 => ∃ x, v = .str x ∧ R (Its x) H1) : iStr te σ H R := h
/-- a loop over the signs of a text -/
theorem lp_str {l : List Nat} {g : TG} {tb : TS} {D : Ends} {σ : L2.St} {H : Hp} (Pv : Nat → L2.St → Hp → Prop) (h0 : Pv 0 σ H) (hs : ∀ (i : Nat) (c : Nat) σ H', l[i]? = some c → Pv i σ H' → g (.str (SX.S [c])) σ H' fun σ2 H2 => tb { D with nx := Pv (i + 1), ct := Pv (i + 1), bk := D.nx } σ2 H2) (hd : ∀ σ H', Pv l.length σ H' → D.nx σ H') : LoopG (Its (SX.S l)) g tb D σ H := by
  refine ⟨fun i m σ H => i ≤ l.length ∧ m = l.length - i ∧ Pv i σ H, ⟨l.length, by omega, by omega, h0⟩, fun i m σ H' ⟨h1, h2, h3⟩ => ?_⟩
  by_cases e : i = l.length
  · subst e
    exact .inl ⟨by show l.toArray.size ≤ _; rw [List.size_toArray]; omega, hd σ H' h3⟩
  · have hi : i < l.length := by omega
    refine .inr ⟨by show i < l.toArray.size; rw [List.size_toArray]; omega, fun σ' H'' => Pv (i + 1) σ' H'', fun σ' H'' hp => ⟨m - 1, by omega, by omega, by omega, hp⟩, fun v H'' y => ?_⟩
    obtain ⟨rfl, c, ec, rfl⟩ := y
    exact hs i c σ H'' (by rw [List.getElem?_toArray] at ec; exact ec) h3
theorem digs {c : Nat} : c ∈ ("0123456789" : Str).cps.toList ↔ IsDig c := by
  have e : ("0123456789" : Str).cps.toList = [48, 49, 50, 51, 52, 53, 54, 55, 56, 57] := by decide
  rw [e]
  unfold IsDig
  simp only [List.mem_cons, List.not_mem_nil, or_false]
  omega
theorem len_s {l : List Nat} {H : Hp} {Q : VK} (hl : l.length ≤ TB) (h : Q (.int (l.length : Int)) H) : rLenS [.str (SX.S l)] H Q := ⟨SX.S l, rfl, by rw [SX.S_len]; exact sz_txt hl, by rw [SX.S_len]; exact h⟩
/-- where the end r of the text l begins -/
def pos (l r : List Nat) : Int := (l.length : Int) - (r.length : Int)
def Suf (r l : List Nat) : Prop := ∃ u, l = u ++ r
theorem Suf.len {r l : List Nat} (h : Suf r l) : r.length ≤ l.length := by
  obtain ⟨u, rfl⟩ := h
  rw [List.length_append]
  omega
theorem Suf.tail {c : Nat} {r l : List Nat} (h : Suf (c :: r) l) : Suf r l := by
  obtain ⟨u, rfl⟩ := h
  exact ⟨u ++ [c], by simp⟩
theorem Suf.app {u r l : List Nat} (h : Suf (u ++ r) l) : Suf r l := by
  obtain ⟨v, rfl⟩ := h
  exact ⟨v ++ u, by simp⟩
theorem Suf.refl (l : List Nat) : Suf l l := ⟨[], rfl⟩
theorem pos_self {l : List Nat} : pos l l = 0 := by
  unfold pos
  omega
theorem pos_nil {l : List Nat} : pos l [] = (l.length : Int) := by
  unfold pos
  simp
theorem pos_tail {l r : List Nat} {c : Nat} : pos l r = pos l (c :: r) + 1 := by
  unfold pos
  rw [List.length_cons]
  omega
theorem pos_at {l r : List Nat} {c : Nat} (h : Suf (c :: r) l) : atI l (pos l (c :: r)) = some c := by
  have hl := h.len
  obtain ⟨u, rfl⟩ := h
  have e : pos (u ++ c :: r) (c :: r) = (u.length : Int) := by
    unfold pos
    rw [List.length_append]
    omega
  rw [e]
  exact atI_nat (by rw [List.getElem?_append_right (Nat.le_refl _), Nat.sub_self]; rfl)
theorem ix_s {l r : List Nat} {c : Nat} {i : Int} {H : Hp} {Q : VK} (hi : i = pos l (c :: r)) (h : Suf (c :: r) l) (hl : l.length ≤ TB) (q : Q (.str (SX.S [c])) H) : rIxS (.str (SX.S l)) (.int i) H Q :=
  ⟨SX.S l, i, c, rfl, rfl, by rw [SX.S_len]; exact sz_txt hl, by rw [hi]; exact pos_at h, q⟩
theorem in_s {c : Nat} {H : Hp} {Q : VK} (q : Q (.bl (decide (IsDig c))) H) : rInS (.str (SX.S [c])) (.str "0123456789") H Q := ⟨c, _, rfl, rfl, by rw [show decide (c ∈ ("0123456789" : Str).cps.toList) = decide (IsDig c) from decide_eq_decide.mpr digs]; exact q⟩
theorem notin_s {c : Nat} {H : Hp} {Q : VK} (q : Q (.bl (!decide (IsDig c))) H) : rNotInS (.str (SX.S [c])) (.str "0123456789") H Q := ⟨c, _, rfl, rfl, by rw [show decide (c ∈ ("0123456789" : Str).cps.toList) = decide (IsDig c) from decide_eq_decide.mpr digs]; exact q⟩
theorem str_dec {x y : Str} {p : Prop} [Decidable p] (h : x = y ↔ p) : decide (V.str x = V.str y) = decide p := decide_eq_decide.mpr ⟨fun z => h.mp (by injection z), fun z => by rw [h.mpr z]⟩
theorem eq_s {l m : List Nat} {x y : Str} {H : Hp} {Q : VK} (hx : x = SX.S l) (hy : y = SX.S m) (q : Q (.bl (decide (l = m))) H) : rEq (.str x) (.str y) H Q := ⟨rfl, by rw [str_dec (x := x) (y := y) (p := l = m) (by rw [hx, hy]; exact ⟨SX.S_inj, fun z => by rw [z]⟩)]; exact q⟩
theorem ne_s {l m : List Nat} {x y : Str} {H : Hp} {Q : VK} (hx : x = SX.S l) (hy : y = SX.S m) (q : Q (.bl (!decide (l = m))) H) : rNe (.str x) (.str y) H Q := ⟨rfl, by rw [str_dec (x := x) (y := y) (p := l = m) (by rw [hx, hy]; exact ⟨SX.S_inj, fun z => by rw [z]⟩)]; exact q⟩
theorem one_eq {c d : Nat} : ([c] = [d]) ↔ c = d := by simp
/-- x[:1] == one sign -/
theorem starts1 {l : List Nat} {s : Nat} {x y : Str} (hx : x = SX.S l) (hy : y = SX.S [s]) : Txt.startswith x y = decide (l.head? = some s) := by
  subst hx hy
  have a : TL.pre [s] l = decide (l.head? = some s) := by
    cases l with
    | nil => rfl
    | cons c r =>
      show ([c] == [s]) = decide (some c = some s)
      by_cases h : c = s
      · subst h
        rw [decide_eq_true rfl]
        exact beq_self_eq_true _
      · rw [decide_eq_false (fun z => h (by injection z))]
        exact beq_eq_false_iff_ne.mpr fun z => h (by injection z)
  rw [← a]
  have b := TL.at_iff (x := SX.S l) (y := SX.S [s]) (by simp) 0
  rw [List.drop_zero] at b
  unfold Txt.startswith
  rw [Bool.eq_iff_iff, Bool.and_eq_true, decide_eq_true_iff]
  exact b
theorem w_m1 {r : V → List V → Hp → VK → Prop} {to te : TE} {σ : L2.St} {H : Hp} {Q : VK} (h : to σ H fun x H1 => (∃ a, x = .str a) ∧ te σ H1 fun y H2 => r x [y] H2 Q) : tM1 r to te σ H Q := h
theorem starts_s {l : List Nat} {s : Nat} {x y : Str} {H : Hp} {Q : VK} (hx : x = SX.S l) (hy : y = SX.S [s]) (h : Q (.bl (decide (l.head? = some s))) H) : rStarts (.str x) [.str y] H Q := ⟨x, y, rfl, rfl, by rw [starts1 hx hy]; exact h⟩
abbrev sp_signat (C : Addr) : Sp := fun vs H Q E => ∃ (l r : List Nat), vs = [.str (SX.S l), .int (pos l r)] ∧ l.length ≤ TB ∧ Suf r l ∧ (∀ c r', r = c :: r' → ∀ H', Same H H' → Q (.str (SX.S [c])) H') ∧ (r = [] → BadE C (pos l r + 1) H E)
section
variable {P : Program} {w : World} {K : PySem.W.Frag} {mg : Str → Option Value} {base : Heap}
theorem ok_sign_at {f C : Addr} {fd : FuncData} (F : Fun K "sign_at" "sign_at" s_sign_at f fd) (nb : Nb mg) (c_BadText : ExF P w K mg base "BadText" C ["self", "at"] (sp_ini1 K C "at")) (hno : PySem.W.findIn K (.ref C) "at" = some none) : FnOk P w K mg base (L2.CX P w) 3 f fd ["text", "at"] (sp_signat C) := by
  have sc := sc_sign_at
  refine F.okX sc (fun vs H Q E h => ?_) (fun cdv A outer s H vs Q E hr h => ?_)
  · obtain ⟨l, r, rfl, _⟩ := h
    rfl
  · obtain ⟨l, r, rfl, hl, hs, yes, no⟩ := h
    refine ⟨_, (pss_cons (ps_if (pt_cmpR op_ge (pv 1) (pe_callB cq_lenS (by rfl) nb.len (by decide +kernel) (pa_cons (pv 0) pa_nil)) (nomark _)) (pss_one (ps_raise rfl (takes_of rfl rfl rfl rfl) (pmkA c_BadText (hr.mono (by decide)) (by rfl) (pa_cons (pe_op op_add (pe_callB cq_lenS (by rfl) nb.len (by decide +kernel) (pa_cons (pv 0) pa_nil)) pe_int) pa_nil)))) pss_nil)
    (pss_one (ps_ret (pe_ix ix_str (pv 0) (pv 1) (fun _ _ => rfl))))), ?_⟩
    (rw [show start ["text", "at"] [.str (SX.S l), .int (pos l r)] = [some (.str (SX.S l)), some (.int (pos l r))] from rfl]; try dsimp only [cxOf])
    walk_at "v"
    refine len_s hl ?_
    walk_at "v"
    refine w_ifd (fun h => ?_) (fun h => ?_)
    · refine w_mko ?_
      walk_at "v"
      refine len_s hl ?_
      walk_at "v"
      have e : r = [] := by
        unfold pos at h
        exact List.eq_nil_of_length_eq_zero (by omega)
      subst e
      refine mk_ini1 c_BadText.T hno fun d H2 S hd => no rfl H2 d S ?_
      rw [pos_nil]
      exact hd
    · walk_at "v"
      cases r with
      | nil => exact absurd (by rw [pos_nil]; omega) h
      | cons c r =>
        refine ix_s rfl hs hl ?_
        exact yes c r rfl H (Same.refl _)
abbrev sp_behind (C : Addr) : Sp := fun vs H Q E => ∃ (l r : List Nat) (s : Nat) (y : Str), vs = [.str (SX.S l), .int (pos l r), .str y] ∧ y = SX.S [s] ∧ l.length ≤ TB ∧ Suf r l ∧ (∀ r', bhd s r = .inr r' → ∀ H', Same H H' → Q (.int (pos l r')) H') ∧ (∀ e, bhd s r = .inl e → BadE C (pos l e + 1) H E)
abbrev sp_isnum : Sp := fun vs H Q _ => ∃ (sa : Addr) (x : V) (d : PyData), vs = [x] ∧ (∃ o, H sa = some o) ∧ Rp sa H x d ∧ ∀ H' b, Same H H' → (b = true ↔ ∃ n : Nat, d = .int (n : Int)) → Q (.bl b) H'
abbrev sp_wword : Sp := fun vs H Q _ => ∃ (l : List Nat), vs = [.str (SX.S l)] ∧ l.length ≤ TB ∧ ∀ H' b, Same H H' → (b = true ↔ WW l) → Q (.bl b) H'
theorem ok_behind_sign {f C : Addr} {fd : FuncData} (F : Fun K "behind_sign" "behind_sign" s_behind_sign f fd) (nb : Nb mg) (c_BadText : ExF P w K mg base "BadText" C ["self", "at"] (sp_ini1 K C "at")) (hno : PySem.W.findIn K (.ref C) "at" = some none) (d_sign_at : Df P w K mg base (L2.CX P w) 3 "sign_at" ["text", "at"] (sp_signat C)) : FnOk P w K mg base (L2.CX P w) 4 f fd ["text", "at", "wanted"] (sp_behind C) := by
  have sc := sc_behind_sign
  refine F.okX sc (fun vs H Q E h => ?_) (fun cdv A outer s H vs Q E hr h => ?_)
  · obtain ⟨l, r, y, z, rfl, _⟩ := h
    rfl
  · obtain ⟨l, r, y, z, rfl, rfl, hl, hs, yes, no⟩ := h
    refine ⟨_, (pss_cons (ps_if (pt_cmpR op_ne (pe_callS d_sign_at.F (hr.mono (by first | decide | omega)) (by rfl) d_sign_at.g d_sign_at.kp d_sign_at.b (fun σ => passAt (takes_of rfl rfl rfl rfl) σ) (pa_cons (pv 0) (pa_cons (pv 1) pa_nil))) (pv 2) (nomark _)) (pss_one (ps_raise rfl (takes_of rfl rfl rfl rfl) (pmkA c_BadText (hr.mono (by decide)) (by rfl) (pa_cons (pe_op op_add (pv 1) pe_int) pa_nil)))) pss_nil)
    (pss_one (ps_ret (pe_op op_add (pv 1) pe_int)))), ?_⟩
    (rw [show start ["text", "at", "wanted"] [.str (SX.S l), .int (pos l r), .str (SX.S [y])] = [some (.str (SX.S l)), some (.int (pos l r)), some (.str (SX.S [y]))] from rfl]; try dsimp only [cxOf])
    walk_at "v"
    refine ⟨l, r, rfl, hl, hs, fun c r' er H1 S1 => ?_, fun er => no r (by rw [er]; rfl)⟩
    subst er
    walk_at "v"
    refine ne_s rfl rfl ?_
    by_cases hy : c = y
    · rw [decide_eq_true (one_eq.mpr hy)]
      refine ⟨_, rfl, iteF ?_⟩
      walk_at "v"
      have := yes r' (by unfold bhd; exact if_pos hy) H1 S1
      rw [pos_tail (c := c)] at this
      exact this
    · rw [decide_eq_false (fun z => hy (one_eq.mp z))]
      refine ⟨_, rfl, iteT ?_⟩
      refine w_mko ?_
      walk_at "v"
      exact mk_ini1 c_BadText.T hno fun d H2 S hd => no (c :: r') (by unfold bhd; exact if_neg hy) H2 d (S1.trans S) hd
theorem ok_is_number {f : Addr} {fd : FuncData} (F : Fun K "is_number" "is_number" s_is_number f fd) (nb : Nb mg) (d_is_integer : Df P w K mg base CX0 1 "is_integer" ["thing"] sp_isI) : FnOk P w K mg base CX0 2 f fd ["thing"] sp_isnum := by
  have sc := sc_is_number
  refine F.ok sc (fun vs H Q E h => ?_) (fun cdv A outer s H vs Q E hr h => ?_)
  · obtain ⟨sa, x, d, rfl, _⟩ := h
    rfl
  · obtain ⟨sa, x, d, rfl, tr, r0, q⟩ := h
    refine ⟨_, (pss_one (ps_ret (pe_and (pe_call d_is_integer.F (hr.mono (by first | decide | omega)) (by rfl) d_is_integer.g d_is_integer.kp d_is_integer.b .nil pass0 (pa_cons (pv 0) pa_nil)) (pe_one (pe_cmpR op_ge (pv 0) pe_int (nomark _)))))), ?_⟩
    (rw [show start ["thing"] [x] = [some (x)] from rfl]; try dsimp only [cxOf])
    have W := wd_start tr (.cons r0 .nil)
    walk_at "v"
    rename_i H1 W1
    cases hI : isI d with
    | false =>
      refine iteF ?_
      exact q _ _ (W1.same rfl) ⟨fun z => (by cases z), fun ⟨n, e⟩ => by rw [e] at hI; cases hI⟩
    | true =>
      obtain ⟨m, rfl, rfl⟩ := rp_isI (W1.get .here) hI
      refine iteT ?_
      walk_at "v"
      refine q _ _ (W1.same rfl) ?_
      rw [leB_def, decide_eq_true_iff]
      exact ⟨fun z => ⟨m.toNat, by rw [Int.toNat_of_nonneg z]⟩, fun ⟨n, e⟩ => by cases e; omega⟩
theorem ok_is_whole_word {f nA : Addr} {fd : FuncData} (F : Fun K "is_whole_word" "is_whole_word" s_is_whole_word f fd) (nb : Nb mg) (cs : Cst9 K mg nA) : FnOk P w K mg base CX0 1 f fd ["word"] sp_wword := by
  have sc := sc_is_whole_word
  refine F.ok sc (fun vs H Q E h => ?_) (fun cdv A outer s H vs Q E hr h => ?_)
  · obtain ⟨x, rfl, _⟩ := h
    rfl
  · obtain ⟨l, rfl, hl, q⟩ := h
    refine ⟨_, (pss_cons (ps_for PassesOwn.never rfl (pi_str (pv 0)) (pg_name (i := 1) sc.nd rfl (.inl rfl)) (pss_one (ps_if (pt_cmpR op_notInS (pv 1) (pe_constS (by rfl) cs.digits) (by rfl)) (pss_one (ps_ret pe_bl)) pss_nil)))
    (pss_one (ps_ret (pe_or (pe_cmpR op_eq (pv 0) pe_str (nomark _)) (pe_one (pe_not (pe_or (pe_cmpR op_eq (pv 0) pe_str (nomark _)) (pe_one (pe_m1 PySem.F.slot_str_startswith PySem.F.type_str_startswith mq_starts (pv 0) pe_str))))))))), ?_⟩
    (rw [show start ["word", "sign"] [.str (SX.S l)] = [some (.str (SX.S l)), none] from rfl]; try dsimp only [cxOf])
    walk_at "v"
    refine w_istr ?_
    walk_at "v"
    refine ⟨SX.S l, rfl, ?_⟩
    refine lp_str (fun i σ' H' => ∃ u, σ' = [some (.str (SX.S l)), u] ∧ Same H H' ∧ ∀ (k : Nat) (c : Nat), k < i → l[k]? = some c → IsDig c) ⟨_, rfl, Same.refl _, fun k c h => absurd h (by omega)⟩ ?_ ?_
    · rintro i c σ' H' ec ⟨u, rfl, S, all⟩
      walk_at "v"
      refine notin_s ?_
      by_cases hc : IsDig c
      · rw [decide_eq_true hc]
        refine ⟨_, rfl, iteF ?_⟩
        walk_at "v"
        refine ⟨_, rfl, S, fun k c' hk e => ?_⟩
        rcases Nat.lt_succ_iff_lt_or_eq.mp hk with hk | rfl
        · exact all k c' hk e
        · rw [ec] at e
          cases e
          exact hc
      · rw [decide_eq_false hc]
        refine ⟨_, rfl, iteT ?_⟩
        walk_at "v"
        exact q _ _ S ⟨fun z => (by cases z), fun h => absurd (h.1 c (List.mem_of_getElem? ec)) hc⟩
    · rintro σ' H' ⟨u, rfl, S, all⟩
      have al : ∀ c ∈ l, IsDig c := fun c hc => by
        obtain ⟨k, hk, e⟩ := List.getElem_of_mem hc
        exact all k c hk (by rw [List.getElem?_eq_getElem hk, e])
      walk_at "v"
      refine eq_s (l := l) (m := [48]) rfl (by decide) ?_
      by_cases h0 : l = [48]
      · rw [decide_eq_true h0]
        refine ⟨_, rfl, iteT ?_⟩
        exact q _ _ S ⟨fun _ => by rw [h0]; exact ⟨fun c hc => by rw [List.mem_singleton.mp hc]; exact ⟨by decide, by decide⟩, by simp, fun _ => rfl⟩, fun _ => rfl⟩
      · rw [decide_eq_false h0]
        refine ⟨_, rfl, iteF ?_⟩
        walk_at "v"
        refine eq_s (l := l) (m := []) rfl (by decide) ?_
        by_cases h1 : l = []
        · rw [decide_eq_true h1]
          refine ⟨_, rfl, iteT ?_⟩
          walk_at "v"
          exact q _ _ S ⟨fun z => (by cases z), fun h => absurd h1 h.2.1⟩
        · rw [decide_eq_false h1]
          refine ⟨_, rfl, iteF ?_⟩
          refine w_m1 ?_
          walk_at "v"
          refine ⟨⟨_, rfl⟩, ?_⟩
          walk_at "v"
          refine starts_s (l := l) (s := 48) rfl (by decide) ?_
          refine ⟨_, rfl, ?_⟩
          refine q _ _ S ?_
          by_cases h2 : l.head? = some 48
          · rw [decide_eq_true h2]
            refine ⟨fun z => (by cases z), fun h => absurd (h.2.2 h2) fun z => h0 ?_⟩
            cases l with
            | nil => cases h2
            | cons c r =>
              injection h2 with h2
              rw [List.length_cons] at z
              rw [h2, List.eq_nil_of_length_eq_zero (show r.length = 0 by omega)]
          · rw [decide_eq_false h2]
            exact ⟨fun _ => ⟨al, h1, fun z => absurd z h2⟩, fun _ => rfl⟩
end

/-! ### numbers as words -/
theorem strI (a : Int) : (toString a : Str) = SX.S (intL a) := by
  refine TL.ext_tl ?_
  show TL.tl (Str.ofString (toString a)) = intL a
  cases a with
  | ofNat n =>
    show TL.tl (Str.ofString (toString ((n : Nat) : Int))) = intL ((n : Nat) : Int)
    rw [TL.tl_num, intL_pos]
  | negSucc n =>
    rw [show Int.negSucc n = -((n + 1 : Nat) : Int) from rfl, intL_neg (by omega), TL.tl_ofString, Int.toString_eq_repr, Int.repr_eq_if, if_neg (by omega)]
    rw [String.toList_append, List.map_append]
    show ("-" : String).toList.map Char.toNat ++ _ = _
    have e : (-(-((n + 1 : Nat) : Int))).toNat = n + 1 := by omega
    rw [e]
    show [45] ++ (Nat.repr (n + 1)).toList.map Char.toNat = _
    rw [Nat.toList_repr]
    rfl
def m60 : Nat := 1000000000000000000000000000000000000000000000000000000000000
theorem log_60 {a : Int} (h : a.natAbs < m60) : a.natAbs.log2 < 1920 := by
  refine Nat.lt_of_lt_of_le (PySem.Flt.log2_lt_of (k := 200) (by decide) (Nat.lt_trans h (by decide))) (by decide)
theorem w_while {c : TT} {tb : TS} {D : Ends} {σ : L2.St} {H : Hp} (W : Nat → L2.St → Hp → Prop) (h0 : ∃ m, W m σ H) (h : ∀ m σ H, W m σ H → c σ H fun b H1 => if b = true then ∃ N : L2.St → Hp → Prop, (∀ σ' H', N σ' H' → ∃ m', m' < m ∧ W m' σ' H') ∧ tb { D with nx := N, ct := N, bk := D.nx } σ H1 else D.nx σ H1) : tWhile c tb D σ H := ⟨W, h0, h⟩
theorem cat_s {l m : List Nat} {x y : Str} {H : Hp} {Q : VK} (hx : x = SX.S l) (hy : y = SX.S m) (hl : l.length ≤ TB) (hm : m.length ≤ TB) (h : Q (.str (SX.S (l ++ m))) H) : ∃ i j, V.str x = V.str i ∧ V.str y = V.str j ∧ i.length + j.length ≤ sizeLine ∧ Q (V.str (i ++ j)) H := by
  subst hx hy
  refine ⟨_, _, rfl, rfl, ?_, by rw [SX.S_cat]; exact h⟩
  rw [SX.S_len, SX.S_len]
  exact Nat.le_trans (Nat.add_le_add hl hm) (by decide)
theorem join1 {x : Str} : Txt.join ("" : Str) [x] = x := by
  rw [TL.join_eq]
  rfl
abbrev sp_never : Sp := fun _ _ _ _ => False
/-- an integer as a word, if its digits are no more than sixty and the word of its opposite is promised -/
abbrev sp_wordP (pre : Int → Prop) : Sp := fun vs H Q _ => ∃ (a : Int), vs = [.int a] ∧ a.natAbs < m60 ∧ pre a ∧ ∀ H', Same H H' → Q (.str (SX.S (intL a))) H'
abbrev sp_word : Sp := sp_wordP fun _ => True
abbrev sp_numin : Sp := fun vs H Q _ => ∃ (l : List Nat), vs = [.str (SX.S l)] ∧ (∀ c ∈ l, IsDig c) ∧ 1 ≤ l.length ∧ l.length ≤ 40 ∧ ∀ H', Same H H' → Q (.int (NumText.digitsVal l : Nat)) H'
theorem cutS_all {l : List Nat} : cutS (SX.S l) none (some (l.length : Int)) = SX.S l := by
  unfold cutS
  rw [SX.S_len, HT.sIx_none, HT.sIx_nat, Nat.min_self, List.drop_zero, Nat.sub_zero]
  exact congrArg SX.S (List.take_of_length_le (Nat.le_refl _))
theorem rg60 : ∀ n : Nat, n < 41 → Builtin.Range.small (n : Int) n 60 = true ∧ Builtin.Range.rangeSize (n : Int) n 60 = ((0 : Nat) : Int) := by decide +kernel
theorem int_s {l : List Nat} {H : Hp} {Q : VK} (hd : ∀ c ∈ l, IsDig c) (h1 : l ≠ []) (h2 : l.length ≤ 40) (q : Q (.int (NumText.digitsVal l : Nat)) H) : rIntS [.str (SX.S l)] H Q :=
  ⟨_, _, rfl, SX.int_S (by
    rw [List.all_eq_true]
    intro c hc
    rw [Bool.and_eq_true, decide_eq_true_iff, decide_eq_true_iff]
    exact hd c hc) h1 (by omega), by rw [SX.S_len]; omega, q⟩
section
variable {P : Program} {w : World} {K : PySem.W.Frag} {mg : Str → Option Value} {base : Heap}
theorem st_word_of {f nA : Addr} {fd : FuncData} {j : Nat} {pre : Int → Prop} {sp : Sp} (hsp : ∀ (a : Int) H Q E, pre a → a < 0 → a.natAbs < m60 → (∀ H', Same H H' → Q (.str (SX.S (intL (-a)))) H') → sp [.int (-a)] H Q E) (F : Fun K "word_of" "word_of" s_word_of f fd) (nb : Nb mg) (cs : Cst9 K mg nA) (d_word_of : Df P w K mg base CX0 j "word_of" ["number"] sp) : FnOk P w K mg base CX0 (j + 1) f fd ["number"] (sp_wordP pre) := by
  have sc := sc_word_of
  refine F.ok sc (fun vs H Q E h => ?_) (fun cdv A outer s H vs Q E hr h => ?_)
  · obtain ⟨a, rfl, _⟩ := h
    rfl
  · obtain ⟨a, rfl, hl, hp, q⟩ := h
    refine ⟨_, (pss_cons (ps_if (pt_cmpR op_lt (pv 0) pe_int (nomark _)) (pss_one (ps_ret (pe_op op_add_str pe_str (pe_call d_word_of.F (hr.mono (by first | decide | omega)) (by rfl) d_word_of.g d_word_of.kp d_word_of.b .nil pass0 (pa_cons (pe_un un_neg (pv 0)) pa_nil))))) pss_nil)
    (pss_cons (ps_asg (pe_lst pa_nil) (pg_name (i := 1) sc.nd rfl (.inl rfl)))
    (pss_cons (ps_asg (pv 0) (pg_name (i := 2) sc.nd rfl (.inl rfl)))
    (pss_cons (ps_while PassesOwn.never (pt_cmpR op_ge (pv 2) (pe_op op_pow pe_int pe_int) (nomark _)) (pss_cons (ps_asg (pe_callB call_divmodW (by rfl) nb.divmod (by decide +kernel) (pa_cons (pv 2) (pa_cons (pe_op op_pow pe_int pe_int) pa_nil))) (pg_tup (n := 2) (by rfl) (pgs_cons (pg_name (i := 2) sc.nd rfl (.inl rfl)) (pgs_cons (pg_name (i := 3) sc.nd rfl (.inl rfl)) pgs_nil))))
    (pss_one (ps_expr (pe_bm PySem.F.plainAttrs_list PySem.F.slot_list_append PySem.F.type_list_append mt_append (pv 1) (pa_cons (pe_m1 PySem.F.slot_str_zfill PySem.F.type_str_zfill mt_zfill (pe_callTy cq_strI (by rfl) nb.str (by decide +kernel) (pa_cons (pv 3) pa_nil)) (pe_constI (by rfl) cs.piece)) pa_nil))))))
    (pss_cons (ps_expr (pe_bm PySem.F.plainAttrs_list PySem.F.slot_list_append PySem.F.type_list_append mt_append (pv 1) (pa_cons (pe_callTy cq_strI (by rfl) nb.str (by decide +kernel) (pa_cons (pv 2) pa_nil)) pa_nil)))
    (pss_one (ps_ret (pe_join pe_str (pe_sl3 (pv 1) po_none po_none (pe_un un_neg pe_int)))))))))), ?_⟩
    (rw [show start ["number", "pieces", "rest", "piece"] [.int a] = [some (.int a), none, none, none] from rfl]; try dsimp only [cxOf])
    walk_at "v"
    refine w_ifd (fun h => ?_) (fun h => ?_)
    · walk_at "v"
      refine hsp a H _ _ hp h hl fun H' S => ?_
      have e : intL a = 45 :: intL (-a) := by
        obtain ⟨n, rfl⟩ : ∃ n : Nat, a = -(n : Int) := ⟨a.natAbs, by omega⟩
        rw [intL_neg (by omega), Int.neg_neg, intL_pos]
      have ll : (intL (-a)).length ≤ TB := by
        have e2 : (-a) = ((a.natAbs : Nat) : Int) := by omega
        rw [e2, intL_pos]
        exact Nat.le_trans (TL.numL_len (k := 61) (by decide) (Nat.lt_trans hl (by decide))) (by decide)
      refine cat_s (l := [45]) (m := intL (-a)) (by decide) rfl (by decide) ll ?_
      have := q H' S
      rw [e] at this
      exact this
    · have qq : ∀ H', Same H H' → Q (.str (toString a : Str)) H' := fun H' S => by
        rw [strI]
        exact q H' S
      walk_at "v"
      refine nl_mk fun p np => ?_
      walk_at "v"
      refine w_while (fun m σ' H' => σ' = [some (.int a), some (.ref p), some (.int a), none] ∧ H' = upd H p (.lst [])) ⟨0, rfl, rfl⟩ ?_
      rintro m σ' H' ⟨rfl, rfl⟩
      walk_at "v"
      refine w_ifd (fun h2 => ?_) (fun _ => ?_)
      · have : m60 = 1000000000000000000000000000000000000000000000000000000000000 := rfl
        have : (10 : Int) ^ Int.toNat 60 = 1000000000000000000000000000000000000000000000000000000000000 := by decide
        rw [this] at h2
        omega
      · walk_at "v"
        refine w_bm ?_
        walk_at "v"
        refine ⟨tyV_lst upd_same, ?_⟩
        walk_at "v"
        refine ⟨a, rfl, log_60 hl, ?_⟩
        walk_at "v"
        refine ap_lst upd_same (by decide) ?_
        walk_at "v"
        refine w_m1 ?_
        walk_at "v"
        refine ⟨⟨_, rfl⟩, ?_⟩
        refine w_sl3 ?_
        walk_at "v"
        refine w_npart (w_npart ?_)
        walk_at "v"
        refine ⟨by decide, p, [.str (toString a)], rfl, SqL.of upd_same, fun p2 np2 => ?_⟩
        refine ⟨"", p2, [toString a], rfl, rfl, .inl (SqL.of ?_), ?_, ?_⟩
        · have e : pickV [V.str (toString a : Str)] none none (some (-1)) = [V.str (toString a : Str)] := by
            unfold pickV
            rw [show idxs [V.str (toString a : Str)].length none none (some (-1)) = [0] from (show idxs 1 none none (some (-1)) = [0] by decide)]
            rfl
          rw [show ([] : List V) ++ [V.str (toString a : Str)] = [V.str (toString a : Str)] from rfl]
          refine (upd_same).trans ?_
          rw [e]
          rfl
        · rw [strI]
          have e2 : intL a = TL.numL a.natAbs := by
            unfold intL
            rw [if_neg h]
          have := TL.numL_len (n := a.natAbs) (k := 61) (by decide) (Nat.lt_trans hl (by decide))
          simp only [List.map_cons, List.map_nil, List.sum_cons, List.sum_nil, List.length_cons, List.length_nil]
          rw [SX.S_len, e2]
          show _ + 0 + _ * 0 ≤ _
          omega
        · rw [join1]
          exact qq _ ((same_updN (same_new np) np).new np2)
theorem ok_word_of {f nA : Addr} {fd : FuncData} (F : Fun K "word_of" "word_of" s_word_of f fd) (nb : Nb mg) (cs : Cst9 K mg nA) (gm : mg "word_of" = some (.ref f)) (gk : PySem.W.keepIn K (.ref f) = true) (gb : Binds K fd ["number"] []) : FnOk P w K mg base CX0 2 f fd ["number"] sp_word := by
  have d0 : Df P w K mg base CX0 0 "word_of" ["number"] sp_never := ⟨f, fd, gm, gk, gb, ⟨fun _ _ _ _ h => h.elim, by intro A outer s H args us vs Q E _ _ _ _ h; exact h.elim⟩⟩
  have d1 : Df P w K mg base CX0 1 "word_of" ["number"] (sp_wordP fun a => 0 ≤ a) := ⟨f, fd, gm, gk, gb, st_word_of (fun a H Q E h0 h1 => absurd h0 (by omega)) F nb cs d0⟩
  exact st_word_of (fun a H Q E _ h1 h2 h => ⟨-a, rfl, by rw [Int.natAbs_neg]; exact h2, by omega, h⟩) F nb cs d1
theorem ok_number_in {f nA : Addr} {fd : FuncData} (F : Fun K "number_in" "number_in" s_number_in f fd) (nb : Nb mg) (cs : Cst9 K mg nA) : FnOk P w K mg base CX0 1 f fd ["word"] sp_numin := by
  have sc := sc_number_in
  refine F.ok sc (fun vs H Q E h => ?_) (fun cdv A outer s H vs Q E hr h => ?_)
  · obtain ⟨a, rfl, _⟩ := h
    rfl
  · obtain ⟨l, rfl, hd, h1, h2, q⟩ := h
    refine ⟨_, (pss_cons (ps_asg pe_int (pg_name (i := 1) sc.nd rfl (.inl rfl)))
    (pss_cons (ps_asg (pe_op op_mod (pe_callB cq_lenS (by rfl) nb.len (by decide +kernel) (pa_cons (pv 0) pa_nil)) (pe_constI (by rfl) cs.piece)) (pg_name (i := 2) sc.nd rfl (.inl rfl)))
    (pss_cons (ps_if (pt_cmpR op_gt (pv 2) pe_int (nomark _)) (pss_one (ps_asg (pe_callTy cq_intS (by rfl) nb.int (by decide +kernel) (pa_cons (pe_slice sl_str (pv 0) po_none (po_some (pv 2))) pa_nil)) (pg_name (i := 1) sc.nd rfl (.inl rfl)))) pss_nil)
    (pss_cons (ps_for PassesOwn.never rfl (pi_range3 (by rfl) nb.range (pa_cons (pv 2) (pa_cons (pe_callB cq_lenS (by rfl) nb.len (by decide +kernel) (pa_cons (pv 0) pa_nil)) (pa_cons (pe_constI (by rfl) cs.piece) pa_nil)))) (pg_name (i := 3) sc.nd rfl (.inl rfl)) (pss_one (ps_asg (pe_op op_add (pe_op op_mul (pv 1) (pe_op op_pow pe_int pe_int)) (pe_callTy cq_intS (by rfl) nb.int (by decide +kernel) (pa_cons (pe_slice sl_str (pv 0) (po_some (pv 3)) (po_some (pe_op op_add (pv 3) (pe_constI (by rfl) cs.piece)))) pa_nil))) (pg_name (i := 1) sc.nd rfl (.inl rfl)))))
    (pss_one (ps_ret (pv 1))))))), ?_⟩
    (rw [show start ["word", "number", "start", "at"] [.str (SX.S l)] = [some (.str (SX.S l)), none, none, none] from rfl]; try dsimp only [cxOf])
    have hb : l.length ≤ TB := Nat.le_trans h2 (by decide)
    have em : (l.length : Int) % 60 = (l.length : Int) := by omega
    walk_at "v"
    refine len_s hb ?_
    walk_at "v"
    rw [em]
    refine w_ifd (fun h => ?_) (fun h => ?_)
    · walk_at "v"
      refine w_sl ?_
      walk_at "v"
      refine w_npart (w_part ?_)
      walk_at "v"
      refine ⟨SX.S l, rfl, by rw [SX.S_len]; exact sz_txt hb, ?_⟩
      rw [cutS_all]
      walk_at "v"
      refine int_s hd (fun z => by rw [z] at h1; exact absurd h1 (by decide)) h2 ?_
      walk_at "v"
      show tCons _ _ _ _ _
      walk_at "v"
      refine len_s hb ?_
      walk_at "v"
      have r := rg60 l.length (by omega)
      refine ⟨l.length, l.length, 60, 0, rfl, ⟨by decide, by decide, r.1, r.2⟩, ?_⟩
      refine ⟨fun i m σ' H' => i = 0 ∧ σ' = _ ∧ H' = H, ⟨0, rfl, rfl, rfl⟩, ?_⟩
      rintro i m σ' H' ⟨rfl, rfl, rfl⟩
      refine .inl ⟨Nat.le_refl _, ?_⟩
      walk_at "v"
      exact q _ (Same.refl _)
    · omega
end

/-! ### a number at a place; fractions as words -/
abbrev sp_readnum (C : Addr) : Sp := fun vs H Q E => ∃ (l r : List Nat), vs = [.str (SX.S l), .int (pos l r)] ∧ l.length ≤ TB ∧ Suf r l ∧ (∀ n r', rdn r = .inr (n, r') → ∀ H' p, Same H H' → H p = none → H' p = some (.tup [.int (n : Nat), .int (pos l r')]) → Q (.ref p) H') ∧ (∀ e, rdn r = .inl e → BadE C (pos l e + 1) H E)
theorem cut_mid {l u r : List Nat} (h : Suf (u ++ r) l) : cutS (SX.S l) (some (pos l (u ++ r))) (some (pos l r)) = SX.S u := by
  obtain ⟨v, rfl⟩ := h
  have e1 : pos (v ++ (u ++ r)) (u ++ r) = (v.length : Int) := by
    unfold pos
    rw [List.length_append]
    omega
  have e2 : pos (v ++ (u ++ r)) r = ((v.length + u.length : Nat) : Int) := by
    unfold pos
    rw [List.length_append, List.length_append]
    omega
  rw [e1, e2]
  unfold cutS
  rw [SX.S_len, HT.sIx_nat, HT.sIx_nat, List.length_append, List.length_append, Nat.min_eq_left (by omega), Nat.min_eq_left (by omega)]
  refine congrArg SX.S ?_
  show ((v ++ (u ++ r)).drop v.length).take _ = u
  rw [List.drop_left, show v.length + u.length - v.length = u.length by omega, List.take_left]
section
variable {P : Program} {w : World} {K : PySem.W.Frag} {mg : Str → Option Value} {base : Heap}
theorem ok_read_number {f C nA : Addr} {fd : FuncData} (F : Fun K "read_number" "read_number" s_read_number f fd) (nb : Nb mg) (cs : Cst9 K mg nA) (c_BadText : ExF P w K mg base "BadText" C ["self", "at"] (sp_ini1 K C "at")) (hno : PySem.W.findIn K (.ref C) "at" = some none) (d_sign_at : Df P w K mg base (L2.CX P w) 3 "sign_at" ["text", "at"] (sp_signat C)) (d_number_in : Df P w K mg base CX0 1 "number_in" ["word"] sp_numin) : FnOk P w K mg base (L2.CX P w) 4 f fd ["text", "at"] (sp_readnum C) := by
  have sc := sc_read_number
  refine F.okX sc (fun vs H Q E h => ?_) (fun cdv A outer s H vs Q E hr h => ?_)
  · obtain ⟨l, r, rfl, _⟩ := h
    rfl
  · obtain ⟨l, r, rfl, hl, hs, yes, no⟩ := h
    refine ⟨_, (pss_cons (ps_if (pt_cmpR op_notInS (pe_callS d_sign_at.F (hr.mono (by first | decide | omega)) (by rfl) d_sign_at.g d_sign_at.kp d_sign_at.b (fun σ => passAt (takes_of rfl rfl rfl rfl) σ) (pa_cons (pv 0) (pa_cons (pv 1) pa_nil))) (pe_constS (by rfl) cs.digits) (by rfl)) (pss_one (ps_raise rfl (takes_of rfl rfl rfl rfl) (pmkA c_BadText (hr.mono (by decide)) (by rfl) (pa_cons (pe_op op_add (pv 1) pe_int) pa_nil)))) pss_nil)
    (pss_cons (ps_asg (pe_op op_add (pv 1) pe_int) (pg_name (i := 2) sc.nd rfl (.inl rfl)))
    (pss_cons (ps_while (passes_of rfl) (PW.pt (pw_and (pt_cmpR op_ne (pe_ix ix_str (pv 0) (pv 1) (fun _ _ => rfl)) pe_str (nomark _)) (pw_and (pt_cmpR op_lt (pv 2) (pe_callB cq_lenS (by rfl) nb.len (by decide +kernel) (pa_cons (pv 0) pa_nil)) (nomark _)) (pw_and (pt_cmpR op_inS (pe_ix ix_str (pv 0) (pv 2) (fun _ _ => rfl)) (pe_constS (by rfl) cs.digits) (by rfl)) (pw_and1 (pt_cmpR op_lt (pe_op op_sub (pv 2) (pv 1)) (pe_constI (by rfl) cs.longest) (nomark _))))))) (pss_one (ps_aug (i := 2) sc.nd rfl (.inl rfl) pe_int ip_add)))
    (pss_one (ps_ret (pe_tup (pa_cons (pe_call d_number_in.F (hr.mono (by first | decide | omega)) (by rfl) d_number_in.g d_number_in.kp d_number_in.b .nil pass0 (pa_cons (pe_slice sl_str (pv 0) (po_some (pv 1)) (po_some (pv 2))) pa_nil)) (pa_cons (pv 2) pa_nil)))))))), ?_⟩
    (rw [show start ["text", "at", "end"] [.str (SX.S l), .int (pos l r)] = [some (.str (SX.S l)), some (.int (pos l r)), none] from rfl]; try dsimp only [cxOf])
    walk_at "v"
    refine ⟨l, r, rfl, hl, hs, fun c r0 er H1 S1 => ?_, fun er => no r (by rw [er]; rfl)⟩
    subst er
    walk_at "v"
    refine notin_s ?_
    by_cases hc : IsDig c
    · rw [decide_eq_true hc]
      refine ⟨_, rfl, iteF ?_⟩
      walk_at "v"
      have er : rdn (c :: r0) = .inr (NumText.digitsVal (c :: tkn (gap c) r0), skp (gap c) r0) := by
        unfold rdn
        exact if_pos hc
      refine w_while (fun m σ' H' => ∃ u r2, m = r2.length ∧ σ' = [some (.str (SX.S l)), some (.int (pos l (c :: r0))), some (.int (pos l r2))] ∧ H' = H1 ∧ r0 = u ++ r2 ∧ tkn (gap c) r0 = u ++ tkn (gap c - u.length) r2 ∧ skp (gap c) r0 = skp (gap c - u.length) r2) ⟨r0.length, [], r0, rfl, by rw [pos_tail (c := c) (r := r0)], rfl, rfl, rfl, rfl⟩ ?_
      rintro m σ' H' ⟨u, r2, rfl, rfl, rfl, e0, et, es⟩
      have fin : (gap c - u.length = 0 ∨ NoDigHead r2) → u = tkn (gap c) r0 ∧ r2 = skp (gap c) r0 := fun hz => by
        have : tkn (gap c - u.length) r2 = [] ∧ skp (gap c - u.length) r2 = r2 := by
          cases r2 with
          | nil => exact ⟨rfl, rfl⟩
          | cons d r3 =>
            have n : ¬ (0 < gap c - u.length ∧ IsDig d) := fun z => by
              rcases hz with hz | hz
              · omega
              · exact hz d rfl z.2
            unfold tkn skp
            rw [if_neg n, if_neg n]
            exact ⟨rfl, rfl⟩
        rw [et, es, this.1, this.2, List.append_nil]
        exact ⟨rfl, rfl⟩
      have s2 : Suf r2 l := by
        refine Suf.app (u := c :: u) ?_
        rw [List.cons_append, ← e0]
        exact hs
      have gc : gap c ≤ 39 := by unfold gap; split <;> omega
      have ret : (gap c - u.length = 0 ∨ NoDigHead r2) → tRet (tTup (tCons (tCall sp_numin [] E0 (tCons (tSl rSlS (tVar 0) (tPart (tVar 1)) (tPart (tVar 2))) tNil)) (tCons (tVar 2) tNil))) { nx := fun _ H' => Q .non H', rt := Q } [some (.str (SX.S l)), some (.int (pos l (c :: r0))), some (.int (pos l r2))] H' := fun hz => by
        obtain ⟨f1, f2⟩ := fin hz
        have w9 := word_ww (r := r0) hc
        walk_at "v"
        refine w_sl ?_
        walk_at "v"
        refine w_part ?_
        walk_at "v"
        refine w_part ?_
        walk_at "v"
        refine ⟨SX.S l, rfl, by rw [SX.S_len]; exact sz_txt hl, ?_⟩
        have e1 : c :: r0 = (c :: u) ++ r2 := by rw [e0]; rfl
        rw [e1, cut_mid (by rw [← e1]; exact hs)]
        walk_at "v"
        rw [← f1] at w9 er
        rw [← f2] at er
        refine ⟨c :: u, rfl, w9.1.1, by rw [List.length_cons]; omega, w9.2, fun H2 S2 => ?_⟩
        walk_at "v"
        refine nt_mk fun p np => ?_
        exact yes _ _ er _ p ((S1.trans S2).new np) ((S1.trans S2).free np) upd_same
      walk_at "v"
      refine ix_s rfl hs hl ?_
      walk_at "v"
      refine ne_s (l := [c]) (m := [48]) rfl (by decide) ?_
      by_cases h48 : c = 48
      · rw [decide_eq_true (one_eq.mpr h48)]
        refine ⟨_, rfl, iteF ?_⟩
        refine iteF ?_
        exact ret (.inl (by unfold gap; rw [if_pos h48]; omega))
      · rw [decide_eq_false (fun z => h48 (one_eq.mp z))]
        refine ⟨_, rfl, iteT ?_⟩
        walk_at "v"
        refine len_s hl ?_
        walk_at "v"
        refine w_ifd (fun h1 => ?_) (fun h1 => ?_)
        · cases r2 with
          | nil => exact absurd h1 (by rw [pos_nil]; omega)
          | cons d r3 =>
            walk_at "v"
            refine ix_s rfl s2 hl ?_
            walk_at "v"
            refine in_s ?_
            by_cases hd : IsDig d
            · rw [decide_eq_true hd]
              refine ⟨_, rfl, iteT ?_⟩
              walk_at "v"
              refine w_ifd (fun h2 => ?_) (fun h2 => ?_)
              · have hg : 0 < gap c - u.length := by
                  have e9 := congrArg List.length e0
                  rw [List.length_append] at e9
                  unfold pos at h2
                  rw [List.length_cons, List.length_cons] at h2
                  rw [List.length_cons] at e9
                  unfold gap
                  rw [if_neg h48]
                  omega
                refine ⟨fun σ'' H'' => σ'' = [some (.str (SX.S l)), some (.int (pos l (c :: r0))), some (.int (pos l r3))] ∧ H'' = H', fun σ'' H'' ⟨z1, z2⟩ => ⟨r3.length, Nat.lt_succ_self _, u ++ [d], r3, rfl, z1, z2, by rw [e0]; simp, ?_, ?_⟩, ?_⟩
                · rw [et]
                  unfold tkn
                  rw [if_pos ⟨hg, hd⟩, List.length_append]
                  show u ++ d :: _ = u ++ [d] ++ _
                  rw [List.append_assoc, show gap c - u.length - 1 = gap c - (u.length + [d].length) by simp only [List.length_cons, List.length_nil]; omega]
                  cases r3 <;> rfl
                · rw [es]
                  unfold skp
                  rw [if_pos ⟨hg, hd⟩, List.length_append]
                  rw [show gap c - u.length - 1 = gap c - (u.length + [d].length) by simp only [List.length_cons, List.length_nil]; omega]
                  cases r3 <;> rfl
                · refine ⟨_, rfl, ?_⟩
                  walk_at "v"
                  refine ⟨_, _, rfl, rfl, ?_⟩
                  refine ⟨?_, rfl⟩
                  rw [pos_tail (c := d) (r := r3)]
              · refine ret (.inl ?_)
                have e9 := congrArg List.length e0
                rw [List.length_append] at e9
                unfold pos at h2
                simp only [List.length_cons] at h2 e9
                omega
            · rw [decide_eq_false hd]
              refine ⟨_, rfl, iteF ?_⟩
              refine iteF ?_
              exact ret (.inr (nodig_cons hd))
        · have : r2 = [] := by
            unfold pos at h1
            exact List.eq_nil_of_length_eq_zero (by omega)
          subst this
          exact ret (.inr nodig_nil)
    · rw [decide_eq_false hc]
      refine ⟨_, rfl, iteT ?_⟩
      refine w_mko ?_
      walk_at "v"
      exact mk_ini1 c_BadText.T hno fun d H2 S hd => no (c :: r0) (by unfold rdn; exact if_neg hc) H2 d (S1.trans S) hd
end
/-! ### fractions as words -/
theorem intL_len {a : Int} (h : a.natAbs < 10 ^ 40) : (intL a).length ≤ 41 := by
  have := num_len40 h
  unfold intL
  split
  · rw [List.length_cons]
    omega
  · omega
theorem fracL_len {a b : Int} (ha : a.natAbs < 10 ^ 40) (hb : b.natAbs < 10 ^ 40) : (fracL a b).length ≤ 83 := by
  have h1 := intL_len ha
  have h2 := intL_len hb
  unfold fracL
  split
  · omega
  · rw [List.length_append, List.length_cons]
    omega
theorem e40 : (10 : Nat) ^ 40 ≤ m60 := by decide
abbrev sp_fword : Sp := fun vs H Q _ => ∃ (sa : Addr) (x : V) (a b : Int), vs = [x] ∧ (∃ o, H sa = some o) ∧ Rp sa H x (Fr a b) ∧ a.natAbs < 10 ^ 40 ∧ b.natAbs < 10 ^ 40 ∧ ∀ H', Same H H' → Q (.str (SX.S (fracL a b))) H'
section
variable {P : Program} {w : World} {K : PySem.W.Frag} {mg : Str → Option Value} {base : Heap}
theorem ok_fraction_word {f : Addr} {fd : FuncData} (F : Fun K "fraction_word" "fraction_word" s_fraction_word f fd) (nb : Nb mg) (d_word_of : Df P w K mg base CX0 2 "word_of" ["number"] sp_word) : FnOk P w K mg base CX0 3 f fd ["one"] sp_fword := by
  have sc := sc_fraction_word
  refine F.ok sc (fun vs H Q E h => ?_) (fun cdv A outer s H vs Q E hr h => ?_)
  · obtain ⟨sa, x, a, b, rfl, _⟩ := h
    rfl
  · obtain ⟨sa, x, a, b, rfl, tr, r0, ha, hb, q⟩ := h
    obtain ⟨p, rfl⟩ : ∃ p, x = .ref p := by
      cases r0
      exact ⟨_, rfl⟩
    refine ⟨_, (pss_cons (ps_asg (pv 0) (pg_tup (n := 2) (by rfl) (pgs_cons (pg_name (i := 1) sc.nd rfl (.inl rfl)) (pgs_cons (pg_name (i := 2) sc.nd rfl (.inl rfl)) pgs_nil))))
    (pss_one (ps_ret (pe_ifExp (pt_cmpR op_eq (pv 2) pe_int (nomark _)) (pe_call d_word_of.F (hr.mono (by first | decide | omega)) (by rfl) d_word_of.g d_word_of.kp d_word_of.b .nil pass0 (pa_cons (pv 1) pa_nil)) (pe_op op_add_str (pe_op op_add_str (pe_call d_word_of.F (hr.mono (by first | decide | omega)) (by rfl) d_word_of.g d_word_of.kp d_word_of.b .nil pass0 (pa_cons (pv 1) pa_nil)) pe_str) (pe_call d_word_of.F (hr.mono (by first | decide | omega)) (by rfl) d_word_of.g d_word_of.kp d_word_of.b .nil pass0 (pa_cons (pv 2) pa_nil))))))), ?_⟩
    (rw [show start ["one", "top", "bottom"] [.ref p] = [some (.ref p), none, none] from rfl]; try dsimp only [cxOf])
    have W := wd_start tr (.cons r0 .nil)
    walk_at "v"
    rename_i W1
    refine w_ifd (fun h => ?_) (fun h => ?_)
    · walk_at "v"
      refine ⟨a, rfl, Nat.lt_of_lt_of_le ha e40, trivial, fun H1 S1 => ?_⟩
      subst h
      have := q H1 S1
      unfold fracL at this
      rw [if_pos rfl] at this
      exact this
    · walk_at "v"
      refine ⟨a, rfl, Nat.lt_of_lt_of_le ha e40, trivial, fun H1 S1 => ?_⟩
      walk_at "v"
      refine ⟨SX.S (intL a), SX.S [47], rfl, congrArg V.str (by decide), ?_, ?_⟩
      · rw [SX.S_len, SX.S_len]
        exact Nat.le_trans (Nat.add_le_add_right (intL_len ha) _) (by decide)
      rw [SX.S_cat]
      walk_at "v"
      refine ⟨b, rfl, Nat.lt_of_lt_of_le hb e40, trivial, fun H2 S2 => ?_⟩
      refine cat_s rfl rfl ?_ (Nat.le_trans (intL_len hb) (by decide)) ?_
      · rw [List.length_append]
        exact Nat.le_trans (Nat.add_le_add_right (intL_len ha) _) (by decide)
      · have := q H2 (S1.trans S2)
        unfold fracL at this
        rw [if_neg h] at this
        rw [List.append_assoc]
        exact this
end

/-! ### the fraction that a word tells -/
/-- a fraction, new or of the top -/
def FVp (K : PySem.W.Frag) (H : Hp) (x : V) (a b : Int) : Prop := ∃ p, x = .ref p ∧ (H p = some (.tup [.int a, .int b]) ∨ KTup K p [.int a, .int b])
theorem FVp.same {K : PySem.W.Frag} {H H' : Hp} {x : V} {a b : Int} (h : FVp K H x a b) (S : Same H H') : FVp K H' x a b := by
  obtain ⟨p, rfl, h⟩ := h
  exact ⟨p, rfl, h.imp (S _ _) id⟩
theorem FVp.sq {K : PySem.W.Frag} {H : Hp} {x : V} {a b : Int} (h : FVp K H x a b) : ∃ p, x = .ref p ∧ SqT K H p [.int a, .int b] := by
  obtain ⟨p, rfl, h | h⟩ := h
  · exact ⟨p, rfl, SqT.of h⟩
  · exact ⟨p, rfl, .inr h⟩
theorem FVp.dp {K : PySem.W.Frag} {H : Hp} {x : V} {a b : Int} (h : FVp K H x a b) : Dp K H x (Fr a b) := by
  obtain ⟨p, rfl, h2⟩ := h.sq
  exact .tup h2 (.cons (.int _) (.cons (.int _) .nil))
abbrev sp_fracin (K : PySem.W.Frag) : Sp := fun vs H Q _ => ∃ (l : List Nat), vs = [.str (SX.S l)] ∧ l.length ≤ TB ∧ NoLong l ∧ (∀ a b, RdF l a b → ∀ H' x, Same H H' → FVp K H' x a b → Q x H') ∧ ((∀ a b, ¬ RdF l a b) → ∀ H', Same H H' → Q .non H')
def sepO : Option (List Nat) → List Nat
  | none => []
  | some _ => [47]
def botO : Option (List Nat) → List Nat
  | none => []
  | some q => q
theorem part_s {t : List Nat} {o : Option (List Nat)} (h : 47 ∉ t) : Txt.partition (SX.S (t ++ tailO o)) (SX.S [47]) = (SX.S t, SX.S (sepO o), SX.S (botO o)) := by
  cases o with
  | none =>
    show Txt.partition (SX.S (t ++ [])) _ = _
    rw [List.append_nil]
    exact SX.partition_none (by simp) (SX.par_head_none h)
  | some q => exact SX.partition_some (by simp) (SX.par_head q h)
theorem rd_zero : RdF [48] 0 1 := ⟨⟨by decide, by decide⟩, by decide⟩
theorem ww_zero {t : List Nat} (h : WW t) (z : NumText.digitsVal t = 0) : t = [48] := by
  rw [← ww_num h, z]
  rfl
theorem val_lit0 : NumText.digitsVal [48] = 0 := by decide
theorem val_lit1 : NumText.digitsVal [49] = 1 := by decide
theorem in01 {q : List Nat} : inV (.str (SX.S q)) [.str "0", .str "1"] = decide (q = [48] ∨ q = [49]) := by
  show (("0" : Str) == SX.S q || (("1" : Str) == SX.S q || false)) = _
  rw [show ("0" : Str) = SX.S [48] by decide, show ("1" : Str) = SX.S [49] by decide, SX.S_beq_eq, SX.S_beq_eq, Bool.or_false, Bool.eq_iff_iff, Bool.or_eq_true, decide_eq_true_iff, decide_eq_true_iff, decide_eq_true_iff]
  exact ⟨fun h => h.imp Eq.symm Eq.symm, fun h => h.imp Eq.symm Eq.symm⟩
theorem cutS_from1 {l : List Nat} : cutS (SX.S l) (some 1) none = SX.S (l.drop 1) := by
  unfold cutS
  rw [SX.S_len, HT.sIx_none]
  have e : HT.sIx l.length 0 (some 1) = min 1 l.length := HT.sIx_nat l.length 0 1
  rw [e]
  refine congrArg SX.S ?_
  show (l.drop (min 1 l.length)).take _ = _
  cases l with
  | nil => rfl
  | cons c r =>
    have : min 1 (c :: r).length = 1 := by rw [List.length_cons]; omega
    rw [this]
    exact List.take_of_length_le (by rw [List.length_drop]; omega)
section
variable {P : Program} {w : World} {K : PySem.W.Frag} {mg : Str → Option Value} {base : Heap}
theorem ok_fraction_in {f nA : Addr} {fd : FuncData} (F : Fun K "fraction_in" "fraction_in" s_fraction_in f fd) (nb : Nb mg) (cs : Cst9 K mg nA) (mi_gcd : mg "gcd" = some (.builtin "math.gcd")) (d_is_whole_word : Df P w K mg base CX0 1 "is_whole_word" ["word"] sp_wword) (d_number_in : Df P w K mg base CX0 1 "number_in" ["word"] sp_numin) : FnOk P w K mg base CX0 2 f fd ["word"] (sp_fracin K) := by
  have sc := sc_fraction_in
  refine F.ok sc (fun vs H Q E h => ?_) (fun cdv A outer s H vs Q E hr h => ?_)
  · obtain ⟨l, rfl, _⟩ := h
    rfl
  · obtain ⟨l, rfl, hl, nl, yes, no⟩ := h
    refine ⟨_, (pss_cons (ps_if (pt_cmpR op_eq (pv 0) pe_str (nomark _)) (pss_one (ps_ret (pe_constR (by rfl) cs.nought))) pss_nil)
    (pss_cons (ps_asg (pe_m1 PySem.F.slot_str_startswith PySem.F.type_str_startswith mq_starts (pv 0) pe_str) (pg_name (i := 1) sc.nd rfl (.inl rfl)))
    (Evl.pss_cut (ps_asg (pe_m1 PySem.F.slot_str_partition PySem.F.type_str_partition mq_part (pe_ifExp (pt_val (pv 1)) (pe_slice sl_str (pv 0) (po_some pe_int) po_none) (pv 0)) pe_str) (pg_tup (n := 3) (by rfl) (pgs_cons (pg_name (i := 2) sc.nd rfl (.inl rfl)) (pgs_cons (pg_name (i := 3) sc.nd rfl (.inl rfl)) (pgs_cons (pg_name (i := 4) sc.nd rfl (.inl rfl)) pgs_nil)))))
    (pss_cons (ps_if (PW.pt (pw_or (pt_not (pt_val (pe_call d_is_whole_word.F (hr.mono (by first | decide | omega)) (by rfl) d_is_whole_word.g d_is_whole_word.kp d_is_whole_word.b .nil pass0 (pa_cons (pv 2) pa_nil)))) (pw_or1 (pt_cmpR op_eq (pv 2) pe_str (nomark _))))) (pss_one (ps_ret pe_non)) pss_nil)
    (Evl.pss_cut (ps_asg (pe_ifExp (pt_val (pv 1)) (pe_un un_neg (pe_call d_number_in.F (hr.mono (by first | decide | omega)) (by rfl) d_number_in.g d_number_in.kp d_number_in.b .nil pass0 (pa_cons (pv 2) pa_nil))) (pe_call d_number_in.F (hr.mono (by first | decide | omega)) (by rfl) d_number_in.g d_number_in.kp d_number_in.b .nil pass0 (pa_cons (pv 2) pa_nil))) (pg_name (i := 5) sc.nd rfl (.inl rfl)))
    (pss_cons (ps_if (pt_cmpR op_eq (pv 3) pe_str (nomark _)) (pss_one (ps_ret (pe_tup (pa_cons (pv 5) (pa_cons pe_int pa_nil))))) pss_nil)
    (pss_cons (ps_if (PW.pt (pw_or (pt_not (pt_val (pe_call d_is_whole_word.F (hr.mono (by first | decide | omega)) (by rfl) d_is_whole_word.g d_is_whole_word.kp d_is_whole_word.b .nil pass0 (pa_cons (pv 4) pa_nil)))) (pw_or1 (pt_cmpR op_in_seq (pv 4) (pe_tup (pa_cons pe_str (pa_cons pe_str pa_nil))) (by rfl))))) (pss_one (ps_ret pe_non)) pss_nil)
    (pss_cons (ps_asg (pe_call d_number_in.F (hr.mono (by first | decide | omega)) (by rfl) d_number_in.g d_number_in.kp d_number_in.b .nil pass0 (pa_cons (pv 4) pa_nil)) (pg_name (i := 6) sc.nd rfl (.inl rfl)))
    (pss_one (ps_ret (pe_ifExp (pt_cmpR op_eq (pe_callBfun cr_gcd (by rfl) mi_gcd (pa_cons (pv 5) (pa_cons (pv 6) pa_nil))) pe_int (nomark _)) (pe_tup (pa_cons (pv 5) (pa_cons (pv 6) pa_nil))) pe_non))))))))))), ?_⟩
    (rw [show start ["word", "negative", "top", "slash", "bottom", "number", "below"] [.str (SX.S l)] = [some (.str (SX.S l)), none, none, none, none, none, none] from rfl]; try dsimp only [cxOf])
    walk_at "v"
    refine eq_s (l := l) (m := [48]) rfl (by decide) ?_
    by_cases h0 : l = [48]
    · rw [decide_eq_true h0]
      refine ⟨_, rfl, iteT ?_⟩
      walk_at "v"
      exact yes 0 1 (by rw [h0]; exact rd_zero) H _ (Same.refl _) ⟨nA, rfl, .inr cs.kn⟩
    · rw [decide_eq_false h0]
      refine ⟨_, rfl, iteF ?_⟩
      walk_at "v"
      refine w_m1 ?_
      walk_at "v"
      refine ⟨⟨_, rfl⟩, ?_⟩
      walk_at "v"
      refine starts_s (l := l) (s := 45) rfl (by decide) ?_
      obtain ⟨neg, m, el, en, hn, em⟩ := neg_key l
      rw [← en]
      obtain ⟨t, o, et, ht⟩ := cut_key m
      have lm : m.length ≤ l.length := by
        rw [el, List.length_append]
        omega
      have lt : t.length ≤ l.length := by
        rw [et, List.length_append] at lm
        omega
      have lq : (botO o).length ≤ l.length := by
        have : (botO o).length ≤ (tailO o).length := by
          cases o with
          | none => exact Nat.le_refl _
          | some q => exact Nat.le_succ _
        rw [et, List.length_append] at lm
        omega
      have nt' : NoLong t := nl.sub (u := preN neg) (v := tailO o) (by rw [el, et, List.append_assoc])
      have nq : NoLong (botO o) := by
        cases o with
        | none => exact nl.sub (m := []) (u := l) (v := []) (by simp)
        | some q => exact nl.sub (m := q) (u := preN neg ++ t ++ [47]) (v := []) (by rw [el, et]; simp [tailO])
      have htn : neg = false → t.head? ≠ some 45 := fun z => head_app (by rw [← et]; exact hn z)
      have rd : ∀ a b, RdF l a b ↔ RdP neg t o a b := fun a b => by
        rw [el, et, ← List.append_assoc]
        exact rd_iff ht htn
      refine ⟨fun σ' H' => σ' = [some (.str (SX.S l)), some (.bl neg), some (.str (SX.S t)), some (.str (SX.S (sepO o))), some (.str (SX.S (botO o))), none, none] ∧ Same H H', ?_, ?_⟩
      · have key : ∀ Q2 : VK, (∀ p, H p = none → Q2 (.ref p) (upd H p (.tup [.str (SX.S t), .str (SX.S (sepO o)), .str (SX.S (botO o))]))) → rPartQ (.str (SX.S m)) [.str "/"] H Q2 := fun Q2 q2 => by
          refine ⟨SX.S m, "/", rfl, rfl, by decide, by rw [SX.S_len]; exact sz_txt (Nat.le_trans lm hl), ?_⟩
          rw [show ("/" : Str) = SX.S [47] by decide, et, part_s ht]
          exact q2
        have fin : ∀ p, H p = none → gTup K 3 (gCons (gName 2) (gCons (gName 3) (gCons (gName 4) gNil))) (.ref p) [some (.str (SX.S l)), some (.bl neg), none, none, none, none, none] (upd H p (.tup [.str (SX.S t), .str (SX.S (sepO o)), .str (SX.S (botO o))])) fun σ' H' => σ' = [some (.str (SX.S l)), some (.bl neg), some (.str (SX.S t)), some (.str (SX.S (sepO o))), some (.str (SX.S (botO o))), none, none] ∧ Same H H' := fun p np =>
          ⟨p, _, rfl, SqT.of upd_same, rfl, _, _, rfl, ⟨_, _, rfl, ⟨_, _, rfl, ⟨rfl, rfl, same_new np⟩⟩⟩⟩
        walk_at "v"
        refine w_m1 ?_
        walk_at "v"
        cases neg with
        | true =>
          refine iteT ?_
          refine w_sl ?_
          walk_at "v"
          refine w_part ?_
          walk_at "v"
          refine w_npart ?_
          refine ⟨SX.S l, rfl, by rw [SX.S_len]; exact sz_txt hl, ?_⟩
          rw [cutS_from1, show l.drop 1 = m by rw [em]; rfl]
          refine ⟨⟨_, rfl⟩, ?_⟩
          walk_at "v"
          exact key _ fin
        | false =>
          refine iteF ?_
          walk_at "v"
          rw [show l = m by rw [em]; rfl]
          refine ⟨⟨_, rfl⟩, ?_⟩
          walk_at "v"
          refine key _ ?_
          rw [show l = m by rw [em]; rfl] at fin
          exact fin
      · rintro σ' H1 ⟨rfl, S1⟩
        have out : (∀ a b, ¬ RdP neg t o a b) → ∀ H', Same H1 H' → Q .non H' := fun z H' S => no (fun a b r => z a b ((rd a b).mp r)) H' (S1.trans S)
        walk_at "v"
        refine ⟨t, rfl, Nat.le_trans lt hl, fun H2 b S2 hb => ?_⟩
        walk_at "v"
        refine w_if (fun h1 => ?_) (fun h1 => ?_)
        · walk_at "v"
          exact out (fun a b' r => by rw [hb.mpr r.1] at h1; cases h1) _ S2
        · have wt : WW t := hb.mp (by cases b <;> first | rfl | cases h1)
          walk_at "v"
          refine eq_s (l := t) (m := [48]) rfl (by decide) ?_
          by_cases h2 : t = [48]
          · rw [decide_eq_true h2]
            refine ⟨_, rfl, iteT ?_⟩
            walk_at "v"
            refine out (fun a b' r => ?_) _ S2
            obtain ⟨_, r2, _, r4⟩ := r
            have z := r2 (by rw [h2]; exact val_lit0)
            cases o with
            | none =>
              refine h0 ?_
              rw [el, et, z, h2]
              rfl
            | some q =>
              obtain ⟨_, r6, _, r8⟩ := r4
              rw [h2, val_lit0, Nat.gcd_zero_left] at r8
              omega
          · rw [decide_eq_false h2]
            refine ⟨_, rfl, iteF ?_⟩
            have vt : NumText.digitsVal t ≠ 0 := fun z => h2 (ww_zero wt z)
            have t1 : 1 ≤ t.length := List.length_pos_iff.mpr wt.2.1
            walk_at "v"
            refine ⟨fun σ' H' => σ' = [some (.str (SX.S l)), some (.bl neg), some (.str (SX.S t)), some (.str (SX.S (sepO o))), some (.str (SX.S (botO o))), some (.int (valS neg t)), none] ∧ Same H1 H', ?_, ?_⟩
            · walk_at "v"
              cases neg with
              | true =>
                refine iteT ?_
                walk_at "v"
                refine ⟨t, rfl, wt.1, t1, nt'.len wt.1, fun H3 S3 => ?_⟩
                walk_at "v"
                exact ⟨rfl, S2.trans S3⟩
              | false =>
                refine iteF ?_
                walk_at "v"
                refine ⟨t, rfl, wt.1, t1, nt'.len wt.1, fun H3 S3 => ?_⟩
                walk_at "v"
                exact ⟨rfl, S2.trans S3⟩
            · rintro σ' H3 ⟨rfl, S3⟩
              walk_at "v"
              refine eq_s (l := sepO o) (m := []) rfl (by decide) ?_
              cases o with
              | none =>
                rw [show decide (sepO none = []) = true from rfl]
                refine ⟨_, rfl, iteT ?_⟩
                walk_at "v"
                refine nt_mk fun p np => ?_
                exact yes (valS neg t) 1 ((rd _ _).mpr ⟨wt, fun z => absurd z vt, rfl, rfl⟩) _ _ (S1.trans (S3.new np)) ⟨p, rfl, .inl upd_same⟩
              | some q =>
                rw [show decide (sepO (some q) = []) = false from rfl]
                refine ⟨_, rfl, iteF ?_⟩
                walk_at "v"
                refine ⟨q, rfl, Nat.le_trans lq hl, fun H4 b4 S4 hb4 => ?_⟩
                walk_at "v"
                have out2 : (∀ a b, ¬ RdP neg t (some q) a b) → ∀ H', Same H4 H' → Q .non H' := fun z H' S => out z H' (S3.trans (S4.trans S))
                refine w_if (fun h3 => ?_) (fun h3 => ?_)
                · walk_at "v"
                  exact out2 (fun a b' r => by rw [hb4.mpr r.2.2.2.1] at h3; cases h3) _ (Same.refl _)
                · have wq : WW q := hb4.mp (by cases b4 <;> first | rfl | cases h3)
                  walk_at "v"
                  have q1 : 1 ≤ q.length := List.length_pos_iff.mpr wq.2.1
                  refine nt_mk fun p np => ?_
                  have S5 := S4.new (o := .tup [.str "0", .str "1"]) np
                  refine ⟨p, _, rfl, .inr (SqT.of upd_same), rfl, rfl, ?_⟩
                  show ∃ k, V.bl (inV (.str (SX.S q)) [.str "0", .str "1"]) = .bl k ∧ _
                  rw [in01]
                  refine ⟨_, rfl, ?_⟩
                  by_cases h4 : q = [48] ∨ q = [49]
                  · rw [decide_eq_true h4]
                    refine iteT ?_
                    walk_at "v"
                    refine out2 (fun a b' r => ?_) _ (same_new np)
                    have r2 := r.2.2.2.2.1
                    rcases h4 with h4 | h4
                    · rw [h4, val_lit0] at r2
                      omega
                    · rw [h4, val_lit1] at r2
                      omega
                  · rw [decide_eq_false h4]
                    refine iteF ?_
                    walk_at "v"
                    refine ⟨q, rfl, wq.1, q1, nq.len wq.1, fun H6 S6 => ?_⟩
                    have v2 : 2 ≤ NumText.digitsVal q := by
                      have e := ww_num wq
                      by_cases z0 : NumText.digitsVal q = 0
                      · exact absurd (.inl (ww_zero wq z0)) h4
                      · by_cases z1 : NumText.digitsVal q = 1
                        · rw [z1] at e
                          exact absurd (.inr e.symm) h4
                        · omega
                    walk_at "v"
                    rw [valS_abs, Int.natAbs_natCast]
                    refine w_ifd (fun h5 => ?_) (fun h5 => ?_)
                    · walk_at "v"
                      refine nt_mk fun p2 np2 => ?_
                      exact yes (valS neg t) (NumText.digitsVal q : Nat) ((rd _ _).mpr ⟨wt, fun z => absurd z vt, rfl, wq, v2, rfl, by omega⟩) _ _ (S1.trans (S3.trans (S5.trans (S6.new np2)))) ⟨p2, rfl, .inl upd_same⟩
                    · walk_at "v"
                      refine out2 (fun a b' r => h5 ?_) _ ((same_new np).trans S6)
                      have := r.2.2.2.2.2.2
                      omega
end

/-! ### is it a tree? -/
def isSc : PyData → Bool
  | .none => true
  | .bool _ => true
  | .int _ => true
  | .str _ => true
  | _ => false
/-- the heads of tuples are scalars, n tuples deep -/
def OkH : Nat → PyData → Prop
  | 0, _ => True
  | n + 1, d => ∀ xs, d = .tuple xs → (∀ x, xs.head? = some x → isSc x = true) ∧ ∀ a b c e, xs = [a, b, c, e] → OkH n c ∧ OkH n e
theorem okh_tr : ∀ (n : Nat) (t : Tr), OkH n (trD t)
  | 0, _ => trivial
  | n + 1, .leaf => fun xs e => by
    injection e with e
    subst e
    exact ⟨fun x h => by injection h with h; rw [← h]; rfl, fun a b c e h => by cases h⟩
  | n + 1, .mot m => fun xs e => by
    injection e with e
    subst e
    exact ⟨fun x h => by injection h with h; rw [← h]; rfl, fun a b c e h => by cases h⟩
  | n + 1, .spl m t1 t2 => fun xs e => by
    injection e with e
    subst e
    exact ⟨fun x h => by injection h with h; rw [← h]; rfl, fun a b c e h => by cases h; exact ⟨okh_tr n t1, okh_tr n t2⟩⟩
def TrK (k : Nat) (d : PyData) : Prop := ∃ t : Tr, d = trD t ∧ t.dep ≤ k
theorem tr1 {k : Nat} {d0 : PyData} : TrK (k + 1) (.tuple [d0]) ↔ d0 = .str "leaf" := by
  constructor
  · rintro ⟨t, e, _⟩
    cases t <;> simp [trD] at e
    exact e
  · rintro rfl
    exact ⟨.leaf, rfl, by simp [Tr.dep]⟩
theorem tr2 {k : Nat} {d0 d1 : PyData} : TrK (k + 1) (.tuple [d0, d1]) ↔ d0 = .str "motion" ∧ ∃ n : Nat, d1 = .int (n : Int) := by
  constructor
  · rintro ⟨t, e, _⟩
    cases t <;> simp [trD] at e
    exact ⟨e.1, _, e.2⟩
  · rintro ⟨rfl, n, rfl⟩
    exact ⟨.mot n, rfl, by simp [Tr.dep]⟩
theorem tr4 {k : Nat} {d0 d1 d2 d3 : PyData} : TrK (k + 1) (.tuple [d0, d1, d2, d3]) ↔ d0 = .str "split" ∧ (∃ n : Nat, d1 = .int (n : Int)) ∧ TrK k d2 ∧ TrK k d3 := by
  constructor
  · rintro ⟨t, e, h⟩
    cases t with
    | spl n a b =>
      simp only [Tr.dep] at h
      simp [trD] at e
      exact ⟨e.1, ⟨n, e.2.1⟩, ⟨a, e.2.2.1, by omega⟩, ⟨b, e.2.2.2, by omega⟩⟩
    | _ => simp [trD] at e
  · rintro ⟨rfl, ⟨n, rfl⟩, ⟨a, rfl, ha⟩, ⟨b, rfl, hb⟩⟩
    exact ⟨.spl n a b, rfl, by simp only [Tr.dep]; omega⟩
theorem trk_tup {k : Nat} {d : PyData} (h : TrK k d) : ∃ xs, d = .tuple xs ∧ (xs.length = 1 ∨ xs.length = 2 ∨ xs.length = 4) := by
  obtain ⟨t, rfl, _⟩ := h
  cases t
  · exact ⟨_, rfl, .inl rfl⟩
  · exact ⟨_, rfl, .inr (.inl rfl)⟩
  · exact ⟨_, rfl, .inr (.inr rfl)⟩
theorem trk0 {d : PyData} (h : TrK 0 d) : False := by
  obtain ⟨t, rfl, h⟩ := h
  have := t.dep_pos
  omega
section
variable {sa : Addr} {H : Hp} {Q : VK} {x : V} {d : PyData} {y : Str}
theorem sc_dec (r : Rp sa H x d) (s : isSc d = true) : scal x (.str y) = true ∧ (decide (x = .str y) = true ↔ d = .str y) := by
  cases r with
  | non => exact ⟨rfl, by simp⟩
  | bl b => exact ⟨rfl, by simp⟩
  | int i => exact ⟨rfl, by simp⟩
  | str z => exact ⟨rfl, by simp⟩
  | _ => cases s
theorem eq_sc (r : Rp sa H x d) (s : isSc d = true) (q : ∀ b, (b = true ↔ d = .str y) → Q (.bl b) H) : rEq x (.str y) H Q := ⟨(sc_dec r s).1, q _ (sc_dec r s).2⟩
theorem ne_sc (r : Rp sa H x d) (s : isSc d = true) (q : ∀ b, (b = true ↔ d = .str y) → Q (.bl (!b)) H) : rNe x (.str y) H Q := ⟨(sc_dec r s).1, q _ (sc_dec r s).2⟩
theorem tupof_t {n : Int} (h : f_tupof [d, .int n] = .bool true) : ∃ l, d = .tuple l ∧ (l.length : Int) = n := by
  cases d with
  | tuple l =>
    refine ⟨l, rfl, eqB_t ?_⟩
    injection h
  | _ => cases h
theorem tupof_f {n : Int} (h : f_tupof [d, .int n] = .bool false) : ∀ l, d = .tuple l → (l.length : Int) ≠ n := by
  rintro l rfl
  refine eqB_f ?_
  injection h
end
abbrev sp_istree (n : Nat) : Sp := fun vs H Q _ => ∃ (sa : Addr) (x : V) (d : PyData) (m : Int), vs = [x, .int m] ∧ (∃ o, H sa = some o) ∧ Rp sa H x d ∧ OkH n d ∧ 1 ≤ n ∧ m = (n : Int) ∧ ∀ H' b, Same H H' → (b = true ↔ TrK n d) → Q (.bl b) H'
section
variable {P : Program} {w : World} {K : PySem.W.Frag} {mg : Str → Option Value} {base : Heap}
theorem st_is_tree {n : Nat} {f : Addr} {fd : FuncData} (F : Fun K "is_tree" "is_tree" s_is_tree f fd) (nb : Nb mg) (d_is_tuple_of : Df P w K mg base CX0 1 "is_tuple_of" ["thing", "many"] sp_tupof) (d_is_number : Df P w K mg base CX0 2 "is_number" ["thing"] sp_isnum) (d_is_tree : Df P w K mg base CX0 (n + 2) "is_tree" ["thing", "deepest"] (sp_istree n)) : FnOk P w K mg base CX0 (n + 3) f fd ["thing", "deepest"] (sp_istree (n + 1)) := by
  have sc := sc_is_tree
  refine F.ok sc (fun vs H Q E h => ?_) (fun cdv A outer s H vs Q E hr h => ?_)
  · obtain ⟨sa, x, d, m, rfl, _⟩ := h
    rfl
  · obtain ⟨sa, x, d, m, rfl, tr, r0, hs, _, em, q⟩ := h
    refine ⟨_, (pss_cons (ps_if (pt_val (pe_call d_is_tuple_of.F (hr.mono (by first | decide | omega)) (by rfl) d_is_tuple_of.g d_is_tuple_of.kp d_is_tuple_of.b .nil pass0 (pa_cons (pv 0) (pa_cons pe_int pa_nil)))) (pss_one (ps_ret (pe_cmpR op_eq (pe_ix ix_tup (pv 0) pe_int (fun _ _ => rfl)) pe_str (nomark _)))) pss_nil)
    (pss_cons (ps_if (pt_val (pe_call d_is_tuple_of.F (hr.mono (by first | decide | omega)) (by rfl) d_is_tuple_of.g d_is_tuple_of.kp d_is_tuple_of.b .nil pass0 (pa_cons (pv 0) (pa_cons pe_int pa_nil)))) (pss_one (ps_ret (pe_and (pe_cmpR op_eq (pe_ix ix_tup (pv 0) pe_int (fun _ _ => rfl)) pe_str (nomark _)) (pe_one (pe_call d_is_number.F (hr.mono (by first | decide | omega)) (by rfl) d_is_number.g d_is_number.kp d_is_number.b .nil pass0 (pa_cons (pe_ix ix_tup (pv 0) pe_int (fun _ _ => rfl)) pa_nil)))))) pss_nil)
    (pss_cons (ps_if (PW.pt (pw_or (pt_not (pt_val (pe_call d_is_tuple_of.F (hr.mono (by first | decide | omega)) (by rfl) d_is_tuple_of.g d_is_tuple_of.kp d_is_tuple_of.b .nil pass0 (pa_cons (pv 0) (pa_cons pe_int pa_nil))))) (pw_or (pt_cmpR op_ne (pe_ix ix_tup (pv 0) pe_int (fun _ _ => rfl)) pe_str (nomark _)) (pw_or (pt_not (pt_val (pe_call d_is_number.F (hr.mono (by first | decide | omega)) (by rfl) d_is_number.g d_is_number.kp d_is_number.b .nil pass0 (pa_cons (pe_ix ix_tup (pv 0) pe_int (fun _ _ => rfl)) pa_nil)))) (pw_or1 (pt_cmpR op_lt (pv 1) pe_int (nomark _))))))) (pss_one (ps_ret pe_bl)) pss_nil)
    (pss_one (ps_ret (pe_and (pe_call d_is_tree.F (hr.mono (by first | decide | omega)) (by rfl) d_is_tree.g d_is_tree.kp d_is_tree.b .nil pass0 (pa_cons (pe_ix ix_tup (pv 0) pe_int (fun _ _ => rfl)) (pa_cons (pe_op op_sub (pv 1) pe_int) pa_nil))) (pe_one (pe_call d_is_tree.F (hr.mono (by first | decide | omega)) (by rfl) d_is_tree.g d_is_tree.kp d_is_tree.b .nil pass0 (pa_cons (pe_ix ix_tup (pv 0) pe_int (fun _ _ => rfl)) (pa_cons (pe_op op_sub (pv 1) pe_int) pa_nil)))))))))), ?_⟩
    (rw [show start ["thing", "deepest"] [x, .int m] = [some (x), some (.int m)] from rfl]; try dsimp only [cxOf])
    have W := wd_start tr (.cons r0 .nil)
    walk_at "v"
    refine c_tupof W (W.get .here) fun H1 k1 e1 W1 => ?_
    walk_at "v"
    refine w_if (fun h1 => ?_) (fun h1 => ?_)
    · subst h1
      obtain ⟨l, rfl, hl⟩ := tupof_t e1
      match l, hl with
      | [d0], _ =>
        obtain ⟨p, rfl⟩ : ∃ p, x = .ref p := by
          cases r0
          exact ⟨_, rfl⟩
        have s0 := (hs _ rfl).1 d0 rfl
        walk_at "v"
        rename_i x0 W2
        refine eq_sc (W2.get .here) s0 fun b hb => ?_
        exact q _ b (W2.same rfl) (hb.trans tr1.symm)
    · subst h1
      have n1 := tupof_f e1
      walk_at "v"
      refine c_tupof W1 (W1.get .here) fun H2 k2 e2 W2 => ?_
      walk_at "v"
      refine w_if (fun h2 => ?_) (fun h2 => ?_)
      · subst h2
        obtain ⟨l, rfl, hl⟩ := tupof_t e2
        match l, hl with
        | [d0, d1], _ =>
          obtain ⟨p, rfl⟩ : ∃ p, x = .ref p := by
            cases r0
            exact ⟨_, rfl⟩
          have s0 := (hs _ rfl).1 d0 rfl
          walk_at "v"
          rename_i x0 W3
          refine eq_sc (W3.get .here) s0 fun b hb => ?_
          walk_at "v"
          refine w_if (fun h3 => ?_) (fun h3 => ?_)
          · walk_at "v"
            rename_i x1 W4
            refine ⟨sa, x1, d1, rfl, W4.tr, W4.get .here, fun H5 b5 S5 hb5 => ?_⟩
            exact q _ b5 ((W4.same rfl).trans S5) (hb5.trans ⟨fun z => tr2.mpr ⟨hb.mp h3, z⟩, fun z => (tr2.mp z).2⟩)
          · exact q _ _ (W3.same rfl) ⟨fun z => (by cases z), fun z => by rw [hb.mpr (tr2.mp z).1] at h3; cases h3⟩
      · subst h2
        have n2 := tupof_f e2
        walk_at "v"
        refine c_tupof W2 (W2.get .here) fun H3 k3 e3 W3 => ?_
        walk_at "v"
        refine w_if (fun h3 => ?_) (fun h3 => ?_)
        · have h3 : k3 = false := by cases k3 <;> first | rfl | cases h3
          subst h3
          have n3 := tupof_f e3
          walk_at "v"
          refine q _ _ (W3.same rfl) ⟨fun z => (by cases z), fun z => ?_⟩
          obtain ⟨xs, rfl, hx⟩ := trk_tup z
          have := n1 xs rfl
          have := n2 xs rfl
          have := n3 xs rfl
          omega
        · have h3 : k3 = true := by cases k3 <;> first | rfl | cases h3
          subst h3
          obtain ⟨l, rfl, hl⟩ := tupof_t e3
          match l, hl with
          | [d0, d1, d2, d3], _ =>
            obtain ⟨p, rfl⟩ : ∃ p, x = .ref p := by
              cases r0
              exact ⟨_, rfl⟩
            have s0 := (hs _ rfl).1 d0 rfl
            have sr := (hs _ rfl).2 d0 d1 d2 d3 rfl
            walk_at "v"
            rename_i x0 W4
            refine ne_sc (W4.get .here) s0 fun b hb => ?_
            walk_at "v"
            refine w_if (fun h4 => ?_) (fun h4 => ?_)
            · walk_at "v"
              exact q _ _ (W4.same rfl) ⟨fun z => (by cases z), fun z => by rw [hb.mpr (tr4.mp z).1] at h4; cases h4⟩
            · have h4 : b = true := by cases b <;> first | rfl | cases h4
              walk_at "v"
              rename_i x1 W5
              refine ⟨sa, x1, d1, rfl, W5.tr, W5.get .here, fun H6 b6 S6 hb6 => ?_⟩
              have W6 := W5.go S6
              walk_at "v"
              refine w_if (fun h6 => ?_) (fun h6 => ?_)
              · walk_at "v"
                exact q _ _ (W6.same rfl) ⟨fun z => (by cases z), fun z => by rw [hb6.mpr (tr4.mp z).2.1] at h6; cases h6⟩
              · have h6 : b6 = true := by cases b6 <;> first | rfl | cases h6
                walk_at "v"
                refine w_ifd (fun h7 => ?_) (fun h7 => ?_)
                · walk_at "v"
                  refine q _ _ (W6.same rfl) ⟨fun z => (by cases z), fun z => ?_⟩
                  have e0 : n = 0 := by omega
                  subst e0
                  exact absurd (tr4.mp z).2.2.1 trk0
                · walk_at "v"
                  rename_i x2 W7
                  refine ⟨sa, x2, d2, m - 1, rfl, W7.tr, W7.get .here, sr.1, by omega, by omega, fun H8 b8 S8 hb8 => ?_⟩
                  have W8 := W7.go S8
                  walk_at "v"
                  refine w_if (fun h8 => ?_) (fun h8 => ?_)
                  · walk_at "v"
                    rename_i x3 W9
                    refine ⟨sa, x3, d3, m - 1, rfl, W9.tr, W9.get .here, sr.2, by omega, by omega, fun H10 b10 S10 hb10 => ?_⟩
                    exact q _ _ ((W9.same rfl).trans S10) (hb10.trans ⟨fun z => tr4.mpr ⟨hb.mp h4, hb6.mp h6, hb8.mp h8, z⟩, fun z => (tr4.mp z).2.2.2⟩)
                  · exact q _ _ (W8.same rfl) ⟨fun z => (by cases z), fun z => by rw [hb8.mpr (tr4.mp z).2.2.1] at h8; cases h8⟩
def rec_is_tree {f : Addr} {fd : FuncData} (F : Fun K "is_tree" "is_tree" s_is_tree f fd) (nb : Nb mg) (d_is_tuple_of : Df P w K mg base CX0 1 "is_tuple_of" ["thing", "many"] sp_tupof) (d_is_number : Df P w K mg base CX0 2 "is_number" ["thing"] sp_isnum) (gm : mg "is_tree" = some (.ref f)) (gk : PySem.W.keepIn K (.ref f) = true) (gb : Binds K fd ["thing", "deepest"] []) : ∀ n, Df P w K mg base CX0 (n + 2) "is_tree" ["thing", "deepest"] (sp_istree n)
  | 0 => ⟨f, fd, gm, gk, gb, ⟨fun _ _ _ _ ⟨_, _, _, _, h, _⟩ => (by rw [h]; exact rfl), by
    intro A outer s H args us vs Q E _ _ _ _ h
    obtain ⟨_, _, _, _, _, _, _, _, h, _⟩ := h
    exact absurd h (by decide)⟩⟩
  | n + 1 => ⟨f, fd, gm, gk, gb, st_is_tree F nb d_is_tuple_of d_is_number (rec_is_tree F nb d_is_tuple_of d_is_number gm gk gb n)⟩
theorem ok_is_tree {f : Addr} {fd : FuncData} (F : Fun K "is_tree" "is_tree" s_is_tree f fd) (nb : Nb mg) (d_is_tuple_of : Df P w K mg base CX0 1 "is_tuple_of" ["thing", "many"] sp_tupof) (d_is_number : Df P w K mg base CX0 2 "is_number" ["thing"] sp_isnum) (gm : mg "is_tree" = some (.ref f)) (gk : PySem.W.keepIn K (.ref f) = true) (gb : Binds K fd ["thing", "deepest"] []) : FnOk P w K mg base CX0 14 f fd ["thing", "deepest"] (sp_istree 12) := by
  exact st_is_tree F nb d_is_tuple_of d_is_number (rec_is_tree F nb d_is_tuple_of d_is_number gm gk gb 11)
end

/-! ### trees written -/
theorem trL_TB {t : Tr} {k : Nat} (h : t.dep ≤ k) (hk : k ≤ 12) (hs : t.sm) : (trL t).length ≤ 172000 := by
  have := trL_len 12 t (Nat.le_trans h hk) hs
  omega
theorem joinS (s : List Nat) (ps : List (List Nat)) : Txt.join (SX.S s) (ps.map SX.S) = SX.S (TL.joinL s ps) := by
  refine TL.ext_tl ?_
  rw [TL.join_eq, TL.tl_join, SX.map_S_tl]
theorem join_s {K : PySem.W.Frag} {s : List Nat} {ps : List (List Nat)} {y : Str} {H : Hp} {p : Addr} {Q : VK} (hy : y = SX.S s) (e : H p = some (.lst (ps.map fun l => V.str (SX.S l)))) (hl : (ps.map List.length).sum + ps.length * s.length ≤ 16777216) (q : Q (.str (SX.S (TL.joinL s ps))) H) :
    ∃ (a : Str) (p' : Addr) (ys : List Str), V.str y = .str a ∧ [V.ref p] = [.ref p'] ∧ (SqL K H p' (ys.map V.str) ∨ SqT K H p' (ys.map V.str)) ∧ (ys.map (·.length)).sum + ys.length * a.length ≤ 16777216 ∧ Q (.str (Txt.join a ys)) H := by
  subst hy
  refine ⟨_, p, ps.map SX.S, rfl, rfl, .inl (SqL.of ?_), ?_, by rw [joinS]; exact q⟩
  · rw [e, List.map_map]
    rfl
  · rw [List.map_map, List.length_map, SX.S_len, show ((fun x : Str => x.length) ∘ SX.S) = List.length from funext fun l => SX.S_len l]
    exact hl
abbrev sp_wtree (n : Nat) : Sp := fun vs H Q _ => ∃ (sa : Addr) (x : V) (t : Tr), vs = [x] ∧ (∃ o, H sa = some o) ∧ Rp sa H x (trD t) ∧ t.dep ≤ n ∧ t.sm ∧ ∀ H', Same H H' → Q (.str (SX.S (trL t))) H'
abbrev sp_ttext (C : Addr) : Sp := fun vs H Q E => ∃ (sa : Addr) (x : V) (d : PyData), vs = [x] ∧ (∃ o, H sa = some o) ∧ Rp sa H x d ∧ OkH 12 d ∧ (∀ t, d = trD t → t.dep ≤ 12 → t.sm) ∧ (∀ t, d = trD t → t.dep ≤ 12 → ∀ H', Same H H' → Q (.str (SX.S (trL t))) H') ∧ (¬ TrK 12 d → ∀ H', Same H H' → E (.ref C) none H')
theorem sm_log {n : Nat} (h : n < 10 ^ 40) : (n : Int).natAbs < m60 := by
  rw [Int.natAbs_natCast]
  exact Nat.lt_of_lt_of_le h e40
section
variable {P : Program} {w : World} {K : PySem.W.Frag} {mg : Str → Option Value} {base : Heap}
theorem st_written_tree {n : Nat} (hn : n ≤ 11) {f : Addr} {fd : FuncData} (F : Fun K "written_tree" "written_tree" s_written_tree f fd) (nb : Nb mg) (d_word_of : Df P w K mg base CX0 2 "word_of" ["number"] sp_word) (d_written_tree : Df P w K mg base CX0 (n + 2) "written_tree" ["tree"] (sp_wtree n)) : FnOk P w K mg base CX0 (n + 3) f fd ["tree"] (sp_wtree (n + 1)) := by
  have sc := sc_written_tree
  refine F.ok sc (fun vs H Q E h => ?_) (fun cdv A outer s H vs Q E hr h => ?_)
  · obtain ⟨sa, x, d, rfl, _⟩ := h
    rfl
  · obtain ⟨sa, x, t, rfl, tr, r0, hd, hs, q⟩ := h
    refine ⟨_, (pss_cons (ps_if (pt_cmpR op_eq (pe_callB cq_len (by rfl) nb.len (by decide +kernel) (pa_cons (pv 0) pa_nil)) pe_int (nomark _)) (pss_one (ps_ret pe_str)) pss_nil)
    (pss_cons (ps_if (pt_cmpR op_eq (pe_callB cq_len (by rfl) nb.len (by decide +kernel) (pa_cons (pv 0) pa_nil)) pe_int (nomark _)) (pss_one (ps_ret (pe_call d_word_of.F (hr.mono (by first | decide | omega)) (by rfl) d_word_of.g d_word_of.kp d_word_of.b .nil pass0 (pa_cons (pe_ix ix_tup (pv 0) pe_int (fun _ _ => rfl)) pa_nil)))) pss_nil)
    (pss_one (ps_ret (pe_op op_add_str (pe_op op_add_str pe_str (pe_join pe_str (pe_lst (pa_cons (pe_call d_word_of.F (hr.mono (by first | decide | omega)) (by rfl) d_word_of.g d_word_of.kp d_word_of.b .nil pass0 (pa_cons (pe_ix ix_tup (pv 0) pe_int (fun _ _ => rfl)) pa_nil)) (pa_cons (pe_call d_written_tree.F (hr.mono (by first | decide | omega)) (by rfl) d_written_tree.g d_written_tree.kp d_written_tree.b .nil pass0 (pa_cons (pe_ix ix_tup (pv 0) pe_int (fun _ _ => rfl)) pa_nil)) (pa_cons (pe_call d_written_tree.F (hr.mono (by first | decide | omega)) (by rfl) d_written_tree.g d_written_tree.kp d_written_tree.b .nil pass0 (pa_cons (pe_ix ix_tup (pv 0) pe_int (fun _ _ => rfl)) pa_nil)) pa_nil)))))) pe_str))))), ?_⟩
    (rw [show start ["tree"] [x] = [some (x)] from rfl]; try dsimp only [cxOf])
    have W := wd_start tr (.cons r0 .nil)
    cases t with
    | leaf =>
      obtain ⟨p, rfl⟩ : ∃ p, x = .ref p := by
        cases r0
        exact ⟨_, rfl⟩
      have W : Wd false sa H H [.ref p] [.tuple [.str "leaf"]] := W
      walk_at "v"
      refine w_ifd (fun _ => ?_) (fun h => absurd rfl h)
      walk_at "v"
      exact q _ (Same.refl _)
    | mot m =>
      obtain ⟨p, rfl⟩ : ∃ p, x = .ref p := by
        cases r0
        exact ⟨_, rfl⟩
      have W : Wd false sa H H [.ref p] [.tuple [.str "motion", .int (m : Int)]] := W
      walk_at "v"
      refine w_ifd (fun h => absurd h (show ¬ ((2 : Nat) : Int) = 1 by decide)) (fun _ => ?_)
      walk_at "v"
      refine w_ifd (fun _ => ?_) (fun h => absurd rfl h)
      walk_at "v"
      refine ⟨(m : Int), rfl, sm_log hs, trivial, fun H1 S1 => ?_⟩
      rw [intL_pos]
      exact q _ S1
    | spl m t1 t2 =>
      obtain ⟨p, rfl⟩ : ∃ p, x = .ref p := by
        cases r0
        exact ⟨_, rfl⟩
      have W : Wd false sa H H [.ref p] [.tuple [.str "split", .int (m : Int), trD t1, trD t2]] := W
      simp only [Tr.dep] at hd
      have l1 := trL_TB (t := t1) (k := n) (by omega) (by omega) hs.2.1
      have l2 := trL_TB (t := t2) (k := n) (by omega) (by omega) hs.2.2
      have l0 := num_len40 hs.1
      walk_at "v"
      refine w_ifd (fun h => absurd h (show ¬ ((4 : Nat) : Int) = 1 by decide)) (fun _ => ?_)
      walk_at "v"
      refine w_ifd (fun h => absurd h (show ¬ ((4 : Nat) : Int) = 2 by decide)) (fun _ => ?_)
      walk_at "v"
      refine w_m1 ?_
      walk_at "v"
      refine ⟨⟨_, rfl⟩, ?_⟩
      walk_at "v"
      refine ⟨(m : Int), rfl, sm_log hs.1, trivial, fun H1 S1 => ?_⟩
      have W1 := W.go S1
      rw [intL_pos]
      walk_at "v"
      rename_i x2 W2
      refine ⟨sa, x2, t1, rfl, W2.tr, W2.get .here, by omega, hs.2.1, fun H3 S3 => ?_⟩
      have W3 := W2.go S3
      walk_at "v"
      rename_i x4 W4
      refine ⟨sa, x4, t2, rfl, W4.tr, W4.get .here, by omega, hs.2.2, fun H5 S5 => ?_⟩
      have W5 := W4.go S5
      walk_at "v"
      refine nl_mk fun q1 nq => ?_
      refine ⟨" ", q1, [TL.numL m, trL t1, trL t2].map SX.S, rfl, rfl, .inl (SqL.of upd_same), ?_, ?_⟩
      · simp only [List.map_cons, List.map_nil, List.sum_cons, List.sum_nil, List.length_cons, List.length_nil, SX.S_len]
        have : (" " : Str).length = 1 := by decide
        rw [this]
        omega
      · have lj : (TL.joinL [32] [TL.numL m, trL t1, trL t2]).length ≤ 349000 := by
          simp only [TL.joinL, List.length_append, List.length_cons, List.length_nil]
          omega
        rw [show (" " : Str) = SX.S [32] by decide, joinS]
        refine ⟨"(", SX.S (TL.joinL [32] [TL.numL m, trL t1, trL t2]), rfl, rfl, ?_, ?_⟩
        · rw [SX.S_len]
          exact Nat.le_trans (Nat.add_le_add_left lj _) (by decide)
        rw [show ("(" : Str) = SX.S [40] by decide, SX.S_cat]
        walk_at "v"
        refine cat_s (y := ")") (m := [41]) rfl (by decide) ?_ (by decide) ?_
        · rw [List.length_append]
          exact Nat.le_trans (Nat.add_le_add_left lj _) (by decide)
        · have e : [40] ++ TL.joinL [32] [TL.numL m, trL t1, trL t2] ++ [41] = trL (.spl m t1 t2) := by simp [trL, TL.joinL]
          rw [e]
          exact q _ ((W5.same rfl).new nq)
def rec_written_tree {f : Addr} {fd : FuncData} (F : Fun K "written_tree" "written_tree" s_written_tree f fd) (nb : Nb mg) (d_word_of : Df P w K mg base CX0 2 "word_of" ["number"] sp_word) (gm : mg "written_tree" = some (.ref f)) (gk : PySem.W.keepIn K (.ref f) = true) (gb : Binds K fd ["tree"] []) : ∀ n, n ≤ 12 → Df P w K mg base CX0 (n + 2) "written_tree" ["tree"] (sp_wtree n)
  | 0, _ => ⟨f, fd, gm, gk, gb, ⟨fun _ _ _ _ ⟨_, _, _, h, _⟩ => (by rw [h]; exact rfl), by
    intro A outer s H args us vs Q E _ _ _ _ h
    obtain ⟨_, _, t, _, _, _, h, _⟩ := h
    have := t.dep_pos
    omega⟩⟩
  | n + 1, h => ⟨f, fd, gm, gk, gb, st_written_tree (by omega) F nb d_word_of (rec_written_tree F nb d_word_of gm gk gb n (by omega))⟩
theorem ok_written_tree {f : Addr} {fd : FuncData} (F : Fun K "written_tree" "written_tree" s_written_tree f fd) (nb : Nb mg) (d_word_of : Df P w K mg base CX0 2 "word_of" ["number"] sp_word) (gm : mg "written_tree" = some (.ref f)) (gk : PySem.W.keepIn K (.ref f) = true) (gb : Binds K fd ["tree"] []) : FnOk P w K mg base CX0 14 f fd ["tree"] (sp_wtree 12) := by
  exact st_written_tree (by decide) F nb d_word_of (rec_written_tree F nb d_word_of gm gk gb 11 (by decide))
theorem ok_tree_text {f nA C : Addr} {fd : FuncData} (F : Fun K "tree_text" "tree_text" s_tree_text f fd) (nb : Nb mg) (cs : Cst9 K mg nA) (c_NoTree : Ex0 P w K mg base "NoTree" C) (d_is_tree : Df P w K mg base CX0 14 "is_tree" ["thing", "deepest"] (sp_istree 12)) (d_written_tree : Df P w K mg base CX0 14 "written_tree" ["tree"] (sp_wtree 12)) : FnOk P w K mg base (L2.CX P w) 15 f fd ["tree"] (sp_ttext C) := by
  have sc := sc_tree_text
  refine F.okX sc (fun vs H Q E h => ?_) (fun cdv A outer s H vs Q E hr h => ?_)
  · obtain ⟨sa, x, d, rfl, _⟩ := h
    rfl
  · obtain ⟨sa, x, d, rfl, tr, r0, ho, hs, yes, no⟩ := h
    refine ⟨_, (pss_cons (ps_if (pt_not (pt_val (pe_call d_is_tree.F (hr.mono (by first | decide | omega)) (by rfl) d_is_tree.g d_is_tree.kp d_is_tree.b .nil pass0 (pa_cons (pv 0) (pa_cons (pe_constI (by rfl) cs.deepest) pa_nil))))) (pss_one (ps_raise rfl (takes_of rfl rfl rfl rfl) (pmk0 c_NoTree (hr.mono (by decide)) (by rfl)))) pss_nil)
    (pss_one (ps_ret (pe_call d_written_tree.F (hr.mono (by first | decide | omega)) (by rfl) d_written_tree.g d_written_tree.kp d_written_tree.b .nil pass0 (pa_cons (pv 0) pa_nil))))), ?_⟩
    (rw [show start ["tree"] [x] = [some (x)] from rfl]; try dsimp only [cxOf])
    have W := wd_start tr (.cons r0 .nil)
    walk_at "v"
    refine ⟨sa, x, d, 12, rfl, tr, r0, ho, by decide, rfl, fun H1 b S1 hb => ?_⟩
    have W1 := W.go S1
    walk_at "v"
    refine w_if (fun h => ?_) (fun h => ?_)
    · walk_at "v"
      exact no (fun z => by rw [hb.mpr z] at h; cases h) _ S1
    · have h : b = true := by cases b <;> first | rfl | cases h
      obtain ⟨t, rfl, hd⟩ := hb.mp h
      walk_at "v"
      exact ⟨sa, x, t, rfl, W1.tr, W1.get .here, hd, hs t rfl hd, fun H2 S2 => yes t rfl hd _ (S1.trans S2)⟩
end

/-! ### trees read -/
abbrev sp_tfrom (C : Addr) (n : Nat) : Sp := fun vs H Q E => ∃ (sa : Addr) (l r : List Nat) (m : Int), vs = [.str (SX.S l), .int (pos l r), .int m] ∧ (∃ o, H sa = some o) ∧ l.length ≤ TB ∧ Suf r l ∧ 1 ≤ n ∧ m = (n : Int) ∧ (∀ t r', prs n r = .inr (t, r') → ∀ H' x, Same H H' → Rp sa H' x (.tuple [trD t, .int (pos l r')]) → Q x H') ∧ (∀ e, prs n r = .inl e → BadE C (pos l e + 1) H E)
abbrev sp_rtree (C : Addr) : Sp := fun vs H Q E => ∃ (sa : Addr) (x : V) (d : PyData), vs = [x] ∧ (∃ o, H sa = some o) ∧ Rp sa H x d ∧ (∀ l, d = .str (SX.S l) → l.length ≤ TB) ∧ ((∀ z, d ≠ .str z) → BadE C 0 H E) ∧ (∀ l, d = .str (SX.S l) → (∀ t, prs 12 l = .inr (t, []) → ∀ H' y, Same H H' → Rp sa H' y (trD t) → Q y H') ∧ (∀ t c r, prs 12 l = .inr (t, c :: r) → BadE C (pos l (c :: r) + 1) H E) ∧ (∀ e, prs 12 l = .inl e → BadE C (pos l e + 1) H E))
theorem rp_ref {sa : Addr} {H : Hp} {x : V} {ds : List PyData} (r : Rp sa H x (.tuple ds)) : ∃ p, x = .ref p := by
  cases r
  exact ⟨_, rfl⟩
section
variable {P : Program} {w : World} {K : PySem.W.Frag} {mg : Str → Option Value} {base : Heap}
theorem st_tree_from {n : Nat} {f C nA : Addr} {fd : FuncData} (F : Fun K "tree_from" "tree_from" s_tree_from f fd) (nb : Nb mg) (cs : Cst9 K mg nA) (d_sign_at : Df P w K mg base (L2.CX P w) 3 "sign_at" ["text", "at"] (sp_signat C)) (d_behind_sign : Df P w K mg base (L2.CX P w) 4 "behind_sign" ["text", "at", "wanted"] (sp_behind C)) (d_read_number : Df P w K mg base (L2.CX P w) 4 "read_number" ["text", "at"] (sp_readnum C)) (d_tree_from : Df P w K mg base (L2.CX P w) (n + 4) "tree_from" ["text", "at", "deepest"] (sp_tfrom C n)) : FnOk P w K mg base (L2.CX P w) (n + 5) f fd ["text", "at", "deepest"] (sp_tfrom C (n + 1)) := by
  have sc := sc_tree_from
  refine F.okX sc (fun vs H Q E h => ?_) (fun cdv A outer s H vs Q E hr h => ?_)
  · obtain ⟨sa, l, r, m, rfl, _⟩ := h
    rfl
  · obtain ⟨sa, l, r, m, rfl, tr, hl, hs, _, em, yes, no⟩ := h
    refine ⟨_, (pss_cons (ps_asg (pe_callS d_sign_at.F (hr.mono (by first | decide | omega)) (by rfl) d_sign_at.g d_sign_at.kp d_sign_at.b (fun σ => passAt (takes_of rfl rfl rfl rfl) σ) (pa_cons (pv 0) (pa_cons (pv 1) pa_nil))) (pg_name (i := 3) sc.nd rfl (.inl rfl)))
    (pss_cons (ps_if (pt_cmpR op_eq (pv 3) pe_str (nomark _)) (pss_one (ps_ret (pe_tup (pa_cons (pe_tup (pa_cons pe_str pa_nil)) (pa_cons (pe_op op_add (pv 1) pe_int) pa_nil))))) pss_nil)
    (pss_cons (ps_if (PW.pt (pw_or (pt_cmpR op_ne (pv 3) pe_str (nomark _)) (pw_or1 (pt_cmpR op_lt (pv 2) pe_int (nomark _))))) (pss_cons (ps_asg (pe_callS d_read_number.F (hr.mono (by first | decide | omega)) (by rfl) d_read_number.g d_read_number.kp d_read_number.b (fun σ => passAt (takes_of rfl rfl rfl rfl) σ) (pa_cons (pv 0) (pa_cons (pv 1) pa_nil))) (pg_tup (n := 2) (by rfl) (pgs_cons (pg_name (i := 4) sc.nd rfl (.inl rfl)) (pgs_cons (pg_name (i := 5) sc.nd rfl (.inl rfl)) pgs_nil))))
    (pss_one (ps_ret (pe_tup (pa_cons (pe_tup (pa_cons pe_str (pa_cons (pv 4) pa_nil))) (pa_cons (pv 5) pa_nil)))))) pss_nil)
    (pss_cons (ps_asg (pe_callS d_read_number.F (hr.mono (by first | decide | omega)) (by rfl) d_read_number.g d_read_number.kp d_read_number.b (fun σ => passAt (takes_of rfl rfl rfl rfl) σ) (pa_cons (pv 0) (pa_cons (pe_op op_add (pv 1) pe_int) pa_nil))) (pg_tup (n := 2) (by rfl) (pgs_cons (pg_name (i := 6) sc.nd rfl (.inl rfl)) (pgs_cons (pg_name (i := 5) sc.nd rfl (.inl rfl)) pgs_nil))))
    (pss_cons (ps_asg (pe_callS d_tree_from.F (hr.mono (by first | decide | omega)) (by rfl) d_tree_from.g d_tree_from.kp d_tree_from.b (fun σ => passAt (takes_of rfl rfl rfl rfl) σ) (pa_cons (pv 0) (pa_cons (pe_callS d_behind_sign.F (hr.mono (by first | decide | omega)) (by rfl) d_behind_sign.g d_behind_sign.kp d_behind_sign.b (fun σ => passAt (takes_of rfl rfl rfl rfl) σ) (pa_cons (pv 0) (pa_cons (pv 5) (pa_cons pe_str pa_nil)))) (pa_cons (pe_op op_sub (pv 2) pe_int) pa_nil)))) (pg_tup (n := 2) (by rfl) (pgs_cons (pg_name (i := 7) sc.nd rfl (.inl rfl)) (pgs_cons (pg_name (i := 5) sc.nd rfl (.inl rfl)) pgs_nil))))
    (pss_cons (ps_asg (pe_callS d_tree_from.F (hr.mono (by first | decide | omega)) (by rfl) d_tree_from.g d_tree_from.kp d_tree_from.b (fun σ => passAt (takes_of rfl rfl rfl rfl) σ) (pa_cons (pv 0) (pa_cons (pe_callS d_behind_sign.F (hr.mono (by first | decide | omega)) (by rfl) d_behind_sign.g d_behind_sign.kp d_behind_sign.b (fun σ => passAt (takes_of rfl rfl rfl rfl) σ) (pa_cons (pv 0) (pa_cons (pv 5) (pa_cons pe_str pa_nil)))) (pa_cons (pe_op op_sub (pv 2) pe_int) pa_nil)))) (pg_tup (n := 2) (by rfl) (pgs_cons (pg_name (i := 8) sc.nd rfl (.inl rfl)) (pgs_cons (pg_name (i := 5) sc.nd rfl (.inl rfl)) pgs_nil))))
    (pss_one (ps_ret (pe_tup (pa_cons (pe_tup (pa_cons pe_str (pa_cons (pv 6) (pa_cons (pv 7) (pa_cons (pv 8) pa_nil))))) (pa_cons (pe_callS d_behind_sign.F (hr.mono (by first | decide | omega)) (by rfl) d_behind_sign.g d_behind_sign.kp d_behind_sign.b (fun σ => passAt (takes_of rfl rfl rfl rfl) σ) (pa_cons (pv 0) (pa_cons (pv 5) (pa_cons pe_str pa_nil)))) pa_nil))))))))))), ?_⟩
    (rw [show start ["text", "at", "deepest", "sign", "number", "end", "corner", "first", "second"] [.str (SX.S l), .int (pos l r), .int m] = [some (.str (SX.S l)), some (.int (pos l r)), some (.int m), none, none, none, none, none, none] from rfl]; try dsimp only [cxOf])
    have W := wd_start tr .nil
    walk_at "v"
    refine ⟨l, r, rfl, hl, hs, fun c r0 er H1 S1 => ?_, fun er => no r (by rw [er]; rfl)⟩
    subst er
    have W1 := W.go S1
    walk_at "v"
    refine eq_s (l := [c]) (m := [46]) rfl (by decide) ?_
    by_cases h46 : c = 46
    · rw [decide_eq_true (one_eq.mpr h46)]
      refine ⟨_, rfl, iteT ?_⟩
      walk_at "v"
      rename_i W3
      have y := yes .leaf r0 (by unfold prs; exact if_pos h46)
      rw [pos_tail (c := c)] at y
      exact y _ _ (W3.same rfl) (W3.get .here)
    · rw [decide_eq_false (fun z => h46 (one_eq.mp z))]
      refine ⟨_, rfl, iteF ?_⟩
      walk_at "v"
      refine ne_s (l := [c]) (m := [40]) rfl (by decide) ?_
      by_cases hm : c ≠ 40 ∨ n = 0
      · have ep : prs (n + 1) (c :: r0) = bnd (rdn (c :: r0)) fun q => .inr (.mot q.1, q.2) := by
          rw [prs, if_neg h46, if_pos hm]
        by_cases hc : c = 40
        all_goals first
          | (rw [decide_eq_true (one_eq.mpr hc)]; refine ⟨_, rfl, iteF ?_⟩; walk_at "v"; refine w_ifd (fun _ => ?_) (fun h => absurd (show m < 2 by omega) h))
          | (rw [decide_eq_false (fun z => hc (one_eq.mp z))]; refine ⟨_, rfl, iteT ?_⟩)
        all_goals (
          walk_at "v"
          refine ⟨l, c :: r0, rfl, hl, hs, fun k r' e H2 p S2 np hp => ?_, fun e er => (no e (by rw [ep, er]; rfl)).same S1⟩
          have W2 := (W1.go S2).put (Rp.tup (W1.ne np) hp (.cons (.int _) (.cons (.int _) .nil)))
          walk_at "v"
          rename_i W5
          exact yes (.mot k) r' (by rw [ep, e]; rfl) _ _ (W5.same rfl) (W5.get .here))
      · have hc : c = 40 := by omega
        have hn : n ≠ 0 := by omega
        have ep : prs (n + 1) (c :: r0) = bnd (rdn r0) fun q => bnd (bhd 32 q.2) fun r2 => bnd (prs n r2) fun p => bnd (bhd 32 p.2) fun r4 => bnd (prs n r4) fun p2 => bnd (bhd 41 p2.2) fun r6 => .inr (.spl q.1 p.1 p2.1, r6) := by
          rw [prs, if_neg h46, if_neg hm]
        rw [decide_eq_true (one_eq.mpr hc)]
        refine ⟨_, rfl, iteF ?_⟩
        walk_at "v"
        refine w_ifd (fun h => absurd h (show ¬ m < 2 by omega)) (fun _ => ?_)
        walk_at "v"
        rw [show pos l (c :: r0) + 1 = pos l r0 from pos_tail.symm]
        refine ⟨l, r0, rfl, hl, hs.tail, fun k r1 e1 H2 p S2 np hp => ?_, fun e er => (no e (by rw [ep, er]; rfl)).same S1⟩
        rw [e1, bnd_r] at ep
        dsimp only at ep
        have s1 : Suf r1 l := by
          have := (rdn_ok e1).1
          have h := hs.tail
          rw [this] at h
          exact h.app
        have W2 := (W1.go S2).put (Rp.tup (W1.ne np) hp (.cons (.int _) (.cons (.int _) .nil)))
        walk_at "v"
        refine ⟨l, r1, 32, _, rfl, by decide, hl, s1, fun r2 e2 H3 S3 => ?_, fun e er => (no e (by rw [ep, er]; rfl)).same (W2.same rfl)⟩
        rw [e2, bnd_r] at ep
        have s2 : Suf r2 l := by
          have := bhd_ok e2
          subst this
          exact s1.tail
        have W3 := W2.go S3
        walk_at "v"
        refine ⟨sa, l, r2, m - 1, rfl, W3.tr, hl, s2, by omega, by omega, fun t1 r3 e3 H4 x S4 h4 => ?_, fun e er => (no e (by rw [ep, er]; rfl)).same (W3.same rfl)⟩
        rw [e3, bnd_r] at ep
        dsimp only at ep
        have s3 : Suf r3 l := by
          have := (prs_ok n e3).1
          subst this
          exact s2.app
        obtain ⟨p4, rfl⟩ := rp_ref h4
        have W4 := (W3.go S4).put h4
        walk_at "v"
        rename_i x52 W6
        refine ⟨l, r3, 32, _, rfl, by decide, hl, s3, fun r4 e4 H5 S5 => ?_, fun e er => (no e (by rw [ep, er]; rfl)).same (W6.same rfl)⟩
        rw [e4, bnd_r] at ep
        have s4 : Suf r4 l := by
          have := bhd_ok e4
          subst this
          exact s3.tail
        have W7 := W6.go S5
        walk_at "v"
        refine ⟨sa, l, r4, m - 1, rfl, W7.tr, hl, s4, by omega, by omega, fun t2 r5 e5 H8 x8 S8 h8 => ?_, fun e er => (no e (by rw [ep, er]; rfl)).same (W7.same rfl)⟩
        rw [e5, bnd_r] at ep
        dsimp only at ep
        have s5 : Suf r5 l := by
          have := (prs_ok n e5).1
          subst this
          exact s4.app
        obtain ⟨p8, rfl⟩ := rp_ref h8
        have W8 := (W7.go S8).put h8
        walk_at "v"
        rename_i W10
        refine ⟨l, r5, 41, _, rfl, by decide, hl, s5, fun r6 e6 H11 S11 => ?_, fun e er => (no e (by rw [ep, er]; rfl)).same (W10.same rfl)⟩
        rw [e6, bnd_r] at ep
        have W11 := W10.go S11
        walk_at "v"
        rename_i W12
        exact yes (.spl k t1 t2) r6 ep _ _ (W12.same rfl) (W12.get .here)
def rec_tree_from {f C nA : Addr} {fd : FuncData} (F : Fun K "tree_from" "tree_from" s_tree_from f fd) (nb : Nb mg) (cs : Cst9 K mg nA) (d_sign_at : Df P w K mg base (L2.CX P w) 3 "sign_at" ["text", "at"] (sp_signat C)) (d_behind_sign : Df P w K mg base (L2.CX P w) 4 "behind_sign" ["text", "at", "wanted"] (sp_behind C)) (d_read_number : Df P w K mg base (L2.CX P w) 4 "read_number" ["text", "at"] (sp_readnum C)) (gm : mg "tree_from" = some (.ref f)) (gk : PySem.W.keepIn K (.ref f) = true) (gb : Binds K fd ["text", "at", "deepest"] []) : ∀ n, Df P w K mg base (L2.CX P w) (n + 4) "tree_from" ["text", "at", "deepest"] (sp_tfrom C n)
  | 0 => ⟨f, fd, gm, gk, gb, ⟨fun _ _ _ _ ⟨_, _, _, _, h, _⟩ => (by rw [h]; exact rfl), by
    intro A outer s H args us vs Q E _ _ _ _ h
    obtain ⟨_, _, _, _, _, _, _, _, h, _⟩ := h
    exact absurd h (by decide)⟩⟩
  | n + 1 => ⟨f, fd, gm, gk, gb, st_tree_from F nb cs d_sign_at d_behind_sign d_read_number (rec_tree_from F nb cs d_sign_at d_behind_sign d_read_number gm gk gb n)⟩
theorem ok_tree_from {f C nA : Addr} {fd : FuncData} (F : Fun K "tree_from" "tree_from" s_tree_from f fd) (nb : Nb mg) (cs : Cst9 K mg nA) (d_sign_at : Df P w K mg base (L2.CX P w) 3 "sign_at" ["text", "at"] (sp_signat C)) (d_behind_sign : Df P w K mg base (L2.CX P w) 4 "behind_sign" ["text", "at", "wanted"] (sp_behind C)) (d_read_number : Df P w K mg base (L2.CX P w) 4 "read_number" ["text", "at"] (sp_readnum C)) (gm : mg "tree_from" = some (.ref f)) (gk : PySem.W.keepIn K (.ref f) = true) (gb : Binds K fd ["text", "at", "deepest"] []) : FnOk P w K mg base (L2.CX P w) 16 f fd ["text", "at", "deepest"] (sp_tfrom C 12) := by
  exact st_tree_from F nb cs d_sign_at d_behind_sign d_read_number (rec_tree_from F nb cs d_sign_at d_behind_sign d_read_number gm gk gb 11)
theorem kd_str {K : PySem.W.Frag} (d : PyData) : PySem.W.kitOne K (.type (tyD d)) (.type "str") = some (match d with | .str _ => true | _ => false) := by
  cases d with
  | none => exact kit_ty (a := "NoneType") (b := "str") (r := false) (by decide +kernel)
  | bool z => exact kit_ty (a := "bool") (b := "str") (r := false) (by decide +kernel)
  | int z => exact kit_ty (a := "int") (b := "str") (r := false) (by decide +kernel)
  | str z => exact kit_ty (a := "str") (b := "str") (r := true) (by decide +kernel)
  | list z => exact kit_ty (a := "list") (b := "str") (r := false) (by decide +kernel)
  | tuple z => exact kit_ty (a := "tuple") (b := "str") (r := false) (by decide +kernel)
  | dict z => exact kit_ty (a := "dict") (b := "str") (r := false) (by decide +kernel)
theorem str_SX (z : Str) : ∃ l, z = SX.S l := ⟨_, (SX.S_tl z).symm⟩
theorem rp_strI {sa : Addr} {H : Hp} {x : V} {z : Str} (r : Rp sa H x (.str z)) : x = .str z := by
  cases r
  rfl
theorem ok_read_tree {f C nA : Addr} {fd : FuncData} (F : Fun K "read_tree" "read_tree" s_read_tree f fd) (nb : Nb mg) (cs : Cst9 K mg nA) (c_BadText : ExF P w K mg base "BadText" C ["self", "at"] (sp_ini1 K C "at")) (hno : PySem.W.findIn K (.ref C) "at" = some none) (d_tree_from : Df P w K mg base (L2.CX P w) 16 "tree_from" ["text", "at", "deepest"] (sp_tfrom C 12)) : FnOk P w K mg base (L2.CX P w) 17 f fd ["text"] (sp_rtree C) := by
  have sc := sc_read_tree
  refine F.okX sc (fun vs H Q E h => ?_) (fun cdv A outer s H vs Q E hr h => ?_)
  · obtain ⟨sa, x, d, rfl, _⟩ := h
    rfl
  · obtain ⟨sa, x, d, rfl, tr, r0, hl, bad, ok⟩ := h
    refine ⟨_, (pss_cons (ps_if (pt_not (pt_val (pe_callB call_isi (by rfl) nb.isinstance (by decide +kernel) (pa_cons (pv 0) (pa_cons (pe_bltn (v := .ty "str") (u := .type "str") (by rfl) nb.str (by decide +kernel) rfl) pa_nil))))) (pss_one (ps_raise rfl (takes_of rfl rfl rfl rfl) (pmkA c_BadText (hr.mono (by decide)) (by rfl) (pa_cons pe_int pa_nil)))) pss_nil)
    (pss_cons (ps_asg (pe_callS d_tree_from.F (hr.mono (by first | decide | omega)) (by rfl) d_tree_from.g d_tree_from.kp d_tree_from.b (fun σ => passAt (takes_of rfl rfl rfl rfl) σ) (pa_cons (pv 0) (pa_cons pe_int (pa_cons (pe_constI (by rfl) cs.deepest) pa_nil)))) (pg_tup (n := 2) (by rfl) (pgs_cons (pg_name (i := 1) sc.nd rfl (.inl rfl)) (pgs_cons (pg_name (i := 2) sc.nd rfl (.inl rfl)) pgs_nil))))
    (pss_cons (ps_if (pt_cmpR op_lt (pv 2) (pe_callB cq_lenS (by rfl) nb.len (by decide +kernel) (pa_cons (pv 0) pa_nil)) (nomark _)) (pss_one (ps_raise rfl (takes_of rfl rfl rfl rfl) (pmkA c_BadText (hr.mono (by decide)) (by rfl) (pa_cons (pe_op op_add (pv 2) pe_int) pa_nil)))) pss_nil)
    (pss_one (ps_ret (pv 1)))))), ?_⟩
    (rw [show start ["text", "tree", "end"] [x] = [some (x), none, none] from rfl]; try dsimp only [cxOf])
    have W := wd_start tr (.cons r0 .nil)
    walk_at "v"
    refine w_isD r0 (kd_str d) ?_
    walk_at "v"
    cases d with
    | str z =>
      obtain ⟨l, rfl⟩ := str_SX z
      have hl := hl l rfl
      obtain ⟨yes, more, no⟩ := ok l rfl
      obtain rfl := rp_strI r0
      refine iteF ?_
      walk_at "v"
      refine ⟨sa, l, l, 12, by rw [pos_self], tr, hl, .refl l, by decide, rfl, fun t r' e H1 x1 S1 h1 => ?_, fun e er => no e er⟩
      obtain ⟨p, rfl⟩ := rp_ref h1
      have W1 := (W.go S1).put h1
      walk_at "v"
      rename_i x2 W2
      refine len_s hl ?_
      walk_at "v"
      cases r' with
      | nil =>
        refine w_ifd (fun h => absurd h (by rw [pos_nil]; omega)) (fun _ => ?_)
        walk_at "v"
        exact yes t e _ _ (W2.same rfl) (W2.get (.there .here))
      | cons c r =>
        have s : Suf (c :: r) l := by
          have := (prs_ok 12 e).1
          exact ⟨_, this⟩
        have sl := s.len
        refine w_ifd (fun _ => ?_) (fun h => absurd (show pos l (c :: r) < (l.length : Int) by unfold pos; rw [List.length_cons]; omega) h)
        refine w_mko ?_
        walk_at "v"
        exact mk_ini1 c_BadText.T hno fun d H3 S3 hd => more t c r e H3 d ((W2.same rfl).trans S3) hd
    | _ =>
      refine iteT ?_
      refine w_mko ?_
      walk_at "v"
      exact mk_ini1 c_BadText.T hno fun d H3 S3 hd => bad (fun z e => by cases e) H3 d S3 hd
end

/-! ### rows of numbers as texts, and back -/
theorem Wd.rebase {sa : Addr} {H0 H : Hp} {vs : List V} {ds : List PyData} (W : Wd false sa H0 H vs ds) : Wd false sa H H vs ds := ⟨But.refl _ _, fun _ => Same.refl _, fun e => (nomatch e), W.tr, W.r⟩
theorem lp_tup {K : PySem.W.Frag} {a : Addr} {xs : List V} {g : TG} {tb : TS} {D : Ends} {σ : L2.St} {H : Hp} (Pv : Nat → L2.St → Hp → Prop) (h0 : Pv 0 σ H) (hl : ∀ i σ H, i ≤ xs.length → Pv i σ H → SqT K H a xs)
    (hs : ∀ i x σ H, xs[i]? = some x → Pv i σ H → g x σ H fun σ2 H2 => tb { D with nx := Pv (i + 1), ct := Pv (i + 1), bk := D.nx } σ2 H2) (hd : ∀ σ H, Pv xs.length σ H → D.nx σ H) : LoopG (Itt K a) g tb D σ H := for_tup Pv h0 hl hs hd
def ptsOf : PyData → Option (List PyData) | .list xs => some xs | .tuple xs => some xs | _ => none
theorem isLT_pts {d : PyData} : isLT d = true ↔ ∃ xs, ptsOf d = some xs := by
  cases d <;> simp [isLT, ptsOf]
section
variable {b : Bool} {sa : Addr} {H0 H : Hp} {acc : List V} {dacc : List PyData} {Q : VK} {K : PySem.W.Frag}
theorem row_ref {v : V} {d : PyData} {ds : List PyData} (r : Rp sa H v d) (e : ptsOf d = some ds) : ∃ p xs, v = .ref p ∧ Rps sa H xs ds ∧ ((SqL K H p xs ∧ H p = some (.lst xs) ∧ d = .list ds) ∨ (SqT K H p xs ∧ H p = some (.tup xs) ∧ d = .tuple ds)) := by
  cases r with
  | @lst a xs ds n h r =>
    cases e
    exact ⟨a, xs, rfl, r, .inl ⟨SqL.of h, h, rfl⟩⟩
  | @tup a xs ds n h r =>
    cases e
    exact ⟨a, xs, rfl, r, .inr ⟨SqT.of h, h, rfl⟩⟩
  | _ => cases e
theorem l_row {p : Addr} {d : PyData} {ds : List PyData} (r : Rp sa H (.ref p) d) (e : ptsOf d = some ds) (h : Q (.int (ds.length : Int)) H) : rLenQ K [.ref p] H Q := by
  obtain ⟨p', xs, ep, rs, h2⟩ := row_ref (K := K) r e
  cases ep
  rw [← rs.lens] at h
  rcases h2 with ⟨h2, _⟩ | ⟨h2, _⟩
  · exact ⟨p, xs, rfl, .inl h2, h⟩
  · exact ⟨p, xs, rfl, .inr h2, h⟩
/-- a loop over a row's things that is left early or goes on -/
theorem lp_row {p : Addr} {d : PyData} {ds : List PyData} {g : TG} {tb : TS} {D : Ends} {σ : L2.St} (r : Rp sa H (.ref p) d) (e : ptsOf d = some ds) (Pv : Nat → L2.St → Hp → Prop) (h0 : Pv 0 σ H) (hk : ∀ i σ H', Pv i σ H' → Same H H')
    (hs : ∀ i x z σ H', ds[i]? = some z → Rp sa H' x z → Pv i σ H' → g x σ H' fun σ2 H2 => tb { D with nx := Pv (i + 1), ct := Pv (i + 1), bk := D.nx } σ2 H2) (hd : ∀ σ H', Pv ds.length σ H' → D.nx σ H') :
    ∃ a, V.ref p = .ref a ∧ (((∃ xs, SqL K H a xs) ∧ LoopG (Itl K a) g tb D σ H) ∨ ((∃ xs, SqT K H a xs) ∧ LoopG (Itt K a) g tb D σ H)) := by
  obtain ⟨p', xs, ep, rs, h2⟩ := row_ref (K := K) r e
  cases ep
  have ll := rs.lens
  have step : ∀ i x σ H', xs[i]? = some x → Pv i σ H' → g x σ H' fun σ2 H2 => tb { D with nx := Pv (i + 1), ct := Pv (i + 1), bk := D.nx } σ2 H2 := fun i x σ H' hx hp => by
    have hi : i < ds.length := by
      rw [← ll]
      exact (List.getElem?_eq_some_iff.mp hx).1
    obtain ⟨v, e1, r1⟩ := rps_at rs (List.getElem?_eq_getElem hi)
    rw [hx] at e1
    cases e1
    exact hs i x _ σ H' (List.getElem?_eq_getElem hi) (r1.same (hk i σ H' hp)) hp
  rcases h2 with ⟨h2, h3, _⟩ | ⟨h2, h3, _⟩
  · exact ⟨p, rfl, .inl ⟨⟨xs, h2⟩, lp_list (xs := xs) Pv h0 (fun i σ H' _ hp => SqL.of (hk i σ H' hp _ _ h3)) step (by rw [ll]; exact hd)⟩⟩
  · exact ⟨p, rfl, .inr ⟨⟨xs, h2⟩, lp_tup (xs := xs) Pv h0 (fun i σ H' _ hp => SqT.of (hk i σ H' hp _ _ h3)) step (by rw [ll]; exact hd)⟩⟩
end
theorem lp_enum {K : PySem.W.Frag} {a : Addr} {xs : List V} {g : TG} {tb : TS} {D : Ends} {σ : L2.St} {H : Hp} (Pv : Nat → L2.St → Hp → Prop) (h0 : Pv 0 σ H) (hl : ∀ i σ H, i ≤ xs.length → Pv i σ H → SqL K H a xs)
    (hs : ∀ (i : Nat) x σ H T, xs[i]? = some x → Pv i σ H → H T = none → g (.ref T) σ (upd H T (.tup [.int (i : Int), x])) fun σ2 H2 => tb { D with nx := Pv (i + 1), ct := Pv (i + 1), bk := D.nx } σ2 H2) (hd : ∀ σ H, Pv xs.length σ H → D.nx σ H) : LoopG (Ite K a) g tb D σ H := by
  refine ⟨fun i m σ H => i ≤ xs.length ∧ m = xs.length - i ∧ Pv i σ H, ⟨xs.length, by omega, by omega, h0⟩, fun i m σ H ⟨h1, h2, h3⟩ => ?_⟩
  have hx := hl i σ H h1 h3
  by_cases e : i = xs.length
  · subst e
    exact .inl ⟨⟨xs, hx, Nat.le_refl _⟩, hd σ H h3⟩
  · have hi : i < xs.length := by omega
    have ei := List.getElem?_eq_getElem hi
    refine .inr ⟨⟨xs, _, hx, ei⟩, fun σ' H' => Pv (i + 1) σ' H', fun σ' H' hp => ⟨m - 1, by omega, by omega, by omega, hp⟩, fun x H' y => ?_⟩
    obtain ⟨T, x0, rfl, nT, rfl, all⟩ := y
    exact hs i x0 σ H T (all xs hx) h3 nT
theorem w_ienum {K : PySem.W.Frag} {ta : TA} {σ : L2.St} {H : Hp} {R : It → Hp → Prop} (h : ta σ H fun vs H1 => ∃ a xs, vs = [.ref a] ∧ SqL K H1 a xs ∧ R (Ite K a) H1) : iEnum K ta σ H R := h
abbrev sp_isrow1 : Sp := Pf (fun ds => ∃ d, ds = [d]) fun ds => match ds with | [d] => .bool (isLT d) | _ => .none
/-- a dict whose keys are tuples -/
def IsDT (H : Hp) (x : V) : Prop := ∃ a kvs, x = .ref a ∧ H a = some (.dT kvs)
theorem IsDT.sm {H H' : Hp} {x : V} (h : IsDT H x) (S : Same H H') : IsDT H' x := by
  obtain ⟨a, kvs, rfl, e⟩ := h
  exact ⟨a, kvs, rfl, S _ _ e⟩
abbrev sp_isrow : Sp := fun vs H Q E => sp_isrow1 vs H Q E ∨ ∃ x, vs = [x] ∧ IsDT H x ∧ ∀ H', Same H H' → Q (.bl false) H'
/-- the fractions as data -/
def frD (fs : List (Int × Int)) : List PyData := fs.map fun q => Fr q.1 q.2
def LowS (fs : List (Int × Int)) : Prop := ∀ q ∈ fs, Low q.1 q.2
def SmF (fs : List (Int × Int)) : Prop := fs.length ≤ 300 ∧ ∀ q ∈ fs, q.1.natAbs < 10 ^ 40 ∧ q.2.natAbs < 10 ^ 40
def numsL (fs : List (Int × Int)) : List Nat := TL.joinL [32] (fs.map fun q => fracL q.1 q.2)
theorem frs_of {ds : List PyData} (h : ∀ z ∈ ds, isF z = true) : ∃ fs, ds = frD fs ∧ LowS fs := by
  induction ds with
  | nil => exact ⟨[], rfl, fun q h => by cases h⟩
  | cons d ds ih =>
    obtain ⟨fs, rfl, l⟩ := ih fun z hz => h z (List.mem_cons_of_mem _ hz)
    obtain ⟨a, b, rfl, l2⟩ := isF_inv (h _ (List.mem_cons_self ..))
    refine ⟨(a, b) :: fs, rfl, fun q hq => ?_⟩
    rcases List.mem_cons.mp hq with rfl | hq
    · exact l2
    · exact l q hq
theorem frs_isF {fs : List (Int × Int)} (h : LowS fs) : ∀ z ∈ frD fs, isF z = true := fun z hz => by
  obtain ⟨q, hq, rfl⟩ := List.mem_map.mp hz
  exact isF_fr (h q hq)
theorem joinL_len {ps : List (List Nat)} {m : Nat} (h : ∀ p ∈ ps, p.length ≤ m) : (TL.joinL [32] ps).length ≤ ps.length * (m + 1) := by
  induction ps with
  | nil => exact Nat.zero_le _
  | cons p r ih =>
    have hp := h p (List.mem_cons_self ..)
    have i := ih fun q hq => h q (List.mem_cons_of_mem _ hq)
    cases r with
    | nil =>
      simp only [TL.joinL, List.length_cons, List.length_nil]
      omega
    | cons q s =>
      simp only [TL.joinL, List.length_append, List.length_cons, List.length_nil] at i ⊢
      rw [Nat.add_mul]
      omega
theorem sum_len {ps : List (List Nat)} {m : Nat} (h : ∀ p ∈ ps, p.length ≤ m) : (ps.map List.length).sum ≤ ps.length * m := by
  induction ps with
  | nil => exact Nat.zero_le _
  | cons p r ih =>
    have hp := h p (List.mem_cons_self ..)
    have i := ih fun q hq => h q (List.mem_cons_of_mem _ hq)
    rw [List.map_cons, List.sum_cons, List.length_cons, Nat.add_mul]
    omega
theorem nums_parts {fs : List (Int × Int)} (h : SmF fs) : ∀ p ∈ fs.map fun q => fracL q.1 q.2, p.length ≤ 83 := fun p hp => by
  obtain ⟨q, hq, rfl⟩ := List.mem_map.mp hp
  exact fracL_len (h.2 q hq).1 (h.2 q hq).2
theorem nums_len {fs : List (Int × Int)} (h : SmF fs) : (numsL fs).length ≤ 25200 := by
  have := joinL_len (nums_parts h)
  rw [List.length_map] at this
  have h1 := h.1
  unfold numsL
  omega
abbrev sp_arefr : Sp := fun vs H Q _ => ∃ (sa p : Addr) (d : PyData) (ds : List PyData), vs = [.ref p] ∧ (∃ o, H sa = some o) ∧ Rp sa H (.ref p) d ∧ ptsOf d = some ds ∧ ∀ H' b, Same H H' → (b = true ↔ ∀ z ∈ ds, isF z = true) → Q (.bl b) H'
abbrev sp_ntext1 (C : Addr) : Sp := fun vs H Q E => ∃ (sa : Addr) (x : V) (d : PyData), vs = [x] ∧ (∃ o, H sa = some o) ∧ Rp sa H x d ∧ (∀ fs, ptsOf d = some (frD fs) → LowS fs → SmF fs) ∧ (∀ fs, ptsOf d = some (frD fs) → LowS fs → ∀ H', Same H H' → Q (.str (SX.S (numsL fs))) H') ∧ ((∀ fs, ptsOf d = some (frD fs) → LowS fs → False) → ∀ H', Same H H' → E (.ref C) none H')
abbrev sp_ntext (C : Addr) : Sp := fun vs H Q E => sp_ntext1 C vs H Q E ∨ ∃ x, vs = [x] ∧ IsDT H x ∧ ∀ H', Same H H' → E (.ref C) none H'
theorem rps_strs {sa : Addr} {H : Hp} : ∀ {xs : List V} {ps : List (List Nat)}, Rps sa H xs (ps.map fun l => PyData.str (SX.S l)) → xs = ps.map fun l => V.str (SX.S l)
  | _, [], h => by
    cases h
    rfl
  | _, p :: ps, h => by
    cases h with
    | cons h t =>
      cases h
      rw [rps_strs t]
      rfl
section
variable {P : Program} {w : World} {K : PySem.W.Frag} {mg : Str → Option Value} {base : Heap}
theorem ok_is_row {f : Addr} {fd : FuncData} (F : Fun K "is_row" "is_row" s_is_row f fd) (nb : Nb mg) : FnOk P w K mg base CX0 1 f fd ["thing"] sp_isrow := by
  have sc := sc_is_row
  refine F.ok sc (fun vs H Q E h => ?_) (fun cdv A outer s H vs Q E hr h => ?_)
  · rcases h with h | ⟨x, rfl, _⟩
    · obtain ⟨sa, ds, t, r, ⟨d, rfl⟩, q⟩ := h
      exact r.lens
    · rfl
  · rcases h with h | ⟨x, rfl, ⟨a, kvs, rfl, ea⟩, q⟩
    · obtain ⟨sa, ds, t, r, ⟨d, rfl⟩, q⟩ := h
      obtain ⟨x, rfl, r0⟩ := rps1 r
      refine ⟨_, (pss_one (ps_ret (pe_callB call_isiT (by rfl) nb.isinstance (by decide +kernel) (pa_cons (pv 0) (pa_cons (pe_tup (pa_cons (pe_bltn (v := .ty "list") (u := .type "list") (by rfl) nb.list (by decide +kernel) rfl) (pa_cons (pe_bltn (v := .ty "tuple") (u := .type "tuple") (by rfl) nb.tuple (by decide +kernel) rfl) pa_nil))) pa_nil))))), ?_⟩
      (rw [show start ["thing"] [x] = [some (x)] from rfl]; try dsimp only [cxOf])
      have W := wd_start t (.cons r0 .nil)
      walk_at "w"
      refine nt_ty rfl fun p np => ?_
      walk_at "w"
      refine c_isLT W np r0 fun H1 W1 => ?_
      exact q _ _ (W1.same rfl) (.bl _)
    · refine ⟨_, (pss_one (ps_ret (pe_callB call_isiT (by rfl) nb.isinstance (by decide +kernel) (pa_cons (pv 0) (pa_cons (pe_tup (pa_cons (pe_bltn (v := .ty "list") (u := .type "list") (by rfl) nb.list (by decide +kernel) rfl) (pa_cons (pe_bltn (v := .ty "tuple") (u := .type "tuple") (by rfl) nb.tuple (by decide +kernel) rfl) pa_nil))) pa_nil))))), ?_⟩
      (rw [show start ["thing"] [.ref a] = [some (.ref a)] from rfl]; try dsimp only [cxOf])
      walk_at "w"
      refine nt_ty rfl fun p np => ?_
      walk_at "w"
      have S := same_new (o := .tup [.ty "list", .ty "tuple"]) np
      exact ⟨.ref a, p, _, _, [.type "list", .type "tuple"], false, rfl, upd_same, .cons (.ty "list") (.cons (.ty "tuple") .nil), .base (.dT (S _ _ ea)), kd_LT (.dict []), q _ S⟩
theorem ok_are_fractions {f : Addr} {fd : FuncData} (F : Fun K "are_fractions" "are_fractions" s_are_fractions f fd) (nb : Nb mg) (d_is_fraction : Df P w K mg base CX0 2 "is_fraction" ["thing"] sp_isFp) : FnOk P w K mg base CX0 3 f fd ["things"] sp_arefr := by
  have sc := sc_are_fractions
  refine F.ok sc (fun vs H Q E h => ?_) (fun cdv A outer s H vs Q E hr h => ?_)
  · obtain ⟨sa, p, d, ds, rfl, _⟩ := h
    rfl
  · obtain ⟨sa, p, d, ds, rfl, tr, r0, ed, q⟩ := h
    refine ⟨_, (pss_cons (ps_for PassesOwn.never rfl (pi_seq (pv 0)) (pg_name (i := 1) sc.nd rfl (.inl rfl)) (pss_one (ps_if (pt_not (pt_val (pe_call d_is_fraction.F (hr.mono (by first | decide | omega)) (by rfl) d_is_fraction.g d_is_fraction.kp d_is_fraction.b .nil pass0 (pa_cons (pv 1) pa_nil)))) (pss_one (ps_ret pe_bl)) pss_nil)))
    (pss_one (ps_ret pe_bl))), ?_⟩
    (rw [show start ["things", "thing"] [.ref p] = [some (.ref p), none] from rfl]; try dsimp only [cxOf])
    have W := wd_start tr (.cons r0 .nil)
    walk_at "v"
    refine w_iseq ?_
    walk_at "v"
    refine lp_row r0 ed (fun i σ' H' => ∃ u, σ' = [some (.ref p), u] ∧ Same H H' ∧ ∀ (k : Nat) z, k < i → ds[k]? = some z → isF z = true) ⟨_, rfl, Same.refl _, fun k z h => absurd h (by omega)⟩ (fun i σ' H' ⟨_, _, s, _⟩ => s) ?_ ?_
    · rintro i x z σ' H' ez rz ⟨u, rfl, S, all⟩
      have W1 : Wd false sa H' H' [x, .ref p] [z, d] := ((W.go S).rebase).put rz
      walk_at "v"
      rename_i H2 W2
      refine w_if (fun h => ?_) (fun h => ?_)
      · walk_at "v"
        refine q _ _ (S.trans (W2.same rfl)) ⟨fun z => (by cases z), fun hz => ?_⟩
        rw [hz z (List.mem_of_getElem? ez)] at h
        cases h
      · walk_at "v"
        refine ⟨_, rfl, S.trans (W2.same rfl), fun k z' hk e => ?_⟩
        rcases Nat.lt_succ_iff_lt_or_eq.mp hk with hk | rfl
        · exact all k z' hk e
        · rw [ez] at e
          cases e
          cases e2 : isF z
          · rw [e2] at h
            cases h
          · rfl
    · rintro σ' H' ⟨u, rfl, S, all⟩
      walk_at "v"
      refine q _ _ S ⟨fun _ z hz => ?_, fun _ => rfl⟩
      obtain ⟨k, hk, e⟩ := List.getElem_of_mem hz
      exact all k z hk (by rw [List.getElem?_eq_getElem hk, e])
theorem ok_numbers_text {f C : Addr} {fd : FuncData} (F : Fun K "numbers_text" "numbers_text" s_numbers_text f fd) (nb : Nb mg) (c_NoNumbers : Ex0 P w K mg base "NoNumbers" C) (d_is_row : Df P w K mg base CX0 1 "is_row" ["thing"] sp_isrow) (d_are_fractions : Df P w K mg base CX0 3 "are_fractions" ["things"] sp_arefr) (d_fraction_word : Df P w K mg base CX0 3 "fraction_word" ["one"] sp_fword) : FnOk P w K mg base (L2.CX P w) 4 f fd ["numbers"] (sp_ntext C) := by
  have sc := sc_numbers_text
  refine F.okX sc (fun vs H Q E h => ?_) (fun cdv A outer s H vs Q E hr h => ?_)
  · rcases h with ⟨sa, x, d, rfl, _⟩ | ⟨x, rfl, _⟩ <;> rfl
  rcases h with h | ⟨x, rfl, dt, no⟩
  · obtain ⟨sa, x, d, rfl, tr, r0, sm, yes, no⟩ := h
    refine ⟨_, (pss_cons (ps_if (PW.pt (pw_or (pt_not (pt_val (pe_call d_is_row.F (hr.mono (by first | decide | omega)) (by rfl) d_is_row.g d_is_row.kp d_is_row.b .nil pass0 (pa_cons (pv 0) pa_nil)))) (pw_or1 (pt_not (pt_val (pe_call d_are_fractions.F (hr.mono (by first | decide | omega)) (by rfl) d_are_fractions.g d_are_fractions.kp d_are_fractions.b .nil pass0 (pa_cons (pv 0) pa_nil))))))) (pss_one (ps_raise rfl (takes_of rfl rfl rfl rfl) (pmk0 c_NoNumbers (hr.mono (by decide)) (by rfl)))) pss_nil)
    (pss_one (ps_ret (pe_join pe_str (pe_lc (own := [("one", 1)]) (g := gName 1) (tt := tYes) rfl sc.nd (pi_seq (pv 0)) (blkOk_by (N := NN_numbers_text) (sc := defScope s_numbers_text) (by decide +kernel)) (fun _ _ _ _ _ => pg_name (i := 1) sc.nd rfl (Or.inl rfl)) (fun _ _ _ _ _ => pts_nil) (fun _ _ _ _ _ => (pe_call d_fraction_word.F (hr.mono (by first | decide | omega)) (by rfl) d_fraction_word.g d_fraction_word.kp d_fraction_word.b .nil pass0 (pa_cons (pv 1) pa_nil)))))))), ?_⟩
    (rw [show start ["numbers", "one"] [x] = [some (x), none] from rfl]; try dsimp only [cxOf])
    have W := wd_start tr (.cons r0 .nil)
    walk_at "v"
    refine .inl (call_P (ds := [d]) W (.cons r0 .nil) ⟨d, rfl⟩ fun H1 => v_bl fun W1 => ?_)
    have W1 : Wd false sa H H1 [x] [d] := W1.sub (.cons (W1.get (.there .here)) .nil)
    walk_at "v"
    refine w_if (fun h => ?_) (fun h => ?_)
    · walk_at "v"
      refine no (fun fs e _ => ?_) _ (W1.same rfl)
      rw [isLT_pts.mpr ⟨_, e⟩] at h
      cases h
    · have h : isLT d = true := by cases e : isLT d <;> rw [e] at h <;> first | rfl | cases h
      obtain ⟨ds, ed⟩ := isLT_pts.mp h
      obtain ⟨p, xs, rfl, _, _⟩ := row_ref (K := K) r0 ed
      walk_at "v"
      refine ⟨sa, p, d, ds, rfl, W1.tr, W1.get .here, ed, fun H2 b S2 hb => ?_⟩
      have W2 := W1.go S2
      walk_at "v"
      refine w_if (fun h => ?_) (fun h => ?_)
      · walk_at "v"
        refine no (fun fs e l => ?_) _ (W2.same rfl)
        rw [e] at ed
        cases ed
        rw [hb.mpr (frs_isF l)] at h
        cases h
      · have h : b = true := by cases b <;> first | rfl | cases h
        obtain ⟨fs, rfl, lo⟩ := frs_of (hb.mp h)
        have sf := sm fs ed lo
        have yes := yes fs ed lo
        have lf : (frD fs).length = fs.length := List.length_map ..
        walk_at "v"
        refine w_m1 ?_
        walk_at "v"
        refine ⟨⟨_, rfl⟩, ?_⟩
        have key : ∀ (i : Nat) x z H' (Q' : VK), (frD fs)[i]? = some z → Wd false sa H' H' [x, .ref p] [z, d] → (∀ y H4 dy, Same H' H4 → Rp sa H4 y dy → (∃ q, fs[i]? = some q ∧ dy = .str (SX.S (fracL q.1 q.2))) → Q' y H4) → sp_fword [x] H' Q' E0 := fun i x z H' Q' ez W9 q9 => by
          unfold frD at ez
          rw [List.getElem?_map] at ez
          obtain ⟨q, eq, rfl⟩ := Option.map_eq_some_iff.mp ez
          have s9 := sf.2 q (List.mem_of_getElem? eq)
          exact ⟨sa, x, q.1, q.2, rfl, W9.tr, W9.get .here, s9.1, s9.2, fun H8 S8 => q9 _ H8 _ S8 (.str _) ⟨q, eq, rfl⟩⟩
        have done : ∀ H' (D : Addr) es, Wd false sa H H' (.ref D :: [V.ref p]) (.list es :: [d]) → es.length = (frD fs).length → (∀ (k : Nat) (z : PyData), es[k]? = some z → ∃ q, fs[k]? = some q ∧ z = .str (SX.S (fracL q.1 q.2))) → Q (.str (SX.S (numsL fs))) H' ∧ ∃ e, H' D = some e ∧ e = .lst ((fs.map fun q => fracL q.1 q.2).map fun l => V.str (SX.S l)) := fun H' D es W9 hl he => by
          refine ⟨yes _ (W9.same rfl), ?_⟩
          have e9 : es = (fs.map fun q => fracL q.1 q.2).map fun l => PyData.str (SX.S l) := by
            refine List.ext_getElem? fun k => ?_
            rw [List.map_map, List.getElem?_map]
            cases e : es[k]? with
            | some z =>
              obtain ⟨q, e1, rfl⟩ := he k z e
              rw [e1]
              rfl
            | none =>
              have : es.length ≤ k := List.getElem?_eq_none_iff.mp e
              rw [List.getElem?_eq_none (by omega)]
              rfl
          have r9 := W9.get (v := .ref D) .here
          cases r9 with
          | @lst _ xs _ n hx r =>
            rw [e9] at r
            exact ⟨_, hx, by rw [rps_strs r]⟩
        have h1 : (fs.map fun q => fracL q.1 q.2).length = fs.length := List.length_map ..
        have h2 := sum_len (nums_parts sf)
        have h3 := sf.1
        refine w_lc ?_
        refine w_iseq ?_
        walk_at "v"
        refine ⟨p, rfl, ?_⟩
        obtain ⟨p', xs, ep, rs, hx⟩ := row_ref (K := K) (W2.get .here) ed
        cases ep
        rcases hx with ⟨h2', _, rfl⟩ | ⟨h2', _, rfl⟩
        · refine .inl ⟨⟨xs, h2'⟩, lcp_list W2 .here (by rw [lf]; omega) (fun i dy => ∃ q, fs[i]? = some q ∧ dy = .str (SX.S (fracL q.1 q.2))) (fun i d ⟨_, _, e⟩ => by rw [e]; rfl) (fun x => rfl) (fun i x z H' Q' ez W9 q9 => ?_) fun H' D es W9 hl he => ?_⟩
          · exact ⟨x, rfl, key i x z H' Q' ez W9 q9⟩
          · obtain ⟨f1, e, f2, rfl⟩ := done H' D es W9 hl he
            refine join_s (y := " ") (s := [32]) (ps := fs.map fun q : Int × Int => fracL q.1 q.2) (by decide) f2 ?_ (show Q (.str (SX.S (numsL fs))) H' from f1)
            rw [h1, List.length_singleton]
            omega
        · refine .inr ⟨⟨xs, h2'⟩, lcp_tup W2 .here (by rw [lf]; omega) (fun i dy => ∃ q, fs[i]? = some q ∧ dy = .str (SX.S (fracL q.1 q.2))) (fun i d ⟨_, _, e⟩ => by rw [e]; rfl) (fun x => rfl) (fun i x z H' Q' ez W9 q9 => ?_) fun H' D es W9 hl he => ?_⟩
          · exact ⟨x, rfl, key i x z H' Q' ez W9 q9⟩
          · obtain ⟨f1, e, f2, rfl⟩ := done H' D es W9 hl he
            refine join_s (y := " ") (s := [32]) (ps := fs.map fun q : Int × Int => fracL q.1 q.2) (by decide) f2 ?_ (show Q (.str (SX.S (numsL fs))) H' from f1)
            rw [h1, List.length_singleton]
            omega
  · refine ⟨_, (pss_cons (ps_if (PW.pt (pw_or (pt_not (pt_val (pe_call d_is_row.F (hr.mono (by first | decide | omega)) (by rfl) d_is_row.g d_is_row.kp d_is_row.b .nil pass0 (pa_cons (pv 0) pa_nil)))) (pw_or1 (pt_not (pt_val (pe_call d_are_fractions.F (hr.mono (by first | decide | omega)) (by rfl) d_are_fractions.g d_are_fractions.kp d_are_fractions.b .nil pass0 (pa_cons (pv 0) pa_nil))))))) (pss_one (ps_raise rfl (takes_of rfl rfl rfl rfl) (pmk0 c_NoNumbers (hr.mono (by decide)) (by rfl)))) pss_nil)
    (pss_one (ps_ret (pe_join pe_str (pe_lc (own := [("one", 1)]) (g := gName 1) (tt := tYes) rfl sc.nd (pi_seq (pv 0)) (blkOk_by (N := NN_numbers_text) (sc := defScope s_numbers_text) (by decide +kernel)) (fun _ _ _ _ _ => pg_name (i := 1) sc.nd rfl (Or.inl rfl)) (fun _ _ _ _ _ => pts_nil) (fun _ _ _ _ _ => (pe_call d_fraction_word.F (hr.mono (by first | decide | omega)) (by rfl) d_fraction_word.g d_fraction_word.kp d_fraction_word.b .nil pass0 (pa_cons (pv 1) pa_nil)))))))), ?_⟩
    (rw [show start ["numbers", "one"] [x] = [some (x), none] from rfl]; try dsimp only [cxOf])
    walk_at "v"
    refine .inr ⟨x, rfl, dt, fun H1 S1 => ?_⟩
    walk_at "v"
    exact no _ S1
end

/-! ### words of fractions: all good, or the first bad one -/
def AllF (ws : List (List Nat)) (fs : List (Int × Int)) : Prop := ws.length = fs.length ∧ ∀ (i : Nat) w q, ws[i]? = some w → fs[i]? = some q → RdF w q.1 q.2
def FirstBad (ws : List (List Nat)) (i : Nat) : Prop := ∃ w, ws[i]? = some w ∧ (∀ a b, ¬ RdF w a b) ∧ ∀ (j : Nat) v, j < i → ws[j]? = some v → ∃ a b, RdF v a b
theorem allF_nil : AllF [] [] := ⟨rfl, fun i w q e => by simp at e⟩
theorem allF_cons {w : List Nat} {ws : List (List Nat)} {q : Int × Int} {fs : List (Int × Int)} (h : RdF w q.1 q.2) (t : AllF ws fs) : AllF (w :: ws) (q :: fs) := by
  refine ⟨by rw [List.length_cons, List.length_cons, t.1], fun i v r e1 e2 => ?_⟩
  cases i with
  | zero =>
    rw [List.getElem?_cons_zero] at e1 e2
    cases e1
    cases e2
    exact h
  | succ i => exact t.2 i v r (by rw [← e1, List.getElem?_cons_succ]) (by rw [← e2, List.getElem?_cons_succ])
theorem words_or : ∀ ws : List (List Nat), (∃ fs, AllF ws fs) ∨ ∃ i, FirstBad ws i
  | [] => .inl ⟨[], allF_nil⟩
  | w :: ws => by
    by_cases h : ∃ a b, RdF w a b
    · obtain ⟨a, b, h⟩ := h
      rcases words_or ws with ⟨fs, t⟩ | ⟨i, v, e, n, all⟩
      · exact .inl ⟨(a, b) :: fs, allF_cons h t⟩
      · refine .inr ⟨i + 1, v, by rw [List.getElem?_cons_succ]; exact e, n, fun j u hj eu => ?_⟩
        cases j with
        | zero =>
          rw [List.getElem?_cons_zero] at eu
          cases eu
          exact ⟨a, b, h⟩
        | succ j => exact all j u (by omega) (by rw [← eu, List.getElem?_cons_succ])
    · exact .inr ⟨0, w, by rw [List.getElem?_cons_zero], fun a b r => h ⟨a, b, r⟩, fun j u hj => absurd hj (by omega)⟩
theorem firstBad_uniq {ws : List (List Nat)} {i j : Nat} (h : FirstBad ws i) (g : FirstBad ws j) : i = j := by
  obtain ⟨w, e, n, all⟩ := h
  obtain ⟨v, e2, n2, all2⟩ := g
  rcases Nat.lt_trichotomy i j with h | h | h
  · obtain ⟨a, b, r⟩ := all2 i w h e
    exact absurd r (n a b)
  · exact h
  · obtain ⟨a, b, r⟩ := all j v h e2
    exact absurd r (n2 a b)
theorem allF_not_bad {ws : List (List Nat)} {fs : List (Int × Int)} {i : Nat} (h : AllF ws fs) (g : FirstBad ws i) : False := by
  obtain ⟨w, e, n, _⟩ := g
  have hi := (List.getElem?_eq_some_iff.mp e).1
  have l := h.1
  exact n _ _ (h.2 i w _ e (List.getElem?_eq_getElem (by omega)))
theorem allF_uniq {ws : List (List Nat)} {fs gs : List (Int × Int)} (h : AllF ws fs) (g : AllF ws gs) : fs = gs := by
  refine List.ext_getElem (by rw [← h.1, g.1]) fun i h1 h2 => ?_
  have hi : i < ws.length := by rw [h.1]; exact h1
  have a := h.2 i _ _ (List.getElem?_eq_getElem hi) (List.getElem?_eq_getElem h1)
  have b := g.2 i _ _ (List.getElem?_eq_getElem hi) (List.getElem?_eq_getElem h2)
  obtain ⟨e1, e2⟩ := rdf_uniq a b
  exact Prod.ext e1 e2
/-- the words of a text -/
def wds (l : List Nat) : List (List Nat) := TL.spl [32] 0 [] l
theorem wds_join {ps : List (List Nat)} (h : ps ≠ []) (g : ∀ p ∈ ps, 32 ∉ p) : wds (TL.joinL [32] ps) = ps := TL.spl_join h g
theorem fracL_free {a b : Int} : 32 ∉ fracL a b := by
  unfold fracL
  split
  · exact intL_free (not_dig (by decide)) (by decide)
  · intro z
    rcases List.mem_append.mp z with z | z
    · exact intL_free (not_dig (by decide)) (by decide) z
    · rcases List.mem_cons.mp z with z | z
      · cases z
      · exact intL_free (not_dig (by decide)) (by decide) z
theorem spl_sub : ∀ (r acc : List Nat) (w : List Nat), w ∈ TL.spl [32] 0 acc r → ∃ u v, acc ++ r = u ++ w ++ v
  | [], acc, w, h => by
    simp only [TL.spl, List.mem_singleton] at h
    exact ⟨[], [], by rw [h]; simp⟩
  | c :: r, acc, w, h => by
    simp only [TL.spl] at h
    split at h
    · rcases List.mem_cons.mp h with h | h
      · exact ⟨[], c :: r, by rw [h]; simp⟩
      · obtain ⟨u, v, e⟩ := spl_sub r [] w h
        rw [List.nil_append] at e
        exact ⟨acc ++ c :: u, v, by rw [e]; simp⟩
    · obtain ⟨u, v, e⟩ := spl_sub r (acc ++ [c]) w h
      exact ⟨u, v, by rw [← e]; simp⟩
theorem wds_sub {l w : List Nat} (h : w ∈ wds l) : ∃ u v, l = u ++ w ++ v := by
  obtain ⟨u, v, e⟩ := spl_sub l [] w h
  exact ⟨u, v, by rw [← e]; rfl⟩
theorem spl_count : ∀ (r acc : List Nat), (TL.spl [32] 0 acc r).length ≤ r.length + 1
  | [], acc => by simp [TL.spl]
  | c :: r, acc => by
    simp only [TL.spl]
    split
    · have := spl_count r []
      show (TL.spl [32] 0 [] r).length + 1 ≤ r.length + 1 + 1
      omega
    · have := spl_count r (acc ++ [c])
      rw [List.length_cons]
      omega
theorem spl_ne : ∀ (r acc : List Nat), TL.spl [32] 0 acc r ≠ []
  | [], acc => by simp [TL.spl]
  | c :: r, acc => by
    simp only [TL.spl]
    split
    · simp
    · exact spl_ne r _
theorem wds_count (l : List Nat) : (wds l).length ≤ l.length + 1 := spl_count l []
theorem wds_ne (l : List Nat) : wds l ≠ [] := spl_ne l []
theorem allF_nums {fs : List (Int × Int)} (h : ∀ q ∈ fs, Low q.1 q.2) (ne : fs ≠ []) : AllF (wds (TL.joinL [32] (fs.map fun q => fracL q.1 q.2))) fs := by
  rw [wds_join (fun e => ne (List.map_eq_nil_iff.mp e)) fun p hp => by
    obtain ⟨q, _, rfl⟩ := List.mem_map.mp hp
    exact fracL_free]
  refine ⟨List.length_map .., fun i w q e1 e2 => ?_⟩
  rw [List.getElem?_map, e2] at e1
  injection e1 with e1
  exact ⟨h q (List.mem_of_getElem? e2), e1.symm⟩

/-! ### numbers read -/
abbrev sp_rnums (K : PySem.W.Frag) (C : Addr) : Sp := fun vs H Q E => ∃ (sa : Addr) (x : V) (d : PyData), vs = [x] ∧ (∃ o, H sa = some o) ∧ Rp sa H x d ∧ (∀ l, d = .str (SX.S l) → l.length ≤ 30000 ∧ NoLong l) ∧ ((∀ z, d ≠ .str z) → BadE C 0 H E) ∧
  (∀ l, d = .str (SX.S l) → (∀ fs, (if l = [] then fs = [] else AllF (wds l) fs) → ∀ H' y, Same H H' → Dp K H' y (.tuple (frD fs)) → Q y H') ∧ (∀ i, l ≠ [] → FirstBad (wds l) i → BadE C ((i : Int) + 1) H E))
/-- fractions told by values -/
def FVs (K : PySem.W.Frag) (H : Hp) (xs : List V) (fs : List (Int × Int)) : Prop := xs.length = fs.length ∧ ∀ (i : Nat) x q, xs[i]? = some x → fs[i]? = some q → FVp K H x q.1 q.2
theorem fvs_dp {K : PySem.W.Frag} {H : Hp} : ∀ {xs : List V} {fs : List (Int × Int)}, FVs K H xs fs → DpAll K H xs (frD fs)
  | [], [], _ => .nil
  | [], _ :: _, h => nomatch h.1
  | _ :: _, [], h => nomatch h.1
  | x :: xs, q :: fs, h => .cons (h.2 0 x q rfl rfl).dp (fvs_dp ⟨by have := h.1; simp only [List.length_cons] at this; omega, fun i y r e1 e2 => h.2 (i + 1) y r (by rw [List.getElem?_cons_succ]; exact e1) (by rw [List.getElem?_cons_succ]; exact e2)⟩)
theorem FVp.stay {K : PySem.W.Frag} {H : Hp} {x : V} {a b : Int} {q : Addr} {xs ys : List V} (h : FVp K H x a b) (e : H q = some (.lst xs)) : FVp K (upd H q (.lst ys)) x a b := by
  obtain ⟨p, rfl, h | h⟩ := h
  · refine ⟨p, rfl, .inl ?_⟩
    rw [upd_ne (fun z => by rw [z, e] at h; cases h)]
    exact h
  · exact ⟨p, rfl, .inr h⟩
theorem FVs.same {K : PySem.W.Frag} {H H' : Hp} {xs : List V} {fs : List (Int × Int)} (h : FVs K H xs fs) (S : Same H H') : FVs K H' xs fs := ⟨h.1, fun i x q a b => (h.2 i x q a b).same S⟩
theorem FVs.app {K : PySem.W.Frag} {H : Hp} {xs : List V} {fs : List (Int × Int)} {x : V} {a b : Int} {q : Addr} (h : FVs K H xs fs) (g : FVp K H x a b) (e : H q = some (.lst xs)) : FVs K (upd H q (.lst (xs ++ [x]))) (xs ++ [x]) (fs ++ [(a, b)]) := by
  refine ⟨by rw [List.length_append, List.length_append, h.1]; rfl, fun i y r e1 e2 => ?_⟩
  rcases Nat.lt_trichotomy i xs.length with hi | hi | hi
  · rw [List.getElem?_append_left hi] at e1
    rw [List.getElem?_append_left (by rw [← h.1]; exact hi)] at e2
    exact (h.2 i y r e1 e2).stay e
  · rw [List.getElem?_append_right (by omega), hi, Nat.sub_self] at e1
    rw [List.getElem?_append_right (by rw [← h.1]; omega), ← h.1, hi, Nat.sub_self] at e2
    cases e1
    cases e2
    exact g.stay e
  · rw [List.getElem?_eq_none (by rw [List.length_append]; exact hi)] at e1
    cases e1
theorem allF_take {ws : List (List Nat)} {fs : List (Int × Int)} {w : List Nat} {a b : Int} {i : Nat} (h : AllF (ws.take i) fs) (e : ws[i]? = some w) (r : RdF w a b) : AllF (ws.take (i + 1)) (fs ++ [(a, b)]) := by
  have hi := (List.getElem?_eq_some_iff.mp e).1
  have e2 : ws.take (i + 1) = ws.take i ++ [w] := by rw [List.take_add_one, e]; rfl
  have hl : (ws.take i).length = i := by rw [List.length_take]; omega
  rw [e2]
  refine ⟨by rw [List.length_append, List.length_append, h.1]; rfl, fun k v q e1 e2 => ?_⟩
  have hf := h.1
  rcases Nat.lt_trichotomy k i with hk | hk | hk
  · rw [List.getElem?_append_left (by omega)] at e1
    rw [List.getElem?_append_left (by omega)] at e2
    exact h.2 k v q e1 e2
  · rw [List.getElem?_append_right (by omega), hl, hk, Nat.sub_self] at e1
    rw [List.getElem?_append_right (by omega), ← hf, hl, hk, Nat.sub_self] at e2
    cases e1
    cases e2
    exact r
  · rw [List.getElem?_eq_none (by rw [List.length_append, List.length_singleton]; omega)] at e1
    cases e1
theorem allF_before {ws : List (List Nat)} {fs : List (Int × Int)} {i : Nat} (h : AllF (ws.take i) fs) (j : Nat) (v : List Nat) (hj : j < i) (e : ws[j]? = some v) : ∃ a b, RdF v a b := by
  have hk := (List.getElem?_eq_some_iff.mp e).1
  have hl := h.1
  rw [List.length_take] at hl
  exact ⟨_, _, h.2 j v _ (by rw [List.getElem?_take_of_lt hj]; exact e) (List.getElem?_eq_getElem (by omega))⟩
section
variable {P : Program} {w : World} {K : PySem.W.Frag} {mg : Str → Option Value} {base : Heap}
theorem ok_read_numbers {f C : Addr} {fd : FuncData} (F : Fun K "read_numbers" "read_numbers" s_read_numbers f fd) (nb : Nb mg) (c_BadText : ExF P w K mg base "BadText" C ["self", "at"] (sp_ini1 K C "at")) (hno : PySem.W.findIn K (.ref C) "at" = some none) (d_fraction_in : Df P w K mg base CX0 2 "fraction_in" ["word"] (sp_fracin K)) : FnOk P w K mg base (L2.CX P w) 3 f fd ["text"] (sp_rnums K C) := by
  have sc := sc_read_numbers
  refine F.okX sc (fun vs H Q E h => ?_) (fun cdv A outer s H vs Q E hr h => ?_)
  · obtain ⟨sa, x, d, rfl, _⟩ := h
    rfl
  · obtain ⟨sa, x, d, rfl, tr, r0, hl, bad, ok⟩ := h
    refine ⟨_, (pss_cons (ps_if (pt_not (pt_val (pe_callB call_isi (by rfl) nb.isinstance (by decide +kernel) (pa_cons (pv 0) (pa_cons (pe_bltn (v := .ty "str") (u := .type "str") (by rfl) nb.str (by decide +kernel) rfl) pa_nil))))) (pss_one (ps_raise rfl (takes_of rfl rfl rfl rfl) (pmkA c_BadText (hr.mono (by decide)) (by rfl) (pa_cons pe_int pa_nil)))) pss_nil)
    (pss_cons (ps_if (pt_cmpR op_eq (pv 0) pe_str (nomark _)) (pss_one (ps_ret (pe_tup pa_nil))) pss_nil)
    (pss_cons (ps_asg (pe_lst pa_nil) (pg_name (i := 1) sc.nd rfl (.inl rfl)))
    (pss_cons (ps_for (passes_of rfl) rfl (pi_enum (by rfl) nb.enumerate (pa_cons (pe_m1 PySem.F.slot_str_split PySem.F.type_str_split mq_split (pv 0) pe_str) pa_nil)) (pg_tup (n := 2) (by rfl) (pgs_cons (pg_name (i := 2) sc.nd rfl (.inl rfl)) (pgs_cons (pg_name (i := 3) sc.nd rfl (.inl rfl)) pgs_nil))) (pss_cons (ps_asg (pe_call d_fraction_in.F (hr.mono (by first | decide | omega)) (by rfl) d_fraction_in.g d_fraction_in.kp d_fraction_in.b .nil pass0 (pa_cons (pv 3) pa_nil)) (pg_name (i := 4) sc.nd rfl (.inl rfl)))
    (pss_cons (ps_if (pt_cmpR oq_isN (pv 4) pe_non (nomark _)) (pss_one (ps_raise rfl (takes_of rfl rfl rfl rfl) (pmkA c_BadText (hr.mono (by decide)) (by rfl) (pa_cons (pe_op op_add (pv 2) pe_int) pa_nil)))) pss_nil)
    (pss_one (ps_expr (pe_bm PySem.F.plainAttrs_list PySem.F.slot_list_append PySem.F.type_list_append mt_append (pv 1) (pa_cons (pv 4) pa_nil)))))))
    (pss_one (ps_ret (pe_callTy cq_tuple (by rfl) nb.tuple (by decide +kernel) (pa_cons (pv 1) pa_nil)))))))), ?_⟩
    (rw [show start ["text", "numbers", "at", "word", "one"] [x] = [some (x), none, none, none, none] from rfl]; try dsimp only [cxOf])
    walk_at "v"
    refine w_isD r0 (kd_str d) ?_
    walk_at "v"
    cases d with
    | str z =>
      obtain ⟨l, rfl⟩ := str_SX z
      obtain ⟨hl, nl⟩ := hl l rfl
      obtain ⟨yes, no⟩ := ok l rfl
      obtain rfl := rp_strI r0
      refine iteF ?_
      walk_at "v"
      refine eq_s (l := l) (m := []) rfl (by decide) ?_
      by_cases h0 : l = []
      · rw [decide_eq_true h0]
        refine ⟨_, rfl, iteT ?_⟩
        walk_at "v"
        refine nt_mk fun p np => ?_
        exact yes [] (by rw [if_pos h0]) _ _ (same_new np) (.tup (SqT.of upd_same) .nil)
      · rw [decide_eq_false h0]
        refine ⟨_, rfl, iteF ?_⟩
        walk_at "v"
        refine nl_mk fun q nq => ?_
        walk_at "v"
        refine w_ienum ?_
        walk_at "v"
        refine w_m1 ?_
        walk_at "v"
        refine ⟨⟨_, rfl⟩, ?_⟩
        walk_at "v"
        have wl := wds_count l
        refine ⟨SX.S l, " ", rfl, rfl, by decide, by rw [SX.S_len]; exact Nat.le_trans (Nat.add_le_add_right hl 2) (by decide), fun p2 np2 => ?_⟩
        have es : (Txt.split (SX.S l) " ").map V.str = (wds l).map fun w => V.str (SX.S w) := by
          rw [show (" " : Str) = SX.S [32] by decide, SX.split_S (by simp) (by decide), List.map_map]
          rfl
        rw [es]
        have nq2 : p2 ≠ q := fun z => by rw [z, upd_same] at np2; cases np2
        have S2 : Same H (upd (upd H q (.lst [])) p2 (.lst ((wds l).map fun w => V.str (SX.S w)))) := (same_new nq).new np2
        refine ⟨p2, (wds l).map fun w => V.str (SX.S w), rfl, SqL.of upd_same, ?_⟩
        refine lp_enum (xs := (wds l).map fun w => V.str (SX.S w)) (fun i σ' H' => ∃ o2 o3 o4 xs fs, σ' = [some (.str (SX.S l)), some (.ref q), o2, o3, o4] ∧ Same H H' ∧ H' q = some (.lst xs) ∧ H' p2 = some (.lst ((wds l).map fun w => V.str (SX.S w))) ∧ AllF ((wds l).take i) fs ∧ FVs K H' xs fs) ⟨_, _, _, [], [], rfl, S2, (upd_ne nq2.symm).trans upd_same, upd_same, by rw [List.take_zero]; exact allF_nil, rfl, fun i x q e => by simp at e⟩ (fun i σ' H' _ ⟨_, _, _, _, _, _, _, _, h, _⟩ => SqL.of h) ?_ ?_
        · rintro i x σ' H' T ex ⟨o2, o3, o4, xs, fs, rfl, S, hq, hp2, all, fv⟩ nT
          rw [List.getElem?_map] at ex
          obtain ⟨wd, ew, rfl⟩ := Option.map_eq_some_iff.mp ex
          have ST : Same H' (upd H' T (.tup [.int (i : Int), .str (SX.S wd)])) := same_new nT
          refine ⟨T, _, rfl, SqT.of upd_same, rfl, ?_⟩
          refine ⟨_, _, rfl, ⟨_, _, rfl, ⟨rfl, ?_⟩⟩⟩
          walk_at "v"
          obtain ⟨u, v, euv⟩ := wds_sub (List.mem_of_getElem? ew)
          have lw : wd.length ≤ l.length := by
            rw [euv, List.length_append, List.length_append]
            omega
          refine ⟨wd, rfl, Nat.le_trans lw (Nat.le_trans hl (by decide)), nl.sub euv, fun a b r H3 y S3 hy => ?_, fun n H3 S3 => ?_⟩
          · obtain ⟨py, ey, hy2⟩ := id hy
            subst ey
            walk_at "v"
            refine w_bm ?_
            walk_at "v"
            have hq3 := S3 _ _ (ST _ _ hq)
            refine ⟨tyV_lst hq3, ?_⟩
            walk_at "v"
            have lx : xs.length ≤ 30001 := by
              have := all.1
              rw [fv.1, ← this, List.length_take]
              omega
            have hqn : (upd H3 q (.lst (xs ++ [.ref py]))) q = some (.lst (xs ++ [.ref py])) := upd_same
            have Sq : Same H (upd H3 q (.lst (xs ++ [.ref py]))) := same_updN (S.trans (ST.trans S3)) nq
            refine ⟨q, xs, .ref py, rfl, rfl, hq3, Nat.lt_of_le_of_lt lx (by decide), ?_⟩
            walk_at "v"
            refine ⟨_, _, _, _, fs ++ [(a, b)], rfl, Sq, upd_same, ?_, allF_take all ew r, (fv.same (ST.trans S3)).app hy hq3⟩
            rw [upd_ne nq2]
            exact S3 _ _ (ST _ _ hp2)
          · walk_at "v"
            refine w_mko ?_
            walk_at "v"
            exact mk_ini1 c_BadText.T hno fun d H4 S4 hd => no i h0 ⟨wd, ew, n, fun j v hj ev => allF_before all j v hj ev⟩ H4 d (S.trans (ST.trans (S3.trans S4))) hd
        · rintro σ' H' ⟨o2, o3, o4, xs, fs, rfl, S, hq, hp2, all, fv⟩
          walk_at "v"
          refine ⟨q, xs, rfl, .inl ⟨SqL.of hq, fun p np => ?_⟩⟩
          rw [List.length_map, List.take_length] at all
          exact yes fs (by rw [if_neg h0]; exact all) _ _ (S.new np) (.tup (SqT.of upd_same) (fvs_dp (fv.same (same_new np))))
    | _ =>
      refine iteT ?_
      refine w_mko ?_
      walk_at "v"
      exact mk_ini1 c_BadText.T hno fun d H3 S3 hd => bad (fun z e => by cases e) H3 d S3 hd
end

/-! ### the law's own reading of words -/
def lng : Nat → List Nat → Bool
  | _, [] => false
  | g, c :: r => if (if IsDig c then g + 1 else 0) > 40 then true else lng (if IsDig c then g + 1 else 0) r
theorem lng_run : ∀ (d v : List Nat) (g : Nat), lng g (d ++ v) = false → (∀ c ∈ d, IsDig c) → d ≠ [] → g + d.length ≤ 40
  | [], _, _, _, _, h => absurd rfl h
  | c :: d, v, g, h, hd, _ => by
    have hc := hd c (List.mem_cons_self ..)
    rw [List.cons_append, lng, if_pos hc] at h
    by_cases h1 : g + 1 > 40
    · rw [if_pos h1] at h
      cases h
    · rw [if_neg h1] at h
      rw [List.length_cons]
      cases d with
      | nil =>
        simp only [List.length_nil]
        omega
      | cons e d' =>
        have := lng_run (e :: d') v (g + 1) h (fun z hz => hd z (List.mem_cons_of_mem _ hz)) (by simp)
        omega
theorem lng_drop : ∀ (u w : List Nat) (g : Nat), lng g (u ++ w) = false → ∃ g', lng g' w = false
  | [], w, g, h => ⟨g, h⟩
  | c :: u, w, g, h => by
    rw [List.cons_append, lng] at h
    by_cases h1 : (if IsDig c then g + 1 else 0) > 40
    · rw [if_pos h1] at h
      cases h
    · rw [if_neg h1] at h
      exact lng_drop u w _ h
theorem lng_no {l : List Nat} (h : lng 0 l = false) : NoLong l := fun u d v e hd => by
  by_cases hne : d = []
  · rw [hne]
    exact Nat.zero_le _
  · rw [e, List.append_assoc] at h
    obtain ⟨g', h'⟩ := lng_drop u (d ++ v) 0 h
    have := lng_run d v g' h' hd hne
    omega
theorem spl_none (s : Nat) : ∀ (u acc : List Nat), s ∉ u → TL.spl [s] 0 acc u = [acc ++ u]
  | [], acc, _ => by simp [TL.spl]
  | c :: u, acc, h => by
    have hc : ¬ (TL.pre [s] (c :: u) = true) := fun z => h (by
      have : s = c := by
        have z : ([c] == [s]) = true := z
        have := eq_of_beq z
        injection this with this
        exact this.symm
      rw [this]
      exact List.mem_cons_self ..)
    rw [TL.spl, if_neg hc, spl_none s u (acc ++ [c]) fun z => h (List.mem_cons_of_mem _ z)]
    simp
theorem spl_hit (s : Nat) (q : List Nat) : ∀ (u acc : List Nat), s ∉ u → TL.spl [s] 0 acc (u ++ s :: q) = (acc ++ u) :: TL.spl [s] 0 [] q
  | [], acc, _ => by
    have hc : TL.pre [s] (s :: q) = true := by
      show ([s] == [s]) = true
      exact beq_self_eq_true _
    rw [List.nil_append, TL.spl, if_pos hc, List.append_nil]
    rfl
  | c :: u, acc, h => by
    have hc : ¬ (TL.pre [s] (c :: (u ++ s :: q)) = true) := fun z => h (by
      have : s = c := by
        have z : ([c] == [s]) = true := z
        have := eq_of_beq z
        injection this with this
        exact this.symm
      rw [this]
      exact List.mem_cons_self ..)
    rw [List.cons_append, TL.spl, if_neg hc, spl_hit s q u (acc ++ [c]) fun z => h (List.mem_cons_of_mem _ z)]
    simp
theorem spl_neS : ∀ (r acc : List Nat), TL.spl [47] 0 acc r ≠ []
  | [], acc => by simp [TL.spl]
  | c :: r, acc => by
    simp only [TL.spl]
    split
    · simp
    · exact spl_neS r _
theorem spl_two {q : List Nat} (h : (TL.spl [47] 0 [] q).length = 1) : TL.spl [47] 0 [] q = [q] := by
  by_cases z : 47 ∈ q
  · obtain ⟨t, o, e, ht⟩ := cut_key q
    cases o with
    | none =>
      rw [e] at z
      exact absurd (by simpa [tailO] using z) ht
    | some r =>
      have e : q = t ++ 47 :: r := e
      rw [e, spl_hit 47 r t [] ht] at h
      have := List.length_pos_iff.mpr (show TL.spl [47] 0 [] r ≠ [] from spl_neS r [])
      rw [List.length_cons] at h
      omega
  · rw [spl_none 47 q [] z]
    rfl

/-! ### the law's defs on words -/
theorem sqL_same {K : PySem.W.Frag} {H H' : Hp} {a : Addr} {xs : List V} (S : Same H H') (h : SqL K H a xs) : SqL K H' a xs := h.imp (fun h => h.imp (S _ _) (fun ⟨o, e⟩ => ⟨o, S _ _ e⟩)) id
theorem sqT_same {K : PySem.W.Frag} {H H' : Hp} {a : Addr} {xs : List V} (S : Same H H') (h : SqT K H a xs) : SqT K H' a xs := h.imp (fun h => h.imp (S _ _) (fun ⟨o, e⟩ => ⟨o, S _ _ e⟩)) id
mutual
theorem dp_sm {K : PySem.W.Frag} {H H' : Hp} (S : Same H H') : ∀ {v : V} {d : PyData}, Dp K H v d → Dp K H' v d
  | _, _, .non => .non
  | _, _, .bl b => .bl b
  | _, _, .int i => .int i
  | _, _, .str x => .str x
  | _, _, .lst h r => .lst (sqL_same S h) (dpAll_sm S r)
  | _, _, .tup h r => .tup (sqT_same S h) (dpAll_sm S r)
theorem dpAll_sm {K : PySem.W.Frag} {H H' : Hp} (S : Same H H') : ∀ {vs : List V} {ds : List PyData}, DpAll K H vs ds → DpAll K H' vs ds
  | _, _, .nil => .nil
  | _, _, .cons h t => .cons (dp_sm S h) (dpAll_sm S t)
end
theorem dp_ty {K : PySem.W.Frag} {H : Hp} {v : V} {d : PyData} (h : Dp K H v d) : TyX K H v (.type (tyD d)) := by
  cases h with
  | non => exact .base .non
  | bl b => exact .base (.bl b)
  | int i => exact .base (.int i)
  | str x => exact .base (.str x)
  | lst h r =>
    rcases h with (h | ⟨o, h⟩) | ⟨o, its, n, e, c, _⟩
    · exact .base (.lst h)
    · exact .base (.frz h)
    · exact .kList e c
  | tup h r =>
    rcases h with (h | ⟨o, h⟩) | ⟨o, its, n, e, c, _⟩
    · exact .base (.tup h)
    · exact .fTuple h
    · exact .kTuple e c
theorem dp_row {K : PySem.W.Frag} {H : Hp} {v : V} {d : PyData} {ds : List PyData} (h : Dp K H v d) (e : ptsOf d = some ds) : ∃ p xs, v = .ref p ∧ DpAll K H xs ds ∧ (SqL K H p xs ∨ SqT K H p xs) := by
  cases h with
  | lst h r =>
    cases e
    exact ⟨_, _, rfl, r, .inl h⟩
  | tup h r =>
    cases e
    exact ⟨_, _, rfl, r, .inr h⟩
  | _ => cases e
theorem dpAll_len {K : PySem.W.Frag} {H : Hp} : ∀ {xs : List V} {ds : List PyData}, DpAll K H xs ds → xs.length = ds.length
  | _, _, .nil => rfl
  | _, _, .cons _ t => by rw [List.length_cons, List.length_cons, dpAll_len t]
theorem dpAll_at {K : PySem.W.Frag} {H : Hp} : ∀ {xs : List V} {ds : List PyData} (j : Nat) {z : PyData}, DpAll K H xs ds → ds[j]? = some z → ∃ v, xs[j]? = some v ∧ Dp K H v z
  | _, _, 0, _, .cons h _, e => by
    rw [List.getElem?_cons_zero] at e
    cases e
    exact ⟨_, rfl, h⟩
  | _, _, j + 1, _, .cons _ t, e => by
    rw [List.getElem?_cons_succ] at e
    obtain ⟨v, e2, h⟩ := dpAll_at j t e
    exact ⟨v, by rw [List.getElem?_cons_succ]; exact e2, h⟩
  | _, _, j, _, .nil, e => by simp at e
theorem dp_len {K : PySem.W.Frag} {H : Hp} {v : V} {d : PyData} {ds : List PyData} {Q : VK} (h : Dp K H v d) (e : ptsOf d = some ds) (q : Q (.int (ds.length : Int)) H) : rLenQ K [v] H Q := by
  obtain ⟨p, xs, rfl, r, h2⟩ := dp_row h e
  exact ⟨p, xs, rfl, h2, by rw [dpAll_len r]; exact q⟩
theorem dp_at {K : PySem.W.Frag} {H : Hp} {v : V} {d z : PyData} {ds : List PyData} {j : Nat} {i : Int} {Q : VK} (h : Dp K H v d) (e : ptsOf d = some ds) (ez : ds[j]? = some z) (hi : i = (j : Int)) (q : ∀ y, Dp K H y z → Q y H) : rIx K v (.int i) H Q := by
  subst hi
  obtain ⟨p, xs, rfl, r, h2⟩ := dp_row h e
  obtain ⟨y, ey, hy⟩ := dpAll_at j r ez
  rcases h2 with h2 | h2
  · exact .inl ⟨p, xs, j, y, rfl, rfl, h2, atI_nat ey, q y hy⟩
  · exact .inr (.inl ⟨p, xs, j, y, rfl, rfl, h2, atI_nat ey, q y hy⟩)
theorem dp_isLT {K : PySem.W.Frag} {H : Hp} {Q : VK} {x : V} {d : PyData} {p : Addr} (np : H p = none) (r : Dp K H x d) (h : Q (.bl (isLT d)) (upd H p (.tup [.ty "list", .ty "tuple"]))) : rIsiT K [x, .ref p] (upd H p (.tup [.ty "list", .ty "tuple"])) Q :=
  ⟨x, p, _, _, [.type "list", .type "tuple"], isLT d, rfl, upd_same, .cons (.ty "list") (.cons (.ty "tuple") .nil), dp_ty (dp_sm (same_new np) r), kd_LT d, h⟩
theorem dp_is {K : PySem.W.Frag} {H : Hp} {Q : VK} {x : V} {d : PyData} {u : String} {b : Bool} (r : Dp K H x d) (k : PySem.W.kitOne K (.type (tyD d)) (.type u) = some b) (h : Q (.bl b) H) : rIsi K [x, .ty u] H Q := ⟨x, .ty u, _, .type u, b, rfl, .ty u, dp_ty r, k, h⟩
/-- data without dicts, its depth and the lengths of its rows -/
def FitA : Nat → PyData → Prop
  | 0, _ => False
  | n + 1, d => match d with
    | .list ds => ds.length ≤ 1000 ∧ ∀ z ∈ ds, FitA n z
    | .tuple ds => ds.length ≤ 1000 ∧ ∀ z ∈ ds, FitA n z
    | .dict _ => False
    | _ => True
abbrev sp_alike (K : PySem.W.Frag) (n : Nat) : Sp := fun vs H Q _ => ∃ (sa : Addr) (x y : V) (d : PyData), vs = [x, y] ∧ (∃ o, H sa = some o) ∧ FitA n d ∧ Dp K H x d ∧ Dp K H y d ∧ ∀ H', Same H H' → Q (.bl true) H'
section
variable {sa : Addr} {H : Hp} {acc : List V} {dacc : List PyData} {Q : VK} {K : PySem.W.Frag} {j : Nat} {te : TE} {vs : List Nat} {σ : L2.St}
theorem lcp_rangeK {n : Nat} (W : Wd false sa H H acc dacc) (hl : n ≤ 1000) (R : Nat → PyData → Prop) (hR : ∀ i d, R i d → tupOnly d = true) (hw : ∀ x, wipe ((wipe σ vs).set j (some x)) vs = wipe σ vs)
    (step : ∀ (i : Nat) H' Q', i < n → Same H H' → (∀ y H4 dy, Same H' H4 → Rp sa H4 y dy → R i dy → Q' y H4) → te ((wipe σ vs).set j (some (.int (0 + (i : Int))))) H' Q')
    (done : ∀ H' D es, Wd false sa H H' (.ref D :: acc) (.list es :: dacc) → Same H H' → es.length = n → (∀ (k : Nat) (d : PyData), es[k]? = some d → R k d) → Q (.ref D) H') : tLc (fun _ H' R => R (Itr 0 n) H') (gName j) tYes te vs σ H Q := by
  intro D nD
  refine lc_range (lo := 0) (n := n) (LcP sa H D R) (lcP0 nD) (fun i H' hi hP => ?_) (fun H' hP => ?_)
  · obtain ⟨s, ys, es, h1, r2, h3, h4⟩ := hP
    refine ⟨hw _, lcYes ?_⟩
    refine step i H' _ hi s fun y H4 dy s4 ry hy => ?_
    have e4 := s4 _ _ h1
    exact ⟨ys, e4, by rw [r2.lens, h3]; exact small1000 (by omega), lcPS hR nD (s.trans s4) e4 (r2.but s4.but) h3 h4 ry hy⟩
  · exact lcp_done W nD hP fun H9 D9 es W9 hl9 he9 => done H9 D9 es W9 (W9.same rfl) hl9 he9
end
theorem rps_bools {sa : Addr} {H : Hp} : ∀ {xs : List V} {es : List PyData}, Rps sa H xs es → (∀ (k : Nat) d, es[k]? = some d → d = .bool true) → xs = (List.replicate es.length true).map V.bl
  | _, [], h, _ => by
    cases h
    rfl
  | _, e :: es, h, a => by
    cases h with
    | cons h t =>
      have := a 0 e rfl
      subst this
      cases h
      rw [rps_bools t fun k d ek => a (k + 1) d (by rw [List.getElem?_cons_succ]; exact ek)]
      rfl
section
variable {P : Program} {w : World} {K : PySem.W.Frag} {mg : Str → Option Value} {base : Heap}
theorem st_law_alike {n : Nat} {f : Addr} {fd : FuncData} (F : Fun K "_law_alike" "_law_alike" s_law_alike f fd) (nb : Nb mg) (d_law_alike : Df P w K mg base CX0 n "_law_alike" ["told", "due"] (sp_alike K n)) : FnOk P w K mg base CX0 (n + 1) f fd ["told", "due"] (sp_alike K (n + 1)) := by
  have sc := sc_law_alike
  refine F.ok sc (fun vs H Q E h => ?_) (fun cdv A outer s H vs Q E hr h => ?_)
  · obtain ⟨sa, x, y, d, rfl, _⟩ := h
    rfl
  · obtain ⟨sa, x, y, d, rfl, tr, fit, hx, hy, q⟩ := h
    refine ⟨_, (pss_cons (ps_if (pt_val (pe_callB call_isiT (by rfl) nb.isinstance (by decide +kernel) (pa_cons (pv 1) (pa_cons (pe_tup (pa_cons (pe_bltn (v := .ty "list") (u := .type "list") (by rfl) nb.list (by decide +kernel) rfl) (pa_cons (pe_bltn (v := .ty "tuple") (u := .type "tuple") (by rfl) nb.tuple (by decide +kernel) rfl) pa_nil))) pa_nil)))) (pss_cons (ps_if (PW.pt (pw_or (pt_not (pt_val (pe_callB call_isiT (by rfl) nb.isinstance (by decide +kernel) (pa_cons (pv 0) (pa_cons (pe_tup (pa_cons (pe_bltn (v := .ty "list") (u := .type "list") (by rfl) nb.list (by decide +kernel) rfl) (pa_cons (pe_bltn (v := .ty "tuple") (u := .type "tuple") (by rfl) nb.tuple (by decide +kernel) rfl) pa_nil))) pa_nil))))) (pw_or1 (pt_cmpR op_ne (pe_callB call_isi (by rfl) nb.isinstance (by decide +kernel) (pa_cons (pv 0) (pa_cons (pe_bltn (v := .ty "list") (u := .type "list") (by rfl) nb.list (by decide +kernel) rfl) pa_nil))) (pe_callB call_isi (by rfl) nb.isinstance (by decide +kernel) (pa_cons (pv 1) (pa_cons (pe_bltn (v := .ty "list") (u := .type "list") (by rfl) nb.list (by decide +kernel) rfl) pa_nil))) (nomark _))))) (pss_one (ps_ret pe_bl)) pss_nil)
    (pss_one (ps_ret (pe_and (pe_cmpR op_eq (pe_callB cq_len (by rfl) nb.len (by decide +kernel) (pa_cons (pv 0) pa_nil)) (pe_callB cq_len (by rfl) nb.len (by decide +kernel) (pa_cons (pv 1) pa_nil)) (nomark _)) (pe_one (pe_callB (cr_all rfl) (by rfl) nb.all (by decide +kernel) (pa_cons (pe_lc (own := [("k", 2)]) (g := gName 2) (tt := tYes) rfl sc.nd (pi_range1 (by rfl) nb.range (pa_cons (pe_callB cq_len (by rfl) nb.len (by decide +kernel) (pa_cons (pv 1) pa_nil)) pa_nil)) (blkOk_by (N := NN_law_alike) (sc := defScope s_law_alike) (by decide +kernel)) (fun _ _ _ _ _ => pg_name (i := 2) sc.nd rfl (Or.inl rfl)) (fun _ _ _ _ _ => pts_nil) (fun _ _ _ _ _ => (pe_call d_law_alike.F (hr.mono (by first | decide | omega)) (by rfl) d_law_alike.g d_law_alike.kp d_law_alike.b .nil pass0 (pa_cons (pe_ix (show IxR _ (rIx K) from ix_seq) (pv 0) (pv 2) (fun _ _ => rfl)) (pa_cons (pe_ix (show IxR _ (rIx K) from ix_seq) (pv 1) (pv 2) (fun _ _ => rfl)) pa_nil))))) pa_nil))))))) pss_nil)
    (pss_one (ps_ret (pe_and (pe_cmpR op_eq (pe_callB call_isi (by rfl) nb.isinstance (by decide +kernel) (pa_cons (pv 0) (pa_cons (pe_bltn (v := .ty "bool") (u := .type "bool") (by rfl) nb.bool (by decide +kernel) rfl) pa_nil))) (pe_callB call_isi (by rfl) nb.isinstance (by decide +kernel) (pa_cons (pv 1) (pa_cons (pe_bltn (v := .ty "bool") (u := .type "bool") (by rfl) nb.bool (by decide +kernel) rfl) pa_nil))) (nomark _)) (pe_one (pe_cmpR op_eq (pv 0) (pv 1) (nomark _))))))), ?_⟩
    (rw [show start ["told", "due", "k"] [x, y] = [some (x), some (y), none] from rfl]; try dsimp only [cxOf])
    walk_at "v"
    refine nt_ty rfl fun p np => ?_
    walk_at "v"
    refine dp_isLT np hy ?_
    have S1 : Same H (upd H p (.tup [.ty "list", .ty "tuple"])) := same_new np
    walk_at "v"
    cases hl : isLT d with
    | true =>
      obtain ⟨ds, ed⟩ := isLT_pts.mp hl
      have hf : ds.length ≤ 1000 ∧ ∀ z ∈ ds, FitA n z := by
        cases d with
        | list _ => cases ed; exact fit
        | tuple _ => cases ed; exact fit
        | _ => cases ed
      refine iteT ?_
      generalize upd H p (.tup [.ty "list", .ty "tuple"]) = H1 at S1 ⊢
      have hx1 := dp_sm S1 hx
      have hy1 := dp_sm S1 hy
      walk_at "v"
      refine nt_ty rfl fun p2 np2 => ?_
      walk_at "v"
      refine dp_isLT np2 hx1 ?_
      have S2 := same_new (o := .tup [.ty "list", .ty "tuple"]) np2
      rw [hl]
      generalize upd H1 p2 (.tup [.ty "list", .ty "tuple"]) = H2 at S2 ⊢
      have hx2 := dp_sm S2 hx1
      have hy2 := dp_sm S2 hy1
      walk_at "v"
      refine dp_is hx2 (kd_list d) ?_
      walk_at "v"
      refine dp_is hy2 (kd_list d) ?_
      walk_at "v"
      rw [beq_self_eq_true]
      refine iteF ?_
      walk_at "v"
      refine dp_len hx2 ed ?_
      walk_at "v"
      refine dp_len hy2 ed ?_
      walk_at "v"
      refine w_ifd (fun _ => ?_) (fun h => absurd rfl h)
      walk_at "v"
      refine w_lc ?_
      walk_at "v"
      refine dp_len hy2 ed ?_
      walk_at "v"
      have tr2 : ∃ o, H2 sa = some o := (let ⟨o, e⟩ := tr; ⟨o, S2 _ _ (S1 _ _ e)⟩)
      refine lcp_rangeK (wd_start tr2 .nil) (by omega) (fun _ d => d = .bool true) (fun _ d e => by rw [e]; rfl) (fun x => rfl) (fun i H3 Q' hi S3 q3 => ?_) fun H3 D es W3 S3 hlen he => ?_
      · have hi : i < ds.length := by omega
        have ez := List.getElem?_eq_getElem hi
        refine ⟨x, rfl, ⟨_, rfl, ?_⟩⟩
        refine dp_at (dp_sm S3 hx2) ed ez (by omega) fun x1 hx3 => ?_
        refine ⟨y, rfl, ⟨_, rfl, ?_⟩⟩
        refine dp_at (dp_sm S3 hy2) ed ez (by omega) fun y1 hy3 => ?_
        exact ⟨sa, x1, y1, _, rfl, (let ⟨o, e⟩ := tr2; ⟨o, S3 _ _ e⟩), hf.2 _ (List.getElem_mem hi), hx3, hy3, fun H5 S5 => q3 _ H5 _ S5 (.bl true) rfl⟩
      · have r := W3.get (v := .ref D) .here
        cases r with
        | @lst _ xs _ nD hD rD =>
          refine ⟨D, List.replicate es.length true, rfl, .inl (.inl ?_), ?_⟩
          · rw [hD, rps_bools rD he]
          · have : (List.replicate es.length true).all id = true := by
              rw [List.all_eq_true]
              intro b hb
              rw [(List.mem_replicate.mp hb).2]
              rfl
            rw [this]
            exact q _ (S1.trans (S2.trans S3))
    | false =>
      refine iteF ?_
      walk_at "v"
      refine dp_is (dp_sm S1 hx) (kd_bool d) ?_
      walk_at "v"
      refine dp_is (dp_sm S1 hy) (kd_bool d) ?_
      walk_at "v"
      rw [beq_self_eq_true]
      refine iteT ?_
      walk_at "v"
      cases d with
      | none => cases hx; cases hy; exact ⟨rfl, by rw [decide_eq_true rfl]; exact q _ S1⟩
      | bool b => cases hx; cases hy; exact ⟨rfl, by rw [decide_eq_true rfl]; exact q _ S1⟩
      | int b => cases hx; cases hy; exact ⟨rfl, by rw [decide_eq_true rfl]; exact q _ S1⟩
      | str b => cases hx; cases hy; exact ⟨rfl, by rw [decide_eq_true rfl]; exact q _ S1⟩
      | list b => cases hl
      | tuple b => cases hl
      | dict b => exact fit.elim
def rec_law_alike {f : Addr} {fd : FuncData} (F : Fun K "_law_alike" "_law_alike" s_law_alike f fd) (nb : Nb mg) (gm : mg "_law_alike" = some (.ref f)) (gk : PySem.W.keepIn K (.ref f) = true) (gb : Binds K fd ["told", "due"] []) : ∀ n, Df P w K mg base CX0 n "_law_alike" ["told", "due"] (sp_alike K n)
  | 0 => ⟨f, fd, gm, gk, gb, ⟨fun _ _ _ _ ⟨_, _, _, _, h, _⟩ => (by rw [h]; exact rfl), by
    intro A outer s H args us vs Q E _ _ _ _ h
    obtain ⟨_, _, _, _, _, _, h, _⟩ := h
    exact h.elim⟩⟩
  | n + 1 => ⟨f, fd, gm, gk, gb, st_law_alike F nb (rec_law_alike F nb gm gk gb n)⟩
theorem ok_law_alike {f : Addr} {fd : FuncData} (F : Fun K "_law_alike" "_law_alike" s_law_alike f fd) (nb : Nb mg) (gm : mg "_law_alike" = some (.ref f)) (gk : PySem.W.keepIn K (.ref f) = true) (gb : Binds K fd ["told", "due"] []) : FnOk P w K mg base CX0 16 f fd ["told", "due"] (sp_alike K 16) := by
  exact st_law_alike F nb (rec_law_alike F nb gm gk gb 15)
theorem ok_law_word {f : Addr} {fd : FuncData} (F : Fun K "_law_word" "_law_word" s_law_word f fd) (nb : Nb mg) : FnOk P w K mg base CX0 1 f fd ["one"] sp_fword := by
  have sc := sc_law_word
  refine F.ok sc (fun vs H Q E h => ?_) (fun cdv A outer s H vs Q E hr h => ?_)
  · obtain ⟨sa, x, a, b, rfl, _⟩ := h
    rfl
  · obtain ⟨sa, x, a, b, rfl, tr, r0, ha, hb, q⟩ := h
    obtain ⟨p, rfl⟩ := rp_ref r0
    refine ⟨_, (pss_cons (ps_if (pt_cmpR op_eq (pe_ix ix_tup (pv 0) pe_int (fun _ _ => rfl)) pe_int (nomark _)) (pss_one (ps_ret (pe_callTy cq_strI (by rfl) nb.str (by decide +kernel) (pa_cons (pe_ix ix_tup (pv 0) pe_int (fun _ _ => rfl)) pa_nil)))) pss_nil)
    (pss_one (ps_ret (pe_op op_add_str (pe_op op_add_str (pe_callTy cq_strI (by rfl) nb.str (by decide +kernel) (pa_cons (pe_ix ix_tup (pv 0) pe_int (fun _ _ => rfl)) pa_nil)) pe_str) (pe_callTy cq_strI (by rfl) nb.str (by decide +kernel) (pa_cons (pe_ix ix_tup (pv 0) pe_int (fun _ _ => rfl)) pa_nil)))))), ?_⟩
    (rw [show start ["one"] [.ref p] = [some (.ref p)] from rfl]; try dsimp only [cxOf])
    have W := wd_start tr (.cons r0 .nil)
    have la : a.natAbs.log2 < 1920 := log_60 (Nat.lt_of_lt_of_le ha e40)
    have lb : b.natAbs.log2 < 1920 := log_60 (Nat.lt_of_lt_of_le hb e40)
    have q := q H (Same.refl H)
    walk_at "v"
    refine w_ifd (fun h => ?_) (fun h => ?_)
    · walk_at "v"
      subst h
      refine ⟨a, rfl, la, ?_⟩
      unfold fracL at q
      rw [if_pos rfl] at q
      rw [strI]
      exact q
    · walk_at "v"
      refine ⟨a, rfl, la, ?_⟩
      walk_at "v"
      refine ⟨SX.S (intL a), SX.S [47], congrArg V.str (strI a), congrArg V.str (by decide), ?_, ?_⟩
      · rw [SX.S_len, SX.S_len]
        exact Nat.le_trans (Nat.add_le_add_right (intL_len ha) _) (by decide)
      rw [SX.S_cat]
      walk_at "v"
      refine ⟨b, rfl, lb, ?_⟩
      refine cat_s rfl (strI b) ?_ (Nat.le_trans (intL_len hb) (by decide)) ?_
      · rw [List.length_append]
        exact Nat.le_trans (Nat.add_le_add_right (intL_len ha) _) (by decide)
      · unfold fracL at q
        rw [if_neg h] at q
        rw [List.append_assoc]
        exact q
abbrev sp_lwhole : Sp := fun vs H Q _ => ∃ (l : List Nat), vs = [.str (SX.S l)] ∧ l.length ≤ TB ∧ NoLong l ∧ (WW l → Q (.int (NumText.digitsVal l : Nat)) H) ∧ (¬ WW l → Q .non H)
theorem ok_law_whole {f : Addr} {fd : FuncData} (F : Fun K "_law_whole" "_law_whole" s_law_whole f fd) (nb : Nb mg) : FnOk P w K mg base CX0 1 f fd ["word"] sp_lwhole := by
  have sc := sc_law_whole
  refine F.ok sc (fun vs H Q E h => ?_) (fun cdv A outer s H vs Q E hr h => ?_)
  · obtain ⟨x, rfl, _⟩ := h
    rfl
  · obtain ⟨l, rfl, hl, nl, yes, no⟩ := h
    refine ⟨_, (pss_cons (ps_if (PW.pt (pw_or (pt_cmpR op_eq (pv 0) pe_str (nomark _)) (pw_or1 (PW.pt (pw_and (pt_cmpR op_gt (pe_callB cq_lenS (by rfl) nb.len (by decide +kernel) (pa_cons (pv 0) pa_nil)) pe_int (nomark _)) (pw_and1 (pt_cmpR op_eq (pe_ix ix_str (pv 0) pe_int (fun _ _ => rfl)) pe_str (nomark _)))))))) (pss_one (ps_ret pe_non)) pss_nil)
    (pss_cons (ps_for PassesOwn.never rfl (pi_str (pv 0)) (pg_name (i := 1) sc.nd rfl (.inl rfl)) (pss_one (ps_if (pt_cmpR op_notInS (pv 1) pe_str (by rfl)) (pss_one (ps_ret pe_non)) pss_nil)))
    (pss_one (ps_ret (pe_callTy cq_intS (by rfl) nb.int (by decide +kernel) (pa_cons (pv 0) pa_nil)))))), ?_⟩
    (rw [show start ["word", "sign"] [.str (SX.S l)] = [some (.str (SX.S l)), none] from rfl]; try dsimp only [cxOf])
    walk_at "v"
    refine eq_s (l := l) (m := []) rfl (by decide) ?_
    by_cases h0 : l = []
    · rw [decide_eq_true h0]
      refine ⟨_, rfl, iteT ?_⟩
      walk_at "v"
      exact no fun z => z.2.1 h0
    · rw [decide_eq_false h0]
      refine ⟨_, rfl, iteF ?_⟩
      walk_at "v"
      refine len_s hl ?_
      walk_at "v"
      have rest : (l.head? = some 48 → l.length = 1) → tSeq (tFor (iStr (tVar 0)) (gName 1) (tIfS (tTest (tOp rNotInS (tVar 1) (tC (.str "0123456789")))) (tRet (tC .non)) tNext)) (tRet (tCB rIntS (tCons (tVar 0) tNil))) { nx := fun _ H' => Q .non H', rt := Q } [some (.str (SX.S l)), none] H := fun hz => by
        walk_at "v"
        refine w_istr ?_
        walk_at "v"
        refine ⟨SX.S l, rfl, ?_⟩
        refine lp_str (fun i σ' H' => ∃ u, σ' = [some (.str (SX.S l)), u] ∧ H' = H ∧ ∀ (k : Nat) (c : Nat), k < i → l[k]? = some c → IsDig c) ⟨_, rfl, rfl, fun k c h => absurd h (by omega)⟩ ?_ ?_
        · rintro i c σ' H' ec ⟨u, rfl, rfl, all⟩
          walk_at "v"
          refine notin_s ?_
          by_cases hc : IsDig c
          · rw [decide_eq_true hc]
            refine ⟨_, rfl, iteF ?_⟩
            walk_at "v"
            refine ⟨_, rfl, rfl, fun k c' hk e => ?_⟩
            rcases Nat.lt_succ_iff_lt_or_eq.mp hk with hk | rfl
            · exact all k c' hk e
            · rw [ec] at e
              cases e
              exact hc
          · rw [decide_eq_false hc]
            refine ⟨_, rfl, iteT ?_⟩
            walk_at "v"
            exact no fun h => absurd (h.1 c (List.mem_of_getElem? ec)) hc
        · rintro σ' H' ⟨u, rfl, rfl, all⟩
          have al : ∀ c ∈ l, IsDig c := fun c hc => by
            obtain ⟨k, hk, e⟩ := List.getElem_of_mem hc
            exact all k c hk (by rw [List.getElem?_eq_getElem hk, e])
          walk_at "v"
          exact int_s al h0 (nl.len al) (yes ⟨al, h0, hz⟩)
      refine w_ifd (fun h1 => ?_) (fun h1 => ?_)
      · walk_at "v"
        cases l with
        | nil => exact absurd rfl h0
        | cons c r =>
          refine ix_s (r := r) (by rw [pos_self]) (.refl _) hl ?_
          walk_at "v"
          refine eq_s (l := [c]) (m := [48]) rfl (by decide) ?_
          by_cases h2 : c = 48
          · rw [decide_eq_true (one_eq.mpr h2)]
            refine ⟨_, rfl, iteT ?_⟩
            walk_at "v"
            refine no fun z => ?_
            have := z.2.2 (by rw [h2]; rfl)
            omega
          · rw [decide_eq_false (fun z => h2 (one_eq.mp z))]
            refine ⟨_, rfl, iteF ?_⟩
            refine rest fun z => absurd ?_ h2
            injection z
      · refine iteF ?_
        refine rest fun _ => ?_
        have := List.length_pos_iff.mpr h0
        omega
abbrev sp_lread : Sp := fun vs H Q _ => ∃ (l : List Nat), vs = [.str (SX.S l)] ∧ l.length ≤ TB ∧ NoLong l ∧ (∀ a b, RdF l a b → ∀ H' p, Same H H' → H p = none → H' p = some (.tup [.int a, .int b]) → Q (.ref p) H') ∧ ((∀ a b, ¬ RdF l a b) → ∀ H', Same H H' → Q .non H')
abbrev sp_llong : Sp := fun vs H Q _ => ∃ (l : List Nat), vs = [.str (SX.S l)] ∧ l.length ≤ TB ∧ ∀ b, (b = false → NoLong l) → Q (.bl b) H
theorem ok_law_is_long {f : Addr} {fd : FuncData} (F : Fun K "_law_is_long" "_law_is_long" s_law_is_long f fd) (nb : Nb mg) : FnOk P w K mg base CX0 1 f fd ["text"] sp_llong := by
  have sc := sc_law_is_long
  refine F.ok sc (fun vs H Q E h => ?_) (fun cdv A outer s H vs Q E hr h => ?_)
  · obtain ⟨x, rfl, _⟩ := h
    rfl
  · obtain ⟨l, rfl, hl, q⟩ := h
    refine ⟨_, (pss_cons (ps_asg pe_int (pg_name (i := 1) sc.nd rfl (.inl rfl)))
    (pss_cons (ps_for PassesOwn.never rfl (pi_str (pv 0)) (pg_name (i := 2) sc.nd rfl (.inl rfl)) (pss_cons (ps_asg (pe_op op_add (pv 1) pe_int) (pg_name (i := 1) sc.nd rfl (.inl rfl)))
    (pss_cons (ps_if (pt_cmpR op_notInS (pv 2) pe_str (by rfl)) (pss_one (ps_asg pe_int (pg_name (i := 1) sc.nd rfl (.inl rfl)))) pss_nil)
    (pss_one (ps_if (pt_cmpR op_gt (pv 1) pe_int (nomark _)) (pss_one (ps_ret pe_bl)) pss_nil)))))
    (pss_one (ps_ret pe_bl)))), ?_⟩
    (rw [show start ["text", "run", "sign"] [.str (SX.S l)] = [some (.str (SX.S l)), none, none] from rfl]; try dsimp only [cxOf])
    walk_at "v"
    refine w_istr ?_
    walk_at "v"
    refine ⟨SX.S l, rfl, ?_⟩
    refine lp_str (fun i σ' H' => ∃ (g : Nat) (u : Option V), σ' = [some (.str (SX.S l)), some (.int (g : Int)), u] ∧ H' = H ∧ (lng g (l.drop i) = false → lng 0 l = false)) ⟨0, _, rfl, rfl, fun z => by rw [List.drop_zero] at z; exact z⟩ ?_ ?_
    · rintro i c σ' H' ec ⟨g, u, rfl, rfl, all⟩
      have hi := (List.getElem?_eq_some_iff.mp ec).1
      have ed : l.drop i = c :: l.drop (i + 1) := by
        rw [List.drop_eq_getElem_cons hi]
        rw [List.getElem?_eq_getElem hi] at ec
        injection ec with ec
        rw [ec]
      rw [ed, lng] at all
      walk_at "v"
      refine notin_s ?_
      by_cases hc : IsDig c
      · rw [decide_eq_true hc]
        refine ⟨_, rfl, iteF ?_⟩
        rw [if_pos hc] at all
        walk_at "v"
        refine w_ifd (fun h => ?_) (fun h => ?_)
        · walk_at "v"
          exact q true fun z => by cases z
        · walk_at "v"
          refine ⟨g + 1, _, rfl, rfl, fun z => all ?_⟩
          rw [if_neg (by omega)]
          exact z
      · rw [decide_eq_false hc]
        refine ⟨_, rfl, iteT ?_⟩
        rw [if_neg hc] at all
        walk_at "v"
        refine w_ifd (fun h => absurd h (by decide)) (fun h => ?_)
        walk_at "v"
        refine ⟨0, _, rfl, rfl, fun z => all ?_⟩
        rw [if_neg (by decide)]
        exact z
    · rintro σ' H' ⟨g, u, rfl, rfl, all⟩
      walk_at "v"
      refine q false fun _ => lng_no (all ?_)
      rw [List.drop_length]
      rfl
end

/-! ### the law's reading of a word -/
theorem take1 {l : List Nat} : l.take 1 = [45] ↔ l.head? = some 45 := by
  cases l with
  | nil => simp
  | cons c r => simp
theorem cutS_to1 {l : List Nat} : cutS (SX.S l) none (some 1) = SX.S (l.take 1) := by
  unfold cutS
  rw [SX.S_len, HT.sIx_none]
  have e : HT.sIx l.length l.length (some 1) = min 1 l.length := HT.sIx_nat l.length l.length 1
  rw [e]
  refine congrArg SX.S ?_
  show (l.drop 0).take _ = _
  rw [List.drop_zero]
  cases l with
  | nil => rfl
  | cons c r =>
    have : min 1 (c :: r).length = 1 := by rw [List.length_cons]; omega
    rw [this]
theorem low_iff {a b : Nat} (hb : 2 ≤ b) : PyData.eqv (.tuple [.int (nt a b), .int (bN a b)]) (.tuple [.int (a : Int), .int (b : Int)]) = decide (Nat.gcd a b = 1) := by
  rw [eqv_pair]
  refine decide_eq_decide.mpr ⟨fun ⟨_, h⟩ => ?_, fun h => ?_⟩
  · have := (low_of (a := (a : Int)) (b := (b : Int)) (by omega) h).one
    rw [Int.natAbs_natCast, Int.natAbs_natCast] at this
    exact this
  · have l : Low (a : Int) (b : Int) := low_mk (by omega) (by rw [Int.natAbs_natCast, Int.natAbs_natCast]; exact h)
    exact ⟨nt_id l, nb_id l⟩
theorem log_9000 {n : Nat} (h : n < 10 ^ 40) : (n : Int).natAbs.log2 < 9000 := Nat.lt_trans (log_60 (sm_log h)) (by decide)
section
variable {P : Program} {w : World} {K : PySem.W.Frag} {mg : Str → Option Value} {base : Heap}
theorem ok_law_read_word {f : Addr} {fd : FuncData} (F : Fun K "_law_read_word" "_law_read_word" s_law_read_word f fd) (nb : Nb mg) (d_law_whole : Df P w K mg base CX0 1 "_law_whole" ["word"] sp_lwhole) (d_law_low : Df P w K mg base CX0 1 "_law_low" ["top", "bottom"] sp_low) : FnOk P w K mg base CX0 2 f fd ["word"] sp_lread := by
  have sc := sc_law_read_word
  refine F.ok sc (fun vs H Q E h => ?_) (fun cdv A outer s H vs Q E hr h => ?_)
  · obtain ⟨x, rfl, _⟩ := h
    rfl
  · obtain ⟨l, rfl, hl, nl, yes, no⟩ := h
    refine ⟨_, (pss_cons (ps_asg (pe_m1 PySem.F.slot_str_split PySem.F.type_str_split mq_split (pv 0) pe_str) (pg_name (i := 1) sc.nd rfl (.inl rfl)))
    (pss_cons (ps_asg (pe_ix ix_list (pv 1) pe_int (fun _ _ => rfl)) (pg_name (i := 2) sc.nd rfl (.inl rfl)))
    (pss_cons (ps_asg pe_int (pg_name (i := 3) sc.nd rfl (.inl rfl)))
    (Evl.pss_cut (ps_if (pt_cmpR op_eq (pe_slice sl_str (pv 2) po_none (po_some pe_int)) pe_str (nomark _)) (pss_cons (ps_asg (pe_slice sl_str (pv 2) (po_some pe_int) po_none) (pg_name (i := 2) sc.nd rfl (.inl rfl)))
    (pss_one (ps_asg (pe_un un_neg pe_int) (pg_name (i := 3) sc.nd rfl (.inl rfl))))) pss_nil)
    (pss_cons (ps_asg (pe_call d_law_whole.F (hr.mono (by first | decide | omega)) (by rfl) d_law_whole.g d_law_whole.kp d_law_whole.b .nil pass0 (pa_cons (pv 2) pa_nil)) (pg_name (i := 4) sc.nd rfl (.inl rfl)))
    (Evl.pss_cut (ps_if (PW.pt (pw_or (pt_cmpR op_gt (pe_callB cq_len (by rfl) nb.len (by decide +kernel) (pa_cons (pv 1) pa_nil)) pe_int (nomark _)) (pw_or (pt_cmpR oq_isN (pv 4) pe_non (nomark _)) (pw_or1 (PW.pt (pw_and (pt_cmpR op_eq (pv 4) pe_int (nomark _)) (pw_and1 (pt_cmpR op_lt (pv 3) pe_int (nomark _))))))))) (pss_one (ps_ret pe_non)) pss_nil)
    (pss_cons (ps_if (pt_cmpR op_eq (pe_callB cq_len (by rfl) nb.len (by decide +kernel) (pa_cons (pv 1) pa_nil)) pe_int (nomark _)) (pss_one (ps_ret (pe_tup (pa_cons (pe_op op_mul (pv 3) (pv 4)) (pa_cons pe_int pa_nil))))) pss_nil)
    (pss_cons (ps_asg (pe_call d_law_whole.F (hr.mono (by first | decide | omega)) (by rfl) d_law_whole.g d_law_whole.kp d_law_whole.b .nil pass0 (pa_cons (pe_ix ix_list (pv 1) pe_int (fun _ _ => rfl)) pa_nil)) (pg_name (i := 5) sc.nd rfl (.inl rfl)))
    (pss_cons (ps_if (PW.pt (pw_or (pt_cmpR oq_isN (pv 5) pe_non (nomark _)) (pw_or (pt_cmpR op_lt (pv 5) pe_int (nomark _)) (pw_or1 (pt_cmpR (op_neD hr.units) (pe_call d_law_low.F (hr.mono (by first | decide | omega)) (by rfl) d_law_low.g d_law_low.kp d_law_low.b .nil pass0 (pa_cons (pv 4) (pa_cons (pv 5) pa_nil))) (pe_tup (pa_cons (pv 4) (pa_cons (pv 5) pa_nil))) (nomark _)))))) (pss_one (ps_ret pe_non)) pss_nil)
    (pss_one (ps_ret (pe_tup (pa_cons (pe_op op_mul (pv 3) (pv 4)) (pa_cons (pv 5) pa_nil)))))))))))))), ?_⟩
    (rw [show start ["word", "parts", "top", "factor", "first", "second"] [.str (SX.S l)] = [some (.str (SX.S l)), none, none, none, none, none] from rfl]; try dsimp only [cxOf])
    obtain ⟨neg, t, o, el, ht, hn⟩ := word_parts l
    have rd : ∀ a b, RdF l a b ↔ RdP neg t o a b := fun a b => by
      rw [el]
      exact rd_iff ht hn
    have lt : t.length ≤ l.length := by
      rw [el]
      simp only [List.length_append]
      omega
    have hp : 47 ∉ preN neg ++ t := fun z => by
      rcases List.mem_append.mp z with z | z
      · cases neg with
        | false => cases z
        | true => rcases List.mem_cons.mp z with z | z <;> cases z
      · exact ht z
    have nt' : NoLong t := nl.sub (u := preN neg) (v := tailO o) el
    have hd : (preN neg ++ t).head? = some 45 ↔ neg = true := by
      cases neg with
      | true => exact ⟨fun _ => rfl, fun _ => rfl⟩
      | false => exact ⟨fun z => absurd z (hn rfl), fun z => by cases z⟩
    have dr : neg = true → (preN neg ++ t).drop 1 = t := fun z => by rw [z]; rfl
    have dr0 : neg = false → preN neg ++ t = t := fun z => by rw [z]; rfl
    walk_at "v"
    refine w_m1 ?_
    walk_at "v"
    refine ⟨⟨_, rfl⟩, ?_⟩
    walk_at "v"
    refine ⟨SX.S l, "/", rfl, rfl, by decide, by rw [SX.S_len]; exact Nat.le_trans (Nat.add_le_add_right hl 2) (by decide), fun p np => ?_⟩
    obtain ⟨ps, eps, po⟩ : ∃ ps, TL.spl [47] 0 [] l = (preN neg ++ t) :: ps ∧ (match o with | none => ps = [] | some q => ps = TL.spl [47] 0 [] q) := by
      cases o with
      | none =>
        have e2 : l = preN neg ++ t := by
          rw [el]
          exact List.append_nil _
        exact ⟨[], by rw [e2, spl_none 47 _ [] hp]; rfl, rfl⟩
      | some q =>
        have e2 : l = (preN neg ++ t) ++ 47 :: q := el
        exact ⟨_, by rw [e2, spl_hit 47 q _ [] hp]; rfl, rfl⟩
    have es : (Txt.split (SX.S l) "/").map V.str = V.str (SX.S (preN neg ++ t)) :: ps.map fun w => V.str (SX.S w) := by
      rw [show ("/" : Str) = SX.S [47] by decide, SX.split_S (by simp) (by decide), List.map_map, eps]
      rfl
    rw [es]
    have S1 : Same H (upd H p (.lst (V.str (SX.S (preN neg ++ t)) :: ps.map fun w => V.str (SX.S w)))) := same_new np
    have hH1 : (upd H p (.lst (V.str (SX.S (preN neg ++ t)) :: ps.map fun w => V.str (SX.S w)))) p = some (.lst (V.str (SX.S (preN neg ++ t)) :: ps.map fun w => V.str (SX.S w))) := upd_same
    generalize upd H p (.lst (V.str (SX.S (preN neg ++ t)) :: ps.map fun w => V.str (SX.S w))) = H1 at S1 hH1 ⊢
    have hsq : SqL K H1 p (V.str (SX.S (preN neg ++ t)) :: ps.map fun w => V.str (SX.S w)) := SqL.of hH1
    have lp : (preN neg ++ t).length ≤ l.length := by
      rw [el]
      simp only [List.length_append]
      omega
    walk_at "v"
    refine ⟨fun σ' H' => σ' = [some (.str (SX.S l)), some (.ref p), some (.str (SX.S t)), some (.int (if neg then -1 else 1)), none, none] ∧ H' = H1, ?_, ?_⟩
    · refine w_sl ?_
      walk_at "v"
      refine w_npart ?_
      walk_at "v"
      refine w_part ?_
      walk_at "v"
      refine ⟨SX.S (preN neg ++ t), rfl, by rw [SX.S_len]; exact sz_txt (Nat.le_trans lp hl), ?_⟩
      rw [cutS_to1]
      walk_at "v"
      refine eq_s (l := (preN neg ++ t).take 1) (m := [45]) rfl (by decide) ?_
      cases hneg : neg with
      | true =>
        rw [hneg] at hd
        rw [decide_eq_true (take1.mpr (hd.mpr rfl))]
        refine ⟨_, rfl, iteT ?_⟩
        walk_at "v"
        refine w_sl ?_
        walk_at "v"
        refine w_part ?_
        walk_at "v"
        refine w_npart ?_
        refine ⟨SX.S (preN true ++ t), rfl, by rw [SX.S_len]; rw [hneg] at lp; exact sz_txt (Nat.le_trans lp hl), ?_⟩
        rw [cutS_from1, show (preN true ++ t).drop 1 = t from rfl]
        walk_at "v"
        exact ⟨rfl, rfl⟩
      | false =>
        rw [hneg] at hd
        rw [decide_eq_false (fun z => nomatch (hd.mp (take1.mp z)))]
        refine ⟨_, rfl, iteF ?_⟩
        walk_at "v"
        exact ⟨rfl, rfl⟩
    · rintro σ' H' ⟨rfl, rfl⟩
      have out : (∀ a b, ¬ RdP neg t o a b) → ∀ H2, Same H' H2 → Q .non H2 := fun z H2 S => no (fun a b r => z a b ((rd a b).mp r)) H2 (S1.trans S)
      walk_at "v"
      have len2 : ((V.str (SX.S (preN neg ++ t)) :: ps.map fun w => V.str (SX.S w)).length : Int) = (ps.length : Int) + 1 := by
        rw [List.length_cons, List.length_map]
        omega
      refine ⟨t, rfl, Nat.le_trans lt hl, nt', fun wt => ?_, fun nw => ?_⟩
      · walk_at "v"
        refine ⟨fun σ' H2 => σ' = [some (.str (SX.S l)), some (.ref p), some (.str (SX.S t)), some (.int (if neg then -1 else 1)), some (.int (NumText.digitsVal t : Nat)), none] ∧ H2 = H' ∧ ps.length ≤ 1 ∧ (NumText.digitsVal t = 0 → neg = false), ?_, ?_⟩
        · walk_at "v"
          rw [len2]
          refine w_ifd (fun h1 => ?_) (fun h1 => ?_)
          · walk_at "v"
            refine out (fun a b r => ?_) _ (Same.refl _)
            cases o with
            | none =>
              have po : ps = [] := po
              rw [po] at h1
              exact absurd h1 (by decide)
            | some q =>
              have po : ps = TL.spl [47] 0 [] q := po
              have wq : WW q := r.2.2.2.1
              have : 47 ∉ q := fun z => not_dig (by decide) (wq.1 47 z)
              rw [po, spl_none 47 q [] this] at h1
              exact absurd h1 (show ¬ 2 < ((1 : Nat) : Int) + 1 by decide)
          · walk_at "v"
            refine w_ifd (fun h2 => ?_) (fun h2 => ?_)
            · walk_at "v"
              cases neg with
              | true =>
                refine w_ifd (fun _ => ?_) (fun h => absurd (by decide) h)
                walk_at "v"
                exact out (fun a b r => nomatch (r.2.1 (by omega))) _ (Same.refl _)
              | false =>
                refine w_ifd (fun h => absurd h (by decide)) (fun _ => ?_)
                walk_at "v"
                exact ⟨rfl, rfl, by omega, fun _ => rfl⟩
            · walk_at "v"
              exact ⟨rfl, rfl, by omega, fun z => absurd (by omega) h2⟩
        · rintro σ' H2 ⟨rfl, rfl, lps, nz⟩
          walk_at "v"
          rw [len2]
          have fac : (if neg then -1 else 1 : Int) * (NumText.digitsVal t : Nat) = valS neg t := by
            unfold valS
            cases neg <;> simp
          refine w_ifd (fun h1 => ?_) (fun h1 => ?_)
          · walk_at "v"
            rw [fac]
            refine nt_mk fun p2 np2 => ?_
            cases o with
            | none => exact yes (valS neg t) 1 ((rd _ _).mpr ⟨wt, nz, rfl, rfl⟩) _ _ (S1.new np2) (S1.free np2) upd_same
            | some q =>
              have po : ps = TL.spl [47] 0 [] q := po
              have := List.length_pos_iff.mpr (spl_neS q [])
              rw [po] at h1
              omega
          · cases o with
            | none =>
              have po : ps = [] := po
              rw [po] at h1
              exact absurd rfl h1
            | some q =>
              have po : ps = TL.spl [47] 0 [] q := po
              have epq : ps = [q] := by
                rw [po]
                refine spl_two ?_
                rw [← po]
                omega
              rw [epq] at hsq
              have lq : q.length ≤ l.length := by
                rw [el]
                simp only [List.length_append, tailO, List.length_cons]
                omega
              have nq : NoLong q := nl.sub (m := q) (u := preN neg ++ t ++ [47]) (v := []) (by rw [el]; simp [tailO])
              walk_at "v"
              refine w_ixL hsq at1 ?_
              refine ⟨q, rfl, Nat.le_trans lq hl, nq, fun wq => ?_, fun nwq => ?_⟩
              · walk_at "v"
                refine w_ifd (fun h2 => ?_) (fun h2 => ?_)
                · walk_at "v"
                  refine out (fun a b r => ?_) _ (Same.refl _)
                  have := r.2.2.2.2.1
                  omega
                · walk_at "v"
                  have v2 : 2 ≤ NumText.digitsVal q := by omega
                  refine call_low (by omega) (log_9000 (val_40 wq.1 (nq.len wq.1))) fun H3 p3 S3 np3 hp3 => ?_
                  walk_at "v"
                  refine nt_mk fun p4 np4 => ?_
                  have S4 := same_new (o := .tup [.int (NumText.digitsVal t : Nat), .int (NumText.digitsVal q : Nat)]) np4
                  refine ⟨_, _, .tup (SqT.of (S4 _ _ hp3)) (.cons (.int _) (.cons (.int _) .nil)), .tup (SqT.of upd_same) (.cons (.int _) (.cons (.int _) .nil)), rfl, rfl, ?_⟩
                  rw [low_iff v2]
                  by_cases hg : Nat.gcd (NumText.digitsVal t) (NumText.digitsVal q) = 1
                  · rw [decide_eq_true hg]
                    refine ⟨_, rfl, iteF ?_⟩
                    walk_at "v"
                    rw [fac]
                    refine nt_mk fun p5 np5 => ?_
                    exact yes (valS neg t) (NumText.digitsVal q : Nat) ((rd _ _).mpr ⟨wt, nz, rfl, wq, v2, rfl, hg⟩) _ _ (S1.trans (S3.trans (S4.new np5))) (S1.free (S3.free (S4.free np5))) upd_same
                  · rw [decide_eq_false hg]
                    refine ⟨_, rfl, iteT ?_⟩
                    walk_at "v"
                    exact out (fun a b r => hg r.2.2.2.2.2.2) _ (S3.trans S4)
              · walk_at "v"
                exact out (fun a b r => nwq r.2.2.2.1) _ (Same.refl _)
      · walk_at "v"
        refine ⟨fun _ _ => False, ?_, fun _ _ h => h.elim⟩
        walk_at "v"
        rw [len2]
        refine w_ifd (fun h1 => ?_) (fun h1 => ?_)
        · walk_at "v"
          exact out (fun a b r => nw r.1) _ (Same.refl _)
        · walk_at "v"
          exact out (fun a b r => nw r.1) _ (Same.refl _)
end

/-! ### what the law says is due of a text of numbers -/
def IsNF (d : PyData) : Prop := d = .none ∨ ∃ a b : Int, d = Fr a b
theorem nf_facts : ∀ {es : List PyData}, (∀ z ∈ es, IsNF z) → noDicts es = true ∧ PyData.canLayAll0 es = true ∧ PyData.depthAll es ≤ 2
  | [], _ => ⟨rfl, rfl, by simp [PyData.depthAll]⟩
  | e :: es, h => by
    obtain ⟨i1, i2, i3⟩ := nf_facts fun z hz => h z (List.mem_cons_of_mem _ hz)
    rcases h e (List.mem_cons_self ..) with rfl | ⟨a, b, rfl⟩
    · refine ⟨?_, ?_, ?_⟩
      · unfold noDicts
        rw [i1]
        rfl
      · unfold PyData.canLayAll0
        rw [i2]
        rfl
      · simp only [PyData.depthAll, PyData.depth]
        omega
    · refine ⟨?_, ?_, ?_⟩
      · unfold noDicts
        rw [i1]
        rfl
      · unfold PyData.canLayAll0
        rw [i2]
        rfl
      · simp only [PyData.depthAll, PyData.depth]
        omega
theorem nf_shaped {es : List PyData} (h : ∀ z ∈ es, IsNF z) : SeqAt.shaped (.list es) = true ∧ noDict (.list es) = true := by
  obtain ⟨i1, i2, i3⟩ := nf_facts h
  refine ⟨?_, by unfold noDict; exact i1⟩
  unfold SeqAt.shaped
  rw [Bool.and_eq_true, decide_eq_true_iff]
  refine ⟨by unfold PyData.canLay0; exact i2, ?_⟩
  simp only [PyData.depth]
  omega
theorem eqv_fr_none {a b : Int} : PyData.eqv (Fr a b) .none = false := rfl
theorem eqv_none : PyData.eqv .none .none = true := rfl
def ItmR (l : List Nat) (i : Nat) (d : PyData) : Prop := ∃ w, (wds l)[i]? = some w ∧ ((d = .none ∧ ∀ a b, ¬ RdF w a b) ∨ ∃ a b, d = Fr a b ∧ RdF w a b)
theorem itm_all {l : List Nat} {es : List PyData} {fs : List (Int × Int)} (hl : es.length = (wds l).length) (h : ∀ (k : Nat) d, es[k]? = some d → ItmR l k d) (a : AllF (wds l) fs) : es = frD fs := by
  refine List.ext_getElem? fun k => ?_
  unfold frD
  rw [List.getElem?_map]
  have hf := a.1
  cases e : es[k]? with
  | none =>
    have : es.length ≤ k := List.getElem?_eq_none_iff.mp e
    rw [List.getElem?_eq_none (by omega)]
    rfl
  | some d =>
    have hk := (List.getElem?_eq_some_iff.mp e).1
    obtain ⟨w, ew, hd⟩ := h k d e
    have eq := List.getElem?_eq_getElem (l := fs) (i := k) (by omega)
    have r := a.2 k w _ ew eq
    rw [eq]
    rcases hd with ⟨_, no⟩ | ⟨x, y, rfl, r2⟩
    · exact absurd r (no _ _)
    · obtain ⟨e1, e2⟩ := rdf_uniq r2 r
      rw [e1, e2]
      rfl
theorem itm_nf {l : List Nat} {es : List PyData} (h : ∀ (k : Nat) d, es[k]? = some d → ItmR l k d) : ∀ z ∈ es, IsNF z := fun z hz => by
  obtain ⟨k, hk, e⟩ := List.getElem_of_mem hz
  obtain ⟨w, _, hd⟩ := h k z (by rw [List.getElem?_eq_getElem hk, e])
  rcases hd with ⟨rfl, _⟩ | ⟨a, b, rfl, _⟩
  · exact .inl rfl
  · exact .inr ⟨a, b, rfl⟩
theorem itm_bad {l : List Nat} {es : List PyData} {i : Nat} (hl : es.length = (wds l).length) (h : ∀ (k : Nat) d, es[k]? = some d → ItmR l k d) (b : FirstBad (wds l) i) : es[i]? = some .none ∧ ∀ (m : Nat) z, m < i → es[m]? = some z → PyData.eqv z .none = false := by
  obtain ⟨w, ew, no, all⟩ := b
  have hi := (List.getElem?_eq_some_iff.mp ew).1
  have e := List.getElem?_eq_getElem (l := es) (i := i) (by omega)
  refine ⟨?_, fun m z hm ez => ?_⟩
  · obtain ⟨w2, ew2, hd⟩ := h i _ e
    rw [ew] at ew2
    cases ew2
    rcases hd with ⟨e2, _⟩ | ⟨x, y, _, r⟩
    · rw [e, e2]
    · exact absurd r (no _ _)
  · obtain ⟨w2, ew2, hd⟩ := h m z ez
    obtain ⟨x, y, r⟩ := all m w2 hm ew2
    rcases hd with ⟨_, no2⟩ | ⟨x2, y2, rfl, _⟩
    · exact absurd r (no2 _ _)
    · rfl
abbrev sp_ndue : Sp := fun vs H Q _ => ∃ (sa : Addr) (l : List Nat), vs = [.str (SX.S l)] ∧ (∃ o, H sa = some o) ∧ l.length ≤ 30000 ∧ NoLong l ∧ (wds l).length ≤ 1000 ∧ (∀ fs, (if l = [] then fs = [] else AllF (wds l) fs) → ∀ H' y, Same H H' → Rp sa H' y (.tuple [.str "told", .tuple (frD fs)]) → Q y H') ∧ (∀ i, l ≠ [] → FirstBad (wds l) i → ∀ H' y, Same H H' → Rp sa H' y (.tuple [.str "BadText", .int ((i : Int) + 1)]) → Q y H')
theorem w_ilistK {K : PySem.W.Frag} {tl : TE} {σ : L2.St} {H : Hp} {R : It → Hp → Prop} (h : tl σ H fun x H1 => ∃ a, x = .ref a ∧ (∃ xs, SqL K H1 a xs) ∧ R (Itl K a) H1) : iList K tl σ H R := h
theorem rps_words {sa : Addr} {H : Hp} : ∀ ps : List (List Nat), Rps sa H (ps.map fun w => V.str (SX.S w)) (ps.map fun w => PyData.str (SX.S w))
  | [] => .nil
  | p :: ps => .cons (.str _) (rps_words ps)
section
variable {P : Program} {w : World} {K : PySem.W.Frag} {mg : Str → Option Value} {base : Heap}
theorem ok_law_numbers_due {f : Addr} {fd : FuncData} (F : Fun K "_law_numbers_due" "_law_numbers_due" s_law_numbers_due f fd) (nb : Nb mg) (d_law_read_word : Df P w K mg base CX0 2 "_law_read_word" ["word"] sp_lread) : FnOk P w K mg base CX0 3 f fd ["text"] sp_ndue := by
  have sc := sc_law_numbers_due
  refine F.ok sc (fun vs H Q E h => ?_) (fun cdv A outer s H vs Q E hr h => ?_)
  · obtain ⟨sa, x, rfl, _⟩ := h
    rfl
  · obtain ⟨sa, l, rfl, tr, hl, nl, wl, yes, no⟩ := h
    refine ⟨_, (pss_cons (ps_if (pt_cmpR op_eq (pv 0) pe_str (nomark _)) (pss_one (ps_ret (pe_tup (pa_cons pe_str (pa_cons (pe_tup pa_nil) pa_nil))))) pss_nil)
    (pss_cons (ps_asg (pe_m1 PySem.F.slot_str_split PySem.F.type_str_split mq_split (pv 0) pe_str) (pg_name (i := 1) sc.nd rfl (.inl rfl)))
    (pss_cons (ps_setLc (i := 2) (own := [("word", 3)]) (g := gName 3) (tt := tYes) rfl sc.nd rfl rfl (sw_true rfl rfl rfl (by decide +kernel)) (pi_list (pv 1)) (blkOk_by (N := NN_law_numbers_due) (sc := defScope s_law_numbers_due) (by decide +kernel)) (fun _ _ _ _ _ => pg_name (i := 3) sc.nd rfl (Or.inl rfl)) (fun _ _ _ _ _ => pts_nil) (fun _ _ _ _ _ => (pe_call d_law_read_word.F (hr.mono (by first | decide | omega)) (by rfl) d_law_read_word.g d_law_read_word.kp d_law_read_word.b .nil pass0 (pa_cons (pv 3) pa_nil))))
    (pss_cons (ps_if (pt_cmpR (op_inD (units65 hr)) pe_non (pv 2) (by rfl)) (pss_one (ps_ret (pe_tup (pa_cons pe_str (pa_cons (pe_op op_add pe_int (pe_bm PySem.F.plainAttrs_list PySem.F.slot_list_index PySem.F.type_list_index (mt_indexD (units65 hr)) (pv 2) (pa_cons pe_non pa_nil))) pa_nil))))) pss_nil)
    (pss_one (ps_ret (pe_tup (pa_cons pe_str (pa_cons (pe_callTy cq_tuple (by rfl) nb.tuple (by decide +kernel) (pa_cons (pv 2) pa_nil)) pa_nil))))))))), ?_⟩
    (rw [show start ["text", "words", "items", "word"] [.str (SX.S l)] = [some (.str (SX.S l)), none, none, none] from rfl]; try dsimp only [cxOf])
    have W := wd_start tr .nil
    walk_at "v"
    refine eq_s (l := l) (m := []) rfl (by decide) ?_
    by_cases h0 : l = []
    · rw [decide_eq_true h0]
      refine ⟨_, rfl, iteT ?_⟩
      walk_at "v"
      rename_i W2
      exact yes [] (by rw [if_pos h0]) _ _ (W2.same rfl) (W2.get .here)
    · rw [decide_eq_false h0]
      refine ⟨_, rfl, iteF ?_⟩
      walk_at "v"
      refine w_m1 ?_
      walk_at "v"
      refine ⟨⟨_, rfl⟩, ?_⟩
      walk_at "v"
      refine ⟨SX.S l, " ", rfl, rfl, by decide, by rw [SX.S_len]; exact Nat.le_trans (Nat.add_le_add_right hl 2) (by decide), fun p np => ?_⟩
      have es : (Txt.split (SX.S l) " ").map V.str = (wds l).map fun w => V.str (SX.S w) := by
        rw [show (" " : Str) = SX.S [32] by decide, SX.split_S (by simp) (by decide), List.map_map]
        rfl
      rw [es]
      have W1 : Wd false sa H _ [.ref p] [.list ((wds l).map fun w => PyData.str (SX.S w))] := (W.go (same_new (o := .lst ((wds l).map fun w => V.str (SX.S w))) np)).put (.lst (W.ne np) upd_same (rps_words _))
      generalize upd H p (.lst ((wds l).map fun w => V.str (SX.S w))) = H1 at W1 ⊢
      have lw : ((wds l).map fun w => PyData.str (SX.S w)).length = (wds l).length := List.length_map ..
      walk_at "v"
      refine w_lc ?_
      refine w_ilistK ?_
      walk_at "v"
      refine ⟨p, rfl, (mp_at W1 .here).elim fun xs hx => ⟨xs, SqL.of hx.1⟩, ?_⟩
      refine lcp_list W1 .here (by rw [lw]; exact wl) (ItmR l) (fun i d ⟨w, _, h⟩ => by rcases h with ⟨rfl, _⟩ | ⟨a, b, rfl, _⟩ <;> rfl) (fun x => rfl) (fun i x d H2 Q' ed W2 q2 => ?_) fun H2 D es2 W2 hlen he => ?_
      · rw [List.getElem?_map] at ed
        obtain ⟨wd, ew, rfl⟩ := Option.map_eq_some_iff.mp ed
        obtain rfl := rp_strI (W2.get .here)
        obtain ⟨u, v, euv⟩ := wds_sub (List.mem_of_getElem? ew)
        have lwd : wd.length ≤ l.length := by
          rw [euv, List.length_append, List.length_append]
          omega
        refine ⟨_, rfl, ?_⟩
        refine ⟨wd, rfl, Nat.le_trans lwd (Nat.le_trans hl (by decide)), nl.sub euv, fun a b r H3 p3 S3 np3 hp3 => ?_, fun n H3 S3 => ?_⟩
        · exact q2 _ H3 _ S3 (.tup (W2.ne np3) hp3 (.cons (.int a) (.cons (.int b) .nil))) ⟨wd, ew, .inr ⟨a, b, rfl, r⟩⟩
        · exact q2 _ H3 _ S3 .non ⟨wd, ew, .inl ⟨rfl, n⟩⟩
      · rw [lw] at hlen
        have nf := itm_nf he
        obtain ⟨sh, nd⟩ := nf_shaped nf
        have dD := (W2.get (v := .ref D) .here).dp (K := K) nd
        walk_at "v"
        refine ⟨.none, es2, .non, dD, rfl, sh, ?_⟩
        rcases words_or (wds l) with ⟨fs, a⟩ | ⟨i, b⟩
        · obtain rfl := itm_all hlen he a
          have : (frD fs).any (fun z => PyData.eqv z .none) = false := by
            rw [List.any_eq_false]
            intro z hz
            obtain ⟨q, _, rfl⟩ := List.mem_map.mp hz
            rw [eqv_fr_none]
            simp
          rw [this]
          refine ⟨_, rfl, iteF ?_⟩
          walk_at "v"
          obtain ⟨xs, hx, rx⟩ := mp_at W2 .here
          refine ⟨D, xs, rfl, .inl ⟨SqL.of hx, fun p3 np3 => ?_⟩⟩
          have S3 := same_new (o := .tup xs) np3
          have W3 : Wd false sa H _ [.ref p3] [.tuple (frD fs)] := ((W2.go S3).sub .nil).put (.tup (W2.ne np3) upd_same (rx.but S3.but))
          walk_at "v"
          rename_i W4
          exact yes fs (by rw [if_neg h0]; exact a) _ _ (W4.same rfl) (W4.get .here)
        · obtain ⟨e1, e2⟩ := itm_bad hlen he b
          have : es2.any (fun z => PyData.eqv z .none) = true := List.any_eq_true.mpr ⟨_, List.mem_of_getElem? e1, eqv_none⟩
          rw [this]
          refine ⟨_, rfl, iteT ?_⟩
          walk_at "v"
          refine w_bm ?_
          walk_at "v"
          obtain ⟨xs, hx, rx⟩ := mp_at W2 .here
          refine ⟨tyV_lst hx, ?_⟩
          walk_at "v"
          refine ⟨D, .non, .none, es2, i, .none, rfl, rfl, dD, .non, sh, rfl, e1, eqv_none, e2, ?_⟩
          walk_at "v"
          rename_i W4
          rw [show (1 : Int) + (i : Int) = (i : Int) + 1 by omega] at W4
          exact no i h0 b _ _ (W4.same rfl) (W4.get .here)
end

/-! ### readings that catch -/
def same1 {α : Type} (l : List α) : List α := l
theorem vals_same1 {zs : List V} {ws : List Value} (r : Vals zs ws) (_ : zs.length = 1) : Vals (same1 zs) (same1 ws) := r
/-- where a class stands -/
structure GC (mg : Str → Option Value) (x : Str) (C : Addr) : Prop where
  gC : mg x = some (.ref C)
def NumsOut (l : List Nat) (d : PyData) : Prop := (∃ fs, (if l = [] then fs = [] else AllF (wds l) fs) ∧ d = .tuple [.str "told", .tuple (frD fs)]) ∨ ∃ i : Nat, l ≠ [] ∧ FirstBad (wds l) i ∧ d = .tuple [.str "BadText", .int ((i : Int) + 1)]
theorem numsOut_uniq {l : List Nat} {d e : PyData} (h : NumsOut l d) (g : NumsOut l e) : d = e := by
  rcases h with ⟨fs, h1, rfl⟩ | ⟨i, h1, h2, rfl⟩
  · rcases g with ⟨gs, g1, rfl⟩ | ⟨j, g1, g2, rfl⟩
    · by_cases h0 : l = []
      · rw [if_pos h0] at h1 g1
        rw [h1, g1]
      · rw [if_neg h0] at h1 g1
        rw [allF_uniq h1 g1]
    · rw [if_neg g1] at h1
      exact (allF_not_bad h1 g2).elim
  · rcases g with ⟨gs, g1, rfl⟩ | ⟨j, g1, g2, rfl⟩
    · rw [if_neg h1] at g1
      exact (allF_not_bad g1 h2).elim
    · rw [firstBad_uniq h2 g2]
abbrev sp_nread (K : PySem.W.Frag) : Sp := fun vs H Q _ => ∃ (sa : Addr) (x : V) (d : PyData), vs = [x] ∧ (∃ o, H sa = some o) ∧ Rp sa H x d ∧ (∀ l, d = .str (SX.S l) → l.length ≤ 30000 ∧ NoLong l) ∧ ((∀ z, d ≠ .str z) → ∀ H' y, Same H H' → Dp K H' y (.tuple [.str "BadText", .int 0]) → Q y H') ∧ (∀ l, d = .str (SX.S l) → ∀ e H' y, NumsOut l e → Same H H' → Dp K H' y e → Q y H')
def TreeOut (l : List Nat) (d : PyData) : Prop := (∃ t, prs 12 l = .inr (t, []) ∧ d = .tuple [.str "told", trD t]) ∨ (∃ e, aut [.tree 1] 0 l = some e ∧ Suf e l ∧ d = .tuple [.str "BadText", .int (pos l e + 1)])
abbrev sp_tread : Sp := fun vs H Q _ => ∃ (sa : Addr) (x : V) (d : PyData), vs = [x] ∧ (∃ o, H sa = some o) ∧ Rp sa H x d ∧ (∀ l, d = .str (SX.S l) → l.length ≤ TB) ∧ ((∀ z, d ≠ .str z) → ∀ H' y, Same H H' → Rp sa H' y (.tuple [.str "BadText", .int 0]) → Q y H') ∧ (∀ l, d = .str (SX.S l) → ∀ e H' y, TreeOut l e → Same H H' → Rp sa H' y e → Q y H')
theorem same_del {H H' : Hp} {a : Addr} (S : Same H H') (h : H a = none) : Same H (del H' a) := fun b o e => by
  rw [del_ne (fun z => by rw [z, h] at e; cases e)]
  exact S b o e
section
variable {P : Program} {w : World} {K : PySem.W.Frag} {mg : Str → Option Value} {base : Heap}
theorem ok_law_numbers_read {f xC : Addr} {fd : FuncData} (F : Fun K "_law_numbers_read" "_law_numbers_read" s_law_numbers_read f fd) (nb : Nb mg) (c_BadText : ExF P w K mg base "BadText" xC ["self", "at"] (sp_ini1 K xC "at")) (te : PySem.W.exmOne K (.ref xC) (.ref xC) = some true) (xT : XfC K xC) (xno : PySem.W.findIn K (.ref xC) "at" = some none) (d_read_numbers : Df P w K mg base (L2.CX P w) 3 "read_numbers" ["text"] (sp_rnums K xC)) (kb_read_numbers : KB0 K d_read_numbers.fd ["text"] ["text"] same1) : FnOk P w K mg base CX0 4 f fd ["text"] (sp_nread K) := by
  have sc := sc_law_numbers_read
  refine F.ok sc (fun vs H Q E h => ?_) (fun cdv A outer s H vs Q E hr h => ?_)
  · obtain ⟨sa, x, d, rfl, _⟩ := h
    rfl
  · obtain ⟨sa, x, d, rfl, tr, r0, hl, bad, ok⟩ := h
    refine ⟨_, (pss_cons (ps_asg pe_non (pg_name (i := 1) sc.nd rfl (.inl rfl)))
    (pss_cons (ps_try_as (tb := fun W => (tAsg (tTup (tCons (tC (.str "told")) (tCons (tCallKS (sp_rnums K xC) 1 same1 (WE W) (tCons (tVar 0) tNil)) tNil))) (gName 1))) (ts := fun a cls d => (tAsg (tTup (tCons (tC (.str "BadText")) (tCons (tXf a cls d xC "at" (tVar 2)) tNil))) (gName 1))) rfl rfl sc.nd (i := 2) rfl rfl ⟨rfl, by decide, .inl c_BadText.gC⟩ takes0 (fun W pn xe tk _ => (pss_one (ps_asg (pe_tup (pa_cons pe_str (pa_cons (pe_kwS d_read_numbers.F (hr.mono (by first | decide | omega)) (by rfl) d_read_numbers.g d_read_numbers.kp kb_read_numbers (fun σ => passAt tk σ) (pk_cons (pv 0) pk_nil)) pa_nil))) (pg_name (i := 1) sc.nd rfl (.inl rfl))))) (fun a oe cls d pn hz hf => (pss_one (ps_asg (pe_tup (pa_cons pe_str (pa_cons (pe_xf xT xno hz hf (pv 2)) pa_nil))) (pg_name (i := 1) sc.nd rfl (.inl rfl))))))
    (pss_one (ps_ret (pv 1))))), ?_⟩
    (rw [show start ["text", "found", "e"] [x] = [some (x), none, none] from rfl]; try dsimp only [cxOf])
    walk_at "v"
    refine ⟨rfl, sa, x, d, rfl, tr, r0, hl, fun nz H1 dd S1 hd => ?_, fun l ed => ⟨fun fs hfs H1 y S1 hy => ?_, fun i h0 hb H1 dd S1 hd => ?_⟩⟩
    · refine ⟨true, te, fun _ a na => ?_, fun z => nomatch z⟩
      walk_at "v"
      refine ⟨_, rfl, ⟨rfl, rfl, dd, _, _, rfl, hd, rfl, ?_⟩⟩
      walk_at "v"
      refine nt_mk fun p np => ?_
      walk_at "v"
      exact bad nz _ _ (S1.new np) (.tup (SqT.of upd_same) (.cons (.str _) (.cons (.int _) .nil)))
    · walk_at "v"
      refine nt_mk fun p np => ?_
      walk_at "v"
      exact ok l ed _ _ _ (.inl ⟨fs, hfs, rfl⟩) (S1.new np) (.tup (SqT.of upd_same) (.cons (.str _) (.cons (dp_sm (same_new np) hy) .nil)))
    · refine ⟨true, te, fun _ a na => ?_, fun z => nomatch z⟩
      walk_at "v"
      refine ⟨_, rfl, ⟨rfl, rfl, dd, _, _, rfl, hd, rfl, ?_⟩⟩
      walk_at "v"
      refine nt_mk fun p np => ?_
      walk_at "v"
      exact ok l ed _ _ _ (.inr ⟨i, h0, hb, rfl⟩) (S1.new np) (.tup (SqT.of upd_same) (.cons (.str _) (.cons (.int _) .nil)))
theorem ok_law_tree_read {f xC : Addr} {fd : FuncData} (F : Fun K "_law_tree_read" "_law_tree_read" s_law_tree_read f fd) (nb : Nb mg) (c_BadText : ExF P w K mg base "BadText" xC ["self", "at"] (sp_ini1 K xC "at")) (te : PySem.W.exmOne K (.ref xC) (.ref xC) = some true) (xT : XfC K xC) (xno : PySem.W.findIn K (.ref xC) "at" = some none) (d_read_tree : Df P w K mg base (L2.CX P w) 17 "read_tree" ["text"] (sp_rtree xC)) : FnOk P w K mg base CX0 18 f fd ["text"] sp_tread := by
  have sc := sc_law_tree_read
  refine F.ok sc (fun vs H Q E h => ?_) (fun cdv A outer s H vs Q E hr h => ?_)
  · obtain ⟨sa, x, d, rfl, _⟩ := h
    rfl
  · obtain ⟨sa, x, d, rfl, tr, r0, hl, bad, ok⟩ := h
    refine ⟨_, (pss_cons (ps_asg pe_non (pg_name (i := 1) sc.nd rfl (.inl rfl)))
    (pss_cons (ps_try_as (tb := fun W => (tAsg (tTup (tCons (tC (.str "told")) (tCons (tCallS (sp_rtree xC) (WE W) (tCons (tVar 0) tNil)) tNil))) (gName 1))) (ts := fun a cls d => (tAsg (tTup (tCons (tC (.str "BadText")) (tCons (tXf a cls d xC "at" (tVar 2)) tNil))) (gName 1))) rfl rfl sc.nd (i := 2) rfl rfl ⟨rfl, by decide, .inl c_BadText.gC⟩ takes0 (fun W pn xe tk _ => (pss_one (ps_asg (pe_tup (pa_cons pe_str (pa_cons (pe_callS d_read_tree.F (hr.mono (by first | decide | omega)) (by rfl) d_read_tree.g d_read_tree.kp d_read_tree.b (fun σ => passAt tk σ) (pa_cons (pv 0) pa_nil)) pa_nil))) (pg_name (i := 1) sc.nd rfl (.inl rfl))))) (fun a oe cls d pn hz hf => (pss_one (ps_asg (pe_tup (pa_cons pe_str (pa_cons (pe_xf xT xno hz hf (pv 2)) pa_nil))) (pg_name (i := 1) sc.nd rfl (.inl rfl))))))
    (pss_one (ps_ret (pv 1))))), ?_⟩
    (rw [show start ["text", "found", "e"] [x] = [some (x), none, none] from rfl]; try dsimp only [cxOf])
    have W := wd_start tr .nil
    have mk : ∀ {H1 : Hp} {p : Addr} {v : V} {e : PyData}, Same H H1 → H1 p = none → Rp sa H1 v e → ∀ z : Str, Rp sa (upd H1 p (.tup [.str z, v])) (.ref p) (.tuple [.str z, e]) := fun S np r z => .tup ((W.go S).ne np) upd_same (.cons (.str _) (.cons (r.same (same_new np)) .nil))
    walk_at "v"
    refine ⟨sa, x, d, rfl, tr, r0, hl, fun nz H1 dd S1 hd => ?_, fun l ed => ⟨fun t et H1 y S1 hy => ?_, fun t c r et H1 dd S1 hd => ?_, fun e ee H1 dd S1 hd => ?_⟩⟩
    · refine ⟨true, te, fun _ a na => ?_, fun z => nomatch z⟩
      walk_at "v"
      refine ⟨_, rfl, ⟨rfl, rfl, dd, _, _, rfl, hd, rfl, ?_⟩⟩
      walk_at "v"
      refine nt_mk fun p np => ?_
      walk_at "v"
      exact bad nz _ _ (S1.new np) (mk S1 np (.int _) _)
    · walk_at "v"
      refine nt_mk fun p np => ?_
      walk_at "v"
      exact ok l ed _ _ _ (.inl ⟨t, et, rfl⟩) (S1.new np) (mk S1 np hy _)
    · refine ⟨true, te, fun _ a na => ?_, fun z => nomatch z⟩
      walk_at "v"
      refine ⟨_, rfl, ⟨rfl, rfl, dd, _, _, rfl, hd, rfl, ?_⟩⟩
      walk_at "v"
      refine nt_mk fun p np => ?_
      walk_at "v"
      refine ok l ed _ _ _ (.inr ⟨c :: r, ?_, ⟨trL t, (prs_ok 12 et).1⟩, rfl⟩) (S1.new np) (mk S1 np (.int _) _)
      rw [aut_prs, et]
      exact if_neg (by simp)
    · refine ⟨true, te, fun _ a na => ?_, fun z => nomatch z⟩
      walk_at "v"
      refine ⟨_, rfl, ⟨rfl, rfl, dd, _, _, rfl, hd, rfl, ?_⟩⟩
      walk_at "v"
      refine nt_mk fun p np => ?_
      walk_at "v"
      refine ok l ed _ _ _ (.inr ⟨e, ?_, prs_suf 12 ee, rfl⟩) (S1.new np) (mk S1 np (.int _) _)
      rw [aut_prs, ee]
/-- a thing that is no row of fractions -/
abbrev sp_nonum1 : Sp := fun vs H Q _ => ∃ (sa : Addr) (x : V) (d : PyData), vs = [x] ∧ (∃ o, H sa = some o) ∧ Rp sa H x d ∧ (∀ fs, ptsOf d = some (frD fs) → LowS fs → False) ∧ ∀ H', Same H H' → Q (.bl true) H'
abbrev sp_nonum : Sp := fun vs H Q E => sp_nonum1 vs H Q E ∨ ∃ x, vs = [x] ∧ IsDT H x ∧ ∀ H', Same H H' → Q (.bl true) H'
abbrev sp_notree : Sp := fun vs H Q _ => ∃ (sa : Addr) (x : V) (d : PyData), vs = [x] ∧ (∃ o, H sa = some o) ∧ Rp sa H x d ∧ OkH 12 d ∧ (∀ t, d = trD t → 12 < t.dep) ∧ ∀ H', Same H H' → Q (.bl true) H'
theorem ok_law_no_numbers {f C_NoNumbers C_FoldError C_NoTree : Addr} {fd : FuncData} (F : Fun K "_law_no_numbers" "_law_no_numbers" s_law_no_numbers f fd) (nb : Nb mg) (c_FoldError : GC mg "FoldError" C_FoldError) (c_NoTree : Ex0 P w K mg base "NoTree" C_NoTree) (c_NoNumbers : Ex0 P w K mg base "NoNumbers" C_NoNumbers) (xN : XCls K C_NoNumbers) (k1 : PySem.W.kitOne K (.ref C_NoNumbers) (.ref C_FoldError) = some true) (k2 : PySem.W.kitOne K (.ref C_NoNumbers) (.ref C_NoTree) = some false) (d_numbers_text : Df P w K mg base (L2.CX P w) 4 "numbers_text" ["numbers"] (sp_ntext C_NoNumbers)) : FnOk P w K mg base CX0 5 f fd ["thing"] sp_nonum := by
  have sc := sc_law_no_numbers
  refine F.ok sc (fun vs H Q E h => ?_) (fun cdv A outer s H vs Q E hr h => ?_)
  · rcases h with ⟨sa, x, d, rfl, _⟩ | ⟨x, rfl, _⟩ <;> rfl
  · obtain ⟨x, q, rfl, key⟩ : ∃ x, ∃ q : ∀ H', Same H H' → Q (.bl true) H', vs = [x] ∧ ∀ (Q2 : VK) (E2 : XK), (∀ H', Same H H' → E2 (.ref C_NoNumbers) none H') → sp_ntext C_NoNumbers [x] H Q2 E2 := by
      rcases h with ⟨sa, x, d, rfl, tr, r0, no, q⟩ | ⟨x, rfl, dt, q⟩
      · exact ⟨x, q, rfl, fun Q2 E2 h2 => .inl ⟨sa, x, d, rfl, tr, r0, fun fs e l => (no fs e l).elim, fun fs e l => (no fs e l).elim, fun _ H1 S1 => h2 H1 S1⟩⟩
      · exact ⟨x, q, rfl, fun Q2 E2 h2 => .inr ⟨x, rfl, dt, h2⟩⟩
    refine ⟨_, (pss_cons (ps_asg pe_bl (pg_name (i := 1) sc.nd rfl (.inl rfl)))
    (pss_cons (ps_try_as (tb := fun W => (tDrop (tCallS (sp_ntext C_NoNumbers) (WE W) (tCons (tVar 0) tNil)))) (ts := fun a cls d => (tAsg (tAndV (tCB (rIsS K a cls d) (tCons (tVar 2) (tCons (tC (.ref C_FoldError)) tNil))) (tNotV (tCB (rIsS K a cls d) (tCons (tVar 2) (tCons (tC (.ref C_NoTree)) tNil))))) (gName 1))) rfl rfl sc.nd (i := 2) rfl rfl ⟨rfl, by decide, .inl c_NoNumbers.gC⟩ takes0 (fun W pn xe tk _ => (pss_one (ps_expr (pe_callS d_numbers_text.F (hr.mono (by first | decide | omega)) (by rfl) d_numbers_text.g d_numbers_text.kp d_numbers_text.b (fun σ => passAt tk σ) (pa_cons (pv 0) pa_nil))))) (fun a oe cls d pn hz hf => (pss_one (ps_asg (pe_and (pe_callB (call_isS List.mem_cons_self hz hf) (by rfl) nb.isinstance (by decide +kernel) (pa_cons (pv 2) (pa_cons (pe_cls (by rfl) c_FoldError.gC) pa_nil))) (pe_one (pe_not (pe_callB (call_isS List.mem_cons_self hz hf) (by rfl) nb.isinstance (by decide +kernel) (pa_cons (pv 2) (pa_cons (pe_cls (by rfl) c_NoTree.gC) pa_nil)))))) (pg_name (i := 1) sc.nd rfl (.inl rfl))))))
    (pss_one (ps_ret (pv 1))))), ?_⟩
    (rw [show start ["thing", "refused", "e"] [x] = [some (x), none, none] from rfl]; try dsimp only [cxOf])
    walk_at "v"
    refine key _ _ fun H1 S1 => ?_
    refine ⟨true, c_NoNumbers.te, fun _ a na => ?_, fun z => nomatch z⟩
    walk_at "v"
    refine ⟨.ref C_FoldError, .ref C_FoldError, true, C_NoNumbers, rfl, fun u r => r, rfl, xN, (fun dd e => nomatch e), k1, ?_⟩
    refine ⟨_, rfl, iteT ?_⟩
    walk_at "v"
    refine ⟨.ref C_NoTree, .ref C_NoTree, false, C_NoNumbers, rfl, fun u r => r, rfl, xN, (fun dd e => nomatch e), k2, ?_⟩
    walk_at "v"
    exact q _ S1
theorem ok_law_no_tree {f C_NoNumbers C_FoldError C_NoTree : Addr} {fd : FuncData} (F : Fun K "_law_no_tree" "_law_no_tree" s_law_no_tree f fd) (nb : Nb mg) (c_FoldError : GC mg "FoldError" C_FoldError) (c_NoTree : Ex0 P w K mg base "NoTree" C_NoTree) (c_NoNumbers : Ex0 P w K mg base "NoNumbers" C_NoNumbers) (xN : XCls K C_NoTree) (k1 : PySem.W.kitOne K (.ref C_NoTree) (.ref C_FoldError) = some true) (k2 : PySem.W.kitOne K (.ref C_NoTree) (.ref C_NoNumbers) = some false) (d_tree_text : Df P w K mg base (L2.CX P w) 15 "tree_text" ["tree"] (sp_ttext C_NoTree)) : FnOk P w K mg base CX0 16 f fd ["thing"] sp_notree := by
  have sc := sc_law_no_tree
  refine F.ok sc (fun vs H Q E h => ?_) (fun cdv A outer s H vs Q E hr h => ?_)
  · obtain ⟨sa, x, d, rfl, _⟩ := h
    rfl
  · obtain ⟨sa, x, d, rfl, tr, r0, ho, no, q⟩ := h
    refine ⟨_, (pss_cons (ps_asg pe_bl (pg_name (i := 1) sc.nd rfl (.inl rfl)))
    (pss_cons (ps_try_as (tb := fun W => (tDrop (tCallS (sp_ttext C_NoTree) (WE W) (tCons (tVar 0) tNil)))) (ts := fun a cls d => (tAsg (tAndV (tCB (rIsS K a cls d) (tCons (tVar 2) (tCons (tC (.ref C_FoldError)) tNil))) (tNotV (tCB (rIsS K a cls d) (tCons (tVar 2) (tCons (tC (.ref C_NoNumbers)) tNil))))) (gName 1))) rfl rfl sc.nd (i := 2) rfl rfl ⟨rfl, by decide, .inl c_NoTree.gC⟩ takes0 (fun W pn xe tk _ => (pss_one (ps_expr (pe_callS d_tree_text.F (hr.mono (by first | decide | omega)) (by rfl) d_tree_text.g d_tree_text.kp d_tree_text.b (fun σ => passAt tk σ) (pa_cons (pv 0) pa_nil))))) (fun a oe cls d pn hz hf => (pss_one (ps_asg (pe_and (pe_callB (call_isS List.mem_cons_self hz hf) (by rfl) nb.isinstance (by decide +kernel) (pa_cons (pv 2) (pa_cons (pe_cls (by rfl) c_FoldError.gC) pa_nil))) (pe_one (pe_not (pe_callB (call_isS List.mem_cons_self hz hf) (by rfl) nb.isinstance (by decide +kernel) (pa_cons (pv 2) (pa_cons (pe_cls (by rfl) c_NoNumbers.gC) pa_nil)))))) (pg_name (i := 1) sc.nd rfl (.inl rfl))))))
    (pss_one (ps_ret (pv 1))))), ?_⟩
    (rw [show start ["thing", "refused", "e"] [x] = [some (x), none, none] from rfl]; try dsimp only [cxOf])
    walk_at "v"
    refine ⟨sa, x, d, rfl, tr, r0, ho, fun t e h => absurd (no t e) (by omega), fun t e h => absurd (no t e) (by omega), fun _ H1 S1 => ?_⟩
    refine ⟨true, c_NoTree.te, fun _ a na => ?_, fun z => nomatch z⟩
    walk_at "v"
    refine ⟨.ref C_FoldError, .ref C_FoldError, true, C_NoTree, rfl, fun u r => r, rfl, xN, (fun dd e => nomatch e), k1, ?_⟩
    refine ⟨_, rfl, iteT ?_⟩
    walk_at "v"
    refine ⟨.ref C_NoNumbers, .ref C_NoNumbers, false, C_NoTree, rfl, fun u r => r, rfl, xN, (fun dd e => nomatch e), k2, ?_⟩
    walk_at "v"
    exact q _ S1
end

/-! ### the law's draws of texts and trees -/
theorem cutS_to {l : List Nat} {k : Nat} {i : Int} (e : i = (k : Int)) (h : k ≤ l.length) : cutS (SX.S l) none (some i) = SX.S (l.take k) := by
  subst e
  unfold cutS
  rw [SX.S_len, HT.sIx_none, HT.sIx_nat, Nat.min_eq_left h]
  refine congrArg SX.S ?_
  show (l.drop 0).take (k - 0) = _
  rw [List.drop_zero, Nat.sub_zero]
theorem cutS_fr {l : List Nat} {k : Nat} {i : Int} (e : i = (k : Int)) : cutS (SX.S l) (some i) none = SX.S (l.drop k) := by
  subst e
  unfold cutS
  rw [SX.S_len, HT.sIx_none, HT.sIx_nat]
  refine congrArg SX.S ?_
  show (l.drop (min k l.length)).take (l.length - min k l.length) = _
  rcases Nat.le_total k l.length with h | h
  · rw [Nat.min_eq_left h]
    exact List.take_of_length_le (by rw [List.length_drop]; omega)
  · rw [Nat.min_eq_right h, List.drop_length, List.drop_eq_nil_of_le h]
    exact List.take_nil
theorem cutS_md {l : List Nat} {k : Nat} {i j : Int} (e : i = (k : Int)) (e2 : j = (k : Int) + 1) (h : k ≤ l.length) : cutS (SX.S l) (some i) (some j) = SX.S ((l.drop k).take 1) := by
  subst e
  rw [show j = ((k + 1 : Nat) : Int) by omega]
  unfold cutS
  rw [SX.S_len, HT.sIx_nat, HT.sIx_nat, Nat.min_eq_left h]
  refine congrArg SX.S ?_
  show (l.drop k).take (min (k + 1) l.length - k) = _
  rcases Nat.lt_or_ge k l.length with h2 | h2
  · rw [Nat.min_eq_left (by omega), show k + 1 - k = 1 by omega]
  · rw [List.drop_eq_nil_of_le h2, List.take_nil, List.take_nil]
/-- a text that has at most one sign more -/
def NearT (l m : List Nat) : Prop := m.length ≤ l.length + 1 ∧ m.count 32 ≤ l.count 32 + 1
theorem near_parts {l : List Nat} (k : Nat) : (l.take k).length + (l.drop k).length = l.length ∧ (l.take k).count 32 + (l.drop k).count 32 = l.count 32 := by
  constructor
  · rw [← List.length_append, List.take_append_drop]
  · rw [← List.count_append, List.take_append_drop]
theorem near_drop {l : List Nat} (k : Nat) : (l.drop (k + 1)).length ≤ (l.drop k).length ∧ (l.drop (k + 1)).count 32 ≤ (l.drop k).count 32 := by
  have e : l.drop (k + 1) = (l.drop k).drop 1 := by rw [List.drop_drop]
  rw [e]
  exact ⟨(List.drop_sublist 1 _).length_le, (List.drop_sublist 1 _).count_le 32⟩
theorem count_one {c : Nat} : [c].count 32 ≤ 1 := List.count_le_length
theorem count_take1 {l : List Nat} : (l.take 1).length ≤ 1 ∧ (l.take 1).count 32 ≤ 1 := by
  have : (l.take 1).length ≤ 1 := by
    rw [List.length_take]
    exact Nat.min_le_left _ _
  exact ⟨this, Nat.le_trans List.count_le_length this⟩
abbrev sp_changed : Sp := fun vs H Q _ => ∃ (a : Addr) (l m : List Nat), vs = [.ref a, .str (SX.S l), .str (SX.S m)] ∧ Stm H a ∧ l.length ≤ 349000 ∧ m ≠ [] ∧ m.length ≤ 1000 ∧ ∀ H' l', But a H H' → Stm H' a → NearT l l' → Q (.str (SX.S l')) H'
abbrev sp_size : Sp := fun vs H Q _ => ∃ (a : Addr), vs = [.ref a] ∧ Stm H a ∧ ∀ H' (n : Nat), But a H H' → Stm H' a → n < 10 ^ 38 → Q (.int (n : Int)) H'
abbrev sp_tdrawn (k : Nat) : Sp := fun vs H Q _ => ∃ (a : Addr) (deep many : Int), vs = [.ref a, .int deep, .int many] ∧ Stm H a ∧ 1 ≤ deep ∧ deep ≤ (k : Int) ∧ -1000 ≤ many ∧ many ≤ 1000 ∧ ∀ H' x t, But a H H' → Stm H' a → Rp a H' x (trD t) → (t.dep : Int) ≤ deep → t.sm → Q x H'
theorem log_k {i : Int} (h : i.natAbs < 1048576) : i.natAbs.log2 < 9000 := Nat.lt_of_lt_of_le (PySem.Flt.log2_lt_of (k := 20) (by decide) h) (by decide)
theorem sl_s {l : List Nat} {a b : Option Int} {u : List Nat} {H : Hp} {Q : VK} (hl : l.length ≤ TB) (e : cutS (SX.S l) a b = SX.S u) (q : Q (.str (SX.S u)) H) : rSlS (.str (SX.S l)) a b H Q := ⟨SX.S l, rfl, by rw [SX.S_len]; exact sz_txt hl, by rw [e]; exact q⟩
section
variable {l : List Nat} {k : Nat} {σ : L2.St} {H : Hp} {Q : VK}
theorem sl_to (h1 : σ[1]? = some (some (.str (SX.S l)))) (h4 : σ[4]? = some (some (.int (k : Int)))) (hk : k ≤ l.length) (hl : l.length ≤ TB) (q : Q (.str (SX.S (l.take k))) H) : tSl rSlS (tVar 1) tNoPart (tPart (tVar 4)) σ H Q := ⟨_, h1, ⟨_, h4, ⟨_, rfl, sl_s hl (cutS_to rfl hk) q⟩⟩⟩
theorem sl_fr (h1 : σ[1]? = some (some (.str (SX.S l)))) (h4 : σ[4]? = some (some (.int (k : Int)))) (hl : l.length ≤ TB) (q : Q (.str (SX.S (l.drop k))) H) : tSl rSlS (tVar 1) (tPart (tVar 4)) tNoPart σ H Q := ⟨_, h1, ⟨_, h4, ⟨_, rfl, sl_s hl (cutS_fr rfl) q⟩⟩⟩
theorem sl_fr1 (h1 : σ[1]? = some (some (.str (SX.S l)))) (h4 : σ[4]? = some (some (.int (k : Int)))) (hl : l.length ≤ TB) (q : Q (.str (SX.S (l.drop (k + 1)))) H) : tSl rSlS (tVar 1) (tPart (tOp (rI0 fun i j => V.int (i + j)) (tVar 4) (tC (V.int 1)))) tNoPart σ H Q := ⟨_, h1, ⟨_, h4, ⟨_, _, rfl, rfl, ⟨_, rfl, sl_s hl (cutS_fr (k := k + 1) (by omega)) q⟩⟩⟩⟩
theorem sl_md (h1 : σ[1]? = some (some (.str (SX.S l)))) (h4 : σ[4]? = some (some (.int (k : Int)))) (hk : k ≤ l.length) (hl : l.length ≤ TB) (q : Q (.str (SX.S ((l.drop k).take 1))) H) : tSl rSlS (tVar 1) (tPart (tVar 4)) (tPart (tOp (rI0 fun i j => V.int (i + j)) (tVar 4) (tC (V.int 1)))) σ H Q := ⟨_, h1, ⟨_, h4, ⟨_, rfl, ⟨_, h4, ⟨_, _, rfl, rfl, ⟨_, rfl, sl_s hl (cutS_md rfl rfl hk) q⟩⟩⟩⟩⟩⟩
end
section
variable {P : Program} {w : World} {K : PySem.W.Frag} {mg : Str → Option Value} {base : Heap}
theorem ok_law_changed {f : Addr} {fd : FuncData} (F : Fun K "_law_changed" "_law_changed" s_law_changed f fd) (nb : Nb mg) (d_law_take : Df P w K mg base CX0 2 "_law_take" ["stream", "many"] sp_take) : FnOk P w K mg base CX0 3 f fd ["stream", "text", "most"] sp_changed := by
  have sc := sc_law_changed
  refine F.ok sc (fun vs H Q E h => ?_) (fun cdv A outer s H vs Q E hr h => ?_)
  · obtain ⟨a, l, m, rfl, _⟩ := h
    rfl
  · obtain ⟨a, l, m, rfl, st, hl, hm, lm, q⟩ := h
    refine ⟨_, (pss_cons (ps_asg (pe_call d_law_take.F (hr.mono (by first | decide | omega)) (by rfl) d_law_take.g d_law_take.kp d_law_take.b .nil pass0 (pa_cons (pv 0) (pa_cons pe_int pa_nil))) (pg_name (i := 3) sc.nd rfl (.inl rfl)))
    (pss_cons (ps_asg (pe_call d_law_take.F (hr.mono (by first | decide | omega)) (by rfl) d_law_take.g d_law_take.kp d_law_take.b .nil pass0 (pa_cons (pv 0) (pa_cons (pe_op op_add (pe_callB cq_lenS (by rfl) nb.len (by decide +kernel) (pa_cons (pv 1) pa_nil)) pe_int) pa_nil))) (pg_name (i := 4) sc.nd rfl (.inl rfl)))
    (pss_cons (ps_asg (pe_ix ix_str (pv 2) (pe_call d_law_take.F (hr.mono (by first | decide | omega)) (by rfl) d_law_take.g d_law_take.kp d_law_take.b .nil pass0 (pa_cons (pv 0) (pa_cons (pe_callB cq_lenS (by rfl) nb.len (by decide +kernel) (pa_cons (pv 2) pa_nil)) pa_nil))) (fun _ _ => rfl)) (pg_name (i := 5) sc.nd rfl (.inl rfl)))
    (pss_cons (ps_if (pt_cmpR op_eq (pv 3) pe_int (nomark _)) (pss_one (ps_ret (pe_op op_add_str (pe_slice sl_str (pv 1) po_none (po_some (pv 4))) (pe_slice sl_str (pv 1) (po_some (pe_op op_add (pv 4) pe_int)) po_none)))) pss_nil)
    (pss_cons (ps_if (pt_cmpR op_eq (pv 3) pe_int (nomark _)) (pss_one (ps_ret (pe_op op_add_str (pe_op op_add_str (pe_slice sl_str (pv 1) po_none (po_some (pv 4))) (pv 5)) (pe_slice sl_str (pv 1) (po_some (pe_op op_add (pv 4) pe_int)) po_none)))) pss_nil)
    (pss_cons (ps_if (pt_cmpR op_eq (pv 3) pe_int (nomark _)) (pss_one (ps_ret (pe_op op_add_str (pe_op op_add_str (pe_slice sl_str (pv 1) po_none (po_some (pv 4))) (pe_slice sl_str (pv 1) (po_some (pv 4)) (po_some (pe_op op_add (pv 4) pe_int)))) (pe_slice sl_str (pv 1) (po_some (pv 4)) po_none)))) pss_nil)
    (pss_cons (ps_if (pt_cmpR op_eq (pv 3) pe_int (nomark _)) (pss_one (ps_ret (pe_slice sl_str (pv 1) po_none (po_some (pv 4))))) pss_nil)
    (pss_one (ps_ret (pe_op op_add_str (pe_op op_add_str (pe_slice sl_str (pv 1) po_none (po_some (pv 4))) (pv 5)) (pe_slice sl_str (pv 1) (po_some (pv 4)) po_none))))))))))), ?_⟩
    (rw [show start ["stream", "text", "most", "kind", "at", "sign"] [.ref a, .str (SX.S l), .str (SX.S m)] = [some (.ref a), some (.str (SX.S l)), some (.str (SX.S m)), none, none, none] from rfl]; try dsimp only [cxOf])
    have W := wd_startS st .nil
    have hlT : l.length ≤ TB := Nat.le_trans hl (by decide)
    have hmT : m.length ≤ TB := Nat.le_trans lm (by decide)
    have m1 := List.length_pos_iff.mpr hm
    walk_at "v"
    rename_i kd W1 k0 k1
    refine len_s hlT ?_
    walk_at "v"
    refine call_tk W1 (by omega) (log_k (by omega)) fun H2 i W2 i0 i1 => ?_
    walk_at "v"
    refine len_s hmT ?_
    walk_at "v"
    refine call_tk W2 (by omega) (log_k (by omega)) fun H3 j W3 j0 j1 => ?_
    obtain ⟨k, rfl⟩ : ∃ k : Nat, i = (k : Int) := ⟨i.toNat, by omega⟩
    have hk : k ≤ l.length := by omega
    obtain ⟨jn, rfl⟩ : ∃ k : Nat, j = (k : Int) := ⟨j.toNat, by omega⟩
    have fin : ∀ l', NearT l l' → Q (.str (SX.S l')) H3 := fun l' n => q _ _ W3.but (W3.st rfl) n
    have hj : jn < m.length := by omega
    refine ⟨SX.S m, (jn : Int), m[jn]'hj, rfl, rfl, by rw [SX.S_len]; exact sz_txt hmT, atI_nat (List.getElem?_eq_getElem hj), ?_⟩
    generalize m[jn]'hj = c
    obtain ⟨p1, p2⟩ := near_parts (l := l) k
    obtain ⟨p3, p4⟩ := near_drop (l := l) k
    have p5 := count_one (c := c)
    obtain ⟨p6, p7⟩ := count_take1 (l := l.drop k)
    have sz : ∀ u v : List Nat, u.length ≤ 349002 → v.length ≤ 349002 → (SX.S u).length + (SX.S v).length ≤ sizeLine := fun u v hu hv => by
      rw [SX.S_len, SX.S_len]
      exact Nat.le_trans (Nat.add_le_add hu hv) (by decide)
    have lc : ([c] : List Nat).length = 1 := rfl
    walk_at "v"
    refine w_ifd (fun h => ?_) (fun h => ?_)
    · walk_at "v"
      refine sl_to rfl rfl hk hlT ?_
      refine sl_fr1 rfl rfl hlT ?_
      refine ⟨_, _, rfl, rfl, sz _ _ (by omega) (by omega), ?_⟩
      rw [SX.S_cat]
      exact fin _ ⟨by rw [List.length_append]; omega, by rw [List.count_append]; omega⟩
    · walk_at "v"
      refine w_ifd (fun h2 => ?_) (fun h2 => ?_)
      · walk_at "v"
        refine sl_to rfl rfl hk hlT ?_
        walk_at "v"
        refine ⟨SX.S (l.take k), SX.S [c], rfl, rfl, sz _ _ (by omega) (by omega), ?_⟩
        rw [SX.S_cat]
        refine sl_fr1 rfl rfl hlT ?_
        refine ⟨_, _, rfl, rfl, sz _ _ (by rw [List.length_append]; omega) (by omega), ?_⟩
        rw [SX.S_cat]
        exact fin _ ⟨by rw [List.length_append, List.length_append]; omega, by rw [List.count_append, List.count_append]; omega⟩
      · walk_at "v"
        refine w_ifd (fun h3 => ?_) (fun h3 => ?_)
        · walk_at "v"
          refine sl_to rfl rfl hk hlT ?_
          refine sl_md rfl rfl hk hlT ?_
          refine ⟨_, _, rfl, rfl, sz _ _ (by omega) (by omega), ?_⟩
          rw [SX.S_cat]
          refine sl_fr rfl rfl hlT ?_
          refine ⟨_, _, rfl, rfl, sz _ _ (by rw [List.length_append]; omega) (by omega), ?_⟩
          rw [SX.S_cat]
          exact fin _ ⟨by rw [List.length_append, List.length_append]; omega, by rw [List.count_append, List.count_append]; omega⟩
        · walk_at "v"
          refine w_ifd (fun h4 => ?_) (fun h4 => ?_)
          · walk_at "v"
            refine sl_to rfl rfl hk hlT ?_
            exact fin _ ⟨by omega, by omega⟩
          · walk_at "v"
            refine sl_to rfl rfl hk hlT ?_
            walk_at "v"
            refine ⟨SX.S (l.take k), SX.S [c], rfl, rfl, sz _ _ (by omega) (by omega), ?_⟩
            rw [SX.S_cat]
            refine sl_fr rfl rfl hlT ?_
            refine ⟨_, _, rfl, rfl, sz _ _ (by rw [List.length_append]; omega) (by omega), ?_⟩
            rw [SX.S_cat]
            exact fin _ ⟨by rw [List.length_append, List.length_append]; omega, by rw [List.count_append, List.count_append]; omega⟩
theorem ok_law_size_drawn {f : Addr} {fd : FuncData} (F : Fun K "_law_size_drawn" "_law_size_drawn" s_law_size_drawn f fd) (nb : Nb mg) (d_law_take : Df P w K mg base CX0 2 "_law_take" ["stream", "many"] sp_take) : FnOk P w K mg base CX0 3 f fd ["stream"] sp_size := by
  have sc := sc_law_size_drawn
  refine F.ok sc (fun vs H Q E h => ?_) (fun cdv A outer s H vs Q E hr h => ?_)
  · obtain ⟨a, rfl, _⟩ := h
    rfl
  · obtain ⟨a, rfl, st, q⟩ := h
    refine ⟨_, (pss_one (ps_ret (pe_call d_law_take.F (hr.mono (by first | decide | omega)) (by rfl) d_law_take.g d_law_take.kp d_law_take.b .nil pass0 (pa_cons (pv 0) (pa_cons (pe_ix ix_list (pe_lst (pa_cons pe_int (pa_cons pe_int (pa_cons pe_int (pa_cons (pe_op op_pow pe_int pe_int) pa_nil))))) (pe_call d_law_take.F (hr.mono (by first | decide | omega)) (by rfl) d_law_take.g d_law_take.kp d_law_take.b .nil pass0 (pa_cons (pv 0) (pa_cons pe_int pa_nil))) (fun _ _ => rfl)) pa_nil))))), ?_⟩
    (rw [show start ["stream"] [.ref a] = [some (.ref a)] from rfl]; try dsimp only [cxOf])
    have W := wd_startS st .nil
    walk_at "v"
    rw [show (10 : Int) ^ Int.toNat 38 = 100000000000000000000000000000000000000 by decide]
    refine n_lst W (ds := [.int 10, .int 10, .int 1000, .int 100000000000000000000000000000000000000]) (.cons (.int _) (.cons (.int _) (.cons (.int _) (.cons (.int _) .nil)))) rfl fun H1 p W1 => ?_
    walk_at "v"
    rename_i H2 d W2 d0 d1
    have fin : ∀ H3 (e : Int), Wd true a H H3 [.ref p] [.list [.int 10, .int 10, .int 1000, .int 100000000000000000000000000000000000000]] → 0 ≤ e → e < 100000000000000000000000000000000000000 → Q (.int e) H3 := fun H3 e W3 e0 e1 => by
      have := q H3 e.toNat W3.but (W3.st rfl) (show e.toNat < 100000000000000000000000000000000000000 by omega)
      rw [Int.toNat_of_nonneg e0] at this
      exact this
    rcases (show d = 0 ∨ d = 1 ∨ d = 2 ∨ d = 3 by omega) with rfl | rfl | rfl | rfl
    · walk_at "v"
      exact fin _ _ (by assumption) (by omega) (by omega)
    · walk_at "v"
      exact fin _ _ (by assumption) (by omega) (by omega)
    · walk_at "v"
      exact fin _ _ (by assumption) (by omega) (by omega)
    · walk_at "v"
      exact fin _ _ (by assumption) (by omega) (by omega)
theorem e3840 {n : Nat} (h : n < 10 ^ 38) : n < 10 ^ 40 := Nat.lt_trans h (by decide)
theorem st_law_tree_drawn {n : Nat} {f : Addr} {fd : FuncData} (F : Fun K "_law_tree_drawn" "_law_tree_drawn" s_law_tree_drawn f fd) (nb : Nb mg) (d_law_take : Df P w K mg base CX0 2 "_law_take" ["stream", "many"] sp_take) (d_law_size_drawn : Df P w K mg base CX0 3 "_law_size_drawn" ["stream"] sp_size) (d_law_tree_drawn : Df P w K mg base CX0 (n + 3) "_law_tree_drawn" ["stream", "deep", "many"] (sp_tdrawn n)) : FnOk P w K mg base CX0 (n + 4) f fd ["stream", "deep", "many"] (sp_tdrawn (n + 1)) := by
  have sc := sc_law_tree_drawn
  refine F.ok sc (fun vs H Q E h => ?_) (fun cdv A outer s H vs Q E hr h => ?_)
  · obtain ⟨a, deep, many, rfl, _⟩ := h
    rfl
  · obtain ⟨a, deep, many, rfl, st, d1, dn, m0, m1, q⟩ := h
    refine ⟨_, (pss_cons (ps_asg (pe_call d_law_take.F (hr.mono (by first | decide | omega)) (by rfl) d_law_take.g d_law_take.kp d_law_take.b .nil pass0 (pa_cons (pv 0) (pa_cons pe_int pa_nil))) (pg_name (i := 3) sc.nd rfl (.inl rfl)))
    (pss_cons (ps_asg (pe_call d_law_size_drawn.F (hr.mono (by first | decide | omega)) (by rfl) d_law_size_drawn.g d_law_size_drawn.kp d_law_size_drawn.b .nil pass0 (pa_cons (pv 0) pa_nil)) (pg_name (i := 4) sc.nd rfl (.inl rfl)))
    (pss_cons (ps_if (PW.pt (pw_or (pt_cmpR op_le (pv 1) pe_int (nomark _)) (pw_or1 (pt_cmpR op_lt (pv 2) pe_int (nomark _))))) (pss_one (ps_ret (pe_ix ix_list (pe_lst (pa_cons (pe_tup (pa_cons pe_str pa_nil)) (pa_cons (pe_tup (pa_cons pe_str (pa_cons (pv 4) pa_nil))) (pa_cons (pe_tup (pa_cons pe_str (pa_cons (pe_op op_mod (pe_callTy cq_int (by rfl) nb.int (by decide +kernel) (pa_cons (pv 4) pa_nil)) pe_int) pa_nil))) (pa_cons (pe_tup (pa_cons pe_str pa_nil)) pa_nil))))) (pv 3) (fun _ _ => rfl)))) pss_nil)
    (pss_cons (ps_if (pt_cmpR op_lt (pv 3) pe_int (nomark _)) (pss_one (ps_ret (pe_tup (pa_cons pe_str (pa_cons (pv 4) (pa_cons (pe_call d_law_tree_drawn.F (hr.mono (by first | decide | omega)) (by rfl) d_law_tree_drawn.g d_law_tree_drawn.kp d_law_tree_drawn.b .nil pass0 (pa_cons (pv 0) (pa_cons (pe_op op_sub (pv 1) pe_int) (pa_cons pe_int pa_nil)))) (pa_cons (pe_call d_law_tree_drawn.F (hr.mono (by first | decide | omega)) (by rfl) d_law_tree_drawn.g d_law_tree_drawn.kp d_law_tree_drawn.b .nil pass0 (pa_cons (pv 0) (pa_cons (pe_op op_sub (pv 1) pe_int) (pa_cons (pe_op op_sub (pv 2) pe_int) pa_nil)))) pa_nil))))))) pss_nil)
    (pss_cons (ps_if (pt_cmpR op_eq (pv 3) pe_int (nomark _)) (pss_one (ps_ret (pe_tup (pa_cons pe_str (pa_cons (pv 4) (pa_cons (pe_call d_law_tree_drawn.F (hr.mono (by first | decide | omega)) (by rfl) d_law_tree_drawn.g d_law_tree_drawn.kp d_law_tree_drawn.b .nil pass0 (pa_cons (pv 0) (pa_cons (pe_op op_sub (pv 1) pe_int) (pa_cons (pe_op op_sub (pv 2) pe_int) pa_nil)))) (pa_cons (pe_call d_law_tree_drawn.F (hr.mono (by first | decide | omega)) (by rfl) d_law_tree_drawn.g d_law_tree_drawn.kp d_law_tree_drawn.b .nil pass0 (pa_cons (pv 0) (pa_cons (pe_op op_sub (pv 1) pe_int) (pa_cons pe_int pa_nil)))) pa_nil))))))) pss_nil)
    (pss_cons (ps_asg (pe_op op_fdivW (pv 2) pe_int) (pg_name (i := 5) sc.nd rfl (.inl rfl)))
    (pss_one (ps_ret (pe_tup (pa_cons pe_str (pa_cons (pv 4) (pa_cons (pe_call d_law_tree_drawn.F (hr.mono (by first | decide | omega)) (by rfl) d_law_tree_drawn.g d_law_tree_drawn.kp d_law_tree_drawn.b .nil pass0 (pa_cons (pv 0) (pa_cons (pe_op op_sub (pv 1) pe_int) (pa_cons (pv 5) pa_nil)))) (pa_cons (pe_call d_law_tree_drawn.F (hr.mono (by first | decide | omega)) (by rfl) d_law_tree_drawn.g d_law_tree_drawn.kp d_law_tree_drawn.b .nil pass0 (pa_cons (pv 0) (pa_cons (pe_op op_sub (pv 1) pe_int) (pa_cons (pe_op op_sub (pv 2) (pv 5)) pa_nil)))) pa_nil))))))))))))), ?_⟩
    (rw [show start ["stream", "deep", "many", "kind", "number", "half"] [.ref a, .int deep, .int many] = [some (.ref a), some (.int deep), some (.int many), none, none, none] from rfl]; try dsimp only [cxOf])
    have W := wd_startS st .nil
    walk_at "v"
    rename_i H1 kd W1 k0 k1
    refine ⟨a, rfl, W1.st rfl, fun H2 num B2 st2 hnum => ?_⟩
    have W2 := W1.draw B2 st2
    have hnum := e3840 hnum
    walk_at "v"
    by_cases hl : deep ≤ 1 ∨ many < 2
    · by_cases h1 : deep ≤ 1
      all_goals first
        | (refine w_ifd (fun _ => ?_) (fun h => absurd h1 h))
        | (refine w_ifd (fun h => absurd h h1) (fun _ => ?_); walk_at "v"; refine w_ifd (fun _ => ?_) (fun h => absurd (show many < 2 by omega) h))
      all_goals (
        walk_at "v"
        apply n_lst
        assumption
        walk_at "rps"
        rfl
        intro H9 q9 W9
        walk_at "v"
        rcases (show kd = 0 ∨ kd = 1 ∨ kd = 2 ∨ kd = 3 by omega) with rfl | rfl | rfl | rfl
        · walk_at "v"
          rename_i W11
          exact q _ _ .leaf W11.but (W11.st rfl) (W11.get .here) d1 trivial
        · walk_at "v"
          rename_i W11
          exact q _ _ (.mot num) W11.but (W11.st rfl) (W11.get .here) d1 hnum
        · walk_at "v"
          rename_i W11
          exact q _ _ (.mot (num % 3)) W11.but (W11.st rfl) (W11.get .here) d1 (Nat.lt_of_le_of_lt (Nat.mod_le _ _) hnum)
        · walk_at "v"
          rename_i W11
          exact q _ _ .leaf W11.but (W11.st rfl) (W11.get .here) d1 trivial)
    · refine w_ifd (fun h => absurd (.inl h) hl) (fun _ => ?_)
      walk_at "v"
      refine w_ifd (fun h => absurd (.inr h) hl) (fun _ => ?_)
      walk_at "v"
      refine w_ifd (fun h2 => ?_) (fun h2 => ?_)
      · walk_at "v"
        refine ⟨a, deep - 1, 1, rfl, W2.st rfl, by omega, by omega, by omega, by omega, fun H3 x3 t1 B3 st3 r3 e3 s3 => ?_⟩
        have W3 := (W2.draw B3 st3).put r3
        walk_at "v"
        refine ⟨a, deep - 1, many - 1, rfl, W3.st rfl, by omega, by omega, by omega, by omega, fun H4 x4 t2 B4 st4 r4 e4 s4 => ?_⟩
        have W4 := (W3.draw B4 st4).put r4
        walk_at "v"
        rename_i W5
        exact q _ _ (.spl num t1 t2) W5.but (W5.st rfl) (W5.get .here) (by simp only [Tr.dep]; omega) ⟨hnum, s3, s4⟩
      · walk_at "v"
        refine w_ifd (fun h3 => ?_) (fun h3 => ?_)
        · walk_at "v"
          refine ⟨a, deep - 1, many - 1, rfl, W2.st rfl, by omega, by omega, by omega, by omega, fun H3 x3 t1 B3 st3 r3 e3 s3 => ?_⟩
          have W3 := (W2.draw B3 st3).put r3
          walk_at "v"
          refine ⟨a, deep - 1, 1, rfl, W3.st rfl, by omega, by omega, by omega, by omega, fun H4 x4 t2 B4 st4 r4 e4 s4 => ?_⟩
          have W4 := (W3.draw B4 st4).put r4
          walk_at "v"
          rename_i W5
          exact q _ _ (.spl num t1 t2) W5.but (W5.st rfl) (W5.get .here) (by simp only [Tr.dep]; omega) ⟨hnum, s3, s4⟩
        · walk_at "v"
          refine ⟨a, deep - 1, many / 2, rfl, W2.st rfl, by omega, by omega, by omega, by omega, fun H3 x3 t1 B3 st3 r3 e3 s3 => ?_⟩
          have W3 := (W2.draw B3 st3).put r3
          walk_at "v"
          refine ⟨a, deep - 1, many - many / 2, rfl, W3.st rfl, by omega, by omega, by omega, by omega, fun H4 x4 t2 B4 st4 r4 e4 s4 => ?_⟩
          have W4 := (W3.draw B4 st4).put r4
          walk_at "v"
          rename_i W5
          exact q _ _ (.spl num t1 t2) W5.but (W5.st rfl) (W5.get .here) (by simp only [Tr.dep]; omega) ⟨hnum, s3, s4⟩
def rec_law_tree_drawn {f : Addr} {fd : FuncData} (F : Fun K "_law_tree_drawn" "_law_tree_drawn" s_law_tree_drawn f fd) (nb : Nb mg) (d_law_take : Df P w K mg base CX0 2 "_law_take" ["stream", "many"] sp_take) (d_law_size_drawn : Df P w K mg base CX0 3 "_law_size_drawn" ["stream"] sp_size) (gm : mg "_law_tree_drawn" = some (.ref f)) (gk : PySem.W.keepIn K (.ref f) = true) (gb : Binds K fd ["stream", "deep", "many"] []) : ∀ n, Df P w K mg base CX0 (n + 3) "_law_tree_drawn" ["stream", "deep", "many"] (sp_tdrawn n)
  | 0 => ⟨f, fd, gm, gk, gb, ⟨fun _ _ _ _ ⟨_, _, _, h, _⟩ => (by rw [h]; exact rfl), by
    intro A outer s H args us vs Q E _ _ _ _ h
    obtain ⟨_, _, _, _, _, h1, h2, _⟩ := h
    omega⟩⟩
  | n + 1 => ⟨f, fd, gm, gk, gb, st_law_tree_drawn F nb d_law_take d_law_size_drawn (rec_law_tree_drawn F nb d_law_take d_law_size_drawn gm gk gb n)⟩
theorem ok_law_tree_drawn {f : Addr} {fd : FuncData} (F : Fun K "_law_tree_drawn" "_law_tree_drawn" s_law_tree_drawn f fd) (nb : Nb mg) (d_law_take : Df P w K mg base CX0 2 "_law_take" ["stream", "many"] sp_take) (d_law_size_drawn : Df P w K mg base CX0 3 "_law_size_drawn" ["stream"] sp_size) (gm : mg "_law_tree_drawn" = some (.ref f)) (gk : PySem.W.keepIn K (.ref f) = true) (gb : Binds K fd ["stream", "deep", "many"] []) : FnOk P w K mg base CX0 15 f fd ["stream", "deep", "many"] (sp_tdrawn 12) := by
  exact st_law_tree_drawn F nb d_law_take d_law_size_drawn (rec_law_tree_drawn F nb d_law_take d_law_size_drawn gm gk gb 11)
end

/-! ### the law's texts of trees, its test of trees -/
theorem tr_lay : ∀ t : Tr, PyData.canLay0 (trD t) = true ∧ PyData.depth (trD t) ≤ t.dep + 1 ∧ noDict (trD t) = true
  | .leaf => ⟨by decide +kernel, by simp [trD, PyData.depth, PyData.depthAll, Tr.dep], rfl⟩
  | .mot n => ⟨by
      show (PyData.canLay0 (.str "motion") && (true && true)) = true
      decide +kernel, by simp [trD, PyData.depth, PyData.depthAll, Tr.dep], rfl⟩
  | .spl n a b => by
    obtain ⟨a1, a2, a3⟩ := tr_lay a
    obtain ⟨b1, b2, b3⟩ := tr_lay b
    refine ⟨?_, ?_, ?_⟩
    · show (PyData.canLay0 (.str "split") && (true && (PyData.canLay0 (trD a) && (PyData.canLay0 (trD b) && true)))) = true
      rw [a1, b1]
      decide +kernel
    · simp only [trD, PyData.depth, PyData.depthAll, Tr.dep]
      omega
    · show (true && (true && (noDict (trD a) && (noDict (trD b) && true)))) = true
      rw [a3, b3]
      rfl
theorem tr_shaped {t : Tr} (h : t.dep ≤ 60) : SeqAt.shaped (trD t) = true := by
  obtain ⟨a, b, _⟩ := tr_lay t
  unfold SeqAt.shaped
  rw [a, Bool.true_and, decide_eq_true_iff]
  omega
theorem eqv_tr {t : Tr} : PyData.eqv (trD t) (.tuple [.str "leaf"]) = (match t with | .leaf => true | _ => false) := by
  cases t <;> rfl
theorem leaf_shaped : SeqAt.shaped (.tuple [.str "leaf"]) = true := by decide +kernel
theorem eq_sy {x y : Str} {H : Hp} {Q : VK} (h : x = y) (q : Q (.bl true) H) : rEq (.str x) (.str y) H Q := ⟨rfl, by rw [decide_eq_true (by rw [h])]; exact q⟩
theorem eq_sn {x y : Str} {H : Hp} {Q : VK} (h : x ≠ y) (q : Q (.bl false) H) : rEq (.str x) (.str y) H Q := ⟨rfl, by rw [decide_eq_false (fun z => h (by injection z))]; exact q⟩
theorem ne_sy {x y : Str} {H : Hp} {Q : VK} (h : x = y) (q : Q (.bl false) H) : rNe (.str x) (.str y) H Q := ⟨rfl, by rw [decide_eq_true (by rw [h])]; exact q⟩
theorem ne_sn {x y : Str} {H : Hp} {Q : VK} (h : x ≠ y) (q : Q (.bl true) H) : rNe (.str x) (.str y) H Q := ⟨rfl, by rw [decide_eq_false (fun z => h (by injection z))]; exact q⟩
theorem cat2 {x y : Str} {u v : List Nat} (hx : x = SX.S u) (hy : y = SX.S v) (hu : u.length ≤ TB) (hv : v.length ≤ TB) : x.length + y.length ≤ sizeLine ∧ x ++ y = SX.S (u ++ v) := by
  subst hx hy
  rw [SX.S_len, SX.S_len, SX.S_cat]
  exact ⟨Nat.le_trans (Nat.add_le_add hu hv) (by decide), rfl⟩
theorem strN (n : Nat) : (toString (n : Int) : Str) = SX.S (TL.numL n) := by rw [strI, intL_pos]
abbrev sp_listree (n : Nat) : Sp := fun vs H Q _ => ∃ (sa : Addr) (x : V) (t : Tr), vs = [x] ∧ (∃ o, H sa = some o) ∧ Rp sa H x (trD t) ∧ t.dep ≤ n ∧ ∀ H', Same H H' → Q (.bl true) H'
section
variable {P : Program} {w : World} {K : PySem.W.Frag} {mg : Str → Option Value} {base : Heap}
theorem st_law_tree_word {n : Nat} (hn : n ≤ 12) {f : Addr} {fd : FuncData} (F : Fun K "_law_tree_word" "_law_tree_word" s_law_tree_word f fd) (nb : Nb mg) (d_law_tree_word : Df P w K mg base CX0 n "_law_tree_word" ["tree"] (sp_wtree n)) : FnOk P w K mg base CX0 (n + 1) f fd ["tree"] (sp_wtree (n + 1)) := by
  have sc := sc_law_tree_word
  refine F.ok sc (fun vs H Q E h => ?_) (fun cdv A outer s H vs Q E hr h => ?_)
  · obtain ⟨sa, x, d, rfl, _⟩ := h
    rfl
  · obtain ⟨sa, x, t, rfl, tr, r0, hd, hs, q⟩ := h
    refine ⟨_, (pss_cons (ps_if (pt_cmpR op_eq (pe_ix ix_tup (pv 0) pe_int (fun _ _ => rfl)) pe_str (nomark _)) (pss_one (ps_ret pe_str)) pss_nil)
    (pss_cons (ps_if (pt_cmpR op_eq (pe_ix ix_tup (pv 0) pe_int (fun _ _ => rfl)) pe_str (nomark _)) (pss_one (ps_ret (pe_callTy cq_strI (by rfl) nb.str (by decide +kernel) (pa_cons (pe_ix ix_tup (pv 0) pe_int (fun _ _ => rfl)) pa_nil)))) pss_nil)
    (pss_one (ps_ret (pe_op op_add_str (pe_op op_add_str (pe_op op_add_str (pe_op op_add_str (pe_op op_add_str (pe_op op_add_str pe_str (pe_callTy cq_strI (by rfl) nb.str (by decide +kernel) (pa_cons (pe_ix ix_tup (pv 0) pe_int (fun _ _ => rfl)) pa_nil))) pe_str) (pe_call d_law_tree_word.F (hr.mono (by first | decide | omega)) (by rfl) d_law_tree_word.g d_law_tree_word.kp d_law_tree_word.b .nil pass0 (pa_cons (pe_ix ix_tup (pv 0) pe_int (fun _ _ => rfl)) pa_nil))) pe_str) (pe_call d_law_tree_word.F (hr.mono (by first | decide | omega)) (by rfl) d_law_tree_word.g d_law_tree_word.kp d_law_tree_word.b .nil pass0 (pa_cons (pe_ix ix_tup (pv 0) pe_int (fun _ _ => rfl)) pa_nil))) pe_str))))), ?_⟩
    (rw [show start ["tree"] [x] = [some (x)] from rfl]; try dsimp only [cxOf])
    have W := wd_start tr (.cons r0 .nil)
    cases t with
    | leaf =>
      obtain ⟨p, rfl⟩ := rp_ref r0
      have W : Wd false sa H H [.ref p] [.tuple [.str "leaf"]] := W
      walk_at "v"
      refine eq_sy rfl ?_
      walk_at "v"
      exact q _ (Same.refl _)
    | mot m =>
      obtain ⟨p, rfl⟩ := rp_ref r0
      have W : Wd false sa H H [.ref p] [.tuple [.str "motion", .int (m : Int)]] := W
      walk_at "v"
      refine eq_sn (by decide) ?_
      walk_at "v"
      refine eq_sy rfl ?_
      walk_at "v"
      refine ⟨(m : Int), rfl, log_60 (sm_log hs), ?_⟩
      rw [strN]
      exact q _ (Same.refl _)
    | spl m t1 t2 =>
      obtain ⟨p, rfl⟩ := rp_ref r0
      have W : Wd false sa H H [.ref p] [.tuple [.str "split", .int (m : Int), trD t1, trD t2]] := W
      simp only [Tr.dep] at hd
      have l1 := trL_TB (t := t1) (k := n) (by omega) (by omega) hs.2.1
      have l2 := trL_TB (t := t2) (k := n) (by omega) (by omega) hs.2.2
      have l0 := num_len40 hs.1
      have eTB : TB = 350000 := rfl
      walk_at "v"
      refine eq_sn (by decide) ?_
      walk_at "v"
      refine eq_sn (by decide) ?_
      walk_at "v"
      refine ⟨(m : Int), rfl, log_60 (sm_log hs.1), ?_⟩
      have c1 := cat2 (x := "(") (u := [40]) (by decide) (strN m) (by decide) (by omega)
      refine ⟨_, _, rfl, rfl, c1.1, ?_⟩
      rw [c1.2]
      walk_at "v"
      have c2 := cat2 (y := " ") (v := [32]) (u := [40] ++ TL.numL m) rfl (by decide) (by simp only [List.length_append, List.length_cons, List.length_nil]; omega) (by decide)
      refine ⟨_, _, rfl, rfl, c2.1, ?_⟩
      rw [c2.2]
      walk_at "v"
      rename_i x2 W2
      refine ⟨sa, x2, t1, rfl, W2.tr, W2.get .here, by omega, hs.2.1, fun H3 S3 => ?_⟩
      have W3 := W2.go S3
      have c3 := cat2 (u := [40] ++ TL.numL m ++ [32]) (v := trL t1) rfl rfl (by simp only [List.length_append, List.length_cons, List.length_nil]; omega) (by omega)
      refine ⟨_, _, rfl, rfl, c3.1, ?_⟩
      rw [c3.2]
      walk_at "v"
      have c4 := cat2 (y := " ") (v := [32]) (u := [40] ++ TL.numL m ++ [32] ++ trL t1) rfl (by decide) (by simp only [List.length_append, List.length_cons, List.length_nil]; omega) (by decide)
      refine ⟨_, _, rfl, rfl, c4.1, ?_⟩
      rw [c4.2]
      walk_at "v"
      rename_i x4 W4
      refine ⟨sa, x4, t2, rfl, W4.tr, W4.get .here, by omega, hs.2.2, fun H5 S5 => ?_⟩
      have W5 := W4.go S5
      have c5 := cat2 (u := [40] ++ TL.numL m ++ [32] ++ trL t1 ++ [32]) (v := trL t2) rfl rfl (by simp only [List.length_append, List.length_cons, List.length_nil]; omega) (by omega)
      refine ⟨_, _, rfl, rfl, c5.1, ?_⟩
      rw [c5.2]
      walk_at "v"
      have c6 := cat2 (y := ")") (v := [41]) (u := [40] ++ TL.numL m ++ [32] ++ trL t1 ++ [32] ++ trL t2) rfl (by decide) (by simp only [List.length_append, List.length_cons, List.length_nil]; omega) (by decide)
      refine ⟨_, _, rfl, rfl, c6.1, ?_⟩
      rw [c6.2]
      have e : [40] ++ TL.numL m ++ [32] ++ trL t1 ++ [32] ++ trL t2 ++ [41] = trL (.spl m t1 t2) := by simp [trL]
      rw [e]
      exact q _ (W5.same rfl)
def rec_law_tree_word {f : Addr} {fd : FuncData} (F : Fun K "_law_tree_word" "_law_tree_word" s_law_tree_word f fd) (nb : Nb mg) (gm : mg "_law_tree_word" = some (.ref f)) (gk : PySem.W.keepIn K (.ref f) = true) (gb : Binds K fd ["tree"] []) : ∀ n, n ≤ 13 → Df P w K mg base CX0 n "_law_tree_word" ["tree"] (sp_wtree n)
  | 0, _ => ⟨f, fd, gm, gk, gb, ⟨fun _ _ _ _ ⟨_, _, _, h, _⟩ => (by rw [h]; exact rfl), by
    intro A outer s H args us vs Q E _ _ _ _ h
    obtain ⟨_, _, t, _, _, _, h, _⟩ := h
    have := t.dep_pos
    omega⟩⟩
  | n + 1, h => ⟨f, fd, gm, gk, gb, st_law_tree_word (by omega) F nb (rec_law_tree_word F nb gm gk gb n (by omega))⟩
theorem ok_law_tree_word {f : Addr} {fd : FuncData} (F : Fun K "_law_tree_word" "_law_tree_word" s_law_tree_word f fd) (nb : Nb mg) (gm : mg "_law_tree_word" = some (.ref f)) (gk : PySem.W.keepIn K (.ref f) = true) (gb : Binds K fd ["tree"] []) : FnOk P w K mg base CX0 13 f fd ["tree"] (sp_wtree 13) := by
  exact st_law_tree_word (by decide) F nb (rec_law_tree_word F nb gm gk gb 12 (by decide))
theorem st_law_is_tree {n : Nat} (hn : n ≤ 12) {f : Addr} {fd : FuncData} (F : Fun K "_law_is_tree" "_law_is_tree" s_law_is_tree f fd) (nb : Nb mg) (d_law_is_integer : Df P w K mg base CX0 1 "_law_is_integer" ["thing"] sp_isI) (d_law_is_tree : Df P w K mg base CX0 (n + 1) "_law_is_tree" ["tree"] (sp_listree n)) : FnOk P w K mg base CX0 (n + 2) f fd ["tree"] (sp_listree (n + 1)) := by
  have sc := sc_law_is_tree
  refine F.ok sc (fun vs H Q E h => ?_) (fun cdv A outer s H vs Q E hr h => ?_)
  · obtain ⟨sa, x, d, rfl, _⟩ := h
    rfl
  · obtain ⟨sa, x, t, rfl, tr, r0, hd, q⟩ := h
    refine ⟨_, (pss_cons (ps_if (PW.pt (pw_or (pt_not (pt_val (pe_callB call_isi (by rfl) nb.isinstance (by decide +kernel) (pa_cons (pv 0) (pa_cons (pe_bltn (v := .ty "tuple") (u := .type "tuple") (by rfl) nb.tuple (by decide +kernel) rfl) pa_nil))))) (pw_or (pt_cmpR op_eq (pe_callB cq_len (by rfl) nb.len (by decide +kernel) (pa_cons (pv 0) pa_nil)) pe_int (nomark _)) (pw_or1 (pt_cmpR (op_eqD hr.units) (pv 0) (pe_tup (pa_cons pe_str pa_nil)) (nomark _)))))) (pss_one (ps_ret (pe_cmpR (op_eqD hr.units) (pv 0) (pe_tup (pa_cons pe_str pa_nil)) (nomark _)))) pss_nil)
    (pss_cons (ps_if (pt_cmpR op_eq (pe_ix ix_tup (pv 0) pe_int (fun _ _ => rfl)) pe_str (nomark _)) (pss_one (ps_ret (pe_and (pe_cmpR op_eq (pe_callB cq_len (by rfl) nb.len (by decide +kernel) (pa_cons (pv 0) pa_nil)) pe_int (nomark _)) (pe_one (pe_call d_law_is_integer.F (hr.mono (by first | decide | omega)) (by rfl) d_law_is_integer.g d_law_is_integer.kp d_law_is_integer.b .nil pass0 (pa_cons (pe_ix ix_tup (pv 0) pe_int (fun _ _ => rfl)) pa_nil)))))) pss_nil)
    (pss_cons (ps_if (PW.pt (pw_or (pt_cmpR op_ne (pe_ix ix_tup (pv 0) pe_int (fun _ _ => rfl)) pe_str (nomark _)) (pw_or (pt_cmpR op_ne (pe_callB cq_len (by rfl) nb.len (by decide +kernel) (pa_cons (pv 0) pa_nil)) pe_int (nomark _)) (pw_or1 (pt_not (pt_val (pe_call d_law_is_integer.F (hr.mono (by first | decide | omega)) (by rfl) d_law_is_integer.g d_law_is_integer.kp d_law_is_integer.b .nil pass0 (pa_cons (pe_ix ix_tup (pv 0) pe_int (fun _ _ => rfl)) pa_nil)))))))) (pss_one (ps_ret pe_bl)) pss_nil)
    (pss_one (ps_ret (pe_and (pe_call d_law_is_tree.F (hr.mono (by first | decide | omega)) (by rfl) d_law_is_tree.g d_law_is_tree.kp d_law_is_tree.b .nil pass0 (pa_cons (pe_ix ix_tup (pv 0) pe_int (fun _ _ => rfl)) pa_nil)) (pe_one (pe_call d_law_is_tree.F (hr.mono (by first | decide | omega)) (by rfl) d_law_is_tree.g d_law_is_tree.kp d_law_is_tree.b .nil pass0 (pa_cons (pe_ix ix_tup (pv 0) pe_int (fun _ _ => rfl)) pa_nil))))))))), ?_⟩
    (rw [show start ["tree"] [x] = [some (x)] from rfl]; try dsimp only [cxOf])
    have W := wd_start tr (.cons r0 .nil)
    obtain ⟨xs, ed, hx⟩ := trk_tup (k := t.dep) ⟨t, rfl, Nat.le_refl _⟩
    have dp0 := r0.dp (K := K) (tr_lay t).2.2
    have sh0 := tr_shaped (t := t) (by omega)
    rw [ed] at r0
    obtain ⟨p, rfl⟩ := rp_ref r0
    walk_at "v"
    refine w_isD r0 (kd_tuple _) ?_
    walk_at "v"
    refine iteF ?_
    walk_at "v"
    rw [ed] at W
    walk_at "v"
    refine w_ifd (fun h => by omega) (fun _ => ?_)
    walk_at "v"
    rename_i H1 p1 W1
    have dpl := (W1.get (v := .ref p1) .here).dp (K := K) rfl
    refine ⟨_, _, dp_sm (W1.same rfl) dp0, dpl, sh0, leaf_shaped, ?_⟩
    rw [eqv_tr]
    cases t with
    | leaf =>
      refine ⟨_, rfl, iteT ?_⟩
      walk_at "v"
      rename_i H2 p2 W2
      refine ⟨_, _, dp_sm (W2.same rfl) dp0, (W2.get (v := .ref p2) .here).dp (K := K) rfl, sh0, leaf_shaped, ?_⟩
      rw [eqv_tr]
      exact q _ (W2.same rfl)
    | mot m =>
      cases ed
      refine ⟨_, rfl, iteF ?_⟩
      walk_at "v"
      refine eq_sy rfl ?_
      walk_at "v"
      refine w_ifd (fun _ => ?_) (fun h => absurd rfl h)
      walk_at "v"
      rename_i W3
      exact q _ (W3.same rfl)
    | spl m t1 t2 =>
      cases ed
      simp only [Tr.dep] at hd
      refine ⟨_, rfl, iteF ?_⟩
      walk_at "v"
      refine eq_sn (by decide) ?_
      walk_at "v"
      refine ne_sy rfl ?_
      walk_at "v"
      refine w_ifn (fun h => absurd rfl h) (fun _ => ?_)
      walk_at "v"
      rename_i x3 W3
      refine ⟨sa, x3, t1, rfl, W3.tr, W3.get .here, by omega, fun H4 S4 => ?_⟩
      have W4 := W3.go S4
      walk_at "v"
      rename_i x5 W5
      refine ⟨sa, x5, t2, rfl, W5.tr, W5.get .here, by omega, fun H6 S6 => ?_⟩
      exact q _ ((W5.same rfl).trans S6)
def rec_law_is_tree {f : Addr} {fd : FuncData} (F : Fun K "_law_is_tree" "_law_is_tree" s_law_is_tree f fd) (nb : Nb mg) (d_law_is_integer : Df P w K mg base CX0 1 "_law_is_integer" ["thing"] sp_isI) (gm : mg "_law_is_tree" = some (.ref f)) (gk : PySem.W.keepIn K (.ref f) = true) (gb : Binds K fd ["tree"] []) : ∀ n, n ≤ 13 → Df P w K mg base CX0 (n + 1) "_law_is_tree" ["tree"] (sp_listree n)
  | 0, _ => ⟨f, fd, gm, gk, gb, ⟨fun _ _ _ _ ⟨_, _, _, h, _⟩ => (by rw [h]; exact rfl), by
    intro A outer s H args us vs Q E _ _ _ _ h
    obtain ⟨_, _, t, _, _, _, h, _⟩ := h
    have := t.dep_pos
    omega⟩⟩
  | n + 1, h => ⟨f, fd, gm, gk, gb, st_law_is_tree (by omega) F nb d_law_is_integer (rec_law_is_tree F nb d_law_is_integer gm gk gb n (by omega))⟩
theorem ok_law_is_tree {f : Addr} {fd : FuncData} (F : Fun K "_law_is_tree" "_law_is_tree" s_law_is_tree f fd) (nb : Nb mg) (d_law_is_integer : Df P w K mg base CX0 1 "_law_is_integer" ["thing"] sp_isI) (gm : mg "_law_is_tree" = some (.ref f)) (gk : PySem.W.keepIn K (.ref f) = true) (gb : Binds K fd ["tree"] []) : FnOk P w K mg base CX0 13 f fd ["tree"] (sp_listree 12) := by
  exact st_law_is_tree (by decide) F nb d_law_is_integer (rec_law_is_tree F nb d_law_is_integer gm gk gb 11 (by decide))
end

/-! ### the law's search for the first wrong sign -/
def dueV : Due → V
  | .num => .int 0
  | .tree w => .int (w : Int)
  | .sgn c => .str (SX.S [c])
def intOf : Due → Option Nat
  | .num => some 0
  | .tree w => some w
  | .sgn _ => none
/-- the lengths below what is due -/
def DL : List Due → Prop
  | [] => True
  | x :: d => DL d ∧ d.length ≤ 66 ∧ match x with | .tree w => 1 ≤ w ∧ w ≤ 12 ∧ d.length ≤ 5 * (w - 1) | _ => True
def pushD (n : Nat) (d : List Due) : List Due := .num :: .sgn 32 :: .tree (n + 1) :: .sgn 32 :: .tree (n + 1) :: .sgn 41 :: d
theorem dl_push {n : Nat} {d : List Due} (h : DL d) (h1 : 1 ≤ n) (h2 : n < 12) (h3 : d.length ≤ 5 * (n - 1)) : DL (pushD n d) := by
  simp only [pushD, DL, List.length_cons]
  refine ⟨⟨⟨⟨⟨⟨h, by omega, trivial⟩, by omega, by omega, by omega, by omega⟩, by omega, trivial⟩, by omega, by omega, by omega, by omega⟩, by omega, trivial⟩, by omega, trivial⟩
theorem aut_int {x : Due} {n : Nat} {d : List Due} {c : Nat} {r : List Nat} (e : intOf x = some n) (hw : ∀ w, x = .tree w → 1 ≤ w) : aut (x :: d) 0 (c :: r) = if IsDig c then aut d (gap c) r else if c = 40 ∧ 0 < n ∧ n < 12 then aut (pushD n d) 0 r else if c = 46 ∧ 0 < n then aut d 0 r else some (c :: r) := by
  cases x with
  | num =>
    cases e
    rw [aut, if_neg (by omega)]
    by_cases h : IsDig c
    · rw [if_pos h, if_pos h]
    · rw [if_neg h, if_neg h, if_neg (by omega), if_neg (by omega)]
  | tree w =>
    obtain rfl : w = n := by
      injection e
    have h1 := hw w rfl
    rw [aut_t]
    by_cases h : IsDig c
    · rw [if_pos h, if_pos h]
    · rw [if_neg h, if_neg h]
      by_cases h2 : c = 40 ∧ w < 12
      · rw [if_pos h2, if_pos ⟨h2.1, h1, h2.2⟩]
        rfl
      · rw [if_neg h2, if_neg (show ¬ (c = 40 ∧ 0 < w ∧ w < 12) from fun z => h2 ⟨z.1, z.2.2⟩)]
        by_cases h3 : c = 46
        · rw [if_pos h3, if_pos ⟨h3, h1⟩]
        · rw [if_neg h3, if_neg (show ¬ (c = 46 ∧ 0 < w) from fun z => h3 z.1)]
  | sgn s => cases e
/-- further digits -/
def gd : List Nat → Nat
  | [] => 0
  | c :: r => if c = 48 then 0 else 39 - r.length
theorem gd_cons {c : Nat} {r : List Nat} : gd (c :: r) = if c = 48 then 0 else 39 - r.length := rfl
theorem gd_one {c : Nat} : gd [c] = gap c := rfl
theorem gd_app {ds : List Nat} {c : Nat} (h : ds ≠ []) : gd (ds ++ [c]) = gd ds - 1 := by
  cases ds with
  | nil => exact absurd rfl h
  | cons d r =>
    simp only [List.cons_append, gd, List.length_append, List.length_cons, List.length_nil]
    split <;> omega
theorem last_of {xs ys : List V} {y : V} (e : xs = ys ++ [y]) : xs[xs.length - 1]? = some y ∧ xs.dropLast = ys := by
  subst e
  refine ⟨?_, List.dropLast_concat⟩
  rw [List.length_append, List.length_singleton, Nat.add_sub_cancel, List.getElem?_append_right (Nat.le_refl _), Nat.sub_self]
  rfl
theorem due_rev {x : Due} {d : List Due} : (x :: d).reverse.map dueV = d.reverse.map dueV ++ [dueV x] := by
  rw [List.reverse_cons, List.map_append]
  rfl
theorem push_rev {n : Nat} {d : List Due} : (pushD n d).reverse.map dueV = d.reverse.map dueV ++ [.str (SX.S [41]), .int ((n + 1 : Nat) : Int), .str (SX.S [32]), .int ((n + 1 : Nat) : Int), .str (SX.S [32]), .int 0] := by
  simp [pushD, List.reverse_cons, List.map_append, dueV]
theorem w_chain {r r' : R2} {ta tb tc : TE} {σ : L2.St} {H : Hp} {Q : VK} (h : ta σ H fun x H1 => tb σ H1 fun y H2 => r x y H2 fun z H3 => ∃ k, z = .bl k ∧ (if k = true then tc σ H3 fun w' H4 => r' y w' H4 Q else Q (.bl false) H3)) : tChain r r' ta tb tc σ H Q := h
theorem w_bm0K {K : PySem.W.Frag} {T : String} {r : V → List V → Hp → VK → Prop} {to : TE} {σ : L2.St} {H : Hp} {Q : VK} (h : to σ H fun x H1 => tyV K T x H1 ∧ r x [] H1 Q) : tBM0 K T r to σ H Q := h
theorem drop_pos {l : List Nat} {i : Nat} (h : i ≤ l.length) : pos l (l.drop i) = (i : Int) := by
  unfold pos
  rw [List.length_drop]
  omega
theorem drop_suf (l : List Nat) (i : Nat) : Suf (l.drop i) l := ⟨l.take i, (List.take_append_drop i l).symm⟩
theorem drop_cons {l : List Nat} {i : Nat} (h : i < l.length) : ∃ c, l.drop i = c :: l.drop (i + 1) := ⟨l[i], List.drop_eq_getElem_cons h⟩
abbrev sp_badsign : Sp := fun vs H Q _ => ∃ (l : List Nat), vs = [.str (SX.S l)] ∧ l.length ≤ TB ∧ (∀ e, aut [.tree 1] 0 l = some e → ∀ H', Same H H' → Q (.int (pos l e + 1)) H') ∧ (aut [.tree 1] 0 l = none → ∀ H', Same H H' → Q .non H')
section
variable {P : Program} {w : World} {K : PySem.W.Frag} {mg : Str → Option Value} {base : Heap}
theorem ok_law_bad_sign {f : Addr} {fd : FuncData} (F : Fun K "_law_bad_sign" "_law_bad_sign" s_law_bad_sign f fd) (nb : Nb mg) : FnOk P w K mg base CX0 1 f fd ["text"] sp_badsign := by
  have sc := sc_law_bad_sign
  refine F.ok sc (fun vs H Q E h => ?_) (fun cdv A outer s H vs Q E hr h => ?_)
  · obtain ⟨a, rfl, _⟩ := h
    rfl
  · obtain ⟨l, rfl, hl, yes, no⟩ := h
    refine ⟨_, (pss_cons (ps_asg (pe_lst (pa_cons pe_int pa_nil)) (pg_name (i := 1) sc.nd rfl (.inl rfl)))
    (pss_cons (ps_asg pe_str (pg_name (i := 2) sc.nd rfl (.inl rfl)))
    (pss_cons (ps_for PassesOwn.never rfl (pi_range1 (by rfl) nb.range (pa_cons (pe_callB cq_lenS (by rfl) nb.len (by decide +kernel) (pa_cons (pv 0) pa_nil)) pa_nil)) (pg_name (i := 3) sc.nd rfl (.inl rfl)) (pss_cons (ps_asg (pe_ix ix_str (pv 0) (pv 3) (fun _ _ => rfl)) (pg_name (i := 4) sc.nd rfl (.inl rfl)))
    (pss_one (ps_if (PW.pt (pw_and (pt_cmpR op_ne (pv 2) pe_str (nomark _)) (pw_and (pt_cmpR op_inS (pv 4) pe_str (by rfl)) (pw_and (pt_cmpR op_ne (pe_ix ix_str (pv 2) pe_int (fun _ _ => rfl)) pe_str (nomark _)) (pw_and1 (pt_cmpR op_lt (pe_callB cq_lenS (by rfl) nb.len (by decide +kernel) (pa_cons (pv 2) pa_nil)) pe_int (nomark _))))))) (pss_one (ps_asg (pe_op op_add_str (pv 2) (pv 4)) (pg_name (i := 2) sc.nd rfl (.inl rfl)))) (pss_cons (ps_asg pe_str (pg_name (i := 2) sc.nd rfl (.inl rfl)))
    (pss_cons (ps_if (pt_cmpR op_eq (pe_callB cq_len (by rfl) nb.len (by decide +kernel) (pa_cons (pv 1) pa_nil)) pe_int (nomark _)) (pss_one (ps_ret (pe_op op_add (pv 3) pe_int))) pss_nil)
    (pss_cons (ps_asg (pe_bm0 PySem.F.plainAttrs_list PySem.F.slot_list_pop PySem.F.type_list_pop mt_pop (pv 1)) (pg_name (i := 5) sc.nd rfl (.inl rfl)))
    (pss_one (ps_if (PW.pt (pw_and (pt_cmpR op_inS (pv 4) pe_str (by rfl)) (pw_and1 (pt_val (pe_callB call_isi (by rfl) nb.isinstance (by decide +kernel) (pa_cons (pv 5) (pa_cons (pe_bltn (v := .ty "int") (u := .type "int") (by rfl) nb.int (by decide +kernel) rfl) pa_nil))))))) (pss_one (ps_asg (pv 4) (pg_name (i := 2) sc.nd rfl (.inl rfl)))) (pss_one (ps_if (PW.pt (pw_and (pt_cmpR op_eq (pv 4) pe_str (nomark _)) (pw_and (pt_val (pe_callB call_isi (by rfl) nb.isinstance (by decide +kernel) (pa_cons (pv 5) (pa_cons (pe_bltn (v := .ty "int") (u := .type "int") (by rfl) nb.int (by decide +kernel) rfl) pa_nil)))) (pw_and1 (pt_chain op_lt op_lt pe_int (pv 5) pe_int))))) (pss_one (ps_asg (pe_op op_cat (pv 1) (pe_lst (pa_cons pe_str (pa_cons (pe_op op_add (pv 5) pe_int) (pa_cons pe_str (pa_cons (pe_op op_add (pv 5) pe_int) (pa_cons pe_str (pa_cons pe_int pa_nil)))))))) (pg_name (i := 1) sc.nd rfl (.inl rfl)))) (pss_one (ps_if (PW.pt (pw_and (pt_cmpR op_ne (pv 4) (pv 5) (nomark _)) (pw_and1 (PW.pt (pw_or (pt_cmpR op_ne (pv 4) pe_str (nomark _)) (pw_or (pt_not (pt_val (pe_callB call_isi (by rfl) nb.isinstance (by decide +kernel) (pa_cons (pv 5) (pa_cons (pe_bltn (v := .ty "int") (u := .type "int") (by rfl) nb.int (by decide +kernel) rfl) pa_nil))))) (pw_or1 (pt_cmpR op_eq (pv 5) pe_int (nomark _))))))))) (pss_one (ps_ret (pe_op op_add (pv 3) pe_int))) pss_nil)))))))))))))
    (pss_cons (ps_if (pt_cmpR op_gt (pe_callB cq_len (by rfl) nb.len (by decide +kernel) (pa_cons (pv 1) pa_nil)) pe_int (nomark _)) (pss_one (ps_ret (pe_op op_add (pe_callB cq_lenS (by rfl) nb.len (by decide +kernel) (pa_cons (pv 0) pa_nil)) pe_int))) pss_nil)
    (pss_one (ps_ret pe_non)))))), ?_⟩
    (rw [show start ["text", "due", "digits", "at", "sign", "wish"] [.str (SX.S l)] = [some (.str (SX.S l)), none, none, none, none, none] from rfl]; try dsimp only [cxOf])
    have eTB : TB = 350000 := rfl
    walk_at "v"
    refine nl_mk fun q0 nq0 => ?_
    walk_at "v"
    refine len_s hl ?_
    walk_at "v"
    refine lp_range (fun i σ' H' => ∃ q due ds o3 o4 o5, σ' = [some (.str (SX.S l)), some (.ref q), some (.str (SX.S ds)), o3, o4, o5] ∧ Same H H' ∧ H q = none ∧ H' q = some (.lst (due.reverse.map dueV)) ∧ (∀ c ∈ ds, IsDig c) ∧ ds.length ≤ 40 ∧ DL due ∧ aut [.tree 1] 0 l = aut due (gd ds) (l.drop i)) ⟨q0, [.tree 1], [], _, _, _, rfl, same_new nq0, nq0, upd_same, (fun c h => nomatch h), by decide, ⟨trivial, by decide, by decide, by decide, by decide⟩, rfl⟩ ?_ ?_
    · rintro i σ' H' hi ⟨q, due, ds, o3, o4, o5, rfl, S, nq, hq, hds, l40, dl, ea⟩
      have hi : i < l.length := by omega
      obtain ⟨c, ec⟩ := drop_cons hi
      have sf := drop_suf l i
      have ep := drop_pos (l := l) (i := i) (by omega)
      rw [ec] at sf ep ea
      walk_at "v"
      refine ix_s (by rw [ep]; omega) sf hl ?_
      walk_at "v"
      refine ne_s (l := ds) (m := []) rfl (by decide) ?_
      have ret : aut [.tree 1] 0 l = some (c :: l.drop (i + 1)) → ∀ H2, Same H H2 → Q (.int (0 + (i : Int) + 1)) H2 := fun e H2 S2 => by
        have := yes _ e H2 S2
        rw [ep] at this
        rw [Int.zero_add]
        exact this
      by_cases hgo : 0 < gd ds ∧ IsDig c
      · cases ds with
        | nil => exact absurd hgo.1 (by decide)
        | cons d0 dr =>
          have h48 : d0 ≠ 48 := fun z => by
            have := hgo.1
            rw [gd_cons, if_pos z] at this
            exact absurd this (by decide)
          have h40 : (d0 :: dr).length < 40 := by
            have := hgo.1
            rw [gd_cons, if_neg h48] at this
            rw [List.length_cons]
            omega
          rw [decide_eq_false (by simp)]
          refine ⟨_, rfl, iteT ?_⟩
          walk_at "v"
          refine in_s ?_
          rw [decide_eq_true hgo.2]
          refine ⟨_, rfl, iteT ?_⟩
          walk_at "v"
          refine ix_s (l := d0 :: dr) (r := dr) (by rw [pos_self]) (.refl _) (by omega) ?_
          walk_at "v"
          refine ne_s (l := [d0]) (m := [48]) rfl (by decide) ?_
          rw [decide_eq_false (fun z => h48 (one_eq.mp z))]
          refine ⟨_, rfl, iteT ?_⟩
          walk_at "v"
          refine len_s (by omega) ?_
          walk_at "v"
          refine w_ifd (fun _ => ?_) (fun h => absurd (by omega) h)
          walk_at "v"
          have cc := cat2 (u := d0 :: dr) (v := [c]) rfl rfl (by omega) (by rw [eTB, List.length_singleton]; decide)
          refine ⟨SX.S (d0 :: dr), SX.S [c], rfl, rfl, cc.1, ?_⟩
          rw [cc.2]
          walk_at "v"
          refine ⟨q, due, d0 :: dr ++ [c], _, _, _, rfl, S, nq, hq, fun e he => ?_, ?_, dl, ?_⟩
          · rcases List.mem_append.mp he with he | he
            · exact hds e he
            · rw [List.mem_singleton.mp he]
              exact hgo.2
          · rw [List.length_append, List.length_singleton]
            omega
          · rw [ea, aut_go hgo, gd_app (by simp)]
      · have h4 : ds = [] ∨ (ds ≠ [] ∧ ¬ IsDig c) ∨ (∃ dr, ds = 48 :: dr ∧ IsDig c) ∨ (∃ d0 dr, ds = d0 :: dr ∧ IsDig c ∧ d0 ≠ 48 ∧ ¬ (d0 :: dr).length < 40) := by
          by_cases a1 : ds = []
          · exact .inl a1
          · by_cases a2 : IsDig c
            · cases ds with
              | nil => exact absurd rfl a1
              | cons d0 dr =>
                by_cases a3 : d0 = 48
                · exact .inr (.inr (.inl ⟨dr, by rw [a3], a2⟩))
                · refine .inr (.inr (.inr ⟨d0, dr, rfl, a2, a3, fun z => hgo ⟨?_, a2⟩⟩))
                  rw [gd_cons, if_neg a3]
                  rw [List.length_cons] at z
                  omega
            · exact .inr (.inl ⟨a1, a2⟩)
        have ea0 : aut [.tree 1] 0 l = aut due 0 (c :: l.drop (i + 1)) := by
          rw [ea]
          exact aut_stop hgo
        clear ea
        rcases h4 with a1 | ⟨a1, a2⟩ | ⟨dr, a1, a2⟩ | ⟨d0, dr, a1, a2, a3, a4⟩
        all_goals first
          | (rw [decide_eq_true a1]; refine ⟨_, rfl, iteF ?_⟩)
          | (rw [decide_eq_false a1]; refine ⟨_, rfl, iteT ?_⟩; walk_at "v"; refine in_s ?_; rw [decide_eq_false a2]; refine ⟨_, rfl, iteF ?_⟩; refine iteF ?_)
          | (subst a1; rw [decide_eq_false (by simp)]; refine ⟨_, rfl, iteT ?_⟩; walk_at "v"; refine in_s ?_; rw [decide_eq_true a2]; refine ⟨_, rfl, iteT ?_⟩; walk_at "v"
             refine ix_s (l := 48 :: dr) (r := dr) (by rw [pos_self]) (.refl _) (by omega) ?_
             walk_at "v"
             refine ne_s (l := [48]) (m := [48]) rfl (by decide) ?_
             rw [decide_eq_true rfl]
             refine ⟨_, rfl, iteF ?_⟩; refine iteF ?_)
          | (subst a1; rw [decide_eq_false (by simp)]; refine ⟨_, rfl, iteT ?_⟩; walk_at "v"; refine in_s ?_; rw [decide_eq_true a2]; refine ⟨_, rfl, iteT ?_⟩; walk_at "v"
             refine ix_s (l := d0 :: dr) (r := dr) (by rw [pos_self]) (.refl _) (by omega) ?_
             walk_at "v"
             refine ne_s (l := [d0]) (m := [48]) rfl (by decide) ?_
             rw [decide_eq_false (fun z => a3 (one_eq.mp z))]
             refine ⟨_, rfl, iteT ?_⟩
             walk_at "v"
             refine len_s (by omega) ?_
             walk_at "v"
             refine w_ifd (fun h => absurd (by omega) a4) (fun _ => ?_))
        all_goals (
          walk_at "v"
          rw [List.length_reverse]
          cases due with
          | nil =>
            refine w_ifd (fun _ => ?_) (fun h => absurd rfl h)
            walk_at "v"
            refine ret ?_ _ S
            rw [ea0, aut, if_neg (by omega)]
          | cons x d =>
            refine w_ifd (fun h => absurd h (by rw [List.length_cons]; omega)) (fun _ => ?_)
            walk_at "v"
            refine w_bm0K ?_
            walk_at "v"
            refine ⟨tyV_lst hq, ?_⟩
            obtain ⟨e1, e2⟩ := last_of (due_rev (x := x) (d := d))
            refine ⟨q, _, dueV x, rfl, rfl, hq, e1, ?_⟩
            rw [e2]
            have hq2 : (upd H' q (.lst (d.reverse.map dueV))) q = some (.lst (d.reverse.map dueV)) := upd_same
            have S2 : Same H (upd H' q (.lst (d.reverse.map dueV))) := same_updN S nq
            generalize upd H' q (.lst (d.reverse.map dueV)) = H2 at hq2 S2 ⊢
            obtain ⟨dl1, dl2, dl3⟩ := dl
            cases hx : intOf x with
            | some n =>
              have eV : dueV x = .int (n : Int) := by
                cases x <;> cases hx <;> rfl
              rw [eV]
              have ai := aut_int (d := d) (c := c) (r := l.drop (i + 1)) hx (fun w hw => by subst hw; exact dl3.1)
              rw [ai] at ea0
              walk_at "v"
              refine in_s ?_
              by_cases hc : IsDig c
              · rw [decide_eq_true hc]
                refine ⟨_, rfl, iteT ?_⟩
                walk_at "v"
                refine dp_is (Dp.int (n : Int)) (kd_int _) ?_
                rw [if_pos hc] at ea0
                walk_at "v"
                refine iteT ?_
                walk_at "v"
                exact ⟨q, d, [c], _, _, _, rfl, S2, nq, hq2, fun e he => by rw [List.mem_singleton.mp he]; exact hc, by rw [List.length_singleton]; decide, dl1, ea0⟩
              · rw [decide_eq_false hc]
                refine ⟨_, rfl, iteF ?_⟩
                refine iteF ?_
                rw [if_neg hc] at ea0
                walk_at "v"
                refine eq_s (l := [c]) (m := [40]) rfl (by decide) ?_
                by_cases h40 : c = 40
                · rw [decide_eq_true (one_eq.mpr h40)]
                  refine ⟨_, rfl, iteT ?_⟩
                  walk_at "v"
                  refine dp_is (Dp.int (n : Int)) (kd_int _) ?_
                  walk_at "v"
                  refine iteT ?_
                  have h46 : ¬ c = 46 := by omega
                  walk_at "v"
                  refine w_chain ?_
                  walk_at "v"
                  by_cases hn : 0 < n ∧ n < 12
                  · rw [if_pos ⟨h40, hn⟩] at ea0
                    have lx : d.length ≤ 5 * (n - 1) ∧ 1 ≤ n := by
                      cases x with
                      | num =>
                        cases hx
                        exact absurd hn.1 (by decide)
                      | tree w =>
                        cases hx
                        exact ⟨dl3.2.2, dl3.1⟩
                      | sgn s => cases hx
                    refine w_ifd (fun _ => ?_) (fun h => absurd (by omega) h)
                    walk_at "v"
                    refine w_ifd (fun _ => ?_) (fun h => absurd (by omega) h)
                    walk_at "v"
                    refine nl_mk fun q3 nq3 => ?_
                    have ne3 : q ≠ q3 := fun z => by rw [z, nq3] at hq2; cases hq2
                    refine ⟨q, q3, _, _, rfl, rfl, (upd_ne ne3).trans hq2, upd_same, ?_, fun q4 nq4 => ?_⟩
                    · rw [List.length_map, List.length_reverse]
                      simp only [List.length_cons, List.length_nil]
                      exact Nat.le_trans (show d.length + (0 + 1 + 1 + 1 + 1 + 1 + 1) ≤ 100 by omega) (by decide)
                    · have S4 : Same H _ := (S2.new (o := .lst [.str ")", .int ((n : Int) + 1), .str " ", .int ((n : Int) + 1), .str " ", .int 0]) nq3).new (o := .lst (d.reverse.map dueV ++ [.str ")", .int ((n : Int) + 1), .str " ", .int ((n : Int) + 1), .str " ", .int 0])) nq4
                      have nH4 : H q4 = none := (S2.new (o := .lst [.str ")", .int ((n : Int) + 1), .str " ", .int ((n : Int) + 1), .str " ", .int 0]) nq3).free nq4
                      walk_at "v"
                      rw [show ("" : Str) = SX.S [] by decide]
                      refine ⟨q4, pushD n d, [], _, _, _, rfl, S4, nH4, ?_, (fun e he => nomatch he), by decide, dl_push dl1 lx.2 hn.2 lx.1, ea0⟩
                      rw [push_rev, show SX.S [41] = (")" : Str) by decide, show SX.S [32] = (" " : Str) by decide]
                      exact upd_same
                  · rw [if_neg (show ¬ (c = 40 ∧ 0 < n ∧ n < 12) from fun z => hn z.2), if_neg (show ¬ (c = 46 ∧ 0 < n) from fun z => h46 z.1)] at ea0
                    by_cases h0 : 0 < n
                    · refine w_ifd (fun _ => ?_) (fun h => absurd (by omega) h)
                      walk_at "v"
                      refine w_ifd (fun h => absurd (by omega) hn) (fun _ => ?_)
                      · walk_at "v"
                        refine ⟨rfl, ?_⟩
                        rw [decide_eq_false (fun z => nomatch z)]
                        refine ⟨_, rfl, iteT ?_⟩
                        walk_at "v"
                        refine ne_s (l := [c]) (m := [46]) rfl (by decide) ?_
                        rw [decide_eq_false (fun z => h46 (one_eq.mp z))]
                        refine ⟨_, rfl, iteT ?_⟩
                        walk_at "v"
                        exact ret ea0 _ S2
                    · refine w_ifd (fun h => absurd (by omega) h0) (fun _ => ?_)
                      · walk_at "v"
                        refine ⟨rfl, ?_⟩
                        rw [decide_eq_false (fun z => nomatch z)]
                        refine ⟨_, rfl, iteT ?_⟩
                        walk_at "v"
                        refine ne_s (l := [c]) (m := [46]) rfl (by decide) ?_
                        rw [decide_eq_false (fun z => h46 (one_eq.mp z))]
                        refine ⟨_, rfl, iteT ?_⟩
                        walk_at "v"
                        exact ret ea0 _ S2
                · rw [decide_eq_false (fun z => h40 (one_eq.mp z))]
                  refine ⟨_, rfl, iteF ?_⟩
                  refine iteF ?_
                  rw [if_neg (show ¬ (c = 40 ∧ 0 < n ∧ n < 12) from fun z => h40 z.1)] at ea0
                  walk_at "v"
                  refine ⟨rfl, ?_⟩
                  rw [decide_eq_false (fun z => nomatch z)]
                  refine ⟨_, rfl, iteT ?_⟩
                  walk_at "v"
                  refine ne_s (l := [c]) (m := [46]) rfl (by decide) ?_
                  by_cases h46 : c = 46
                  · rw [decide_eq_true (one_eq.mpr h46)]
                    refine ⟨_, rfl, iteF ?_⟩
                    walk_at "v"
                    refine dp_is (Dp.int (n : Int)) (kd_int _) ?_
                    walk_at "v"
                    refine iteF ?_
                    walk_at "v"
                    refine w_ifd (fun h => ?_) (fun h => ?_)
                    · rw [if_neg (show ¬ (c = 46 ∧ 0 < n) by omega)] at ea0
                      walk_at "v"
                      exact ret ea0 _ S2
                    · rw [if_pos (show c = 46 ∧ 0 < n by omega)] at ea0
                      walk_at "v"
                      rw [show ("" : Str) = SX.S [] by decide]
                      exact ⟨q, d, [], _, _, _, rfl, S2, nq, hq2, (fun e he => nomatch he), by decide, dl1, ea0⟩
                  · rw [decide_eq_false (fun z => h46 (one_eq.mp z))]
                    rw [if_neg (show ¬ (c = 46 ∧ 0 < n) from fun z => h46 z.1)] at ea0
                    refine ⟨_, rfl, iteT ?_⟩
                    refine iteT ?_
                    walk_at "v"
                    exact ret ea0 _ S2
            | none =>
              obtain ⟨s, rfl⟩ : ∃ s, x = .sgn s := by
                cases x with
                | sgn s => exact ⟨s, rfl⟩
                | _ => cases hx
              rw [show dueV (.sgn s) = .str (SX.S [s]) from rfl]
              rw [aut_sgn] at ea0
              walk_at "v"
              refine in_s ?_
              by_cases hc : IsDig c
              all_goals first
                | (rw [decide_eq_true hc]; refine ⟨_, rfl, iteT ?_⟩; walk_at "v"; refine dp_is (Dp.str (SX.S [s])) (kd_int _) ?_; walk_at "v"; refine iteF ?_)
                | (rw [decide_eq_false hc]; refine ⟨_, rfl, iteF ?_⟩; refine iteF ?_)
              all_goals (
                walk_at "v"
                refine eq_s (l := [c]) (m := [40]) rfl (by decide) ?_
                by_cases h40 : c = 40
                all_goals first
                  | (rw [decide_eq_true (one_eq.mpr h40)]; refine ⟨_, rfl, iteT ?_⟩; walk_at "v"; refine dp_is (Dp.str (SX.S [s])) (kd_int _) ?_; walk_at "v"; refine iteF ?_; refine iteF ?_)
                  | (rw [decide_eq_false (fun z => h40 (one_eq.mp z))]; refine ⟨_, rfl, iteF ?_⟩; refine iteF ?_)
                all_goals (
                  walk_at "v"
                  refine ne_s (l := [c]) (m := [s]) rfl rfl ?_
                  by_cases hs : c = s
                  · rw [decide_eq_true (one_eq.mpr hs)]
                    refine ⟨_, rfl, iteF ?_⟩
                    walk_at "v"
                    have ea1 : aut [.tree 1] 0 l = aut d 0 (l.drop (i + 1)) := by
                      rw [ea0, show bhd s (c :: l.drop (i + 1)) = .inr (l.drop (i + 1)) from if_pos hs]
                    rw [show ("" : Str) = SX.S [] by decide]
                    exact ⟨q, d, [], _, _, _, rfl, S2, nq, hq2, (fun e he => nomatch he), by decide, dl1, ea1⟩
                  · rw [decide_eq_false (fun z => hs (one_eq.mp z))]
                    refine ⟨_, rfl, iteT ?_⟩
                    have ea1 : aut [.tree 1] 0 l = some (c :: l.drop (i + 1)) := by
                      rw [ea0, show bhd s (c :: l.drop (i + 1)) = .inl (c :: l.drop (i + 1)) from if_neg hs]
                    walk_at "v"
                    refine ne_s (l := [c]) (m := [46]) rfl (by decide) ?_
                    by_cases h46 : c = 46
                    · rw [decide_eq_true (one_eq.mpr h46)]
                      refine ⟨_, rfl, iteF ?_⟩
                      walk_at "v"
                      refine dp_is (Dp.str (SX.S [s])) (kd_int _) ?_
                      walk_at "v"
                      refine iteT ?_
                      walk_at "v"
                      exact ret ea1 _ S2
                    · rw [decide_eq_false (fun z => h46 (one_eq.mp z))]
                      refine ⟨_, rfl, iteT ?_⟩
                      walk_at "v"
                      exact ret ea1 _ S2)))
    · rintro σ' H' ⟨q, due, ds, o3, o4, o5, rfl, S, nq, hq, hds, l40, dl, ea⟩
      rw [Int.toNat_natCast, List.drop_length] at ea
      walk_at "v"
      have ll : ((due.reverse.map dueV).length : Int) = (due.length : Int) := by rw [List.length_map, List.length_reverse]
      cases due with
      | nil =>
        refine w_ifd (fun h => absurd h (by decide)) (fun _ => ?_)
        walk_at "v"
        exact no ea _ S
      | cons x d =>
        refine w_ifd (fun _ => ?_) (fun h => absurd (by rw [List.length_reverse, List.length_cons]; omega) h)
        walk_at "v"
        refine len_s hl ?_
        walk_at "v"
        have := yes [] ea H' S
        rw [pos_nil] at this
        exact this
end

/-! ### trees that are spoilt -/
def NoTr (d : PyData) : Prop := (∀ k, OkH k d) ∧ ∀ t, d ≠ trD t
theorem okh_tup {xs : List PyData} (h : ∀ x, xs.head? = some x → isSc x = true) (g : ∀ a b c e, xs = [a, b, c, e] → ∀ k, OkH k c ∧ OkH k e) : ∀ k, OkH k (.tuple xs)
  | 0 => trivial
  | k + 1 => fun ys e => by
    cases e
    exact ⟨h, fun a b c e z => g a b c e z k⟩
theorem okh_no {d : PyData} (h : ∀ xs, d ≠ .tuple xs) : ∀ k, OkH k d
  | 0 => trivial
  | k + 1 => fun ys e => absurd e (h ys)
theorem trD_tup (t : Tr) : ∃ xs, trD t = .tuple xs := by
  cases t <;> exact ⟨_, rfl⟩
theorem notr_no {d : PyData} (h : ∀ xs, d ≠ .tuple xs) : NoTr d := ⟨okh_no h, fun t e => by
  obtain ⟨xs, e2⟩ := trD_tup t
  exact h xs (e.trans e2)⟩
theorem notr_len {xs : List PyData} (h : ∀ x, xs.head? = some x → isSc x = true) (h1 : xs.length ≠ 1) (h2 : xs.length ≠ 2) (h4 : xs.length ≠ 4) : NoTr (.tuple xs) := by
  refine ⟨okh_tup h fun a b c e z => absurd (by rw [z]; rfl) h4, fun t e => ?_⟩
  cases t <;> (simp only [trD] at e; cases e; first | exact h1 rfl | exact h2 rfl | exact h4 rfl)
theorem notr_1 {x : PyData} (h : isSc x = true) (n : x ≠ .str "leaf") : NoTr (.tuple [x]) := by
  refine ⟨okh_tup (fun y e => by cases e; exact h) (fun a b c e z => by cases z), fun t e => ?_⟩
  cases t <;> (simp only [trD] at e; cases e)
  exact n rfl
theorem notr_2 {x y : PyData} (h : isSc x = true) (n : x ≠ .str "motion" ∨ ∀ m : Nat, y ≠ .int (m : Int)) : NoTr (.tuple [x, y]) := by
  refine ⟨okh_tup (fun y e => by cases e; exact h) (fun a b c e z => by cases z), fun t e => ?_⟩
  cases t with
  | mot m =>
    simp only [trD] at e
    cases e
    rcases n with n | n
    · exact n rfl
    · exact n m rfl
  | _ =>
    simp only [trD] at e
    cases e
theorem notr_4 {a b c e : PyData} (h : isSc a = true) (hc : ∀ k, OkH k c) (he : ∀ k, OkH k e) (n : (∀ m : Nat, b ≠ .int (m : Int)) ∨ (∀ t, c ≠ trD t) ∨ ∀ t, e ≠ trD t) : NoTr (.tuple [a, b, c, e]) := by
  refine ⟨okh_tup (fun y e => by cases e; exact h) (fun a b c e z k => by cases z; exact ⟨hc k, he k⟩), fun t z => ?_⟩
  cases t with
  | spl m t1 t2 =>
    simp only [trD] at z
    cases z
    rcases n with n | n | n
    · exact n m rfl
    · exact n t1 rfl
    · exact n t2 rfl
  | _ =>
    simp only [trD] at z
    cases z
theorem neg_nat {i : Int} (h : i < 0) : ∀ m : Nat, PyData.int i ≠ .int (m : Int) := fun m e => by
  injection e with e
  omega
section
variable {b : Bool} {sa : Addr} {H0 H : Hp} {acc : List V} {dacc : List PyData} {Q : VK} {K : PySem.W.Frag} {p q : Addr} {ds es : List PyData}
theorem tp_at (W : Wd b sa H0 H acc dacc) (m : In2 (.ref p) (.tuple ds) acc dacc) : ∃ xs, H p = some (.tup xs) ∧ Rps sa H xs ds := by
  cases W.get m with
  | @tup _ xs _ n hx r => exact ⟨xs, hx, r⟩
theorem c_listOf (W : Wd b sa H0 H acc dacc) (m : In2 (.ref p) (.tuple ds) acc dacc) (h : ∀ H' q, Wd b sa H0 H' (.ref q :: acc) (.list ds :: dacc) → Q (.ref q) H') : rListOf K [.ref p] H Q := by
  obtain ⟨xs, hx, r⟩ := tp_at W m
  exact ⟨p, xs, rfl, .inr (SqT.of hx), fun l nl => h _ l ((W.go (same_new nl)).put (.lst (W.ne nl) upd_same (r.but (same_new nl).but)))⟩
theorem c_catT (W : Wd b sa H0 H acc dacc) (m : In2 (.ref p) (.tuple ds) acc dacc) (m2 : In2 (.ref q) (.tuple es) acc dacc) (n1 : ds ≠ []) (n2 : es ≠ []) (hl : ds.length + es.length ≤ 1000) (h : ∀ H' q, Wd b sa H0 H' (.ref q :: acc) (.tuple (ds ++ es) :: dacc) → Q (.ref q) H') : rCatT K (.ref p) (.ref q) H Q := by
  obtain ⟨xs, hx, r⟩ := tp_at W m
  obtain ⟨ys, hy, r2⟩ := tp_at W m2
  have l1 := r.lens
  have l2 := r2.lens
  refine ⟨p, q, xs, ys, rfl, rfl, SqT.of hx, SqT.of hy, fun z => n1 ?_, by rw [l1, l2]; exact Nat.le_of_lt (small1000 hl), fun z => absurd ?_ n2, fun _ l nl => h _ l ((W.go (same_new nl)).put (.tup (W.ne nl) upd_same ((r.app r2).but (same_new nl).but)))⟩
  · rw [z] at l1
    exact List.eq_nil_of_length_eq_zero l1.symm
  · rw [z] at l2
    exact List.eq_nil_of_length_eq_zero l2.symm
theorem c_catT0 (W : Wd b sa H0 H acc dacc) (m : In2 (.ref p) (.tuple ds) acc dacc) (m2 : In2 (.ref q) (.tuple []) acc dacc) (n1 : ds ≠ []) (hl : ds.length ≤ 1000) (h : Q (.ref p) H) : rCatT K (.ref p) (.ref q) H Q := by
  obtain ⟨xs, hx, r⟩ := tp_at W m
  obtain ⟨ys, hy, r2⟩ := tp_at W m2
  have l1 := r.lens
  have l2 := r2.lens
  refine ⟨p, q, xs, ys, rfl, rfl, SqT.of hx, SqT.of hy, fun z => n1 ?_, by rw [l1, l2]; exact Nat.le_of_lt (small1000 hl), fun _ => h, fun z => absurd (List.eq_nil_of_length_eq_zero l2) z⟩
  rw [z] at l1
  exact List.eq_nil_of_length_eq_zero l1.symm
theorem c_slT_lo {i : Int} {k : Nat} (W : Wd b sa H0 H acc dacc) (m : In2 (.ref p) (.tuple ds) acc dacc) (e : i = (k : Int)) (hk : k < ds.length) (h : ∀ H' q, Wd b sa H0 H' (.ref q :: acc) (.tuple (ds.take k) :: dacc) → Q (.ref q) H') : rSlT K (.ref p) none (some i) H Q := by
  obtain ⟨xs, hx, r⟩ := tp_at W m
  have l1 := r.lens
  refine ⟨p, xs, rfl, SqT.of hx, fun z => ?_, fun l nl => ?_⟩
  · have := z.2
    rw [e, HT.sIx_nat] at this
    omega
  · rw [cut_lo e]
    exact h _ l ((W.go (same_new nl)).put (.tup (W.ne nl) upd_same ((r.take k).but (same_new nl).but)))
theorem c_slT_hi {i : Int} {k : Nat} (W : Wd b sa H0 H acc dacc) (m : In2 (.ref p) (.tuple ds) acc dacc) (e : i = (k : Int)) (h0 : 0 < k) (hk : k ≤ ds.length) (h : ∀ H' q, Wd b sa H0 H' (.ref q :: acc) (.tuple (ds.drop k) :: dacc) → Q (.ref q) H') : rSlT K (.ref p) (some i) none H Q := by
  obtain ⟨xs, hx, r⟩ := tp_at W m
  have l1 := r.lens
  refine ⟨p, xs, rfl, SqT.of hx, fun z => ?_, fun l nl => ?_⟩
  · have := z.1
    rw [e, HT.sIx_nat] at this
    omega
  · rw [cut_hi e]
    exact h _ l ((W.go (same_new nl)).put (.tup (W.ne nl) upd_same ((r.drop k).but (same_new nl).but)))
end
theorem str_ned {x y : Str} (h : x ≠ y) : PyData.str x ≠ .str y := fun z => h (by injection z)
theorem notr14 {t : Tr} {xs : List PyData} (ed : trD t = .tuple xs) : ∀ d ∈ [PyData.none, .tuple [], .list [], .str "leaf", .tuple [.str "leaf", .int 0], .tuple [.str "motion"], .tuple [.str "split", .int 0, .tuple [.str "leaf"]], .list xs, .tuple [.str "Leaf"], .int 0, .tuple [.str ""], .tuple [.str "motion", .int 0, .int 0], .tuple (xs ++ [.tuple [.str "leaf"]]), .tuple [.int 0]], NoTr d := by
  intro d hd
  simp only [List.mem_cons, List.not_mem_nil, or_false] at hd
  rcases hd with rfl | rfl | rfl | rfl | rfl | rfl | rfl | rfl | rfl | rfl | rfl | rfl | rfl | rfl
  · exact notr_no fun xs e => by cases e
  · exact notr_len (fun x e => by cases e) (by decide) (by decide) (by decide)
  · exact notr_no fun xs e => by cases e
  · exact notr_no fun xs e => by cases e
  · exact notr_2 rfl (.inl (str_ned (by decide)))
  · exact notr_1 rfl (str_ned (by decide))
  · exact notr_len (fun x e => by cases e; rfl) (by decide) (by decide) (by decide)
  · exact notr_no fun xs e => by cases e
  · exact notr_1 rfl (str_ned (by decide))
  · exact notr_no fun xs e => by cases e
  · exact notr_1 rfl (str_ned (by decide))
  · exact notr_len (fun x e => by cases e; rfl) (by decide) (by decide) (by decide)
  · cases t with
    | leaf =>
      cases ed
      exact notr_2 rfl (.inl (str_ned (by decide)))
    | mot m =>
      cases ed
      exact notr_len (fun x e => by cases e; rfl) (by simp) (by simp) (by simp)
    | spl m a b =>
      cases ed
      exact notr_len (fun x e => by cases e; rfl) (by simp) (by simp) (by simp)
  · exact notr_1 rfl (fun z => by cases z)
theorem notnat9 : ∀ d ∈ [PyData.int (-1), .bool true, .none, .str "0", .tuple [.int 0], .bool false, .int (-5), .dict [], .list []], ∀ m : Nat, d ≠ .int (m : Int) := by
  intro d hd m
  simp only [List.mem_cons, List.not_mem_nil, or_false] at hd
  rcases hd with rfl | rfl | rfl | rfl | rfl | rfl | rfl | rfl | rfl
  all_goals (intro e; injection e; try omega)
theorem notnat5 : ∀ d ∈ [PyData.int (-1), .bool true, .none, .str "0", .tuple [.int 0]], ∀ m : Nat, d ≠ .int (m : Int) := by
  intro d hd m
  simp only [List.mem_cons, List.not_mem_nil, or_false] at hd
  rcases hd with rfl | rfl | rfl | rfl | rfl
  all_goals (intro e; injection e; try omega)
abbrev sp_spoilt (n : Nat) : Sp := fun vs H Q _ => ∃ (a : Addr) (x : V) (t : Tr), vs = [.ref a, x] ∧ Stm H a ∧ Rp a H x (trD t) ∧ t.dep ≤ n ∧ ∀ H' y d, But a H H' → Stm H' a → Rp a H' y d → NoTr d → Q y H'
section
variable {P : Program} {w : World} {K : PySem.W.Frag} {mg : Str → Option Value} {base : Heap}
theorem st_law_spoilt {n : Nat} {f : Addr} {fd : FuncData} (F : Fun K "_law_spoilt" "_law_spoilt" s_law_spoilt f fd) (nb : Nb mg) (d_law_take : Df P w K mg base CX0 2 "_law_take" ["stream", "many"] sp_take) (d_law_spoilt : Df P w K mg base CX0 (n + 2) "_law_spoilt" ["stream", "tree"] (sp_spoilt n)) : FnOk P w K mg base CX0 (n + 3) f fd ["stream", "tree"] (sp_spoilt (n + 1)) := by
  have sc := sc_law_spoilt
  refine F.ok sc (fun vs H Q E h => ?_) (fun cdv A outer s H vs Q E hr h => ?_)
  · obtain ⟨a, x, t, rfl, _⟩ := h
    rfl
  · obtain ⟨a, x, t, rfl, st, r0, hd, q⟩ := h
    refine ⟨_, (pss_cons (ps_asg (pe_call d_law_take.F (hr.mono (by first | decide | omega)) (by rfl) d_law_take.g d_law_take.kp d_law_take.b .nil pass0 (pa_cons (pv 0) (pa_cons pe_int pa_nil))) (pg_name (i := 2) sc.nd rfl (.inl rfl)))
    (pss_cons (ps_if (PW.pt (pw_and (pt_cmpR op_eq (pe_ix ix_tup (pv 1) pe_int (fun _ _ => rfl)) pe_str (nomark _)) (pw_and1 (pt_cmpR op_lt (pv 2) pe_int (nomark _))))) (pss_cons (ps_asg (pe_op op_add pe_int (pe_call d_law_take.F (hr.mono (by first | decide | omega)) (by rfl) d_law_take.g d_law_take.kp d_law_take.b .nil pass0 (pa_cons (pv 0) (pa_cons pe_int pa_nil)))) (pg_name (i := 3) sc.nd rfl (.inl rfl)))
    (pss_one (ps_ret (pe_op (op_catT) (pe_op (op_catT) (pe_slice sl_tup (pv 1) po_none (po_some (pv 3))) (pe_tup (pa_cons (pe_call d_law_spoilt.F (hr.mono (by first | decide | omega)) (by rfl) d_law_spoilt.g d_law_spoilt.kp d_law_spoilt.b .nil pass0 (pa_cons (pv 0) (pa_cons (pe_ix ix_tup (pv 1) (pv 3) (fun _ _ => rfl)) pa_nil))) pa_nil))) (pe_slice sl_tup (pv 1) (po_some (pe_op op_add (pv 3) pe_int)) po_none))))) pss_nil)
    (pss_cons (ps_if (PW.pt (pw_and (pt_cmpR op_eq (pe_ix ix_tup (pv 1) pe_int (fun _ _ => rfl)) pe_str (nomark _)) (pw_and1 (pt_cmpR op_lt (pv 2) pe_int (nomark _))))) (pss_one (ps_ret (pe_tup (pa_cons pe_str (pa_cons (pe_ix ix_list (pe_lst (pa_cons (pe_un un_neg pe_int) (pa_cons pe_bl (pa_cons pe_non (pa_cons pe_str (pa_cons (pe_tup (pa_cons pe_int pa_nil)) pa_nil)))))) (pe_call d_law_take.F (hr.mono (by first | decide | omega)) (by rfl) d_law_take.g d_law_take.kp d_law_take.b .nil pass0 (pa_cons (pv 0) (pa_cons pe_int pa_nil))) (fun _ _ => rfl)) (pa_cons (pe_ix ix_tup (pv 1) pe_int (fun _ _ => rfl)) (pa_cons (pe_ix ix_tup (pv 1) pe_int (fun _ _ => rfl)) pa_nil))))))) pss_nil)
    (pss_cons (ps_if (PW.pt (pw_and (pt_cmpR op_eq (pe_ix ix_tup (pv 1) pe_int (fun _ _ => rfl)) pe_str (nomark _)) (pw_and1 (pt_cmpR op_lt (pv 2) pe_int (nomark _))))) (pss_one (ps_ret (pe_tup (pa_cons pe_str (pa_cons (pe_ix ix_list (pe_lst (pa_cons (pe_un un_neg pe_int) (pa_cons pe_bl (pa_cons pe_non (pa_cons pe_str (pa_cons (pe_tup (pa_cons pe_int pa_nil)) (pa_cons pe_bl (pa_cons (pe_un un_neg pe_int) (pa_cons pe_dnewK (pa_cons (pe_lst pa_nil) pa_nil)))))))))) (pv 2) (fun _ _ => rfl)) pa_nil))))) pss_nil)
    (pss_one (ps_ret (pe_ix ix_list (pe_lst (pa_cons pe_non (pa_cons (pe_tup pa_nil) (pa_cons (pe_lst pa_nil) (pa_cons pe_str (pa_cons (pe_tup (pa_cons pe_str (pa_cons pe_int pa_nil))) (pa_cons (pe_tup (pa_cons pe_str pa_nil)) (pa_cons (pe_tup (pa_cons pe_str (pa_cons pe_int (pa_cons (pe_tup (pa_cons pe_str pa_nil)) pa_nil)))) (pa_cons (pe_callTy cq_list (by rfl) nb.list (by decide +kernel) (pa_cons (pv 1) pa_nil)) (pa_cons (pe_tup (pa_cons pe_str pa_nil)) (pa_cons pe_int (pa_cons (pe_tup (pa_cons pe_str pa_nil)) (pa_cons (pe_tup (pa_cons pe_str (pa_cons pe_int (pa_cons pe_int pa_nil)))) (pa_cons (pe_op (op_catT) (pv 1) (pe_tup (pa_cons (pe_tup (pa_cons pe_str pa_nil)) pa_nil))) (pa_cons (pe_tup (pa_cons pe_int pa_nil)) pa_nil))))))))))))))) (pv 2) (fun _ _ => rfl)))))))), ?_⟩
    obtain ⟨xs, ed⟩ := trD_tup t
    rw [ed] at r0
    obtain ⟨p, rfl⟩ := rp_ref r0
    (rw [show start ["stream", "tree", "kind", "side"] [.ref a, .ref p] = [some (.ref a), some (.ref p), none, none] from rfl]; try dsimp only [cxOf])
    have W := wd_startS st (.cons r0 .nil)
    walk_at "w"
    rename_i H1 kd W1 k0 k1
    cases t with
    | leaf =>
      cases ed
      walk_at "w"
      refine eq_sn (by decide) ?_
      walk_at "w"
      refine eq_sn (by decide) ?_
      walk_at "w"
      refine eq_sn (by decide) ?_
      walk_at "w"
      apply c_listOf
      · assumption
      · walk_at "in2"
      intro H5 q5 W5
      walk_at "w"
      apply c_catT
      · assumption
      · walk_at "in2"
      · walk_at "in2"
      · simp
      · simp
      · simp
      intro H6 q6 W6
      walk_at "w"
      apply x_some
      · assumption
      · exact .here
      · exact k0
      · exact k1
      intro y d hd W7
      exact q _ y d W7.but (W7.st rfl) (W7.get .here) (notr14 (t := .leaf) rfl d hd)
    | mot m =>
      cases ed
      walk_at "w"
      refine eq_sn (by decide) ?_
      walk_at "w"
      refine eq_sn (by decide) ?_
      walk_at "w"
      refine eq_sy rfl ?_
      walk_at "w"
      refine w_ifd (fun h => ?_) (fun h => ?_)
      · walk_at "w"
        apply x_some
        · assumption
        · exact .here
        · exact k0
        · exact h
        intro y d hd W7
        walk_at "w"
        rename_i W8
        exact q _ _ _ W8.but (W8.st rfl) (W8.get .here) (notr_2 rfl (.inr (notnat9 d hd)))
      · walk_at "w"
        apply c_listOf
        · assumption
        · walk_at "in2"
        intro H5 q5 W5
        walk_at "w"
        apply c_catT
        · assumption
        · walk_at "in2"
        · walk_at "in2"
        · simp
        · simp
        · simp
        intro H6 q6 W6
        walk_at "w"
        apply x_some
        · assumption
        · exact .here
        · exact k0
        · exact k1
        intro y d hd W7
        exact q _ y d W7.but (W7.st rfl) (W7.get .here) (notr14 (t := .mot m) rfl d hd)
    | spl m t1 t2 =>
      cases ed
      simp only [Tr.dep] at hd
      walk_at "w"
      refine eq_sy rfl ?_
      walk_at "w"
      refine w_ifd (fun h => ?_) (fun h => ?_)
      · walk_at "w"
        rename_i d2 W2 d20 d21
        rcases (show d2 = 0 ∨ d2 = 1 by omega) with rfl | rfl
        · rw [show (2 : Int) + 0 = 2 from rfl]
          refine w_sl ?_
          walk_at "w"
          refine w_npart ?_
          refine w_part ?_
          walk_at "w"
          apply c_slT_lo (k := 2)
          · assumption
          · walk_at "in2"
          · rfl
          · simp
          intro H3 q3 W3
          walk_at "w"
          rename_i x4 W4
          refine ⟨a, x4, t1, rfl, W4.st rfl, W4.get .here, by omega, fun H5 y5 d5 B5 st5 r5 n5 => ?_⟩
          have W5 := (W4.draw B5 st5).put r5
          walk_at "w"
          apply c_catT
          · assumption
          · walk_at "in2"
          · walk_at "in2"
          · simp
          · simp
          · simp
          intro H6 q6 W6
          walk_at "w"
          refine w_sl ?_
          walk_at "w"
          refine w_part ?_
          walk_at "w"
          refine w_npart ?_
          apply c_slT_hi (k := 3)
          · assumption
          · walk_at "in2"
          · rfl
          · decide
          · simp
          intro H7 q7 W7
          apply c_catT
          · assumption
          · walk_at "in2"
          · walk_at "in2"
          · simp
          · simp
          · simp
          intro H8 q8 W8
          exact q _ _ _ W8.but (W8.st rfl) (W8.get .here) (notr_4 (a := .str "split") (b := .int (m : Int)) (c := d5) (e := trD t2) rfl n5.1 (fun k => okh_tr k t2) (.inr (.inl n5.2)))
        · rw [show (2 : Int) + 1 = 3 from rfl]
          refine w_sl ?_
          walk_at "w"
          refine w_npart ?_
          refine w_part ?_
          walk_at "w"
          apply c_slT_lo (k := 3)
          · assumption
          · walk_at "in2"
          · rfl
          · simp
          intro H3 q3 W3
          walk_at "w"
          rename_i x4 W4
          refine ⟨a, x4, t2, rfl, W4.st rfl, W4.get .here, by omega, fun H5 y5 d5 B5 st5 r5 n5 => ?_⟩
          have W5 := (W4.draw B5 st5).put r5
          walk_at "w"
          apply c_catT
          · assumption
          · walk_at "in2"
          · walk_at "in2"
          · simp
          · simp
          · simp
          intro H6 q6 W6
          walk_at "w"
          refine w_sl ?_
          walk_at "w"
          refine w_part ?_
          walk_at "w"
          refine w_npart ?_
          apply c_slT_hi (k := 4)
          · assumption
          · walk_at "in2"
          · rfl
          · decide
          · simp
          intro H7 q7 W7
          apply c_catT0
          · assumption
          · walk_at "in2"
          · exact .here
          · simp
          · simp
          exact q _ _ (.tuple [.str "split", .int (m : Int), trD t1, d5]) W7.but (W7.st rfl) (W7.get (.there .here)) (notr_4 (a := .str "split") (b := .int (m : Int)) (c := trD t1) (e := d5) rfl (fun k => okh_tr k t1) n5.1 (.inr (.inr n5.2)))
      · walk_at "w"
        refine eq_sy rfl ?_
        walk_at "w"
        refine w_ifd (fun h2 => ?_) (fun h2 => ?_)
        · walk_at "w"
          rename_i d2 W2 d20 d21
          apply x_some
          · assumption
          · walk_at "in2"
          · exact d20
          · exact d21
          intro y d hd W7
          walk_at "w"
          rename_i W8
          exact q _ _ _ W8.but (W8.st rfl) (W8.get .here) (notr_4 rfl (fun k => okh_tr k t1) (fun k => okh_tr k t2) (.inl (notnat5 d hd)))
        · walk_at "w"
          refine eq_sn (by decide) ?_
          walk_at "w"
          apply c_listOf
          · assumption
          · walk_at "in2"
          intro H5 q5 W5
          walk_at "w"
          apply c_catT
          · assumption
          · walk_at "in2"
          · walk_at "in2"
          · simp
          · simp
          · simp
          intro H6 q6 W6
          walk_at "w"
          apply x_some
          · assumption
          · exact .here
          · exact k0
          · exact k1
          intro y d hd W7
          exact q _ y d W7.but (W7.st rfl) (W7.get .here) (notr14 (t := .spl m t1 t2) rfl d hd)
def rec_law_spoilt {f : Addr} {fd : FuncData} (F : Fun K "_law_spoilt" "_law_spoilt" s_law_spoilt f fd) (nb : Nb mg) (d_law_take : Df P w K mg base CX0 2 "_law_take" ["stream", "many"] sp_take) (gm : mg "_law_spoilt" = some (.ref f)) (gk : PySem.W.keepIn K (.ref f) = true) (gb : Binds K fd ["stream", "tree"] []) : ∀ n, Df P w K mg base CX0 (n + 2) "_law_spoilt" ["stream", "tree"] (sp_spoilt n)
  | 0 => ⟨f, fd, gm, gk, gb, ⟨fun _ _ _ _ ⟨_, _, _, h, _⟩ => (by rw [h]; exact rfl), by
    intro A outer s H args us vs Q E _ _ _ _ h
    obtain ⟨_, _, t, _, _, _, h, _⟩ := h
    have := t.dep_pos
    omega⟩⟩
  | n + 1 => ⟨f, fd, gm, gk, gb, st_law_spoilt F nb d_law_take (rec_law_spoilt F nb d_law_take gm gk gb n)⟩
theorem ok_law_spoilt {f : Addr} {fd : FuncData} (F : Fun K "_law_spoilt" "_law_spoilt" s_law_spoilt f fd) (nb : Nb mg) (d_law_take : Df P w K mg base CX0 2 "_law_take" ["stream", "many"] sp_take) (gm : mg "_law_spoilt" = some (.ref f)) (gk : PySem.W.keepIn K (.ref f) = true) (gb : Binds K fd ["stream", "tree"] []) : FnOk P w K mg base CX0 14 f fd ["stream", "tree"] (sp_spoilt 12) := by
  exact st_law_spoilt F nb d_law_take (rec_law_spoilt F nb d_law_take gm gk gb 11)
end

/-! ### a displayed dict with one pair, its key a tuple -/
def tDispT (tk tv : TE) : TE := fun σ H Q => ∀ p, H p = none → tk σ (upd H p (.dT [])) fun x H1 => tv σ H1 fun y H2 => ∃ (b : Addr) (ks : List Key), x = .ref b ∧ H2 b = some (.tup (ks.map kV)) ∧ H2 p = some (.dT []) ∧ Q (.ref p) (upd H2 p (.dT [(ks, y)]))
theorem pe_dispT {X : Cx} {pos : Pos} {k v : Expr} {tk tv : TE} (hu : X.A.units + 1 < cLine) (hk : PE X k tk) (hv : PE X v tv) : PE X (.Dict [some k] [v] pos) (tDispT tk tv) := by
  refine ⟨fun pins s σ H Q I q => ?_⟩
  have hn := I.hok.fresh (Nat.le_refl s.heap.objs.size)
  have I1 := I.laid (a := s.heap.objs.size) (o := .dT []) (h' := s.heap.push { cls := .type "dict", data := .dict #[] }) (t' := s.toks) (fun _ _ q => Heap.get?_push_of_some _ q) (Nat.le_refl _) (dt_empty s.heap I.big)
  refine wpAny_Dict_any rfl rfl (by simp) (by simp) ?_
  refine pairTrees_cons_walk (thn (hk.run pins _ σ _ _ I1 (q _ hn)) fun u s1 ⟨x, H1, I2, rx, q1⟩ => thn (hv.run pins s1 σ H1 _ I2 q1) fun w2 s2 ⟨y, H2, I3, ry, b, ks, ex, eb, ep, q2⟩ => ?_)
  refine pairTrees_nil_walk ?_
  subst ex
  unfold storeAll
  rw [List.forIn_cons]
  cases (show u = Value.ref b from rx)
  obtain ⟨z, hd, xs, rel, dd⟩ := dt_of I3.hok ep
  have hz : xs.length ≤ sizeLine := by rw [← Paired.length rel]; exact z
  have hl : (putK ([] : List (List Key × V)) ks y).length ≤ sizeLine := by
    have := length_putK ([] : List (List Key × V)) ks y
    rw [List.length_nil] at this
    exact Nat.le_trans this (by decide)
  refine wpAny_bind (wpAny_bind (wpAny_dictSet_heap (hsz := hz) (show X.A.units < cLine by omega) (key_of I3.hok eb) dd fun h' dd' hs => wpAny_pure ?_))
  dsimp only
  rw [List.forIn_nil]
  refine wpAny_pure ⟨.ref s.heap.objs.size, _, ?_, rfl, q2⟩
  obtain ⟨o, es, ep2, hq, h2, h3, h4, _, h5⟩ := dd'
  refine d_write I3 (by rw [ep]; exact True.intro) hs ⟨o, hq⟩ ⟨hl, hd, _, (rel.put ks eb ry).keeps fun c ys ec => ?_, o, es, ep2, hq, h2, h3, h4, h5⟩
  rw [upd_ne (ne_of ec ep (fun z => nomatch z))]
  exact ec

/-! ### no number of a drawn text is long -/
theorem noLong_short {l : List Nat} (h : l.length ≤ 40) : NoLong l := fun u d v e _ => by
  rw [e] at h
  simp only [List.length_append] at h
  omega
theorem noLong_cat {u v : List Nat} {s : Nat} (hs : ¬ IsDig s) (hu : NoLong u) (hv : NoLong v) : NoLong (u ++ s :: v) := fun a d b e hd => by
  rw [List.append_assoc] at e
  rcases List.append_eq_append_iff.mp e with ⟨c, e1, e2⟩ | ⟨c, e1, e2⟩
  · cases c with
    | nil =>
      cases d with
      | nil => exact Nat.zero_le _
      | cons x r =>
        rw [List.nil_append, List.cons_append] at e2
        injection e2 with e2 _
        exact absurd (hd x (List.mem_cons_self ..)) (by rw [← e2]; exact hs)
    | cons x r =>
      rw [List.cons_append] at e2
      injection e2 with _ e2
      exact hv r d b (by rw [e2, List.append_assoc]) hd
  · rcases List.append_eq_append_iff.mp e2 with ⟨c2, e3, e4⟩ | ⟨c2, e3, e4⟩
    · exact hu a d c2 (by rw [e1, e3, List.append_assoc]) hd
    · cases c2 with
      | nil => exact hu a d [] (by rw [e1, e3]; simp) hd
      | cons x r =>
        rw [List.cons_append] at e4
        injection e4 with e4 _
        exact absurd (hd x (by rw [e3]; simp)) (by rw [← e4]; exact hs)
theorem noLong_int {a : Int} (h : a.natAbs < 10 ^ 40) : NoLong (intL a) := by
  have := noLong_short (num_len40 h)
  unfold intL
  split
  · exact noLong_cat (u := []) (not_dig (by decide)) (noLong_short (by decide)) this
  · exact this
theorem noLong_frac {a b : Int} (ha : a.natAbs < 10 ^ 40) (hb : b.natAbs < 10 ^ 40) : NoLong (fracL a b) := by
  unfold fracL
  split
  · exact noLong_int ha
  · exact noLong_cat (not_dig (by decide)) (noLong_int ha) (noLong_int hb)
theorem noLong_join : ∀ {ps : List (List Nat)}, (∀ p ∈ ps, NoLong p) → NoLong (TL.joinL [32] ps)
  | [], _ => noLong_short (by decide)
  | [p], h => h p (List.mem_cons_self ..)
  | p :: q :: r, h => by
    have := noLong_join (ps := q :: r) fun z hz => h z (List.mem_cons_of_mem _ hz)
    exact noLong_cat (not_dig (by decide)) (h p (List.mem_cons_self ..)) this
theorem noLong_nums {fs : List (Int × Int)} (h : SmF fs) : NoLong (numsL fs) := noLong_join fun p hp => by
  obtain ⟨q, hq, rfl⟩ := List.mem_map.mp hp
  exact noLong_frac (h.2 q hq).1 (h.2 q hq).2
theorem spl_count32 : ∀ (r acc : List Nat), (TL.spl [32] 0 acc r).length = r.count 32 + 1
  | [], acc => by simp [TL.spl]
  | c :: r, acc => by
    have hp : TL.pre [32] (c :: r) = ([c] == [32]) := rfl
    by_cases h : c = 32
    · subst h
      have : TL.pre [32] (32 :: r) = true := by rw [hp]; exact beq_self_eq_true _
      rw [TL.spl, if_pos this, List.length_cons, List.count_cons_self]
      have := spl_count32 r []
      show (TL.spl [32] 0 [] r).length + 1 = _
      omega
    · have : ¬ (TL.pre [32] (c :: r) = true) := fun z => h (by
        rw [hp] at z
        have := eq_of_beq z
        injection this)
      rw [TL.spl, if_neg this, spl_count32 r (acc ++ [c]), List.count_cons_of_ne (by simpa using h)]
theorem wds_count32 (l : List Nat) : (wds l).length = l.count 32 + 1 := spl_count32 l []
theorem fracL_ne {a b : Int} : fracL a b ≠ [] := by
  unfold fracL
  split
  · unfold intL
    split
    · simp
    · exact TL.numL_ne _
  · simp
theorem numsL_ne {fs : List (Int × Int)} (h : fs ≠ []) : numsL fs ≠ [] := by
  cases fs with
  | nil => exact absurd rfl h
  | cons q r =>
    unfold numsL
    cases r with
    | nil => exact fracL_ne
    | cons p s =>
      intro z
      have : fracL q.1 q.2 = [] := (List.append_eq_nil_iff.mp z).1
      exact fracL_ne this
theorem nums_count {fs : List (Int × Int)} : (numsL fs).count 32 ≤ fs.length := by
  cases fs with
  | nil => exact Nat.le_refl _
  | cons q r =>
    have := wds_count32 (numsL (q :: r))
    unfold numsL at this
    rw [wds_join (by simp) fun p hp => by
      obtain ⟨q, _, rfl⟩ := List.mem_map.mp hp
      exact fracL_free, List.length_map] at this
    unfold numsL
    omega
theorem nums_out {fs : List (Int × Int)} (h : LowS fs) : NumsOut (numsL fs) (.tuple [.str "told", .tuple (frD fs)]) := by
  refine .inl ⟨fs, ?_, rfl⟩
  by_cases h0 : numsL fs = []
  · rw [if_pos h0]
    cases fs with
    | nil => rfl
    | cons q r => exact absurd h0 (numsL_ne (by simp))
  · rw [if_neg h0]
    exact allF_nums h fun z => h0 (by rw [z]; rfl)
theorem frD_inj : ∀ {fs gs : List (Int × Int)}, frD fs = frD gs → fs = gs
  | [], [], _ => rfl
  | [], _ :: _, h => by simp [frD] at h
  | _ :: _, [], h => by simp [frD] at h
  | (a, b) :: fs, (c, d) :: gs, h => by
    simp only [frD, List.map_cons] at h
    injection h with h1 h2
    injection h1 with h1
    injection h1 with h3 h4
    injection h4 with h4 _
    injection h3 with h3
    injection h4 with h4
    rw [h3, h4, frD_inj (fs := fs) (gs := gs) h2]
theorem fitA_fr {fs : List (Int × Int)} (h : fs.length ≤ 300) : ∀ n, FitA (n + 3) (.tuple (frD fs)) := fun n => by
  refine ⟨by unfold frD; rw [List.length_map]; omega, fun z hz => ?_⟩
  obtain ⟨q, _, rfl⟩ := List.mem_map.mp hz
  refine ⟨by simp, fun y hy => ?_⟩
  simp only [List.mem_cons, List.not_mem_nil, or_false] at hy
  rcases hy with rfl | rfl <;> trivial
theorem fitA_told {z : Str} {d : PyData} {n : Nat} (h : FitA (n + 1) d) : FitA (n + 2) (.tuple [.str z, d]) := by
  refine ⟨by simp, fun y hy => ?_⟩
  simp only [List.mem_cons, List.not_mem_nil, or_false] at hy
  rcases hy with rfl | rfl
  · trivial
  · exact h
theorem fitA_out {l : List Nat} {d : PyData} (h : NumsOut l d) (hw : (wds l).length ≤ 300) (n : Nat) : FitA (n + 4) d := by
  rcases h with ⟨fs, h1, rfl⟩ | ⟨i, _, _, rfl⟩
  · refine fitA_told (n := n + 2) (fitA_fr ?_ n)
    by_cases h0 : l = []
    · rw [if_pos h0] at h1
      rw [h1]
      exact Nat.zero_le _
    · rw [if_neg h0] at h1
      rw [← h1.1]
      exact hw
  · exact fitA_told (n := n + 2) trivial
theorem nums_some (l : List Nat) : ∃ d, NumsOut l d := by
  by_cases h0 : l = []
  · exact ⟨_, .inl ⟨[], by rw [if_pos h0], rfl⟩⟩
  · rcases words_or (wds l) with ⟨fs, h⟩ | ⟨i, h⟩
    · exact ⟨_, .inl ⟨fs, by rw [if_neg h0]; exact h, rfl⟩⟩
    · exact ⟨_, .inr ⟨i, h0, h, rfl⟩⟩
/-- a fraction that is none -/
def NoFr (d : PyData) : Prop := ∀ a b, Low a b → d ≠ Fr a b
theorem not_fracs {xs ys : List PyData} {d : PyData} (h : NoFr d) {fs : List (Int × Int)} (l : LowS fs) (e : xs ++ [d] ++ ys = frD fs) : False := by
  have : d ∈ frD fs := by
    rw [← e]
    simp
  obtain ⟨q, hq, e2⟩ := List.mem_map.mp this
  exact h q.1 q.2 (l q hq) e2.symm
theorem nofr9 : ∀ d ∈ [PyData.none, .int 5, .tuple [.int 2, .int 2], .tuple [.int 1, .int 0], .tuple [.int 1, .int (-1)], .list [.int 1, .int 2], .tuple [.bool true, .int 1], .str "1", .tuple []], NoFr d := by
  intro d hd a b l
  simp only [List.mem_cons, List.not_mem_nil, or_false] at hd
  have h1 := l.pos
  have h2 := l.one
  rcases hd with rfl | rfl | rfl | rfl | rfl | rfl | rfl | rfl | rfl
  · intro e; cases e
  · intro e; cases e
  · intro e
    cases e
    exact absurd h2 (by decide)
  · intro e
    cases e
    exact absurd h1 (by decide)
  · intro e
    cases e
    exact absurd h1 (by decide)
  · intro e; cases e
  · intro e; cases e
  · intro e; cases e
  · intro e; cases e

/-! ### the law's judgement of numbers -/
theorem putR {H : Hp} {a p : Addr} {xs ys : List V} (s : Stm H a) (hg : H p = some (.lst xs)) (hx : ∀ x, xs.head? = some x → ∃ r, x = .ref r) (ne : p ≠ a) : Stm (upd H p (.lst ys)) a :=
  s.putL hg ne fun c q g n e z => by
    subst z
    obtain ⟨c2, q2, g2, n2, ns, e1, _, _, e4, e5⟩ := s
    rw [e] at e1
    injection e1 with e1
    injection e1 with e1
    injection e1 with e1 _
    injection e1 with e1
    subst e1
    rw [hg] at e4
    injection e4 with e4
    injection e4 with e4
    subst e4
    cases ns with
    | nil => exact absurd e5 (by decide)
    | cons m ms =>
      obtain ⟨r, er⟩ := hx (.int m) rfl
      cases er
theorem rps_refs {sa : Addr} {H : Hp} {xs : List V} {fs : List (Int × Int)} (r : Rps sa H xs (frD fs)) : ∀ x, xs.head? = some x → ∃ p, x = .ref p := fun x e => by
  cases fs with
  | nil =>
    cases r
    cases e
  | cons q fs =>
    cases r with
    | cons h t =>
      injection e with e
      subst e
      exact rp_ref h
theorem frD_tups (fs : List (Int × Int)) : tupOnlys (frD fs) = true := tupOnlys_all fun d h => by
  obtain ⟨q, _, rfl⟩ := List.mem_map.mp h
  rfl
section
variable {b : Bool} {sa : Addr} {H0 H : Hp} {acc : List V} {dacc : List PyData} {Q : VK} {K : PySem.W.Frag} {p q : Addr} {ds es : List PyData}
theorem c_listL (W : Wd b sa H0 H acc dacc) (m : In2 (.ref p) (.list ds) acc dacc) (h : ∀ H' q, Wd b sa H0 H' (.ref q :: acc) (.list ds :: dacc) → Q (.ref q) H') : rListOf K [.ref p] H Q := by
  obtain ⟨xs, hx, r⟩ := mp_at W m
  exact ⟨p, xs, rfl, .inl (SqL.of hx), fun l nl => h _ l ((W.go (same_new nl)).put (.lst (W.ne nl) upd_same (r.but (same_new nl).but)))⟩
theorem c_tupL (W : Wd b sa H0 H acc dacc) (m : In2 (.ref p) (.list ds) acc dacc) (h : ∀ H' q, Wd b sa H0 H' (.ref q :: acc) (.tuple ds :: dacc) → Q (.ref q) H') : rTupOf K [.ref p] H Q := by
  obtain ⟨xs, hx, r⟩ := mp_at W m
  exact ⟨p, xs, rfl, .inl ⟨SqL.of hx, fun l nl => h _ l ((W.go (same_new nl)).put (.tup (W.ne nl) upd_same (r.but (same_new nl).but)))⟩⟩
end
theorem Wd.since {a : Addr} {H H1 H2 : Hp} {vs : List V} {ds : List PyData} (W : Wd true a H1 H2 vs ds) (b : But a H H1) : Wd true a H H2 vs ds := ⟨b.trans W.but, fun e => (nomatch e), W.st, W.tr, W.r⟩
theorem Wd.off {b : Bool} {a : Addr} {H0 H : Hp} {vs : List V} {ds : List PyData} (W : Wd b a H0 H vs ds) : Wd false a H H vs ds := ⟨But.refl _ _, fun _ => Same.refl _, fun e => (nomatch e), W.tr, W.r⟩
theorem str_inj {l m : List Nat} (e : PyData.str (SX.S l) = .str (SX.S m)) : m = l := by
  injection e with e
  exact (SX.S_inj e).symm
theorem nd_fr (gs : List (Int × Int)) : noDicts (frD gs) = true := (nf_facts fun z hz => by
  obtain ⟨q, _, rfl⟩ := List.mem_map.mp hz
  exact .inr ⟨_, _, rfl⟩).1
theorem nd_told {z : Str} {d : PyData} (h : noDict d = true) : noDict (.tuple [.str z, d]) = true := by
  show (true && (noDict d && true)) = true
  rw [h]
  rfl
theorem w_itupK {K : PySem.W.Frag} {tl : TE} {σ : L2.St} {H : Hp} {R : It → Hp → Prop} (h : tl σ H fun x H1 => ∃ a, x = .ref a ∧ (∃ xs, SqT K H1 a xs) ∧ R (Itt K a) H1) : iTup K tl σ H R := h
theorem rps_two {sa : Addr} {H : Hp} {xs : List V} {x y : Str} (r : Rps sa H xs [.str x, .str y]) : xs = [.str x, .str y] := by
  cases r with
  | cons h t =>
    cases h
    cases t with
    | cons h t =>
      cases h
      cases t
      rfl
theorem nd_out {l : List Nat} {d : PyData} (h : NumsOut l d) : noDict d = true := by
  rcases h with ⟨fs, _, rfl⟩ | ⟨i, _, _, rfl⟩
  · exact nd_told (by unfold noDict; exact nd_fr fs)
  · rfl
theorem rps_rep {sa : Addr} {H : Hp} {xs : List V} {ds : List PyData} (r : Rps sa H xs ds) : ∀ n : Nat, Rps sa H (List.replicate n xs).flatten (List.replicate n ds).flatten
  | 0 => .nil
  | n + 1 => by
    rw [List.replicate_succ, List.replicate_succ, List.flatten_cons, List.flatten_cons]
    exact r.app (rps_rep r n)
theorem frD_rep (fs : List (Int × Int)) (n : Nat) : frD (List.replicate n fs).flatten = (List.replicate n (frD fs)).flatten := by
  unfold frD
  rw [List.map_flatten, List.map_replicate]
theorem mem_rep {fs : List (Int × Int)} {n : Nat} {q : Int × Int} (h : q ∈ (List.replicate n fs).flatten) : q ∈ fs := by
  obtain ⟨l, hl, hq⟩ := List.mem_flatten.mp h
  rw [(List.mem_replicate.mp hl).2] at hq
  exact hq
theorem len_rep (fs : List (Int × Int)) (n : Nat) : ((List.replicate n fs).flatten).length = n * fs.length := by
  induction n with
  | zero => simp
  | succ n ih => rw [List.replicate_succ, List.flatten_cons, List.length_append, ih, Nat.succ_mul]; omega
theorem size_int {n : Nat} {mi : Int} (h : n < 10 ^ 38) (h0 : 0 ≤ mi) (h1 : mi < 2) : ((n : Int) * (1 - 2 * mi)).natAbs < 10 ^ 40 := by
  rw [Int.natAbs_mul, Int.natAbs_natCast]
  have : (1 - 2 * mi).natAbs = 1 := by omega
  rw [this, Nat.mul_one]
  exact e3840 h
/-- the numbers drawn so far, in a list of their own -/
def NumsL (a p : Addr) (H H' : Hp) (fs : List (Int × Int)) : Prop := But a H H' ∧ Stm H' a ∧ p ≠ a ∧ H p = none ∧ LowS fs ∧ (∀ q ∈ fs, q.1.natAbs < 10 ^ 40 ∧ q.2.natAbs < 10 ^ 40) ∧ ∃ xs, H' p = some (.lst xs) ∧ Rps a H' xs (frD fs)
abbrev sp_judged : Sp := fun vs H Q _ => ∃ a, vs = [.ref a] ∧ Stm H a ∧ ∀ H', But a H H' → Stm H' a → Q (.bl true) H'
section
variable {P : Program} {w : World} {K : PySem.W.Frag} {mg : Str → Option Value} {base : Heap}
theorem ok_law_numbers_judged {f C_NoNumbers : Addr} {fd : FuncData} (F : Fun K "_law_numbers_judged" "_law_numbers_judged" s_law_numbers_judged f fd) (nb : Nb mg) (d_law_take : Df P w K mg base CX0 2 "_law_take" ["stream", "many"] sp_take) (d_law_size_drawn : Df P w K mg base CX0 3 "_law_size_drawn" ["stream"] sp_size) (d_law_low : Df P w K mg base CX0 1 "_law_low" ["top", "bottom"] sp_low) (d_law_word : Df P w K mg base CX0 1 "_law_word" ["one"] sp_fword) (d_law_alike : Df P w K mg base CX0 16 "_law_alike" ["told", "due"] (sp_alike K 16)) (d_numbers_text : Df P w K mg base (L2.CX P w) 4 "numbers_text" ["numbers"] (sp_ntext C_NoNumbers)) (kb_numbers_text : KB0 K d_numbers_text.fd ["numbers"] ["numbers"] same1) (d_law_numbers_read : Df P w K mg base CX0 4 "_law_numbers_read" ["text"] (sp_nread K)) (d_law_changed : Df P w K mg base CX0 3 "_law_changed" ["stream", "text", "most"] sp_changed) (d_law_is_long : Df P w K mg base CX0 1 "_law_is_long" ["text"] sp_llong) (d_law_numbers_due : Df P w K mg base CX0 3 "_law_numbers_due" ["text"] sp_ndue) (d_law_no_numbers : Df P w K mg base CX0 5 "_law_no_numbers" ["thing"] sp_nonum) : FnOk P w K mg base CX0 17 f fd ["stream"] sp_judged := by
  have sc := sc_law_numbers_judged
  refine F.ok sc (fun vs H Q E h => ?_) (fun cdv A outer s H vs Q E hr h => ?_)
  · obtain ⟨a, rfl, _⟩ := h
    rfl
  · obtain ⟨a, rfl, st, q⟩ := h
    refine ⟨_, (pss_cons (ps_asg (pe_lst pa_nil) (pg_name (i := 1) sc.nd rfl (.inl rfl)))
    (Evl.pss_cut (ps_for PassesOwn.never rfl (pi_range1 (by rfl) nb.range (pa_cons (pe_op op_fdivW (pe_op op_mul (pe_op op_mul (pe_call d_law_take.F (hr.mono (by first | decide | omega)) (by rfl) d_law_take.g d_law_take.kp d_law_take.b .nil pass0 (pa_cons (pv 0) (pa_cons pe_int pa_nil))) (pe_call d_law_take.F (hr.mono (by first | decide | omega)) (by rfl) d_law_take.g d_law_take.kp d_law_take.b .nil pass0 (pa_cons (pv 0) (pa_cons pe_int pa_nil)))) pe_int) pe_int) pa_nil)) (pg_name (i := 2) sc.nd rfl (.inl rfl)) (pss_cons (ps_asg (pe_call d_law_take.F (hr.mono (by first | decide | omega)) (by rfl) d_law_take.g d_law_take.kp d_law_take.b .nil pass0 (pa_cons (pv 0) (pa_cons pe_int pa_nil))) (pg_name (i := 3) sc.nd rfl (.inl rfl)))
    (pss_cons (ps_asg (pe_call d_law_size_drawn.F (hr.mono (by first | decide | omega)) (by rfl) d_law_size_drawn.g d_law_size_drawn.kp d_law_size_drawn.b .nil pass0 (pa_cons (pv 0) pa_nil)) (pg_name (i := 4) sc.nd rfl (.inl rfl)))
    (pss_one (ps_expr (pe_bm PySem.F.plainAttrs_list PySem.F.slot_list_append PySem.F.type_list_append mt_append (pv 1) (pa_cons (pe_call d_law_low.F (hr.mono (by first | decide | omega)) (by rfl) d_law_low.g d_law_low.kp d_law_low.b .nil pass0 (pa_cons (pe_op op_mul (pv 4) (pe_op op_sub pe_int (pe_op op_mul pe_int (pv 3)))) (pa_cons (pe_op op_add pe_int (pe_call d_law_size_drawn.F (hr.mono (by first | decide | omega)) (by rfl) d_law_size_drawn.g d_law_size_drawn.kp d_law_size_drawn.b .nil pass0 (pa_cons (pv 0) pa_nil))) pa_nil))) pa_nil)))))))
    (Evl.pss_cut (ps_if (pt_cmpR op_eq (pe_call d_law_take.F (hr.mono (by first | decide | omega)) (by rfl) d_law_take.g d_law_take.kp d_law_take.b .nil pass0 (pa_cons (pv 0) (pa_cons pe_int pa_nil))) pe_int (nomark _)) (pss_one (ps_asg (pe_op op_rep (pv 1) pe_int) (pg_name (i := 1) sc.nd rfl (.inl rfl)))) pss_nil)
    (Evl.pss_cut (ps_asg (pe_join pe_str (pe_lc (own := [("item", 11)]) (g := gName 11) (tt := tYes) rfl sc.nd (pi_list (pv 1)) (blkOk_by (N := NN_law_numbers_judged) (sc := defScope s_law_numbers_judged) (by decide +kernel)) (fun _ _ _ _ _ => pg_name (i := 11) sc.nd rfl (Or.inl rfl)) (fun _ _ _ _ _ => pts_nil) (fun _ _ _ _ _ => (pe_call d_law_word.F (hr.mono (by first | decide | omega)) (by rfl) d_law_word.g d_law_word.kp d_law_word.b .nil pass0 (pa_cons (pv 11) pa_nil))))) (pg_name (i := 5) sc.nd rfl (.inl rfl)))
    (Evl.pss_cut (ps_if (PW.pt (pw_or (pt_not (pt_val (pe_call d_law_alike.F (hr.mono (by first | decide | omega)) (by rfl) d_law_alike.g d_law_alike.kp d_law_alike.b .nil pass0 (pa_cons (pe_kwS (E := fun _ => E0) d_numbers_text.F (hr.mono (by first | decide | omega)) (by rfl) d_numbers_text.g d_numbers_text.kp kb_numbers_text (fun σ => passLS) (pk_cons (pe_callTy cq_list (by rfl) nb.list (by decide +kernel) (pa_cons (pv 1) pa_nil)) pk_nil)) (pa_cons (pv 5) pa_nil))))) (pw_or1 (pt_not (pt_val (pe_call d_law_alike.F (hr.mono (by first | decide | omega)) (by rfl) d_law_alike.g d_law_alike.kp d_law_alike.b .nil pass0 (pa_cons (pe_call d_numbers_text.F (hr.mono (by first | decide | omega)) (by rfl) d_numbers_text.g d_numbers_text.kp d_numbers_text.b .nil passL (pa_cons (pe_callTy cq_tuple (by rfl) nb.tuple (by decide +kernel) (pa_cons (pv 1) pa_nil)) pa_nil)) (pa_cons (pv 5) pa_nil)))))))) (pss_one (ps_ret pe_bl)) pss_nil)
    (Evl.pss_cut (ps_if (pt_not (pt_val (pe_call d_law_alike.F (hr.mono (by first | decide | omega)) (by rfl) d_law_alike.g d_law_alike.kp d_law_alike.b .nil pass0 (pa_cons (pe_call d_law_numbers_read.F (hr.mono (by first | decide | omega)) (by rfl) d_law_numbers_read.g d_law_numbers_read.kp d_law_numbers_read.b .nil pass0 (pa_cons (pv 5) pa_nil)) (pa_cons (pe_tup (pa_cons pe_str (pa_cons (pe_callTy cq_tuple (by rfl) nb.tuple (by decide +kernel) (pa_cons (pv 1) pa_nil)) pa_nil))) pa_nil))))) (pss_one (ps_ret pe_bl)) pss_nil)
    (Evl.pss_cut (ps_for PassesOwn.never rfl (pi_tup (pe_tup (pa_cons pe_str (pa_cons pe_str pa_nil)))) (pg_name (i := 6) sc.nd rfl (.inl rfl)) (pss_cons (ps_asg (pe_call d_law_changed.F (hr.mono (by first | decide | omega)) (by rfl) d_law_changed.g d_law_changed.kp d_law_changed.b .nil pass0 (pa_cons (pv 0) (pa_cons (pv 5) (pa_cons (pv 6) pa_nil)))) (pg_name (i := 7) sc.nd rfl (.inl rfl)))
    (pss_one (ps_if (PW.pt (pw_and (pt_not (pt_val (pe_call d_law_is_long.F (hr.mono (by first | decide | omega)) (by rfl) d_law_is_long.g d_law_is_long.kp d_law_is_long.b .nil pass0 (pa_cons (pv 7) pa_nil)))) (pw_and1 (pt_not (pt_val (pe_call d_law_alike.F (hr.mono (by first | decide | omega)) (by rfl) d_law_alike.g d_law_alike.kp d_law_alike.b .nil pass0 (pa_cons (pe_call d_law_numbers_read.F (hr.mono (by first | decide | omega)) (by rfl) d_law_numbers_read.g d_law_numbers_read.kp d_law_numbers_read.b .nil pass0 (pa_cons (pv 7) pa_nil)) (pa_cons (pe_call d_law_numbers_due.F (hr.mono (by first | decide | omega)) (by rfl) d_law_numbers_due.g d_law_numbers_due.kp d_law_numbers_due.b .nil pass0 (pa_cons (pv 7) pa_nil)) pa_nil)))))))) (pss_one (ps_ret pe_bl)) pss_nil))))
    (pss_cons (ps_asg (pe_call d_law_take.F (hr.mono (by first | decide | omega)) (by rfl) d_law_take.g d_law_take.kp d_law_take.b .nil pass0 (pa_cons (pv 0) (pa_cons (pe_op op_add (pe_callB cq_len (by rfl) nb.len (by decide +kernel) (pa_cons (pv 1) pa_nil)) pe_int) pa_nil))) (pg_name (i := 8) sc.nd rfl (.inl rfl)))
    (pss_cons (ps_asg (pe_call d_law_take.F (hr.mono (by first | decide | omega)) (by rfl) d_law_take.g d_law_take.kp d_law_take.b .nil pass0 (pa_cons (pv 0) (pa_cons pe_int pa_nil))) (pg_name (i := 9) sc.nd rfl (.inl rfl)))
    (pss_cons (ps_asg (pe_ix ix_list (pe_lst (pa_cons pe_non (pa_cons pe_int (pa_cons (pe_tup (pa_cons pe_int (pa_cons pe_int pa_nil))) (pa_cons (pe_tup (pa_cons pe_int (pa_cons pe_int pa_nil))) (pa_cons (pe_tup (pa_cons pe_int (pa_cons (pe_un un_neg pe_int) pa_nil))) (pa_cons (pe_lst (pa_cons pe_int (pa_cons pe_int pa_nil))) (pa_cons (pe_tup (pa_cons pe_bl (pa_cons pe_int pa_nil))) (pa_cons pe_str (pa_cons (pe_tup pa_nil) pa_nil)))))))))) (pv 9) (fun _ _ => rfl)) (pg_name (i := 10) sc.nd rfl (.inl rfl)))
    (pss_cons (ps_if (pt_not (pt_val (pe_call d_law_no_numbers.F (hr.mono (by first | decide | omega)) (by rfl) d_law_no_numbers.g d_law_no_numbers.kp d_law_no_numbers.b .nil pass0 (pa_cons (pe_op op_cat (pe_op op_cat (pe_slice sl_list (pv 1) po_none (po_some (pv 8))) (pe_lst (pa_cons (pv 10) pa_nil))) (pe_slice sl_list (pv 1) (po_some (pv 8)) po_none)) pa_nil)))) (pss_one (ps_ret pe_bl)) pss_nil)
    (pss_one (ps_ret (pe_call d_law_no_numbers.F (hr.mono (by first | decide | omega)) (by rfl) d_law_no_numbers.g d_law_no_numbers.kp d_law_no_numbers.b .nil pass0 (pa_cons (pe_ix ix_list (pe_lst (pa_cons pe_non (pa_cons pe_int (pa_cons pe_str (pa_cons pe_dnewK (pa_cons (pe_dispT (Nat.lt_of_le_of_lt (Nat.add_le_add_left (by decide) _) hr.units) (pe_tup (pa_cons pe_int (pa_cons pe_int pa_nil))) pe_int) (pa_cons pe_bl (pa_cons pe_str (pa_cons (pe_un un_neg pe_int) (pa_cons pe_int pa_nil)))))))))) (pv 9) (fun _ _ => rfl)) pa_nil))))))))))))))), ?_⟩
    (rw [show start ["stream", "numbers", "turn", "minus", "top", "text", "most", "changed", "at", "kind", "bad", "item"] [.ref a] = [some (.ref a), none, none, none, none, none, none, none, none, none, none, none] from rfl]; try dsimp only [cxOf])
    have W := wd_startS st .nil
    walk_at "v"
    refine nl_mk fun p np => ?_
    have nep : p ≠ a := W.ne np
    have b0 : But a H (upd H p (.lst [])) := (W.go (same_new (o := .lst []) np)).but
    have s0 : Stm (upd H p (.lst [])) a := (W.go (same_new (o := .lst []) np)).st rfl
    have e0 : (upd H p (.lst [])) p = some (.lst []) := upd_same
    generalize upd H p (.lst []) = H1 at b0 s0 e0 ⊢
    have W0 : Wd true a H1 H1 [] [] := wd_startS s0 .nil
    walk_at "v"
    refine ⟨fun σ' H' => ∃ fs o2 o3 o4, σ' = [some (.ref a), some (.ref p), o2, o3, o4, none, none, none, none, none, none, none] ∧ NumsL a p H H' fs ∧ fs.length ≤ 20, ?_, ?_⟩
    · walk_at "v"
      rename_i H2 d1 W2 h10 h11 H3 d2 W3 h20 h21
      have hb : 0 ≤ d1 * d2 ∧ d1 * d2 ≤ 21 := by
        rcases (show d1 = 0 ∨ d1 = 1 ∨ d1 = 2 ∨ d1 = 3 by omega) with rfl | rfl | rfl | rfl <;> omega
      generalize d1 * d2 = m at hb ⊢
      refine rng1 (j := m * 20 / 21) ⟨by omega, by omega⟩ ?_
      refine lp_range (fun i σ' H' => ∃ fs o2 o3 o4, σ' = [some (.ref a), some (.ref p), o2, o3, o4, none, none, none, none, none, none, none] ∧ NumsL a p H H' fs ∧ fs.length = i) ⟨[], none, none, none, rfl, ⟨b0.trans W3.but, W3.st rfl, nep, np, (fun q h => nomatch h), (fun q h => nomatch h), [], W3.but _ _ nep e0, .nil⟩, rfl⟩ ?_ ?_
      · rintro i σ' H' hi ⟨fs, o2, o3, o4, rfl, ⟨bb, ss, _, _, lo, sm, xs, hx, rx⟩, li⟩
        have Wl : Wd true a H' H' [] [] := wd_startS ss .nil
        have hi : i < 20 := by omega
        clear W0 W2 W3 W
        walk_at "v"
        rename_i H4 mi W4 m0 m1
        refine ⟨a, rfl, W4.st rfl, fun H5 n1 B5 st5 hn1 => ?_⟩
        have W5 := W4.draw B5 st5
        walk_at "v"
        refine w_bm ?_
        walk_at "v"
        refine ⟨tyV_lst (W5.but _ _ nep hx), ?_⟩
        walk_at "v"
        refine ⟨a, rfl, W5.st rfl, fun H6 n2 B6 st6 hn2 => ?_⟩
        have W6 := W5.draw B6 st6
        walk_at "v"
        have hs1 := size_int hn1 m0 m1
        generalize (n1 : Int) * (1 - 2 * mi) = x at hs1 ⊢
        have h3840 : (10 : Nat) ^ 38 + 1 < 10 ^ 40 := by decide
        have hs2 : (1 + (n2 : Int)).natAbs < 10 ^ 40 := by
          rw [show (1 + (n2 : Int)) = ((1 + n2 : Nat) : Int) by omega, Int.natAbs_natCast]
          exact Nat.lt_of_le_of_lt (show 1 + n2 ≤ 10 ^ 38 + 1 by omega) h3840
        have hy0 : (1 + (n2 : Int)) ≠ 0 := by omega
        refine call_low hy0 (Nat.lt_trans (log_60 (Nat.lt_of_lt_of_le hs2 e40)) (by decide)) fun H7 p7 S7 np7 hp7 => ?_
        walk_at "v"
        have hx7 : H7 p = some (.lst xs) := S7 _ _ (W6.but _ _ nep hx)
        have ll := rx.lens
        unfold frD at ll
        rw [List.length_map] at ll
        refine ap_lst hx7 (by omega) ?_
        have ne7 : p7 ≠ p := fun z => by rw [z, hx7] at hp7; cases hp7
        have np7a : p7 ≠ a := W6.ne np7
        walk_at "v"
        refine ⟨fs ++ [(nt x (1 + (n2 : Int)), bN x (1 + (n2 : Int)))], _, _, _, rfl, ⟨(bb.trans (W6.but.trans S7.but)).put np, putR ((W6.go S7).st rfl) hx7 (rps_refs (rx.but (W6.but.trans S7.but))) nep, nep, np, fun q hq => ?_, fun q hq => ?_, xs ++ [.ref p7], upd_same, ?_⟩, by rw [List.length_append, li]; rfl⟩
        · rcases List.mem_append.mp hq with hq | hq
          · exact lo q hq
          · rw [List.mem_singleton.mp hq]
            exact nt_low hy0
        · rcases List.mem_append.mp hq with hq | hq
          · exact sm q hq
          · rw [List.mem_singleton.mp hq]
            exact ⟨Nat.lt_of_le_of_lt (nt_le hy0) hs1, Nat.lt_of_le_of_lt (nb_le hy0) hs2⟩
        · have e : frD (fs ++ [(nt x (1 + (n2 : Int)), bN x (1 + (n2 : Int)))]) = frD fs ++ [Fr (nt x (1 + (n2 : Int))) (bN x (1 + (n2 : Int)))] := by
            unfold frD
            rw [List.map_append]
            rfl
          rw [e]
          exact ((rx.but (W6.but.trans S7.but)).stay hx7 (frD_tups fs)).app (.cons (.tup np7a ((upd_ne ne7).trans hp7) (.cons (.int _) (.cons (.int _) .nil))) .nil)
      · rintro σ' H' ⟨fs, o2, o3, o4, rfl, nl, li⟩
        exact ⟨fs, o2, o3, o4, rfl, nl, by omega⟩
    · rintro σ' H2 ⟨fs, o2, o3, o4, rfl, ⟨b2, s2, _, _, lo, sm, xs, hx, rx⟩, l20⟩
      have W2 : Wd true a H2 H2 [] [] := wd_startS s2 .nil
      have hn2 : H2 p = some (.lst xs) := hx
      walk_at "v"
      refine ⟨fun σ' H' => ∃ pn gs, σ' = [some (.ref a), some (.ref pn), o2, o3, o4, none, none, none, none, none, none, none] ∧ LowS gs ∧ SmF gs ∧ gs.length ≤ 240 ∧ Wd true a H H' [.ref pn] [.list (frD gs)], ?_, ?_⟩
      · walk_at "v"
        rename_i H3 d3 W3 h30 h31
        refine w_ifd (fun h => ?_) (fun h => ?_)
        · walk_at "v"
          refine ⟨p, 12, xs, rfl, rfl, W3.but _ _ nep hx, by decide, by decide, ?_, fun pn npn => ?_⟩
          · have := rx.lens
            unfold frD at this
            rw [List.length_map] at this
            exact Nat.le_trans (show xs.length * 12 ≤ 1000 by omega) (by decide)
          · walk_at "v"
            refine ⟨pn, (List.replicate 12 fs).flatten, rfl, fun q hq => lo q (mem_rep hq), ⟨by rw [len_rep]; omega, fun q hq => sm q (mem_rep hq)⟩, by rw [len_rep]; omega, ?_⟩
            have S4 := same_new (o := .lst (List.replicate (Int.toNat 12) xs).flatten) npn
            refine ((W3.go S4).since b2).put (.lst (W3.ne npn) upd_same ?_)
            rw [frD_rep]
            exact rps_rep (rx.but (W3.but.trans S4.but)) 12
        · walk_at "v"
          exact ⟨p, fs, rfl, lo, ⟨by omega, sm⟩, by omega, (W3.since b2).put (.lst nep (W3.but _ _ nep hx) (rx.but W3.but))⟩
      · rintro σ' H3 ⟨pn, gs, rfl, lo, sm, l240, W3⟩
        walk_at "v"
        refine ⟨fun σ' H' => ∃ pn', σ' = [some (.ref a), some (.ref pn'), o2, o3, o4, some (.str (SX.S (numsL gs))), none, none, none, none, none, none] ∧ Wd true a H H' [.ref pn'] [.list (frD gs)], ?_, ?_⟩
        · walk_at "v"
          have lf : (frD gs).length = gs.length := List.length_map ..
          have h1 : (gs.map fun q => fracL q.1 q.2).length = gs.length := List.length_map ..
          have h2 := sum_len (nums_parts sm)
          refine w_m1 ?_
          walk_at "v"
          refine ⟨⟨_, rfl⟩, ?_⟩
          refine w_lc ?_
          refine w_ilistK ?_
          walk_at "v"
          refine ⟨pn, rfl, (mp_at W3 .here).elim fun xs hx => ⟨xs, SqL.of hx.1⟩, ?_⟩
          refine lcp_list W3 .here (by rw [lf]; omega) (fun i dy => ∃ q, gs[i]? = some q ∧ dy = .str (SX.S (fracL q.1 q.2))) (fun i d ⟨_, _, e⟩ => by rw [e]; rfl) (fun x => rfl) (fun i x z H' Q' ez W9 q9 => ?_) fun H' D es W9 hl he => ?_
          · unfold frD at ez
            rw [List.getElem?_map] at ez
            obtain ⟨q, eq, rfl⟩ := Option.map_eq_some_iff.mp ez
            have s9 := sm.2 q (List.mem_of_getElem? eq)
            exact ⟨x, rfl, a, x, q.1, q.2, rfl, W9.tr, W9.get .here, s9.1, s9.2, fun H8 S8 => q9 _ H8 _ S8 (.str _) ⟨q, eq, rfl⟩⟩
          · have e9 : es = (gs.map fun q => fracL q.1 q.2).map fun l => PyData.str (SX.S l) := by
              refine List.ext_getElem? fun k => ?_
              rw [List.map_map, List.getElem?_map]
              cases e : es[k]? with
              | some z =>
                obtain ⟨q, e1, rfl⟩ := he k z e
                rw [e1]
                rfl
              | none =>
                have : es.length ≤ k := List.getElem?_eq_none_iff.mp e
                rw [List.getElem?_eq_none (by omega)]
                rfl
            obtain ⟨ys, hy, ry⟩ := mp_at W9 .here
            rw [e9] at ry
            have ey := rps_strs ry
            refine ⟨" ", D, (gs.map fun q => fracL q.1 q.2).map SX.S, rfl, rfl, .inl (SqL.of ?_), ?_, ?_⟩
            · rw [hy, ey]
              simp only [List.map_map]
              rfl
            · rw [List.map_map, List.length_map, show ((fun x : Str => x.length) ∘ SX.S) = List.length from funext fun l => SX.S_len l, show (" " : Str).length = 1 by decide, h1]
              rw [h1] at h2
              omega
            · rw [show (" " : Str) = SX.S [32] by decide, joinS]
              walk_at "v"
              exact ⟨pn, rfl, W9.sub (.cons (W9.get (.there .here)) .nil)⟩
        · rintro σ' H4 ⟨pn, rfl, W4⟩
          have sl := nums_len sm
          have slT : (numsL gs).length ≤ TB := Nat.le_trans sl (by decide)
          have nlg := noLong_nums sm
          have fitS : ∀ z : Str, FitA 16 (.str z) := fun z => trivial
          walk_at "v"
          refine ⟨fun σ' H' => ∃ pn', σ' = [some (.ref a), some (.ref pn'), o2, o3, o4, some (.str (SX.S (numsL gs))), none, none, none, none, none, none] ∧ Wd true a H H' [.ref pn'] [.list (frD gs)], ?_, ?_⟩
          · walk_at "v"
            have Wb := W4.off
            refine c_listL Wb .here fun H5 q5 Wb5 => ?_
            refine ⟨rfl, ?_⟩
            refine .inl ⟨a, .ref q5, .list (frD gs), rfl, Wb5.tr, Wb5.get .here, fun fs e _ => ?_, fun fs e _ H6 S6 => ?_, fun n => (n gs rfl lo).elim⟩
            · injection e with e
              rw [← frD_inj e]
              exact sm
            · injection e with e
              obtain rfl := frD_inj e
              have Wb6 := Wb5.go S6
              walk_at "v"
              refine ⟨a, _, _, .str (SX.S (numsL gs)), rfl, Wb6.tr, trivial, .str _, .str _, fun H7 S7 => ?_⟩
              have Wb7 := Wb6.go S7
              walk_at "v"
              refine c_tupL Wb7 (.there .here) fun H8 q8 Wb8 => ?_
              refine .inl ⟨a, .ref q8, .tuple (frD gs), rfl, Wb8.tr, Wb8.get .here, fun fs e _ => ?_, fun fs e _ H9 S9 => ?_, fun n => (n gs rfl lo).elim⟩
              · injection e with e
                rw [← frD_inj e]
                exact sm
              · injection e with e
                obtain rfl := frD_inj e
                have Wb9 := Wb8.go S9
                walk_at "v"
                refine ⟨a, _, _, .str (SX.S (numsL gs)), rfl, Wb9.tr, trivial, .str _, .str _, fun H10 S10 => ?_⟩
                have Wb10 := Wb9.go S10
                walk_at "v"
                exact ⟨pn, rfl, W4.go (Wb10.same rfl)⟩
          · rintro σ' H5 ⟨pn, rfl, W5⟩
            walk_at "v"
            refine ⟨fun σ' H' => ∃ pn', σ' = [some (.ref a), some (.ref pn'), o2, o3, o4, some (.str (SX.S (numsL gs))), none, none, none, none, none, none] ∧ Wd true a H H' [.ref pn'] [.list (frD gs)], ?_, ?_⟩
            · walk_at "v"
              refine ⟨a, _, .str (SX.S (numsL gs)), rfl, W5.tr, .str _, fun l e => ?_, fun nz => absurd rfl (nz _), fun l e d H6 y od S6 dy => ?_⟩
              · obtain rfl := str_inj e
                exact ⟨Nat.le_trans sl (by decide), nlg⟩
              · obtain rfl := str_inj e
                obtain rfl := numsOut_uniq od (nums_out lo)
                have W6 := W5.go S6
                have Wb6 := W6.off
                walk_at "v"
                refine c_tupL Wb6 .here fun H7 q7 Wb7 => ?_
                clear Wb6
                walk_at "v"
                rename_i H8 q8 Wb8
                refine ⟨a, y, _, _, rfl, Wb8.tr, fitA_told (n := 14) (fitA_fr (by omega) 12), dp_sm (Wb8.same rfl) dy, (Wb8.get .here).dp (nd_told (by unfold noDict; exact nd_fr gs)), fun H9 S9 => ?_⟩
                have Wb9 := Wb8.go S9
                walk_at "v"
                exact ⟨pn, rfl, W6.go (Wb9.same rfl)⟩
            · rintro σ' H6 ⟨pn, rfl, W6⟩
              walk_at "v"
              refine ⟨fun σ' H' => ∃ pn' o6 o7, σ' = [some (.ref a), some (.ref pn'), o2, o3, o4, some (.str (SX.S (numsL gs))), o6, o7, none, none, none, none] ∧ Wd true a H H' [.ref pn'] [.list (frD gs)], ?_, ?_⟩
              · clear W W0 W2 W3 W4 W5
                walk_at "v"
                refine w_itupK ?_
                walk_at "v"
                rename_i H7 T W7
                obtain ⟨xs7, hx7, rx7⟩ := tp_at W7 .here
                obtain rfl := rps_two rx7
                refine ⟨T, rfl, ⟨_, SqT.of hx7⟩, lp_tup (xs := [.str "0123456789/- ", .str "1 /.+_~ab\n\t"]) (fun i σ' H' => ∃ o6 o7, σ' = [some (.ref a), some (.ref pn), o2, o3, o4, some (.str (SX.S (numsL gs))), o6, o7, none, none, none, none] ∧ Wd true a H H' [.ref T, .ref pn] [.tuple [.str "0123456789/- ", .str "1 /.+_~ab\n\t"], .list (frD gs)]) ⟨_, _, rfl, W7⟩ (fun i σ' H' _ ⟨_, _, _, W9⟩ => ?_) ?_ ?_⟩
                · obtain ⟨xs9, hx9, rx9⟩ := tp_at W9 .here
                  rw [rps_two rx9] at hx9
                  exact SqT.of hx9
                · rintro i x σ' H' ex ⟨o6, o7, rfl, W8⟩
                  obtain ⟨m, rfl, hm, lm⟩ : ∃ m, x = .str (SX.S m) ∧ m ≠ [] ∧ m.length ≤ 1000 := by
                    match i, ex with
                    | 0, ex =>
                      cases ex
                      exact ⟨("0123456789/- " : Str).cps.toList, congrArg V.str (SX.S_tl _).symm, by decide, by decide⟩
                    | 1, ex =>
                      cases ex
                      exact ⟨("1 /.+_~ab\n\t" : Str).cps.toList, congrArg V.str (SX.S_tl _).symm, by decide, by decide⟩
                    | k + 2, ex => simp at ex
                  walk_at "v"
                  refine ⟨a, numsL gs, m, rfl, W8.st rfl, Nat.le_trans sl (by decide), hm, lm, fun H9 l' B9 st9 near => ?_⟩
                  have W9 := W8.draw B9 st9
                  have ll' : l'.length ≤ 30000 := by have := near.1; omega
                  have wl' : (wds l').length ≤ 300 := by
                    rw [wds_count32]
                    have := near.2
                    have := nums_count (fs := gs)
                    omega
                  clear W7 W8 W6
                  walk_at "v"
                  refine ⟨l', rfl, Nat.le_trans ll' (by decide), fun b hb => ?_⟩
                  walk_at "v"
                  cases b with
                  | true =>
                    refine iteF ?_
                    refine iteF ?_
                    walk_at "v"
                    exact ⟨_, _, rfl, W9⟩
                  | false =>
                    have nl' := hb rfl
                    refine iteT ?_
                    walk_at "v"
                    refine ⟨a, _, .str (SX.S l'), rfl, W9.tr, .str _, fun l e => ?_, fun nz => absurd rfl (nz _), fun l e d H10 y od S10 dy => ?_⟩
                    · obtain rfl := str_inj e
                      exact ⟨ll', nl'⟩
                    · obtain rfl := str_inj e
                      have W10 := W9.go S10
                      walk_at "v"
                      have fin : ∀ d2 H11 y2, NumsOut l d2 → Same H10 H11 → Rp a H11 y2 d2 → d = d2 ∧ FitA 16 d2 ∧ Dp K H11 y d2 ∧ Dp K H11 y2 d2 := fun d2 H11 y2 o2 S11 r11 => by
                        obtain rfl := numsOut_uniq od o2
                        exact ⟨rfl, fitA_out o2 wl' 12, dp_sm S11 dy, r11.dp (nd_out o2)⟩
                      refine ⟨a, l, rfl, W10.tr, ll', nl', Nat.le_trans wl' (by decide), fun fs hfs H11 y2 S11 r11 => ?_, fun i2 h0 hb H11 y2 S11 r11 => ?_⟩
                      · obtain ⟨_, f1, f2, f3⟩ := fin _ H11 y2 (.inl ⟨fs, hfs, rfl⟩) S11 r11
                        have W11 := W10.go S11
                        walk_at "v"
                        refine ⟨a, y, y2, _, rfl, W11.tr, f1, f2, f3, fun H12 S12 => ?_⟩
                        have W12 := W11.go S12
                        walk_at "v"
                        exact ⟨_, _, rfl, W12⟩
                      · obtain ⟨_, f1, f2, f3⟩ := fin _ H11 y2 (.inr ⟨i2, h0, hb, rfl⟩) S11 r11
                        have W11 := W10.go S11
                        walk_at "v"
                        refine ⟨a, y, y2, _, rfl, W11.tr, f1, f2, f3, fun H12 S12 => ?_⟩
                        have W12 := W11.go S12
                        walk_at "v"
                        exact ⟨_, _, rfl, W12⟩
                · rintro σ' H' ⟨o6, o7, rfl, W8⟩
                  exact ⟨pn, o6, o7, rfl, W8.sub (.cons (W8.get (.there .here)) .nil)⟩
              · rintro σ' H7 ⟨pn, o6, o7, rfl, W7⟩
                clear W W0 W2 W3 W4 W5 W6
                have lfg : (frD gs).length = gs.length := List.length_map ..
                walk_at "w"
                refine call_tk W7 (by omega) (log_k (by omega)) fun H8 i8 W8 i80 i81 => ?_
                obtain ⟨k, rfl⟩ : ∃ k : Nat, i8 = (k : Int) := ⟨i8.toNat, by omega⟩
                clear W7
                walk_at "w"
                rename_i H9 kd W9a k0 k1 _ _ _ _ _ _ _ _ _ _ _ _ _ _ _ _ _ _ _ _ W9
                clear W9a W8
                apply x_some
                · exact W9
                · exact .here
                · exact k0
                · exact k1
                intro y d hd W10
                have nfr := nofr9 d hd
                have W11 : Wd true a H _ [y, .ref pn] [d, .list (frD gs)] := W10.sub (.cons (W10.get .here) (.cons (W10.get (by walk_at "in2")) .nil))
                clear W9 W10
                walk_at "w"
                refine w_sl ?_
                walk_at "w"
                refine w_npart ?_
                refine w_part ?_
                walk_at "w"
                refine sl_lo W11 (.there .here) (k := k) rfl fun H12 q12 W12 => ?_
                walk_at "w"
                rename_i H13 q13 W13
                have lt := List.length_take_le k (frD gs)
                refine cat_le W13 (by walk_at "in2") .here (by simp only [List.length_cons, List.length_nil]; omega) fun H14 q14 W14 => ?_
                walk_at "w"
                refine w_sl ?_
                walk_at "w"
                refine w_part ?_
                walk_at "w"
                refine w_npart ?_
                refine sl_hi W14 (by walk_at "in2") (k := k) rfl fun H15 q15 W15 => ?_
                have ld : ((frD gs).drop k).length ≤ (frD gs).length := by
                  rw [List.length_drop]
                  omega
                walk_at "w"
                refine cat_le W15 (by walk_at "in2") .here (by simp only [List.length_append, List.length_cons, List.length_nil]; omega) fun H16 q16 W16 => ?_
                refine .inl ⟨a, .ref q16, _, rfl, W16.tr, W16.get .here, fun fs e l => ?_, fun H17 S17 => ?_⟩
                · injection e with e
                  exact not_fracs nfr l e
                have W17 := (W16.go S17).sub .nil
                clear W16 W15 W14 W13 W12 W11
                walk_at "w"
                rename_i H18 e18 W18
                clear W17
                refine fun p19 np19 => ?_
                have Wb : Wd false a _ _ [.ref e18] [.dict []] := (W18.go (same_new (o := .dT []) np19)).off
                have hdt : (upd H18 p19 (.dT [])) p19 = some (.dT []) := upd_same
                have S19 : Same H18 (upd H18 p19 (.dT [])) := same_new np19
                generalize upd H18 p19 (.dT []) = H19 at Wb hdt S19 ⊢
                walk_at "w"
                rename_i H20 p20 Wb20
                obtain ⟨xs20, hx20, rx20⟩ := tp_at Wb20 .here
                obtain rfl : xs20 = [.int 1, .int 2] := by
                  cases rx20 with
                  | cons h t =>
                    cases h
                    cases t with
                    | cons h t =>
                      cases h
                      cases t
                      rfl
                refine ⟨p20, [(Sum.inl 1 : Key), (Sum.inl 2 : Key)], rfl, hx20, Wb20.same rfl _ _ hdt, ?_⟩
                have S21 : Same H18 (upd H20 p19 (.dT [([(Sum.inl 1 : Key), (Sum.inl 2 : Key)], V.int 1)])) := same_updN (S19.trans (Wb20.same rfl)) np19
                have h21 : (upd H20 p19 (.dT [([(Sum.inl 1 : Key), (Sum.inl 2 : Key)], V.int 1)])) p19 = some (.dT [([(Sum.inl 1 : Key), (Sum.inl 2 : Key)], V.int 1)]) := upd_same
                generalize upd H20 p19 (.dT [([(Sum.inl 1 : Key), (Sum.inl 2 : Key)], V.int 1)]) = H21 at S21 h21 ⊢
                have W21 := W18.go S21
                clear W18 Wb Wb20
                walk_at "v"
                refine nl_mk fun q22 nq22 => ?_
                have S22 := same_new (o := .lst [.non, .int 5, .str "1/2", .ref e18, .ref p19, .bl true, .str "", .int (-1), .int 0]) nq22
                have h22 := S22 _ _ h21
                have W22 := W21.go S22
                have hL : (upd H21 q22 (.lst [.non, .int 5, .str "1/2", .ref e18, .ref p19, .bl true, .str "", .int (-1), .int 0])) q22 = some (.lst [.non, .int 5, .str "1/2", .ref e18, .ref p19, .bl true, .str "", .int (-1), .int 0]) := upd_same
                generalize upd H21 q22 (.lst [.non, .int 5, .str "1/2", .ref e18, .ref p19, .bl true, .str "", .int (-1), .int 0]) = H22 at S22 h22 W22 hL ⊢
                walk_at "v"
                have out : ∀ H23, Same H22 H23 → Q (.bl true) H23 := fun H23 S23 => q _ (W22.go S23).but ((W22.go S23).st rfl)
                have fin : ∀ x d, Rp a H22 x d → (∀ xs, ptsOf d = some xs → False) → sp_nonum [x] H22 Q E0 := fun x d r n => .inl ⟨a, x, d, rfl, W22.tr, r, fun fs e _ => n _ e, out⟩
                rcases (show kd = 0 ∨ kd = 1 ∨ kd = 2 ∨ kd = 3 ∨ kd = 4 ∨ kd = 5 ∨ kd = 6 ∨ kd = 7 ∨ kd = 8 by omega) with rfl | rfl | rfl | rfl | rfl | rfl | rfl | rfl | rfl
                · exact w_ixL (SqL.of hL) at0 (fin .non .none .non (fun _ e => nomatch e))
                · exact w_ixL (SqL.of hL) at1 (fin _ (.int 5) (.int 5) (fun _ e => nomatch e))
                · exact w_ixL (SqL.of hL) at2 (fin _ (.str "1/2") (.str _) (fun _ e => nomatch e))
                · exact w_ixL (SqL.of hL) at3 (fin _ (.dict []) (W22.get .here) (fun _ e => nomatch e))
                · exact w_ixL (SqL.of hL) at4 (.inr ⟨.ref p19, rfl, ⟨p19, _, rfl, h22⟩, out⟩)
                · exact w_ixL (SqL.of hL) at5 (fin _ (.bool true) (.bl _) (fun _ e => nomatch e))
                · exact w_ixL (SqL.of hL) at6 (fin _ (.str "") (.str _) (fun _ e => nomatch e))
                · exact w_ixL (SqL.of hL) at7 (fin _ (.int (-1)) (.int _) (fun _ e => nomatch e))
                · exact w_ixL (SqL.of hL) at8 (fin _ (.int 0) (.int _) (fun _ e => nomatch e))
end

/-! ### the law's judgement of trees -/
theorem fitA_tr : ∀ (n : Nat) (t : Tr), t.dep ≤ n → FitA (n + 1) (trD t)
  | 0, t, h => by
    have := t.dep_pos
    omega
  | n + 1, .leaf, _ => by
    refine ⟨by simp, fun y hy => ?_⟩
    simp only [List.mem_cons, List.not_mem_nil, or_false] at hy
    rcases hy with rfl
    trivial
  | n + 1, .mot m, _ => by
    refine ⟨by simp, fun y hy => ?_⟩
    simp only [List.mem_cons, List.not_mem_nil, or_false] at hy
    rcases hy with rfl | rfl <;> trivial
  | n + 1, .spl m t1 t2, h => by
    simp only [Tr.dep] at h
    refine ⟨by simp, fun y hy => ?_⟩
    simp only [List.mem_cons, List.not_mem_nil, or_false] at hy
    rcases hy with rfl | rfl | rfl | rfl
    · trivial
    · trivial
    · exact fitA_tr n t1 (by omega)
    · exact fitA_tr n t2 (by omega)
theorem notr7 : ∀ d ∈ [PyData.none, .int 5, .str ".", .list [], .dict [], .bool true, .tuple []], NoTr d := by
  intro d hd
  simp only [List.mem_cons, List.not_mem_nil, or_false] at hd
  rcases hd with rfl | rfl | rfl | rfl | rfl | rfl | rfl
  · exact notr_no fun xs e => by cases e
  · exact notr_no fun xs e => by cases e
  · exact notr_no fun xs e => by cases e
  · exact notr_no fun xs e => by cases e
  · exact notr_no fun xs e => by cases e
  · exact notr_no fun xs e => by cases e
  · exact notr_len (fun x e => by cases e) (by decide) (by decide) (by decide)
theorem aut_none {l : List Nat} {t : Tr} (h : prs 12 l = .inr (t, [])) : aut [.tree 1] 0 l = none := by
  rw [aut_prs, h]
  rfl
theorem tree_whole {t : Tr} (h : t.dep ≤ 12) (s : t.sm) : TreeOut (trL t) (.tuple [.str "told", trD t]) := .inl ⟨t, prs_whole h s, rfl⟩
theorem treeOut_uniq {l : List Nat} {d e : PyData} (h : TreeOut l d) (g : TreeOut l e) : d = e := by
  rcases h with ⟨t, h1, rfl⟩ | ⟨x, h1, _, rfl⟩
  · rcases g with ⟨u, g1, rfl⟩ | ⟨y, g1, _, rfl⟩
    · rw [h1] at g1
      injection g1 with g1
      injection g1 with g1
      rw [g1]
    · rw [aut_none h1] at g1
      cases g1
  · rcases g with ⟨u, g1, rfl⟩ | ⟨y, g1, _, rfl⟩
    · rw [aut_none g1] at h1
      cases h1
    · rw [h1] at g1
      injection g1 with g1
      rw [g1]
theorem nd_treeOut {l : List Nat} {d : PyData} (h : TreeOut l d) : noDict d = true := by
  rcases h with ⟨t, _, rfl⟩ | ⟨x, _, _, rfl⟩
  · exact nd_told (tr_lay t).2.2
  · rfl
theorem fit_treeOut {l : List Nat} {d : PyData} (h : TreeOut l d) : FitA 16 d := by
  rcases h with ⟨t, h1, rfl⟩ | ⟨x, _, _, rfl⟩
  · exact fitA_told (n := 14) (fitA_tr 14 t (Nat.le_trans (prs_ok 12 h1).2.1 (by decide)))
  · exact fitA_told (n := 14) trivial
section
variable {P : Program} {w : World} {K : PySem.W.Frag} {mg : Str → Option Value} {base : Heap}
theorem ok_law_trees_judged {f C_NoTree xC : Addr} {fd : FuncData} (F : Fun K "_law_trees_judged" "_law_trees_judged" s_law_trees_judged f fd) (nb : Nb mg) (d_law_take : Df P w K mg base CX0 2 "_law_take" ["stream", "many"] sp_take) (d_law_tree_drawn : Df P w K mg base CX0 15 "_law_tree_drawn" ["stream", "deep", "many"] (sp_tdrawn 12)) (d_law_tree_word : Df P w K mg base CX0 13 "_law_tree_word" ["tree"] (sp_wtree 13)) (d_law_alike : Df P w K mg base CX0 16 "_law_alike" ["told", "due"] (sp_alike K 16)) (d_tree_text : Df P w K mg base (L2.CX P w) 15 "tree_text" ["tree"] (sp_ttext C_NoTree)) (kb_tree_text : KB0 K d_tree_text.fd ["tree"] ["tree"] same1) (d_read_tree : Df P w K mg base (L2.CX P w) 17 "read_tree" ["text"] (sp_rtree xC)) (kb_read_tree : KB0 K d_read_tree.fd ["text"] ["text"] same1) (d_law_changed : Df P w K mg base CX0 3 "_law_changed" ["stream", "text", "most"] sp_changed) (d_law_tree_read : Df P w K mg base CX0 18 "_law_tree_read" ["text"] sp_tread) (d_law_bad_sign : Df P w K mg base CX0 1 "_law_bad_sign" ["text"] sp_badsign) (d_law_is_tree : Df P w K mg base CX0 13 "_law_is_tree" ["tree"] (sp_listree 12)) (d_law_no_tree : Df P w K mg base CX0 16 "_law_no_tree" ["thing"] sp_notree) (d_law_spoilt : Df P w K mg base CX0 14 "_law_spoilt" ["stream", "tree"] (sp_spoilt 12)) : FnOk P w K mg base CX0 19 f fd ["stream"] sp_judged := by
  have sc := sc_law_trees_judged
  refine F.ok sc (fun vs H Q E h => ?_) (fun cdv A outer s H vs Q E hr h => ?_)
  · obtain ⟨a, rfl, _⟩ := h
    rfl
  · obtain ⟨a, rfl, st, q⟩ := h
    refine ⟨_, (pss_cons (ps_asg (pe_op op_add pe_int (pe_call d_law_take.F (hr.mono (by first | decide | omega)) (by rfl) d_law_take.g d_law_take.kp d_law_take.b .nil pass0 (pa_cons (pv 0) (pa_cons pe_int pa_nil)))) (pg_name (i := 1) sc.nd rfl (.inl rfl)))
    (pss_cons (ps_asg (pe_call d_law_tree_drawn.F (hr.mono (by first | decide | omega)) (by rfl) d_law_tree_drawn.g d_law_tree_drawn.kp d_law_tree_drawn.b .nil pass0 (pa_cons (pv 0) (pa_cons (pv 1) (pa_cons (pe_op op_add pe_int (pe_call d_law_take.F (hr.mono (by first | decide | omega)) (by rfl) d_law_take.g d_law_take.kp d_law_take.b .nil pass0 (pa_cons (pv 0) (pa_cons pe_int pa_nil)))) pa_nil)))) (pg_name (i := 2) sc.nd rfl (.inl rfl)))
    (pss_cons (ps_asg (pe_call d_law_tree_word.F (hr.mono (by first | decide | omega)) (by rfl) d_law_tree_word.g d_law_tree_word.kp d_law_tree_word.b .nil pass0 (pa_cons (pv 2) pa_nil)) (pg_name (i := 3) sc.nd rfl (.inl rfl)))
    (Evl.pss_cut (ps_if (PW.pt (pw_or (pt_not (pt_val (pe_call d_law_alike.F (hr.mono (by first | decide | omega)) (by rfl) d_law_alike.g d_law_alike.kp d_law_alike.b .nil pass0 (pa_cons (pe_kwS (E := fun _ => E0) d_tree_text.F (hr.mono (by first | decide | omega)) (by rfl) d_tree_text.g d_tree_text.kp kb_tree_text (fun σ => passLS) (pk_cons (pv 2) pk_nil)) (pa_cons (pv 3) pa_nil))))) (pw_or1 (pt_not (pt_val (pe_call d_law_alike.F (hr.mono (by first | decide | omega)) (by rfl) d_law_alike.g d_law_alike.kp d_law_alike.b .nil pass0 (pa_cons (pe_kwS (E := fun _ => E0) d_read_tree.F (hr.mono (by first | decide | omega)) (by rfl) d_read_tree.g d_read_tree.kp kb_read_tree (fun σ => passLS) (pk_cons (pv 3) pk_nil)) (pa_cons (pv 2) pa_nil)))))))) (pss_one (ps_ret pe_bl)) pss_nil)
    (Evl.pss_cut (ps_for PassesOwn.never rfl (pi_tup (pe_tup (pa_cons pe_str (pa_cons pe_str pa_nil)))) (pg_name (i := 4) sc.nd rfl (.inl rfl)) (pss_cons (ps_asg (pe_call d_law_changed.F (hr.mono (by first | decide | omega)) (by rfl) d_law_changed.g d_law_changed.kp d_law_changed.b .nil pass0 (pa_cons (pv 0) (pa_cons (pv 3) (pa_cons (pv 4) pa_nil)))) (pg_name (i := 5) sc.nd rfl (.inl rfl)))
    (pss_cons (ps_asg (pe_call d_law_tree_read.F (hr.mono (by first | decide | omega)) (by rfl) d_law_tree_read.g d_law_tree_read.kp d_law_tree_read.b .nil pass0 (pa_cons (pv 5) pa_nil)) (pg_name (i := 6) sc.nd rfl (.inl rfl)))
    (pss_cons (ps_asg (pe_call d_law_bad_sign.F (hr.mono (by first | decide | omega)) (by rfl) d_law_bad_sign.g d_law_bad_sign.kp d_law_bad_sign.b .nil pass0 (pa_cons (pv 5) pa_nil)) (pg_name (i := 7) sc.nd rfl (.inl rfl)))
    (pss_cons (ps_if (PW.pt (pw_and (pt_cmpR oq_notN (pv 7) pe_non (nomark _)) (pw_and1 (pt_not (pt_val (pe_call d_law_alike.F (hr.mono (by first | decide | omega)) (by rfl) d_law_alike.g d_law_alike.kp d_law_alike.b .nil pass0 (pa_cons (pv 6) (pa_cons (pe_tup (pa_cons pe_str (pa_cons (pv 7) pa_nil))) pa_nil)))))))) (pss_one (ps_ret pe_bl)) pss_nil)
    (pss_one (ps_if (PW.pt (pw_and (pt_cmpR oq_isN (pv 7) pe_non (nomark _)) (pw_and1 (PW.pt (pw_or (pt_cmpR op_ne (pe_ix ix_tup (pv 6) pe_int (fun _ _ => rfl)) pe_str (nomark _)) (pw_or (pt_not (pt_val (pe_call d_law_is_tree.F (hr.mono (by first | decide | omega)) (by rfl) d_law_is_tree.g d_law_is_tree.kp d_law_is_tree.b .nil pass0 (pa_cons (pe_ix ix_tup (pv 6) pe_int (fun _ _ => rfl)) pa_nil)))) (pw_or1 (pt_cmpR op_ne (pe_call d_law_tree_word.F (hr.mono (by first | decide | omega)) (by rfl) d_law_tree_word.g d_law_tree_word.kp d_law_tree_word.b .nil pass0 (pa_cons (pe_ix ix_tup (pv 6) pe_int (fun _ _ => rfl)) pa_nil)) (pv 5) (nomark _))))))))) (pss_one (ps_ret pe_bl)) pss_nil)))))))
    (pss_one (ps_ret (pe_and (pe_call d_law_no_tree.F (hr.mono (by first | decide | omega)) (by rfl) d_law_no_tree.g d_law_no_tree.kp d_law_no_tree.b .nil pass0 (pa_cons (pe_call d_law_spoilt.F (hr.mono (by first | decide | omega)) (by rfl) d_law_spoilt.g d_law_spoilt.kp d_law_spoilt.b .nil pass0 (pa_cons (pv 0) (pa_cons (pv 2) pa_nil))) pa_nil)) (pe_one (pe_call d_law_no_tree.F (hr.mono (by first | decide | omega)) (by rfl) d_law_no_tree.g d_law_no_tree.kp d_law_no_tree.b .nil pass0 (pa_cons (pe_ix ix_list (pe_lst (pa_cons pe_non (pa_cons pe_int (pa_cons pe_str (pa_cons (pe_lst pa_nil) (pa_cons pe_dnewK (pa_cons pe_bl (pa_cons (pe_tup pa_nil) pa_nil)))))))) (pe_op op_mod (pv 1) pe_int) (fun _ _ => rfl)) pa_nil))))))))))), ?_⟩
    (rw [show start ["stream", "deep", "tree", "text", "most", "changed", "told", "bad"] [.ref a] = [some (.ref a), none, none, none, none, none, none, none] from rfl]; try dsimp only [cxOf])
    have W := wd_startS st .nil
    walk_at "v"
    rename_i H1 d1 W1 h10 h11 H2 d2 W2 h20 h21
    refine ⟨a, _, _, rfl, W2.st rfl, by omega, by omega, by omega, by omega, fun H3 x t B3 st3 r3 dep sm => ?_⟩
    have dep : t.dep ≤ 12 := by omega
    have W3 := (W2.draw B3 st3).put r3
    clear W W1 W2
    walk_at "v"
    refine ⟨a, x, t, rfl, W3.tr, W3.get .here, by omega, sm, fun H4 S4 => ?_⟩
    have W4 := W3.go S4
    clear W3
    have lT := trL_TB dep (Nat.le_refl _) sm
    walk_at "v"
    refine ⟨fun σ' H' => σ' = [some (.ref a), some (.int (1 + d1)), some x, some (.str (SX.S (trL t))), none, none, none, none] ∧ Wd true a H H' [x] [trD t], ?_, ?_⟩
    · walk_at "v"
      have Wb := W4.off
      refine ⟨rfl, a, x, trD t, rfl, Wb.tr, Wb.get .here, okh_tr 12 t, fun t' e _ => by rw [← trD_inj e]; exact sm, fun t' e _ H5 S5 => ?_, fun n => (n ⟨t, rfl, dep⟩).elim⟩
      obtain rfl := trD_inj e
      have Wb5 := Wb.go S5
      walk_at "v"
      refine ⟨a, _, _, .str (SX.S (trL t)), rfl, Wb5.tr, trivial, .str _, .str _, fun H6 S6 => ?_⟩
      have Wb6 := Wb5.go S6
      walk_at "v"
      refine ⟨rfl, a, _, .str (SX.S (trL t)), rfl, Wb6.tr, .str _, fun l e => ?_, fun nz => absurd rfl (nz _), fun l e => ?_⟩
      · obtain rfl := str_inj e
        exact Nat.le_trans lT (by decide)
      · obtain rfl := str_inj e
        have pw := prs_whole dep sm
        refine ⟨fun t' e' H7 y S7 r7 => ?_, fun t' c r e' => ?_, fun e e' => ?_⟩
        · rw [pw] at e'
          injection e' with e'
          injection e' with e'
          subst e'
          have Wb7 := Wb6.go S7
          walk_at "v"
          refine ⟨a, y, x, trD t, rfl, Wb7.tr, fitA_tr 15 t (by omega), r7.dp (tr_lay t).2.2, (Wb7.get .here).dp (tr_lay t).2.2, fun H8 S8 => ?_⟩
          have Wb8 := Wb7.go S8
          walk_at "v"
          exact ⟨rfl, W4.go (Wb8.same rfl)⟩
        · rw [pw] at e'
          injection e' with e'
          injection e' with _ e'
          cases e'
        · rw [pw] at e'
          cases e'
    · rintro σ' H5 ⟨rfl, W5⟩
      clear W4
      walk_at "v"
      refine ⟨fun σ' H' => ∃ o4 o5 o6 o7, σ' = [some (.ref a), some (.int (1 + d1)), some x, some (.str (SX.S (trL t))), o4, o5, o6, o7] ∧ Wd true a H H' [x] [trD t], ?_, ?_⟩
      · walk_at "v"
        refine w_itupK ?_
        walk_at "v"
        rename_i H7 T W7
        obtain ⟨xs7, hx7, rx7⟩ := tp_at W7 .here
        obtain rfl := rps_two rx7
        refine ⟨T, rfl, ⟨_, SqT.of hx7⟩, lp_tup (xs := [.str "0123456789().", .str "( 0)1.-a+/~\n\t"]) (fun i σ' H' => ∃ o4 o5 o6 o7, σ' = [some (.ref a), some (.int (1 + d1)), some x, some (.str (SX.S (trL t))), o4, o5, o6, o7] ∧ Wd true a H H' [.ref T, x] [.tuple [.str "0123456789().", .str "( 0)1.-a+/~\n\t"], trD t]) ⟨_, _, _, _, rfl, W7⟩ (fun i σ' H' _ ⟨_, _, _, _, _, W9⟩ => ?_) ?_ ?_⟩
        · obtain ⟨xs9, hx9, rx9⟩ := tp_at W9 .here
          rw [rps_two rx9] at hx9
          exact SqT.of hx9
        · rintro i z σ' H' ex ⟨o4, o5, o6, o7, rfl, W8⟩
          clear W7 W5
          obtain ⟨m, rfl, hm, lm⟩ : ∃ m, z = .str (SX.S m) ∧ m ≠ [] ∧ m.length ≤ 1000 := by
            match i, ex with
            | 0, ex =>
              cases ex
              exact ⟨("0123456789()." : Str).cps.toList, congrArg V.str (SX.S_tl _).symm, by decide, by decide⟩
            | 1, ex =>
              cases ex
              exact ⟨("( 0)1.-a+/~\n\t" : Str).cps.toList, congrArg V.str (SX.S_tl _).symm, by decide, by decide⟩
            | k + 2, ex => simp at ex
          walk_at "v"
          refine ⟨a, trL t, m, rfl, W8.st rfl, Nat.le_trans lT (by decide), hm, lm, fun H9 l' B9 st9 near => ?_⟩
          have W9 := W8.draw B9 st9
          clear W8
          have ll' : l'.length ≤ TB := Nat.le_trans near.1 (Nat.le_trans (Nat.add_le_add_right lT 1) (by decide))
          walk_at "v"
          refine ⟨a, _, .str (SX.S l'), rfl, W9.tr, .str _, fun l e => by rw [str_inj e]; exact ll', fun nz => absurd rfl (nz _), fun l e d H10 y od S10 r10 => ?_⟩
          obtain rfl := str_inj e
          have W10 := (W9.go S10).put r10
          clear W9
          walk_at "v"
          refine ⟨l, rfl, ll', fun e he H11 S11 => ?_, fun hn H11 S11 => ?_⟩
          · have W11 := W10.go S11
            clear W10
            walk_at "v"
            have ed : d = .tuple [.str "BadText", .int (pos l e + 1)] := by
              rcases od with ⟨t', h1, rfl⟩ | ⟨e2, h1, _, rfl⟩
              · rw [aut_none h1] at he
                cases he
              · rw [h1] at he
                injection he with he
                rw [he]
            rename_i H12 p12 W12
            refine ⟨a, y, .ref p12, _, rfl, W12.tr, fitA_told (n := 14) (d := .int (pos l e + 1)) trivial, by rw [← ed]; exact (W12.get (.there .here)).dp (nd_treeOut od), (W12.get .here).dp rfl, fun H13 S13 => ?_⟩
            have W13 := W12.go S13
            clear W12 W11
            walk_at "v"
            exact ⟨_, _, _, _, rfl, W13.sub (.cons (W13.get (by walk_at "in2")) (.cons (W13.get (by walk_at "in2")) .nil))⟩
          · have W11 := W10.go S11
            clear W10
            rcases od with ⟨t', h1, rfl⟩ | ⟨e2, h1, _, rfl⟩
            · obtain ⟨p11, rfl⟩ := rp_ref r10
              obtain ⟨el, dt', _⟩ := prs_ok 12 h1
              have smt := (prs_ok 12 h1).2.2
              rw [List.append_nil] at el
              walk_at "v"
              refine ne_sy rfl ?_
              walk_at "v"
              rename_i x12 W12
              refine ⟨a, x12, t', rfl, W12.tr, W12.get .here, dt', fun H13 S13 => ?_⟩
              have W13 := W12.go S13
              clear W12 W11
              walk_at "v"
              rename_i x14 W14
              refine ⟨a, x14, t', rfl, W14.tr, W14.get .here, by omega, smt, fun H15 S15 => ?_⟩
              have W15 := W14.go S15
              clear W14 W13
              walk_at "v"
              refine ne_sy (by rw [el]) ?_
              walk_at "v"
              exact ⟨_, _, _, _, rfl, W15.sub (.cons (W15.get (by walk_at "in2")) (.cons (W15.get (by walk_at "in2")) .nil))⟩
            · rw [h1] at hn
              cases hn
        · rintro σ' H' ⟨o4, o5, o6, o7, rfl, W8⟩
          exact ⟨o4, o5, o6, o7, rfl, W8.sub (.cons (W8.get (.there .here)) .nil)⟩
      · rintro σ' H6 ⟨o4, o5, o6, o7, rfl, W6⟩
        clear W5
        walk_at "w"
        refine ⟨a, x, t, rfl, W6.st rfl, W6.get .here, dep, fun H7 y d B7 st7 r7 n7 => ?_⟩
        have W7 := (W6.draw B7 st7).put r7
        clear W6
        walk_at "w"
        refine ⟨a, y, d, rfl, W7.tr, W7.get .here, n7.1 12, fun t' e => absurd e (n7.2 t'), fun H8 S8 => ?_⟩
        have W8 := W7.go S8
        clear W7
        walk_at "w"
        apply x_some
        · assumption
        · exact .here
        · omega
        · show (1 + d1) % 7 < 7
          omega
        intro y2 d2 hd2 W9
        have n9 := notr7 d2 hd2
        refine ⟨a, y2, d2, rfl, W9.tr, W9.get .here, n9.1 12, fun t' e => absurd e (n9.2 t'), fun H10 S10 => ?_⟩
        have W10 := W9.go S10
        exact q _ W10.but (W10.st rfl)
theorem ok_law_deepest {f C_NoTree : Addr} {fd : FuncData} (F : Fun K "_law_deepest" "_law_deepest" s_law_deepest f fd) (nb : Nb mg) (d_law_take : Df P w K mg base CX0 2 "_law_take" ["stream", "many"] sp_take) (d_law_size_drawn : Df P w K mg base CX0 3 "_law_size_drawn" ["stream"] sp_size) (d_law_tree_word : Df P w K mg base CX0 13 "_law_tree_word" ["tree"] (sp_wtree 13)) (d_law_alike : Df P w K mg base CX0 16 "_law_alike" ["told", "due"] (sp_alike K 16)) (d_tree_text : Df P w K mg base (L2.CX P w) 15 "tree_text" ["tree"] (sp_ttext C_NoTree)) (d_law_tree_read : Df P w K mg base CX0 18 "_law_tree_read" ["text"] sp_tread) (d_law_bad_sign : Df P w K mg base CX0 1 "_law_bad_sign" ["text"] sp_badsign) (d_law_no_tree : Df P w K mg base CX0 16 "_law_no_tree" ["thing"] sp_notree) : FnOk P w K mg base CX0 19 f fd ["stream"] sp_judged := by
  have sc := sc_law_deepest
  refine F.ok sc (fun vs H Q E h => ?_) (fun cdv A outer s H vs Q E hr h => ?_)
  · obtain ⟨a, rfl, _⟩ := h
    rfl
  · obtain ⟨a, rfl, st, q⟩ := h
    refine ⟨_, (pss_cons (ps_asg (pe_call d_law_size_drawn.F (hr.mono (by first | decide | omega)) (by rfl) d_law_size_drawn.g d_law_size_drawn.kp d_law_size_drawn.b .nil pass0 (pa_cons (pv 0) pa_nil)) (pg_name (i := 1) sc.nd rfl (.inl rfl)))
    (pss_cons (ps_asg (pe_tup (pa_cons pe_str (pa_cons (pv 1) pa_nil))) (pg_name (i := 2) sc.nd rfl (.inl rfl)))
    (pss_cons (ps_for PassesOwn.never rfl (pi_range1 (by rfl) nb.range (pa_cons pe_int pa_nil)) (pg_name (i := 3) sc.nd rfl (.inl rfl)) (pss_one (ps_if (pt_cmpR op_eq (pe_call d_law_take.F (hr.mono (by first | decide | omega)) (by rfl) d_law_take.g d_law_take.kp d_law_take.b .nil pass0 (pa_cons (pv 0) (pa_cons pe_int pa_nil))) pe_int (nomark _)) (pss_one (ps_asg (pe_tup (pa_cons pe_str (pa_cons (pv 3) (pa_cons (pv 2) (pa_cons (pe_tup (pa_cons pe_str pa_nil)) pa_nil))))) (pg_name (i := 2) sc.nd rfl (.inl rfl)))) (pss_one (ps_asg (pe_tup (pa_cons pe_str (pa_cons (pv 3) (pa_cons (pe_tup (pa_cons pe_str (pa_cons (pv 3) pa_nil))) (pa_cons (pv 2) pa_nil))))) (pg_name (i := 2) sc.nd rfl (.inl rfl)))))))
    (pss_cons (ps_asg (pe_call d_law_tree_word.F (hr.mono (by first | decide | omega)) (by rfl) d_law_tree_word.g d_law_tree_word.kp d_law_tree_word.b .nil pass0 (pa_cons (pv 2) pa_nil)) (pg_name (i := 4) sc.nd rfl (.inl rfl)))
    (Evl.pss_cut (ps_if (PW.pt (pw_or (pt_not (pt_val (pe_call d_law_alike.F (hr.mono (by first | decide | omega)) (by rfl) d_law_alike.g d_law_alike.kp d_law_alike.b .nil pass0 (pa_cons (pe_call d_tree_text.F (hr.mono (by first | decide | omega)) (by rfl) d_tree_text.g d_tree_text.kp d_tree_text.b .nil passL (pa_cons (pv 2) pa_nil)) (pa_cons (pv 4) pa_nil))))) (pw_or1 (pt_not (pt_val (pe_call d_law_alike.F (hr.mono (by first | decide | omega)) (by rfl) d_law_alike.g d_law_alike.kp d_law_alike.b .nil pass0 (pa_cons (pe_call d_law_tree_read.F (hr.mono (by first | decide | omega)) (by rfl) d_law_tree_read.g d_law_tree_read.kp d_law_tree_read.b .nil pass0 (pa_cons (pv 4) pa_nil)) (pa_cons (pe_tup (pa_cons pe_str (pa_cons (pv 2) pa_nil))) pa_nil)))))))) (pss_one (ps_ret pe_bl)) pss_nil)
    (pss_cons (ps_asg (pe_call d_law_tree_word.F (hr.mono (by first | decide | omega)) (by rfl) d_law_tree_word.g d_law_tree_word.kp d_law_tree_word.b .nil pass0 (pa_cons (pe_tup (pa_cons pe_str (pa_cons (pv 1) (pa_cons (pe_tup (pa_cons pe_str pa_nil)) (pa_cons (pv 2) pa_nil))))) pa_nil)) (pg_name (i := 5) sc.nd rfl (.inl rfl)))
    (pss_cons (ps_if (pt_not (pt_val (pe_call d_law_alike.F (hr.mono (by first | decide | omega)) (by rfl) d_law_alike.g d_law_alike.kp d_law_alike.b .nil pass0 (pa_cons (pe_call d_law_tree_read.F (hr.mono (by first | decide | omega)) (by rfl) d_law_tree_read.g d_law_tree_read.kp d_law_tree_read.b .nil pass0 (pa_cons (pv 5) pa_nil)) (pa_cons (pe_tup (pa_cons pe_str (pa_cons (pe_call d_law_bad_sign.F (hr.mono (by first | decide | omega)) (by rfl) d_law_bad_sign.g d_law_bad_sign.kp d_law_bad_sign.b .nil pass0 (pa_cons (pv 5) pa_nil)) pa_nil))) pa_nil))))) (pss_one (ps_ret pe_bl)) pss_nil)
    (pss_one (ps_ret (pe_call d_law_no_tree.F (hr.mono (by first | decide | omega)) (by rfl) d_law_no_tree.g d_law_no_tree.kp d_law_no_tree.b .nil pass0 (pa_cons (pe_tup (pa_cons pe_str (pa_cons (pv 1) (pa_cons (pe_tup (pa_cons pe_str pa_nil)) (pa_cons (pv 2) pa_nil))))) pa_nil))))))))))), ?_⟩
    (rw [show start ["stream", "number", "tree", "turn", "text", "longer"] [.ref a] = [some (.ref a), none, none, none, none, none] from rfl]; try dsimp only [cxOf])
    have W := wd_startS st .nil
    walk_at "v"
    refine ⟨a, rfl, W.st rfl, fun H1 n1 B1 st1 hn1 => ?_⟩
    have W1 := W.draw B1 st1
    clear W
    have hn1 := e3840 hn1
    walk_at "v"
    rename_i H2 p2 W2
    refine lp_range (fun i σ' H' => ∃ x t o3, σ' = [some (.ref a), some (.int (n1 : Int)), some x, o3, none, none] ∧ Wd true a H H' [x] [trD t] ∧ t.dep = i + 1 ∧ t.sm) ⟨_, .mot n1, _, rfl, W2, rfl, hn1⟩ ?_ ?_
    · rintro i σ' H' hi ⟨x, t, o3, rfl, W3, dep, sm⟩
      have hi : i < 11 := by omega
      have i40 : i < 10 ^ 40 := Nat.lt_trans hi (by decide)
      clear W1 W2
      walk_at "v"
      rename_i H4 d4 W4 h40 h41
      clear W3
      rw [Int.zero_add]
      refine w_ifd (fun h => ?_) (fun h => ?_)
      · walk_at "v"
        rename_i W6
        exact ⟨_, .spl i t .leaf, _, rfl, W6.sub (.cons (W6.get .here) .nil), by simp only [Tr.dep]; omega, i40, sm, trivial⟩
      · walk_at "v"
        rename_i W6
        exact ⟨_, .spl i (.mot i) t, _, rfl, W6.sub (.cons (W6.get .here) .nil), by simp only [Tr.dep]; omega, i40, i40, sm⟩
    · rintro σ' H3 ⟨x, t, o3, rfl, W3, dep, sm⟩
      have dep : t.dep = 12 := dep
      clear W1 W2
      have lT := trL_TB (k := 12) (by omega) (Nat.le_refl _) sm
      walk_at "v"
      refine ⟨a, x, t, rfl, W3.tr, W3.get .here, by omega, sm, fun H4 S4 => ?_⟩
      have W4 := W3.go S4
      clear W3
      walk_at "v"
      refine ⟨fun σ' H' => σ' = [some (.ref a), some (.int (n1 : Int)), some x, o3, some (.str (SX.S (trL t))), none] ∧ Wd true a H H' [x] [trD t], ?_, ?_⟩
      · walk_at "v"
        have Wb := W4.off
        refine ⟨a, x, trD t, rfl, Wb.tr, Wb.get .here, okh_tr 12 t, fun t' e _ => by rw [← trD_inj e]; exact sm, fun t' e _ H5 S5 => ?_, fun n => (n ⟨t, rfl, by omega⟩).elim⟩
        obtain rfl := trD_inj e
        have Wb5 := Wb.go S5
        walk_at "v"
        refine ⟨a, _, _, .str (SX.S (trL t)), rfl, Wb5.tr, trivial, .str _, .str _, fun H6 S6 => ?_⟩
        have Wb6 := Wb5.go S6
        clear Wb Wb5
        walk_at "v"
        refine ⟨a, _, .str (SX.S (trL t)), rfl, Wb6.tr, .str _, fun l e => by rw [str_inj e]; exact Nat.le_trans lT (by decide), fun nz => absurd rfl (nz _), fun l e d H7 y od S7 r7 => ?_⟩
        obtain rfl := str_inj e
        obtain rfl := treeOut_uniq od (tree_whole (by omega) sm)
        have Wb7 := (Wb6.go S7).put r7
        walk_at "v"
        rename_i H8 p8 Wb8
        refine ⟨a, y, .ref p8, _, rfl, Wb8.tr, fit_treeOut od, (Wb8.get (.there .here)).dp (nd_treeOut od), (Wb8.get .here).dp (nd_treeOut od), fun H9 S9 => ?_⟩
        have Wb9 := Wb8.go S9
        walk_at "v"
        exact ⟨rfl, W4.go (Wb9.same rfl)⟩
      · rintro σ' H5 ⟨rfl, W5⟩
        clear W4
        walk_at "v"
        rename_i H6 W6 H7 p7 W7
        clear W5 W6
        have dT : (Tr.spl n1 .leaf t).dep = 13 := by
          simp only [Tr.dep]
          omega
        have sT : (Tr.spl n1 .leaf t).sm := ⟨hn1, trivial, sm⟩
        have lL : (trL (.spl n1 .leaf t)).length ≤ TB := by
          have := trL_len 13 _ (Nat.le_of_eq dT) sT
          exact Nat.le_trans (show (trL (.spl n1 .leaf t)).length ≤ 344020 by omega) (by decide)
        refine ⟨a, .ref p7, .spl n1 .leaf t, rfl, W7.tr, W7.get .here, Nat.le_of_eq dT, sT, fun H8 S8 => ?_⟩
        have W8 : Wd true a H H8 [x] [trD t] := (W7.go S8).sub (.cons ((W7.go S8).get (.there (.there .here))) .nil)
        clear W7
        walk_at "v"
        refine ⟨a, _, .str (SX.S (trL (.spl n1 .leaf t))), rfl, W8.tr, .str _, fun l e => by rw [str_inj e]; exact lL, fun nz => absurd rfl (nz _), fun l e d H9 y od S9 r9 => ?_⟩
        obtain rfl := str_inj e
        have W9 := (W8.go S9).put r9
        clear W8
        walk_at "v"
        obtain ⟨e, he⟩ := aut_deep (t := .spl n1 .leaf t) (by omega) sT
        have ed : d = .tuple [.str "BadText", .int (pos (trL (.spl n1 .leaf t)) e + 1)] := by
          rcases od with ⟨t', h1, rfl⟩ | ⟨e2, h1, _, rfl⟩
          · rw [aut_none h1] at he
            cases he
          · rw [h1] at he
            injection he with he
            rw [he]
        refine ⟨trL (.spl n1 .leaf t), rfl, lL, fun e2 he2 H10 S10 => ?_, fun hn H10 S10 => ?_⟩
        · rw [he] at he2
          injection he2 with he2
          subst he2
          have W10 := W9.go S10
          clear W9
          walk_at "v"
          rename_i H12 p12 W12
          refine ⟨a, y, .ref p12, _, rfl, W12.tr, fitA_told (n := 14) (d := .int (pos (trL (.spl n1 .leaf t)) e + 1)) trivial, by rw [← ed]; exact (W12.get (.there .here)).dp (nd_treeOut od), (W12.get .here).dp rfl, fun H13 S13 => ?_⟩
          have W13 : Wd true a H H13 [x] [trD t] := (W12.go S13).sub (.cons ((W12.go S13).get (.there (.there .here))) .nil)
          clear W12 W10
          walk_at "v"
          rename_i H14 p14 W14
          refine ⟨a, .ref p14, trD (.spl n1 .leaf t), rfl, W14.tr, W14.get .here, okh_tr 12 _, fun t' e => by rw [← trD_inj e]; omega, fun H15 S15 => ?_⟩
          have W15 := W14.go S15
          exact q _ W15.but (W15.st rfl)
        · rw [he] at hn
          cases hn
end

/-! ### the law -/
theorem tkn_full : ∀ {u r : List Nat}, (∀ c ∈ u, IsDig c) → tkn u.length (u ++ r) = u ∧ skp u.length (u ++ r) = r
  | [], [], _ => ⟨rfl, rfl⟩
  | [], c :: r, _ => by
    have n : ¬ (0 < 0 ∧ IsDig c) := by omega
    show tkn 0 (c :: r) = [] ∧ skp 0 (c :: r) = c :: r
    unfold tkn skp
    rw [if_neg n, if_neg n]
    exact ⟨rfl, rfl⟩
  | c :: u, r, hd => by
    have y : 0 < u.length + 1 ∧ IsDig c := ⟨by omega, hd c (List.mem_cons_self ..)⟩
    obtain ⟨i, j⟩ := tkn_full (u := u) (r := r) fun d e => hd d (List.mem_cons_of_mem _ e)
    show tkn (u.length + 1) (c :: (u ++ r)) = c :: u ∧ skp (u.length + 1) (c :: (u ++ r)) = r
    unfold tkn skp
    rw [if_pos y, if_pos y, Nat.add_sub_cancel]
    exact ⟨by rw [i], j⟩
theorem num_len_40 {n : Nat} (h0 : 10 ^ 39 ≤ n) (h1 : n < 10 ^ 40) : (TL.numL n).length = 40 := by
  have a := num_len40 h1
  have b := val_lt (TL.numL_digits n)
  rw [TL.numL_val] at b
  by_cases h : (TL.numL n).length ≤ 39
  · have := Nat.pow_le_pow_right (show 0 < 10 by decide) h
    omega
  · omega
theorem aut_long {n : Nat} (h0 : 10 ^ 39 ≤ n) (h1 : n < 10 ^ 40) : aut [.tree 1] 0 (TL.numL n ++ [55]) = some [55] := by
  have l := num_len_40 h0 h1
  have hh := num_head n (Nat.le_trans (by decide) h0)
  have hd := TL.numL_digits n
  rw [aut_prs]
  cases e : TL.numL n with
  | nil =>
    rw [e] at l
    cases l
  | cons c u =>
    rw [e] at l hh hd
    have hc : IsDig c := hd c (List.mem_cons_self ..)
    have c48 : c ≠ 48 := fun z => hh (by rw [z]; rfl)
    have hu : u.length = 39 := by
      rw [List.length_cons] at l
      omega
    obtain ⟨i, j⟩ := tkn_full (u := u) (r := [55]) fun d e => hd d (List.mem_cons_of_mem _ e)
    rw [hu] at i j
    have hg : gap c = 39 := by
      unfold gap
      rw [if_neg c48]
    have er : rdn (c :: (u ++ [55])) = .inr (NumText.digitsVal (c :: u), [55]) := by
      unfold rdn
      dsimp only
      rw [if_pos hc, hg, i, j]
    rw [List.cons_append]
    unfold prs
    rw [if_neg (fun z => not_dig (by decide) (z ▸ hc)), if_pos (.inl fun z => not_dig (by decide) (z ▸ hc)), er, bnd_r]
    rfl
theorem nostr6 : ∀ d ∈ [PyData.none, .int 5, .list [.str "1"], .tuple [.str "1", .str "2"], .dict [], .bool true], ∀ z, d ≠ .str z := by
  intro d hd z
  simp only [List.mem_cons, List.not_mem_nil, or_false] at hd
  rcases hd with rfl | rfl | rfl | rfl | rfl | rfl <;> (intro e; cases e)
theorem bad_eqv : PyData.eqv (.tuple [.str "BadText", .int 0]) (.tuple [.str "BadText", .int 0]) = true := by decide +kernel
theorem bad_eqv41 : PyData.eqv (.tuple [.str "BadText", .int 41]) (.tuple [.str "BadText", .int 41]) = true := by decide +kernel
theorem bad_shaped {n : Int} : SeqAt.shaped (.tuple [.str "BadText", .int n]) = true := by
  unfold SeqAt.shaped
  show (PyData.canLay0 (.tuple [.str "BadText", .int n]) && decide (PyData.depth (.tuple [.str "BadText", .int n]) ≤ 64)) = true
  rw [show PyData.canLay0 (.tuple [.str "BadText", .int n]) = (PyData.canLay0 (.str "BadText") && (true && true)) from rfl, show PyData.canLay0 (.str "BadText") = true by decide +kernel]
  simp [PyData.depth, PyData.depthAll]
section
variable {P : Program} {w : World} {K : PySem.W.Frag} {mg : Str → Option Value} {base : Heap}
theorem ok_law {f : Addr} {fd : FuncData} (F : Fun K "law" "law" s_law f fd) (nb : Nb mg) (d_law_stream : Df P w K mg base CX0 2 "_law_stream" ["script"] (sp_stream K)) (d_law_take : Df P w K mg base CX0 2 "_law_take" ["stream", "many"] sp_take) (d_law_numbers_read : Df P w K mg base CX0 4 "_law_numbers_read" ["text"] (sp_nread K)) (d_law_tree_read : Df P w K mg base CX0 18 "_law_tree_read" ["text"] sp_tread) (d_law_alike : Df P w K mg base CX0 16 "_law_alike" ["told", "due"] (sp_alike K 16)) (d_law_deepest : Df P w K mg base CX0 19 "_law_deepest" ["stream"] sp_judged) (d_law_numbers_judged : Df P w K mg base CX0 17 "_law_numbers_judged" ["stream"] sp_judged) (d_law_trees_judged : Df P w K mg base CX0 19 "_law_trees_judged" ["stream"] sp_judged) : FnOk P w K mg base CX0 20 f fd ["script"] (sp_law K) := by
  have sc := sc_law
  refine F.ok sc (fun vs H Q E h => ?_) (fun cdv A outer s H vs Q E hr h => ?_)
  · obtain ⟨a, ns, rfl, _⟩ := h
    rfl
  · obtain ⟨s0, ns, rfl, sq, l63, q⟩ := h
    refine ⟨_, (pss_cons (ps_asg (pe_call d_law_stream.F (hr.mono (by first | decide | omega)) (by rfl) d_law_stream.g d_law_stream.kp d_law_stream.b .nil pass0 (pa_cons (pv 0) pa_nil)) (pg_name (i := 1) sc.nd rfl (.inl rfl)))
    (pss_cons (ps_asg (pe_call d_law_take.F (hr.mono (by first | decide | omega)) (by rfl) d_law_take.g d_law_take.kp d_law_take.b .nil pass0 (pa_cons (pv 1) (pa_cons pe_int pa_nil))) (pg_name (i := 2) sc.nd rfl (.inl rfl)))
    (pss_cons (ps_asg (pe_ix ix_list (pe_lst (pa_cons pe_non (pa_cons pe_int (pa_cons (pe_lst (pa_cons pe_str pa_nil)) (pa_cons (pe_tup (pa_cons pe_str (pa_cons pe_str pa_nil))) (pa_cons pe_dnewK (pa_cons pe_bl pa_nil))))))) (pv 2) (fun _ _ => rfl)) (pg_name (i := 3) sc.nd rfl (.inl rfl)))
    (pss_cons (ps_if (PW.pt (pw_or (pt_cmpR (op_neD hr.units) (pe_call d_law_numbers_read.F (hr.mono (by first | decide | omega)) (by rfl) d_law_numbers_read.g d_law_numbers_read.kp d_law_numbers_read.b .nil pass0 (pa_cons (pv 3) pa_nil)) (pe_tup (pa_cons pe_str (pa_cons pe_int pa_nil))) (nomark _)) (pw_or1 (pt_cmpR (op_neD hr.units) (pe_call d_law_tree_read.F (hr.mono (by first | decide | omega)) (by rfl) d_law_tree_read.g d_law_tree_read.kp d_law_tree_read.b .nil pass0 (pa_cons (pv 3) pa_nil)) (pe_tup (pa_cons pe_str (pa_cons pe_int pa_nil))) (nomark _))))) (pss_one (ps_ret pe_bl)) pss_nil)
    (Evl.pss_cut (ps_if (pt_cmpR op_eq (pv 2) pe_int (nomark _)) (pss_cons (ps_asg (pe_callTy cq_strI (by rfl) nb.str (by decide +kernel) (pa_cons (pe_op op_add (pe_op op_pow pe_int pe_int) (pe_call d_law_take.F (hr.mono (by first | decide | omega)) (by rfl) d_law_take.g d_law_take.kp d_law_take.b .nil pass0 (pa_cons (pv 1) (pa_cons (pe_op op_pow pe_int pe_int) pa_nil)))) pa_nil)) (pg_name (i := 4) sc.nd rfl (.inl rfl)))
    (pss_cons (ps_if (pt_not (pt_val (pe_call d_law_alike.F (hr.mono (by first | decide | omega)) (by rfl) d_law_alike.g d_law_alike.kp d_law_alike.b .nil pass0 (pa_cons (pe_call d_law_tree_read.F (hr.mono (by first | decide | omega)) (by rfl) d_law_tree_read.g d_law_tree_read.kp d_law_tree_read.b .nil pass0 (pa_cons (pv 4) pa_nil)) (pa_cons (pe_tup (pa_cons pe_str (pa_cons (pe_tup (pa_cons pe_str (pa_cons (pe_callTy cq_intS (by rfl) nb.int (by decide +kernel) (pa_cons (pv 4) pa_nil)) pa_nil))) pa_nil))) pa_nil))))) (pss_one (ps_ret pe_bl)) pss_nil)
    (pss_one (ps_if (PW.pt (pw_or (pt_cmpR (op_neD hr.units) (pe_call d_law_tree_read.F (hr.mono (by first | decide | omega)) (by rfl) d_law_tree_read.g d_law_tree_read.kp d_law_tree_read.b .nil pass0 (pa_cons (pe_op op_add_str (pv 4) pe_str) pa_nil)) (pe_tup (pa_cons pe_str (pa_cons pe_int pa_nil))) (nomark _)) (pw_or1 (pt_not (pt_val (pe_call d_law_deepest.F (hr.mono (by first | decide | omega)) (by rfl) d_law_deepest.g d_law_deepest.kp d_law_deepest.b .nil pass0 (pa_cons (pv 1) pa_nil))))))) (pss_one (ps_ret pe_bl)) pss_nil)))) pss_nil)
    (pss_one (ps_ret (pe_and (pe_call d_law_numbers_judged.F (hr.mono (by first | decide | omega)) (by rfl) d_law_numbers_judged.g d_law_numbers_judged.kp d_law_numbers_judged.b .nil pass0 (pa_cons (pv 1) pa_nil)) (pe_one (pe_call d_law_trees_judged.F (hr.mono (by first | decide | omega)) (by rfl) d_law_trees_judged.g d_law_trees_judged.kp d_law_trees_judged.b .nil pass0 (pa_cons (pv 1) pa_nil))))))))))), ?_⟩
    (rw [show start ["script", "stream", "kind", "other", "digits"] [.ref s0] = [some (.ref s0), none, none, none, none] from rfl]; try dsimp only [cxOf])
    walk_at "w"
    refine ⟨s0, ns, rfl, sq, fun H1 a S1 na st1 => ?_⟩
    have W1 := wd_startS st1 .nil
    walk_at "w"
    rename_i H2 kd W2 k0 k1 _ _ _ _ _ _ _ _ _ _ _ W3
    apply x_some
    · exact W3
    · exact .here
    · exact k0
    · exact k1
    intro x d hd W4
    have nos := nostr6 d hd
    have W5 : Wd true a H1 _ [x] [d] := W4.sub (.cons (W4.get .here) .nil)
    clear W1 W2 W3 W4
    walk_at "w"
    refine ⟨a, x, d, rfl, W5.tr, W5.get .here, fun l e => absurd e (nos _), fun _ H6 y S6 dy => ?_, fun l e => absurd e (nos _)⟩
    have W6 := W5.go S6
    have Wb := W6.off
    clear W5
    walk_at "w"
    rename_i H7 p7 Wb7
    refine ⟨_, _, dp_sm (Wb7.same rfl) dy, (Wb7.get .here).dp rfl, bad_shaped, bad_shaped, ?_⟩
    rw [bad_eqv]
    refine ⟨_, rfl, iteF ?_⟩
    have W8 := W6.go (Wb7.same rfl)
    clear W6 Wb Wb7
    walk_at "w"
    refine ⟨a, x, d, rfl, W8.tr, W8.get .here, fun l e => absurd e (nos _), fun _ H9 y9 S9 r9 => ?_, fun l e => absurd e (nos _)⟩
    have W9 := (W8.go S9).put r9
    clear W8
    walk_at "w"
    rename_i H10 p10 W10
    refine ⟨_, _, (W10.get (.there .here)).dp rfl, (W10.get .here).dp rfl, bad_shaped, bad_shaped, ?_⟩
    rw [bad_eqv]
    refine ⟨_, rfl, iteF ?_⟩
    have W11 := W10.sub .nil
    clear W9 W10
    walk_at "w"
    refine ⟨fun σ' H' => ∃ o4, σ' = [some (.ref s0), some (.ref a), some (.int kd), some x, o4] ∧ Stm H' a, ?_, ?_⟩
    · walk_at "w"
      refine w_ifd (fun h => ?_) (fun h => ?_)
      · walk_at "w"
        rename_i H12 r W12 r0 r1
        rw [show (10 : Int) ^ Int.toNat 38 = 100000000000000000000000000000000000000 by decide] at r1
        clear W11
        rw [show (10 : Int) ^ Int.toNat 39 = 1000000000000000000000000000000000000000 by decide]
        obtain ⟨N, eN, N0, N1⟩ : ∃ N : Nat, (1000000000000000000000000000000000000000 : Int) + r = (N : Int) ∧ 10 ^ 39 ≤ N ∧ N < 10 ^ 40 := ⟨((1000000000000000000000000000000000000000 : Int) + r).toNat, by omega, by show 1000000000000000000000000000000000000000 ≤ _; omega, by show _ < 10000000000000000000000000000000000000000; omega⟩
        rw [eN]
        refine ⟨(N : Int), rfl, log_60 (sm_log N1), ?_⟩
        rw [strN]
        have lN := num_len_40 N0 N1
        have lNT : (TL.numL N).length ≤ TB := by rw [lN]; decide
        walk_at "w"
        refine ⟨a, _, .str (SX.S (TL.numL N)), rfl, W12.tr, .str _, fun l e => by rw [str_inj e]; exact lNT, fun nz => absurd rfl (nz _), fun l e d H13 y od S13 r13 => ?_⟩
        obtain rfl := str_inj e
        obtain rfl := treeOut_uniq od (tree_whole (t := .mot N) (by simp [Tr.dep]) N1)
        have W13 := (W12.go S13).put r13
        clear W12
        walk_at "w"
        refine int_s (TL.numL_digits N) (TL.numL_ne N) (by omega) ?_
        rw [TL.numL_val]
        walk_at "w"
        rename_i H14 p14 W14
        refine ⟨a, y, .ref p14, _, rfl, W14.tr, fit_treeOut od, (W14.get (by walk_at "in2")).dp (nd_treeOut od), (W14.get (d := .tuple [.str "told", trD (.mot N)]) .here).dp (nd_treeOut od), fun H15 S15 => ?_⟩
        have W15 := (W14.go S15).sub .nil
        clear W13 W14
        walk_at "w"
        have c7 := cat2 (y := "7") (u := TL.numL N) (v := [55]) rfl (by decide) lNT (by decide)
        refine ⟨_, _, rfl, rfl, c7.1, ?_⟩
        rw [c7.2]
        have l41 : (TL.numL N ++ [55]).length = 41 := by rw [List.length_append, lN]; rfl
        walk_at "w"
        refine ⟨a, _, .str (SX.S (TL.numL N ++ [55])), rfl, W15.tr, .str _, fun l e => by rw [str_inj e, l41]; decide, fun nz => absurd rfl (nz _), fun l e d H16 y6 od6 S16 r16 => ?_⟩
        obtain rfl := str_inj e
        have al := aut_long N0 N1
        have ed : d = .tuple [.str "BadText", .int 41] := by
          rcases od6 with ⟨t', h1, rfl⟩ | ⟨e2, h1, _, rfl⟩
          · rw [aut_none h1] at al
            cases al
          · rw [h1] at al
            injection al with al
            subst al
            rw [show pos (TL.numL N ++ [55]) [55] + 1 = 41 by unfold pos; rw [l41]; rfl]
        subst ed
        have W16 := (W15.go S16).put r16
        clear W15
        walk_at "w"
        rename_i H17 p17 W17
        refine ⟨_, _, (W17.get (.there .here)).dp rfl, (W17.get .here).dp rfl, bad_shaped, bad_shaped, ?_⟩
        rw [bad_eqv41]
        refine ⟨_, rfl, iteF ?_⟩
        have W18 := W17.sub .nil
        clear W16 W17
        walk_at "w"
        refine ⟨a, rfl, W18.st rfl, fun H19 B19 st19 => ?_⟩
        walk_at "w"
        exact ⟨_, rfl, st19⟩
      · walk_at "w"
        exact ⟨_, rfl, W11.st rfl⟩
    · rintro σ' H12 ⟨o4, rfl, st12⟩
      clear W11
      walk_at "w"
      refine ⟨a, rfl, st12, fun H13 B13 st13 => ?_⟩
      walk_at "w"
      refine ⟨a, rfl, st13, fun H14 B14 st14 => ?_⟩
      exact q _
end

abbrev i0_NoNumbers : Stmt := inClass (topS 3) 0
theorem sci_NoNumbers : FnScope ["self"] ["self"] (defScope i0_NoNumbers) := ⟨rfl, rfl, rfl, by decide +kernel, rfl, by decide +kernel, by decide +kernel⟩
theorem okinit_NoNumbers {P : Program} {w : World} {K : PySem.W.Frag} {mg : Str → Option Value} {base : Heap} {f : Addr} {fd : FuncData} (F : Fun K "__init__" "NoNumbers.__init__" i0_NoNumbers f fd) : FnOk P w K mg base CX0 1 f fd ["self"] spPass := by
  refine F.ok sci_NoNumbers (fun vs H Q E h => ?_) (fun cdv A outer s H vs Q E hr h => ?_)
  · obtain ⟨⟨v, rfl⟩, _⟩ := h
    rfl
  · obtain ⟨⟨v, rfl⟩, q⟩ := h
    exact ⟨_, pss_one ps_pass, q⟩
abbrev i0_BadText : Stmt := inClass (topS 4) 0
theorem sci_BadText : FnScope ["self", "at"] ["self", "at"] (defScope i0_BadText) := ⟨rfl, rfl, rfl, by decide +kernel, rfl, by decide +kernel, by decide +kernel⟩
theorem okinit_BadText {P : Program} {w : World} {K : PySem.W.Frag} {mg : Str → Option Value} {base : Heap} {C f : Addr} {fd : FuncData} (F : Fun K "__init__" "BadText.__init__" i0_BadText f fd) : FnOk P w K mg base CX0 1 f fd ["self", "at"] (sp_ini1 K C "at") := by
  refine F.ok sci_BadText (fun vs H Q E h => ?_) (fun cdv A outer s H vs Q E hr h => ?_)
  · obtain ⟨a, v, rfl, _⟩ := h
    rfl
  · obtain ⟨a, v, rfl, T, no, e, q⟩ := h
    exact ⟨_, pss_one (ps_ost (pv 0) (pv 1)), ⟨v, rfl, .ref a, rfl, a, C, rfl, T, no, .inl ⟨e, fun dx n1 n2 => q dx n1 n2⟩⟩⟩
abbrev i0_NoTree : Stmt := inClass (topS 5) 0
theorem sci_NoTree : FnScope ["self"] ["self"] (defScope i0_NoTree) := ⟨rfl, rfl, rfl, by decide +kernel, rfl, by decide +kernel, by decide +kernel⟩
theorem okinit_NoTree {P : Program} {w : World} {K : PySem.W.Frag} {mg : Str → Option Value} {base : Heap} {f : Addr} {fd : FuncData} (F : Fun K "__init__" "NoTree.__init__" i0_NoTree f fd) : FnOk P w K mg base CX0 1 f fd ["self"] spPass := by
  refine F.ok sci_NoTree (fun vs H Q E h => ?_) (fun cdv A outer s H vs Q E hr h => ?_)
  · obtain ⟨⟨v, rfl⟩, _⟩ := h
    rfl
  · obtain ⟨⟨v, rfl⟩, q⟩ := h
    exact ⟨_, pss_one ps_pass, q⟩
theorem all_mk {l : PySem.W.OpenLaw} {w : World} {K : PySem.W.Frag} {h : Heap} {mg : Str → Option Value} {fa : Addr} (X : K.In h) (G : h.Ns mainGlobals mg) (hfa : mg "law" = some (.ref fa))
    {f_is_integer : Addr} {od_is_integer an_is_integer : Option Addr} {sl_is_integer : Array (Option Value)} {oc_is_integer kV_is_integer dc_is_integer pm_is_integer cd_is_integer ct_is_integer : Value}
    {f_is_row : Addr} {od_is_row an_is_row : Option Addr} {sl_is_row : Array (Option Value)} {oc_is_row kV_is_row dc_is_row pm_is_row cd_is_row ct_is_row : Value}
    {f_is_tuple_of : Addr} {od_is_tuple_of an_is_tuple_of : Option Addr} {sl_is_tuple_of : Array (Option Value)} {oc_is_tuple_of kV_is_tuple_of dc_is_tuple_of pm_is_tuple_of cd_is_tuple_of ct_is_tuple_of : Value}
    {f_is_fraction : Addr} {od_is_fraction an_is_fraction : Option Addr} {sl_is_fraction : Array (Option Value)} {oc_is_fraction kV_is_fraction dc_is_fraction pm_is_fraction cd_is_fraction ct_is_fraction : Value}
    {f_are_fractions : Addr} {od_are_fractions an_are_fractions : Option Addr} {sl_are_fractions : Array (Option Value)} {oc_are_fractions kV_are_fractions dc_are_fractions pm_are_fractions cd_are_fractions ct_are_fractions : Value}
    {f_word_of : Addr} {od_word_of an_word_of : Option Addr} {sl_word_of : Array (Option Value)} {oc_word_of kV_word_of dc_word_of pm_word_of cd_word_of ct_word_of : Value}
    {f_is_whole_word : Addr} {od_is_whole_word an_is_whole_word : Option Addr} {sl_is_whole_word : Array (Option Value)} {oc_is_whole_word kV_is_whole_word dc_is_whole_word pm_is_whole_word cd_is_whole_word ct_is_whole_word : Value}
    {f_number_in : Addr} {od_number_in an_number_in : Option Addr} {sl_number_in : Array (Option Value)} {oc_number_in kV_number_in dc_number_in pm_number_in cd_number_in ct_number_in : Value}
    {f_fraction_word : Addr} {od_fraction_word an_fraction_word : Option Addr} {sl_fraction_word : Array (Option Value)} {oc_fraction_word kV_fraction_word dc_fraction_word pm_fraction_word cd_fraction_word ct_fraction_word : Value}
    {f_fraction_in : Addr} {od_fraction_in an_fraction_in : Option Addr} {sl_fraction_in : Array (Option Value)} {oc_fraction_in kV_fraction_in dc_fraction_in pm_fraction_in cd_fraction_in ct_fraction_in : Value}
    {f_numbers_text : Addr} {od_numbers_text an_numbers_text : Option Addr} {sl_numbers_text : Array (Option Value)} {oc_numbers_text kV_numbers_text dc_numbers_text pm_numbers_text cd_numbers_text ct_numbers_text : Value}
    {f_read_numbers : Addr} {od_read_numbers an_read_numbers : Option Addr} {sl_read_numbers : Array (Option Value)} {oc_read_numbers kV_read_numbers dc_read_numbers pm_read_numbers cd_read_numbers ct_read_numbers : Value}
    {f_is_number : Addr} {od_is_number an_is_number : Option Addr} {sl_is_number : Array (Option Value)} {oc_is_number kV_is_number dc_is_number pm_is_number cd_is_number ct_is_number : Value}
    {f_is_tree : Addr} {od_is_tree an_is_tree : Option Addr} {sl_is_tree : Array (Option Value)} {oc_is_tree kV_is_tree dc_is_tree pm_is_tree cd_is_tree ct_is_tree : Value}
    {f_written_tree : Addr} {od_written_tree an_written_tree : Option Addr} {sl_written_tree : Array (Option Value)} {oc_written_tree kV_written_tree dc_written_tree pm_written_tree cd_written_tree ct_written_tree : Value}
    {f_tree_text : Addr} {od_tree_text an_tree_text : Option Addr} {sl_tree_text : Array (Option Value)} {oc_tree_text kV_tree_text dc_tree_text pm_tree_text cd_tree_text ct_tree_text : Value}
    {f_sign_at : Addr} {od_sign_at an_sign_at : Option Addr} {sl_sign_at : Array (Option Value)} {oc_sign_at kV_sign_at dc_sign_at pm_sign_at cd_sign_at ct_sign_at : Value}
    {f_behind_sign : Addr} {od_behind_sign an_behind_sign : Option Addr} {sl_behind_sign : Array (Option Value)} {oc_behind_sign kV_behind_sign dc_behind_sign pm_behind_sign cd_behind_sign ct_behind_sign : Value}
    {f_read_number : Addr} {od_read_number an_read_number : Option Addr} {sl_read_number : Array (Option Value)} {oc_read_number kV_read_number dc_read_number pm_read_number cd_read_number ct_read_number : Value}
    {f_tree_from : Addr} {od_tree_from an_tree_from : Option Addr} {sl_tree_from : Array (Option Value)} {oc_tree_from kV_tree_from dc_tree_from pm_tree_from cd_tree_from ct_tree_from : Value}
    {f_read_tree : Addr} {od_read_tree an_read_tree : Option Addr} {sl_read_tree : Array (Option Value)} {oc_read_tree kV_read_tree dc_read_tree pm_read_tree cd_read_tree ct_read_tree : Value}
    {f_law_mixed : Addr} {od_law_mixed an_law_mixed : Option Addr} {sl_law_mixed : Array (Option Value)} {oc_law_mixed kV_law_mixed dc_law_mixed pm_law_mixed cd_law_mixed ct_law_mixed : Value}
    {f_law_great : Addr} {od_law_great an_law_great : Option Addr} {sl_law_great : Array (Option Value)} {oc_law_great kV_law_great dc_law_great pm_law_great cd_law_great ct_law_great : Value}
    {f_law_stream : Addr} {od_law_stream an_law_stream : Option Addr} {sl_law_stream : Array (Option Value)} {oc_law_stream kV_law_stream dc_law_stream pm_law_stream cd_law_stream ct_law_stream : Value}
    {f_law_take : Addr} {od_law_take an_law_take : Option Addr} {sl_law_take : Array (Option Value)} {oc_law_take kV_law_take dc_law_take pm_law_take cd_law_take ct_law_take : Value}
    {f_law_low : Addr} {od_law_low an_law_low : Option Addr} {sl_law_low : Array (Option Value)} {oc_law_low kV_law_low dc_law_low pm_law_low cd_law_low ct_law_low : Value}
    {f_law_is_integer : Addr} {od_law_is_integer an_law_is_integer : Option Addr} {sl_law_is_integer : Array (Option Value)} {oc_law_is_integer kV_law_is_integer dc_law_is_integer pm_law_is_integer cd_law_is_integer ct_law_is_integer : Value}
    {f_law_alike : Addr} {od_law_alike an_law_alike : Option Addr} {sl_law_alike : Array (Option Value)} {oc_law_alike kV_law_alike dc_law_alike pm_law_alike cd_law_alike ct_law_alike : Value}
    {f_law_word : Addr} {od_law_word an_law_word : Option Addr} {sl_law_word : Array (Option Value)} {oc_law_word kV_law_word dc_law_word pm_law_word cd_law_word ct_law_word : Value}
    {f_law_whole : Addr} {od_law_whole an_law_whole : Option Addr} {sl_law_whole : Array (Option Value)} {oc_law_whole kV_law_whole dc_law_whole pm_law_whole cd_law_whole ct_law_whole : Value}
    {f_law_read_word : Addr} {od_law_read_word an_law_read_word : Option Addr} {sl_law_read_word : Array (Option Value)} {oc_law_read_word kV_law_read_word dc_law_read_word pm_law_read_word cd_law_read_word ct_law_read_word : Value}
    {f_law_is_long : Addr} {od_law_is_long an_law_is_long : Option Addr} {sl_law_is_long : Array (Option Value)} {oc_law_is_long kV_law_is_long dc_law_is_long pm_law_is_long cd_law_is_long ct_law_is_long : Value}
    {f_law_numbers_due : Addr} {od_law_numbers_due an_law_numbers_due : Option Addr} {sl_law_numbers_due : Array (Option Value)} {oc_law_numbers_due kV_law_numbers_due dc_law_numbers_due pm_law_numbers_due cd_law_numbers_due ct_law_numbers_due : Value}
    {f_law_numbers_read : Addr} {od_law_numbers_read an_law_numbers_read : Option Addr} {sl_law_numbers_read : Array (Option Value)} {oc_law_numbers_read kV_law_numbers_read dc_law_numbers_read pm_law_numbers_read cd_law_numbers_read ct_law_numbers_read : Value}
    {f_law_tree_read : Addr} {od_law_tree_read an_law_tree_read : Option Addr} {sl_law_tree_read : Array (Option Value)} {oc_law_tree_read kV_law_tree_read dc_law_tree_read pm_law_tree_read cd_law_tree_read ct_law_tree_read : Value}
    {f_law_no_numbers : Addr} {od_law_no_numbers an_law_no_numbers : Option Addr} {sl_law_no_numbers : Array (Option Value)} {oc_law_no_numbers kV_law_no_numbers dc_law_no_numbers pm_law_no_numbers cd_law_no_numbers ct_law_no_numbers : Value}
    {f_law_no_tree : Addr} {od_law_no_tree an_law_no_tree : Option Addr} {sl_law_no_tree : Array (Option Value)} {oc_law_no_tree kV_law_no_tree dc_law_no_tree pm_law_no_tree cd_law_no_tree ct_law_no_tree : Value}
    {f_law_changed : Addr} {od_law_changed an_law_changed : Option Addr} {sl_law_changed : Array (Option Value)} {oc_law_changed kV_law_changed dc_law_changed pm_law_changed cd_law_changed ct_law_changed : Value}
    {f_law_size_drawn : Addr} {od_law_size_drawn an_law_size_drawn : Option Addr} {sl_law_size_drawn : Array (Option Value)} {oc_law_size_drawn kV_law_size_drawn dc_law_size_drawn pm_law_size_drawn cd_law_size_drawn ct_law_size_drawn : Value}
    {f_law_numbers_judged : Addr} {od_law_numbers_judged an_law_numbers_judged : Option Addr} {sl_law_numbers_judged : Array (Option Value)} {oc_law_numbers_judged kV_law_numbers_judged dc_law_numbers_judged pm_law_numbers_judged cd_law_numbers_judged ct_law_numbers_judged : Value}
    {f_law_tree_drawn : Addr} {od_law_tree_drawn an_law_tree_drawn : Option Addr} {sl_law_tree_drawn : Array (Option Value)} {oc_law_tree_drawn kV_law_tree_drawn dc_law_tree_drawn pm_law_tree_drawn cd_law_tree_drawn ct_law_tree_drawn : Value}
    {f_law_tree_word : Addr} {od_law_tree_word an_law_tree_word : Option Addr} {sl_law_tree_word : Array (Option Value)} {oc_law_tree_word kV_law_tree_word dc_law_tree_word pm_law_tree_word cd_law_tree_word ct_law_tree_word : Value}
    {f_law_is_tree : Addr} {od_law_is_tree an_law_is_tree : Option Addr} {sl_law_is_tree : Array (Option Value)} {oc_law_is_tree kV_law_is_tree dc_law_is_tree pm_law_is_tree cd_law_is_tree ct_law_is_tree : Value}
    {f_law_bad_sign : Addr} {od_law_bad_sign an_law_bad_sign : Option Addr} {sl_law_bad_sign : Array (Option Value)} {oc_law_bad_sign kV_law_bad_sign dc_law_bad_sign pm_law_bad_sign cd_law_bad_sign ct_law_bad_sign : Value}
    {f_law_spoilt : Addr} {od_law_spoilt an_law_spoilt : Option Addr} {sl_law_spoilt : Array (Option Value)} {oc_law_spoilt kV_law_spoilt dc_law_spoilt pm_law_spoilt cd_law_spoilt ct_law_spoilt : Value}
    {f_law_trees_judged : Addr} {od_law_trees_judged an_law_trees_judged : Option Addr} {sl_law_trees_judged : Array (Option Value)} {oc_law_trees_judged kV_law_trees_judged dc_law_trees_judged pm_law_trees_judged cd_law_trees_judged ct_law_trees_judged : Value}
    {f_law_deepest : Addr} {od_law_deepest an_law_deepest : Option Addr} {sl_law_deepest : Array (Option Value)} {oc_law_deepest kV_law_deepest dc_law_deepest pm_law_deepest cd_law_deepest ct_law_deepest : Value}
    {f_law : Addr} {od_law an_law : Option Addr} {sl_law : Array (Option Value)} {oc_law kV_law dc_law pm_law cd_law ct_law : Value}
    {C_FoldError : Addr}
    {C_NoNumbers B_NoNumbers i_NoNumbers : Addr} {nm_NoNumbers q_NoNumbers : Str} {N_NoNumbers : Addr} {bs_NoNumbers : List Value} {sn_NoNumbers : List Str} {sub_NoNumbers : List Value} {ab_NoNumbers : Bool} {col_NoNumbers : Option Bool} {dd_NoNumbers : Option Addr} {m0_NoNumbers m1_NoNumbers m2_NoNumbers m3_NoNumbers m5_NoNumbers : Option Value}
    {iod_NoNumbers ian_NoNumbers : Option Addr} {isl_NoNumbers : Array (Option Value)} {ioc_NoNumbers ikV_NoNumbers idc_NoNumbers ipm_NoNumbers icd_NoNumbers ict_NoNumbers : Value}
    {C_BadText B_BadText i_BadText : Addr} {nm_BadText q_BadText : Str} {N_BadText : Addr} {bs_BadText : List Value} {sn_BadText : List Str} {sub_BadText : List Value} {ab_BadText : Bool} {col_BadText : Option Bool} {dd_BadText : Option Addr} {m0_BadText m1_BadText m2_BadText m3_BadText m5_BadText : Option Value}
    {iod_BadText ian_BadText : Option Addr} {isl_BadText : Array (Option Value)} {ioc_BadText ikV_BadText idc_BadText ipm_BadText icd_BadText ict_BadText : Value}
    {C_NoTree B_NoTree i_NoTree : Addr} {nm_NoTree q_NoTree : Str} {N_NoTree : Addr} {bs_NoTree : List Value} {sn_NoTree : List Str} {sub_NoTree : List Value} {ab_NoTree : Bool} {col_NoTree : Option Bool} {dd_NoTree : Option Addr} {m0_NoTree m1_NoTree m2_NoTree m3_NoTree m5_NoTree : Option Value}
    {iod_NoTree ian_NoTree : Option Addr} {isl_NoTree : Array (Option Value)} {ioc_NoTree ikV_NoTree idc_NoTree ipm_NoTree icd_NoTree ict_NoTree : Value}
    {tk_PIECE : Tok}
    {tk_DEEPEST : Tok}
    {tk_LONGEST : Tok}
    {ad_NOUGHT : Addr} {od_NOUGHT : Option Addr} {sl_NOUGHT : Array (Option Value)} {ta_NOUGHT tb_NOUGHT : Tok} {sn_NOUGHT : Nat}
    {tk_DIGITS : Tok}
    (a_is_integer : PySem.W.nsIn K mainGlobals "is_integer" = some (some (.ref f_is_integer)))
    (l_is_integer : K.lookup f_is_integer = some ⟨oc_is_integer, od_is_integer, .func (PySem.W.fnOf "is_integer" "is_integer" (defArgs s_is_integer) (defBody s_is_integer) (defScope s_is_integer) .none kV_is_integer dc_is_integer pm_is_integer an_is_integer cd_is_integer ct_is_integer), sl_is_integer⟩)
    (c_is_integer : PySem.W.codeIn K cd_is_integer "is_integer" = true)
    (k_is_integer : PySem.W.keepIn K (.ref f_is_integer) = true)
    (a_is_row : PySem.W.nsIn K mainGlobals "is_row" = some (some (.ref f_is_row)))
    (l_is_row : K.lookup f_is_row = some ⟨oc_is_row, od_is_row, .func (PySem.W.fnOf "is_row" "is_row" (defArgs s_is_row) (defBody s_is_row) (defScope s_is_row) .none kV_is_row dc_is_row pm_is_row an_is_row cd_is_row ct_is_row), sl_is_row⟩)
    (c_is_row : PySem.W.codeIn K cd_is_row "is_row" = true)
    (k_is_row : PySem.W.keepIn K (.ref f_is_row) = true)
    (a_is_tuple_of : PySem.W.nsIn K mainGlobals "is_tuple_of" = some (some (.ref f_is_tuple_of)))
    (l_is_tuple_of : K.lookup f_is_tuple_of = some ⟨oc_is_tuple_of, od_is_tuple_of, .func (PySem.W.fnOf "is_tuple_of" "is_tuple_of" (defArgs s_is_tuple_of) (defBody s_is_tuple_of) (defScope s_is_tuple_of) .none kV_is_tuple_of dc_is_tuple_of pm_is_tuple_of an_is_tuple_of cd_is_tuple_of ct_is_tuple_of), sl_is_tuple_of⟩)
    (c_is_tuple_of : PySem.W.codeIn K cd_is_tuple_of "is_tuple_of" = true)
    (k_is_tuple_of : PySem.W.keepIn K (.ref f_is_tuple_of) = true)
    (a_is_fraction : PySem.W.nsIn K mainGlobals "is_fraction" = some (some (.ref f_is_fraction)))
    (l_is_fraction : K.lookup f_is_fraction = some ⟨oc_is_fraction, od_is_fraction, .func (PySem.W.fnOf "is_fraction" "is_fraction" (defArgs s_is_fraction) (defBody s_is_fraction) (defScope s_is_fraction) .none kV_is_fraction dc_is_fraction pm_is_fraction an_is_fraction cd_is_fraction ct_is_fraction), sl_is_fraction⟩)
    (c_is_fraction : PySem.W.codeIn K cd_is_fraction "is_fraction" = true)
    (k_is_fraction : PySem.W.keepIn K (.ref f_is_fraction) = true)
    (a_are_fractions : PySem.W.nsIn K mainGlobals "are_fractions" = some (some (.ref f_are_fractions)))
    (l_are_fractions : K.lookup f_are_fractions = some ⟨oc_are_fractions, od_are_fractions, .func (PySem.W.fnOf "are_fractions" "are_fractions" (defArgs s_are_fractions) (defBody s_are_fractions) (defScope s_are_fractions) .none kV_are_fractions dc_are_fractions pm_are_fractions an_are_fractions cd_are_fractions ct_are_fractions), sl_are_fractions⟩)
    (c_are_fractions : PySem.W.codeIn K cd_are_fractions "are_fractions" = true)
    (k_are_fractions : PySem.W.keepIn K (.ref f_are_fractions) = true)
    (a_word_of : PySem.W.nsIn K mainGlobals "word_of" = some (some (.ref f_word_of)))
    (l_word_of : K.lookup f_word_of = some ⟨oc_word_of, od_word_of, .func (PySem.W.fnOf "word_of" "word_of" (defArgs s_word_of) (defBody s_word_of) (defScope s_word_of) .none kV_word_of dc_word_of pm_word_of an_word_of cd_word_of ct_word_of), sl_word_of⟩)
    (c_word_of : PySem.W.codeIn K cd_word_of "word_of" = true)
    (k_word_of : PySem.W.keepIn K (.ref f_word_of) = true)
    (a_is_whole_word : PySem.W.nsIn K mainGlobals "is_whole_word" = some (some (.ref f_is_whole_word)))
    (l_is_whole_word : K.lookup f_is_whole_word = some ⟨oc_is_whole_word, od_is_whole_word, .func (PySem.W.fnOf "is_whole_word" "is_whole_word" (defArgs s_is_whole_word) (defBody s_is_whole_word) (defScope s_is_whole_word) .none kV_is_whole_word dc_is_whole_word pm_is_whole_word an_is_whole_word cd_is_whole_word ct_is_whole_word), sl_is_whole_word⟩)
    (c_is_whole_word : PySem.W.codeIn K cd_is_whole_word "is_whole_word" = true)
    (k_is_whole_word : PySem.W.keepIn K (.ref f_is_whole_word) = true)
    (a_number_in : PySem.W.nsIn K mainGlobals "number_in" = some (some (.ref f_number_in)))
    (l_number_in : K.lookup f_number_in = some ⟨oc_number_in, od_number_in, .func (PySem.W.fnOf "number_in" "number_in" (defArgs s_number_in) (defBody s_number_in) (defScope s_number_in) .none kV_number_in dc_number_in pm_number_in an_number_in cd_number_in ct_number_in), sl_number_in⟩)
    (c_number_in : PySem.W.codeIn K cd_number_in "number_in" = true)
    (k_number_in : PySem.W.keepIn K (.ref f_number_in) = true)
    (a_fraction_word : PySem.W.nsIn K mainGlobals "fraction_word" = some (some (.ref f_fraction_word)))
    (l_fraction_word : K.lookup f_fraction_word = some ⟨oc_fraction_word, od_fraction_word, .func (PySem.W.fnOf "fraction_word" "fraction_word" (defArgs s_fraction_word) (defBody s_fraction_word) (defScope s_fraction_word) .none kV_fraction_word dc_fraction_word pm_fraction_word an_fraction_word cd_fraction_word ct_fraction_word), sl_fraction_word⟩)
    (c_fraction_word : PySem.W.codeIn K cd_fraction_word "fraction_word" = true)
    (k_fraction_word : PySem.W.keepIn K (.ref f_fraction_word) = true)
    (a_fraction_in : PySem.W.nsIn K mainGlobals "fraction_in" = some (some (.ref f_fraction_in)))
    (l_fraction_in : K.lookup f_fraction_in = some ⟨oc_fraction_in, od_fraction_in, .func (PySem.W.fnOf "fraction_in" "fraction_in" (defArgs s_fraction_in) (defBody s_fraction_in) (defScope s_fraction_in) .none kV_fraction_in dc_fraction_in pm_fraction_in an_fraction_in cd_fraction_in ct_fraction_in), sl_fraction_in⟩)
    (c_fraction_in : PySem.W.codeIn K cd_fraction_in "fraction_in" = true)
    (k_fraction_in : PySem.W.keepIn K (.ref f_fraction_in) = true)
    (a_numbers_text : PySem.W.nsIn K mainGlobals "numbers_text" = some (some (.ref f_numbers_text)))
    (l_numbers_text : K.lookup f_numbers_text = some ⟨oc_numbers_text, od_numbers_text, .func (PySem.W.fnOf "numbers_text" "numbers_text" (defArgs s_numbers_text) (defBody s_numbers_text) (defScope s_numbers_text) .none kV_numbers_text dc_numbers_text pm_numbers_text an_numbers_text cd_numbers_text ct_numbers_text), sl_numbers_text⟩)
    (c_numbers_text : PySem.W.codeIn K cd_numbers_text "numbers_text" = true)
    (k_numbers_text : PySem.W.keepIn K (.ref f_numbers_text) = true)
    (a_read_numbers : PySem.W.nsIn K mainGlobals "read_numbers" = some (some (.ref f_read_numbers)))
    (l_read_numbers : K.lookup f_read_numbers = some ⟨oc_read_numbers, od_read_numbers, .func (PySem.W.fnOf "read_numbers" "read_numbers" (defArgs s_read_numbers) (defBody s_read_numbers) (defScope s_read_numbers) .none kV_read_numbers dc_read_numbers pm_read_numbers an_read_numbers cd_read_numbers ct_read_numbers), sl_read_numbers⟩)
    (c_read_numbers : PySem.W.codeIn K cd_read_numbers "read_numbers" = true)
    (k_read_numbers : PySem.W.keepIn K (.ref f_read_numbers) = true)
    (a_is_number : PySem.W.nsIn K mainGlobals "is_number" = some (some (.ref f_is_number)))
    (l_is_number : K.lookup f_is_number = some ⟨oc_is_number, od_is_number, .func (PySem.W.fnOf "is_number" "is_number" (defArgs s_is_number) (defBody s_is_number) (defScope s_is_number) .none kV_is_number dc_is_number pm_is_number an_is_number cd_is_number ct_is_number), sl_is_number⟩)
    (c_is_number : PySem.W.codeIn K cd_is_number "is_number" = true)
    (k_is_number : PySem.W.keepIn K (.ref f_is_number) = true)
    (a_is_tree : PySem.W.nsIn K mainGlobals "is_tree" = some (some (.ref f_is_tree)))
    (l_is_tree : K.lookup f_is_tree = some ⟨oc_is_tree, od_is_tree, .func (PySem.W.fnOf "is_tree" "is_tree" (defArgs s_is_tree) (defBody s_is_tree) (defScope s_is_tree) .none kV_is_tree dc_is_tree pm_is_tree an_is_tree cd_is_tree ct_is_tree), sl_is_tree⟩)
    (c_is_tree : PySem.W.codeIn K cd_is_tree "is_tree" = true)
    (k_is_tree : PySem.W.keepIn K (.ref f_is_tree) = true)
    (a_written_tree : PySem.W.nsIn K mainGlobals "written_tree" = some (some (.ref f_written_tree)))
    (l_written_tree : K.lookup f_written_tree = some ⟨oc_written_tree, od_written_tree, .func (PySem.W.fnOf "written_tree" "written_tree" (defArgs s_written_tree) (defBody s_written_tree) (defScope s_written_tree) .none kV_written_tree dc_written_tree pm_written_tree an_written_tree cd_written_tree ct_written_tree), sl_written_tree⟩)
    (c_written_tree : PySem.W.codeIn K cd_written_tree "written_tree" = true)
    (k_written_tree : PySem.W.keepIn K (.ref f_written_tree) = true)
    (a_tree_text : PySem.W.nsIn K mainGlobals "tree_text" = some (some (.ref f_tree_text)))
    (l_tree_text : K.lookup f_tree_text = some ⟨oc_tree_text, od_tree_text, .func (PySem.W.fnOf "tree_text" "tree_text" (defArgs s_tree_text) (defBody s_tree_text) (defScope s_tree_text) .none kV_tree_text dc_tree_text pm_tree_text an_tree_text cd_tree_text ct_tree_text), sl_tree_text⟩)
    (c_tree_text : PySem.W.codeIn K cd_tree_text "tree_text" = true)
    (k_tree_text : PySem.W.keepIn K (.ref f_tree_text) = true)
    (a_sign_at : PySem.W.nsIn K mainGlobals "sign_at" = some (some (.ref f_sign_at)))
    (l_sign_at : K.lookup f_sign_at = some ⟨oc_sign_at, od_sign_at, .func (PySem.W.fnOf "sign_at" "sign_at" (defArgs s_sign_at) (defBody s_sign_at) (defScope s_sign_at) .none kV_sign_at dc_sign_at pm_sign_at an_sign_at cd_sign_at ct_sign_at), sl_sign_at⟩)
    (c_sign_at : PySem.W.codeIn K cd_sign_at "sign_at" = true)
    (k_sign_at : PySem.W.keepIn K (.ref f_sign_at) = true)
    (a_behind_sign : PySem.W.nsIn K mainGlobals "behind_sign" = some (some (.ref f_behind_sign)))
    (l_behind_sign : K.lookup f_behind_sign = some ⟨oc_behind_sign, od_behind_sign, .func (PySem.W.fnOf "behind_sign" "behind_sign" (defArgs s_behind_sign) (defBody s_behind_sign) (defScope s_behind_sign) .none kV_behind_sign dc_behind_sign pm_behind_sign an_behind_sign cd_behind_sign ct_behind_sign), sl_behind_sign⟩)
    (c_behind_sign : PySem.W.codeIn K cd_behind_sign "behind_sign" = true)
    (k_behind_sign : PySem.W.keepIn K (.ref f_behind_sign) = true)
    (a_read_number : PySem.W.nsIn K mainGlobals "read_number" = some (some (.ref f_read_number)))
    (l_read_number : K.lookup f_read_number = some ⟨oc_read_number, od_read_number, .func (PySem.W.fnOf "read_number" "read_number" (defArgs s_read_number) (defBody s_read_number) (defScope s_read_number) .none kV_read_number dc_read_number pm_read_number an_read_number cd_read_number ct_read_number), sl_read_number⟩)
    (c_read_number : PySem.W.codeIn K cd_read_number "read_number" = true)
    (k_read_number : PySem.W.keepIn K (.ref f_read_number) = true)
    (a_tree_from : PySem.W.nsIn K mainGlobals "tree_from" = some (some (.ref f_tree_from)))
    (l_tree_from : K.lookup f_tree_from = some ⟨oc_tree_from, od_tree_from, .func (PySem.W.fnOf "tree_from" "tree_from" (defArgs s_tree_from) (defBody s_tree_from) (defScope s_tree_from) .none kV_tree_from dc_tree_from pm_tree_from an_tree_from cd_tree_from ct_tree_from), sl_tree_from⟩)
    (c_tree_from : PySem.W.codeIn K cd_tree_from "tree_from" = true)
    (k_tree_from : PySem.W.keepIn K (.ref f_tree_from) = true)
    (a_read_tree : PySem.W.nsIn K mainGlobals "read_tree" = some (some (.ref f_read_tree)))
    (l_read_tree : K.lookup f_read_tree = some ⟨oc_read_tree, od_read_tree, .func (PySem.W.fnOf "read_tree" "read_tree" (defArgs s_read_tree) (defBody s_read_tree) (defScope s_read_tree) .none kV_read_tree dc_read_tree pm_read_tree an_read_tree cd_read_tree ct_read_tree), sl_read_tree⟩)
    (c_read_tree : PySem.W.codeIn K cd_read_tree "read_tree" = true)
    (k_read_tree : PySem.W.keepIn K (.ref f_read_tree) = true)
    (a_law_mixed : PySem.W.nsIn K mainGlobals "_law_mixed" = some (some (.ref f_law_mixed)))
    (l_law_mixed : K.lookup f_law_mixed = some ⟨oc_law_mixed, od_law_mixed, .func (PySem.W.fnOf "_law_mixed" "_law_mixed" (defArgs s_law_mixed) (defBody s_law_mixed) (defScope s_law_mixed) .none kV_law_mixed dc_law_mixed pm_law_mixed an_law_mixed cd_law_mixed ct_law_mixed), sl_law_mixed⟩)
    (c_law_mixed : PySem.W.codeIn K cd_law_mixed "_law_mixed" = true)
    (k_law_mixed : PySem.W.keepIn K (.ref f_law_mixed) = true)
    (a_law_great : PySem.W.nsIn K mainGlobals "_law_great" = some (some (.ref f_law_great)))
    (l_law_great : K.lookup f_law_great = some ⟨oc_law_great, od_law_great, .func (PySem.W.fnOf "_law_great" "_law_great" (defArgs s_law_great) (defBody s_law_great) (defScope s_law_great) .none kV_law_great dc_law_great pm_law_great an_law_great cd_law_great ct_law_great), sl_law_great⟩)
    (c_law_great : PySem.W.codeIn K cd_law_great "_law_great" = true)
    (k_law_great : PySem.W.keepIn K (.ref f_law_great) = true)
    (a_law_stream : PySem.W.nsIn K mainGlobals "_law_stream" = some (some (.ref f_law_stream)))
    (l_law_stream : K.lookup f_law_stream = some ⟨oc_law_stream, od_law_stream, .func (PySem.W.fnOf "_law_stream" "_law_stream" (defArgs s_law_stream) (defBody s_law_stream) (defScope s_law_stream) .none kV_law_stream dc_law_stream pm_law_stream an_law_stream cd_law_stream ct_law_stream), sl_law_stream⟩)
    (c_law_stream : PySem.W.codeIn K cd_law_stream "_law_stream" = true)
    (k_law_stream : PySem.W.keepIn K (.ref f_law_stream) = true)
    (a_law_take : PySem.W.nsIn K mainGlobals "_law_take" = some (some (.ref f_law_take)))
    (l_law_take : K.lookup f_law_take = some ⟨oc_law_take, od_law_take, .func (PySem.W.fnOf "_law_take" "_law_take" (defArgs s_law_take) (defBody s_law_take) (defScope s_law_take) .none kV_law_take dc_law_take pm_law_take an_law_take cd_law_take ct_law_take), sl_law_take⟩)
    (c_law_take : PySem.W.codeIn K cd_law_take "_law_take" = true)
    (k_law_take : PySem.W.keepIn K (.ref f_law_take) = true)
    (a_law_low : PySem.W.nsIn K mainGlobals "_law_low" = some (some (.ref f_law_low)))
    (l_law_low : K.lookup f_law_low = some ⟨oc_law_low, od_law_low, .func (PySem.W.fnOf "_law_low" "_law_low" (defArgs s_law_low) (defBody s_law_low) (defScope s_law_low) .none kV_law_low dc_law_low pm_law_low an_law_low cd_law_low ct_law_low), sl_law_low⟩)
    (c_law_low : PySem.W.codeIn K cd_law_low "_law_low" = true)
    (k_law_low : PySem.W.keepIn K (.ref f_law_low) = true)
    (a_law_is_integer : PySem.W.nsIn K mainGlobals "_law_is_integer" = some (some (.ref f_law_is_integer)))
    (l_law_is_integer : K.lookup f_law_is_integer = some ⟨oc_law_is_integer, od_law_is_integer, .func (PySem.W.fnOf "_law_is_integer" "_law_is_integer" (defArgs s_law_is_integer) (defBody s_law_is_integer) (defScope s_law_is_integer) .none kV_law_is_integer dc_law_is_integer pm_law_is_integer an_law_is_integer cd_law_is_integer ct_law_is_integer), sl_law_is_integer⟩)
    (c_law_is_integer : PySem.W.codeIn K cd_law_is_integer "_law_is_integer" = true)
    (k_law_is_integer : PySem.W.keepIn K (.ref f_law_is_integer) = true)
    (a_law_alike : PySem.W.nsIn K mainGlobals "_law_alike" = some (some (.ref f_law_alike)))
    (l_law_alike : K.lookup f_law_alike = some ⟨oc_law_alike, od_law_alike, .func (PySem.W.fnOf "_law_alike" "_law_alike" (defArgs s_law_alike) (defBody s_law_alike) (defScope s_law_alike) .none kV_law_alike dc_law_alike pm_law_alike an_law_alike cd_law_alike ct_law_alike), sl_law_alike⟩)
    (c_law_alike : PySem.W.codeIn K cd_law_alike "_law_alike" = true)
    (k_law_alike : PySem.W.keepIn K (.ref f_law_alike) = true)
    (a_law_word : PySem.W.nsIn K mainGlobals "_law_word" = some (some (.ref f_law_word)))
    (l_law_word : K.lookup f_law_word = some ⟨oc_law_word, od_law_word, .func (PySem.W.fnOf "_law_word" "_law_word" (defArgs s_law_word) (defBody s_law_word) (defScope s_law_word) .none kV_law_word dc_law_word pm_law_word an_law_word cd_law_word ct_law_word), sl_law_word⟩)
    (c_law_word : PySem.W.codeIn K cd_law_word "_law_word" = true)
    (k_law_word : PySem.W.keepIn K (.ref f_law_word) = true)
    (a_law_whole : PySem.W.nsIn K mainGlobals "_law_whole" = some (some (.ref f_law_whole)))
    (l_law_whole : K.lookup f_law_whole = some ⟨oc_law_whole, od_law_whole, .func (PySem.W.fnOf "_law_whole" "_law_whole" (defArgs s_law_whole) (defBody s_law_whole) (defScope s_law_whole) .none kV_law_whole dc_law_whole pm_law_whole an_law_whole cd_law_whole ct_law_whole), sl_law_whole⟩)
    (c_law_whole : PySem.W.codeIn K cd_law_whole "_law_whole" = true)
    (k_law_whole : PySem.W.keepIn K (.ref f_law_whole) = true)
    (a_law_read_word : PySem.W.nsIn K mainGlobals "_law_read_word" = some (some (.ref f_law_read_word)))
    (l_law_read_word : K.lookup f_law_read_word = some ⟨oc_law_read_word, od_law_read_word, .func (PySem.W.fnOf "_law_read_word" "_law_read_word" (defArgs s_law_read_word) (defBody s_law_read_word) (defScope s_law_read_word) .none kV_law_read_word dc_law_read_word pm_law_read_word an_law_read_word cd_law_read_word ct_law_read_word), sl_law_read_word⟩)
    (c_law_read_word : PySem.W.codeIn K cd_law_read_word "_law_read_word" = true)
    (k_law_read_word : PySem.W.keepIn K (.ref f_law_read_word) = true)
    (a_law_is_long : PySem.W.nsIn K mainGlobals "_law_is_long" = some (some (.ref f_law_is_long)))
    (l_law_is_long : K.lookup f_law_is_long = some ⟨oc_law_is_long, od_law_is_long, .func (PySem.W.fnOf "_law_is_long" "_law_is_long" (defArgs s_law_is_long) (defBody s_law_is_long) (defScope s_law_is_long) .none kV_law_is_long dc_law_is_long pm_law_is_long an_law_is_long cd_law_is_long ct_law_is_long), sl_law_is_long⟩)
    (c_law_is_long : PySem.W.codeIn K cd_law_is_long "_law_is_long" = true)
    (k_law_is_long : PySem.W.keepIn K (.ref f_law_is_long) = true)
    (a_law_numbers_due : PySem.W.nsIn K mainGlobals "_law_numbers_due" = some (some (.ref f_law_numbers_due)))
    (l_law_numbers_due : K.lookup f_law_numbers_due = some ⟨oc_law_numbers_due, od_law_numbers_due, .func (PySem.W.fnOf "_law_numbers_due" "_law_numbers_due" (defArgs s_law_numbers_due) (defBody s_law_numbers_due) (defScope s_law_numbers_due) .none kV_law_numbers_due dc_law_numbers_due pm_law_numbers_due an_law_numbers_due cd_law_numbers_due ct_law_numbers_due), sl_law_numbers_due⟩)
    (c_law_numbers_due : PySem.W.codeIn K cd_law_numbers_due "_law_numbers_due" = true)
    (k_law_numbers_due : PySem.W.keepIn K (.ref f_law_numbers_due) = true)
    (a_law_numbers_read : PySem.W.nsIn K mainGlobals "_law_numbers_read" = some (some (.ref f_law_numbers_read)))
    (l_law_numbers_read : K.lookup f_law_numbers_read = some ⟨oc_law_numbers_read, od_law_numbers_read, .func (PySem.W.fnOf "_law_numbers_read" "_law_numbers_read" (defArgs s_law_numbers_read) (defBody s_law_numbers_read) (defScope s_law_numbers_read) .none kV_law_numbers_read dc_law_numbers_read pm_law_numbers_read an_law_numbers_read cd_law_numbers_read ct_law_numbers_read), sl_law_numbers_read⟩)
    (c_law_numbers_read : PySem.W.codeIn K cd_law_numbers_read "_law_numbers_read" = true)
    (k_law_numbers_read : PySem.W.keepIn K (.ref f_law_numbers_read) = true)
    (a_law_tree_read : PySem.W.nsIn K mainGlobals "_law_tree_read" = some (some (.ref f_law_tree_read)))
    (l_law_tree_read : K.lookup f_law_tree_read = some ⟨oc_law_tree_read, od_law_tree_read, .func (PySem.W.fnOf "_law_tree_read" "_law_tree_read" (defArgs s_law_tree_read) (defBody s_law_tree_read) (defScope s_law_tree_read) .none kV_law_tree_read dc_law_tree_read pm_law_tree_read an_law_tree_read cd_law_tree_read ct_law_tree_read), sl_law_tree_read⟩)
    (c_law_tree_read : PySem.W.codeIn K cd_law_tree_read "_law_tree_read" = true)
    (k_law_tree_read : PySem.W.keepIn K (.ref f_law_tree_read) = true)
    (a_law_no_numbers : PySem.W.nsIn K mainGlobals "_law_no_numbers" = some (some (.ref f_law_no_numbers)))
    (l_law_no_numbers : K.lookup f_law_no_numbers = some ⟨oc_law_no_numbers, od_law_no_numbers, .func (PySem.W.fnOf "_law_no_numbers" "_law_no_numbers" (defArgs s_law_no_numbers) (defBody s_law_no_numbers) (defScope s_law_no_numbers) .none kV_law_no_numbers dc_law_no_numbers pm_law_no_numbers an_law_no_numbers cd_law_no_numbers ct_law_no_numbers), sl_law_no_numbers⟩)
    (c_law_no_numbers : PySem.W.codeIn K cd_law_no_numbers "_law_no_numbers" = true)
    (k_law_no_numbers : PySem.W.keepIn K (.ref f_law_no_numbers) = true)
    (a_law_no_tree : PySem.W.nsIn K mainGlobals "_law_no_tree" = some (some (.ref f_law_no_tree)))
    (l_law_no_tree : K.lookup f_law_no_tree = some ⟨oc_law_no_tree, od_law_no_tree, .func (PySem.W.fnOf "_law_no_tree" "_law_no_tree" (defArgs s_law_no_tree) (defBody s_law_no_tree) (defScope s_law_no_tree) .none kV_law_no_tree dc_law_no_tree pm_law_no_tree an_law_no_tree cd_law_no_tree ct_law_no_tree), sl_law_no_tree⟩)
    (c_law_no_tree : PySem.W.codeIn K cd_law_no_tree "_law_no_tree" = true)
    (k_law_no_tree : PySem.W.keepIn K (.ref f_law_no_tree) = true)
    (a_law_changed : PySem.W.nsIn K mainGlobals "_law_changed" = some (some (.ref f_law_changed)))
    (l_law_changed : K.lookup f_law_changed = some ⟨oc_law_changed, od_law_changed, .func (PySem.W.fnOf "_law_changed" "_law_changed" (defArgs s_law_changed) (defBody s_law_changed) (defScope s_law_changed) .none kV_law_changed dc_law_changed pm_law_changed an_law_changed cd_law_changed ct_law_changed), sl_law_changed⟩)
    (c_law_changed : PySem.W.codeIn K cd_law_changed "_law_changed" = true)
    (k_law_changed : PySem.W.keepIn K (.ref f_law_changed) = true)
    (a_law_size_drawn : PySem.W.nsIn K mainGlobals "_law_size_drawn" = some (some (.ref f_law_size_drawn)))
    (l_law_size_drawn : K.lookup f_law_size_drawn = some ⟨oc_law_size_drawn, od_law_size_drawn, .func (PySem.W.fnOf "_law_size_drawn" "_law_size_drawn" (defArgs s_law_size_drawn) (defBody s_law_size_drawn) (defScope s_law_size_drawn) .none kV_law_size_drawn dc_law_size_drawn pm_law_size_drawn an_law_size_drawn cd_law_size_drawn ct_law_size_drawn), sl_law_size_drawn⟩)
    (c_law_size_drawn : PySem.W.codeIn K cd_law_size_drawn "_law_size_drawn" = true)
    (k_law_size_drawn : PySem.W.keepIn K (.ref f_law_size_drawn) = true)
    (a_law_numbers_judged : PySem.W.nsIn K mainGlobals "_law_numbers_judged" = some (some (.ref f_law_numbers_judged)))
    (l_law_numbers_judged : K.lookup f_law_numbers_judged = some ⟨oc_law_numbers_judged, od_law_numbers_judged, .func (PySem.W.fnOf "_law_numbers_judged" "_law_numbers_judged" (defArgs s_law_numbers_judged) (defBody s_law_numbers_judged) (defScope s_law_numbers_judged) .none kV_law_numbers_judged dc_law_numbers_judged pm_law_numbers_judged an_law_numbers_judged cd_law_numbers_judged ct_law_numbers_judged), sl_law_numbers_judged⟩)
    (c_law_numbers_judged : PySem.W.codeIn K cd_law_numbers_judged "_law_numbers_judged" = true)
    (k_law_numbers_judged : PySem.W.keepIn K (.ref f_law_numbers_judged) = true)
    (a_law_tree_drawn : PySem.W.nsIn K mainGlobals "_law_tree_drawn" = some (some (.ref f_law_tree_drawn)))
    (l_law_tree_drawn : K.lookup f_law_tree_drawn = some ⟨oc_law_tree_drawn, od_law_tree_drawn, .func (PySem.W.fnOf "_law_tree_drawn" "_law_tree_drawn" (defArgs s_law_tree_drawn) (defBody s_law_tree_drawn) (defScope s_law_tree_drawn) .none kV_law_tree_drawn dc_law_tree_drawn pm_law_tree_drawn an_law_tree_drawn cd_law_tree_drawn ct_law_tree_drawn), sl_law_tree_drawn⟩)
    (c_law_tree_drawn : PySem.W.codeIn K cd_law_tree_drawn "_law_tree_drawn" = true)
    (k_law_tree_drawn : PySem.W.keepIn K (.ref f_law_tree_drawn) = true)
    (a_law_tree_word : PySem.W.nsIn K mainGlobals "_law_tree_word" = some (some (.ref f_law_tree_word)))
    (l_law_tree_word : K.lookup f_law_tree_word = some ⟨oc_law_tree_word, od_law_tree_word, .func (PySem.W.fnOf "_law_tree_word" "_law_tree_word" (defArgs s_law_tree_word) (defBody s_law_tree_word) (defScope s_law_tree_word) .none kV_law_tree_word dc_law_tree_word pm_law_tree_word an_law_tree_word cd_law_tree_word ct_law_tree_word), sl_law_tree_word⟩)
    (c_law_tree_word : PySem.W.codeIn K cd_law_tree_word "_law_tree_word" = true)
    (k_law_tree_word : PySem.W.keepIn K (.ref f_law_tree_word) = true)
    (a_law_is_tree : PySem.W.nsIn K mainGlobals "_law_is_tree" = some (some (.ref f_law_is_tree)))
    (l_law_is_tree : K.lookup f_law_is_tree = some ⟨oc_law_is_tree, od_law_is_tree, .func (PySem.W.fnOf "_law_is_tree" "_law_is_tree" (defArgs s_law_is_tree) (defBody s_law_is_tree) (defScope s_law_is_tree) .none kV_law_is_tree dc_law_is_tree pm_law_is_tree an_law_is_tree cd_law_is_tree ct_law_is_tree), sl_law_is_tree⟩)
    (c_law_is_tree : PySem.W.codeIn K cd_law_is_tree "_law_is_tree" = true)
    (k_law_is_tree : PySem.W.keepIn K (.ref f_law_is_tree) = true)
    (a_law_bad_sign : PySem.W.nsIn K mainGlobals "_law_bad_sign" = some (some (.ref f_law_bad_sign)))
    (l_law_bad_sign : K.lookup f_law_bad_sign = some ⟨oc_law_bad_sign, od_law_bad_sign, .func (PySem.W.fnOf "_law_bad_sign" "_law_bad_sign" (defArgs s_law_bad_sign) (defBody s_law_bad_sign) (defScope s_law_bad_sign) .none kV_law_bad_sign dc_law_bad_sign pm_law_bad_sign an_law_bad_sign cd_law_bad_sign ct_law_bad_sign), sl_law_bad_sign⟩)
    (c_law_bad_sign : PySem.W.codeIn K cd_law_bad_sign "_law_bad_sign" = true)
    (k_law_bad_sign : PySem.W.keepIn K (.ref f_law_bad_sign) = true)
    (a_law_spoilt : PySem.W.nsIn K mainGlobals "_law_spoilt" = some (some (.ref f_law_spoilt)))
    (l_law_spoilt : K.lookup f_law_spoilt = some ⟨oc_law_spoilt, od_law_spoilt, .func (PySem.W.fnOf "_law_spoilt" "_law_spoilt" (defArgs s_law_spoilt) (defBody s_law_spoilt) (defScope s_law_spoilt) .none kV_law_spoilt dc_law_spoilt pm_law_spoilt an_law_spoilt cd_law_spoilt ct_law_spoilt), sl_law_spoilt⟩)
    (c_law_spoilt : PySem.W.codeIn K cd_law_spoilt "_law_spoilt" = true)
    (k_law_spoilt : PySem.W.keepIn K (.ref f_law_spoilt) = true)
    (a_law_trees_judged : PySem.W.nsIn K mainGlobals "_law_trees_judged" = some (some (.ref f_law_trees_judged)))
    (l_law_trees_judged : K.lookup f_law_trees_judged = some ⟨oc_law_trees_judged, od_law_trees_judged, .func (PySem.W.fnOf "_law_trees_judged" "_law_trees_judged" (defArgs s_law_trees_judged) (defBody s_law_trees_judged) (defScope s_law_trees_judged) .none kV_law_trees_judged dc_law_trees_judged pm_law_trees_judged an_law_trees_judged cd_law_trees_judged ct_law_trees_judged), sl_law_trees_judged⟩)
    (c_law_trees_judged : PySem.W.codeIn K cd_law_trees_judged "_law_trees_judged" = true)
    (k_law_trees_judged : PySem.W.keepIn K (.ref f_law_trees_judged) = true)
    (a_law_deepest : PySem.W.nsIn K mainGlobals "_law_deepest" = some (some (.ref f_law_deepest)))
    (l_law_deepest : K.lookup f_law_deepest = some ⟨oc_law_deepest, od_law_deepest, .func (PySem.W.fnOf "_law_deepest" "_law_deepest" (defArgs s_law_deepest) (defBody s_law_deepest) (defScope s_law_deepest) .none kV_law_deepest dc_law_deepest pm_law_deepest an_law_deepest cd_law_deepest ct_law_deepest), sl_law_deepest⟩)
    (c_law_deepest : PySem.W.codeIn K cd_law_deepest "_law_deepest" = true)
    (k_law_deepest : PySem.W.keepIn K (.ref f_law_deepest) = true)
    (a_law : PySem.W.nsIn K mainGlobals "law" = some (some (.ref f_law)))
    (l_law : K.lookup f_law = some ⟨oc_law, od_law, .func (PySem.W.fnOf "law" "law" (defArgs s_law) (defBody s_law) (defScope s_law) .none kV_law dc_law pm_law an_law cd_law ct_law), sl_law⟩)
    (c_law : PySem.W.codeIn K cd_law "law" = true)
    (k_law : PySem.W.keepIn K (.ref f_law) = true)
    (aC_FoldError : PySem.W.nsIn K mainGlobals "FoldError" = some (some (.ref C_FoldError)))
    (aC_NoNumbers : PySem.W.nsIn K mainGlobals "NoNumbers" = some (some (.ref C_NoNumbers)))
    (xL_NoNumbers : K.lookup C_NoNumbers = some (excClassObj nm_NoNumbers q_NoNumbers C_NoNumbers N_NoNumbers bs_NoNumbers [.ref B_NoNumbers, .type "ValueError", .type "Exception", .type "BaseException", .type "object"] true sn_NoNumbers sub_NoNumbers ab_NoNumbers col_NoNumbers dd_NoNumbers m0_NoNumbers m1_NoNumbers m2_NoNumbers m3_NoNumbers m5_NoNumbers "ValueError.__new__"))
    (sa_NoNumbers : PySem.W.findIn K (.ref C_NoNumbers) "__setattr__" = some (some (.builtin "object.__setattr__")))
    (in_NoNumbers : PySem.W.findIn K (.ref C_NoNumbers) "__init__" = some (some (.ref i_NoNumbers)))
    (ti_NoNumbers : PySem.W.typeIn K (.ref i_NoNumbers) = some (.type "function"))
    (li_NoNumbers : K.lookup i_NoNumbers = some ⟨ioc_NoNumbers, iod_NoNumbers, .func (PySem.W.fnOf "__init__" "NoNumbers.__init__" (defArgs i0_NoNumbers) (defBody i0_NoNumbers) (defScope i0_NoNumbers) .none ikV_NoNumbers idc_NoNumbers ipm_NoNumbers ian_NoNumbers icd_NoNumbers ict_NoNumbers), isl_NoNumbers⟩)
    (ci_NoNumbers : PySem.W.codeIn K icd_NoNumbers "NoNumbers.__init__" = true)
    (ki_NoNumbers : PySem.W.keepIn K (.ref i_NoNumbers) = true)
    (kC_NoNumbers : PySem.W.keepIn K (.ref C_NoNumbers) = true)
    (eC_NoNumbers : PySem.W.subIn K (.ref C_NoNumbers) (.type "BaseException") = some true)
    (tC_NoNumbers : PySem.W.typeIn K (.ref C_NoNumbers) = some (.type "type"))
    (te_NoNumbers : PySem.W.exmOne K (.ref C_NoNumbers) (.ref C_NoNumbers) = some true)
    (aC_BadText : PySem.W.nsIn K mainGlobals "BadText" = some (some (.ref C_BadText)))
    (xL_BadText : K.lookup C_BadText = some (excClassObj nm_BadText q_BadText C_BadText N_BadText bs_BadText [.ref B_BadText, .type "ValueError", .type "Exception", .type "BaseException", .type "object"] true sn_BadText sub_BadText ab_BadText col_BadText dd_BadText m0_BadText m1_BadText m2_BadText m3_BadText m5_BadText "ValueError.__new__"))
    (sa_BadText : PySem.W.findIn K (.ref C_BadText) "__setattr__" = some (some (.builtin "object.__setattr__")))
    (in_BadText : PySem.W.findIn K (.ref C_BadText) "__init__" = some (some (.ref i_BadText)))
    (ti_BadText : PySem.W.typeIn K (.ref i_BadText) = some (.type "function"))
    (li_BadText : K.lookup i_BadText = some ⟨ioc_BadText, iod_BadText, .func (PySem.W.fnOf "__init__" "BadText.__init__" (defArgs i0_BadText) (defBody i0_BadText) (defScope i0_BadText) .none ikV_BadText idc_BadText ipm_BadText ian_BadText icd_BadText ict_BadText), isl_BadText⟩)
    (ci_BadText : PySem.W.codeIn K icd_BadText "BadText.__init__" = true)
    (ki_BadText : PySem.W.keepIn K (.ref i_BadText) = true)
    (kC_BadText : PySem.W.keepIn K (.ref C_BadText) = true)
    (eC_BadText : PySem.W.subIn K (.ref C_BadText) (.type "BaseException") = some true)
    (tC_BadText : PySem.W.typeIn K (.ref C_BadText) = some (.type "type"))
    (aC_NoTree : PySem.W.nsIn K mainGlobals "NoTree" = some (some (.ref C_NoTree)))
    (xL_NoTree : K.lookup C_NoTree = some (excClassObj nm_NoTree q_NoTree C_NoTree N_NoTree bs_NoTree [.ref B_NoTree, .type "ValueError", .type "Exception", .type "BaseException", .type "object"] true sn_NoTree sub_NoTree ab_NoTree col_NoTree dd_NoTree m0_NoTree m1_NoTree m2_NoTree m3_NoTree m5_NoTree "ValueError.__new__"))
    (sa_NoTree : PySem.W.findIn K (.ref C_NoTree) "__setattr__" = some (some (.builtin "object.__setattr__")))
    (in_NoTree : PySem.W.findIn K (.ref C_NoTree) "__init__" = some (some (.ref i_NoTree)))
    (ti_NoTree : PySem.W.typeIn K (.ref i_NoTree) = some (.type "function"))
    (li_NoTree : K.lookup i_NoTree = some ⟨ioc_NoTree, iod_NoTree, .func (PySem.W.fnOf "__init__" "NoTree.__init__" (defArgs i0_NoTree) (defBody i0_NoTree) (defScope i0_NoTree) .none ikV_NoTree idc_NoTree ipm_NoTree ian_NoTree icd_NoTree ict_NoTree), isl_NoTree⟩)
    (ci_NoTree : PySem.W.codeIn K icd_NoTree "NoTree.__init__" = true)
    (ki_NoTree : PySem.W.keepIn K (.ref i_NoTree) = true)
    (kC_NoTree : PySem.W.keepIn K (.ref C_NoTree) = true)
    (eC_NoTree : PySem.W.subIn K (.ref C_NoTree) (.type "BaseException") = some true)
    (tC_NoTree : PySem.W.typeIn K (.ref C_NoTree) = some (.type "type"))
    (te_NoTree : PySem.W.exmOne K (.ref C_NoTree) (.ref C_NoTree) = some true)
    (g_PIECE : PySem.W.nsIn K mainGlobals "PIECE" = some (some (.int 60 tk_PIECE)))
    (g_DEEPEST : PySem.W.nsIn K mainGlobals "DEEPEST" = some (some (.int 12 tk_DEEPEST)))
    (g_LONGEST : PySem.W.nsIn K mainGlobals "LONGEST" = some (some (.int 40 tk_LONGEST)))
    (g_NOUGHT : PySem.W.nsIn K mainGlobals "NOUGHT" = some (some (.ref ad_NOUGHT)))
    (h_NOUGHT : K.lookup ad_NOUGHT = some ⟨.type "tuple", od_NOUGHT, .seq #[.int 0 ta_NOUGHT, .int 1 tb_NOUGHT] sn_NOUGHT, sl_NOUGHT⟩)
    (g_DIGITS : PySem.W.nsIn K mainGlobals "DIGITS" = some (some (.str "0123456789" tk_DIGITS)))
    (te_ : PySem.W.exmOne K (.ref C_BadText) (.ref C_BadText) = some true)
    (hno_ : PySem.W.findIn K (.ref C_BadText) "at" = some none)
    (xf_BadText : xfB K C_BadText = true)
    (xf_NoNumbers : xfB K C_NoNumbers = true)
    (xc_NoNumbers : (PySem.W.clsIn K C_NoNumbers).isSome = true)
    (xa_NoNumbers : PySem.W.findIn K (.ref C_NoNumbers) "__class__" = some (some (.builtin "object.__class__")))
    (xm_NoNumbers : PySem.W.mroIn K C_NoNumbers (.type "object") = some true)
    (k1_NoNumbers : PySem.W.kitOne K (.ref C_NoNumbers) (.ref C_FoldError) = some true)
    (k2_NoNumbers : PySem.W.kitOne K (.ref C_NoNumbers) (.ref C_NoTree) = some false)
    (xf_NoTree : xfB K C_NoTree = true)
    (xc_NoTree : (PySem.W.clsIn K C_NoTree).isSome = true)
    (xa_NoTree : PySem.W.findIn K (.ref C_NoTree) "__class__" = some (some (.builtin "object.__class__")))
    (xm_NoTree : PySem.W.mroIn K C_NoTree (.type "object") = some true)
    (k1_NoTree : PySem.W.kitOne K (.ref C_NoTree) (.ref C_FoldError) = some true)
    (k2_NoTree : PySem.W.kitOne K (.ref C_NoTree) (.ref C_NoNumbers) = some false)
    (xn_ : PySem.W.specialIn K (.builtin "object.__class__") "__get__" = some (some (.builtin "getset_descriptor.__get__")))
    (xt_ : PySem.W.takesIn K (.builtin "object.__class__") = some true)
    (z_int : PySem.W.nsIn K mainGlobals "int" = some none)
    (z_bool : PySem.W.nsIn K mainGlobals "bool" = some none)
    (z_tuple : PySem.W.nsIn K mainGlobals "tuple" = some none)
    (z_list : PySem.W.nsIn K mainGlobals "list" = some none)
    (z_len : PySem.W.nsIn K mainGlobals "len" = some none)
    (z_abs : PySem.W.nsIn K mainGlobals "abs" = some none)
    (z_min : PySem.W.nsIn K mainGlobals "min" = some none)
    (z_max : PySem.W.nsIn K mainGlobals "max" = some none)
    (z_range : PySem.W.nsIn K mainGlobals "range" = some none)
    (z_isinstance : PySem.W.nsIn K mainGlobals "isinstance" = some none)
    (z_enumerate : PySem.W.nsIn K mainGlobals "enumerate" = some none)
    (z_zip : PySem.W.nsIn K mainGlobals "zip" = some none)
    (z_sum : PySem.W.nsIn K mainGlobals "sum" = some none)
    (z_str : PySem.W.nsIn K mainGlobals "str" = some none)
    (z_sorted : PySem.W.nsIn K mainGlobals "sorted" = some none)
    (z_divmod : PySem.W.nsIn K mainGlobals "divmod" = some none)
    (z_all : PySem.W.nsIn K mainGlobals "all" = some none)
    (z_any : PySem.W.nsIn K mainGlobals "any" = some none)
    (z_reversed : PySem.W.nsIn K mainGlobals "reversed" = some none)
    (z_dict : PySem.W.nsIn K mainGlobals "dict" = some none)
    (y_gcd : PySem.W.nsIn K mainGlobals "gcd" = some (some (.builtin "math.gcd"))) :
    ∃ fd : FuncData, (∀ (s : Shared) (v : Value), BindsTo s fd ⟨[v], []⟩ [("script", v)]) ∧ ∀ base : Heap, K.In base → base.Ns mainGlobals mg → FnOk l.prog w K mg base CX0 20 fa fd ["script"] (sp_law K) := by
  have e := hfa.symm.trans (PySem.W.mg_of X G a_law)
  cases e
  have nb : Nb mg := { int := PySem.W.mg_none_of X G z_int, bool := PySem.W.mg_none_of X G z_bool, tuple := PySem.W.mg_none_of X G z_tuple, list := PySem.W.mg_none_of X G z_list, len := PySem.W.mg_none_of X G z_len, abs := PySem.W.mg_none_of X G z_abs, min := PySem.W.mg_none_of X G z_min, max := PySem.W.mg_none_of X G z_max, range := PySem.W.mg_none_of X G z_range, isinstance := PySem.W.mg_none_of X G z_isinstance, enumerate := PySem.W.mg_none_of X G z_enumerate, zip := PySem.W.mg_none_of X G z_zip, sum := PySem.W.mg_none_of X G z_sum, str := PySem.W.mg_none_of X G z_str, sorted := PySem.W.mg_none_of X G z_sorted, divmod := PySem.W.mg_none_of X G z_divmod, all := PySem.W.mg_none_of X G z_all, any := PySem.W.mg_none_of X G z_any, reversed := PySem.W.mg_none_of X G z_reversed, dict := PySem.W.mg_none_of X G z_dict }
  have cs : Cst9 K mg ad_NOUGHT := ⟨⟨_, PySem.W.mg_of X G g_PIECE⟩, ⟨_, PySem.W.mg_of X G g_DEEPEST⟩, ⟨_, PySem.W.mg_of X G g_LONGEST⟩, ⟨_, PySem.W.mg_of X G g_DIGITS⟩, PySem.W.mg_of X G g_NOUGHT, ⟨_, _, _, h_NOUGHT, rfl, rfl, (show 2 ≤ sizeLine by decide), .cons ⟨_, rfl⟩ (.cons ⟨_, rfl⟩ .nil)⟩⟩
  have c_FoldError : GC mg "FoldError" C_FoldError := ⟨PySem.W.mg_of X G aC_FoldError⟩
  have te := te_
  have hno := hno_
  have xno := hno_
  have xT := xfB_ok xf_BadText
  have xN_NoNumbers : XCls K C_NoNumbers := ⟨xfB_ok xf_NoNumbers, xc_NoNumbers, xa_NoNumbers, xn_, xt_, xm_NoNumbers⟩
  have xN_NoTree : XCls K C_NoTree := ⟨xfB_ok xf_NoTree, xc_NoTree, xa_NoTree, xn_, xt_, xm_NoTree⟩
  have mi_gcd := PySem.W.mg_of X G y_gcd
  have F_is_integer := fun_mk (st := s_is_integer) l_is_integer c_is_integer k_is_integer
  have b_is_integer := F_is_integer.binds (ps := ["thing"]) fun _ _ _ _ _ _ us hl => match us, hl with | [_], _ => rfl
  have F_is_row := fun_mk (st := s_is_row) l_is_row c_is_row k_is_row
  have b_is_row := F_is_row.binds (ps := ["thing"]) fun _ _ _ _ _ _ us hl => match us, hl with | [_], _ => rfl
  have F_is_tuple_of := fun_mk (st := s_is_tuple_of) l_is_tuple_of c_is_tuple_of k_is_tuple_of
  have b_is_tuple_of := F_is_tuple_of.binds (ps := ["thing", "many"]) fun _ _ _ _ _ _ us hl => match us, hl with | [_, _], _ => rfl
  have F_is_fraction := fun_mk (st := s_is_fraction) l_is_fraction c_is_fraction k_is_fraction
  have b_is_fraction := F_is_fraction.binds (ps := ["thing"]) fun _ _ _ _ _ _ us hl => match us, hl with | [_], _ => rfl
  have F_are_fractions := fun_mk (st := s_are_fractions) l_are_fractions c_are_fractions k_are_fractions
  have b_are_fractions := F_are_fractions.binds (ps := ["things"]) fun _ _ _ _ _ _ us hl => match us, hl with | [_], _ => rfl
  have F_word_of := fun_mk (st := s_word_of) l_word_of c_word_of k_word_of
  have b_word_of := F_word_of.binds (ps := ["number"]) fun _ _ _ _ _ _ us hl => match us, hl with | [_], _ => rfl
  have F_is_whole_word := fun_mk (st := s_is_whole_word) l_is_whole_word c_is_whole_word k_is_whole_word
  have b_is_whole_word := F_is_whole_word.binds (ps := ["word"]) fun _ _ _ _ _ _ us hl => match us, hl with | [_], _ => rfl
  have F_number_in := fun_mk (st := s_number_in) l_number_in c_number_in k_number_in
  have b_number_in := F_number_in.binds (ps := ["word"]) fun _ _ _ _ _ _ us hl => match us, hl with | [_], _ => rfl
  have F_fraction_word := fun_mk (st := s_fraction_word) l_fraction_word c_fraction_word k_fraction_word
  have b_fraction_word := F_fraction_word.binds (ps := ["one"]) fun _ _ _ _ _ _ us hl => match us, hl with | [_], _ => rfl
  have F_fraction_in := fun_mk (st := s_fraction_in) l_fraction_in c_fraction_in k_fraction_in
  have b_fraction_in := F_fraction_in.binds (ps := ["word"]) fun _ _ _ _ _ _ us hl => match us, hl with | [_], _ => rfl
  have F_numbers_text := fun_mk (st := s_numbers_text) l_numbers_text c_numbers_text k_numbers_text
  have b_numbers_text := F_numbers_text.binds (ps := ["numbers"]) fun _ _ _ _ _ _ us hl => match us, hl with | [_], _ => rfl
  have F_read_numbers := fun_mk (st := s_read_numbers) l_read_numbers c_read_numbers k_read_numbers
  have b_read_numbers := F_read_numbers.binds (ps := ["text"]) fun _ _ _ _ _ _ us hl => match us, hl with | [_], _ => rfl
  have F_is_number := fun_mk (st := s_is_number) l_is_number c_is_number k_is_number
  have b_is_number := F_is_number.binds (ps := ["thing"]) fun _ _ _ _ _ _ us hl => match us, hl with | [_], _ => rfl
  have F_is_tree := fun_mk (st := s_is_tree) l_is_tree c_is_tree k_is_tree
  have b_is_tree := F_is_tree.binds (ps := ["thing", "deepest"]) fun _ _ _ _ _ _ us hl => match us, hl with | [_, _], _ => rfl
  have F_written_tree := fun_mk (st := s_written_tree) l_written_tree c_written_tree k_written_tree
  have b_written_tree := F_written_tree.binds (ps := ["tree"]) fun _ _ _ _ _ _ us hl => match us, hl with | [_], _ => rfl
  have F_tree_text := fun_mk (st := s_tree_text) l_tree_text c_tree_text k_tree_text
  have b_tree_text := F_tree_text.binds (ps := ["tree"]) fun _ _ _ _ _ _ us hl => match us, hl with | [_], _ => rfl
  have F_sign_at := fun_mk (st := s_sign_at) l_sign_at c_sign_at k_sign_at
  have b_sign_at := F_sign_at.binds (ps := ["text", "at"]) fun _ _ _ _ _ _ us hl => match us, hl with | [_, _], _ => rfl
  have F_behind_sign := fun_mk (st := s_behind_sign) l_behind_sign c_behind_sign k_behind_sign
  have b_behind_sign := F_behind_sign.binds (ps := ["text", "at", "wanted"]) fun _ _ _ _ _ _ us hl => match us, hl with | [_, _, _], _ => rfl
  have F_read_number := fun_mk (st := s_read_number) l_read_number c_read_number k_read_number
  have b_read_number := F_read_number.binds (ps := ["text", "at"]) fun _ _ _ _ _ _ us hl => match us, hl with | [_, _], _ => rfl
  have F_tree_from := fun_mk (st := s_tree_from) l_tree_from c_tree_from k_tree_from
  have b_tree_from := F_tree_from.binds (ps := ["text", "at", "deepest"]) fun _ _ _ _ _ _ us hl => match us, hl with | [_, _, _], _ => rfl
  have F_read_tree := fun_mk (st := s_read_tree) l_read_tree c_read_tree k_read_tree
  have b_read_tree := F_read_tree.binds (ps := ["text"]) fun _ _ _ _ _ _ us hl => match us, hl with | [_], _ => rfl
  have F_law_mixed := fun_mk (st := s_law_mixed) l_law_mixed c_law_mixed k_law_mixed
  have b_law_mixed := F_law_mixed.binds (ps := ["cell", "k"]) fun _ _ _ _ _ _ us hl => match us, hl with | [_, _], _ => rfl
  have F_law_great := fun_mk (st := s_law_great) l_law_great c_law_great k_law_great
  have b_law_great := F_law_great.binds (ps := ["cells", "place"]) fun _ _ _ _ _ _ us hl => match us, hl with | [_, _], _ => rfl
  have F_law_stream := fun_mk (st := s_law_stream) l_law_stream c_law_stream k_law_stream
  have b_law_stream := F_law_stream.binds (ps := ["script"]) fun _ _ _ _ _ _ us hl => match us, hl with | [_], _ => rfl
  have F_law_take := fun_mk (st := s_law_take) l_law_take c_law_take k_law_take
  have b_law_take := F_law_take.binds (ps := ["stream", "many"]) fun _ _ _ _ _ _ us hl => match us, hl with | [_, _], _ => rfl
  have F_law_low := fun_mk (st := s_law_low) l_law_low c_law_low k_law_low
  have b_law_low := F_law_low.binds (ps := ["top", "bottom"]) fun _ _ _ _ _ _ us hl => match us, hl with | [_, _], _ => rfl
  have F_law_is_integer := fun_mk (st := s_law_is_integer) l_law_is_integer c_law_is_integer k_law_is_integer
  have b_law_is_integer := F_law_is_integer.binds (ps := ["thing"]) fun _ _ _ _ _ _ us hl => match us, hl with | [_], _ => rfl
  have F_law_alike := fun_mk (st := s_law_alike) l_law_alike c_law_alike k_law_alike
  have b_law_alike := F_law_alike.binds (ps := ["told", "due"]) fun _ _ _ _ _ _ us hl => match us, hl with | [_, _], _ => rfl
  have F_law_word := fun_mk (st := s_law_word) l_law_word c_law_word k_law_word
  have b_law_word := F_law_word.binds (ps := ["one"]) fun _ _ _ _ _ _ us hl => match us, hl with | [_], _ => rfl
  have F_law_whole := fun_mk (st := s_law_whole) l_law_whole c_law_whole k_law_whole
  have b_law_whole := F_law_whole.binds (ps := ["word"]) fun _ _ _ _ _ _ us hl => match us, hl with | [_], _ => rfl
  have F_law_read_word := fun_mk (st := s_law_read_word) l_law_read_word c_law_read_word k_law_read_word
  have b_law_read_word := F_law_read_word.binds (ps := ["word"]) fun _ _ _ _ _ _ us hl => match us, hl with | [_], _ => rfl
  have F_law_is_long := fun_mk (st := s_law_is_long) l_law_is_long c_law_is_long k_law_is_long
  have b_law_is_long := F_law_is_long.binds (ps := ["text"]) fun _ _ _ _ _ _ us hl => match us, hl with | [_], _ => rfl
  have F_law_numbers_due := fun_mk (st := s_law_numbers_due) l_law_numbers_due c_law_numbers_due k_law_numbers_due
  have b_law_numbers_due := F_law_numbers_due.binds (ps := ["text"]) fun _ _ _ _ _ _ us hl => match us, hl with | [_], _ => rfl
  have F_law_numbers_read := fun_mk (st := s_law_numbers_read) l_law_numbers_read c_law_numbers_read k_law_numbers_read
  have b_law_numbers_read := F_law_numbers_read.binds (ps := ["text"]) fun _ _ _ _ _ _ us hl => match us, hl with | [_], _ => rfl
  have F_law_tree_read := fun_mk (st := s_law_tree_read) l_law_tree_read c_law_tree_read k_law_tree_read
  have b_law_tree_read := F_law_tree_read.binds (ps := ["text"]) fun _ _ _ _ _ _ us hl => match us, hl with | [_], _ => rfl
  have F_law_no_numbers := fun_mk (st := s_law_no_numbers) l_law_no_numbers c_law_no_numbers k_law_no_numbers
  have b_law_no_numbers := F_law_no_numbers.binds (ps := ["thing"]) fun _ _ _ _ _ _ us hl => match us, hl with | [_], _ => rfl
  have F_law_no_tree := fun_mk (st := s_law_no_tree) l_law_no_tree c_law_no_tree k_law_no_tree
  have b_law_no_tree := F_law_no_tree.binds (ps := ["thing"]) fun _ _ _ _ _ _ us hl => match us, hl with | [_], _ => rfl
  have F_law_changed := fun_mk (st := s_law_changed) l_law_changed c_law_changed k_law_changed
  have b_law_changed := F_law_changed.binds (ps := ["stream", "text", "most"]) fun _ _ _ _ _ _ us hl => match us, hl with | [_, _, _], _ => rfl
  have F_law_size_drawn := fun_mk (st := s_law_size_drawn) l_law_size_drawn c_law_size_drawn k_law_size_drawn
  have b_law_size_drawn := F_law_size_drawn.binds (ps := ["stream"]) fun _ _ _ _ _ _ us hl => match us, hl with | [_], _ => rfl
  have F_law_numbers_judged := fun_mk (st := s_law_numbers_judged) l_law_numbers_judged c_law_numbers_judged k_law_numbers_judged
  have b_law_numbers_judged := F_law_numbers_judged.binds (ps := ["stream"]) fun _ _ _ _ _ _ us hl => match us, hl with | [_], _ => rfl
  have F_law_tree_drawn := fun_mk (st := s_law_tree_drawn) l_law_tree_drawn c_law_tree_drawn k_law_tree_drawn
  have b_law_tree_drawn := F_law_tree_drawn.binds (ps := ["stream", "deep", "many"]) fun _ _ _ _ _ _ us hl => match us, hl with | [_, _, _], _ => rfl
  have F_law_tree_word := fun_mk (st := s_law_tree_word) l_law_tree_word c_law_tree_word k_law_tree_word
  have b_law_tree_word := F_law_tree_word.binds (ps := ["tree"]) fun _ _ _ _ _ _ us hl => match us, hl with | [_], _ => rfl
  have F_law_is_tree := fun_mk (st := s_law_is_tree) l_law_is_tree c_law_is_tree k_law_is_tree
  have b_law_is_tree := F_law_is_tree.binds (ps := ["tree"]) fun _ _ _ _ _ _ us hl => match us, hl with | [_], _ => rfl
  have F_law_bad_sign := fun_mk (st := s_law_bad_sign) l_law_bad_sign c_law_bad_sign k_law_bad_sign
  have b_law_bad_sign := F_law_bad_sign.binds (ps := ["text"]) fun _ _ _ _ _ _ us hl => match us, hl with | [_], _ => rfl
  have F_law_spoilt := fun_mk (st := s_law_spoilt) l_law_spoilt c_law_spoilt k_law_spoilt
  have b_law_spoilt := F_law_spoilt.binds (ps := ["stream", "tree"]) fun _ _ _ _ _ _ us hl => match us, hl with | [_, _], _ => rfl
  have F_law_trees_judged := fun_mk (st := s_law_trees_judged) l_law_trees_judged c_law_trees_judged k_law_trees_judged
  have b_law_trees_judged := F_law_trees_judged.binds (ps := ["stream"]) fun _ _ _ _ _ _ us hl => match us, hl with | [_], _ => rfl
  have F_law_deepest := fun_mk (st := s_law_deepest) l_law_deepest c_law_deepest k_law_deepest
  have b_law_deepest := F_law_deepest.binds (ps := ["stream"]) fun _ _ _ _ _ _ us hl => match us, hl with | [_], _ => rfl
  have F_law := fun_mk (st := s_law) l_law c_law k_law
  refine ⟨PySem.W.fnOf "law" "law" (defArgs s_law) (defBody s_law) (defScope s_law) .none kV_law dc_law pm_law an_law cd_law ct_law, fun s v => .of_eq rfl, fun base _ _ => ?_⟩
  have I_NoNumbers := fun_mk (st := i0_NoNumbers) li_NoNumbers ci_NoNumbers ki_NoNumbers
  have c_NoNumbers : Ex0 l.prog w K mg base "NoNumbers" C_NoNumbers := ⟨⟨⟨nm_NoNumbers, q_NoNumbers, N_NoNumbers, bs_NoNumbers, _, sn_NoNumbers, sub_NoNumbers, ab_NoNumbers, col_NoNumbers, dd_NoNumbers, m0_NoNumbers, m1_NoNumbers, m2_NoNumbers, m3_NoNumbers, m5_NoNumbers, xL_NoNumbers, (show (PySem.HandSPX.veTail == PySem.HandSPX.veTail) = true by decide +kernel)⟩, sa_NoNumbers, eC_NoNumbers, tC_NoNumbers, kC_NoNumbers⟩, PySem.W.mg_of X G aC_NoNumbers, te_NoNumbers, ⟨i_NoNumbers, _, in_NoNumbers, ti_NoNumbers, okinit_NoNumbers I_NoNumbers, I_NoNumbers.binds fun _ _ _ _ _ _ us hl => match us, hl with | [_], _ => rfl⟩⟩
  have I_BadText := fun_mk (st := i0_BadText) li_BadText ci_BadText ki_BadText
  have c_BadText : ExF l.prog w K mg base "BadText" C_BadText ["self", "at"] (sp_ini1 K C_BadText "at") := ⟨⟨⟨nm_BadText, q_BadText, N_BadText, bs_BadText, _, sn_BadText, sub_BadText, ab_BadText, col_BadText, dd_BadText, m0_BadText, m1_BadText, m2_BadText, m3_BadText, m5_BadText, xL_BadText, (show (PySem.HandSPX.veTail == PySem.HandSPX.veTail) = true by decide +kernel)⟩, sa_BadText, eC_BadText, tC_BadText, kC_BadText⟩, PySem.W.mg_of X G aC_BadText, ⟨i_BadText, _, in_BadText, ti_BadText, okinit_BadText I_BadText, I_BadText.binds fun _ _ _ _ _ _ us hl => match us, hl with | [_, _], _ => rfl⟩⟩
  have I_NoTree := fun_mk (st := i0_NoTree) li_NoTree ci_NoTree ki_NoTree
  have c_NoTree : Ex0 l.prog w K mg base "NoTree" C_NoTree := ⟨⟨⟨nm_NoTree, q_NoTree, N_NoTree, bs_NoTree, _, sn_NoTree, sub_NoTree, ab_NoTree, col_NoTree, dd_NoTree, m0_NoTree, m1_NoTree, m2_NoTree, m3_NoTree, m5_NoTree, xL_NoTree, (show (PySem.HandSPX.veTail == PySem.HandSPX.veTail) = true by decide +kernel)⟩, sa_NoTree, eC_NoTree, tC_NoTree, kC_NoTree⟩, PySem.W.mg_of X G aC_NoTree, te_NoTree, ⟨i_NoTree, _, in_NoTree, ti_NoTree, okinit_NoTree I_NoTree, I_NoTree.binds fun _ _ _ _ _ _ us hl => match us, hl with | [_], _ => rfl⟩⟩
  let d_is_integer : Df l.prog w K mg base CX0 1 "is_integer" ["thing"] sp_isI := ⟨f_is_integer, _, PySem.W.mg_of X G a_is_integer, k_is_integer, b_is_integer, ok_is_integer F_is_integer nb⟩
  let d_is_row : Df l.prog w K mg base CX0 1 "is_row" ["thing"] sp_isrow := ⟨f_is_row, _, PySem.W.mg_of X G a_is_row, k_is_row, b_is_row, ok_is_row F_is_row nb⟩
  let d_is_tuple_of : Df l.prog w K mg base CX0 1 "is_tuple_of" ["thing", "many"] sp_tupof := ⟨f_is_tuple_of, _, PySem.W.mg_of X G a_is_tuple_of, k_is_tuple_of, b_is_tuple_of, ok_is_tuple_of F_is_tuple_of nb⟩
  let d_is_fraction : Df l.prog w K mg base CX0 2 "is_fraction" ["thing"] sp_isFp := ⟨f_is_fraction, _, PySem.W.mg_of X G a_is_fraction, k_is_fraction, b_is_fraction, ok_is_fraction F_is_fraction nb mi_gcd d_is_tuple_of d_is_integer⟩
  let d_are_fractions : Df l.prog w K mg base CX0 3 "are_fractions" ["things"] sp_arefr := ⟨f_are_fractions, _, PySem.W.mg_of X G a_are_fractions, k_are_fractions, b_are_fractions, ok_are_fractions F_are_fractions nb d_is_fraction⟩
  let d_word_of : Df l.prog w K mg base CX0 2 "word_of" ["number"] sp_word := ⟨f_word_of, _, PySem.W.mg_of X G a_word_of, k_word_of, b_word_of, ok_word_of F_word_of nb cs (PySem.W.mg_of X G a_word_of) k_word_of b_word_of⟩
  let d_is_whole_word : Df l.prog w K mg base CX0 1 "is_whole_word" ["word"] sp_wword := ⟨f_is_whole_word, _, PySem.W.mg_of X G a_is_whole_word, k_is_whole_word, b_is_whole_word, ok_is_whole_word F_is_whole_word nb cs⟩
  let d_number_in : Df l.prog w K mg base CX0 1 "number_in" ["word"] sp_numin := ⟨f_number_in, _, PySem.W.mg_of X G a_number_in, k_number_in, b_number_in, ok_number_in F_number_in nb cs⟩
  let d_fraction_word : Df l.prog w K mg base CX0 3 "fraction_word" ["one"] sp_fword := ⟨f_fraction_word, _, PySem.W.mg_of X G a_fraction_word, k_fraction_word, b_fraction_word, ok_fraction_word F_fraction_word nb d_word_of⟩
  let d_fraction_in : Df l.prog w K mg base CX0 2 "fraction_in" ["word"] (sp_fracin K) := ⟨f_fraction_in, _, PySem.W.mg_of X G a_fraction_in, k_fraction_in, b_fraction_in, ok_fraction_in F_fraction_in nb cs mi_gcd d_is_whole_word d_number_in⟩
  let d_numbers_text : Df l.prog w K mg base (L2.CX l.prog w) 4 "numbers_text" ["numbers"] (sp_ntext C_NoNumbers) := ⟨f_numbers_text, _, PySem.W.mg_of X G a_numbers_text, k_numbers_text, b_numbers_text, ok_numbers_text F_numbers_text nb c_NoNumbers d_is_row d_are_fractions d_fraction_word⟩
  have kb_numbers_text : KB0 K d_numbers_text.fd ["numbers"] ["numbers"] same1 := ⟨fun s ws hl => match ws, hl with | [_], _ => .of_eq rfl, fun r hl => vals_same1 r hl⟩
  let d_read_numbers : Df l.prog w K mg base (L2.CX l.prog w) 3 "read_numbers" ["text"] (sp_rnums K C_BadText) := ⟨f_read_numbers, _, PySem.W.mg_of X G a_read_numbers, k_read_numbers, b_read_numbers, ok_read_numbers F_read_numbers nb c_BadText hno d_fraction_in⟩
  have kb_read_numbers : KB0 K d_read_numbers.fd ["text"] ["text"] same1 := ⟨fun s ws hl => match ws, hl with | [_], _ => .of_eq rfl, fun r hl => vals_same1 r hl⟩
  let d_is_number : Df l.prog w K mg base CX0 2 "is_number" ["thing"] sp_isnum := ⟨f_is_number, _, PySem.W.mg_of X G a_is_number, k_is_number, b_is_number, ok_is_number F_is_number nb d_is_integer⟩
  let d_is_tree : Df l.prog w K mg base CX0 14 "is_tree" ["thing", "deepest"] (sp_istree 12) := ⟨f_is_tree, _, PySem.W.mg_of X G a_is_tree, k_is_tree, b_is_tree, ok_is_tree F_is_tree nb d_is_tuple_of d_is_number (PySem.W.mg_of X G a_is_tree) k_is_tree b_is_tree⟩
  let d_written_tree : Df l.prog w K mg base CX0 14 "written_tree" ["tree"] (sp_wtree 12) := ⟨f_written_tree, _, PySem.W.mg_of X G a_written_tree, k_written_tree, b_written_tree, ok_written_tree F_written_tree nb d_word_of (PySem.W.mg_of X G a_written_tree) k_written_tree b_written_tree⟩
  let d_tree_text : Df l.prog w K mg base (L2.CX l.prog w) 15 "tree_text" ["tree"] (sp_ttext C_NoTree) := ⟨f_tree_text, _, PySem.W.mg_of X G a_tree_text, k_tree_text, b_tree_text, ok_tree_text F_tree_text nb cs c_NoTree d_is_tree d_written_tree⟩
  have kb_tree_text : KB0 K d_tree_text.fd ["tree"] ["tree"] same1 := ⟨fun s ws hl => match ws, hl with | [_], _ => .of_eq rfl, fun r hl => vals_same1 r hl⟩
  let d_sign_at : Df l.prog w K mg base (L2.CX l.prog w) 3 "sign_at" ["text", "at"] (sp_signat C_BadText) := ⟨f_sign_at, _, PySem.W.mg_of X G a_sign_at, k_sign_at, b_sign_at, ok_sign_at F_sign_at nb c_BadText hno⟩
  let d_behind_sign : Df l.prog w K mg base (L2.CX l.prog w) 4 "behind_sign" ["text", "at", "wanted"] (sp_behind C_BadText) := ⟨f_behind_sign, _, PySem.W.mg_of X G a_behind_sign, k_behind_sign, b_behind_sign, ok_behind_sign F_behind_sign nb c_BadText hno d_sign_at⟩
  let d_read_number : Df l.prog w K mg base (L2.CX l.prog w) 4 "read_number" ["text", "at"] (sp_readnum C_BadText) := ⟨f_read_number, _, PySem.W.mg_of X G a_read_number, k_read_number, b_read_number, ok_read_number F_read_number nb cs c_BadText hno d_sign_at d_number_in⟩
  let d_tree_from : Df l.prog w K mg base (L2.CX l.prog w) 16 "tree_from" ["text", "at", "deepest"] (sp_tfrom C_BadText 12) := ⟨f_tree_from, _, PySem.W.mg_of X G a_tree_from, k_tree_from, b_tree_from, ok_tree_from F_tree_from nb cs d_sign_at d_behind_sign d_read_number (PySem.W.mg_of X G a_tree_from) k_tree_from b_tree_from⟩
  let d_read_tree : Df l.prog w K mg base (L2.CX l.prog w) 17 "read_tree" ["text"] (sp_rtree C_BadText) := ⟨f_read_tree, _, PySem.W.mg_of X G a_read_tree, k_read_tree, b_read_tree, ok_read_tree F_read_tree nb cs c_BadText hno d_tree_from⟩
  have kb_read_tree : KB0 K d_read_tree.fd ["text"] ["text"] same1 := ⟨fun s ws hl => match ws, hl with | [_], _ => .of_eq rfl, fun r hl => vals_same1 r hl⟩
  let d_law_mixed : Df l.prog w K mg base CX0 1 "_law_mixed" ["cell", "k"] sp_mixed := ⟨f_law_mixed, _, PySem.W.mg_of X G a_law_mixed, k_law_mixed, b_law_mixed, ok_law_mixed F_law_mixed nb⟩
  let d_law_great : Df l.prog w K mg base CX0 1 "_law_great" ["cells", "place"] (sp_great K) := ⟨f_law_great, _, PySem.W.mg_of X G a_law_great, k_law_great, b_law_great, ok_law_great F_law_great nb⟩
  let d_law_stream : Df l.prog w K mg base CX0 2 "_law_stream" ["script"] (sp_stream K) := ⟨f_law_stream, _, PySem.W.mg_of X G a_law_stream, k_law_stream, b_law_stream, ok_law_stream F_law_stream nb d_law_great⟩
  let d_law_take : Df l.prog w K mg base CX0 2 "_law_take" ["stream", "many"] sp_take := ⟨f_law_take, _, PySem.W.mg_of X G a_law_take, k_law_take, b_law_take, ok_law_take F_law_take nb d_law_great d_law_mixed⟩
  let d_law_low : Df l.prog w K mg base CX0 1 "_law_low" ["top", "bottom"] sp_low := ⟨f_law_low, _, PySem.W.mg_of X G a_law_low, k_law_low, b_law_low, ok_law_low F_law_low nb⟩
  let d_law_is_integer : Df l.prog w K mg base CX0 1 "_law_is_integer" ["thing"] sp_isI := ⟨f_law_is_integer, _, PySem.W.mg_of X G a_law_is_integer, k_law_is_integer, b_law_is_integer, ok_law_is_integer F_law_is_integer nb⟩
  let d_law_alike : Df l.prog w K mg base CX0 16 "_law_alike" ["told", "due"] (sp_alike K 16) := ⟨f_law_alike, _, PySem.W.mg_of X G a_law_alike, k_law_alike, b_law_alike, ok_law_alike F_law_alike nb (PySem.W.mg_of X G a_law_alike) k_law_alike b_law_alike⟩
  let d_law_word : Df l.prog w K mg base CX0 1 "_law_word" ["one"] sp_fword := ⟨f_law_word, _, PySem.W.mg_of X G a_law_word, k_law_word, b_law_word, ok_law_word F_law_word nb⟩
  let d_law_whole : Df l.prog w K mg base CX0 1 "_law_whole" ["word"] sp_lwhole := ⟨f_law_whole, _, PySem.W.mg_of X G a_law_whole, k_law_whole, b_law_whole, ok_law_whole F_law_whole nb⟩
  let d_law_read_word : Df l.prog w K mg base CX0 2 "_law_read_word" ["word"] sp_lread := ⟨f_law_read_word, _, PySem.W.mg_of X G a_law_read_word, k_law_read_word, b_law_read_word, ok_law_read_word F_law_read_word nb d_law_whole d_law_low⟩
  let d_law_is_long : Df l.prog w K mg base CX0 1 "_law_is_long" ["text"] sp_llong := ⟨f_law_is_long, _, PySem.W.mg_of X G a_law_is_long, k_law_is_long, b_law_is_long, ok_law_is_long F_law_is_long nb⟩
  let d_law_numbers_due : Df l.prog w K mg base CX0 3 "_law_numbers_due" ["text"] sp_ndue := ⟨f_law_numbers_due, _, PySem.W.mg_of X G a_law_numbers_due, k_law_numbers_due, b_law_numbers_due, ok_law_numbers_due F_law_numbers_due nb d_law_read_word⟩
  let d_law_numbers_read : Df l.prog w K mg base CX0 4 "_law_numbers_read" ["text"] (sp_nread K) := ⟨f_law_numbers_read, _, PySem.W.mg_of X G a_law_numbers_read, k_law_numbers_read, b_law_numbers_read, ok_law_numbers_read F_law_numbers_read nb c_BadText te xT xno d_read_numbers kb_read_numbers⟩
  let d_law_tree_read : Df l.prog w K mg base CX0 18 "_law_tree_read" ["text"] sp_tread := ⟨f_law_tree_read, _, PySem.W.mg_of X G a_law_tree_read, k_law_tree_read, b_law_tree_read, ok_law_tree_read F_law_tree_read nb c_BadText te xT xno d_read_tree⟩
  let d_law_no_numbers : Df l.prog w K mg base CX0 5 "_law_no_numbers" ["thing"] sp_nonum := ⟨f_law_no_numbers, _, PySem.W.mg_of X G a_law_no_numbers, k_law_no_numbers, b_law_no_numbers, ok_law_no_numbers F_law_no_numbers nb c_FoldError c_NoTree c_NoNumbers xN_NoNumbers k1_NoNumbers k2_NoNumbers d_numbers_text⟩
  let d_law_no_tree : Df l.prog w K mg base CX0 16 "_law_no_tree" ["thing"] sp_notree := ⟨f_law_no_tree, _, PySem.W.mg_of X G a_law_no_tree, k_law_no_tree, b_law_no_tree, ok_law_no_tree F_law_no_tree nb c_FoldError c_NoTree c_NoNumbers xN_NoTree k1_NoTree k2_NoTree d_tree_text⟩
  let d_law_changed : Df l.prog w K mg base CX0 3 "_law_changed" ["stream", "text", "most"] sp_changed := ⟨f_law_changed, _, PySem.W.mg_of X G a_law_changed, k_law_changed, b_law_changed, ok_law_changed F_law_changed nb d_law_take⟩
  let d_law_size_drawn : Df l.prog w K mg base CX0 3 "_law_size_drawn" ["stream"] sp_size := ⟨f_law_size_drawn, _, PySem.W.mg_of X G a_law_size_drawn, k_law_size_drawn, b_law_size_drawn, ok_law_size_drawn F_law_size_drawn nb d_law_take⟩
  let d_law_numbers_judged : Df l.prog w K mg base CX0 17 "_law_numbers_judged" ["stream"] sp_judged := ⟨f_law_numbers_judged, _, PySem.W.mg_of X G a_law_numbers_judged, k_law_numbers_judged, b_law_numbers_judged, ok_law_numbers_judged F_law_numbers_judged nb d_law_take d_law_size_drawn d_law_low d_law_word d_law_alike d_numbers_text kb_numbers_text d_law_numbers_read d_law_changed d_law_is_long d_law_numbers_due d_law_no_numbers⟩
  let d_law_tree_drawn : Df l.prog w K mg base CX0 15 "_law_tree_drawn" ["stream", "deep", "many"] (sp_tdrawn 12) := ⟨f_law_tree_drawn, _, PySem.W.mg_of X G a_law_tree_drawn, k_law_tree_drawn, b_law_tree_drawn, ok_law_tree_drawn F_law_tree_drawn nb d_law_take d_law_size_drawn (PySem.W.mg_of X G a_law_tree_drawn) k_law_tree_drawn b_law_tree_drawn⟩
  let d_law_tree_word : Df l.prog w K mg base CX0 13 "_law_tree_word" ["tree"] (sp_wtree 13) := ⟨f_law_tree_word, _, PySem.W.mg_of X G a_law_tree_word, k_law_tree_word, b_law_tree_word, ok_law_tree_word F_law_tree_word nb (PySem.W.mg_of X G a_law_tree_word) k_law_tree_word b_law_tree_word⟩
  let d_law_is_tree : Df l.prog w K mg base CX0 13 "_law_is_tree" ["tree"] (sp_listree 12) := ⟨f_law_is_tree, _, PySem.W.mg_of X G a_law_is_tree, k_law_is_tree, b_law_is_tree, ok_law_is_tree F_law_is_tree nb d_law_is_integer (PySem.W.mg_of X G a_law_is_tree) k_law_is_tree b_law_is_tree⟩
  let d_law_bad_sign : Df l.prog w K mg base CX0 1 "_law_bad_sign" ["text"] sp_badsign := ⟨f_law_bad_sign, _, PySem.W.mg_of X G a_law_bad_sign, k_law_bad_sign, b_law_bad_sign, ok_law_bad_sign F_law_bad_sign nb⟩
  let d_law_spoilt : Df l.prog w K mg base CX0 14 "_law_spoilt" ["stream", "tree"] (sp_spoilt 12) := ⟨f_law_spoilt, _, PySem.W.mg_of X G a_law_spoilt, k_law_spoilt, b_law_spoilt, ok_law_spoilt F_law_spoilt nb d_law_take (PySem.W.mg_of X G a_law_spoilt) k_law_spoilt b_law_spoilt⟩
  let d_law_trees_judged : Df l.prog w K mg base CX0 19 "_law_trees_judged" ["stream"] sp_judged := ⟨f_law_trees_judged, _, PySem.W.mg_of X G a_law_trees_judged, k_law_trees_judged, b_law_trees_judged, ok_law_trees_judged F_law_trees_judged nb d_law_take d_law_tree_drawn d_law_tree_word d_law_alike d_tree_text kb_tree_text d_read_tree kb_read_tree d_law_changed d_law_tree_read d_law_bad_sign d_law_is_tree d_law_no_tree d_law_spoilt⟩
  let d_law_deepest : Df l.prog w K mg base CX0 19 "_law_deepest" ["stream"] sp_judged := ⟨f_law_deepest, _, PySem.W.mg_of X G a_law_deepest, k_law_deepest, b_law_deepest, ok_law_deepest F_law_deepest nb d_law_take d_law_size_drawn d_law_tree_word d_law_alike d_tree_text d_law_tree_read d_law_bad_sign d_law_no_tree⟩
  exact ok_law F_law nb d_law_stream d_law_take d_law_numbers_read d_law_tree_read d_law_alike d_law_deepest d_law_numbers_judged d_law_trees_judged
end Fc
open PySem PySem.W PyProof.Rows
set_option maxRecDepth 100000 in
set_option maxHeartbeats 0 in
theorem PySem.Challenge.cw_fourcreases_k94_whole_numbers_and_trees_holds : PySem.Challenge.rw_fourcreases_k94_whole_numbers_and_trees.Holds := by
  w_on; o_law; k_head; (case hw => w_witness2)
  k_fill
  refine L2.walk_of (l := PySem.Challenge.rw_fourcreases_k94_whole_numbers_and_trees) (n := 63) (k := 20) (x := "script") (CX := fun _ => L2.CX0) (sp := fun w => Fc.sp_law _) rfl (by decide) rfl ⟨rfl, by decide, by decide⟩ (fun w h Y => PySem.W.kIn_of Y) ?F (fun _ _ a ns hl _ hS => ⟨a, ns, rfl, hS, hl, fun _ => rfl⟩) (fun _ _ _ _ _ h => h)
  case F =>
    intro w mg fa h KX G hmg
    refine' Fc.all_mk KX G hmg ?a_is_integer ?l_is_integer ?c_is_integer ?k_is_integer ?a_is_row ?l_is_row ?c_is_row ?k_is_row ?a_is_tuple_of ?l_is_tuple_of ?c_is_tuple_of ?k_is_tuple_of ?a_is_fraction ?l_is_fraction ?c_is_fraction ?k_is_fraction ?a_are_fractions ?l_are_fractions ?c_are_fractions ?k_are_fractions ?a_word_of ?l_word_of ?c_word_of ?k_word_of ?a_is_whole_word ?l_is_whole_word ?c_is_whole_word ?k_is_whole_word ?a_number_in ?l_number_in ?c_number_in ?k_number_in ?a_fraction_word ?l_fraction_word ?c_fraction_word ?k_fraction_word ?a_fraction_in ?l_fraction_in ?c_fraction_in ?k_fraction_in ?a_numbers_text ?l_numbers_text ?c_numbers_text ?k_numbers_text ?a_read_numbers ?l_read_numbers ?c_read_numbers ?k_read_numbers ?a_is_number ?l_is_number ?c_is_number ?k_is_number ?a_is_tree ?l_is_tree ?c_is_tree ?k_is_tree ?a_written_tree ?l_written_tree ?c_written_tree ?k_written_tree ?a_tree_text ?l_tree_text ?c_tree_text ?k_tree_text ?a_sign_at ?l_sign_at ?c_sign_at ?k_sign_at ?a_behind_sign ?l_behind_sign ?c_behind_sign ?k_behind_sign ?a_read_number ?l_read_number ?c_read_number ?k_read_number ?a_tree_from ?l_tree_from ?c_tree_from ?k_tree_from ?a_read_tree ?l_read_tree ?c_read_tree ?k_read_tree ?a_law_mixed ?l_law_mixed ?c_law_mixed ?k_law_mixed ?a_law_great ?l_law_great ?c_law_great ?k_law_great ?a_law_stream ?l_law_stream ?c_law_stream ?k_law_stream ?a_law_take ?l_law_take ?c_law_take ?k_law_take ?a_law_low ?l_law_low ?c_law_low ?k_law_low ?a_law_is_integer ?l_law_is_integer ?c_law_is_integer ?k_law_is_integer ?a_law_alike ?l_law_alike ?c_law_alike ?k_law_alike ?a_law_word ?l_law_word ?c_law_word ?k_law_word ?a_law_whole ?l_law_whole ?c_law_whole ?k_law_whole ?a_law_read_word ?l_law_read_word ?c_law_read_word ?k_law_read_word ?a_law_is_long ?l_law_is_long ?c_law_is_long ?k_law_is_long ?a_law_numbers_due ?l_law_numbers_due ?c_law_numbers_due ?k_law_numbers_due ?a_law_numbers_read ?l_law_numbers_read ?c_law_numbers_read ?k_law_numbers_read ?a_law_tree_read ?l_law_tree_read ?c_law_tree_read ?k_law_tree_read ?a_law_no_numbers ?l_law_no_numbers ?c_law_no_numbers ?k_law_no_numbers ?a_law_no_tree ?l_law_no_tree ?c_law_no_tree ?k_law_no_tree ?a_law_changed ?l_law_changed ?c_law_changed ?k_law_changed ?a_law_size_drawn ?l_law_size_drawn ?c_law_size_drawn ?k_law_size_drawn ?a_law_numbers_judged ?l_law_numbers_judged ?c_law_numbers_judged ?k_law_numbers_judged ?a_law_tree_drawn ?l_law_tree_drawn ?c_law_tree_drawn ?k_law_tree_drawn ?a_law_tree_word ?l_law_tree_word ?c_law_tree_word ?k_law_tree_word ?a_law_is_tree ?l_law_is_tree ?c_law_is_tree ?k_law_is_tree ?a_law_bad_sign ?l_law_bad_sign ?c_law_bad_sign ?k_law_bad_sign ?a_law_spoilt ?l_law_spoilt ?c_law_spoilt ?k_law_spoilt ?a_law_trees_judged ?l_law_trees_judged ?c_law_trees_judged ?k_law_trees_judged ?a_law_deepest ?l_law_deepest ?c_law_deepest ?k_law_deepest ?a_law ?l_law ?c_law ?k_law ?aC_FoldError ?aC_NoNumbers ?xL_NoNumbers ?sa_NoNumbers ?in_NoNumbers ?ti_NoNumbers ?li_NoNumbers ?ci_NoNumbers ?ki_NoNumbers ?kC_NoNumbers ?eC_NoNumbers ?tC_NoNumbers ?te_NoNumbers ?aC_BadText ?xL_BadText ?sa_BadText ?in_BadText ?ti_BadText ?li_BadText ?ci_BadText ?ki_BadText ?kC_BadText ?eC_BadText ?tC_BadText ?aC_NoTree ?xL_NoTree ?sa_NoTree ?in_NoTree ?ti_NoTree ?li_NoTree ?ci_NoTree ?ki_NoTree ?kC_NoTree ?eC_NoTree ?tC_NoTree ?te_NoTree ?g_PIECE ?g_DEEPEST ?g_LONGEST ?g_NOUGHT ?h_NOUGHT ?g_DIGITS ?te_ ?hno_ ?xf_BadText ?xf_NoNumbers ?xc_NoNumbers ?xa_NoNumbers ?xm_NoNumbers ?k1_NoNumbers ?k2_NoNumbers ?xf_NoTree ?xc_NoTree ?xa_NoTree ?xm_NoTree ?k1_NoTree ?k2_NoTree ?xn_ ?xt_ ?z_int ?z_bool ?z_tuple ?z_list ?z_len ?z_abs ?z_min ?z_max ?z_range ?z_isinstance ?z_enumerate ?z_zip ?z_sum ?z_str ?z_sorted ?z_divmod ?z_all ?z_any ?z_reversed ?z_dict ?y_gcd
    (case a_is_integer => first | k_is | rfl)
    (case l_is_integer => first | k_is | rfl)
    (case c_is_integer => first | k_is | rfl)
    (case k_is_integer => first | k_is | rfl)
    (case a_is_row => first | k_is | rfl)
    (case l_is_row => first | k_is | rfl)
    (case c_is_row => first | k_is | rfl)
    (case k_is_row => first | k_is | rfl)
    (case a_is_tuple_of => first | k_is | rfl)
    (case l_is_tuple_of => first | k_is | rfl)
    (case c_is_tuple_of => first | k_is | rfl)
    (case k_is_tuple_of => first | k_is | rfl)
    (case a_is_fraction => first | k_is | rfl)
    (case l_is_fraction => first | k_is | rfl)
    (case c_is_fraction => first | k_is | rfl)
    (case k_is_fraction => first | k_is | rfl)
    (case a_are_fractions => first | k_is | rfl)
    (case l_are_fractions => first | k_is | rfl)
    (case c_are_fractions => first | k_is | rfl)
    (case k_are_fractions => first | k_is | rfl)
    (case a_word_of => first | k_is | rfl)
    (case l_word_of => first | k_is | rfl)
    (case c_word_of => first | k_is | rfl)
    (case k_word_of => first | k_is | rfl)
    (case a_is_whole_word => first | k_is | rfl)
    (case l_is_whole_word => first | k_is | rfl)
    (case c_is_whole_word => first | k_is | rfl)
    (case k_is_whole_word => first | k_is | rfl)
    (case a_number_in => first | k_is | rfl)
    (case l_number_in => first | k_is | rfl)
    (case c_number_in => first | k_is | rfl)
    (case k_number_in => first | k_is | rfl)
    (case a_fraction_word => first | k_is | rfl)
    (case l_fraction_word => first | k_is | rfl)
    (case c_fraction_word => first | k_is | rfl)
    (case k_fraction_word => first | k_is | rfl)
    (case a_fraction_in => first | k_is | rfl)
    (case l_fraction_in => first | k_is | rfl)
    (case c_fraction_in => first | k_is | rfl)
    (case k_fraction_in => first | k_is | rfl)
    (case a_numbers_text => first | k_is | rfl)
    (case l_numbers_text => first | k_is | rfl)
    (case c_numbers_text => first | k_is | rfl)
    (case k_numbers_text => first | k_is | rfl)
    (case a_read_numbers => first | k_is | rfl)
    (case l_read_numbers => first | k_is | rfl)
    (case c_read_numbers => first | k_is | rfl)
    (case k_read_numbers => first | k_is | rfl)
    (case a_is_number => first | k_is | rfl)
    (case l_is_number => first | k_is | rfl)
    (case c_is_number => first | k_is | rfl)
    (case k_is_number => first | k_is | rfl)
    (case a_is_tree => first | k_is | rfl)
    (case l_is_tree => first | k_is | rfl)
    (case c_is_tree => first | k_is | rfl)
    (case k_is_tree => first | k_is | rfl)
    (case a_written_tree => first | k_is | rfl)
    (case l_written_tree => first | k_is | rfl)
    (case c_written_tree => first | k_is | rfl)
    (case k_written_tree => first | k_is | rfl)
    (case a_tree_text => first | k_is | rfl)
    (case l_tree_text => first | k_is | rfl)
    (case c_tree_text => first | k_is | rfl)
    (case k_tree_text => first | k_is | rfl)
    (case a_sign_at => first | k_is | rfl)
    (case l_sign_at => first | k_is | rfl)
    (case c_sign_at => first | k_is | rfl)
    (case k_sign_at => first | k_is | rfl)
    (case a_behind_sign => first | k_is | rfl)
    (case l_behind_sign => first | k_is | rfl)
    (case c_behind_sign => first | k_is | rfl)
    (case k_behind_sign => first | k_is | rfl)
    (case a_read_number => first | k_is | rfl)
    (case l_read_number => first | k_is | rfl)
    (case c_read_number => first | k_is | rfl)
    (case k_read_number => first | k_is | rfl)
    (case a_tree_from => first | k_is | rfl)
    (case l_tree_from => first | k_is | rfl)
    (case c_tree_from => first | k_is | rfl)
    (case k_tree_from => first | k_is | rfl)
    (case a_read_tree => first | k_is | rfl)
    (case l_read_tree => first | k_is | rfl)
    (case c_read_tree => first | k_is | rfl)
    (case k_read_tree => first | k_is | rfl)
    (case a_law_mixed => first | k_is | rfl)
    (case l_law_mixed => first | k_is | rfl)
    (case c_law_mixed => first | k_is | rfl)
    (case k_law_mixed => first | k_is | rfl)
    (case a_law_great => first | k_is | rfl)
    (case l_law_great => first | k_is | rfl)
    (case c_law_great => first | k_is | rfl)
    (case k_law_great => first | k_is | rfl)
    (case a_law_stream => first | k_is | rfl)
    (case l_law_stream => first | k_is | rfl)
    (case c_law_stream => first | k_is | rfl)
    (case k_law_stream => first | k_is | rfl)
    (case a_law_take => first | k_is | rfl)
    (case l_law_take => first | k_is | rfl)
    (case c_law_take => first | k_is | rfl)
    (case k_law_take => first | k_is | rfl)
    (case a_law_low => first | k_is | rfl)
    (case l_law_low => first | k_is | rfl)
    (case c_law_low => first | k_is | rfl)
    (case k_law_low => first | k_is | rfl)
    (case a_law_is_integer => first | k_is | rfl)
    (case l_law_is_integer => first | k_is | rfl)
    (case c_law_is_integer => first | k_is | rfl)
    (case k_law_is_integer => first | k_is | rfl)
    (case a_law_alike => first | k_is | rfl)
    (case l_law_alike => first | k_is | rfl)
    (case c_law_alike => first | k_is | rfl)
    (case k_law_alike => first | k_is | rfl)
    (case a_law_word => first | k_is | rfl)
    (case l_law_word => first | k_is | rfl)
    (case c_law_word => first | k_is | rfl)
    (case k_law_word => first | k_is | rfl)
    (case a_law_whole => first | k_is | rfl)
    (case l_law_whole => first | k_is | rfl)
    (case c_law_whole => first | k_is | rfl)
    (case k_law_whole => first | k_is | rfl)
    (case a_law_read_word => first | k_is | rfl)
    (case l_law_read_word => first | k_is | rfl)
    (case c_law_read_word => first | k_is | rfl)
    (case k_law_read_word => first | k_is | rfl)
    (case a_law_is_long => first | k_is | rfl)
    (case l_law_is_long => first | k_is | rfl)
    (case c_law_is_long => first | k_is | rfl)
    (case k_law_is_long => first | k_is | rfl)
    (case a_law_numbers_due => first | k_is | rfl)
    (case l_law_numbers_due => first | k_is | rfl)
    (case c_law_numbers_due => first | k_is | rfl)
    (case k_law_numbers_due => first | k_is | rfl)
    (case a_law_numbers_read => first | k_is | rfl)
    (case l_law_numbers_read => first | k_is | rfl)
    (case c_law_numbers_read => first | k_is | rfl)
    (case k_law_numbers_read => first | k_is | rfl)
    (case a_law_tree_read => first | k_is | rfl)
    (case l_law_tree_read => first | k_is | rfl)
    (case c_law_tree_read => first | k_is | rfl)
    (case k_law_tree_read => first | k_is | rfl)
    (case a_law_no_numbers => first | k_is | rfl)
    (case l_law_no_numbers => first | k_is | rfl)
    (case c_law_no_numbers => first | k_is | rfl)
    (case k_law_no_numbers => first | k_is | rfl)
    (case a_law_no_tree => first | k_is | rfl)
    (case l_law_no_tree => first | k_is | rfl)
    (case c_law_no_tree => first | k_is | rfl)
    (case k_law_no_tree => first | k_is | rfl)
    (case a_law_changed => first | k_is | rfl)
    (case l_law_changed => first | k_is | rfl)
    (case c_law_changed => first | k_is | rfl)
    (case k_law_changed => first | k_is | rfl)
    (case a_law_size_drawn => first | k_is | rfl)
    (case l_law_size_drawn => first | k_is | rfl)
    (case c_law_size_drawn => first | k_is | rfl)
    (case k_law_size_drawn => first | k_is | rfl)
    (case a_law_numbers_judged => first | k_is | rfl)
    (case l_law_numbers_judged => first | k_is | rfl)
    (case c_law_numbers_judged => first | k_is | rfl)
    (case k_law_numbers_judged => first | k_is | rfl)
    (case a_law_tree_drawn => first | k_is | rfl)
    (case l_law_tree_drawn => first | k_is | rfl)
    (case c_law_tree_drawn => first | k_is | rfl)
    (case k_law_tree_drawn => first | k_is | rfl)
    (case a_law_tree_word => first | k_is | rfl)
    (case l_law_tree_word => first | k_is | rfl)
    (case c_law_tree_word => first | k_is | rfl)
    (case k_law_tree_word => first | k_is | rfl)
    (case a_law_is_tree => first | k_is | rfl)
    (case l_law_is_tree => first | k_is | rfl)
    (case c_law_is_tree => first | k_is | rfl)
    (case k_law_is_tree => first | k_is | rfl)
    (case a_law_bad_sign => first | k_is | rfl)
    (case l_law_bad_sign => first | k_is | rfl)
    (case c_law_bad_sign => first | k_is | rfl)
    (case k_law_bad_sign => first | k_is | rfl)
    (case a_law_spoilt => first | k_is | rfl)
    (case l_law_spoilt => first | k_is | rfl)
    (case c_law_spoilt => first | k_is | rfl)
    (case k_law_spoilt => first | k_is | rfl)
    (case a_law_trees_judged => first | k_is | rfl)
    (case l_law_trees_judged => first | k_is | rfl)
    (case c_law_trees_judged => first | k_is | rfl)
    (case k_law_trees_judged => first | k_is | rfl)
    (case a_law_deepest => first | k_is | rfl)
    (case l_law_deepest => first | k_is | rfl)
    (case c_law_deepest => first | k_is | rfl)
    (case k_law_deepest => first | k_is | rfl)
    (case a_law => first | k_is | rfl)
    (case l_law => first | k_is | rfl)
    (case c_law => first | k_is | rfl)
    (case k_law => first | k_is | rfl)
    (case aC_FoldError => first | k_is | rfl)
    (case aC_NoNumbers => first | k_is | rfl)
    (case xL_NoNumbers => first | k_is | rfl)
    (case sa_NoNumbers => first | k_is | rfl)
    (case in_NoNumbers => first | k_is | rfl)
    (case ti_NoNumbers => first | k_is | rfl)
    (case li_NoNumbers => first | k_is | rfl)
    (case ci_NoNumbers => first | k_is | rfl)
    (case ki_NoNumbers => first | k_is | rfl)
    (case kC_NoNumbers => first | k_is | rfl)
    (case eC_NoNumbers => first | k_is | rfl)
    (case tC_NoNumbers => first | k_is | rfl)
    (case te_NoNumbers => first | k_is | kernel_rfl)
    (case aC_BadText => first | k_is | rfl)
    (case xL_BadText => first | k_is | rfl)
    (case sa_BadText => first | k_is | rfl)
    (case in_BadText => first | k_is | rfl)
    (case ti_BadText => first | k_is | rfl)
    (case li_BadText => first | k_is | rfl)
    (case ci_BadText => first | k_is | rfl)
    (case ki_BadText => first | k_is | rfl)
    (case kC_BadText => first | k_is | rfl)
    (case eC_BadText => first | k_is | rfl)
    (case tC_BadText => first | k_is | rfl)
    (case aC_NoTree => first | k_is | rfl)
    (case xL_NoTree => first | k_is | rfl)
    (case sa_NoTree => first | k_is | rfl)
    (case in_NoTree => first | k_is | rfl)
    (case ti_NoTree => first | k_is | rfl)
    (case li_NoTree => first | k_is | rfl)
    (case ci_NoTree => first | k_is | rfl)
    (case ki_NoTree => first | k_is | rfl)
    (case kC_NoTree => first | k_is | rfl)
    (case eC_NoTree => first | k_is | rfl)
    (case tC_NoTree => first | k_is | rfl)
    (case te_NoTree => first | k_is | kernel_rfl)
    (case g_PIECE => first | k_is | rfl)
    (case g_DEEPEST => first | k_is | rfl)
    (case g_LONGEST => first | k_is | rfl)
    (case g_NOUGHT => first | k_is | rfl)
    (case h_NOUGHT => first | k_is | rfl)
    (case g_DIGITS => first | k_is | rfl)
    (case te_ => first | k_is | kernel_rfl)
    (case hno_ => first | k_is | kernel_rfl)
    (case xf_BadText => kernel_rfl)
    (case xf_NoNumbers => kernel_rfl)
    (case xc_NoNumbers => kernel_rfl)
    (case xa_NoNumbers => first | k_is | kernel_rfl)
    (case xm_NoNumbers => first | k_is | kernel_rfl)
    (case k1_NoNumbers => first | k_is | kernel_rfl)
    (case k2_NoNumbers => first | k_is | kernel_rfl)
    (case xf_NoTree => kernel_rfl)
    (case xc_NoTree => kernel_rfl)
    (case xa_NoTree => first | k_is | kernel_rfl)
    (case xm_NoTree => first | k_is | kernel_rfl)
    (case k1_NoTree => first | k_is | kernel_rfl)
    (case k2_NoTree => first | k_is | kernel_rfl)
    (case xn_ => first | k_is | kernel_rfl)
    (case xt_ => first | k_is | kernel_rfl)
    (case z_int => first | k_is | rfl)
    (case z_bool => first | k_is | rfl)
    (case z_tuple => first | k_is | rfl)
    (case z_list => first | k_is | rfl)
    (case z_len => first | k_is | rfl)
    (case z_abs => first | k_is | rfl)
    (case z_min => first | k_is | rfl)
    (case z_max => first | k_is | rfl)
    (case z_range => first | k_is | rfl)
    (case z_isinstance => first | k_is | rfl)
    (case z_enumerate => first | k_is | rfl)
    (case z_zip => first | k_is | rfl)
    (case z_sum => first | k_is | rfl)
    (case z_str => first | k_is | rfl)
    (case z_sorted => first | k_is | rfl)
    (case z_divmod => first | k_is | rfl)
    (case z_all => first | k_is | rfl)
    (case z_any => first | k_is | rfl)
    (case z_reversed => first | k_is | rfl)
    (case z_dict => first | k_is | rfl)
    (case y_gcd => first | k_is | rfl)
