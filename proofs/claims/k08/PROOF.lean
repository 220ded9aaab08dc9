import PyProof.Rows.All
import Wide.All
import OpenK.AllK
import Wide.FinOn
import PySem.Challenge.RW_fourcreases_k08_whole_plate_cut_up
import HandS.ForMost
import HandS.ForExc
import HandS.WordsExc
import HandS.TryOnly
import HandS.IsInst
import HandS.Wide
import HandS.WideBits
import HandS.Gcd
import HandS.ExcInit
import HandS.Evl
import HandS.DictComp
import HandS.Conv
import HandS.More
import HandS.Style
set_option Elab.async false
set_option linter.all false
set_option maxRecDepth 100000
set_option maxHeartbeats 4000000
namespace Fc
open PySem PySem.Spec PyProof.Rows L2
section
variable {X : Cx}
theorem op_fdivG : OpR X (binaryOp .FloorDiv) (rI (fun _ j => j ≠ 0 ∧ j.natAbs.log2 < 9000) fun i j => .int (i.fdiv j)) :=
  opI fun _ _ _ _ _ _ _ hc q => PyProof.Rows.floordiv_int hc.1 q (.inl (PyProof.noPylong_of_log2 hc.2))

/-- the empty __init__ of an error -/
def spPass : Sp := fun vs H Q _ => (∃ v, vs = [v]) ∧ Q .non H
variable {C fI : Addr} {x : Str} {p pos : Pos} {k : Nat} {fd : FuncData}
/-- what is known of an error's class whose __init__ has no arguments and does nothing -/
structure Ex0 (P : Program) (w : World) (K : PySem.W.Frag) (mg : Str → Option Value) (base : Heap) (x : Str) (C : Addr) : Prop where
  T : OexC K C
  gC : mg x = some (.ref C)
  te : PySem.W.exmOne K (.ref C) (.ref C) = some true
  ini : ∃ fI fd, PySem.W.findIn K (.ref C) "__init__" = some (some (.ref fI)) ∧ PySem.W.typeIn K (.ref fI) = some (.type "function") ∧
    FnOk P w K mg base CX0 1 fI fd ["self"] spPass ∧ Binds K fd ["self"] []
theorem pmk0 (Z : Ex0 X.prog X.w X.K X.mg X.base x C) (hr : Room 2 X.A) (hg : Gl X x) (hdb : (x == ("__debug__" : Str)) = false := by decide) :
    PMk X (.Call (.Name x p) [] [] pos) (fun _ H Q => Q (.ref C) none H) := by
  intro pins s σ H Q I h
  obtain ⟨fI, fd, iC, tI, F1, hb⟩ := Z.ini
  obtain ⟨nm, q, N, bs, bm, sn, sub, ab, col, dd, k0, k1, k2, k3, k5, hC, hbm⟩ := Z.T.cls
  refine wpAny_Call_Name_kw (ld_glob I hg Z.gC ?_ hdb)
  refine PySem.W.callWith_K0 I.kIn Z.T.kC ?_
  obtain ⟨hp, g, dr, tk, os⟩ := s
  have hsz : hp.objs.size ≤ hp.objs.size + 1 := Nat.le_succ _
  have hn : H (hp.objs.size + 1) = none := I.hok.fresh hsz
  let hp2 := (hp.push (PySem.W.kdv_tup [])).push (PySem.HandSPX.excO C hp.objs.size)
  have kk : ∀ b o, hp.get? b = some o → hp2.get? b = some o := fun b o e => Heap.get?_push_of_some _ (Heap.get?_push_of_some _ e)
  have hget : hp2.get? (hp.objs.size + 1) = some (PySem.HandSPX.excO C hp.objs.size) := by
    show ((hp.push (PySem.W.kdv_tup [])).push (PySem.HandSPX.excO C hp.objs.size)).get? (hp.objs.size + 1) = _
    heap_get
  have I2 : Inv X pins σ H ⟨hp2, g, dr, tk, os⟩ := I.kept (t' := tk) kk
  have r2 : Vals [V.ref (hp.objs.size + 1)] [Value.ref (hp.objs.size + 1)] := .cons rfl .nil
  refine wpAny_call (PySem.HandSPX.call_own F.excBase_ValueError (fun Y => PySem.HandSPX.refsVE_contains Y bm hbm) (I.kIn _ _ hC) (PySem.W.looks_findIn I.kIn iC) (fun self => PySem.W.bind_fn I.kIn self tI) (Nat.zero_le _)
    (codeAny_mono (F1.run _ X.stack _ _ ⟨[Value.ref (hp.objs.size + 1)], []⟩ [Value.ref (hp.objs.size + 1)] _ (fun v H2 => v = .non ∧ H2 = H) (fun _ _ _ => False) ((hr.make C [] []).mono (by decide)) (I2.env0.make C [] []) (hb _ [Value.ref (hp.objs.size + 1)] I2.kIn rfl) r2 ⟨⟨_, rfl⟩, rfl, rfl⟩) fun r s' hq' => ?_))
  cases r with
  | error er => exact False.elim hq'
  | ok fl =>
    cases fl with
    | next => exact False.elim hq'
    | brk => exact False.elim hq'
    | cont => exact False.elim hq'
    | ret u =>
      obtain ⟨v, H2, os2, bare2, un2, hok2, rv, ev, eH⟩ := hq'
      subst ev eH
      obtain ⟨h2, g2, d2, t2, os'⟩ := s'
      obtain rfl : os' = os := os2
      have nh : ∀ {b : Addr} {o : Obj}, hp.get? b = some o → b ≠ hp.objs.size + 1 := fun {b o} z => Nat.ne_of_lt (Nat.lt_of_lt_of_le (Heap.lt_size z) hsz)
      obtain ⟨sl, he⟩ := un2.any hget hn (by simp)
      obtain ⟨G', g1, g2'⟩ := restrict h2 fun b => decide (b ≠ hp.objs.size + 1)
      have gk : ∀ b, b ≠ hp.objs.size + 1 → G'.get? b = h2.get? b := fun b hb => g1 b (decide_eq_true hb)
      have ge : G'.get? (hp.objs.size + 1) = none := g2' _ (by simp)
      have U : Un (frs X.stack) [] H2 H2 hp G' := {
        keep := fun b o z n hf hx => (gk b (nh z)).trans (un2.keep b o (kk b o z) n hf hx)
        slot := fun b o z n hf hx => by
          rw [gk b (nh z)]
          exact un2.slot b o (kk b o z) n hf hx
        free := fun b o z n hx => n
        there := fun b o z hx => by
          rw [gk b (nh z)]
          exact un2.there b o (kk b o z) hx
        tups := fun b xs z => z
        frzs := fun b o v z => z
        tbls := fun b ps z => un2.tbls b ps z }
      have hok3 : HOk X.prog X.w H2 G' := fun b o z => by
        have ne : ∀ c u, H2 c = some u → c ≠ hp.objs.size + 1 := fun c u e => ne_of_none e hn
        refine (hok2 b o z).stay (fun c v hc y => ?_) (fun c hc => hc) (fun c xs hc => hc)
        rcases hc with rfl | hc
        · rw [gk _ (ne _ _ z)]
          exact y
        · rw [gk _ (ne _ _ hc)]
          exact y
      have J : L2.Inv X pins σ H2 ⟨G', g2, d2, t2, os'⟩ := I.call' (ch := []) rfl U hok3 bare2 (fun b z => absurd z (by simp))
      refine ⟨rv, hp.objs.size + 1, _, _, ⟨G', g2, d2, t2, os'⟩, H2, .ref C, none, rfl, J, fun b o z => ?_, ge, he, ⟨rfl, rfl⟩, rfl, rfl, hn, rfl, bare2, raises_own Z.T.exC Z.T.tyC, h⟩
      by_cases hb : b = hp.objs.size + 1
      · have z' : G'.get? b = some o := z
        rw [hb, ge] at z'
        cases z'
      · exact (gk b hb).symm.trans z

end
/-! ### a def as its callers know it -/
structure Df (P : Program) (w : World) (K : PySem.W.Frag) (mg : Str → Option Value) (base : Heap) (CX : CXT) (k : Nat) (x : Str) (ps : List Str) (sp : Sp) where
  f : Addr
  fd : FuncData
  g : mg x = some (.ref f)
  kp : PySem.W.keepIn K (.ref f) = true
  b : Binds K fd ps []
  F : FnOk P w K mg base CX k f fd ps sp
/-- the built-in names that the text leaves alone -/
structure Nb (mg : Str → Option Value) : Prop where
  int : mg "int" = none
  bool : mg "bool" = none
  tuple : mg "tuple" = none
  list : mg "list" = none
  len : mg "len" = none
  abs : mg "abs" = none
  min : mg "min" = none
  max : mg "max" = none
  range : mg "range" = none
  isinstance : mg "isinstance" = none
  enumerate : mg "enumerate" = none
  zip : mg "zip" = none
  sum : mg "sum" = none
  str : mg "str" = none
  sorted : mg "sorted" = none
  divmod : mg "divmod" = none
  all : mg "all" = none
  any : mg "any" = none
  reversed : mg "reversed" = none
  dict : mg "dict" = none
/-! ### readings by name -/
def rAbs : List V → Hp → VK → Prop := fun xs H Q => ∃ i, xs = [.int i] ∧ Q (.int (if i < 0 then -i else i)) H
def rInt1 : List V → Hp → VK → Prop := fun xs H Q => (∃ i, xs = [.int i] ∧ Q (.int i) H) ∨ ∃ k, xs = [.bl k] ∧ Q (.int (if k then 1 else 0)) H
def rLenQ (K : PySem.W.Frag) : List V → Hp → VK → Prop := fun xs H Q => ∃ p ys, xs = [.ref p] ∧ (SqL K H p ys ∨ SqT K H p ys) ∧ Q (.int ys.length) H
def rListOf (K : PySem.W.Frag) : List V → Hp → VK → Prop := fun xs H Q => ∃ p ys, xs = [.ref p] ∧ (SqL K H p ys ∨ SqT K H p ys) ∧ ∀ l, H l = none → Q (.ref l) (upd H l (.lst ys))
def rMin2 : List V → Hp → VK → Prop := fun xs H Q => ∃ i j, xs = [.int i, .int j] ∧ Q (.int (if j < i then j else i)) H
def rMax2 : List V → Hp → VK → Prop := fun xs H Q => ∃ i j, xs = [.int i, .int j] ∧ Q (.int (if i < j then j else i)) H
def rIsN : R2 := fun x y H Q => y = .non ∧ Q (.bl (decide (x = .non))) H
def rNotN : R2 := fun x y H Q => y = .non ∧ Q (.bl (!decide (x = .non))) H
section
variable {X : Cx}
theorem cq_abs : CallR X (.builtin "abs") rAbs := call_abs
theorem cq_int : CallR X (.type "int") rInt1 := call_int1
theorem cq_len : CallR X (.builtin "len") (rLenQ X.K) := call_len_seq
theorem cq_list : CallR X (.type "list") (rListOf X.K) := call_list_of
theorem cq_min (hc : X.calm = true) : CallR X (.builtin "min") rMin2 := call_min2 hc
theorem cq_max (hc : X.calm = true) : CallR X (.builtin "max") rMax2 := call_max2 hc
theorem oq_isN : OpR X (compareOp .Is) rIsN := op_isN
theorem oq_notN : OpR X (compareOp .IsNot) rNotN := op_notN
end
theorem notT : (!true) = false := rfl
theorem notF : (!false) = true := rfl
/-! ### comparisons, shut -/
@[irreducible] def ltB (i j : Int) : Bool := decide (i < j)
@[irreducible] def leB (i j : Int) : Bool := decide (i ≤ j)
@[irreducible] def eqB (i j : Int) : Bool := decide (i = j)
theorem ltB_def {i j : Int} : ltB i j = decide (i < j) := by unfold ltB; rfl
theorem leB_def {i j : Int} : leB i j = decide (i ≤ j) := by unfold leB; rfl
theorem eqB_def {i j : Int} : eqB i j = decide (i = j) := by unfold eqB; rfl
/-- what a flag says -/
class BP (b : Bool) (p : outParam Prop) : Prop where
  iff : b = true ↔ p
instance {i j : Int} : BP (ltB i j) (i < j) := ⟨by rw [ltB_def]; exact decide_eq_true_iff⟩
instance {i j : Int} : BP (leB i j) (i ≤ j) := ⟨by rw [leB_def]; exact decide_eq_true_iff⟩
instance {i j : Int} : BP (eqB i j) (i = j) := ⟨by rw [eqB_def]; exact decide_eq_true_iff⟩
instance {p : Prop} [Decidable p] : BP (decide p) p := ⟨decide_eq_true_iff⟩
instance {b c : Bool} {p q : Prop} [h : BP b p] [k : BP c q] : BP (b && c) (p ∧ q) := ⟨by rw [Bool.and_eq_true, h.iff, k.iff]⟩
instance {b c : Bool} {p q : Prop} [h : BP b p] [k : BP c q] : BP (b || c) (p ∨ q) := ⟨by rw [Bool.or_eq_true, h.iff, k.iff]⟩
instance {b : Bool} {p : Prop} [h : BP b p] : BP (!b) (¬ p) := ⟨by rw [← h.iff, Bool.not_eq_true']; cases b <;> simp⟩
theorem bp_t {b : Bool} {p : Prop} [k : BP b p] (h : p) : b = true := k.iff.mpr h
theorem bp_f {b : Bool} {p : Prop} [k : BP b p] (h : ¬ p) : b = false := by
  cases e : b with
  | false => rfl
  | true => exact absurd (k.iff.mp e) h
theorem eqT {i j : Int} (h : i = j) : eqB i j = true := bp_t h
theorem eqF {i j : Int} (h : i ≠ j) : eqB i j = false := bp_f h
theorem eqB_t {i j : Int} (h : eqB i j = true) : i = j := by rw [eqB_def] at h; exact of_decide_eq_true h
theorem eqB_f {i j : Int} (h : eqB i j = false) : i ≠ j := by rw [eqB_def] at h; exact of_decide_eq_false h
theorem ltT {i j : Int} (h : i < j) : ltB i j = true := bp_t h
theorem ltF {i j : Int} (h : ¬ i < j) : ltB i j = false := bp_f h
/-! ### steps of a reading -/
section
variable {K : PySem.W.Frag} {D : Ends} {σ : L2.St} {H : Hp} {Q : VK} {v : V} {te ta tb : TE} {t u : TS} {g : TG}
theorem w_seq (h : t { D with nx := u D } σ H) : tSeq t u D σ H := h
theorem w_next (h : D.nx σ H) : tNext D σ H := h
theorem w_asg (h : te σ H fun x H1 => g x σ H1 D.nx) : tAsg te g D σ H := h
theorem w_drop (h : te σ H fun _ H1 => D.nx σ H1) : tDrop te D σ H := h
theorem w_ret (h : te σ H D.rt) : tRet te D σ H := h
theorem w_retN (h : D.rt .non H) : tRetN D σ H := h
theorem w_brk (h : D.bk σ H) : tBreak D σ H := h
theorem w_cont (h : D.ct σ H) : tCont D σ H := h
theorem w_c (h : Q v H) : tC v σ H Q := h
theorem w_op {r : R2} (h : ta σ H fun x H1 => tb σ H1 fun y H2 => r x y H2 Q) : tOp r ta tb σ H Q := h
theorem w_un {r : V → Hp → VK → Prop} (h : ta σ H fun x H1 => r x H1 Q) : tUn r ta σ H Q := h
theorem w_cb {r : List V → Hp → VK → Prop} {tt : TA} (h : tt σ H fun vs H1 => r vs H1 Q) : tCB r tt σ H Q := h
theorem w_nil {Q : List V → Hp → Prop} (h : Q [] H) : tNil σ H Q := h
theorem w_cons {Q : List V → Hp → Prop} {tr : TA} (h : ta σ H fun x H1 => tr σ H1 fun xs H2 => Q (x :: xs) H2) : tCons ta tr σ H Q := h
theorem w_call {sp : Sp} {dvs : List V} {E : XK} {tt : TA} (h : tt σ H fun vs H1 => sp (vs ++ dvs) H1 Q E) : tCall sp dvs E tt σ H Q := h
theorem w_tup {tt : TA} (h : tt σ H fun xs H1 => xs.length ≤ sizeLine ∧ ∀ p, H1 p = none → Q (.ref p) (upd H1 p (.tup xs))) : tTup tt σ H Q := h
theorem w_lst {tt : TA} (h : tt σ H fun xs H1 => xs.length ≤ sizeLine ∧ ∀ p, H1 p = none → Q (.ref p) (upd H1 p (.lst xs))) : tLst tt σ H Q := h
theorem w_new {xs : List V} {F : Addr → Prop} (h : ∀ p, H p = none → F p) (hl : xs.length.ble 1000 = true := by rfl) : xs.length ≤ sizeLine ∧ ∀ p, H p = none → F p := ⟨Nat.le_of_lt (small1000 (Nat.le_of_ble_eq_true hl)), h⟩
theorem w_ifs {c : TT} (h : c σ H fun b H1 => if b = true then t D σ H1 else u D σ H1) : tIfS c t u D σ H := h
theorem w_ife {c : TT} (h : c σ H fun b H1 => if b = true then ta σ H1 Q else tb σ H1 Q) : tIf c ta tb σ H Q := h
theorem w_test {Q : Bool → Hp → Prop} (h : te σ H fun x H1 => ∃ k, x = .bl k ∧ Q k H1) : tTest te σ H Q := h
theorem w_tB {Q : Bool → Hp → Prop} (h : te σ H fun x H1 => ∃ k, x = .bl k ∧ Q k H1) : tB te σ H Q := h
theorem w_bl {b : Bool} {F : Bool → Prop} (h : F b) : ∃ k, V.bl b = .bl k ∧ F k := ⟨b, rfl, h⟩
theorem w_and {c d : TT} {Q : Bool → Hp → Prop} (h : c σ H fun b H1 => if b = true then d σ H1 Q else Q false H1) : tAnd c d σ H Q := h
theorem w_or {c d : TT} {Q : Bool → Hp → Prop} (h : c σ H fun b H1 => if b = true then Q true H1 else d σ H1 Q) : tOr c d σ H Q := h
theorem w_not {c : TT} {Q : Bool → Hp → Prop} (h : c σ H fun b H1 => Q (!b) H1) : tNot c σ H Q := h
theorem w_andV (h : ta σ H fun x H1 => ∃ c, x = .bl c ∧ if c = true then tb σ H1 Q else Q (.bl false) H1) : tAndV ta tb σ H Q := h
theorem w_orV (h : ta σ H fun x H1 => ∃ c, x = .bl c ∧ if c = true then Q (.bl true) H1 else tb σ H1 Q) : tOrV ta tb σ H Q := h
theorem w_notV (h : ta σ H fun x H1 => ∃ c, x = .bl c ∧ Q (.bl (!c)) H1) : tNotV ta σ H Q := h
theorem w_I0 {gg : Int → Int → V} {i j : Int} (h : Q (gg i j) H) : rI0 gg (.int i) (.int j) H Q := ⟨i, j, rfl, rfl, h⟩
theorem w_I {C : Int → Int → Prop} {gg : Int → Int → V} {i j : Int} (hc : C i j) (h : Q (gg i j) H) : rI C gg (.int i) (.int j) H Q := ⟨i, j, rfl, rfl, hc, h⟩
theorem w_U {gg : Int → V} {i : Int} (h : Q (gg i) H) : rU gg (.int i) H Q := ⟨i, rfl, h⟩
theorem int_dec {i j : Int} : decide (V.int i = V.int j) = decide (i = j) := by
  by_cases h : i = j
  · subst h
    rw [decide_eq_true rfl, decide_eq_true rfl]
  · rw [decide_eq_false h, decide_eq_false fun e => h (V.int.inj e)]
theorem w_eqI {i j : Int} (h : Q (.bl (eqB i j)) H) : rEq (.int i) (.int j) H Q := ⟨rfl, by rw [int_dec, ← eqB_def]; exact h⟩
theorem w_neI {i j : Int} (h : Q (.bl (!eqB i j)) H) : rNe (.int i) (.int j) H Q := ⟨rfl, by rw [int_dec, ← eqB_def]; exact h⟩
theorem w_lt {i j : Int} (h : Q (.bl (ltB i j)) H) : rI0 (fun i j => .bl (decide (i < j))) (.int i) (.int j) H Q := ⟨i, j, rfl, rfl, by show Q (.bl (decide (i < j))) H; rw [← ltB_def]; exact h⟩
theorem w_le {i j : Int} (h : Q (.bl (leB i j)) H) : rI0 (fun i j => .bl (decide (i ≤ j))) (.int i) (.int j) H Q := ⟨i, j, rfl, rfl, by show Q (.bl (decide (i ≤ j))) H; rw [← leB_def]; exact h⟩
theorem w_gt {i j : Int} (h : Q (.bl (ltB j i)) H) : rI0 (fun i j => .bl (decide (j < i))) (.int i) (.int j) H Q := ⟨i, j, rfl, rfl, by show Q (.bl (decide (j < i))) H; rw [← ltB_def]; exact h⟩
theorem w_ge {i j : Int} (h : Q (.bl (leB j i)) H) : rI0 (fun i j => .bl (decide (j ≤ i))) (.int i) (.int j) H Q := ⟨i, j, rfl, rfl, by show Q (.bl (decide (j ≤ i))) H; rw [← leB_def]; exact h⟩
theorem w_abs {i : Int} (h : Q (.int (i.natAbs : Int)) H) : rAbs [.int i] H Q := ⟨i, rfl, by
  have e : (if i < 0 then -i else i) = (i.natAbs : Int) := by split <;> omega
  rw [e]
  exact h⟩
theorem w_int {i : Int} (h : Q (.int i) H) : rInt1 [.int i] H Q := .inl ⟨i, rfl, h⟩
theorem w_lenL {p : Addr} {ys : List V} (e : SqL K H p ys) (h : Q (.int ys.length) H) : rLenQ K [.ref p] H Q := ⟨p, ys, rfl, .inl e, h⟩
theorem w_lenT {p : Addr} {ys : List V} (e : SqT K H p ys) (h : Q (.int ys.length) H) : rLenQ K [.ref p] H Q := ⟨p, ys, rfl, .inr e, h⟩
theorem w_min {i j : Int} (h : Q (.int (if j < i then j else i)) H) : rMin2 [.int i, .int j] H Q := ⟨i, j, rfl, h⟩
theorem w_max {i j : Int} (h : Q (.int (if i < j then j else i)) H) : rMax2 [.int i, .int j] H Q := ⟨i, j, rfl, h⟩
theorem w_ixL {p : Addr} {xs : List V} {i : Int} {v : V} (e : SqL K H p xs) (ha : atI xs i = some v) (h : Q v H) : rIxL K (.ref p) (.int i) H Q := ⟨p, xs, i, v, rfl, rfl, e, ha, h⟩
theorem w_ixT {p : Addr} {xs : List V} {i : Int} {v : V} (e : SqT K H p xs) (ha : atI xs i = some v) (h : Q v H) : rIxT K (.ref p) (.int i) H Q := ⟨p, xs, i, v, rfl, rfl, e, ha, h⟩
theorem w_gcd {a b : Int} (h : Q (.int ((Nat.gcd a.natAbs b.natAbs : Nat) : Int)) H) : rGcd [.int a, .int b] H Q := ⟨a, b, rfl, h⟩
theorem w_sub {to ti : TE} {tset : TSet} {Q : L2.St → Hp → Prop} (h : to σ H fun o H1 => ti σ H1 fun i H2 => tset o i v H2 fun H3 => Q σ H3) : gSub to ti tset v σ H Q := h
theorem w_setL {p : Addr} {xs : List V} {k : Int} {j : Nat} {y : V} {Q : Hp → Prop} (e : H p = some (.lst xs)) (hj : ixN xs.length k = some j) (h : Q (upd H p (.lst (xs.set j y)))) : rSetL (.ref p) (.int k) y H Q := ⟨p, xs, k, j, rfl, rfl, e, hj, h⟩
theorem w_par {i j : Nat} {tt : TA} (h : tt σ H fun vs H1 => ∃ v w, vs = [v, w] ∧ D.nx ((σ.set i (some v)).set j (some w)) H1) : tPar i j tt D σ H := h
theorem w_two {a b : V} {F : V → V → Prop} (h : F a b) : ∃ v w, [a, b] = [v, w] ∧ F v w := ⟨a, b, rfl, h⟩
theorem w_if {b : Bool} {A B : Prop} (h1 : b = true → A) (h2 : b = false → B) : if b = true then A else B := by
  cases b with
  | true => exact iteT (h1 rfl)
  | false => exact iteF (h2 rfl)
theorem w_ifd {b : Bool} {p : Prop} {A B : Prop} [k : BP b p] (h1 : p → A) (h2 : ¬ p → B) : if b = true then A else B := w_if (fun c => h1 (k.iff.mp c)) fun c => h2 fun z => by
  rw [k.iff.mpr z] at c
  cases c
theorem w_ifn {b : Bool} {p : Prop} {A B : Prop} [k : BP b p] (h1 : ¬ p → A) (h2 : p → B) : if (!b) = true then A else B := by
  cases e : b with
  | true => exact iteF (h2 (k.iff.mp e))
  | false => exact iteT (h1 fun z => by
      rw [k.iff.mpr z] at e
      cases e)
theorem w_v0 {r : L2.St} (h : Q v H) : tVar 0 (some v :: r) H Q := ⟨v, rfl, h⟩
theorem w_g0 {o : Option V} {r : L2.St} {Q : L2.St → Hp → Prop} (h : Q (some v :: r) H) : gName 0 v (o :: r) H Q := h
theorem w_s0 {o p : Option V} {r : L2.St} {F : L2.St → Prop} (h : F (p :: r)) : F ((o :: r).set 0 p) := h
theorem w_v1 {x0 : Option V} {r : L2.St} (h : Q v H) : tVar 1 (x0 :: some v :: r) H Q := ⟨v, rfl, h⟩
theorem w_g1 {x0 : Option V} {o : Option V} {r : L2.St} {Q : L2.St → Hp → Prop} (h : Q (x0 :: some v :: r) H) : gName 1 v (x0 :: o :: r) H Q := h
theorem w_s1 {x0 : Option V} {o p : Option V} {r : L2.St} {F : L2.St → Prop} (h : F (x0 :: p :: r)) : F ((x0 :: o :: r).set 1 p) := h
theorem w_v2 {x0 x1 : Option V} {r : L2.St} (h : Q v H) : tVar 2 (x0 :: x1 :: some v :: r) H Q := ⟨v, rfl, h⟩
theorem w_g2 {x0 x1 : Option V} {o : Option V} {r : L2.St} {Q : L2.St → Hp → Prop} (h : Q (x0 :: x1 :: some v :: r) H) : gName 2 v (x0 :: x1 :: o :: r) H Q := h
theorem w_s2 {x0 x1 : Option V} {o p : Option V} {r : L2.St} {F : L2.St → Prop} (h : F (x0 :: x1 :: p :: r)) : F ((x0 :: x1 :: o :: r).set 2 p) := h
theorem w_v3 {x0 x1 x2 : Option V} {r : L2.St} (h : Q v H) : tVar 3 (x0 :: x1 :: x2 :: some v :: r) H Q := ⟨v, rfl, h⟩
theorem w_g3 {x0 x1 x2 : Option V} {o : Option V} {r : L2.St} {Q : L2.St → Hp → Prop} (h : Q (x0 :: x1 :: x2 :: some v :: r) H) : gName 3 v (x0 :: x1 :: x2 :: o :: r) H Q := h
theorem w_s3 {x0 x1 x2 : Option V} {o p : Option V} {r : L2.St} {F : L2.St → Prop} (h : F (x0 :: x1 :: x2 :: p :: r)) : F ((x0 :: x1 :: x2 :: o :: r).set 3 p) := h
theorem w_v4 {x0 x1 x2 x3 : Option V} {r : L2.St} (h : Q v H) : tVar 4 (x0 :: x1 :: x2 :: x3 :: some v :: r) H Q := ⟨v, rfl, h⟩
theorem w_g4 {x0 x1 x2 x3 : Option V} {o : Option V} {r : L2.St} {Q : L2.St → Hp → Prop} (h : Q (x0 :: x1 :: x2 :: x3 :: some v :: r) H) : gName 4 v (x0 :: x1 :: x2 :: x3 :: o :: r) H Q := h
theorem w_s4 {x0 x1 x2 x3 : Option V} {o p : Option V} {r : L2.St} {F : L2.St → Prop} (h : F (x0 :: x1 :: x2 :: x3 :: p :: r)) : F ((x0 :: x1 :: x2 :: x3 :: o :: r).set 4 p) := h
theorem w_v5 {x0 x1 x2 x3 x4 : Option V} {r : L2.St} (h : Q v H) : tVar 5 (x0 :: x1 :: x2 :: x3 :: x4 :: some v :: r) H Q := ⟨v, rfl, h⟩
theorem w_g5 {x0 x1 x2 x3 x4 : Option V} {o : Option V} {r : L2.St} {Q : L2.St → Hp → Prop} (h : Q (x0 :: x1 :: x2 :: x3 :: x4 :: some v :: r) H) : gName 5 v (x0 :: x1 :: x2 :: x3 :: x4 :: o :: r) H Q := h
theorem w_s5 {x0 x1 x2 x3 x4 : Option V} {o p : Option V} {r : L2.St} {F : L2.St → Prop} (h : F (x0 :: x1 :: x2 :: x3 :: x4 :: p :: r)) : F ((x0 :: x1 :: x2 :: x3 :: x4 :: o :: r).set 5 p) := h
theorem w_v6 {x0 x1 x2 x3 x4 x5 : Option V} {r : L2.St} (h : Q v H) : tVar 6 (x0 :: x1 :: x2 :: x3 :: x4 :: x5 :: some v :: r) H Q := ⟨v, rfl, h⟩
theorem w_g6 {x0 x1 x2 x3 x4 x5 : Option V} {o : Option V} {r : L2.St} {Q : L2.St → Hp → Prop} (h : Q (x0 :: x1 :: x2 :: x3 :: x4 :: x5 :: some v :: r) H) : gName 6 v (x0 :: x1 :: x2 :: x3 :: x4 :: x5 :: o :: r) H Q := h
theorem w_s6 {x0 x1 x2 x3 x4 x5 : Option V} {o p : Option V} {r : L2.St} {F : L2.St → Prop} (h : F (x0 :: x1 :: x2 :: x3 :: x4 :: x5 :: p :: r)) : F ((x0 :: x1 :: x2 :: x3 :: x4 :: x5 :: o :: r).set 6 p) := h
theorem w_v7 {x0 x1 x2 x3 x4 x5 x6 : Option V} {r : L2.St} (h : Q v H) : tVar 7 (x0 :: x1 :: x2 :: x3 :: x4 :: x5 :: x6 :: some v :: r) H Q := ⟨v, rfl, h⟩
theorem w_g7 {x0 x1 x2 x3 x4 x5 x6 : Option V} {o : Option V} {r : L2.St} {Q : L2.St → Hp → Prop} (h : Q (x0 :: x1 :: x2 :: x3 :: x4 :: x5 :: x6 :: some v :: r) H) : gName 7 v (x0 :: x1 :: x2 :: x3 :: x4 :: x5 :: x6 :: o :: r) H Q := h
theorem w_s7 {x0 x1 x2 x3 x4 x5 x6 : Option V} {o p : Option V} {r : L2.St} {F : L2.St → Prop} (h : F (x0 :: x1 :: x2 :: x3 :: x4 :: x5 :: x6 :: p :: r)) : F ((x0 :: x1 :: x2 :: x3 :: x4 :: x5 :: x6 :: o :: r).set 7 p) := h
theorem w_v8 {x0 x1 x2 x3 x4 x5 x6 x7 : Option V} {r : L2.St} (h : Q v H) : tVar 8 (x0 :: x1 :: x2 :: x3 :: x4 :: x5 :: x6 :: x7 :: some v :: r) H Q := ⟨v, rfl, h⟩
theorem w_g8 {x0 x1 x2 x3 x4 x5 x6 x7 : Option V} {o : Option V} {r : L2.St} {Q : L2.St → Hp → Prop} (h : Q (x0 :: x1 :: x2 :: x3 :: x4 :: x5 :: x6 :: x7 :: some v :: r) H) : gName 8 v (x0 :: x1 :: x2 :: x3 :: x4 :: x5 :: x6 :: x7 :: o :: r) H Q := h
theorem w_s8 {x0 x1 x2 x3 x4 x5 x6 x7 : Option V} {o p : Option V} {r : L2.St} {F : L2.St → Prop} (h : F (x0 :: x1 :: x2 :: x3 :: x4 :: x5 :: x6 :: x7 :: p :: r)) : F ((x0 :: x1 :: x2 :: x3 :: x4 :: x5 :: x6 :: x7 :: o :: r).set 8 p) := h
theorem w_v9 {x0 x1 x2 x3 x4 x5 x6 x7 x8 : Option V} {r : L2.St} (h : Q v H) : tVar 9 (x0 :: x1 :: x2 :: x3 :: x4 :: x5 :: x6 :: x7 :: x8 :: some v :: r) H Q := ⟨v, rfl, h⟩
theorem w_g9 {x0 x1 x2 x3 x4 x5 x6 x7 x8 : Option V} {o : Option V} {r : L2.St} {Q : L2.St → Hp → Prop} (h : Q (x0 :: x1 :: x2 :: x3 :: x4 :: x5 :: x6 :: x7 :: x8 :: some v :: r) H) : gName 9 v (x0 :: x1 :: x2 :: x3 :: x4 :: x5 :: x6 :: x7 :: x8 :: o :: r) H Q := h
theorem w_s9 {x0 x1 x2 x3 x4 x5 x6 x7 x8 : Option V} {o p : Option V} {r : L2.St} {F : L2.St → Prop} (h : F (x0 :: x1 :: x2 :: x3 :: x4 :: x5 :: x6 :: x7 :: x8 :: p :: r)) : F ((x0 :: x1 :: x2 :: x3 :: x4 :: x5 :: x6 :: x7 :: x8 :: o :: r).set 9 p) := h
theorem w_v10 {x0 x1 x2 x3 x4 x5 x6 x7 x8 x9 : Option V} {r : L2.St} (h : Q v H) : tVar 10 (x0 :: x1 :: x2 :: x3 :: x4 :: x5 :: x6 :: x7 :: x8 :: x9 :: some v :: r) H Q := ⟨v, rfl, h⟩
theorem w_g10 {x0 x1 x2 x3 x4 x5 x6 x7 x8 x9 : Option V} {o : Option V} {r : L2.St} {Q : L2.St → Hp → Prop} (h : Q (x0 :: x1 :: x2 :: x3 :: x4 :: x5 :: x6 :: x7 :: x8 :: x9 :: some v :: r) H) : gName 10 v (x0 :: x1 :: x2 :: x3 :: x4 :: x5 :: x6 :: x7 :: x8 :: x9 :: o :: r) H Q := h
theorem w_s10 {x0 x1 x2 x3 x4 x5 x6 x7 x8 x9 : Option V} {o p : Option V} {r : L2.St} {F : L2.St → Prop} (h : F (x0 :: x1 :: x2 :: x3 :: x4 :: x5 :: x6 :: x7 :: x8 :: x9 :: p :: r)) : F ((x0 :: x1 :: x2 :: x3 :: x4 :: x5 :: x6 :: x7 :: x8 :: x9 :: o :: r).set 10 p) := h
theorem w_v11 {x0 x1 x2 x3 x4 x5 x6 x7 x8 x9 x10 : Option V} {r : L2.St} (h : Q v H) : tVar 11 (x0 :: x1 :: x2 :: x3 :: x4 :: x5 :: x6 :: x7 :: x8 :: x9 :: x10 :: some v :: r) H Q := ⟨v, rfl, h⟩
theorem w_g11 {x0 x1 x2 x3 x4 x5 x6 x7 x8 x9 x10 : Option V} {o : Option V} {r : L2.St} {Q : L2.St → Hp → Prop} (h : Q (x0 :: x1 :: x2 :: x3 :: x4 :: x5 :: x6 :: x7 :: x8 :: x9 :: x10 :: some v :: r) H) : gName 11 v (x0 :: x1 :: x2 :: x3 :: x4 :: x5 :: x6 :: x7 :: x8 :: x9 :: x10 :: o :: r) H Q := h
theorem w_s11 {x0 x1 x2 x3 x4 x5 x6 x7 x8 x9 x10 : Option V} {o p : Option V} {r : L2.St} {F : L2.St → Prop} (h : F (x0 :: x1 :: x2 :: x3 :: x4 :: x5 :: x6 :: x7 :: x8 :: x9 :: x10 :: p :: r)) : F ((x0 :: x1 :: x2 :: x3 :: x4 :: x5 :: x6 :: x7 :: x8 :: x9 :: x10 :: o :: r).set 11 p) := h
theorem w_v12 {x0 x1 x2 x3 x4 x5 x6 x7 x8 x9 x10 x11 : Option V} {r : L2.St} (h : Q v H) : tVar 12 (x0 :: x1 :: x2 :: x3 :: x4 :: x5 :: x6 :: x7 :: x8 :: x9 :: x10 :: x11 :: some v :: r) H Q := ⟨v, rfl, h⟩
theorem w_g12 {x0 x1 x2 x3 x4 x5 x6 x7 x8 x9 x10 x11 : Option V} {o : Option V} {r : L2.St} {Q : L2.St → Hp → Prop} (h : Q (x0 :: x1 :: x2 :: x3 :: x4 :: x5 :: x6 :: x7 :: x8 :: x9 :: x10 :: x11 :: some v :: r) H) : gName 12 v (x0 :: x1 :: x2 :: x3 :: x4 :: x5 :: x6 :: x7 :: x8 :: x9 :: x10 :: x11 :: o :: r) H Q := h
theorem w_s12 {x0 x1 x2 x3 x4 x5 x6 x7 x8 x9 x10 x11 : Option V} {o p : Option V} {r : L2.St} {F : L2.St → Prop} (h : F (x0 :: x1 :: x2 :: x3 :: x4 :: x5 :: x6 :: x7 :: x8 :: x9 :: x10 :: x11 :: p :: r)) : F ((x0 :: x1 :: x2 :: x3 :: x4 :: x5 :: x6 :: x7 :: x8 :: x9 :: x10 :: x11 :: o :: r).set 12 p) := h
theorem w_v13 {x0 x1 x2 x3 x4 x5 x6 x7 x8 x9 x10 x11 x12 : Option V} {r : L2.St} (h : Q v H) : tVar 13 (x0 :: x1 :: x2 :: x3 :: x4 :: x5 :: x6 :: x7 :: x8 :: x9 :: x10 :: x11 :: x12 :: some v :: r) H Q := ⟨v, rfl, h⟩
theorem w_g13 {x0 x1 x2 x3 x4 x5 x6 x7 x8 x9 x10 x11 x12 : Option V} {o : Option V} {r : L2.St} {Q : L2.St → Hp → Prop} (h : Q (x0 :: x1 :: x2 :: x3 :: x4 :: x5 :: x6 :: x7 :: x8 :: x9 :: x10 :: x11 :: x12 :: some v :: r) H) : gName 13 v (x0 :: x1 :: x2 :: x3 :: x4 :: x5 :: x6 :: x7 :: x8 :: x9 :: x10 :: x11 :: x12 :: o :: r) H Q := h
theorem w_s13 {x0 x1 x2 x3 x4 x5 x6 x7 x8 x9 x10 x11 x12 : Option V} {o p : Option V} {r : L2.St} {F : L2.St → Prop} (h : F (x0 :: x1 :: x2 :: x3 :: x4 :: x5 :: x6 :: x7 :: x8 :: x9 :: x10 :: x11 :: x12 :: p :: r)) : F ((x0 :: x1 :: x2 :: x3 :: x4 :: x5 :: x6 :: x7 :: x8 :: x9 :: x10 :: x11 :: x12 :: o :: r).set 13 p) := h
theorem w_v14 {x0 x1 x2 x3 x4 x5 x6 x7 x8 x9 x10 x11 x12 x13 : Option V} {r : L2.St} (h : Q v H) : tVar 14 (x0 :: x1 :: x2 :: x3 :: x4 :: x5 :: x6 :: x7 :: x8 :: x9 :: x10 :: x11 :: x12 :: x13 :: some v :: r) H Q := ⟨v, rfl, h⟩
theorem w_g14 {x0 x1 x2 x3 x4 x5 x6 x7 x8 x9 x10 x11 x12 x13 : Option V} {o : Option V} {r : L2.St} {Q : L2.St → Hp → Prop} (h : Q (x0 :: x1 :: x2 :: x3 :: x4 :: x5 :: x6 :: x7 :: x8 :: x9 :: x10 :: x11 :: x12 :: x13 :: some v :: r) H) : gName 14 v (x0 :: x1 :: x2 :: x3 :: x4 :: x5 :: x6 :: x7 :: x8 :: x9 :: x10 :: x11 :: x12 :: x13 :: o :: r) H Q := h
theorem w_s14 {x0 x1 x2 x3 x4 x5 x6 x7 x8 x9 x10 x11 x12 x13 : Option V} {o p : Option V} {r : L2.St} {F : L2.St → Prop} (h : F (x0 :: x1 :: x2 :: x3 :: x4 :: x5 :: x6 :: x7 :: x8 :: x9 :: x10 :: x11 :: x12 :: x13 :: p :: r)) : F ((x0 :: x1 :: x2 :: x3 :: x4 :: x5 :: x6 :: x7 :: x8 :: x9 :: x10 :: x11 :: x12 :: x13 :: o :: r).set 14 p) := h
theorem w_v15 {x0 x1 x2 x3 x4 x5 x6 x7 x8 x9 x10 x11 x12 x13 x14 : Option V} {r : L2.St} (h : Q v H) : tVar 15 (x0 :: x1 :: x2 :: x3 :: x4 :: x5 :: x6 :: x7 :: x8 :: x9 :: x10 :: x11 :: x12 :: x13 :: x14 :: some v :: r) H Q := ⟨v, rfl, h⟩
theorem w_g15 {x0 x1 x2 x3 x4 x5 x6 x7 x8 x9 x10 x11 x12 x13 x14 : Option V} {o : Option V} {r : L2.St} {Q : L2.St → Hp → Prop} (h : Q (x0 :: x1 :: x2 :: x3 :: x4 :: x5 :: x6 :: x7 :: x8 :: x9 :: x10 :: x11 :: x12 :: x13 :: x14 :: some v :: r) H) : gName 15 v (x0 :: x1 :: x2 :: x3 :: x4 :: x5 :: x6 :: x7 :: x8 :: x9 :: x10 :: x11 :: x12 :: x13 :: x14 :: o :: r) H Q := h
theorem w_s15 {x0 x1 x2 x3 x4 x5 x6 x7 x8 x9 x10 x11 x12 x13 x14 : Option V} {o p : Option V} {r : L2.St} {F : L2.St → Prop} (h : F (x0 :: x1 :: x2 :: x3 :: x4 :: x5 :: x6 :: x7 :: x8 :: x9 :: x10 :: x11 :: x12 :: x13 :: x14 :: p :: r)) : F ((x0 :: x1 :: x2 :: x3 :: x4 :: x5 :: x6 :: x7 :: x8 :: x9 :: x10 :: x11 :: x12 :: x13 :: x14 :: o :: r).set 15 p) := h
theorem w_v16 {x0 x1 x2 x3 x4 x5 x6 x7 x8 x9 x10 x11 x12 x13 x14 x15 : Option V} {r : L2.St} (h : Q v H) : tVar 16 (x0 :: x1 :: x2 :: x3 :: x4 :: x5 :: x6 :: x7 :: x8 :: x9 :: x10 :: x11 :: x12 :: x13 :: x14 :: x15 :: some v :: r) H Q := ⟨v, rfl, h⟩
theorem w_g16 {x0 x1 x2 x3 x4 x5 x6 x7 x8 x9 x10 x11 x12 x13 x14 x15 : Option V} {o : Option V} {r : L2.St} {Q : L2.St → Hp → Prop} (h : Q (x0 :: x1 :: x2 :: x3 :: x4 :: x5 :: x6 :: x7 :: x8 :: x9 :: x10 :: x11 :: x12 :: x13 :: x14 :: x15 :: some v :: r) H) : gName 16 v (x0 :: x1 :: x2 :: x3 :: x4 :: x5 :: x6 :: x7 :: x8 :: x9 :: x10 :: x11 :: x12 :: x13 :: x14 :: x15 :: o :: r) H Q := h
theorem w_s16 {x0 x1 x2 x3 x4 x5 x6 x7 x8 x9 x10 x11 x12 x13 x14 x15 : Option V} {o p : Option V} {r : L2.St} {F : L2.St → Prop} (h : F (x0 :: x1 :: x2 :: x3 :: x4 :: x5 :: x6 :: x7 :: x8 :: x9 :: x10 :: x11 :: x12 :: x13 :: x14 :: x15 :: p :: r)) : F ((x0 :: x1 :: x2 :: x3 :: x4 :: x5 :: x6 :: x7 :: x8 :: x9 :: x10 :: x11 :: x12 :: x13 :: x14 :: x15 :: o :: r).set 16 p) := h
theorem w_v17 {x0 x1 x2 x3 x4 x5 x6 x7 x8 x9 x10 x11 x12 x13 x14 x15 x16 : Option V} {r : L2.St} (h : Q v H) : tVar 17 (x0 :: x1 :: x2 :: x3 :: x4 :: x5 :: x6 :: x7 :: x8 :: x9 :: x10 :: x11 :: x12 :: x13 :: x14 :: x15 :: x16 :: some v :: r) H Q := ⟨v, rfl, h⟩
theorem w_g17 {x0 x1 x2 x3 x4 x5 x6 x7 x8 x9 x10 x11 x12 x13 x14 x15 x16 : Option V} {o : Option V} {r : L2.St} {Q : L2.St → Hp → Prop} (h : Q (x0 :: x1 :: x2 :: x3 :: x4 :: x5 :: x6 :: x7 :: x8 :: x9 :: x10 :: x11 :: x12 :: x13 :: x14 :: x15 :: x16 :: some v :: r) H) : gName 17 v (x0 :: x1 :: x2 :: x3 :: x4 :: x5 :: x6 :: x7 :: x8 :: x9 :: x10 :: x11 :: x12 :: x13 :: x14 :: x15 :: x16 :: o :: r) H Q := h
theorem w_s17 {x0 x1 x2 x3 x4 x5 x6 x7 x8 x9 x10 x11 x12 x13 x14 x15 x16 : Option V} {o p : Option V} {r : L2.St} {F : L2.St → Prop} (h : F (x0 :: x1 :: x2 :: x3 :: x4 :: x5 :: x6 :: x7 :: x8 :: x9 :: x10 :: x11 :: x12 :: x13 :: x14 :: x15 :: x16 :: p :: r)) : F ((x0 :: x1 :: x2 :: x3 :: x4 :: x5 :: x6 :: x7 :: x8 :: x9 :: x10 :: x11 :: x12 :: x13 :: x14 :: x15 :: x16 :: o :: r).set 17 p) := h
theorem w_v18 {x0 x1 x2 x3 x4 x5 x6 x7 x8 x9 x10 x11 x12 x13 x14 x15 x16 x17 : Option V} {r : L2.St} (h : Q v H) : tVar 18 (x0 :: x1 :: x2 :: x3 :: x4 :: x5 :: x6 :: x7 :: x8 :: x9 :: x10 :: x11 :: x12 :: x13 :: x14 :: x15 :: x16 :: x17 :: some v :: r) H Q := ⟨v, rfl, h⟩
theorem w_g18 {x0 x1 x2 x3 x4 x5 x6 x7 x8 x9 x10 x11 x12 x13 x14 x15 x16 x17 : Option V} {o : Option V} {r : L2.St} {Q : L2.St → Hp → Prop} (h : Q (x0 :: x1 :: x2 :: x3 :: x4 :: x5 :: x6 :: x7 :: x8 :: x9 :: x10 :: x11 :: x12 :: x13 :: x14 :: x15 :: x16 :: x17 :: some v :: r) H) : gName 18 v (x0 :: x1 :: x2 :: x3 :: x4 :: x5 :: x6 :: x7 :: x8 :: x9 :: x10 :: x11 :: x12 :: x13 :: x14 :: x15 :: x16 :: x17 :: o :: r) H Q := h
theorem w_s18 {x0 x1 x2 x3 x4 x5 x6 x7 x8 x9 x10 x11 x12 x13 x14 x15 x16 x17 : Option V} {o p : Option V} {r : L2.St} {F : L2.St → Prop} (h : F (x0 :: x1 :: x2 :: x3 :: x4 :: x5 :: x6 :: x7 :: x8 :: x9 :: x10 :: x11 :: x12 :: x13 :: x14 :: x15 :: x16 :: x17 :: p :: r)) : F ((x0 :: x1 :: x2 :: x3 :: x4 :: x5 :: x6 :: x7 :: x8 :: x9 :: x10 :: x11 :: x12 :: x13 :: x14 :: x15 :: x16 :: x17 :: o :: r).set 18 p) := h
theorem w_v19 {x0 x1 x2 x3 x4 x5 x6 x7 x8 x9 x10 x11 x12 x13 x14 x15 x16 x17 x18 : Option V} {r : L2.St} (h : Q v H) : tVar 19 (x0 :: x1 :: x2 :: x3 :: x4 :: x5 :: x6 :: x7 :: x8 :: x9 :: x10 :: x11 :: x12 :: x13 :: x14 :: x15 :: x16 :: x17 :: x18 :: some v :: r) H Q := ⟨v, rfl, h⟩
theorem w_g19 {x0 x1 x2 x3 x4 x5 x6 x7 x8 x9 x10 x11 x12 x13 x14 x15 x16 x17 x18 : Option V} {o : Option V} {r : L2.St} {Q : L2.St → Hp → Prop} (h : Q (x0 :: x1 :: x2 :: x3 :: x4 :: x5 :: x6 :: x7 :: x8 :: x9 :: x10 :: x11 :: x12 :: x13 :: x14 :: x15 :: x16 :: x17 :: x18 :: some v :: r) H) : gName 19 v (x0 :: x1 :: x2 :: x3 :: x4 :: x5 :: x6 :: x7 :: x8 :: x9 :: x10 :: x11 :: x12 :: x13 :: x14 :: x15 :: x16 :: x17 :: x18 :: o :: r) H Q := h
theorem w_s19 {x0 x1 x2 x3 x4 x5 x6 x7 x8 x9 x10 x11 x12 x13 x14 x15 x16 x17 x18 : Option V} {o p : Option V} {r : L2.St} {F : L2.St → Prop} (h : F (x0 :: x1 :: x2 :: x3 :: x4 :: x5 :: x6 :: x7 :: x8 :: x9 :: x10 :: x11 :: x12 :: x13 :: x14 :: x15 :: x16 :: x17 :: x18 :: p :: r)) : F ((x0 :: x1 :: x2 :: x3 :: x4 :: x5 :: x6 :: x7 :: x8 :: x9 :: x10 :: x11 :: x12 :: x13 :: x14 :: x15 :: x16 :: x17 :: x18 :: o :: r).set 19 p) := h
theorem w_v20 {x0 x1 x2 x3 x4 x5 x6 x7 x8 x9 x10 x11 x12 x13 x14 x15 x16 x17 x18 x19 : Option V} {r : L2.St} (h : Q v H) : tVar 20 (x0 :: x1 :: x2 :: x3 :: x4 :: x5 :: x6 :: x7 :: x8 :: x9 :: x10 :: x11 :: x12 :: x13 :: x14 :: x15 :: x16 :: x17 :: x18 :: x19 :: some v :: r) H Q := ⟨v, rfl, h⟩
theorem w_g20 {x0 x1 x2 x3 x4 x5 x6 x7 x8 x9 x10 x11 x12 x13 x14 x15 x16 x17 x18 x19 : Option V} {o : Option V} {r : L2.St} {Q : L2.St → Hp → Prop} (h : Q (x0 :: x1 :: x2 :: x3 :: x4 :: x5 :: x6 :: x7 :: x8 :: x9 :: x10 :: x11 :: x12 :: x13 :: x14 :: x15 :: x16 :: x17 :: x18 :: x19 :: some v :: r) H) : gName 20 v (x0 :: x1 :: x2 :: x3 :: x4 :: x5 :: x6 :: x7 :: x8 :: x9 :: x10 :: x11 :: x12 :: x13 :: x14 :: x15 :: x16 :: x17 :: x18 :: x19 :: o :: r) H Q := h
theorem w_s20 {x0 x1 x2 x3 x4 x5 x6 x7 x8 x9 x10 x11 x12 x13 x14 x15 x16 x17 x18 x19 : Option V} {o p : Option V} {r : L2.St} {F : L2.St → Prop} (h : F (x0 :: x1 :: x2 :: x3 :: x4 :: x5 :: x6 :: x7 :: x8 :: x9 :: x10 :: x11 :: x12 :: x13 :: x14 :: x15 :: x16 :: x17 :: x18 :: x19 :: p :: r)) : F ((x0 :: x1 :: x2 :: x3 :: x4 :: x5 :: x6 :: x7 :: x8 :: x9 :: x10 :: x11 :: x12 :: x13 :: x14 :: x15 :: x16 :: x17 :: x18 :: x19 :: o :: r).set 20 p) := h
theorem w_v21 {x0 x1 x2 x3 x4 x5 x6 x7 x8 x9 x10 x11 x12 x13 x14 x15 x16 x17 x18 x19 x20 : Option V} {r : L2.St} (h : Q v H) : tVar 21 (x0 :: x1 :: x2 :: x3 :: x4 :: x5 :: x6 :: x7 :: x8 :: x9 :: x10 :: x11 :: x12 :: x13 :: x14 :: x15 :: x16 :: x17 :: x18 :: x19 :: x20 :: some v :: r) H Q := ⟨v, rfl, h⟩
theorem w_g21 {x0 x1 x2 x3 x4 x5 x6 x7 x8 x9 x10 x11 x12 x13 x14 x15 x16 x17 x18 x19 x20 : Option V} {o : Option V} {r : L2.St} {Q : L2.St → Hp → Prop} (h : Q (x0 :: x1 :: x2 :: x3 :: x4 :: x5 :: x6 :: x7 :: x8 :: x9 :: x10 :: x11 :: x12 :: x13 :: x14 :: x15 :: x16 :: x17 :: x18 :: x19 :: x20 :: some v :: r) H) : gName 21 v (x0 :: x1 :: x2 :: x3 :: x4 :: x5 :: x6 :: x7 :: x8 :: x9 :: x10 :: x11 :: x12 :: x13 :: x14 :: x15 :: x16 :: x17 :: x18 :: x19 :: x20 :: o :: r) H Q := h
theorem w_s21 {x0 x1 x2 x3 x4 x5 x6 x7 x8 x9 x10 x11 x12 x13 x14 x15 x16 x17 x18 x19 x20 : Option V} {o p : Option V} {r : L2.St} {F : L2.St → Prop} (h : F (x0 :: x1 :: x2 :: x3 :: x4 :: x5 :: x6 :: x7 :: x8 :: x9 :: x10 :: x11 :: x12 :: x13 :: x14 :: x15 :: x16 :: x17 :: x18 :: x19 :: x20 :: p :: r)) : F ((x0 :: x1 :: x2 :: x3 :: x4 :: x5 :: x6 :: x7 :: x8 :: x9 :: x10 :: x11 :: x12 :: x13 :: x14 :: x15 :: x16 :: x17 :: x18 :: x19 :: x20 :: o :: r).set 21 p) := h
theorem w_v22 {x0 x1 x2 x3 x4 x5 x6 x7 x8 x9 x10 x11 x12 x13 x14 x15 x16 x17 x18 x19 x20 x21 : Option V} {r : L2.St} (h : Q v H) : tVar 22 (x0 :: x1 :: x2 :: x3 :: x4 :: x5 :: x6 :: x7 :: x8 :: x9 :: x10 :: x11 :: x12 :: x13 :: x14 :: x15 :: x16 :: x17 :: x18 :: x19 :: x20 :: x21 :: some v :: r) H Q := ⟨v, rfl, h⟩
theorem w_g22 {x0 x1 x2 x3 x4 x5 x6 x7 x8 x9 x10 x11 x12 x13 x14 x15 x16 x17 x18 x19 x20 x21 : Option V} {o : Option V} {r : L2.St} {Q : L2.St → Hp → Prop} (h : Q (x0 :: x1 :: x2 :: x3 :: x4 :: x5 :: x6 :: x7 :: x8 :: x9 :: x10 :: x11 :: x12 :: x13 :: x14 :: x15 :: x16 :: x17 :: x18 :: x19 :: x20 :: x21 :: some v :: r) H) : gName 22 v (x0 :: x1 :: x2 :: x3 :: x4 :: x5 :: x6 :: x7 :: x8 :: x9 :: x10 :: x11 :: x12 :: x13 :: x14 :: x15 :: x16 :: x17 :: x18 :: x19 :: x20 :: x21 :: o :: r) H Q := h
theorem w_s22 {x0 x1 x2 x3 x4 x5 x6 x7 x8 x9 x10 x11 x12 x13 x14 x15 x16 x17 x18 x19 x20 x21 : Option V} {o p : Option V} {r : L2.St} {F : L2.St → Prop} (h : F (x0 :: x1 :: x2 :: x3 :: x4 :: x5 :: x6 :: x7 :: x8 :: x9 :: x10 :: x11 :: x12 :: x13 :: x14 :: x15 :: x16 :: x17 :: x18 :: x19 :: x20 :: x21 :: p :: r)) : F ((x0 :: x1 :: x2 :: x3 :: x4 :: x5 :: x6 :: x7 :: x8 :: x9 :: x10 :: x11 :: x12 :: x13 :: x14 :: x15 :: x16 :: x17 :: x18 :: x19 :: x20 :: x21 :: o :: r).set 22 p) := h
theorem w_v23 {x0 x1 x2 x3 x4 x5 x6 x7 x8 x9 x10 x11 x12 x13 x14 x15 x16 x17 x18 x19 x20 x21 x22 : Option V} {r : L2.St} (h : Q v H) : tVar 23 (x0 :: x1 :: x2 :: x3 :: x4 :: x5 :: x6 :: x7 :: x8 :: x9 :: x10 :: x11 :: x12 :: x13 :: x14 :: x15 :: x16 :: x17 :: x18 :: x19 :: x20 :: x21 :: x22 :: some v :: r) H Q := ⟨v, rfl, h⟩
theorem w_g23 {x0 x1 x2 x3 x4 x5 x6 x7 x8 x9 x10 x11 x12 x13 x14 x15 x16 x17 x18 x19 x20 x21 x22 : Option V} {o : Option V} {r : L2.St} {Q : L2.St → Hp → Prop} (h : Q (x0 :: x1 :: x2 :: x3 :: x4 :: x5 :: x6 :: x7 :: x8 :: x9 :: x10 :: x11 :: x12 :: x13 :: x14 :: x15 :: x16 :: x17 :: x18 :: x19 :: x20 :: x21 :: x22 :: some v :: r) H) : gName 23 v (x0 :: x1 :: x2 :: x3 :: x4 :: x5 :: x6 :: x7 :: x8 :: x9 :: x10 :: x11 :: x12 :: x13 :: x14 :: x15 :: x16 :: x17 :: x18 :: x19 :: x20 :: x21 :: x22 :: o :: r) H Q := h
theorem w_s23 {x0 x1 x2 x3 x4 x5 x6 x7 x8 x9 x10 x11 x12 x13 x14 x15 x16 x17 x18 x19 x20 x21 x22 : Option V} {o p : Option V} {r : L2.St} {F : L2.St → Prop} (h : F (x0 :: x1 :: x2 :: x3 :: x4 :: x5 :: x6 :: x7 :: x8 :: x9 :: x10 :: x11 :: x12 :: x13 :: x14 :: x15 :: x16 :: x17 :: x18 :: x19 :: x20 :: x21 :: x22 :: p :: r)) : F ((x0 :: x1 :: x2 :: x3 :: x4 :: x5 :: x6 :: x7 :: x8 :: x9 :: x10 :: x11 :: x12 :: x13 :: x14 :: x15 :: x16 :: x17 :: x18 :: x19 :: x20 :: x21 :: x22 :: o :: r).set 23 p) := h
theorem w_v24 {x0 x1 x2 x3 x4 x5 x6 x7 x8 x9 x10 x11 x12 x13 x14 x15 x16 x17 x18 x19 x20 x21 x22 x23 : Option V} {r : L2.St} (h : Q v H) : tVar 24 (x0 :: x1 :: x2 :: x3 :: x4 :: x5 :: x6 :: x7 :: x8 :: x9 :: x10 :: x11 :: x12 :: x13 :: x14 :: x15 :: x16 :: x17 :: x18 :: x19 :: x20 :: x21 :: x22 :: x23 :: some v :: r) H Q := ⟨v, rfl, h⟩
theorem w_g24 {x0 x1 x2 x3 x4 x5 x6 x7 x8 x9 x10 x11 x12 x13 x14 x15 x16 x17 x18 x19 x20 x21 x22 x23 : Option V} {o : Option V} {r : L2.St} {Q : L2.St → Hp → Prop} (h : Q (x0 :: x1 :: x2 :: x3 :: x4 :: x5 :: x6 :: x7 :: x8 :: x9 :: x10 :: x11 :: x12 :: x13 :: x14 :: x15 :: x16 :: x17 :: x18 :: x19 :: x20 :: x21 :: x22 :: x23 :: some v :: r) H) : gName 24 v (x0 :: x1 :: x2 :: x3 :: x4 :: x5 :: x6 :: x7 :: x8 :: x9 :: x10 :: x11 :: x12 :: x13 :: x14 :: x15 :: x16 :: x17 :: x18 :: x19 :: x20 :: x21 :: x22 :: x23 :: o :: r) H Q := h
theorem w_s24 {x0 x1 x2 x3 x4 x5 x6 x7 x8 x9 x10 x11 x12 x13 x14 x15 x16 x17 x18 x19 x20 x21 x22 x23 : Option V} {o p : Option V} {r : L2.St} {F : L2.St → Prop} (h : F (x0 :: x1 :: x2 :: x3 :: x4 :: x5 :: x6 :: x7 :: x8 :: x9 :: x10 :: x11 :: x12 :: x13 :: x14 :: x15 :: x16 :: x17 :: x18 :: x19 :: x20 :: x21 :: x22 :: x23 :: p :: r)) : F ((x0 :: x1 :: x2 :: x3 :: x4 :: x5 :: x6 :: x7 :: x8 :: x9 :: x10 :: x11 :: x12 :: x13 :: x14 :: x15 :: x16 :: x17 :: x18 :: x19 :: x20 :: x21 :: x22 :: x23 :: o :: r).set 24 p) := h
theorem w_v25 {x0 x1 x2 x3 x4 x5 x6 x7 x8 x9 x10 x11 x12 x13 x14 x15 x16 x17 x18 x19 x20 x21 x22 x23 x24 : Option V} {r : L2.St} (h : Q v H) : tVar 25 (x0 :: x1 :: x2 :: x3 :: x4 :: x5 :: x6 :: x7 :: x8 :: x9 :: x10 :: x11 :: x12 :: x13 :: x14 :: x15 :: x16 :: x17 :: x18 :: x19 :: x20 :: x21 :: x22 :: x23 :: x24 :: some v :: r) H Q := ⟨v, rfl, h⟩
theorem w_g25 {x0 x1 x2 x3 x4 x5 x6 x7 x8 x9 x10 x11 x12 x13 x14 x15 x16 x17 x18 x19 x20 x21 x22 x23 x24 : Option V} {o : Option V} {r : L2.St} {Q : L2.St → Hp → Prop} (h : Q (x0 :: x1 :: x2 :: x3 :: x4 :: x5 :: x6 :: x7 :: x8 :: x9 :: x10 :: x11 :: x12 :: x13 :: x14 :: x15 :: x16 :: x17 :: x18 :: x19 :: x20 :: x21 :: x22 :: x23 :: x24 :: some v :: r) H) : gName 25 v (x0 :: x1 :: x2 :: x3 :: x4 :: x5 :: x6 :: x7 :: x8 :: x9 :: x10 :: x11 :: x12 :: x13 :: x14 :: x15 :: x16 :: x17 :: x18 :: x19 :: x20 :: x21 :: x22 :: x23 :: x24 :: o :: r) H Q := h
theorem w_s25 {x0 x1 x2 x3 x4 x5 x6 x7 x8 x9 x10 x11 x12 x13 x14 x15 x16 x17 x18 x19 x20 x21 x22 x23 x24 : Option V} {o p : Option V} {r : L2.St} {F : L2.St → Prop} (h : F (x0 :: x1 :: x2 :: x3 :: x4 :: x5 :: x6 :: x7 :: x8 :: x9 :: x10 :: x11 :: x12 :: x13 :: x14 :: x15 :: x16 :: x17 :: x18 :: x19 :: x20 :: x21 :: x22 :: x23 :: x24 :: p :: r)) : F ((x0 :: x1 :: x2 :: x3 :: x4 :: x5 :: x6 :: x7 :: x8 :: x9 :: x10 :: x11 :: x12 :: x13 :: x14 :: x15 :: x16 :: x17 :: x18 :: x19 :: x20 :: x21 :: x22 :: x23 :: x24 :: o :: r).set 25 p) := h
theorem w_v26 {x0 x1 x2 x3 x4 x5 x6 x7 x8 x9 x10 x11 x12 x13 x14 x15 x16 x17 x18 x19 x20 x21 x22 x23 x24 x25 : Option V} {r : L2.St} (h : Q v H) : tVar 26 (x0 :: x1 :: x2 :: x3 :: x4 :: x5 :: x6 :: x7 :: x8 :: x9 :: x10 :: x11 :: x12 :: x13 :: x14 :: x15 :: x16 :: x17 :: x18 :: x19 :: x20 :: x21 :: x22 :: x23 :: x24 :: x25 :: some v :: r) H Q := ⟨v, rfl, h⟩
theorem w_g26 {x0 x1 x2 x3 x4 x5 x6 x7 x8 x9 x10 x11 x12 x13 x14 x15 x16 x17 x18 x19 x20 x21 x22 x23 x24 x25 : Option V} {o : Option V} {r : L2.St} {Q : L2.St → Hp → Prop} (h : Q (x0 :: x1 :: x2 :: x3 :: x4 :: x5 :: x6 :: x7 :: x8 :: x9 :: x10 :: x11 :: x12 :: x13 :: x14 :: x15 :: x16 :: x17 :: x18 :: x19 :: x20 :: x21 :: x22 :: x23 :: x24 :: x25 :: some v :: r) H) : gName 26 v (x0 :: x1 :: x2 :: x3 :: x4 :: x5 :: x6 :: x7 :: x8 :: x9 :: x10 :: x11 :: x12 :: x13 :: x14 :: x15 :: x16 :: x17 :: x18 :: x19 :: x20 :: x21 :: x22 :: x23 :: x24 :: x25 :: o :: r) H Q := h
theorem w_s26 {x0 x1 x2 x3 x4 x5 x6 x7 x8 x9 x10 x11 x12 x13 x14 x15 x16 x17 x18 x19 x20 x21 x22 x23 x24 x25 : Option V} {o p : Option V} {r : L2.St} {F : L2.St → Prop} (h : F (x0 :: x1 :: x2 :: x3 :: x4 :: x5 :: x6 :: x7 :: x8 :: x9 :: x10 :: x11 :: x12 :: x13 :: x14 :: x15 :: x16 :: x17 :: x18 :: x19 :: x20 :: x21 :: x22 :: x23 :: x24 :: x25 :: p :: r)) : F ((x0 :: x1 :: x2 :: x3 :: x4 :: x5 :: x6 :: x7 :: x8 :: x9 :: x10 :: x11 :: x12 :: x13 :: x14 :: x15 :: x16 :: x17 :: x18 :: x19 :: x20 :: x21 :: x22 :: x23 :: x24 :: x25 :: o :: r).set 26 p) := h
theorem w_v27 {x0 x1 x2 x3 x4 x5 x6 x7 x8 x9 x10 x11 x12 x13 x14 x15 x16 x17 x18 x19 x20 x21 x22 x23 x24 x25 x26 : Option V} {r : L2.St} (h : Q v H) : tVar 27 (x0 :: x1 :: x2 :: x3 :: x4 :: x5 :: x6 :: x7 :: x8 :: x9 :: x10 :: x11 :: x12 :: x13 :: x14 :: x15 :: x16 :: x17 :: x18 :: x19 :: x20 :: x21 :: x22 :: x23 :: x24 :: x25 :: x26 :: some v :: r) H Q := ⟨v, rfl, h⟩
theorem w_g27 {x0 x1 x2 x3 x4 x5 x6 x7 x8 x9 x10 x11 x12 x13 x14 x15 x16 x17 x18 x19 x20 x21 x22 x23 x24 x25 x26 : Option V} {o : Option V} {r : L2.St} {Q : L2.St → Hp → Prop} (h : Q (x0 :: x1 :: x2 :: x3 :: x4 :: x5 :: x6 :: x7 :: x8 :: x9 :: x10 :: x11 :: x12 :: x13 :: x14 :: x15 :: x16 :: x17 :: x18 :: x19 :: x20 :: x21 :: x22 :: x23 :: x24 :: x25 :: x26 :: some v :: r) H) : gName 27 v (x0 :: x1 :: x2 :: x3 :: x4 :: x5 :: x6 :: x7 :: x8 :: x9 :: x10 :: x11 :: x12 :: x13 :: x14 :: x15 :: x16 :: x17 :: x18 :: x19 :: x20 :: x21 :: x22 :: x23 :: x24 :: x25 :: x26 :: o :: r) H Q := h
theorem w_s27 {x0 x1 x2 x3 x4 x5 x6 x7 x8 x9 x10 x11 x12 x13 x14 x15 x16 x17 x18 x19 x20 x21 x22 x23 x24 x25 x26 : Option V} {o p : Option V} {r : L2.St} {F : L2.St → Prop} (h : F (x0 :: x1 :: x2 :: x3 :: x4 :: x5 :: x6 :: x7 :: x8 :: x9 :: x10 :: x11 :: x12 :: x13 :: x14 :: x15 :: x16 :: x17 :: x18 :: x19 :: x20 :: x21 :: x22 :: x23 :: x24 :: x25 :: x26 :: p :: r)) : F ((x0 :: x1 :: x2 :: x3 :: x4 :: x5 :: x6 :: x7 :: x8 :: x9 :: x10 :: x11 :: x12 :: x13 :: x14 :: x15 :: x16 :: x17 :: x18 :: x19 :: x20 :: x21 :: x22 :: x23 :: x24 :: x25 :: x26 :: o :: r).set 27 p) := h
theorem w_v28 {x0 x1 x2 x3 x4 x5 x6 x7 x8 x9 x10 x11 x12 x13 x14 x15 x16 x17 x18 x19 x20 x21 x22 x23 x24 x25 x26 x27 : Option V} {r : L2.St} (h : Q v H) : tVar 28 (x0 :: x1 :: x2 :: x3 :: x4 :: x5 :: x6 :: x7 :: x8 :: x9 :: x10 :: x11 :: x12 :: x13 :: x14 :: x15 :: x16 :: x17 :: x18 :: x19 :: x20 :: x21 :: x22 :: x23 :: x24 :: x25 :: x26 :: x27 :: some v :: r) H Q := ⟨v, rfl, h⟩
theorem w_g28 {x0 x1 x2 x3 x4 x5 x6 x7 x8 x9 x10 x11 x12 x13 x14 x15 x16 x17 x18 x19 x20 x21 x22 x23 x24 x25 x26 x27 : Option V} {o : Option V} {r : L2.St} {Q : L2.St → Hp → Prop} (h : Q (x0 :: x1 :: x2 :: x3 :: x4 :: x5 :: x6 :: x7 :: x8 :: x9 :: x10 :: x11 :: x12 :: x13 :: x14 :: x15 :: x16 :: x17 :: x18 :: x19 :: x20 :: x21 :: x22 :: x23 :: x24 :: x25 :: x26 :: x27 :: some v :: r) H) : gName 28 v (x0 :: x1 :: x2 :: x3 :: x4 :: x5 :: x6 :: x7 :: x8 :: x9 :: x10 :: x11 :: x12 :: x13 :: x14 :: x15 :: x16 :: x17 :: x18 :: x19 :: x20 :: x21 :: x22 :: x23 :: x24 :: x25 :: x26 :: x27 :: o :: r) H Q := h
theorem w_s28 {x0 x1 x2 x3 x4 x5 x6 x7 x8 x9 x10 x11 x12 x13 x14 x15 x16 x17 x18 x19 x20 x21 x22 x23 x24 x25 x26 x27 : Option V} {o p : Option V} {r : L2.St} {F : L2.St → Prop} (h : F (x0 :: x1 :: x2 :: x3 :: x4 :: x5 :: x6 :: x7 :: x8 :: x9 :: x10 :: x11 :: x12 :: x13 :: x14 :: x15 :: x16 :: x17 :: x18 :: x19 :: x20 :: x21 :: x22 :: x23 :: x24 :: x25 :: x26 :: x27 :: p :: r)) : F ((x0 :: x1 :: x2 :: x3 :: x4 :: x5 :: x6 :: x7 :: x8 :: x9 :: x10 :: x11 :: x12 :: x13 :: x14 :: x15 :: x16 :: x17 :: x18 :: x19 :: x20 :: x21 :: x22 :: x23 :: x24 :: x25 :: x26 :: x27 :: o :: r).set 28 p) := h
theorem w_v29 {x0 x1 x2 x3 x4 x5 x6 x7 x8 x9 x10 x11 x12 x13 x14 x15 x16 x17 x18 x19 x20 x21 x22 x23 x24 x25 x26 x27 x28 : Option V} {r : L2.St} (h : Q v H) : tVar 29 (x0 :: x1 :: x2 :: x3 :: x4 :: x5 :: x6 :: x7 :: x8 :: x9 :: x10 :: x11 :: x12 :: x13 :: x14 :: x15 :: x16 :: x17 :: x18 :: x19 :: x20 :: x21 :: x22 :: x23 :: x24 :: x25 :: x26 :: x27 :: x28 :: some v :: r) H Q := ⟨v, rfl, h⟩
theorem w_g29 {x0 x1 x2 x3 x4 x5 x6 x7 x8 x9 x10 x11 x12 x13 x14 x15 x16 x17 x18 x19 x20 x21 x22 x23 x24 x25 x26 x27 x28 : Option V} {o : Option V} {r : L2.St} {Q : L2.St → Hp → Prop} (h : Q (x0 :: x1 :: x2 :: x3 :: x4 :: x5 :: x6 :: x7 :: x8 :: x9 :: x10 :: x11 :: x12 :: x13 :: x14 :: x15 :: x16 :: x17 :: x18 :: x19 :: x20 :: x21 :: x22 :: x23 :: x24 :: x25 :: x26 :: x27 :: x28 :: some v :: r) H) : gName 29 v (x0 :: x1 :: x2 :: x3 :: x4 :: x5 :: x6 :: x7 :: x8 :: x9 :: x10 :: x11 :: x12 :: x13 :: x14 :: x15 :: x16 :: x17 :: x18 :: x19 :: x20 :: x21 :: x22 :: x23 :: x24 :: x25 :: x26 :: x27 :: x28 :: o :: r) H Q := h
theorem w_s29 {x0 x1 x2 x3 x4 x5 x6 x7 x8 x9 x10 x11 x12 x13 x14 x15 x16 x17 x18 x19 x20 x21 x22 x23 x24 x25 x26 x27 x28 : Option V} {o p : Option V} {r : L2.St} {F : L2.St → Prop} (h : F (x0 :: x1 :: x2 :: x3 :: x4 :: x5 :: x6 :: x7 :: x8 :: x9 :: x10 :: x11 :: x12 :: x13 :: x14 :: x15 :: x16 :: x17 :: x18 :: x19 :: x20 :: x21 :: x22 :: x23 :: x24 :: x25 :: x26 :: x27 :: x28 :: p :: r)) : F ((x0 :: x1 :: x2 :: x3 :: x4 :: x5 :: x6 :: x7 :: x8 :: x9 :: x10 :: x11 :: x12 :: x13 :: x14 :: x15 :: x16 :: x17 :: x18 :: x19 :: x20 :: x21 :: x22 :: x23 :: x24 :: x25 :: x26 :: x27 :: x28 :: o :: r).set 29 p) := h
theorem w_v30 {x0 x1 x2 x3 x4 x5 x6 x7 x8 x9 x10 x11 x12 x13 x14 x15 x16 x17 x18 x19 x20 x21 x22 x23 x24 x25 x26 x27 x28 x29 : Option V} {r : L2.St} (h : Q v H) : tVar 30 (x0 :: x1 :: x2 :: x3 :: x4 :: x5 :: x6 :: x7 :: x8 :: x9 :: x10 :: x11 :: x12 :: x13 :: x14 :: x15 :: x16 :: x17 :: x18 :: x19 :: x20 :: x21 :: x22 :: x23 :: x24 :: x25 :: x26 :: x27 :: x28 :: x29 :: some v :: r) H Q := ⟨v, rfl, h⟩
theorem w_g30 {x0 x1 x2 x3 x4 x5 x6 x7 x8 x9 x10 x11 x12 x13 x14 x15 x16 x17 x18 x19 x20 x21 x22 x23 x24 x25 x26 x27 x28 x29 : Option V} {o : Option V} {r : L2.St} {Q : L2.St → Hp → Prop} (h : Q (x0 :: x1 :: x2 :: x3 :: x4 :: x5 :: x6 :: x7 :: x8 :: x9 :: x10 :: x11 :: x12 :: x13 :: x14 :: x15 :: x16 :: x17 :: x18 :: x19 :: x20 :: x21 :: x22 :: x23 :: x24 :: x25 :: x26 :: x27 :: x28 :: x29 :: some v :: r) H) : gName 30 v (x0 :: x1 :: x2 :: x3 :: x4 :: x5 :: x6 :: x7 :: x8 :: x9 :: x10 :: x11 :: x12 :: x13 :: x14 :: x15 :: x16 :: x17 :: x18 :: x19 :: x20 :: x21 :: x22 :: x23 :: x24 :: x25 :: x26 :: x27 :: x28 :: x29 :: o :: r) H Q := h
theorem w_s30 {x0 x1 x2 x3 x4 x5 x6 x7 x8 x9 x10 x11 x12 x13 x14 x15 x16 x17 x18 x19 x20 x21 x22 x23 x24 x25 x26 x27 x28 x29 : Option V} {o p : Option V} {r : L2.St} {F : L2.St → Prop} (h : F (x0 :: x1 :: x2 :: x3 :: x4 :: x5 :: x6 :: x7 :: x8 :: x9 :: x10 :: x11 :: x12 :: x13 :: x14 :: x15 :: x16 :: x17 :: x18 :: x19 :: x20 :: x21 :: x22 :: x23 :: x24 :: x25 :: x26 :: x27 :: x28 :: x29 :: p :: r)) : F ((x0 :: x1 :: x2 :: x3 :: x4 :: x5 :: x6 :: x7 :: x8 :: x9 :: x10 :: x11 :: x12 :: x13 :: x14 :: x15 :: x16 :: x17 :: x18 :: x19 :: x20 :: x21 :: x22 :: x23 :: x24 :: x25 :: x26 :: x27 :: x28 :: x29 :: o :: r).set 30 p) := h
end
theorem w_pow0 {Q : VK} {H : Hp} (h : Q (.int 1) H) : rI CPow (fun i j => .int (i ^ j.toNat)) (.int 10) (.int 0) H Q := ⟨10, 0, rfl, rfl, ⟨by decide, by decide, by decide⟩, h⟩
theorem w_pow1 {Q : VK} {H : Hp} (h : Q (.int 10) H) : rI CPow (fun i j => .int (i ^ j.toNat)) (.int 10) (.int 1) H Q := ⟨10, 1, rfl, rfl, ⟨by decide, by decide, by decide⟩, h⟩
theorem w_pow2 {Q : VK} {H : Hp} (h : Q (.int 100) H) : rI CPow (fun i j => .int (i ^ j.toNat)) (.int 10) (.int 2) H Q := ⟨10, 2, rfl, rfl, ⟨by decide, by decide, by decide⟩, h⟩
theorem w_pow3 {Q : VK} {H : Hp} (h : Q (.int 1000) H) : rI CPow (fun i j => .int (i ^ j.toNat)) (.int 10) (.int 3) H Q := ⟨10, 3, rfl, rfl, ⟨by decide, by decide, by decide⟩, h⟩
theorem w_pow4 {Q : VK} {H : Hp} (h : Q (.int 10000) H) : rI CPow (fun i j => .int (i ^ j.toNat)) (.int 10) (.int 4) H Q := ⟨10, 4, rfl, rfl, ⟨by decide, by decide, by decide⟩, h⟩
theorem w_pow5 {Q : VK} {H : Hp} (h : Q (.int 100000) H) : rI CPow (fun i j => .int (i ^ j.toNat)) (.int 10) (.int 5) H Q := ⟨10, 5, rfl, rfl, ⟨by decide, by decide, by decide⟩, h⟩
theorem w_pow6 {Q : VK} {H : Hp} (h : Q (.int 1000000) H) : rI CPow (fun i j => .int (i ^ j.toNat)) (.int 10) (.int 6) H Q := ⟨10, 6, rfl, rfl, ⟨by decide, by decide, by decide⟩, h⟩
theorem w_pow7 {Q : VK} {H : Hp} (h : Q (.int 10000000) H) : rI CPow (fun i j => .int (i ^ j.toNat)) (.int 10) (.int 7) H Q := ⟨10, 7, rfl, rfl, ⟨by decide, by decide, by decide⟩, h⟩
theorem w_pow8 {Q : VK} {H : Hp} (h : Q (.int 100000000) H) : rI CPow (fun i j => .int (i ^ j.toNat)) (.int 10) (.int 8) H Q := ⟨10, 8, rfl, rfl, ⟨by decide, by decide, by decide⟩, h⟩
theorem w_pow9 {Q : VK} {H : Hp} (h : Q (.int 1000000000) H) : rI CPow (fun i j => .int (i ^ j.toNat)) (.int 10) (.int 9) H Q := ⟨10, 9, rfl, rfl, ⟨by decide, by decide, by decide⟩, h⟩
theorem w_pow10 {Q : VK} {H : Hp} (h : Q (.int 10000000000) H) : rI CPow (fun i j => .int (i ^ j.toNat)) (.int 10) (.int 10) H Q := ⟨10, 10, rfl, rfl, ⟨by decide, by decide, by decide⟩, h⟩
theorem w_pow11 {Q : VK} {H : Hp} (h : Q (.int 100000000000) H) : rI CPow (fun i j => .int (i ^ j.toNat)) (.int 10) (.int 11) H Q := ⟨10, 11, rfl, rfl, ⟨by decide, by decide, by decide⟩, h⟩
theorem w_pow12 {Q : VK} {H : Hp} (h : Q (.int 1000000000000) H) : rI CPow (fun i j => .int (i ^ j.toNat)) (.int 10) (.int 12) H Q := ⟨10, 12, rfl, rfl, ⟨by decide, by decide, by decide⟩, h⟩
theorem w_pow13 {Q : VK} {H : Hp} (h : Q (.int 10000000000000) H) : rI CPow (fun i j => .int (i ^ j.toNat)) (.int 10) (.int 13) H Q := ⟨10, 13, rfl, rfl, ⟨by decide, by decide, by decide⟩, h⟩
theorem w_pow14 {Q : VK} {H : Hp} (h : Q (.int 100000000000000) H) : rI CPow (fun i j => .int (i ^ j.toNat)) (.int 10) (.int 14) H Q := ⟨10, 14, rfl, rfl, ⟨by decide, by decide, by decide⟩, h⟩
theorem w_pow15 {Q : VK} {H : Hp} (h : Q (.int 1000000000000000) H) : rI CPow (fun i j => .int (i ^ j.toNat)) (.int 10) (.int 15) H Q := ⟨10, 15, rfl, rfl, ⟨by decide, by decide, by decide⟩, h⟩
theorem w_pow16 {Q : VK} {H : Hp} (h : Q (.int 10000000000000000) H) : rI CPow (fun i j => .int (i ^ j.toNat)) (.int 10) (.int 16) H Q := ⟨10, 16, rfl, rfl, ⟨by decide, by decide, by decide⟩, h⟩
theorem w_pow17 {Q : VK} {H : Hp} (h : Q (.int 100000000000000000) H) : rI CPow (fun i j => .int (i ^ j.toNat)) (.int 10) (.int 17) H Q := ⟨10, 17, rfl, rfl, ⟨by decide, by decide, by decide⟩, h⟩
theorem w_pow18 {Q : VK} {H : Hp} (h : Q (.int 1000000000000000000) H) : rI CPow (fun i j => .int (i ^ j.toNat)) (.int 10) (.int 18) H Q := ⟨10, 18, rfl, rfl, ⟨by decide, by decide, by decide⟩, h⟩
theorem w_pow19 {Q : VK} {H : Hp} (h : Q (.int 10000000000000000000) H) : rI CPow (fun i j => .int (i ^ j.toNat)) (.int 10) (.int 19) H Q := ⟨10, 19, rfl, rfl, ⟨by decide, by decide, by decide⟩, h⟩
theorem w_pow20 {Q : VK} {H : Hp} (h : Q (.int 100000000000000000000) H) : rI CPow (fun i j => .int (i ^ j.toNat)) (.int 10) (.int 20) H Q := ⟨10, 20, rfl, rfl, ⟨by decide, by decide, by decide⟩, h⟩
theorem w_pow21 {Q : VK} {H : Hp} (h : Q (.int 1000000000000000000000) H) : rI CPow (fun i j => .int (i ^ j.toNat)) (.int 10) (.int 21) H Q := ⟨10, 21, rfl, rfl, ⟨by decide, by decide, by decide⟩, h⟩
theorem w_pow22 {Q : VK} {H : Hp} (h : Q (.int 10000000000000000000000) H) : rI CPow (fun i j => .int (i ^ j.toNat)) (.int 10) (.int 22) H Q := ⟨10, 22, rfl, rfl, ⟨by decide, by decide, by decide⟩, h⟩
theorem w_pow23 {Q : VK} {H : Hp} (h : Q (.int 100000000000000000000000) H) : rI CPow (fun i j => .int (i ^ j.toNat)) (.int 10) (.int 23) H Q := ⟨10, 23, rfl, rfl, ⟨by decide, by decide, by decide⟩, h⟩
theorem w_pow24 {Q : VK} {H : Hp} (h : Q (.int 1000000000000000000000000) H) : rI CPow (fun i j => .int (i ^ j.toNat)) (.int 10) (.int 24) H Q := ⟨10, 24, rfl, rfl, ⟨by decide, by decide, by decide⟩, h⟩
theorem w_pow25 {Q : VK} {H : Hp} (h : Q (.int 10000000000000000000000000) H) : rI CPow (fun i j => .int (i ^ j.toNat)) (.int 10) (.int 25) H Q := ⟨10, 25, rfl, rfl, ⟨by decide, by decide, by decide⟩, h⟩
theorem w_pow26 {Q : VK} {H : Hp} (h : Q (.int 100000000000000000000000000) H) : rI CPow (fun i j => .int (i ^ j.toNat)) (.int 10) (.int 26) H Q := ⟨10, 26, rfl, rfl, ⟨by decide, by decide, by decide⟩, h⟩
theorem w_pow27 {Q : VK} {H : Hp} (h : Q (.int 1000000000000000000000000000) H) : rI CPow (fun i j => .int (i ^ j.toNat)) (.int 10) (.int 27) H Q := ⟨10, 27, rfl, rfl, ⟨by decide, by decide, by decide⟩, h⟩
theorem w_pow28 {Q : VK} {H : Hp} (h : Q (.int 10000000000000000000000000000) H) : rI CPow (fun i j => .int (i ^ j.toNat)) (.int 10) (.int 28) H Q := ⟨10, 28, rfl, rfl, ⟨by decide, by decide, by decide⟩, h⟩
theorem w_pow29 {Q : VK} {H : Hp} (h : Q (.int 100000000000000000000000000000) H) : rI CPow (fun i j => .int (i ^ j.toNat)) (.int 10) (.int 29) H Q := ⟨10, 29, rfl, rfl, ⟨by decide, by decide, by decide⟩, h⟩
theorem w_pow30 {Q : VK} {H : Hp} (h : Q (.int 1000000000000000000000000000000) H) : rI CPow (fun i j => .int (i ^ j.toNat)) (.int 10) (.int 30) H Q := ⟨10, 30, rfl, rfl, ⟨by decide, by decide, by decide⟩, h⟩
theorem w_pow31 {Q : VK} {H : Hp} (h : Q (.int 10000000000000000000000000000000) H) : rI CPow (fun i j => .int (i ^ j.toNat)) (.int 10) (.int 31) H Q := ⟨10, 31, rfl, rfl, ⟨by decide, by decide, by decide⟩, h⟩
theorem w_pow32 {Q : VK} {H : Hp} (h : Q (.int 100000000000000000000000000000000) H) : rI CPow (fun i j => .int (i ^ j.toNat)) (.int 10) (.int 32) H Q := ⟨10, 32, rfl, rfl, ⟨by decide, by decide, by decide⟩, h⟩
theorem w_pow33 {Q : VK} {H : Hp} (h : Q (.int 1000000000000000000000000000000000) H) : rI CPow (fun i j => .int (i ^ j.toNat)) (.int 10) (.int 33) H Q := ⟨10, 33, rfl, rfl, ⟨by decide, by decide, by decide⟩, h⟩
theorem w_pow34 {Q : VK} {H : Hp} (h : Q (.int 10000000000000000000000000000000000) H) : rI CPow (fun i j => .int (i ^ j.toNat)) (.int 10) (.int 34) H Q := ⟨10, 34, rfl, rfl, ⟨by decide, by decide, by decide⟩, h⟩
theorem w_pow35 {Q : VK} {H : Hp} (h : Q (.int 100000000000000000000000000000000000) H) : rI CPow (fun i j => .int (i ^ j.toNat)) (.int 10) (.int 35) H Q := ⟨10, 35, rfl, rfl, ⟨by decide, by decide, by decide⟩, h⟩
theorem w_pow36 {Q : VK} {H : Hp} (h : Q (.int 1000000000000000000000000000000000000) H) : rI CPow (fun i j => .int (i ^ j.toNat)) (.int 10) (.int 36) H Q := ⟨10, 36, rfl, rfl, ⟨by decide, by decide, by decide⟩, h⟩
theorem w_pow37 {Q : VK} {H : Hp} (h : Q (.int 10000000000000000000000000000000000000) H) : rI CPow (fun i j => .int (i ^ j.toNat)) (.int 10) (.int 37) H Q := ⟨10, 37, rfl, rfl, ⟨by decide, by decide, by decide⟩, h⟩
theorem w_pow38 {Q : VK} {H : Hp} (h : Q (.int 100000000000000000000000000000000000000) H) : rI CPow (fun i j => .int (i ^ j.toNat)) (.int 10) (.int 38) H Q := ⟨10, 38, rfl, rfl, ⟨by decide, by decide, by decide⟩, h⟩
theorem w_pow39 {Q : VK} {H : Hp} (h : Q (.int 1000000000000000000000000000000000000000) H) : rI CPow (fun i j => .int (i ^ j.toNat)) (.int 10) (.int 39) H Q := ⟨10, 39, rfl, rfl, ⟨by decide, by decide, by decide⟩, h⟩
theorem w_pow40 {Q : VK} {H : Hp} (h : Q (.int 10000000000000000000000000000000000000000) H) : rI CPow (fun i j => .int (i ^ j.toNat)) (.int 10) (.int 40) H Q := ⟨10, 40, rfl, rfl, ⟨by decide, by decide, by decide⟩, h⟩
theorem w_pow41 {Q : VK} {H : Hp} (h : Q (.int 100000000000000000000000000000000000000000) H) : rI CPow (fun i j => .int (i ^ j.toNat)) (.int 10) (.int 41) H Q := ⟨10, 41, rfl, rfl, ⟨by decide, by decide, by decide⟩, h⟩
theorem w_pow42 {Q : VK} {H : Hp} (h : Q (.int 1000000000000000000000000000000000000000000) H) : rI CPow (fun i j => .int (i ^ j.toNat)) (.int 10) (.int 42) H Q := ⟨10, 42, rfl, rfl, ⟨by decide, by decide, by decide⟩, h⟩
theorem w_pow43 {Q : VK} {H : Hp} (h : Q (.int 10000000000000000000000000000000000000000000) H) : rI CPow (fun i j => .int (i ^ j.toNat)) (.int 10) (.int 43) H Q := ⟨10, 43, rfl, rfl, ⟨by decide, by decide, by decide⟩, h⟩
theorem w_pow44 {Q : VK} {H : Hp} (h : Q (.int 100000000000000000000000000000000000000000000) H) : rI CPow (fun i j => .int (i ^ j.toNat)) (.int 10) (.int 44) H Q := ⟨10, 44, rfl, rfl, ⟨by decide, by decide, by decide⟩, h⟩
theorem w_pow45 {Q : VK} {H : Hp} (h : Q (.int 1000000000000000000000000000000000000000000000) H) : rI CPow (fun i j => .int (i ^ j.toNat)) (.int 10) (.int 45) H Q := ⟨10, 45, rfl, rfl, ⟨by decide, by decide, by decide⟩, h⟩
theorem w_pow46 {Q : VK} {H : Hp} (h : Q (.int 10000000000000000000000000000000000000000000000) H) : rI CPow (fun i j => .int (i ^ j.toNat)) (.int 10) (.int 46) H Q := ⟨10, 46, rfl, rfl, ⟨by decide, by decide, by decide⟩, h⟩
theorem w_pow47 {Q : VK} {H : Hp} (h : Q (.int 100000000000000000000000000000000000000000000000) H) : rI CPow (fun i j => .int (i ^ j.toNat)) (.int 10) (.int 47) H Q := ⟨10, 47, rfl, rfl, ⟨by decide, by decide, by decide⟩, h⟩
theorem w_pow48 {Q : VK} {H : Hp} (h : Q (.int 1000000000000000000000000000000000000000000000000) H) : rI CPow (fun i j => .int (i ^ j.toNat)) (.int 10) (.int 48) H Q := ⟨10, 48, rfl, rfl, ⟨by decide, by decide, by decide⟩, h⟩
theorem w_pow49 {Q : VK} {H : Hp} (h : Q (.int 10000000000000000000000000000000000000000000000000) H) : rI CPow (fun i j => .int (i ^ j.toNat)) (.int 10) (.int 49) H Q := ⟨10, 49, rfl, rfl, ⟨by decide, by decide, by decide⟩, h⟩
theorem w_pow50 {Q : VK} {H : Hp} (h : Q (.int 100000000000000000000000000000000000000000000000000) H) : rI CPow (fun i j => .int (i ^ j.toNat)) (.int 10) (.int 50) H Q := ⟨10, 50, rfl, rfl, ⟨by decide, by decide, by decide⟩, h⟩
theorem w_pow51 {Q : VK} {H : Hp} (h : Q (.int 1000000000000000000000000000000000000000000000000000) H) : rI CPow (fun i j => .int (i ^ j.toNat)) (.int 10) (.int 51) H Q := ⟨10, 51, rfl, rfl, ⟨by decide, by decide, by decide⟩, h⟩
theorem w_pow52 {Q : VK} {H : Hp} (h : Q (.int 10000000000000000000000000000000000000000000000000000) H) : rI CPow (fun i j => .int (i ^ j.toNat)) (.int 10) (.int 52) H Q := ⟨10, 52, rfl, rfl, ⟨by decide, by decide, by decide⟩, h⟩
theorem w_pow53 {Q : VK} {H : Hp} (h : Q (.int 100000000000000000000000000000000000000000000000000000) H) : rI CPow (fun i j => .int (i ^ j.toNat)) (.int 10) (.int 53) H Q := ⟨10, 53, rfl, rfl, ⟨by decide, by decide, by decide⟩, h⟩
theorem w_pow54 {Q : VK} {H : Hp} (h : Q (.int 1000000000000000000000000000000000000000000000000000000) H) : rI CPow (fun i j => .int (i ^ j.toNat)) (.int 10) (.int 54) H Q := ⟨10, 54, rfl, rfl, ⟨by decide, by decide, by decide⟩, h⟩
theorem w_pow55 {Q : VK} {H : Hp} (h : Q (.int 10000000000000000000000000000000000000000000000000000000) H) : rI CPow (fun i j => .int (i ^ j.toNat)) (.int 10) (.int 55) H Q := ⟨10, 55, rfl, rfl, ⟨by decide, by decide, by decide⟩, h⟩
theorem w_pow56 {Q : VK} {H : Hp} (h : Q (.int 100000000000000000000000000000000000000000000000000000000) H) : rI CPow (fun i j => .int (i ^ j.toNat)) (.int 10) (.int 56) H Q := ⟨10, 56, rfl, rfl, ⟨by decide, by decide, by decide⟩, h⟩
theorem w_pow57 {Q : VK} {H : Hp} (h : Q (.int 1000000000000000000000000000000000000000000000000000000000) H) : rI CPow (fun i j => .int (i ^ j.toNat)) (.int 10) (.int 57) H Q := ⟨10, 57, rfl, rfl, ⟨by decide, by decide, by decide⟩, h⟩
theorem w_pow58 {Q : VK} {H : Hp} (h : Q (.int 10000000000000000000000000000000000000000000000000000000000) H) : rI CPow (fun i j => .int (i ^ j.toNat)) (.int 10) (.int 58) H Q := ⟨10, 58, rfl, rfl, ⟨by decide, by decide, by decide⟩, h⟩
theorem w_pow59 {Q : VK} {H : Hp} (h : Q (.int 100000000000000000000000000000000000000000000000000000000000) H) : rI CPow (fun i j => .int (i ^ j.toNat)) (.int 10) (.int 59) H Q := ⟨10, 59, rfl, rfl, ⟨by decide, by decide, by decide⟩, h⟩
theorem w_pow60 {Q : VK} {H : Hp} (h : Q (.int 1000000000000000000000000000000000000000000000000000000000000) H) : rI CPow (fun i j => .int (i ^ j.toNat)) (.int 10) (.int 60) H Q := ⟨10, 60, rfl, rfl, ⟨by decide, by decide, by decide⟩, h⟩

/-! ### the drawing stream: a list of the cells, a place, a great number in use, a count -/
def Stm (H : Hp) (a : Addr) : Prop := ∃ (c : Addr) (p g n : Int) (ns : List Int), H a = some (.lst [.ref c, .int p, .int g, .int n]) ∧ 0 ≤ p ∧ 0 ≤ g ∧ H c = some (.lst (ns.map V.int)) ∧ 0 < ns.length
/-- all but a stands -/
def But (a : Addr) (H H' : Hp) : Prop := ∀ b o, b ≠ a → H b = some o → H' b = some o
theorem But.refl (a : Addr) (H : Hp) : But a H H := fun _ _ _ h => h
theorem But.trans {a : Addr} {H H1 H2 : Hp} (x : But a H H1) (y : But a H1 H2) : But a H H2 := fun b o n h => y b o n (x b o n h)
theorem But.upd {a : Addr} {H : Hp} {o : HO} : But a H (upd H a o) := fun b u n h => by
  rw [upd_ne n]
  exact h
theorem But.new {a : Addr} {H H1 : Hp} {p : Addr} {o : HO} (x : But a H H1) (hp : H1 p = none) : But a H (L2.upd H1 p o) := fun b u n h => by
  rw [upd_ne (ne_of_none (x b u n h) hp)]
  exact x b u n h
theorem _root_.L2.Same.but {a : Addr} {H H1 : Hp} (x : Same H H1) : But a H H1 := fun b o _ h => x b o h
theorem same_new {H : Hp} {p : Addr} {o : HO} (h : H p = none) : Same H (upd H p o) := fun b u e => by
  rw [upd_ne (ne_of_none e h)]
  exact e
theorem _root_.L2.Same.new {H H1 : Hp} {p : Addr} {o : HO} (x : Same H H1) (h : H1 p = none) : Same H (upd H1 p o) := x.trans (same_new h)
theorem Stm.keep {H H' : Hp} {a : Addr} (s : Stm H a) (x : Same H H') : Stm H' a := by
  obtain ⟨c, p, g, n, ns, h1, h2, h3, h4, h5⟩ := s
  exact ⟨c, p, g, n, ns, x _ _ h1, h2, h3, x _ _ h4, h5⟩
theorem Stm.ne {H : Hp} {a p : Addr} (s : Stm H a) (h : H p = none) : p ≠ a := by
  obtain ⟨c, p, g, n, ns, h1, _⟩ := s
  exact (ne_of_none h1 h).symm
theorem stm_ca {H : Hp} {a c : Addr} {p g n : Int} {ns : List Int} (h1 : H a = some (.lst [.ref c, .int p, .int g, .int n])) (h4 : H c = some (.lst (ns.map V.int))) : c ≠ a := fun e => by
  rw [e, h1] at h4
  cases ns with
  | nil => cases h4
  | cons x r => cases h4
/-! what the drawing defs promise -/
def sp_mixed : Sp := fun vs H Q _ => ∃ c k : Int, vs = [.int c, .int k] ∧ ∀ d : Int, Q (.int d) H
def sp_great (K : PySem.W.Frag) : Sp := fun vs H Q _ => ∃ (c : Addr) (p : Int) (ns : List Int), vs = [.ref c, .int p] ∧ SqL K H c (ns.map V.int) ∧ 0 ≤ p ∧ ∀ g : Int, 0 ≤ g → Q (.int g) H
def sp_stream (K : PySem.W.Frag) : Sp := fun vs H Q _ => ∃ (a : Addr) (ns : List Int), vs = [.ref a] ∧ SqL K H a (ns.map V.int) ∧ ∀ H' p, Same H H' → H p = none → Stm H' p → Q (.ref p) H'
def sp_take : Sp := fun vs H Q _ => ∃ (a : Addr) (m : Int), vs = [.ref a, .int m] ∧ (0 < m ∧ m.natAbs.log2 < 9000) ∧ Stm H a ∧ ∀ H' (d : Int), But a H H' → Stm H' a → 0 ≤ d → d < m → Q (.int d) H'
/-- an int below 10 ^ 39 in size -/
def sp_whole : Sp := fun vs H Q _ => ∃ (a : Addr), vs = [.ref a] ∧ Stm H a ∧ ∀ H' (n : Int), But a H H' → Stm H' a → n.natAbs < 1000000000000000000000000000000000000000 → Q (.int n) H'

/-! items by a written place -/
theorem at0 {x : V} {r : List V} : atI (x :: r) 0 = some x := atI_nat (j := 0) rfl
theorem at1 {x0 : V} {x : V} {r : List V} : atI (x0 :: x :: r) 1 = some x := atI_nat (j := 1) rfl
theorem at2 {x0 x1 : V} {x : V} {r : List V} : atI (x0 :: x1 :: x :: r) 2 = some x := atI_nat (j := 2) rfl
theorem at3 {x0 x1 x2 : V} {x : V} {r : List V} : atI (x0 :: x1 :: x2 :: x :: r) 3 = some x := atI_nat (j := 3) rfl
theorem at4 {x0 x1 x2 x3 : V} {x : V} {r : List V} : atI (x0 :: x1 :: x2 :: x3 :: x :: r) 4 = some x := atI_nat (j := 4) rfl
theorem at5 {x0 x1 x2 x3 x4 : V} {x : V} {r : List V} : atI (x0 :: x1 :: x2 :: x3 :: x4 :: x :: r) 5 = some x := atI_nat (j := 5) rfl
theorem at6 {x0 x1 x2 x3 x4 x5 : V} {x : V} {r : List V} : atI (x0 :: x1 :: x2 :: x3 :: x4 :: x5 :: x :: r) 6 = some x := atI_nat (j := 6) rfl
theorem at7 {x0 x1 x2 x3 x4 x5 x6 : V} {x : V} {r : List V} : atI (x0 :: x1 :: x2 :: x3 :: x4 :: x5 :: x6 :: x :: r) 7 = some x := atI_nat (j := 7) rfl
theorem at8 {x0 x1 x2 x3 x4 x5 x6 x7 : V} {x : V} {r : List V} : atI (x0 :: x1 :: x2 :: x3 :: x4 :: x5 :: x6 :: x7 :: x :: r) 8 = some x := atI_nat (j := 8) rfl
theorem at9 {x0 x1 x2 x3 x4 x5 x6 x7 x8 : V} {x : V} {r : List V} : atI (x0 :: x1 :: x2 :: x3 :: x4 :: x5 :: x6 :: x7 :: x8 :: x :: r) 9 = some x := atI_nat (j := 9) rfl
theorem at10 {x0 x1 x2 x3 x4 x5 x6 x7 x8 x9 : V} {x : V} {r : List V} : atI (x0 :: x1 :: x2 :: x3 :: x4 :: x5 :: x6 :: x7 :: x8 :: x9 :: x :: r) 10 = some x := atI_nat (j := 10) rfl
theorem at11 {x0 x1 x2 x3 x4 x5 x6 x7 x8 x9 x10 : V} {x : V} {r : List V} : atI (x0 :: x1 :: x2 :: x3 :: x4 :: x5 :: x6 :: x7 :: x8 :: x9 :: x10 :: x :: r) 11 = some x := atI_nat (j := 11) rfl
theorem at12 {x0 x1 x2 x3 x4 x5 x6 x7 x8 x9 x10 x11 : V} {x : V} {r : List V} : atI (x0 :: x1 :: x2 :: x3 :: x4 :: x5 :: x6 :: x7 :: x8 :: x9 :: x10 :: x11 :: x :: r) 12 = some x := atI_nat (j := 12) rfl
theorem at13 {x0 x1 x2 x3 x4 x5 x6 x7 x8 x9 x10 x11 x12 : V} {x : V} {r : List V} : atI (x0 :: x1 :: x2 :: x3 :: x4 :: x5 :: x6 :: x7 :: x8 :: x9 :: x10 :: x11 :: x12 :: x :: r) 13 = some x := atI_nat (j := 13) rfl
theorem at14 {x0 x1 x2 x3 x4 x5 x6 x7 x8 x9 x10 x11 x12 x13 : V} {x : V} {r : List V} : atI (x0 :: x1 :: x2 :: x3 :: x4 :: x5 :: x6 :: x7 :: x8 :: x9 :: x10 :: x11 :: x12 :: x13 :: x :: r) 14 = some x := atI_nat (j := 14) rfl
theorem at15 {x0 x1 x2 x3 x4 x5 x6 x7 x8 x9 x10 x11 x12 x13 x14 : V} {x : V} {r : List V} : atI (x0 :: x1 :: x2 :: x3 :: x4 :: x5 :: x6 :: x7 :: x8 :: x9 :: x10 :: x11 :: x12 :: x13 :: x14 :: x :: r) 15 = some x := atI_nat (j := 15) rfl

theorem ixN_lt {n : Nat} {i : Int} {j : Nat} (e : i = (j : Int)) (h : j < n) : ixN n i = some j := by
  unfold ixN
  rw [if_pos (by omega), if_pos (by omega)]
  congr 1
  omega
theorem at_get {xs : List V} {i : Int} {j : Nat} (e : i = (j : Int)) (h : j < xs.length) : atI xs i = some xs[j] := by
  subst e
  exact atI_nat (List.getElem?_eq_getElem h)
theorem at_ints {ns : List Int} {i : Int} (h0 : 0 ≤ i) (h : i < (ns.length : Int)) : ∃ n, atI (ns.map V.int) i = some (.int n) := by
  obtain ⟨j, rfl⟩ := Int.eq_ofNat_of_zero_le h0
  have hj : j < ns.length := by omega
  refine ⟨ns[j], ?_⟩
  refine atI_nat ?_
  rw [List.getElem?_map, List.getElem?_eq_getElem hj]
  rfl
theorem w_set0 {H : Hp} {Q : Hp → Prop} {p : Addr} {y : V} {x : V} {r : List V} (e : H p = some (.lst (x :: r))) (h : Q (upd H p (.lst (y :: r)))) : rSetL (.ref p) (.int 0) y H Q := ⟨p, _, 0, 0, rfl, rfl, e, ixN_lt rfl (by simp), h⟩
theorem w_set1 {H : Hp} {Q : Hp → Prop} {p : Addr} {y : V} {x0 : V} {x : V} {r : List V} (e : H p = some (.lst (x0 :: x :: r))) (h : Q (upd H p (.lst (x0 :: y :: r)))) : rSetL (.ref p) (.int 1) y H Q := ⟨p, _, 1, 1, rfl, rfl, e, ixN_lt rfl (by simp), h⟩
theorem w_set2 {H : Hp} {Q : Hp → Prop} {p : Addr} {y : V} {x0 x1 : V} {x : V} {r : List V} (e : H p = some (.lst (x0 :: x1 :: x :: r))) (h : Q (upd H p (.lst (x0 :: x1 :: y :: r)))) : rSetL (.ref p) (.int 2) y H Q := ⟨p, _, 2, 2, rfl, rfl, e, ixN_lt rfl (by simp), h⟩
theorem w_set3 {H : Hp} {Q : Hp → Prop} {p : Addr} {y : V} {x0 x1 x2 : V} {x : V} {r : List V} (e : H p = some (.lst (x0 :: x1 :: x2 :: x :: r))) (h : Q (upd H p (.lst (x0 :: x1 :: x2 :: y :: r)))) : rSetL (.ref p) (.int 3) y H Q := ⟨p, _, 3, 3, rfl, rfl, e, ixN_lt rfl (by simp), h⟩
theorem w_set4 {H : Hp} {Q : Hp → Prop} {p : Addr} {y : V} {x0 x1 x2 x3 : V} {x : V} {r : List V} (e : H p = some (.lst (x0 :: x1 :: x2 :: x3 :: x :: r))) (h : Q (upd H p (.lst (x0 :: x1 :: x2 :: x3 :: y :: r)))) : rSetL (.ref p) (.int 4) y H Q := ⟨p, _, 4, 4, rfl, rfl, e, ixN_lt rfl (by simp), h⟩
theorem w_set5 {H : Hp} {Q : Hp → Prop} {p : Addr} {y : V} {x0 x1 x2 x3 x4 : V} {x : V} {r : List V} (e : H p = some (.lst (x0 :: x1 :: x2 :: x3 :: x4 :: x :: r))) (h : Q (upd H p (.lst (x0 :: x1 :: x2 :: x3 :: x4 :: y :: r)))) : rSetL (.ref p) (.int 5) y H Q := ⟨p, _, 5, 5, rfl, rfl, e, ixN_lt rfl (by simp), h⟩
theorem w_set6 {H : Hp} {Q : Hp → Prop} {p : Addr} {y : V} {x0 x1 x2 x3 x4 x5 : V} {x : V} {r : List V} (e : H p = some (.lst (x0 :: x1 :: x2 :: x3 :: x4 :: x5 :: x :: r))) (h : Q (upd H p (.lst (x0 :: x1 :: x2 :: x3 :: x4 :: x5 :: y :: r)))) : rSetL (.ref p) (.int 6) y H Q := ⟨p, _, 6, 6, rfl, rfl, e, ixN_lt rfl (by simp), h⟩
theorem w_set7 {H : Hp} {Q : Hp → Prop} {p : Addr} {y : V} {x0 x1 x2 x3 x4 x5 x6 : V} {x : V} {r : List V} (e : H p = some (.lst (x0 :: x1 :: x2 :: x3 :: x4 :: x5 :: x6 :: x :: r))) (h : Q (upd H p (.lst (x0 :: x1 :: x2 :: x3 :: x4 :: x5 :: x6 :: y :: r)))) : rSetL (.ref p) (.int 7) y H Q := ⟨p, _, 7, 7, rfl, rfl, e, ixN_lt rfl (by simp), h⟩
theorem w_set8 {H : Hp} {Q : Hp → Prop} {p : Addr} {y : V} {x0 x1 x2 x3 x4 x5 x6 x7 : V} {x : V} {r : List V} (e : H p = some (.lst (x0 :: x1 :: x2 :: x3 :: x4 :: x5 :: x6 :: x7 :: x :: r))) (h : Q (upd H p (.lst (x0 :: x1 :: x2 :: x3 :: x4 :: x5 :: x6 :: x7 :: y :: r)))) : rSetL (.ref p) (.int 8) y H Q := ⟨p, _, 8, 8, rfl, rfl, e, ixN_lt rfl (by simp), h⟩
theorem w_set9 {H : Hp} {Q : Hp → Prop} {p : Addr} {y : V} {x0 x1 x2 x3 x4 x5 x6 x7 x8 : V} {x : V} {r : List V} (e : H p = some (.lst (x0 :: x1 :: x2 :: x3 :: x4 :: x5 :: x6 :: x7 :: x8 :: x :: r))) (h : Q (upd H p (.lst (x0 :: x1 :: x2 :: x3 :: x4 :: x5 :: x6 :: x7 :: x8 :: y :: r)))) : rSetL (.ref p) (.int 9) y H Q := ⟨p, _, 9, 9, rfl, rfl, e, ixN_lt rfl (by simp), h⟩
theorem w_set10 {H : Hp} {Q : Hp → Prop} {p : Addr} {y : V} {x0 x1 x2 x3 x4 x5 x6 x7 x8 x9 : V} {x : V} {r : List V} (e : H p = some (.lst (x0 :: x1 :: x2 :: x3 :: x4 :: x5 :: x6 :: x7 :: x8 :: x9 :: x :: r))) (h : Q (upd H p (.lst (x0 :: x1 :: x2 :: x3 :: x4 :: x5 :: x6 :: x7 :: x8 :: x9 :: y :: r)))) : rSetL (.ref p) (.int 10) y H Q := ⟨p, _, 10, 10, rfl, rfl, e, ixN_lt rfl (by simp), h⟩
theorem w_set11 {H : Hp} {Q : Hp → Prop} {p : Addr} {y : V} {x0 x1 x2 x3 x4 x5 x6 x7 x8 x9 x10 : V} {x : V} {r : List V} (e : H p = some (.lst (x0 :: x1 :: x2 :: x3 :: x4 :: x5 :: x6 :: x7 :: x8 :: x9 :: x10 :: x :: r))) (h : Q (upd H p (.lst (x0 :: x1 :: x2 :: x3 :: x4 :: x5 :: x6 :: x7 :: x8 :: x9 :: x10 :: y :: r)))) : rSetL (.ref p) (.int 11) y H Q := ⟨p, _, 11, 11, rfl, rfl, e, ixN_lt rfl (by simp), h⟩
theorem w_set12 {H : Hp} {Q : Hp → Prop} {p : Addr} {y : V} {x0 x1 x2 x3 x4 x5 x6 x7 x8 x9 x10 x11 : V} {x : V} {r : List V} (e : H p = some (.lst (x0 :: x1 :: x2 :: x3 :: x4 :: x5 :: x6 :: x7 :: x8 :: x9 :: x10 :: x11 :: x :: r))) (h : Q (upd H p (.lst (x0 :: x1 :: x2 :: x3 :: x4 :: x5 :: x6 :: x7 :: x8 :: x9 :: x10 :: x11 :: y :: r)))) : rSetL (.ref p) (.int 12) y H Q := ⟨p, _, 12, 12, rfl, rfl, e, ixN_lt rfl (by simp), h⟩

/-! ### a call by keywords alone, of a def that may raise -/
structure KB0 (K : PySem.W.Frag) (fd : FuncData) (ps ks : List Str) (g : {α : Type} → List α → List α) : Prop where
  to : ∀ (s : Shared) (ws : List Value), ws.length = ks.length → BindsTo s fd ⟨[], ks.zip ws⟩ (ps.zip (g ws))
  rel : ∀ {zs : List V} {ws : List Value}, Vals zs ws → zs.length = ks.length → Vals (g zs) (g ws)
def tCallKS (sp : Sp) (n : Nat) (g : {α : Type} → List α → List α) (E : L2.St → XK) (tk : TA) : TE := fun σ H Q => tk σ H fun zs H1 => zs.length = n ∧ sp (g zs) H1 Q (E σ)
section
variable {X : Cx} {CX : CXT} {k : Nat} {f : Addr} {fd : FuncData} {ps ks : List Str} {sp : Sp} {E : L2.St → XK} {x : Str} {p pos : Pos} {kws : List Keyword} {tk : TA} {g : {α : Type} → List α → List α}
theorem pe_kwS (F : FnOk X.prog X.w X.K X.mg X.base CX k f fd ps sp) (hr : Room k X.A) (hg : Gl X x) (hm : X.mg x = some (.ref f)) (hk : PySem.W.keepIn X.K (.ref f) = true) (hb : KB0 X.K fd ps ks g) (hx : ∀ σ, PassesAt CX X σ (E σ))
    (hkw : PK X kws tk) (hall : (backToKw pos (keywordEach kws X.env)).all (·.1.isSome) = true := by rfl) (hks : (backToKw pos (keywordEach kws X.env)).filterMap (·.1) = ks := by rfl)
    (hdb : (x == ("__debug__" : Str)) = false := by decide) (hpl : ((backTo pos (starEach [] X.env)).any (·.1) || (backToKw pos (keywordEach kws X.env)).any (·.1.isNone)) = false := by rfl) :
    PE X (.Call (.Name x p) [] kws pos) (tCallKS sp ks.length g E tk) := by
  refine ⟨fun pins s σ H Q I h => ?_⟩
  refine wpAny_Call_Name_kw (ld_glob I hg hm ?_ hdb)
  refine PySem.W.callWith_KW0 (h₀ := X.base) I.ok.mod.kin hk hall (thn (hkw.run pos pins s σ H _ I h) fun ws s2 ⟨zs, H2, I2, rz, hl, q2⟩ => ⟨I2.kIn, ?_⟩) hpl
  rw [hks, List.append_nil]
  have r2 := hb.rel rz hl
  refine wpAny_call (codeAny_mono (F.run X.A X.stack s2 H2 ⟨[], ks.zip ws⟩ (g ws) (g zs) Q (E σ) hr I2.env0 (hb.to s2 ws (rz.length.symm.trans hl)) r2 q2) fun r s' hq => ?_)
  cases r with
  | error e => exact hx σ pins H2 s2 e s' I2 hq
  | ok fl =>
    cases fl with
    | ret u => exact I2.after hq
    | next => exact False.elim hq
    | brk => exact False.elim hq
    | cont => exact False.elim hq
end
theorem w_kws {sp : Sp} {n : Nat} {g : {α : Type} → List α → List α} {E : L2.St → XK} {tk : TA} {σ : L2.St} {H : Hp} {Q : VK} (h : tk σ H fun zs H1 => zs.length = n ∧ sp (g zs) H1 Q (E σ)) : tCallKS sp n g E tk σ H Q := h
theorem w_callS {sp : Sp} {E : L2.St → XK} {t : TA} {σ : L2.St} {H : Hp} {Q : VK} (h : t σ H fun vs H1 => sp vs H1 Q (E σ)) : tCallS sp E t σ H Q := h
/-! ### things: a value that bears a datum; no part of it is the object at sa -/
mutual
inductive Rp (sa : Addr) (H : Hp) : V → PyData → Prop
  | non : Rp sa H .non .none
  | bl (b : Bool) : Rp sa H (.bl b) (.bool b)
  | int (i : Int) : Rp sa H (.int i) (.int i)
  | str (x : Str) : Rp sa H (.str x) (.str x)
  | lst {a : Addr} {xs : List V} {ds : List PyData} (n : a ≠ sa) (h : H a = some (.lst xs)) (r : Rps sa H xs ds) : Rp sa H (.ref a) (.list ds)
  | tup {a : Addr} {xs : List V} {ds : List PyData} (n : a ≠ sa) (h : H a = some (.tup xs)) (r : Rps sa H xs ds) : Rp sa H (.ref a) (.tuple ds)
  | dct {a : Addr} {kvs : List (Key × V)} {ds : List (PyData × PyData)} (n : a ≠ sa) (h : H a = some (.dK kvs)) (l : kvs.length = ds.length ∧ ∀ p ∈ kvs, valV kvs p.1 = some p.2 ∧ flatB p.2 = true) : Rp sa H (.ref a) (.dict ds)
inductive Rps (sa : Addr) (H : Hp) : List V → List PyData → Prop
  | nil : Rps sa H [] []
  | cons {v : V} {vs : List V} {d : PyData} {ds : List PyData} (h : Rp sa H v d) (t : Rps sa H vs ds) : Rps sa H (v :: vs) (d :: ds)
end
mutual
theorem Rp.but {sa : Addr} {H H' : Hp} (b : But sa H H') : ∀ {v : V} {d : PyData}, Rp sa H v d → Rp sa H' v d
  | _, _, .non => .non
  | _, _, .bl b => .bl b
  | _, _, .int i => .int i
  | _, _, .str x => .str x
  | _, _, .lst n h r => .lst n (b _ _ n h) (Rps.but b r)
  | _, _, .tup n h r => .tup n (b _ _ n h) (Rps.but b r)
  | _, _, .dct n h l => .dct n (b _ _ n h) l
theorem Rps.but {sa : Addr} {H H' : Hp} (b : But sa H H') : ∀ {vs : List V} {ds : List PyData}, Rps sa H vs ds → Rps sa H' vs ds
  | _, _, .nil => .nil
  | _, _, .cons h t => .cons (Rp.but b h) (Rps.but b t)
end
theorem Rp.same {sa : Addr} {H H' : Hp} {v : V} {d : PyData} (r : Rp sa H v d) (b : Same H H') : Rp sa H' v d := r.but b.but
mutual
def noDict : PyData → Bool
  | .list ds => noDicts ds
  | .tuple ds => noDicts ds
  | .dict _ => false
  | _ => true
def noDicts : List PyData → Bool
  | [] => true
  | d :: ds => noDict d && noDicts ds
end
mutual
theorem Rp.dp {K : PySem.W.Frag} {sa : Addr} {H : Hp} : ∀ {v : V} {d : PyData}, Rp sa H v d → noDict d = true → Dp K H v d
  | _, _, .non, _ => .non
  | _, _, .bl b, _ => .bl b
  | _, _, .int i, _ => .int i
  | _, _, .str x, _ => .str x
  | _, _, .lst n h r, e => .lst (SqL.of h) (Rps.dp r e)
  | _, _, .tup n h r, e => .tup (SqT.of h) (Rps.dp r e)
  | _, _, .dct n h l, e => nomatch e
theorem Rps.dp {K : PySem.W.Frag} {sa : Addr} {H : Hp} : ∀ {vs : List V} {ds : List PyData}, Rps sa H vs ds → noDicts ds = true → DpAll K H vs ds
  | _, _, .nil, _ => .nil
  | _, _, .cons h t, e => .cons (Rp.dp h (by
      unfold noDicts at e
      exact (Bool.and_eq_true _ _ ▸ e).1)) (Rps.dp t (by
      unfold noDicts at e
      exact (Bool.and_eq_true _ _ ▸ e).2))
end

/-- the name of a datum's type -/
def tyD : PyData → String
  | .none => "NoneType"
  | .bool _ => "bool"
  | .int _ => "int"
  | .str _ => "str"
  | .list _ => "list"
  | .tuple _ => "tuple"
  | .dict _ => "dict"
theorem Rp.ty {K : PySem.W.Frag} {sa : Addr} {H : Hp} {v : V} {d : PyData} (r : Rp sa H v d) : TyX K H v (.type (tyD d)) := by
  cases r with
  | non => exact .base .non
  | bl b => exact .base (.bl b)
  | int i => exact .base (.int i)
  | str x => exact .base (.str x)
  | lst n h r => exact .base (.lst h)
  | tup n h r => exact .base (.tup h)
  | dct n h l => exact .base (.dK h)
/-- an error of the class at S is what «except S» names -/
theorem exm_own {K : PySem.W.Frag} {S : Addr} (h1 : PySem.W.subIn K (.ref S) (.type "BaseException") = some true) (h2 : PySem.W.isClsIn K S = true) (h3 : PySem.W.typeIn K (.ref S) = some (.type "type")) (h4 : PySem.W.subIn K (.ref S) (.ref S) = some true) :
    PySem.W.exmOne K (.ref S) (.ref S) = some true := by
  have z1 : (PySem.W.subIn K (.ref S) (.type "BaseException") == some true) = true := by
    rw [h1]
    rfl
  have z2 : ((PySem.W.clsIn K S).isSome && PySem.W.typeIn K (.ref S) == some (.type "type")) = true := by
    have q : (PySem.W.clsIn K S).isSome = true := h2
    rw [q, h3]
    rfl
  show (if (PySem.W.subIn K (.ref S) (.type "BaseException") == some true) = true then PySem.W.kitCls K (.ref S) (.ref S) else none) = some true
  rw [if_pos z1]
  show (if ((PySem.W.clsIn K S).isSome && PySem.W.typeIn K (.ref S) == some (.type "type")) = true then PySem.W.subIn K (.ref S) (.ref S) else none) = some true
  rw [if_pos z2]
  exact h4
/-! ### the ground under a def: what stood stands (but for the stream), the things at hand bear their data -/
structure Wd (b : Bool) (sa : Addr) (H0 H : Hp) (vs : List V) (ds : List PyData) : Prop where
  but : But sa H0 H
  same : b = false → Same H0 H
  st : b = true → Stm H sa
  tr : ∃ o, H sa = some o
  r : Rps sa H vs ds
theorem Stm.tr {H : Hp} {a : Addr} (s : Stm H a) : ∃ o, H a = some o := by
  obtain ⟨c, p, g, n, ns, h1, _⟩ := s
  exact ⟨_, h1⟩
/-- v bears d among the things at hand -/
inductive In2 : V → PyData → List V → List PyData → Prop
  | here {v : V} {d : PyData} {vs : List V} {ds : List PyData} : In2 v d (v :: vs) (d :: ds)
  | there {v w : V} {d e : PyData} {vs : List V} {ds : List PyData} (h : In2 v d vs ds) : In2 v d (w :: vs) (e :: ds)
section
variable {b : Bool} {sa : Addr} {H0 H H' : Hp} {vs : List V} {ds : List PyData} {v : V} {d : PyData} {K : PySem.W.Frag}
theorem In2.rp (m : In2 v d vs ds) (r : Rps sa H vs ds) : Rp sa H v d := by
  induction m with
  | here => cases r with | cons h t => exact h
  | there m ih => cases r with | cons h t => exact ih t
theorem Wd.get (W : Wd b sa H0 H vs ds) (m : In2 v d vs ds) : Rp sa H v d := m.rp W.r
theorem Wd.go (W : Wd b sa H0 H vs ds) (s : Same H H') : Wd b sa H0 H' vs ds := ⟨W.but.trans s.but, fun e => (W.same e).trans s, fun e => (W.st e).keep s, (let ⟨o, e⟩ := W.tr; ⟨o, s _ _ e⟩), W.r.but s.but⟩
theorem Wd.put (W : Wd b sa H0 H vs ds) (r : Rp sa H v d) : Wd b sa H0 H (v :: vs) (d :: ds) := ⟨W.but, W.same, W.st, W.tr, .cons r W.r⟩
theorem Wd.sub (W : Wd b sa H0 H vs ds) {vs' : List V} {ds' : List PyData} (r : Rps sa H vs' ds') : Wd b sa H0 H vs' ds' := ⟨W.but, W.same, W.st, W.tr, r⟩
theorem Wd.draw (W : Wd true sa H0 H vs ds) (x : But sa H H') (s : Stm H' sa) : Wd true sa H0 H' vs ds := ⟨W.but.trans x, fun e => (nomatch e), fun _ => s, s.tr, W.r.but x⟩
theorem wd_start (t : ∃ o, H sa = some o) (r : Rps sa H vs ds) : Wd false sa H H vs ds := ⟨But.refl _ _, fun _ => Same.refl _, fun e => (nomatch e), t, r⟩
theorem wd_startS (s : Stm H sa) (r : Rps sa H vs ds) : Wd true sa H H vs ds := ⟨But.refl _ _, fun e => (nomatch e), fun _ => s, s.tr, r⟩
/-- a new object is not the stream -/
theorem Wd.ne (W : Wd b sa H0 H vs ds) {p : Addr} (h : H p = none) : p ≠ sa := by
  obtain ⟨o, e⟩ := W.tr
  exact (ne_of_none e h).symm
end
/-- what is asked of a value that bears d: scalars are known -/
def VS (d : PyData) (F : V → Prop) : Prop := match d with
  | .none => F .non
  | .bool b => F (.bl b)
  | .int i => F (.int i)
  | .str s => F (.str s)
  | .list _ => ∀ p, F (.ref p)
  | .tuple _ => ∀ p, F (.ref p)
  | .dict _ => ∀ p, F (.ref p)
theorem VS.of {sa : Addr} {H : Hp} {v : V} {d : PyData} {F : V → Prop} (h : VS d F) (r : Rp sa H v d) : F v := by
  cases r with
  | non => exact h
  | bl b => exact h
  | int i => exact h
  | str x => exact h
  | lst n e r => exact h _
  | tup n e r => exact h _
  | dct n e l => exact h _
/-! ### kinds of promises -/
/-- a def without a stream: from data to a datum -/
def Pf (pre : List PyData → Prop) (fn : List PyData → PyData) : Sp := fun vs H Q _ => ∃ (sa : Addr) (ds : List PyData), (∃ o, H sa = some o) ∧ Rps sa H vs ds ∧ pre ds ∧ ∀ H' x, Same H H' → Rp sa H' x (fn ds) → Q x H'
/-- a def that draws: data in, some datum out -/
def Sf (pre : List PyData → Prop) (R : List PyData → PyData → Prop) : Sp := fun vs H Q _ => ∃ (sa : Addr) (vs' : List V) (ds : List PyData), vs = .ref sa :: vs' ∧ Stm H sa ∧ Rps sa H vs' ds ∧ pre ds ∧ ∀ H' x d, But sa H H' → Stm H' sa → Rp sa H' x d → R ds d → Q x H'
section
variable {b : Bool} {sa : Addr} {H0 H : Hp} {acc : List V} {dacc : List PyData} {Q : VK} {E : XK}
theorem call_P {pre : List PyData → Prop} {fn : List PyData → PyData} {vs : List V} {ds : List PyData} (W : Wd b sa H0 H acc dacc) (r : Rps sa H vs ds) (hp : pre ds)
    (h : ∀ H', VS (fn ds) fun x => Wd b sa H0 H' (x :: acc) (fn ds :: dacc) → Q x H') : Pf pre fn vs H Q E :=
  ⟨sa, ds, W.tr, r, hp, fun H' x s rx => (h H').of rx ((W.go s).put rx)⟩
theorem call_S {pre : List PyData → Prop} {R : List PyData → PyData → Prop} {vs : List V} {ds : List PyData} (W : Wd true sa H0 H acc dacc) (r : Rps sa H vs ds) (hp : pre ds)
    (h : ∀ H' x d, Wd true sa H0 H' (x :: acc) (d :: dacc) → R ds d → Q x H') : Sf pre R (.ref sa :: vs) H Q E :=
  ⟨sa, vs, ds, rfl, W.st rfl, r, hp, fun H' x d bb s rx hR => h H' x d ((W.draw bb s).put rx) hR⟩
/-- int(stream's digit) -/
theorem call_tk {m : Int} (W : Wd true sa H0 H acc dacc) (hm : 0 < m) (hl : m.natAbs.log2 < 9000) (h : ∀ H' (d : Int), Wd true sa H0 H' acc dacc → 0 ≤ d → d < m → Q (.int d) H') : sp_take [.ref sa, .int m] H Q E :=
  ⟨sa, m, rfl, ⟨hm, hl⟩, W.st rfl, fun H' d bb s d0 d1 => h H' d (W.draw bb s) d0 d1⟩
theorem call_wh (W : Wd true sa H0 H acc dacc) (h : ∀ H' (n : Int), Wd true sa H0 H' acc dacc → n.natAbs < 1000000000000000000000000000000000000000 → Q (.int n) H') : sp_whole [.ref sa] H Q E :=
  ⟨sa, rfl, W.st rfl, fun H' d bb s d0 => h H' d (W.draw bb s) d0⟩
/-! ### new tuples, lists, dicts -/
def NT (Q : VK) (xs : List V) (H : Hp) : Prop := xs.length ≤ sizeLine ∧ ∀ p, H p = none → Q (.ref p) (upd H p (.tup xs))
def NL (Q : VK) (xs : List V) (H : Hp) : Prop := xs.length ≤ sizeLine ∧ ∀ p, H p = none → Q (.ref p) (upd H p (.lst xs))
def ND (Q : VK) (H : Hp) : Prop := ∀ p, H p = none → Q (.ref p) (upd H p (.dK []))
theorem w_tupN {tt : TA} {σ : L2.St} (h : tt σ H fun xs H1 => NT Q xs H1) : tTup tt σ H Q := h
theorem w_lstN {tt : TA} {σ : L2.St} (h : tt σ H fun xs H1 => NL Q xs H1) : tLst tt σ H Q := h
theorem nt_mk {xs : List V} (h : ∀ p, H p = none → Q (.ref p) (upd H p (.tup xs))) (hl : xs.length.ble 1000 = true := by rfl) : NT Q xs H := w_new h hl
theorem nl_mk {xs : List V} (h : ∀ p, H p = none → Q (.ref p) (upd H p (.lst xs))) (hl : xs.length.ble 1000 = true := by rfl) : NL Q xs H := w_new h hl
theorem n_tup {xs : List V} {ds : List PyData} (W : Wd b sa H0 H acc dacc) (r : Rps sa H xs ds) (hl : xs.length.ble 1000 = true) (h : ∀ H' p, Wd b sa H0 H' (.ref p :: acc) (.tuple ds :: dacc) → Q (.ref p) H') : NT Q xs H :=
  ⟨Nat.le_of_lt (small1000 (Nat.le_of_ble_eq_true hl)), fun p np => h _ p ((W.go (same_new np)).put (.tup (W.ne np) upd_same (r.but (same_new np).but)))⟩
theorem n_lst {xs : List V} {ds : List PyData} (W : Wd b sa H0 H acc dacc) (r : Rps sa H xs ds) (hl : xs.length.ble 1000 = true) (h : ∀ H' p, Wd b sa H0 H' (.ref p :: acc) (.list ds :: dacc) → Q (.ref p) H') : NL Q xs H :=
  ⟨Nat.le_of_lt (small1000 (Nat.le_of_ble_eq_true hl)), fun p np => h _ p ((W.go (same_new np)).put (.lst (W.ne np) upd_same (r.but (same_new np).but)))⟩
theorem n_dct (W : Wd b sa H0 H acc dacc) (h : ∀ H' p, Wd b sa H0 H' (.ref p :: acc) (.dict [] :: dacc) → Q (.ref p) H') : ND Q H :=
  fun p np => h _ p ((W.go (same_new np)).put (.dct (W.ne np) upd_same ⟨rfl, fun p hp => absurd hp (by simp)⟩))
/-! ### reading an item of a thing -/
theorem rps_at {vs : List V} {ds : List PyData} {j : Nat} {d : PyData} (r : Rps sa H vs ds) (e : ds[j]? = some d) : ∃ v, vs[j]? = some v ∧ Rp sa H v d := by
  induction ds generalizing vs j with
  | nil => simp at e
  | cons d0 ds ih =>
    cases r with
    | cons h t =>
      cases j with
      | zero =>
        simp at e
        subst e
        exact ⟨_, rfl, h⟩
      | succ j =>
        simp at e
        obtain ⟨v, e1, r1⟩ := ih t e
        exact ⟨v, by simpa using e1, r1⟩
theorem x_tup {K : PySem.W.Frag} {p : Addr} {ds : List PyData} {j : Nat} {d : PyData} {i : Int} (W : Wd b sa H0 H acc dacc) (m : In2 (.ref p) (.tuple ds) acc dacc) (hi : i = (j : Int)) (e : ds[j]? = some d)
    (h : VS d fun x => Wd b sa H0 H (x :: acc) (d :: dacc) → Q x H) : rIxT K (.ref p) (.int i) H Q := by
  subst hi
  cases W.get m with
  | @tup _ xs _ n hx r =>
    obtain ⟨v, e1, r1⟩ := rps_at r e
    exact ⟨p, xs, j, v, rfl, rfl, SqT.of hx, atI_nat e1, h.of r1 (W.put r1)⟩
theorem x_lst {K : PySem.W.Frag} {p : Addr} {ds : List PyData} {j : Nat} {d : PyData} {i : Int} (W : Wd b sa H0 H acc dacc) (m : In2 (.ref p) (.list ds) acc dacc) (hi : i = (j : Int)) (e : ds[j]? = some d)
    (h : VS d fun x => Wd b sa H0 H (x :: acc) (d :: dacc) → Q x H) : rIxL K (.ref p) (.int i) H Q := by
  subst hi
  cases W.get m with
  | @lst _ xs _ n hx r =>
    obtain ⟨v, e1, r1⟩ := rps_at r e
    exact ⟨p, xs, j, v, rfl, rfl, SqL.of hx, atI_nat e1, h.of r1 (W.put r1)⟩
theorem Rps.app {vs ws : List V} {ds es : List PyData} (r : Rps sa H vs ds) (t : Rps sa H ws es) : Rps sa H (vs ++ ws) (ds ++ es) := by
  induction ds generalizing vs with
  | nil => cases r; exact t
  | cons d ds ih =>
    cases r with
    | cons h k => exact .cons h (ih k)
/-- an item at a place that is not known -/
theorem x_some {K : PySem.W.Frag} {p : Addr} {ds : List PyData} {i : Int} (W : Wd b sa H0 H acc dacc) (m : In2 (.ref p) (.list ds) acc dacc) (h0 : 0 ≤ i) (h1 : i < (ds.length : Int))
    (h : ∀ x d, d ∈ ds → Wd b sa H0 H (x :: acc) (d :: dacc) → Q x H) : rIxL K (.ref p) (.int i) H Q := by
  obtain ⟨j, rfl⟩ := Int.eq_ofNat_of_zero_le h0
  have hj : j < ds.length := by omega
  cases W.get m with
  | @lst _ xs _ n hx r =>
    obtain ⟨v, e1, r1⟩ := rps_at r (List.getElem?_eq_getElem hj)
    exact ⟨p, xs, j, v, rfl, rfl, SqL.of hx, atI_nat e1, h v _ (List.getElem_mem hj) (W.put r1)⟩
theorem Rps.lens {vs : List V} {ds : List PyData} (r : Rps sa H vs ds) : vs.length = ds.length := by
  induction ds generalizing vs with
  | nil => cases r; rfl
  | cons d ds ih =>
    cases r with
    | cons h t => exact congrArg (· + 1) (ih t)
theorem l_lst {K : PySem.W.Frag} {p : Addr} {ds : List PyData} (W : Wd b sa H0 H acc dacc) (m : In2 (.ref p) (.list ds) acc dacc) (h : Q (.int (ds.length : Int)) H) : rLenQ K [.ref p] H Q := by
  cases W.get m with
  | @lst _ xs _ n hx r => exact ⟨p, xs, rfl, .inl (SqL.of hx), by rw [r.lens]; exact h⟩
theorem l_tup {K : PySem.W.Frag} {p : Addr} {ds : List PyData} (W : Wd b sa H0 H acc dacc) (m : In2 (.ref p) (.tuple ds) acc dacc) (h : Q (.int (ds.length : Int)) H) : rLenQ K [.ref p] H Q := by
  cases W.get m with
  | @tup _ xs _ n hx r => exact ⟨p, xs, rfl, .inr (SqT.of hx), by rw [r.lens]; exact h⟩

/-- a list that stands: lists of the call's own, joined -/
theorem w_catL {p q : Addr} {ds es : List PyData} (W : Wd b sa H0 H acc dacc) (m : In2 (.ref p) (.list ds) acc dacc) (n : In2 (.ref q) (.list es) acc dacc) (hl : (ds.length + es.length).ble 1000 = true)
    (h : ∀ H' p, Wd b sa H0 H' (.ref p :: acc) (.list (ds ++ es) :: dacc) → Q (.ref p) H') : rCat (.ref p) (.ref q) H Q := by
  cases W.get m with
  | @lst _ xs _ n1 hx r =>
    cases W.get n with
    | @lst _ ys _ n2 hy r2 =>
      refine ⟨p, q, xs, ys, rfl, rfl, hx, hy, ?_, fun p' np => ?_⟩
      · rw [r.lens, r2.lens]
        exact Nat.le_of_lt (small1000 (Nat.le_of_ble_eq_true hl))
      · exact h _ p' ((W.go (same_new np)).put (.lst (W.ne np) upd_same ((r.app r2).but (same_new np).but)))
end

section
variable {b : Bool} {sa : Addr} {H0 H : Hp} {acc : List V} {dacc : List PyData} {Q : VK} {E : XK}
theorem w_call0 {sp : Sp} {tt : TA} {σ : L2.St} (h : tt σ H fun vs H1 => sp vs H1 Q E) : tCall sp [] E tt σ H Q := by
  show tt σ H fun vs H1 => sp (vs ++ []) H1 Q E
  have e : (fun (vs : List V) (H1 : Hp) => sp (vs ++ []) H1 Q E) = fun vs H1 => sp vs H1 Q E := by
    funext vs H1
    rw [List.append_nil]
  rw [e]
  exact h
theorem v_non {F : V → Prop} (h : F .non) : VS .none F := h
theorem v_bl {F : V → Prop} {x : Bool} (h : F (.bl x)) : VS (.bool x) F := h
theorem v_int {F : V → Prop} {x : Int} (h : F (.int x)) : VS (.int x) F := h
theorem v_str {F : V → Prop} {x : Str} (h : F (.str x)) : VS (.str x) F := h
theorem v_tup {F : V → Prop} {x : List PyData} (h : ∀ p, F (.ref p)) : VS (.tuple x) F := h
theorem v_lst {F : V → Prop} {x : List PyData} (h : ∀ p, F (.ref p)) : VS (.list x) F := h
theorem v_dct {F : V → Prop} {x : List (PyData × PyData)} (h : ∀ p, F (.ref p)) : VS (.dict x) F := h
theorem w_newD {Q : VK} {σ : L2.St} (h : ND Q H) : tDNewK σ H Q := h
theorem x_T0 {K : PySem.W.Frag} {p : Addr} {d : PyData} {r : List PyData} (W : Wd b sa H0 H acc dacc) (m : In2 (.ref p) (.tuple (d :: r)) acc dacc) (h : VS d fun x => Wd b sa H0 H (x :: acc) (d :: dacc) → Q x H) : rIxT K (.ref p) (.int 0) H Q := x_tup (j := 0) W m rfl rfl h
theorem x_T0i {K : PySem.W.Frag} {p : Addr} {n : Int} {r : List PyData} (W : Wd b sa H0 H acc dacc) (m : In2 (.ref p) (.tuple (.int n :: r)) acc dacc) (h : Q (.int n) H) : rIxT K (.ref p) (.int 0) H Q := x_tup (j := 0) W m rfl rfl (v_int fun _ => h)
theorem x_L0 {K : PySem.W.Frag} {p : Addr} {d : PyData} {r : List PyData} (W : Wd b sa H0 H acc dacc) (m : In2 (.ref p) (.list (d :: r)) acc dacc) (h : VS d fun x => Wd b sa H0 H (x :: acc) (d :: dacc) → Q x H) : rIxL K (.ref p) (.int 0) H Q := x_lst (j := 0) W m rfl rfl h
theorem x_L0i {K : PySem.W.Frag} {p : Addr} {n : Int} {r : List PyData} (W : Wd b sa H0 H acc dacc) (m : In2 (.ref p) (.list (.int n :: r)) acc dacc) (h : Q (.int n) H) : rIxL K (.ref p) (.int 0) H Q := x_lst (j := 0) W m rfl rfl (v_int fun _ => h)
theorem x_T1 {K : PySem.W.Frag} {p : Addr} {d0 : PyData} {d : PyData} {r : List PyData} (W : Wd b sa H0 H acc dacc) (m : In2 (.ref p) (.tuple (d0 :: d :: r)) acc dacc) (h : VS d fun x => Wd b sa H0 H (x :: acc) (d :: dacc) → Q x H) : rIxT K (.ref p) (.int 1) H Q := x_tup (j := 1) W m rfl rfl h
theorem x_T1i {K : PySem.W.Frag} {p : Addr} {d0 : PyData} {n : Int} {r : List PyData} (W : Wd b sa H0 H acc dacc) (m : In2 (.ref p) (.tuple (d0 :: .int n :: r)) acc dacc) (h : Q (.int n) H) : rIxT K (.ref p) (.int 1) H Q := x_tup (j := 1) W m rfl rfl (v_int fun _ => h)
theorem x_L1 {K : PySem.W.Frag} {p : Addr} {d0 : PyData} {d : PyData} {r : List PyData} (W : Wd b sa H0 H acc dacc) (m : In2 (.ref p) (.list (d0 :: d :: r)) acc dacc) (h : VS d fun x => Wd b sa H0 H (x :: acc) (d :: dacc) → Q x H) : rIxL K (.ref p) (.int 1) H Q := x_lst (j := 1) W m rfl rfl h
theorem x_L1i {K : PySem.W.Frag} {p : Addr} {d0 : PyData} {n : Int} {r : List PyData} (W : Wd b sa H0 H acc dacc) (m : In2 (.ref p) (.list (d0 :: .int n :: r)) acc dacc) (h : Q (.int n) H) : rIxL K (.ref p) (.int 1) H Q := x_lst (j := 1) W m rfl rfl (v_int fun _ => h)
theorem x_T2 {K : PySem.W.Frag} {p : Addr} {d0 d1 : PyData} {d : PyData} {r : List PyData} (W : Wd b sa H0 H acc dacc) (m : In2 (.ref p) (.tuple (d0 :: d1 :: d :: r)) acc dacc) (h : VS d fun x => Wd b sa H0 H (x :: acc) (d :: dacc) → Q x H) : rIxT K (.ref p) (.int 2) H Q := x_tup (j := 2) W m rfl rfl h
theorem x_T2i {K : PySem.W.Frag} {p : Addr} {d0 d1 : PyData} {n : Int} {r : List PyData} (W : Wd b sa H0 H acc dacc) (m : In2 (.ref p) (.tuple (d0 :: d1 :: .int n :: r)) acc dacc) (h : Q (.int n) H) : rIxT K (.ref p) (.int 2) H Q := x_tup (j := 2) W m rfl rfl (v_int fun _ => h)
theorem x_L2 {K : PySem.W.Frag} {p : Addr} {d0 d1 : PyData} {d : PyData} {r : List PyData} (W : Wd b sa H0 H acc dacc) (m : In2 (.ref p) (.list (d0 :: d1 :: d :: r)) acc dacc) (h : VS d fun x => Wd b sa H0 H (x :: acc) (d :: dacc) → Q x H) : rIxL K (.ref p) (.int 2) H Q := x_lst (j := 2) W m rfl rfl h
theorem x_L2i {K : PySem.W.Frag} {p : Addr} {d0 d1 : PyData} {n : Int} {r : List PyData} (W : Wd b sa H0 H acc dacc) (m : In2 (.ref p) (.list (d0 :: d1 :: .int n :: r)) acc dacc) (h : Q (.int n) H) : rIxL K (.ref p) (.int 2) H Q := x_lst (j := 2) W m rfl rfl (v_int fun _ => h)
theorem x_T3 {K : PySem.W.Frag} {p : Addr} {d0 d1 d2 : PyData} {d : PyData} {r : List PyData} (W : Wd b sa H0 H acc dacc) (m : In2 (.ref p) (.tuple (d0 :: d1 :: d2 :: d :: r)) acc dacc) (h : VS d fun x => Wd b sa H0 H (x :: acc) (d :: dacc) → Q x H) : rIxT K (.ref p) (.int 3) H Q := x_tup (j := 3) W m rfl rfl h
theorem x_T3i {K : PySem.W.Frag} {p : Addr} {d0 d1 d2 : PyData} {n : Int} {r : List PyData} (W : Wd b sa H0 H acc dacc) (m : In2 (.ref p) (.tuple (d0 :: d1 :: d2 :: .int n :: r)) acc dacc) (h : Q (.int n) H) : rIxT K (.ref p) (.int 3) H Q := x_tup (j := 3) W m rfl rfl (v_int fun _ => h)
theorem x_L3 {K : PySem.W.Frag} {p : Addr} {d0 d1 d2 : PyData} {d : PyData} {r : List PyData} (W : Wd b sa H0 H acc dacc) (m : In2 (.ref p) (.list (d0 :: d1 :: d2 :: d :: r)) acc dacc) (h : VS d fun x => Wd b sa H0 H (x :: acc) (d :: dacc) → Q x H) : rIxL K (.ref p) (.int 3) H Q := x_lst (j := 3) W m rfl rfl h
theorem x_L3i {K : PySem.W.Frag} {p : Addr} {d0 d1 d2 : PyData} {n : Int} {r : List PyData} (W : Wd b sa H0 H acc dacc) (m : In2 (.ref p) (.list (d0 :: d1 :: d2 :: .int n :: r)) acc dacc) (h : Q (.int n) H) : rIxL K (.ref p) (.int 3) H Q := x_lst (j := 3) W m rfl rfl (v_int fun _ => h)
theorem x_T4 {K : PySem.W.Frag} {p : Addr} {d0 d1 d2 d3 : PyData} {d : PyData} {r : List PyData} (W : Wd b sa H0 H acc dacc) (m : In2 (.ref p) (.tuple (d0 :: d1 :: d2 :: d3 :: d :: r)) acc dacc) (h : VS d fun x => Wd b sa H0 H (x :: acc) (d :: dacc) → Q x H) : rIxT K (.ref p) (.int 4) H Q := x_tup (j := 4) W m rfl rfl h
theorem x_T4i {K : PySem.W.Frag} {p : Addr} {d0 d1 d2 d3 : PyData} {n : Int} {r : List PyData} (W : Wd b sa H0 H acc dacc) (m : In2 (.ref p) (.tuple (d0 :: d1 :: d2 :: d3 :: .int n :: r)) acc dacc) (h : Q (.int n) H) : rIxT K (.ref p) (.int 4) H Q := x_tup (j := 4) W m rfl rfl (v_int fun _ => h)
theorem x_L4 {K : PySem.W.Frag} {p : Addr} {d0 d1 d2 d3 : PyData} {d : PyData} {r : List PyData} (W : Wd b sa H0 H acc dacc) (m : In2 (.ref p) (.list (d0 :: d1 :: d2 :: d3 :: d :: r)) acc dacc) (h : VS d fun x => Wd b sa H0 H (x :: acc) (d :: dacc) → Q x H) : rIxL K (.ref p) (.int 4) H Q := x_lst (j := 4) W m rfl rfl h
theorem x_L4i {K : PySem.W.Frag} {p : Addr} {d0 d1 d2 d3 : PyData} {n : Int} {r : List PyData} (W : Wd b sa H0 H acc dacc) (m : In2 (.ref p) (.list (d0 :: d1 :: d2 :: d3 :: .int n :: r)) acc dacc) (h : Q (.int n) H) : rIxL K (.ref p) (.int 4) H Q := x_lst (j := 4) W m rfl rfl (v_int fun _ => h)
theorem x_T5 {K : PySem.W.Frag} {p : Addr} {d0 d1 d2 d3 d4 : PyData} {d : PyData} {r : List PyData} (W : Wd b sa H0 H acc dacc) (m : In2 (.ref p) (.tuple (d0 :: d1 :: d2 :: d3 :: d4 :: d :: r)) acc dacc) (h : VS d fun x => Wd b sa H0 H (x :: acc) (d :: dacc) → Q x H) : rIxT K (.ref p) (.int 5) H Q := x_tup (j := 5) W m rfl rfl h
theorem x_T5i {K : PySem.W.Frag} {p : Addr} {d0 d1 d2 d3 d4 : PyData} {n : Int} {r : List PyData} (W : Wd b sa H0 H acc dacc) (m : In2 (.ref p) (.tuple (d0 :: d1 :: d2 :: d3 :: d4 :: .int n :: r)) acc dacc) (h : Q (.int n) H) : rIxT K (.ref p) (.int 5) H Q := x_tup (j := 5) W m rfl rfl (v_int fun _ => h)
theorem x_L5 {K : PySem.W.Frag} {p : Addr} {d0 d1 d2 d3 d4 : PyData} {d : PyData} {r : List PyData} (W : Wd b sa H0 H acc dacc) (m : In2 (.ref p) (.list (d0 :: d1 :: d2 :: d3 :: d4 :: d :: r)) acc dacc) (h : VS d fun x => Wd b sa H0 H (x :: acc) (d :: dacc) → Q x H) : rIxL K (.ref p) (.int 5) H Q := x_lst (j := 5) W m rfl rfl h
theorem x_L5i {K : PySem.W.Frag} {p : Addr} {d0 d1 d2 d3 d4 : PyData} {n : Int} {r : List PyData} (W : Wd b sa H0 H acc dacc) (m : In2 (.ref p) (.list (d0 :: d1 :: d2 :: d3 :: d4 :: .int n :: r)) acc dacc) (h : Q (.int n) H) : rIxL K (.ref p) (.int 5) H Q := x_lst (j := 5) W m rfl rfl (v_int fun _ => h)
theorem x_T6 {K : PySem.W.Frag} {p : Addr} {d0 d1 d2 d3 d4 d5 : PyData} {d : PyData} {r : List PyData} (W : Wd b sa H0 H acc dacc) (m : In2 (.ref p) (.tuple (d0 :: d1 :: d2 :: d3 :: d4 :: d5 :: d :: r)) acc dacc) (h : VS d fun x => Wd b sa H0 H (x :: acc) (d :: dacc) → Q x H) : rIxT K (.ref p) (.int 6) H Q := x_tup (j := 6) W m rfl rfl h
theorem x_T6i {K : PySem.W.Frag} {p : Addr} {d0 d1 d2 d3 d4 d5 : PyData} {n : Int} {r : List PyData} (W : Wd b sa H0 H acc dacc) (m : In2 (.ref p) (.tuple (d0 :: d1 :: d2 :: d3 :: d4 :: d5 :: .int n :: r)) acc dacc) (h : Q (.int n) H) : rIxT K (.ref p) (.int 6) H Q := x_tup (j := 6) W m rfl rfl (v_int fun _ => h)
theorem x_L6 {K : PySem.W.Frag} {p : Addr} {d0 d1 d2 d3 d4 d5 : PyData} {d : PyData} {r : List PyData} (W : Wd b sa H0 H acc dacc) (m : In2 (.ref p) (.list (d0 :: d1 :: d2 :: d3 :: d4 :: d5 :: d :: r)) acc dacc) (h : VS d fun x => Wd b sa H0 H (x :: acc) (d :: dacc) → Q x H) : rIxL K (.ref p) (.int 6) H Q := x_lst (j := 6) W m rfl rfl h
theorem x_L6i {K : PySem.W.Frag} {p : Addr} {d0 d1 d2 d3 d4 d5 : PyData} {n : Int} {r : List PyData} (W : Wd b sa H0 H acc dacc) (m : In2 (.ref p) (.list (d0 :: d1 :: d2 :: d3 :: d4 :: d5 :: .int n :: r)) acc dacc) (h : Q (.int n) H) : rIxL K (.ref p) (.int 6) H Q := x_lst (j := 6) W m rfl rfl (v_int fun _ => h)
theorem x_T7 {K : PySem.W.Frag} {p : Addr} {d0 d1 d2 d3 d4 d5 d6 : PyData} {d : PyData} {r : List PyData} (W : Wd b sa H0 H acc dacc) (m : In2 (.ref p) (.tuple (d0 :: d1 :: d2 :: d3 :: d4 :: d5 :: d6 :: d :: r)) acc dacc) (h : VS d fun x => Wd b sa H0 H (x :: acc) (d :: dacc) → Q x H) : rIxT K (.ref p) (.int 7) H Q := x_tup (j := 7) W m rfl rfl h
theorem x_T7i {K : PySem.W.Frag} {p : Addr} {d0 d1 d2 d3 d4 d5 d6 : PyData} {n : Int} {r : List PyData} (W : Wd b sa H0 H acc dacc) (m : In2 (.ref p) (.tuple (d0 :: d1 :: d2 :: d3 :: d4 :: d5 :: d6 :: .int n :: r)) acc dacc) (h : Q (.int n) H) : rIxT K (.ref p) (.int 7) H Q := x_tup (j := 7) W m rfl rfl (v_int fun _ => h)
theorem x_L7 {K : PySem.W.Frag} {p : Addr} {d0 d1 d2 d3 d4 d5 d6 : PyData} {d : PyData} {r : List PyData} (W : Wd b sa H0 H acc dacc) (m : In2 (.ref p) (.list (d0 :: d1 :: d2 :: d3 :: d4 :: d5 :: d6 :: d :: r)) acc dacc) (h : VS d fun x => Wd b sa H0 H (x :: acc) (d :: dacc) → Q x H) : rIxL K (.ref p) (.int 7) H Q := x_lst (j := 7) W m rfl rfl h
theorem x_L7i {K : PySem.W.Frag} {p : Addr} {d0 d1 d2 d3 d4 d5 d6 : PyData} {n : Int} {r : List PyData} (W : Wd b sa H0 H acc dacc) (m : In2 (.ref p) (.list (d0 :: d1 :: d2 :: d3 :: d4 :: d5 :: d6 :: .int n :: r)) acc dacc) (h : Q (.int n) H) : rIxL K (.ref p) (.int 7) H Q := x_lst (j := 7) W m rfl rfl (v_int fun _ => h)
theorem x_T8 {K : PySem.W.Frag} {p : Addr} {d0 d1 d2 d3 d4 d5 d6 d7 : PyData} {d : PyData} {r : List PyData} (W : Wd b sa H0 H acc dacc) (m : In2 (.ref p) (.tuple (d0 :: d1 :: d2 :: d3 :: d4 :: d5 :: d6 :: d7 :: d :: r)) acc dacc) (h : VS d fun x => Wd b sa H0 H (x :: acc) (d :: dacc) → Q x H) : rIxT K (.ref p) (.int 8) H Q := x_tup (j := 8) W m rfl rfl h
theorem x_T8i {K : PySem.W.Frag} {p : Addr} {d0 d1 d2 d3 d4 d5 d6 d7 : PyData} {n : Int} {r : List PyData} (W : Wd b sa H0 H acc dacc) (m : In2 (.ref p) (.tuple (d0 :: d1 :: d2 :: d3 :: d4 :: d5 :: d6 :: d7 :: .int n :: r)) acc dacc) (h : Q (.int n) H) : rIxT K (.ref p) (.int 8) H Q := x_tup (j := 8) W m rfl rfl (v_int fun _ => h)
theorem x_L8 {K : PySem.W.Frag} {p : Addr} {d0 d1 d2 d3 d4 d5 d6 d7 : PyData} {d : PyData} {r : List PyData} (W : Wd b sa H0 H acc dacc) (m : In2 (.ref p) (.list (d0 :: d1 :: d2 :: d3 :: d4 :: d5 :: d6 :: d7 :: d :: r)) acc dacc) (h : VS d fun x => Wd b sa H0 H (x :: acc) (d :: dacc) → Q x H) : rIxL K (.ref p) (.int 8) H Q := x_lst (j := 8) W m rfl rfl h
theorem x_L8i {K : PySem.W.Frag} {p : Addr} {d0 d1 d2 d3 d4 d5 d6 d7 : PyData} {n : Int} {r : List PyData} (W : Wd b sa H0 H acc dacc) (m : In2 (.ref p) (.list (d0 :: d1 :: d2 :: d3 :: d4 :: d5 :: d6 :: d7 :: .int n :: r)) acc dacc) (h : Q (.int n) H) : rIxL K (.ref p) (.int 8) H Q := x_lst (j := 8) W m rfl rfl (v_int fun _ => h)
end
theorem rps1 {sa : Addr} {H : Hp} {vs : List V} {d0 : PyData} (r : Rps sa H vs [d0]) : ∃ x0, vs = [x0] ∧ Rp sa H x0 d0 := by
  cases r with | cons h0 t0 =>
  cases t0
  exact ⟨_, rfl, h0⟩
theorem rps2 {sa : Addr} {H : Hp} {vs : List V} {d0 d1 : PyData} (r : Rps sa H vs [d0, d1]) : ∃ x0 x1, vs = [x0, x1] ∧ Rp sa H x0 d0 ∧ Rp sa H x1 d1 := by
  cases r with | cons h0 t0 =>
  cases t0 with | cons h1 t1 =>
  cases t1
  exact ⟨_, _, rfl, h0, h1⟩
theorem rps3 {sa : Addr} {H : Hp} {vs : List V} {d0 d1 d2 : PyData} (r : Rps sa H vs [d0, d1, d2]) : ∃ x0 x1 x2, vs = [x0, x1, x2] ∧ Rp sa H x0 d0 ∧ Rp sa H x1 d1 ∧ Rp sa H x2 d2 := by
  cases r with | cons h0 t0 =>
  cases t0 with | cons h1 t1 =>
  cases t1 with | cons h2 t2 =>
  cases t2
  exact ⟨_, _, _, rfl, h0, h1, h2⟩
theorem rps4 {sa : Addr} {H : Hp} {vs : List V} {d0 d1 d2 d3 : PyData} (r : Rps sa H vs [d0, d1, d2, d3]) : ∃ x0 x1 x2 x3, vs = [x0, x1, x2, x3] ∧ Rp sa H x0 d0 ∧ Rp sa H x1 d1 ∧ Rp sa H x2 d2 ∧ Rp sa H x3 d3 := by
  cases r with | cons h0 t0 =>
  cases t0 with | cons h1 t1 =>
  cases t1 with | cons h2 t2 =>
  cases t2 with | cons h3 t3 =>
  cases t3
  exact ⟨_, _, _, _, rfl, h0, h1, h2, h3⟩
theorem rps5 {sa : Addr} {H : Hp} {vs : List V} {d0 d1 d2 d3 d4 : PyData} (r : Rps sa H vs [d0, d1, d2, d3, d4]) : ∃ x0 x1 x2 x3 x4, vs = [x0, x1, x2, x3, x4] ∧ Rp sa H x0 d0 ∧ Rp sa H x1 d1 ∧ Rp sa H x2 d2 ∧ Rp sa H x3 d3 ∧ Rp sa H x4 d4 := by
  cases r with | cons h0 t0 =>
  cases t0 with | cons h1 t1 =>
  cases t1 with | cons h2 t2 =>
  cases t2 with | cons h3 t3 =>
  cases t3 with | cons h4 t4 =>
  cases t4
  exact ⟨_, _, _, _, _, rfl, h0, h1, h2, h3, h4⟩
theorem rps6 {sa : Addr} {H : Hp} {vs : List V} {d0 d1 d2 d3 d4 d5 : PyData} (r : Rps sa H vs [d0, d1, d2, d3, d4, d5]) : ∃ x0 x1 x2 x3 x4 x5, vs = [x0, x1, x2, x3, x4, x5] ∧ Rp sa H x0 d0 ∧ Rp sa H x1 d1 ∧ Rp sa H x2 d2 ∧ Rp sa H x3 d3 ∧ Rp sa H x4 d4 ∧ Rp sa H x5 d5 := by
  cases r with | cons h0 t0 =>
  cases t0 with | cons h1 t1 =>
  cases t1 with | cons h2 t2 =>
  cases t2 with | cons h3 t3 =>
  cases t3 with | cons h4 t4 =>
  cases t4 with | cons h5 t5 =>
  cases t5
  exact ⟨_, _, _, _, _, _, rfl, h0, h1, h2, h3, h4, h5⟩
theorem rps7 {sa : Addr} {H : Hp} {vs : List V} {d0 d1 d2 d3 d4 d5 d6 : PyData} (r : Rps sa H vs [d0, d1, d2, d3, d4, d5, d6]) : ∃ x0 x1 x2 x3 x4 x5 x6, vs = [x0, x1, x2, x3, x4, x5, x6] ∧ Rp sa H x0 d0 ∧ Rp sa H x1 d1 ∧ Rp sa H x2 d2 ∧ Rp sa H x3 d3 ∧ Rp sa H x4 d4 ∧ Rp sa H x5 d5 ∧ Rp sa H x6 d6 := by
  cases r with | cons h0 t0 =>
  cases t0 with | cons h1 t1 =>
  cases t1 with | cons h2 t2 =>
  cases t2 with | cons h3 t3 =>
  cases t3 with | cons h4 t4 =>
  cases t4 with | cons h5 t5 =>
  cases t5 with | cons h6 t6 =>
  cases t6
  exact ⟨_, _, _, _, _, _, _, rfl, h0, h1, h2, h3, h4, h5, h6⟩
theorem rps8 {sa : Addr} {H : Hp} {vs : List V} {d0 d1 d2 d3 d4 d5 d6 d7 : PyData} (r : Rps sa H vs [d0, d1, d2, d3, d4, d5, d6, d7]) : ∃ x0 x1 x2 x3 x4 x5 x6 x7, vs = [x0, x1, x2, x3, x4, x5, x6, x7] ∧ Rp sa H x0 d0 ∧ Rp sa H x1 d1 ∧ Rp sa H x2 d2 ∧ Rp sa H x3 d3 ∧ Rp sa H x4 d4 ∧ Rp sa H x5 d5 ∧ Rp sa H x6 d6 ∧ Rp sa H x7 d7 := by
  cases r with | cons h0 t0 =>
  cases t0 with | cons h1 t1 =>
  cases t1 with | cons h2 t2 =>
  cases t2 with | cons h3 t3 =>
  cases t3 with | cons h4 t4 =>
  cases t4 with | cons h5 t5 =>
  cases t5 with | cons h6 t6 =>
  cases t6 with | cons h7 t7 =>
  cases t7
  exact ⟨_, _, _, _, _, _, _, _, rfl, h0, h1, h2, h3, h4, h5, h6, h7⟩
theorem v_any {F : V → Prop} {d : PyData} (h : ∀ x, F x) : VS d F := by
  cases d <;> first | exact h _ | exact fun p => h _
theorem iteT' {A B : Prop} (h : A) : if true = true then A else B := iteT h
theorem iteF' {A B : Prop} (h : B) : if false = true then A else B := iteF h
/-- a def that raises, for some data, an error of the class at C, and else hands back a datum -/
def Px (C : Addr) (pre : List PyData → Prop) (bad : List PyData → Bool) (fn : List PyData → PyData) : Sp := fun vs H Q E => ∃ (sa : Addr) (ds : List PyData), (∃ o, H sa = some o) ∧ Rps sa H vs ds ∧ pre ds ∧
  (bad ds = true → ∀ H', Same H H' → E (.ref C) none H') ∧ (bad ds = false → ∀ H' x, Same H H' → Rp sa H' x (fn ds) → Q x H')
theorem call_X {b : Bool} {sa : Addr} {H0 H : Hp} {acc : List V} {dacc : List PyData} {Q : VK} {E : XK} {C : Addr} {pre : List PyData → Prop} {bad : List PyData → Bool} {fn : List PyData → PyData} {vs : List V} {ds : List PyData} (W : Wd b sa H0 H acc dacc) (r : Rps sa H vs ds) (hp : pre ds)
    (h1 : bad ds = true → ∀ H', Wd b sa H0 H' acc dacc → E (.ref C) none H') (h2 : bad ds = false → ∀ H', VS (fn ds) fun x => Wd b sa H0 H' (x :: acc) (fn ds :: dacc) → Q x H') : Px C pre bad fn vs H Q E :=
  ⟨sa, ds, W.tr, r, hp, fun e H' s => h1 e H' (W.go s), fun e H' x s rx => (h2 e H').of rx ((W.go s).put rx)⟩
/-! ### loops -/
def LoopG (J : It) (g : TG) (tb : TS) (D : Ends) (σ : L2.St) (H : Hp) : Prop := ∃ W : Nat → Nat → L2.St → Hp → Prop, (∃ m, W 0 m σ H) ∧ ∀ i m σ H, W i m σ H →
  (J.stop i H ∧ D.nx σ H) ∨ (J.go i H ∧ ∃ N : L2.St → Hp → Prop, (∀ σ' H', N σ' H' → ∃ m', m' < m ∧ W (i + 1) m' σ' H') ∧ ∀ x H', J.yld i H x H' → g x σ H' fun σ2 H2 => tb { D with nx := N, ct := N, bk := D.nx } σ2 H2)
def Rng1G (vs : List V) (H : Hp) (R : It → Hp → Prop) : Prop := ∃ j : Int, vs = [.int j] ∧ -(2 ^ 62) ≤ j ∧ j < 2 ^ 62 ∧ R (Itr 0 j.toNat) H
def Rng2G (vs : List V) (H : Hp) (R : It → Hp → Prop) : Prop := ∃ i j : Int, vs = [.int i, .int j] ∧ (-(2 ^ 62) ≤ i ∧ i < 2 ^ 62 ∧ -(2 ^ 62) ≤ j ∧ j < 2 ^ 62) ∧ R (Itr i (j - i).toNat) H
section
variable {K : PySem.W.Frag} {D : Ends} {σ : L2.St} {H : Hp} {g : TG} {tb : TS} {R : It → Hp → Prop}
theorem w_for {wi : TI} (h : wi σ H fun J H1 => LoopG J g tb D σ H1) : tFor wi g tb D σ H := h
theorem w_rng1 {ta : TA} (h : ta σ H fun vs H1 => Rng1G vs H1 R) : iRng1 ta σ H R := h
theorem w_rng2 {ta : TA} (h : ta σ H fun vs H1 => Rng2G vs H1 R) : iRng2 ta σ H R := h
theorem rng1 {j : Int} (h0 : -4000000000000000000 ≤ j ∧ j ≤ 4000000000000000000) (h : R (Itr 0 j.toNat) H) : Rng1G [.int j] H R := ⟨j, rfl, by omega, by omega, h⟩
theorem rng2 {i j : Int} (h0 : (-4000000000000000000 ≤ i ∧ i ≤ 4000000000000000000) ∧ -4000000000000000000 ≤ j ∧ j ≤ 4000000000000000000) (h : R (Itr i (j - i).toNat) H) : Rng2G [.int i, .int j] H R := ⟨i, j, rfl, ⟨by omega, by omega, by omega, by omega⟩, h⟩
theorem lp_range {lo : Int} {n : Nat} (Pv : Nat → L2.St → Hp → Prop) (h0 : Pv 0 σ H)
    (hs : ∀ i σ H, i < n → Pv i σ H → g (.int (lo + i)) σ H fun σ2 H2 => tb { D with nx := Pv (i + 1), ct := Pv (i + 1), bk := D.nx } σ2 H2) (hd : ∀ σ H, Pv n σ H → D.nx σ H) : LoopG (Itr lo n) g tb D σ H := for_range Pv h0 hs hd
theorem lp_list {a : Addr} {xs : List V} (Pv : Nat → L2.St → Hp → Prop) (h0 : Pv 0 σ H) (hl : ∀ i σ H, i ≤ xs.length → Pv i σ H → SqL K H a xs)
    (hs : ∀ i x σ H, xs[i]? = some x → Pv i σ H → g x σ H fun σ2 H2 => tb { D with nx := Pv (i + 1), ct := Pv (i + 1), bk := D.nx } σ2 H2) (hd : ∀ σ H, Pv xs.length σ H → D.nx σ H) : LoopG (Itl K a) g tb D σ H := for_list Pv h0 hl hs hd
end
/-! ### sizes, shut: x is below 2 ^ k -/
@[irreducible] def Bt (k : Nat) (x : Int) : Prop := x.natAbs < 2 ^ k
theorem bt_def {k : Nat} {x : Int} : Bt k x ↔ x.natAbs < 2 ^ k := by unfold Bt; exact Iff.rfl
theorem Bt.mono {k l : Nat} {x : Int} (h : Bt k x) (e : k ≤ l) : Bt l x := bt_def.mpr (Nat.lt_of_lt_of_le (bt_def.mp h) (Nat.pow_le_pow_right (by decide) e))
theorem Bt.mul {k l : Nat} {x y : Int} (h : Bt k x) (g : Bt l y) : Bt (k + l) (x * y) := by
  have h := bt_def.mp h
  have g := bt_def.mp g
  refine bt_def.mpr ?_
  rw [Int.natAbs_mul, Nat.pow_add]
  exact Nat.mul_lt_mul'' h g
theorem Bt.add {k l : Nat} {x y : Int} (h : Bt k x) (g : Bt l y) : Bt (max k l + 1) (x + y) := by
  have h := bt_def.mp (h.mono (Nat.le_max_left k l))
  have g := bt_def.mp (g.mono (Nat.le_max_right k l))
  refine bt_def.mpr ?_
  rw [Nat.pow_succ]
  have e := Int.natAbs_add_le x y
  omega
theorem Bt.neg {k : Nat} {x : Int} (h : Bt k x) : Bt k (-x) := by
  refine bt_def.mpr ?_
  rw [Int.natAbs_neg]
  exact bt_def.mp h
theorem Bt.sub {k l : Nat} {x y : Int} (h : Bt k x) (g : Bt l y) : Bt (max k l + 1) (x - y) := h.add g.neg
theorem Bt.mulx {k l : Nat} {x y : Int} (h : Bt k x) (g : Bt l y) (e : k + l ≤ 134217728) : CMulX x y := mulx_ok (bt_def.mp h) (bt_def.mp g) e
theorem Bt.log {k : Nat} {x : Int} (h : Bt k x) (e : 0 < k ∧ k ≤ 9000) : x.natAbs.log2 < 9000 := Nat.lt_of_lt_of_le (PySem.Flt.log2_lt_of e.1 (bt_def.mp h)) e.2
theorem Bt.le {k : Nat} {x y : Int} (h : Bt k x) (e : y.natAbs ≤ x.natAbs) : Bt k y := bt_def.mpr (Nat.lt_of_le_of_lt e (bt_def.mp h))
theorem bt_39 {x : Int} (h : x.natAbs < 1000000000000000000000000000000000000000) : Bt 130 x := bt_def.mpr (Nat.lt_trans h (by decide))
theorem bt_lit {x : Int} (k : Nat) (h : x.natAbs < 2 ^ k) : Bt k x := bt_def.mpr h
theorem w_intB {b : Bool} {H : Hp} {Q : VK} (h : Q (.int (if b then 1 else 0)) H) : rInt1 [.bl b] H Q := .inr ⟨b, rfl, h⟩
theorem g_tup2 {b : Bool} {sa : Addr} {H0 H : Hp} {acc : List V} {dacc : List PyData} {K : PySem.W.Frag} {p : Addr} {d0 d1 : PyData} {i j : Nat} {σ : L2.St} {Q : L2.St → Hp → Prop} (W : Wd b sa H0 H acc dacc) (m : In2 (.ref p) (.tuple [d0, d1]) acc dacc)
    (h : VS d0 fun x => VS d1 fun y => Wd b sa H0 H (y :: x :: acc) (d1 :: d0 :: dacc) → Q ((σ.set i (some x)).set j (some y)) H) : gTup K 2 (gCons (gName i) (gCons (gName j) gNil)) (.ref p) σ H Q := by
  cases W.get m with
  | @tup _ xs _ n hx r =>
    obtain ⟨x, y, rfl, r0, r1⟩ := rps2 r
    exact ⟨p, [x, y], rfl, SqT.of hx, rfl, x, [y], rfl, y, [], rfl, rfl, ((h.of r0).of r1) ((W.put r0).put r1)⟩
theorem g_tup3 {b : Bool} {sa : Addr} {H0 H : Hp} {acc : List V} {dacc : List PyData} {K : PySem.W.Frag} {p : Addr} {d0 d1 d2 : PyData} {i j k : Nat} {σ : L2.St} {Q : L2.St → Hp → Prop} (W : Wd b sa H0 H acc dacc) (m : In2 (.ref p) (.tuple [d0, d1, d2]) acc dacc)
    (h : VS d0 fun x => VS d1 fun y => VS d2 fun z => Wd b sa H0 H (z :: y :: x :: acc) (d2 :: d1 :: d0 :: dacc) → Q (((σ.set i (some x)).set j (some y)).set k (some z)) H) : gTup K 3 (gCons (gName i) (gCons (gName j) (gCons (gName k) gNil))) (.ref p) σ H Q := by
  cases W.get m with
  | @tup _ xs _ n hx r =>
    obtain ⟨x, y, z, rfl, r0, r1, r2⟩ := rps3 r
    exact ⟨p, [x, y, z], rfl, SqT.of hx, rfl, x, [y, z], rfl, y, [z], rfl, z, [], rfl, rfl, (((h.of r0).of r1).of r2) (((W.put r0).put r1).put r2)⟩
def swap2 {α : Type} : List α → List α
  | [a, b] => [b, a]
  | l => l
theorem vals_swap2 {zs : List V} {ws : List Value} (r : Vals zs ws) (h : zs.length = 2) : Vals (swap2 zs) (swap2 ws) := by
  cases r with
  | nil => cases h
  | cons a t =>
    cases t with
    | nil => cases h
    | cons b u =>
      cases u with
      | nil => exact .cons b (.cons a .nil)
      | cons c v => simp at h
/-- the law: over a list of at most 63 ints it answers True -/
def sp_law (K : PySem.W.Frag) : Sp := fun vs H Q _ => ∃ (a : Addr) (ns : List Int), vs = [.ref a] ∧ SqL K H a (ns.map V.int) ∧ ns.length ≤ 63 ∧ ∀ H', Q (.bl true) H'
/-- a def without a stream that hands back some datum -/
def Pr (pre : List PyData → Prop) (R : List PyData → PyData → Prop) : Sp := fun vs H Q _ => ∃ (sa : Addr) (ds : List PyData), (∃ o, H sa = some o) ∧ Rps sa H vs ds ∧ pre ds ∧ ∀ H' x d, Same H H' → Rp sa H' x d → R ds d → Q x H'
theorem call_R {b : Bool} {sa : Addr} {H0 H : Hp} {acc : List V} {dacc : List PyData} {Q : VK} {E : XK} {pre : List PyData → Prop} {R : List PyData → PyData → Prop} {vs : List V} {ds : List PyData} (W : Wd b sa H0 H acc dacc) (r : Rps sa H vs ds) (hp : pre ds)
    (h : ∀ H' d, R ds d → VS d fun x => Wd b sa H0 H' (x :: acc) (d :: dacc) → Q x H') : Pr pre R vs H Q E :=
  ⟨sa, ds, W.tr, r, hp, fun H' x d s rx hR => (h H' d hR).of rx ((W.go s).put rx)⟩
theorem bl_dec {a b : Bool} : decide (V.bl a = V.bl b) = (a == b) := by
  cases a <;> cases b <;> rfl
theorem w_eqBB {a b : Bool} {H : Hp} {Q : VK} (h : Q (.bl (a == b)) H) : rEq (.bl a) (.bl b) H Q := ⟨rfl, by rw [bl_dec]; exact h⟩
theorem w_neBB {a b : Bool} {H : Hp} {Q : VK} (h : Q (.bl (!(a == b))) H) : rNe (.bl a) (.bl b) H Q := ⟨rfl, by rw [bl_dec]; exact h⟩
theorem Rp.tupF {sa : Addr} {H : Hp} {v : V} {ds : List PyData} (r : Rp sa H v (.tuple ds)) : ∃ p xs, v = .ref p ∧ H p = some (.tup xs) := by
  cases r with
  | tup n h r => exact ⟨_, _, rfl, h⟩
/-- things that are tuples of ints stand when a list is changed -/
theorem Rp.tupStay {sa g : Addr} {H : Hp} {v : V} {a b : Int} {xs ys : List V} (r : Rp sa H v (.tuple [.int a, .int b])) (hg : H g = some (.lst xs)) : Rp sa (upd H g (.lst ys)) v (.tuple [.int a, .int b]) := by
  cases r with
  | @tup p zs _ n h r =>
    have ne : p ≠ g := fun e => by
      rw [e, hg] at h
      cases h
    obtain ⟨x, y, rfl, r0, r1⟩ := rps2 r
    cases r0
    cases r1
    exact .tup n (by rw [upd_ne ne]; exact h) (.cons (.int _) (.cons (.int _) .nil))
theorem Stm.setL {H : Hp} {a g : Addr} {x : V} {xs ys : List V} (s : Stm H a) (hg : H g = some (.lst (x :: xs))) (hx : ∀ n, x ≠ .int n) (ne : g ≠ a) : Stm (upd H g (.lst ys)) a := by
  obtain ⟨c, p, q, n, ns, h1, h2, h3, h4, h5⟩ := s
  have nc : c ≠ g := fun e => by
    rw [e, hg] at h4
    cases ns with
    | nil => simp at h5
    | cons m r =>
      injection h4 with h4
      injection h4 with h4
      injection h4 with h4 _
      exact hx _ h4
  exact ⟨c, p, q, n, ns, by rw [upd_ne (Ne.symm ne)]; exact h1, h2, h3, by rw [upd_ne nc]; exact h4, h5⟩
/-! ### data without lists and dicts: they stand when a list is changed -/
mutual
def tupOnly : PyData → Bool
  | .list _ => false
  | .tuple ds => tupOnlys ds
  | .dict _ => false
  | _ => true
def tupOnlys : List PyData → Bool
  | [] => true
  | d :: ds => tupOnly d && tupOnlys ds
end
mutual
theorem Rp.stay {sa g : Addr} {H : Hp} {xs ys : List V} (hg : H g = some (.lst xs)) : ∀ {v : V} {d : PyData}, Rp sa H v d → tupOnly d = true → Rp sa (upd H g (.lst ys)) v d
  | _, _, .non, _ => .non
  | _, _, .bl b, _ => .bl b
  | _, _, .int i, _ => .int i
  | _, _, .str x, _ => .str x
  | _, _, .lst _ _ _, e => nomatch e
  | _, _, .tup n h r, e => .tup n (by
      rw [upd_ne (fun z => by
        rw [z, hg] at h
        cases h)]
      exact h) (Rps.stay hg r e)
  | _, _, .dct _ _ _, e => nomatch e
theorem Rps.stay {sa g : Addr} {H : Hp} {xs ys : List V} (hg : H g = some (.lst xs)) : ∀ {vs : List V} {ds : List PyData}, Rps sa H vs ds → tupOnlys ds = true → Rps sa (upd H g (.lst ys)) vs ds
  | _, _, .nil, _ => .nil
  | _, _, .cons h t, e => .cons (Rp.stay hg h (by
      unfold tupOnlys at e
      exact (Bool.and_eq_true _ _ ▸ e).1)) (Rps.stay hg t (by
      unfold tupOnlys at e
      exact (Bool.and_eq_true _ _ ▸ e).2))
end
theorem tupOnlys_all : ∀ {ds : List PyData}, (∀ d ∈ ds, tupOnly d = true) → tupOnlys ds = true
  | [], _ => rfl
  | d :: ds, h => by
    unfold tupOnlys
    rw [h d List.mem_cons_self, tupOnlys_all fun e he => h e (List.mem_cons_of_mem _ he)]
    rfl
theorem Rps.set {sa : Addr} {H : Hp} {y : V} {dy : PyData} (hy : Rp sa H y dy) : ∀ {vs : List V} {ds : List PyData} (j : Nat), Rps sa H vs ds → Rps sa H (vs.set j y) (ds.set j dy)
  | _, _, _, .nil => .nil
  | _, _, 0, .cons _ t => .cons hy t
  | _, _, j + 1, .cons h t => .cons h (Rps.set hy j t)
theorem Stm.putL {H : Hp} {a g : Addr} {xs ys : List V} (s : Stm H a) (hg : H g = some (.lst xs)) (ne : g ≠ a) (hx : ∀ c p q n, H a = some (.lst [.ref c, .int p, .int q, .int n]) → c ≠ g) : Stm (upd H g (.lst ys)) a := by
  obtain ⟨c, p, q, n, ns, h1, h2, h3, h4, h5⟩ := s
  exact ⟨c, p, q, n, ns, by rw [upd_ne (Ne.symm ne)]; exact h1, h2, h3, by rw [upd_ne (hx c p q n h1)]; exact h4, h5⟩
theorem But.put {a g : Addr} {H H' : Hp} {o : HO} (b : But a H H') (h : H g = none) : But a H (L2.upd H' g o) := fun c u n e => by
  rw [upd_ne (ne_of_none e h)]
  exact b c u n e
/-- the stream's cells, told by the address -/
def StmC (H : Hp) (a c : Addr) : Prop := ∃ (p g n : Int) (ns : List Int), H a = some (.lst [.ref c, .int p, .int g, .int n]) ∧ 0 ≤ p ∧ 0 ≤ g ∧ H c = some (.lst (ns.map V.int)) ∧ 0 < ns.length
theorem lcYes {σ : L2.St} {H : Hp} {A B : Hp → Prop} (h : A H) : tYes σ H fun b H3 => if b = true then A H3 else B H3 := by
  show (if true = true then A H else B H)
  exact iteT h
/-- [te for j in range(n)], te drawing; its items hold no lists -/
theorem lc_RN {sa : Addr} {H : Hp} {j n : Nat} {te : TE} {vs : List Nat} {σ : L2.St} {Q : VK} (st : Stm H sa) (hn : n ≤ 1000) (R : PyData → Prop) (hR : ∀ d, R d → tupOnly d = true) (hr : ∀ v d H', R d → Rp sa H' v d → ∀ i, v ≠ .int i)
    (hw : ∀ x, wipe ((wipe σ vs).set j (some x)) vs = wipe σ vs)
    (hs : ∀ (i : Nat) H' Q', i < n → But sa H H' → Stm H' sa → (∀ y H4 dy, But sa H' H4 → Stm H4 sa → Rp sa H4 y dy → R dy → Q' y H4) → te ((wipe σ vs).set j (some (.int (0 + (i : Int))))) H' Q')
    (hd : ∀ H' D xs ds, H D = none → But sa H H' → Stm H' sa → D ≠ sa → H' D = some (.lst xs) → Rps sa H' xs ds → ds.length = n → (∀ d ∈ ds, R d) → Q (.ref D) H') : tLc (iRng1 (tCons (tC (.int (n : Int))) tNil)) (gName j) tYes te vs σ H Q := by
  refine ⟨(n : Int), rfl, by omega, by omega, fun D nD => ?_⟩
  have nsa : D ≠ sa := st.ne nD
  -- the cells of the stream stand apart from D
  have cells : ∀ H', But sa H H' → Stm H' sa → (∃ xs, H' D = some (.lst xs) ∧ ∀ i ∈ xs, ∀ k, i ≠ V.int k) → ∀ c p q m, H' sa = some (.lst [.ref c, .int p, .int q, .int m]) → ∀ ns : List Int, H' c = some (.lst (ns.map V.int)) → 0 < ns.length → c ≠ D := fun H' b s ⟨xs, h1, h2⟩ c p q m h3 ns h4 h5 e => by
    rw [e, h1] at h4
    injection h4 with h4
    injection h4 with h4
    cases ns with
    | nil => simp at h5
    | cons k r =>
      rw [h4] at h2
      exact h2 (.int k) (by simp) k rfl
  refine lc_range (lo := 0) (n := n) (fun i H' => But sa H H' ∧ Stm H' sa ∧ ∃ xs ds, H' D = some (.lst xs) ∧ Rps sa H' xs ds ∧ ds.length = i ∧ ∀ d ∈ ds, R d) ?_ (fun i H' hi hP => ?_) (fun H' hP => ?_)
  · exact ⟨(But.refl sa H).put nD, st.keep (same_new nD), [], [], upd_same, .nil, rfl, fun d hd => absurd hd (by simp)⟩
  · obtain ⟨bb, s, xs, ds, h1, h2, h3, h4⟩ := hP
    refine ⟨hw _, lcYes ?_⟩
    refine hs i H' _ hi bb s fun y H4 dy b4 s4 ry hy => ?_
    have e4 : H4 D = some (.lst xs) := b4 _ _ nsa h1
    have r4 : Rps sa H4 xs ds := h2.but b4
    have all : tupOnlys ds = true := tupOnlys_all fun d hd => hR d (h4 d hd)
    refine ⟨xs, e4, by rw [h2.lens, h3]; exact small1000 (by omega), (bb.trans b4).put nD, ?_, xs ++ [y], ds ++ [dy], upd_same, (r4.stay e4 all).app (.cons (ry.stay e4 (hR _ hy)) .nil), by rw [List.length_append, h3]; rfl, fun d hd => ?_⟩
    · obtain ⟨c, p, q, m, ns, k1, k2, k3, k4, k5⟩ := s4
      have nc : c ≠ D := fun e => by
        rw [e, e4] at k4
        cases xs with
        | nil =>
          cases ns with
          | nil => simp at k5
          | cons _ _ => cases k4
        | cons x r =>
          cases ns with
          | nil => simp at k5
          | cons z _ =>
            injection k4 with k4
            injection k4 with k4
            injection k4 with k4 _
            cases r4 with
            | @cons _ _ d0 _ hx t => exact hr x d0 H4 (h4 d0 List.mem_cons_self) hx z k4
      exact ⟨c, p, q, m, ns, by rw [upd_ne (Ne.symm nsa)]; exact k1, k2, k3, by rw [upd_ne nc]; exact k4, k5⟩
    · rcases List.mem_append.mp hd with hd | hd
      · exact h4 d hd
      · rw [List.mem_singleton.mp hd]
        exact hy
  · obtain ⟨bb, s, xs, ds, h1, h2, h3, h4⟩ := hP
    exact hd H' D xs ds nD bb s nsa h1 h2 h3 h4
theorem lc_R {sa : Addr} {H : Hp} {j n : Nat} {te : TE} {vs : List Nat} {σ : L2.St} {Q : VK} (st : Stm H sa) (hn : n ≤ 1000) (R : PyData → Prop) (hR : ∀ d, R d → tupOnly d = true) (hr : ∀ v d H', R d → Rp sa H' v d → ∀ i, v ≠ .int i)
    (hw : ∀ x, wipe ((wipe σ vs).set j (some x)) vs = wipe σ vs)
    (hs : ∀ (i : Nat) H' Q', i < n → But sa H H' → Stm H' sa → (∀ y H4 dy, But sa H' H4 → Stm H4 sa → Rp sa H4 y dy → R dy → Q' y H4) → te ((wipe σ vs).set j (some (.int (0 + (i : Int))))) H' Q')
    (hd : ∀ H' D xs ds, But sa H H' → Stm H' sa → D ≠ sa → H' D = some (.lst xs) → Rps sa H' xs ds → ds.length = n → (∀ d ∈ ds, R d) → Q (.ref D) H') : tLc (iRng1 (tCons (tC (.int (n : Int))) tNil)) (gName j) tYes te vs σ H Q :=
  lc_RN st hn R hR hr hw hs fun H' D xs ds _ => hd H' D xs ds
/-- the script stands beside the stream -/
theorem sq_but {K : PySem.W.Frag} {a c : Addr} {H H' : Hp} {ns : List Int} (b : But a H H') (s : Stm H a) (h : SqL K H c (ns.map V.int)) : SqL K H' c (ns.map V.int) := by
  obtain ⟨c0, p, q, n, ms, h1, _⟩ := s
  rcases h with (h | ⟨o, h⟩) | h
  · refine .inl (.inl (b _ _ (fun e => ?_) h))
    rw [e, h1] at h
    injection h with h
    injection h with h
    cases ns with
    | nil => cases h
    | cons x r => cases h
  · refine .inl (.inr ⟨o, b _ _ (fun e => ?_) h⟩)
    rw [e, h1] at h
    cases h
  · exact .inr h
/-- the greatest number whose square is at most n -/
def IsRt (n r : Nat) : Prop := r * r ≤ n ∧ n < (r + 1) * (r + 1)
theorem small8 {n : Nat} (h : n < 8) : IsRt n (Float64.rootBelow8 n) := by
  unfold Float64.rootBelow8 IsRt
  rcases (show n = 0 ∨ n = 1 ∨ n = 2 ∨ n = 3 ∨ n = 4 ∨ n = 5 ∨ n = 6 ∨ n = 7 by omega) with rfl | rfl | rfl | rfl | rfl | rfl | rfl | rfl <;> decide
/-- Newton's step from above stays above -/
theorem newt_ge {n x m : Nat} (hx : 0 < x) (h : m * m ≤ n) : m ≤ (x + n / x) / 2 := by
  have h2 : n < (n / x + 1) * x := by
    have := Nat.lt_div_mul_add hx (a := n)
    rw [Nat.add_mul, Nat.one_mul]
    exact this
  generalize n / x = q at h2
  have h3 : 4 * ((q + 1) * x) ≤ (q + 1 + x) * (q + 1 + x) := by
    rcases Nat.le_total (q + 1) x with h | h
    · obtain ⟨e, he⟩ := Nat.exists_eq_add_of_le h
      have : (q + 1 + x) * (q + 1 + x) = 4 * ((q + 1) * x) + e * e := by grind
      omega
    · obtain ⟨e, he⟩ := Nat.exists_eq_add_of_le h
      have : (q + 1 + x) * (q + 1 + x) = 4 * ((q + 1) * x) + e * e := by grind
      omega
  have h4 : (2 * m) * (2 * m) < (q + 1 + x) * (q + 1 + x) := by
    have : (2 * m) * (2 * m) = 4 * (m * m) := by grind
    omega
  have h5 : 2 * m < q + 1 + x := Nat.mul_self_lt_mul_self_iff.mp h4
  omega
/-- and comes near: x = c + t, t * t small -/
theorem newt_le {n x c t : Nat} (hx : x = c + t) (hc : c * c ≤ n) (hn : n < x * x) (ht : t * t ≤ 2 * x) : ((x + n / x) / 2 - 1) * ((x + n / x) / 2 - 1) ≤ n := by
  have x0 : 0 < x := by
    rcases Nat.eq_zero_or_pos x with h | h
    · subst h
      simp at hn
    · exact h
  have hq : n / x * x ≤ n := Nat.div_mul_le_self n x
  have hqx : n / x < x := (Nat.div_lt_iff_lt_mul x0).mpr hn
  generalize n / x = q at hq hqx
  refine Nat.not_lt.mp fun hz => ?_
  generalize hy : (x + q) / 2 = y at hz
  have hy2 : 2 * y ≤ x + q := by omega
  cases y with
  | zero => simp at hz
  | succ z =>
    rw [Nat.add_sub_cancel] at hz
    have zc : c < z := by
      refine Nat.not_le.mp fun h => ?_
      have := Nat.mul_le_mul h h
      omega
    have zx : z < x := by omega
    obtain ⟨e, he⟩ := Nat.exists_eq_add_of_lt zx
    -- x = z + e + 1, e + 1 < t
    have et : e + 1 < t := by omega
    have h1 : 2 * (z + 1) * x ≤ x * x + q * x := by
      have := Nat.mul_le_mul_right x hy2
      grind
    have h2 : 2 * (z + 1) * x ≤ x * x + n := by omega
    have h3 : (e + 1) * (e + 1) + 2 * z * x = x * x + z * z := by grind
    have h4 : 2 * (z + 1) * x = 2 * z * x + 2 * x := by grind
    have h5 : 2 * x < (e + 1) * (e + 1) := by omega
    have h6 : (e + 1) * (e + 1) ≤ t * t := Nat.mul_le_mul (Nat.le_of_lt et) (Nat.le_of_lt et)
    omega
/-- the model's own root is the root -/
theorem rootBy (levels : Nat) : ∀ n : Nat, (8 ≤ n → n.log2 ≤ levels) → IsRt n (Float64.rootByHalves levels n) := by
  induction levels with
  | zero =>
    intro n h
    by_cases h8 : n < 8
    · exact small8 h8
    · have z := h (by omega)
      have : n < 2 ^ 1 := (Nat.log2_lt (by omega)).mp (by omega)
      omega
  | succ l ih =>
    intro n h
    unfold Float64.rootByHalves
    by_cases h8 : n < 8
    · rw [if_pos h8]
      exact small8 h8
    · rw [if_neg h8]
      dsimp only
      have n0 : n ≠ 0 := by omega
      have hL : n.log2 ≤ l + 1 := h (by omega)
      have L3 : 3 ≤ n.log2 := (Nat.le_log2 n0).mpr (by omega)
      generalize hk : (n.log2 + 1) / 4 = k
      have k1 : 1 ≤ k := by omega
      have up : n < 2 ^ (n.log2 + 1) := (Nat.log2_lt n0).mp (Nat.lt_succ_self _)
      have lo : 2 ^ n.log2 ≤ n := (Nat.le_log2 n0).mp (Nat.le_refl _)
      have p4 : 0 < 4 ^ k := Nat.pow_pos (by decide)
      have r := ih (n / 4 ^ k) fun _ => by
        have nz : n / 4 ^ k ≠ 0 := by omega
        have : n / 4 ^ k < 2 ^ (n.log2 + 1 - 2 * k) := by
          rw [Nat.div_lt_iff_lt_mul p4]
          have e : 2 ^ (n.log2 + 1 - 2 * k) * 4 ^ k = 2 ^ (n.log2 + 1) := by
            rw [show (4 : Nat) = 2 ^ 2 from rfl, ← Nat.pow_mul, ← Nat.pow_add]
            congr 1
            omega
          rw [e]
          exact up
        have := (Nat.log2_lt nz).mpr this
        omega
      generalize Float64.rootByHalves l (n / 4 ^ k) = s at r
      obtain ⟨r1, r2⟩ := r
      have t2 : 2 ^ k * 2 ^ k = 4 ^ k := by rw [← Nat.mul_pow]
      have lo4 : s * s * 4 ^ k ≤ n := by
        have := Nat.mul_le_mul_right (4 ^ k) r1
        exact Nat.le_trans this (Nat.div_mul_le_self n _)
      have hi4 : n < (s + 1) * (s + 1) * 4 ^ k := by
        have := (Nat.div_lt_iff_lt_mul p4).mp r2
        exact this
      generalize ht : 2 ^ k = t at *
      have t0 : 0 < t := by rw [← ht]; exact Nat.pow_pos (by decide)
      have hx : (s + 1) * t = s * t + t := by grind
      have hc : s * t * (s * t) ≤ n := by
        have : s * t * (s * t) = s * s * 4 ^ k := by rw [← t2]; grind
        omega
      have hn : n < (s + 1) * t * ((s + 1) * t) := by
        have : (s + 1) * t * ((s + 1) * t) = (s + 1) * (s + 1) * 4 ^ k := by rw [← t2]; grind
        omega
      have x0 : 0 < (s + 1) * t := Nat.mul_pos (by omega) t0
      have t4 : t * t * (t * t) ≤ 2 * n := by
        have e : t * t * (t * t) = 2 ^ (4 * k) := by
          rw [t2, ← Nat.mul_pow, show (4 * 4 : Nat) = 2 ^ 4 from rfl, ← Nat.pow_mul]
        rw [e]
        have : 2 ^ (4 * k) ≤ 2 ^ (n.log2 + 1) := Nat.pow_le_pow_right (by decide) (by omega)
        rw [Nat.pow_succ] at this
        omega
      generalize (s + 1) * t = x at hx hn x0
      have tt : t * t ≤ 2 * x := by
        refine Nat.not_lt.mp fun hz => ?_
        have a1 : 2 * x * (2 * x) < t * t * (t * t) := Nat.mul_lt_mul'' hz hz
        have a2 : 2 * x * (2 * x) = 4 * (x * x) := by grind
        omega
      have ge : ∀ m, m * m ≤ n → m ≤ (x + n / x) / 2 := fun m hm => newt_ge x0 hm
      have le := newt_le hx hc hn tt
      show IsRt n (if (x + n / x) / 2 * ((x + n / x) / 2) > n then (x + n / x) / 2 - 1 else (x + n / x) / 2)
      generalize (x + n / x) / 2 = y at ge le
      have big : n < (y + 1) * (y + 1) := Nat.not_le.mp fun h => by
        have := ge _ h
        omega
      by_cases hy : y * y > n
      · rw [if_pos hy]
        refine ⟨le, ?_⟩
        have : y ≠ 0 := fun z => by rw [z] at hy; omega
        rw [Nat.sub_add_cancel (by omega)]
        exact hy
      · rw [if_neg hy]
        exact ⟨by omega, big⟩
theorem isqrt_ok (n : Nat) : IsRt n (Float64.isqrt n) := rootBy _ n fun _ => Nat.le_refl _
theorem IsRt.uniq {n r s : Nat} (h : IsRt n r) (k : IsRt n s) : r = s := by
  have a : r < s + 1 := Nat.mul_self_lt_mul_self_iff.mp (Nat.lt_of_le_of_lt h.1 k.2)
  have b : s < r + 1 := Nat.mul_self_lt_mul_self_iff.mp (Nat.lt_of_le_of_lt k.1 h.2)
  omega
theorem isqrt_sq (r : Nat) : Float64.isqrt (r * r) = r := (isqrt_ok _).uniq ⟨Nat.le_refl _, by grind⟩
def rIsq : List V → Hp → VK → Prop := fun vs H Q => ∃ a : Int, vs = [.int a] ∧ 0 ≤ a ∧ a.toNat.log2 < 9000 ∧ Q (.int ((Float64.isqrt a.toNat : Nat) : Int)) H
theorem cr_isqrt {X : Cx} : CallR X (.builtin "math.isqrt") rIsq := by
  intro pins s σ H vs us Q I r h
  obtain ⟨a, rfl, h0, hl, q⟩ := h
  obtain ⟨u, us', rfl, ⟨t, rfl⟩, rfl⟩ : ∃ u us', us = u :: us' ∧ RelV (.int a) u ∧ us' = [] := by
    cases r with
    | cons ra rn =>
      cases rn
      exact ⟨_, _, rfl, ra, rfl⟩
  exact PySem.call_function_meets PySem.W.MGF.kind_isqrt PySem.W.MGF.plain_isqrt PySem.W.MGF.entry_isqrt (PySem.W.MGF.args_isqrt _) (PySem.W.mg_run_isqrt a t (by omega) (by omega) (by omega)).meets ⟨.int _, H, I.tok _, ⟨_, rfl⟩, q⟩
theorem w_isq {n : Int} {H : Hp} {Q : VK} (h0 : 0 ≤ n) (hl : n.toNat.log2 < 9000) (h : Q (.int ((Float64.isqrt n.toNat : Nat) : Int)) H) : rIsq [.int n] H Q := ⟨n, rfl, h0, hl, h⟩
def rShl1 : R2 := fun x y H Q => ∃ k : Nat, x = .int 1 ∧ y = .int (k : Int) ∧ k ≤ 134217727 ∧ Q (.int (2 ^ k)) H
theorem oq_shl1 {X : Cx} : OpR X (binaryOp .LShift) rShl1 := op_oneShl
theorem w_bits {te : TE} {σ : L2.St} {H : Hp} {Q : VK} (h : te σ H fun x H1 => ∃ i, x = .int i ∧ Q (.int (Builtin.Int.intBits i : Nat)) H1) : tBits te σ H Q := h
theorem w_xi {i : Int} {F : Int → Prop} (h : F i) : ∃ j, V.int i = .int j ∧ F j := ⟨i, rfl, h⟩
theorem passLS {X : Cx} {σ : L2.St} : PassesAt (L2.CX X.prog X.w) X σ E0 := fun pins H s e s' I h => passL pins σ H s e s' I h
theorem w_isNone {x : V} {H : Hp} {Q : VK} (h : Q (.bl (decide (x = .non))) H) : rIsN x .non H Q := ⟨rfl, h⟩
theorem w_notNone {x : V} {H : Hp} {Q : VK} (h : Q (.bl (!decide (x = .non))) H) : rNotN x .non H Q := ⟨rfl, h⟩
theorem dn_non : decide (V.non = .non) = true := rfl
theorem dn_int {i : Int} : decide (V.int i = .non) = false := rfl
theorem dn_ref {a : Addr} : decide (V.ref a = .non) = false := rfl
theorem w_isN_i {i : Int} {H : Hp} {Q : VK} (h : Q (.bl false) H) : rIsN (.int i) .non H Q := ⟨rfl, h⟩
theorem w_isN_r {a : Addr} {H : Hp} {Q : VK} (h : Q (.bl false) H) : rIsN (.ref a) .non H Q := ⟨rfl, h⟩
theorem w_isN_n {H : Hp} {Q : VK} (h : Q (.bl true) H) : rIsN .non .non H Q := ⟨rfl, h⟩
theorem w_noN_i {i : Int} {H : Hp} {Q : VK} (h : Q (.bl true) H) : rNotN (.int i) .non H Q := ⟨rfl, h⟩
theorem w_noN_r {a : Addr} {H : Hp} {Q : VK} (h : Q (.bl true) H) : rNotN (.ref a) .non H Q := ⟨rfl, h⟩
theorem w_noN_n {H : Hp} {Q : VK} (h : Q (.bl false) H) : rNotN .non .non H Q := ⟨rfl, h⟩
theorem w_shl {k : Int} {H : Hp} {Q : VK} (h0 : 0 ≤ k) (h1 : k ≤ 134217727) (h : Q (.int ((2 ^ k.toNat : Nat) : Int)) H) : rShl1 (.int 1) (.int k) H Q := ⟨k.toNat, rfl, by rw [Int.toNat_of_nonneg h0], by omega, by rw [Int.natCast_pow] at h; exact h⟩
local macro_rules | `(tactic| walk_at "call1") => `(tactic| fail)
local macro_rules | `(tactic| walk_at "w") => `(tactic| (repeat (first
  | with_reducible refine iteT' ?_
  | with_reducible refine iteF' ?_
  | with_reducible refine w_seq ?_
  | with_reducible refine w_asg ?_
  | with_reducible refine w_op ?_
  | ((with_reducible show tVar _ _ _ _); first | with_reducible refine w_v0 ?_ | with_reducible refine w_v1 ?_ | with_reducible refine w_v2 ?_ | with_reducible refine w_v3 ?_ | with_reducible refine w_v4 ?_ | with_reducible refine w_v5 ?_ | with_reducible refine w_v6 ?_ | with_reducible refine w_v7 ?_ | with_reducible refine w_v8 ?_ | with_reducible refine w_v9 ?_ | with_reducible refine w_v10 ?_ | with_reducible refine w_v11 ?_ | with_reducible refine w_v12 ?_ | with_reducible refine w_v13 ?_ | with_reducible refine w_v14 ?_ | with_reducible refine w_v15 ?_ | with_reducible refine w_v16 ?_ | with_reducible refine w_v17 ?_ | with_reducible refine w_v18 ?_ | with_reducible refine w_v19 ?_ | with_reducible refine w_v20 ?_ | with_reducible refine w_v21 ?_ | with_reducible refine w_v22 ?_ | with_reducible refine w_v23 ?_)
  | ((with_reducible show gName _ _ _ _ _); first | with_reducible refine w_g0 ?_ | with_reducible refine w_g1 ?_ | with_reducible refine w_g2 ?_ | with_reducible refine w_g3 ?_ | with_reducible refine w_g4 ?_ | with_reducible refine w_g5 ?_ | with_reducible refine w_g6 ?_ | with_reducible refine w_g7 ?_ | with_reducible refine w_g8 ?_ | with_reducible refine w_g9 ?_ | with_reducible refine w_g10 ?_ | with_reducible refine w_g11 ?_ | with_reducible refine w_g12 ?_ | with_reducible refine w_g13 ?_ | with_reducible refine w_g14 ?_ | with_reducible refine w_g15 ?_ | with_reducible refine w_g16 ?_ | with_reducible refine w_g17 ?_ | with_reducible refine w_g18 ?_ | with_reducible refine w_g19 ?_ | with_reducible refine w_g20 ?_ | with_reducible refine w_g21 ?_ | with_reducible refine w_g22 ?_ | with_reducible refine w_g23 ?_)
  | with_reducible refine w_c ?_
  | with_reducible refine w_cb ?_
  | with_reducible refine w_cons ?_
  | with_reducible refine w_nil ?_
  | with_reducible refine w_call0 ?_
  | with_reducible refine w_callS ?_
  | with_reducible refine w_kws ?_
  | with_reducible refine w_lt ?_
  | with_reducible refine w_le ?_
  | with_reducible refine w_gt ?_
  | with_reducible refine w_ge ?_
  | with_reducible refine w_I0 ?_
  | with_reducible refine w_eqI ?_
  | with_reducible refine w_neI ?_
  | with_reducible refine w_eqBB ?_
  | with_reducible refine w_neBB ?_
  | with_reducible refine w_U ?_
  | with_reducible refine w_un ?_
  | with_reducible refine w_test ?_
  | with_reducible refine w_tB ?_
  | with_reducible refine w_bl ?_
  | with_reducible refine w_ifs ?_
  | with_reducible refine w_ife ?_
  | with_reducible refine w_and ?_
  | with_reducible refine w_or ?_
  | with_reducible refine w_not ?_
  | with_reducible refine w_andV ?_
  | with_reducible refine w_orV ?_
  | with_reducible refine w_notV ?_
  | with_reducible refine w_ret ?_
  | with_reducible refine w_retN ?_
  | with_reducible refine w_next ?_
  | with_reducible refine w_drop ?_
  | with_reducible refine w_brk ?_
  | with_reducible refine w_for ?_
  | with_reducible refine w_rng1 ?_
  | with_reducible refine w_rng2 ?_
  | with_reducible refine w_cont ?_
  | with_reducible refine w_int ?_
  | with_reducible refine w_intB ?_
  | with_reducible refine w_bits ?_
  | with_reducible refine w_xi ?_
  | with_reducible refine w_isN_i ?_
  | with_reducible refine w_isN_r ?_
  | with_reducible refine w_isN_n ?_
  | with_reducible refine w_noN_i ?_
  | with_reducible refine w_noN_r ?_
  | with_reducible refine w_noN_n ?_
  | with_reducible refine w_abs ?_
  | with_reducible refine w_min ?_
  | with_reducible refine w_max ?_
  | with_reducible refine w_gcd ?_
  | with_reducible refine w_tupN ?_
  | with_reducible refine w_lstN ?_
  | with_reducible refine w_newD ?_
  | with_reducible refine w_par ?_
  | with_reducible refine w_two ?_
  | with_reducible refine w_sub ?_
  | ((with_reducible show rI _ _ _ _ _ _); first
    | with_reducible refine w_pow9 ?_ | with_reducible refine w_pow13 ?_ | with_reducible refine w_pow18 ?_ | with_reducible refine w_pow30 ?_ | with_reducible refine w_pow8 ?_ | with_reducible refine w_pow50 ?_
    | ((with_reducible apply w_I); (focus (first | assumption | decide | exact Bt.mulx (by walk_at "bt") (by walk_at "bt") (by decide) | exact ⟨by decide, by decide⟩ | exact .inl ⟨by omega, by omega⟩ | exact .inr ⟨by omega, by omega⟩ | exact .inl ⟨by decide, by decide⟩ | exact .inr ⟨by decide, by decide⟩ | omega))))
  | ((with_reducible show NT _ _ _); (with_reducible apply n_tup); (focus assumption); (focus (walk_at "rps")); (focus rfl); intro _ _ _)
  | ((with_reducible show NL _ _ _); (with_reducible apply n_lst); (focus assumption); (focus (walk_at "rps")); (focus rfl); intro _ _ _)
  | ((with_reducible show ND _ _); (with_reducible apply n_dct); (focus assumption); intro _ _ _)
  | ((with_reducible show rIxT _ _ _ _ _); first
    | ((with_reducible apply x_T0i); (focus assumption); (focus (walk_at "in2")))
    | ((with_reducible apply x_T0); (focus assumption); (focus (walk_at "in2")))
    | ((with_reducible apply x_T1i); (focus assumption); (focus (walk_at "in2")))
    | ((with_reducible apply x_T1); (focus assumption); (focus (walk_at "in2")))
    | ((with_reducible apply x_T2i); (focus assumption); (focus (walk_at "in2")))
    | ((with_reducible apply x_T2); (focus assumption); (focus (walk_at "in2")))
    | ((with_reducible apply x_T3i); (focus assumption); (focus (walk_at "in2")))
    | ((with_reducible apply x_T3); (focus assumption); (focus (walk_at "in2")))
    | ((with_reducible apply x_T4i); (focus assumption); (focus (walk_at "in2")))
    | ((with_reducible apply x_T4); (focus assumption); (focus (walk_at "in2")))
    | ((with_reducible apply x_T5i); (focus assumption); (focus (walk_at "in2")))
    | ((with_reducible apply x_T5); (focus assumption); (focus (walk_at "in2")))
    | ((with_reducible apply w_ixT); (focus (walk_at "fact")); (focus (walk_at "place"))))
  | ((with_reducible show rIxL _ _ _ _ _); first
    | ((with_reducible apply x_L0i); (focus assumption); (focus (walk_at "in2")))
    | ((with_reducible apply x_L0); (focus assumption); (focus (walk_at "in2")))
    | ((with_reducible apply x_L1i); (focus assumption); (focus (walk_at "in2")))
    | ((with_reducible apply x_L1); (focus assumption); (focus (walk_at "in2")))
    | ((with_reducible apply x_L2i); (focus assumption); (focus (walk_at "in2")))
    | ((with_reducible apply x_L2); (focus assumption); (focus (walk_at "in2")))
    | ((with_reducible apply x_L3i); (focus assumption); (focus (walk_at "in2")))
    | ((with_reducible apply x_L3); (focus assumption); (focus (walk_at "in2")))
    | ((with_reducible apply x_L4i); (focus assumption); (focus (walk_at "in2")))
    | ((with_reducible apply x_L4); (focus assumption); (focus (walk_at "in2")))
    | ((with_reducible apply x_L5i); (focus assumption); (focus (walk_at "in2")))
    | ((with_reducible apply x_L5); (focus assumption); (focus (walk_at "in2")))
    | ((with_reducible apply w_ixL); (focus (walk_at "fact")); (focus (walk_at "place"))))
  | ((with_reducible show gTup _ _ _ _ _ _ _); first | ((with_reducible apply g_tup2); (focus assumption); (focus (walk_at "in2"))) | ((with_reducible apply g_tup3); (focus assumption); (focus (walk_at "in2"))))
  | ((with_reducible show Rng1G _ _ _); (with_reducible apply rng1); (focus (first | decide | omega | (constructor <;> first | omega | (split <;> omega)))))
  | ((with_reducible show VS _ _); first
    | ((with_reducible refine v_tup ?_); intro _) | ((with_reducible refine v_lst ?_); intro _) | ((with_reducible refine v_dct ?_); intro _)
    | with_reducible refine v_int ?_ | with_reducible refine v_bl ?_ | with_reducible refine v_str ?_ | with_reducible refine v_non ?_ | ((with_reducible refine v_any ?_); intro _))
  | ((with_reducible show Wd _ _ _ _ _ _ → _); intro _)
  | ((with_reducible show rLenQ _ _ _ _); first
    | ((with_reducible apply l_lst); (focus assumption); (focus (walk_at "in2"))) | ((with_reducible apply l_tup); (focus assumption); (focus (walk_at "in2")))
    | ((with_reducible apply w_lenL); (focus (walk_at "fact"))) | ((with_reducible apply w_lenT); (focus (walk_at "fact"))))
  | ((with_reducible show sp_take _ _ _ _); (with_reducible apply call_tk); (focus assumption); (focus (first | decide | omega)); (focus (first | decide | decide +kernel)); intro _ _ _ _ _)
  | ((with_reducible show sp_whole _ _ _ _); (with_reducible apply call_wh); (focus assumption); intro _ _ _ _)
  | ((with_reducible show rCat _ _ _ _); (with_reducible apply w_catL); (focus assumption); (focus (walk_at "in2")); (focus (walk_at "in2")); (focus rfl); intro _ _ _)
  | ((with_reducible show rSetL _ _ _ _ _); first | ((with_reducible apply w_set0); (focus (walk_at "heap"))) | ((with_reducible apply w_set1); (focus (walk_at "heap"))) | ((with_reducible apply w_set2); (focus (walk_at "heap"))) | ((with_reducible apply w_set3); (focus (walk_at "heap"))) | ((with_reducible apply w_set4); (focus (walk_at "heap"))) | ((with_reducible apply w_set5); (focus (walk_at "heap"))))
  | walk_at "call1"
  | dsimp only [List.set, notT, notF]
  | rw [List.length_map])))
local macro_rules | `(tactic| walk_at "fact") => `(tactic| first | assumption | exact .inl (.inl (by walk_at "heap")))
local macro_rules | `(tactic| walk_at "place") => `(tactic| with_reducible first | exact at0 | exact at1 | exact at2 | exact at3 | exact at4 | exact at5 | exact at6 | exact at7 | assumption)

local macro_rules | `(tactic| walk_at "heap") => `(tactic| first | assumption | exact upd_same | ((with_reducible refine (upd_ne (by first | assumption | exact Ne.symm (by assumption))).trans ?_); walk_at "heap"))
local macro_rules | `(tactic| walk_at "in2") => `(tactic| first | with_reducible exact In2.here | ((with_reducible apply In2.there); walk_at "in2"))
local macro_rules | `(tactic| walk_at "rp") => `(tactic| first | with_reducible exact Rp.int _ | with_reducible exact Rp.bl _ | with_reducible exact Rp.non | with_reducible exact Rp.str _ | ((with_reducible apply Wd.get); (focus assumption); walk_at "in2"))
local macro_rules | `(tactic| walk_at "rps") => `(tactic| first | with_reducible exact Rps.nil | ((with_reducible apply Rps.cons); (focus (walk_at "rp")); walk_at "rps"))
local macro_rules | `(tactic| walk_at "bt") => `(tactic| first | assumption | ((with_reducible show Bt _ (_ * _)); (with_reducible apply Bt.mul); (focus (walk_at "bt")); (focus (walk_at "bt"))) | ((with_reducible show Bt _ (_ + _)); (with_reducible apply Bt.add); (focus (walk_at "bt")); (focus (walk_at "bt"))) | ((with_reducible show Bt _ (_ - _)); (with_reducible apply Bt.sub); (focus (walk_at "bt")); (focus (walk_at "bt"))) | ((with_reducible show Bt _ (-_)); (with_reducible apply Bt.neg); (focus (walk_at "bt"))))
local macro_rules | `(tactic| walk_at "v") => `(tactic| (repeat (first
  | with_reducible refine iteT' ?_
  | with_reducible refine iteF' ?_
  | with_reducible refine w_seq ?_
  | with_reducible refine w_asg ?_
  | with_reducible refine w_op ?_
  | ((with_reducible show tVar _ _ _ _); first | with_reducible refine w_v0 ?_ | with_reducible refine w_v1 ?_ | with_reducible refine w_v2 ?_ | with_reducible refine w_v3 ?_ | with_reducible refine w_v4 ?_ | with_reducible refine w_v5 ?_ | with_reducible refine w_v6 ?_ | with_reducible refine w_v7 ?_ | with_reducible refine w_v8 ?_ | with_reducible refine w_v9 ?_ | with_reducible refine w_v10 ?_ | with_reducible refine w_v11 ?_ | with_reducible refine w_v12 ?_ | with_reducible refine w_v13 ?_ | with_reducible refine w_v14 ?_ | with_reducible refine w_v15 ?_ | with_reducible refine w_v16 ?_ | with_reducible refine w_v17 ?_ | with_reducible refine w_v18 ?_ | with_reducible refine w_v19 ?_ | with_reducible refine w_v20 ?_ | with_reducible refine w_v21 ?_ | with_reducible refine w_v22 ?_ | with_reducible refine w_v23 ?_)
  | ((with_reducible show gName _ _ _ _ _); first | with_reducible refine w_g0 ?_ | with_reducible refine w_g1 ?_ | with_reducible refine w_g2 ?_ | with_reducible refine w_g3 ?_ | with_reducible refine w_g4 ?_ | with_reducible refine w_g5 ?_ | with_reducible refine w_g6 ?_ | with_reducible refine w_g7 ?_ | with_reducible refine w_g8 ?_ | with_reducible refine w_g9 ?_ | with_reducible refine w_g10 ?_ | with_reducible refine w_g11 ?_ | with_reducible refine w_g12 ?_ | with_reducible refine w_g13 ?_ | with_reducible refine w_g14 ?_ | with_reducible refine w_g15 ?_ | with_reducible refine w_g16 ?_ | with_reducible refine w_g17 ?_ | with_reducible refine w_g18 ?_ | with_reducible refine w_g19 ?_ | with_reducible refine w_g20 ?_ | with_reducible refine w_g21 ?_ | with_reducible refine w_g22 ?_ | with_reducible refine w_g23 ?_)
  | with_reducible refine w_c ?_
  | with_reducible refine w_cb ?_
  | with_reducible refine w_cons ?_
  | with_reducible refine w_nil ?_
  | with_reducible refine w_call0 ?_
  | with_reducible refine w_callS ?_
  | with_reducible refine w_kws ?_
  | with_reducible refine w_lt ?_
  | with_reducible refine w_le ?_
  | with_reducible refine w_gt ?_
  | with_reducible refine w_ge ?_
  | with_reducible refine w_I0 ?_
  | with_reducible refine w_eqI ?_
  | with_reducible refine w_neI ?_
  | with_reducible refine w_eqBB ?_
  | with_reducible refine w_neBB ?_
  | with_reducible refine w_U ?_
  | with_reducible refine w_un ?_
  | with_reducible refine w_test ?_
  | with_reducible refine w_tB ?_
  | with_reducible refine w_bl ?_
  | with_reducible refine w_ifs ?_
  | with_reducible refine w_ife ?_
  | with_reducible refine w_and ?_
  | with_reducible refine w_or ?_
  | with_reducible refine w_not ?_
  | with_reducible refine w_andV ?_
  | with_reducible refine w_orV ?_
  | with_reducible refine w_notV ?_
  | with_reducible refine w_ret ?_
  | with_reducible refine w_retN ?_
  | with_reducible refine w_next ?_
  | with_reducible refine w_drop ?_
  | with_reducible refine w_brk ?_
  | with_reducible refine w_for ?_
  | with_reducible refine w_rng1 ?_
  | with_reducible refine w_rng2 ?_
  | with_reducible refine w_cont ?_
  | with_reducible refine w_int ?_
  | with_reducible refine w_intB ?_
  | with_reducible refine w_bits ?_
  | with_reducible refine w_xi ?_
  | with_reducible refine w_isN_i ?_
  | with_reducible refine w_isN_r ?_
  | with_reducible refine w_isN_n ?_
  | with_reducible refine w_noN_i ?_
  | with_reducible refine w_noN_r ?_
  | with_reducible refine w_noN_n ?_
  | with_reducible refine w_abs ?_
  | with_reducible refine w_min ?_
  | with_reducible refine w_max ?_
  | with_reducible refine w_gcd ?_
  | with_reducible refine w_tupN ?_
  | with_reducible refine w_lstN ?_
  | with_reducible refine w_newD ?_
  | with_reducible refine w_par ?_
  | with_reducible refine w_two ?_
  | with_reducible refine w_sub ?_
  | ((with_reducible show rI _ _ _ _ _ _); first
    | with_reducible refine w_pow9 ?_ | with_reducible refine w_pow13 ?_ | with_reducible refine w_pow18 ?_ | with_reducible refine w_pow30 ?_ | with_reducible refine w_pow8 ?_ | with_reducible refine w_pow50 ?_
    | ((with_reducible apply w_I); (focus (first | assumption | decide | exact Bt.mulx (by walk_at "bt") (by walk_at "bt") (by decide) | exact ⟨by decide, by decide⟩ | exact .inl ⟨by omega, by omega⟩ | exact .inr ⟨by omega, by omega⟩ | exact .inl ⟨by decide, by decide⟩ | exact .inr ⟨by decide, by decide⟩ | omega))))
  | ((with_reducible show NT _ _ _); (with_reducible apply n_tup); (focus assumption); (focus (walk_at "rps")); (focus rfl); intro _ _ _)
  | ((with_reducible show ND _ _); (with_reducible apply n_dct); (focus assumption); intro _ _ _)
  | ((with_reducible show rIxT _ _ _ _ _); first
    | ((with_reducible apply x_T0i); (focus assumption); (focus (walk_at "in2")))
    | ((with_reducible apply x_T0); (focus assumption); (focus (walk_at "in2")))
    | ((with_reducible apply x_T1i); (focus assumption); (focus (walk_at "in2")))
    | ((with_reducible apply x_T1); (focus assumption); (focus (walk_at "in2")))
    | ((with_reducible apply x_T2i); (focus assumption); (focus (walk_at "in2")))
    | ((with_reducible apply x_T2); (focus assumption); (focus (walk_at "in2")))
    | ((with_reducible apply x_T3i); (focus assumption); (focus (walk_at "in2")))
    | ((with_reducible apply x_T3); (focus assumption); (focus (walk_at "in2")))
    | ((with_reducible apply x_T4i); (focus assumption); (focus (walk_at "in2")))
    | ((with_reducible apply x_T4); (focus assumption); (focus (walk_at "in2")))
    | ((with_reducible apply x_T5i); (focus assumption); (focus (walk_at "in2")))
    | ((with_reducible apply x_T5); (focus assumption); (focus (walk_at "in2")))
    | ((with_reducible apply w_ixT); (focus (walk_at "fact")); (focus (walk_at "place"))))
  | ((with_reducible show rIxL _ _ _ _ _); first
    | ((with_reducible apply x_L0i); (focus assumption); (focus (walk_at "in2")))
    | ((with_reducible apply x_L0); (focus assumption); (focus (walk_at "in2")))
    | ((with_reducible apply x_L1i); (focus assumption); (focus (walk_at "in2")))
    | ((with_reducible apply x_L1); (focus assumption); (focus (walk_at "in2")))
    | ((with_reducible apply x_L2i); (focus assumption); (focus (walk_at "in2")))
    | ((with_reducible apply x_L2); (focus assumption); (focus (walk_at "in2")))
    | ((with_reducible apply x_L3i); (focus assumption); (focus (walk_at "in2")))
    | ((with_reducible apply x_L3); (focus assumption); (focus (walk_at "in2")))
    | ((with_reducible apply x_L4i); (focus assumption); (focus (walk_at "in2")))
    | ((with_reducible apply x_L4); (focus assumption); (focus (walk_at "in2")))
    | ((with_reducible apply x_L5i); (focus assumption); (focus (walk_at "in2")))
    | ((with_reducible apply x_L5); (focus assumption); (focus (walk_at "in2")))
    | ((with_reducible apply w_ixL); (focus (walk_at "fact")); (focus (walk_at "place"))))
  | ((with_reducible show gTup _ _ _ _ _ _ _); first | ((with_reducible apply g_tup2); (focus assumption); (focus (walk_at "in2"))) | ((with_reducible apply g_tup3); (focus assumption); (focus (walk_at "in2"))))
  | ((with_reducible show Rng1G _ _ _); (with_reducible apply rng1); (focus (first | decide | omega | (constructor <;> first | omega | (split <;> omega)))))
  | ((with_reducible show VS _ _); first
    | ((with_reducible refine v_tup ?_); intro _) | ((with_reducible refine v_lst ?_); intro _) | ((with_reducible refine v_dct ?_); intro _)
    | with_reducible refine v_int ?_ | with_reducible refine v_bl ?_ | with_reducible refine v_str ?_ | with_reducible refine v_non ?_ | ((with_reducible refine v_any ?_); intro _))
  | ((with_reducible show Wd _ _ _ _ _ _ → _); intro _)
  | ((with_reducible show rLenQ _ _ _ _); first
    | ((with_reducible apply l_lst); (focus assumption); (focus (walk_at "in2"))) | ((with_reducible apply l_tup); (focus assumption); (focus (walk_at "in2")))
    | ((with_reducible apply w_lenL); (focus (walk_at "fact"))) | ((with_reducible apply w_lenT); (focus (walk_at "fact"))))
  | ((with_reducible show sp_take _ _ _ _); (with_reducible apply call_tk); (focus assumption); (focus (first | decide | omega)); (focus (first | decide | decide +kernel)); intro _ _ _ _ _)
  | ((with_reducible show sp_whole _ _ _ _); (with_reducible apply call_wh); (focus assumption); intro _ _ _ _)
  | ((with_reducible show rCat _ _ _ _); (with_reducible apply w_catL); (focus assumption); (focus (walk_at "in2")); (focus (walk_at "in2")); (focus rfl); intro _ _ _)
  | ((with_reducible show rSetL _ _ _ _ _); first | ((with_reducible apply w_set0); (focus (walk_at "heap"))) | ((with_reducible apply w_set1); (focus (walk_at "heap"))) | ((with_reducible apply w_set2); (focus (walk_at "heap"))) | ((with_reducible apply w_set3); (focus (walk_at "heap"))) | ((with_reducible apply w_set4); (focus (walk_at "heap"))) | ((with_reducible apply w_set5); (focus (walk_at "heap"))))
  | walk_at "call1"
  | dsimp only [List.set, notT, notF]
  | rw [List.length_map])))
def topS (i : Nat) : Stmt := PySem.Challenge.pw_fourcreases_k08_whole_plate_cut_up.main.body.getD i (.Pass ⟨0, 0, 0, 0⟩)
abbrev s_lowest : Stmt := topS 7
abbrev NN_lowest : List Str := ["top", "bottom", "shared"]
theorem sc_lowest : FnScope ["top", "bottom", "shared"] ["top", "bottom"] (defScope s_lowest) := ⟨rfl, rfl, rfl, by decide +kernel, rfl, by decide +kernel, by decide +kernel⟩
abbrev s_plus : Stmt := topS 8
abbrev NN_plus : List Str := ["one", "other"]
theorem sc_plus : FnScope ["one", "other"] ["one", "other"] (defScope s_plus) := ⟨rfl, rfl, rfl, by decide +kernel, rfl, by decide +kernel, by decide +kernel⟩
abbrev s_whole_root : Stmt := topS 9
abbrev NN_whole_root : List Str := ["number", "root"]
theorem sc_whole_root : FnScope ["number", "root"] ["number"] (defScope s_whole_root) := ⟨rfl, rfl, rfl, by decide +kernel, rfl, by decide +kernel, by decide +kernel⟩
abbrev s_spread : Stmt := topS 11
abbrev NN_spread : List Str := ["point", "x", "below", "y", "under", "weight"]
theorem sc_spread : FnScope ["point", "x", "below", "y", "under", "weight"] ["point"] (defScope s_spread) := ⟨rfl, rfl, rfl, by decide +kernel, rfl, by decide +kernel, by decide +kernel⟩
abbrev s_arrow : Stmt := topS 12
abbrev NN_arrow : List Str := ["one", "other"]
theorem sc_arrow : FnScope ["one", "other"] ["one", "other"] (defScope s_arrow) := ⟨rfl, rfl, rfl, by decide +kernel, rfl, by decide +kernel, by decide +kernel⟩
abbrev s_dot : Stmt := topS 13
abbrev NN_dot : List Str := ["one", "other"]
theorem sc_dot : FnScope ["one", "other"] ["one", "other"] (defScope s_dot) := ⟨rfl, rfl, rfl, by decide +kernel, rfl, by decide +kernel, by decide +kernel⟩
abbrev s_size_of : Stmt := topS 14
abbrev NN_size_of : List Str := ["vector"]
theorem sc_size_of : FnScope ["vector"] ["vector"] (defScope s_size_of) := ⟨rfl, rfl, rfl, by decide +kernel, rfl, by decide +kernel, by decide +kernel⟩
abbrev s_distance : Stmt := topS 15
abbrev NN_distance : List Str := ["one", "other", "size"]
theorem sc_distance : FnScope ["one", "other", "size"] ["one", "other"] (defScope s_distance) := ⟨rfl, rfl, rfl, by decide +kernel, rfl, by decide +kernel, by decide +kernel⟩
abbrev s_line_through : Stmt := topS 16
abbrev NN_line_through : List Str := ["one", "other"]
theorem sc_line_through : FnScope ["one", "other"] ["one", "other"] (defScope s_line_through) := ⟨rfl, rfl, rfl, by decide +kernel, rfl, by decide +kernel, by decide +kernel⟩
abbrev s_side_of : Stmt := topS 17
abbrev NN_side_of : List Str := ["line", "spot"]
theorem sc_side_of : FnScope ["line", "spot"] ["line", "spot"] (defScope s_side_of) := ⟨rfl, rfl, rfl, by decide +kernel, rfl, by decide +kernel, by decide +kernel⟩
abbrev s_lines_of : Stmt := topS 18
abbrev NN_lines_of : List Str := ["spots", "at"]
theorem sc_lines_of : FnScope ["spots", "at"] ["spots"] (defScope s_lines_of) := ⟨rfl, rfl, rfl, by decide +kernel, rfl, by decide +kernel, by decide +kernel⟩
abbrev s_is_convex : Stmt := topS 19
abbrev NN_is_convex : List Str := ["spots", "many", "at", "line", "step"]
theorem sc_is_convex : FnScope ["spots", "many", "at", "line", "step"] ["spots"] (defScope s_is_convex) := ⟨rfl, rfl, rfl, by decide +kernel, rfl, by decide +kernel, by decide +kernel⟩
abbrev s_has_fraction_sides : Stmt := topS 20
abbrev NN_has_fraction_sides : List Str := ["spots", "at"]
theorem sc_has_fraction_sides : FnScope ["spots", "at"] ["spots"] (defScope s_has_fraction_sides) := ⟨rfl, rfl, rfl, by decide +kernel, rfl, by decide +kernel, by decide +kernel⟩
abbrev s_is_parted : Stmt := topS 21
abbrev NN_is_parted : List Str := ["lines", "spots", "line", "spot"]
theorem sc_is_parted : FnScope ["lines", "spots", "line", "spot"] ["lines", "spots"] (defScope s_is_parted) := ⟨rfl, rfl, rfl, by decide +kernel, rfl, by decide +kernel, by decide +kernel⟩
abbrev s_is_integer : Stmt := topS 23
abbrev NN_is_integer : List Str := ["thing"]
theorem sc_is_integer : FnScope ["thing"] ["thing"] (defScope s_is_integer) := ⟨rfl, rfl, rfl, by decide +kernel, rfl, by decide +kernel, by decide +kernel⟩
abbrev s_is_row : Stmt := topS 24
abbrev NN_is_row : List Str := ["thing"]
theorem sc_is_row : FnScope ["thing"] ["thing"] (defScope s_is_row) := ⟨rfl, rfl, rfl, by decide +kernel, rfl, by decide +kernel, by decide +kernel⟩
abbrev s_is_tuple_of : Stmt := topS 25
abbrev NN_is_tuple_of : List Str := ["thing", "many"]
theorem sc_is_tuple_of : FnScope ["thing", "many"] ["thing", "many"] (defScope s_is_tuple_of) := ⟨rfl, rfl, rfl, by decide +kernel, rfl, by decide +kernel, by decide +kernel⟩
abbrev s_is_fraction : Stmt := topS 26
abbrev NN_is_fraction : List Str := ["thing", "top", "bottom"]
theorem sc_is_fraction : FnScope ["thing", "top", "bottom"] ["thing"] (defScope s_is_fraction) := ⟨rfl, rfl, rfl, by decide +kernel, rfl, by decide +kernel, by decide +kernel⟩
abbrev s_are_fractions : Stmt := topS 27
abbrev NN_are_fractions : List Str := ["things", "thing"]
theorem sc_are_fractions : FnScope ["things", "thing"] ["things"] (defScope s_are_fractions) := ⟨rfl, rfl, rfl, by decide +kernel, rfl, by decide +kernel, by decide +kernel⟩
abbrev s_is_point : Stmt := topS 28
abbrev NN_is_point : List Str := ["thing"]
theorem sc_is_point : FnScope ["thing"] ["thing"] (defScope s_is_point) := ⟨rfl, rfl, rfl, by decide +kernel, rfl, by decide +kernel, by decide +kernel⟩
abbrev s_length_of : Stmt := topS 30
abbrev NN_length_of : List Str := ["one", "other"]
theorem sc_length_of : FnScope ["one", "other"] ["one", "other"] (defScope s_length_of) := ⟨rfl, rfl, rfl, by decide +kernel, rfl, by decide +kernel, by decide +kernel⟩
abbrev s_turn_of : Stmt := topS 31
abbrev NN_turn_of : List Str := ["one", "other", "third", "side"]
theorem sc_turn_of : FnScope ["one", "other", "third", "side"] ["one", "other", "third"] (defScope s_turn_of) := ⟨rfl, rfl, rfl, by decide +kernel, rfl, by decide +kernel, by decide +kernel⟩
abbrev s_is_plate : Stmt := topS 32
abbrev NN_is_plate : List Str := ["thing", "point", "spots"]
theorem sc_is_plate : FnScope ["thing", "point", "spots"] ["thing"] (defScope s_is_plate) := ⟨rfl, rfl, rfl, by decide +kernel, rfl, by decide +kernel, by decide +kernel⟩
abbrev s_lie_over : Stmt := topS 33
abbrev NN_lie_over : List Str := ["one", "other", "here", "there", "point"]
theorem sc_lie_over : FnScope ["one", "other", "here", "there", "point"] ["one", "other"] (defScope s_lie_over) := ⟨rfl, rfl, rfl, by decide +kernel, rfl, by decide +kernel, by decide +kernel⟩
abbrev s_check_two : Stmt := topS 35
abbrev NN_check_two : List Str := ["one", "other"]
theorem sc_check_two : FnScope ["one", "other"] ["one", "other"] (defScope s_check_two) := ⟨rfl, rfl, rfl, by decide +kernel, rfl, by decide +kernel, by decide +kernel⟩
abbrev s_frac_add : Stmt := topS 36
abbrev NN_frac_add : List Str := ["one", "other"]
theorem sc_frac_add : FnScope ["one", "other"] ["one", "other"] (defScope s_frac_add) := ⟨rfl, rfl, rfl, by decide +kernel, rfl, by decide +kernel, by decide +kernel⟩
abbrev s_law_mixed : Stmt := topS 38
abbrev NN_law_mixed : List Str := ["cell", "k", "number"]
theorem sc_law_mixed : FnScope ["cell", "k", "number"] ["cell", "k"] (defScope s_law_mixed) := ⟨rfl, rfl, rfl, by decide +kernel, rfl, by decide +kernel, by decide +kernel⟩
abbrev s_law_great : Stmt := topS 39
abbrev NN_law_great : List Str := ["cells", "place"]
theorem sc_law_great : FnScope ["cells", "place"] ["cells", "place"] (defScope s_law_great) := ⟨rfl, rfl, rfl, by decide +kernel, rfl, by decide +kernel, by decide +kernel⟩
abbrev s_law_stream : Stmt := topS 40
abbrev NN_law_stream : List Str := ["script", "cells"]
theorem sc_law_stream : FnScope ["script", "cells"] ["script"] (defScope s_law_stream) := ⟨rfl, rfl, rfl, by decide +kernel, rfl, by decide +kernel, by decide +kernel⟩
abbrev s_law_take : Stmt := topS 41
abbrev NN_law_take : List Str := ["stream", "many", "cells", "place", "digit"]
theorem sc_law_take : FnScope ["stream", "many", "cells", "place", "digit"] ["stream", "many"] (defScope s_law_take) := ⟨rfl, rfl, rfl, by decide +kernel, rfl, by decide +kernel, by decide +kernel⟩
abbrev s_law_low : Stmt := topS 42
abbrev NN_law_low : List Str := ["top", "bottom", "one", "other"]
theorem sc_law_low : FnScope ["top", "bottom", "one", "other"] ["top", "bottom"] (defScope s_law_low) := ⟨rfl, rfl, rfl, by decide +kernel, rfl, by decide +kernel, by decide +kernel⟩
abbrev s_law_add : Stmt := topS 43
abbrev NN_law_add : List Str := ["one", "other"]
theorem sc_law_add : FnScope ["one", "other"] ["one", "other"] (defScope s_law_add) := ⟨rfl, rfl, rfl, by decide +kernel, rfl, by decide +kernel, by decide +kernel⟩
abbrev s_law_neg : Stmt := topS 44
abbrev NN_law_neg : List Str := ["one"]
theorem sc_law_neg : FnScope ["one"] ["one"] (defScope s_law_neg) := ⟨rfl, rfl, rfl, by decide +kernel, rfl, by decide +kernel, by decide +kernel⟩
abbrev s_law_sub : Stmt := topS 45
abbrev NN_law_sub : List Str := ["one", "other"]
theorem sc_law_sub : FnScope ["one", "other"] ["one", "other"] (defScope s_law_sub) := ⟨rfl, rfl, rfl, by decide +kernel, rfl, by decide +kernel, by decide +kernel⟩
abbrev s_law_mul : Stmt := topS 46
abbrev NN_law_mul : List Str := ["one", "other"]
theorem sc_law_mul : FnScope ["one", "other"] ["one", "other"] (defScope s_law_mul) := ⟨rfl, rfl, rfl, by decide +kernel, rfl, by decide +kernel, by decide +kernel⟩
abbrev s_law_div : Stmt := topS 47
abbrev NN_law_div : List Str := ["one", "other"]
theorem sc_law_div : FnScope ["one", "other"] ["one", "other"] (defScope s_law_div) := ⟨rfl, rfl, rfl, by decide +kernel, rfl, by decide +kernel, by decide +kernel⟩
abbrev s_law_least : Stmt := topS 48
abbrev NN_law_least : List Str := ["items", "found", "item"]
theorem sc_law_least : FnScope ["items", "found", "item"] ["items"] (defScope s_law_least) := ⟨rfl, rfl, rfl, by decide +kernel, rfl, by decide +kernel, by decide +kernel⟩
abbrev s_law_plus : Stmt := topS 49
abbrev NN_law_plus : List Str := ["one", "other"]
theorem sc_law_plus : FnScope ["one", "other"] ["one", "other"] (defScope s_law_plus) := ⟨rfl, rfl, rfl, by decide +kernel, rfl, by decide +kernel, by decide +kernel⟩
abbrev s_law_minus : Stmt := topS 50
abbrev NN_law_minus : List Str := ["one", "other"]
theorem sc_law_minus : FnScope ["one", "other"] ["one", "other"] (defScope s_law_minus) := ⟨rfl, rfl, rfl, by decide +kernel, rfl, by decide +kernel, by decide +kernel⟩
abbrev s_law_times : Stmt := topS 51
abbrev NN_law_times : List Str := ["step", "factor"]
theorem sc_law_times : FnScope ["step", "factor"] ["step", "factor"] (defScope s_law_times) := ⟨rfl, rfl, rfl, by decide +kernel, rfl, by decide +kernel, by decide +kernel⟩
abbrev s_law_cross : Stmt := topS 52
abbrev NN_law_cross : List Str := ["one", "other"]
theorem sc_law_cross : FnScope ["one", "other"] ["one", "other"] (defScope s_law_cross) := ⟨rfl, rfl, rfl, by decide +kernel, rfl, by decide +kernel, by decide +kernel⟩
abbrev s_law_dot : Stmt := topS 53
abbrev NN_law_dot : List Str := ["one", "other"]
theorem sc_law_dot : FnScope ["one", "other"] ["one", "other"] (defScope s_law_dot) := ⟨rfl, rfl, rfl, by decide +kernel, rfl, by decide +kernel, by decide +kernel⟩
abbrev s_law_turn : Stmt := topS 54
abbrev NN_law_turn : List Str := ["one", "other", "first"]
theorem sc_law_turn : FnScope ["one", "other", "first"] ["one", "other"] (defScope s_law_turn) := ⟨rfl, rfl, rfl, by decide +kernel, rfl, by decide +kernel, by decide +kernel⟩
abbrev s_law_root : Stmt := topS 55
abbrev NN_law_root : List Str := ["number", "root", "k", "better"]
theorem sc_law_root : FnScope ["number", "root", "k", "better"] ["number"] (defScope s_law_root) := ⟨rfl, rfl, rfl, by decide +kernel, rfl, by decide +kernel, by decide +kernel⟩
abbrev s_law_size : Stmt := topS 56
abbrev NN_law_size : List Str := ["step", "square", "top", "bottom"]
theorem sc_law_size : FnScope ["step", "square", "top", "bottom"] ["step"] (defScope s_law_size) := ⟨rfl, rfl, rfl, by decide +kernel, rfl, by decide +kernel, by decide +kernel⟩
abbrev s_law_unit : Stmt := topS 57
abbrev NN_law_unit : List Str := ["one", "other", "step"]
theorem sc_law_unit : FnScope ["one", "other", "step"] ["one", "other"] (defScope s_law_unit) := ⟨rfl, rfl, rfl, by decide +kernel, rfl, by decide +kernel, by decide +kernel⟩
abbrev s_law_ray : Stmt := topS 58
abbrev NN_law_ray : List Str := ["slope", "top", "bottom"]
theorem sc_law_ray : FnScope ["slope", "top", "bottom"] ["slope"] (defScope s_law_ray) := ⟨rfl, rfl, rfl, by decide +kernel, rfl, by decide +kernel, by decide +kernel⟩
abbrev s_law_slope : Stmt := topS 59
abbrev NN_law_slope : List Str := ["stream", "most", "top"]
theorem sc_law_slope : FnScope ["stream", "most", "top"] ["stream", "most"] (defScope s_law_slope) := ⟨rfl, rfl, rfl, by decide +kernel, rfl, by decide +kernel, by decide +kernel⟩
abbrev s_law_cut : Stmt := topS 60
abbrev NN_law_cut : List Str := ["corners", "plates", "at", "k", "part", "keep", "plate", "tip", "ahead", "behind", "first", "second", "cosine", "sine", "ray", "third", "room", "near", "far", "many"]
theorem sc_law_cut : FnScope ["corners", "plates", "at", "k", "part", "keep", "plate", "tip", "ahead", "behind", "first", "second", "cosine", "sine", "ray", "third", "room", "near", "far", "many"] ["corners", "plates", "at", "k", "part", "keep"] (defScope s_law_cut) := ⟨rfl, rfl, rfl, by decide +kernel, rfl, by decide +kernel, by decide +kernel⟩
abbrev s_law_polygon : Stmt := topS 61
abbrev NN_law_polygon : List Str := ["stream", "many", "first", "part", "one", "step", "end", "corners", "other", "third", "plates", "k", "at", "number"]
theorem sc_law_polygon : FnScope ["stream", "many", "first", "part", "one", "step", "end", "corners", "other", "third", "plates", "k", "at", "number"] ["stream", "many"] (defScope s_law_polygon) := ⟨rfl, rfl, rfl, by decide +kernel, rfl, by decide +kernel, by decide +kernel⟩
abbrev s_law_moved : Stmt := topS 62
abbrev NN_law_moved : List Str := ["stream", "corners", "ray", "k", "factor", "east", "shift", "point"]
theorem sc_law_moved : FnScope ["stream", "corners", "ray", "k", "factor", "east", "shift", "point"] ["stream", "corners"] (defScope s_law_moved) := ⟨rfl, rfl, rfl, by decide +kernel, rfl, by decide +kernel, by decide +kernel⟩
abbrev s_law_is_small : Stmt := topS 63
abbrev NN_law_is_small : List Str := ["corners", "point", "item"]
theorem sc_law_is_small : FnScope ["corners", "point", "item"] ["corners"] (defScope s_law_is_small) := ⟨rfl, rfl, rfl, by decide +kernel, rfl, by decide +kernel, by decide +kernel⟩
abbrev s_law_is_integer : Stmt := topS 64
abbrev NN_law_is_integer : List Str := ["thing"]
theorem sc_law_is_integer : FnScope ["thing"] ["thing"] (defScope s_law_is_integer) := ⟨rfl, rfl, rfl, by decide +kernel, rfl, by decide +kernel, by decide +kernel⟩
abbrev s_law_is_frac : Stmt := topS 65
abbrev NN_law_is_frac : List Str := ["thing"]
theorem sc_law_is_frac : FnScope ["thing"] ["thing"] (defScope s_law_is_frac) := ⟨rfl, rfl, rfl, by decide +kernel, rfl, by decide +kernel, by decide +kernel⟩
abbrev s_law_round : Stmt := topS 66
abbrev NN_law_round : List Str := ["points", "total", "k", "side"]
theorem sc_law_round : FnScope ["points", "total", "k", "side"] ["points"] (defScope s_law_round) := ⟨rfl, rfl, rfl, by decide +kernel, rfl, by decide +kernel, by decide +kernel⟩
abbrev s_law_parts_side : Stmt := topS 67
abbrev NN_law_parts_side : List Str := ["begin", "middle", "end", "one", "other"]
theorem sc_law_parts_side : FnScope ["begin", "middle", "end", "one", "other"] ["begin", "middle", "end"] (defScope s_law_parts_side) := ⟨rfl, rfl, rfl, by decide +kernel, rfl, by decide +kernel, by decide +kernel⟩
abbrev s_law_cut_well : Stmt := topS 68
abbrev NN_law_cut_well : List Str := ["corners", "plates", "at", "k", "part", "plate", "near", "far", "tip", "side"]
theorem sc_law_cut_well : FnScope ["corners", "plates", "at", "k", "part", "plate", "near", "far", "tip", "side"] ["corners", "plates", "at", "k", "part"] (defScope s_law_cut_well) := ⟨rfl, rfl, rfl, by decide +kernel, rfl, by decide +kernel, by decide +kernel⟩
abbrev s_law_apart : Stmt := topS 69
abbrev NN_law_apart : List Str := ["pieces", "k", "j"]
theorem sc_law_apart : FnScope ["pieces", "k", "j"] ["pieces"] (defScope s_law_apart) := ⟨rfl, rfl, rfl, by decide +kernel, rfl, by decide +kernel, by decide +kernel⟩
abbrev s_law_inside : Stmt := topS 70
abbrev NN_law_inside : List Str := ["whole", "piece", "k", "point"]
theorem sc_law_inside : FnScope ["whole", "piece", "k", "point"] ["whole", "piece"] (defScope s_law_inside) := ⟨rfl, rfl, rfl, by decide +kernel, rfl, by decide +kernel, by decide +kernel⟩
abbrev s_law : Stmt := topS 71
abbrev NN_law : List Str := ["script", "stream", "cuts", "corners", "whole", "plates", "total", "cut", "at", "k", "part", "trial", "trial_plates", "side", "pieces", "around", "piece", "length", "plate", "number"]
theorem sc_law : FnScope ["script", "stream", "cuts", "corners", "whole", "plates", "total", "cut", "at", "k", "part", "trial", "trial_plates", "side", "pieces", "around", "piece", "length", "plate", "number"] ["script"] (defScope s_law) := ⟨rfl, rfl, rfl, by decide +kernel, rfl, by decide +kernel, by decide +kernel⟩

/-! ### lowest terms -/
def gI (a b : Int) : Int := ((Nat.gcd a.natAbs b.natAbs : Nat) : Int)
def sg (a b : Int) : Int := if b < 0 then -gI a b else gI a b
def nt (a b : Int) : Int := a.fdiv (sg a b)
def bN (a b : Int) : Int := b.fdiv (sg a b)
theorem gI_pos {a b : Int} (h : b ≠ 0) : 0 < gI a b := by
  have : 0 < Nat.gcd a.natAbs b.natAbs := Nat.gcd_pos_of_pos_right _ (by omega)
  unfold gI
  omega
theorem gI_le {a b : Int} (h : b ≠ 0) : gI a b ≤ (b.natAbs : Int) := by
  have : Nat.gcd a.natAbs b.natAbs ≤ b.natAbs := Nat.gcd_le_right _ (by omega)
  unfold gI
  omega
theorem sg_ne {a b : Int} (h : b ≠ 0) : sg a b ≠ 0 := by
  have := gI_pos (a := a) h
  unfold sg
  split <;> omega
theorem sg_abs {a b : Int} : (sg a b).natAbs = Nat.gcd a.natAbs b.natAbs := by
  unfold sg gI
  split <;> omega
theorem gI_dl (a b : Int) : gI a b ∣ a := Int.natAbs_dvd_natAbs.mp (by
  show ((Nat.gcd a.natAbs b.natAbs : Nat) : Int).natAbs ∣ _
  rw [Int.natAbs_natCast]
  exact Nat.gcd_dvd_left _ _)
theorem gI_dr (a b : Int) : gI a b ∣ b := Int.natAbs_dvd_natAbs.mp (by
  show ((Nat.gcd a.natAbs b.natAbs : Nat) : Int).natAbs ∣ _
  rw [Int.natAbs_natCast]
  exact Nat.gcd_dvd_right _ _)
theorem sg_dl (a b : Int) : sg a b ∣ a := by
  unfold sg
  split
  · exact Int.neg_dvd.mpr (gI_dl a b)
  · exact gI_dl a b
theorem sg_dr (a b : Int) : sg a b ∣ b := by
  unfold sg
  split
  · exact Int.neg_dvd.mpr (gI_dr a b)
  · exact gI_dr a b
theorem fdiv_exact {a d q : Int} (hd : d ≠ 0) (e : a = d * q) : a.fdiv d = q := by
  subst e
  exact Int.mul_fdiv_cancel_left q hd
theorem nt_mul {a b : Int} (h : b ≠ 0) : sg a b * nt a b = a := by
  obtain ⟨q, e⟩ := sg_dl a b
  have : nt a b = q := fdiv_exact (sg_ne h) e
  rw [this]
  exact e.symm
theorem nb_mul {a b : Int} (h : b ≠ 0) : sg a b * bN a b = b := by
  obtain ⟨q, e⟩ := sg_dr a b
  have : bN a b = q := fdiv_exact (sg_ne h) e
  rw [this]
  exact e.symm
theorem nb_pos {a b : Int} (h : b ≠ 0) : 0 < bN a b := by
  have e := nb_mul (a := a) h
  have g := gI_pos (a := a) h
  unfold sg at e
  by_cases hb : b < 0
  · rw [if_pos hb] at e
    refine Int.not_le.mp fun hn => ?_
    have := Int.mul_nonneg (Int.le_of_lt g) (Int.neg_nonneg_of_nonpos hn)
    have e2 : gI a b * -bN a b = b := (Int.mul_neg _ _).trans ((Int.neg_mul _ _).symm.trans e)
    omega
  · rw [if_neg hb] at e
    refine Int.not_le.mp fun hn => ?_
    have := Int.mul_nonneg (Int.le_of_lt g) (Int.neg_nonneg_of_nonpos hn)
    have e2 : gI a b * -bN a b = -b := (Int.mul_neg _ _).trans (congrArg Neg.neg e)
    omega
/-- the value stays -/
theorem nt_val {a b : Int} (h : b ≠ 0) : nt a b * b = a * bN a b := by
  have e1 := nt_mul (a := a) h
  have e2 := nb_mul (a := a) h
  calc nt a b * b = nt a b * (sg a b * bN a b) := by rw [e2]
    _ = sg a b * nt a b * bN a b := by rw [← Int.mul_assoc, Int.mul_comm (nt a b)]
    _ = a * bN a b := by rw [e1]
theorem nt_gcd {a b : Int} (h : b ≠ 0) : Nat.gcd (nt a b).natAbs (bN a b).natAbs = 1 := by
  have e1 := congrArg Int.natAbs (nt_mul (a := a) h)
  have e2 := congrArg Int.natAbs (nb_mul (a := a) h)
  rw [Int.natAbs_mul, sg_abs] at e1 e2
  have gp : 0 < Nat.gcd a.natAbs b.natAbs := Nat.gcd_pos_of_pos_right _ (by omega)
  have k : Nat.gcd a.natAbs b.natAbs * Nat.gcd (nt a b).natAbs (bN a b).natAbs = Nat.gcd a.natAbs b.natAbs * 1 := by
    rw [← Nat.gcd_mul_left, e1, e2, Nat.mul_one]
  exact Nat.eq_of_mul_eq_mul_left gp k
theorem nt_le {a b : Int} (h : b ≠ 0) : (nt a b).natAbs ≤ a.natAbs := by
  have e1 := congrArg Int.natAbs (nt_mul (a := a) h)
  rw [Int.natAbs_mul, sg_abs] at e1
  have gp : 0 < Nat.gcd a.natAbs b.natAbs := Nat.gcd_pos_of_pos_right _ (by omega)
  rw [← e1]
  exact Nat.le_mul_of_pos_left _ gp
theorem nb_le {a b : Int} (h : b ≠ 0) : (bN a b).natAbs ≤ b.natAbs := by
  have e1 := congrArg Int.natAbs (nb_mul (a := a) h)
  rw [Int.natAbs_mul, sg_abs] at e1
  have gp : 0 < Nat.gcd a.natAbs b.natAbs := Nat.gcd_pos_of_pos_right _ (by omega)
  have e2 : Nat.gcd a.natAbs b.natAbs * (bN a b).natAbs = b.natAbs := e1
  calc (bN a b).natAbs ≤ Nat.gcd a.natAbs b.natAbs * (bN a b).natAbs := Nat.le_mul_of_pos_left _ gp
    _ = b.natAbs := e2
/-- a pair in lowest terms -/
structure Low (a b : Int) : Prop where
  pos : 1 ≤ b
  one : Nat.gcd a.natAbs b.natAbs = 1
theorem nt_low {a b : Int} (h : b ≠ 0) : Low (nt a b) (bN a b) := ⟨nb_pos h, nt_gcd h⟩
theorem sg_one {a b : Int} (l : Low a b) : sg a b = 1 := by
  unfold sg gI
  have := l.pos
  rw [if_neg (by omega), l.one]
  rfl
theorem nt_id {a b : Int} (l : Low a b) : nt a b = a := by
  unfold nt
  rw [sg_one l]
  exact Int.fdiv_one a
theorem nb_id {a b : Int} (l : Low a b) : bN a b = b := by
  unfold bN
  rw [sg_one l]
  exact Int.fdiv_one b
theorem low_of {a b : Int} (h : 1 ≤ b) (e : bN a b = b) : Low a b := by
  have q := nt_low (a := a) (b := b) (by omega)
  have m := congrArg Int.natAbs (nb_mul (a := a) (b := b) (by omega))
  rw [Int.natAbs_mul, sg_abs, e] at m
  refine ⟨h, ?_⟩
  have bp : 0 < b.natAbs := by omega
  have : Nat.gcd a.natAbs b.natAbs * b.natAbs = 1 * b.natAbs := by rw [m, Nat.one_mul]
  exact Nat.eq_of_mul_eq_mul_right bp this
theorem log_of {j : Int} {k : Nat} (h : j.natAbs < 2 ^ k) (hk : 0 < k) : j.natAbs.log2 < k := PySem.Flt.log2_lt_of hk h
theorem sg_log {a b : Int} (h : b ≠ 0) (hb : b.natAbs.log2 < 9000) : (sg a b).natAbs.log2 < 9000 := by
  have l : (sg a b).natAbs ≤ b.natAbs := by
    rw [sg_abs]
    exact Nat.gcd_le_right _ (by omega)
  have b0 : b.natAbs ≠ 0 := by omega
  have h1 : b.natAbs < 2 ^ 9000 := (Nat.log2_lt b0).mp hb
  have s0 : (sg a b).natAbs ≠ 0 := by
    have := sg_ne (a := a) h
    omega
  exact (Nat.log2_lt s0).mpr (Nat.lt_of_le_of_lt l h1)
theorem eqv_pair {a b c d : Int} : PyData.eqv (.tuple [.int a, .int b]) (.tuple [.int c, .int d]) = decide (a = c ∧ b = d) := by
  show (a == c && (b == d && true)) = _
  rw [Bool.and_true]
  by_cases h1 : a = c
  · subst h1
    rw [beq_self_eq_true, Bool.true_and]
    by_cases h2 : b = d
    · subst h2
      rw [beq_self_eq_true]
      exact (decide_eq_true ⟨rfl, rfl⟩).symm
    · rw [beq_eq_false_iff_ne.mpr h2]
      exact (decide_eq_false fun z => h2 z.2).symm
  · rw [beq_eq_false_iff_ne.mpr h1, Bool.false_and]
    exact (decide_eq_false fun z => h1 z.1).symm

theorem sgn_small {d x : Int} (d0 : 0 ≤ d) (d1 : d < 2) (x0 : 0 ≤ x) (x1 : x < 1000000000000000000000000000000000000000) : ((1 - 2 * d) * x).natAbs < 1000000000000000000000000000000000000000 := by
  have e : d = 0 ∨ d = 1 := by omega
  rcases e with rfl | rfl <;> omega
section
variable {P : Program} {w : World} {K : PySem.W.Frag} {mg : Str → Option Value} {base : Heap}
theorem ok_law_mixed {f : Addr} {fd : FuncData} (F : Fun K "_law_mixed" "_law_mixed" s_law_mixed f fd) (nb : Nb mg) : FnOk P w K mg base CX0 1 f fd ["cell", "k"] sp_mixed := by
  have sc := sc_law_mixed
  refine F.ok sc (fun vs H Q E h => ?_) (fun cdv A outer s H vs Q E hr h => ?_)
  · obtain ⟨c, k, rfl, _⟩ := h
    rfl
  · obtain ⟨c, k, rfl, q⟩ := h
    refine ⟨_, (pss_cons (ps_asg (pe_op op_mod (pe_callTy cq_int (by rfl) nb.int (by decide +kernel) (pa_cons (pe_op op_mul (pe_op op_add (pe_op op_add (pe_op op_mod (pe_callTy cq_int (by rfl) nb.int (by decide +kernel) (pa_cons (pv 0) pa_nil)) pe_int) (pe_op op_mul pe_int (pv 1))) pe_int) pe_int) pa_nil)) pe_int) (pg_name (i := 2) sc.nd rfl (.inl rfl)))
    (pss_cons (ps_asg (pe_op op_mod (pe_callTy cq_int (by rfl) nb.int (by decide +kernel) (pa_cons (pe_op op_mul (pv 2) (pe_op op_add (pe_op op_fdivW (pv 2) pe_int) pe_int)) pa_nil)) pe_int) (pg_name (i := 2) sc.nd rfl (.inl rfl)))
    (pss_one (ps_ret (pe_op op_mod (pe_callTy cq_int (by rfl) nb.int (by decide +kernel) (pa_cons (pe_op op_mul (pv 2) (pe_op op_add (pe_op op_fdivW (pv 2) pe_int) pe_int)) pa_nil)) pe_int))))), ?_⟩
    (rw [show start ["cell", "k", "number"] [.int c, .int k] = [some (.int c), some (.int k), none] from rfl]; try dsimp only [cxOf])
    walk_at "w"
    generalize hn : (c % 2147483647 + 7919 * k + 1) * 48271 % 2147483647 = n
    have n0 : 0 ≤ n := by omega
    have n1 : n < 2147483647 := by omega
    walk_at "w"
    generalize hm : n * (n / 1009 + 69621) % 2147483647 = m
    have m0 : 0 ≤ m := by omega
    have m1 : m < 2147483647 := by omega
    walk_at "w"
    exact q _
theorem ok_law_great {f : Addr} {fd : FuncData} (F : Fun K "_law_great" "_law_great" s_law_great f fd) (nb : Nb mg) : FnOk P w K mg base CX0 1 f fd ["cells", "place"] (sp_great K) := by
  have sc := sc_law_great
  refine F.ok sc (fun vs H Q E h => ?_) (fun cdv A outer s H vs Q E hr h => ?_)
  · obtain ⟨c, p, ns, rfl, _⟩ := h
    rfl
  · obtain ⟨c, p, ns, rfl, hc, p0, q⟩ := h
    refine ⟨_, (pss_cons (ps_if (PW.pt (pw_and (pt_cmpR op_lt (pv 1) (pe_callB cq_len (by rfl) nb.len (by decide +kernel) (pa_cons (pv 0) pa_nil)) (nomark _)) (pw_and1 (pt_cmpR op_ge (pe_callB cq_abs (by rfl) nb.abs (by decide +kernel) (pa_cons (pe_ix ix_list (pv 0) (pv 1) (fun _ _ => rfl)) pa_nil)) (pe_op op_pow pe_int pe_int) (nomark _))))) (pss_one (ps_ret (pe_callB cq_abs (by rfl) nb.abs (by decide +kernel) (pa_cons (pe_ix ix_list (pv 0) (pv 1) (fun _ _ => rfl)) pa_nil)))) pss_nil)
    (pss_one (ps_ret pe_int))), ?_⟩
    (rw [show start ["cells", "place"] [.ref c, .int p] = [some (.ref c), some (.int p)] from rfl]; try dsimp only [cxOf])
    walk_at "w"
    refine w_ifd (fun h1 => ?_) (fun h1 => ?_)
    · skip
      obtain ⟨n, hn⟩ := at_ints p0 h1
      walk_at "w"
      refine w_ifd (fun h2 => ?_) (fun h2 => ?_)
      · walk_at "w"
        exact q _ (by omega)
      · walk_at "w"
        exact q _ (by omega)
    · refine iteF ?_
      walk_at "w"
      exact q _ (by omega)
theorem ok_law_stream {f : Addr} {fd : FuncData} (F : Fun K "_law_stream" "_law_stream" s_law_stream f fd) (nb : Nb mg) (d_law_great : Df P w K mg base CX0 1 "_law_great" ["cells", "place"] (sp_great K)) : FnOk P w K mg base CX0 2 f fd ["script"] (sp_stream K) := by
  have sc := sc_law_stream
  refine F.ok sc (fun vs H Q E h => ?_) (fun cdv A outer s H vs Q E hr h => ?_)
  · obtain ⟨c, ns, rfl, _⟩ := h
    rfl
  · obtain ⟨c, ns, rfl, hc, q⟩ := h
    refine ⟨_, (pss_cons (ps_asg (pe_callTy cq_list (by rfl) nb.list (by decide +kernel) (pa_cons (pv 0) pa_nil)) (pg_name (i := 1) sc.nd rfl (.inl rfl)))
    (pss_cons (ps_if (pt_cmpR op_eq (pe_callB cq_len (by rfl) nb.len (by decide +kernel) (pa_cons (pv 1) pa_nil)) pe_int (nomark _)) (pss_one (ps_asg (pe_lst (pa_cons pe_int pa_nil)) (pg_name (i := 1) sc.nd rfl (.inl rfl)))) pss_nil)
    (pss_one (ps_ret (pe_lst (pa_cons (pv 1) (pa_cons pe_int (pa_cons (pe_call d_law_great.F (hr.mono (by decide)) (by rfl) d_law_great.g d_law_great.kp d_law_great.b .nil pass0 (pa_cons (pv 1) (pa_cons pe_int pa_nil))) (pa_cons pe_int pa_nil))))))))), ?_⟩
    (rw [show start ["script", "cells"] [.ref c] = [some (.ref c), none] from rfl]; try dsimp only [cxOf])
    walk_at "w"
    refine ⟨c, ns.map V.int, rfl, .inl hc, fun l nl => ?_⟩
    walk_at "w"
    have s1 : Same H (upd H l (.lst (ns.map V.int))) := same_new nl
    refine w_ifd (fun h1 => ?_) (fun h1 => ?_)
    · walk_at "w"
      refine nl_mk fun p np => ?_
      walk_at "w"
      refine ⟨p, 0, [0], rfl, .inl (.inl upd_same), by decide, fun g g0 => ?_⟩
      walk_at "w"
      refine nl_mk fun t nt => ?_
      have tp : p ≠ t := ne_of_none upd_same nt
      refine q _ t ((s1.new np).new nt) ((s1.new np).free nt) ⟨p, 0, g, 0, [0], upd_same, by decide, g0, ?_, by decide⟩
      rw [upd_ne tp]
      exact upd_same
    · skip
      walk_at "w"
      refine ⟨l, 0, ns, rfl, .inl (.inl upd_same), by decide, fun g g0 => ?_⟩
      walk_at "w"
      refine nl_mk fun t nt => ?_
      have tp : l ≠ t := ne_of_none upd_same nt
      refine q _ t (s1.new nt) (s1.free nt) ⟨l, 0, g, 0, ns, upd_same, by decide, g0, ?_, by omega⟩
      rw [upd_ne tp]
      exact upd_same
theorem ok_law_take {f : Addr} {fd : FuncData} (F : Fun K "_law_take" "_law_take" s_law_take f fd) (nb : Nb mg) (d_law_great : Df P w K mg base CX0 1 "_law_great" ["cells", "place"] (sp_great K)) (d_law_mixed : Df P w K mg base CX0 1 "_law_mixed" ["cell", "k"] sp_mixed) : FnOk P w K mg base CX0 2 f fd ["stream", "many"] sp_take := by
  have sc := sc_law_take
  refine F.ok sc (fun vs H Q E h => ?_) (fun cdv A outer s H vs Q E hr h => ?_)
  · obtain ⟨a, m, rfl, _⟩ := h
    rfl
  · obtain ⟨a, m, rfl, hm, ⟨c, p, g, n, ns, h1, p0, g0, h4, hl⟩, q⟩ := h
    have ca := stm_ca h1 h4
    refine ⟨_, (pss_cons (ps_asg (pe_ix ix_list (pv 0) pe_int (fun _ _ => rfl)) (pg_name (i := 2) sc.nd rfl (.inl rfl)))
    (pss_cons (ps_asg (pe_ix ix_list (pv 0) pe_int (fun _ _ => rfl)) (pg_name (i := 3) sc.nd rfl (.inl rfl)))
    (pss_cons (ps_asg (pe_op op_add (pe_ix ix_list (pv 0) pe_int (fun _ _ => rfl)) pe_int) (pg_sub (pv 0) pe_int set_list))
    (pss_cons (ps_if (pt_cmpR op_gt (pe_ix ix_list (pv 0) pe_int (fun _ _ => rfl)) pe_int (nomark _)) (pss_cons (ps_asg (pe_op op_mod (pe_callTy cq_int (by rfl) nb.int (by decide +kernel) (pa_cons (pe_ix ix_list (pv 0) pe_int (fun _ _ => rfl)) pa_nil)) (pv 1)) (pg_name (i := 4) sc.nd rfl (.inl rfl)))
    (pss_cons (ps_asg (pe_op op_fdivW (pe_ix ix_list (pv 0) pe_int (fun _ _ => rfl)) (pv 1)) (pg_sub (pv 0) pe_int set_list))
    (pss_one (ps_if (pt_cmpR op_gt (pe_ix ix_list (pv 0) pe_int (fun _ _ => rfl)) pe_int (nomark _)) (pss_one (ps_ret (pv 4))) pss_nil)))) (pss_one (ps_asg (pe_op op_mod (pe_call d_law_mixed.F (hr.mono (by decide)) (by rfl) d_law_mixed.g d_law_mixed.kp d_law_mixed.b .nil pass0 (pa_cons (pe_ix ix_list (pv 2) (pe_op op_mod (pe_callTy cq_int (by rfl) nb.int (by decide +kernel) (pa_cons (pv 3) pa_nil)) (pe_callB cq_len (by rfl) nb.len (by decide +kernel) (pa_cons (pv 2) pa_nil))) (fun _ _ => rfl)) (pa_cons (pe_ix ix_list (pv 0) pe_int (fun _ _ => rfl)) pa_nil))) (pv 1)) (pg_name (i := 4) sc.nd rfl (.inl rfl)))))
    (pss_cons (ps_asg (pe_op op_add (pv 3) pe_int) (pg_sub (pv 0) pe_int set_list))
    (pss_cons (ps_asg (pe_call d_law_great.F (hr.mono (by decide)) (by rfl) d_law_great.g d_law_great.kp d_law_great.b .nil pass0 (pa_cons (pv 2) (pa_cons (pe_op op_add (pv 3) pe_int) pa_nil))) (pg_sub (pv 0) pe_int set_list))
    (pss_one (ps_ret (pv 4))))))))), ?_⟩
    (rw [show start ["stream", "many", "cells", "place", "digit"] [.ref a, .int m] = [some (.ref a), some (.int m), none, none, none] from rfl]; try dsimp only [cxOf])
    walk_at "w"
    refine w_ifd (fun hg => ?_) (fun hg => ?_)
    · walk_at "w"
      refine w_ifd (fun h2 => ?_) (fun h2 => ?_)
      · walk_at "w"
        refine q _ _ ?_ ⟨c, p, g / m, n + 1, ns, upd_same, p0, by omega, ?_, hl⟩ (Int.emod_nonneg _ (by omega)) (Int.emod_lt_of_pos _ (by omega))
        · exact (But.upd.trans But.upd)
        · walk_at "heap"
      · walk_at "w"
        refine ⟨c, p + 1, ns, rfl, .inl (.inl (by walk_at "heap")), by omega, fun g2 g20 => ?_⟩
        walk_at "w"
        refine q _ _ ?_ ⟨c, p + 1, g2, n + 1, ns, upd_same, by omega, g20, ?_, hl⟩ (Int.emod_nonneg _ (by omega)) (Int.emod_lt_of_pos _ (by omega))
        · exact ((But.upd.trans But.upd).trans But.upd).trans But.upd
        · walk_at "heap"
    · obtain ⟨z, hz⟩ := at_ints (ns := ns) (i := p % (ns.length : Int)) (Int.emod_nonneg _ (by omega)) (Int.emod_lt_of_pos _ (by omega))
      walk_at "w"
      refine ⟨z, n + 1, rfl, fun d0 => ?_⟩
      walk_at "w"
      refine ⟨c, p + 1, ns, rfl, .inl (.inl (by walk_at "heap")), by omega, fun g2 g20 => ?_⟩
      walk_at "w"
      refine q _ _ ?_ ⟨c, p + 1, g2, n + 1, ns, upd_same, by omega, g20, ?_, hl⟩ (Int.emod_nonneg _ (by omega)) (Int.emod_lt_of_pos _ (by omega))
      · exact (But.upd.trans But.upd).trans But.upd
      · walk_at "heap"
theorem call_take {H : Hp} {a : Addr} {m : Int} {Q : VK} {E : XK} (s : Stm H a) (hm : 0 < m) (hl : m.natAbs.log2 < 9000) (h : ∀ H' (d : Int), But a H H' → Stm H' a → 0 ≤ d → d < m → Q (.int d) H') : sp_take [.ref a, .int m] H Q E := ⟨a, m, rfl, ⟨hm, hl⟩, s, h⟩
end

/-- a new pair in lowest terms -/
def sp_low : Sp := fun vs H Q _ => ∃ a b : Int, vs = [.int a, .int b] ∧ b ≠ 0 ∧ b.natAbs.log2 < 9000 ∧ ∀ H' p, Same H H' → H p = none → H' p = some (.tup [.int (nt a b), .int (bN a b)]) → Q (.ref p) H'
theorem call_low {H : Hp} {a b : Int} {Q : VK} {E : XK} (h0 : b ≠ 0) (hl : b.natAbs.log2 < 9000) (h : ∀ H' p, Same H H' → H p = none → H' p = some (.tup [.int (nt a b), .int (bN a b)]) → Q (.ref p) H') : sp_low [.int a, .int b] H Q E := ⟨a, b, rfl, h0, hl, h⟩
theorem c_low {b : Bool} {sa : Addr} {H0 H : Hp} {acc : List V} {dacc : List PyData} {Q : VK} {E : XK} {x y : Int} (W : Wd b sa H0 H acc dacc) (h0 : y ≠ 0) (hl : y.natAbs.log2 < 9000)
    (h : ∀ H' p, Wd b sa H0 H' (.ref p :: acc) (.tuple [.int (nt x y), .int (bN x y)] :: dacc) → Q (.ref p) H') : sp_low [.int x, .int y] H Q E :=
  ⟨x, y, rfl, h0, hl, fun H' p s np hp => h H' p ((W.go s).put (.tup (W.ne np) hp (.cons (.int _) (.cons (.int _) .nil))))⟩
section
variable {P : Program} {w : World} {K : PySem.W.Frag} {mg : Str → Option Value} {base : Heap}
theorem ok_lowest {f : Addr} {fd : FuncData} (F : Fun K "lowest" "lowest" s_lowest f fd) (mi_gcd : mg "gcd" = some (.builtin "math.gcd")) : FnOk P w K mg base CX0 1 f fd ["top", "bottom"] sp_low := by
  have sc := sc_lowest
  refine F.ok sc (fun vs H Q E h => ?_) (fun cdv A outer s H vs Q E hr h => ?_)
  · obtain ⟨a, b, rfl, _⟩ := h
    rfl
  · obtain ⟨a, b, rfl, h0, hl, q⟩ := h
    refine ⟨_, (pss_cons (ps_asg (pe_callBfun cr_gcd (by rfl) mi_gcd (pa_cons (pv 0) (pa_cons (pv 1) pa_nil))) (pg_name (i := 2) sc.nd rfl (.inl rfl)))
    (pss_cons (ps_if (pt_cmpR op_lt (pv 1) pe_int (nomark _)) (pss_one (ps_asg (pe_un un_neg (pv 2)) (pg_name (i := 2) sc.nd rfl (.inl rfl)))) pss_nil)
    (pss_one (ps_ret (pe_tup (pa_cons (pe_op op_fdivG (pv 0) (pv 2)) (pa_cons (pe_op op_fdivG (pv 1) (pv 2)) pa_nil))))))), ?_⟩
    (rw [show start ["top", "bottom", "shared"] [.int a, .int b] = [some (.int a), some (.int b), none] from rfl]; try dsimp only [cxOf])
    walk_at "w"
    have sc2 : sg a b ≠ 0 ∧ (sg a b).natAbs.log2 < 9000 := ⟨sg_ne (a := a) h0, sg_log (a := a) h0 hl⟩
    refine w_ifd (fun h1 => ?_) (fun h1 => ?_)
    · have e : sg a b = -((Nat.gcd a.natAbs b.natAbs : Nat) : Int) := if_pos h1
      walk_at "w"
      rw [← e]
      walk_at "w"
      refine nt_mk fun p np => ?_
      exact q _ p (same_new np) np upd_same
    · have e : sg a b = ((Nat.gcd a.natAbs b.natAbs : Nat) : Int) := if_neg h1
      walk_at "w"
      rw [← e]
      walk_at "w"
      refine nt_mk fun p np => ?_
      exact q _ p (same_new np) np upd_same
theorem ok_law_low {f : Addr} {fd : FuncData} (F : Fun K "_law_low" "_law_low" s_law_low f fd) (nb : Nb mg) : FnOk P w K mg base CX0 1 f fd ["top", "bottom"] sp_low := by
  have sc := sc_law_low
  refine F.ok sc (fun vs H Q E h => ?_) (fun cdv A outer s H vs Q E hr h => ?_)
  · obtain ⟨a, b, rfl, _⟩ := h
    rfl
  · obtain ⟨a, b, rfl, h0, hl, q⟩ := h
    refine ⟨_, (pss_cons (ps_asg (pe_callB cq_abs (by rfl) nb.abs (by decide +kernel) (pa_cons (pv 0) pa_nil)) (pg_name (i := 2) sc.nd rfl (.inl rfl)))
    (pss_cons (ps_asg (pe_callB cq_abs (by rfl) nb.abs (by decide +kernel) (pa_cons (pv 1) pa_nil)) (pg_name (i := 3) sc.nd rfl (.inl rfl)))
    (pss_cons (ps_while PassesOwn.never (pt_cmpR op_gt (pv 3) pe_int (nomark _)) (pss_one (ps_par (i := 2) (j := 3) (by rfl) sc.nd rfl rfl (by decide) rfl rfl (pa_cons (pv 3) (pa_cons (pe_op op_mod (pe_callTy cq_int (by rfl) nb.int (by decide +kernel) (pa_cons (pv 2) pa_nil)) (pv 3)) pa_nil)) (by rfl))))
    (pss_cons (ps_if (pt_cmpR op_lt (pv 1) pe_int (nomark _)) (pss_one (ps_asg (pe_un un_neg (pv 2)) (pg_name (i := 2) sc.nd rfl (.inl rfl)))) pss_nil)
    (pss_one (ps_ret (pe_tup (pa_cons (pe_op op_fdivG (pv 0) (pv 2)) (pa_cons (pe_op op_fdivG (pv 1) (pv 2)) pa_nil))))))))), ?_⟩
    (rw [show start ["top", "bottom", "one", "other"] [.int a, .int b] = [some (.int a), some (.int b), none, none] from rfl]; try dsimp only [cxOf])
    walk_at "w"
    refine ⟨fun m σ' H' => ∃ x y : Nat, σ' = [some (.int a), some (.int b), some (.int (x : Int)), some (.int (y : Int))] ∧ H' = H ∧ Nat.gcd x y = Nat.gcd a.natAbs b.natAbs ∧ m = y, ⟨_, a.natAbs, b.natAbs, rfl, rfl, rfl, rfl⟩, fun m σ' H' hW => ?_⟩
    obtain ⟨x, y, rfl, rfl, hg, rfl⟩ := hW
    walk_at "w"
    refine w_ifd (fun h1 => ?_) (fun h1 => ?_)
    · refine ⟨fun σ' H'' => ∃ x' y' : Nat, σ' = [some (.int a), some (.int b), some (.int (x' : Int)), some (.int (y' : Int))] ∧ H'' = H' ∧ Nat.gcd x' y' = Nat.gcd a.natAbs b.natAbs ∧ y' < m, fun σ' H'' hN => ?_, ?_⟩
      · obtain ⟨x', y', e1, e2, e3, e4⟩ := hN
        exact ⟨y', e4, x', y', e1, e2, e3, rfl⟩
      · walk_at "w"
        refine ⟨m, x % m, rfl, rfl, ?_, Nat.mod_lt _ (by omega)⟩
        rw [← hg, Nat.gcd_comm x m, Nat.gcd_rec m x, Nat.gcd_comm]
    · have y0 : m = 0 := by omega
      subst y0
      rw [Nat.gcd_zero_right] at hg
      subst hg
      walk_at "w"
      have sc2 : sg a b ≠ 0 ∧ (sg a b).natAbs.log2 < 9000 := ⟨sg_ne (a := a) h0, sg_log (a := a) h0 hl⟩
      refine w_ifd (fun h1 => ?_) (fun h1 => ?_)
      · have e : sg a b = -((Nat.gcd a.natAbs b.natAbs : Nat) : Int) := if_pos h1
        walk_at "w"
        rw [← e]
        walk_at "w"
        refine nt_mk fun p np => ?_
        exact q _ p (same_new np) np upd_same
      · have e : sg a b = ((Nat.gcd a.natAbs b.natAbs : Nat) : Int) := if_neg h1
        walk_at "w"
        rw [← e]
        walk_at "w"
        refine nt_mk fun p np => ?_
        exact q _ p (same_new np) np upd_same
end

def isI : PyData → Bool
  | .int _ => true
  | _ => false
theorem isI_n : isI .none = false := rfl
theorem isI_b {b : Bool} : isI (.bool b) = false := rfl
theorem isI_i {n : Int} : isI (.int n) = true := rfl
theorem isI_s {x : Str} : isI (.str x) = false := rfl
theorem isI_l {l : List PyData} : isI (.list l) = false := rfl
theorem isI_t {l : List PyData} : isI (.tuple l) = false := rfl
theorem isI_d {l : List (PyData × PyData)} : isI (.dict l) = false := rfl
def isB : PyData → Bool
  | .bool _ => true
  | _ => false
def isT : PyData → Bool
  | .tuple _ => true
  | _ => false
/-- a fraction in lowest terms -/
def isF : PyData → Bool
  | .tuple [.int a, .int b] => decide (1 ≤ b ∧ Nat.gcd a.natAbs b.natAbs = 1)
  | _ => false
theorem kd_int {K : PySem.W.Frag} (d : PyData) : PySem.W.kitOne K (.type (tyD d)) (.type "int") = some (isI d || isB d) := by
  cases d with
  | none => exact kit_ty (a := "NoneType") (b := "int") (r := false) (by decide +kernel)
  | bool z => exact kit_ty (a := "bool") (b := "int") (r := true) (by decide +kernel)
  | int z => exact kit_ty (a := "int") (b := "int") (r := true) (by decide +kernel)
  | str z => exact kit_ty (a := "str") (b := "int") (r := false) (by decide +kernel)
  | list z => exact kit_ty (a := "list") (b := "int") (r := false) (by decide +kernel)
  | tuple z => exact kit_ty (a := "tuple") (b := "int") (r := false) (by decide +kernel)
  | dict z => exact kit_ty (a := "dict") (b := "int") (r := false) (by decide +kernel)
theorem kd_bool {K : PySem.W.Frag} (d : PyData) : PySem.W.kitOne K (.type (tyD d)) (.type "bool") = some (isB d) := by
  cases d with
  | none => exact kit_ty (a := "NoneType") (b := "bool") (r := false) (by decide +kernel)
  | bool z => exact kit_ty (a := "bool") (b := "bool") (r := true) (by decide +kernel)
  | int z => exact kit_ty (a := "int") (b := "bool") (r := false) (by decide +kernel)
  | str z => exact kit_ty (a := "str") (b := "bool") (r := false) (by decide +kernel)
  | list z => exact kit_ty (a := "list") (b := "bool") (r := false) (by decide +kernel)
  | tuple z => exact kit_ty (a := "tuple") (b := "bool") (r := false) (by decide +kernel)
  | dict z => exact kit_ty (a := "dict") (b := "bool") (r := false) (by decide +kernel)
theorem kd_tuple {K : PySem.W.Frag} (d : PyData) : PySem.W.kitOne K (.type (tyD d)) (.type "tuple") = some (isT d) := by
  cases d with
  | none => exact kit_ty (a := "NoneType") (b := "tuple") (r := false) (by decide +kernel)
  | bool z => exact kit_ty (a := "bool") (b := "tuple") (r := false) (by decide +kernel)
  | int z => exact kit_ty (a := "int") (b := "tuple") (r := false) (by decide +kernel)
  | str z => exact kit_ty (a := "str") (b := "tuple") (r := false) (by decide +kernel)
  | list z => exact kit_ty (a := "list") (b := "tuple") (r := false) (by decide +kernel)
  | tuple z => exact kit_ty (a := "tuple") (b := "tuple") (r := true) (by decide +kernel)
  | dict z => exact kit_ty (a := "dict") (b := "tuple") (r := false) (by decide +kernel)
theorem w_isD {K : PySem.W.Frag} {sa : Addr} {H : Hp} {Q : VK} {x : V} {d : PyData} {u : String} {b : Bool} (r : Rp sa H x d) (k : PySem.W.kitOne K (.type (tyD d)) (.type u) = some b) (h : Q (.bl b) H) : rIsi K [x, .ty u] H Q := ⟨x, .ty u, _, .type u, b, rfl, .ty u, r.ty, k, h⟩
/-- the bottom of what may be a fraction is not too great -/
def Fit (d : PyData) : Prop := ∀ a b : Int, d = .tuple [.int a, .int b] → b.natAbs.log2 < 9000
def f_isI : List PyData → PyData
  | [d] => .bool (isI d)
  | _ => .none
def f_isF : List PyData → PyData
  | [d] => .bool (isF d)
  | _ => .none
abbrev sp_isI : Sp := Pf (fun ds => ∃ d, ds = [d]) f_isI
abbrev sp_isF : Sp := Pf (fun ds => ∃ d, ds = [d] ∧ Fit d) f_isF
section
variable {b : Bool} {sa : Addr} {H0 H : Hp} {acc : List V} {dacc : List PyData} {Q : VK} {E : XK} {x : V} {d : PyData}
theorem c_isI (W : Wd b sa H0 H acc dacc) (r : Rp sa H x d) (h : ∀ H', Wd b sa H0 H' acc dacc → Q (.bl (isI d)) H') : sp_isI [x] H Q E :=
  call_P (ds := [d]) W (.cons r .nil) ⟨d, rfl⟩ fun H' => v_bl fun W' => h H' (W'.sub (by cases W'.r; assumption))
theorem c_isF (W : Wd b sa H0 H acc dacc) (r : Rp sa H x d) (f : Fit d) (h : ∀ H', Wd b sa H0 H' acc dacc → Q (.bl (isF d)) H') : sp_isF [x] H Q E :=
  call_P (ds := [d]) W (.cons r .nil) ⟨d, rfl, f⟩ fun H' => v_bl fun W' => h H' (W'.sub (by cases W'.r; assumption))
end
theorem rp_isI {sa : Addr} {H : Hp} {x : V} {d : PyData} (r : Rp sa H x d) (h : isI d = true) : ∃ n, d = .int n ∧ x = .int n := by
  cases r with
  | int i => exact ⟨i, rfl, rfl⟩
  | _ => cases h
local macro_rules | `(tactic| walk_at "call1") => `(tactic| first
  | ((with_reducible show sp_isI _ _ _ _); (with_reducible apply c_isI); (focus assumption); (focus (walk_at "rp")); intro _ _)
  | dsimp only [isI_n, isI_b, isI_i, isI_s, isI_l, isI_t, isI_d])
section
variable {P : Program} {w : World} {K : PySem.W.Frag} {mg : Str → Option Value} {base : Heap}
theorem ok_law_is_integer {f : Addr} {fd : FuncData} (F : Fun K "_law_is_integer" "_law_is_integer" s_law_is_integer f fd) (nb : Nb mg) : FnOk P w K mg base CX0 1 f fd ["thing"] sp_isI := by
  have sc := sc_law_is_integer
  refine F.ok sc (fun vs H Q E h => ?_) (fun cdv A outer s H vs Q E hr h => ?_)
  · obtain ⟨sa, ds, t, r, ⟨d, rfl⟩, q⟩ := h
    exact r.lens
  · obtain ⟨sa, ds, t, r, ⟨d, rfl⟩, q⟩ := h
    obtain ⟨x, rfl, r0⟩ := rps1 r
    refine ⟨_, (pss_one (ps_ret (pe_and (pe_callB call_isi (by rfl) nb.isinstance (by decide +kernel) (pa_cons (pv 0) (pa_cons (pe_bltn (v := .ty "int") (u := .type "int") (by rfl) nb.int (by decide +kernel) rfl) pa_nil))) (pe_one (pe_not (pe_callB call_isi (by rfl) nb.isinstance (by decide +kernel) (pa_cons (pv 0) (pa_cons (pe_bltn (v := .ty "bool") (u := .type "bool") (by rfl) nb.bool (by decide +kernel) rfl) pa_nil)))))))), ?_⟩
    (rw [show start ["thing"] [x] = [some (x)] from rfl]; try dsimp only [cxOf])
    have fin : Q (.bl (isI d)) H := q H _ (Same.refl H) (.bl _)
    walk_at "w"
    refine w_isD r0 (kd_int d) ?_
    walk_at "w"
    cases d <;> first
      | exact iteF fin
      | (refine iteT ?_; walk_at "w"; refine w_isD r0 (kd_bool _) ?_; walk_at "w"; exact fin)
theorem ok_law_is_frac {f : Addr} {fd : FuncData} (F : Fun K "_law_is_frac" "_law_is_frac" s_law_is_frac f fd) (nb : Nb mg) (d_law_is_integer : Df P w K mg base CX0 1 "_law_is_integer" ["thing"] sp_isI) (d_law_low : Df P w K mg base CX0 1 "_law_low" ["top", "bottom"] sp_low) : FnOk P w K mg base CX0 2 f fd ["thing"] sp_isF := by
  have sc := sc_law_is_frac
  refine F.ok sc (fun vs H Q E h => ?_) (fun cdv A outer s H vs Q E hr h => ?_)
  · obtain ⟨sa, ds, t, r, ⟨d, rfl, _⟩, q⟩ := h
    exact r.lens
  · obtain ⟨sa, ds, t, r, ⟨d, rfl, fit⟩, q⟩ := h
    obtain ⟨x, rfl, r0⟩ := rps1 r
    · refine ⟨_, (pss_cons (ps_if (PW.pt (pw_or (pt_not (pt_val (pe_callB call_isi (by rfl) nb.isinstance (by decide +kernel) (pa_cons (pv 0) (pa_cons (pe_bltn (v := .ty "tuple") (u := .type "tuple") (by rfl) nb.tuple (by decide +kernel) rfl) pa_nil))))) (pw_or1 (pt_cmpR op_ne (pe_callB cq_len (by rfl) nb.len (by decide +kernel) (pa_cons (pv 0) pa_nil)) pe_int (nomark _))))) (pss_one (ps_ret pe_bl)) pss_nil)
    (pss_cons (ps_if (PW.pt (pw_or (pt_not (pt_val (pe_call d_law_is_integer.F (hr.mono (by decide)) (by rfl) d_law_is_integer.g d_law_is_integer.kp d_law_is_integer.b .nil pass0 (pa_cons (pe_ix ix_tup (pv 0) pe_int (fun _ _ => rfl)) pa_nil)))) (pw_or (pt_not (pt_val (pe_call d_law_is_integer.F (hr.mono (by decide)) (by rfl) d_law_is_integer.g d_law_is_integer.kp d_law_is_integer.b .nil pass0 (pa_cons (pe_ix ix_tup (pv 0) pe_int (fun _ _ => rfl)) pa_nil)))) (pw_or1 (pt_cmpR op_lt (pe_ix ix_tup (pv 0) pe_int (fun _ _ => rfl)) pe_int (nomark _)))))) (pss_one (ps_ret pe_bl)) pss_nil)
    (pss_one (ps_ret (pe_cmpR (op_eqD hr.units) (pe_call d_law_low.F (hr.mono (by decide)) (by rfl) d_law_low.g d_law_low.kp d_law_low.b .nil pass0 (pa_cons (pe_ix ix_tup (pv 0) pe_int (fun _ _ => rfl)) (pa_cons (pe_ix ix_tup (pv 0) pe_int (fun _ _ => rfl)) pa_nil))) (pv 0) (nomark _)))))), ?_⟩
      (rw [show start ["thing"] [x] = [some (x)] from rfl]; try dsimp only [cxOf])
      have W := wd_start t (.cons r0 .nil)
      have fin : ∀ H', Same H H' → Q (.bl (isF d)) H' := fun H' s => q H' _ s (.bl _)
      walk_at "w"
      refine w_isD r0 (kd_tuple d) ?_
      walk_at "w"
      cases d with
      | tuple ds =>
        obtain ⟨p, rfl⟩ : ∃ p, x = .ref p := by
          cases r0
          exact ⟨_, rfl⟩
        refine iteF ?_
        walk_at "w"
        refine w_ifn (fun h2 => ?_) (fun h2 => ?_)
        · walk_at "w"
          have e : isF (.tuple ds) = false := by
            unfold isF
            split
            · next e =>
              injection e with e
              subst e
              exact absurd rfl h2
            · rfl
          rw [e] at fin
          exact fin H (Same.refl H)
        · match ds, h2 with
          | [d0, d1], _ =>
            walk_at "w"
            rename_i x0 W0 _ W1
            refine w_if (fun h3 => ?_) (fun h3 => ?_)
            · walk_at "w"
              have e : isF (.tuple [d0, d1]) = false := by cases d0 <;> first | rfl | cases h3
              rw [e] at fin
              exact fin _ (W1.same rfl)
            · have e0 : isI d0 = true := by cases e : isI d0 <;> rw [e] at h3 <;> first | rfl | cases h3
              obtain ⟨a, rfl, rfl⟩ := rp_isI (W1.get In2.here) e0
              walk_at "w"
              rename_i x1 W2 _ W3
              refine w_if (fun h4 => ?_) (fun h4 => ?_)
              · walk_at "w"
                have e : isF (.tuple [.int a, d1]) = false := by cases d1 <;> first | rfl | cases h4
                rw [e] at fin
                exact fin _ (W3.same rfl)
              · have e1 : isI d1 = true := by cases e : isI d1 <;> rw [e] at h4 <;> first | rfl | cases h4
                obtain ⟨b, rfl, rfl⟩ := rp_isI (W3.get In2.here) e1
                walk_at "w"
                refine w_ifd (fun h5 => ?_) (fun h5 => ?_)
                · walk_at "w"
                  have e : isF (.tuple [.int a, .int b]) = false := decide_eq_false fun z => by omega
                  rw [e] at fin
                  exact fin _ (W3.same rfl)
                · have b1 : 1 ≤ b := by omega
                  walk_at "w"
                  refine c_low W3 (by omega) (fit a b rfl) fun H' q W4 => ?_
                  walk_at "w"
                  have e : PyData.eqv (.tuple [.int (nt a b), .int (bN a b)]) (.tuple [.int a, .int b]) = isF (.tuple [.int a, .int b]) := by
                    by_cases l : Low a b
                    · rw [nt_id l, nb_id l]
                      exact (eqv_pair).trans ((decide_eq_true ⟨rfl, rfl⟩).trans (decide_eq_true ⟨l.pos, l.one⟩).symm)
                    · exact (eqv_pair).trans ((decide_eq_false fun z => l (low_of b1 z.2)).trans (decide_eq_false fun z => l ⟨z.1, z.2⟩).symm)
                  have d1 := (W4.get In2.here).dp (K := K) rfl
                  have d2 := (W4.get (show In2 (.ref p) (.tuple [.int a, .int b]) _ _ by walk_at "in2")).dp (K := K) rfl
                  refine ⟨_, _, d1, d2, rfl, rfl, ?_⟩
                  rw [e]
                  exact fin _ (W4.same rfl)
      | _ =>
        refine iteT ?_
        walk_at "w"
        exact fin H (Same.refl H)
end

section
variable {P : Program} {w : World} {K : PySem.W.Frag} {mg : Str → Option Value} {base : Heap}
theorem ok_is_integer {f : Addr} {fd : FuncData} (F : Fun K "is_integer" "is_integer" s_is_integer f fd) (nb : Nb mg) : FnOk P w K mg base CX0 1 f fd ["thing"] sp_isI := by
  have sc := sc_is_integer
  refine F.ok sc (fun vs H Q E h => ?_) (fun cdv A outer s H vs Q E hr h => ?_)
  · obtain ⟨sa, ds, t, r, ⟨d, rfl⟩, q⟩ := h
    exact r.lens
  · obtain ⟨sa, ds, t, r, ⟨d, rfl⟩, q⟩ := h
    obtain ⟨x, rfl, r0⟩ := rps1 r
    refine ⟨_, (pss_one (ps_ret (pe_and (pe_callB call_isi (by rfl) nb.isinstance (by decide +kernel) (pa_cons (pv 0) (pa_cons (pe_bltn (v := .ty "int") (u := .type "int") (by rfl) nb.int (by decide +kernel) rfl) pa_nil))) (pe_one (pe_not (pe_callB call_isi (by rfl) nb.isinstance (by decide +kernel) (pa_cons (pv 0) (pa_cons (pe_bltn (v := .ty "bool") (u := .type "bool") (by rfl) nb.bool (by decide +kernel) rfl) pa_nil)))))))), ?_⟩
    (rw [show start ["thing"] [x] = [some (x)] from rfl]; try dsimp only [cxOf])
    have fin : Q (.bl (isI d)) H := q H _ (Same.refl H) (.bl _)
    walk_at "w"
    refine w_isD r0 (kd_int d) ?_
    walk_at "w"
    cases d <;> first
      | exact iteF fin
      | (refine iteT ?_; walk_at "w"; refine w_isD r0 (kd_bool _) ?_; walk_at "w"; exact fin)
end

/-! ### fractions as data -/
abbrev Fr (a b : Int) : PyData := .tuple [.int a, .int b]
abbrev rt (x y : Int) : PyData := .tuple [.int (nt x y), .int (bN x y)]
/-- if it is a fraction, top and bottom are below 2 ^ 2000 -/
def Sz (d : PyData) : Prop := ∀ a b : Int, d = Fr a b → Bt 2000 a ∧ Bt 2000 b
theorem Sz.fit {d : PyData} (h : Sz d) : Fit d := fun a b e => (h a b e).2.log (by decide)
theorem sz_fr {a b : Int} (ha : Bt 2000 a) (hb : Bt 2000 b) : Sz (Fr a b) := fun x y e => by
  injection e with e
  injection e with e1 e2
  injection e2 with e2 e3
  injection e1 with e1
  injection e2 with e2
  subst e1 e2
  exact ⟨ha, hb⟩
theorem isF_inv {d : PyData} (h : isF d = true) : ∃ a b, d = Fr a b ∧ Low a b := by
  unfold isF at h
  split at h
  · next a b =>
    have z := of_decide_eq_true h
    exact ⟨a, b, rfl, z.1, z.2⟩
  · cases h
theorem isF_fr {a b : Int} (l : Low a b) : isF (Fr a b) = true := decide_eq_true ⟨l.pos, l.one⟩
theorem isF_rt {x y : Int} (h : y ≠ 0) : isF (rt x y) = true := isF_fr (nt_low h)
/-- two things, of which something is asked -/
def pr2 (S : PyData → Prop) (ds : List PyData) : Prop := ∃ x y, ds = [x, y] ∧ S x ∧ S y
/-- two fractions -/
def prF (X : Int → Int → Int → Int → Prop) (ds : List PyData) : Prop := ∃ a b c d, ds = [Fr a b, Fr c d] ∧ (Low a b ∧ Low c d) ∧ (Bt 2000 a ∧ Bt 2000 b ∧ Bt 2000 c ∧ Bt 2000 d) ∧ X a b c d
def bad2 : List PyData → Bool
  | [x, y] => !(isF x && isF y)
  | _ => true
def badD : List PyData → Bool
  | [x, .tuple [.int c, .int d]] => !(isF x && isF (Fr c d)) || eqB c 0
  | _ => true
def f_plus : List PyData → PyData
  | [.tuple [.int a, .int b], .tuple [.int c, .int d]] => rt (a * d + c * b) (b * d)
  | _ => .none
def f_minus : List PyData → PyData
  | [.tuple [.int a, .int b], .tuple [.int c, .int d]] => rt (a * d - c * b) (b * d)
  | _ => .none
def f_times : List PyData → PyData
  | [.tuple [.int a, .int b], .tuple [.int c, .int d]] => rt (a * c) (b * d)
  | _ => .none
def f_divided : List PyData → PyData
  | [.tuple [.int a, .int b], .tuple [.int c, .int d]] => rt (a * d) (b * c)
  | _ => .none
/-- the sign of a gap -/
def sgn (g : Int) : Int := if g = 0 then 0 else if 0 < g then 1 else -1
def f_sign : List PyData → PyData
  | [.tuple [.int a, .int b], .tuple [.int c, .int d]] => .int (sgn (a * d - c * b))
  | _ => .none
def f_tupof : List PyData → PyData
  | [.tuple l, .int n] => .bool (eqB (l.length : Int) n)
  | [_, .int _] => .bool false
  | _ => .none
abbrev sp_tupof : Sp := Pf (fun ds => ∃ d n, ds = [d, .int n]) f_tupof
abbrev sp_isFp : Sp := Pf (fun ds => ∃ d, ds = [d]) f_isF
abbrev sp_plus : Sp := Pf (prF fun _ _ _ _ => True) f_plus
abbrev sp_minus : Sp := Pf (prF fun _ _ _ _ => True) f_minus
abbrev sp_times : Sp := Pf (prF fun _ _ _ _ => True) f_times
abbrev sp_divided : Sp := Pf (prF fun _ _ c _ => c ≠ 0) f_divided
abbrev sp_two (C : Addr) : Sp := Px C (pr2 fun _ => True) bad2 fun _ => .none
abbrev sp_frac_add (C : Addr) : Sp := Px C (pr2 Sz) bad2 f_plus
abbrev sp_frac_sub (C : Addr) : Sp := Px C (pr2 Sz) bad2 f_minus
abbrev sp_frac_mul (C : Addr) : Sp := Px C (pr2 Sz) bad2 f_times
abbrev sp_frac_div (C : Addr) : Sp := Px C (pr2 Sz) badD f_divided
abbrev sp_frac_sign (C : Addr) : Sp := Px C (pr2 Sz) bad2 f_sign
theorem bad2_inv {x y : PyData} (h : bad2 [x, y] = false) : ∃ a b c d, x = Fr a b ∧ y = Fr c d ∧ Low a b ∧ Low c d := by
  have z : (isF x && isF y) = true := by
    have h : (!(isF x && isF y)) = false := h
    cases e : (isF x && isF y) with
    | true => rfl
    | false =>
      rw [e] at h
      cases h
  rw [Bool.and_eq_true] at z
  obtain ⟨a, b, rfl, l1⟩ := isF_inv z.1
  obtain ⟨c, d, rfl, l2⟩ := isF_inv z.2
  exact ⟨a, b, c, d, rfl, rfl, l1, l2⟩
section
variable {b : Bool} {sa : Addr} {H0 H : Hp} {acc : List V} {dacc : List PyData} {Q : VK} {E : XK} {x : V} {d : PyData}
theorem c_isFp (W : Wd b sa H0 H acc dacc) (r : Rp sa H x d) (h : ∀ H', Wd b sa H0 H' acc dacc → Q (.bl (isF d)) H') : sp_isFp [x] H Q E :=
  call_P (ds := [d]) W (.cons r .nil) ⟨d, rfl⟩ fun H' => v_bl fun W' => h H' (W'.sub (by cases W'.r; assumption))
theorem c_tupof {n : Int} (W : Wd b sa H0 H acc dacc) (r : Rp sa H x d) (h : ∀ H' k, f_tupof [d, .int n] = .bool k → Wd b sa H0 H' acc dacc → Q (.bl k) H') : sp_tupof [x, .int n] H Q E :=
  call_P (ds := [d, .int n]) W (.cons r (.cons (.int n) .nil)) ⟨d, n, rfl⟩ fun H' => by
    have e : ∃ k, f_tupof [d, .int n] = .bool k := by cases d <;> exact ⟨_, rfl⟩
    obtain ⟨k, e⟩ := e
    rw [e]
    exact v_bl fun W' => h H' k e (W'.sub (by cases W'.r; assumption))
end
local macro_rules | `(tactic| walk_at "call1") => `(tactic| first
  | ((with_reducible show sp_isFp _ _ _ _); (with_reducible apply c_isFp); (focus assumption); (focus (walk_at "rp")); intro _ _)
  | ((with_reducible show sp_low _ _ _ _); (with_reducible apply c_low); (focus assumption); (focus (walk_at "ne0")); (focus (exact Bt.log (by walk_at "bt") (by decide))); intro _ _ _))
local macro_rules | `(tactic| walk_at "ne0") => `(tactic| first | assumption | omega | exact Int.ne_of_gt (by assumption))
section
variable {P : Program} {w : World} {K : PySem.W.Frag} {mg : Str → Option Value} {base : Heap}
theorem ok_is_tuple_of {f : Addr} {fd : FuncData} (F : Fun K "is_tuple_of" "is_tuple_of" s_is_tuple_of f fd) (nb : Nb mg) : FnOk P w K mg base CX0 1 f fd ["thing", "many"] sp_tupof := by
  have sc := sc_is_tuple_of
  refine F.ok sc (fun vs H Q E h => ?_) (fun cdv A outer s H vs Q E hr h => ?_)
  · obtain ⟨sa, ds, t, r, ⟨d, n, rfl⟩, q⟩ := h
    exact r.lens
  · obtain ⟨sa, ds, t, r, ⟨d, n, rfl⟩, q⟩ := h
    obtain ⟨x, y, rfl, r0, r1⟩ := rps2 r
    obtain rfl : y = .int n := by cases r1; rfl
    refine ⟨_, (pss_one (ps_ret (pe_and (pe_callB call_isi (by rfl) nb.isinstance (by decide +kernel) (pa_cons (pv 0) (pa_cons (pe_bltn (v := .ty "tuple") (u := .type "tuple") (by rfl) nb.tuple (by decide +kernel) rfl) pa_nil))) (pe_one (pe_cmpR op_eq (pe_callB cq_len (by rfl) nb.len (by decide +kernel) (pa_cons (pv 0) pa_nil)) (pv 1) (nomark _)))))), ?_⟩
    (rw [show start ["thing", "many"] [x, .int n] = [some (x), some (.int n)] from rfl]; try dsimp only [cxOf])
    have W := wd_start t (.cons r0 .nil)
    walk_at "w"
    refine w_isD r0 (kd_tuple d) ?_
    walk_at "w"
    cases d with
    | tuple l =>
      obtain ⟨p, rfl⟩ : ∃ p, x = .ref p := by
        cases r0
        exact ⟨_, rfl⟩
      refine iteT ?_
      walk_at "w"
      exact q H _ (Same.refl H) (.bl _)
    | _ => exact iteF (q H _ (Same.refl H) (.bl _))
theorem ok_is_fraction {f : Addr} {fd : FuncData} (F : Fun K "is_fraction" "is_fraction" s_is_fraction f fd) (nb : Nb mg) (mi_gcd : mg "gcd" = some (.builtin "math.gcd")) (d_is_tuple_of : Df P w K mg base CX0 1 "is_tuple_of" ["thing", "many"] sp_tupof) (d_is_integer : Df P w K mg base CX0 1 "is_integer" ["thing"] sp_isI) : FnOk P w K mg base CX0 2 f fd ["thing"] sp_isFp := by
  have sc := sc_is_fraction
  refine F.ok sc (fun vs H Q E h => ?_) (fun cdv A outer s H vs Q E hr h => ?_)
  · obtain ⟨sa, ds, t, r, ⟨d, rfl⟩, q⟩ := h
    exact r.lens
  · obtain ⟨sa, ds, t, r, ⟨d, rfl⟩, q⟩ := h
    obtain ⟨x, rfl, r0⟩ := rps1 r
    refine ⟨_, (pss_cons (ps_if (pt_not (pt_val (pe_call d_is_tuple_of.F (hr.mono (by decide)) (by rfl) d_is_tuple_of.g d_is_tuple_of.kp d_is_tuple_of.b .nil pass0 (pa_cons (pv 0) (pa_cons pe_int pa_nil))))) (pss_one (ps_ret pe_bl)) pss_nil)
    (pss_cons (ps_asg (pv 0) (pg_tup (n := 2) (by rfl) (pgs_cons (pg_name (i := 1) sc.nd rfl (.inl rfl)) (pgs_cons (pg_name (i := 2) sc.nd rfl (.inl rfl)) pgs_nil))))
    (pss_cons (ps_if (PW.pt (pw_or (pt_not (pt_val (pe_call d_is_integer.F (hr.mono (by decide)) (by rfl) d_is_integer.g d_is_integer.kp d_is_integer.b .nil pass0 (pa_cons (pv 1) pa_nil)))) (pw_or (pt_not (pt_val (pe_call d_is_integer.F (hr.mono (by decide)) (by rfl) d_is_integer.g d_is_integer.kp d_is_integer.b .nil pass0 (pa_cons (pv 2) pa_nil)))) (pw_or1 (pt_cmpR op_lt (pv 2) pe_int (nomark _)))))) (pss_one (ps_ret pe_bl)) pss_nil)
    (pss_one (ps_ret (pe_cmpR op_eq (pe_callBfun cr_gcd (by rfl) mi_gcd (pa_cons (pv 1) (pa_cons (pv 2) pa_nil))) pe_int (nomark _))))))), ?_⟩
    (rw [show start ["thing", "top", "bottom"] [x] = [some (x), none, none] from rfl]; try dsimp only [cxOf])
    have W := wd_start t (.cons r0 .nil)
    have fin : ∀ H', Same H H' → Q (.bl (isF d)) H' := fun H' s => q H' _ s (.bl _)
    walk_at "w"
    refine c_tupof W r0 fun H1 k hk W1 => ?_
    walk_at "w"
    cases k with
    | false =>
      walk_at "w"
      have e : isF d = false := by
        unfold isF
        split
        · exact absurd (show eqB 2 2 = false from PyData.bool.inj hk) (by rw [eqT rfl]; exact Bool.noConfusion)
        · rfl
      rw [e] at fin
      exact fin _ (W1.same rfl)
    | true =>
      obtain ⟨d0, d1, rfl⟩ : ∃ d0 d1, d = .tuple [d0, d1] := by
        cases d with
        | tuple l =>
          have e : (l.length : Int) = 2 := eqB_t (PyData.bool.inj hk)
          match l, e with
          | [d0, d1], _ => exact ⟨d0, d1, rfl⟩
        | _ => cases hk
      obtain ⟨p, rfl⟩ : ∃ p, x = .ref p := by
        cases r0
        exact ⟨_, rfl⟩
      walk_at "w"
      rename_i x0 x1 W2 _ W3
      refine w_if (fun h3 => ?_) (fun h3 => ?_)
      · walk_at "w"
        have e : isF (.tuple [d0, d1]) = false := by cases d0 <;> first | rfl | cases h3
        rw [e] at fin
        exact fin _ (W3.same rfl)
      · have e0 : isI d0 = true := by cases e : isI d0 <;> rw [e] at h3 <;> first | rfl | cases h3
        obtain ⟨a, rfl, rfl⟩ := rp_isI (W3.get (.there .here)) e0
        walk_at "w"
        rename_i W4
        refine w_if (fun h4 => ?_) (fun h4 => ?_)
        · walk_at "w"
          have e : isF (.tuple [.int a, d1]) = false := by cases d1 <;> first | rfl | cases h4
          rw [e] at fin
          exact fin _ (W4.same rfl)
        · have e1 : isI d1 = true := by cases e : isI d1 <;> rw [e] at h4 <;> first | rfl | cases h4
          obtain ⟨b, rfl, rfl⟩ := rp_isI (W4.get .here) e1
          walk_at "w"
          refine w_ifd (fun h5 => ?_) (fun h5 => ?_)
          · walk_at "w"
            have e : isF (.tuple [.int a, .int b]) = false := decide_eq_false fun z => by omega
            rw [e] at fin
            exact fin _ (W4.same rfl)
          · walk_at "w"
            have e : isF (.tuple [.int a, .int b]) = eqB ((Nat.gcd a.natAbs b.natAbs : Nat) : Int) 1 := by
              by_cases g : Nat.gcd a.natAbs b.natAbs = 1
              · rw [eqT (show ((Nat.gcd a.natAbs b.natAbs : Nat) : Int) = 1 by omega)]
                exact decide_eq_true ⟨by omega, g⟩
              · rw [eqF (show ¬ ((Nat.gcd a.natAbs b.natAbs : Nat) : Int) = 1 by omega)]
                exact decide_eq_false fun z => g z.2
            rw [← e]
            exact fin _ (W4.same rfl)
end

section
variable {P : Program} {w : World} {K : PySem.W.Frag} {mg : Str → Option Value} {base : Heap}
theorem ok_plus {f : Addr} {fd : FuncData} (F : Fun K "plus" "plus" s_plus f fd) (d_lowest : Df P w K mg base CX0 1 "lowest" ["top", "bottom"] sp_low) : FnOk P w K mg base CX0 2 f fd ["one", "other"] sp_plus := by
  have sc := sc_plus
  refine F.ok sc (fun vs H Q E h => ?_) (fun cdv A outer s H vs Q E hr h => ?_)
  · obtain ⟨sa, ds, t, r, ⟨a, b, c, d, rfl, _⟩, q⟩ := h
    exact r.lens
  · obtain ⟨sa, ds, t, r, ⟨a, b, c, d, rfl, ⟨l1, l2⟩, ⟨ba, bb, bc, bd⟩, xc⟩, q⟩ := h
    obtain ⟨x, y, rfl, r0, r1⟩ := rps2 r
    obtain ⟨p, rfl⟩ : ∃ p, x = .ref p := by cases r0; exact ⟨_, rfl⟩
    obtain ⟨p2, rfl⟩ : ∃ p, y = .ref p := by cases r1; exact ⟨_, rfl⟩
    refine ⟨_, (pss_one (ps_ret (pe_call d_lowest.F (hr.mono (by decide)) (by rfl) d_lowest.g d_lowest.kp d_lowest.b .nil pass0 (pa_cons (pe_op op_add (pe_op op_mulX (pe_ix ix_tup (pv 0) pe_int (fun _ _ => rfl)) (pe_ix ix_tup (pv 1) pe_int (fun _ _ => rfl))) (pe_op op_mulX (pe_ix ix_tup (pv 1) pe_int (fun _ _ => rfl)) (pe_ix ix_tup (pv 0) pe_int (fun _ _ => rfl)))) (pa_cons (pe_op op_mulX (pe_ix ix_tup (pv 0) pe_int (fun _ _ => rfl)) (pe_ix ix_tup (pv 1) pe_int (fun _ _ => rfl))) pa_nil))))), ?_⟩
    (rw [show start ["one", "other"] [.ref p, .ref p2] = [some (.ref p), some (.ref p2)] from rfl]; try dsimp only [cxOf])
    have W := wd_start t (.cons r0 (.cons r1 .nil))
    have nz : b * d ≠ 0 := (Int.mul_ne_zero (by have := l1.pos; omega) (by have := l2.pos; omega))
    walk_at "w"
    rename_i H1 p3 W3
    exact q _ _ (W3.same rfl) (W3.get .here)
theorem ok_check_two {f C : Addr} {fd : FuncData} (F : Fun K "check_two" "check_two" s_check_two f fd) (c_NoFraction : Ex0 P w K mg base "NoFraction" C) (d_is_fraction : Df P w K mg base CX0 2 "is_fraction" ["thing"] sp_isFp) : FnOk P w K mg base (L2.CX P w) 4 f fd ["one", "other"] (sp_two C) := by
  have sc := sc_check_two
  refine F.okX sc (fun vs H Q E h => ?_) (fun cdv A outer s H vs Q E hr h => ?_)
  · obtain ⟨sa, ds, t, r, ⟨x, y, rfl, _⟩, _⟩ := h
    exact r.lens
  · obtain ⟨sa, ds, t, r, ⟨d, e, rfl, _⟩, no, q⟩ := h
    obtain ⟨x, y, rfl, r0, r1⟩ := rps2 r
    refine ⟨_, (pss_one (ps_if (PW.pt (pw_or (pt_not (pt_val (pe_call d_is_fraction.F (hr.mono (by decide)) (by rfl) d_is_fraction.g d_is_fraction.kp d_is_fraction.b .nil pass0 (pa_cons (pv 0) pa_nil)))) (pw_or1 (pt_not (pt_val (pe_call d_is_fraction.F (hr.mono (by decide)) (by rfl) d_is_fraction.g d_is_fraction.kp d_is_fraction.b .nil pass0 (pa_cons (pv 1) pa_nil))))))) (pss_one (ps_raise rfl (takes_of rfl rfl rfl rfl) (pmk0 c_NoFraction (hr.mono (by decide)) (by rfl)))) pss_nil)), ?_⟩
    (rw [show start ["one", "other"] [x, y] = [some (x), some (y)] from rfl]; try dsimp only [cxOf])
    have W := wd_start t (.cons r0 (.cons r1 .nil))
    walk_at "w"
    rename_i H1 W1
    cases h1 : isF d with
    | false =>
      walk_at "w"
      refine no ?_ _ (W1.same rfl)
      show (!(isF d && isF e)) = true
      rw [h1]
      rfl
    | true =>
      walk_at "w"
      rename_i H2 W2
      cases h2 : isF e with
      | false =>
        walk_at "w"
        refine no ?_ _ (W2.same rfl)
        show (!(isF d && isF e)) = true
        rw [h1, h2]
        rfl
      | true =>
        walk_at "w"
        refine q ?_ _ _ (W2.same rfl) .non
        show (!(isF d && isF e)) = false
        rw [h1, h2]
        rfl
theorem ok_frac_add {f C : Addr} {fd : FuncData} (F : Fun K "frac_add" "frac_add" s_frac_add f fd) (d_check_two : Df P w K mg base (L2.CX P w) 4 "check_two" ["one", "other"] (sp_two C)) (d_plus : Df P w K mg base CX0 2 "plus" ["one", "other"] sp_plus) : FnOk P w K mg base (L2.CX P w) 5 f fd ["one", "other"] (sp_frac_add C) := by
  have sc := sc_frac_add
  refine F.okX sc (fun vs H Q E h => ?_) (fun cdv A outer s H vs Q E hr h => ?_)
  · obtain ⟨sa, ds, t, r, ⟨x, y, rfl, _⟩, _⟩ := h
    exact r.lens
  · obtain ⟨sa, ds, t, r, ⟨d, e, rfl, z1, z2⟩, no, q⟩ := h
    obtain ⟨x, y, rfl, r0, r1⟩ := rps2 r
    refine ⟨_, (pss_cons (ps_expr (pe_callS d_check_two.F (hr.mono (by decide)) (by rfl) d_check_two.g d_check_two.kp d_check_two.b (fun σ => passAt (takes_of rfl rfl rfl rfl) σ) (pa_cons (pv 0) (pa_cons (pv 1) pa_nil))))
    (pss_one (ps_ret (pe_call d_plus.F (hr.mono (by decide)) (by rfl) d_plus.g d_plus.kp d_plus.b .nil pass0 (pa_cons (pv 0) (pa_cons (pv 1) pa_nil)))))), ?_⟩
    (rw [show start ["one", "other"] [x, y] = [some (x), some (y)] from rfl]; try dsimp only [cxOf])
    have W := wd_start t (.cons r0 (.cons r1 .nil))
    walk_at "w"
    refine call_X (ds := [d, e]) W (.cons r0 (.cons r1 .nil)) ⟨d, e, rfl, trivial, trivial⟩ (fun hb H' W1 => no hb _ (W1.same rfl)) fun hb H1 => v_non fun W1 => ?_
    obtain ⟨a, b, c, d, rfl, rfl, l1, l2⟩ := bad2_inv hb
    obtain ⟨ba, bb⟩ := z1 a b rfl
    obtain ⟨bc, bd⟩ := z2 c d rfl
    walk_at "w"
    refine call_P (ds := [Fr a b, Fr c d]) W1 (.cons (W1.get (.there .here)) (.cons (W1.get (.there (.there .here))) .nil)) ⟨a, b, c, d, rfl, ⟨l1, l2⟩, ⟨ba, bb, bc, bd⟩, trivial⟩ fun H2 => v_tup fun p W2 => ?_
    exact q hb _ _ (W2.same rfl) (W2.get .here)
theorem badD_of {x : PyData} {c d : Int} (h : bad2 [x, Fr c d] = true) : badD [x, Fr c d] = true := by
  have h : (!(isF x && isF (Fr c d))) = true := h
  show (!(isF x && isF (Fr c d)) || eqB c 0) = true
  rw [h]
  rfl
theorem badD_two {x y : PyData} (h : bad2 [x, y] = true) : badD [x, y] = true := by
  unfold badD
  split
  · next e =>
    injection e with e1 e2
    injection e2 with e2 _
    subst e1 e2
    exact badD_of h
  · rfl
end

/-! ### drawn fractions -/
/-- a fraction in lowest terms, top and bottom below 10 ^ 39 and somewhat -/
abbrev RFr : List PyData → PyData → Prop := fun _ d => ∃ a b, d = Fr a b ∧ Low a b ∧ Bt 131 a ∧ Bt 131 b
abbrev sp_lfraction : Sp := Sf (fun ds => ds = []) RFr
theorem bt_nt {k : Nat} {x y : Int} (h : y ≠ 0) (b : Bt k x) : Bt k (nt x y) := b.le (nt_le h)
theorem bt_bN {k : Nat} {x y : Int} (h : y ≠ 0) (b : Bt k y) : Bt k (bN x y) := b.le (nb_le h)
theorem rfr_rt {x y : Int} (h : y ≠ 0) (bx : Bt 131 x) (by_ : Bt 131 y) : ∃ a b, rt x y = Fr a b ∧ Low a b ∧ Bt 131 a ∧ Bt 131 b := ⟨_, _, rfl, nt_low h, bt_nt h bx, bt_bN h by_⟩
section
variable {P : Program} {w : World} {K : PySem.W.Frag} {mg : Str → Option Value} {base : Heap}
end

/-! ### fractions of known size: what the sums and products of them are -/
structure Fq (k : Nat) (a b : Int) : Prop where
  low : Low a b
  ba : Bt k a
  bb : Bt k b
theorem Fq.mono {k l : Nat} {a b : Int} (f : Fq k a b) (e : k ≤ l) : Fq l a b := ⟨f.low, f.ba.mono e, f.bb.mono e⟩
theorem fq_rt {k : Nat} {x y : Int} (h : y ≠ 0) (bx : Bt k x) (by_ : Bt k y) : Fq k (nt x y) (bN x y) := ⟨nt_low h, bt_nt h bx, bt_bN h by_⟩
theorem Fq.ne {k : Nat} {a b : Int} (f : Fq k a b) : b ≠ 0 := by
  have := f.low.pos
  omega
/-- one pair for each value -/
theorem low_uni {a b c d : Int} (l : Low a b) (m : Low c d) (e : a * d = c * b) : a = c ∧ b = d := by
  have hb : b ∣ d := by
    have h1 : b.natAbs ∣ a.natAbs * d.natAbs := by
      rw [← Int.natAbs_mul, e, Int.natAbs_mul]
      exact Nat.dvd_mul_left _ _
    exact Int.natAbs_dvd_natAbs.mp ((Nat.Coprime.symm l.one).dvd_of_dvd_mul_left h1)
  have hd : d ∣ b := by
    have h1 : d.natAbs ∣ c.natAbs * b.natAbs := by
      rw [← Int.natAbs_mul, ← e, Int.natAbs_mul]
      exact Nat.dvd_mul_left _ _
    exact Int.natAbs_dvd_natAbs.mp ((Nat.Coprime.symm m.one).dvd_of_dvd_mul_left h1)
  have p1 := l.pos
  have p2 := m.pos
  have ebd : b = d := Int.le_antisymm (Int.le_of_dvd (by omega) hb) (Int.le_of_dvd (by omega) hd)
  subst ebd
  exact ⟨Int.eq_of_mul_eq_mul_right (by omega) e, rfl⟩

/-! ### roots -/
def f_root : List PyData → PyData
  | [.int n] => if n < 0 then .none else if Float64.isqrt n.toNat * Float64.isqrt n.toNat = n.toNat then .int ((Float64.isqrt n.toNat : Nat) : Int) else .none
  | _ => .none
theorem f_root_neg {n : Int} (h : n < 0) : f_root [.int n] = .none := if_pos h
theorem f_root_sq {r : Nat} : f_root [.int ((r : Int) * r)] = .int (r : Int) := by
  have e : ((r : Int) * r).toNat = r * r := by
    rw [← Int.natCast_mul]
    rfl
  unfold f_root
  simp only []
  rw [if_neg (by have := Int.natCast_nonneg (r * r); rw [Int.natCast_mul] at this; omega), e, isqrt_sq, if_pos rfl]
theorem f_root_no {n : Int} (h : ∀ r : Nat, n ≠ (r : Int) * r) : f_root [.int n] = .none := by
  unfold f_root
  simp only []
  by_cases h0 : n < 0
  · rw [if_pos h0]
  · rw [if_neg h0, if_neg fun e => h (Float64.isqrt n.toNat) (by
      rw [← Int.natCast_mul, e]
      omega)]
/-- either a square, or no root -/
theorem root_cases (n : Int) : (∃ r : Nat, n = (r : Int) * r) ∨ ∀ r : Nat, n ≠ (r : Int) * r := by
  by_cases h : ∃ r : Nat, n = (r : Int) * r
  · exact .inl h
  · exact .inr fun r e => h ⟨r, e⟩
def f_frac_root : List PyData → PyData
  | [.tuple [.int a, .int b]] => match f_root [.int a], f_root [.int b] with
    | .int t, .int u => Fr t u
    | _, _ => .none
  | _ => .none
abbrev sp_wroot : Sp := Pf (fun ds => ∃ n, ds = [.int n] ∧ Bt 8000 n) f_root
abbrev sp_lroot : Sp := Pf (fun ds => ∃ n, ds = [.int n] ∧ 0 ≤ n ∧ Bt 8000 n) f_root
abbrev sp_frac_root (C : Addr) : Sp := Px C (fun ds => ∃ d, ds = [d] ∧ Sz d) (fun ds => match ds with | [d] => !isF d | _ => true) f_frac_root
theorem bt_isq {k : Nat} {n : Int} (h : Bt k n) : Bt k ((Float64.isqrt n.toNat : Nat) : Int) := h.le (by
  have := (isqrt_ok n.toNat).1
  have le : Float64.isqrt n.toNat ≤ Float64.isqrt n.toNat * Float64.isqrt n.toNat := Nat.le_mul_self _
  omega)
theorem newt_half {n x s : Nat} (r : IsRt n s) (h : s < x) : s ≤ (x + n / x) / 2 ∧ 2 * ((x + n / x) / 2 - s) ≤ x - s := by
  have g := newt_ge (n := n) (x := x) (by omega) r.1
  have q : n / x ≤ s := by
    refine Nat.not_lt.mp fun hz => ?_
    have a1 : n / x * x ≤ n := Nat.div_mul_le_self n x
    have a2 : (s + 1) * (s + 1) ≤ n / x * x := Nat.mul_le_mul hz h
    have := r.2
    omega
  omega
section
variable {P : Program} {w : World} {K : PySem.W.Frag} {mg : Str → Option Value} {base : Heap}
theorem ok_whole_root {f : Addr} {fd : FuncData} (F : Fun K "whole_root" "whole_root" s_whole_root f fd) (mi_isqrt : mg "isqrt" = some (.builtin "math.isqrt")) : FnOk P w K mg base CX0 1 f fd ["number"] sp_wroot := by
  have sc := sc_whole_root
  refine F.ok sc (fun vs H Q E h => ?_) (fun cdv A outer s H vs Q E hr h => ?_)
  · obtain ⟨sa, ds, t, r, ⟨n, rfl, _⟩, q⟩ := h
    exact r.lens
  · obtain ⟨sa, ds, t, r, ⟨n, rfl, bn⟩, q⟩ := h
    obtain ⟨x, rfl, r0⟩ := rps1 r
    obtain rfl : x = .int n := by cases r0; rfl
    refine ⟨_, (pss_cons (ps_if (pt_cmpR op_lt (pv 0) pe_int (nomark _)) (pss_one (ps_ret pe_non)) pss_nil)
    (pss_cons (ps_asg (pe_callBfun cr_isqrt (by rfl) mi_isqrt (pa_cons (pv 0) pa_nil)) (pg_name (i := 1) sc.nd rfl (.inl rfl)))
    (pss_cons (ps_if (pt_cmpR op_ne (pe_op op_mulX (pv 1) (pv 1)) (pv 0) (nomark _)) (pss_one (ps_ret pe_non)) pss_nil)
    (pss_one (ps_ret (pv 1)))))), ?_⟩
    (rw [show start ["number", "root"] [.int n] = [some (.int n), none] from rfl]; try dsimp only [cxOf])
    have fin : ∀ v d, f_root [.int n] = d → Rp sa H v d → Q v H := fun v d e rv => q H v (Same.refl H) (by rw [e]; exact rv)
    walk_at "w"
    refine w_ifd (fun h0 => ?_) (fun h0 => ?_)
    · walk_at "w"
      exact fin _ _ (f_root_neg h0) .non
    · walk_at "w"
      refine w_isq (by omega) (by have := bn.log (by decide); rw [show n.toNat = n.natAbs by omega]; exact this) ?_
      have br := bt_isq bn
      walk_at "w"
      refine w_ifn (fun h1 => ?_) (fun h1 => ?_)
      · walk_at "w"
        refine fin _ _ ((if_neg h0).trans (if_neg fun e => h1 ?_)) .non
        rw [← Int.natCast_mul, e]
        omega
      · walk_at "w"
        refine fin _ _ ((if_neg h0).trans (if_pos ?_)) (.int _)
        rw [← Int.natCast_mul] at h1
        omega
theorem ok_law_root {f : Addr} {fd : FuncData} (F : Fun K "_law_root" "_law_root" s_law_root f fd) (nb : Nb mg) : FnOk P w K mg base CX0 1 f fd ["number"] sp_lroot := by
  have sc := sc_law_root
  refine F.ok sc (fun vs H Q E h => ?_) (fun cdv A outer s H vs Q E hr h => ?_)
  · obtain ⟨sa, ds, t, r, ⟨n, rfl, _⟩, q⟩ := h
    exact r.lens
  · obtain ⟨sa, ds, t, r, ⟨n, rfl, n0, bn⟩, q⟩ := h
    obtain ⟨x, rfl, r0⟩ := rps1 r
    obtain rfl : x = .int n := by cases r0; rfl
    refine ⟨_, (pss_cons (ps_if (pt_cmpR op_eq (pv 0) pe_int (nomark _)) (pss_one (ps_ret pe_int)) pss_nil)
    (pss_cons (ps_asg (pe_op oq_shl1 pe_int (pe_op op_fdivW (pe_op op_add (pe_bits (pv 0)) pe_int) pe_int)) (pg_name (i := 1) sc.nd rfl (.inl rfl)))
    (Evl.pss_cut (ps_for PassesOwn.never rfl (pi_range1 (by rfl) nb.range (pa_cons (pe_op op_add (pe_bits (pv 0)) pe_int) pa_nil)) (pg_name (i := 2) sc.nd rfl (.inl rfl)) (pss_cons (ps_asg (pe_op op_fdivW (pe_op op_add (pv 1) (pe_op op_fdivW (pv 0) (pv 1))) pe_int) (pg_name (i := 3) sc.nd rfl (.inl rfl)))
    (pss_cons (ps_if (pt_cmpR op_ge (pv 3) (pv 1) (nomark _)) (pss_one ps_break) pss_nil)
    (pss_one (ps_asg (pv 3) (pg_name (i := 1) sc.nd rfl (.inl rfl)))))))
    (pss_cons (ps_if (pt_cmpR op_eq (pe_op op_mulX (pv 1) (pv 1)) (pv 0) (nomark _)) (pss_one (ps_ret (pv 1))) pss_nil)
    (pss_one (ps_ret pe_non)))))), ?_⟩
    (rw [show start ["number", "root", "k", "better"] [.int n] = [some (.int n), none, none, none] from rfl]; try dsimp only [cxOf])
    have fin : ∀ v d, f_root [.int n] = d → Rp sa H v d → Q v H := fun v d e rv => q H v (Same.refl H) (by rw [e]; exact rv)
    walk_at "w"
    refine w_ifd (fun h0 => ?_) (fun h0 => ?_)
    · walk_at "w"
      refine fin _ _ ?_ (.int 0)
      rw [h0]
      exact f_root_sq (r := 0)
    · walk_at "w"
      have nn : n.natAbs = n.toNat := by omega
      generalize hN : n.toNat = N at nn
      have eN : n = (N : Int) := by omega
      have hB : Builtin.Int.intBits n = N.log2 + 1 := by
        unfold Builtin.Int.intBits
        rw [if_neg (by simpa using h0), nn]
      have N0 : N ≠ 0 := by omega
      have lN : N.log2 < 8000 := (Nat.log2_lt N0).mpr (by rw [← nn]; exact bt_def.mp bn)
      rw [hB]
      refine w_shl (by omega) (by omega) ?_
      have rs := isqrt_ok N
      generalize hs : Float64.isqrt N = s at rs
      generalize hE : (((N.log2 + 1 : Nat) : Int) + 1) / 2 = e
      have e1 : e.toNat = (N.log2 + 2) / 2 := by omega
      generalize e.toNat = E at e1
      have up : N < 2 ^ (N.log2 + 1) := (Nat.log2_lt N0).mp (Nat.lt_succ_self _)
      have s0 : s ≤ 2 ^ E := by
        have h1 : s * s < 2 ^ E * 2 ^ E + 1 := by
          rw [← Nat.pow_add]
          have : 2 ^ (N.log2 + 1) ≤ 2 ^ (E + E) := Nat.pow_le_pow_right (by decide) (by omega)
          have := rs.1
          omega
        refine Nat.not_lt.mp fun z => ?_
        have := Nat.mul_lt_mul'' z z
        omega
      have E0 : 2 ^ E < 2 ^ 4002 := Nat.pow_lt_pow_right (by decide) (by omega)
      walk_at "w"
      refine ⟨fun σ' H' => ∃ o1 o2, σ' = [some (.int n), some (.int (s : Int)), o1, o2] ∧ H' = H, ?_, ?_⟩
      · walk_at "w"
        rw [hB]
        walk_at "w"
        refine lp_range (fun i σ' H' => ∃ (x : Nat) (o1 o2 : Option V), σ' = [some (.int n), some (.int (x : Int)), o1, o2] ∧ H' = H ∧ s ≤ x ∧ 0 < x ∧ x ≤ 2 ^ E ∧ (x - s) * 2 ^ i ≤ 2 ^ E) ⟨2 ^ E, none, none, rfl, rfl, s0, Nat.pow_pos (by decide), Nat.le_refl _, by rw [Nat.pow_zero, Nat.mul_one]; omega⟩ ?_ ?_
        · rintro i σ' H' hi ⟨x, o1, o2, rfl, rfl, sx, x0, xE, xi⟩
          have cx : (0 : Int) < (x : Int) ∧ ((x : Int)).natAbs.log2 < 9000 := ⟨by omega, (Bt.log (k := 4002) (bt_def.mpr (by rw [Int.natAbs_natCast]; exact Nat.lt_of_le_of_lt xE E0)) (by decide))⟩
          walk_at "w"
          rw [eN]
          rw [← Int.natCast_ediv, ← Int.natCast_add, show (((x + N / x : Nat) : Int) / 2) = (((x + N / x) / 2 : Nat) : Int) from rfl]
          refine w_ifd (fun h1 => ?_) (fun h1 => ?_)
          · walk_at "w"
            have xs : x = s := by
              refine Nat.le_antisymm (Nat.not_lt.mp fun z => ?_) sx
              have := newt_half rs z
              omega
            subst xs
            exact ⟨_, _, rfl, rfl⟩
          · walk_at "w"
            have xs : s < x := by
              refine Nat.lt_of_le_of_ne sx fun z => h1 ?_
              have := newt_ge (n := N) (x := x) x0 rs.1
              omega
            obtain ⟨g1, g2⟩ := newt_half rs xs
            refine ⟨(x + N / x) / 2, _, _, rfl, rfl, g1, ?_, by omega, ?_⟩
            · have : 0 < s := Nat.pos_of_ne_zero fun z => by
                have := rs.2
                rw [z] at this
                omega
              omega
            · rw [Nat.pow_succ]
              have : ((x + N / x) / 2 - s) * (2 ^ i * 2) = (2 * ((x + N / x) / 2 - s)) * 2 ^ i := by grind
              rw [this]
              exact Nat.le_trans (Nat.mul_le_mul_right _ g2) xi
        · rintro σ' H' ⟨x, o1, o2, rfl, rfl, sx, x0, xE, xi⟩
          have xs : x = s := by
            refine Nat.le_antisymm (Nat.not_lt.mp fun z => ?_) sx
            have h1 : 2 ^ ((((N.log2 + 1 : Nat) : Int) + 2).toNat) ≤ (x - s) * 2 ^ ((((N.log2 + 1 : Nat) : Int) + 2).toNat) := Nat.le_mul_of_pos_left _ (by omega)
            have h2 : 2 ^ E < 2 ^ ((((N.log2 + 1 : Nat) : Int) + 2).toNat) := Nat.pow_lt_pow_right (by decide) (by omega)
            omega
          subst xs
          exact ⟨_, _, rfl, rfl⟩
      · rintro σ' H' ⟨o1, o2, rfl, rfl⟩
        have bs : Bt 8000 (s : Int) := by
          rw [← hs, ← hN]
          exact bt_isq bn
        walk_at "w"
        refine w_ifd (fun h1 => ?_) (fun h1 => ?_)
        · walk_at "w"
          refine fin _ _ ?_ (.int _)
          rw [← h1]
          exact f_root_sq
        · walk_at "w"
          refine fin _ _ (f_root_no fun r e => h1 ?_) .non
          have : N = r * r := by
            rw [← Int.natCast_mul] at e
            omega
          rw [this, isqrt_sq] at hs
          subst hs
          exact e.symm
end

/-! ### a corner of a polygon is cut off: what the numbers are -/
theorem q_pos {t : Rat} (h : 0 < t) : 0 < 1 + t * t := by
  have := Rat.mul_pos h h
  grind
theorem q_ne {t : Rat} (h : 0 < t) : 1 + t * t ≠ 0 := by
  have := q_pos h
  grind
theorem q_mul {a b : Rat} (ha : a ≠ 0) (hb : b ≠ 0) : a * b ≠ 0 := fun z => by grind
/-- v turned by the angle whose half has the tangent t -/
def rotX (t x y : Rat) : Rat := (x * (1 - t * t) - y * (2 * t)) / (1 + t * t)
def rotY (t x y : Rat) : Rat := (x * (2 * t) + y * (1 - t * t)) / (1 + t * t)
section
variable {t s p x y room : Rat}
theorem cut_cos (ht : 0 < t) (u : x * x + y * y = 1) : rotX t x y * (-x) + rotY t x y * (-y) = (t * t - 1) / (1 + t * t) := by
  have := q_ne ht
  unfold rotX rotY
  grind
theorem cut_sin (ht : 0 < t) (u : x * x + y * y = 1) : rotX t x y * (-y) - rotY t x y * (-x) = 2 * t / (1 + t * t) := by
  have := q_ne ht
  unfold rotX rotY
  grind
theorem cut_half (ht : 0 < t) : (1 + (t * t - 1) / (1 + t * t)) / (2 * t / (1 + t * t)) = t := by
  have h1 := q_ne ht
  have h2 : t ≠ 0 := by grind
  grind
theorem rot_unit (hs : 0 < s) (u : x * x + y * y = 1) : rotX s x y * rotX s x y + rotY s x y * rotY s x y = 1 := by
  have := q_ne hs
  unfold rotX rotY
  grind
def third (s t : Rat) : Rat := 2 * s / (1 + s * s) * ((t * t - 1) / (1 + t * t)) + (1 - s * s) / (1 + s * s) * (2 * t / (1 + t * t))
theorem third_eq (hs : 0 < s) (ht : 0 < t) : third s t = 2 * (t - s) * (1 + s * t) / ((1 + s * s) * (1 + t * t)) := by
  have h1 := q_ne hs
  have h2 := q_ne ht
  have h3 := q_mul h1 h2
  unfold third
  grind
theorem new_x (hs : 0 < s) (ht : 0 < t) : room * (2 * s / (1 + s * s)) * rotX t x y + room * third s t * x = room * (2 * t / (1 + t * t)) * rotX s x y := by
  have h1 := q_ne hs
  have h2 := q_ne ht
  unfold rotX third
  grind
theorem new_y (hs : 0 < s) (ht : 0 < t) : room * (2 * s / (1 + s * s)) * rotY t x y + room * third s t * y = room * (2 * t / (1 + t * t)) * rotY s x y := by
  have h1 := q_ne hs
  have h2 := q_ne ht
  unfold rotY third
  grind
theorem rot_rot_x {r : Rat} (hs : 0 < s) (ht : 0 < t) (hr : 0 < r) (e : r * (1 + s * t) = t - s) : rotX r (rotX s x y) (rotY s x y) = rotX t x y := by
  have h1 := q_ne hs
  have h2 := q_ne ht
  have h3 := q_ne hr
  unfold rotX rotY
  grind
theorem rot_rot_y {r : Rat} (hs : 0 < s) (ht : 0 < t) (hr : 0 < r) (e : r * (1 + s * t) = t - s) : rotY r (rotX s x y) (rotY s x y) = rotY t x y := by
  have h1 := q_ne hs
  have h2 := q_ne ht
  have h3 := q_ne hr
  unfold rotX rotY
  grind
theorem sin_r {r : Rat} (hs : 0 < s) (ht : 0 < t) (hr : 0 < r) (e : r * (1 + s * t) = t - s) : third s t = 2 * r / (1 + r * r) := by
  have h1 := q_ne hs
  have h2 := q_ne ht
  have h3 := q_ne hr
  unfold third
  grind
/-- a sine lies between 0 and 1 -/
theorem q_div {a b : Rat} (ha : 0 < a) (hb : 0 < b) : 0 < a / b := by
  rw [Rat.div_def]
  exact Rat.mul_pos ha (Rat.inv_pos.mpr hb)
theorem sin_pos (ht : 0 < t) : 0 < 2 * t / (1 + t * t) := q_div (by grind) (q_pos ht)
theorem q_sq (a : Rat) : 0 ≤ a * a := by
  rcases Rat.nonneg_total a with z | z
  · exact Rat.mul_nonneg z z
  · have := Rat.mul_nonneg z z
    grind
theorem sin_le (ht : 0 < t) : 2 * t / (1 + t * t) ≤ 1 := by
  have h := q_pos ht
  have h2 := q_sq (1 - t)
  have h3 := q_ne ht
  refine Rat.le_of_mul_le_mul_right (c := 1 + t * t) ?_ h
  have : 2 * t / (1 + t * t) * (1 + t * t) = 2 * t := by grind
  grind
end
/-! ### polygons told by their sides: corners c d, directions x y, lengths l, tangents of half the outer angles t -/
def nxt (n i : Nat) : Nat := if i + 1 = n then 0 else i + 1
def prv (n i : Nat) : Nat := if i = 0 then n - 1 else i - 1
structure PolI (n : Nat) (c d x y l t : Nat → Rat) : Prop where
  unit : ∀ i, i < n → x i * x i + y i * y i = 1
  lp : ∀ i, i < n → 0 < l i
  tp : ∀ i, i < n → 0 < t i
  ex : ∀ i, i < n → c (nxt n i) = c i + l i * x i
  ey : ∀ i, i < n → d (nxt n i) = d i + l i * y i
  rx : ∀ i, i < n → x i = rotX (t i) (x (prv n i)) (y (prv n i))
  ry : ∀ i, i < n → y i = rotY (t i) (x (prv n i)) (y (prv n i))
def ins2 (k : Nat) (f : Nat → Rat) (a b : Rat) (i : Nat) : Rat := if i < k then f i else if i = k then a else if i = k + 1 then b else f (i - 1)
def ins1 (k : Nat) (f : Nat → Rat) (a : Rat) (i : Nat) : Rat := if i < k then f i else if i = k then a else f (i - 1)
def insL (n k : Nat) (f : Nat → Rat) (a b e : Rat) (i : Nat) : Rat := if i = prv (n + 1) k then a else if i = k then b else if i = k + 1 then e else if i < k then f i else f (i - 1)
theorem ins2_lt {k i : Nat} {f : Nat → Rat} {a b : Rat} (h : i < k) : ins2 k f a b i = f i := if_pos h
theorem ins2_k {k : Nat} {f : Nat → Rat} {a b : Rat} : ins2 k f a b k = a := by unfold ins2; rw [if_neg (by omega), if_pos rfl]
theorem ins2_k1 {k : Nat} {f : Nat → Rat} {a b : Rat} : ins2 k f a b (k + 1) = b := by unfold ins2; rw [if_neg (by omega), if_neg (by omega), if_pos rfl]
theorem ins2_gt {k i : Nat} {f : Nat → Rat} {a b : Rat} (h : k + 1 < i) : ins2 k f a b i = f (i - 1) := by unfold ins2; rw [if_neg (by omega), if_neg (by omega), if_neg (by omega)]
theorem ins1_lt {k i : Nat} {f : Nat → Rat} {a : Rat} (h : i < k) : ins1 k f a i = f i := if_pos h
theorem ins1_k {k : Nat} {f : Nat → Rat} {a : Rat} : ins1 k f a k = a := by unfold ins1; rw [if_neg (by omega), if_pos rfl]
theorem ins1_gt {k i : Nat} {f : Nat → Rat} {a : Rat} (h : k < i) : ins1 k f a i = f (i - 1) := by unfold ins1; rw [if_neg (by omega), if_neg (by omega)]
theorem insL_p {n k : Nat} {f : Nat → Rat} {a b e : Rat} : insL n k f a b e (prv (n + 1) k) = a := if_pos rfl
theorem insL_k {n k : Nat} {f : Nat → Rat} {a b e : Rat} (h : k < n) (hn : 3 ≤ n) : insL n k f a b e k = b := by unfold insL prv; rw [if_neg (by split <;> omega), if_pos rfl]
theorem insL_k1 {n k : Nat} {f : Nat → Rat} {a b e : Rat} (h : k < n) (hn : 3 ≤ n) : insL n k f a b e (k + 1) = e := by unfold insL prv; rw [if_neg (by split <;> omega), if_neg (by omega), if_pos rfl]
theorem insL_lt {n k i : Nat} {f : Nat → Rat} {a b e : Rat} (h : i + 1 < k) (hk : k < n) : insL n k f a b e i = f i := by unfold insL prv; rw [if_neg (by split <;> omega), if_neg (by omega), if_neg (by omega), if_pos (by omega)]
theorem insL_gt {n k i : Nat} {f : Nat → Rat} {a b e : Rat} (h : k + 1 < i) (hp : i ≠ prv (n + 1) k) : insL n k f a b e i = f (i - 1) := by unfold insL; rw [if_neg hp, if_neg (by omega), if_neg (by omega), if_neg (by omega)]
theorem edge_cut {n k : Nat} {c x l : Nat → Rat} {near far xn la ln lb : Rat} (hn : 3 ≤ n) (hk : k < n) (hE : ∀ i, i < n → c (nxt n i) = c i + l i * x i) (A : near = c (prv n k) + la * x (prv n k)) (B : far = near + ln * xn) (C : c (nxt n k) = far + lb * x k) (i : Nat) (hi : i < n + 1) :
    ins2 k c near far (nxt (n + 1) i) = ins2 k c near far i + insL n k l la ln lb i * ins1 k x xn i := by
  by_cases h1 : i = prv (n + 1) k
  · subst h1
    rw [insL_p]
    by_cases k0 : k = 0
    · subst k0
      have e1 : prv (n + 1) 0 = n := rfl
      have e2 : nxt (n + 1) n = 0 := by unfold nxt; rw [if_pos rfl]
      have e3 : prv n 0 = n - 1 := rfl
      rw [e1, e2, ins2_k, ins2_gt (by omega), ins1_gt (by omega), A, e3]
    · have e1 : prv (n + 1) k = k - 1 := by unfold prv; rw [if_neg k0]
      have e2 : nxt (n + 1) (k - 1) = k := by unfold nxt; rw [if_neg (by omega)]; omega
      have e3 : prv n k = k - 1 := by unfold prv; rw [if_neg k0]
      rw [e1, e2, ins2_k, ins2_lt (by omega), ins1_lt (by omega), A, e3]
  · by_cases h2 : i = k
    · subst h2
      have e2 : nxt (n + 1) i = i + 1 := by unfold nxt; rw [if_neg (by omega)]
      rw [e2, ins2_k1, ins2_k, insL_k hk hn, ins1_k, B]
    · by_cases h3 : i = k + 1
      · subst h3
        rw [insL_k1 hk hn, ins2_k1, ins1_gt (by omega), show k + 1 - 1 = k from rfl, ← C]
        by_cases hw : k + 1 = n
        · have e2 : nxt (n + 1) (k + 1) = 0 := by unfold nxt; rw [if_pos (by omega)]
          have e3 : nxt n k = 0 := by unfold nxt; rw [if_pos hw]
          rw [e2, e3, ins2_lt (by omega)]
        · have e2 : nxt (n + 1) (k + 1) = k + 2 := by unfold nxt; rw [if_neg (by omega)]
          have e3 : nxt n k = k + 1 := by unfold nxt; rw [if_neg hw]
          rw [e2, e3, ins2_gt (by omega)]
          rfl
      · by_cases h4 : i < k
        · have h5 : i + 1 < k := by
            unfold prv at h1
            split at h1 <;> omega
          have e2 : nxt (n + 1) i = i + 1 := by unfold nxt; rw [if_neg (by omega)]
          have e3 : nxt n i = i + 1 := by unfold nxt; rw [if_neg (by omega)]
          have := hE i (by omega)
          rw [e3] at this
          rw [e2, ins2_lt h5, ins2_lt h4, insL_lt h5 hk, ins1_lt h4, this]
        · have h5 : k + 1 < i := by omega
          have := hE (i - 1) (by omega)
          rw [ins2_gt h5, insL_gt h5 h1, ins1_gt (by omega), ← this]
          by_cases hw : i = n
          · have k0 : k ≠ 0 := fun z => h1 (by rw [z]; exact hw)
            have e2 : nxt (n + 1) i = 0 := by unfold nxt; rw [if_pos (by omega)]
            have e3 : nxt n (i - 1) = 0 := by unfold nxt; rw [if_pos (by omega)]
            rw [e2, e3, ins2_lt (by omega)]
          · have e2 : nxt (n + 1) i = i + 1 := by unfold nxt; rw [if_neg (by omega)]
            have e3 : nxt n (i - 1) = i := by unfold nxt; rw [if_neg (by omega)]; omega
            rw [e2, e3, ins2_gt (by omega)]
            rfl
theorem turn_cut {n k : Nat} {x y t : Nat → Rat} {xn yn s r : Rat} {rot : Rat → Rat → Rat → Rat} {z : Nat → Rat} {zn : Rat} (hn : 3 ≤ n) (hk : k < n) (hE : ∀ i, i < n → z i = rot (t i) (x (prv n i)) (y (prv n i))) (A : zn = rot s (x (prv n k)) (y (prv n k))) (B : z k = rot r xn yn) (i : Nat) (hi : i < n + 1) :
    ins1 k z zn i = rot (ins2 k t s r i) (ins1 k x xn (prv (n + 1) i)) (ins1 k y yn (prv (n + 1) i)) := by
  by_cases h2 : i = k
  · subst h2
    rw [ins1_k, ins2_k, A]
    by_cases k0 : i = 0
    · subst k0
      have e1 : prv (n + 1) 0 = n := rfl
      have e3 : prv n 0 = n - 1 := rfl
      rw [e1, e3, ins1_gt (by omega), ins1_gt (by omega)]
    · have e1 : prv (n + 1) i = i - 1 := by unfold prv; rw [if_neg k0]
      have e3 : prv n i = i - 1 := by unfold prv; rw [if_neg k0]
      rw [e1, e3, ins1_lt (by omega), ins1_lt (by omega)]
  · by_cases h3 : i = k + 1
    · subst h3
      have e1 : prv (n + 1) (k + 1) = k := rfl
      rw [ins1_gt (by omega), ins2_k1, e1, ins1_k, ins1_k, show k + 1 - 1 = k from rfl, B]
    · by_cases h4 : i < k
      · have := hE i (by omega)
        rw [ins1_lt h4, ins2_lt h4, this]
        by_cases i0 : i = 0
        · subst i0
          have e1 : prv (n + 1) 0 = n := rfl
          have e3 : prv n 0 = n - 1 := rfl
          rw [e1, e3, ins1_gt (by omega), ins1_gt (by omega)]
        · have e1 : prv (n + 1) i = i - 1 := by unfold prv; rw [if_neg i0]
          have e3 : prv n i = i - 1 := by unfold prv; rw [if_neg i0]
          rw [e1, e3, ins1_lt (by omega), ins1_lt (by omega)]
      · have h5 : k + 1 < i := by omega
        have := hE (i - 1) (by omega)
        have e1 : prv (n + 1) i = i - 1 := by unfold prv; rw [if_neg (by omega)]
        have e3 : prv n (i - 1) = i - 1 - 1 := by unfold prv; rw [if_neg (by omega)]
        rw [ins1_gt (by omega), ins2_gt h5, this, e1, e3, ins1_gt (by omega), ins1_gt (by omega)]
theorem pol_cut {n k : Nat} {c d x y l t : Nat → Rat} {s r room : Rat} (hn : 3 ≤ n) (hk : k < n) (P : PolI n c d x y l t) (hs : 0 < s) (hr : 0 < r) (e : r * (1 + s * t k) = t k - s) (h0 : 0 < room) (h1 : room < l (prv n k)) (h2 : room < l k) :
    PolI (n + 1) (ins2 k c (c k - room * third s (t k) * x (prv n k)) (c k + room * (2 * s / (1 + s * s)) * x k)) (ins2 k d (d k - room * third s (t k) * y (prv n k)) (d k + room * (2 * s / (1 + s * s)) * y k))
      (ins1 k x (rotX s (x (prv n k)) (y (prv n k)))) (ins1 k y (rotY s (x (prv n k)) (y (prv n k)))) (insL n k l (l (prv n k) - room * third s (t k)) (room * (2 * t k / (1 + t k * t k))) (l k - room * (2 * s / (1 + s * s)))) (ins2 k t s r) := by
  have ht := P.tp k hk
  have hp : prv n k < n := by unfold prv; split <;> omega
  have sr := sin_r hs ht hr e
  have b1 := sin_le hr
  have b2 := sin_le hs
  have b3 := sin_pos ht
  rw [← sr] at b1
  have g1 : room * third s (t k) ≤ room := by
    have := Rat.mul_le_mul_of_nonneg_left b1 (Rat.le_of_lt h0)
    grind
  have g2 : room * (2 * s / (1 + s * s)) ≤ room := by
    have := Rat.mul_le_mul_of_nonneg_left b2 (Rat.le_of_lt h0)
    grind
  have g3 : 0 < room * (2 * t k / (1 + t k * t k)) := Rat.mul_pos h0 b3
  have ux := P.unit (prv n k) hp
  have rx := P.rx k hk
  have ry := P.ry k hk
  have pe1 : nxt n (prv n k) = k := by unfold nxt prv; split <;> split <;> omega
  have ex := P.ex (prv n k) hp
  have ey := P.ey (prv n k) hp
  rw [pe1] at ex ey
  have nx1 := new_x (x := x (prv n k)) (y := y (prv n k)) (room := room) hs ht
  have ny1 := new_y (x := x (prv n k)) (y := y (prv n k)) (room := room) hs ht
  rw [← rx] at nx1
  rw [← ry] at ny1
  have rr1 := rot_rot_x (x := x (prv n k)) (y := y (prv n k)) hs ht hr e
  have rr2 := rot_rot_y (x := x (prv n k)) (y := y (prv n k)) hs ht hr e
  rw [← rx] at rr1
  rw [← ry] at rr2
  have un := rot_unit hs ux
  constructor
  · intro i hi
    unfold ins1
    split
    · exact P.unit i (by omega)
    · split
      · exact un
      · exact P.unit (i - 1) (by omega)
  · intro i hi
    unfold insL
    split
    · grind
    · split
      · exact g3
      · split
        · grind
        · split
          · exact P.lp i (by omega)
          · exact P.lp (i - 1) (by omega)
  · intro i hi
    unfold ins2
    split
    · exact P.tp i (by omega)
    · split
      · exact hs
      · split
        · exact hr
        · exact P.tp (i - 1) (by omega)
  · exact edge_cut hn hk P.ex (by rw [ex]; grind) (by grind) (by rw [P.ex k hk]; grind)
  · exact edge_cut hn hk P.ey (by rw [ey]; grind) (by grind) (by rw [P.ey k hk]; grind)
  · exact turn_cut (rot := rotX) hn hk P.rx rfl rr1.symm
  · exact turn_cut (rot := rotY) hn hk P.ry rfl rr2.symm
/-! ### how great the numbers get -/
/-- q is a whole number of parts 1 / D -/
def IsI (q : Rat) (D : Int) : Prop := ∃ z : Int, q * (D : Rat) = (z : Rat)
theorem IsI.up {q : Rat} {D : Int} (h : IsI q D) (k : Int) : IsI q (D * k) := by
  obtain ⟨z, e⟩ := h
  exact ⟨z * k, by rw [Rat.intCast_mul, Rat.intCast_mul, ← e]; grind⟩
theorem IsI.upL {q : Rat} {D : Int} (h : IsI q D) (k : Int) : IsI q (k * D) := by rw [Int.mul_comm]; exact h.up k
theorem IsI.mul {p q : Rat} {D E : Int} (h : IsI p D) (g : IsI q E) : IsI (p * q) (D * E) := by
  obtain ⟨z, e⟩ := h
  obtain ⟨y, f⟩ := g
  exact ⟨z * y, by rw [Rat.intCast_mul, Rat.intCast_mul, ← e, ← f]; grind⟩
theorem IsI.add {p q : Rat} {D : Int} (h : IsI p D) (g : IsI q D) : IsI (p + q) D := by
  obtain ⟨z, e⟩ := h
  obtain ⟨y, f⟩ := g
  exact ⟨z + y, by rw [Rat.intCast_add, ← e, ← f]; grind⟩
theorem IsI.sub {p q : Rat} {D : Int} (h : IsI p D) (g : IsI q D) : IsI (p - q) D := by
  obtain ⟨z, e⟩ := h
  obtain ⟨y, f⟩ := g
  exact ⟨z - y, by rw [Rat.intCast_sub, ← e, ← f]; grind⟩
theorem IsI.cast {q : Rat} {D E : Int} (h : IsI q D) (e : D = E) : IsI q E := e ▸ h
theorem isI_div (z D : Int) (h : D ≠ 0) : IsI ((z : Rat) / (D : Rat)) D := ⟨z, by
  have : (D : Rat) ≠ 0 := by rw [← Rat.intCast_zero]; exact fun e => h (Rat.intCast_inj.mp e)
  exact Rat.div_mul_cancel this⟩
theorem IsI.one (z : Int) : IsI (z : Rat) 1 := ⟨z, by rw [Rat.intCast_one, Rat.mul_one]⟩
/-- the parts of the sine and the cosine of the angle whose half has the tangent a / b -/
theorem sinI {a b : Int} (hb : b ≠ 0) {s : Rat} (e : s = (a : Rat) / (b : Rat)) (hs : 0 < s) : IsI (2 * s / (1 + s * s)) (a * a + b * b) ∧ IsI ((1 - s * s) / (1 + s * s)) (a * a + b * b) := by
  have hb' : (b : Rat) ≠ 0 := by rw [← Rat.intCast_zero]; exact fun e => hb (Rat.intCast_inj.mp e)
  have h1 := q_ne hs
  constructor
  · refine ⟨2 * a * b, ?_⟩
    simp only [Rat.intCast_add, Rat.intCast_mul]
    rw [show ((2 : Int) : Rat) = 2 from rfl]
    have e2 : s * (b : Rat) = a := by rw [e]; exact Rat.div_mul_cancel hb'
    generalize (a : Rat) = a' at *
    generalize (b : Rat) = b' at *
    grind
  · refine ⟨b * b - a * a, ?_⟩
    simp only [Rat.intCast_add, Rat.intCast_mul, Rat.intCast_sub]
    have e2 : s * (b : Rat) = a := by rw [e]; exact Rat.div_mul_cancel hb'
    generalize (a : Rat) = a' at *
    generalize (b : Rat) = b' at *
    grind
/-- rotated by such an angle -/
theorem rotI {a b : Int} (hb : b ≠ 0) {s x y : Rat} {W : Int} (e : s = (a : Rat) / (b : Rat)) (hs : 0 < s) (hx : IsI x W) (hy : IsI y W) : IsI (rotX s x y) (W * (a * a + b * b)) ∧ IsI (rotY s x y) (W * (a * a + b * b)) := by
  obtain ⟨h1, h2⟩ := sinI hb e hs
  have e1 : rotX s x y = x * ((1 - s * s) / (1 + s * s)) - y * (2 * s / (1 + s * s)) := by
    have := q_ne hs
    unfold rotX
    grind
  have e2 : rotY s x y = x * (2 * s / (1 + s * s)) + y * ((1 - s * s) / (1 + s * s)) := by
    have := q_ne hs
    unfold rotY
    grind
  rw [e1, e2]
  exact ⟨(hx.mul h2).sub (hy.mul h1), (hx.mul h1).add (hy.mul h2)⟩
theorem thirdI {a b f g : Int} (hb : b ≠ 0) (hg : g ≠ 0) {s t : Rat} (e : s = (a : Rat) / (b : Rat)) (f1 : t = (f : Rat) / (g : Rat)) (hs : 0 < s) (ht : 0 < t) : IsI (third s t) ((a * a + b * b) * (f * f + g * g)) := by
  obtain ⟨h1, h2⟩ := sinI hb e hs
  obtain ⟨h3, h4⟩ := sinI hg f1 ht
  have e1 : third s t = (1 - s * s) / (1 + s * s) * (2 * t / (1 + t * t)) - 2 * s / (1 + s * s) * ((1 - t * t) / (1 + t * t)) := by
    have := q_ne hs
    have := q_ne ht
    unfold third
    grind
  rw [e1]
  exact (h2.mul h3).sub (h1.mul h4)
/-- what is known of the sizes: directions are parts of W, lengths of E, corners of W E; tangents have tops and bottoms up to M -/
structure PolS (n : Nat) (c d x y l t : Nat → Rat) (W E : Int) (M : Nat) : Prop where
  wp : 0 < W
  ep : 0 < E
  xi : ∀ i, i < n → IsI (x i) W
  yi : ∀ i, i < n → IsI (y i) W
  li : ∀ i, i < n → IsI (l i) E
  ci : ∀ i, i < n → IsI (c i) (W * E)
  di : ∀ i, i < n → IsI (d i) (W * E)
  ti : ∀ i, i < n → ∃ a b : Int, t i = (a : Rat) / (b : Rat) ∧ 0 < a ∧ a ≤ M ∧ 0 < b ∧ b ≤ M
theorem all_ins2 {n k : Nat} {f : Nat → Rat} {a b : Rat} {p : Rat → Prop} (hk : k < n) (hf : ∀ i, i < n → p (f i)) (ha : p a) (hb : p b) (i : Nat) (hi : i < n + 1) : p (ins2 k f a b i) := by
  unfold ins2
  split
  · exact hf i (by omega)
  · split
    · exact ha
    · split
      · exact hb
      · exact hf (i - 1) (by omega)
theorem all_ins1 {n k : Nat} {f : Nat → Rat} {a : Rat} {p : Rat → Prop} (hk : k < n) (hf : ∀ i, i < n → p (f i)) (ha : p a) (i : Nat) (hi : i < n + 1) : p (ins1 k f a i) := by
  unfold ins1
  split
  · exact hf i (by omega)
  · split
    · exact ha
    · exact hf (i - 1) (by omega)
theorem all_insL {n k : Nat} {f : Nat → Rat} {a b e : Rat} {p : Rat → Prop} (hk : k < n) (hf : ∀ i, i < n → p (f i)) (ha : p a) (hb : p b) (he : p e) (i : Nat) (hi : i < n + 1) : p (insL n k f a b e i) := by
  unfold insL
  split
  · exact ha
  · split
    · exact hb
    · split
      · exact he
      · split
        · exact hf i (by omega)
        · exact hf (i - 1) (by omega)
theorem i_ne {b : Int} (h : b ≠ 0) : (b : Rat) ≠ 0 := by rw [← Rat.intCast_zero]; exact fun e => h (Rat.intCast_inj.mp e)
theorem sq_le {a M : Int} (h0 : 0 < a) (h1 : a ≤ M) : a * a ≤ M * M := Int.mul_le_mul h1 h1 (Int.le_of_lt h0) (by omega)
theorem ab_le {a b M : Int} (h0 : 0 < a) (h1 : a ≤ M) (h2 : 0 < b) (h3 : b ≤ M) : a * b ≤ M * M := Int.mul_le_mul h1 h3 (Int.le_of_lt h2) (by omega)
theorem pols_cut {n k M : Nat} {c d x y l t : Nat → Rat} {W E m : Int} {s room lm : Rat} (hm : 1 ≤ m ∧ m ≤ 4) (hk : k < n) (P : PolI n c d x y l t) (S : PolS n c d x y l t W E M) (hl : lm = l (prv n k) ∨ lm = l k) (es : s = (m : Rat) / 5 * t k) (er : room = (m : Rat) / 5 * lm) :
    ∃ (r : Rat) (W' E' : Int), 0 < s ∧ 0 < r ∧ r * (1 + s * t k) = t k - s ∧ W' ≤ W * (41 * (M * M)) ∧ E' ≤ E * (410 * (M * M) * (M * M)) ∧
    PolS (n + 1) (ins2 k c (c k - room * third s (t k) * x (prv n k)) (c k + room * (2 * s / (1 + s * s)) * x k)) (ins2 k d (d k - room * third s (t k) * y (prv n k)) (d k + room * (2 * s / (1 + s * s)) * y k))
      (ins1 k x (rotX s (x (prv n k)) (y (prv n k)))) (ins1 k y (rotY s (x (prv n k)) (y (prv n k)))) (insL n k l (l (prv n k) - room * third s (t k)) (room * (2 * t k / (1 + t k * t k))) (l k - room * (2 * s / (1 + s * s)))) (ins2 k t s r) W' E' (9 * M * M) := by
  obtain ⟨a, b, et, a0, aM, b0, bM⟩ := S.ti k hk
  have hp : prv n k < n := by unfold prv; split <;> omega
  have m0 : (0 : Rat) < (m : Rat) := Rat.intCast_pos.mpr (by omega)
  have m5 : (m : Rat) < 5 := by
    have : ((m : Int) : Rat) < ((5 : Int) : Rat) := Rat.intCast_lt_intCast.mpr (by omega)
    exact this
  have ht := P.tp k hk
  have hs : 0 < s := by
    rw [es]
    exact Rat.mul_pos (q_div m0 (by decide)) ht
  have st : s < t k := by
    have : 0 < (5 - (m : Rat)) / 5 * t k := Rat.mul_pos (q_div (by grind) (by decide)) ht
    grind
  have hst : 0 < 1 + s * t k := by
    have := Rat.mul_pos hs ht
    grind
  have hr : 0 < (t k - s) / (1 + s * t k) := q_div (by grind) hst
  have b1 : (b : Rat) ≠ 0 := i_ne (by omega)
  have mi : (0 : Int) < m := by omega
  have es2 : s = ((m * a : Int) : Rat) / ((5 * b : Int) : Rat) := by
    rw [es, et, Rat.intCast_mul, Rat.intCast_mul, show ((5 : Int) : Rat) = 5 from rfl]
    generalize (b : Rat) = b' at *
    grind
  have bm : 5 * b ≠ 0 := by omega
  have hN := Int.mul_pos mi a0
  -- the two norms
  have ns : (m * a) * (m * a) + (5 * b) * (5 * b) ≤ 41 * (M * M) := by
    have h1 : m * m ≤ 16 := by have := sq_le mi hm.2; omega
    have h2 : (m * a) * (m * a) = (m * m) * (a * a) := by grind
    have h3 : (m * m) * (a * a) ≤ 16 * (M * M) := Int.mul_le_mul h1 (sq_le a0 aM) (Int.le_of_lt (Int.mul_pos a0 a0)) (by decide)
    have h4 : (5 * b) * (5 * b) = 25 * (b * b) := by grind
    have h5 := sq_le b0 bM
    omega
  have nt' : a * a + b * b ≤ 2 * (M * M) := by
    have := sq_le a0 aM
    have := sq_le b0 bM
    omega
  have ps : 0 < (m * a) * (m * a) + (5 * b) * (5 * b) := by
    have h1 := Int.mul_pos hN hN
    have h2 := Int.mul_pos (show 0 < 5 * b by omega) (show 0 < 5 * b by omega)
    omega
  have pt : 0 < a * a + b * b := by
    have h1 := Int.mul_pos a0 a0
    have h2 := Int.mul_pos b0 b0
    omega
  obtain ⟨rx, ry⟩ := rotI bm es2 hs (S.xi _ hp) (S.yi _ hp)
  have t3 := thirdI bm (show b ≠ 0 by omega) es2 et hs ht
  obtain ⟨s1, _⟩ := sinI bm es2 hs
  obtain ⟨s2, _⟩ := sinI (show b ≠ 0 by omega) et ht
  have ro : IsI room (5 * E) := by
    rw [er]
    refine IsI.mul (isI_div m 5 (by decide)) ?_
    rcases hl with e | e
    · rw [e]; exact S.li _ hp
    · rw [e]; exact S.li _ hk
  generalize hNs : (m * a) * (m * a) + (5 * b) * (5 * b) = Ns at *
  generalize hNt : a * a + b * b = Nt at *
  have r1 : IsI (room * third s (t k)) (5 * E * Ns * Nt) := (ro.mul t3).cast (by rw [Int.mul_assoc (5 * E)])
  have r2 : IsI (room * (2 * s / (1 + s * s))) (5 * E * Ns * Nt) := (ro.mul s1).up Nt
  have r3 : IsI (room * (2 * t k / (1 + t k * t k))) (5 * E * Ns * Nt) := ((ro.mul s2).up Ns).cast (by grind)
  have le : ∀ i, i < n → IsI (l i) (5 * E * Ns * Nt) := fun i hi => ((S.li i hi).up (5 * Ns * Nt)).cast (by grind)
  have ce : ∀ i, i < n → IsI (c i) (W * Ns * (5 * E * Ns * Nt)) := fun i hi => ((S.ci i hi).up (5 * Ns * Ns * Nt)).cast (by grind)
  have de : ∀ i, i < n → IsI (d i) (W * Ns * (5 * E * Ns * Nt)) := fun i hi => ((S.di i hi).up (5 * Ns * Ns * Nt)).cast (by grind)
  have xe : ∀ i, i < n → IsI (x i) (W * Ns) := fun i hi => (S.xi i hi).up Ns
  have ye : ∀ i, i < n → IsI (y i) (W * Ns) := fun i hi => (S.yi i hi).up Ns
  refine ⟨(t k - s) / (1 + s * t k), W * Ns, 5 * E * Ns * Nt, hs, hr, Rat.div_mul_cancel (by grind), Int.mul_le_mul_of_nonneg_left ns (Int.le_of_lt S.wp), ?_, ?_⟩
  · have h1 : Ns * Nt ≤ 41 * (M * M) * (2 * (M * M)) := Int.mul_le_mul ns nt' (Int.le_of_lt pt) (by have := Int.mul_nonneg (show (0 : Int) ≤ M by omega) (show (0 : Int) ≤ M by omega); omega)
    have h2 := Int.mul_le_mul_of_nonneg_left h1 (show 0 ≤ 5 * E by have := S.ep; omega)
    have e1 : 5 * E * Ns * Nt = 5 * E * (Ns * Nt) := by grind
    have e2 : 5 * E * (41 * ((M : Int) * M) * (2 * ((M : Int) * M))) = E * (410 * ((M : Int) * M) * ((M : Int) * M)) := by grind
    rw [e1, ← e2]
    exact h2
  · refine ⟨Int.mul_pos S.wp ps, Int.mul_pos (Int.mul_pos (by have := S.ep; omega) ps) pt, ?_, ?_, ?_, ?_, ?_, ?_⟩
    · exact all_ins1 (p := fun q => IsI q (W * Ns)) hk xe rx
    · exact all_ins1 (p := fun q => IsI q (W * Ns)) hk ye ry
    · exact all_insL (p := fun q => IsI q (5 * E * Ns * Nt)) hk le ((le _ hp).sub r1) r3 ((le _ hk).sub r2)
    · exact all_ins2 (p := fun q => IsI q (W * Ns * (5 * E * Ns * Nt))) hk ce ((ce _ hk).sub ((r1.mul (xe _ hp)).cast (Int.mul_comm _ _))) ((ce _ hk).add ((r2.mul (xe _ hk)).cast (Int.mul_comm _ _)))
    · exact all_ins2 (p := fun q => IsI q (W * Ns * (5 * E * Ns * Nt))) hk de ((de _ hk).sub ((r1.mul (ye _ hp)).cast (Int.mul_comm _ _))) ((de _ hk).add ((r2.mul (ye _ hk)).cast (Int.mul_comm _ _)))
    · have MM : (M : Int) ≤ M * M := by
        have h := Int.mul_le_mul_of_nonneg_left (show (1 : Int) ≤ M by omega) (show (0 : Int) ≤ M by omega)
        omega
      have c9 : ((9 * M * M : Nat) : Int) = 9 * ((M : Int) * M) := by grind
      refine all_ins2 (p := fun q => ∃ a b : Int, q = (a : Rat) / (b : Rat) ∧ 0 < a ∧ a ≤ (9 * M * M : Nat) ∧ 0 < b ∧ b ≤ (9 * M * M : Nat)) hk (fun i hi => ?_) ⟨m * a, 5 * b, es2, hN, ?_, by omega, ?_⟩ ⟨a * b * (5 - m), 5 * (b * b) + m * (a * a), ?_, ?_, ?_, ?_, ?_⟩
      · obtain ⟨a2, b2, e2, h1, h2, h3, h4⟩ := S.ti i hi
        exact ⟨a2, b2, e2, h1, by rw [c9]; omega, h3, by rw [c9]; omega⟩
      · rw [c9]
        have := Int.mul_le_mul hm.2 aM (Int.le_of_lt a0) (show (0 : Int) ≤ 4 by decide)
        omega
      · rw [c9]; omega
      · rw [es, et]
        simp only [Rat.intCast_add, Rat.intCast_mul, Rat.intCast_sub]
        rw [show ((5 : Int) : Rat) = 5 from rfl]
        have hb2 : (b : Rat) * b ≠ 0 := q_mul b1 b1
        have hd : 5 * ((b : Rat) * b) + m * ((a : Rat) * a) ≠ 0 := by
          have h1 := q_sq (a : Rat)
          have h2 : (0 : Rat) < (b : Rat) * b := Rat.mul_pos (Rat.intCast_pos.mpr b0) (Rat.intCast_pos.mpr b0)
          have h3 := Rat.mul_nonneg (Rat.le_of_lt m0) h1
          grind
        have hd2 : 1 + (m : Rat) / 5 * ((a : Rat) / b) * ((a : Rat) / b) ≠ 0 := by
          have := hst
          rw [es, et] at this
          grind
        generalize (b : Rat) = b' at *
        generalize (a : Rat) = a' at *
        generalize (m : Rat) = m' at *
        clear es2 hN ns ps pt nt' rx ry t3 s1 s2 ro r1 r2 r3
        grind
      · exact Int.mul_pos (Int.mul_pos a0 b0) (by omega)
      · rw [c9]
        have h1 := ab_le a0 aM b0 bM
        have h2 := Int.mul_le_mul h1 (show 5 - m ≤ 4 by omega) (by omega) (by have := Int.mul_pos a0 b0; omega)
        omega
      · have h1 := Int.mul_pos b0 b0
        have h2 := Int.mul_pos mi (Int.mul_pos a0 a0)
        omega
      · rw [c9]
        have h1 := sq_le b0 bM
        have h2 := Int.mul_le_mul hm.2 (sq_le a0 aM) (Int.le_of_lt (Int.mul_pos a0 a0)) (show (0 : Int) ≤ 4 by decide)
        omega

/-! ### fractions as rational numbers -/
def FQ (q : Rat) : PyData := .tuple [.int q.num, .int (q.den : Int)]
abbrev PQ (a b : Rat) : PyData := .tuple [FQ a, FQ b]
def Qb (k : Nat) (q : Rat) : Prop := Bt k q.num ∧ Bt k (q.den : Int)
theorem Qb.mono {k l : Nat} {q : Rat} (h : Qb k q) (e : k ≤ l) : Qb l q := ⟨h.1.mono e, h.2.mono e⟩
theorem low_q (q : Rat) : Low q.num (q.den : Int) := ⟨by have := q.den_pos; omega, by rw [Int.natAbs_natCast]; exact q.reduced⟩
theorem den_ne (q : Rat) : (q.den : Int) ≠ 0 := by have := q.den_pos; omega
theorem denR_ne (q : Rat) : ((q.den : Int) : Rat) ≠ 0 := i_ne (den_ne q)
theorem num_eq (q : Rat) : (q.num : Rat) = q * ((q.den : Int) : Rat) := by
  have h : (q.num : Rat) / ((q.den : Int) : Rat) = q := by
    rw [Rat.div_def]
    have := Rat.num_divInt_den q
    rw [Rat.divInt_eq_div] at this
    rw [← Rat.div_def]
    exact this
  have h2 := Rat.div_mul_cancel (a := (q.num : Rat)) (denR_ne q)
  rw [h] at h2
  exact h2.symm
/-- lowest terms are the rational number's -/
theorem rt_q {x y : Int} (h : y ≠ 0) : rt x y = FQ ((x : Rat) / (y : Rat)) := by
  have l1 := nt_low (a := x) h
  have hy := i_ne h
  obtain ⟨q, hq⟩ : ∃ q : Rat, q = (x : Rat) / (y : Rat) := ⟨_, rfl⟩
  rw [← hq]
  have l2 := low_q q
  have e : q * (y : Rat) = x := by rw [hq]; exact Rat.div_mul_cancel hy
  have e2 : q.num * y = x * (q.den : Int) := by
    have : ((q.num * y : Int) : Rat) = ((x * (q.den : Int) : Int) : Rat) := by
      rw [Rat.intCast_mul, Rat.intCast_mul, num_eq, ← e]
      grind
    exact Rat.intCast_inj.mp this
  have e3 := nt_val (a := x) h
  obtain ⟨a1, a2⟩ := low_uni l1 l2 (Int.eq_of_mul_eq_mul_right h (by grind))
  show PyData.tuple [.int (nt x y), .int (bN x y)] = PyData.tuple [.int q.num, .int (q.den : Int)]
  rw [a1, a2]
/-- a number that is a part of D and not greater than V -/
theorem qb_of {q : Rat} {D : Int} {V k : Nat} (h : IsI q D) (hD : 0 < D) (h1 : q ≤ (V : Int)) (h2 : -((V : Int) : Rat) ≤ q) (hb : Bt k ((V : Int) * D)) (hV : 0 < V) : Qb k q := by
  obtain ⟨z, e⟩ := h
  have hDr : (0 : Rat) < (D : Rat) := Rat.intCast_pos.mpr hD
  have eq : q = (z : Rat) / (D : Rat) := by
    rw [← e]
    exact (Rat.mul_div_cancel (by grind)).symm
  have r := rt_q (x := z) (y := D) (by omega)
  rw [← eq] at r
  have r1 : nt z D = q.num ∧ bN z D = (q.den : Int) := by
    injection r with r
    injection r with r1 r2
    injection r2 with r2 _
    injection r1 with r1
    injection r2 with r2
    exact ⟨r1, r2⟩
  have z1 : z ≤ (V : Int) * D := by
    have : (z : Rat) ≤ (((V : Int) * D : Int) : Rat) := by
      rw [← e, Rat.intCast_mul]
      exact Rat.mul_le_mul_of_nonneg_right h1 (Rat.le_of_lt hDr)
    exact Rat.intCast_le_intCast.mp this
  have z2 : -((V : Int) * D) ≤ z := by
    have : (((-((V : Int) * D) : Int)) : Rat) ≤ (z : Rat) := by
      rw [← e, Rat.intCast_neg, Rat.intCast_mul, ← Rat.neg_mul]
      exact Rat.mul_le_mul_of_nonneg_right h2 (Rat.le_of_lt hDr)
    exact Rat.intCast_le_intCast.mp this
  have zb : Bt k z := hb.le (by omega)
  have Db : Bt k D := hb.le (by
    have : D ≤ (V : Int) * D := by
      have := Int.mul_le_mul_of_nonneg_right (show (1 : Int) ≤ V by omega) (show 0 ≤ D by omega)
      omega
    omega)
  exact ⟨by rw [← r1.1]; exact bt_nt (by omega) zb, by rw [← r1.2]; exact bt_bN (by omega) Db⟩


/-! ### the law's operations -/
def Pq2 (C : Rat → Rat → Prop) (g : Rat → Rat → Rat) : Sp := fun vs H Q _ => ∃ (sa : Addr) (x y : V) (p q : Rat), vs = [x, y] ∧ (∃ o, H sa = some o) ∧ Rp sa H x (FQ p) ∧ Rp sa H y (FQ q) ∧ Qb 4400 p ∧ Qb 4400 q ∧ C p q ∧ ∀ H' P, Same H H' → Rp sa H' (.ref P) (FQ (g p q)) → Q (.ref P) H'
theorem c_q2 {C : Rat → Rat → Prop} {g : Rat → Rat → Rat} {z : Bool} {sa : Addr} {H0 H : Hp} {acc : List V} {dacc : List PyData} {Q : VK} {E : XK} {x y : V} {p q : Rat} (W : Wd z sa H0 H acc dacc) (r1 : Rp sa H x (FQ p)) (r2 : Rp sa H y (FQ q)) (b1 : Qb 4400 p) (b2 : Qb 4400 q) (hc : C p q)
    (h : ∀ H' P, Wd z sa H0 H' (.ref P :: acc) (FQ (g p q) :: dacc) → Q (.ref P) H') : Pq2 C g [x, y] H Q E := ⟨sa, x, y, p, q, rfl, W.tr, r1, r2, b1, b2, hc, fun H' P s r => h H' P ((W.go s).put r)⟩
abbrev sp_qadd : Sp := Pq2 (fun _ _ => True) (fun p q => p + q)
abbrev sp_qsub : Sp := Pq2 (fun _ _ => True) (fun p q => p - q)
abbrev sp_qmul : Sp := Pq2 (fun _ _ => True) (fun p q => p * q)
abbrev sp_qdiv : Sp := Pq2 (fun _ q => q ≠ 0) (fun p q => p / q)
theorem add_q (p q : Rat) : rt (p.num * (q.den : Int) + q.num * (p.den : Int)) ((p.den : Int) * (q.den : Int)) = FQ (p + q) := by
  rw [rt_q (Int.mul_ne_zero (den_ne p) (den_ne q))]
  congr 1
  rw [Rat.intCast_add, Rat.intCast_mul, Rat.intCast_mul, Rat.intCast_mul, num_eq, num_eq]
  have h1 := denR_ne p
  have h2 := denR_ne q
  have h3 := q_mul h1 h2
  generalize ((p.den : Int) : Rat) = a at *
  generalize ((q.den : Int) : Rat) = b at *
  grind
theorem sub_q (p q : Rat) : rt (p.num * (q.den : Int) - q.num * (p.den : Int)) ((p.den : Int) * (q.den : Int)) = FQ (p - q) := by
  rw [rt_q (Int.mul_ne_zero (den_ne p) (den_ne q))]
  congr 1
  rw [Rat.intCast_sub, Rat.intCast_mul, Rat.intCast_mul, Rat.intCast_mul, num_eq, num_eq]
  have h1 := denR_ne p
  have h2 := denR_ne q
  have h3 := q_mul h1 h2
  generalize ((p.den : Int) : Rat) = a at *
  generalize ((q.den : Int) : Rat) = b at *
  grind
theorem mul_q (p q : Rat) : rt (p.num * q.num) ((p.den : Int) * (q.den : Int)) = FQ (p * q) := by
  rw [rt_q (Int.mul_ne_zero (den_ne p) (den_ne q))]
  congr 1
  rw [Rat.intCast_mul, Rat.intCast_mul, num_eq, num_eq]
  have h1 := denR_ne p
  have h2 := denR_ne q
  have h3 := q_mul h1 h2
  generalize ((p.den : Int) : Rat) = a at *
  generalize ((q.den : Int) : Rat) = b at *
  grind
theorem num_ne {q : Rat} (h : q ≠ 0) : q.num ≠ 0 := fun e => h (by
  have := num_eq q
  rw [e, Rat.intCast_zero] at this
  have h2 := denR_ne q
  grind)
theorem div_q {p q : Rat} (h : q ≠ 0) : rt (p.num * (q.den : Int)) ((p.den : Int) * q.num) = FQ (p / q) := by
  rw [rt_q (Int.mul_ne_zero (den_ne p) (num_ne h))]
  congr 1
  rw [Rat.intCast_mul, Rat.intCast_mul, num_eq, num_eq]
  have h1 := denR_ne p
  have h2 := denR_ne q
  have h3 := q_mul h1 h2
  have h4 := q_mul h1 (q_mul h h2)
  generalize ((p.den : Int) : Rat) = a at *
  generalize ((q.den : Int) : Rat) = b at *
  grind
section
variable {P : Program} {w : World} {K : PySem.W.Frag} {mg : Str → Option Value} {base : Heap}
theorem ok_law_add {f : Addr} {fd : FuncData} (F : Fun K "_law_add" "_law_add" s_law_add f fd) (d_law_low : Df P w K mg base CX0 1 "_law_low" ["top", "bottom"] sp_low) : FnOk P w K mg base CX0 2 f fd ["one", "other"] sp_qadd := by
  have sc := sc_law_add
  refine F.ok sc (fun vs H Q E h => ?_) (fun cdv A outer s H vs Q E hr h => ?_)
  · obtain ⟨sa, x, y, p, q, rfl, _⟩ := h
    rfl
  · obtain ⟨sa, x, y, p, q, rfl, t, r0, r1, b1, b2, hc, hq⟩ := h
    unfold FQ at r0 r1
    obtain ⟨x1, rfl⟩ : ∃ a, x = .ref a := by cases r0; exact ⟨_, rfl⟩
    obtain ⟨y1, rfl⟩ : ∃ a, y = .ref a := by cases r1; exact ⟨_, rfl⟩
    refine ⟨_, (pss_one (ps_ret (pe_call d_law_low.F (hr.mono (by decide)) (by rfl) d_law_low.g d_law_low.kp d_law_low.b .nil pass0 (pa_cons (pe_op op_add (pe_op op_mulX (pe_ix ix_tup (pv 0) pe_int (fun _ _ => rfl)) (pe_ix ix_tup (pv 1) pe_int (fun _ _ => rfl))) (pe_op op_mulX (pe_ix ix_tup (pv 1) pe_int (fun _ _ => rfl)) (pe_ix ix_tup (pv 0) pe_int (fun _ _ => rfl)))) (pa_cons (pe_op op_mulX (pe_ix ix_tup (pv 0) pe_int (fun _ _ => rfl)) (pe_ix ix_tup (pv 1) pe_int (fun _ _ => rfl))) pa_nil))))), ?_⟩
    (rw [show start ["one", "other"] [.ref x1, .ref y1] = [some (.ref x1), some (.ref y1)] from rfl]; try dsimp only [cxOf])
    have W := wd_start t (.cons r0 (.cons r1 .nil))
    obtain ⟨bn, bd⟩ := b1
    obtain ⟨cn, cd⟩ := b2
    have nz := Int.mul_ne_zero (den_ne p) (den_ne q)
    walk_at "w"
    rename_i H1 p3 W3
    refine hq _ _ (W3.same rfl) ?_
    rw [← add_q p q]
    exact W3.get .here
theorem ok_law_sub {f : Addr} {fd : FuncData} (F : Fun K "_law_sub" "_law_sub" s_law_sub f fd) (d_law_low : Df P w K mg base CX0 1 "_law_low" ["top", "bottom"] sp_low) : FnOk P w K mg base CX0 2 f fd ["one", "other"] sp_qsub := by
  have sc := sc_law_sub
  refine F.ok sc (fun vs H Q E h => ?_) (fun cdv A outer s H vs Q E hr h => ?_)
  · obtain ⟨sa, x, y, p, q, rfl, _⟩ := h
    rfl
  · obtain ⟨sa, x, y, p, q, rfl, t, r0, r1, b1, b2, hc, hq⟩ := h
    unfold FQ at r0 r1
    obtain ⟨x1, rfl⟩ : ∃ a, x = .ref a := by cases r0; exact ⟨_, rfl⟩
    obtain ⟨y1, rfl⟩ : ∃ a, y = .ref a := by cases r1; exact ⟨_, rfl⟩
    refine ⟨_, (pss_one (ps_ret (pe_call d_law_low.F (hr.mono (by decide)) (by rfl) d_law_low.g d_law_low.kp d_law_low.b .nil pass0 (pa_cons (pe_op op_sub (pe_op op_mulX (pe_ix ix_tup (pv 0) pe_int (fun _ _ => rfl)) (pe_ix ix_tup (pv 1) pe_int (fun _ _ => rfl))) (pe_op op_mulX (pe_ix ix_tup (pv 1) pe_int (fun _ _ => rfl)) (pe_ix ix_tup (pv 0) pe_int (fun _ _ => rfl)))) (pa_cons (pe_op op_mulX (pe_ix ix_tup (pv 0) pe_int (fun _ _ => rfl)) (pe_ix ix_tup (pv 1) pe_int (fun _ _ => rfl))) pa_nil))))), ?_⟩
    (rw [show start ["one", "other"] [.ref x1, .ref y1] = [some (.ref x1), some (.ref y1)] from rfl]; try dsimp only [cxOf])
    have W := wd_start t (.cons r0 (.cons r1 .nil))
    obtain ⟨bn, bd⟩ := b1
    obtain ⟨cn, cd⟩ := b2
    have nz := Int.mul_ne_zero (den_ne p) (den_ne q)
    walk_at "w"
    rename_i H1 p3 W3
    refine hq _ _ (W3.same rfl) ?_
    rw [← sub_q p q]
    exact W3.get .here
theorem ok_law_mul {f : Addr} {fd : FuncData} (F : Fun K "_law_mul" "_law_mul" s_law_mul f fd) (d_law_low : Df P w K mg base CX0 1 "_law_low" ["top", "bottom"] sp_low) : FnOk P w K mg base CX0 2 f fd ["one", "other"] sp_qmul := by
  have sc := sc_law_mul
  refine F.ok sc (fun vs H Q E h => ?_) (fun cdv A outer s H vs Q E hr h => ?_)
  · obtain ⟨sa, x, y, p, q, rfl, _⟩ := h
    rfl
  · obtain ⟨sa, x, y, p, q, rfl, t, r0, r1, b1, b2, hc, hq⟩ := h
    unfold FQ at r0 r1
    obtain ⟨x1, rfl⟩ : ∃ a, x = .ref a := by cases r0; exact ⟨_, rfl⟩
    obtain ⟨y1, rfl⟩ : ∃ a, y = .ref a := by cases r1; exact ⟨_, rfl⟩
    refine ⟨_, (pss_one (ps_ret (pe_call d_law_low.F (hr.mono (by decide)) (by rfl) d_law_low.g d_law_low.kp d_law_low.b .nil pass0 (pa_cons (pe_op op_mulX (pe_ix ix_tup (pv 0) pe_int (fun _ _ => rfl)) (pe_ix ix_tup (pv 1) pe_int (fun _ _ => rfl))) (pa_cons (pe_op op_mulX (pe_ix ix_tup (pv 0) pe_int (fun _ _ => rfl)) (pe_ix ix_tup (pv 1) pe_int (fun _ _ => rfl))) pa_nil))))), ?_⟩
    (rw [show start ["one", "other"] [.ref x1, .ref y1] = [some (.ref x1), some (.ref y1)] from rfl]; try dsimp only [cxOf])
    have W := wd_start t (.cons r0 (.cons r1 .nil))
    obtain ⟨bn, bd⟩ := b1
    obtain ⟨cn, cd⟩ := b2
    have nz := Int.mul_ne_zero (den_ne p) (den_ne q)
    walk_at "w"
    rename_i H1 p3 W3
    refine hq _ _ (W3.same rfl) ?_
    rw [← mul_q p q]
    exact W3.get .here
theorem ok_law_div {f : Addr} {fd : FuncData} (F : Fun K "_law_div" "_law_div" s_law_div f fd) (d_law_low : Df P w K mg base CX0 1 "_law_low" ["top", "bottom"] sp_low) : FnOk P w K mg base CX0 2 f fd ["one", "other"] sp_qdiv := by
  have sc := sc_law_div
  refine F.ok sc (fun vs H Q E h => ?_) (fun cdv A outer s H vs Q E hr h => ?_)
  · obtain ⟨sa, x, y, p, q, rfl, _⟩ := h
    rfl
  · obtain ⟨sa, x, y, p, q, rfl, t, r0, r1, b1, b2, hc, hq⟩ := h
    unfold FQ at r0 r1
    obtain ⟨x1, rfl⟩ : ∃ a, x = .ref a := by cases r0; exact ⟨_, rfl⟩
    obtain ⟨y1, rfl⟩ : ∃ a, y = .ref a := by cases r1; exact ⟨_, rfl⟩
    refine ⟨_, (pss_one (ps_ret (pe_call d_law_low.F (hr.mono (by decide)) (by rfl) d_law_low.g d_law_low.kp d_law_low.b .nil pass0 (pa_cons (pe_op op_mulX (pe_ix ix_tup (pv 0) pe_int (fun _ _ => rfl)) (pe_ix ix_tup (pv 1) pe_int (fun _ _ => rfl))) (pa_cons (pe_op op_mulX (pe_ix ix_tup (pv 0) pe_int (fun _ _ => rfl)) (pe_ix ix_tup (pv 1) pe_int (fun _ _ => rfl))) pa_nil))))), ?_⟩
    (rw [show start ["one", "other"] [.ref x1, .ref y1] = [some (.ref x1), some (.ref y1)] from rfl]; try dsimp only [cxOf])
    have W := wd_start t (.cons r0 (.cons r1 .nil))
    obtain ⟨bn, bd⟩ := b1
    obtain ⟨cn, cd⟩ := b2
    have nz := Int.mul_ne_zero (den_ne p) (num_ne hc)
    walk_at "w"
    rename_i H1 p3 W3
    refine hq _ _ (W3.same rfl) ?_
    rw [← div_q hc]
    exact W3.get .here
end

/-! ### points and steps -/
def Ppp (C : Rat → Rat → Rat → Rat → Prop) (g : Rat → Rat → Rat → Rat → PyData) : Sp := fun vs H Q _ => ∃ (sa : Addr) (x y : V) (a b c d : Rat), vs = [x, y] ∧ (∃ o, H sa = some o) ∧ Rp sa H x (PQ a b) ∧ Rp sa H y (PQ c d) ∧ (Qb 4400 a ∧ Qb 4400 b ∧ Qb 4400 c ∧ Qb 4400 d) ∧ C a b c d ∧ ∀ H' P, Same H H' → Rp sa H' (.ref P) (g a b c d) → Q (.ref P) H'
theorem c_pp {C : Rat → Rat → Rat → Rat → Prop} {g : Rat → Rat → Rat → Rat → PyData} {z : Bool} {sa : Addr} {H0 H : Hp} {acc : List V} {dacc : List PyData} {Q : VK} {E : XK} {x y : V} {a b c d : Rat} (W : Wd z sa H0 H acc dacc) (r1 : Rp sa H x (PQ a b)) (r2 : Rp sa H y (PQ c d)) (b1 : Qb 4400 a) (b2 : Qb 4400 b) (b3 : Qb 4400 c) (b4 : Qb 4400 d) (hc : C a b c d)
    (h : ∀ H' P, Wd z sa H0 H' (.ref P :: acc) (g a b c d :: dacc) → Q (.ref P) H') : Ppp C g [x, y] H Q E := ⟨sa, x, y, a, b, c, d, rfl, W.tr, r1, r2, ⟨b1, b2, b3, b4⟩, hc, fun H' P s r => h H' P ((W.go s).put r)⟩
def Ppq (g : Rat → Rat → Rat → PyData) : Sp := fun vs H Q _ => ∃ (sa : Addr) (x y : V) (a b f : Rat), vs = [x, y] ∧ (∃ o, H sa = some o) ∧ Rp sa H x (PQ a b) ∧ Rp sa H y (FQ f) ∧ (Qb 4400 a ∧ Qb 4400 b ∧ Qb 4400 f) ∧ ∀ H' P, Same H H' → Rp sa H' (.ref P) (g a b f) → Q (.ref P) H'
theorem c_pq {g : Rat → Rat → Rat → PyData} {z : Bool} {sa : Addr} {H0 H : Hp} {acc : List V} {dacc : List PyData} {Q : VK} {E : XK} {x y : V} {a b f : Rat} (W : Wd z sa H0 H acc dacc) (r1 : Rp sa H x (PQ a b)) (r2 : Rp sa H y (FQ f)) (b1 : Qb 4400 a) (b2 : Qb 4400 b) (b3 : Qb 4400 f)
    (h : ∀ H' P, Wd z sa H0 H' (.ref P :: acc) (g a b f :: dacc) → Q (.ref P) H') : Ppq g [x, y] H Q E := ⟨sa, x, y, a, b, f, rfl, W.tr, r1, r2, ⟨b1, b2, b3⟩, fun H' P s r => h H' P ((W.go s).put r)⟩
abbrev sp_pplus : Sp := Ppp (fun _ _ _ _ => True) fun a b c d => PQ (a + c) (b + d)
abbrev sp_pminus : Sp := Ppp (fun _ _ _ _ => True) fun a b c d => PQ (a - c) (b - d)
abbrev sp_pcross : Sp := Ppp (fun a b c d => Qb 4400 (a * d) ∧ Qb 4400 (b * c)) fun a b c d => FQ (a * d - b * c)
abbrev sp_pdot : Sp := Ppp (fun a b c d => Qb 4400 (a * c) ∧ Qb 4400 (b * d)) fun a b c d => FQ (a * c + b * d)
abbrev sp_pturn : Sp := Ppp (fun a b c d => (Qb 4400 (a * c) ∧ Qb 4400 (b * d)) ∧ Qb 4400 (a * d) ∧ Qb 4400 (b * c)) fun a b c d => PQ (a * c - b * d) (a * d + b * c)
abbrev sp_ptimes : Sp := Ppq fun a b f => PQ (a * f) (b * f)
local macro_rules | `(tactic| walk_at "call1") => `(tactic| first
  | ((with_reducible show sp_low _ _ _ _); (with_reducible apply c_low); (focus assumption); (focus (walk_at "ne0")); (focus (exact Bt.log (by walk_at "bt") (by decide))); intro _ _ _)
  | ((with_reducible show Pq2 _ _ _ _ _ _); (with_reducible apply c_q2); (focus assumption); (focus (walk_at "rp")); (focus (walk_at "rp")); (focus assumption); (focus assumption); (focus (first | trivial | assumption)); intro _ _ _)
  | ((with_reducible show Ppp _ _ _ _ _ _); (with_reducible apply c_pp); (focus assumption); (focus (walk_at "rp")); (focus (walk_at "rp")); (focus assumption); (focus assumption); (focus assumption); (focus assumption); (focus (first | trivial | assumption | exact ⟨by assumption, by assumption⟩ | exact ⟨⟨by assumption, by assumption⟩, by assumption, by assumption⟩)); intro _ _ _)
  | ((with_reducible show Ppq _ _ _ _ _); (with_reducible apply c_pq); (focus assumption); (focus (walk_at "rp")); (focus (walk_at "rp")); (focus assumption); (focus assumption); (focus assumption); intro _ _ _))
section
variable {P : Program} {w : World} {K : PySem.W.Frag} {mg : Str → Option Value} {base : Heap}
theorem ok_law_plus {f : Addr} {fd : FuncData} (F : Fun K "_law_plus" "_law_plus" s_law_plus f fd) (d_law_add : Df P w K mg base CX0 2 "_law_add" ["one", "other"] sp_qadd) : FnOk P w K mg base CX0 3 f fd ["one", "other"] sp_pplus := by
  have sc := sc_law_plus
  refine F.ok sc (fun vs H Q E h => ?_) (fun cdv A outer s H vs Q E hr h => ?_)
  · obtain ⟨sa, x, y, a, b, c, d, rfl, _⟩ := h
    rfl
  · obtain ⟨sa, x, y, a, b, c, d, rfl, t, r0, r1, ⟨b1, b2, b3, b4⟩, _, hq⟩ := h
    obtain ⟨x1, rfl⟩ : ∃ a, x = .ref a := by cases r0; exact ⟨_, rfl⟩
    obtain ⟨y1, rfl⟩ : ∃ a, y = .ref a := by cases r1; exact ⟨_, rfl⟩
    refine ⟨_, (pss_one (ps_ret (pe_tup (pa_cons (pe_call d_law_add.F (hr.mono (by decide)) (by rfl) d_law_add.g d_law_add.kp d_law_add.b .nil pass0 (pa_cons (pe_ix ix_tup (pv 0) pe_int (fun _ _ => rfl)) (pa_cons (pe_ix ix_tup (pv 1) pe_int (fun _ _ => rfl)) pa_nil))) (pa_cons (pe_call d_law_add.F (hr.mono (by decide)) (by rfl) d_law_add.g d_law_add.kp d_law_add.b .nil pass0 (pa_cons (pe_ix ix_tup (pv 0) pe_int (fun _ _ => rfl)) (pa_cons (pe_ix ix_tup (pv 1) pe_int (fun _ _ => rfl)) pa_nil))) pa_nil))))), ?_⟩
    (rw [show start ["one", "other"] [.ref x1, .ref y1] = [some (.ref x1), some (.ref y1)] from rfl]; try dsimp only [cxOf])
    have W := wd_start t (.cons r0 (.cons r1 .nil))
    walk_at "w"
    exact hq _ _ (Wd.same (by assumption) rfl) (Wd.get (by assumption) .here)
theorem ok_law_minus {f : Addr} {fd : FuncData} (F : Fun K "_law_minus" "_law_minus" s_law_minus f fd) (d_law_sub : Df P w K mg base CX0 2 "_law_sub" ["one", "other"] sp_qsub) : FnOk P w K mg base CX0 3 f fd ["one", "other"] sp_pminus := by
  have sc := sc_law_minus
  refine F.ok sc (fun vs H Q E h => ?_) (fun cdv A outer s H vs Q E hr h => ?_)
  · obtain ⟨sa, x, y, a, b, c, d, rfl, _⟩ := h
    rfl
  · obtain ⟨sa, x, y, a, b, c, d, rfl, t, r0, r1, ⟨b1, b2, b3, b4⟩, _, hq⟩ := h
    obtain ⟨x1, rfl⟩ : ∃ a, x = .ref a := by cases r0; exact ⟨_, rfl⟩
    obtain ⟨y1, rfl⟩ : ∃ a, y = .ref a := by cases r1; exact ⟨_, rfl⟩
    refine ⟨_, (pss_one (ps_ret (pe_tup (pa_cons (pe_call d_law_sub.F (hr.mono (by decide)) (by rfl) d_law_sub.g d_law_sub.kp d_law_sub.b .nil pass0 (pa_cons (pe_ix ix_tup (pv 0) pe_int (fun _ _ => rfl)) (pa_cons (pe_ix ix_tup (pv 1) pe_int (fun _ _ => rfl)) pa_nil))) (pa_cons (pe_call d_law_sub.F (hr.mono (by decide)) (by rfl) d_law_sub.g d_law_sub.kp d_law_sub.b .nil pass0 (pa_cons (pe_ix ix_tup (pv 0) pe_int (fun _ _ => rfl)) (pa_cons (pe_ix ix_tup (pv 1) pe_int (fun _ _ => rfl)) pa_nil))) pa_nil))))), ?_⟩
    (rw [show start ["one", "other"] [.ref x1, .ref y1] = [some (.ref x1), some (.ref y1)] from rfl]; try dsimp only [cxOf])
    have W := wd_start t (.cons r0 (.cons r1 .nil))
    walk_at "w"
    exact hq _ _ (Wd.same (by assumption) rfl) (Wd.get (by assumption) .here)
theorem ok_law_times {f : Addr} {fd : FuncData} (F : Fun K "_law_times" "_law_times" s_law_times f fd) (d_law_mul : Df P w K mg base CX0 2 "_law_mul" ["one", "other"] sp_qmul) : FnOk P w K mg base CX0 3 f fd ["step", "factor"] sp_ptimes := by
  have sc := sc_law_times
  refine F.ok sc (fun vs H Q E h => ?_) (fun cdv A outer s H vs Q E hr h => ?_)
  · obtain ⟨sa, x, y, a, b, c, rfl, _⟩ := h
    rfl
  · obtain ⟨sa, x, y, a, b, c, rfl, t, r0, r1, ⟨b1, b2, b3⟩, hq⟩ := h
    obtain ⟨x1, rfl⟩ : ∃ a, x = .ref a := by cases r0; exact ⟨_, rfl⟩
    skip
    refine ⟨_, (pss_one (ps_ret (pe_tup (pa_cons (pe_call d_law_mul.F (hr.mono (by decide)) (by rfl) d_law_mul.g d_law_mul.kp d_law_mul.b .nil pass0 (pa_cons (pe_ix ix_tup (pv 0) pe_int (fun _ _ => rfl)) (pa_cons (pv 1) pa_nil))) (pa_cons (pe_call d_law_mul.F (hr.mono (by decide)) (by rfl) d_law_mul.g d_law_mul.kp d_law_mul.b .nil pass0 (pa_cons (pe_ix ix_tup (pv 0) pe_int (fun _ _ => rfl)) (pa_cons (pv 1) pa_nil))) pa_nil))))), ?_⟩
    (rw [show start ["step", "factor"] [.ref x1, y] = [some (.ref x1), some (y)] from rfl]; try dsimp only [cxOf])
    have W := wd_start t (.cons r0 (.cons r1 .nil))
    walk_at "w"
    exact hq _ _ (Wd.same (by assumption) rfl) (Wd.get (by assumption) .here)
theorem ok_law_cross {f : Addr} {fd : FuncData} (F : Fun K "_law_cross" "_law_cross" s_law_cross f fd) (d_law_sub : Df P w K mg base CX0 2 "_law_sub" ["one", "other"] sp_qsub) (d_law_mul : Df P w K mg base CX0 2 "_law_mul" ["one", "other"] sp_qmul) : FnOk P w K mg base CX0 3 f fd ["one", "other"] sp_pcross := by
  have sc := sc_law_cross
  refine F.ok sc (fun vs H Q E h => ?_) (fun cdv A outer s H vs Q E hr h => ?_)
  · obtain ⟨sa, x, y, a, b, c, d, rfl, _⟩ := h
    rfl
  · obtain ⟨sa, x, y, a, b, c, d, rfl, t, r0, r1, ⟨b1, b2, b3, b4⟩, ⟨c1, c2⟩, hq⟩ := h
    obtain ⟨x1, rfl⟩ : ∃ a, x = .ref a := by cases r0; exact ⟨_, rfl⟩
    obtain ⟨y1, rfl⟩ : ∃ a, y = .ref a := by cases r1; exact ⟨_, rfl⟩
    refine ⟨_, (pss_one (ps_ret (pe_call d_law_sub.F (hr.mono (by decide)) (by rfl) d_law_sub.g d_law_sub.kp d_law_sub.b .nil pass0 (pa_cons (pe_call d_law_mul.F (hr.mono (by decide)) (by rfl) d_law_mul.g d_law_mul.kp d_law_mul.b .nil pass0 (pa_cons (pe_ix ix_tup (pv 0) pe_int (fun _ _ => rfl)) (pa_cons (pe_ix ix_tup (pv 1) pe_int (fun _ _ => rfl)) pa_nil))) (pa_cons (pe_call d_law_mul.F (hr.mono (by decide)) (by rfl) d_law_mul.g d_law_mul.kp d_law_mul.b .nil pass0 (pa_cons (pe_ix ix_tup (pv 0) pe_int (fun _ _ => rfl)) (pa_cons (pe_ix ix_tup (pv 1) pe_int (fun _ _ => rfl)) pa_nil))) pa_nil))))), ?_⟩
    (rw [show start ["one", "other"] [.ref x1, .ref y1] = [some (.ref x1), some (.ref y1)] from rfl]; try dsimp only [cxOf])
    have W := wd_start t (.cons r0 (.cons r1 .nil))
    walk_at "w"
    exact hq _ _ (Wd.same (by assumption) rfl) (Wd.get (by assumption) .here)
theorem ok_law_dot {f : Addr} {fd : FuncData} (F : Fun K "_law_dot" "_law_dot" s_law_dot f fd) (d_law_add : Df P w K mg base CX0 2 "_law_add" ["one", "other"] sp_qadd) (d_law_mul : Df P w K mg base CX0 2 "_law_mul" ["one", "other"] sp_qmul) : FnOk P w K mg base CX0 3 f fd ["one", "other"] sp_pdot := by
  have sc := sc_law_dot
  refine F.ok sc (fun vs H Q E h => ?_) (fun cdv A outer s H vs Q E hr h => ?_)
  · obtain ⟨sa, x, y, a, b, c, d, rfl, _⟩ := h
    rfl
  · obtain ⟨sa, x, y, a, b, c, d, rfl, t, r0, r1, ⟨b1, b2, b3, b4⟩, ⟨c1, c2⟩, hq⟩ := h
    obtain ⟨x1, rfl⟩ : ∃ a, x = .ref a := by cases r0; exact ⟨_, rfl⟩
    obtain ⟨y1, rfl⟩ : ∃ a, y = .ref a := by cases r1; exact ⟨_, rfl⟩
    refine ⟨_, (pss_one (ps_ret (pe_call d_law_add.F (hr.mono (by decide)) (by rfl) d_law_add.g d_law_add.kp d_law_add.b .nil pass0 (pa_cons (pe_call d_law_mul.F (hr.mono (by decide)) (by rfl) d_law_mul.g d_law_mul.kp d_law_mul.b .nil pass0 (pa_cons (pe_ix ix_tup (pv 0) pe_int (fun _ _ => rfl)) (pa_cons (pe_ix ix_tup (pv 1) pe_int (fun _ _ => rfl)) pa_nil))) (pa_cons (pe_call d_law_mul.F (hr.mono (by decide)) (by rfl) d_law_mul.g d_law_mul.kp d_law_mul.b .nil pass0 (pa_cons (pe_ix ix_tup (pv 0) pe_int (fun _ _ => rfl)) (pa_cons (pe_ix ix_tup (pv 1) pe_int (fun _ _ => rfl)) pa_nil))) pa_nil))))), ?_⟩
    (rw [show start ["one", "other"] [.ref x1, .ref y1] = [some (.ref x1), some (.ref y1)] from rfl]; try dsimp only [cxOf])
    have W := wd_start t (.cons r0 (.cons r1 .nil))
    walk_at "w"
    exact hq _ _ (Wd.same (by assumption) rfl) (Wd.get (by assumption) .here)
theorem ok_law_turn {f : Addr} {fd : FuncData} (F : Fun K "_law_turn" "_law_turn" s_law_turn f fd) (d_law_add : Df P w K mg base CX0 2 "_law_add" ["one", "other"] sp_qadd) (d_law_sub : Df P w K mg base CX0 2 "_law_sub" ["one", "other"] sp_qsub) (d_law_mul : Df P w K mg base CX0 2 "_law_mul" ["one", "other"] sp_qmul) : FnOk P w K mg base CX0 3 f fd ["one", "other"] sp_pturn := by
  have sc := sc_law_turn
  refine F.ok sc (fun vs H Q E h => ?_) (fun cdv A outer s H vs Q E hr h => ?_)
  · obtain ⟨sa, x, y, a, b, c, d, rfl, _⟩ := h
    rfl
  · obtain ⟨sa, x, y, a, b, c, d, rfl, t, r0, r1, ⟨b1, b2, b3, b4⟩, ⟨⟨c1, c2⟩, c3, c4⟩, hq⟩ := h
    obtain ⟨x1, rfl⟩ : ∃ a, x = .ref a := by cases r0; exact ⟨_, rfl⟩
    obtain ⟨y1, rfl⟩ : ∃ a, y = .ref a := by cases r1; exact ⟨_, rfl⟩
    refine ⟨_, (pss_cons (ps_asg (pe_call d_law_sub.F (hr.mono (by decide)) (by rfl) d_law_sub.g d_law_sub.kp d_law_sub.b .nil pass0 (pa_cons (pe_call d_law_mul.F (hr.mono (by decide)) (by rfl) d_law_mul.g d_law_mul.kp d_law_mul.b .nil pass0 (pa_cons (pe_ix ix_tup (pv 0) pe_int (fun _ _ => rfl)) (pa_cons (pe_ix ix_tup (pv 1) pe_int (fun _ _ => rfl)) pa_nil))) (pa_cons (pe_call d_law_mul.F (hr.mono (by decide)) (by rfl) d_law_mul.g d_law_mul.kp d_law_mul.b .nil pass0 (pa_cons (pe_ix ix_tup (pv 0) pe_int (fun _ _ => rfl)) (pa_cons (pe_ix ix_tup (pv 1) pe_int (fun _ _ => rfl)) pa_nil))) pa_nil))) (pg_name (i := 2) sc.nd rfl (.inl rfl)))
    (pss_one (ps_ret (pe_tup (pa_cons (pv 2) (pa_cons (pe_call d_law_add.F (hr.mono (by decide)) (by rfl) d_law_add.g d_law_add.kp d_law_add.b .nil pass0 (pa_cons (pe_call d_law_mul.F (hr.mono (by decide)) (by rfl) d_law_mul.g d_law_mul.kp d_law_mul.b .nil pass0 (pa_cons (pe_ix ix_tup (pv 0) pe_int (fun _ _ => rfl)) (pa_cons (pe_ix ix_tup (pv 1) pe_int (fun _ _ => rfl)) pa_nil))) (pa_cons (pe_call d_law_mul.F (hr.mono (by decide)) (by rfl) d_law_mul.g d_law_mul.kp d_law_mul.b .nil pass0 (pa_cons (pe_ix ix_tup (pv 0) pe_int (fun _ _ => rfl)) (pa_cons (pe_ix ix_tup (pv 1) pe_int (fun _ _ => rfl)) pa_nil))) pa_nil))) pa_nil)))))), ?_⟩
    (rw [show start ["one", "other", "first"] [.ref x1, .ref y1] = [some (.ref x1), some (.ref y1), none] from rfl]; try dsimp only [cxOf])
    have W := wd_start t (.cons r0 (.cons r1 .nil))
    walk_at "w"
    exact hq _ _ (Wd.same (by assumption) rfl) (Wd.get (by assumption) .here)
end

/-! ### smaller defs: the opposite, the ray, the lesser of two -/
def Pq1 (C : Rat → Prop) (g : Rat → PyData) : Sp := fun vs H Q _ => ∃ (sa : Addr) (x : V) (q : Rat), vs = [x] ∧ (∃ o, H sa = some o) ∧ Rp sa H x (FQ q) ∧ C q ∧ ∀ H' P, Same H H' → Rp sa H' (.ref P) (g q) → Q (.ref P) H'
theorem c_q1 {C : Rat → Prop} {g : Rat → PyData} {z : Bool} {sa : Addr} {H0 H : Hp} {acc : List V} {dacc : List PyData} {Q : VK} {E : XK} {x : V} {q : Rat} (W : Wd z sa H0 H acc dacc) (r1 : Rp sa H x (FQ q)) (hc : C q)
    (h : ∀ H' P, Wd z sa H0 H' (.ref P :: acc) (g q :: dacc) → Q (.ref P) H') : Pq1 C g [x] H Q E := ⟨sa, x, q, rfl, W.tr, r1, hc, fun H' P s r => h H' P ((W.go s).put r)⟩
abbrev sp_qneg : Sp := Pq1 (fun _ => True) fun q => FQ (-q)
abbrev sp_qray : Sp := Pq1 (fun q => Qb 2000 q) fun q => PQ ((1 - q * q) / (1 + q * q)) (2 * q / (1 + q * q))
theorem neg_q (q : Rat) : PyData.tuple [.int (-q.num), .int (q.den : Int)] = FQ (-q) := by
  unfold FQ
  rw [Rat.neg_num, Rat.neg_den]
theorem ray_ne (q : Rat) : (q.den : Int) * (q.den : Int) + q.num * q.num ≠ 0 := by
  have h1 := Int.mul_pos (show (0 : Int) < q.den by have := q.den_pos; omega) (show (0 : Int) < q.den by have := q.den_pos; omega)
  have h2 : 0 ≤ q.num * q.num := by rw [← Int.natAbs_mul_self]; omega
  omega
theorem ray_q1 (q : Rat) : rt ((q.den : Int) * (q.den : Int) - q.num * q.num) ((q.den : Int) * (q.den : Int) + q.num * q.num) = FQ ((1 - q * q) / (1 + q * q)) := by
  rw [rt_q (ray_ne q)]
  congr 1
  have hn := i_ne (ray_ne q)
  rw [Rat.intCast_add, Rat.intCast_mul, Rat.intCast_mul, num_eq] at hn
  rw [Rat.intCast_sub, Rat.intCast_add, Rat.intCast_mul, Rat.intCast_mul, num_eq]
  have h1 := denR_ne q
  have h4 := q_sq q
  have h3 : 1 + q * q ≠ 0 := by grind
  generalize ((q.den : Int) : Rat) = a at *
  grind
theorem ray_q2 (q : Rat) : rt (2 * q.num * (q.den : Int)) ((q.den : Int) * (q.den : Int) + q.num * q.num) = FQ (2 * q / (1 + q * q)) := by
  rw [rt_q (ray_ne q)]
  congr 1
  have hn := i_ne (ray_ne q)
  rw [Rat.intCast_add, Rat.intCast_mul, Rat.intCast_mul, num_eq] at hn
  rw [Rat.intCast_add, Rat.intCast_mul, Rat.intCast_mul, Rat.intCast_mul, Rat.intCast_mul, num_eq, show ((2 : Int) : Rat) = 2 from rfl]
  have h1 := denR_ne q
  have h4 := q_sq q
  have h3 : 1 + q * q ≠ 0 := by grind
  generalize ((q.den : Int) : Rat) = a at *
  grind
section
variable {P : Program} {w : World} {K : PySem.W.Frag} {mg : Str → Option Value} {base : Heap}
theorem ok_law_neg {f : Addr} {fd : FuncData} (F : Fun K "_law_neg" "_law_neg" s_law_neg f fd) : FnOk P w K mg base CX0 1 f fd ["one"] sp_qneg := by
  have sc := sc_law_neg
  refine F.ok sc (fun vs H Q E h => ?_) (fun cdv A outer s H vs Q E hr h => ?_)
  · obtain ⟨sa, x, q, rfl, _⟩ := h
    rfl
  · obtain ⟨sa, x, q, rfl, t, r0, hc, hq⟩ := h
    unfold FQ at r0
    obtain ⟨x1, rfl⟩ : ∃ a, x = .ref a := by cases r0; exact ⟨_, rfl⟩
    refine ⟨_, (pss_one (ps_ret (pe_tup (pa_cons (pe_un un_neg (pe_ix ix_tup (pv 0) pe_int (fun _ _ => rfl))) (pa_cons (pe_ix ix_tup (pv 0) pe_int (fun _ _ => rfl)) pa_nil))))), ?_⟩
    (rw [show start ["one"] [.ref x1] = [some (.ref x1)] from rfl]; try dsimp only [cxOf])
    have W := wd_start t (.cons r0 .nil)
    walk_at "w"
    refine hq _ _ (Wd.same (by assumption) rfl) ?_
    show Rp sa _ _ (FQ (-q))
    rw [← neg_q]
    exact Wd.get (by assumption) .here
theorem ok_law_ray {f : Addr} {fd : FuncData} (F : Fun K "_law_ray" "_law_ray" s_law_ray f fd) (d_law_low : Df P w K mg base CX0 1 "_law_low" ["top", "bottom"] sp_low) : FnOk P w K mg base CX0 2 f fd ["slope"] sp_qray := by
  have sc := sc_law_ray
  refine F.ok sc (fun vs H Q E h => ?_) (fun cdv A outer s H vs Q E hr h => ?_)
  · obtain ⟨sa, x, q, rfl, _⟩ := h
    rfl
  · obtain ⟨sa, x, q, rfl, t, r0, ⟨bn, bd⟩, hq⟩ := h
    unfold FQ at r0
    obtain ⟨x1, rfl⟩ : ∃ a, x = .ref a := by cases r0; exact ⟨_, rfl⟩
    refine ⟨_, (pss_cons (ps_asg (pe_op op_mulX (pe_ix ix_tup (pv 0) pe_int (fun _ _ => rfl)) (pe_ix ix_tup (pv 0) pe_int (fun _ _ => rfl))) (pg_name (i := 1) sc.nd rfl (.inl rfl)))
    (pss_cons (ps_asg (pe_op op_mulX (pe_ix ix_tup (pv 0) pe_int (fun _ _ => rfl)) (pe_ix ix_tup (pv 0) pe_int (fun _ _ => rfl))) (pg_name (i := 2) sc.nd rfl (.inl rfl)))
    (pss_one (ps_ret (pe_tup (pa_cons (pe_call d_law_low.F (hr.mono (by decide)) (by rfl) d_law_low.g d_law_low.kp d_law_low.b .nil pass0 (pa_cons (pe_op op_sub (pv 2) (pv 1)) (pa_cons (pe_op op_add (pv 2) (pv 1)) pa_nil))) (pa_cons (pe_call d_law_low.F (hr.mono (by decide)) (by rfl) d_law_low.g d_law_low.kp d_law_low.b .nil pass0 (pa_cons (pe_op op_mulX (pe_op op_mulX pe_int (pe_ix ix_tup (pv 0) pe_int (fun _ _ => rfl))) (pe_ix ix_tup (pv 0) pe_int (fun _ _ => rfl))) (pa_cons (pe_op op_add (pv 2) (pv 1)) pa_nil))) pa_nil))))))), ?_⟩
    (rw [show start ["slope", "top", "bottom"] [.ref x1] = [some (.ref x1), none, none] from rfl]; try dsimp only [cxOf])
    have W := wd_start t (.cons r0 .nil)
    have b2 : Bt 2 (2 : Int) := bt_lit 2 (by decide)
    have nz := ray_ne q
    walk_at "w"
    refine hq _ _ (Wd.same (by assumption) rfl) ?_
    show Rp sa _ _ (.tuple [FQ ((1 - q * q) / (1 + q * q)), FQ (2 * q / (1 + q * q))])
    rw [← ray_q1, ← ray_q2]
    exact Wd.get (by assumption) .here
end

/-! ### the length of a step -/
theorem low_sqq {k w : Int} (l : Low k w) : Low (k * k) (w * w) := by
  have hw := l.pos
  refine ⟨by have := Int.mul_pos (show 0 < w by omega) (show 0 < w by omega); omega, ?_⟩
  rw [Int.natAbs_mul, Int.natAbs_mul]
  have c : Nat.Coprime k.natAbs w.natAbs := l.one
  exact Nat.Coprime.mul_left (Nat.Coprime.mul_right c c) (Nat.Coprime.mul_right c c)
theorem q_cross {q : Rat} {x y : Int} (h : y ≠ 0) (e : q * (y : Rat) = x) : q.num * y = x * (q.den : Int) := by
  have : ((q.num * y : Int) : Rat) = ((x * (q.den : Int) : Int) : Rat) := by
    rw [Rat.intCast_mul, Rat.intCast_mul, num_eq, ← e]
    grind
  exact Rat.intCast_inj.mp this
theorem q_low {q : Rat} {x y : Int} (l : Low x y) (e : q * (y : Rat) = x) : q.num = x ∧ (q.den : Int) = y := low_uni (low_q q) l (q_cross (by have := l.pos; omega) e)
theorem sq_num (l : Rat) : (l * l).num = l.num * l.num ∧ ((l * l).den : Int) = (l.den : Int) * (l.den : Int) := q_low (low_sqq (low_q l)) (by
  rw [Rat.intCast_mul, Rat.intCast_mul, num_eq]
  grind)
theorem q_sq_inj {a b : Rat} (ha : 0 ≤ a) (hb : 0 ≤ b) (e : a * a = b * b) : a = b := by
  have h : (a - b) * (a + b) = 0 := by grind
  by_cases h1 : a + b = 0
  · grind
  · grind
/-- a square of a rational number, or none -/
theorem root_q {s : Rat} : (∃ r u : Nat, s.num = (r : Int) * r ∧ (s.den : Int) = (u : Int) * u ∧ Low (r : Int) (u : Int)) ∨ (∀ r : Nat, s.num ≠ (r : Int) * r) ∨ ∀ u : Nat, (s.den : Int) ≠ (u : Int) * u := by
  rcases root_cases s.num with ⟨r, er⟩ | n
  · rcases root_cases (s.den : Int) with ⟨u, eu⟩ | n
    · refine .inl ⟨r, u, er, eu, ?_, ?_⟩
      · have := s.den_pos
        have : u ≠ 0 := fun z => by
          subst z
          simp at eu
          omega
        omega
      · have h := (low_q s).one
        rw [er, eu, Int.natAbs_mul, Int.natAbs_mul] at h
        have c : Nat.Coprime ((r : Int).natAbs * (r : Int).natAbs) ((u : Int).natAbs * (u : Int).natAbs) := h
        exact Nat.Coprime.coprime_mul_left (Nat.Coprime.coprime_mul_left_right c)
    · exact .inr (.inr n)
  · exact .inr (.inl n)
abbrev sp_psize : Sp := fun vs H Q _ => ∃ (sa : Addr) (x : V) (a b : Rat), vs = [x] ∧ (∃ o, H sa = some o) ∧ Rp sa H x (PQ a b) ∧ (Qb 4400 a ∧ Qb 4400 b ∧ Qb 4400 (a * a) ∧ Qb 4400 (b * b) ∧ Qb 8000 (a * a + b * b)) ∧
  (∀ l : Rat, 0 ≤ l → l * l = a * a + b * b → ∀ H' P, Same H H' → Rp sa H' (.ref P) (FQ l) → Q (.ref P) H') ∧ ((∀ l : Rat, l * l ≠ a * a + b * b) → ∀ H', Same H H' → Q .non H')
section
variable {P : Program} {w : World} {K : PySem.W.Frag} {mg : Str → Option Value} {base : Heap}
theorem ok_law_size {f : Addr} {fd : FuncData} (F : Fun K "_law_size" "_law_size" s_law_size f fd) (d_law_dot : Df P w K mg base CX0 3 "_law_dot" ["one", "other"] sp_pdot) (d_law_root : Df P w K mg base CX0 1 "_law_root" ["number"] sp_lroot) : FnOk P w K mg base CX0 4 f fd ["step"] sp_psize := by
  have sc := sc_law_size
  refine F.ok sc (fun vs H Q E h => ?_) (fun cdv A outer s H vs Q E hr h => ?_)
  · obtain ⟨sa, x, a, b, rfl, _⟩ := h
    rfl
  · obtain ⟨sa, x, a, b, rfl, t, r0, ⟨b1, b2, b3, b4, b5⟩, yes, no⟩ := h
    obtain ⟨p, rfl⟩ : ∃ p, x = .ref p := by cases r0; exact ⟨_, rfl⟩
    refine ⟨_, (pss_cons (ps_asg (pe_call d_law_dot.F (hr.mono (by decide)) (by rfl) d_law_dot.g d_law_dot.kp d_law_dot.b .nil pass0 (pa_cons (pv 0) (pa_cons (pv 0) pa_nil))) (pg_name (i := 1) sc.nd rfl (.inl rfl)))
    (pss_cons (ps_asg (pe_call d_law_root.F (hr.mono (by decide)) (by rfl) d_law_root.g d_law_root.kp d_law_root.b .nil pass0 (pa_cons (pe_ix ix_tup (pv 1) pe_int (fun _ _ => rfl)) pa_nil)) (pg_name (i := 2) sc.nd rfl (.inl rfl)))
    (pss_cons (ps_asg (pe_call d_law_root.F (hr.mono (by decide)) (by rfl) d_law_root.g d_law_root.kp d_law_root.b .nil pass0 (pa_cons (pe_ix ix_tup (pv 1) pe_int (fun _ _ => rfl)) pa_nil)) (pg_name (i := 3) sc.nd rfl (.inl rfl)))
    (pss_cons (ps_if (PW.pt (pw_or (pt_cmpR oq_isN (pv 2) pe_non (nomark _)) (pw_or1 (pt_cmpR oq_isN (pv 3) pe_non (nomark _))))) (pss_one (ps_ret pe_non)) pss_nil)
    (pss_one (ps_ret (pe_tup (pa_cons (pv 2) (pa_cons (pv 3) pa_nil))))))))), ?_⟩
    (rw [show start ["step", "square", "top", "bottom"] [.ref p] = [some (.ref p), none, none, none] from rfl]; try dsimp only [cxOf])
    have W := wd_start t (.cons r0 .nil)
    walk_at "w"
    rename_i H2 p2 W2
    obtain ⟨s, hs⟩ : ∃ s, s = a * a + b * b := ⟨_, rfl⟩
    have s0 : 0 ≤ s.num := by
      have h : 0 ≤ s := by
        rw [hs]
        have := q_sq a
        have := q_sq b
        grind
      exact Rat.num_nonneg.mpr h
    have W3 : Wd false sa H H2 [.ref p2, .ref p] [.tuple [.int s.num, .int (s.den : Int)], PQ a b] := by
      have := W2
      rw [hs]
      exact this
    rw [← hs] at b5
    obtain ⟨bn, bd⟩ := b5
    have d0 : (0 : Int) ≤ (s.den : Int) := by omega
    clear W2
    walk_at "w"
    have noR : (∀ r : Nat, s.num ≠ (r : Int) * r) ∨ (∀ u : Nat, (s.den : Int) ≠ (u : Int) * u) → ∀ l : Rat, l * l ≠ a * a + b * b := fun h l e => by
      rw [← hs] at e
      obtain ⟨e1, e2⟩ := sq_num l
      rw [e] at e1 e2
      rcases h with h | h
      · exact h l.num.natAbs (by rw [e1]; exact (Int.natAbs_mul_self' l.num).symm)
      · exact h l.den e2
    rcases root_q (s := s) with ⟨r, u, er, eu, lo⟩ | h
    · refine call_P (ds := [.int s.num]) W3 (.cons (.int _) .nil) ⟨_, rfl, s0, bn⟩ fun H3 => ?_
      rw [show f_root [.int s.num] = .int (r : Int) from by rw [er]; exact f_root_sq]
      walk_at "w"
      rename_i W4
      refine call_P (ds := [.int (s.den : Int)]) (by assumption) (.cons (.int _) .nil) ⟨_, rfl, d0, bd⟩ fun H4 => ?_
      rw [show f_root [.int (s.den : Int)] = .int (u : Int) from by rw [eu]; exact f_root_sq]
      walk_at "w"
      rename_i W6
      have hu : ((u : Int) : Rat) ≠ 0 := i_ne (by have := lo.pos; omega)
      obtain ⟨l, hl⟩ : ∃ l : Rat, l = ((r : Int) : Rat) / ((u : Int) : Rat) := ⟨_, rfl⟩
      have e1 : l * ((u : Int) : Rat) = ((r : Int) : Rat) := by rw [hl]; exact Rat.div_mul_cancel hu
      obtain ⟨q1, q2⟩ := q_low lo e1
      refine yes l ?_ ?_ _ _ (W6.same rfl) ?_
      · have u0 : (0 : Rat) < ((u : Int) : Rat) := Rat.intCast_pos.mpr (by have := lo.pos; omega)
        refine Rat.not_lt.mp fun z => ?_
        have h2 : (0 : Rat) < (-l) * ((u : Int) : Rat) := Rat.mul_pos (by grind) u0
        have h3 : (0 : Rat) ≤ ((r : Int) : Rat) := Rat.intCast_nonneg.mpr (by omega)
        grind
      · rw [← hs]
        have h1 := num_eq s
        have h2 := denR_ne s
        rw [er, eu, Rat.intCast_mul, Rat.intCast_mul] at h1
        rw [eu, Rat.intCast_mul] at h2
        generalize ((r : Int) : Rat) = r' at *
        generalize ((u : Int) : Rat) = u' at *
        grind
      · unfold FQ
        rw [q1, q2]
        exact W6.get .here
    · have nn := no (noR h)
      rcases h with h | h
      · refine call_P (ds := [.int s.num]) W3 (.cons (.int _) .nil) ⟨_, rfl, s0, bn⟩ fun H3 => ?_
        rw [f_root_no h]
        walk_at "w"
        refine call_P (ds := [.int (s.den : Int)]) (by assumption) (.cons (.int _) .nil) ⟨_, rfl, d0, bd⟩ fun H4 => v_any fun v W4 => ?_
        walk_at "w"
        exact nn _ (W4.same rfl)
      · refine call_P (ds := [.int s.num]) W3 (.cons (.int _) .nil) ⟨_, rfl, s0, bn⟩ fun H3 => v_any fun v W4 => ?_
        walk_at "w"
        refine call_P (ds := [.int (s.den : Int)]) (by assumption) (.cons (.int _) .nil) ⟨_, rfl, d0, bd⟩ fun H4 => ?_
        rw [f_root_no h]
        refine v_non fun W5 => ?_
        walk_at "w"
        cases v with
        | non =>
          walk_at "w"
          exact nn _ (W5.same rfl)
        | _ => refine ⟨rfl, ?_⟩; refine ⟨_, rfl, ?_⟩; refine iteF ?_; walk_at "w"; exact nn _ (W5.same rfl)
end

/-! ### the unit step from one point to the other -/
theorem FQ_one : PyData.tuple [.int 1, .int 1] = FQ 1 := by
  unfold FQ
  rw [show (1 : Rat).num = 1 from rfl, show (1 : Rat).den = 1 from rfl]
  rfl
theorem qb_one : Qb 4400 1 := ⟨(bt_lit 1 (by decide) : Bt 1 (1 : Int)).mono (by decide), (bt_lit 1 (by decide) : Bt 1 (1 : Int)).mono (by decide)⟩
theorem c_psize {z : Bool} {sa : Addr} {H0 H : Hp} {acc : List V} {dacc : List PyData} {Q : VK} {E : XK} {x : V} {a b l : Rat} (W : Wd z sa H0 H acc dacc) (r1 : Rp sa H x (PQ a b)) (b1 : Qb 4400 a) (b2 : Qb 4400 b) (b3 : Qb 4400 (a * a)) (b4 : Qb 4400 (b * b)) (b5 : Qb 8000 (a * a + b * b))
    (l0 : 0 ≤ l) (e : l * l = a * a + b * b) (h : ∀ H' P, Wd z sa H0 H' (.ref P :: acc) (FQ l :: dacc) → Q (.ref P) H') : sp_psize [x] H Q E :=
  ⟨sa, x, a, b, rfl, W.tr, r1, ⟨b1, b2, b3, b4, b5⟩, fun m m0 em H' P s r => h H' P ((W.go s).put (by rw [q_sq_inj l0 m0 (e.trans em.symm)]; exact r)), fun no => absurd e (no l)⟩
structure StepOk (a b c d l : Rat) : Prop where
  ha : Qb 4400 a
  hb : Qb 4400 b
  hc : Qb 4400 c
  hd : Qb 4400 d
  hx : Qb 4400 (c - a)
  hy : Qb 4400 (d - b)
  hxx : Qb 4400 ((c - a) * (c - a))
  hyy : Qb 4400 ((d - b) * (d - b))
  hs : Qb 8000 ((c - a) * (c - a) + (d - b) * (d - b))
  hl : Qb 4400 l
  hr : Qb 4400 (1 / l)
  pos : 0 < l
  e : l * l = (c - a) * (c - a) + (d - b) * (d - b)
abbrev sp_punit : Sp := fun vs H Q _ => ∃ (sa : Addr) (x y : V) (a b c d l : Rat), vs = [x, y] ∧ (∃ o, H sa = some o) ∧ Rp sa H x (PQ a b) ∧ Rp sa H y (PQ c d) ∧ StepOk a b c d l ∧ ∀ H' P, Same H H' → Rp sa H' (.ref P) (PQ ((c - a) * (1 / l)) ((d - b) * (1 / l))) → Q (.ref P) H'
theorem c_punit {z : Bool} {sa : Addr} {H0 H : Hp} {acc : List V} {dacc : List PyData} {Q : VK} {E : XK} {x y : V} {a b c d l : Rat} (W : Wd z sa H0 H acc dacc) (r1 : Rp sa H x (PQ a b)) (r2 : Rp sa H y (PQ c d)) (so : StepOk a b c d l)
    (h : ∀ H' P, Wd z sa H0 H' (.ref P :: acc) (PQ ((c - a) * (1 / l)) ((d - b) * (1 / l)) :: dacc) → Q (.ref P) H') : sp_punit [x, y] H Q E := ⟨sa, x, y, a, b, c, d, l, rfl, W.tr, r1, r2, so, fun H' P s r => h H' P ((W.go s).put r)⟩
section
variable {P : Program} {w : World} {K : PySem.W.Frag} {mg : Str → Option Value} {base : Heap}
theorem ok_law_unit {f : Addr} {fd : FuncData} (F : Fun K "_law_unit" "_law_unit" s_law_unit f fd) (d_law_minus : Df P w K mg base CX0 3 "_law_minus" ["one", "other"] sp_pminus) (d_law_times : Df P w K mg base CX0 3 "_law_times" ["step", "factor"] sp_ptimes) (d_law_div : Df P w K mg base CX0 2 "_law_div" ["one", "other"] sp_qdiv) (d_law_size : Df P w K mg base CX0 4 "_law_size" ["step"] sp_psize) : FnOk P w K mg base CX0 5 f fd ["one", "other"] sp_punit := by
  have sc := sc_law_unit
  refine F.ok sc (fun vs H Q E h => ?_) (fun cdv A outer s H vs Q E hr h => ?_)
  · obtain ⟨sa, x, y, a, b, c, d, l, rfl, _⟩ := h
    rfl
  · obtain ⟨sa, x, y, a, b, c, d, l, rfl, t, r0, r1, so, hq⟩ := h
    obtain ⟨x1, rfl⟩ : ∃ a, x = .ref a := by cases r0; exact ⟨_, rfl⟩
    obtain ⟨y1, rfl⟩ : ∃ a, y = .ref a := by cases r1; exact ⟨_, rfl⟩
    refine ⟨_, (pss_cons (ps_asg (pe_call d_law_minus.F (hr.mono (by decide)) (by rfl) d_law_minus.g d_law_minus.kp d_law_minus.b .nil pass0 (pa_cons (pv 1) (pa_cons (pv 0) pa_nil))) (pg_name (i := 2) sc.nd rfl (.inl rfl)))
    (pss_one (ps_ret (pe_call d_law_times.F (hr.mono (by decide)) (by rfl) d_law_times.g d_law_times.kp d_law_times.b .nil pass0 (pa_cons (pv 2) (pa_cons (pe_call d_law_div.F (hr.mono (by decide)) (by rfl) d_law_div.g d_law_div.kp d_law_div.b .nil pass0 (pa_cons (pe_tup (pa_cons pe_int (pa_cons pe_int pa_nil))) (pa_cons (pe_call d_law_size.F (hr.mono (by decide)) (by rfl) d_law_size.g d_law_size.kp d_law_size.b .nil pass0 (pa_cons (pv 2) pa_nil)) pa_nil))) pa_nil)))))), ?_⟩
    (rw [show start ["one", "other", "step"] [.ref x1, .ref y1] = [some (.ref x1), some (.ref y1), none] from rfl]; try dsimp only [cxOf])
    have W := wd_start t (.cons r0 (.cons r1 .nil))
    obtain ⟨ba, bb, bc, bd, bx, by', bxx, byy, bs, bl, br, pos, e⟩ := so
    have l1 : l ≠ 0 := fun z => by rw [z] at pos; exact absurd pos (by decide)
    walk_at "w"
    rename_i H1 p1 W1 H2 p2 W2
    have W3 : Wd false sa H H2 [.ref p2, .ref p1, .ref x1, .ref y1] [FQ 1, PQ (c - a) (d - b), PQ a b, PQ c d] := by
      rw [← FQ_one]
      exact W2
    clear W2 W1
    have b1 := qb_one
    refine c_psize W3 (W3.get (.there .here)) bx by' bxx byy bs (by grind) e fun H3 p3 W4 => ?_
    clear W3
    walk_at "w"
    exact hq _ _ (Wd.same (by assumption) rfl) (Wd.get (by assumption) .here)
end

/-! ### drawn fractions -/
abbrev sp_qslope : Sp := Sf (fun ds => ∃ n : Int, ds = [.int n] ∧ 1 ≤ n ∧ n ≤ 100) fun ds d => ∃ n x y : Int, ds = [.int n] ∧ 1 ≤ x ∧ x ≤ n ∧ 1 ≤ y ∧ y ≤ n ∧ d = FQ ((x : Rat) / (y : Rat))
abbrev sp_qtame : Sp := Sf (fun ds => ds = []) fun _ d => ∃ x y : Int, -20 ≤ x ∧ x ≤ 20 ∧ 1 ≤ y ∧ y ≤ 5 ∧ d = FQ ((x : Rat) / (y : Rat))
section
variable {P : Program} {w : World} {K : PySem.W.Frag} {mg : Str → Option Value} {base : Heap}
theorem ok_law_slope {f : Addr} {fd : FuncData} (F : Fun K "_law_slope" "_law_slope" s_law_slope f fd) (d_law_take : Df P w K mg base CX0 2 "_law_take" ["stream", "many"] sp_take) (d_law_low : Df P w K mg base CX0 1 "_law_low" ["top", "bottom"] sp_low) : FnOk P w K mg base CX0 3 f fd ["stream", "most"] sp_qslope := by
  have sc := sc_law_slope
  refine F.ok sc (fun vs H Q E h => ?_) (fun cdv A outer s H vs Q E hr h => ?_)
  · obtain ⟨a, vs', ds, rfl, st, r, ⟨n, rfl, _⟩, _⟩ := h
    obtain ⟨x, rfl, r0⟩ := rps1 r
    rfl
  · obtain ⟨a, vs', ds, rfl, st, r, ⟨n, rfl, n1, n2⟩, q⟩ := h
    obtain ⟨x, rfl, r0⟩ := rps1 r
    obtain rfl : x = .int n := by cases r0; rfl
    refine ⟨_, (pss_cons (ps_asg (pe_op op_add pe_int (pe_call d_law_take.F (hr.mono (by decide)) (by rfl) d_law_take.g d_law_take.kp d_law_take.b .nil pass0 (pa_cons (pv 0) (pa_cons (pv 1) pa_nil)))) (pg_name (i := 2) sc.nd rfl (.inl rfl)))
    (pss_one (ps_ret (pe_call d_law_low.F (hr.mono (by decide)) (by rfl) d_law_low.g d_law_low.kp d_law_low.b .nil pass0 (pa_cons (pv 2) (pa_cons (pe_op op_add pe_int (pe_call d_law_take.F (hr.mono (by decide)) (by rfl) d_law_take.g d_law_take.kp d_law_take.b .nil pass0 (pa_cons (pv 0) (pa_cons (pv 1) pa_nil)))) pa_nil)))))), ?_⟩
    (rw [show start ["stream", "most", "top"] [.ref a, .int n] = [some (.ref a), some (.int n), none] from rfl]; try dsimp only [cxOf])
    have W := wd_startS st .nil
    have n3 : 0 < n := by omega
    have n4 : n.natAbs.log2 < 9000 := (bt_lit (x := n) 8 (by omega)).log (by decide)
    walk_at "w"
    refine call_tk (by assumption) n3 n4 fun H1 x W1 x0 x1 => ?_
    walk_at "w"
    refine call_tk (by assumption) n3 n4 fun H2 y W2 y0 y1 => ?_
    have bx : Bt 8 (1 + x) := bt_lit 8 (by omega)
    have bb : Bt 8 (1 + y) := bt_lit 8 (by omega)
    have nz : 1 + y ≠ 0 := by omega
    walk_at "w"
    rename_i H3 p W3
    exact q _ _ _ W3.but (W3.st rfl) (W3.get .here) ⟨n, 1 + x, 1 + y, rfl, by omega, by omega, by omega, by omega, rt_q nz⟩
end

/-! ### the lesser of two -/
theorem w_ilst {K : PySem.W.Frag} {tl : TE} {σ : L2.St} {H : Hp} {R : It → Hp → Prop} (h : tl σ H fun x H1 => ∃ a, x = .ref a ∧ (∃ xs, SqL K H1 a xs) ∧ R (Itl K a) H1) : iList K tl σ H R := h
abbrev sp_qleast : Sp := fun vs H Q _ => ∃ (sa : Addr) (x : V) (p q : Rat), vs = [x] ∧ (∃ o, H sa = some o) ∧ Rp sa H x (.list [FQ p, FQ q]) ∧ Qb 2000 p ∧ Qb 2000 q ∧ ∀ H' r, Same H H' → Rp sa H' (.ref r) (FQ (if q < p then q else p)) → Q (.ref r) H'
section
variable {P : Program} {w : World} {K : PySem.W.Frag} {mg : Str → Option Value} {base : Heap}
theorem ok_law_least {f : Addr} {fd : FuncData} (F : Fun K "_law_least" "_law_least" s_law_least f fd) : FnOk P w K mg base CX0 1 f fd ["items"] sp_qleast := by
  have sc := sc_law_least
  refine F.ok sc (fun vs H Q E h => ?_) (fun cdv A outer s H vs Q E hr h => ?_)
  · obtain ⟨sa, x, p, q, rfl, _⟩ := h
    rfl
  · obtain ⟨sa, x, p, q, rfl, t, r0, bp, bq, hq⟩ := h
    obtain ⟨x1, rfl⟩ : ∃ a, x = .ref a := by cases r0; exact ⟨_, rfl⟩
    refine ⟨_, (pss_cons (ps_asg (pe_ix ix_list (pv 0) pe_int (fun _ _ => rfl)) (pg_name (i := 1) sc.nd rfl (.inl rfl)))
    (pss_cons (ps_for PassesOwn.never rfl (pi_list (pv 0)) (pg_name (i := 2) sc.nd rfl (.inl rfl)) (pss_one (ps_if (pt_cmpR op_lt (pe_op op_mulX (pe_ix ix_tup (pv 2) pe_int (fun _ _ => rfl)) (pe_ix ix_tup (pv 1) pe_int (fun _ _ => rfl))) (pe_op op_mulX (pe_ix ix_tup (pv 1) pe_int (fun _ _ => rfl)) (pe_ix ix_tup (pv 2) pe_int (fun _ _ => rfl))) (nomark _)) (pss_one (ps_asg (pv 2) (pg_name (i := 1) sc.nd rfl (.inl rfl)))) pss_nil)))
    (pss_one (ps_ret (pv 1))))), ?_⟩
    (rw [show start ["items", "found", "item"] [.ref x1] = [some (.ref x1), none, none] from rfl]; try dsimp only [cxOf])
    have W := wd_start t (.cons r0 .nil)
    cases r0 with
    | @lst _ xs _ n hx r =>
    obtain ⟨x0, y0, rfl, ra, rb⟩ := rps2 r
    unfold FQ at ra rb
    obtain ⟨a1, rfl⟩ : ∃ a, x0 = .ref a := by cases ra; exact ⟨_, rfl⟩
    obtain ⟨b1, rfl⟩ : ∃ a, y0 = .ref a := by cases rb; exact ⟨_, rfl⟩
    have W2 : Wd false sa H H [.ref b1, .ref a1, .ref x1] [FQ q, FQ p, .list [FQ p, FQ q]] := (W.put ra).put rb
    have hL := SqL.of (K := K) hx
    clear W
    walk_at "w"
    try refine w_ixL (i := 0) (v := .ref a1) hL rfl ?_
    walk_at "w"
    refine w_ilst ?_
    walk_at "w"
    rename_i c0 W0
    obtain ⟨c0, rfl⟩ : ∃ c, c0 = .ref c := by
      have h := W0.get .here
      unfold FQ at h
      cases h
      exact ⟨_, rfl⟩
    refine ⟨x1, rfl, ⟨_, hL⟩, ?_⟩
    refine lp_list (xs := [.ref a1, .ref b1]) (fun i σ H' => ∃ (u : Option V) (c : Addr) (z : Rat), σ = [some (.ref x1), some (.ref c), u] ∧ H' = H ∧ Wd false sa H H [.ref c, .ref b1, .ref a1] [FQ z, FQ q, FQ p] ∧ Qb 2000 z ∧ (i ≤ 1 → z = p) ∧ (2 ≤ i → z = if q < p then q else p)) ⟨_, c0, p, rfl, rfl, ((wd_start t .nil : Wd false sa H H [] []).put ra |>.put rb |>.put (W0.get .here)), bp, fun _ => rfl, fun h => by omega⟩ ?_ ?_ ?_
    · rintro i σ H' hi ⟨u, c, z, rfl, rfl, _⟩
      exact hL
    · rintro i x σ H' hi ⟨u, c, z, rfl, rfl, W3, bz, h1, h2⟩
      obtain ⟨bz1, bz2⟩ := bz
      obtain ⟨bp1, bp2⟩ := bp
      obtain ⟨bq1, bq2⟩ := bq
      match i, hi with
      | 0, hi =>
        obtain rfl : V.ref a1 = x := Option.some.inj hi
        obtain rfl := h1 (by omega)
        have W4 : Wd false sa H' H' [.ref c, .ref b1, .ref a1] [.tuple [.int z.num, .int (z.den : Int)], .tuple [.int q.num, .int (q.den : Int)], .tuple [.int z.num, .int (z.den : Int)]] := W3
        clear W0 W2 W3
        walk_at "w"
        refine w_ifd (fun e => absurd e (Int.lt_irrefl _)) (fun _ => ?_)
        exact ⟨_, c, z, rfl, rfl, W4, ⟨bz1, bz2⟩, fun _ => rfl, fun h => by omega⟩
      | 1, hi =>
        obtain rfl : V.ref b1 = x := Option.some.inj hi
        obtain rfl := h1 (by omega)
        have W4 : Wd false sa H' H' [.ref c, .ref b1, .ref a1] [.tuple [.int z.num, .int (z.den : Int)], .tuple [.int q.num, .int (q.den : Int)], .tuple [.int z.num, .int (z.den : Int)]] := W3
        clear W0 W2 W3
        walk_at "w"
        refine w_ifd (fun e => ?_) (fun e => ?_)
        · have e := (Rat.lt_iff q z).mpr e
          walk_at "w"
          exact ⟨_, b1, q, rfl, rfl, ((((wd_start t .nil : Wd false sa H' H' [] []).put ra).put rb).put rb), ⟨bq1, bq2⟩, fun h => by omega, fun _ => (if_pos e).symm⟩
        · have e := fun z' => e ((Rat.lt_iff q z).mp z')
          exact ⟨_, c, z, rfl, rfl, W4, ⟨bz1, bz2⟩, fun h => by omega, fun _ => (if_neg e).symm⟩
      | k + 2, hi => exact nomatch hi
    · rintro σ H' ⟨u, c, z, rfl, rfl, W3, bz, h1, h2⟩
      walk_at "w"
      rw [h2 (by simp)] at W3
      exact hq _ _ (Wd.same W3 rfl) (W3.get .here)
end

/-! ### lists that change -/
theorem w_bm {K : PySem.W.Frag} {T : String} {r : V → List V → Hp → VK → Prop} {to : TE} {t : TA} {σ : L2.St} {H : Hp} {Q : VK} (h : to σ H fun x H1 => tyV K T x H1 ∧ t σ H1 fun xs H2 => r x xs H2 Q) : tBM K T r to t σ H Q := h
theorem tyV_lst {K : PySem.W.Frag} {H : Hp} {l : Addr} {xs : List V} (e : H l = some (.lst xs)) : tyV K "list" (.ref l) H := .inl ⟨rfl, xs, SqL.of e⟩
theorem ap_lst {H : Hp} {l : Addr} {xs : List V} {y : V} {Q : VK} (e : H l = some (.lst xs)) (hl : xs.length ≤ 900) (h : Q .non (upd H l (.lst (xs ++ [y])))) : rAppend (.ref l) [y] H Q := ⟨l, xs, y, rfl, rfl, e, small1000 (Nat.le_trans hl (by decide)), h⟩
theorem w_sl {r : V → Option Int → Option Int → Hp → VK → Prop} {te : TE} {tl th : TO} {σ : L2.St} {H : Hp} {Q : VK} (h : te σ H fun x H1 => tl σ H1 fun l H2 => th σ H2 fun u H3 => r x l u H3 Q) : tSl r te tl th σ H Q := h
theorem w_part {t : TE} {σ : L2.St} {H : Hp} {Q : Option Int → Hp → Prop} (h : t σ H fun x H1 => ∃ i, x = .int i ∧ Q (some i) H1) : tPart t σ H Q := h
theorem w_npart {σ : L2.St} {H : Hp} {Q : Option Int → Hp → Prop} (h : Q none H) : tNoPart σ H Q := h
theorem Rps.take {sa : Addr} {H : Hp} : ∀ (n : Nat) {vs : List V} {ds : List PyData}, Rps sa H vs ds → Rps sa H (vs.take n) (ds.take n)
  | 0, _, _, _ => .nil
  | _ + 1, _, _, .nil => .nil
  | n + 1, _, _, .cons h t => .cons h (Rps.take n t)
theorem Rps.drop {sa : Addr} {H : Hp} : ∀ (n : Nat) {vs : List V} {ds : List PyData}, Rps sa H vs ds → Rps sa H (vs.drop n) (ds.drop n)
  | 0, _, _, h => h
  | _ + 1, _, _, .nil => .nil
  | n + 1, _, _, .cons _ t => Rps.drop n t
theorem cut_lo {xs : List V} {i : Int} {k : Nat} (e : i = (k : Int)) : cutV xs none (some i) = xs.take k := by
  subst e
  unfold cutV
  rw [HT.sIx_none, HT.sIx_nat]
  rw [Nat.sub_zero, List.drop_zero]
  rcases Nat.le_total k xs.length with z | z
  · rw [Nat.min_eq_left z]
  · rw [Nat.min_eq_right z, List.take_of_length_le z, List.take_of_length_le (Nat.le_refl _)]
theorem cut_hi {xs : List V} {i : Int} {k : Nat} (e : i = (k : Int)) : cutV xs (some i) none = xs.drop k := by
  subst e
  unfold cutV
  rw [HT.sIx_none, HT.sIx_nat]
  rcases Nat.le_total k xs.length with z | z
  · rw [Nat.min_eq_left z]
    exact List.take_of_length_le (by rw [List.length_drop]; omega)
  · rw [Nat.min_eq_right z, Nat.sub_self, List.drop_of_length_le z, List.take_zero]
/-- a tuple is no list -/
theorem rp_tl {sa : Addr} {H : Hp} {v : V} {ds es : List PyData} (h : Rp sa H v (.tuple ds)) (g : Rp sa H v (.list es)) : False := by
  cases h with
  | tup n e r =>
    cases g with
    | lst n2 e2 r2 =>
      rw [e] at e2
      injection e2 with e2
      cases e2
theorem rp_ti {sa : Addr} {H : Hp} {v : V} {ds : List PyData} {i : Int} (h : Rp sa H v (.tuple ds)) (g : Rp sa H v (.int i)) : False := by
  cases h
  cases g
theorem rp_li {sa : Addr} {H : Hp} {v : V} {ds : List PyData} {i : Int} (h : Rp sa H v (.list ds)) (g : Rp sa H v (.int i)) : False := by
  cases h
  cases g
section
variable {b : Bool} {sa : Addr} {H0 H : Hp} {acc : List V} {dacc : List PyData} {Q : VK}
theorem sl_lo {K : PySem.W.Frag} {p : Addr} {ds : List PyData} {i : Int} {k : Nat} (W : Wd b sa H0 H acc dacc) (m : In2 (.ref p) (.list ds) acc dacc) (e : i = (k : Int)) (h : ∀ H' q, Wd b sa H0 H' (.ref q :: acc) (.list (ds.take k) :: dacc) → Q (.ref q) H') : rSlL K (.ref p) none (some i) H Q := by
  cases W.get m with
  | @lst _ xs _ n hx r =>
    refine ⟨p, xs, rfl, SqL.of hx, fun q nq => ?_⟩
    rw [cut_lo e]
    exact h _ q ((W.go (same_new nq)).put (.lst (W.ne nq) upd_same ((r.take k).but (same_new nq).but)))
theorem sl_hi {K : PySem.W.Frag} {p : Addr} {ds : List PyData} {i : Int} {k : Nat} (W : Wd b sa H0 H acc dacc) (m : In2 (.ref p) (.list ds) acc dacc) (e : i = (k : Int)) (h : ∀ H' q, Wd b sa H0 H' (.ref q :: acc) (.list (ds.drop k) :: dacc) → Q (.ref q) H') : rSlL K (.ref p) (some i) none H Q := by
  cases W.get m with
  | @lst _ xs _ n hx r =>
    refine ⟨p, xs, rfl, SqL.of hx, fun q nq => ?_⟩
    rw [cut_hi e]
    exact h _ q ((W.go (same_new nq)).put (.lst (W.ne nq) upd_same ((r.drop k).but (same_new nq).but)))
theorem cat_le {p q : Addr} {ds es : List PyData} (W : Wd b sa H0 H acc dacc) (m : In2 (.ref p) (.list ds) acc dacc) (n : In2 (.ref q) (.list es) acc dacc) (hl : ds.length + es.length ≤ 1000)
    (h : ∀ H' p, Wd b sa H0 H' (.ref p :: acc) (.list (ds ++ es) :: dacc) → Q (.ref p) H') : rCat (.ref p) (.ref q) H Q := w_catL W m n (Nat.ble_eq_true_of_le hl) h
end
theorem tups_app {ds es : List PyData} (h : tupOnlys ds = true) (g : tupOnlys es = true) : tupOnlys (ds ++ es) = true := by
  induction ds with
  | nil => exact g
  | cons d ds ih =>
    rw [List.cons_append]
    unfold tupOnlys at h ⊢
    rw [Bool.and_eq_true] at h ⊢
    exact ⟨h.1, ih h.2⟩
theorem tups_set {ds : List PyData} {d : PyData} (i : Nat) (h : tupOnlys ds = true) (g : tupOnly d = true) : tupOnlys (ds.set i d) = true := by
  induction ds generalizing i with
  | nil => exact h
  | cons e ds ih =>
    unfold tupOnlys at h
    rw [Bool.and_eq_true] at h
    cases i with
    | zero =>
      rw [List.set_cons_zero]
      unfold tupOnlys
      rw [Bool.and_eq_true]
      exact ⟨g, h.2⟩
    | succ i =>
      rw [List.set_cons_succ]
      unfold tupOnlys
      rw [Bool.and_eq_true]
      exact ⟨h.1, ih i h.2⟩
theorem tups_ints (nums : List Nat) : tupOnlys (nums.map fun (n : Nat) => PyData.int (n : Int)) = true := tupOnlys_all fun d h => by
  obtain ⟨n, _, rfl⟩ := List.mem_map.mp h
  rfl
/-- ints stand in no place of a list of references -/
theorem ints_ne {sa : Addr} {H : Hp} {p q : Addr} {x : V} {ds : List PyData} {i : Int} {es : List PyData} {vs : List V} (r : Rp sa H (.ref p) (.list (.int i :: es))) (hq : H q = some (.lst (x :: vs))) (hx : Rp sa H x (.list ds)) : p ≠ q := fun z => by
  cases r with
  | lst n h r =>
    rw [z, hq] at h
    injection h with h
    injection h with h
    cases r with
    | cons h1 t =>
      injection h with h h'
      subst h
      exact rp_li hx h1
theorem n_lstN {b : Bool} {sa : Addr} {H0 H : Hp} {acc : List V} {dacc : List PyData} {Q : VK} {xs : List V} {ds : List PyData} (W : Wd b sa H0 H acc dacc) (r : Rps sa H xs ds) (hl : xs.length.ble 1000 = true) (h : ∀ H' p, p ≠ sa → H0 p = none → Wd b sa H0 H' (.ref p :: acc) (.list ds :: dacc) → Q (.ref p) H') : NL Q xs H :=
  ⟨Nat.le_of_lt (small1000 (Nat.le_of_ble_eq_true hl)), fun p np => h _ p (W.ne np) (by
    cases e : H0 p with
    | none => rfl
    | some o =>
      have := W.but p o (W.ne np) e
      rw [np] at this
      cases this) ((W.go (same_new np)).put (.lst (W.ne np) upd_same (r.but (same_new np).but)))⟩
/-- the stream stands where two lists of other things change -/
theorem stm_fr {H H' : Hp} {a C Pl : Addr} (s : Stm H a) (fr : ∀ q o, q ≠ C → q ≠ Pl → H q = some o → H' q = some o) (hC : C ≠ a) (hP : Pl ≠ a) (gC : ∃ (cs : List V) (z : Nat) (v : V), H C = some (.lst cs) ∧ cs[z]? = some v ∧ ∀ i, v ≠ .int i) (gP : ∃ (cs : List V) (z : Nat) (v : V), H Pl = some (.lst cs) ∧ cs[z]? = some v ∧ ∀ i, v ≠ .int i) : Stm H' a := by
  obtain ⟨c, p, q, n, ns, h1, h2, h3, h4, h5⟩ := s
  have ne : ∀ {X : Addr}, (∃ (cs : List V) (z : Nat) (v : V), H X = some (.lst cs) ∧ cs[z]? = some v ∧ ∀ i, v ≠ .int i) → c ≠ X := fun ⟨cs, z, v, e1, e2, e3⟩ e => by
    rw [← e, h4] at e1
    injection e1 with e1
    injection e1 with e1
    rw [← e1, List.getElem?_map] at e2
    cases e4 : ns[z]? with
    | none => rw [e4] at e2; cases e2
    | some i => rw [e4] at e2; cases e2; exact e3 i rfl
  exact ⟨c, p, q, n, ns, fr a _ (Ne.symm hC) (Ne.symm hP) h1, h2, h3, fr c _ (ne gC) (ne gP) h4, h5⟩
theorem mp_at {b : Bool} {a p : Addr} {H0 H : Hp} {vs : List V} {ds : List PyData} {pts : List PyData} (W : Wd b a H0 H vs ds) (m : In2 (.ref p) (.list pts) vs ds) : ∃ xs, H p = some (.lst xs) ∧ Rps a H xs pts := by
  cases W.get m with
  | lst _ h r => exact ⟨_, h, r⟩

/-! ### a corner is cut off: the def -/
structure CutOk (a b c d e f x' y' x y l' l t p s r0 r1 co si th lm room : Rat) : Prop where
  s1 : StepOk a b c d l'
  s2 : StepOk a b e f l
  e1 : (c - a) * (1 / l') = -x'
  e2 : (d - b) * (1 / l') = -y'
  e3 : (e - a) * (1 / l) = x
  e4 : (f - b) * (1 / l) = y
  b1 : Qb 4400 (-x')
  b2 : Qb 4400 (-y')
  b3 : Qb 4400 x
  b4 : Qb 4400 y
  hco : x * -x' + y * -y' = co
  c1 : Qb 4400 (x * -x')
  c2 : Qb 4400 (y * -y')
  hsi : x * -y' - y * -x' = si
  c3 : Qb 4400 (x * -y')
  c4 : Qb 4400 (y * -x')
  si0 : si ≠ 0
  bco : Qb 4400 co
  bsi : Qb 4400 si
  b1co : Qb 4400 (1 + co)
  ht : (1 + co) / si = t
  bt : Qb 4400 t
  bp : Qb 4400 p
  hs : t * p = s
  bs : Qb 2000 s
  hr0 : (1 - s * s) / (1 + s * s) = r0
  hr1 : 2 * s / (1 + s * s) = r1
  br0 : Qb 4400 r0
  br1 : Qb 4400 r1
  d1 : Qb 4400 (r1 * co)
  d2 : Qb 4400 (r0 * si)
  hth : r1 * co + r0 * si = th
  bth : Qb 4400 th
  bl' : Qb 2000 l'
  bl : Qb 2000 l
  hlm : (if l < l' then l else l') = lm
  blm : Qb 4400 lm
  hroom : lm * p = room
  broom : Qb 4400 room
  g1 : Qb 4400 (room * th)
  g2 : Qb 4400 (room * r1)
  n1 : Qb 4400 (-x' * (room * th))
  n2 : Qb 4400 (-y' * (room * th))
  n3 : Qb 4400 (x * (room * r1))
  n4 : Qb 4400 (y * (room * r1))
abbrev IntsD (nums : List Nat) : PyData := .list (nums.map fun (n : Nat) => PyData.int (n : Int))
abbrev sp_cut : Sp := fun vs H Q _ => ∃ (sa C Pl : Addr) (k : Nat) (pt : V) (pts : List PyData) (nums : List Nat) (i0 i1 i2 : Nat) (a b c d e f x' y' x y l' l t p s r0 r1 co si th lm room : Rat),
  vs = [.ref C, .ref Pl, .int 0, .int (k : Int), pt, .bl false] ∧ (∃ o, H sa = some o) ∧ Rp sa H (.ref C) (.list pts) ∧ Rp sa H (.ref Pl) (.list [IntsD nums]) ∧ Rp sa H pt (FQ p) ∧
  (nums.length ≤ 10 ∧ pts.length ≤ 10 ∧ tupOnlys pts = true) ∧ (nums[k]? = some i0 ∧ nums[if k = 0 then nums.length - 1 else k - 1]? = some i1 ∧ nums[(k + 1) % nums.length]? = some i2) ∧
  (pts[i0]? = some (PQ a b) ∧ pts[i1]? = some (PQ c d) ∧ pts[i2]? = some (PQ e f)) ∧ CutOk a b c d e f x' y' x y l' l t p s r0 r1 co si th lm room ∧
  ∀ H', (∀ q o, q ≠ C → q ≠ Pl → H q = some o → H' q = some o) → Rp sa H' (.ref C) (.list (pts.set i0 (PQ (a + -x' * (room * th)) (b + -y' * (room * th))) ++ [PQ (a + x * (room * r1)) (b + y * (room * r1))])) →
    Rp sa H' (.ref Pl) (.list [IntsD (nums.take (k + 1) ++ [pts.length] ++ nums.drop (k + 1))]) → Q .non H'
theorem wd_re {b : Bool} {sa : Addr} {H0 H : Hp} {v : V} {d d' : PyData} {acc : List V} {dacc : List PyData} (W : Wd b sa H0 H (v :: acc) (d :: dacc)) (e : d = d') : Wd b sa H0 H (v :: acc) (d' :: dacc) := e ▸ W
theorem ints_at {nums : List Nat} {k i : Nat} (h : nums[k]? = some i) : (nums.map fun (n : Nat) => PyData.int (n : Int))[k]? = some (.int (i : Int)) := by
  rw [List.getElem?_map, h]
  rfl
theorem x_neg {K : PySem.W.Frag} {b : Bool} {sa : Addr} {H0 H : Hp} {acc : List V} {dacc : List PyData} {Q : VK} {p : Addr} {ds : List PyData} {j : Nat} {d : PyData} {i : Int} (W : Wd b sa H0 H acc dacc) (m : In2 (.ref p) (.list ds) acc dacc) (hi : i = (j : Int) ∨ (i < 0 ∧ i + ds.length = (j : Int))) (e : ds[j]? = some d)
    (h : VS d fun x => Wd b sa H0 H (x :: acc) (d :: dacc) → Q x H) : rIxL K (.ref p) (.int i) H Q := by
  have hj : j < ds.length := by
    rcases Nat.lt_or_ge j ds.length with z | z
    · exact z
    · rw [List.getElem?_eq_none z] at e
      exact absurd e (by simp)
  cases W.get m with
  | @lst _ xs _ n hx r =>
    obtain ⟨v, e1, r1⟩ := rps_at r e
    have ix : ixN xs.length i = some j := by
      rw [r.lens]
      unfold ixN
      rcases hi with rfl | ⟨h0, h1⟩
      · rw [if_pos (by omega), if_pos (by omega)]
        rfl
      · rw [if_neg (by omega), if_pos (by omega), h1]
        rfl
    exact ⟨p, xs, i, v, rfl, rfl, SqL.of hx, by unfold atI; rw [ix]; exact e1, h.of r1 (W.put r1)⟩
section
variable {P : Program} {w : World} {K : PySem.W.Frag} {mg : Str → Option Value} {base : Heap}
theorem ok_law_cut {f : Addr} {fd : FuncData} (F : Fun K "_law_cut" "_law_cut" s_law_cut f fd) (nb : Nb mg) (d_law_add : Df P w K mg base CX0 2 "_law_add" ["one", "other"] sp_qadd) (d_law_mul : Df P w K mg base CX0 2 "_law_mul" ["one", "other"] sp_qmul) (d_law_div : Df P w K mg base CX0 2 "_law_div" ["one", "other"] sp_qdiv) (d_law_plus : Df P w K mg base CX0 3 "_law_plus" ["one", "other"] sp_pplus) (d_law_minus : Df P w K mg base CX0 3 "_law_minus" ["one", "other"] sp_pminus) (d_law_times : Df P w K mg base CX0 3 "_law_times" ["step", "factor"] sp_ptimes) (d_law_cross : Df P w K mg base CX0 3 "_law_cross" ["one", "other"] sp_pcross) (d_law_dot : Df P w K mg base CX0 3 "_law_dot" ["one", "other"] sp_pdot) (d_law_size : Df P w K mg base CX0 4 "_law_size" ["step"] sp_psize) (d_law_unit : Df P w K mg base CX0 5 "_law_unit" ["one", "other"] sp_punit) (d_law_ray : Df P w K mg base CX0 2 "_law_ray" ["slope"] sp_qray) (d_law_least : Df P w K mg base CX0 1 "_law_least" ["items"] sp_qleast) : FnOk P w K mg base CX0 6 f fd ["corners", "plates", "at", "k", "part", "keep"] sp_cut := by
  have sc := sc_law_cut
  refine F.ok sc (fun vs H Q E h => ?_) (fun cdv A outer s H vs Q E hr h => ?_)
  · obtain ⟨sa, C, Pl, k, pt, pts, nums, i0, i1, i2, _, _, _, _, _, _, _, _, _, _, _, _, _, _, _, _, _, _, _, _, _, _, rfl, _⟩ := h
    rfl
  · obtain ⟨sa, C, Pl, k, pt, pts, nums, i0, i1, i2, a, b, c, d, e, f, x', y', x, y, l', l, t, p, s, r0, r1, co, si, th, lm, room, rfl, tr, rC, rP, rp, ⟨n10, p10, tup⟩, ⟨k0, k1, k2⟩, ⟨p0, p1, p2⟩, ok, hq⟩ := h
    obtain ⟨pt, rfl⟩ : ∃ q, pt = .ref q := by cases rp; exact ⟨_, rfl⟩
    obtain ⟨ki, hk⟩ : ∃ ki : Int, ki = (k : Int) := ⟨_, rfl⟩
    rw [← hk]
    refine ⟨_, (pss_cons (ps_asg (pe_ix ix_list (pv 1) (pv 2) (fun _ _ => rfl)) (pg_name (i := 6) sc.nd rfl (.inl rfl)))
    (pss_cons (ps_asg (pe_ix ix_list (pv 0) (pe_ix ix_list (pv 6) (pv 3) (fun _ _ => rfl)) (fun _ _ => rfl)) (pg_name (i := 7) sc.nd rfl (.inl rfl)))
    (pss_cons (ps_asg (pe_ix ix_list (pv 0) (pe_ix ix_list (pv 6) (pe_op op_sub (pv 3) pe_int) (fun _ _ => rfl)) (fun _ _ => rfl)) (pg_name (i := 8) sc.nd rfl (.inl rfl)))
    (pss_cons (ps_asg (pe_ix ix_list (pv 0) (pe_ix ix_list (pv 6) (pe_op op_mod (pe_op op_add (pv 3) pe_int) (pe_callB cq_len (by rfl) nb.len (by decide +kernel) (pa_cons (pv 6) pa_nil))) (fun _ _ => rfl)) (fun _ _ => rfl)) (pg_name (i := 9) sc.nd rfl (.inl rfl)))
    (pss_cons (ps_asg (pe_call d_law_unit.F (hr.mono (by decide)) (by rfl) d_law_unit.g d_law_unit.kp d_law_unit.b .nil pass0 (pa_cons (pv 7) (pa_cons (pv 8) pa_nil))) (pg_name (i := 10) sc.nd rfl (.inl rfl)))
    (pss_cons (ps_asg (pe_call d_law_unit.F (hr.mono (by decide)) (by rfl) d_law_unit.g d_law_unit.kp d_law_unit.b .nil pass0 (pa_cons (pv 7) (pa_cons (pv 9) pa_nil))) (pg_name (i := 11) sc.nd rfl (.inl rfl)))
    (pss_cons (ps_asg (pe_call d_law_dot.F (hr.mono (by decide)) (by rfl) d_law_dot.g d_law_dot.kp d_law_dot.b .nil pass0 (pa_cons (pv 11) (pa_cons (pv 10) pa_nil))) (pg_name (i := 12) sc.nd rfl (.inl rfl)))
    (pss_cons (ps_asg (pe_call d_law_cross.F (hr.mono (by decide)) (by rfl) d_law_cross.g d_law_cross.kp d_law_cross.b .nil pass0 (pa_cons (pv 11) (pa_cons (pv 10) pa_nil))) (pg_name (i := 13) sc.nd rfl (.inl rfl)))
    (pss_cons (ps_asg (pe_call d_law_ray.F (hr.mono (by decide)) (by rfl) d_law_ray.g d_law_ray.kp d_law_ray.b .nil pass0 (pa_cons (pe_call d_law_mul.F (hr.mono (by decide)) (by rfl) d_law_mul.g d_law_mul.kp d_law_mul.b .nil pass0 (pa_cons (pe_call d_law_div.F (hr.mono (by decide)) (by rfl) d_law_div.g d_law_div.kp d_law_div.b .nil pass0 (pa_cons (pe_call d_law_add.F (hr.mono (by decide)) (by rfl) d_law_add.g d_law_add.kp d_law_add.b .nil pass0 (pa_cons (pe_tup (pa_cons pe_int (pa_cons pe_int pa_nil))) (pa_cons (pv 12) pa_nil))) (pa_cons (pv 13) pa_nil))) (pa_cons (pv 4) pa_nil))) pa_nil)) (pg_name (i := 14) sc.nd rfl (.inl rfl)))
    (pss_cons (ps_asg (pe_call d_law_add.F (hr.mono (by decide)) (by rfl) d_law_add.g d_law_add.kp d_law_add.b .nil pass0 (pa_cons (pe_call d_law_mul.F (hr.mono (by decide)) (by rfl) d_law_mul.g d_law_mul.kp d_law_mul.b .nil pass0 (pa_cons (pe_ix ix_tup (pv 14) pe_int (fun _ _ => rfl)) (pa_cons (pv 12) pa_nil))) (pa_cons (pe_call d_law_mul.F (hr.mono (by decide)) (by rfl) d_law_mul.g d_law_mul.kp d_law_mul.b .nil pass0 (pa_cons (pe_ix ix_tup (pv 14) pe_int (fun _ _ => rfl)) (pa_cons (pv 13) pa_nil))) pa_nil))) (pg_name (i := 15) sc.nd rfl (.inl rfl)))
    (pss_cons (ps_asg (pe_call d_law_least.F (hr.mono (by decide)) (by rfl) d_law_least.g d_law_least.kp d_law_least.b .nil pass0 (pa_cons (pe_lst (pa_cons (pe_call d_law_size.F (hr.mono (by decide)) (by rfl) d_law_size.g d_law_size.kp d_law_size.b .nil pass0 (pa_cons (pe_call d_law_minus.F (hr.mono (by decide)) (by rfl) d_law_minus.g d_law_minus.kp d_law_minus.b .nil pass0 (pa_cons (pv 8) (pa_cons (pv 7) pa_nil))) pa_nil)) (pa_cons (pe_call d_law_size.F (hr.mono (by decide)) (by rfl) d_law_size.g d_law_size.kp d_law_size.b .nil pass0 (pa_cons (pe_call d_law_minus.F (hr.mono (by decide)) (by rfl) d_law_minus.g d_law_minus.kp d_law_minus.b .nil pass0 (pa_cons (pv 9) (pa_cons (pv 7) pa_nil))) pa_nil)) pa_nil))) pa_nil)) (pg_name (i := 16) sc.nd rfl (.inl rfl)))
    (pss_cons (ps_asg (pe_call d_law_mul.F (hr.mono (by decide)) (by rfl) d_law_mul.g d_law_mul.kp d_law_mul.b .nil pass0 (pa_cons (pv 16) (pa_cons (pv 4) pa_nil))) (pg_name (i := 16) sc.nd rfl (.inl rfl)))
    (pss_cons (ps_asg (pe_call d_law_plus.F (hr.mono (by decide)) (by rfl) d_law_plus.g d_law_plus.kp d_law_plus.b .nil pass0 (pa_cons (pv 7) (pa_cons (pe_call d_law_times.F (hr.mono (by decide)) (by rfl) d_law_times.g d_law_times.kp d_law_times.b .nil pass0 (pa_cons (pv 10) (pa_cons (pe_call d_law_mul.F (hr.mono (by decide)) (by rfl) d_law_mul.g d_law_mul.kp d_law_mul.b .nil pass0 (pa_cons (pv 16) (pa_cons (pv 15) pa_nil))) pa_nil))) pa_nil))) (pg_name (i := 17) sc.nd rfl (.inl rfl)))
    (pss_cons (ps_asg (pe_call d_law_plus.F (hr.mono (by decide)) (by rfl) d_law_plus.g d_law_plus.kp d_law_plus.b .nil pass0 (pa_cons (pv 7) (pa_cons (pe_call d_law_times.F (hr.mono (by decide)) (by rfl) d_law_times.g d_law_times.kp d_law_times.b .nil pass0 (pa_cons (pv 11) (pa_cons (pe_call d_law_mul.F (hr.mono (by decide)) (by rfl) d_law_mul.g d_law_mul.kp d_law_mul.b .nil pass0 (pa_cons (pv 16) (pa_cons (pe_ix ix_tup (pv 14) pe_int (fun _ _ => rfl)) pa_nil))) pa_nil))) pa_nil))) (pg_name (i := 18) sc.nd rfl (.inl rfl)))
    (pss_cons (ps_asg (pe_callB cq_len (by rfl) nb.len (by decide +kernel) (pa_cons (pv 0) pa_nil)) (pg_name (i := 19) sc.nd rfl (.inl rfl)))
    (pss_one (ps_if (pt_val (pv 5)) (pss_cons (ps_expr (pe_bm PySem.F.plainAttrs_list PySem.F.slot_list_append PySem.F.type_list_append mt_append (pv 0) (pa_cons (pv 17) pa_nil)))
    (pss_cons (ps_expr (pe_bm PySem.F.plainAttrs_list PySem.F.slot_list_append PySem.F.type_list_append mt_append (pv 0) (pa_cons (pv 18) pa_nil)))
    (pss_cons (ps_asg (pe_op op_cat (pe_op op_cat (pe_slice sl_list (pv 6) po_none (po_some (pv 3))) (pe_lst (pa_cons (pv 19) (pa_cons (pe_op op_add (pv 19) pe_int) pa_nil)))) (pe_slice sl_list (pv 6) (po_some (pe_op op_add (pv 3) pe_int)) po_none)) (pg_sub (pv 1) (pv 2) set_list))
    (pss_one (ps_expr (pe_bm PySem.F.plainAttrs_list PySem.F.slot_list_append PySem.F.type_list_append mt_append (pv 1) (pa_cons (pe_lst (pa_cons (pe_ix ix_list (pv 6) (pv 3) (fun _ _ => rfl)) (pa_cons (pe_op op_add (pv 19) pe_int) (pa_cons (pv 19) pa_nil)))) pa_nil))))))) (pss_cons (ps_asg (pv 17) (pg_sub (pv 0) (pe_ix ix_list (pv 6) (pv 3) (fun _ _ => rfl)) set_list))
    (pss_cons (ps_expr (pe_bm PySem.F.plainAttrs_list PySem.F.slot_list_append PySem.F.type_list_append mt_append (pv 0) (pa_cons (pv 18) pa_nil)))
    (pss_one (ps_asg (pe_op op_cat (pe_op op_cat (pe_slice sl_list (pv 6) po_none (po_some (pe_op op_add (pv 3) pe_int))) (pe_lst (pa_cons (pv 19) pa_nil))) (pe_slice sl_list (pv 6) (po_some (pe_op op_add (pv 3) pe_int)) po_none)) (pg_sub (pv 1) (pv 2) set_list)))))))))))))))))))))), ?_⟩
    (rw [show start ["corners", "plates", "at", "k", "part", "keep", "plate", "tip", "ahead", "behind", "first", "second", "cosine", "sine", "ray", "third", "room", "near", "far", "many"] [.ref C, .ref Pl, .int 0, .int ki, .ref pt, .bl false] = [some (.ref C), some (.ref Pl), some (.int 0), some (.int ki), some (.ref pt), some (.bl false), none, none, none, none, none, none, none, none, none, none, none, none, none, none] from rfl]; try dsimp only [cxOf])
    have W := wd_start tr (.cons rC (.cons rP (.cons rp .nil)))
    walk_at "w"
    rename_i plate W1
    refine x_neg (by assumption) (by walk_at "in2") (.inl hk) (ints_at k0) (v_int fun W2 => ?_)
    walk_at "w"
    refine x_neg (by assumption) (by walk_at "in2") (.inl rfl) p0 (v_tup fun tip W3 => ?_)
    walk_at "w"
    refine x_neg (by assumption) (by walk_at "in2") (j := if k = 0 then nums.length - 1 else k - 1) ?_ (ints_at k1) (v_int fun W4 => ?_)
    · rw [List.length_map, hk]
      have := (List.getElem?_eq_some_iff.mp k0).1
      split <;> omega
    walk_at "w"
    refine x_neg (by assumption) (by walk_at "in2") (.inl rfl) p1 (v_tup fun ahead W5 => ?_)
    walk_at "w"
    refine w_I (by have := (List.getElem?_eq_some_iff.mp k0).1; omega) ?_
    refine x_neg (by assumption) (by walk_at "in2") (j := (k + 1) % nums.length) (.inl (by rw [hk]; rfl)) (ints_at k2) (v_int fun W6 => ?_)
    refine x_neg (by assumption) (by walk_at "in2") (.inl rfl) p2 (v_tup fun behind W7 => ?_)
    obtain ⟨s1, s2, e1, e2, e3, e4, b1, b2, b3, b4, hco, c1, c2, hsi, c3, c4, si0, bco, bsi, b1co, ht, bt, bp, hs, bs, hr0, hr1, br0, br1, d1, d2, hth, bth, bl', bl, hlm, blm, hroom, broom, g1, g2, n1, n2, n3, n4⟩ := ok
    have q1 := qb_one
    walk_at "w"
    refine c_punit (by assumption) (Wd.get (by assumption) (by walk_at "in2")) (Wd.get (by assumption) (by walk_at "in2")) s1 fun H1 first W8 => ?_
    rw [e1, e2] at W8
    walk_at "w"
    refine c_punit (by assumption) (Wd.get (by assumption) (by walk_at "in2")) (Wd.get (by assumption) (by walk_at "in2")) s2 fun H2 second W9 => ?_
    rw [e3, e4] at W9
    walk_at "w"
    rename_i H3 P1 WA H4 P2 WB H5 P3 W10
    clear WA WB
    rw [hsi, hco, FQ_one] at W10
    walk_at "w"
    rename_i H6 P4 W11 H7 P5 W12
    clear W11
    rw [ht] at W12
    walk_at "w"
    rename_i H8 P6 W13
    rw [hs] at W13
    refine c_q1 (by assumption) (Wd.get (by assumption) (by walk_at "in2")) bs fun H9 P7 W14 => ?_
    rw [hr0, hr1] at W14
    walk_at "w"
    rename_i x1 WA H10 P8 WB x2 WC H11 P9 WD H12 P10 W15
    clear WA WB WC WD W14 W13 W12 W10
    rw [hth] at W15
    obtain ⟨o1, o2, o3, o4, o5, o6, o7, o8, o9, o10, o11, o12, o13⟩ := s1
    obtain ⟨_, _, u3, u4, u5, u6, u7, u8, u9, u10, u11, u12, u13⟩ := s2
    walk_at "w"
    refine c_psize (by assumption) (Wd.get (by assumption) .here) o5 o6 o7 o8 o9 (Rat.le_of_lt o12) o13 fun H13 P11 W16 => ?_
    walk_at "w"
    refine c_psize (by assumption) (Wd.get (by assumption) .here) u5 u6 u7 u8 u9 (Rat.le_of_lt u12) u13 fun H14 P12 W17 => ?_
    walk_at "w"
    rename_i H15 P13 WA H16 P14 W18
    clear WA W15 W16 W17
    refine ⟨sa, _, l', l, rfl, W18.tr, W18.get .here, bl', bl, fun H17 P15 S1 R1 => ?_⟩
    have W19 := (W18.go S1).put R1
    clear W18
    rw [hlm] at W19
    walk_at "w"
    rename_i H18 P16 W20
    clear W19
    rw [hroom] at W20
    walk_at "w"
    rename_i A1 B1 V1 A2 B2 V2 A3 near V3 x3 V4 A5 B5 V5 A6 B6 V6 HF far WF
    clear V1 V2 V3 V4 V5 V6 W20
    refine x_neg WF (by walk_at "in2") (.inl hk) (ints_at k0) (v_int fun WG => ?_)
    have S := WF.same rfl
    have rC2 := WF.get (v := .ref C) (by walk_at "in2")
    have rL2 := WF.get (v := .ref plate) (by walk_at "in2")
    have rP2 := WF.get (v := .ref Pl) (by walk_at "in2")
    have rn : Rp sa HF (.ref near) _ := WF.get (by walk_at "in2")
    have rf : Rp sa HF (.ref far) _ := WF.get .here
    clear WG WF
    cases rC2 with
    | @lst _ cs _ nC hC rCs =>
    cases rL2 with
    | @lst _ ls _ nL hL rLs =>
    cases rP2 with
    | @lst _ ps _ nP hP rPs =>
    obtain ⟨x0, rfl, r0'⟩ := rps1 rPs
    obtain ⟨v0, v0e, v0r⟩ := rps_at rCs p0
    have kl := (List.getElem?_eq_some_iff.mp k0).1
    have i0l := (List.getElem?_eq_some_iff.mp p0).1
    have lcs := rCs.lens
    have lls := rLs.lens
    rw [List.length_map] at lls
    have neCL : C ≠ plate := fun z => by
      rw [z, hL] at hC
      injection hC with hC
      injection hC with hC
      rw [← hC] at v0e
      have : i0 < nums.length := by rw [← lls]; exact (List.getElem?_eq_some_iff.mp v0e).1
      obtain ⟨v1, v1e, v1r⟩ := rps_at rLs (ints_at (List.getElem?_eq_getElem this))
      rw [v0e] at v1e
      injection v1e with v1e
      subst v1e
      exact rp_ti v0r v1r
    have neCP : C ≠ Pl := fun z => by
      rw [z, hP] at hC
      injection hC with hC
      injection hC with hC
      rw [← hC] at v0e
      have : i0 = 0 := by
        have := (List.getElem?_eq_some_iff.mp v0e).1
        simp at this
        exact this
      subst this
      have v0e : some x0 = some v0 := v0e
      injection v0e with v0e
      subst v0e
      exact rp_tl v0r r0'
    have neLP : plate ≠ Pl := fun z => by
      rw [z, hP] at hL
      injection hL with hL
      injection hL with hL
      obtain ⟨v1, v1e, v1r⟩ := rps_at rLs (ints_at (List.getElem?_eq_getElem (show 0 < nums.length by omega)))
      rw [← hL] at v1e
      have v1e : some x0 = some v1 := v1e
      injection v1e with v1e
      subst v1e
      exact rp_li r0' v1r
    refine w_setL hC (ixN_lt rfl (by rw [lcs]; exact i0l)) ?_
    walk_at "w"
    refine w_bm ?_
    walk_at "w"
    refine ⟨tyV_lst upd_same, ?_⟩
    walk_at "w"
    refine ap_lst upd_same (by rw [List.length_set]; omega) ?_
    rw [upd_upd]
    walk_at "w"
    refine w_sl ?_
    walk_at "w"
    have tp2 : ∀ u v : Rat, tupOnly (PQ u v) = true := fun _ _ => rfl
    have HL : ∀ q o, q ≠ C → HF q = some o → (upd HF C (HO.lst (cs.set i0 (V.ref near) ++ [V.ref far]))) q = some o := fun q o hn e => (upd_ne hn).trans e
    have rC3 := ((rCs.set rn i0).app (.cons rf .nil)).stay (ys := cs.set i0 (V.ref near) ++ [V.ref far]) hC (tups_app (tups_set i0 tup (tp2 _ _)) (by show (tupOnly _ && true) = true; rw [tp2]; rfl))
    have rL3 := Rp.lst nL (HL _ _ neCL.symm hL) (rLs.stay (ys := cs.set i0 (V.ref near) ++ [V.ref far]) hC (tups_ints nums))
    have hP3 := HL _ _ neCP.symm hP
    have hC3 : (upd HF C (HO.lst (cs.set i0 (V.ref near) ++ [V.ref far]))) C = _ := upd_same
    have tr3 : ∃ o, (upd HF C (HO.lst (cs.set i0 (V.ref near) ++ [V.ref far]))) sa = some o := by
      obtain ⟨o, e⟩ := tr
      exact ⟨o, HL _ _ nC.symm (S _ _ e)⟩
    have fr3 : ∀ q o, q ≠ C → H q = some o → (upd HF C (HO.lst (cs.set i0 (V.ref near) ++ [V.ref far]))) q = some o := fun q o hn e => HL q o hn (S _ _ e)
    have r03 : Rp sa (upd HF C (HO.lst (cs.set i0 (V.ref near) ++ [V.ref far]))) x0 (IntsD nums) := by
      cases r0' with
      | lst n h r => exact .lst n (HL _ _ (fun z => by
          rw [z, hC] at h
          injection h with h
          injection h with h
          obtain ⟨v1, v1e, v1r⟩ := rps_at r (ints_at (List.getElem?_eq_getElem (show i0 < nums.length by
            have := r.lens
            rw [List.length_map] at this
            rw [← this, ← h]
            exact (List.getElem?_eq_some_iff.mp v0e).1)))
          rw [← h, v0e] at v1e
          injection v1e with v1e
          subst v1e
          exact rp_ti v0r v1r) h) (r.stay hC (tups_ints nums))
    generalize upd HF C (HO.lst (cs.set i0 (V.ref near) ++ [V.ref far])) = HC at *
    clear HL hC hL hP rCs rLs rPs r0' rn rf S S1 R1 v0r W8 W9
    have W := wd_start tr3 (.cons rL3 .nil)
    refine w_npart ?_
    refine w_part ?_
    walk_at "w"
    refine sl_lo (by assumption) (by walk_at "in2") (k := k + 1) (by omega) fun H21 q1 W21 => ?_
    walk_at "w"
    rename_i H22 q2 W22
    refine cat_le (by assumption) (by walk_at "in2") (by walk_at "in2") (by rw [List.length_take, List.length_map]; simp; omega) fun H23 q3 W23 => ?_
    walk_at "w"
    refine w_sl ?_
    walk_at "w"
    refine w_part ?_
    walk_at "w"
    refine w_npart ?_
    refine sl_hi (by assumption) (by walk_at "in2") (k := k + 1) (by omega) fun H24 q4 W24 => ?_
    refine cat_le (by assumption) (by walk_at "in2") (by walk_at "in2") (by rw [List.length_append, List.length_take, List.length_drop, List.length_map]; simp; omega) fun H25 q5 W25 => ?_
    walk_at "w"
    have S5 := W25.same rfl
    refine w_set0 (S5 _ _ hP3) ?_
    have r5 : Rp sa H25 (.ref q5) _ := W25.get .here
    have e5 : (List.take (k + 1) (List.map (fun (n : Nat) => PyData.int (n : Int)) nums) ++ [PyData.int ↑pts.length] ++ List.drop (k + 1) (List.map (fun (n : Nat) => PyData.int (n : Int)) nums)) = (nums.take (k + 1) ++ [pts.length] ++ nums.drop (k + 1)).map (fun (n : Nat) => PyData.int (n : Int)) := by
      rw [List.map_append, List.map_append, List.map_take, List.map_drop]
      rfl
    rw [e5] at r5
    have ne5 : q5 ≠ Pl := by
      obtain ⟨i, es, ee⟩ : ∃ i es, (nums.take (k + 1) ++ [pts.length] ++ nums.drop (k + 1)).map (fun (n : Nat) => PyData.int (n : Int)) = .int i :: es := by
        cases nums with
        | nil => simp at kl
        | cons n ns => exact ⟨_, _, rfl⟩
      rw [ee] at r5
      exact ints_ne r5 (S5 _ _ hP3) (r03.same S5)
    walk_at "w"
    refine hq _ (fun q o h1 h2 e => (upd_ne h2).trans (S5 _ _ (fr3 q o h1 e))) (.lst nC ((upd_ne neCP).trans (S5 _ _ hC3)) ((rC3.but S5.but).stay (S5 _ _ hP3) (tups_app (tups_set i0 tup (tp2 _ _)) (by show (tupOnly _ && true) = true; rw [tp2]; rfl)))) (.lst nP upd_same (.cons ?_ .nil))
    cases r5 with
    | lst n h r => exact .lst n ((upd_ne ne5).trans h) (r.stay (S5 _ _ hP3) (tups_ints _))
end

/-! ### sizes of what a cut works out -/
theorem rt_eq {x y : Int} {q : Rat} (r : rt x y = FQ q) : nt x y = q.num ∧ bN x y = (q.den : Int) := by
  injection r with r
  injection r with r1 r2
  injection r2 with r2 _
  injection r1 with r1
  injection r2 with r2
  exact ⟨r1, r2⟩
theorem qb_rt {x y : Int} {q : Rat} {k : Nat} (r : rt x y = FQ q) (h : y ≠ 0) (bx : Bt k x) (by' : Bt k y) : Qb k q := by
  obtain ⟨h1, h2⟩ := rt_eq r
  exact ⟨by rw [← h1]; exact bt_nt h bx, by rw [← h2]; exact bt_bN h by'⟩
theorem Qb.mul {a b : Nat} {p q : Rat} (h : Qb a p) (g : Qb b q) : Qb (a + b) (p * q) := qb_rt (mul_q p q) (Int.mul_ne_zero (den_ne p) (den_ne q)) (h.1.mul g.1) (h.2.mul g.2)
theorem Qb.add {a b : Nat} {p q : Rat} (h : Qb a p) (g : Qb b q) : Qb (a + b + 1) (p + q) := qb_rt (add_q p q) (Int.mul_ne_zero (den_ne p) (den_ne q)) (((h.1.mul g.2).add (g.1.mul h.2)).mono (by omega)) ((h.2.mul g.2).mono (by omega))
theorem Qb.neg {a : Nat} {p : Rat} (h : Qb a p) : Qb a (-p) := ⟨by rw [Rat.neg_num]; exact h.1.neg, by rw [Rat.neg_den]; exact h.2⟩
theorem Qb.inv {a : Nat} {q : Rat} (h : Qb a q) (hq : q ≠ 0) : Qb (a + 1) (1 / q) := by
  have b1 : Bt 1 ((1 : Rat).num) := bt_lit 1 (by decide)
  have b2 : Bt 1 (((1 : Rat).den : Nat) : Int) := bt_lit 1 (by decide)
  exact qb_rt (div_q hq) (Int.mul_ne_zero (den_ne 1) (num_ne hq)) ((b1.mul h.2).mono (by omega)) ((b2.mul h.1).mono (by omega))
theorem qb4 {q : Rat} {D : Int} {d : Nat} (h : IsI q D) (hD : 0 < D) (bD : Bt d D) (h1 : q ≤ 4) (h2 : -4 ≤ q) : Qb (3 + d) q :=
  qb_of (V := 4) h hD h1 h2 ((bt_lit (x := ((4 : Nat) : Int)) 3 (by decide)).mul bD) (by decide)
theorem unit_le {x y : Rat} (h : x * x + y * y = 1) : x ≤ 1 ∧ -1 ≤ x := by
  have := q_sq y
  have h2 := q_sq (x - 1)
  have h3 := q_sq (x + 1)
  constructor
  · refine Rat.not_lt.mp fun z => ?_
    have := Rat.mul_lt_mul_of_pos_left z (show 0 < x by grind)
    grind
  · refine Rat.not_lt.mp fun z => ?_
    have := Rat.mul_lt_mul_of_pos_left (show 1 < -x by grind) (show 0 < -x by grind)
    grind
theorem lx_le {l x : Rat} (l0 : 0 < l) (l4 : l ≤ 4) (h1 : x ≤ 1) (h2 : -1 ≤ x) : l * x ≤ 4 ∧ -4 ≤ l * x := by
  have a := Rat.mul_le_mul_of_nonneg_left h1 (Rat.le_of_lt l0)
  have b := Rat.mul_le_mul_of_nonneg_left h2 (Rat.le_of_lt l0)
  constructor <;> grind
/-- the corners lie between -4 and 4, the sides are no longer than 4 -/
structure PolB (n : Nat) (c d l : Nat → Rat) : Prop where
  c1 : ∀ i, i < n → c i ≤ 4
  c2 : ∀ i, i < n → -4 ≤ c i
  d1 : ∀ i, i < n → d i ≤ 4
  d2 : ∀ i, i < n → -4 ≤ d i
  l1 : ∀ i, i < n → l i ≤ 4
theorem prv_lt {n k : Nat} (h : k < n) : prv n k < n := by unfold prv; split <;> omega
theorem nxt_lt {n k : Nat} (h : k < n) : nxt n k < n := by unfold nxt; split <;> omega
theorem nxt_prv {n k : Nat} (h : k < n) : nxt n (prv n k) = k := by unfold nxt prv; split <;> split <;> omega
theorem lc_le {c e la l x : Rat} (h0 : 0 < la) (h1 : la ≤ l) (hc : c ≤ 4) (he : e ≤ 4) (hx : e = c + l * x) : c + la * x ≤ 4 := by
  by_cases z : 0 ≤ x
  · have := Rat.mul_le_mul_of_nonneg_right h1 z
    grind
  · have := Rat.mul_le_mul_of_nonneg_left (show x ≤ 0 by grind) (Rat.le_of_lt h0)
    grind
theorem lc_ge {c e la l x : Rat} (h0 : 0 < la) (h1 : la ≤ l) (hc : -4 ≤ c) (he : -4 ≤ e) (hx : e = c + l * x) : -4 ≤ c + la * x := by
  have := lc_le (c := -c) (e := -e) (x := -x) h0 h1 (by grind) (by grind) (by grind)
  grind
theorem polb_cut {n k : Nat} {c d x y l t : Nat → Rat} {s r room : Rat} (hn : 3 ≤ n) (hk : k < n) (P : PolI n c d x y l t) (B : PolB n c d l) (hs : 0 < s) (hr : 0 < r) (e : r * (1 + s * t k) = t k - s) (h0 : 0 < room) (h1 : room < l (prv n k)) (h2 : room < l k) :
    PolB (n + 1) (ins2 k c (c k - room * third s (t k) * x (prv n k)) (c k + room * (2 * s / (1 + s * s)) * x k)) (ins2 k d (d k - room * third s (t k) * y (prv n k)) (d k + room * (2 * s / (1 + s * s)) * y k))
      (insL n k l (l (prv n k) - room * third s (t k)) (room * (2 * t k / (1 + t k * t k))) (l k - room * (2 * s / (1 + s * s)))) := by
  have ht := P.tp k hk
  have hp := prv_lt hk
  have sr := sin_r hs ht hr e
  have b1 := sin_le hr
  have p1 := sin_pos hr
  rw [← sr] at b1 p1
  have b2 := sin_le hs
  have p2 := sin_pos hs
  have b3 := sin_le ht
  have p3 := sin_pos ht
  have g1 : room * third s (t k) ≤ room := by
    have := Rat.mul_le_mul_of_nonneg_left b1 (Rat.le_of_lt h0)
    grind
  have g2 : room * (2 * s / (1 + s * s)) ≤ room := by
    have := Rat.mul_le_mul_of_nonneg_left b2 (Rat.le_of_lt h0)
    grind
  have g3 : room * (2 * t k / (1 + t k * t k)) ≤ room := by
    have := Rat.mul_le_mul_of_nonneg_left b3 (Rat.le_of_lt h0)
    grind
  have q1 := Rat.mul_pos h0 p1
  have q2 := Rat.mul_pos h0 p2
  have q3 := Rat.mul_pos h0 p3
  have ex := P.ex (prv n k) hp
  have ey := P.ey (prv n k) hp
  rw [nxt_prv hk] at ex ey
  have fx := P.ex k hk
  have fy := P.ey k hk
  have hq := nxt_lt hk
  generalize room * third s (t k) = u at *
  generalize room * (2 * s / (1 + s * s)) = v at *
  generalize room * (2 * t k / (1 + t k * t k)) = z at *
  have l1 := B.l1 (prv n k) hp
  have l2 := B.l1 k hk
  refine ⟨fun i hi => ?_, fun i hi => ?_, fun i hi => ?_, fun i hi => ?_, fun i hi => ?_⟩
  · refine all_ins2 (p := fun q => q ≤ 4) hk B.c1 ?_ ?_ i hi
    · have := lc_le (la := u) (l := l (prv n k)) (x := -x (prv n k)) q1 (by grind) (B.c1 k hk) (B.c1 _ hp) (by grind)
      grind
    · exact lc_le (e := c (nxt n k)) q2 (by grind) (B.c1 k hk) (B.c1 _ hq) fx
  · refine all_ins2 (p := fun q => -4 ≤ q) hk B.c2 ?_ ?_ i hi
    · have := lc_ge (la := u) (l := l (prv n k)) (x := -x (prv n k)) q1 (by grind) (B.c2 k hk) (B.c2 _ hp) (by grind)
      grind
    · exact lc_ge (e := c (nxt n k)) q2 (by grind) (B.c2 k hk) (B.c2 _ hq) fx
  · refine all_ins2 (p := fun q => q ≤ 4) hk B.d1 ?_ ?_ i hi
    · have := lc_le (la := u) (l := l (prv n k)) (x := -y (prv n k)) q1 (by grind) (B.d1 k hk) (B.d1 _ hp) (by grind)
      grind
    · exact lc_le (e := d (nxt n k)) q2 (by grind) (B.d1 k hk) (B.d1 _ hq) fy
  · refine all_ins2 (p := fun q => -4 ≤ q) hk B.d2 ?_ ?_ i hi
    · have := lc_ge (la := u) (l := l (prv n k)) (x := -y (prv n k)) q1 (by grind) (B.d2 k hk) (B.d2 _ hp) (by grind)
      grind
    · exact lc_ge (e := d (nxt n k)) q2 (by grind) (B.d2 k hk) (B.d2 _ hq) fy
  · exact all_insL (p := fun q => q ≤ 4) hk B.l1 (by grind) (by grind) (by grind) i hi

/-! ### all that a cut asks of its numbers -/
theorem rat_max {a b : Int} {M : Nat} (h0 : 0 < a) (h1 : a ≤ M) (h2 : 0 < b) (h3 : b ≤ M) {m : Nat} (bm : Bt m (M : Int)) : Bt m a ∧ Bt m b := ⟨bm.le (by omega), bm.le (by omega)⟩
theorem cut_ok {n k M : Nat} {c d x y l t : Nat → Rat} {W E m : Int} (hm : 1 ≤ m ∧ m ≤ 4) (hk : k < n) (P : PolI n c d x y l t) (S : PolS n c d x y l t W E M) (B : PolB n c d l) (bW : Bt 660 W) (bE : Bt 1290 E) (bM : Bt 330 (M : Int)) {a b a1 b1 a2 b2 p : Rat}
    (ea : a = c k) (eb : b = d k) (ea1 : a1 = c (prv n k)) (eb1 : b1 = d (prv n k)) (ea2 : a2 = c (nxt n k)) (eb2 : b2 = d (nxt n k)) (ep : p = (m : Rat) / 5) :
    CutOk a b a1 b1 a2 b2 (x (prv n k)) (y (prv n k)) (x k) (y k) (l (prv n k)) (l k) (t k) p (t k * p) ((1 - (t k * p) * (t k * p)) / (1 + (t k * p) * (t k * p))) (2 * (t k * p) / (1 + (t k * p) * (t k * p)))
      ((t k * t k - 1) / (1 + t k * t k)) (2 * t k / (1 + t k * t k)) (third (t k * p) (t k)) (if l k < l (prv n k) then l k else l (prv n k)) ((if l k < l (prv n k) then l k else l (prv n k)) * p) := by
  have hp := prv_lt hk
  have hq := nxt_lt hk
  have wp := S.wp
  have ep0 := S.ep
  have ht := P.tp k hk
  have p0 : 0 < p := by
    rw [ep]
    exact q_div (Rat.intCast_pos.mpr (by omega)) (by decide)
  have hs : 0 < t k * p := Rat.mul_pos ht p0
  -- the corners and the sides
  have ux := P.unit (prv n k) hp
  have uy := P.unit k hk
  have ex := P.ex (prv n k) hp
  have ey := P.ey (prv n k) hp
  rw [nxt_prv hk] at ex ey
  have fx := P.ex k hk
  have fy := P.ey k hk
  have rx := P.rx k hk
  have ry := P.ry k hk
  rw [← ea, ← ea1] at ex
  rw [← eb, ← eb1] at ey
  rw [← ea, ← ea2] at fx
  rw [← eb, ← eb2] at fy
  have WE : 0 < W * E := Int.mul_pos wp ep0
  have EW : 0 < E * W := Int.mul_pos ep0 wp
  have bWE : Bt 1950 (W * E) := bW.mul bE
  have bEW : Bt 1950 (E * W) := (bE.mul bW).mono (by decide)
  have k1 : Qb 1953 a := by rw [ea]; exact qb4 (S.ci k hk) WE bWE (B.c1 k hk) (B.c2 k hk)
  have k2 : Qb 1953 b := by rw [eb]; exact qb4 (S.di k hk) WE bWE (B.d1 k hk) (B.d2 k hk)
  have k3 : Qb 1953 a1 := by rw [ea1]; exact qb4 (S.ci _ hp) WE bWE (B.c1 _ hp) (B.c2 _ hp)
  have k4 : Qb 1953 b1 := by rw [eb1]; exact qb4 (S.di _ hp) WE bWE (B.d1 _ hp) (B.d2 _ hp)
  have k5 : Qb 1953 a2 := by rw [ea2]; exact qb4 (S.ci _ hq) WE bWE (B.c1 _ hq) (B.c2 _ hq)
  have k6 : Qb 1953 b2 := by rw [eb2]; exact qb4 (S.di _ hq) WE bWE (B.d1 _ hq) (B.d2 _ hq)
  obtain ⟨x1, x2⟩ := unit_le ux
  obtain ⟨y1, y2⟩ := unit_le (x := y (prv n k)) (y := x (prv n k)) (by grind)
  obtain ⟨x3, x4⟩ := unit_le uy
  obtain ⟨y3, y4⟩ := unit_le (x := y k) (y := x k) (by grind)
  have m1 : Qb 663 (x (prv n k)) := qb4 (S.xi _ hp) wp bW (by grind) (by grind)
  have m2 : Qb 663 (y (prv n k)) := qb4 (S.yi _ hp) wp bW (by grind) (by grind)
  have m3 : Qb 663 (x k) := qb4 (S.xi k hk) wp bW (by grind) (by grind)
  have m4 : Qb 663 (y k) := qb4 (S.yi k hk) wp bW (by grind) (by grind)
  have l0 := P.lp (prv n k) hp
  have l1 := P.lp k hk
  have l2 := B.l1 (prv n k) hp
  have l3 := B.l1 k hk
  have j1 : Qb 1293 (l (prv n k)) := qb4 (S.li _ hp) ep0 bE l2 (by grind)
  have j2 : Qb 1293 (l k) := qb4 (S.li k hk) ep0 bE l3 (by grind)
  have i1 := (S.li _ hp).mul (S.xi _ hp)
  have i2 := (S.li _ hp).mul (S.yi _ hp)
  have i3 := (S.li k hk).mul (S.xi k hk)
  have i4 := (S.li k hk).mul (S.yi k hk)
  have v1 : Qb 1953 (a1 - a) := by
    have z := lx_le l0 l2 x1 x2
    have := (qb4 i1 EW bEW z.1 z.2).neg
    rw [show a1 - a = -(l (prv n k) * x (prv n k)) by grind]
    exact this
  have v2 : Qb 1953 (b1 - b) := by
    have z := lx_le l0 l2 y1 y2
    have := (qb4 i2 EW bEW z.1 z.2).neg
    rw [show b1 - b = -(l (prv n k) * y (prv n k)) by grind]
    exact this
  have v3 : Qb 1953 (a2 - a) := by
    have z := lx_le l1 l3 x3 x4
    have := qb4 i3 EW bEW z.1 z.2
    rw [show a2 - a = l k * x k by grind]
    exact this
  have v4 : Qb 1953 (b2 - b) := by
    have z := lx_le l1 l3 y3 y4
    have := qb4 i4 EW bEW z.1 z.2
    rw [show b2 - b = l k * y k by grind]
    exact this
  have e1 : l (prv n k) * l (prv n k) = (a1 - a) * (a1 - a) + (b1 - b) * (b1 - b) := by
    rw [show a1 - a = -(l (prv n k) * x (prv n k)) by grind, show b1 - b = -(l (prv n k) * y (prv n k)) by grind]
    grind
  have e2 : l k * l k = (a2 - a) * (a2 - a) + (b2 - b) * (b2 - b) := by
    rw [show a2 - a = l k * x k by grind, show b2 - b = l k * y k by grind]
    grind
  have n1 : l (prv n k) ≠ 0 := by grind
  have n2 : l k ≠ 0 := by grind
  have s1 : StepOk a b a1 b1 (l (prv n k)) := ⟨k1.mono (by decide), k2.mono (by decide), k3.mono (by decide), k4.mono (by decide), v1.mono (by decide), v2.mono (by decide), (v1.mul v1).mono (by decide), (v2.mul v2).mono (by decide), by rw [← e1]; exact (j1.mul j1).mono (by decide), j1.mono (by decide), (j1.inv n1).mono (by decide), l0, e1⟩
  have s2 : StepOk a b a2 b2 (l k) := ⟨k1.mono (by decide), k2.mono (by decide), k5.mono (by decide), k6.mono (by decide), v3.mono (by decide), v4.mono (by decide), (v3.mul v3).mono (by decide), (v4.mul v4).mono (by decide), by rw [← e2]; exact (j2.mul j2).mono (by decide), j2.mono (by decide), (j2.inv n2).mono (by decide), l1, e2⟩
  -- the tangents
  obtain ⟨tf, tg, et, f0, fM, g0, gM⟩ := S.ti k hk
  obtain ⟨bf, bg⟩ := rat_max f0 fM g0 gM bM
  have bt : Qb 330 (t k) := by
    have r := rt_q (x := tf) (y := tg) (by omega)
    rw [← et] at r
    exact qb_rt r (by omega) bf bg
  have bp : Qb 3 p := by
    have r := rt_q (x := m) (y := 5) (by decide)
    exact qb_rt (q := p) (by rw [ep]; exact r) (by decide) (bt_lit 3 (by omega)) (bt_lit 3 (by decide))
  have bs : Qb 333 (t k * p) := bt.mul bp
  have es : t k * p = ((tf * m : Int) : Rat) / ((tg * 5 : Int) : Rat) := by
    have hg := i_ne (show tg ≠ 0 by omega)
    rw [et, ep, Rat.intCast_mul, Rat.intCast_mul]
    rw [show ((5 : Int) : Rat) = 5 from rfl]
    grind
  have hg : tg ≠ 0 := by omega
  have hg5 : tg * 5 ≠ 0 := by omega
  obtain ⟨w1, w2⟩ := sinI hg5 es hs
  obtain ⟨w3, w4⟩ := sinI hg et ht
  have w5 := thirdI hg5 hg es et hs ht
  have bA : Bt 668 (tf * m * (tf * m) + tg * 5 * (tg * 5)) := by
    have c1 : Bt 333 (tf * m) := bf.mul (bt_lit 3 (by omega))
    have c2 : Bt 333 (tg * 5) := bg.mul (bt_lit (x := 5) 3 (by decide))
    exact ((c1.mul c1).add (c2.mul c2)).mono (by decide)
  have bD : Bt 661 (tf * tf + tg * tg) := ((bf.mul bf).add (bg.mul bg)).mono (by decide)
  have A0 : 0 < tf * m * (tf * m) + tg * 5 * (tg * 5) := by
    have := Int.mul_pos (show 0 < tg * 5 by omega) (show 0 < tg * 5 by omega)
    have h2 : 0 ≤ tf * m * (tf * m) := by rw [← Int.natAbs_mul_self]; omega
    omega
  have D0 : 0 < tf * tf + tg * tg := by
    have := Int.mul_pos g0 g0
    have h2 : 0 ≤ tf * tf := by rw [← Int.natAbs_mul_self]; omega
    omega
  have hs2 := q_pos hs
  have ht2 := q_pos ht
  have z1 := sin_le hs
  have z2 := sin_pos hs
  have z3 := sin_le ht
  have z4 := sin_pos ht
  have cs1 : ((1 - (t k * p) * (t k * p)) / (1 + (t k * p) * (t k * p))) * ((1 - (t k * p) * (t k * p)) / (1 + (t k * p) * (t k * p))) + (2 * (t k * p) / (1 + (t k * p) * (t k * p))) * (2 * (t k * p) / (1 + (t k * p) * (t k * p))) = 1 := by
    have := q_ne hs
    generalize t k * p = s at *
    grind
  have cs2 : ((t k * t k - 1) / (1 + t k * t k)) * ((t k * t k - 1) / (1 + t k * t k)) + (2 * t k / (1 + t k * t k)) * (2 * t k / (1 + t k * t k)) = 1 := by
    have := q_ne ht
    generalize t k = s at *
    grind
  obtain ⟨z5, z6⟩ := unit_le cs1
  obtain ⟨z7, z8⟩ := unit_le cs2
  have br0 : Qb 671 ((1 - (t k * p) * (t k * p)) / (1 + (t k * p) * (t k * p))) := qb4 w2 A0 bA (by grind) (by grind)
  have br1 : Qb 671 (2 * (t k * p) / (1 + (t k * p) * (t k * p))) := qb4 w1 A0 bA (by grind) (by grind)
  have bsi : Qb 664 (2 * t k / (1 + t k * t k)) := qb4 w3 D0 bD (by grind) (by grind)
  have bco : Qb 664 ((t k * t k - 1) / (1 + t k * t k)) := by
    have := (qb4 w4 D0 bD (by grind) (by grind)).neg
    rw [show (t k * t k - 1) / (1 + t k * t k) = -((1 - t k * t k) / (1 + t k * t k)) by
      have := q_ne ht
      generalize t k = s at *
      grind]
    exact this
  have th0 := third_eq hs ht
  have bth : Qb 1332 (third (t k * p) (t k)) := by
    have c1 : third (t k * p) (t k) ≤ 2 ∧ -2 ≤ third (t k * p) (t k) := by
      unfold third
      have a1 := Rat.mul_le_mul_of_nonneg_left z7 (Rat.le_of_lt z2)
      have a2 := Rat.mul_le_mul_of_nonneg_left z8 (Rat.le_of_lt z2)
      have a3 := Rat.mul_le_mul_of_nonneg_right z5 (Rat.le_of_lt z4)
      have a4 := Rat.mul_le_mul_of_nonneg_right z6 (Rat.le_of_lt z4)
      constructor <;> grind
    exact qb4 w5 (Int.mul_pos A0 D0) (bA.mul bD) (by grind) (by grind)
  have blm : Qb 1293 (if l k < l (prv n k) then l k else l (prv n k)) := by split <;> assumption
  have brm := blm.mul bp
  have q1 : Qb 1 1 := ⟨bt_lit 1 (by decide), bt_lit 1 (by decide)⟩
  refine ⟨s1, s2, ?_, ?_, ?_, ?_, m1.neg.mono (by decide), m2.neg.mono (by decide), m3.mono (by decide), m4.mono (by decide), ?_, (m3.mul m1.neg).mono (by decide), (m4.mul m2.neg).mono (by decide), ?_, (m3.mul m2.neg).mono (by decide), (m4.mul m1.neg).mono (by decide), by grind,
    bco.mono (by decide), bsi.mono (by decide), (q1.add bco).mono (by decide), cut_half ht, bt.mono (by decide), bp.mono (by decide), rfl, bs.mono (by decide), rfl, rfl, br0.mono (by decide), br1.mono (by decide), (br1.mul bco).mono (by decide), (br0.mul bsi).mono (by decide), rfl, bth.mono (by decide),
    j1.mono (by decide), j2.mono (by decide), rfl, blm.mono (by decide), rfl, brm.mono (by decide), (brm.mul bth).mono (by decide), (brm.mul br1).mono (by decide), (m1.neg.mul (brm.mul bth)).mono (by decide), (m2.neg.mul (brm.mul bth)).mono (by decide), (m3.mul (brm.mul br1)).mono (by decide), (m4.mul (brm.mul br1)).mono (by decide)⟩
  · rw [show a1 - a = -(l (prv n k) * x (prv n k)) by grind]
    grind
  · rw [show b1 - b = -(l (prv n k) * y (prv n k)) by grind]
    grind
  · rw [show a2 - a = l k * x k by grind]
    grind
  · rw [show b2 - b = l k * y k by grind]
    grind
  · rw [rx, ry]
    exact cut_cos ht ux
  · rw [rx, ry]
    exact cut_sin ht ux

/-! ### strictly convex polygons: all triples go round the same way -/
def orr (ax ay bx bY cx cy : Rat) : Rat := (bx - ax) * (cy - ay) - (bY - ay) * (cx - ax)
theorem orr_rot (ax ay bx bY cx cy : Rat) : orr ax ay bx bY cx cy = orr bx bY cx cy ax ay := by unfold orr; grind
abbrev orI (c d : Nat → Rat) (i j k : Nat) : Rat := orr (c i) (d i) (c j) (d j) (c k) (d k)
def CC (n : Nat) (c d : Nat → Rat) : Prop := ∀ i j k, i < j → j < k → k < n → 0 < orI c d i j k
theorem orI_rot (c d : Nat → Rat) (i j k : Nat) : orI c d i j k = orI c d j k i := orr_rot ..
theorem orI_same1 (c d : Nat → Rat) (i j : Nat) : orI c d i i j = 0 := by unfold orI orr; grind
theorem orI_same2 (c d : Nat → Rat) (i j : Nat) : orI c d i j j = 0 := by unfold orI orr; grind
theorem orI_same3 (c d : Nat → Rat) (i j : Nat) : orI c d i j i = 0 := by unfold orI orr; grind
/-- strictly one behind the other, going round -/
def Cyc (a b e : Nat) : Prop := a < b ∧ b < e ∨ b < e ∧ e < a ∨ e < a ∧ a < b
theorem CC.s {n : Nat} {c d : Nat → Rat} (h : CC n c d) {a b e : Nat} (ha : a < n) (hb : b < n) (he : e < n) (z : Cyc a b e) : 0 < orI c d a b e := by
  rcases z with z | z | z
  · exact h a b e z.1 z.2 he
  · rw [orI_rot]
    exact h b e a z.1 z.2 ha
  · rw [orI_rot, orI_rot]
    exact h e a b z.1 z.2 hb
theorem CC.w {n : Nat} {c d : Nat → Rat} (h : CC n c d) {a b e : Nat} (ha : a < n) (hb : b < n) (he : e < n) (z : Cyc a b e ∨ a = b ∨ b = e ∨ a = e) : 0 ≤ orI c d a b e := by
  rcases z with z | rfl | rfl | rfl
  · exact Rat.le_of_lt (h.s ha hb he z)
  · rw [orI_same1]; exact Rat.le_refl
  · rw [orI_same2]; exact Rat.le_refl
  · rw [orI_same3]; exact Rat.le_refl
theorem mix_pos {a b w : Rat} (h0 : 0 < w) (h1 : w < 1) (ha : 0 < a) (hb : 0 ≤ b) : 0 < (1 - w) * a + w * b := by
  have := Rat.mul_pos (show 0 < 1 - w by grind) ha
  have := Rat.mul_nonneg (Rat.le_of_lt h0) hb
  grind
theorem mix4_pos {o1 o2 o3 u v : Rat} (u0 : 0 < u) (u1 : u < 1) (v0 : 0 < v) (v1 : v < 1) (h1 : 0 ≤ o1) (h2 : 0 ≤ o2) (h3 : 0 ≤ o3) (h : 0 < o1 ∨ 0 < o2) : 0 < (1 - u) * v * o1 + u * (1 - v) * o2 + u * v * o3 := by
  have a1 := Rat.mul_pos (show 0 < 1 - u by grind) v0
  have a2 := Rat.mul_pos u0 (show 0 < 1 - v by grind)
  have a3 := Rat.mul_pos u0 v0
  have b1 := Rat.mul_nonneg (Rat.le_of_lt a1) h1
  have b2 := Rat.mul_nonneg (Rat.le_of_lt a2) h2
  have b3 := Rat.mul_nonneg (Rat.le_of_lt a3) h3
  rcases h with h | h
  · have := Rat.mul_pos a1 h
    grind
  · have := Rat.mul_pos a2 h
    grind
section
variable {n k : Nat} {c d : Nat → Rat} {u v N1 N2 F1 F2 : Rat}
theorem near_pos (hn : 3 ≤ n) (hk : k < n) (h : CC n c d) (u0 : 0 < u) (u1 : u < 1) (e1 : N1 = c k + u * (c (prv n k) - c k)) (e2 : N2 = d k + u * (d (prv n k) - d k)) {q r : Nat} (hq : q < n) (hr : r < n) (z : Cyc k q r) : 0 < orr N1 N2 (c q) (d q) (c r) (d r) := by
  have a := h.s hk hq hr z
  have hp : prv n k < n := prv_lt hk
  have b := h.w hp hq hr (show Cyc (prv n k) q r ∨ prv n k = q ∨ q = r ∨ prv n k = r by
    unfold prv Cyc at *
    split <;> omega)
  rw [show orr N1 N2 (c q) (d q) (c r) (d r) = (1 - u) * orI c d k q r + u * orI c d (prv n k) q r by rw [e1, e2]; unfold orI orr; grind]
  exact mix_pos u0 u1 a b
theorem far_pos (hn : 3 ≤ n) (hk : k < n) (h : CC n c d) (v0 : 0 < v) (v1 : v < 1) (f1 : F1 = c k + v * (c (nxt n k) - c k)) (f2 : F2 = d k + v * (d (nxt n k) - d k)) {q r : Nat} (hq : q < n) (hr : r < n) (z : Cyc k q r) : 0 < orr F1 F2 (c q) (d q) (c r) (d r) := by
  have a := h.s hk hq hr z
  have hp : nxt n k < n := nxt_lt hk
  have b := h.w hp hq hr (show Cyc (nxt n k) q r ∨ nxt n k = q ∨ q = r ∨ nxt n k = r by
    unfold nxt Cyc at *
    split <;> omega)
  rw [show orr F1 F2 (c q) (d q) (c r) (d r) = (1 - v) * orI c d k q r + v * orI c d (nxt n k) q r by rw [f1, f2]; unfold orI orr; grind]
  exact mix_pos v0 v1 a b
theorem both_pos (hn : 3 ≤ n) (hk : k < n) (h : CC n c d) (u0 : 0 < u) (u1 : u < 1) (e1 : N1 = c k + u * (c (prv n k) - c k)) (e2 : N2 = d k + u * (d (prv n k) - d k)) (v0 : 0 < v) (v1 : v < 1) (f1 : F1 = c k + v * (c (nxt n k) - c k)) (f2 : F2 = d k + v * (d (nxt n k) - d k)) {r : Nat} (hr : r < n) (z : r ≠ k) :
    0 < orr N1 N2 F1 F2 (c r) (d r) := by
  have hp := prv_lt hk
  have hq := nxt_lt hk
  have a := h.w hk hq hr (show Cyc k (nxt n k) r ∨ k = nxt n k ∨ nxt n k = r ∨ k = r by
    unfold nxt Cyc at *
    split <;> omega)
  have b := h.w hp hk hr (show Cyc (prv n k) k r ∨ prv n k = k ∨ k = r ∨ prv n k = r by
    unfold prv Cyc at *
    split <;> omega)
  have e := h.w hp hq hr (show Cyc (prv n k) (nxt n k) r ∨ prv n k = nxt n k ∨ nxt n k = r ∨ prv n k = r by
    unfold prv nxt Cyc at *
    split <;> split <;> omega)
  have o : 0 < orI c d k (nxt n k) r ∨ 0 < orI c d (prv n k) k r := by
    by_cases w : r = nxt n k
    · exact .inr (h.s hp hk hr (by rw [w]; unfold prv nxt Cyc at *; split <;> split <;> omega))
    · exact .inl (h.s hk hq hr (by unfold nxt Cyc at *; split <;> split at w <;> omega))
  rw [show orr N1 N2 F1 F2 (c r) (d r) = (1 - u) * v * orI c d k (nxt n k) r + u * (1 - v) * orI c d (prv n k) k r + u * v * orI c d (prv n k) (nxt n k) r by
    rw [e1, e2, f1, f2]
    unfold orI orr
    generalize c k = a1; generalize d k = a2; generalize c (prv n k) = b1; generalize d (prv n k) = b2; generalize c (nxt n k) = g1; generalize d (nxt n k) = g2; generalize c r = r1; generalize d r = r2
    clear a b e o e1 e2 f1 f2 u0 u1 v0 v1
    grind]
  exact mix4_pos u0 u1 v0 v1 a b e o
theorem cc_cut (hn : 3 ≤ n) (hk : k < n) (h : CC n c d) (u0 : 0 < u) (u1 : u < 1) (e1 : N1 = c k + u * (c (prv n k) - c k)) (e2 : N2 = d k + u * (d (prv n k) - d k)) (v0 : 0 < v) (v1 : v < 1) (f1 : F1 = c k + v * (c (nxt n k) - c k)) (f2 : F2 = d k + v * (d (nxt n k) - d k)) :
    CC (n + 1) (ins2 k c N1 F1) (ins2 k d N2 F2) := by
  have nn : ∀ {q r : Nat}, q < n → r < n → Cyc k q r → 0 < orr N1 N2 (c q) (d q) (c r) (d r) := fun h1 h2 z => near_pos hn hk h u0 u1 e1 e2 h1 h2 z
  have ff : ∀ {q r : Nat}, q < n → r < n → Cyc k q r → 0 < orr F1 F2 (c q) (d q) (c r) (d r) := fun h1 h2 z => far_pos hn hk h v0 v1 f1 f2 h1 h2 z
  have nf : ∀ {r : Nat}, r < n → r ≠ k → 0 < orr N1 N2 F1 F2 (c r) (d r) := fun h1 z => both_pos hn hk h u0 u1 e1 e2 v0 v1 f1 f2 h1 z
  have oo : ∀ {a b e : Nat}, a < n → b < n → e < n → Cyc a b e → 0 < orr (c a) (d a) (c b) (d b) (c e) (d e) := fun h1 h2 h3 z => h.s h1 h2 h3 z
  intro i j m hij hjm hm
  unfold orI
  by_cases i1 : i < k
  · rw [ins2_lt i1, ins2_lt i1]
    by_cases j1 : j < k
    · rw [ins2_lt j1, ins2_lt j1]
      by_cases m1 : m < k
      · rw [ins2_lt m1, ins2_lt m1]
        exact oo (by omega) (by omega) (by omega) (.inl ⟨hij, hjm⟩)
      · by_cases m2 : m = k
        · subst m2
          rw [ins2_k, ins2_k, orr_rot, orr_rot]
          exact nn (by omega) (by omega) (.inr (.inl ⟨hij, j1⟩))
        · by_cases m3 : m = k + 1
          · subst m3
            rw [ins2_k1, ins2_k1, orr_rot, orr_rot]
            exact ff (by omega) (by omega) (.inr (.inl ⟨hij, j1⟩))
          · rw [ins2_gt (by omega), ins2_gt (by omega)]
            exact oo (by omega) (by omega) (by omega) (.inl ⟨hij, by omega⟩)
    · by_cases j2 : j = k
      · subst j2
        rw [ins2_k, ins2_k]
        by_cases m3 : m = j + 1
        · subst m3
          rw [ins2_k1, ins2_k1, orr_rot]
          exact nf (by omega) (by omega)
        · rw [ins2_gt (by omega), ins2_gt (by omega), orr_rot]
          exact nn (by omega) (by omega) (.inr (.inr ⟨by omega, by omega⟩))
      · by_cases j3 : j = k + 1
        · subst j3
          rw [ins2_k1, ins2_k1, ins2_gt (by omega), ins2_gt (by omega), orr_rot]
          exact ff (by omega) (by omega) (.inr (.inr ⟨by omega, by omega⟩))
        · rw [ins2_gt (by omega), ins2_gt (by omega), ins2_gt (by omega), ins2_gt (by omega)]
          exact oo (by omega) (by omega) (by omega) (.inl ⟨by omega, by omega⟩)
  · by_cases i2 : i = k
    · subst i2
      rw [ins2_k, ins2_k]
      by_cases j3 : j = i + 1
      · subst j3
        rw [ins2_k1, ins2_k1, ins2_gt (by omega), ins2_gt (by omega)]
        exact nf (by omega) (by omega)
      · rw [ins2_gt (by omega), ins2_gt (by omega), ins2_gt (by omega), ins2_gt (by omega)]
        exact nn (by omega) (by omega) (.inl ⟨by omega, by omega⟩)
    · by_cases i3 : i = k + 1
      · subst i3
        rw [ins2_k1, ins2_k1, ins2_gt (by omega), ins2_gt (by omega), ins2_gt (by omega), ins2_gt (by omega)]
        exact ff (by omega) (by omega) (.inl ⟨by omega, by omega⟩)
      · rw [ins2_gt (by omega), ins2_gt (by omega), ins2_gt (by omega), ins2_gt (by omega), ins2_gt (by omega), ins2_gt (by omega)]
        exact oo (by omega) (by omega) (by omega) (.inl ⟨by omega, by omega⟩)
/-- the corner that is cut off -/
theorem cc_tri (hn : 3 ≤ n) (hk : k < n) (h : CC n c d) (u0 : 0 < u) (e1 : N1 = c k + u * (c (prv n k) - c k)) (e2 : N2 = d k + u * (d (prv n k) - d k)) (v0 : 0 < v) (f1 : F1 = c k + v * (c (nxt n k) - c k)) (f2 : F2 = d k + v * (d (nxt n k) - d k)) :
    0 < orr (c k) (d k) F1 F2 N1 N2 := by
  have hp := prv_lt hk
  have hq := nxt_lt hk
  have a := h.s hk hq hp (by unfold prv nxt Cyc at *; split <;> split <;> omega)
  rw [show orr (c k) (d k) F1 F2 N1 N2 = u * v * orI c d k (nxt n k) (prv n k) by rw [e1, e2, f1, f2]; unfold orI orr; grind]
  exact Rat.mul_pos (Rat.mul_pos u0 v0) a
end

theorem cc_pol {n k : Nat} {c d x y l t : Nat → Rat} {s r room : Rat} (hn : 3 ≤ n) (hk : k < n) (P : PolI n c d x y l t) (C : CC n c d) (hs : 0 < s) (hr : 0 < r) (e : r * (1 + s * t k) = t k - s) (h0 : 0 < room) (h1 : room < l (prv n k)) (h2 : room < l k) :
    CC (n + 1) (ins2 k c (c k - room * third s (t k) * x (prv n k)) (c k + room * (2 * s / (1 + s * s)) * x k)) (ins2 k d (d k - room * third s (t k) * y (prv n k)) (d k + room * (2 * s / (1 + s * s)) * y k)) := by
  have ht := P.tp k hk
  have hp := prv_lt hk
  have sr := sin_r hs ht hr e
  have b1 := sin_le hr
  have p1 := sin_pos hr
  rw [← sr] at b1 p1
  have b2 := sin_le hs
  have p2 := sin_pos hs
  have g1 : room * third s (t k) ≤ room := by
    have := Rat.mul_le_mul_of_nonneg_left b1 (Rat.le_of_lt h0)
    grind
  have g2 : room * (2 * s / (1 + s * s)) ≤ room := by
    have := Rat.mul_le_mul_of_nonneg_left b2 (Rat.le_of_lt h0)
    grind
  have q1 := Rat.mul_pos h0 p1
  have q2 := Rat.mul_pos h0 p2
  have ex := P.ex (prv n k) hp
  have ey := P.ey (prv n k) hp
  rw [nxt_prv hk] at ex ey
  have fx := P.ex k hk
  have fy := P.ey k hk
  have l0 := P.lp (prv n k) hp
  have l1 := P.lp k hk
  generalize room * third s (t k) = u at *
  generalize room * (2 * s / (1 + s * s)) = v at *
  have z1 : u / l (prv n k) * l (prv n k) = u := Rat.div_mul_cancel (by grind)
  have z2 : v / l k * l k = v := Rat.div_mul_cancel (by grind)
  have lt1 : ∀ {a b : Rat}, 0 < b → a / b * b < b → a / b < 1 := fun {a b} hb h => by
    refine Rat.not_le.mp fun z => ?_
    have := Rat.mul_le_mul_of_nonneg_right z (Rat.le_of_lt hb)
    grind
  refine cc_cut hn hk C (q_div q1 l0) (lt1 l0 (by rw [z1]; grind)) ?_ ?_ (q_div q2 l1) (lt1 l1 (by rw [z2]; grind)) ?_ ?_
  · generalize u / l (prv n k) = w at *
    grind
  · generalize u / l (prv n k) = w at *
    grind
  · generalize v / l k = w at *
    grind
  · generalize v / l k = w at *
    grind
/-! ### a polygon after j cuts, its sizes -/
def mM : Nat → Nat | 0 => 144 | j + 1 => 9 * mM j * mM j
def mW : Nat → Nat | 0 => 20992 | j + 1 => mW j * (41 * (mM j * mM j))
def mE : Nat → Nat | 0 => 20992 | j + 1 => mE j * (410 * (mM j * mM j) * (mM j * mM j))
def PS (j n : Nat) (c d : Nat → Rat) : Prop := ∃ (x y l t : Nat → Rat) (W E : Int), PolI n c d x y l t ∧ PolS n c d x y l t W E (mM j) ∧ PolB n c d l ∧ W ≤ mW j ∧ E ≤ mE j ∧ CC n c d
theorem mM_le {j : Nat} (h : j ≤ 5) : mM j < 2 ^ 330 := by
  match j, h with
  | 0, _ => decide +kernel
  | 1, _ => decide +kernel
  | 2, _ => decide +kernel
  | 3, _ => decide +kernel
  | 4, _ => decide +kernel
  | 5, _ => decide +kernel
  | j + 6, h => omega
theorem mW_le {j : Nat} (h : j ≤ 5) : mW j < 2 ^ 660 := by
  match j, h with
  | 0, _ => decide +kernel
  | 1, _ => decide +kernel
  | 2, _ => decide +kernel
  | 3, _ => decide +kernel
  | 4, _ => decide +kernel
  | 5, _ => decide +kernel
  | j + 6, h => omega
theorem mE_le {j : Nat} (h : j ≤ 5) : mE j < 2 ^ 1290 := by
  match j, h with
  | 0, _ => decide +kernel
  | 1, _ => decide +kernel
  | 2, _ => decide +kernel
  | 3, _ => decide +kernel
  | 4, _ => decide +kernel
  | 5, _ => decide +kernel
  | j + 6, h => omega
theorem mWE_le {j : Nat} (h : j ≤ 6) : mW j * mE j < 2 ^ 3912 := by
  match j, h with
  | 0, _ => decide +kernel
  | 1, _ => decide +kernel
  | 2, _ => decide +kernel
  | 3, _ => decide +kernel
  | 4, _ => decide +kernel
  | 5, _ => decide +kernel
  | 6, _ => decide +kernel
  | j + 7, h => omega
theorem bt_up {k n : Nat} {x : Int} (h0 : 0 < x) (h1 : x ≤ n) (h2 : n < 2 ^ k) : Bt k x := bt_def.mpr (by omega)
/-- a point with known parts, between -4 and 4 -/
def PtB (D : Int) (a b : Rat) : Prop := IsI a D ∧ IsI b D ∧ (a ≤ 4 ∧ -4 ≤ a) ∧ b ≤ 4 ∧ -4 ≤ b
theorem PS.out {j n : Nat} {c d : Nat → Rat} (h : PS j n c d) (hj : j ≤ 6) : ∃ D : Int, 0 < D ∧ Bt 3912 D ∧ ∀ i, i < n → PtB D (c i) (d i) := by
  obtain ⟨x, y, l, t, W, E, P, S, B, hW, hE, _⟩ := h
  have w0 := S.wp
  have e0 := S.ep
  refine ⟨W * E, Int.mul_pos w0 e0, bt_up (Int.mul_pos w0 e0) (n := mW j * mE j) ?_ (mWE_le hj), fun i hi => ⟨S.ci i hi, S.di i hi, ⟨B.c1 i hi, B.c2 i hi⟩, B.d1 i hi, B.d2 i hi⟩⟩
  have := Int.mul_le_mul hW hE (Int.le_of_lt e0) (by omega)
  rw [Int.natCast_mul]
  exact this
theorem ps_step {j n k : Nat} {c d : Nat → Rat} {m : Int} (hj : j ≤ 5) (hn : 3 ≤ n) (hk : k < n) (hm : 1 ≤ m ∧ m ≤ 4) (h : PS j n c d) :
    ∃ x' y' x y l' l t s r0 r1 co si th lm room : Rat, CutOk (c k) (d k) (c (prv n k)) (d (prv n k)) (c (nxt n k)) (d (nxt n k)) x' y' x y l' l t ((m : Rat) / 5) s r0 r1 co si th lm room ∧
      PS (j + 1) (n + 1) (ins2 k c (c k + -x' * (room * th)) (c k + x * (room * r1))) (ins2 k d (d k + -y' * (room * th)) (d k + y * (room * r1))) := by
  obtain ⟨x, y, l, t, W, E, P, S, B, hW, hE, CC0⟩ := h
  have bW : Bt 660 W := bt_up S.wp hW (mW_le hj)
  have bE : Bt 1290 E := bt_up S.ep hE (mE_le hj)
  have bM : Bt 330 (mM j : Int) := bt_def.mpr (by have := mM_le hj; omega)
  have ok := cut_ok hm hk P S B bW bE bM (a := c k) (b := d k) (a1 := c (prv n k)) (b1 := d (prv n k)) (a2 := c (nxt n k)) (b2 := d (nxt n k)) (p := (m : Rat) / 5) rfl rfl rfl rfl rfl rfl rfl
  have es : t k * ((m : Rat) / 5) = (m : Rat) / 5 * t k := Rat.mul_comm _ _
  have hl : (if l k < l (prv n k) then l k else l (prv n k)) = l (prv n k) ∨ (if l k < l (prv n k) then l k else l (prv n k)) = l k := by split <;> simp
  have er : (if l k < l (prv n k) then l k else l (prv n k)) * ((m : Rat) / 5) = (m : Rat) / 5 * (if l k < l (prv n k) then l k else l (prv n k)) := Rat.mul_comm _ _
  have p0 : (0 : Rat) < (m : Rat) / 5 := q_div (Rat.intCast_pos.mpr (by omega)) (by decide)
  have p1 : (m : Rat) / 5 < 1 := by
    have : (m : Rat) ≤ ((4 : Int) : Rat) := Rat.intCast_le_intCast.mpr hm.2
    rw [show ((4 : Int) : Rat) = 4 from rfl] at this
    grind
  have l0 := P.lp (prv n k) (prv_lt hk)
  have l1 := P.lp k hk
  obtain ⟨lm, hlm⟩ : ∃ q, q = if l k < l (prv n k) then l k else l (prv n k) := ⟨_, rfl⟩
  rw [← hlm] at ok hl er
  have lm0 : 0 < lm := by rw [hlm]; split <;> assumption
  have lm1 : lm ≤ l (prv n k) := by rw [hlm]; split <;> grind
  have lm2 : lm ≤ l k := by rw [hlm]; split <;> grind
  have rm : lm * ((m : Rat) / 5) < lm := by
    have := Rat.mul_lt_mul_of_pos_left p1 lm0
    grind
  have rm0 : 0 < lm * ((m : Rat) / 5) := Rat.mul_pos lm0 p0
  obtain ⟨r, W', E', h0, h1, h2, h3, h4, S'⟩ := pols_cut hm hk P S hl es er
  have P' := pol_cut hn hk P h0 h1 h2 rm0 (by grind) (by grind)
  have B' := polb_cut hn hk P B h0 h1 h2 rm0 (by grind) (by grind)
  have CC' := cc_pol hn hk P CC0 h0 h1 h2 rm0 (by grind) (by grind)
  generalize lm * ((m : Rat) / 5) = room at *
  refine ⟨_, _, _, _, _, _, _, _, _, _, _, _, _, _, _, ok, ?_⟩
  have q1 : c k + -x (prv n k) * (room * third (t k * (↑m / 5)) (t k)) = c k - room * third (t k * (↑m / 5)) (t k) * x (prv n k) := by grind
  have q2 : d k + -y (prv n k) * (room * third (t k * (↑m / 5)) (t k)) = d k - room * third (t k * (↑m / 5)) (t k) * y (prv n k) := by grind
  have q3 : c k + x k * (room * (2 * (t k * (↑m / 5)) / (1 + t k * (↑m / 5) * (t k * (↑m / 5))))) = c k + room * (2 * (t k * (↑m / 5)) / (1 + t k * (↑m / 5) * (t k * (↑m / 5)))) * x k := by grind
  have q4 : d k + y k * (room * (2 * (t k * (↑m / 5)) / (1 + t k * (↑m / 5) * (t k * (↑m / 5))))) = d k + room * (2 * (t k * (↑m / 5)) / (1 + t k * (↑m / 5) * (t k * (↑m / 5)))) * y k := by grind
  rw [q1, q2, q3, q4]
  refine ⟨_, _, _, _, W', E', P', S', B', ?_, ?_, CC'⟩
  · have := Int.mul_le_mul_of_nonneg_right hW (show (0 : Int) ≤ 41 * (mM j * mM j) by exact_mod_cast Nat.zero_le _)
    show W' ≤ ((mW j * (41 * (mM j * mM j)) : Nat) : Int)
    simp only [Int.natCast_mul]
    exact Int.le_trans h3 this
  · have := Int.mul_le_mul_of_nonneg_right hE (show (0 : Int) ≤ 410 * (mM j * mM j) * (mM j * mM j) by exact_mod_cast Nat.zero_le _)
    show E' ≤ ((mE j * (410 * (mM j * mM j) * (mM j * mM j)) : Nat) : Int)
    simp only [Int.natCast_mul]
    exact Int.le_trans h4 this

/-! ### the polygons at the start -/
def tri (a b c : Rat) : Nat → Rat | 0 => a | 1 => b | _ => c
def quad (a b c d : Rat) : Nat → Rat | 0 => a | 1 => b | 2 => c | _ => d
theorem all3 {p : Nat → Prop} (h0 : p 0) (h1 : p 1) (h2 : p 2) : ∀ i, i < 3 → p i := fun i hi => by
  match i, hi with
  | 0, _ => exact h0
  | 1, _ => exact h1
  | 2, _ => exact h2
theorem cc3 {c d : Nat → Rat} (h : 0 < orI c d 0 1 2) : CC 3 c d := fun i j k hij hjk hk => by
  have e1 : k = 2 := by omega
  have e2 : j = 1 := by omega
  have e3 : i = 0 := by omega
  subst e1 e2 e3
  exact h
theorem cc4 {c d : Nat → Rat} (h1 : 0 < orI c d 0 1 2) (h2 : 0 < orI c d 0 1 3) (h3 : 0 < orI c d 0 2 3) (h4 : 0 < orI c d 1 2 3) : CC 4 c d := fun i j k hij hjk hk => by
  rcases (show (i = 0 ∧ j = 1 ∧ k = 2) ∨ (i = 0 ∧ j = 1 ∧ k = 3) ∨ (i = 0 ∧ j = 2 ∧ k = 3) ∨ (i = 1 ∧ j = 2 ∧ k = 3) by omega) with ⟨rfl, rfl, rfl⟩ | ⟨rfl, rfl, rfl⟩ | ⟨rfl, rfl, rfl⟩ | ⟨rfl, rfl, rfl⟩ <;> assumption
theorem all4 {p : Nat → Prop} (h0 : p 0) (h1 : p 1) (h2 : p 2) (h3 : p 3) : ∀ i, i < 4 → p i := fun i hi => by
  match i, hi with
  | 0, _ => exact h0
  | 1, _ => exact h1
  | 2, _ => exact h2
  | 3, _ => exact h3
theorem nx30 : nxt 3 0 = 1 := rfl
theorem nx31 : nxt 3 1 = 2 := rfl
theorem nx32 : nxt 3 2 = 0 := rfl
theorem pv30 : prv 3 0 = 2 := rfl
theorem pv31 : prv 3 1 = 0 := rfl
theorem pv32 : prv 3 2 = 1 := rfl
/-- sine and cosine by the tangent of half the angle -/
def sn (f : Rat) : Rat := 2 * f / (1 + f * f)
def cn (f : Rat) : Rat := (1 - f * f) / (1 + f * f)
theorem sc_unit {f : Rat} (h : 0 < f) : cn f * cn f + sn f * sn f = 1 := by
  have := q_ne h
  unfold sn cn
  grind
theorem int_isI (z D : Int) : IsI (z : Rat) D := ⟨z * D, by rw [Rat.intCast_mul]⟩
theorem q_dd {a u v : Rat} (hu : u ≠ 0) (hv : v ≠ 0) : a / 5 / (u / v) = a * v / (5 * u) := by
  have : (5 : Rat) * u ≠ 0 := by grind
  have : u / v ≠ 0 := by grind
  grind
theorem q_ii {u v : Rat} (hu : u ≠ 0) (hv : v ≠ 0) : 1 / (u / v) = v / u := by
  have : u / v ≠ 0 := by grind
  grind
theorem inv_ne {f : Rat} (hf : f ≠ 0) (h : 1 + f * f ≠ 0) : 1 + 1 / f * (1 / f) ≠ 0 := fun z => h (by grind)
theorem rt_a1 {f : Rat} (hf : f ≠ 0) (h : 1 + f * f ≠ 0) : rotX (1 / f) (-cn f) (-sn f) = 1 := by
  have h3 := inv_ne hf h
  unfold rotX sn cn
  grind
theorem rt_a2 {f : Rat} (hf : f ≠ 0) (h : 1 + f * f ≠ 0) : rotY (1 / f) (-cn f) (-sn f) = 0 := by
  have h3 := inv_ne hf h
  unfold rotY sn cn
  grind
theorem rt_b1 {f : Rat} (hf : f ≠ 0) (h : 1 + f * f ≠ 0) : rotX (1 / f) 1 0 = -cn f := by
  have h3 := inv_ne hf h
  unfold rotX cn
  grind
theorem rt_b2 {f : Rat} (hf : f ≠ 0) (h : 1 + f * f ≠ 0) : rotY (1 / f) 1 0 = sn f := by
  have h3 := inv_ne hf h
  unfold rotY sn
  grind
theorem rt_c0 {f g : Rat} (hf : 1 + f * f ≠ 0) (hg : 1 + g * g ≠ 0) (hp : 1 - f * g ≠ 0) : 1 + (f + g) / (1 - f * g) * ((f + g) / (1 - f * g)) ≠ 0 := fun z => q_mul hf hg (by grind)
theorem rt_c1 {f g : Rat} (hf : 1 + f * f ≠ 0) (hg : 1 + g * g ≠ 0) (hp : 1 - f * g ≠ 0) : rotX ((f + g) / (1 - f * g)) (-cn g) (sn g) = -cn f := by
  have h := q_mul hf hg
  have h3 := rt_c0 hf hg hp
  have e : ((1 - f * g) * (1 - f * g) - (f + g) * (f + g)) / ((1 + f * f) * (1 + g * g)) = (1 - (f + g) / (1 - f * g) * ((f + g) / (1 - f * g))) / (1 + (f + g) / (1 - f * g) * ((f + g) / (1 - f * g))) := by grind
  have e2 : 2 * (f + g) * (1 - f * g) / ((1 + f * f) * (1 + g * g)) = 2 * ((f + g) / (1 - f * g)) / (1 + (f + g) / (1 - f * g) * ((f + g) / (1 - f * g))) := by grind
  unfold rotX
  generalize (f + g) / (1 - f * g) = q at *
  rw [show (-cn g * (1 - q * q) - sn g * (2 * q)) / (1 + q * q) = -cn g * ((1 - q * q) / (1 + q * q)) - sn g * (2 * q / (1 + q * q)) by grind, ← e, ← e2]
  unfold sn cn
  clear e e2 h3
  grind
theorem rt_c2 {f g : Rat} (hf : 1 + f * f ≠ 0) (hg : 1 + g * g ≠ 0) (hp : 1 - f * g ≠ 0) : rotY ((f + g) / (1 - f * g)) (-cn g) (sn g) = -sn f := by
  have h := q_mul hf hg
  have h3 := rt_c0 hf hg hp
  have e : ((1 - f * g) * (1 - f * g) - (f + g) * (f + g)) / ((1 + f * f) * (1 + g * g)) = (1 - (f + g) / (1 - f * g) * ((f + g) / (1 - f * g))) / (1 + (f + g) / (1 - f * g) * ((f + g) / (1 - f * g))) := by grind
  have e2 : 2 * (f + g) * (1 - f * g) / ((1 + f * f) * (1 + g * g)) = 2 * ((f + g) / (1 - f * g)) / (1 + (f + g) / (1 - f * g) * ((f + g) / (1 - f * g))) := by grind
  unfold rotY
  generalize (f + g) / (1 - f * g) = q at *
  rw [show (-cn g * (2 * q) + sn g * (1 - q * q)) / (1 + q * q) = -cn g * (2 * q / (1 + q * q)) + sn g * ((1 - q * q) / (1 + q * q)) by grind, ← e, ← e2]
  unfold sn cn
  clear e e2 h3
  grind
theorem ps_tri {u v m : Int} {f p g : Rat} (hu : 1 ≤ u ∧ u ≤ 4) (hv : 1 ≤ v ∧ v ≤ 4) (hm : 1 ≤ m ∧ m ≤ 4) (ef : f = (u : Rat) / (v : Rat)) (ep : p = (m : Rat) / 5) (eg : g = p / f) :
    PS 0 3 (tri 0 (sn f * cn g + cn f * sn g) (cn f * sn g)) (tri 0 0 (sn f * sn g)) := by
  have u0 : (0 : Rat) < u := Rat.intCast_pos.mpr (by omega)
  have v0 : (0 : Rat) < v := Rat.intCast_pos.mpr (by omega)
  have m0 : (0 : Rat) < m := Rat.intCast_pos.mpr (by omega)
  have f0 : 0 < f := by rw [ef]; exact q_div u0 v0
  have p0 : 0 < p := by rw [ep]; exact q_div m0 (by decide)
  have g0 : 0 < g := by rw [eg]; exact q_div p0 f0
  have p1 : p < 1 := by
    have : (m : Rat) ≤ ((4 : Int) : Rat) := Rat.intCast_le_intCast.mpr hm.2
    rw [show ((4 : Int) : Rat) = 4 from rfl] at this
    rw [ep]
    grind
  have fg : f * g = p := by
    have : f ≠ 0 := by grind
    rw [eg]
    grind
  have hf := q_ne f0
  have hg := q_ne g0
  have uf := sc_unit f0
  have ug := sc_unit g0
  have sf : 0 < sn f := sin_pos f0
  have sg : 0 < sn g := sin_pos g0
  have th : sn f * cn g + cn f * sn g = 2 * (f + g) * (1 - p) / ((1 + f * f) * (1 + g * g)) := by
    have := q_mul hf hg
    rw [← fg]
    unfold sn cn
    grind
  have t0 : 0 < sn f * cn g + cn f * sn g := by
    rw [th]
    exact q_div (Rat.mul_pos (Rat.mul_pos (by decide) (by grind)) (by grind)) (Rat.mul_pos (q_pos f0) (q_pos g0))
  have tu : (sn f * cn g + cn f * sn g) * (sn f * cn g + cn f * sn g) + (cn f * cn g - sn f * sn g) * (cn f * cn g - sn f * sn g) = 1 := by grind
  have n1 : f ≠ 0 := by grind
  have n2 : g ≠ 0 := by grind
  have n3 : 1 - p ≠ 0 := by grind
  have d2 : 0 < (f + g) / (1 - p) := q_div (by grind) (by grind)
  have bu := unit_le tu
  have b1 := unit_le uf
  have b2 := unit_le (x := sn f) (y := cn f) (by grind)
  have b3 := unit_le ug
  have b4 := unit_le (x := sn g) (y := cn g) (by grind)
  have c1 := lx_le sg (by grind) b1.1 b1.2
  have c2 := lx_le sg (by grind) b2.1 b2.2
  have cs : sn g * cn f = cn f * sn g := Rat.mul_comm _ _
  have ss : sn g * sn f = sn f * sn g := Rat.mul_comm _ _
  rw [cs] at c1
  rw [ss] at c2
  have v1 : v ≠ 0 := by omega
  obtain ⟨i1, i2⟩ := sinI v1 ef f0
  have eg2 : g = ((m * v : Int) : Rat) / ((5 * u : Int) : Rat) := by
    have h1 : (u : Rat) ≠ 0 := by grind
    have h2 : (v : Rat) ≠ 0 := by grind
    rw [eg, ef, ep, Rat.intCast_mul, Rat.intCast_mul, show ((5 : Int) : Rat) = 5 from rfl]
    exact q_dd h1 h2
  obtain ⟨i3, i4⟩ := sinI (a := m * v) (b := 5 * u) (by omega) eg2 g0
  have A0 : 0 < u * u + v * v := by
    have := Int.mul_pos (show 0 < u by omega) (show 0 < u by omega)
    have := Int.mul_pos (show 0 < v by omega) (show 0 < v by omega)
    omega
  have mv := Int.mul_pos (show 0 < m by omega) (show 0 < v by omega)
  have G0 : 0 < m * v * (m * v) + 5 * u * (5 * u) := by
    have := Int.mul_pos mv mv
    have := Int.mul_pos (show 0 < 5 * u by omega) (show 0 < 5 * u by omega)
    omega
  have W0 := Int.mul_pos A0 G0
  have big : (u * u + v * v) * (m * v * (m * v) + 5 * u * (5 * u)) ≤ 20992 := by
    have a1 : u * u ≤ 4 * 4 := Int.mul_le_mul hu.2 hu.2 (by omega) (by omega)
    have a2 : v * v ≤ 4 * 4 := Int.mul_le_mul hv.2 hv.2 (by omega) (by omega)
    have a3 : m * v ≤ 4 * 4 := Int.mul_le_mul hm.2 hv.2 (by omega) (by omega)
    have a4 : m * v * (m * v) ≤ 16 * 16 := Int.mul_le_mul a3 a3 (by omega) (by omega)
    have a5 : 5 * u * (5 * u) ≤ 20 * 20 := Int.mul_le_mul (by omega) (by omega) (by omega) (by omega)
    have := Int.mul_le_mul (show u * u + v * v ≤ 32 by omega) (show m * v * (m * v) + 5 * u * (5 * u) ≤ 656 by omega) (by omega) (by omega)
    omega
  have j1 : IsI (sn f) ((u * u + v * v) * (m * v * (m * v) + 5 * u * (5 * u))) := i1.up _
  have j2 : IsI (cn f) ((u * u + v * v) * (m * v * (m * v) + 5 * u * (5 * u))) := i2.up _
  have j3 : IsI (sn g) ((u * u + v * v) * (m * v * (m * v) + 5 * u * (5 * u))) := i3.upL _
  have j4 : IsI (cn g) ((u * u + v * v) * (m * v * (m * v) + 5 * u * (5 * u))) := i4.upL _
  have k1 : IsI (sn f * cn g) ((u * u + v * v) * (m * v * (m * v) + 5 * u * (5 * u))) := i1.mul i4
  have k2 : IsI (cn f * sn g) ((u * u + v * v) * (m * v * (m * v) + 5 * u * (5 * u))) := i2.mul i3
  have k3 : IsI (sn f * sn g) ((u * u + v * v) * (m * v * (m * v) + 5 * u * (5 * u))) := i1.mul i3
  have ng : ∀ {q : Rat} {D : Int}, IsI q D → IsI (-q) D := fun {q D} h => by
    have := (int_isI 0 D).sub h
    rw [Rat.intCast_zero] at this
    rw [show -q = 0 - q by grind]
    exact this
  have z0 : ∀ D : Int, IsI 0 D := fun D => by have := int_isI 0 D; rw [Rat.intCast_zero] at this; exact this
  have z1 : ∀ D : Int, IsI 1 D := fun D => by have := int_isI 1 D; rw [Rat.intCast_one] at this; exact this
  generalize hW : (u * u + v * v) * (m * v * (m * v) + 5 * u * (5 * u)) = W at *
  refine ⟨tri 1 (-cn g) (-cn f), tri 0 (sn g) (-sn f), tri (sn f * cn g + cn f * sn g) (sn f) (sn g), tri (1 / f) (1 / g) ((f + g) / (1 - p)), W, W, ?_, ?_, ?_, big, big, cc3 (by show 0 < orr 0 0 (sn f * cn g + cn f * sn g) 0 (cn f * sn g) (sn f * sn g); have := Rat.mul_pos t0 (Rat.mul_pos sf sg); unfold orr; grind)⟩
  · refine ⟨all3 ?_ ?_ ?_, all3 t0 sf sg, all3 (q_div (by decide) f0) (q_div (by decide) g0) d2, all3 ?_ ?_ ?_, all3 ?_ ?_ ?_, all3 ?_ ?_ ?_, all3 ?_ ?_ ?_⟩
    · show (1 : Rat) * 1 + 0 * 0 = 1
      grind
    · show -cn g * -cn g + sn g * sn g = 1
      grind
    · show -cn f * -cn f + -sn f * -sn f = 1
      grind
    · show sn f * cn g + cn f * sn g = 0 + (sn f * cn g + cn f * sn g) * 1
      grind
    · show cn f * sn g = sn f * cn g + cn f * sn g + sn f * -cn g
      grind
    · show 0 = cn f * sn g + sn g * -cn f
      grind
    · show 0 = 0 + (sn f * cn g + cn f * sn g) * 0
      grind
    · show sn f * sn g = 0 + sn f * sn g
      grind
    · show 0 = sn f * sn g + sn g * -sn f
      grind
    · exact (rt_a1 n1 hf).symm
    · exact (rt_b1 n2 hg).symm
    · show -cn f = rotX ((f + g) / (1 - p)) (-cn g) (sn g)
      rw [← fg] at n3 ⊢
      exact (rt_c1 hf hg n3).symm
    · exact (rt_a2 n1 hf).symm
    · exact (rt_b2 n2 hg).symm
    · show -sn f = rotY ((f + g) / (1 - p)) (-cn g) (sn g)
      rw [← fg] at n3 ⊢
      exact (rt_c2 hf hg n3).symm
  · refine ⟨W0, W0, all3 (z1 _) (ng j4) (ng j2), all3 (z0 _) j3 (ng j1), all3 (k1.add k2) j1 j3, all3 (z0 _) ((k1.add k2).up _) (k2.up _), all3 (z0 _) (z0 _) (k3.up _), all3 ?_ ?_ ?_⟩
    · refine ⟨v, u, ?_, by omega, by show v ≤ 144; omega, by omega, by show u ≤ 144; omega⟩
      show 1 / f = _
      rw [ef]
      exact q_ii (by grind) (by grind)
    · refine ⟨5 * u, m * v, ?_, by omega, by show 5 * u ≤ 144; omega, mv, ?_⟩
      · show 1 / g = _
        rw [eg2]
        have h1 : ((m * v : Int) : Rat) ≠ 0 := i_ne (by omega)
        have h2 : ((5 * u : Int) : Rat) ≠ 0 := i_ne (by omega)
        exact q_ii h1 h2
      · show m * v ≤ 144
        have a3 : m * v ≤ 4 * 4 := Int.mul_le_mul hm.2 hv.2 (by omega) (by omega)
        omega
    · have uu := Int.mul_pos (show 0 < u by omega) (show 0 < u by omega)
      have vv := Int.mul_pos (show 0 < v by omega) (show 0 < v by omega)
      have uv := Int.mul_pos (show 0 < u by omega) (show 0 < v by omega)
      have mvv := Int.mul_pos (show 0 < m by omega) vv
      have a1 : u * u ≤ 4 * 4 := Int.mul_le_mul hu.2 hu.2 (by omega) (by omega)
      have a2 : v * v ≤ 4 * 4 := Int.mul_le_mul hv.2 hv.2 (by omega) (by omega)
      have a3 : u * v ≤ 4 * 4 := Int.mul_le_mul hu.2 hv.2 (by omega) (by omega)
      have a4 : m * (v * v) ≤ 4 * 16 := Int.mul_le_mul hm.2 a2 (by omega) (by omega)
      have a5 : u * v * (5 - m) ≤ 16 * 4 := Int.mul_le_mul a3 (by omega) (by omega) (by omega)
      refine ⟨5 * (u * u) + m * (v * v), u * v * (5 - m), ?_, by omega, by show 5 * (u * u) + m * (v * v) ≤ 144; omega, Int.mul_pos uv (by omega), by show u * v * (5 - m) ≤ 144; omega⟩
      show (f + g) / (1 - p) = _
      have h1 : (u : Rat) ≠ 0 := by grind
      have h2 : (v : Rat) ≠ 0 := by grind
      have h3 : (5 : Rat) - m ≠ 0 := by
        rw [ep] at n3
        grind
      rw [eg, ef, ep, Rat.intCast_add, Rat.intCast_mul, Rat.intCast_mul, Rat.intCast_mul, Rat.intCast_mul, Rat.intCast_mul, Rat.intCast_mul, Rat.intCast_sub, show ((5 : Int) : Rat) = 5 from rfl]
      have h4 : (u : Rat) * v ≠ 0 := q_mul h1 h2
      have h5 : (u : Rat) * v * (5 - m) ≠ 0 := q_mul h4 h3
      have h6 : (1 : Rat) - m / 5 ≠ 0 := by grind
      have h7 : (u : Rat) / v ≠ 0 := by rw [← ef]; exact n1
      clear hW
      grind
  · have l14 : ∀ {q : Rat}, q ≤ 1 → q ≤ 4 := fun h => Rat.le_trans h (by decide)
    have l15 : ∀ {q : Rat}, 0 < q → -4 ≤ q := fun h => Rat.le_trans (by decide) (Rat.le_of_lt h)
    have y0 : (0 : Rat) ≤ 4 := by decide
    have y1 : (-4 : Rat) ≤ 0 := by decide
    exact ⟨all3 y0 (l14 bu.1) c1.1, all3 y1 (l15 t0) c1.2, all3 y0 y0 c2.1, all3 y1 y1 c2.2, all3 (l14 bu.1) (l14 b2.1) (l14 b4.1)⟩

theorem rt_d1 {f : Rat} (h : 1 + f * f ≠ 0) : rotX f 1 0 = cn f := by
  unfold rotX cn
  grind
theorem rt_d2 {f : Rat} (h : 1 + f * f ≠ 0) : rotY f 1 0 = sn f := by
  unfold rotY sn
  grind
theorem rt_e1 {f : Rat} (hf : f ≠ 0) (h : 1 + f * f ≠ 0) : rotX (1 / f) (cn f) (sn f) = -1 := by
  have h3 := inv_ne hf h
  unfold rotX sn cn
  grind
theorem rt_e2 {f : Rat} (hf : f ≠ 0) (h : 1 + f * f ≠ 0) : rotY (1 / f) (cn f) (sn f) = 0 := by
  have h3 := inv_ne hf h
  unfold rotY sn cn
  grind
theorem rt_f1 {f : Rat} (h : 1 + f * f ≠ 0) : rotX f (-1) 0 = -cn f := by
  unfold rotX cn
  grind
theorem rt_f2 {f : Rat} (h : 1 + f * f ≠ 0) : rotY f (-1) 0 = -sn f := by
  unfold rotY sn
  grind
theorem quad1 {p q s c : Rat} (hp : 0 < p) (hq : 0 < q) (hs : 0 < s) : 0 < orr 0 0 p 0 (p + c * q) (0 + s * q) ∧ 0 < orr 0 0 p 0 (c * q) (s * q) ∧ 0 < orr 0 0 (p + c * q) (0 + s * q) (c * q) (s * q) ∧ 0 < orr p 0 (p + c * q) (0 + s * q) (c * q) (s * q) := by
  have := Rat.mul_pos hp (Rat.mul_pos hs hq)
  unfold orr
  refine ⟨?_, ?_, ?_, ?_⟩ <;> grind
theorem ps_quad {u v m a b : Int} {f p q : Rat} (hu : 1 ≤ u ∧ u ≤ 4) (hv : 1 ≤ v ∧ v ≤ 4) (hm : 1 ≤ m ∧ m ≤ 4) (ha : 1 ≤ a ∧ a ≤ 3) (hb : 1 ≤ b ∧ b ≤ 3) (ef : f = (u : Rat) / (v : Rat)) (ep : p = (m : Rat) / 5) (eq : q = (a : Rat) / (b : Rat)) :
    PS 0 4 (quad 0 p (p + cn f * q) (cn f * q)) (quad 0 0 (0 + sn f * q) (sn f * q)) := by
  have u0 : (0 : Rat) < u := Rat.intCast_pos.mpr (by omega)
  have v0 : (0 : Rat) < v := Rat.intCast_pos.mpr (by omega)
  have m0 : (0 : Rat) < m := Rat.intCast_pos.mpr (by omega)
  have a0 : (0 : Rat) < a := Rat.intCast_pos.mpr (by omega)
  have b0 : (0 : Rat) < b := Rat.intCast_pos.mpr (by omega)
  have f0 : 0 < f := by rw [ef]; exact q_div u0 v0
  have p0 : 0 < p := by rw [ep]; exact q_div m0 (by decide)
  have q0 : 0 < q := by rw [eq]; exact q_div a0 b0
  have p1 : p ≤ 1 := by
    have : (m : Rat) ≤ ((4 : Int) : Rat) := Rat.intCast_le_intCast.mpr hm.2
    rw [show ((4 : Int) : Rat) = 4 from rfl] at this
    rw [ep]
    grind
  have q3 : q ≤ 3 := by
    have h1 : (a : Rat) ≤ ((3 : Int) : Rat) := Rat.intCast_le_intCast.mpr ha.2
    have h2 : ((1 : Int) : Rat) ≤ b := Rat.intCast_le_intCast.mpr hb.1
    rw [show ((3 : Int) : Rat) = 3 from rfl] at h1
    rw [show ((1 : Int) : Rat) = 1 from rfl] at h2
    have h3 : q * b = a := by
      rw [eq]
      exact Rat.div_mul_cancel (by grind)
    have := Rat.mul_le_mul_of_nonneg_left h2 (Rat.le_of_lt q0)
    grind
  have hf := q_ne f0
  have uf := sc_unit f0
  have sf : 0 < sn f := sin_pos f0
  have n1 : f ≠ 0 := by grind
  have b1 := unit_le uf
  have b2 := unit_le (x := sn f) (y := cn f) (by grind)
  have c1 : cn f * q ≤ 3 ∧ -3 ≤ cn f * q := by
    have h1 := Rat.mul_le_mul_of_nonneg_left b1.1 (Rat.le_of_lt q0)
    have h2 := Rat.mul_le_mul_of_nonneg_left b1.2 (Rat.le_of_lt q0)
    constructor <;> grind
  have c2 : sn f * q ≤ 3 ∧ -3 ≤ sn f * q := by
    have h1 := Rat.mul_le_mul_of_nonneg_left b2.1 (Rat.le_of_lt q0)
    have h2 := Rat.mul_le_mul_of_nonneg_left b2.2 (Rat.le_of_lt q0)
    constructor <;> grind
  have v1 : v ≠ 0 := by omega
  obtain ⟨i1, i2⟩ := sinI v1 ef f0
  have A0 : 0 < u * u + v * v := by
    have := Int.mul_pos (show 0 < u by omega) (show 0 < u by omega)
    have := Int.mul_pos (show 0 < v by omega) (show 0 < v by omega)
    omega
  have A1 : u * u + v * v ≤ 20992 := by
    have a1 : u * u ≤ 4 * 4 := Int.mul_le_mul hu.2 hu.2 (by omega) (by omega)
    have a2 : v * v ≤ 4 * 4 := Int.mul_le_mul hv.2 hv.2 (by omega) (by omega)
    omega
  have j1 : IsI (sn f) (u * u + v * v) := i1
  have j2 : IsI (cn f) (u * u + v * v) := i2
  have k1 : IsI p (5 * b) := by
    have := (isI_div m 5 (by decide)).up b
    rw [ep]
    exact this
  have k2 : IsI q (5 * b) := by
    have := (isI_div a b (by omega)).upL 5
    rw [eq]
    exact this
  have ng : ∀ {q : Rat} {D : Int}, IsI q D → IsI (-q) D := fun {q D} h => by
    have := (int_isI 0 D).sub h
    rw [Rat.intCast_zero] at this
    rw [show -q = 0 - q by grind]
    exact this
  have z0 : ∀ D : Int, IsI 0 D := fun D => by have := int_isI 0 D; rw [Rat.intCast_zero] at this; exact this
  have z1 : ∀ D : Int, IsI 1 D := fun D => by have := int_isI 1 D; rw [Rat.intCast_one] at this; exact this
  have k3 : IsI p ((u * u + v * v) * (5 * b)) := k1.upL _
  have k4 : IsI (cn f * q) ((u * u + v * v) * (5 * b)) := j2.mul k2
  have k5 : IsI (sn f * q) ((u * u + v * v) * (5 * b)) := j1.mul k2
  refine ⟨quad 1 (cn f) (-1) (-cn f), quad 0 (sn f) 0 (-sn f), quad p q p q, quad (1 / f) f (1 / f) f, u * u + v * v, 5 * b, ?_, ?_, ?_, A1, by show 5 * b ≤ 20992; omega, cc4 (quad1 p0 q0 sf).1 (quad1 p0 q0 sf).2.1 (quad1 p0 q0 sf).2.2.1 (quad1 p0 q0 sf).2.2.2⟩
  · refine ⟨all4 ?_ uf ?_ ?_, all4 p0 q0 p0 q0, all4 (q_div (by decide) f0) f0 (q_div (by decide) f0) f0, all4 ?_ ?_ ?_ ?_, all4 ?_ ?_ ?_ ?_, all4 (rt_a1 n1 hf).symm (rt_d1 hf).symm (rt_e1 n1 hf).symm (rt_f1 hf).symm, all4 (rt_a2 n1 hf).symm (rt_d2 hf).symm (rt_e2 n1 hf).symm (rt_f2 hf).symm⟩
    · show (1 : Rat) * 1 + 0 * 0 = 1
      grind
    · show (-1 : Rat) * -1 + 0 * 0 = 1
      grind
    · show -cn f * -cn f + -sn f * -sn f = 1
      grind
    · show p = 0 + p * 1
      grind
    · show p + cn f * q = p + q * cn f
      grind
    · show cn f * q = p + cn f * q + p * -1
      grind
    · show 0 = cn f * q + q * -cn f
      grind
    · show 0 = 0 + p * 0
      grind
    · show 0 + sn f * q = 0 + q * sn f
      grind
    · show sn f * q = 0 + sn f * q + p * 0
      grind
    · show 0 = sn f * q + q * -sn f
      grind
  · refine ⟨A0, by omega, all4 (z1 _) j2 (ng (z1 _)) (ng j2), all4 (z0 _) j1 (z0 _) (ng j1), all4 k1 k2 k1 k2, all4 (z0 _) k3 (k3.add k4) k4, all4 (z0 _) (z0 _) ((z0 _).add k5) k5, ?_⟩
    have w1 : ∃ a b : Int, 1 / f = (a : Rat) / (b : Rat) ∧ 0 < a ∧ a ≤ (mM 0 : Int) ∧ 0 < b ∧ b ≤ (mM 0 : Int) := ⟨v, u, by rw [ef]; exact q_ii (by grind) (by grind), by omega, by show v ≤ 144; omega, by omega, by show u ≤ 144; omega⟩
    have w2 : ∃ a b : Int, f = (a : Rat) / (b : Rat) ∧ 0 < a ∧ a ≤ (mM 0 : Int) ∧ 0 < b ∧ b ≤ (mM 0 : Int) := ⟨u, v, ef, by omega, by show u ≤ 144; omega, by omega, by show v ≤ 144; omega⟩
    exact all4 w1 w2 w1 w2
  · have y0 : (0 : Rat) ≤ 4 := by decide
    have y1 : (-4 : Rat) ≤ 0 := by decide
    have y2 : p ≤ 4 := by grind
    have y3 : q ≤ 4 := by grind
    exact ⟨all4 y0 y2 (show p + cn f * q ≤ 4 by grind) (show cn f * q ≤ 4 by grind), all4 y1 (show -4 ≤ p by grind) (show -4 ≤ p + cn f * q by grind) (show -4 ≤ cn f * q by grind), all4 y0 y0 (show 0 + sn f * q ≤ 4 by grind) (show sn f * q ≤ 4 by grind), all4 y1 y1 (show -4 ≤ 0 + sn f * q by grind) (show -4 ≤ sn f * q by grind), all4 y2 y3 y2 y3⟩

/-! ### comprehensions whose items draw nothing -/
theorem w_lc {wi : TI} {g : TG} {tt : TT} {te : TE} {vs : List Nat} {σ : L2.St} {H : Hp} {Q : VK} (h : wi σ H fun J H1 => tLc (fun _ H' R => R J H') g tt te vs σ H1 Q) : tLc wi g tt te vs σ H Q := h
theorem same_updN {H H' : Hp} {p : Addr} {o : HO} (s : Same H H') (h : H p = none) : Same H (upd H' p o) := fun b u e => by
  rw [upd_ne (ne_of_none e h)]
  exact s b u e
/-- what a comprehension has made so far -/
def LcP (sa : Addr) (H : Hp) (D : Addr) (R : Nat → PyData → Prop) (i : Nat) (H' : Hp) : Prop := Same H H' ∧ ∃ ys es, H' D = some (.lst ys) ∧ Rps sa H' ys es ∧ es.length = i ∧ ∀ (k : Nat) (d : PyData), es[k]? = some d → R k d
theorem lcP0 {sa D : Addr} {H : Hp} {R : Nat → PyData → Prop} (nD : H D = none) : LcP sa H D R 0 (upd H D (.lst [])) := ⟨same_new nD, [], [], upd_same, .nil, rfl, fun k d e => by simp at e⟩
theorem lcPS {sa D : Addr} {H H4 : Hp} {R : Nat → PyData → Prop} (hR : ∀ i d, R i d → tupOnly d = true) {i : Nat} {y : V} {dy : PyData} {ys : List V} {es : List PyData} (nD : H D = none) (s : Same H H4) (h1 : H4 D = some (.lst ys)) (r : Rps sa H4 ys es) (hl : es.length = i) (ha : ∀ (k : Nat) (d : PyData), es[k]? = some d → R k d)
    (ry : Rp sa H4 y dy) (hy : R i dy) : LcP sa H D R (i + 1) (upd H4 D (.lst (ys ++ [y]))) := by
  have all : tupOnlys es = true := tupOnlys_all fun d hd => by
    obtain ⟨k, hk, e⟩ := List.getElem_of_mem hd
    exact hR k d (ha k d (by rw [List.getElem?_eq_getElem hk, e]))
  refine ⟨same_updN s nD, ys ++ [y], es ++ [dy], upd_same, (r.stay h1 all).app (.cons (ry.stay h1 (hR _ _ hy)) .nil), by rw [List.length_append, hl]; rfl, fun k d e => ?_⟩
  rcases Nat.lt_trichotomy k es.length with z | z | z
  · rw [List.getElem?_append_left z] at e
    exact ha k d e
  · rw [z, List.getElem?_append_right (Nat.le_refl _), Nat.sub_self] at e
    injection e with e
    subst e
    rw [z, hl]
    exact hy
  · rw [List.getElem?_eq_none (by rw [List.length_append]; simp; omega)] at e
    cases e
section
variable {b : Bool} {sa : Addr} {H0 H : Hp} {acc : List V} {dacc : List PyData} {Q : VK} {K : PySem.W.Frag} {j : Nat} {te : TE} {vs : List Nat} {σ : L2.St}
theorem lcp_done {R : Nat → PyData → Prop} {n : Nat} {D : Addr} {H' : Hp} (W : Wd b sa H0 H acc dacc) (nD : H D = none) (h : LcP sa H D R n H')
    (done : ∀ H' D es, Wd b sa H0 H' (.ref D :: acc) (.list es :: dacc) → es.length = n → (∀ (k : Nat) (d : PyData), es[k]? = some d → R k d) → Q (.ref D) H') : Q (.ref D) H' := by
  obtain ⟨s, ys, es, h1, r, hl, ha⟩ := h
  exact done H' D es ((W.go s).put (.lst (W.ne nD) h1 r)) hl ha
theorem lcp_list {p : Addr} {ds : List PyData} (W : Wd b sa H0 H acc dacc) (m : In2 (.ref p) (.list ds) acc dacc) (hl : ds.length ≤ 1000) (R : Nat → PyData → Prop) (hR : ∀ i d, R i d → tupOnly d = true) (hw : ∀ x, wipe ((wipe σ vs).set j (some x)) vs = wipe σ vs)
    (step : ∀ (i : Nat) x d H' Q', ds[i]? = some d → Wd false sa H' H' (x :: acc) (d :: dacc) → (∀ y H4 dy, Same H' H4 → Rp sa H4 y dy → R i dy → Q' y H4) → te ((wipe σ vs).set j (some x)) H' Q')
    (done : ∀ H' D es, Wd b sa H0 H' (.ref D :: acc) (.list es :: dacc) → es.length = ds.length → (∀ (k : Nat) (d : PyData), es[k]? = some d → R k d) → Q (.ref D) H') : tLc (fun _ H' R => R (Itl K p) H') (gName j) tYes te vs σ H Q := by
  cases W.get m with
  | @lst _ xs _ n hx r =>
  intro D nD
  have ll := r.lens
  refine lc_list (xs := xs) (LcP sa H D R) (lcP0 nD) (fun i H' hi hP => SqL.of (hP.1 _ _ hx)) (fun i x H' hi hP => ?_) (fun H' hP => ?_)
  · obtain ⟨s, ys, es, h1, r2, h3, h4⟩ := hP
    have hi2 : i < ds.length := by
      rw [← ll]
      exact (List.getElem?_eq_some_iff.mp hi).1
    obtain ⟨v, e1, r1⟩ := rps_at r (List.getElem?_eq_getElem hi2)
    rw [hi] at e1
    injection e1 with e1
    subst e1
    refine ⟨hw x, lcYes ?_⟩
    refine step i x _ H' _ (List.getElem?_eq_getElem hi2) ⟨But.refl _ _, fun _ => Same.refl _, fun e => (nomatch e), (let ⟨o, e⟩ := W.tr; ⟨o, s _ _ e⟩), .cons (r1.same s) (W.r.but s.but)⟩ fun y H4 dy s4 ry hy => ?_
    have e4 := s4 _ _ h1
    exact ⟨ys, e4, by rw [r2.lens, h3]; exact small1000 (by omega), lcPS hR nD (s.trans s4) e4 (r2.but s4.but) h3 h4 ry hy⟩
  · rw [ll] at hP
    exact lcp_done W nD hP done
theorem lcp_tup {p : Addr} {ds : List PyData} (W : Wd b sa H0 H acc dacc) (m : In2 (.ref p) (.tuple ds) acc dacc) (hl : ds.length ≤ 1000) (R : Nat → PyData → Prop) (hR : ∀ i d, R i d → tupOnly d = true) (hw : ∀ x, wipe ((wipe σ vs).set j (some x)) vs = wipe σ vs)
    (step : ∀ (i : Nat) x d H' Q', ds[i]? = some d → Wd false sa H' H' (x :: acc) (d :: dacc) → (∀ y H4 dy, Same H' H4 → Rp sa H4 y dy → R i dy → Q' y H4) → te ((wipe σ vs).set j (some x)) H' Q')
    (done : ∀ H' D es, Wd b sa H0 H' (.ref D :: acc) (.list es :: dacc) → es.length = ds.length → (∀ (k : Nat) (d : PyData), es[k]? = some d → R k d) → Q (.ref D) H') : tLc (fun _ H' R => R (Itt K p) H') (gName j) tYes te vs σ H Q := by
  cases W.get m with
  | @tup _ xs _ n hx r =>
  intro D nD
  have ll := r.lens
  refine lc_tup (xs := xs) (LcP sa H D R) (lcP0 nD) (fun i H' hi hP => SqT.of (hP.1 _ _ hx)) (fun i x H' hi hP => ?_) (fun H' hP => ?_)
  · obtain ⟨s, ys, es, h1, r2, h3, h4⟩ := hP
    have hi2 : i < ds.length := by
      rw [← ll]
      exact (List.getElem?_eq_some_iff.mp hi).1
    obtain ⟨v, e1, r1⟩ := rps_at r (List.getElem?_eq_getElem hi2)
    rw [hi] at e1
    injection e1 with e1
    subst e1
    refine ⟨hw x, lcYes ?_⟩
    refine step i x _ H' _ (List.getElem?_eq_getElem hi2) ⟨But.refl _ _, fun _ => Same.refl _, fun e => (nomatch e), (let ⟨o, e⟩ := W.tr; ⟨o, s _ _ e⟩), .cons (r1.same s) (W.r.but s.but)⟩ fun y H4 dy s4 ry hy => ?_
    have e4 := s4 _ _ h1
    exact ⟨ys, e4, by rw [r2.lens, h3]; exact small1000 (by omega), lcPS hR nD (s.trans s4) e4 (r2.but s4.but) h3 h4 ry hy⟩
  · rw [ll] at hP
    exact lcp_done W nD hP done
theorem lcp_range {n : Nat} (W : Wd b sa H0 H acc dacc) (hl : n ≤ 1000) (R : Nat → PyData → Prop) (hR : ∀ i d, R i d → tupOnly d = true) (hw : ∀ x, wipe ((wipe σ vs).set j (some x)) vs = wipe σ vs)
    (step : ∀ (i : Nat) H' Q', i < n → Wd false sa H' H' acc dacc → (∀ y H4 dy, Same H' H4 → Rp sa H4 y dy → R i dy → Q' y H4) → te ((wipe σ vs).set j (some (.int (0 + (i : Int))))) H' Q')
    (done : ∀ H' D es, Wd b sa H0 H' (.ref D :: acc) (.list es :: dacc) → es.length = n → (∀ (k : Nat) (d : PyData), es[k]? = some d → R k d) → Q (.ref D) H') : tLc (fun _ H' R => R (Itr 0 n) H') (gName j) tYes te vs σ H Q := by
  intro D nD
  refine lc_range (lo := 0) (n := n) (LcP sa H D R) (lcP0 nD) (fun i H' hi hP => ?_) (fun H' hP => ?_)
  · obtain ⟨s, ys, es, h1, r2, h3, h4⟩ := hP
    refine ⟨hw _, lcYes ?_⟩
    refine step i H' _ hi ⟨But.refl _ _, fun _ => Same.refl _, fun e => (nomatch e), (let ⟨o, e⟩ := W.tr; ⟨o, s _ _ e⟩), W.r.but s.but⟩ fun y H4 dy s4 ry hy => ?_
    have e4 := s4 _ _ h1
    exact ⟨ys, e4, by rw [r2.lens, h3]; exact small1000 (by omega), lcPS hR nD (s.trans s4) e4 (r2.but s4.but) h3 h4 ry hy⟩
  · exact lcp_done W nD hP done
/-- where the list is no list of the ground's -/
theorem lcp_raw {p : Addr} {xs : List V} {ds : List PyData} (W : Wd b sa H0 H acc dacc) (hx : H p = some (.lst xs)) (r : Rps sa H xs ds) (hl : ds.length ≤ 1000) (R : Nat → PyData → Prop) (hR : ∀ i d, R i d → tupOnly d = true) (hw : ∀ x, wipe ((wipe σ vs).set j (some x)) vs = wipe σ vs)
    (step : ∀ (i : Nat) x d H' Q', ds[i]? = some d → Wd false sa H' H' (x :: acc) (d :: dacc) → (∀ y H4 dy, Same H' H4 → Rp sa H4 y dy → R i dy → Q' y H4) → te ((wipe σ vs).set j (some x)) H' Q')
    (done : ∀ H' D es, Wd b sa H0 H' (.ref D :: acc) (.list es :: dacc) → es.length = ds.length → (∀ (k : Nat) (d : PyData), es[k]? = some d → R k d) → Q (.ref D) H') : tLc (fun _ H' R => R (Itl K p) H') (gName j) tYes te vs σ H Q := by
  intro D nD
  have ll := r.lens
  refine lc_list (xs := xs) (LcP sa H D R) (lcP0 nD) (fun i H' hi hP => SqL.of (hP.1 _ _ hx)) (fun i x H' hi hP => ?_) (fun H' hP => ?_)
  · obtain ⟨s, ys, es, h1, r2, h3, h4⟩ := hP
    have hi2 : i < ds.length := by
      rw [← ll]
      exact (List.getElem?_eq_some_iff.mp hi).1
    obtain ⟨v, e1, r1⟩ := rps_at r (List.getElem?_eq_getElem hi2)
    rw [hi] at e1
    injection e1 with e1
    subst e1
    refine ⟨hw x, lcYes ?_⟩
    refine step i x _ H' _ (List.getElem?_eq_getElem hi2) ⟨But.refl _ _, fun _ => Same.refl _, fun e => (nomatch e), (let ⟨o, e⟩ := W.tr; ⟨o, s _ _ e⟩), .cons (r1.same s) (W.r.but s.but)⟩ fun y H4 dy s4 ry hy => ?_
    have e4 := s4 _ _ h1
    exact ⟨ys, e4, by rw [r2.lens, h3]; exact small1000 (by omega), lcPS hR nD (s.trans s4) e4 (r2.but s4.but) h3 h4 ry hy⟩
  · rw [ll] at hP
    exact lcp_done W nD hP done
end

/-! ### the lists of a polygon's corners -/
structure Rel (pts : List PyData) (nums : List Nat) (n : Nat) (c d : Nat → Rat) : Prop where
  lp : pts.length = n
  ln : nums.length = n
  nd : nums.Nodup
  it : ∀ i, i < n → ∃ z, nums[i]? = some z ∧ pts[z]? = some (PQ (c i) (d i))
  tup : tupOnlys pts = true
theorem Rel.lt {pts : List PyData} {nums : List Nat} {n : Nat} {c d : Nat → Rat} (h : Rel pts nums n c d) {z : Nat} (hz : z ∈ nums) : z < n := by
  obtain ⟨i, hi, e⟩ := List.getElem_of_mem hz
  obtain ⟨y, h1, h2⟩ := h.it i (by rw [← h.ln]; exact hi)
  rw [List.getElem?_eq_getElem hi, e] at h1
  injection h1 with h1
  subst h1
  rw [← h.lp]
  exact (List.getElem?_eq_some_iff.mp h2).1
theorem ins_at {nums : List Nat} {k n i : Nat} (hk : k < nums.length) : (nums.take (k + 1) ++ [n] ++ nums.drop (k + 1))[i]? = if i ≤ k then nums[i]? else if i = k + 1 then some n else nums[i - 1]? := by
  have l1 : (nums.take (k + 1)).length = k + 1 := by rw [List.length_take]; omega
  have l2 : (nums.take (k + 1) ++ [n]).length = k + 2 := by rw [List.length_append, l1]; rfl
  by_cases h1 : i ≤ k
  · rw [if_pos h1, List.getElem?_append_left (by rw [l2]; omega), List.getElem?_append_left (by rw [l1]; omega), List.getElem?_take_of_lt (by omega)]
  · rw [if_neg h1]
    by_cases h2 : i = k + 1
    · rw [if_pos h2, List.getElem?_append_left (by rw [l2]; omega), List.getElem?_append_right (by rw [l1]; omega), l1, h2, Nat.sub_self]
      rfl
    · rw [if_neg h2, List.getElem?_append_right (by rw [l2]; omega), l2, List.getElem?_drop]
      congr 1
      omega
theorem rel_cut {pts : List PyData} {nums : List Nat} {n k i0 : Nat} {c d : Nat → Rat} {a b a' b' : Rat} (h : Rel pts nums n c d) (hk : k < n) (h0 : nums[k]? = some i0) :
    Rel (pts.set i0 (PQ a b) ++ [PQ a' b']) (nums.take (k + 1) ++ [pts.length] ++ nums.drop (k + 1)) (n + 1) (ins2 k c a a') (ins2 k d b b') := by
  have lk : k < nums.length := by rw [h.ln]; exact hk
  have i0n : i0 < n := h.lt (List.mem_of_getElem? h0)
  have ls : (pts.set i0 (PQ a b)).length = n := by rw [List.length_set, h.lp]
  have old : ∀ i, i < n → i ≠ k → ∃ z, nums[i]? = some z ∧ (pts.set i0 (PQ a b) ++ [PQ a' b'])[z]? = some (PQ (c i) (d i)) := fun i hi hne => by
    obtain ⟨z, h1, h2⟩ := h.it i hi
    refine ⟨z, h1, ?_⟩
    have hz : z ≠ i0 := fun e => hne (by
      rw [e] at h1
      exact (List.getElem?_inj (by rw [h.ln]; exact hi) h.nd).mp (h1.trans h0.symm))
    rw [List.getElem?_append_left (by rw [ls]; exact h.lt (List.mem_of_getElem? h1)), List.getElem?_set_ne (Ne.symm hz)]
    exact h2
  refine ⟨by rw [List.length_append, ls]; rfl, by rw [List.length_append, List.length_append, List.length_take, List.length_drop, h.ln]; simp; omega, ?_, fun i hi => ?_, ?_⟩
  · have p : (nums.take (k + 1) ++ [pts.length] ++ nums.drop (k + 1)).Perm (pts.length :: nums) := by
      rw [List.append_assoc]
      refine List.Perm.trans List.perm_middle ?_
      show (pts.length :: (nums.take (k + 1) ++ nums.drop (k + 1))).Perm _
      rw [List.take_append_drop]
    rw [p.nodup_iff, List.nodup_cons]
    exact ⟨fun z => by have := h.lt z; rw [h.lp] at this; omega, h.nd⟩
  · rw [ins_at lk]
    by_cases h1 : i < k
    · rw [if_pos (by omega), ins2_lt h1, ins2_lt h1]
      exact old i (by omega) (by omega)
    · by_cases h2 : i = k
      · subst h2
        rw [if_pos (by omega), ins2_k, ins2_k]
        refine ⟨i0, h0, ?_⟩
        rw [List.getElem?_append_left (by rw [ls]; exact i0n), List.getElem?_set_self (by rw [h.lp]; exact i0n)]
      · rw [if_neg (by omega)]
        by_cases h3 : i = k + 1
        · subst h3
          rw [if_pos rfl, ins2_k1, ins2_k1]
          refine ⟨pts.length, rfl, ?_⟩
          rw [List.getElem?_append_right (by rw [ls, h.lp]; exact Nat.le_refl _), ls, h.lp, Nat.sub_self]
          rfl
        · rw [if_neg h3, ins2_gt (by omega), ins2_gt (by omega)]
          exact old (i - 1) (by omega) (by omega)
  · exact tups_app (tups_set i0 h.tup rfl) rfl
/-- a cut, as the polygon asks for it -/
theorem c_cut {sa C Pl : Addr} {H : Hp} {Q : VK} {E : XK} {pts : List PyData} {nums : List Nat} {n j k : Nat} {c d : Nat → Rat} {pt : V} {m ki : Int} (tr : ∃ o, H sa = some o) (rC : Rp sa H (.ref C) (.list pts)) (rP : Rp sa H (.ref Pl) (.list [IntsD nums])) (rp : Rp sa H pt (FQ ((m : Rat) / 5))) (hm : 1 ≤ m ∧ m ≤ 4)
    (hj : j ≤ 5) (hn : 3 ≤ n ∧ n ≤ 10) (ek : ki = (k : Int)) (hk : k < n) (rel : Rel pts nums n c d) (ps : PS j n c d)
    (h : ∀ H' pts' nums' c' d', (∀ q o, q ≠ C → q ≠ Pl → H q = some o → H' q = some o) → Rp sa H' (.ref C) (.list pts') → Rp sa H' (.ref Pl) (.list [IntsD nums']) → Rel pts' nums' (n + 1) c' d' → PS (j + 1) (n + 1) c' d' → Q .non H') :
    sp_cut [.ref C, .ref Pl, .int 0, .int ki, pt, .bl false] H Q E := by
  subst ek
  obtain ⟨x', y', x, y, l', l, t, s, r0, r1, co, si, th, lm, room, ok, ps'⟩ := ps_step hj hn.1 hk hm ps
  obtain ⟨i0, h0, p0⟩ := rel.it k hk
  obtain ⟨i1, h1, p1⟩ := rel.it (prv n k) (prv_lt hk)
  obtain ⟨i2, h2, p2⟩ := rel.it (nxt n k) (nxt_lt hk)
  refine ⟨sa, C, Pl, k, pt, pts, nums, i0, i1, i2, _, _, _, _, _, _, x', y', x, y, l', l, t, _, s, r0, r1, co, si, th, lm, room, rfl, tr, rC, rP, rp, ⟨by rw [rel.ln]; exact hn.2, by rw [rel.lp]; exact hn.2, rel.tup⟩, ⟨h0, ?_, ?_⟩, ⟨p0, p1, p2⟩, ok, fun H' fr r1 r2 => h H' _ _ _ _ fr r1 r2 (rel_cut rel hk h0) ps'⟩
  · rw [rel.ln]
    exact h1
  · rw [rel.ln, ← h2]
    congr 1
    unfold nxt
    split
    · rename_i e
      rw [e, Nat.mod_self]
    · exact Nat.mod_eq_of_lt (by omega)

/-! ### the drawn polygon -/
theorem FQ_nil : PyData.tuple [.int 0, .int 1] = FQ 0 := by
  unfold FQ
  rw [show (0 : Rat).num = 0 from rfl, show (0 : Rat).den = 1 from rfl]
  rfl
theorem FQ_five {m : Int} (h : 1 ≤ m ∧ m ≤ 4) : PyData.tuple [.int m, .int 5] = FQ ((m : Rat) / 5) := by
  have e : (m : Rat) / 5 * ((5 : Int) : Rat) = (m : Rat) := by
    rw [show ((5 : Int) : Rat) = 5 from rfl]
    exact Rat.div_mul_cancel (by decide)
  have l : Low m 5 := by
    rcases (show m = 1 ∨ m = 2 ∨ m = 3 ∨ m = 4 by omega) with rfl | rfl | rfl | rfl <;> exact ⟨by decide, by decide⟩
  obtain ⟨h1, h2⟩ := q_low l e
  unfold FQ
  rw [h1, h2]
theorem qb_frac {u v : Int} {k : Nat} (hu : Bt k u) (hv : Bt k v) (h : v ≠ 0) : Qb k ((u : Rat) / (v : Rat)) := qb_rt (rt_q h) h hu hv
theorem w_lstRg {ta : TE} {σ : L2.St} {H : Hp} {Q : VK} (h : ta σ H fun x H1 => ∃ n : Int, x = .int n ∧ RgOk 0 n ∧ ∀ q, H1 q = none → Q (.ref q) (upd H1 q (.lst (rgV 0 n)))) : tLstRg (tRg1 ta) σ H Q := h
theorem ints_rps {sa : Addr} {H : Hp} : ∀ (l : List Nat), Rps sa H (l.map fun (i : Nat) => V.int (0 + (i : Int))) (l.map fun (i : Nat) => PyData.int (i : Int))
  | [] => .nil
  | i :: l => .cons (by show Rp sa H (V.int (0 + (i : Int))) (.int (i : Int)); rw [Int.zero_add]; exact .int _) (ints_rps l)
/-- the rows of points that the law draws -/
def IsPts (R : Rat → Rat → Prop) (d : PyData) (n : Nat) : Prop := ∃ pts : List PyData, d = .list pts ∧ pts.length = n ∧ ∀ x ∈ pts, ∃ a b, x = PQ a b ∧ R a b
abbrev sp_poly : Sp := Sf (fun ds => ∃ n : Int, ds = [.int n] ∧ 3 ≤ n ∧ n ≤ 9) fun ds dd => ∃ (n j : Nat) (pts : List PyData) (c d : Nat → Rat), ds = [.int (n : Int)] ∧ dd = .list pts ∧ pts.length = n ∧ j + 3 ≤ n ∧ PS j n c d ∧ ∀ i, i < n → pts[i]? = some (PQ (c i) (d i))
/-- the lists of the corners and of the plate, j cuts on -/
def CrnP (sa C : Addr) (n0 : Nat) (σ' : L2.St) (H' : Hp) (a : Addr) (many : Int) : Prop := ∃ pts o1 o2 o3 o4 o5 o6 c d, σ' = [some (.ref a), some (.int many), o1, o2, o3, o4, o5, some (.ref C), o6, none, none, none, none, none] ∧ Rp sa H' (.ref C) (.list pts) ∧ Rel pts (List.range n0) n0 c d ∧ PS 0 n0 c d
theorem rel0 {pts : List PyData} {n : Nat} {c d : Nat → Rat} (h : ∀ i, i < n → pts[i]? = some (PQ (c i) (d i))) (hl : pts.length = n) (tup : tupOnlys pts = true) : Rel pts (List.range n) n c d :=
  ⟨hl, List.length_range, List.nodup_range, fun i hi => ⟨i, by rw [List.getElem?_range hi], h i hi⟩, tup⟩
section
variable {P : Program} {w : World} {K : PySem.W.Frag} {mg : Str → Option Value} {base : Heap}
theorem ok_law_polygon {f : Addr} {fd : FuncData} (F : Fun K "_law_polygon" "_law_polygon" s_law_polygon f fd) (nb : Nb mg) (d_law_take : Df P w K mg base CX0 2 "_law_take" ["stream", "many"] sp_take) (d_law_slope : Df P w K mg base CX0 3 "_law_slope" ["stream", "most"] sp_qslope) (d_law_ray : Df P w K mg base CX0 2 "_law_ray" ["slope"] sp_qray) (d_law_times : Df P w K mg base CX0 3 "_law_times" ["step", "factor"] sp_ptimes) (d_law_plus : Df P w K mg base CX0 3 "_law_plus" ["one", "other"] sp_pplus) (d_law_div : Df P w K mg base CX0 2 "_law_div" ["one", "other"] sp_qdiv) (d_law_add : Df P w K mg base CX0 2 "_law_add" ["one", "other"] sp_qadd) (d_law_mul : Df P w K mg base CX0 2 "_law_mul" ["one", "other"] sp_qmul) (d_law_cut : Df P w K mg base CX0 6 "_law_cut" ["corners", "plates", "at", "k", "part", "keep"] sp_cut) : FnOk P w K mg base CX0 7 f fd ["stream", "many"] sp_poly := by
  have sc := sc_law_polygon
  refine F.ok sc (fun vs H Q E h => ?_) (fun cdv A outer s H vs Q E hr h => ?_)
  · obtain ⟨a, vs', ds, rfl, st, r, ⟨n, rfl, _⟩, _⟩ := h
    obtain ⟨x, rfl, r0⟩ := rps1 r
    rfl
  · obtain ⟨a, vs', ds, rfl, st, r, ⟨n, rfl, n1, n2⟩, q⟩ := h
    obtain ⟨x, rfl, r0⟩ := rps1 r
    obtain rfl : x = .int n := by cases r0; rfl
    refine ⟨_, (pss_cons (ps_asg (pe_call d_law_slope.F (hr.mono (by decide)) (by rfl) d_law_slope.g d_law_slope.kp d_law_slope.b .nil pass0 (pa_cons (pv 0) (pa_cons pe_int pa_nil))) (pg_name (i := 2) sc.nd rfl (.inl rfl)))
    (pss_cons (ps_asg (pe_tup (pa_cons (pe_op op_add pe_int (pe_call d_law_take.F (hr.mono (by decide)) (by rfl) d_law_take.g d_law_take.kp d_law_take.b .nil pass0 (pa_cons (pv 0) (pa_cons pe_int pa_nil)))) (pa_cons pe_int pa_nil))) (pg_name (i := 3) sc.nd rfl (.inl rfl)))
    (pss_cons (ps_asg (pe_call d_law_ray.F (hr.mono (by decide)) (by rfl) d_law_ray.g d_law_ray.kp d_law_ray.b .nil pass0 (pa_cons (pv 2) pa_nil)) (pg_name (i := 4) sc.nd rfl (.inl rfl)))
    (Evl.pss_cut (ps_if (PW.pt (pw_and (pt_cmpR op_gt (pv 1) pe_int (nomark _)) (pw_and1 (pt_cmpR op_eq (pe_call d_law_take.F (hr.mono (by decide)) (by rfl) d_law_take.g d_law_take.kp d_law_take.b .nil pass0 (pa_cons (pv 0) (pa_cons pe_int pa_nil))) pe_int (nomark _))))) (pss_cons (ps_asg (pe_call d_law_times.F (hr.mono (by decide)) (by rfl) d_law_times.g d_law_times.kp d_law_times.b .nil pass0 (pa_cons (pv 4) (pa_cons (pe_call d_law_slope.F (hr.mono (by decide)) (by rfl) d_law_slope.g d_law_slope.kp d_law_slope.b .nil pass0 (pa_cons (pv 0) (pa_cons pe_int pa_nil))) pa_nil))) (pg_name (i := 5) sc.nd rfl (.inl rfl)))
    (pss_cons (ps_asg (pe_tup (pa_cons (pv 3) (pa_cons (pe_tup (pa_cons pe_int (pa_cons pe_int pa_nil))) pa_nil))) (pg_name (i := 6) sc.nd rfl (.inl rfl)))
    (pss_one (ps_asg (pe_lst (pa_cons (pe_tup (pa_cons (pe_tup (pa_cons pe_int (pa_cons pe_int pa_nil))) (pa_cons (pe_tup (pa_cons pe_int (pa_cons pe_int pa_nil))) pa_nil))) (pa_cons (pv 6) (pa_cons (pe_call d_law_plus.F (hr.mono (by decide)) (by rfl) d_law_plus.g d_law_plus.kp d_law_plus.b .nil pass0 (pa_cons (pv 6) (pa_cons (pv 5) pa_nil))) (pa_cons (pv 5) pa_nil))))) (pg_name (i := 7) sc.nd rfl (.inr rfl)))))) (pss_cons (ps_asg (pe_call d_law_ray.F (hr.mono (by decide)) (by rfl) d_law_ray.g d_law_ray.kp d_law_ray.b .nil pass0 (pa_cons (pe_call d_law_div.F (hr.mono (by decide)) (by rfl) d_law_div.g d_law_div.kp d_law_div.b .nil pass0 (pa_cons (pv 3) (pa_cons (pv 2) pa_nil))) pa_nil)) (pg_name (i := 8) sc.nd rfl (.inl rfl)))
    (pss_cons (ps_asg (pe_call d_law_add.F (hr.mono (by decide)) (by rfl) d_law_add.g d_law_add.kp d_law_add.b .nil pass0 (pa_cons (pe_call d_law_mul.F (hr.mono (by decide)) (by rfl) d_law_mul.g d_law_mul.kp d_law_mul.b .nil pass0 (pa_cons (pe_ix ix_tup (pv 4) pe_int (fun _ _ => rfl)) (pa_cons (pe_ix ix_tup (pv 8) pe_int (fun _ _ => rfl)) pa_nil))) (pa_cons (pe_call d_law_mul.F (hr.mono (by decide)) (by rfl) d_law_mul.g d_law_mul.kp d_law_mul.b .nil pass0 (pa_cons (pe_ix ix_tup (pv 4) pe_int (fun _ _ => rfl)) (pa_cons (pe_ix ix_tup (pv 8) pe_int (fun _ _ => rfl)) pa_nil))) pa_nil))) (pg_name (i := 9) sc.nd rfl (.inl rfl)))
    (pss_one (ps_asg (pe_lst (pa_cons (pe_tup (pa_cons (pe_tup (pa_cons pe_int (pa_cons pe_int pa_nil))) (pa_cons (pe_tup (pa_cons pe_int (pa_cons pe_int pa_nil))) pa_nil))) (pa_cons (pe_tup (pa_cons (pv 9) (pa_cons (pe_tup (pa_cons pe_int (pa_cons pe_int pa_nil))) pa_nil))) (pa_cons (pe_call d_law_times.F (hr.mono (by decide)) (by rfl) d_law_times.g d_law_times.kp d_law_times.b .nil pass0 (pa_cons (pv 4) (pa_cons (pe_ix ix_tup (pv 8) pe_int (fun _ _ => rfl)) pa_nil))) pa_nil)))) (pg_name (i := 7) sc.nd rfl (.inr rfl)))))))
    (pss_cons (ps_asg (pe_lst (pa_cons (pe_listRg rfl (by rfl) nb.list (prg_1 (by rfl) nb.range (pe_callB cq_len (by rfl) nb.len (by decide +kernel) (pa_cons (pv 7) pa_nil)))) pa_nil)) (pg_name (i := 10) sc.nd rfl (.inl rfl)))
    (pss_cons (ps_for PassesOwn.never rfl (pi_range1 (by rfl) nb.range (pa_cons (pe_op op_sub (pv 1) (pe_callB cq_len (by rfl) nb.len (by decide +kernel) (pa_cons (pv 7) pa_nil))) pa_nil)) (pg_name (i := 11) sc.nd rfl (.inl rfl)) (pss_cons (ps_asg (pe_call d_law_take.F (hr.mono (by decide)) (by rfl) d_law_take.g d_law_take.kp d_law_take.b .nil pass0 (pa_cons (pv 0) (pa_cons (pe_callB cq_len (by rfl) nb.len (by decide +kernel) (pa_cons (pv 7) pa_nil)) pa_nil))) (pg_name (i := 12) sc.nd rfl (.inl rfl)))
    (pss_one (ps_expr (pe_call d_law_cut.F (hr.mono (by decide)) (by rfl) d_law_cut.g d_law_cut.kp d_law_cut.b .nil pass0 (pa_cons (pv 7) (pa_cons (pv 10) (pa_cons pe_int (pa_cons (pv 12) (pa_cons (pe_tup (pa_cons (pe_op op_add pe_int (pe_call d_law_take.F (hr.mono (by decide)) (by rfl) d_law_take.g d_law_take.kp d_law_take.b .nil pass0 (pa_cons (pv 0) (pa_cons pe_int pa_nil)))) (pa_cons pe_int pa_nil))) (pa_cons pe_bl pa_nil)))))))))))
    (pss_one (ps_ret (pe_lc (own := [("number", 13)]) (g := gName 13) (tt := tYes) rfl sc.nd (pi_list (pe_ix ix_list (pv 10) pe_int (fun _ _ => rfl))) (blkOk_by (N := NN_law_polygon) (sc := defScope s_law_polygon) (by decide +kernel)) (fun _ _ _ _ _ => pg_name (i := 13) sc.nd rfl (Or.inl rfl)) (fun _ _ _ _ _ => pts_nil) (fun _ _ _ _ _ => (pe_ix (show IxR _ (rIxL K) from ix_list) (pv 7) (pv 13) (fun _ _ => rfl)))))))))))), ?_⟩
    (rw [show start ["stream", "many", "first", "part", "one", "step", "end", "corners", "other", "third", "plates", "k", "at", "number"] [.ref a, .int n] = [some (.ref a), some (.int n), none, none, none, none, none, none, none, none, none, none, none, none] from rfl]; try dsimp only [cxOf])
    have W := wd_startS st .nil
    walk_at "w"
    refine call_S (ds := [.int 4]) (by assumption) (.cons (.int 4) .nil) ⟨4, rfl, by decide, by decide⟩ fun H1 fx f W1 hf => ?_
    obtain ⟨n4, u, v, e4, u0, u1, v0, v1, rfl⟩ := hf
    obtain rfl : (4 : Int) = n4 := by injection e4 with e4; injection e4
    clear W
    walk_at "w"
    rename_i H2 m0 W2 m1 m2 H3 pt W3
    have hm : 1 ≤ 1 + m0 ∧ 1 + m0 ≤ 4 := by omega
    have W4 := wd_re W3 (FQ_five hm)
    clear W1 W2 W3 r0 r
    have v3 : v ≠ 0 := by omega
    obtain ⟨fq, efq⟩ : ∃ fq : Rat, fq = (u : Rat) / (v : Rat) := ⟨_, rfl⟩
    have bu : Bt 4 u := bt_lit 4 (by omega)
    have bv : Bt 4 v := bt_lit 4 (by omega)
    have bf : Qb 4 fq := by rw [efq]; exact qb_frac bu bv v3
    rw [← efq] at W4
    obtain ⟨p, ep⟩ : ∃ p : Rat, p = ((1 + m0 : Int) : Rat) / 5 := ⟨_, rfl⟩
    rw [← ep] at W4
    have bp : Qb 3 p := by rw [ep]; exact qb_frac (v := 5) (bt_lit 3 (by omega)) (bt_lit 3 (by decide)) (by decide)
    have f0 : 0 < fq := by rw [efq]; exact q_div (Rat.intCast_pos.mpr (by omega)) (Rat.intCast_pos.mpr (by omega))
    have p0 : 0 < p := by rw [ep]; exact q_div (Rat.intCast_pos.mpr (by omega)) (by decide)
    refine c_q1 (by assumption) (Wd.get (by assumption) (by walk_at "in2")) (bf.mono (by decide)) fun H4 one W5 => ?_
    have W6 : Wd true a H H4 [.ref one, .ref pt, fx] [PQ (cn fq) (sn fq), FQ p, FQ fq] := W5
    clear W4 W5
    have bcs : Qb 20 (cn fq) ∧ Qb 20 (sn fq) := by
      have q1 : Qb 1 1 := ⟨bt_lit 1 (by decide), bt_lit 1 (by decide)⟩
      have q2 : Qb 2 2 := ⟨bt_lit 2 (by decide), bt_lit 2 (by decide)⟩
      have i1 := sinI v3 efq f0
      have hA : 0 < u * u + v * v := by
        have := Int.mul_pos (show 0 < u by omega) (show 0 < u by omega)
        have := Int.mul_pos (show 0 < v by omega) (show 0 < v by omega)
        omega
      have bA : Bt 9 (u * u + v * v) := (bu.mul bu).add (bv.mul bv)
      have uf := sc_unit f0
      have b1 := unit_le uf
      have b2 := unit_le (x := sn fq) (y := cn fq) (by grind)
      exact ⟨(qb4 i1.2 hA bA (Rat.le_trans b1.1 (by decide)) (Rat.le_trans (by decide) b1.2)).mono (by decide), (qb4 i1.1 hA bA (Rat.le_trans b2.1 (by decide)) (Rat.le_trans (by decide) b2.2)).mono (by decide)⟩
    walk_at "w"
    refine ⟨fun σ' H' => ∃ (n0 : Nat) (C : Addr) (pts : List PyData) (c d : Nat → Rat) (o2 o3 o4 o5 o6 o8 o9 : Option V), σ' = [some (.ref a), some (.int n), o2, o3, o4, o5, o6, some (.ref C), o8, o9, none, none, none, none] ∧ (n0 = 3 ∨ n0 = 4 ∧ 4 ≤ n) ∧ C ≠ a ∧ H C = none ∧ Wd true a H H' [.ref C] [.list pts] ∧ Rel pts (List.range n0) n0 c d ∧ PS 0 n0 c d, ?_, ?_⟩
    · have fne : fq ≠ 0 := by grind
      have b1 := bf.mono (show 4 ≤ 4400 by decide)
      have b2 := bp.mono (show 3 ≤ 4400 by decide)
      have b3 := bcs.1.mono (show 20 ≤ 4400 by decide)
      have b4 := bcs.2.mono (show 20 ≤ 4400 by decide)
      have b5 : Qb 4400 0 := ⟨(bt_lit 1 (by decide) : Bt 1 (0 : Int)).mono (by decide), (bt_lit 1 (by decide) : Bt 1 (1 : Int)).mono (by decide)⟩
      have bg : Qb 8 (p / fq) := by
        have := bp.mul (bf.inv fne)
        rw [show p / fq = p * (1 / fq) by grind]
        exact this
      have g0 : 0 < p / fq := q_div p0 f0
      walk_at "v"
      refine w_ifd (fun hn4 => ?_) (fun _ => ?_)
      · walk_at "v"
        rename_i H5 z W7 z0 z1
        refine w_ifd (fun hz => ?_) (fun _ => ?_)
        · clear W6
          walk_at "v"
          refine call_S (ds := [.int 3]) (by assumption) (.cons (.int 3) .nil) ⟨3, rfl, by decide, by decide⟩ fun H6 gx g W7 hg => ?_
          obtain ⟨n3, u', v', e3, u2, u3, v4, v5, rfl⟩ := hg
          obtain rfl : (3 : Int) = n3 := by injection e3 with e3; injection e3
          obtain ⟨r, er⟩ : ∃ r : Rat, r = (u' : Rat) / (v' : Rat) := ⟨_, rfl⟩
          rw [← er] at W7
          have br : Qb 4 r := by rw [er]; exact qb_frac (bt_lit 4 (by omega)) (bt_lit 4 (by omega)) (by omega)
          have b7 := br.mono (show 4 ≤ 4400 by decide)
          have b8 := (bcs.1.mul br).mono (show 24 ≤ 4400 by decide)
          have b9 := (bcs.2.mul br).mono (show 24 ≤ 4400 by decide)
          walk_at "v"
          rename_i W10
          rw [FQ_nil] at W10
          walk_at "v"
          refine n_lstN (by assumption) (by walk_at "rps") rfl fun H' C hC nC WF => ?_
          walk_at "v"
          exact ⟨4, C, _, quad 0 p (p + cn fq * r) (cn fq * r), quad 0 0 (0 + sn fq * r) (sn fq * r), _, _, _, _, _, _, _, rfl, .inr ⟨rfl, by omega⟩, hC, nC, WF.sub (.cons (WF.get .here) .nil), rel0 (all4 rfl rfl rfl rfl) rfl rfl, ps_quad ⟨u0, u1⟩ ⟨v0, v1⟩ hm ⟨u2, u3⟩ ⟨v4, v5⟩ efq ep er⟩
        · clear W6
          walk_at "v"
          rename_i H6 P6 W7
          refine c_q1 (by assumption) (Wd.get (by assumption) (by walk_at "in2")) (bg.mono (by decide)) fun H7 P7 W8 => ?_
          have W9 : Wd true a H H7 [.ref P7, .ref P6, .ref one, .ref pt, fx] [PQ (cn (p / fq)) (sn (p / fq)), FQ (p / fq), PQ (cn fq) (sn fq), FQ p, FQ fq] := W8
          clear W7 W8
          obtain ⟨g, eg⟩ : ∃ g : Rat, g = p / fq := ⟨_, rfl⟩
          rw [← eg] at W9 bg g0
          have bgs : Qb 50 (cn g) ∧ Qb 50 (sn g) := by
            have q1 : Qb 1 1 := ⟨bt_lit 1 (by decide), bt_lit 1 (by decide)⟩
            have q2 : Qb 2 2 := ⟨bt_lit 2 (by decide), bt_lit 2 (by decide)⟩
            have h1 := (q1.add (bg.mul bg)).inv (q_ne g0)
            have h2 := (q1.add (bg.mul bg).neg)
            have e1 : cn g = (1 + -(g * g)) * (1 / (1 + g * g)) := by unfold cn; have := q_ne g0; grind
            have e2 : sn g = 2 * g * (1 / (1 + g * g)) := by unfold sn; have := q_ne g0; grind
            rw [e1, e2]
            exact ⟨(h2.mul h1).mono (by decide), ((q2.mul bg).mul h1).mono (by decide)⟩
          have c1 := bgs.1.mono (show 50 ≤ 4400 by decide)
          have c2 := bgs.2.mono (show 50 ≤ 4400 by decide)
          have c3 := (bcs.1.mul bgs.2).mono (show 70 ≤ 4400 by decide)
          have c4 := (bcs.2.mul bgs.1).mono (show 70 ≤ 4400 by decide)
          have c5 := (bcs.2.mul bgs.2).mono (show 70 ≤ 4400 by decide)
          walk_at "v"
          refine n_lstN (by assumption) (by walk_at "rps") rfl fun H' C hC nC WF => ?_
          rw [FQ_nil] at WF
          walk_at "v"
          exact ⟨3, C, _, tri 0 (sn fq * cn g + cn fq * sn g) (cn fq * sn g), tri 0 0 (sn fq * sn g), _, _, _, _, _, _, _, rfl, .inl rfl, hC, nC, WF.sub (.cons (WF.get .here) .nil), rel0 (all3 rfl rfl rfl) rfl rfl, ps_tri ⟨u0, u1⟩ ⟨v0, v1⟩ hm efq ep eg⟩
      · skip
        walk_at "v"
        rename_i H6 P6 W7
        refine c_q1 (by assumption) (Wd.get (by assumption) (by walk_at "in2")) (bg.mono (by decide)) fun H7 P7 W8 => ?_
        have W9 : Wd true a H H7 [.ref P7, .ref P6, .ref one, .ref pt, fx] [PQ (cn (p / fq)) (sn (p / fq)), FQ (p / fq), PQ (cn fq) (sn fq), FQ p, FQ fq] := W8
        clear W7 W8
        obtain ⟨g, eg⟩ : ∃ g : Rat, g = p / fq := ⟨_, rfl⟩
        rw [← eg] at W9 bg g0
        have bgs : Qb 50 (cn g) ∧ Qb 50 (sn g) := by
          have q1 : Qb 1 1 := ⟨bt_lit 1 (by decide), bt_lit 1 (by decide)⟩
          have q2 : Qb 2 2 := ⟨bt_lit 2 (by decide), bt_lit 2 (by decide)⟩
          have h1 := (q1.add (bg.mul bg)).inv (q_ne g0)
          have h2 := (q1.add (bg.mul bg).neg)
          have e1 : cn g = (1 + -(g * g)) * (1 / (1 + g * g)) := by unfold cn; have := q_ne g0; grind
          have e2 : sn g = 2 * g * (1 / (1 + g * g)) := by unfold sn; have := q_ne g0; grind
          rw [e1, e2]
          exact ⟨(h2.mul h1).mono (by decide), ((q2.mul bg).mul h1).mono (by decide)⟩
        have c1 := bgs.1.mono (show 50 ≤ 4400 by decide)
        have c2 := bgs.2.mono (show 50 ≤ 4400 by decide)
        have c3 := (bcs.1.mul bgs.2).mono (show 70 ≤ 4400 by decide)
        have c4 := (bcs.2.mul bgs.1).mono (show 70 ≤ 4400 by decide)
        have c5 := (bcs.2.mul bgs.2).mono (show 70 ≤ 4400 by decide)
        walk_at "v"
        refine n_lstN (by assumption) (by walk_at "rps") rfl fun H' C hC nC WF => ?_
        rw [FQ_nil] at WF
        walk_at "v"
        exact ⟨3, C, _, tri 0 (sn fq * cn g + cn fq * sn g) (cn fq * sn g), tri 0 0 (sn fq * sn g), _, _, _, _, _, _, _, rfl, .inl rfl, hC, nC, WF.sub (.cons (WF.get .here) .nil), rel0 (all3 rfl rfl rfl) rfl rfl, ps_tri ⟨u0, u1⟩ ⟨v0, v1⟩ hm efq ep eg⟩
    · rintro σ' H' ⟨n0, C, pts, c, d, o2, o3, o4, o5, o6, o8, o9, rfl, hn0, hC, nC, W, rel, ps⟩
      clear W6 bcs bf bp f0 p0
      walk_at "v"
      refine w_lstRg ?_
      walk_at "v"
      rw [rel.lp]
      refine ⟨RgOk.of_le (by decide) (by omega) (by decide) (by omega), fun L nL => ?_⟩
      have eL : rgV 0 (n0 : Int) = (List.range n0).map fun (i : Nat) => V.int (0 + (i : Int)) := by
        unfold rgV
        rw [show ((n0 : Int) - 0).toNat = n0 by omega]
      have W2 := (W.go (same_new (o := .lst (rgV 0 (n0 : Int))) nL)).put (v := .ref L) (d := IntsD (List.range n0)) (.lst (W.ne nL) upd_same (by rw [eL]; exact ints_rps _))
      clear W
      walk_at "v"
      refine n_lstN W2 (by walk_at "rps") rfl fun H1 Pl hP nP W3 => ?_
      clear W2
      walk_at "v"
      rw [rel.lp]
      walk_at "v"
      refine lp_range (fun i σ' H' => ∃ pts nums c d o11 o12, σ' = [some (.ref a), some (.int n), o2, o3, o4, o5, o6, some (.ref C), o8, o9, some (.ref Pl), o11, o12, none] ∧ Wd true a H H' [.ref C, .ref Pl] [.list pts, .list [IntsD nums]] ∧ Rel pts nums (n0 + i) c d ∧ PS i (n0 + i) c d) ⟨_, _, _, _, _, _, rfl, W3.sub (.cons (W3.get (.there (.there .here))) (.cons (W3.get .here) .nil)), rel, ps⟩ ?_ ?_
      · rintro i σ' H' hi ⟨pts, nums, c, d, o11, o12, rfl, W, rel, ps⟩
        clear W3
        have lp := rel.lp
        walk_at "v"
        rw [lp]
        refine call_tk W (by omega) (bt_lit (x := ((n0 + i : Nat) : Int)) 5 (by omega) |>.log (by decide)) fun H2 z W2 z0 z1 => ?_
        clear W
        walk_at "v"
        rename_i H3 y W4 y0 y1 H4 pt W5
        have hy : 1 ≤ 1 + y ∧ 1 + y ≤ 4 := by omega
        rw [FQ_five hy] at W5
        clear W4 W2
        obtain ⟨k, rfl⟩ := Int.eq_ofNat_of_zero_le z0
        refine c_cut (k := k) W5.tr (W5.get (.there .here)) (W5.get (.there (.there .here))) (W5.get .here) hy (by omega) (by omega) rfl (by omega) rel ps fun H5 pts' nums' c' d' fr rC rP rel' ps' => ?_
        walk_at "v"
        refine ⟨pts', nums', c', d', _, _, rfl, ⟨fun q o h1 h2 => fr q o (fun z => ?_) (fun z => ?_) (W5.but q o h1 h2), fun e => (nomatch e), fun _ => ?_, ?_, .cons rC (.cons rP .nil)⟩, rel', ps'⟩
        · rw [z, nC] at h2
          cases h2
        · rw [z, nP] at h2
          cases h2
        · have g1 := W5.get (v := .ref C) (.there .here)
          have g2 := W5.get (v := .ref Pl) (.there (.there .here))
          obtain ⟨z, e1, e2⟩ := rel.it 0 (by omega)
          cases g1 with
          | @lst _ cs _ n1 hx1 r1 =>
          cases g2 with
          | @lst _ ps _ n2 hx2 r2 =>
          obtain ⟨v1, ev1, rv1⟩ := rps_at r1 e2
          obtain ⟨v2, rfl, rv2⟩ := rps1 r2
          exact stm_fr (W5.st rfl) fr hC hP ⟨_, _, _, hx1, ev1, fun i e => rp_ti (i := i) rv1 (e ▸ .int i)⟩ ⟨_, 0, _, hx2, rfl, fun i e => rp_li (i := i) rv2 (e ▸ .int i)⟩
        · obtain ⟨o, e⟩ := W5.tr
          exact ⟨o, fr a o (Ne.symm hC) (Ne.symm hP) e⟩
      · rintro σ' H' ⟨pts, nums, c, d, o11, o12, rfl, W, rel, ps⟩
        clear W3
        have en : n0 + (n - (n0 : Int)).toNat = n.toNat := by omega
        rw [en] at rel ps
        walk_at "v"
        refine w_lc ?_
        refine w_ilst ?_
        walk_at "v"
        rename_i L W4
        refine ⟨L, rfl, (by cases W4.get (v := .ref L) .here with | lst _ h _ => exact ⟨_, SqL.of h⟩), ?_⟩
        refine lcp_list W4 .here (by rw [List.length_map, rel.ln]; omega) (fun i dd => dd = PQ (c i) (d i)) (fun i dd e => by rw [e]; rfl) (fun x => rfl) (fun i x d' H5 Q' ei W6 hq => ?_) (fun H5 D' es W6 le all => ?_)
        · rw [List.getElem?_map] at ei
          obtain ⟨z, ez, rfl⟩ : ∃ z, nums[i]? = some z ∧ d' = .int (z : Int) := by
            cases e : nums[i]? with
            | none => rw [e] at ei; cases ei
            | some z => rw [e] at ei; cases ei; exact ⟨z, rfl, rfl⟩
          obtain rfl : x = .int (z : Int) := by
            have := W6.get .here
            cases this
            rfl
          have il : i < n.toNat := by rw [← rel.ln]; exact (List.getElem?_eq_some_iff.mp ez).1
          obtain ⟨z', e1, e2⟩ := rel.it i il
          rw [ez] at e1
          injection e1 with e1
          subst e1
          show tOp (rIxL K) (tVar 7) (tVar 13) [some (.ref a), some (.int n), o2, o3, o4, o5, o6, some (.ref C), o8, o9, some (.ref Pl), o11, o12, some (.int (z : Int))] H5 Q'
          walk_at "v"
          refine x_neg W6 (by walk_at "in2") (.inl rfl) e2 (v_tup fun pz W7 => ?_)
          exact hq _ _ _ (W7.same rfl) (W7.get .here) rfl
        · refine q _ _ _ W6.but (W6.st rfl) (W6.get .here) ⟨n.toNat, (n - (n0 : Int)).toNat, es, c, d, by rw [Int.toNat_of_nonneg (by omega)], rfl, by rw [le, List.length_map, rel.ln], by omega, ps, fun i hi => ?_⟩
          have e := List.getElem?_eq_getElem (l := es) (show i < es.length by rw [le, List.length_map, rel.ln]; exact hi)
          rw [e, all i _ e]
end

/-! ### points of the plane, and their weights -/
abbrev Pnt (a b c d : Int) : PyData := .tuple [Fr a b, Fr c d]
abbrev Tri (x y z : Int) : PyData := .tuple [.int x, .int y, .int z]
def rLcm : List V → Hp → VK → Prop := fun vs H Q => ∃ a b : Int, vs = [.int a, .int b] ∧ a.natAbs.log2 < 9000 ∧ b.natAbs.log2 < 9000 ∧ (a.natAbs.lcm b.natAbs).log2 < 18000 ∧ Q (.int ((a.natAbs.lcm b.natAbs : Nat) : Int)) H
def sq2 (a b c d e f : Int) : Int := (d * c - a * f) * (d * c - a * f) + (e * c - b * f) * (e * c - b * f)
def f_dist : List PyData → PyData
  | [.tuple [.int a, .int b, .int c], .tuple [.int d, .int e, .int f]] => (match f_root [.int (sq2 a b c d e f)] with | .int k => rt k (c * f) | _ => .none)
  | _ => .none
abbrev sp_dist : Sp := Pf (fun ds => ∃ a b c d e f, ds = [Tri a b c, Tri d e f] ∧ (Bt 1600 a ∧ Bt 1600 b ∧ Bt 1600 c) ∧ (Bt 1600 d ∧ Bt 1600 e ∧ Bt 1600 f) ∧ 1 ≤ c ∧ 1 ≤ f) f_dist
def f_areF : List PyData → PyData
  | [.tuple [d0, d1]] => .bool (isF d0 && isF d1)
  | _ => .none
abbrev sp_areF : Sp := Pf (fun ds => ∃ d0 d1, ds = [.tuple [d0, d1]]) f_areF
def isP : PyData → Bool
  | .tuple [x, y] => isF x && isF y
  | _ => false
def f_isP : List PyData → PyData
  | [d] => .bool (isP d)
  | _ => .none
abbrev sp_isP : Sp := Pf (fun ds => ∃ d, ds = [d]) f_isP
theorem lp_tup {K : PySem.W.Frag} {a : Addr} {xs : List V} {g : TG} {tb : TS} {D : Ends} {σ : L2.St} {H : Hp} (Pv : Nat → L2.St → Hp → Prop) (h0 : Pv 0 σ H) (hl : ∀ i σ H, i ≤ xs.length → Pv i σ H → SqT K H a xs)
    (hs : ∀ i x σ H, xs[i]? = some x → Pv i σ H → g x σ H fun σ2 H2 => tb { D with nx := Pv (i + 1), ct := Pv (i + 1), bk := D.nx } σ2 H2) (hd : ∀ σ H, Pv xs.length σ H → D.nx σ H) : LoopG (Itt K a) g tb D σ H := for_tup Pv h0 hl hs hd
theorem w_itup {K : PySem.W.Frag} {tl : TE} {σ : L2.St} {H : Hp} {R : It → Hp → Prop} (h : tl σ H fun x H1 => ∃ a, x = .ref a ∧ (∃ xs, SqT K H1 a xs) ∧ R (Itt K a) H1) : iTup K tl σ H R := h
theorem log_max {a b k : Nat} (h : a.log2 < k) (g : b.log2 < k) : (max a b).log2 < k := by
  rcases Nat.le_total a b with e | e
  · rw [Nat.max_eq_right e]; exact g
  · rw [Nat.max_eq_left e]; exact h
theorem cr_lcm {X : Cx} : CallR X (.builtin "math.lcm") rLcm := by
  intro pins s σ H vs us Q I r h
  obtain ⟨a, b, rfl, ha, hb, hl, q⟩ := h
  obtain ⟨u, v, us', rfl, ⟨t, rfl⟩, ⟨t2, rfl⟩, rfl⟩ : ∃ u v us', us = u :: v :: us' ∧ RelV (.int a) u ∧ RelV (.int b) v ∧ us' = [] := by
    cases r with
    | cons ra rn =>
      cases rn with
      | cons rb rm =>
        cases rm
        exact ⟨_, _, _, rfl, ra, rb, rfl⟩
  have e1 : Nat.lcm 1 a.natAbs = a.natAbs := by simp [Nat.lcm]
  have m1 : (max 1 a.natAbs).log2 < 9000 := log_max (by decide) ha
  have m2 : (max a.natAbs b.natAbs).log2 < 9000 := log_max ha hb
  have g := PySem.W.mg_run_lcm a t b t2 (by omega) (by omega) (by
    rw [e1]
    have : PySem.bitsLine = 134217728 := by decide
    rw [this, Int.natAbs_natCast]
    omega)
  rw [e1] at g
  exact PySem.call_function_meets PySem.W.MGF.kind_lcm PySem.W.MGF.plain_lcm PySem.W.MGF.entry_lcm (PySem.W.MGF.args_lcm _ _) g.meets ⟨.int _, H, I.tok _, ⟨_, rfl⟩, q⟩
def wg (b d : Int) : Int := ((b.natAbs.lcm d.natAbs : Nat) : Int)
theorem wg_pos {b d : Int} (hb : 1 ≤ b) (hd : 1 ≤ d) : 1 ≤ wg b d := by
  have := Nat.lcm_pos (show 0 < b.natAbs by omega) (show 0 < d.natAbs by omega)
  unfold wg
  omega
theorem wg_l (b d : Int) : b ∣ wg b d := Int.natAbs_dvd_natAbs.mp (by unfold wg; rw [Int.natAbs_natCast]; exact Nat.dvd_lcm_left _ _)
theorem wg_r (b d : Int) : d ∣ wg b d := Int.natAbs_dvd_natAbs.mp (by unfold wg; rw [Int.natAbs_natCast]; exact Nat.dvd_lcm_right _ _)
theorem wg_le {b d : Int} (hb : 1 ≤ b) (hd : 1 ≤ d) : wg b d ≤ b * d := by
  have h : b.natAbs.lcm d.natAbs ≤ b.natAbs * d.natAbs := Nat.le_of_dvd (Nat.mul_pos (by omega) (by omega)) (Nat.lcm_dvd_mul _ _)
  have e : ((b.natAbs * d.natAbs : Nat) : Int) = b * d := by rw [Int.natCast_mul, Int.natAbs_of_nonneg (by omega), Int.natAbs_of_nonneg (by omega)]
  unfold wg
  omega
/-- the quotient of the weight by a bottom -/
def qt (w b : Int) : Int := w.fdiv b
theorem qt_mul {w b : Int} (h : b ∣ w) : qt w b * b = w := by
  unfold qt
  obtain ⟨c, rfl⟩ := h
  by_cases z : b = 0
  · subst z
    simp
  · rw [Int.mul_fdiv_cancel_left c z]; exact Int.mul_comm c b
theorem bt_wg {k l : Nat} {b d : Int} (hb : 1 ≤ b) (hd : 1 ≤ d) (x : Bt k b) (y : Bt l d) : Bt (k + l) (wg b d) := (x.mul y).le (by
  have := wg_le hb hd
  have := wg_pos hb hd
  omega)
theorem bt_qt {k : Nat} {w b : Int} (hb : 1 ≤ b) (h : b ∣ w) (hw : 1 ≤ w) (x : Bt k w) : Bt k (qt w b) := x.le (by
  have e := qt_mul h
  have p : 0 < qt w b := by
    rcases Int.lt_or_le 0 (qt w b) with z | z
    · exact z
    · have := Int.mul_nonneg (show 0 ≤ -(qt w b) by omega) (show 0 ≤ b by omega)
      have : -(qt w b) * b = -w := by rw [Int.neg_mul, e]
      omega
  have : qt w b * 1 ≤ qt w b * b := Int.mul_le_mul_of_nonneg_left hb (by omega)
  omega)
def f_spread : List PyData → PyData
  | [.tuple [.tuple [.int a, .int b], .tuple [.int c, .int d]]] => Tri (a * qt (wg b d) b) (c * qt (wg b d) d) (wg b d)
  | _ => .none
abbrev sp_spread : Sp := Pf (fun ds => ∃ a b c d, ds = [Pnt a b c d] ∧ Fq 500 a b ∧ Fq 500 c d) f_spread
def f_arrow : List PyData → PyData
  | [.tuple [.int a, .int b, .int c], .tuple [.int d, .int e, .int f]] => .tuple [.int (d * c - a * f), .int (e * c - b * f)]
  | _ => .none
abbrev sp_arrow : Sp := Pf (fun ds => ∃ a b c d e f, ds = [Tri a b c, Tri d e f] ∧ (Bt 1600 a ∧ Bt 1600 b ∧ Bt 1600 c) ∧ (Bt 1600 d ∧ Bt 1600 e ∧ Bt 1600 f)) f_arrow
def f_dot : List PyData → PyData
  | [.tuple [.int a, .int b], .tuple [.int d, .int e]] => .int (a * d + b * e)
  | _ => .none
abbrev sp_dot : Sp := Pf (fun ds => ∃ a b d e, ds = [Fr a b, Fr d e] ∧ (Bt 3500 a ∧ Bt 3500 b) ∧ (Bt 3500 d ∧ Bt 3500 e)) f_dot
def f_line : List PyData → PyData
  | [.tuple [.int a, .int b, .int c], .tuple [.int d, .int e, .int f]] => Tri (b * f - c * e) (c * d - a * f) (a * e - b * d)
  | _ => .none
abbrev sp_line : Sp := Pf (fun ds => ∃ a b c d e f, ds = [Tri a b c, Tri d e f] ∧ (Bt 1600 a ∧ Bt 1600 b ∧ Bt 1600 c) ∧ (Bt 1600 d ∧ Bt 1600 e ∧ Bt 1600 f)) f_line
def f_side : List PyData → PyData
  | [.tuple [.int a, .int b, .int c], .tuple [.int d, .int e, .int f]] => .int (a * d + b * e + c * f)
  | _ => .none
abbrev sp_side : Sp := Pf (fun ds => ∃ a b c d e f, ds = [Tri a b c, Tri d e f] ∧ (Bt 3500 a ∧ Bt 3500 b ∧ Bt 3500 c) ∧ (Bt 1600 d ∧ Bt 1600 e ∧ Bt 1600 f)) f_side
def f_size : List PyData → PyData
  | [.tuple [.int a, .int b]] => f_root [.int (a * a + b * b)]
  | _ => .none
abbrev sp_size : Sp := Pf (fun ds => ∃ a b, ds = [Fr a b] ∧ Bt 3500 a ∧ Bt 3500 b) f_size
theorem w_lcm {a b : Int} {k l : Nat} {H : Hp} {Q : VK} (f1 : 1 ≤ a ∧ Bt k a) (f2 : 1 ≤ b ∧ Bt l b) (e : (0 < k ∧ k ≤ 4000) ∧ 0 < l ∧ l ≤ 4000) (h : Q (.int (wg a b)) H) : rLcm [.int a, .int b] H Q :=
  ⟨a, b, rfl, f1.2.log ⟨e.1.1, by omega⟩, f2.2.log ⟨e.2.1, by omega⟩, by
    have := (bt_wg f1.1 f2.1 f1.2 f2.2).log ⟨by omega, by omega⟩
    unfold wg at this
    rw [Int.natAbs_natCast] at this
    omega, h⟩
theorem g_tup2G {b : Bool} {sa : Addr} {H0 H : Hp} {acc : List V} {dacc : List PyData} {K : PySem.W.Frag} {p : Addr} {d0 d1 : PyData} {g1 g2 : TG} {σ : L2.St} {Q : L2.St → Hp → Prop} (W : Wd b sa H0 H acc dacc) (m : In2 (.ref p) (.tuple [d0, d1]) acc dacc)
    (h : VS d0 fun x => VS d1 fun y => Wd b sa H0 H (y :: x :: acc) (d1 :: d0 :: dacc) → gCons g1 (gCons g2 gNil) [x, y] σ H Q) : gTup K 2 (gCons g1 (gCons g2 gNil)) (.ref p) σ H Q := by
  cases W.get m with
  | @tup _ xs _ n hx r =>
    obtain ⟨x, y, rfl, r0, r1⟩ := rps2 r
    exact ⟨p, [x, y], rfl, SqT.of hx, rfl, ((h.of r0).of r1) ((W.put r0).put r1)⟩
theorem w_gcons {g : TG} {gs : List V → L2.St → Hp → (L2.St → Hp → Prop) → Prop} {x : V} {xs : List V} {σ : L2.St} {H : Hp} {Q : L2.St → Hp → Prop} (h : g x σ H fun σ1 H1 => gs xs σ1 H1 Q) : gCons g gs (x :: xs) σ H Q := ⟨x, xs, rfl, h⟩
theorem w_gnil {σ : L2.St} {H : Hp} {Q : L2.St → Hp → Prop} (h : Q σ H) : gNil [] σ H Q := ⟨rfl, h⟩
theorem c_isP {b : Bool} {sa : Addr} {H0 H : Hp} {acc : List V} {dacc : List PyData} {x : V} {d : PyData} {Q : VK} {E : XK} (W : Wd b sa H0 H acc dacc) (r : Rp sa H x d) (h : ∀ H', Wd b sa H0 H' acc dacc → Q (.bl (isP d)) H') : sp_isP [x] H Q E :=
  call_P (ds := [d]) W (.cons r .nil) ⟨d, rfl⟩ fun H' => v_bl fun W' => h H' (W'.sub (by cases W'.r; assumption))
theorem isP_inv {d : PyData} (h : isP d = true) : ∃ a b c e, d = Pnt a b c e ∧ Low a b ∧ Low c e := by
  unfold isP at h
  split at h
  · rename_i x y
    obtain ⟨hx, hy⟩ := Bool.and_eq_true_iff.mp h
    obtain ⟨a, b, rfl, l⟩ := isF_inv hx
    obtain ⟨c, e, rfl, m⟩ := isF_inv hy
    exact ⟨a, b, c, e, rfl, l, m⟩
  · cases h
def SzP (d : PyData) : Prop := ∀ a b c e : Int, d = Pnt a b c e → Bt 500 a ∧ Bt 500 b ∧ Bt 500 c ∧ Bt 500 e
def badP2 : List PyData → Bool
  | [d, e] => !isP d || !isP e
  | _ => true
def f_len : List PyData → PyData
  | [d, e] => f_dist [f_spread [d], f_spread [e]]
  | _ => .none
abbrev sp_len (C : Addr) : Sp := Px C (pr2 SzP) badP2 f_len
def badP3 : List PyData → Bool
  | [d, e, g] => !isP d || !isP e || !isP g
  | _ => true
def sgnD : PyData → PyData
  | .int z => .int (sgn z)
  | _ => .none
def f_turn : List PyData → PyData
  | [d, e, g] => sgnD (f_side [f_line [f_spread [d], f_spread [e]], f_spread [g]])
  | _ => .none
abbrev sp_turn (C : Addr) : Sp := Px C (fun ds => ∃ x y z, ds = [x, y, z] ∧ SzP x ∧ SzP y ∧ SzP z) badP3 f_turn
local macro_rules | `(tactic| walk_at "call1") => `(tactic| ((with_reducible show sp_isP _ _ _ _); (with_reducible apply c_isP); (focus assumption); (focus (walk_at "rp")); intro _ _))
/-- the spread of a point: its parts and their sizes -/
theorem spr {a b c d : Int} (f1 : Fq 500 a b) (f2 : Fq 500 c d) : 1 ≤ wg b d ∧ Bt 1600 (a * qt (wg b d) b) ∧ Bt 1600 (c * qt (wg b d) d) ∧ Bt 1600 (wg b d) ∧ (a * qt (wg b d) b) * b = a * wg b d ∧ (c * qt (wg b d) d) * d = c * wg b d := by
  have p1 : 1 ≤ b := f1.low.pos
  have p2 : 1 ≤ d := f2.low.pos
  have bw : Bt 1000 (wg b d) := bt_wg p1 p2 f1.bb f2.bb
  have wp := wg_pos p1 p2
  have q1 : Bt 1000 (qt (wg b d) b) := bt_qt p1 (wg_l b d) wp bw
  have q2 : Bt 1000 (qt (wg b d) d) := bt_qt p2 (wg_r b d) wp bw
  exact ⟨wp, (f1.ba.mul q1).mono (by decide), (f2.ba.mul q2).mono (by decide), bw.mono (by decide), by rw [Int.mul_assoc, qt_mul (wg_l b d)], by rw [Int.mul_assoc, qt_mul (wg_r b d)]⟩
theorem w_qt {a b : Int} {k : Nat} {H : Hp} {Q : VK} (hb : 1 ≤ b) (h : Bt k b) (e : 0 < k ∧ k ≤ 9000) (q : Q (.int (qt a b)) H) : rI (fun _ j => j ≠ 0 ∧ j.natAbs.log2 < 9000) (fun i j => .int (i.fdiv j)) (.int a) (.int b) H Q := ⟨a, b, rfl, rfl, ⟨by omega, h.log e⟩, q⟩
local macro_rules | `(tactic| walk_at "call1") => `(tactic| first
  | ((with_reducible show gTup _ _ _ _ _ _ _); (with_reducible apply g_tup2G); (focus assumption); (focus (walk_at "in2")))
  | ((with_reducible show gCons _ _ _ _ _ _); with_reducible refine w_gcons ?_)
  | ((with_reducible show gNil _ _ _ _); with_reducible refine w_gnil ?_))
section
variable {P : Program} {w : World} {K : PySem.W.Frag} {mg : Str → Option Value} {base : Heap}
theorem ok_spread {f : Addr} {fd : FuncData} (F : Fun K "spread" "spread" s_spread f fd) (mi_lcm : mg "lcm" = some (.builtin "math.lcm")) : FnOk P w K mg base CX0 1 f fd ["point"] sp_spread := by
  have sc := sc_spread
  refine F.ok sc (fun vs H Q E h => ?_) (fun cdv A outer s H vs Q E hr h => ?_)
  · obtain ⟨sa, ds, t, r, ⟨a, b, c, d, rfl, _⟩, q⟩ := h
    exact r.lens
  · obtain ⟨sa, ds, t, r, ⟨a, b, c, d, rfl, f1, f2⟩, q⟩ := h
    obtain ⟨x, rfl, r0⟩ := rps1 r
    obtain ⟨p, rfl⟩ : ∃ p, x = .ref p := by cases r0; exact ⟨_, rfl⟩
    refine ⟨_, (pss_cons (ps_asg (pv 0) (pg_tup (n := 2) (by rfl) (pgs_cons (pg_tup (n := 2) (by rfl) (pgs_cons (pg_name (i := 1) sc.nd rfl (.inl rfl)) (pgs_cons (pg_name (i := 2) sc.nd rfl (.inl rfl)) pgs_nil))) (pgs_cons (pg_tup (n := 2) (by rfl) (pgs_cons (pg_name (i := 3) sc.nd rfl (.inl rfl)) (pgs_cons (pg_name (i := 4) sc.nd rfl (.inl rfl)) pgs_nil))) pgs_nil))))
    (pss_cons (ps_asg (pe_callBfun cr_lcm (by rfl) mi_lcm (pa_cons (pv 2) (pa_cons (pv 4) pa_nil))) (pg_name (i := 5) sc.nd rfl (.inl rfl)))
    (pss_one (ps_ret (pe_tup (pa_cons (pe_op op_mulX (pv 1) (pe_op op_fdivG (pv 5) (pv 2))) (pa_cons (pe_op op_mulX (pv 3) (pe_op op_fdivG (pv 5) (pv 4))) (pa_cons (pv 5) pa_nil)))))))), ?_⟩
    (rw [show start ["point", "x", "below", "y", "under", "weight"] [.ref p] = [some (.ref p), none, none, none, none, none] from rfl]; try dsimp only [cxOf])
    have W := wd_start t (.cons r0 .nil)
    have p1 : 1 ≤ b := f1.low.pos
    have p2 : 1 ≤ d := f2.low.pos
    have ba := f1.ba
    have bb := f1.bb
    have bc := f2.ba
    have bd := f2.bb
    have bw : Bt 1000 (wg b d) := bt_wg p1 p2 bb bd
    have wp := wg_pos p1 p2
    have q1 : Bt 1000 (qt (wg b d) b) := bt_qt p1 (wg_l b d) wp bw
    have q2 : Bt 1000 (qt (wg b d) d) := bt_qt p2 (wg_r b d) wp bw
    walk_at "w"
    refine w_lcm ⟨p1, bb⟩ ⟨p2, bd⟩ (by decide) ?_
    walk_at "w"
    refine w_qt p1 bb (by decide) ?_
    walk_at "w"
    refine w_qt p2 bd (by decide) ?_
    walk_at "w"
    rename_i W2 H3 p3 W3
    exact q _ _ (W3.same rfl) (W3.get .here)
theorem ok_arrow {f : Addr} {fd : FuncData} (F : Fun K "arrow" "arrow" s_arrow f fd) : FnOk P w K mg base CX0 1 f fd ["one", "other"] sp_arrow := by
  have sc := sc_arrow
  refine F.ok sc (fun vs H Q E h => ?_) (fun cdv A outer s H vs Q E hr h => ?_)
  · obtain ⟨sa, ds, t, r, ⟨a, b, c, d, e, f, rfl, _⟩, q⟩ := h
    exact r.lens
  · obtain ⟨sa, ds, t, r, ⟨a, b, c, d, e, f, rfl, ⟨b1, b2, b3⟩, b4, b5, b6⟩, q⟩ := h
    obtain ⟨x, y, rfl, r0, r1⟩ := rps2 r
    obtain ⟨p, rfl⟩ : ∃ p, x = .ref p := by cases r0; exact ⟨_, rfl⟩
    obtain ⟨p2, rfl⟩ : ∃ p, y = .ref p := by cases r1; exact ⟨_, rfl⟩
    refine ⟨_, (pss_one (ps_ret (pe_tup (pa_cons (pe_op op_sub (pe_op op_mulX (pe_ix ix_tup (pv 1) pe_int (fun _ _ => rfl)) (pe_ix ix_tup (pv 0) pe_int (fun _ _ => rfl))) (pe_op op_mulX (pe_ix ix_tup (pv 0) pe_int (fun _ _ => rfl)) (pe_ix ix_tup (pv 1) pe_int (fun _ _ => rfl)))) (pa_cons (pe_op op_sub (pe_op op_mulX (pe_ix ix_tup (pv 1) pe_int (fun _ _ => rfl)) (pe_ix ix_tup (pv 0) pe_int (fun _ _ => rfl))) (pe_op op_mulX (pe_ix ix_tup (pv 0) pe_int (fun _ _ => rfl)) (pe_ix ix_tup (pv 1) pe_int (fun _ _ => rfl)))) pa_nil))))), ?_⟩
    (rw [show start ["one", "other"] [.ref p, .ref p2] = [some (.ref p), some (.ref p2)] from rfl]; try dsimp only [cxOf])
    have W := wd_start t (.cons r0 (.cons r1 .nil))
    walk_at "w"
    rename_i H3 p3 W3
    exact q _ _ (W3.same rfl) (W3.get .here)
theorem ok_dot {f : Addr} {fd : FuncData} (F : Fun K "dot" "dot" s_dot f fd) : FnOk P w K mg base CX0 1 f fd ["one", "other"] sp_dot := by
  have sc := sc_dot
  refine F.ok sc (fun vs H Q E h => ?_) (fun cdv A outer s H vs Q E hr h => ?_)
  · obtain ⟨sa, ds, t, r, ⟨a, b, d, e, rfl, _⟩, q⟩ := h
    exact r.lens
  · obtain ⟨sa, ds, t, r, ⟨a, b, d, e, rfl, ⟨b1, b2⟩, b4, b5⟩, q⟩ := h
    obtain ⟨x, y, rfl, r0, r1⟩ := rps2 r
    obtain ⟨p, rfl⟩ : ∃ p, x = .ref p := by cases r0; exact ⟨_, rfl⟩
    obtain ⟨p2, rfl⟩ : ∃ p, y = .ref p := by cases r1; exact ⟨_, rfl⟩
    refine ⟨_, (pss_one (ps_ret (pe_op op_add (pe_op op_mulX (pe_ix ix_tup (pv 0) pe_int (fun _ _ => rfl)) (pe_ix ix_tup (pv 1) pe_int (fun _ _ => rfl))) (pe_op op_mulX (pe_ix ix_tup (pv 0) pe_int (fun _ _ => rfl)) (pe_ix ix_tup (pv 1) pe_int (fun _ _ => rfl)))))), ?_⟩
    (rw [show start ["one", "other"] [.ref p, .ref p2] = [some (.ref p), some (.ref p2)] from rfl]; try dsimp only [cxOf])
    have W := wd_start t (.cons r0 (.cons r1 .nil))
    walk_at "w"
    exact q _ _ (W.same rfl) (.int _)
theorem ok_line_through {f : Addr} {fd : FuncData} (F : Fun K "line_through" "line_through" s_line_through f fd) : FnOk P w K mg base CX0 1 f fd ["one", "other"] sp_line := by
  have sc := sc_line_through
  refine F.ok sc (fun vs H Q E h => ?_) (fun cdv A outer s H vs Q E hr h => ?_)
  · obtain ⟨sa, ds, t, r, ⟨a, b, c, d, e, f, rfl, _⟩, q⟩ := h
    exact r.lens
  · obtain ⟨sa, ds, t, r, ⟨a, b, c, d, e, f, rfl, ⟨b1, b2, b3⟩, b4, b5, b6⟩, q⟩ := h
    obtain ⟨x, y, rfl, r0, r1⟩ := rps2 r
    obtain ⟨p, rfl⟩ : ∃ p, x = .ref p := by cases r0; exact ⟨_, rfl⟩
    obtain ⟨p2, rfl⟩ : ∃ p, y = .ref p := by cases r1; exact ⟨_, rfl⟩
    refine ⟨_, (pss_one (ps_ret (pe_tup (pa_cons (pe_op op_sub (pe_op op_mulX (pe_ix ix_tup (pv 0) pe_int (fun _ _ => rfl)) (pe_ix ix_tup (pv 1) pe_int (fun _ _ => rfl))) (pe_op op_mulX (pe_ix ix_tup (pv 0) pe_int (fun _ _ => rfl)) (pe_ix ix_tup (pv 1) pe_int (fun _ _ => rfl)))) (pa_cons (pe_op op_sub (pe_op op_mulX (pe_ix ix_tup (pv 0) pe_int (fun _ _ => rfl)) (pe_ix ix_tup (pv 1) pe_int (fun _ _ => rfl))) (pe_op op_mulX (pe_ix ix_tup (pv 0) pe_int (fun _ _ => rfl)) (pe_ix ix_tup (pv 1) pe_int (fun _ _ => rfl)))) (pa_cons (pe_op op_sub (pe_op op_mulX (pe_ix ix_tup (pv 0) pe_int (fun _ _ => rfl)) (pe_ix ix_tup (pv 1) pe_int (fun _ _ => rfl))) (pe_op op_mulX (pe_ix ix_tup (pv 0) pe_int (fun _ _ => rfl)) (pe_ix ix_tup (pv 1) pe_int (fun _ _ => rfl)))) pa_nil)))))), ?_⟩
    (rw [show start ["one", "other"] [.ref p, .ref p2] = [some (.ref p), some (.ref p2)] from rfl]; try dsimp only [cxOf])
    have W := wd_start t (.cons r0 (.cons r1 .nil))
    walk_at "w"
    rename_i H3 p3 W3
    exact q _ _ (W3.same rfl) (W3.get .here)
theorem ok_side_of {f : Addr} {fd : FuncData} (F : Fun K "side_of" "side_of" s_side_of f fd) : FnOk P w K mg base CX0 1 f fd ["line", "spot"] sp_side := by
  have sc := sc_side_of
  refine F.ok sc (fun vs H Q E h => ?_) (fun cdv A outer s H vs Q E hr h => ?_)
  · obtain ⟨sa, ds, t, r, ⟨a, b, c, d, e, f, rfl, _⟩, q⟩ := h
    exact r.lens
  · obtain ⟨sa, ds, t, r, ⟨a, b, c, d, e, f, rfl, ⟨b1, b2, b3⟩, b4, b5, b6⟩, q⟩ := h
    obtain ⟨x, y, rfl, r0, r1⟩ := rps2 r
    obtain ⟨p, rfl⟩ : ∃ p, x = .ref p := by cases r0; exact ⟨_, rfl⟩
    obtain ⟨p2, rfl⟩ : ∃ p, y = .ref p := by cases r1; exact ⟨_, rfl⟩
    refine ⟨_, (pss_one (ps_ret (pe_op op_add (pe_op op_add (pe_op op_mulX (pe_ix ix_tup (pv 0) pe_int (fun _ _ => rfl)) (pe_ix ix_tup (pv 1) pe_int (fun _ _ => rfl))) (pe_op op_mulX (pe_ix ix_tup (pv 0) pe_int (fun _ _ => rfl)) (pe_ix ix_tup (pv 1) pe_int (fun _ _ => rfl)))) (pe_op op_mulX (pe_ix ix_tup (pv 0) pe_int (fun _ _ => rfl)) (pe_ix ix_tup (pv 1) pe_int (fun _ _ => rfl)))))), ?_⟩
    (rw [show start ["line", "spot"] [.ref p, .ref p2] = [some (.ref p), some (.ref p2)] from rfl]; try dsimp only [cxOf])
    have W := wd_start t (.cons r0 (.cons r1 .nil))
    walk_at "w"
    exact q _ _ (W.same rfl) (.int _)
theorem ok_size_of {f : Addr} {fd : FuncData} (F : Fun K "size_of" "size_of" s_size_of f fd) (d_dot : Df P w K mg base CX0 1 "dot" ["one", "other"] sp_dot) (d_whole_root : Df P w K mg base CX0 1 "whole_root" ["number"] sp_wroot) : FnOk P w K mg base CX0 2 f fd ["vector"] sp_size := by
  have sc := sc_size_of
  refine F.ok sc (fun vs H Q E h => ?_) (fun cdv A outer s H vs Q E hr h => ?_)
  · obtain ⟨sa, ds, t, r, ⟨a, b, rfl, _⟩, q⟩ := h
    exact r.lens
  · obtain ⟨sa, ds, t, r, ⟨a, b, rfl, b1, b2⟩, q⟩ := h
    obtain ⟨x, rfl, r0⟩ := rps1 r
    obtain ⟨p, rfl⟩ : ∃ p, x = .ref p := by cases r0; exact ⟨_, rfl⟩
    refine ⟨_, (pss_one (ps_ret (pe_call d_whole_root.F (hr.mono (by decide)) (by rfl) d_whole_root.g d_whole_root.kp d_whole_root.b .nil pass0 (pa_cons (pe_call d_dot.F (hr.mono (by decide)) (by rfl) d_dot.g d_dot.kp d_dot.b .nil pass0 (pa_cons (pv 0) (pa_cons (pv 0) pa_nil))) pa_nil)))), ?_⟩
    (rw [show start ["vector"] [.ref p] = [some (.ref p)] from rfl]; try dsimp only [cxOf])
    have W := wd_start t (.cons r0 .nil)
    walk_at "w"
    refine call_P (ds := [Fr a b, Fr a b]) W (.cons r0 (.cons r0 .nil)) ⟨a, b, a, b, rfl, ⟨b1, b2⟩, b1, b2⟩ fun H2 => v_int fun W2 => ?_
    walk_at "w"
    refine call_P (ds := [.int (a * a + b * b)]) W2 (.cons (.int _) .nil) ⟨_, rfl, (((b1.mul b1).add (b2.mul b2)).mono (by decide))⟩ fun H3 => ?_
    exact v_any fun x W3 => q _ x (W3.same rfl) (W3.get .here)
theorem ok_distance {f : Addr} {fd : FuncData} (F : Fun K "distance" "distance" s_distance f fd) (d_arrow : Df P w K mg base CX0 1 "arrow" ["one", "other"] sp_arrow) (d_size_of : Df P w K mg base CX0 2 "size_of" ["vector"] sp_size) (d_lowest : Df P w K mg base CX0 1 "lowest" ["top", "bottom"] sp_low) : FnOk P w K mg base CX0 3 f fd ["one", "other"] sp_dist := by
  have sc := sc_distance
  refine F.ok sc (fun vs H Q E h => ?_) (fun cdv A outer s H vs Q E hr h => ?_)
  · obtain ⟨sa, ds, t, r, ⟨a, b, c, d, e, f, rfl, _⟩, q⟩ := h
    exact r.lens
  · obtain ⟨sa, ds, t, r, ⟨a, b, c, d, e, f, rfl, ⟨b1, b2, b3⟩, ⟨b4, b5, b6⟩, c1, f1⟩, q⟩ := h
    obtain ⟨x, y, rfl, r0, r1⟩ := rps2 r
    obtain ⟨p, rfl⟩ : ∃ p, x = .ref p := by cases r0; exact ⟨_, rfl⟩
    obtain ⟨p2, rfl⟩ : ∃ p, y = .ref p := by cases r1; exact ⟨_, rfl⟩
    refine ⟨_, (pss_cons (ps_asg (pe_call d_size_of.F (hr.mono (by decide)) (by rfl) d_size_of.g d_size_of.kp d_size_of.b .nil pass0 (pa_cons (pe_call d_arrow.F (hr.mono (by decide)) (by rfl) d_arrow.g d_arrow.kp d_arrow.b .nil pass0 (pa_cons (pv 0) (pa_cons (pv 1) pa_nil))) pa_nil)) (pg_name (i := 2) sc.nd rfl (.inl rfl)))
    (pss_cons (ps_if (pt_cmpR oq_isN (pv 2) pe_non (nomark _)) (pss_one (ps_ret pe_non)) pss_nil)
    (pss_one (ps_ret (pe_call d_lowest.F (hr.mono (by decide)) (by rfl) d_lowest.g d_lowest.kp d_lowest.b .nil pass0 (pa_cons (pv 2) (pa_cons (pe_op op_mulX (pe_ix ix_tup (pv 0) pe_int (fun _ _ => rfl)) (pe_ix ix_tup (pv 1) pe_int (fun _ _ => rfl))) pa_nil))))))), ?_⟩
    (rw [show start ["one", "other", "size"] [.ref p, .ref p2] = [some (.ref p), some (.ref p2), none] from rfl]; try dsimp only [cxOf])
    have W := wd_start t (.cons r0 (.cons r1 .nil))
    walk_at "w"
    refine call_P (ds := [Tri a b c, Tri d e f]) W (.cons r0 (.cons r1 .nil)) ⟨a, b, c, d, e, f, rfl, ⟨b1, b2, b3⟩, b4, b5, b6⟩ fun H2 => v_tup fun p3 W2 => ?_
    have g1 : Bt 3500 (d * c - a * f) := ((b4.mul b3).sub (b1.mul b6)).mono (by decide)
    have g2 : Bt 3500 (e * c - b * f) := ((b5.mul b3).sub (b2.mul b6)).mono (by decide)
    walk_at "w"
    refine call_P (ds := [Fr (d * c - a * f) (e * c - b * f)]) W2 (.cons (W2.get .here) .nil) ⟨_, _, rfl, g1, g2⟩ fun H3 => ?_
    rw [show f_size [Fr (d * c - a * f) (e * c - b * f)] = f_root [.int (sq2 a b c d e f)] from rfl]
    have fin : ∀ v z H', Same H H' → f_dist [Tri a b c, Tri d e f] = z → Rp sa H' v z → Q v H' := fun v z H' s ez rv => q H' v s (by rw [ez]; exact rv)
    rcases root_cases (sq2 a b c d e f) with ⟨k, ek⟩ | nk
    · have e1 : f_root [.int (sq2 a b c d e f)] = .int (k : Int) := by rw [ek]; exact f_root_sq
      have e2 : f_dist [Tri a b c, Tri d e f] = rt k (c * f) := by
        show (match f_root [.int (sq2 a b c d e f)] with | .int k => rt k (c * f) | _ => PyData.none) = _
        rw [e1]
      rw [e1]
      have nz : c * f ≠ 0 := Int.mul_ne_zero (by omega) (by omega)
      walk_at "w"
      rename_i W3 H4 p4 W4
      exact fin _ _ _ (W4.same rfl) e2 (W4.get .here)
    · have e1 := f_root_no nk
      have e2 : f_dist [Tri a b c, Tri d e f] = .none := by
        show (match f_root [.int (sq2 a b c d e f)] with | .int k => rt k (c * f) | _ => PyData.none) = _
        rw [e1]
      rw [e1]
      walk_at "w"
      exact fin _ _ _ (Wd.same (by assumption) rfl) e2 .non
theorem ok_are_fractions {f : Addr} {fd : FuncData} (F : Fun K "are_fractions" "are_fractions" s_are_fractions f fd) (d_is_fraction : Df P w K mg base CX0 2 "is_fraction" ["thing"] sp_isFp) : FnOk P w K mg base CX0 3 f fd ["things"] sp_areF := by
  have sc := sc_are_fractions
  refine F.ok sc (fun vs H Q E h => ?_) (fun cdv A outer s H vs Q E hr h => ?_)
  · obtain ⟨sa, ds, t, r, ⟨d0, d1, rfl⟩, q⟩ := h
    exact r.lens
  · obtain ⟨sa, ds, t, r, ⟨d0, d1, rfl⟩, q⟩ := h
    obtain ⟨x, rfl, r0⟩ := rps1 r
    obtain ⟨p, rfl⟩ : ∃ p, x = .ref p := by cases r0; exact ⟨_, rfl⟩
    refine ⟨_, (pss_cons (ps_for PassesOwn.never rfl (pi_tup (pv 0)) (pg_name (i := 1) sc.nd rfl (.inl rfl)) (pss_one (ps_if (pt_not (pt_val (pe_call d_is_fraction.F (hr.mono (by decide)) (by rfl) d_is_fraction.g d_is_fraction.kp d_is_fraction.b .nil pass0 (pa_cons (pv 1) pa_nil)))) (pss_one (ps_ret pe_bl)) pss_nil)))
    (pss_one (ps_ret pe_bl))), ?_⟩
    (rw [show start ["things", "thing"] [.ref p] = [some (.ref p), none] from rfl]; try dsimp only [cxOf])
    have W := wd_start t (.cons r0 .nil)
    walk_at "w"
    refine w_itup ?_
    walk_at "w"
    cases r0 with
    | @tup _ xs _ n hx r =>
    obtain ⟨x0, x1, rfl, ra, rb⟩ := rps2 r
    have W := (wd_start t (.cons (.tup n hx (.cons ra (.cons rb .nil))) .nil) : Wd false sa H H [.ref p] [.tuple [d0, d1]]).put ra |>.put rb
    have fin : ∀ H' z, Same H H' → (isF d0 && isF d1) = z → Q (.bl z) H' := fun H' z s e => q H' _ s (by rw [show f_areF [.tuple [d0, d1]] = .bool (isF d0 && isF d1) from rfl, e]; exact .bl z)
    refine ⟨p, rfl, ⟨_, SqT.of hx⟩, ?_⟩
    refine lp_tup (xs := [x0, x1]) (fun i σ H' => ∃ u, σ = [some (.ref p), u] ∧ Wd false sa H H' [x1, x0, .ref p] [d1, d0, .tuple [d0, d1]] ∧ (1 ≤ i → isF d0 = true) ∧ (2 ≤ i → isF d1 = true)) ⟨_, rfl, W, fun h => by omega, fun h => by omega⟩ ?_ ?_ ?_
    · rintro i σ H' hi ⟨u, rfl, W2, _⟩
      exact SqT.of (W2.same rfl _ _ hx)
    · rintro i x σ H' hi ⟨u, rfl, W2, h1, h2⟩
      walk_at "w"
      match i, hi with
      | 0, hi =>
        obtain rfl : x0 = x := Option.some.inj hi
        refine c_isFp W2 (W2.get (.there .here)) fun H3 W3 => ⟨_, rfl, ?_⟩
        cases e0 : isF d0 with
        | false => exact fin _ _ (W3.same rfl) (by rw [e0]; rfl)
        | true => exact ⟨_, rfl, W3, fun _ => rfl, fun h => absurd h (by omega)⟩
      | 1, hi =>
        obtain rfl : x1 = x := Option.some.inj hi
        refine c_isFp W2 (W2.get .here) fun H3 W3 => ⟨_, rfl, ?_⟩
        cases e1 : isF d1 with
        | false => exact fin _ _ (W3.same rfl) (by rw [e1]; cases isF d0 <;> rfl)
        | true => exact ⟨_, rfl, W3, fun _ => h1 (by omega), fun _ => rfl⟩
      | k + 2, hi => exact nomatch hi
    · rintro σ H' ⟨u, rfl, W2, h1, h2⟩
      walk_at "w"
      refine fin _ _ (W2.same rfl) ?_
      rw [h1 (by simp), h2 (by simp)]
      rfl
theorem ok_is_point {f : Addr} {fd : FuncData} (F : Fun K "is_point" "is_point" s_is_point f fd) (d_is_tuple_of : Df P w K mg base CX0 1 "is_tuple_of" ["thing", "many"] sp_tupof) (d_are_fractions : Df P w K mg base CX0 3 "are_fractions" ["things"] sp_areF) : FnOk P w K mg base CX0 4 f fd ["thing"] sp_isP := by
  have sc := sc_is_point
  refine F.ok sc (fun vs H Q E h => ?_) (fun cdv A outer s H vs Q E hr h => ?_)
  · obtain ⟨sa, ds, t, r, ⟨d, rfl⟩, q⟩ := h
    exact r.lens
  · obtain ⟨sa, ds, t, r, ⟨d, rfl⟩, q⟩ := h
    obtain ⟨x, rfl, r0⟩ := rps1 r
    refine ⟨_, (pss_one (ps_ret (pe_and (pe_call d_is_tuple_of.F (hr.mono (by decide)) (by rfl) d_is_tuple_of.g d_is_tuple_of.kp d_is_tuple_of.b .nil pass0 (pa_cons (pv 0) (pa_cons pe_int pa_nil))) (pe_one (pe_call d_are_fractions.F (hr.mono (by decide)) (by rfl) d_are_fractions.g d_are_fractions.kp d_are_fractions.b .nil pass0 (pa_cons (pv 0) pa_nil)))))), ?_⟩
    (rw [show start ["thing"] [x] = [some (x)] from rfl]; try dsimp only [cxOf])
    have W := wd_start t (.cons r0 .nil)
    have fin : ∀ H' z, Same H H' → isP d = z → Q (.bl z) H' := fun H' z s e => q H' _ s (by rw [← e]; exact .bl _)
    walk_at "w"
    refine c_tupof W r0 fun H1 k hk W1 => ?_
    cases k with
    | false =>
      walk_at "w"
      refine fin _ _ (W1.same rfl) ?_
      unfold isP
      split
      · exact absurd (show eqB 2 2 = false from PyData.bool.inj hk) (by rw [eqT rfl]; exact Bool.noConfusion)
      · rfl
    | true =>
      obtain ⟨d0, d1, rfl⟩ : ∃ d0 d1, d = .tuple [d0, d1] := by
        cases d with
        | tuple l =>
          have e : (l.length : Int) = 2 := eqB_t (PyData.bool.inj hk)
          match l, e with
          | [d0, d1], _ => exact ⟨d0, d1, rfl⟩
        | _ => cases hk
      walk_at "w"
      refine call_P (ds := [.tuple [d0, d1]]) W1 (.cons (W1.get .here) .nil) ⟨d0, d1, rfl⟩ fun H2 => v_bl fun W2 => ?_
      exact fin _ _ (W2.same rfl) rfl
theorem ok_length_of {f C : Addr} {fd : FuncData} (F : Fun K "length_of" "length_of" s_length_of f fd) (c_NoPoint : Ex0 P w K mg base "NoPoint" C) (d_is_point : Df P w K mg base CX0 4 "is_point" ["thing"] sp_isP) (d_spread : Df P w K mg base CX0 1 "spread" ["point"] sp_spread) (d_distance : Df P w K mg base CX0 3 "distance" ["one", "other"] sp_dist) : FnOk P w K mg base (L2.CX P w) 5 f fd ["one", "other"] (sp_len C) := by
  have sc := sc_length_of
  refine F.okX sc (fun vs H Q E h => ?_) (fun cdv A outer s H vs Q E hr h => ?_)
  · obtain ⟨sa, ds, t, r, ⟨x, y, rfl, _⟩, _⟩ := h
    exact r.lens
  · obtain ⟨sa, ds, t, r, ⟨d, e, rfl, z1, z2⟩, no, q⟩ := h
    obtain ⟨x, y, rfl, r0, r1⟩ := rps2 r
    refine ⟨_, (pss_cons (ps_if (PW.pt (pw_or (pt_not (pt_val (pe_call d_is_point.F (hr.mono (by decide)) (by rfl) d_is_point.g d_is_point.kp d_is_point.b .nil pass0 (pa_cons (pv 0) pa_nil)))) (pw_or1 (pt_not (pt_val (pe_call d_is_point.F (hr.mono (by decide)) (by rfl) d_is_point.g d_is_point.kp d_is_point.b .nil pass0 (pa_cons (pv 1) pa_nil))))))) (pss_one (ps_raise rfl (takes_of rfl rfl rfl rfl) (pmk0 c_NoPoint (hr.mono (by decide)) (by rfl)))) pss_nil)
    (pss_one (ps_ret (pe_call d_distance.F (hr.mono (by decide)) (by rfl) d_distance.g d_distance.kp d_distance.b .nil pass0 (pa_cons (pe_call d_spread.F (hr.mono (by decide)) (by rfl) d_spread.g d_spread.kp d_spread.b .nil pass0 (pa_cons (pv 0) pa_nil)) (pa_cons (pe_call d_spread.F (hr.mono (by decide)) (by rfl) d_spread.g d_spread.kp d_spread.b .nil pass0 (pa_cons (pv 1) pa_nil)) pa_nil)))))), ?_⟩
    (rw [show start ["one", "other"] [x, y] = [some (x), some (y)] from rfl]; try dsimp only [cxOf])
    have W := wd_start t (.cons r0 (.cons r1 .nil))
    walk_at "w"
    rename_i H1 W1
    cases hd : isP d with
    | false =>
      walk_at "w"
      exact no (show (!isP d || !isP e) = true by rw [hd]; rfl) _ (W1.same rfl)
    | true =>
      walk_at "w"
      rename_i H2 W2
      cases he : isP e with
      | false =>
        walk_at "w"
        exact no (show (!isP d || !isP e) = true by rw [hd, he]; rfl) _ (W2.same rfl)
      | true =>
        obtain ⟨a, b, c, g, rfl, l1, l2⟩ := isP_inv hd
        obtain ⟨a2, b2, c2, g2, rfl, m1, m2⟩ := isP_inv he
        obtain ⟨s1, s2, s3, s4⟩ := z1 _ _ _ _ rfl
        obtain ⟨t1, t2, t3, t4⟩ := z2 _ _ _ _ rfl
        have f1 : Fq 500 a b := ⟨l1, s1, s2⟩
        have f2 : Fq 500 c g := ⟨l2, s3, s4⟩
        have f3 : Fq 500 a2 b2 := ⟨m1, t1, t2⟩
        have f4 : Fq 500 c2 g2 := ⟨m2, t3, t4⟩
        obtain ⟨wp1, u1, u2, u3, _, _⟩ := spr f1 f2
        obtain ⟨wp2, v1, v2, v3, _, _⟩ := spr f3 f4
        walk_at "w"
        refine call_P (ds := [Pnt a b c g]) W2 (.cons (W2.get .here) .nil) ⟨_, _, _, _, rfl, f1, f2⟩ fun H3 => v_tup fun p3 W3 => ?_
        walk_at "w"
        refine call_P (ds := [Pnt a2 b2 c2 g2]) W3 (.cons (W3.get (.there (.there .here))) .nil) ⟨_, _, _, _, rfl, f3, f4⟩ fun H4 => v_tup fun p4 W4 => ?_
        walk_at "w"
        refine call_P (ds := [f_spread [Pnt a b c g], f_spread [Pnt a2 b2 c2 g2]]) W4 (.cons (W4.get (.there .here)) (.cons (W4.get .here) .nil)) ⟨_, _, _, _, _, _, rfl, ⟨u1, u2, u3⟩, ⟨v1, v2, v3⟩, wp1, wp2⟩ fun H5 => v_any fun v5 W5 => ?_
        exact q (show (!isP (Pnt a b c g) || !isP (Pnt a2 b2 c2 g2)) = false by rw [hd, he]; rfl) _ _ (W5.same rfl) (W5.get .here)
theorem ok_turn_of {f C : Addr} {fd : FuncData} (F : Fun K "turn_of" "turn_of" s_turn_of f fd) (c_NoPoint : Ex0 P w K mg base "NoPoint" C) (d_is_point : Df P w K mg base CX0 4 "is_point" ["thing"] sp_isP) (d_spread : Df P w K mg base CX0 1 "spread" ["point"] sp_spread) (d_line_through : Df P w K mg base CX0 1 "line_through" ["one", "other"] sp_line) (d_side_of : Df P w K mg base CX0 1 "side_of" ["line", "spot"] sp_side) : FnOk P w K mg base (L2.CX P w) 5 f fd ["one", "other", "third"] (sp_turn C) := by
  have sc := sc_turn_of
  refine F.okX sc (fun vs H Q E h => ?_) (fun cdv A outer s H vs Q E hr h => ?_)
  · obtain ⟨sa, ds, t, r, ⟨x, y, z, rfl, _⟩, _⟩ := h
    exact r.lens
  · obtain ⟨sa, ds, t, r, ⟨d, e, o, rfl, z1, z2, z3⟩, no, q⟩ := h
    obtain ⟨x, y, z, rfl, r0, r1, r2⟩ := rps3 r
    refine ⟨_, (pss_cons (ps_if (PW.pt (pw_or (pt_not (pt_val (pe_call d_is_point.F (hr.mono (by decide)) (by rfl) d_is_point.g d_is_point.kp d_is_point.b .nil pass0 (pa_cons (pv 0) pa_nil)))) (pw_or (pt_not (pt_val (pe_call d_is_point.F (hr.mono (by decide)) (by rfl) d_is_point.g d_is_point.kp d_is_point.b .nil pass0 (pa_cons (pv 1) pa_nil)))) (pw_or1 (pt_not (pt_val (pe_call d_is_point.F (hr.mono (by decide)) (by rfl) d_is_point.g d_is_point.kp d_is_point.b .nil pass0 (pa_cons (pv 2) pa_nil)))))))) (pss_one (ps_raise rfl (takes_of rfl rfl rfl rfl) (pmk0 c_NoPoint (hr.mono (by decide)) (by rfl)))) pss_nil)
    (pss_cons (ps_asg (pe_call d_side_of.F (hr.mono (by decide)) (by rfl) d_side_of.g d_side_of.kp d_side_of.b .nil pass0 (pa_cons (pe_call d_line_through.F (hr.mono (by decide)) (by rfl) d_line_through.g d_line_through.kp d_line_through.b .nil pass0 (pa_cons (pe_call d_spread.F (hr.mono (by decide)) (by rfl) d_spread.g d_spread.kp d_spread.b .nil pass0 (pa_cons (pv 0) pa_nil)) (pa_cons (pe_call d_spread.F (hr.mono (by decide)) (by rfl) d_spread.g d_spread.kp d_spread.b .nil pass0 (pa_cons (pv 1) pa_nil)) pa_nil))) (pa_cons (pe_call d_spread.F (hr.mono (by decide)) (by rfl) d_spread.g d_spread.kp d_spread.b .nil pass0 (pa_cons (pv 2) pa_nil)) pa_nil))) (pg_name (i := 3) sc.nd rfl (.inl rfl)))
    (pss_cons (ps_if (pt_cmpR op_eq (pv 3) pe_int (nomark _)) (pss_one (ps_ret pe_int)) pss_nil)
    (pss_one (ps_ret (pe_ifExp (pt_cmpR op_gt (pv 3) pe_int (nomark _)) pe_int (pe_un un_neg pe_int))))))), ?_⟩
    (rw [show start ["one", "other", "third", "side"] [x, y, z] = [some (x), some (y), some (z), none] from rfl]; try dsimp only [cxOf])
    have W := wd_start t (.cons r0 (.cons r1 (.cons r2 .nil)))
    walk_at "w"
    rename_i H1 W1
    cases hd : isP d with
    | false =>
      walk_at "w"
      exact no (show (!isP d || !isP e || !isP o) = true by rw [hd]; rfl) _ (W1.same rfl)
    | true =>
    walk_at "w"
    rename_i H2 W2
    cases he : isP e with
    | false =>
      walk_at "w"
      exact no (show (!isP d || !isP e || !isP o) = true by rw [hd, he]; rfl) _ (W2.same rfl)
    | true =>
    walk_at "w"
    rename_i H3 W3
    cases ho : isP o with
    | false =>
      walk_at "w"
      exact no (show (!isP d || !isP e || !isP o) = true by rw [hd, he, ho]; rfl) _ (W3.same rfl)
    | true =>
    obtain ⟨a, b, c, g, rfl, l1, l2⟩ := isP_inv hd
    obtain ⟨a2, b2, c2, g2, rfl, m1, m2⟩ := isP_inv he
    obtain ⟨a3, b3, c3, g3, rfl, n1, n2⟩ := isP_inv ho
    obtain ⟨s1, s2, s3, s4⟩ := z1 _ _ _ _ rfl
    obtain ⟨t1, t2, t3, t4⟩ := z2 _ _ _ _ rfl
    obtain ⟨o1, o2, o3, o4⟩ := z3 _ _ _ _ rfl
    have f1 : Fq 500 a b := ⟨l1, s1, s2⟩
    have f2 : Fq 500 c g := ⟨l2, s3, s4⟩
    have f3 : Fq 500 a2 b2 := ⟨m1, t1, t2⟩
    have f4 : Fq 500 c2 g2 := ⟨m2, t3, t4⟩
    have f5 : Fq 500 a3 b3 := ⟨n1, o1, o2⟩
    have f6 : Fq 500 c3 g3 := ⟨n2, o3, o4⟩
    obtain ⟨wp1, u1, u2, u3, _, _⟩ := spr f1 f2
    obtain ⟨wp2, v1, v2, v3, _, _⟩ := spr f3 f4
    obtain ⟨wp3, x1, x2, x3, _, _⟩ := spr f5 f6
    have hb : badP3 [Pnt a b c g, Pnt a2 b2 c2 g2, Pnt a3 b3 c3 g3] = false := (show (!isP (Pnt a b c g) || !isP (Pnt a2 b2 c2 g2) || !isP (Pnt a3 b3 c3 g3)) = false by rw [hd, he, ho]; rfl)
    walk_at "w"
    refine call_P (ds := [Pnt a b c g]) W3 (.cons (W3.get .here) .nil) ⟨_, _, _, _, rfl, f1, f2⟩ fun H4 => v_tup fun p4 W4 => ?_
    walk_at "w"
    refine call_P (ds := [Pnt a2 b2 c2 g2]) W4 (.cons (W4.get (.there (.there .here))) .nil) ⟨_, _, _, _, rfl, f3, f4⟩ fun H5 => v_tup fun p5 W5 => ?_
    walk_at "w"
    refine call_P (ds := [f_spread [Pnt a b c g], f_spread [Pnt a2 b2 c2 g2]]) W5 (.cons (W5.get (.there .here)) (.cons (W5.get .here) .nil)) ⟨_, _, _, _, _, _, rfl, ⟨u1, u2, u3⟩, v1, v2, v3⟩ fun H6 => v_tup fun p6 W6 => ?_
    walk_at "w"
    refine call_P (ds := [Pnt a3 b3 c3 g3]) W6 (.cons (W6.get (.there (.there (.there (.there (.there .here)))))) .nil) ⟨_, _, _, _, rfl, f5, f6⟩ fun H7 => v_tup fun p7 W7 => ?_
    walk_at "w"
    refine call_P (ds := [f_line [f_spread [Pnt a b c g], f_spread [Pnt a2 b2 c2 g2]], f_spread [Pnt a3 b3 c3 g3]]) W7 (.cons (W7.get (.there .here)) (.cons (W7.get .here) .nil)) ⟨_, _, _, _, _, _, rfl, ⟨((u2.mul v3).sub (u3.mul v2)).mono (by decide), ((u3.mul v1).sub (u1.mul v3)).mono (by decide), ((u1.mul v2).sub (u2.mul v1)).mono (by decide)⟩, x1, x2, x3⟩ fun H8 => ?_
    obtain ⟨k, ez⟩ : ∃ k, f_side [f_line [f_spread [Pnt a b c g], f_spread [Pnt a2 b2 c2 g2]], f_spread [Pnt a3 b3 c3 g3]] = .int k := ⟨_, rfl⟩
    have et : f_turn [Pnt a b c g, Pnt a2 b2 c2 g2, Pnt a3 b3 c3 g3] = .int (sgn k) := by
      show sgnD (f_side [f_line [f_spread [Pnt a b c g], f_spread [Pnt a2 b2 c2 g2]], f_spread [Pnt a3 b3 c3 g3]]) = _
      rw [ez]
      rfl
    have fin : ∀ j H', Same H H' → sgn k = j → Q (.int j) H' := fun j H' s ek => q hb H' _ s (by
      rw [et, ek]
      exact .int _)
    rw [ez]
    refine v_int fun W8 => ?_
    walk_at "w"
    refine w_ifd (fun h => ?_) (fun h => ?_)
    · walk_at "w"
      exact fin _ _ (W8.same rfl) (by subst h; rfl)
    · walk_at "w"
      refine w_ifd (fun h2 => ?_) (fun h2 => ?_)
      · walk_at "w"
        exact fin _ _ (W8.same rfl) (by unfold sgn; rw [if_neg h, if_pos h2])
      · walk_at "w"
        exact fin _ _ (W8.same rfl) (by unfold sgn; rw [if_neg h, if_neg h2])
end

/-! ### the law's own judgement of points and sides (as for k05) -/
def PtK (k : Nat) (d : PyData) : Prop := ∃ a b c e, d = Pnt a b c e ∧ Fq k a b ∧ Fq k c e
def FitP (d : PyData) : Prop := ∀ x y, d = .tuple [x, y] → Fit x ∧ Fit y
abbrev sp_lisP : Sp := Pf (fun ds => ∃ d, ds = [d] ∧ FitP d) f_isP
def f_flat : List PyData → PyData
  | [.tuple [.tuple [.int a, .int b], .tuple [.int c, .int e]]] => Tri (a * e) (c * b) (b * e)
  | _ => .none
abbrev sp_flat : Sp := Pf (fun ds => ∃ a b c e, ds = [Pnt a b c e] ∧ Fq 300 a b ∧ Fq 300 c e) f_flat
theorem sgn_eq (g : Int) : eqB (sgn g) ((if ltB 0 g = true then 1 else 0) - if ltB g 0 = true then 1 else 0) = true := by
  refine eqT ?_
  unfold sgn
  rw [ltB_def, ltB_def]
  split
  · rename_i h
    subst h
    rfl
  · split
    · rename_i h
      rw [if_pos (decide_eq_true h), if_neg (by simp; omega)]
      rfl
    · rename_i h
      rw [if_neg (by simp; omega), if_pos (decide_eq_true (by omega))]
      rfl
def detD : List PyData → PyData
  | [.tuple [.int a0, .int a1, .int a2], .tuple [.int b0, .int b1, .int b2], .tuple [.int c0, .int c1, .int c2]] => .int (a0 * (b1 * c2 - c1 * b2) - a1 * (b0 * c2 - c0 * b2) + a2 * (b0 * c1 - c0 * b1))
  | _ => .none
def f_lside : List PyData → PyData
  | [x, y, z] => sgnD (detD [f_flat [x], f_flat [y], f_flat [z]])
  | _ => .none
abbrev sp_lside : Sp := Pf (fun ds => ∃ x y z, ds = [x, y, z] ∧ PtK 300 x ∧ PtK 300 y ∧ PtK 300 z) f_lside
def GdP (d : PyData) : Prop := (SzP d ∧ ∀ a b c e : Int, d = Pnt a b c e → Bt 300 a ∧ Bt 300 b ∧ Bt 300 c ∧ Bt 300 e) ∧ FitP d
theorem gd_no {d : PyData} (h : ∀ a b c e, d ≠ Pnt a b c e) (f : FitP d) : GdP d := ⟨⟨fun a b c e z => absurd z (h a b c e), fun a b c e z => absurd z (h a b c e)⟩, f⟩
theorem gd_pt {k : Nat} {a b c e : Int} (ha : Bt 300 a ∧ Bt 300 b ∧ Bt 300 c ∧ Bt 300 e) : GdP (Pnt a b c e) := by
  have key : ∀ a' b' c' e' : Int, Pnt a b c e = Pnt a' b' c' e' → Bt 300 a' ∧ Bt 300 b' ∧ Bt 300 c' ∧ Bt 300 e' := fun a' b' c' e' z => by
    injection z with z
    injection z with z1 z2
    injection z2 with z2 z3
    injection z1 with z1
    injection z1 with z1 z4
    injection z4 with z4 _
    injection z2 with z2
    injection z2 with z2 z5
    injection z5 with z5 _
    injection z1 with z1
    injection z2 with z2
    injection z4 with z4
    injection z5 with z5
    subst z1 z2 z4 z5
    exact ha
  refine ⟨⟨fun a' b' c' e' z => ?_, key⟩, fun x y z => ?_⟩
  · obtain ⟨h1, h2, h3, h4⟩ := key a' b' c' e' z
    exact ⟨h1.mono (by decide), h2.mono (by decide), h3.mono (by decide), h4.mono (by decide)⟩
  · injection z with z
    injection z with z1 z2
    injection z2 with z2 _
    subst z1 z2
    exact ⟨(sz_fr (ha.1.mono (by decide)) (ha.2.1.mono (by decide))).fit, (sz_fr (ha.2.2.1.mono (by decide)) (ha.2.2.2.mono (by decide))).fit⟩
theorem PtK.gd {d : PyData} {k : Nat} (h : PtK k d) (e : k ≤ 300) : GdP d := by
  obtain ⟨a, b, c, g, rfl, f1, f2⟩ := h
  exact gd_pt (k := 0) ⟨f1.ba.mono e, f1.bb.mono e, f2.ba.mono e, f2.bb.mono e⟩
theorem c_lisP {b : Bool} {sa : Addr} {H0 H : Hp} {acc : List V} {dacc : List PyData} {x : V} {d : PyData} {Q : VK} {E : XK} (W : Wd b sa H0 H acc dacc) (r : Rp sa H x d) (f : FitP d) (h : ∀ H', Wd b sa H0 H' acc dacc → Q (.bl (isP d)) H') : sp_lisP [x] H Q E :=
  call_P (ds := [d]) W (.cons r .nil) ⟨d, rfl, f⟩ fun H' => v_bl fun W' => h H' (W'.sub (by cases W'.r; assumption))
theorem fit_no {d : PyData} (h : ∀ a b : Int, d ≠ .tuple [.int a, .int b]) : Fit d := fun a b e => absurd e (h a b)
theorem fit_lit {a b : Int} (h : b.natAbs < 2 ^ 100) : Fit (.tuple [.int a, .int b]) := fun a' b' e => by
  injection e with e
  injection e with _ e
  injection e with e
  injection e with e
  subst e
  exact (bt_lit 100 h).log (by decide)
local macro_rules | `(tactic| walk_at "fitt") => `(tactic| first | (refine fit_no ?_; intro _ _ z; cases z; done) | exact fit_lit (by decide))
theorem sgn_neg (z : Int) : sgn (-z) = - sgn z := by
  unfold sgn
  by_cases h0 : z = 0
  · subst h0
    rfl
  · rw [if_neg h0, if_neg (by omega)]
    by_cases h1 : 0 < z
    · rw [if_pos h1, if_neg (by omega)]
    · rw [if_neg h1, if_pos (by omega)]
      rfl
theorem sgn_pos {z k : Int} (h : 0 < k) : sgn (z * k) = sgn z := by
  unfold sgn
  by_cases h0 : z = 0
  · subst h0
    simp
  · rw [if_neg h0, if_neg (Int.mul_ne_zero h0 (by omega))]
    by_cases h1 : 0 < z
    · rw [if_pos h1, if_pos (Int.mul_pos h1 h)]
    · rw [if_neg h1, if_neg (fun z2 => by
        have := Int.mul_lt_mul_of_pos_right (show z < 0 by omega) h
        omega)]
theorem gq {k : Nat} {a b c g : Int} (f1 : Fq k a b) (f2 : Fq k c g) : ∃ r, 0 < r ∧ wg b g * r = b * g := by
  have p1 : 1 ≤ b := f1.low.pos
  have p2 : 1 ≤ g := f2.low.pos
  refine ⟨((Nat.gcd b.natAbs g.natAbs : Nat) : Int), ?_, ?_⟩
  · have := Nat.gcd_pos_of_pos_left g.natAbs (show 0 < b.natAbs by omega)
    omega
  · unfold wg
    rw [← Int.natCast_mul, Nat.mul_comm, Nat.gcd_mul_lcm, Int.natCast_mul, Int.natAbs_of_nonneg (by omega), Int.natAbs_of_nonneg (by omega)]
theorem flat_eq {a b c g X Y w r : Int} (n1 : b ≠ 0) (n2 : g ≠ 0) (x : X * b = a * w) (y : Y * g = c * w) (e : w * r = b * g) : f_flat [Pnt a b c g] = Tri (X * r) (Y * r) (w * r) := by
  show Tri (a * g) (c * b) (b * g) = _
  have h1 : a * g = X * r := Int.eq_of_mul_eq_mul_right n1 (by grind)
  have h2 : c * b = Y * r := Int.eq_of_mul_eq_mul_right n2 (by grind)
  rw [h1, h2, e]
theorem turn_ring (a b c d e f g h i : Int) : (e * i - f * h) * a + (f * g - d * i) * b + (d * h - e * g) * c = (b * f - c * e) * g + (c * d - a * f) * h + (a * e - b * d) * i := by grind
theorem turn_ring2 (a b c d e f g h i : Int) : (e * c - f * b) * g + (f * a - d * c) * h + (d * b - e * a) * i = -((b * f - c * e) * g + (c * d - a * f) * h + (a * e - b * d) * i) := by grind
theorem det_1 (a b c d e f g h i r : Int) : (a * r) * (e * i - h * f) - (b * r) * (d * i - g * f) + (c * r) * (d * h - g * e) = (a * (e * i - h * f) - b * (d * i - g * f) + c * (d * h - g * e)) * r := by grind
theorem det_2 (a b c d e f g h i r : Int) : a * ((e * r) * i - h * (f * r)) - b * ((d * r) * i - g * (f * r)) + c * ((d * r) * h - g * (e * r)) = (a * (e * i - h * f) - b * (d * i - g * f) + c * (d * h - g * e)) * r := by grind
theorem det_3 (a b c d e f g h i r : Int) : a * (e * (i * r) - (h * r) * f) - b * (d * (i * r) - (g * r) * f) + c * (d * (h * r) - (g * r) * e) = (a * (e * i - h * f) - b * (d * i - g * f) + c * (d * h - g * e)) * r := by grind
theorem det_0 (a b c d e f g h i : Int) : a * (e * i - h * f) - b * (d * i - g * f) + c * (d * h - g * e) = (b * f - c * e) * g + (c * d - a * f) * h + (a * e - b * d) * i := by grind
theorem side_main {a b c g a2 b2 c2 g2 a3 b3 c3 g3 : Int} (f1 : Fq 300 a b) (f2 : Fq 300 c g) (f3 : Fq 300 a2 b2) (f4 : Fq 300 c2 g2) (f5 : Fq 300 a3 b3) (f6 : Fq 300 c3 g3) :
    ∃ k : Int, f_turn [Pnt a b c g, Pnt a2 b2 c2 g2, Pnt a3 b3 c3 g3] = .int k ∧ f_turn [Pnt a2 b2 c2 g2, Pnt a3 b3 c3 g3, Pnt a b c g] = .int k ∧ f_turn [Pnt a2 b2 c2 g2, Pnt a b c g, Pnt a3 b3 c3 g3] = .int (-k) ∧ f_lside [Pnt a b c g, Pnt a2 b2 c2 g2, Pnt a3 b3 c3 g3] = .int k := by
  obtain ⟨wp1, _, _, _, x1, y1⟩ := spr (f1.mono (show 300 ≤ 500 by decide)) (f2.mono (show 300 ≤ 500 by decide))
  obtain ⟨wp2, _, _, _, x2, y2⟩ := spr (f3.mono (show 300 ≤ 500 by decide)) (f4.mono (show 300 ≤ 500 by decide))
  obtain ⟨wp3, _, _, _, x3, y3⟩ := spr (f5.mono (show 300 ≤ 500 by decide)) (f6.mono (show 300 ≤ 500 by decide))
  have sp1 : f_spread [Pnt a b c g] = Tri (a * qt (wg b g) b) (c * qt (wg b g) g) (wg b g) := rfl
  have sp2 : f_spread [Pnt a2 b2 c2 g2] = Tri (a2 * qt (wg b2 g2) b2) (c2 * qt (wg b2 g2) g2) (wg b2 g2) := rfl
  have sp3 : f_spread [Pnt a3 b3 c3 g3] = Tri (a3 * qt (wg b3 g3) b3) (c3 * qt (wg b3 g3) g3) (wg b3 g3) := rfl
  obtain ⟨r1, q1, e1⟩ := gq f1 f2
  obtain ⟨r2, q2, e2⟩ := gq f3 f4
  obtain ⟨r3, q3, e3⟩ := gq f5 f6
  have n1 := f1.ne
  have n2 := f2.ne
  have n3 := f3.ne
  have n4 := f4.ne
  have n5 := f5.ne
  have n6 := f6.ne
  generalize a * qt (wg b g) b = X1 at x1 sp1
  generalize c * qt (wg b g) g = Y1 at y1 sp1
  generalize a2 * qt (wg b2 g2) b2 = X2 at x2 sp2
  generalize c2 * qt (wg b2 g2) g2 = Y2 at y2 sp2
  generalize a3 * qt (wg b3 g3) b3 = X3 at x3 sp3
  generalize c3 * qt (wg b3 g3) g3 = Y3 at y3 sp3
  generalize wg b g = w1 at *
  generalize wg b2 g2 = w2 at *
  generalize wg b3 g3 = w3 at *
  have fl1 : f_flat [Pnt a b c g] = Tri (X1 * r1) (Y1 * r1) (w1 * r1) := flat_eq n1 n2 x1 y1 e1
  have fl2 : f_flat [Pnt a2 b2 c2 g2] = Tri (X2 * r2) (Y2 * r2) (w2 * r2) := flat_eq n3 n4 x2 y2 e2
  have fl3 : f_flat [Pnt a3 b3 c3 g3] = Tri (X3 * r3) (Y3 * r3) (w3 * r3) := flat_eq n5 n6 x3 y3 e3
  have tn : ∀ d e o : PyData, f_turn [d, e, o] = sgnD (f_side [f_line [f_spread [d], f_spread [e]], f_spread [o]]) := fun _ _ _ => rfl
  have ls : ∀ d e o : PyData, f_lside [d, e, o] = sgnD (detD [f_flat [d], f_flat [e], f_flat [o]]) := fun _ _ _ => rfl
  have sd : ∀ a b c d e f g h i : Int, f_side [f_line [Tri a b c, Tri d e f], Tri g h i] = .int ((b * f - c * e) * g + (c * d - a * f) * h + (a * e - b * d) * i) := fun _ _ _ _ _ _ _ _ _ => rfl
  have dd : ∀ a0 a1 a2 b0 b1 b2 c0 c1 c2 : Int, detD [Tri a0 a1 a2, Tri b0 b1 b2, Tri c0 c1 c2] = .int (a0 * (b1 * c2 - c1 * b2) - a1 * (b0 * c2 - c0 * b2) + a2 * (b0 * c1 - c0 * b1)) := fun _ _ _ _ _ _ _ _ _ => rfl
  rw [tn, tn, tn, ls, sp1, sp2, sp3, fl1, fl2, fl3, sd, sd, sd, dd]
  refine ⟨_, rfl, ?_, ?_, ?_⟩
  · show PyData.int (sgn _) = PyData.int (sgn _)
    rw [turn_ring X1 Y1 w1 X2 Y2 w2 X3 Y3 w3]
  · show PyData.int (sgn _) = PyData.int (- sgn _)
    rw [← sgn_neg, turn_ring2 X1 Y1 w1 X2 Y2 w2 X3 Y3 w3]
  · show PyData.int (sgn _) = PyData.int (sgn _)
    rw [det_1, det_2, det_3, det_0, sgn_pos q1, sgn_pos q2, sgn_pos q3]
section
variable {P : Program} {w : World} {K : PySem.W.Frag} {mg : Str → Option Value} {base : Heap}
end

/-! ### rules of our own: slices with a step, rows of either kind, what is compared with its copy -/
def idxs (n : Nat) (lo hi st : Option Int) : List Nat := sliceRange (sliceBounds lo hi st n).1 (sliceBounds lo hi st n).2.1 (sliceBounds lo hi st n).2.2
def pickV (xs : List V) (lo hi st : Option Int) : List V := (idxs xs.length lo hi st).filterMap (xs[·]?)
theorem vals_at : ∀ {xs : List V} {us : List Value} (r : Vals xs us) (j : Nat), (xs[j]? = none ∧ us[j]? = none) ∨ ∃ x u, xs[j]? = some x ∧ us[j]? = some u ∧ RelV x u
  | [], [], .nil, j => .inl ⟨by simp, by simp⟩
  | x :: xs, u :: us, .cons h t, 0 => .inr ⟨x, u, rfl, rfl, h⟩
  | x :: xs, u :: us, .cons h t, j + 1 => by
    have := vals_at t j
    simpa using this
theorem vals_pick {xs : List V} {us : List Value} (r : Vals xs us) : ∀ l : List Nat, Vals (l.filterMap (xs[·]?)) (l.filterMap (us[·]?))
  | [] => .nil
  | j :: l => by
    rcases vals_at r j with ⟨h1, h2⟩ | ⟨x, u, h1, h2, h3⟩
    · rw [List.filterMap_cons_none h1, List.filterMap_cons_none h2]
      exact vals_pick r l
    · rw [List.filterMap_cons_some h1, List.filterMap_cons_some h2]
      exact .cons h3 (vals_pick r l)
theorem rps_pick {sa : Addr} {H : Hp} {xs : List V} {ds : List PyData} (r : Rps sa H xs ds) : ∀ l : List Nat, Rps sa H (l.filterMap (xs[·]?)) (l.filterMap (ds[·]?))
  | [] => .nil
  | j :: l => by
    cases e : ds[j]? with
    | none =>
      have e2 : xs[j]? = none := by
        rw [List.getElem?_eq_none_iff, r.lens]
        exact List.getElem?_eq_none_iff.mp e
      rw [List.filterMap_cons_none e, List.filterMap_cons_none e2]
      exact rps_pick r l
    | some d =>
      obtain ⟨v, e2, rv⟩ := rps_at r e
      rw [List.filterMap_cons_some e, List.filterMap_cons_some e2]
      exact .cons rv (rps_pick r l)
theorem idxs_le (n : Nat) (lo hi st : Option Int) : (idxs n lo hi st).length ≤ n := by
  unfold idxs
  refine sliceRange_length_le _ _ _ _ (fun hc => ?_) fun hc => ?_
  · simp only [sliceBounds] at hc ⊢
    simp only [hc, if_true]
    constructor
    · cases lo with
      | none => simp
      | some i => dsimp only; omega
    · cases hi with
      | none => simp
      | some i => dsimp only; omega
  · simp only [sliceBounds] at hc ⊢
    simp only [hc, if_false]
    constructor
    · cases lo with
      | none => simp
      | some i => dsimp only; omega
    · cases hi with
      | none => simp
      | some i => dsimp only; omega
def tSl3 (K : PySem.W.Frag) (te : TE) (tl th : TO) (ts : TE) : TE := fun σ H Q => te σ H fun x H1 => tl σ H1 fun l H2 => th σ H2 fun u H3 => ts σ H3 fun o H4 => ∃ i : Int, o = .int i ∧ i ≠ 0 ∧ ∃ a xs, x = .ref a ∧ SqL K H4 a xs ∧ ∀ p, H4 p = none → Q (.ref p) (upd H4 p (.lst (pickV xs l u (some i))))
theorem pe_sl3 {X : Cx} {e st : Expr} {lo hi : Option Expr} {te ts : TE} {tl th : TO} {p3 pos : Pos} (he : PE X e te) (hl : PO X lo tl) (hu : PO X hi th) (hst : PE X st ts) : PE X (.Subscript e (.Slice lo hi (some st) p3) pos) (tSl3 X.K te tl th ts) := by
  refine ⟨fun pins s σ H Q I h => ?_⟩
  refine Subscript_ (thn (he.run pins s σ H _ I h) fun v s1 ⟨x, H1, I1, r1, q1⟩ => ?_)
  refine wpAny_Slice (thn (hl.run pins s1 σ H1 _ I1 q1) fun vl s2 ⟨l, H2, I2, pl, q2⟩ => thn (hu.run pins s2 σ H2 _ I2 q2) fun vu s3 ⟨u, H3, I3, pu, q3⟩ => ?_)
  have hs : PO X (some st) (tPart ts) := po_some hst
  refine thn (hs.run pins s3 σ H3 (fun o H4 => ∃ i : Int, o = some i ∧ i ≠ 0 ∧ ∃ a xs, x = .ref a ∧ SqL X.K H4 a xs ∧ ∀ p, H4 p = none → Q (.ref p) (upd H4 p (.lst (pickV xs l u (some i))))) I3 ?_) fun vs s4 ⟨o, H4, I4, ps, q4⟩ => ?_
  · have mono : ∀ {R R' : VK}, (∀ x H, R x H → R' x H) → R = R' ∨ True := fun _ => .inr trivial
    show ts σ H3 fun x H1 => ∃ i, x = .int i ∧ _
    exact (by
      have e : (fun (o : V) (H4 : Hp) => ∃ i : Int, o = .int i ∧ i ≠ 0 ∧ ∃ a xs, x = .ref a ∧ SqL X.K H4 a xs ∧ ∀ p, H4 p = none → Q (.ref p) (upd H4 p (.lst (pickV xs l u (some i))))) = fun (y : V) (H1 : Hp) => ∃ i : Int, y = .int i ∧ ∃ j : Int, some i = some j ∧ j ≠ 0 ∧ ∃ a xs, x = .ref a ∧ SqL X.K H1 a xs ∧ ∀ p, H1 p = none → Q (.ref p) (upd H1 p (.lst (pickV xs l u (some j)))) := by
        funext o H4
        apply propext
        constructor
        · rintro ⟨i, h1, h2, h3⟩
          exact ⟨i, h1, i, rfl, h2, h3⟩
        · rintro ⟨i, h1, j, h2, h3, h4⟩
          cases h2
          exact ⟨i, h1, h3, h4⟩
      rw [← e]
      exact q3)
  obtain ⟨i, rfl, i0, a, xs, ex, hx, q⟩ := q4
  subst ex
  cases r1
  have I5 : Inv X pins σ H4 { s4 with heap := s4.heap.push { cls := .type "slice", data := .fields #[vl, vu, vs] } } := I4.kept (t' := s4.toks) fun b ob q => Heap.get?_push_of_some _ q
  obtain ⟨its, r, ht, hz⟩ := I5.list hx
  have hlen := r.length
  show wpAny (model X.prog X.w) X.A (subscriptTail e (.Slice lo hi (some st) p3) (.ref a) (.ref s4.heap.objs.size)) (EP X pins σ Q) X.xe { s4 with heap := s4.heap.push { cls := .type "slice", data := .fields #[vl, vu, vs] } }
  refine tail_any (ops := [.ref a, .ref s4.heap.objs.size]) ht.isList.typeIs (PySem.slot_list_getitem.lookup) ?_ (by with_unfolding_all rfl)
  refine wpAny_getItem_list_slice ht.isList (Heap.IsSliceOf.new _ vl vu vs) pl pu ps (fun z => i0 (by cases z; rfl)) ?_ (by rw [List.size_toArray]; omega)
  have ep : slicePick its.toArray l u (some i) = ((idxs xs.length l u (some i)).filterMap (its[·]?)).toArray := by
    unfold slicePick idxs
    rw [List.size_toArray, ← hlen]
    congr 2
    funext x
    simp
  rw [ep]
  refine ⟨.ref _, _, I5.laid (t' := s4.toks) (o := .lst (pickV xs l u (some i))) (fun b ob q => Heap.get?_push_of_some _ q) (Nat.le_refl _) ?_, rfl, q _ (I5.hok.fresh (Nat.le_refl _))⟩
  exact ⟨Nat.le_trans (Nat.le_trans (List.length_filterMap_le _ _) (idxs_le _ _ _ _)) hz, _, 0, vals_pick r _, Heap.get?_push_size _ rfl⟩
theorem w_sl3 {K : PySem.W.Frag} {te ts : TE} {tl th : TO} {σ : L2.St} {H : Hp} {Q : VK} (h : te σ H fun x H1 => tl σ H1 fun l H2 => th σ H2 fun u H3 => ts σ H3 fun o H4 => ∃ i : Int, o = .int i ∧ i ≠ 0 ∧ ∃ a xs, x = .ref a ∧ SqL K H4 a xs ∧ ∀ p, H4 p = none → Q (.ref p) (upd H4 p (.lst (pickV xs l u (some i))))) : tSl3 K te tl th ts σ H Q := h
theorem sl3 {K : PySem.W.Frag} {b : Bool} {sa : Addr} {H0 H : Hp} {acc : List V} {dacc : List PyData} {Q : VK} {p : Addr} {ds : List PyData} {l u : Option Int} {i : Int} (W : Wd b sa H0 H acc dacc) (m : In2 (.ref p) (.list ds) acc dacc) (i0 : i ≠ 0)
    (h : ∀ H' q es, es.length ≤ ds.length → (∀ d ∈ es, d ∈ ds) → Wd b sa H0 H' (.ref q :: acc) (.list es :: dacc) → Q (.ref q) H') : ∃ j : Int, V.int i = .int j ∧ j ≠ 0 ∧ ∃ a xs, V.ref p = .ref a ∧ SqL K H a xs ∧ ∀ p, H p = none → Q (.ref p) (upd H p (.lst (pickV xs l u (some j)))) := by
  cases W.get m with
  | @lst _ xs _ n hx r =>
    refine ⟨i, rfl, i0, p, xs, rfl, SqL.of hx, fun q nq => ?_⟩
    refine h _ q ((idxs xs.length l u (some i)).filterMap (ds[·]?)) ?_ (fun d hd => ?_) ((W.go (same_new nq)).put (.lst (W.ne nq) upd_same ((rps_pick r _).but (same_new nq).but)))
    · refine Nat.le_trans (List.length_filterMap_le _ _) ?_
      rw [← r.lens]
      exact idxs_le _ _ _ _
    · obtain ⟨j, _, e⟩ := List.mem_filterMap.mp hd
      exact List.mem_of_getElem? e
/-! rows: lists and tuples alike -/
def iSeq (K : PySem.W.Frag) (tl : TE) : TI := fun σ H R => tl σ H fun x H1 => ∃ a, x = .ref a ∧ (((∃ xs, SqL K H1 a xs) ∧ R (Itl K a) H1) ∨ ((∃ xs, SqT K H1 a xs) ∧ R (Itt K a) H1))
theorem pi_seq {X : Cx} {tg l : Expr} {tl : TE} (hl : PE X l tl) : PI X tg l (iSeq X.K tl) := by
  refine ⟨fun pins s σ H R I h => ?_⟩
  refine thn (hl.run pins s σ H _ I h) fun v s1 ⟨x, H1, I1, r1, q1⟩ => ?_
  obtain ⟨a, e, q⟩ := q1
  subst e
  cases r1
  rcases q with ⟨⟨xs, hq⟩, q⟩ | ⟨⟨xs, hq⟩, q⟩
  · obtain ⟨its, rv, p, hz⟩ := I1.list hq
    refine wpAny_pyIter_list p.isList ?_
    refine ⟨s1.heap.objs.size, [s1.heap.objs.size], _, _, H1, rfl, I1.kept (t' := s1.toks) fun b o e => Heap.get?_push_of_some _ e, turn_list a _, ⟨_, Heap.get?_push_size _ rfl, rfl, rfl⟩, fun b hb => ?_, q⟩
    have e : b = s1.heap.objs.size := by simpa using hb
    subst e
    exact I1.fpOk (Nat.le_refl _) (I1.hok.fresh (Nat.le_refl _))
  · obtain ⟨its, rv, p, hz⟩ := I1.tuple hq
    refine wpAny_pyIter_tuple (show s1.heap.IsTuple a its.toArray from p) ?_
    refine ⟨s1.heap.objs.size, [s1.heap.objs.size], _, _, H1, rfl, I1.kept (t' := s1.toks) fun b o e => Heap.get?_push_of_some _ e, turn_tuple a _, ⟨_, Heap.get?_push_size _ rfl, rfl, rfl⟩, fun b hb => ?_, q⟩
    have e : b = s1.heap.objs.size := by simpa using hb
    subst e
    exact I1.fpOk (Nat.le_refl _) (I1.hok.fresh (Nat.le_refl _))
theorem w_iseq {K : PySem.W.Frag} {tl : TE} {σ : L2.St} {H : Hp} {R : It → Hp → Prop} (h : tl σ H fun x H1 => ∃ a, x = .ref a ∧ (((∃ xs, SqL K H1 a xs) ∧ R (Itl K a) H1) ∨ ((∃ xs, SqT K H1 a xs) ∧ R (Itt K a) H1))) : iSeq K tl σ H R := h
/-! isinstance(x, (list, tuple)) -/
def isLT : PyData → Bool | .list _ => true | .tuple _ => true | _ => false
theorem kd_list {K : PySem.W.Frag} (d : PyData) : PySem.W.kitOne K (.type (tyD d)) (.type "list") = some (match d with | .list _ => true | _ => false) := by
  cases d with
  | none => exact kit_ty (a := "NoneType") (b := "list") (r := false) (by decide +kernel)
  | bool z => exact kit_ty (a := "bool") (b := "list") (r := false) (by decide +kernel)
  | int z => exact kit_ty (a := "int") (b := "list") (r := false) (by decide +kernel)
  | str z => exact kit_ty (a := "str") (b := "list") (r := false) (by decide +kernel)
  | list z => exact kit_ty (a := "list") (b := "list") (r := true) (by decide +kernel)
  | tuple z => exact kit_ty (a := "tuple") (b := "list") (r := false) (by decide +kernel)
  | dict z => exact kit_ty (a := "dict") (b := "list") (r := false) (by decide +kernel)
theorem kd_LT {K : PySem.W.Frag} (d : PyData) : PySem.W.kitAny K (.type (tyD d)) [.type "list", .type "tuple"] = some (isLT d) := by
  show (match PySem.W.kitOne K (.type (tyD d)) (.type "list") with | some true => some true | some false => (match PySem.W.kitOne K (.type (tyD d)) (.type "tuple") with | some true => some true | some false => some false | none => none) | none => none) = _
  rw [kd_list, kd_tuple]
  cases d <;> rfl
theorem nt_ty {xs : List V} {H : Hp} {Q : VK} (hl : xs.length.ble 1000 = true) (h : ∀ p, H p = none → Q (.ref p) (upd H p (.tup xs))) : NT Q xs H := ⟨Nat.le_of_lt (small1000 (Nat.le_of_ble_eq_true hl)), h⟩
theorem c_isLT {K : PySem.W.Frag} {b : Bool} {sa : Addr} {H0 H : Hp} {acc : List V} {dacc : List PyData} {Q : VK} {x : V} {d : PyData} {p : Addr} (W : Wd b sa H0 H acc dacc) (np : H p = none) (r : Rp sa H x d) (h : ∀ H', Wd b sa H0 H' acc dacc → Q (.bl (isLT d)) H') : rIsiT K [x, .ref p] (upd H p (.tup [.ty "list", .ty "tuple"])) Q :=
  ⟨x, p, _, _, [.type "list", .type "tuple"], isLT d, rfl, upd_same, .cons (.ty "list") (.cons (.ty "tuple") .nil), (r.but (same_new np).but).ty, kd_LT d, h _ (W.go (same_new np))⟩
/-! != of a row and its copy, of a thing and itself -/
def okV : V → Bool | .non => true | .bl _ => true | .int _ => true | .str _ => true | .ref _ => true | _ => false
theorem okV_of {sa : Addr} {H : Hp} {v : V} {d : PyData} (r : Rp sa H v d) : okV v = true := by cases r <;> rfl
theorem okVs_of {sa : Addr} {H : Hp} : ∀ {vs : List V} {ds : List PyData}, Rps sa H vs ds → ∀ v ∈ vs, okV v = true
  | _, _, .nil, v, h => absurd h (by simp)
  | _, _, .cons r t, v, h => by
    rcases List.mem_cons.mp h with rfl | h
    · exact okV_of r
    · exact okVs_of t v h
theorem eqAt_self {A : Around} {s : Shared} {x : V} {u v : Value} (h : okV x = true) (ru : RelV x u) (rv : RelV x v) : SeqAt.EqAt A s u v true := by
  cases x with
  | non =>
    cases ru
    cases rv
    exact SeqAt.EqAt.same _
  | bl b =>
    cases ru
    cases rv
    exact SeqAt.EqAt.same _
  | int i =>
    have := eqAt_V (A := A) (s := s) (y := .int i) (x := .int i) ru rv rfl rfl
    rwa [show eqV (.int i) (.int i) = true from beq_self_eq_true i] at this
  | str z =>
    have := eqAt_V (A := A) (s := s) (y := .str z) (x := .str z) ru rv rfl rfl
    rwa [show eqV (.str z) (.str z) = true from beq_self_eq_true z] at this
  | ref a =>
    cases ru
    cases rv
    exact SeqAt.EqAt.same _
  | _ => cases h
def rNeC (K : PySem.W.Frag) : R2 := fun x y H Q => Q (.bl false) H ∧ ((x = y ∧ (x = .non ∨ (∃ b, x = .bl b) ∨ (∃ i, x = .int i) ∨ ∃ z, x = .str z)) ∨ (∃ a b xs, x = .ref a ∧ y = .ref b ∧ H a = some (.lst xs) ∧ H b = some (.lst xs) ∧ ∀ v ∈ xs, okV v = true) ∨
  (∃ a xs, x = .ref a ∧ y = .ref a ∧ H a = some (.tup xs) ∧ ∀ v ∈ xs, okV v = true) ∨ ∃ a kvs, x = .ref a ∧ y = .ref a ∧ H a = some (.dK kvs) ∧ ∀ p ∈ kvs, valV kvs p.1 = some p.2 ∧ flatB p.2 = true)
theorem eqAt_items {A : Around} {s : Shared} : ∀ {xs : List V} {us vs : List Value}, (∀ v ∈ xs, okV v = true) → Vals xs us → Vals xs vs → ∀ (j : Nat) (j1 : j < us.length) (j2 : j < vs.length), SeqAt.EqAt A s us[j] vs[j] true
  | [], _, _, _, .nil, .nil, j, j1, _ => absurd j1 (by simp)
  | x :: xs, u :: us, v :: vs, h, .cons r t, .cons r2 t2, 0, _, _ => eqAt_self (h x List.mem_cons_self) r r2
  | x :: xs, u :: us, v :: vs, h, .cons r t, .cons r2 t2, j + 1, j1, j2 => eqAt_items (fun z hz => h z (List.mem_cons_of_mem _ hz)) t t2 j (by simpa using j1) (by simpa using j2)
theorem op_neC {X : Cx} (hu : X.A.units + 64 < cLine) : OpR X (compareOp .NotEq) (rNeC X.K) := by
  intro pins s σ H x y v u Q I rx ry h
  obtain ⟨q, h⟩ := h
  have hu1 : X.A.units < cLine := by omega
  rcases h with ⟨rfl, h⟩ | ⟨a, b, xs, rfl, rfl, ha, hb, ok⟩ | ⟨a, xs, rfl, rfl, ha, ok⟩ | ⟨a, kvs, rfl, rfl, ha, ok⟩
  · rcases h with rfl | ⟨b, rfl⟩ | ⟨i, rfl⟩ | ⟨z, rfl⟩
    · cases rx
      cases ry
      exact SeqAt.RcNeAt.none_none X.prog X.w X.xe _ ⟨.bl _, H, I, rfl, q⟩
    · cases rx
      cases ry
      refine SeqAt.RcNeAt.bool_bool b b X.prog X.w X.xe _ ⟨.bl _, H, I, rfl, ?_⟩
      rw [beq_self_eq_true]
      exact q
    · obtain ⟨t, rfl⟩ := rx
      obtain ⟨t', rfl⟩ := ry
      refine SeqAt.RcNeAt.int_int i _ i _ X.prog X.w X.xe _ ⟨.bl _, H, I, rfl, ?_⟩
      rw [beq_self_eq_true]
      exact q
    · obtain ⟨t, rfl⟩ := rx
      obtain ⟨t', rfl⟩ := ry
      refine SeqAt.RcNeAt.str_str z _ z _ X.prog X.w X.xe _ ⟨.bl _, H, I, rfl, ?_⟩
      rw [beq_self_eq_true]
      exact q
  · cases rx
    cases ry
    obtain ⟨its, r, pl, hz⟩ := I.list (SqL.of ha)
    obtain ⟨its2, r2, pl2, hz2⟩ := I.list (SqL.of hb)
    have l1 := r.length
    have l2 := r2.length
    have := SeqAt.RcNeAt.lists (A := X.A) (e := fun _ => true) pl.isList pl2.isList (by rw [List.size_toArray, List.size_toArray]; omega) hu1 (fun j j1 j2 => by
      have := eqAt_items (A := X.A.in1) (s := s) ok r r2 j (by simpa using j1) (by simpa using j2)
      simpa using this)
    refine this X.prog X.w X.xe _ ⟨.bl _, H, I, rfl, ?_⟩
    have e : ∀ n : Nat, ((List.range n).all fun _ => true) = true := fun n => List.all_eq_true.mpr fun _ _ => rfl
    rw [e]
    exact q
  · cases rx
    cases ry
    obtain ⟨its, r, pl, hz⟩ := I.tuple (SqT.of ha)
    have := SeqAt.RcNeAt.tuples (A := X.A) (e := fun _ => true) (show s.heap.IsTuple a its.toArray from pl) (show s.heap.IsTuple a its.toArray from pl) hu1 (fun j j1 j2 => by
      have := eqAt_items (A := X.A.in1) (s := s) ok r r j (by simpa using j1) (by simpa using j2)
      simpa using this)
    refine this X.prog X.w X.xe _ ⟨.bl _, H, I, rfl, ?_⟩
    have e : ∀ n : Nat, ((List.range n).all fun _ => true) = true := fun n => List.all_eq_true.mpr fun _ _ => rfl
    try rw [e]
    first | exact q | (simpa using q)
  · exact op_ne_dictA hu1 pins s σ H _ _ v u Q I rx ry ⟨a, a, kvs, kvs, rfl, rfl, ha, ha, rfl, ok, q⟩

/-! ### what a plate of points is -/
def ptsOf : PyData → Option (List PyData) | .list xs => some xs | .tuple xs => some xs | _ => none
def SideOk (x y z : PyData) : Prop := f_lside [x, y, z] = .int 1
def DistOk (x y : PyData) : Prop := ∃ p q r s l : Rat, x = PQ p q ∧ y = PQ r s ∧ l * l = (r - p) * (r - p) + (s - q) * (s - q)
structure PlateP (xs : List PyData) : Prop where
  l3 : 3 ≤ xs.length
  l8 : xs.length ≤ 8
  pts : ∀ x ∈ xs, isP x = true
  left : ∀ (k j : Nat) (x y z : PyData), xs[k]? = some x → xs[(k + 1) % xs.length]? = some y → xs[j]? = some z → j ≠ k → j ≠ (k + 1) % xs.length → SideOk x y z
  dist : ∀ (k : Nat) (x y : PyData), xs[k]? = some x → xs[(k + 1) % xs.length]? = some y → DistOk x y
def IsPl (d : PyData) : Prop := ∃ xs, ptsOf d = some xs ∧ PlateP xs
def GdT (d : PyData) : Prop := ∀ xs, ptsOf d = some xs → xs.length ≤ 40 ∧ ∀ x ∈ xs, GdP x
abbrev sp_judge : Sp := Pr (fun ds => ∃ d, ds = [d] ∧ GdT d) fun ds d' => ∃ b, d' = .bool b ∧ ∀ d, ds = [d] → (b = true ↔ IsPl d)
theorem isLT_pts {d : PyData} : isLT d = true ↔ ∃ xs, ptsOf d = some xs := by
  cases d <;> simp [isLT, ptsOf]
theorem isLT_no {d : PyData} (h : isLT d = false) : ¬ IsPl d := fun ⟨xs, e, _⟩ => by
  have := isLT_pts.mpr ⟨xs, e⟩
  rw [h] at this
  cases this
section
variable {b : Bool} {sa : Addr} {H0 H : Hp} {acc : List V} {dacc : List PyData} {Q : VK} {K : PySem.W.Frag}
theorem row_ref {v : V} {d : PyData} {ds : List PyData} (r : Rp sa H v d) (e : ptsOf d = some ds) : ∃ p xs, v = .ref p ∧ Rps sa H xs ds ∧ ((SqL K H p xs ∧ H p = some (.lst xs) ∧ d = .list ds) ∨ (SqT K H p xs ∧ H p = some (.tup xs) ∧ d = .tuple ds)) := by
  cases r with
  | @lst a xs ds n h r =>
    cases e
    exact ⟨a, xs, rfl, r, .inl ⟨SqL.of h, h, rfl⟩⟩
  | @tup a xs ds n h r =>
    cases e
    exact ⟨a, xs, rfl, r, .inr ⟨SqT.of h, h, rfl⟩⟩
  | _ => cases e
theorem l_row {p : Addr} {d : PyData} {ds : List PyData} (r : Rp sa H (.ref p) d) (e : ptsOf d = some ds) (h : Q (.int (ds.length : Int)) H) : rLenQ K [.ref p] H Q := by
  obtain ⟨p', xs, ep, rs, h2⟩ := row_ref (K := K) r e
  cases ep
  rw [← rs.lens] at h
  rcases h2 with ⟨h2, _⟩ | ⟨h2, _⟩
  · exact ⟨p, xs, rfl, .inl h2, h⟩
  · exact ⟨p, xs, rfl, .inr h2, h⟩
theorem x_row {p : Addr} {d z : PyData} {ds : List PyData} {i : Int} {j : Nat} (W : Wd b sa H0 H acc dacc) (r : Rp sa H (.ref p) d) (e : ptsOf d = some ds) (hi : i = (j : Int)) (ez : ds[j]? = some z) (h : VS z fun x => Wd b sa H0 H (x :: acc) (z :: dacc) → Q x H) : rIx K (.ref p) (.int i) H Q := by
  subst hi
  obtain ⟨p', xs, ep, rs, h2⟩ := row_ref (K := K) r e
  cases ep
  obtain ⟨v, e1, r1⟩ := rps_at rs ez
  rcases h2 with ⟨h2, _⟩ | ⟨h2, _⟩
  · exact .inl ⟨p, xs, j, v, rfl, rfl, h2, atI_nat e1, h.of r1 (W.put r1)⟩
  · exact .inr (.inl ⟨p, xs, j, v, rfl, rfl, h2, atI_nat e1, h.of r1 (W.put r1)⟩)
/-- a loop over a row's things that is left early or goes on -/
theorem lp_row {p : Addr} {d : PyData} {ds : List PyData} {g : TG} {tb : TS} {D : Ends} {σ : L2.St} (r : Rp sa H (.ref p) d) (e : ptsOf d = some ds) (Pv : Nat → L2.St → Hp → Prop) (h0 : Pv 0 σ H) (hk : ∀ i σ H', Pv i σ H' → Same H H')
    (hs : ∀ i x z σ H', ds[i]? = some z → Rp sa H' x z → Pv i σ H' → g x σ H' fun σ2 H2 => tb { D with nx := Pv (i + 1), ct := Pv (i + 1), bk := D.nx } σ2 H2) (hd : ∀ σ H', Pv ds.length σ H' → D.nx σ H') :
    ∃ a, V.ref p = .ref a ∧ (((∃ xs, SqL K H a xs) ∧ LoopG (Itl K a) g tb D σ H) ∨ ((∃ xs, SqT K H a xs) ∧ LoopG (Itt K a) g tb D σ H)) := by
  obtain ⟨p', xs, ep, rs, h2⟩ := row_ref (K := K) r e
  cases ep
  have ll := rs.lens
  have step : ∀ i x σ H', xs[i]? = some x → Pv i σ H' → g x σ H' fun σ2 H2 => tb { D with nx := Pv (i + 1), ct := Pv (i + 1), bk := D.nx } σ2 H2 := fun i x σ H' hx hp => by
    have hi : i < ds.length := by
      rw [← ll]
      exact (List.getElem?_eq_some_iff.mp hx).1
    obtain ⟨v, e1, r1⟩ := rps_at rs (List.getElem?_eq_getElem hi)
    rw [hx] at e1
    cases e1
    exact hs i x _ σ H' (List.getElem?_eq_getElem hi) (r1.same (hk i σ H' hp)) hp
  rcases h2 with ⟨h2, h3, _⟩ | ⟨h2, h3, _⟩
  · exact ⟨p, rfl, .inl ⟨⟨xs, h2⟩, lp_list (xs := xs) Pv h0 (fun i σ H' _ hp => SqL.of (hk i σ H' hp _ _ h3)) step (by rw [ll]; exact hd)⟩⟩
  · exact ⟨p, rfl, .inr ⟨⟨xs, h2⟩, lp_tup (xs := xs) Pv h0 (fun i σ H' _ hp => SqT.of (hk i σ H' hp _ _ h3)) step (by rw [ll]; exact hd)⟩⟩
end
/-- a point as two rational numbers -/
theorem fr_fq {a b : Int} (l : Low a b) : Fr a b = FQ ((a : Rat) / (b : Rat)) := by
  have hb : b ≠ 0 := by have := l.pos; omega
  obtain ⟨h1, h2⟩ := q_low (q := (a : Rat) / (b : Rat)) l (Rat.div_mul_cancel (i_ne hb))
  unfold FQ
  rw [h1, h2]
theorem isP_pq {x : PyData} (h : isP x = true) (g : GdP x) : ∃ p q, x = PQ p q ∧ Qb 300 p ∧ Qb 300 q ∧ PtK 300 x := by
  obtain ⟨a, b, c, e, rfl, l1, l2⟩ := isP_inv h
  obtain ⟨g1, g2, g3, g4⟩ := g.1.2 a b c e rfl
  have hb : b ≠ 0 := by have := l1.pos; omega
  have he : e ≠ 0 := by have := l2.pos; omega
  refine ⟨(a : Rat) / (b : Rat), (c : Rat) / (e : Rat), ?_, qb_frac g1 g2 hb, qb_frac g3 g4 he, ⟨a, b, c, e, rfl, ⟨l1, g1, g2⟩, ⟨l2, g3, g4⟩⟩⟩
  show PyData.tuple [Fr a b, Fr c e] = _
  rw [fr_fq l1, fr_fq l2]
theorem isP_of_pq (p q : Rat) : isP (PQ p q) = true := by
  show (isF (FQ p) && isF (FQ q)) = true
  rw [show isF (FQ p) = true from isF_fr (low_q p), show isF (FQ q) = true from isF_fr (low_q q)]
  rfl
theorem pq_inj {p q r s : Rat} (h : PQ p q = PQ r s) : p = r ∧ q = s := by
  have fqi : ∀ {a b : Rat}, FQ a = FQ b → a = b := fun {a b} h => by
    unfold FQ at h
    injection h with h
    injection h with h1 h2
    injection h2 with h2 _
    injection h1 with h1
    injection h2 with h2
    exact Rat.ext h1 (by omega)
  injection h with h
  injection h with h1 h2
  injection h2 with h2 _
  exact ⟨fqi h1, fqi h2⟩
theorem isP_in {xs : List PyData} {k : Nat} {x : PyData} (h : ∀ x ∈ xs, isP x = true) (e : xs[k]? = some x) : isP x = true := h x (List.mem_of_getElem? e)

/-! ### the law's judgement -/
theorem Wd.rebase {sa : Addr} {H0 H : Hp} {vs : List V} {ds : List PyData} (W : Wd false sa H0 H vs ds) : Wd false sa H H vs ds := ⟨But.refl _ _, fun _ => Same.refl _, fun e => (nomatch e), W.tr, W.r⟩
theorem lside_int {x y z : PyData} (h1 : PtK 300 x) (h2 : PtK 300 y) (h3 : PtK 300 z) : ∃ k : Int, f_lside [x, y, z] = .int k := by
  obtain ⟨a, b, c, e, rfl, f1, f2⟩ := h1
  obtain ⟨a', b', c', e', rfl, f3, f4⟩ := h2
  obtain ⟨a2, b2, c2, e2, rfl, f5, f6⟩ := h3
  obtain ⟨k, _, _, _, h⟩ := side_main f1 f2 f3 f4 f5 f6
  exact ⟨k, h⟩
theorem mod_after {k n : Nat} (h : k < n) : (k + 1) % n < n := Nat.mod_lt _ (by omega)
section
variable {P : Program} {w : World} {K : PySem.W.Frag} {mg : Str → Option Value} {base : Heap}
end

/-! ### the program's judgement: its parts -/
theorem lp_enum {K : PySem.W.Frag} {a : Addr} {xs : List V} {g : TG} {tb : TS} {D : Ends} {σ : L2.St} {H : Hp} (Pv : Nat → L2.St → Hp → Prop) (h0 : Pv 0 σ H) (hl : ∀ i σ H, i ≤ xs.length → Pv i σ H → SqL K H a xs)
    (hs : ∀ (i : Nat) x σ H T, xs[i]? = some x → Pv i σ H → H T = none → g (.ref T) σ (upd H T (.tup [.int (i : Int), x])) fun σ2 H2 => tb { D with nx := Pv (i + 1), ct := Pv (i + 1), bk := D.nx } σ2 H2) (hd : ∀ σ H, Pv xs.length σ H → D.nx σ H) : LoopG (Ite K a) g tb D σ H := by
  refine ⟨fun i m σ H => i ≤ xs.length ∧ m = xs.length - i ∧ Pv i σ H, ⟨xs.length, by omega, by omega, h0⟩, fun i m σ H ⟨h1, h2, h3⟩ => ?_⟩
  have hx := hl i σ H h1 h3
  by_cases e : i = xs.length
  · subst e
    exact .inl ⟨⟨xs, hx, Nat.le_refl _⟩, hd σ H h3⟩
  · have hi : i < xs.length := by omega
    have ei := List.getElem?_eq_getElem hi
    refine .inr ⟨⟨xs, _, hx, ei⟩, fun σ' H' => Pv (i + 1) σ' H', fun σ' H' hp => ⟨m - 1, by omega, by omega, by omega, hp⟩, fun x H' y => ?_⟩
    obtain ⟨T, x0, rfl, nT, rfl, all⟩ := y
    exact hs i x0 σ H T (all xs hx) h3 nT
theorem w_ienum {K : PySem.W.Frag} {ta : TA} {σ : L2.St} {H : Hp} {R : It → Hp → Prop} (h : ta σ H fun vs H1 => ∃ a xs, vs = [.ref a] ∧ SqL K H1 a xs ∧ R (Ite K a) H1) : iEnum K ta σ H R := h
theorem w_chain {r r' : R2} {ta tb tc : TE} {σ : L2.St} {H : Hp} {Q : VK} (h : ta σ H fun x H1 => tb σ H1 fun y H2 => r x y H2 fun z H3 => ∃ k, z = .bl k ∧ (if k = true then tc σ H3 fun w' H4 => r' y w' H4 Q else Q (.bl false) H3)) : tChain r r' ta tb tc σ H Q := h
/-- a spot: three integers of known size, the weight above 0 -/
def TriK (d : PyData) : Prop := ∃ x y z, d = Tri x y z ∧ Bt 1600 x ∧ Bt 1600 y ∧ Bt 1600 z ∧ 1 ≤ z
abbrev prSpots (ds : List PyData) : Prop := ∃ ss, ds = [.list ss] ∧ ss.length ≤ 8 ∧ ∀ s ∈ ss, TriK s
def lineAt (ss : List PyData) (k : Nat) : PyData := f_line [ss.getD k .none, ss.getD ((k + 1) % ss.length) .none]
abbrev sp_lines : Sp := Pf prSpots fun ds => match ds with | [.list ss] => .list ((List.range ss.length).map (lineAt ss)) | _ => .none
def SideT (ss : List PyData) (k j : Nat) : Prop := ∃ v : Int, f_side [lineAt ss k, ss.getD j .none] = .int v ∧ 0 < v
def ConvT (ss : List PyData) : Prop := ∀ k j, k < ss.length → j < ss.length → j ≠ k → j ≠ (k + 1) % ss.length → SideT ss k j
abbrev sp_conv : Sp := Pr prSpots fun ds d' => ∃ b, d' = .bool b ∧ ∀ ss, ds = [.list ss] → (b = true ↔ ConvT ss)
def DistT (ss : List PyData) : Prop := ∀ k, k < ss.length → f_dist [ss.getD (prv ss.length k) .none, ss.getD k .none] ≠ .none
abbrev sp_fsides : Sp := Pr prSpots fun ds d' => ∃ b, d' = .bool b ∧ ∀ ss, ds = [.list ss] → (b = true ↔ DistT ss)
abbrev sp_isrow : Sp := Pf (fun ds => ∃ d, ds = [d]) fun ds => match ds with | [d] => .bool (isLT d) | _ => .none
theorem mod2 {a n : Nat} (h : a < 2 * n) : (a < n ∧ a % n = a) ∨ (n ≤ a ∧ a % n = a - n) := by
  rcases Nat.lt_or_ge a n with z | z
  · exact .inl ⟨z, Nat.mod_eq_of_lt z⟩
  · exact .inr ⟨z, by rw [Nat.mod_eq_sub_mod z, Nat.mod_eq_of_lt (by omega)]⟩
theorem dist_two (a b c d e f : Int) : f_dist [Tri a b c, Tri d e f] = .none ∨ ∃ k m, f_dist [Tri a b c, Tri d e f] = Fr k m := by
  show (match f_root [.int (sq2 a b c d e f)] with | .int k => rt k (c * f) | _ => PyData.none) = _ ∨ ∃ k m, (match f_root [.int (sq2 a b c d e f)] with | .int k => rt k (c * f) | _ => PyData.none) = _
  rcases root_cases (sq2 a b c d e f) with ⟨k, ek⟩ | nk
  · rw [show f_root [.int (sq2 a b c d e f)] = .int (k : Int) by rw [ek]; exact f_root_sq]
    exact .inr ⟨_, _, rfl⟩
  · rw [f_root_no nk]
    exact .inl rfl
theorem triK_at {ss : List PyData} (h : ∀ s ∈ ss, TriK s) {k : Nat} (hk : k < ss.length) : ∃ x y z, ss[k]? = some (Tri x y z) ∧ ss.getD k .none = Tri x y z ∧ Bt 1600 x ∧ Bt 1600 y ∧ Bt 1600 z ∧ 1 ≤ z := by
  obtain ⟨x, y, z, e, r⟩ := h _ (List.getElem_mem hk)
  exact ⟨x, y, z, by rw [List.getElem?_eq_getElem hk, e], by rw [List.getD_eq_getElem?_getD, List.getElem?_eq_getElem hk, e]; rfl, r⟩
theorem line_at {ss : List PyData} (h : ∀ s ∈ ss, TriK s) {k : Nat} (hk : k < ss.length) : ∃ x y z, lineAt ss k = Tri x y z ∧ Bt 3500 x ∧ Bt 3500 y ∧ Bt 3500 z := by
  obtain ⟨x, y, z, _, e1, b1, b2, b3, _⟩ := triK_at h hk
  obtain ⟨x', y', z', _, e2, b4, b5, b6, _⟩ := triK_at h (Nat.mod_lt (k + 1) (show 0 < ss.length by omega))
  refine ⟨_, _, _, by unfold lineAt; rw [e1, e2]; rfl, ((b2.mul b6).sub (b3.mul b5)).mono (by decide), ((b3.mul b4).sub (b1.mul b6)).mono (by decide), ((b1.mul b5).sub (b2.mul b4)).mono (by decide)⟩
section
variable {P : Program} {w : World} {K : PySem.W.Frag} {mg : Str → Option Value} {base : Heap}
theorem ok_is_row {f : Addr} {fd : FuncData} (F : Fun K "is_row" "is_row" s_is_row f fd) (nb : Nb mg) : FnOk P w K mg base CX0 1 f fd ["thing"] sp_isrow := by
  have sc := sc_is_row
  refine F.ok sc (fun vs H Q E h => ?_) (fun cdv A outer s H vs Q E hr h => ?_)
  · obtain ⟨sa, ds, t, r, ⟨d, rfl⟩, q⟩ := h
    exact r.lens
  · obtain ⟨sa, ds, t, r, ⟨d, rfl⟩, q⟩ := h
    obtain ⟨x, rfl, r0⟩ := rps1 r
    refine ⟨_, (pss_one (ps_ret (pe_callB call_isiT (by rfl) nb.isinstance (by decide +kernel) (pa_cons (pv 0) (pa_cons (pe_tup (pa_cons (pe_bltn (v := .ty "list") (u := .type "list") (by rfl) nb.list (by decide +kernel) rfl) (pa_cons (pe_bltn (v := .ty "tuple") (u := .type "tuple") (by rfl) nb.tuple (by decide +kernel) rfl) pa_nil))) pa_nil))))), ?_⟩
    (rw [show start ["thing"] [x] = [some (x)] from rfl]; try dsimp only [cxOf])
    have W := wd_start t (.cons r0 .nil)
    walk_at "w"
    refine nt_ty rfl fun p np => ?_
    walk_at "w"
    refine c_isLT W np r0 fun H1 W1 => ?_
    exact q _ _ (W1.same rfl) (.bl _)
theorem ok_lines_of {f : Addr} {fd : FuncData} (F : Fun K "lines_of" "lines_of" s_lines_of f fd) (nb : Nb mg) (d_line_through : Df P w K mg base CX0 1 "line_through" ["one", "other"] sp_line) : FnOk P w K mg base CX0 2 f fd ["spots"] sp_lines := by
  have sc := sc_lines_of
  refine F.ok sc (fun vs H Q E h => ?_) (fun cdv A outer s H vs Q E hr h => ?_)
  · obtain ⟨sa, ds, t, r, ⟨ss, rfl, _⟩, q⟩ := h
    exact r.lens
  · obtain ⟨sa, ds, t, r, ⟨ss, rfl, l8, tri⟩, q⟩ := h
    obtain ⟨x, rfl, r0⟩ := rps1 r
    obtain ⟨p, rfl⟩ : ∃ p, x = .ref p := by cases r0; exact ⟨_, rfl⟩
    refine ⟨_, (pss_one (ps_ret (pe_lc (own := [("at", 1)]) (g := gName 1) (tt := tYes) rfl sc.nd (pi_range1 (by rfl) nb.range (pa_cons (pe_callB cq_len (by rfl) nb.len (by decide +kernel) (pa_cons (pv 0) pa_nil)) pa_nil)) (blkOk_by (N := NN_lines_of) (sc := defScope s_lines_of) (by decide +kernel)) (fun _ _ _ _ _ => pg_name (i := 1) sc.nd rfl (Or.inl rfl)) (fun _ _ _ _ _ => pts_nil) (fun _ _ _ _ _ => (pe_call d_line_through.F (hr.mono (by decide)) (by rfl) d_line_through.g d_line_through.kp d_line_through.b .nil pass0 (pa_cons (pe_ix (show IxR _ (rIxL K) from ix_list) (pv 0) (pv 1) (fun _ _ => rfl)) (pa_cons (pe_ix (show IxR _ (rIxL K) from ix_list) (pv 0) (pe_op op_sub (pe_op op_add (pv 1) pe_int) (pe_callB (show CallR _ _ (rLenQ K) from cq_len) (by rfl) nb.len (by decide +kernel) (pa_cons (pv 0) pa_nil))) (fun _ _ => rfl)) pa_nil))))))), ?_⟩
    (rw [show start ["spots", "at"] [.ref p] = [some (.ref p), none] from rfl]; try dsimp only [cxOf])
    have W := wd_start t (.cons r0 .nil)
    walk_at "w"
    refine w_lc ?_
    walk_at "w"
    rw [Int.toNat_natCast]
    refine lcp_range W (by omega) (fun i d => i < ss.length ∧ d = lineAt ss i) (fun i d ⟨hi, e⟩ => ?_) (fun x => rfl) (fun i H' Q' hi W1 hq => ?_) (fun H' D es W1 le all => ?_)
    · obtain ⟨_, _, _, e2, _⟩ := line_at tri hi
      rw [e, e2]
      rfl
    · obtain ⟨x, y, z, f1, g1, b1, b2, b3, _⟩ := triK_at tri hi
      obtain ⟨x', y', z', f2, g2, b4, b5, b6, _⟩ := triK_at tri (mod_after hi)
      show tCall sp_line [] E0 _ [some (.ref p), some (.int (0 + (i : Int)))] H' Q'
      walk_at "w"
      refine x_neg W1 (by walk_at "in2") (.inl (by rw [Int.zero_add])) f1 (v_tup fun c1 W2 => ?_)
      walk_at "w"
      refine x_neg W2 (by walk_at "in2") (j := (i + 1) % ss.length) ?_ f2 (v_tup fun c2 W3 => ?_)
      · rcases mod2 (show i + 1 < 2 * ss.length by omega) with ⟨h1, h2⟩ | ⟨h1, h2⟩
        · rw [h2]
          right
          omega
        · rw [h2]
          left
          omega
      walk_at "w"
      refine call_P (ds := [Tri x y z, Tri x' y' z']) W3 (.cons (W3.get (.there .here)) (.cons (W3.get .here) .nil)) ⟨_, _, _, _, _, _, rfl, ⟨b1, b2, b3⟩, b4, b5, b6⟩ fun H4 => v_tup fun c3 W4 => ?_
      exact hq _ _ _ (W4.same rfl) (W4.get .here) ⟨hi, by unfold lineAt; rw [g1, g2]⟩
    · have e : es = (List.range ss.length).map (lineAt ss) := by
        refine List.ext_getElem? fun k => ?_
        rw [List.getElem?_map]
        rcases Nat.lt_or_ge k es.length with z | z
        · rw [List.getElem?_eq_getElem z, List.getElem?_range (by omega)]
          exact congrArg some (all k _ (List.getElem?_eq_getElem z)).2
        · rw [List.getElem?_eq_none z, List.getElem?_eq_none (by rw [List.length_range]; omega)]
          rfl
      subst e
      exact q _ _ (W1.same rfl) (W1.get .here)
theorem ok_is_convex {f : Addr} {fd : FuncData} (F : Fun K "is_convex" "is_convex" s_is_convex f fd) (nb : Nb mg) (d_lines_of : Df P w K mg base CX0 2 "lines_of" ["spots"] sp_lines) (d_side_of : Df P w K mg base CX0 1 "side_of" ["line", "spot"] sp_side) : FnOk P w K mg base CX0 3 f fd ["spots"] sp_conv := by
  have sc := sc_is_convex
  refine F.ok sc (fun vs H Q E h => ?_) (fun cdv A outer s H vs Q E hr h => ?_)
  · obtain ⟨sa, ds, t, r, ⟨ss, rfl, _⟩, q⟩ := h
    exact r.lens
  · obtain ⟨sa, ds, t, r, ⟨ss, rfl, l8, tri⟩, q⟩ := h
    obtain ⟨x, rfl, r0⟩ := rps1 r
    obtain ⟨p, rfl⟩ : ∃ p, x = .ref p := by cases r0; exact ⟨_, rfl⟩
    refine ⟨_, (pss_cons (ps_asg (pe_callB cq_len (by rfl) nb.len (by decide +kernel) (pa_cons (pv 0) pa_nil)) (pg_name (i := 1) sc.nd rfl (.inl rfl)))
    (pss_cons (ps_for PassesOwn.never rfl (pi_enum (by rfl) nb.enumerate (pa_cons (pe_call d_lines_of.F (hr.mono (by decide)) (by rfl) d_lines_of.g d_lines_of.kp d_lines_of.b .nil pass0 (pa_cons (pv 0) pa_nil)) pa_nil)) (pg_tup (n := 2) (by rfl) (pgs_cons (pg_name (i := 2) sc.nd rfl (.inl rfl)) (pgs_cons (pg_name (i := 3) sc.nd rfl (.inl rfl)) pgs_nil))) (pss_one (ps_for PassesOwn.never rfl (pi_range2 (by rfl) nb.range (pa_cons pe_int (pa_cons (pv 1) pa_nil))) (pg_name (i := 4) sc.nd rfl (.inl rfl)) (pss_one (ps_if (pt_cmpR op_le (pe_call d_side_of.F (hr.mono (by decide)) (by rfl) d_side_of.g d_side_of.kp d_side_of.b .nil pass0 (pa_cons (pv 3) (pa_cons (pe_ix ix_list (pv 0) (pe_op op_sub (pe_op op_add (pv 2) (pv 4)) (pv 1)) (fun _ _ => rfl)) pa_nil))) pe_int (nomark _)) (pss_one (ps_ret pe_bl)) pss_nil)))))
    (pss_one (ps_ret pe_bl)))), ?_⟩
    (rw [show start ["spots", "many", "at", "line", "step"] [.ref p] = [some (.ref p), none, none, none, none] from rfl]; try dsimp only [cxOf])
    have W := wd_start t (.cons r0 .nil)
    walk_at "w"
    refine w_ienum ?_
    walk_at "w"
    refine call_P (ds := [.list ss]) W (.cons r0 .nil) ⟨ss, rfl, l8, tri⟩ fun H1 => v_lst fun q1 W1 => ?_
    walk_at "w"
    have W2 : Wd false sa H1 H1 [.ref q1, .ref p] [.list ((List.range ss.length).map (lineAt ss)), .list ss] := W1.rebase
    have S1 := W1.same rfl
    clear W1 W
    have fin : ∀ H' b, Same H1 H' → (b = true ↔ ConvT ss) → Q (.bl b) H' := fun H' b s e => q H' _ _ (S1.trans s) (.bl b) ⟨b, rfl, fun d' ed => (by cases ed; exact e)⟩
    have hg := W2.get (v := .ref q1) .here
    generalize hlm : (List.range ss.length).map (lineAt ss) = lm at hg
    cases hg with
    | @lst _ lx _ nq hx rl =>
    have ll : lx.length = ss.length := by rw [rl.lens, ← hlm, List.length_map, List.length_range]
    refine ⟨q1, lx, rfl, SqL.of hx, lp_enum (xs := lx) (fun i σ' H' => ∃ o2 o3 o4, σ' = [some (.ref p), some (.int (ss.length : Int)), o2, o3, o4] ∧ Same H1 H' ∧ ∀ k j, k < i → j < ss.length → j ≠ k → j ≠ (k + 1) % ss.length → SideT ss k j) ⟨_, _, _, rfl, Same.refl _, fun k j h => absurd h (by omega)⟩ (fun i σ H' _ ⟨_, _, _, _, s, _⟩ => SqL.of (s _ _ hx)) ?_ ?_⟩
    · rintro i x σ' H' T hx1 ⟨o2, o3, o4, rfl, s, all⟩ nT
      have hi : i < ss.length := by rw [← ll]; exact (List.getElem?_eq_some_iff.mp hx1).1
      obtain ⟨lx', ly, lz, el, c1, c2, c3⟩ := line_at tri hi
      obtain ⟨v, e1, r1⟩ := rps_at rl (j := i) (d := lineAt ss i) (by rw [← hlm, List.getElem?_map, List.getElem?_range hi]; rfl)
      rw [hx1] at e1
      cases e1
      rw [el] at r1
      have W3 : Wd false sa H' H' [.ref p] [.list ss] := ((W2.go s).rebase).sub (.cons ((W2.get (.there .here)).same s) .nil)
      have W4 : Wd false sa H' _ [.ref T, .ref p] [.tuple [.int (i : Int), Tri lx' ly lz], .list ss] := (W3.go (same_new (o := .tup [.int (i : Int), x]) nT)).put (.tup (W3.ne nT) upd_same (.cons (.int _) (.cons ((r1.same s).same (same_new nT)) .nil)))
      clear W3 W2
      walk_at "w"
      rename_i ln W5
      refine rng2 ⟨by omega, by omega⟩ ?_
      have W6 : Wd false sa _ _ [.ref ln, .ref p] [Tri lx' ly lz, .list ss] := W5.rebase.sub (.cons (W5.get .here) (.cons (W5.get (by walk_at "in2")) .nil))
      have s5 := s.trans (W5.same rfl)
      clear W4 W5
      generalize upd H' T (.tup [.int (i : Int), x]) = H5 at W6 s5 ⊢
      refine lp_range (fun st σ' H'' => ∃ o4, σ' = [some (.ref p), some (.int (ss.length : Int)), some (.int (i : Int)), some (.ref ln), o4] ∧ Same H5 H'' ∧ ∀ st', st' < st → SideT ss i ((i + 2 + st') % ss.length)) ⟨_, rfl, Same.refl _, fun st h => absurd h (by omega)⟩ ?_ ?_
      · rintro st σ' H'' hst ⟨o4, rfl, s6, all2⟩
        have hst : 2 + st < ss.length := by omega
        have W7 : Wd false sa H'' H'' [.ref ln, .ref p] [Tri lx' ly lz, .list ss] := (W6.go s6).rebase
        clear W6
        have hj : (i + 2 + st) % ss.length < ss.length := Nat.mod_lt _ (by omega)
        obtain ⟨x2, y2, z2, f2, g2, b4, b5, b6, _⟩ := triK_at tri hj
        walk_at "w"
        refine x_neg W7 (by walk_at "in2") (j := (i + 2 + st) % ss.length) ?_ f2 (v_tup fun c7 W8 => ?_)
        · rcases mod2 (show i + 2 + st < 2 * ss.length by omega) with ⟨h1, h2⟩ | ⟨h1, h2⟩
          · rw [h2]
            right
            omega
          · rw [h2]
            left
            omega
        walk_at "w"
        refine call_P (ds := [Tri lx' ly lz, Tri x2 y2 z2]) W8 (.cons (W8.get (.there .here)) (.cons (W8.get .here) .nil)) ⟨_, _, _, _, _, _, rfl, ⟨c1, c2, c3⟩, b4, b5, b6⟩ fun H9 => v_int fun W9 => ?_
        have ev : f_side [lineAt ss i, ss.getD ((i + 2 + st) % ss.length) .none] = .int (lx' * x2 + ly * y2 + lz * z2) := by rw [el, g2]; rfl
        walk_at "w"
        refine w_ifd (fun h0 => ?_) (fun h0 => ?_)
        · walk_at "w"
          refine fin _ _ (s5.trans (s6.trans (W9.same rfl))) ⟨fun z => (by cases z), fun h => ?_⟩
          obtain ⟨v, e2, e3⟩ := h i ((i + 2 + st) % ss.length) hi hj (by rcases mod2 (show i + 2 + st < 2 * ss.length by omega) with ⟨h1, h2⟩ | ⟨h1, h2⟩ <;> rw [h2] <;> omega) (by
            rcases mod2 (show i + 2 + st < 2 * ss.length by omega) with ⟨h1, h2⟩ | ⟨h1, h2⟩ <;> rw [h2] <;> rcases mod2 (show i + 1 < 2 * ss.length by omega) with ⟨h3, h4⟩ | ⟨h3, h4⟩ <;> rw [h4] <;> omega)
          rw [ev] at e2
          injection e2 with e2
          omega
        · walk_at "w"
          refine ⟨_, rfl, s6.trans (W9.same rfl), fun st' h => ?_⟩
          rcases Nat.lt_succ_iff_lt_or_eq.mp h with h | rfl
          · exact all2 st' h
          · exact ⟨_, ev, by omega⟩
      · rintro σ' H'' ⟨o4, rfl, s6, all2⟩
        refine ⟨_, _, _, rfl, s5.trans s6, fun k j hk hj n1 n2 => ?_⟩
        rcases Nat.lt_succ_iff_lt_or_eq.mp hk with hk | rfl
        · exact all k j hk hj n1 n2
        · rcases Nat.lt_or_ge j k with z | z
          · have e := all2 (j + ss.length - k - 2) (by
              rcases mod2 (show k + 1 < 2 * ss.length by omega) with ⟨h3, h4⟩ | ⟨h3, h4⟩ <;> rw [h4] at n2 <;> omega)
            rcases mod2 (show k + 1 < 2 * ss.length by omega) with ⟨h3, h4⟩ | ⟨h3, h4⟩
            · rw [show k + 2 + (j + ss.length - k - 2) = j + ss.length by omega, Nat.add_mod_right, Nat.mod_eq_of_lt hj] at e
              exact e
            · rw [h4] at n2
              rw [show k + 2 + (j + ss.length - k - 2) = j + ss.length by omega, Nat.add_mod_right, Nat.mod_eq_of_lt hj] at e
              exact e
          · rw [Nat.mod_eq_of_lt (show k + 1 < ss.length by omega)] at n2
            have e := all2 (j - k - 2) (by omega)
            rw [show k + 2 + (j - k - 2) = j by omega, Nat.mod_eq_of_lt hj] at e
            exact e
    · rintro σ' H' ⟨o2, o3, o4, rfl, s, all⟩
      walk_at "w"
      exact fin _ _ s ⟨fun _ k j hk => all k j (by omega), fun _ => rfl⟩
theorem ok_has_fraction_sides {f : Addr} {fd : FuncData} (F : Fun K "has_fraction_sides" "has_fraction_sides" s_has_fraction_sides f fd) (nb : Nb mg) (d_distance : Df P w K mg base CX0 3 "distance" ["one", "other"] sp_dist) : FnOk P w K mg base CX0 4 f fd ["spots"] sp_fsides := by
  have sc := sc_has_fraction_sides
  refine F.ok sc (fun vs H Q E h => ?_) (fun cdv A outer s H vs Q E hr h => ?_)
  · obtain ⟨sa, ds, t, r, ⟨ss, rfl, _⟩, q⟩ := h
    exact r.lens
  · obtain ⟨sa, ds, t, r, ⟨ss, rfl, l8, tri⟩, q⟩ := h
    obtain ⟨x, rfl, r0⟩ := rps1 r
    obtain ⟨p, rfl⟩ : ∃ p, x = .ref p := by cases r0; exact ⟨_, rfl⟩
    refine ⟨_, (pss_cons (ps_for PassesOwn.never rfl (pi_range1 (by rfl) nb.range (pa_cons (pe_callB cq_len (by rfl) nb.len (by decide +kernel) (pa_cons (pv 0) pa_nil)) pa_nil)) (pg_name (i := 1) sc.nd rfl (.inl rfl)) (pss_one (ps_if (pt_cmpR oq_isN (pe_call d_distance.F (hr.mono (by decide)) (by rfl) d_distance.g d_distance.kp d_distance.b .nil pass0 (pa_cons (pe_ix ix_list (pv 0) (pe_op op_sub (pv 1) pe_int) (fun _ _ => rfl)) (pa_cons (pe_ix ix_list (pv 0) (pv 1) (fun _ _ => rfl)) pa_nil))) pe_non (nomark _)) (pss_one (ps_ret pe_bl)) pss_nil)))
    (pss_one (ps_ret pe_bl))), ?_⟩
    (rw [show start ["spots", "at"] [.ref p] = [some (.ref p), none] from rfl]; try dsimp only [cxOf])
    have W := wd_start t (.cons r0 .nil)
    have fin : ∀ H' b, Same H H' → (b = true ↔ DistT ss) → Q (.bl b) H' := fun H' b s e => q H' _ _ s (.bl b) ⟨b, rfl, fun d' ed => (by cases ed; exact e)⟩
    walk_at "w"
    refine lp_range (fun i σ' H' => ∃ o1, σ' = [some (.ref p), o1] ∧ Same H H' ∧ ∀ k, k < i → f_dist [ss.getD (prv ss.length k) .none, ss.getD k .none] ≠ .none) ⟨_, rfl, Same.refl _, fun k h => absurd h (by omega)⟩ ?_ ?_
    · rintro i σ' H' hi ⟨o1, rfl, s, all⟩
      have hi : i < ss.length := by omega
      have W1 : Wd false sa H' H' [.ref p] [.list ss] := (W.go s).rebase
      clear W
      obtain ⟨x, y, z, f1, g1, b1, b2, b3, z1⟩ := triK_at tri (prv_lt hi)
      obtain ⟨x', y', z', f2, g2, b4, b5, b6, z2⟩ := triK_at tri hi
      walk_at "w"
      refine x_neg W1 (by walk_at "in2") (j := prv ss.length i) ?_ f1 (v_tup fun c1 W2 => ?_)
      · unfold prv
        split <;> omega
      walk_at "w"
      refine x_neg W2 (by walk_at "in2") (.inl (by rw [Int.zero_add])) f2 (v_tup fun c2 W3 => ?_)
      walk_at "w"
      refine call_P (ds := [Tri x y z, Tri x' y' z']) W3 (.cons (W3.get (.there .here)) (.cons (W3.get .here) .nil)) ⟨_, _, _, _, _, _, rfl, ⟨b1, b2, b3⟩, ⟨b4, b5, b6⟩, z1, z2⟩ fun H4 => ?_
      have ed : f_dist [ss.getD (prv ss.length i) .none, ss.getD i .none] = f_dist [Tri x y z, Tri x' y' z'] := by rw [g1, g2]
      rcases dist_two x y z x' y' z' with e | ⟨k, m, e⟩
      · rw [e]
        refine v_non fun W4 => ?_
        walk_at "w"
        exact fin _ _ (s.trans (W4.same rfl)) ⟨fun z => (by cases z), fun h => absurd (ed.trans e) (h i hi)⟩
      · rw [e]
        refine v_tup fun c3 W4 => ?_
        walk_at "w"
        refine ⟨_, rfl, s.trans (W4.same rfl), fun k' hk => ?_⟩
        rcases Nat.lt_succ_iff_lt_or_eq.mp hk with hk | rfl
        · exact all k' hk
        · rw [ed, e]
          intro z
          cases z
    · rintro σ' H' ⟨o1, rfl, s, all⟩
      walk_at "w"
      exact fin _ _ s ⟨fun _ k hk => all k (by omega), fun _ => rfl⟩
end

/-! ### both judgements are one -/
theorem sq_whole {q : Rat} {z : Int} (e : q * q = (z : Rat)) : ∃ r : Nat, z = (r : Int) * (r : Int) := by
  obtain ⟨h1, h2⟩ := sq_num q
  rw [e] at h1 h2
  have h3 : ((z : Rat).num) = z := by exact Rat.num_intCast z
  rw [h3] at h1
  exact ⟨q.num.natAbs, by rw [← Int.natCast_mul, Int.natAbs_mul_self]; exact h1⟩
def spotsOf (xs : List PyData) : List PyData := xs.map fun x => f_spread [x]
theorem pt_spread {x : PyData} (h : PtK 300 x) : ∃ (p q : Rat) (X Y w : Int), x = PQ p q ∧ f_spread [x] = Tri X Y w ∧ 1 ≤ w ∧ Bt 1600 X ∧ Bt 1600 Y ∧ Bt 1600 w ∧ p * (w : Rat) = (X : Rat) ∧ q * (w : Rat) = (Y : Rat) := by
  obtain ⟨a, b, c, e, rfl, f1, f2⟩ := h
  obtain ⟨w1, w2, w3, w4, w5, w6⟩ := spr (f1.mono (show 300 ≤ 500 by decide)) (f2.mono (show 300 ≤ 500 by decide))
  have hb := f1.ne
  have he := f2.ne
  refine ⟨(a : Rat) / (b : Rat), (c : Rat) / (e : Rat), _, _, _, ?_, rfl, w1, w2, w3, w4, ?_, ?_⟩
  · show PyData.tuple [Fr a b, Fr c e] = _
    rw [fr_fq f1.low, fr_fq f2.low]
  · have := i_ne hb
    have e2 : ((a * qt (wg b e) b * b : Int) : Rat) = ((a * wg b e : Int) : Rat) := by rw [w5]
    rw [Rat.intCast_mul (a * qt (wg b e) b) b, Rat.intCast_mul a (wg b e)] at e2
    generalize ((a * qt (wg b e) b : Int) : Rat) = X at *
    generalize ((wg b e : Int) : Rat) = W at *
    grind
  · have := i_ne he
    have e2 : ((c * qt (wg b e) e * e : Int) : Rat) = ((c * wg b e : Int) : Rat) := by rw [w6]
    rw [Rat.intCast_mul (c * qt (wg b e) e) e, Rat.intCast_mul c (wg b e)] at e2
    generalize ((c * qt (wg b e) e : Int) : Rat) = X at *
    generalize ((wg b e : Int) : Rat) = W at *
    grind
theorem dist_iff {x y : PyData} (hx : PtK 300 x) (hy : PtK 300 y) : f_dist [f_spread [x], f_spread [y]] ≠ .none ↔ DistOk x y := by
  obtain ⟨p, q, X, Y, w, rfl, e1, w1, _, _, _, px, qy⟩ := pt_spread hx
  obtain ⟨r, s, X', Y', w', rfl, e2, w2, _, _, _, rx, sy⟩ := pt_spread hy
  rw [e1, e2]
  have wn : (w : Rat) ≠ 0 := i_ne (by omega)
  have wn' : (w' : Rat) ≠ 0 := i_ne (by omega)
  have sq : ((sq2 X Y w X' Y' w' : Int) : Rat) = ((r - p) * (r - p) + (s - q) * (s - q)) * ((w : Rat) * (w' : Rat)) * ((w : Rat) * (w' : Rat)) := by
    unfold sq2
    rw [Rat.intCast_add, Rat.intCast_mul, Rat.intCast_mul, Rat.intCast_sub, Rat.intCast_sub, Rat.intCast_mul, Rat.intCast_mul, Rat.intCast_mul, Rat.intCast_mul, ← px, ← qy, ← rx, ← sy]
    generalize (w : Rat) = u at *
    generalize (w' : Rat) = v at *
    grind
  rcases root_cases (sq2 X Y w X' Y' w') with ⟨k, ek⟩ | nk
  · have e3 : f_root [.int (sq2 X Y w X' Y' w')] = .int (k : Int) := by rw [ek]; exact f_root_sq
    refine ⟨fun _ => ⟨p, q, r, s, ((k : Int) : Rat) / ((w : Rat) * (w' : Rat)), rfl, rfl, ?_⟩, fun _ => ?_⟩
    · rw [ek] at sq
      have hm := q_mul wn wn'
      rw [Rat.intCast_mul] at sq
      generalize (w : Rat) * (w' : Rat) = u at *
      generalize ((k : Int) : Rat) = m at *
      generalize (r - p) * (r - p) + (s - q) * (s - q) = t at *
      have hu : u * u ≠ 0 := q_mul hm hm
      grind
    · show (match f_root [.int (sq2 X Y w X' Y' w')] with | .int k => rt k (w * w') | _ => PyData.none) ≠ _
      rw [e3]
      intro z
      cases z
  · refine ⟨fun h => absurd ?_ h, fun ⟨p', q', r', s', l, e3, e4, e5⟩ => ?_⟩
    · show (match f_root [.int (sq2 X Y w X' Y' w')] with | .int k => rt k (w * w') | _ => PyData.none) = _
      rw [f_root_no nk]
    · obtain ⟨rfl, rfl⟩ := pq_inj e3
      obtain ⟨rfl, rfl⟩ := pq_inj e4
      obtain ⟨r0, er⟩ := sq_whole (q := l * ((w : Rat) * (w' : Rat))) (z := sq2 X Y w X' Y' w') (by rw [sq, ← e5]; grind)
      exact absurd er (nk r0)
theorem side_iff {x y z : PyData} (hx : PtK 300 x) (hy : PtK 300 y) (hz : PtK 300 z) : (∃ v : Int, f_side [f_line [f_spread [x], f_spread [y]], f_spread [z]] = .int v ∧ 0 < v) ↔ SideOk x y z := by
  obtain ⟨a, b, c, e, rfl, f1, f2⟩ := hx
  obtain ⟨a', b', c', e', rfl, f3, f4⟩ := hy
  obtain ⟨a2, b2, c2, e2, rfl, f5, f6⟩ := hz
  obtain ⟨k, h1, _, _, h4⟩ := side_main f1 f2 f3 f4 f5 f6
  obtain ⟨v, ev⟩ : ∃ v : Int, f_side [f_line [f_spread [Pnt a b c e], f_spread [Pnt a' b' c' e']], f_spread [Pnt a2 b2 c2 e2]] = .int v := ⟨_, rfl⟩
  have h5 : PyData.int (sgn v) = .int k := by
    rw [← h1]
    show _ = sgnD (f_side [f_line [f_spread [Pnt a b c e], f_spread [Pnt a' b' c' e']], f_spread [Pnt a2 b2 c2 e2]])
    rw [ev]
    rfl
  injection h5 with h5
  unfold SideOk
  rw [h4]
  constructor
  · rintro ⟨v', e1, e2⟩
    rw [ev] at e1
    injection e1 with e1
    subst e1
    rw [← h5]
    unfold sgn
    rw [if_neg (by omega), if_pos e2]
  · intro h
    injection h with h
    refine ⟨v, ev, ?_⟩
    rw [← h5] at h
    unfold sgn at h
    split at h
    · cases h
    · split at h
      · assumption
      · cases h
theorem spots_at {xs : List PyData} {k : Nat} {x : PyData} (h : xs[k]? = some x) : (spotsOf xs).getD k .none = f_spread [x] := by
  unfold spotsOf
  rw [List.getD_eq_getElem?_getD, List.getElem?_map, h]
  rfl
theorem spots_len (xs : List PyData) : (spotsOf xs).length = xs.length := List.length_map _
theorem judge_iff {xs : List PyData} (l3 : 3 ≤ xs.length) (l8 : xs.length ≤ 8) (hp : ∀ x ∈ xs, isP x = true) (hk : ∀ x ∈ xs, PtK 300 x) : (ConvT (spotsOf xs) ∧ DistT (spotsOf xs)) ↔ PlateP xs := by
  have at_ : ∀ {k}, k < xs.length → ∃ x, xs[k]? = some x ∧ PtK 300 x := fun {k} h => ⟨xs[k], List.getElem?_eq_getElem h, hk _ (List.getElem_mem h)⟩
  have lt : ∀ {k : Nat} {x : PyData}, xs[k]? = some x → k < xs.length := fun e => (List.getElem?_eq_some_iff.mp e).1
  constructor
  · rintro ⟨hc, hd⟩
    refine ⟨l3, l8, hp, fun k j x y z e1 e2 e3 n1 n2 => ?_, fun k x y e1 e2 => ?_⟩
    · have := hc k j (by rw [spots_len]; exact lt e1) (by rw [spots_len]; exact lt e3) n1 (by rw [spots_len]; exact n2)
      unfold SideT lineAt at this
      rw [spots_len, spots_at e1, spots_at e2, spots_at e3] at this
      exact (side_iff (hk _ (List.mem_of_getElem? e1)) (hk _ (List.mem_of_getElem? e2)) (hk _ (List.mem_of_getElem? e3))).mp this
    · have := hd ((k + 1) % xs.length) (by rw [spots_len]; exact lt e2)
      rw [spots_len, spots_at e2, spots_at (k := prv xs.length ((k + 1) % xs.length)) (x := x) (by
        rw [← e1]
        congr 1
        have := lt e1
        unfold prv
        rcases mod2 (show k + 1 < 2 * xs.length by omega) with ⟨h1, h2⟩ | ⟨h1, h2⟩ <;> rw [h2] <;> split <;> omega)] at this
      exact (dist_iff (hk _ (List.mem_of_getElem? e1)) (hk _ (List.mem_of_getElem? e2))).mp this
  · intro h
    refine ⟨fun k j hk1 hj n1 n2 => ?_, fun k hk1 => ?_⟩
    · rw [spots_len] at hk1 hj n2
      obtain ⟨x, e1, kx⟩ := at_ hk1
      obtain ⟨y, e2, ky⟩ := at_ (mod_after hk1)
      obtain ⟨z, e3, kz⟩ := at_ hj
      unfold SideT lineAt
      rw [spots_len, spots_at e1, spots_at e2, spots_at e3]
      exact (side_iff kx ky kz).mpr (h.left k j x y z e1 e2 e3 n1 n2)
    · rw [spots_len] at hk1 ⊢
      obtain ⟨x, e1, kx⟩ := at_ (prv_lt hk1)
      obtain ⟨y, e2, ky⟩ := at_ hk1
      rw [spots_at e1, spots_at e2]
      refine (dist_iff kx ky).mpr (h.dist (prv xs.length k) x y e1 ?_)
      rw [← e2]
      congr 1
      unfold prv
      rcases mod2 (show (if k = 0 then xs.length - 1 else k - 1) + 1 < 2 * xs.length by split <;> omega) with ⟨h1, h2⟩ | ⟨h1, h2⟩ <;> rw [h2] <;> split at h1 <;> split <;> omega
section
variable {P : Program} {w : World} {K : PySem.W.Frag} {mg : Str → Option Value} {base : Heap}
theorem ok_is_plate {f : Addr} {fd : FuncData} (F : Fun K "is_plate" "is_plate" s_is_plate f fd) (nb : Nb mg) (d_is_row : Df P w K mg base CX0 1 "is_row" ["thing"] sp_isrow) (d_is_point : Df P w K mg base CX0 4 "is_point" ["thing"] sp_isP) (d_spread : Df P w K mg base CX0 1 "spread" ["point"] sp_spread) (d_is_convex : Df P w K mg base CX0 3 "is_convex" ["spots"] sp_conv) (d_has_fraction_sides : Df P w K mg base CX0 4 "has_fraction_sides" ["spots"] sp_fsides) : FnOk P w K mg base CX0 5 f fd ["thing"] sp_judge := by
  have sc := sc_is_plate
  refine F.ok sc (fun vs H Q E h => ?_) (fun cdv A outer s H vs Q E hr h => ?_)
  · obtain ⟨sa, ds, t, r, ⟨d, rfl, _⟩, _⟩ := h
    exact r.lens
  · obtain ⟨sa, ds, t, r, ⟨d, rfl, gd⟩, q⟩ := h
    obtain ⟨x, rfl, r0⟩ := rps1 r
    refine ⟨_, (pss_cons (ps_if (PW.pt (pw_or (pt_not (pt_val (pe_call d_is_row.F (hr.mono (by decide)) (by rfl) d_is_row.g d_is_row.kp d_is_row.b .nil pass0 (pa_cons (pv 0) pa_nil)))) (pw_or1 (pt_not (pt_chain op_le op_le pe_int (pe_callB cq_len (by rfl) nb.len (by decide +kernel) (pa_cons (pv 0) pa_nil)) pe_int))))) (pss_one (ps_ret pe_bl)) pss_nil)
    (pss_cons (ps_for PassesOwn.never rfl (pi_seq (pv 0)) (pg_name (i := 1) sc.nd rfl (.inl rfl)) (pss_one (ps_if (pt_not (pt_val (pe_call d_is_point.F (hr.mono (by decide)) (by rfl) d_is_point.g d_is_point.kp d_is_point.b .nil pass0 (pa_cons (pv 1) pa_nil)))) (pss_one (ps_ret pe_bl)) pss_nil)))
    (pss_cons (ps_setLc (i := 2) (own := [("point", 1)]) (g := gName 1) (tt := tYes) rfl sc.nd rfl rfl (sw_true rfl rfl rfl (by decide +kernel)) (pi_seq (pv 0)) (blkOk_by (N := NN_is_plate) (sc := defScope s_is_plate) (by decide +kernel)) (fun _ _ _ _ _ => pg_name (i := 1) sc.nd rfl (Or.inl rfl)) (fun _ _ _ _ _ => pts_nil) (fun _ _ _ _ _ => (pe_call d_spread.F (hr.mono (by decide)) (by rfl) d_spread.g d_spread.kp d_spread.b .nil pass0 (pa_cons (pv 1) pa_nil))))
    (pss_one (ps_ret (pe_and (pe_call d_is_convex.F (hr.mono (by decide)) (by rfl) d_is_convex.g d_is_convex.kp d_is_convex.b .nil pass0 (pa_cons (pv 2) pa_nil)) (pe_one (pe_call d_has_fraction_sides.F (hr.mono (by decide)) (by rfl) d_has_fraction_sides.g d_has_fraction_sides.kp d_has_fraction_sides.b .nil pass0 (pa_cons (pv 2) pa_nil))))))))), ?_⟩
    (rw [show start ["thing", "point", "spots"] [x] = [some (x), none, none] from rfl]; try dsimp only [cxOf])
    have W := wd_start t (.cons r0 .nil)
    have fin : ∀ H' b, Same H H' → (b = true ↔ IsPl d) → Q (.bl b) H' := fun H' b s e => q H' _ _ s (.bl b) ⟨b, rfl, fun d' ed => (by cases ed; exact e)⟩
    walk_at "w"
    refine call_P (ds := [d]) W (.cons r0 .nil) ⟨d, rfl⟩ fun H1 => v_bl fun W0 => ?_
    have W1 : Wd false sa H H1 [x] [d] := W0.sub (.cons (W0.get (.there .here)) .nil)
    clear W0 W
    cases eL : isLT d with
    | false =>
      walk_at "w"
      exact fin _ _ (W1.same rfl) ⟨fun z => (by cases z), fun z => absurd z (isLT_no eL)⟩
    | true =>
      obtain ⟨xs, ex⟩ := isLT_pts.mp eL
      obtain ⟨g20, gp⟩ := gd xs ex
      obtain ⟨p0, _, rfl, _, _⟩ := row_ref (K := K) r0 ex
      have no : ¬ PlateP xs → ((false : Bool) = true ↔ IsPl d) := fun h => ⟨fun z => (by cases z), fun ⟨ys, e1, e2⟩ => (by rw [ex] at e1; cases e1; exact absurd e2 h)⟩
      walk_at "w"
      refine w_chain ?_
      walk_at "w"
      refine l_row (W1.get .here) ex ?_
      walk_at "w"
      refine w_ifd (fun h3 => ?_) (fun h3 => ?_)
      · walk_at "w"
        refine w_ifn (fun h8 => ?_) (fun h8 => ?_)
        · walk_at "w"
          exact fin _ _ (W1.same rfl) (no fun z => h8 (by have := z.l8; omega))
        · walk_at "w"
          refine w_iseq ?_
          walk_at "w"
          refine lp_row (W1.get .here) ex (fun i σ' H' => ∃ u, σ' = [some (.ref p0), u, none] ∧ Same H1 H' ∧ ∀ (j : Nat) (z : PyData), j < i → xs[j]? = some z → isP z = true) ⟨_, rfl, Same.refl _, fun j z h => absurd h (by omega)⟩ (fun i σ' H' ⟨u, _, s, _⟩ => s) ?_ ?_
          · rintro i y z σ' H' ez rz ⟨u, rfl, s, all⟩
            have W2 : Wd false sa H' H' [y, .ref p0] [z, d] := ((W1.go s).put rz).rebase
            have S1 := (W1.same rfl).trans s
            clear W1
            walk_at "w"
            rename_i H2 W3
            cases ep : isP z with
            | false =>
              walk_at "w"
              exact fin _ _ (S1.trans (W3.same rfl)) (no fun h => by
                have := h.pts z (List.mem_of_getElem? ez)
                rw [ep] at this
                cases this)
            | true =>
              walk_at "w"
              refine ⟨_, rfl, s.trans (W3.same rfl), fun j z' hj e => ?_⟩
              rcases Nat.lt_succ_iff_lt_or_eq.mp hj with hj | rfl
              · exact all j z' hj e
              · rw [ez] at e
                cases e
                exact ep
          · rintro σ' H' ⟨u, rfl, s, all⟩
            have W2 : Wd false sa H' H' [.ref p0] [d] := (W1.go s).rebase
            have S1 := (W1.same rfl).trans s
            have ptsAll : ∀ z ∈ xs, isP z = true := fun z hz => by
              obtain ⟨j, hj, e⟩ := List.getElem_of_mem hz
              exact all j z hj (by rw [List.getElem?_eq_getElem hj, e])
            have ptk : ∀ z ∈ xs, PtK 300 z := fun z hz => by
              obtain ⟨_, _, _, _, _, h⟩ := isP_pq (ptsAll z hz) (gp z hz)
              exact h
            clear W1 s all
            have ji := judge_iff (by omega) (by omega) ptsAll ptk
            have iff2 : ∀ b : Bool, (b = true ↔ PlateP xs) → (b = true ↔ IsPl d) := fun b h => h.trans ⟨fun z => ⟨xs, ex, z⟩, fun ⟨ys, e1, e2⟩ => (by rw [ex] at e1; cases e1; exact e2)⟩
            walk_at "w"
            refine w_lc ?_
            refine w_iseq ?_
            walk_at "w"
            have hR : ∀ (i : Nat) (dy : PyData), (∃ x, xs[i]? = some x ∧ dy = f_spread [x]) → tupOnly dy = true := fun i dy ⟨x, e1, e2⟩ => by
              obtain ⟨_, _, X, Y, w', _, e3, _⟩ := pt_spread (ptk x (List.mem_of_getElem? e1))
              rw [e2, e3]
              rfl
            have step : ∀ (i : Nat) x d' H2 (Q' : VK), xs[i]? = some d' → Wd false sa H2 H2 (x :: [.ref p0]) (d' :: [d]) → (∀ y H4 dy, Same H2 H4 → Rp sa H4 y dy → (∃ x, xs[i]? = some x ∧ dy = f_spread [x]) → Q' y H4) → tCall sp_spread [] E0 (tCons (tVar 1) tNil) ((wipe [some (.ref p0), u, none] (List.map (fun x => x.snd) [((Str.ofString "point" : Str), 1)])).set 1 (some x)) H2 Q' := fun i x d' H2 Q' ei W3 hq => by
              obtain ⟨a', b', c', e', rfl, f1, f2⟩ := ptk d' (List.mem_of_getElem? ei)
              have e3 : ∃ X Y w', f_spread [Pnt a' b' c' e'] = Tri X Y w' := ⟨_, _, _, rfl⟩
              obtain ⟨X, Y, w', e3⟩ := e3
              show tCall sp_spread [] E0 (tCons (tVar 1) tNil) [some (.ref p0), some x, none] H2 Q'
              walk_at "w"
              refine call_P (ds := [Pnt a' b' c' e']) W3 (.cons (W3.get .here) .nil) ⟨_, _, _, _, rfl, f1.mono (by decide), f2.mono (by decide)⟩ fun H5 => ?_
              rw [e3]
              refine v_tup fun c W5 => ?_
              exact hq _ _ _ (W5.same rfl) (W5.get .here) ⟨_, ei, e3.symm⟩
            have done : ∀ H2 D es, Wd false sa H' H2 (.ref D :: [.ref p0]) (.list es :: [d]) → es.length = xs.length → (∀ (k : Nat) (d : PyData), es[k]? = some d → ∃ x, xs[k]? = some x ∧ d = f_spread [x]) → gName 2 (.ref D) [some (.ref p0), u, none] H2 (tRet (tAndV (tCall sp_conv [] E0 (tCons (tVar 2) tNil)) (tCall sp_fsides [] E0 (tCons (tVar 2) tNil))) { nx := fun x H' => Q V.non H', rt := Q }) := fun H2 D es W3 le all => by
              have e : es = spotsOf xs := by
                refine List.ext_getElem? fun k => ?_
                unfold spotsOf
                rw [List.getElem?_map]
                rcases Nat.lt_or_ge k es.length with z | z
                · obtain ⟨x, e1, e2⟩ := all k _ (List.getElem?_eq_getElem z)
                  rw [List.getElem?_eq_getElem z, e1, e2]
                  rfl
                · rw [List.getElem?_eq_none z, List.getElem?_eq_none (by omega)]
                  rfl
              subst e
              have pre : prSpots [.list (spotsOf xs)] := ⟨_, rfl, by rw [spots_len]; omega, fun s hs => by
                obtain ⟨x, hx, rfl⟩ := List.mem_map.mp hs
                obtain ⟨_, _, X, Y, w', _, e3, e4, e5, e6, e7, _⟩ := pt_spread (ptk x hx)
                exact ⟨X, Y, w', e3, e5, e6, e7, e4⟩⟩
              have S2 := S1.trans (W3.same rfl)
              walk_at "w"
              refine call_R (ds := [.list (spotsOf xs)]) W3 (.cons (W3.get .here) .nil) pre fun H3 dy hb => ?_
              obtain ⟨b, rfl, hb⟩ := hb
              have hb := hb _ rfl
              refine v_bl fun W4 => ?_
              have S3 := S1.trans (W4.same rfl)
              walk_at "w"
              cases b with
              | false =>
                walk_at "w"
                exact fin _ _ S3 (iff2 _ ⟨fun z => (by cases z), fun z => absurd (hb.mpr (ji.mpr z).1) (by decide)⟩)
              | true =>
                walk_at "w"
                have W5 := W4.sub (.cons (W4.get (.there .here)) .nil)
                refine call_R (ds := [.list (spotsOf xs)]) W5 (.cons (W5.get .here) .nil) pre fun H4 dy2 hb2 => ?_
                obtain ⟨b2, rfl, hb2⟩ := hb2
                have hb2 := hb2 _ rfl
                refine v_bl fun W6 => ?_
                exact fin _ _ (S1.trans (W6.same rfl)) (iff2 _ ⟨fun z => ji.mp ⟨hb.mp rfl, hb2.mp z⟩, fun z => hb2.mpr (ji.mpr z).2⟩)
            obtain ⟨p', ws, ep, rs, hd⟩ := row_ref (K := K) (W2.get .here) ex
            cases ep
            rcases hd with ⟨hs, _, rfl⟩ | ⟨hs, _, rfl⟩
            · exact ⟨p0, rfl, .inl ⟨⟨ws, hs⟩, lcp_list W2 .here (by omega) (fun i dy => ∃ x, xs[i]? = some x ∧ dy = f_spread [x]) hR (fun x => rfl) step done⟩⟩
            · exact ⟨p0, rfl, .inr ⟨⟨ws, hs⟩, lcp_tup W2 .here (by omega) (fun i dy => ∃ x, xs[i]? = some x ∧ dy = f_spread [x]) hR (fun x => rfl) step done⟩⟩
      · walk_at "w"
        exact fin _ _ (W1.same rfl) (no fun z => h3 (by have := z.l3; omega))
end

/-! no list of that length in it -/
mutual
def noLen (n : Nat) : PyData → Bool
  | .list ds => !(ds.length == n) && noLens n ds
  | .tuple ds => noLens n ds
  | _ => true
def noLens (n : Nat) : List PyData → Bool
  | [] => true
  | d :: ds => noLen n d && noLens n ds
end
mutual
theorem Rp.stayN {sa g : Addr} {H : Hp} {xs ys : List V} (hg : H g = some (.lst xs)) : ∀ {v : V} {d : PyData}, Rp sa H v d → noLen xs.length d = true → Rp sa (upd H g (.lst ys)) v d
  | _, _, .non, _ => .non
  | _, _, .bl b, _ => .bl b
  | _, _, .int i, _ => .int i
  | _, _, .str x, _ => .str x
  | _, _, .lst n h r, e => by
    unfold noLen at e
    obtain ⟨e1, e2⟩ := Bool.and_eq_true_iff.mp e
    refine .lst n ?_ (Rps.stayN hg r e2)
    rw [upd_ne (fun z => by
      rw [z, hg] at h
      cases h
      rw [r.lens] at e1
      simp at e1)]
    exact h
  | _, _, .tup n h r, e => .tup n (by
      rw [upd_ne (fun z => by
        rw [z, hg] at h
        cases h)]
      exact h) (Rps.stayN hg r e)
  | _, _, .dct n h l, _ => .dct n (by
      rw [upd_ne (fun z => by
        rw [z, hg] at h
        cases h)]
      exact h) l
theorem Rps.stayN {sa g : Addr} {H : Hp} {xs ys : List V} (hg : H g = some (.lst xs)) : ∀ {vs : List V} {ds : List PyData}, Rps sa H vs ds → noLens xs.length ds = true → Rps sa (upd H g (.lst ys)) vs ds
  | _, _, .nil, _ => .nil
  | _, _, .cons h t, e => .cons (Rp.stayN hg h (by
      unfold noLens at e
      exact (Bool.and_eq_true _ _ ▸ e).1)) (Rps.stayN hg t (by
      unfold noLens at e
      exact (Bool.and_eq_true _ _ ▸ e).2))
end

/-! ### what the law draws besides -/
def noLen6 (d : PyData) : Bool := noLen 3 d && (noLen 4 d && (noLen 5 d && (noLen 6 d && (noLen 7 d && (noLen 8 d && (noLen 9 d && noLen 10 d))))))
theorem noLen6_at {d : PyData} (h : noLen6 d = true) {n : Nat} (h3 : 3 ≤ n) (h10 : n ≤ 10) : noLen n d = true := by
  unfold noLen6 at h
  simp only [Bool.and_eq_true] at h
  obtain ⟨a, b, c, e, f, g, i, j⟩ := h
  rcases (show n = 3 ∨ n = 4 ∨ n = 5 ∨ n = 6 ∨ n = 7 ∨ n = 8 ∨ n = 9 ∨ n = 10 by omega) with rfl | rfl | rfl | rfl | rfl | rfl | rfl | rfl <;> assumption
abbrev sp_nopoint6 : Sp := Sf (fun ds => ds = []) fun _ d => GdP d ∧ noLen6 d = true
def Q44 (a b : Rat) : Prop := Qb 4400 a ∧ Qb 4400 b
abbrev sp_moved : Sp := Sf (fun ds => ∃ (n : Nat) (D : Int) (d : PyData), ds = [d] ∧ 0 < D ∧ Bt 3912 D ∧ n ≤ 10 ∧ IsPts (PtB D) d n) fun ds d' => ∀ n D d, ds = [d] → IsPts (PtB D) d n → IsPts Q44 d' n
def SmallP (d : PyData) : Prop := ∃ a b, d = PQ a b ∧ Qb 130 a ∧ Qb 130 b
abbrev sp_small : Sp := Pr (fun ds => ∃ pts, ds = [.list pts] ∧ ∀ x ∈ pts, ∃ a b, x = PQ a b) fun ds d' => ∃ b, d' = .bool b ∧ (b = true → ∀ pts, ds = [.list pts] → ∀ x ∈ pts, SmallP x)
theorem small_gd {d : PyData} (h : SmallP d) : GdP d := by
  obtain ⟨a, b, rfl, h1, h2⟩ := h
  exact gd_pt (k := 0) ⟨h1.1.mono (by decide), h1.2.mono (by decide), h2.1.mono (by decide), h2.2.mono (by decide)⟩
theorem qb_of2 {q : Rat} {D : Int} {d : Nat} (h : IsI q D) (hD : 0 < D) (bD : Bt d D) (h1 : q ≤ 100) (h2 : -100 ≤ q) : Qb (7 + d) q :=
  qb_of (V := 100) h hD h1 h2 ((bt_lit (x := ((100 : Nat) : Int)) 7 (by decide)).mul bD) (by decide)
/-- a ray: two parts of one another's circle, of small denominators -/
def RayP (R : Int) (r s : Rat) : Prop := IsI r R ∧ IsI s R ∧ r * r + s * s = 1
theorem abs_mul {a b m : Rat} (hm : 0 ≤ m) (h1 : a ≤ m) (h2 : -m ≤ a) (h3 : b ≤ 1) (h4 : -1 ≤ b) : a * b ≤ m ∧ -m ≤ a * b := by
  by_cases z : 0 ≤ a
  · have := Rat.mul_le_mul_of_nonneg_left h3 z
    have := Rat.mul_le_mul_of_nonneg_left h4 z
    constructor <;> grind
  · have := Rat.mul_le_mul_of_nonneg_left h3 (show 0 ≤ -a by grind)
    have := Rat.mul_le_mul_of_nonneg_left h4 (show 0 ≤ -a by grind)
    constructor <;> grind
structure MovOk (a b r s f u v : Rat) : Prop where
  b1 : Qb 4400 a
  b2 : Qb 4400 b
  b3 : Qb 4400 r
  b4 : Qb 4400 s
  c1 : Qb 4400 (a * r)
  c2 : Qb 4400 (b * s)
  c3 : Qb 4400 (a * s)
  c4 : Qb 4400 (b * r)
  d1 : Qb 4400 (a * r - b * s)
  d2 : Qb 4400 (a * s + b * r)
  bf : Qb 4400 f
  e1 : Qb 4400 ((a * r - b * s) * f)
  e2 : Qb 4400 ((a * s + b * r) * f)
  bu : Qb 4400 u
  bv : Qb 4400 v
  o1 : Qb 4400 ((a * r - b * s) * f + u)
  o2 : Qb 4400 ((a * s + b * r) * f + v)
theorem mov_ok {a b r s f u v : Rat} {D R F U V : Int} (hD : 0 < D) (bD : Bt 3912 D) (hp : PtB D a b) (hr : RayP R r s) (hR : 0 < R) (bR : Bt 8 R) (hf : IsI f F) (f0 : 0 ≤ f) (f9 : f ≤ 9) (hF : 0 < F) (bF : Bt 5 F) (hu : IsI u U) (hv : IsI v V) (u1 : u ≤ 20 ∧ -20 ≤ u) (v1 : v ≤ 20 ∧ -20 ≤ v) (hU : 0 < U) (hV : 0 < V) (bU : Bt 5 U) (bV : Bt 5 V) : MovOk a b r s f u v := by
  obtain ⟨p1, p2, ⟨p3, p4⟩, p5, p6⟩ := hp
  obtain ⟨r1, r2, rr⟩ := hr
  obtain ⟨x1, x2⟩ := unit_le rr
  obtain ⟨y1, y2⟩ := unit_le (x := s) (y := r) (by grind)
  have DR := Int.mul_pos hD hR
  have bDR : Bt 3920 (D * R) := bD.mul bR
  have DRF := Int.mul_pos DR hF
  have bDRF : Bt 3925 (D * R * F) := bDR.mul bF
  have m1 := abs_mul (m := 4) (by decide) p3 p4 x1 x2
  have m2 := abs_mul (m := 4) (by decide) p5 p6 y1 y2
  have m3 := abs_mul (m := 4) (by decide) p3 p4 y1 y2
  have m4 := abs_mul (m := 4) (by decide) p5 p6 x1 x2
  have t1 : IsI (a * r - b * s) (D * R) := (p1.mul r1).sub (p2.mul r2)
  have t2 : IsI (a * s + b * r) (D * R) := (p1.mul r2).add (p2.mul r1)
  have q1 : a * r - b * s ≤ 8 ∧ -8 ≤ a * r - b * s := by constructor <;> grind
  have q2 : a * s + b * r ≤ 8 ∧ -8 ≤ a * s + b * r := by constructor <;> grind
  have l100 : ∀ {q : Rat}, q ≤ 72 ∧ -72 ≤ q → q ≤ 100 ∧ -100 ≤ q := fun h => ⟨Rat.le_trans h.1 (by decide), Rat.le_trans (by decide) h.2⟩
  have bmul : ∀ {q : Rat}, q ≤ 8 ∧ -8 ≤ q → q * f ≤ 72 ∧ -72 ≤ q * f := fun {q} h => by
    have z1 := Rat.mul_le_mul_of_nonneg_right h.1 f0
    have z2 := Rat.mul_le_mul_of_nonneg_right h.2 f0
    constructor <;> grind
  have w1 := bmul q1
  have w2 := bmul q2
  have n1 : Qb 3919 a := qb_of2 p1 hD bD (Rat.le_trans p3 (by decide)) (Rat.le_trans (by decide) p4)
  have n2 : Qb 3919 b := qb_of2 p2 hD bD (Rat.le_trans p5 (by decide)) (Rat.le_trans (by decide) p6)
  have n3 : Qb 15 r := qb_of2 r1 hR bR (Rat.le_trans x1 (by decide)) (Rat.le_trans (by decide) x2)
  have n4 : Qb 15 s := qb_of2 r2 hR bR (Rat.le_trans y1 (by decide)) (Rat.le_trans (by decide) y2)
  have n5 : Qb 12 f := qb_of2 hf hF bF (Rat.le_trans f9 (by decide)) (Rat.le_trans (by decide) f0)
  have n6 : Qb 12 u := qb_of2 hu hU bU (Rat.le_trans u1.1 (by decide)) (Rat.le_trans (by decide) u1.2)
  have n7 : Qb 12 v := qb_of2 hv hV bV (Rat.le_trans v1.1 (by decide)) (Rat.le_trans (by decide) v1.2)
  have g1 := t1.mul hf
  have g2 := t2.mul hf
  have s1 : IsI ((a * r - b * s) * f + u) (D * R * F * U) := (g1.up U).add (hu.upL _)
  have s2 : IsI ((a * s + b * r) * f + v) (D * R * F * V) := (g2.up V).add (hv.upL _)
  exact ⟨n1.mono (by decide), n2.mono (by decide), n3.mono (by decide), n4.mono (by decide), (n1.mul n3).mono (by decide), (n2.mul n4).mono (by decide), (n1.mul n4).mono (by decide), (n2.mul n3).mono (by decide),
    (qb_of2 t1 DR bDR (Rat.le_trans q1.1 (by decide)) (Rat.le_trans (by decide) q1.2)).mono (by decide), (qb_of2 t2 DR bDR (Rat.le_trans q2.1 (by decide)) (Rat.le_trans (by decide) q2.2)).mono (by decide), n5.mono (by decide),
    (qb_of2 g1 DRF bDRF (l100 w1).1 (l100 w1).2).mono (by decide), (qb_of2 g2 DRF bDRF (l100 w2).1 (l100 w2).2).mono (by decide), n6.mono (by decide), n7.mono (by decide),
    (qb_of2 s1 (Int.mul_pos DRF hU) (bDRF.mul bU) (by grind) (by grind)).mono (by decide), (qb_of2 s2 (Int.mul_pos DRF hV) (bDRF.mul bV) (by grind) (by grind)).mono (by decide)⟩
theorem rat_div_le {x y m : Int} (hy : 1 ≤ y) (h1 : x ≤ m) (h2 : -m ≤ x) (hm : 0 ≤ m) : (x : Rat) / (y : Rat) ≤ (m : Rat) ∧ -(m : Rat) ≤ (x : Rat) / (y : Rat) := by
  have yp : (0 : Rat) < (y : Rat) := Rat.intCast_pos.mpr (by omega)
  have e : (x : Rat) / (y : Rat) * (y : Rat) = (x : Rat) := Rat.div_mul_cancel (by grind)
  have k1 : x ≤ m * y := by
    have := Int.mul_le_mul_of_nonneg_left hy hm
    omega
  have k2 : -(m * y) ≤ x := by
    have := Int.mul_le_mul_of_nonneg_left hy hm
    omega
  have j1 : (x : Rat) ≤ (m : Rat) * (y : Rat) := by rw [← Rat.intCast_mul]; exact Rat.intCast_le_intCast.mpr k1
  have j2 : -((m : Rat) * (y : Rat)) ≤ (x : Rat) := by rw [← Rat.intCast_mul, ← Rat.intCast_neg]; exact Rat.intCast_le_intCast.mpr k2
  constructor
  · refine Rat.le_of_mul_le_mul_right (c := (y : Rat)) ?_ yp
    rw [e]
    exact j1
  · refine Rat.le_of_mul_le_mul_right (c := (y : Rat)) ?_ yp
    rw [e]
    grind
section
variable {P : Program} {w : World} {K : PySem.W.Frag} {mg : Str → Option Value} {base : Heap}
theorem ok_law_is_small {f : Addr} {fd : FuncData} (F : Fun K "_law_is_small" "_law_is_small" s_law_is_small f fd) (nb : Nb mg) : FnOk P w K mg base CX0 1 f fd ["corners"] sp_small := by
  have sc := sc_law_is_small
  refine F.ok sc (fun vs H Q E h => ?_) (fun cdv A outer s H vs Q E hr h => ?_)
  · obtain ⟨sa, ds, t, r, ⟨pts, rfl, _⟩, q⟩ := h
    exact r.lens
  · obtain ⟨sa, ds, t, r, ⟨pts, rfl, hp⟩, q⟩ := h
    obtain ⟨x, rfl, r0⟩ := rps1 r
    obtain ⟨p, rfl⟩ : ∃ p, x = .ref p := by cases r0; exact ⟨_, rfl⟩
    refine ⟨_, (pss_cons (ps_for PassesOwn.never rfl (pi_list (pv 0)) (pg_name (i := 1) sc.nd rfl (.inl rfl)) (pss_one (ps_for PassesOwn.never rfl (pi_tup (pv 1)) (pg_name (i := 2) sc.nd rfl (.inl rfl)) (pss_one (ps_if (PW.pt (pw_or (pt_cmpR op_ge (pe_callB cq_abs (by rfl) nb.abs (by decide +kernel) (pa_cons (pe_ix ix_tup (pv 2) pe_int (fun _ _ => rfl)) pa_nil)) (pe_op op_pow pe_int pe_int) (nomark _)) (pw_or1 (pt_cmpR op_ge (pe_ix ix_tup (pv 2) pe_int (fun _ _ => rfl)) (pe_op op_pow pe_int pe_int) (nomark _))))) (pss_one (ps_ret pe_bl)) pss_nil)))))
    (pss_one (ps_ret pe_bl))), ?_⟩
    (rw [show start ["corners", "point", "item"] [.ref p] = [some (.ref p), none, none] from rfl]; try dsimp only [cxOf])
    have W := wd_start t (.cons r0 .nil)
    have fin : ∀ H' b, Same H H' → (b = true → ∀ x ∈ pts, SmallP x) → Q (.bl b) H' := fun H' b s e => q H' _ _ s (.bl b) ⟨b, rfl, fun hb pts' ed => (by cases ed; exact e hb)⟩
    walk_at "w"
    refine w_ilst ?_
    walk_at "w"
    obtain ⟨p', xs, ep, rs, hd⟩ := row_ref (K := K) (W.get .here) (show ptsOf (.list pts) = some pts from rfl)
    cases ep
    have hx : H p = some (.lst xs) := by
      rcases hd with ⟨_, h, _⟩ | ⟨_, _, h⟩
      · exact h
      · cases h
    refine ⟨p, rfl, ⟨xs, SqL.of hx⟩, ?_⟩
    have ll := rs.lens
    refine lp_list (xs := xs) (fun i σ' H' => ∃ o1 o2, σ' = [some (.ref p), o1, o2] ∧ Same H H' ∧ ∀ j x, j < i → pts[j]? = some x → SmallP x) ⟨_, _, rfl, Same.refl _, fun j x h => absurd h (by omega)⟩ (fun i σ H' _ ⟨_, _, _, s, _⟩ => SqL.of (s _ _ hx)) ?_ ?_
    · rintro i y σ' H' hy ⟨o1, o2, rfl, s, all⟩
      have hi : i < pts.length := by rw [← ll]; exact (List.getElem?_eq_some_iff.mp hy).1
      obtain ⟨v, e1, r1⟩ := rps_at rs (List.getElem?_eq_getElem hi)
      rw [hy] at e1
      cases e1
      obtain ⟨a, b, eab⟩ := hp _ (List.getElem_mem hi)
      rw [eab] at r1
      have W1 : Wd false sa H' H' [y, .ref p] [PQ a b, .list pts] := ((W.go s).put (r1.same s)).rebase
      obtain ⟨py, rfl⟩ : ∃ q, y = .ref q := by cases r1; exact ⟨_, rfl⟩
      clear W
      walk_at "w"
      refine w_itup ?_
      walk_at "w"
      obtain ⟨p', xs2, ep, rs2, hd2⟩ := row_ref (K := K) (W1.get .here) (show ptsOf (PQ a b) = some [FQ a, FQ b] from rfl)
      cases ep
      have hx2 : H' py = some (.tup xs2) := by
        rcases hd2 with ⟨_, _, h⟩ | ⟨_, h, _⟩
        · cases h
        · exact h
      refine ⟨py, rfl, ⟨xs2, SqT.of hx2⟩, ?_⟩
      have l2 := rs2.lens
      refine lp_tup (xs := xs2) (fun j σ' H2 => ∃ o2, σ' = [some (.ref p), some (.ref py), o2] ∧ Same H' H2 ∧ (1 ≤ j → Qb 130 a) ∧ (2 ≤ j → Qb 130 b)) ⟨_, rfl, Same.refl _, fun h => absurd h (by omega), fun h => absurd h (by omega)⟩ (fun i σ H' _ ⟨_, _, s, _⟩ => SqT.of (s _ _ hx2)) ?_ ?_
      · rintro j z σ' H2 hz ⟨o2, rfl, s2, ha, hb⟩
        have hj : j < 2 := by
          have := (List.getElem?_eq_some_iff.mp hz).1
          rw [l2] at this
          exact this
        obtain ⟨q, eq, hq⟩ : ∃ q : Rat, [FQ a, FQ b][j]? = some (FQ q) ∧ (Qb 130 q → (1 ≤ j + 1 → Qb 130 a) ∧ (2 ≤ j + 1 → Qb 130 b)) := by
          match j, hj, ha with
          | 0, _, _ => exact ⟨a, rfl, fun h => ⟨fun _ => h, fun z => absurd z (by omega)⟩⟩
          | 1, _, ha => exact ⟨b, rfl, fun h => ⟨fun _ => ha (by omega), fun _ => h⟩⟩
        obtain ⟨v, e1, r2⟩ := rps_at rs2 eq
        rw [hz] at e1
        cases e1
        obtain ⟨pz, rfl⟩ : ∃ q, z = .ref q := by unfold FQ at r2; cases r2; exact ⟨_, rfl⟩
        have W2 : Wd false sa H2 H2 [.ref pz] [.tuple [.int q.num, .int (q.den : Int)]] := ((W1.go s2).put (r2.same s2)).rebase.sub (.cons (r2.same s2) .nil)
        have S := s.trans s2
        clear W1
        walk_at "w"
        refine w_ifd (fun h1 => ?_) (fun h1 => ?_)
        · walk_at "w"
          exact fin _ _ S (fun z => (by cases z))
        · walk_at "w"
          refine w_ifd (fun h2 => ?_) (fun h2 => ?_)
          · walk_at "w"
            exact fin _ _ S (fun z => (by cases z))
          · walk_at "w"
            rw [show (10 : Int) ^ Int.toNat 39 = 1000000000000000000000000000000000000000 by decide +kernel] at h1 h2
            have hh := hq ⟨bt_39 (by omega), bt_39 (by omega)⟩
            exact ⟨_, rfl, s2, hh.1, hh.2⟩
      · rintro σ' H2 ⟨o2, rfl, s2, ha, hb⟩
        refine ⟨_, _, rfl, s.trans s2, fun k x hk e => ?_⟩
        rcases Nat.lt_succ_iff_lt_or_eq.mp hk with hk | rfl
        · exact all k x hk e
        · rw [List.getElem?_eq_getElem hi, eab] at e
          cases e
          exact ⟨a, b, rfl, ha (by rw [l2]; exact (show 1 ≤ 2 by decide)), hb (by rw [l2]; exact Nat.le_refl 2)⟩
    · rintro σ' H' ⟨o1, o2, rfl, s, all⟩
      walk_at "w"
      refine fin _ _ s fun _ x hx' => ?_
      obtain ⟨k, hk, e⟩ := List.getElem_of_mem hx'
      exact all k x (by rw [ll]; exact hk) (by rw [List.getElem?_eq_getElem hk, e])
end

/-! ### a polygon is turned, stretched, moved -/
theorem rt_q' {x y : Int} (h : y ≠ 0) : PyData.tuple [.int (nt x y), .int (bN x y)] = FQ ((x : Rat) / (y : Rat)) := rt_q h
theorem rayI {a b : Int} (hb : b ≠ 0) {t : Rat} (e : t = (a : Rat) / (b : Rat)) : RayP (a * a + b * b) ((1 - t * t) / (1 + t * t)) (2 * t / (1 + t * t)) := by
  have h1 := q_sq t
  have h2 : 1 + t * t ≠ 0 := by grind
  have hb' := i_ne hb
  have e2 : t * (b : Rat) = (a : Rat) := by rw [e]; exact Rat.div_mul_cancel hb'
  refine ⟨⟨b * b - a * a, ?_⟩, ⟨2 * a * b, ?_⟩, by grind⟩
  · rw [Rat.intCast_add, Rat.intCast_mul, Rat.intCast_mul, Rat.intCast_sub, Rat.intCast_mul, Rat.intCast_mul, ← e2]
    clear e
    generalize (b : Rat) = u at *
    grind
  · rw [Rat.intCast_add, Rat.intCast_mul, Rat.intCast_mul, Rat.intCast_mul, Rat.intCast_mul, ← e2, show ((2 : Int) : Rat) = 2 from rfl]
    clear e
    generalize (b : Rat) = u at *
    grind
theorem IsI.neg {q : Rat} {D : Int} (h : IsI q D) : IsI (-q) D := by
  have := (int_isI 0 D).sub h
  rw [Rat.intCast_zero] at this
  rw [show -q = 0 - q by grind]
  exact this
theorem list_row {K : PySem.W.Frag} {b : Bool} {sa : Addr} {H0 H : Hp} {acc : List V} {dacc : List PyData} {Q : VK} {p : Addr} {d : PyData} {ds : List PyData} (W : Wd b sa H0 H acc dacc) (r : Rp sa H (.ref p) d) (e : ptsOf d = some ds)
    (h : ∀ H' l, Wd b sa H0 H' (.ref l :: acc) (.list ds :: dacc) → Q (.ref l) H') : rListOf K [.ref p] H Q := by
  obtain ⟨p', xs, ep, rs, h2⟩ := row_ref (K := K) r e
  cases ep
  refine ⟨p, xs, rfl, ?_, fun l nl => h _ l ((W.go (same_new nl)).put (.lst (W.ne nl) upd_same (rs.but (same_new nl).but)))⟩
  rcases h2 with ⟨h2, _⟩ | ⟨h2, _⟩
  · exact .inl h2
  · exact .inr h2
structure MvP (R v b1 b2 : Int) (r s f eu ev : Rat) : Prop where
  ray : RayP R r s
  R0 : 0 < R ∧ R ≤ 72
  fv : IsI f v
  v0 : 1 ≤ v ∧ v ≤ 9
  f0 : 0 < f ∧ f ≤ 9
  iu : IsI eu b1
  h1 : 1 ≤ b1 ∧ b1 ≤ 4
  iv : IsI ev b2
  h2 : 1 ≤ b2 ∧ b2 ≤ 4
  lu : eu ≤ 20 ∧ -20 ≤ eu
  lv : ev ≤ 20 ∧ -20 ≤ ev
abbrev sp_moved8 : Sp := Sf (fun ds => ∃ (n : Nat) (D : Int) (d : PyData), ds = [d] ∧ 0 < D ∧ Bt 3912 D ∧ n ≤ 10 ∧ IsPts (PtB D) d n) fun ds d' => ∃ R v b1 b2 r s f eu ev, MvP R v b1 b2 r s f eu ev ∧ ∀ pts, ds = [.list pts] → ∃ es : List PyData, d' = .list es ∧ es.length = pts.length ∧ ∀ (i : Nat) (a b : Rat), pts[i]? = some (PQ a b) → es[i]? = some (PQ ((a * r - b * s) * f + eu) ((a * s + b * r) * f + ev))
theorem isI_0 (D : Int) : IsI 0 D := ⟨0, by rw [Rat.zero_mul]; rfl⟩
theorem mvp_id : MvP 1 1 1 1 1 0 1 0 0 := ⟨⟨⟨1, by decide +kernel⟩, isI_0 1, by grind⟩, by decide, ⟨1, by decide +kernel⟩, by decide, by decide +kernel, isI_0 1, by decide, isI_0 1, by decide, by decide +kernel, by decide +kernel⟩
section
variable {P : Program} {w : World} {K : PySem.W.Frag} {mg : Str → Option Value} {base : Heap}
theorem ok_law_moved {f : Addr} {fd : FuncData} (F : Fun K "_law_moved" "_law_moved" s_law_moved f fd) (nb : Nb mg) (d_law_take : Df P w K mg base CX0 2 "_law_take" ["stream", "many"] sp_take) (d_law_low : Df P w K mg base CX0 1 "_law_low" ["top", "bottom"] sp_low) (d_law_ray : Df P w K mg base CX0 2 "_law_ray" ["slope"] sp_qray) (d_law_neg : Df P w K mg base CX0 1 "_law_neg" ["one"] sp_qneg) (d_law_slope : Df P w K mg base CX0 3 "_law_slope" ["stream", "most"] sp_qslope) (d_law_turn : Df P w K mg base CX0 3 "_law_turn" ["one", "other"] sp_pturn) (d_law_times : Df P w K mg base CX0 3 "_law_times" ["step", "factor"] sp_ptimes) (d_law_plus : Df P w K mg base CX0 3 "_law_plus" ["one", "other"] sp_pplus) : FnOk P w K mg base CX0 4 f fd ["stream", "corners"] sp_moved8 := by
  have sc := sc_law_moved
  refine F.ok sc (fun vs H Q E h => ?_) (fun cdv A outer s H vs Q E hr h => ?_)
  · obtain ⟨a, vs', ds, rfl, st, r, ⟨_, _, d, rfl, _⟩, _⟩ := h
    obtain ⟨x, rfl, r0⟩ := rps1 r
    rfl
  · obtain ⟨a, vs', ds, rfl, st, r, ⟨n, D, d, rfl, D0, bD, n10, hpts⟩, q⟩ := h
    obtain ⟨x, rfl, r0⟩ := rps1 r
    obtain ⟨pts, rfl, ln, hp⟩ := hpts
    obtain ⟨p, rfl⟩ : ∃ p, x = .ref p := by cases r0; exact ⟨_, rfl⟩
    refine ⟨_, (pss_cons (ps_asg (pe_call d_law_ray.F (hr.mono (by decide)) (by rfl) d_law_ray.g d_law_ray.kp d_law_ray.b .nil pass0 (pa_cons (pe_call d_law_low.F (hr.mono (by decide)) (by rfl) d_law_low.g d_law_low.kp d_law_low.b .nil pass0 (pa_cons (pe_op op_sub (pe_call d_law_take.F (hr.mono (by decide)) (by rfl) d_law_take.g d_law_take.kp d_law_take.b .nil pass0 (pa_cons (pv 0) (pa_cons pe_int pa_nil))) pe_int) (pa_cons (pe_op op_add pe_int (pe_call d_law_take.F (hr.mono (by decide)) (by rfl) d_law_take.g d_law_take.kp d_law_take.b .nil pass0 (pa_cons (pv 0) (pa_cons pe_int pa_nil)))) pa_nil))) pa_nil)) (pg_name (i := 2) sc.nd rfl (.inr rfl)))
    (pss_cons (ps_for PassesOwn.never rfl (pi_range1 (by rfl) nb.range (pa_cons (pe_call d_law_take.F (hr.mono (by decide)) (by rfl) d_law_take.g d_law_take.kp d_law_take.b .nil pass0 (pa_cons (pv 0) (pa_cons pe_int pa_nil))) pa_nil)) (pg_name (i := 3) sc.nd rfl (.inl rfl)) (pss_one (ps_asg (pe_tup (pa_cons (pe_call d_law_neg.F (hr.mono (by decide)) (by rfl) d_law_neg.g d_law_neg.kp d_law_neg.b .nil pass0 (pa_cons (pe_ix ix_tup (pv 2) pe_int (fun _ _ => rfl)) pa_nil)) (pa_cons (pe_ix ix_tup (pv 2) pe_int (fun _ _ => rfl)) pa_nil))) (pg_name (i := 2) sc.nd rfl (.inr rfl)))))
    (pss_cons (ps_asg (pe_call d_law_slope.F (hr.mono (by decide)) (by rfl) d_law_slope.g d_law_slope.kp d_law_slope.b .nil pass0 (pa_cons (pv 0) (pa_cons pe_int pa_nil))) (pg_name (i := 4) sc.nd rfl (.inr rfl)))
    (pss_cons (ps_asg (pe_call d_law_low.F (hr.mono (by decide)) (by rfl) d_law_low.g d_law_low.kp d_law_low.b .nil pass0 (pa_cons (pe_op op_sub (pe_call d_law_take.F (hr.mono (by decide)) (by rfl) d_law_take.g d_law_take.kp d_law_take.b .nil pass0 (pa_cons (pv 0) (pa_cons pe_int pa_nil))) pe_int) (pa_cons (pe_op op_add pe_int (pe_call d_law_take.F (hr.mono (by decide)) (by rfl) d_law_take.g d_law_take.kp d_law_take.b .nil pass0 (pa_cons (pv 0) (pa_cons pe_int pa_nil)))) pa_nil))) (pg_name (i := 5) sc.nd rfl (.inl rfl)))
    (pss_cons (ps_asg (pe_tup (pa_cons (pv 5) (pa_cons (pe_call d_law_low.F (hr.mono (by decide)) (by rfl) d_law_low.g d_law_low.kp d_law_low.b .nil pass0 (pa_cons (pe_op op_sub (pe_call d_law_take.F (hr.mono (by decide)) (by rfl) d_law_take.g d_law_take.kp d_law_take.b .nil pass0 (pa_cons (pv 0) (pa_cons pe_int pa_nil))) pe_int) (pa_cons (pe_op op_add pe_int (pe_call d_law_take.F (hr.mono (by decide)) (by rfl) d_law_take.g d_law_take.kp d_law_take.b .nil pass0 (pa_cons (pv 0) (pa_cons pe_int pa_nil)))) pa_nil))) pa_nil))) (pg_name (i := 6) sc.nd rfl (.inr rfl)))
    (pss_cons (ps_if (pt_cmpR op_eq (pe_call d_law_take.F (hr.mono (by decide)) (by rfl) d_law_take.g d_law_take.kp d_law_take.b .nil pass0 (pa_cons (pv 0) (pa_cons pe_int pa_nil))) pe_int (nomark _)) (pss_one (ps_ret (pe_callTy cq_list (by rfl) nb.list (by decide +kernel) (pa_cons (pv 1) pa_nil)))) pss_nil)
    (pss_one (ps_ret (pe_lc (own := [("point", 7)]) (g := gName 7) (tt := tYes) rfl sc.nd (pi_list (pv 1)) (blkOk_by (N := NN_law_moved) (sc := defScope s_law_moved) (by decide +kernel)) (fun _ _ _ _ _ => pg_name (i := 7) sc.nd rfl (Or.inl rfl)) (fun _ _ _ _ _ => pts_nil) (fun _ _ _ _ _ => (pe_call d_law_plus.F (hr.mono (by decide)) (by rfl) d_law_plus.g d_law_plus.kp d_law_plus.b .nil pass0 (pa_cons (pe_call d_law_times.F (hr.mono (by decide)) (by rfl) d_law_times.g d_law_times.kp d_law_times.b .nil pass0 (pa_cons (pe_call d_law_turn.F (hr.mono (by decide)) (by rfl) d_law_turn.g d_law_turn.kp d_law_turn.b .nil pass0 (pa_cons (pv 7) (pa_cons (pv 2) pa_nil))) (pa_cons (pv 4) pa_nil))) (pa_cons (pv 6) pa_nil))))))))))))), ?_⟩
    (rw [show start ["stream", "corners", "ray", "k", "factor", "east", "shift", "point"] [.ref a, .ref p] = [some (.ref a), some (.ref p), none, none, none, none, none, none] from rfl]; try dsimp only [cxOf])
    have W := wd_startS st (.cons r0 .nil)
    walk_at "w"
    rename_i H1 x W1 x0 x1 H2 y W2 y0 y1
    have bx : Bt 4 (x - 6) := bt_lit 4 (by omega)
    have bb : Bt 3 (1 + y) := bt_lit 3 (by omega)
    have nz : 1 + y ≠ 0 := by omega
    clear W W1
    walk_at "w"
    rename_i H3 P3 W3
    rw [rt_q' nz] at W3
    obtain ⟨t, et⟩ : ∃ t : Rat, t = ((x - 6 : Int) : Rat) / ((1 + y : Int) : Rat) := ⟨_, rfl⟩
    rw [← et] at W3
    have qt' : Qb 4 t := by rw [et]; exact qb_frac bx (bb.mono (by decide)) nz
    refine c_q1 (by assumption) (Wd.get (by assumption) .here) (qt'.mono (by decide)) fun H4 P4 W4 => ?_
    have rp0 := rayI nz et
    obtain ⟨R, eR⟩ : ∃ R : Int, R = (x - 6) * (x - 6) + (1 + y) * (1 + y) := ⟨_, rfl⟩
    rw [← eR] at rp0
    have R72 : R ≤ 72 := by
      rw [eR]
      have a1 := Int.mul_self_le_mul_self (show (0 : Int) ≤ 1 + y by omega) (show 1 + y ≤ 6 by omega)
      have a2 : (x - 6) * (x - 6) ≤ 36 := by
        rcases Int.le_total 0 (x - 6) with z | z
        · exact Int.mul_self_le_mul_self z (show x - 6 ≤ 6 by omega)
        · have := Int.mul_self_le_mul_self (show 0 ≤ -(x - 6) by omega) (show -(x - 6) ≤ 6 by omega)
          rwa [Int.neg_mul_neg] at this
      have a3 : 0 ≤ (x - 6) * (x - 6) := by rw [← Int.natAbs_mul_self]; omega
      have a4 : 0 ≤ (1 + y) * (1 + y) := by rw [← Int.natAbs_mul_self]; omega
      omega
    have bR : Bt 8 R := by
      refine bt_lit 8 ?_
      have a3 : 0 ≤ (x - 6) * (x - 6) := by rw [← Int.natAbs_mul_self]; omega
      have a4 : 0 ≤ (1 + y) * (1 + y) := by rw [← Int.natAbs_mul_self]; omega
      omega
    have R0 : 0 < R := by
      rw [eR]
      have a3 : 0 ≤ (x - 6) * (x - 6) := by rw [← Int.natAbs_mul_self]; omega
      have a4 := Int.mul_pos (show 0 < 1 + y by omega) (show 0 < 1 + y by omega)
      omega
    have W5 : Wd true a H H4 [.ref P4, .ref p] [PQ ((1 - t * t) / (1 + t * t)) (2 * t / (1 + t * t)), .list pts] := W4.sub (.cons (W4.get .here) (.cons (W4.get (by walk_at "in2")) .nil))
    clear W2 W3 W4 eR
    walk_at "w"
    rename_i H5 z W6 z0 z1
    refine lp_range (fun i σ' H' => ∃ rv kv r s, σ' = [some (.ref a), some (.ref p), some (.ref rv), kv, none, none, none, none] ∧ Wd true a H H' [.ref rv, .ref p] [PQ r s, .list pts] ∧ RayP R r s) ⟨_, _, _, _, rfl, W6, rp0⟩ ?_ ?_
    · rintro i σ' H' hi ⟨rv, kv, r, s, rfl, W, hr⟩
      clear W5 W6
      walk_at "w"
      refine c_q1 (by assumption) (Wd.get (by assumption) .here) trivial fun H6 P6 W7 => ?_
      walk_at "w"
      rename_i v8 W8 H7 P7 W9
      exact ⟨_, _, _, _, rfl, W9.sub (.cons (W9.get .here) (.cons (W9.get (by walk_at "in2")) .nil)), hr.2.1.neg, hr.1, by have := hr.2.2; grind⟩
    · rintro σ' H' ⟨rv, kv, r, s, rfl, W, hr⟩
      clear W5 W6 rp0
      walk_at "w"
      refine call_S (ds := [.int 9]) (by assumption) (.cons (.int 9) .nil) ⟨9, rfl, by decide, by decide⟩ fun H6 fx f W7 hf => ?_
      obtain ⟨n9, u, v, e9, u0, u1, v0, v1, rfl⟩ := hf
      obtain rfl : (9 : Int) = n9 := by injection e9 with e9; injection e9
      obtain ⟨fq, ef⟩ : ∃ fq : Rat, fq = (u : Rat) / (v : Rat) := ⟨_, rfl⟩
      rw [← ef] at W7
      clear W
      walk_at "w"
      rename_i H7 x2 W8 x3 x4 H8 y2 W9 y3 y4
      have bx2 : Bt 5 (x2 - 20) := bt_lit 5 (by omega)
      have bb2 : Bt 5 (1 + y2) := bt_lit 5 (by omega)
      have nz2 : 1 + y2 ≠ 0 := by omega
      clear W7 W8
      walk_at "w"
      rename_i H9 P9 W10 H10 x5 W11 x6 x7 H11 y5 W12 y6 y7
      have bx5 : Bt 5 (x5 - 20) := bt_lit 5 (by omega)
      have bb5 : Bt 5 (1 + y5) := bt_lit 5 (by omega)
      have nz5 : 1 + y5 ≠ 0 := by omega
      clear W9 W10 W11
      walk_at "w"
      rename_i H12 P12 W13 H13 P13 W14 H14 z5 W15 z6 z7
      clear W12 W13 W14
      rw [rt_q' nz2, rt_q' nz5] at W15
      obtain ⟨eu, eeu⟩ : ∃ q : Rat, q = ((x2 - 20 : Int) : Rat) / ((1 + y2 : Int) : Rat) := ⟨_, rfl⟩
      obtain ⟨ev, eev⟩ : ∃ q : Rat, q = ((x5 - 20 : Int) : Rat) / ((1 + y5 : Int) : Rat) := ⟨_, rfl⟩
      rw [← eeu, ← eev] at W15
      have iu : IsI eu (1 + y2) := by rw [eeu]; exact isI_div _ _ nz2
      have iv : IsI ev (1 + y5) := by rw [eev]; exact isI_div _ _ nz5
      have ifq : IsI fq v := by rw [ef]; exact isI_div _ _ (by omega)
      have lu : eu ≤ 20 ∧ -20 ≤ eu := by rw [eeu]; exact rat_div_le (m := 20) (by omega) (by omega) (by omega) (by decide)
      have lv : ev ≤ 20 ∧ -20 ≤ ev := by rw [eev]; exact rat_div_le (m := 20) (by omega) (by omega) (by omega) (by decide)
      have lf : fq ≤ 9 ∧ -9 ≤ fq := by rw [ef]; exact rat_div_le (m := 9) (by omega) (by omega) (by omega) (by decide)
      have lf0 : 0 ≤ fq := by rw [ef]; exact Rat.le_of_lt (q_div (Rat.intCast_pos.mpr (by omega)) (Rat.intCast_pos.mpr (by omega)))
      have mv : MvP R v (1 + y2) (1 + y5) r s fq eu ev := ⟨hr, ⟨R0, R72⟩, ifq, ⟨by omega, by omega⟩, ⟨by rw [ef]; exact q_div (Rat.intCast_pos.mpr (by omega)) (Rat.intCast_pos.mpr (by omega)), lf.1⟩, iu, ⟨by omega, by omega⟩, iv, ⟨by omega, by omega⟩, lu, lv⟩
      have mov : ∀ x ∈ pts, ∃ a b, x = PQ a b ∧ MovOk a b r s fq eu ev := fun x hx => by
        obtain ⟨a', b', rfl, hb⟩ := hp x hx
        exact ⟨a', b', rfl, mov_ok D0 bD hb hr R0 bR ifq lf0 lf.1 (by omega) (bt_lit 5 (by omega)) iu iv lu lv (by omega) (by omega) bb2 bb5⟩
      walk_at "w"
      refine w_ifd (fun _ => ?_) (fun _ => ?_)
      · walk_at "w"
        refine list_row W15 (W15.get (by walk_at "in2")) (show ptsOf (.list pts) = some pts from rfl) fun H16 l W16 => ?_
        refine q _ _ _ W16.but (W16.st rfl) (W16.get .here) ⟨1, 1, 1, 1, 1, 0, 1, 0, 0, mvp_id, fun pts' ep => ⟨pts, rfl, by cases ep; rfl, fun i a b e => ?_⟩⟩
        cases ep
        rw [e, show (a * 1 - b * 0) * 1 + 0 = a by grind, show (a * 0 + b * 1) * 1 + 0 = b by grind]
      · walk_at "w"
        refine w_lc ?_
        refine w_ilst ?_
        walk_at "w"
        have W17 := W15.sub (.cons (W15.get (v := .ref P13) (by walk_at "in2")) (.cons (W15.get (v := .ref rv) (by walk_at "in2")) (.cons (W15.get (v := fx) (by walk_at "in2")) (.cons (W15.get (v := .ref p) (by walk_at "in2")) .nil))))
        refine ⟨p, rfl, (by cases W17.get (v := .ref p) (by walk_at "in2") with | lst _ h _ => exact ⟨_, SqL.of h⟩), ?_⟩
        refine lcp_list W17 (by walk_at "in2") (by omega) (fun i dy => ∃ a b, pts[i]? = some (PQ a b) ∧ dy = PQ ((a * r - b * s) * fq + eu) ((a * s + b * r) * fq + ev)) (fun i d ⟨_, _, _, e⟩ => by rw [e]; rfl) (fun x => rfl) (fun i x d' H18 Q' ei W18 hq => ?_) (fun H18 D18 es W18 le all => ?_)
        · obtain ⟨a', b', rfl, m⟩ := mov d' (List.mem_of_getElem? ei)
          obtain ⟨k1, k2, k3, k4, k5, k6, k7, k8, k9, k10, k11, k12, k13, k14, k15, k16, k17⟩ := m
          show tCall sp_pplus [] E0 _ [some (.ref a), some (.ref p), some (.ref rv), kv, some fx, _, some (.ref P13), some x] H18 Q'
          clear W15 W17
          walk_at "w"
          exact hq _ _ _ (Wd.same (by assumption) rfl) (Wd.get (by assumption) .here) ⟨_, _, ei, rfl⟩
        · refine q _ _ _ W18.but (W18.st rfl) (W18.get .here) ⟨_, _, _, _, _, _, _, _, _, mv, fun pts' ep => ⟨es, rfl, by cases ep; exact le, fun i a b e => ?_⟩⟩
          cases ep
          have li : i < es.length := by rw [le]; exact (List.getElem?_eq_some_iff.mp e).1
          have e2 := List.getElem?_eq_getElem li
          obtain ⟨a', b', e3, e4⟩ := all i _ e2
          rw [e] at e3
          injection e3 with e3
          obtain ⟨rfl, rfl⟩ := pq_inj e3
          rw [e2, e4]
end

/-! ### plates over each other: the program -/
def LineK (d : PyData) : Prop := ∃ x y z, d = Tri x y z ∧ Bt 3500 x ∧ Bt 3500 y ∧ Bt 3500 z
def BehindT (l : PyData) (ss : List PyData) : Prop := ∀ s ∈ ss, ∃ v : Int, f_side [l, s] = .int v ∧ v ≤ 0
def prParted (ds : List PyData) : Prop := ∃ ls ss, ds = [.list ls, .list ss] ∧ ls.length ≤ 8 ∧ (1 ≤ ss.length ∧ ss.length ≤ 8) ∧ (∀ l ∈ ls, LineK l) ∧ ∀ s ∈ ss, TriK s
abbrev sp_parted : Sp := Pr prParted fun ds d' => ∃ b, d' = .bool b ∧ ∀ ls ss, ds = [.list ls, .list ss] → (b = true ↔ ∃ l ∈ ls, BehindT l ss)
theorem rps_ints {sa : Addr} {H : Hp} : ∀ {vs : List V} {ds : List PyData}, Rps sa H vs ds → (∀ d ∈ ds, ∃ v : Int, d = .int v) → ∃ ns : List Int, vs = ns.map V.int ∧ ds = ns.map PyData.int
  | _, _, .nil, _ => ⟨[], rfl, rfl⟩
  | _, _, .cons h t, a => by
    obtain ⟨ns, rfl, rfl⟩ := rps_ints t fun d hd => a d (List.mem_cons_of_mem _ hd)
    obtain ⟨v, rfl⟩ := a _ List.mem_cons_self
    cases h
    exact ⟨v :: ns, rfl, rfl⟩
section
variable {P : Program} {w : World} {K : PySem.W.Frag} {mg : Str → Option Value} {base : Heap}
theorem ok_is_parted {f : Addr} {fd : FuncData} (F : Fun K "is_parted" "is_parted" s_is_parted f fd) (nb : Nb mg) (d_side_of : Df P w K mg base CX0 1 "side_of" ["line", "spot"] sp_side) : FnOk P w K mg base CX0 2 f fd ["lines", "spots"] sp_parted := by
  have sc := sc_is_parted
  refine F.ok sc (fun vs H Q E h => ?_) (fun cdv A outer s H vs Q E hr h => ?_)
  · obtain ⟨sa, ds, t, r, ⟨ls, ss, rfl, _⟩, q⟩ := h
    exact r.lens
  · obtain ⟨sa, ds, t, r, ⟨ls, ss, rfl, l8, ⟨s1, s8⟩, lk, tk⟩, q⟩ := h
    obtain ⟨x, y, rfl, r0, r1⟩ := rps2 r
    obtain ⟨p1, rfl⟩ : ∃ p, x = .ref p := by cases r0; exact ⟨_, rfl⟩
    obtain ⟨p2, rfl⟩ : ∃ p, y = .ref p := by cases r1; exact ⟨_, rfl⟩
    refine ⟨_, (pss_cons (ps_for PassesOwn.never rfl (pi_list (pv 0)) (pg_name (i := 2) sc.nd rfl (.inr rfl)) (pss_one (ps_if (pt_cmpR op_le (pe_callB (cr_max rfl) (by rfl) nb.max (by decide +kernel) (pa_cons (pe_lc (own := [("spot", 3)]) (g := gName 3) (tt := tYes) rfl sc.nd (pi_list (pv 1)) (blkOk_by (N := NN_is_parted) (sc := defScope s_is_parted) (by decide +kernel)) (fun _ _ _ _ _ => pg_name (i := 3) sc.nd rfl (Or.inl rfl)) (fun _ _ _ _ _ => pts_nil) (fun _ _ _ _ _ => (pe_call d_side_of.F (hr.mono (by decide)) (by rfl) d_side_of.g d_side_of.kp d_side_of.b .nil pass0 (pa_cons (pv 2) (pa_cons (pv 3) pa_nil))))) pa_nil)) pe_int (nomark _)) (pss_one (ps_ret pe_bl)) pss_nil)))
    (pss_one (ps_ret pe_bl))), ?_⟩
    (rw [show start ["lines", "spots", "line", "spot"] [.ref p1, .ref p2] = [some (.ref p1), some (.ref p2), none, none] from rfl]; try dsimp only [cxOf])
    have W := wd_start t (.cons r0 (.cons r1 .nil))
    have fin : ∀ H' b, Same H H' → (b = true ↔ ∃ l ∈ ls, BehindT l ss) → Q (.bl b) H' := fun H' b s e => q H' _ _ s (.bl b) ⟨b, rfl, fun ls' ss' ed => (by cases ed; exact e)⟩
    walk_at "w"
    refine w_ilst ?_
    walk_at "w"
    obtain ⟨xs, hx, rl⟩ := mp_at W .here
    have ll := rl.lens
    refine ⟨p1, rfl, ⟨xs, SqL.of hx⟩, ?_⟩
    refine lp_list (xs := xs) (fun i σ' H' => ∃ o2 o3, σ' = [some (.ref p1), some (.ref p2), o2, o3] ∧ Same H H' ∧ ∀ j l, j < i → ls[j]? = some l → ¬ BehindT l ss) ⟨_, _, rfl, Same.refl _, fun j x h => absurd h (by omega)⟩ (fun i σ H' _ ⟨_, _, _, s, _⟩ => SqL.of (s _ _ hx)) ?_ ?_
    · rintro i y σ' H' hy ⟨o2, o3, rfl, s, all⟩
      have hi : i < ls.length := by rw [← ll]; exact (List.getElem?_eq_some_iff.mp hy).1
      obtain ⟨v, e1, r2⟩ := rps_at rl (List.getElem?_eq_getElem hi)
      rw [hy] at e1
      cases e1
      obtain ⟨a, b, c, el, b1, b2, b3⟩ := lk _ (List.getElem_mem hi)
      rw [el] at r2
      have W1 : Wd false sa H' H' [y, .ref p2] [Tri a b c, .list ss] := ((W.go s).put (r2.same s)).rebase.sub (.cons (r2.same s) (.cons (((W.go s).get (.there .here))) .nil))
      obtain ⟨py, rfl⟩ : ∃ q, y = .ref q := by cases r2; exact ⟨_, rfl⟩
      clear W
      walk_at "w"
      refine w_lc ?_
      refine w_ilst ?_
      walk_at "w"
      obtain ⟨xs2, hx2, rs2⟩ := mp_at (p := p2) (pts := ss) W1 (.there .here)
      refine ⟨p2, rfl, ⟨xs2, SqL.of hx2⟩, ?_⟩
      refine lcp_list W1 (.there .here) (by omega) (fun i d => ∃ v s, d = .int v ∧ ss[i]? = some s ∧ f_side [Tri a b c, s] = .int v) (fun i d ⟨v, s, e, _⟩ => by rw [e]; rfl) (fun x => rfl) (fun j x d' H5 Q' ej W6 hq => ?_) (fun H5 D es W6 le2 all2 => ?_)
      · obtain ⟨a2, b2', c2, rfl, d1, d2, d3, d4⟩ := tk d' (List.mem_of_getElem? ej)
        show tCall sp_side [] E0 _ [some (.ref p1), some (.ref p2), some (.ref py), some x] H5 Q'
        walk_at "w"
        refine call_P (ds := [Tri a b c, Tri a2 b2' c2]) W6 (.cons (W6.get (.there .here)) (.cons (W6.get .here) .nil)) ⟨_, _, _, _, _, _, rfl, ⟨b1, b2, b3⟩, d1, d2, d3⟩ fun H7 => v_int fun W7 => ?_
        exact hq _ _ _ (W7.same rfl) (.int _) ⟨_, _, rfl, ej, rfl⟩
      · walk_at "w"
        obtain ⟨xs3, hx3, rs3⟩ := mp_at W6 .here
        obtain ⟨ns, rfl, rfl⟩ := rps_ints rs3 fun d hd => by
          obtain ⟨k, hk, e⟩ := List.getElem_of_mem hd
          obtain ⟨v, _, e2, _⟩ := all2 k d (by rw [List.getElem?_eq_getElem hk, e])
          exact ⟨v, e2⟩
        rw [List.length_map] at le2
        have S5 := s.trans (W6.same rfl)
        have atn : ∀ k s, ss[k]? = some s → ∃ v, ns[k]? = some v ∧ f_side [Tri a b c, s] = .int v := fun k s es => by
          have hk : k < ns.length := by rw [le2]; exact (List.getElem?_eq_some_iff.mp es).1
          obtain ⟨v, s', e2, e3, e4⟩ := all2 k (.int ns[k]) (by rw [List.getElem?_map, List.getElem?_eq_getElem hk]; rfl)
          rw [es] at e3
          cases e3
          injection e2 with e2
          exact ⟨v, by rw [List.getElem?_eq_getElem hk, e2], e4⟩
        refine ⟨D, ns, rfl, SqL.of hx3, by omega, fun m hm hle => ?_⟩
        walk_at "w"
        refine w_ifd (fun h0 => ?_) (fun h0 => ?_)
        · walk_at "w"
          refine fin _ _ S5 ⟨fun _ => ⟨_, List.getElem_mem hi, fun s hs => ?_⟩, fun _ => rfl⟩
          obtain ⟨k, hk, e⟩ := List.getElem_of_mem hs
          obtain ⟨v, ev, ef⟩ := atn k s (by rw [List.getElem?_eq_getElem hk, e])
          rw [el]
          exact ⟨v, ef, Int.le_trans (hle v (List.mem_of_getElem? ev)) h0⟩
        · walk_at "w"
          refine ⟨_, _, rfl, S5, fun j l hj e hb => ?_⟩
          rcases Nat.lt_succ_iff_lt_or_eq.mp hj with hj | rfl
          · exact all j l hj e hb
          · rw [List.getElem?_eq_getElem hi] at e
            injection e with e
            rw [← e, el] at hb
            obtain ⟨k, hk, ek⟩ := List.getElem_of_mem hm
            have hk2 : k < ss.length := by omega
            obtain ⟨v, ev, ef⟩ := atn k _ (List.getElem?_eq_getElem hk2)
            rw [List.getElem?_eq_getElem hk, ek] at ev
            cases ev
            obtain ⟨v', e3, e4⟩ := hb _ (List.getElem_mem hk2)
            rw [ef] at e3
            injection e3 with e3
            omega
    · rintro σ' H' ⟨o2, o3, rfl, s, all⟩
      walk_at "w"
      refine fin _ _ s ⟨fun z => (by cases z), fun ⟨l, hl, hb⟩ => ?_⟩
      obtain ⟨k, hk, e⟩ := List.getElem_of_mem hl
      exact absurd hb (all k l (by omega) (by rw [List.getElem?_eq_getElem hk, e]))
end

/-! ### lie_over -/
def PxR (C : Addr) (pre : List PyData → Prop) (bad : List PyData → Prop) (R : List PyData → PyData → Prop) : Sp := fun vs H Q E => ∃ (sa : Addr) (ds : List PyData), (∃ o, H sa = some o) ∧ Rps sa H vs ds ∧ pre ds ∧
  (bad ds → ∀ H', Same H H' → E (.ref C) none H') ∧ (¬ bad ds → ∀ H' x d, Same H H' → Rp sa H' x d → R ds d → Q x H')
def PartP (xs ys : List PyData) : Prop := ∃ (k : Nat) (x y : PyData), xs[k]? = some x ∧ xs[(k + 1) % xs.length]? = some y ∧ ∀ z ∈ ys, ¬ SideOk x y z
def OverP (xs ys : List PyData) : Prop := ¬ PartP xs ys ∧ ¬ PartP ys xs
abbrev sp_over (C : Addr) : Sp := PxR C (fun ds => ∃ d e, ds = [d, e] ∧ GdT d ∧ GdT e) (fun ds => ∀ d e, ds = [d, e] → ¬ (IsPl d ∧ IsPl e)) fun ds r => ∃ b, r = .bool b ∧ ∀ d e xs ys, ds = [d, e] → ptsOf d = some xs → ptsOf e = some ys → (b = true ↔ OverP xs ys)
theorem parted_iff {xs ys : List PyData} (hx : ∀ x ∈ xs, PtK 300 x) (hy : ∀ y ∈ ys, PtK 300 y) : (∃ l ∈ (List.range (spotsOf xs).length).map (lineAt (spotsOf xs)), BehindT l (spotsOf ys)) ↔ PartP xs ys := by
  have lt : ∀ {k : Nat} {x : PyData}, xs[k]? = some x → k < xs.length := fun e => (List.getElem?_eq_some_iff.mp e).1
  have beh : ∀ (x y : PyData), PtK 300 x → PtK 300 y → (BehindT (f_line [f_spread [x], f_spread [y]]) (spotsOf ys) ↔ ∀ z ∈ ys, ¬ SideOk x y z) := fun x y kx ky => by
    constructor
    · intro h z hz hs
      obtain ⟨v, e1, e2⟩ := h (f_spread [z]) (List.mem_map.mpr ⟨z, hz, rfl⟩)
      obtain ⟨v', e3, e4⟩ := (side_iff kx ky (hy z hz)).mpr hs
      rw [e1] at e3
      injection e3 with e3
      omega
    · intro h s hs
      obtain ⟨z, hz, rfl⟩ := List.mem_map.mp hs
      obtain ⟨a, b, c, e, rfl, f1, f2⟩ := kx
      obtain ⟨a', b', c', e', rfl, f3, f4⟩ := ky
      obtain ⟨a2, b2, c2, e2, rfl, f5, f6⟩ := hy z hz
      obtain ⟨v, ev⟩ : ∃ v : Int, f_side [f_line [f_spread [Pnt a b c e], f_spread [Pnt a' b' c' e']], f_spread [Pnt a2 b2 c2 e2]] = .int v := ⟨_, rfl⟩
      refine ⟨v, ev, ?_⟩
      by_cases z0 : 0 < v
      · exact absurd ((side_iff ⟨_, _, _, _, rfl, f1, f2⟩ ⟨_, _, _, _, rfl, f3, f4⟩ ⟨_, _, _, _, rfl, f5, f6⟩).mp ⟨v, ev, z0⟩) (h _ hz)
      · omega
  constructor
  · rintro ⟨l, hl, hb⟩
    obtain ⟨k, hk, rfl⟩ := List.mem_map.mp hl
    have hk := List.mem_range.mp hk
    rw [spots_len] at hk
    have e1 := List.getElem?_eq_getElem hk
    have e2 := List.getElem?_eq_getElem (mod_after hk)
    refine ⟨k, _, _, e1, e2, ?_⟩
    unfold lineAt at hb
    rw [spots_len, spots_at e1, spots_at e2] at hb
    exact (beh _ _ (hx _ (List.getElem_mem hk)) (hx _ (List.getElem_mem (mod_after hk)))).mp hb
  · rintro ⟨k, x, y, e1, e2, h⟩
    refine ⟨lineAt (spotsOf xs) k, List.mem_map.mpr ⟨k, List.mem_range.mpr (by rw [spots_len]; exact lt e1), rfl⟩, ?_⟩
    unfold lineAt
    rw [spots_len, spots_at e1, spots_at e2]
    exact (beh x y (hx _ (List.mem_of_getElem? e1)) (hx _ (List.mem_of_getElem? e2))).mpr h
theorem spots_tri {xs : List PyData} (hx : ∀ x ∈ xs, PtK 300 x) : ∀ s ∈ spotsOf xs, TriK s := fun s hs => by
  obtain ⟨x, hx', rfl⟩ := List.mem_map.mp hs
  obtain ⟨_, _, X, Y, w', _, e3, e4, e5, e6, e7, _⟩ := pt_spread (hx x hx')
  exact ⟨X, Y, w', e3, e5, e6, e7, e4⟩
theorem lc_spread {K : PySem.W.Frag} {b : Bool} {sa : Addr} {H0 H : Hp} {acc : List V} {dacc : List PyData} {Q : VK} {p : Addr} {d : PyData} {xs : List PyData} {j : Nat} {vs : List Nat} {σ : L2.St} (W : Wd b sa H0 H acc dacc) (m : In2 (.ref p) d acc dacc) (e : ptsOf d = some xs) (hl : xs.length ≤ 1000) (ptk : ∀ z ∈ xs, PtK 300 z)
    (hw : ∀ x, wipe ((wipe σ vs).set j (some x)) vs = wipe σ vs) (hv : ∀ x H' (Q' : VK), Q' x H' → tVar j ((wipe σ vs).set j (some x)) H' Q') (done : ∀ H' D, Wd b sa H0 H' (.ref D :: acc) (.list (spotsOf xs) :: dacc) → Q (.ref D) H') :
    ∃ a, V.ref p = .ref a ∧ (((∃ xs, SqL K H a xs) ∧ tLc (fun _ H' R => R (Itl K a) H') (gName j) tYes (tCall sp_spread [] E0 (tCons (tVar j) tNil)) vs σ H Q) ∨ ((∃ xs, SqT K H a xs) ∧ tLc (fun _ H' R => R (Itt K a) H') (gName j) tYes (tCall sp_spread [] E0 (tCons (tVar j) tNil)) vs σ H Q)) := by
  have hR : ∀ (i : Nat) (dy : PyData), (∃ x, xs[i]? = some x ∧ dy = f_spread [x]) → tupOnly dy = true := fun i dy ⟨x, e1, e2⟩ => by
    obtain ⟨_, _, X, Y, w', _, e3, _⟩ := pt_spread (ptk x (List.mem_of_getElem? e1))
    rw [e2, e3]
    rfl
  have step : ∀ (i : Nat) x d' H2 (Q' : VK), xs[i]? = some d' → Wd false sa H2 H2 (x :: acc) (d' :: dacc) → (∀ y H4 dy, Same H2 H4 → Rp sa H4 y dy → (∃ x, xs[i]? = some x ∧ dy = f_spread [x]) → Q' y H4) → tCall sp_spread [] E0 (tCons (tVar j) tNil) ((wipe σ vs).set j (some x)) H2 Q' := fun i x d' H2 Q' ei W3 hq => by
    obtain ⟨a', b', c', e', rfl, f1, f2⟩ := ptk d' (List.mem_of_getElem? ei)
    have e3 : ∃ X Y w', f_spread [Pnt a' b' c' e'] = Tri X Y w' := ⟨_, _, _, rfl⟩
    obtain ⟨X, Y, w', e3⟩ := e3
    refine w_call0 ?_
    refine w_cons ?_
    refine hv x H2 _ ?_
    refine w_nil ?_
    refine call_P (ds := [Pnt a' b' c' e']) W3 (.cons (W3.get .here) .nil) ⟨_, _, _, _, rfl, f1.mono (by decide), f2.mono (by decide)⟩ fun H5 => ?_
    rw [e3]
    refine v_tup fun c W5 => ?_
    exact hq _ _ _ (W5.same rfl) (W5.get .here) ⟨_, ei, e3.symm⟩
  have done' : ∀ H2 D es, Wd b sa H0 H2 (.ref D :: acc) (.list es :: dacc) → es.length = xs.length → (∀ (k : Nat) (d : PyData), es[k]? = some d → ∃ x, xs[k]? = some x ∧ d = f_spread [x]) → Q (.ref D) H2 := fun H2 D es W3 le all => by
    have e : es = spotsOf xs := by
      refine List.ext_getElem? fun k => ?_
      unfold spotsOf
      rw [List.getElem?_map]
      rcases Nat.lt_or_ge k es.length with z | z
      · obtain ⟨x, e1, e2⟩ := all k _ (List.getElem?_eq_getElem z)
        rw [List.getElem?_eq_getElem z, e1, e2]
        rfl
      · rw [List.getElem?_eq_none z, List.getElem?_eq_none (by omega)]
        rfl
    subst e
    exact done H2 D W3
  obtain ⟨p', ws, ep, rs, hd⟩ := row_ref (K := K) (W.get m) e
  cases ep
  rcases hd with ⟨hs, _, rfl⟩ | ⟨hs, _, rfl⟩
  · exact ⟨p, rfl, .inl ⟨⟨ws, hs⟩, lcp_list W m (by omega) (fun i dy => ∃ x, xs[i]? = some x ∧ dy = f_spread [x]) hR hw step done'⟩⟩
  · exact ⟨p, rfl, .inr ⟨⟨ws, hs⟩, lcp_tup W m (by omega) (fun i dy => ∃ x, xs[i]? = some x ∧ dy = f_spread [x]) hR hw step done'⟩⟩
section
variable {P : Program} {w : World} {K : PySem.W.Frag} {mg : Str → Option Value} {base : Heap}
theorem ok_lie_over {f C : Addr} {fd : FuncData} (F : Fun K "lie_over" "lie_over" s_lie_over f fd) (c_NoPlate : Ex0 P w K mg base "NoPlate" C) (d_is_plate : Df P w K mg base CX0 5 "is_plate" ["thing"] sp_judge) (d_spread : Df P w K mg base CX0 1 "spread" ["point"] sp_spread) (d_lines_of : Df P w K mg base CX0 2 "lines_of" ["spots"] sp_lines) (d_is_parted : Df P w K mg base CX0 2 "is_parted" ["lines", "spots"] sp_parted) : FnOk P w K mg base (L2.CX P w) 6 f fd ["one", "other"] (sp_over C) := by
  have sc := sc_lie_over
  refine F.okX sc (fun vs H Q E h => ?_) (fun cdv A outer s H vs Q E hr h => ?_)
  · obtain ⟨sa, ds, t, r, ⟨x, y, rfl, _⟩, _⟩ := h
    exact r.lens
  · obtain ⟨sa, ds, t, r, ⟨d, e, rfl, g1, g2⟩, no, q⟩ := h
    obtain ⟨x, y, rfl, r0, r1⟩ := rps2 r
    refine ⟨_, (pss_cons (ps_if (PW.pt (pw_or (pt_not (pt_val (pe_call d_is_plate.F (hr.mono (by decide)) (by rfl) d_is_plate.g d_is_plate.kp d_is_plate.b .nil pass0 (pa_cons (pv 0) pa_nil)))) (pw_or1 (pt_not (pt_val (pe_call d_is_plate.F (hr.mono (by decide)) (by rfl) d_is_plate.g d_is_plate.kp d_is_plate.b .nil pass0 (pa_cons (pv 1) pa_nil))))))) (pss_one (ps_raise rfl (takes_of rfl rfl rfl rfl) (pmk0 c_NoPlate (hr.mono (by decide)) (by rfl)))) pss_nil)
    (pss_cons (ps_setLc (i := 2) (own := [("point", 4)]) (g := gName 4) (tt := tYes) rfl sc.nd rfl rfl (sw_true rfl rfl rfl (by decide +kernel)) (pi_seq (pv 0)) (blkOk_by (N := NN_lie_over) (sc := defScope s_lie_over) (by decide +kernel)) (fun _ _ _ _ _ => pg_name (i := 4) sc.nd rfl (Or.inl rfl)) (fun _ _ _ _ _ => pts_nil) (fun _ _ _ _ _ => (pe_call d_spread.F (hr.mono (by decide)) (by rfl) d_spread.g d_spread.kp d_spread.b .nil pass0 (pa_cons (pv 4) pa_nil))))
    (pss_cons (ps_setLc (i := 3) (own := [("point", 4)]) (g := gName 4) (tt := tYes) rfl sc.nd rfl rfl (sw_true rfl rfl rfl (by decide +kernel)) (pi_seq (pv 1)) (blkOk_by (N := NN_lie_over) (sc := defScope s_lie_over) (by decide +kernel)) (fun _ _ _ _ _ => pg_name (i := 4) sc.nd rfl (Or.inl rfl)) (fun _ _ _ _ _ => pts_nil) (fun _ _ _ _ _ => (pe_call d_spread.F (hr.mono (by decide)) (by rfl) d_spread.g d_spread.kp d_spread.b .nil pass0 (pa_cons (pv 4) pa_nil))))
    (pss_one (ps_ret (pe_and (pe_not (pe_call d_is_parted.F (hr.mono (by decide)) (by rfl) d_is_parted.g d_is_parted.kp d_is_parted.b .nil pass0 (pa_cons (pe_call d_lines_of.F (hr.mono (by decide)) (by rfl) d_lines_of.g d_lines_of.kp d_lines_of.b .nil pass0 (pa_cons (pv 2) pa_nil)) (pa_cons (pv 3) pa_nil)))) (pe_one (pe_not (pe_call d_is_parted.F (hr.mono (by decide)) (by rfl) d_is_parted.g d_is_parted.kp d_is_parted.b .nil pass0 (pa_cons (pe_call d_lines_of.F (hr.mono (by decide)) (by rfl) d_lines_of.g d_lines_of.kp d_lines_of.b .nil pass0 (pa_cons (pv 3) pa_nil)) (pa_cons (pv 2) pa_nil))))))))))), ?_⟩
    (rw [show start ["one", "other", "here", "there", "point"] [x, y] = [some (x), some (y), none, none, none] from rfl]; try dsimp only [cxOf])
    have W := wd_start t (.cons r0 (.cons r1 .nil))
    have bad1 : ¬ IsPl d → ∀ d' e', [d, e] = [d', e'] → ¬ (IsPl d' ∧ IsPl e') := fun h d' e' ed => by
      cases ed
      exact fun z => h z.1
    have bad2 : ¬ IsPl e → ∀ d' e', [d, e] = [d', e'] → ¬ (IsPl d' ∧ IsPl e') := fun h d' e' ed => by
      cases ed
      exact fun z => h z.2
    walk_at "w"
    refine call_R (ds := [d]) W (.cons r0 .nil) ⟨d, rfl, g1⟩ fun H1 dy hb => ?_
    obtain ⟨b, rfl, hb⟩ := hb
    have hb := hb d rfl
    refine v_bl fun W1 => ?_
    cases b with
    | false =>
      walk_at "w"
      exact no (bad1 fun z => absurd (hb.mpr z) (by decide)) _ (W1.same rfl)
    | true =>
      walk_at "w"
      refine call_R (ds := [e]) W1 (.cons (W1.get (.there (.there .here))) .nil) ⟨e, rfl, g2⟩ fun H2 dy2 hb2 => ?_
      obtain ⟨b2, rfl, hb2⟩ := hb2
      have hb2 := hb2 e rfl
      refine v_bl fun W2 => ?_
      cases b2 with
      | false =>
        walk_at "w"
        exact no (bad2 fun z => absurd (hb2.mpr z) (by decide)) _ (W2.same rfl)
      | true =>
        obtain ⟨xs, ex, px⟩ := hb.mp rfl
        obtain ⟨ys, ey, py⟩ := hb2.mp rfl
        have good : ¬ ∀ d' e', [d, e] = [d', e'] → ¬ (IsPl d' ∧ IsPl e') := fun h => h d e rfl ⟨⟨xs, ex, px⟩, ⟨ys, ey, py⟩⟩
        have kx : ∀ z ∈ xs, PtK 300 z := fun z hz => by
          obtain ⟨_, _, _, _, _, h⟩ := isP_pq (px.pts z hz) ((g1 xs ex).2 z hz)
          exact h
        have ky : ∀ z ∈ ys, PtK 300 z := fun z hz => by
          obtain ⟨_, _, _, _, _, h⟩ := isP_pq (py.pts z hz) ((g2 ys ey).2 z hz)
          exact h
        have x3 := px.l3
        have x8 := px.l8
        have y3 := py.l3
        have y8 := py.l8
        have fin : ∀ H' b, Same H H' → (b = true ↔ OverP xs ys) → Q (.bl b) H' := fun H' b s h => q good H' _ _ s (.bl b) ⟨b, rfl, fun d' e' xs' ys' ed e1 e2 => by
          cases ed
          rw [ex] at e1
          rw [ey] at e2
          cases e1
          cases e2
          exact h⟩
        obtain ⟨p1, _, rfl, _, _⟩ := row_ref (K := K) r0 ex
        obtain ⟨p2, _, rfl, _, _⟩ := row_ref (K := K) r1 ey
        have W3 := W2.sub (.cons (W2.get (.there (.there .here))) (.cons (W2.get (.there (.there (.there .here)))) .nil))
        clear W W1 W2
        walk_at "w"
        refine w_lc ?_
        refine w_iseq ?_
        walk_at "w"
        refine lc_spread W3 (by walk_at "in2") ex (by omega) kx (fun x => rfl) (fun x H' Q' h => ⟨x, rfl, h⟩) fun H4 D1 W4 => ?_
        walk_at "w"
        refine w_lc ?_
        refine w_iseq ?_
        walk_at "w"
        refine lc_spread W4 (by walk_at "in2") ey (by omega) ky (fun x => rfl) (fun x H' Q' h => ⟨x, rfl, h⟩) fun H5 D2 W5 => ?_
        clear W3 W4
        walk_at "w"
        have tx := spots_tri kx
        have ty := spots_tri ky
        have lx : (spotsOf xs).length = xs.length := spots_len xs
        have ly : (spotsOf ys).length = ys.length := spots_len ys
        have pre1 : prSpots [.list (spotsOf xs)] := ⟨_, rfl, by omega, tx⟩
        have pre2 : prSpots [.list (spotsOf ys)] := ⟨_, rfl, by omega, ty⟩
        have li1 : ∀ l ∈ (List.range (spotsOf xs).length).map (lineAt (spotsOf xs)), LineK l := fun l hl => by
          obtain ⟨k, hk, rfl⟩ := List.mem_map.mp hl
          exact line_at tx (List.mem_range.mp hk)
        have li2 : ∀ l ∈ (List.range (spotsOf ys).length).map (lineAt (spotsOf ys)), LineK l := fun l hl => by
          obtain ⟨k, hk, rfl⟩ := List.mem_map.mp hl
          exact line_at ty (List.mem_range.mp hk)
        have i1 := parted_iff kx ky
        have i2 := parted_iff ky kx
        refine call_P (ds := [.list (spotsOf xs)]) W5 (.cons (W5.get (.there .here)) .nil) pre1 fun H6 => v_lst fun q6 W6 => ?_
        walk_at "w"
        have W6' : Wd false sa H H6 (.ref q6 :: _) (.list ((List.range (spotsOf xs).length).map (lineAt (spotsOf xs))) :: _) := W6
        refine call_R (ds := [.list ((List.range (spotsOf xs).length).map (lineAt (spotsOf xs))), .list (spotsOf ys)]) W6' (.cons (W6'.get .here) (.cons (W6'.get (.there .here)) .nil)) ⟨_, _, rfl, by rw [List.length_map, List.length_range]; omega, ⟨by omega, by omega⟩, li1, ty⟩ fun H7 d7 h7 => ?_
        obtain ⟨b7, rfl, h7⟩ := h7
        have h7 := (h7 _ _ rfl).trans i1
        refine v_bl fun W7 => ?_
        cases b7 with
        | true =>
          walk_at "w"
          exact fin _ _ (W7.same rfl) ⟨fun z => (by cases z), fun z => absurd (h7.mp rfl) z.1⟩
        | false =>
          walk_at "w"
          refine call_P (ds := [.list (spotsOf ys)]) W7 (.cons (W7.get (.there (.there .here))) .nil) pre2 fun H8 => v_lst fun q8 W8 => ?_
          walk_at "w"
          have W8' : Wd false sa H H8 (.ref q8 :: _) (.list ((List.range (spotsOf ys).length).map (lineAt (spotsOf ys))) :: _) := W8
          refine call_R (ds := [.list ((List.range (spotsOf ys).length).map (lineAt (spotsOf ys))), .list (spotsOf xs)]) W8' (.cons (W8'.get .here) (.cons (W8'.get (.there (.there (.there (.there .here))))) .nil)) ⟨_, _, rfl, by rw [List.length_map, List.length_range]; omega, ⟨by omega, by omega⟩, li2, tx⟩ fun H9 d9 h9 => ?_
          obtain ⟨b9, rfl, h9⟩ := h9
          have h9 := (h9 _ _ rfl).trans i2
          refine v_bl fun W9 => ?_
          walk_at "w"
          refine fin _ _ (W9.same rfl) ?_
          have n7 : ¬ PartP xs ys := fun z => absurd (h7.mpr z) (by decide)
          cases b9 with
          | true => exact ⟨fun z => (by cases z), fun z => absurd (h9.mp rfl) z.2⟩
          | false => exact ⟨fun _ => ⟨n7, fun z => absurd (h9.mpr z) (by decide)⟩, fun _ => rfl⟩
end

/-! ### two such polygons on two sides of a line: then a side of one of them parts them -/
def crs (ax ay bx bY : Rat) : Rat := ax * bY - ay * bx
def SepI (n : Nat) (c d : Nat → Rat) (m : Nat) (e f : Nat → Rat) : Prop := ∃ k, k < n ∧ ∀ j, j < m → orr (c k) (d k) (c (nxt n k)) (d (nxt n k)) (e j) (f j) ≤ 0
theorem neg_mul_pos {a b : Rat} (ha : a < 0) (hb : 0 < b) : a * b < 0 := by
  have := Rat.mul_pos (show 0 < -a by grind) hb
  grind
theorem pos_of_mul {a b : Rat} (hb : 0 < b) (h : 0 < b * a) : 0 < a := by
  refine Rat.not_le.mp fun z => ?_
  have := Rat.mul_nonneg (Rat.le_of_lt hb) (show 0 ≤ -a by grind)
  grind
theorem nonneg_of_mul {a b : Rat} (hb : 0 < b) (h : 0 ≤ b * a) : 0 ≤ a := by
  refine Rat.not_lt.mp fun z => ?_
  have := Rat.mul_pos hb (show 0 < -a by grind)
  grind
/-- the highest corner behind a lower one -/
theorem top_at {n : Nat} (hn : 1 ≤ n) (h : Nat → Rat) (ne : ∃ i j, i < n ∧ j < n ∧ h i ≠ h j) : ∃ a, a < n ∧ h (prv n a) < h a ∧ h (nxt n a) ≤ h a := by
  have mx : ∀ m, m < n → ∃ a, a ≤ m ∧ ∀ i, i ≤ m → h i ≤ h a := fun m => by
    induction m with
    | zero => exact fun _ => ⟨0, Nat.le_refl _, fun i hi => by
        have e : i = 0 := by omega
        rw [e]
        exact Rat.le_refl⟩
    | succ m ih =>
      intro hm
      obtain ⟨a, ha, all⟩ := ih (by omega)
      by_cases z : h a ≤ h (m + 1)
      · refine ⟨m + 1, Nat.le_refl _, fun i hi => ?_⟩
        by_cases e : i = m + 1
        · rw [e]; exact Rat.le_refl
        · exact Rat.le_trans (all i (by omega)) z
      · refine ⟨a, by omega, fun i hi => ?_⟩
        by_cases e : i = m + 1
        · rw [e]; grind
        · exact all i (by omega)
  obtain ⟨a0, ha0, all⟩ := mx (n - 1) (by omega)
  refine Classical.byContradiction fun no => ?_
  have step : ∀ i, i < n → h i = h a0 → h (prv n i) = h a0 := fun i hi e => Classical.byContradiction fun z => no ⟨i, hi, by
    have := all (prv n i) (by have := prv_lt hi; omega)
    rw [e]
    grind, by
    have := all (nxt n i) (by have := nxt_lt hi; omega)
    rw [e]
    exact this⟩
  have dn : ∀ k, k ≤ a0 → h (a0 - k) = h a0 := fun k => by
    induction k with
    | zero => exact fun _ => rfl
    | succ k ih =>
      intro hk
      have := step (a0 - k) (by omega) (ih (by omega))
      have e : prv n (a0 - k) = a0 - (k + 1) := by unfold prv; rw [if_neg (by omega)]; omega
      rw [e] at this
      exact this
  have h0 : h 0 = h a0 := by
    have := dn a0 (Nat.le_refl _)
    rw [Nat.sub_self] at this
    exact this
  have up : ∀ k, k < n → h (n - 1 - k) = h a0 := fun k => by
    induction k with
    | zero =>
      intro _
      have := step 0 (by omega) h0
      exact this
    | succ k ih =>
      intro hk
      have := step (n - 1 - k) (by omega) (ih (by omega))
      have e : prv n (n - 1 - k) = n - 1 - (k + 1) := by unfold prv; rw [if_neg (by omega)]; omega
      rw [e] at this
      exact this
  obtain ⟨i, j, hi, hj, z⟩ := ne
  have e1 := up (n - 1 - i) (by omega)
  have e2 := up (n - 1 - j) (by omega)
  rw [show n - 1 - (n - 1 - i) = i by omega] at e1
  rw [show n - 1 - (n - 1 - j) = j by omega] at e2
  exact z (e1.trans e2.symm)
/-- a corner beside which nothing is higher is the highest -/
theorem top_all {n b : Nat} {c d : Nat → Rat} (hn : 3 ≤ n) (hb : b < n) (h : CC n c d) {wx wy : Rat} (h1 : 0 ≤ crs wx wy (c b - c (prv n b)) (d b - d (prv n b))) (h2 : crs wx wy (c (nxt n b) - c b) (d (nxt n b) - d b) ≤ 0) {j : Nat} (hj : j < n) : crs wx wy (c j - c b) (d j - d b) ≤ 0 := by
  have hp := prv_lt hb
  have hq := nxt_lt hb
  have g := h.s hp hb hq (by unfold prv nxt Cyc at *; split <;> split <;> omega)
  have a1 := h.w hp hb hj (by unfold prv Cyc at *; split <;> omega)
  have a2 := h.w hb hq hj (by unfold nxt Cyc at *; split <;> omega)
  have id : orI c d (prv n b) b (nxt n b) * crs wx wy (c j - c b) (d j - d b) = orI c d (prv n b) b j * crs wx wy (c (nxt n b) - c b) (d (nxt n b) - d b) - orI c d b (nxt n b) j * crs wx wy (c b - c (prv n b)) (d b - d (prv n b)) := by
    unfold orI orr crs
    clear a1 a2 g h1 h2
    grind
  have m1 := Rat.mul_nonneg a1 (show 0 ≤ -crs wx wy (c (nxt n b) - c b) (d (nxt n b) - d b) by grind)
  have m2 := Rat.mul_nonneg a2 h1
  have := nonneg_of_mul (a := -crs wx wy (c j - c b) (d j - d b)) g (by grind)
  grind
theorem crs_id (tx ty rx ry lx ly dx dy : Rat) : crs rx ry lx ly * crs dx dy tx ty = crs tx ty lx ly * crs dx dy rx ry + crs rx ry tx ty * crs dx dy lx ly := by unfold crs; grind
/-- of two ways round a line between them, one has the thing on its right -/
theorem one_of {tx ty rx ry lx ly dx dy : Rat} (h : 0 < crs rx ry lx ly) (h1 : 0 ≤ crs tx ty lx ly) (h2 : 0 < crs rx ry tx ty) (hd : 0 ≤ crs dx dy tx ty) : 0 ≤ crs dx dy rx ry ∨ 0 ≤ crs dx dy lx ly := by
  refine Classical.byContradiction fun z => ?_
  have z1 : crs dx dy rx ry < 0 := by grind
  have z2 : crs dx dy lx ly < 0 := by grind
  have := crs_id tx ty rx ry lx ly dx dy
  have a := Rat.mul_nonneg (Rat.le_of_lt h) hd
  have b := Rat.mul_nonneg h1 (show 0 ≤ -crs dx dy rx ry by grind)
  have e := Rat.mul_pos h2 (show 0 < -crs dx dy lx ly by grind)
  grind
/-- r between g1 and t, t between g1 and g2: then r is between g1 and g2 -/
theorem betw {g1x g1y g2x g2y tx ty rx ry : Rat} (hg : 0 < crs g1x g1y g2x g2y) (h1 : 0 < crs g1x g1y tx ty) (h2 : 0 ≤ crs tx ty g2x g2y) (h3 : 0 ≤ crs g1x g1y rx ry) (h4 : 0 < crs rx ry tx ty) : 0 < crs rx ry g2x g2y := by
  have id : crs g1x g1y tx ty * crs rx ry g2x g2y = crs g1x g1y g2x g2y * crs rx ry tx ty + crs g1x g1y rx ry * crs tx ty g2x g2y := by unfold crs; grind
  have a := Rat.mul_pos hg h4
  have b := Rat.mul_nonneg h3 h2
  exact pos_of_mul h1 (by rw [id]; grind)
/-- l between t and g2, t between g1 and g2, and l not against t -/
theorem betw2 {g1x g1y g2x g2y tx ty lx ly ex ey : Rat} (hg : 0 < crs g1x g1y g2x g2y) (h1 : 0 < crs g1x g1y tx ty) (h2 : 0 ≤ crs tx ty g2x g2y) (h3 : 0 ≤ crs lx ly g2x g2y) (h4 : 0 ≤ crs tx ty lx ly) (k1 : 0 < crs ex ey lx ly) (k2 : 0 < crs ex ey tx ty) : 0 < crs g1x g1y lx ly := by
  have id : crs tx ty g2x g2y * crs g1x g1y lx ly = crs g1x g1y g2x g2y * crs tx ty lx ly + crs g1x g1y tx ty * crs lx ly g2x g2y := by unfold crs; grind
  have a := Rat.mul_nonneg (Rat.le_of_lt hg) h4
  have b := Rat.mul_nonneg (Rat.le_of_lt h1) h3
  by_cases z : 0 < crs tx ty lx ly ∨ 0 < crs lx ly g2x g2y
  · have p : 0 < crs tx ty g2x g2y * crs g1x g1y lx ly := by
      rw [id]
      rcases z with z | z
      · have := Rat.mul_pos hg z
        grind
      · have := Rat.mul_pos h1 z
        grind
    have q : 0 < crs tx ty g2x g2y := by
      refine Rat.not_le.mp fun w => ?_
      have w0 : crs tx ty g2x g2y = 0 := by grind
      rw [w0] at p
      grind
    exact pos_of_mul q p
  · have z1 : crs tx ty lx ly = 0 := by grind
    have id2 : crs ex ey tx ty * crs g1x g1y lx ly = crs ex ey lx ly * crs g1x g1y tx ty + crs ex ey g1x g1y * crs tx ty lx ly := by unfold crs; grind
    exact pos_of_mul k2 (by
      rw [id2, z1]
      have := Rat.mul_pos k1 h1
      grind)
theorem not_flat {n : Nat} {c d : Nat → Rat} (hn : 3 ≤ n) (h : CC n c d) {al be : Rat} (nz : al ≠ 0 ∨ be ≠ 0) : ∃ i j, i < n ∧ j < n ∧ al * c i + be * d i ≠ al * c j + be * d j := by
  refine Classical.byContradiction fun no => ?_
  have e1 : al * c 0 + be * d 0 = al * c 1 + be * d 1 := Classical.byContradiction fun z => no ⟨0, 1, by omega, by omega, z⟩
  have e2 : al * c 0 + be * d 0 = al * c 2 + be * d 2 := Classical.byContradiction fun z => no ⟨0, 2, by omega, by omega, z⟩
  have o := h 0 1 2 (by omega) (by omega) (by omega)
  unfold orI orr at o
  rcases nz with nz | nz
  · have : al * ((c 1 - c 0) * (d 2 - d 0) - (d 1 - d 0) * (c 2 - c 0)) = 0 := by
      generalize c 0 = a1 at *; generalize d 0 = a2 at *; generalize c 1 = b1 at *; generalize d 1 = b2 at *; generalize c 2 = g1 at *; generalize d 2 = g2 at *
      have p1 : al * (b1 - a1) = -(be * (b2 - a2)) := by grind
      have p2 : al * (g1 - a1) = -(be * (g2 - a2)) := by grind
      grind
    rcases Rat.mul_eq_zero.mp this with z | z
    · exact nz z
    · grind
  · have : be * ((c 1 - c 0) * (d 2 - d 0) - (d 1 - d 0) * (c 2 - c 0)) = 0 := by
      generalize c 0 = a1 at *; generalize d 0 = a2 at *; generalize c 1 = b1 at *; generalize d 1 = b2 at *; generalize c 2 = g1 at *; generalize d 2 = g2 at *
      have p1 : be * (b2 - a2) = -(al * (b1 - a1)) := by grind
      have p2 : be * (g2 - a2) = -(al * (g1 - a1)) := by grind
      grind
    rcases Rat.mul_eq_zero.mp this with z | z
    · exact nz z
    · grind
theorem orr_crs (ax ay bx bY cx cy : Rat) : orr ax ay bx bY cx cy = crs (bx - ax) (bY - ay) (cx - ax) (cy - ay) := rfl
theorem crs_neg (ax ay bx bY : Rat) : crs (-ax) (-ay) bx bY = -crs ax ay bx bY := by unfold crs; grind
theorem crs_neg2 (ax ay bx bY : Rat) : crs ax ay (-bx) (-bY) = -crs ax ay bx bY := by unfold crs; grind
theorem crs_sw (ax ay bx bY : Rat) : crs ax ay bx bY = -crs bx bY ax ay := by unfold crs; grind
section
variable {al be ga x y x' y' px py ax ay qx qy : Rat}
theorem sat1 (h : al * x + be * y < al * x' + be * y') : 0 < crs (x' - x) (y' - y) (-be) al := by unfold crs; grind
theorem sat2 (h : al * x' + be * y' ≤ al * x + be * y) : 0 ≤ crs (-be) al (x' - x) (y' - y) := by unfold crs; grind
theorem sat3 (h : -al * x + -be * y < -al * x' + -be * y') : 0 < crs (-(x' - x)) (-(y' - y)) (-be) al := by unfold crs; grind
theorem sat4 (h : -al * x' + -be * y' ≤ -al * x + -be * y) : 0 ≤ crs (-be) al (-(x' - x)) (-(y' - y)) := by unfold crs; grind
theorem sat5 (h : 0 < orr px py ax ay qx qy) : 0 < crs (ax - px) (ay - py) (qx - ax) (qy - ay) := by unfold orr at h; unfold crs; grind
theorem sat6 (h : 0 < orr px py ax ay qx qy) : 0 < crs (-(ax - px)) (-(ay - py)) (-(qx - ax)) (-(qy - ay)) := by unfold orr at h; unfold crs; grind
theorem sat7 (h : al * x + be * y + ga ≤ 0) (h2 : 0 ≤ al * x' + be * y' + ga) : 0 ≤ crs (x' - x) (y' - y) (-be) al := by unfold crs; grind
theorem orr_add (gx gy : Rat) : orr px py ax ay qx qy = crs (ax - px) (ay - py) (qx - gx) (qy - gy) + crs (ax - px) (ay - py) (gx - ax) (gy - ay) := by unfold orr crs; grind
theorem orr_add2 (gx gy : Rat) : orr px py ax ay qx qy = crs (ax - px) (ay - py) (qx - gx) (qy - gy) + crs (ax - px) (ay - py) (gx - px) (gy - py) := by unfold orr crs; grind
end
theorem sat {n m : Nat} {c d e f : Nat → Rat} (hn : 3 ≤ n) (hm : 3 ≤ m) (hP : CC n c d) (hQ : CC m e f) {al be ga : Rat} (nz : al ≠ 0 ∨ be ≠ 0) (h1 : ∀ i, i < n → al * c i + be * d i + ga ≤ 0) (h2 : ∀ j, j < m → 0 ≤ al * e j + be * f j + ga) : SepI n c d m e f ∨ SepI m e f n c d := by
  obtain ⟨a, ha, a1, a2⟩ := top_at (by omega) (fun i => al * c i + be * d i) (not_flat hn hP nz)
  obtain ⟨b, hb, b1, b2⟩ := top_at (by omega) (fun i => -al * e i + -be * f i) (not_flat hm hQ (by grind))
  have D := h1 a ha
  have D2 := h2 b hb
  have pa := prv_lt ha
  have qa := nxt_lt ha
  have pb := prv_lt hb
  have qb := nxt_lt hb
  have tP := @top_all n a c d hn ha hP
  have tQ := @top_all m b e f hm hb hQ
  have gE := hP.s pa ha qa (by unfold prv nxt Cyc at *; split <;> split <;> omega)
  have gG := hQ.s pb hb qb (by unfold prv nxt Cyc at *; split <;> split <;> omega)
  have sP1 : (∀ j, j < m → orr (c (prv n a)) (d (prv n a)) (c a) (d a) (e j) (f j) ≤ 0) → SepI n c d m e f := fun h => ⟨prv n a, pa, by rw [nxt_prv ha]; exact h⟩
  have sP2 : (∀ j, j < m → orr (c a) (d a) (c (nxt n a)) (d (nxt n a)) (e j) (f j) ≤ 0) → SepI n c d m e f := fun h => ⟨a, ha, h⟩
  have sQ1 : (∀ j, j < n → orr (e (prv m b)) (f (prv m b)) (e b) (f b) (c j) (d j) ≤ 0) → SepI m e f n c d := fun h => ⟨prv m b, pb, by rw [nxt_prv hb]; exact h⟩
  have sQ2 : (∀ j, j < n → orr (e b) (f b) (e (nxt m b)) (f (nxt m b)) (c j) (d j) ≤ 0) → SepI m e f n c d := fun h => ⟨b, hb, h⟩
  -- the four sides and the line
  obtain ⟨E1x, hE1x⟩ : ∃ z, z = c a - c (prv n a) := ⟨_, rfl⟩
  obtain ⟨E1y, hE1y⟩ : ∃ z, z = d a - d (prv n a) := ⟨_, rfl⟩
  obtain ⟨E2x, hE2x⟩ : ∃ z, z = c (nxt n a) - c a := ⟨_, rfl⟩
  obtain ⟨E2y, hE2y⟩ : ∃ z, z = d (nxt n a) - d a := ⟨_, rfl⟩
  obtain ⟨G1x, hG1x⟩ : ∃ z, z = e b - e (prv m b) := ⟨_, rfl⟩
  obtain ⟨G1y, hG1y⟩ : ∃ z, z = f b - f (prv m b) := ⟨_, rfl⟩
  obtain ⟨G2x, hG2x⟩ : ∃ z, z = e (nxt m b) - e b := ⟨_, rfl⟩
  obtain ⟨G2y, hG2y⟩ : ∃ z, z = f (nxt m b) - f b := ⟨_, rfl⟩
  have t1 : 0 < crs E1x E1y (-be) al := by rw [hE1x, hE1y]; exact sat1 a1
  have t2 : 0 ≤ crs (-be) al E2x E2y := by rw [hE2x, hE2y]; exact sat2 a2
  have t3 : 0 < crs (-G1x) (-G1y) (-be) al := by rw [hG1x, hG1y]; exact sat3 b1
  have t4 : 0 ≤ crs (-be) al (-G2x) (-G2y) := by rw [hG2x, hG2y]; exact sat4 b2
  have t5 : 0 < crs E1x E1y E2x E2y := by rw [hE1x, hE1y, hE2x, hE2y]; exact sat5 gE
  have t6 : 0 < crs (-G1x) (-G1y) (-G2x) (-G2y) := by rw [hG1x, hG1y, hG2x, hG2y]; exact sat6 gG
  have t7 : 0 ≤ crs (e b - c a) (f b - d a) (-be) al := sat7 D D2
  -- what each of them asks
  have qE : ∀ {wx wy : Rat}, 0 ≤ crs wx wy G1x G1y → crs wx wy G2x G2y ≤ 0 → ∀ j, j < m → crs wx wy (e j - e b) (f j - f b) ≤ 0 := fun {wx wy} z1 z2 j hj => tQ (wx := wx) (wy := wy) (by rw [← hG1x, ← hG1y]; exact z1) (by rw [← hG2x, ← hG2y]; exact z2) hj
  have qG : ∀ {wx wy : Rat}, 0 ≤ crs wx wy E1x E1y → crs wx wy E2x E2y ≤ 0 → ∀ j, j < n → crs wx wy (c j - c a) (d j - d a) ≤ 0 := fun {wx wy} z1 z2 j hj => tP (wx := wx) (wy := wy) (by rw [← hE1x, ← hE1y]; exact z1) (by rw [← hE2x, ← hE2y]; exact z2) hj
  have cE1 : 0 ≤ crs (e b - c a) (f b - d a) E1x E1y → 0 ≤ crs E1x E1y G1x G1y → crs E1x E1y G2x G2y ≤ 0 → SepI n c d m e f := fun z1 z2 z3 => sP1 fun j hj => by
    have := qE z2 z3 j hj
    rw [crs_sw] at z1
    rw [orr_add (e b) (f b), ← hE1x, ← hE1y]
    clear z2 z3
    grind
  have cE2 : 0 ≤ crs (e b - c a) (f b - d a) E2x E2y → 0 ≤ crs E2x E2y G1x G1y → crs E2x E2y G2x G2y ≤ 0 → SepI n c d m e f := fun z1 z2 z3 => sP2 fun j hj => by
    have := qE z2 z3 j hj
    rw [crs_sw] at z1
    rw [orr_add2 (e b) (f b), ← hE2x, ← hE2y]
    clear z2 z3
    grind
  have cG1 : 0 ≤ crs (e b - c a) (f b - d a) (-G1x) (-G1y) → 0 ≤ crs G1x G1y E1x E1y → crs G1x G1y E2x E2y ≤ 0 → SepI m e f n c d := fun z1 z2 z3 => sQ1 fun j hj => by
    have := qG z2 z3 j hj
    rw [crs_neg2] at z1
    have z4 : crs G1x G1y (c a - e b) (d a - f b) = -crs G1x G1y (e b - c a) (f b - d a) := by unfold crs; clear z1 z2 z3 this; grind
    rw [orr_add (c a) (d a), ← hG1x, ← hG1y, z4]
    have z6 := crs_sw (e b - c a) (f b - d a) G1x G1y
    grind
  have cG2 : 0 ≤ crs (e b - c a) (f b - d a) (-G2x) (-G2y) → 0 ≤ crs G2x G2y E1x E1y → crs G2x G2y E2x E2y ≤ 0 → SepI m e f n c d := fun z1 z2 z3 => sQ2 fun j hj => by
    have := qG z2 z3 j hj
    rw [crs_neg2] at z1
    have z4 : crs G2x G2y (c a - e b) (d a - f b) = -crs G2x G2y (e b - c a) (f b - d a) := by unfold crs; clear z1 z2 z3 this; grind
    rw [orr_add2 (c a) (d a), ← hG2x, ← hG2y, z4]
    have z6 := crs_sw (e b - c a) (f b - d a) G2x G2y
    grind
  clear tP tQ sP1 sP2 sQ1 sQ2 qE qG gE gG D D2 h1 h2 a1 a2 b1 b2 hE1x hE1y hE2x hE2y hG1x hG1y hG2x hG2y
  generalize e b - c a = dx at *
  generalize f b - d a = dy at *
  have n1 := crs_neg2 E1x E1y G1x G1y
  have n2 := crs_neg2 E1x E1y G2x G2y
  have n3 := crs_neg2 E2x E2y G1x G1y
  have n4 := crs_neg2 E2x E2y G2x G2y
  have m1 := crs_sw G1x G1y E1x E1y
  have m2 := crs_sw G1x G1y E2x E2y
  have m3 := crs_sw G2x G2y E1x E1y
  have m4 := crs_sw G2x G2y E2x E2y
  have s1 := crs_sw (-G1x) (-G1y) E1x E1y
  have s2 := crs_sw (-G1x) (-G1y) E2x E2y
  by_cases w1 : 0 ≤ crs (-G1x) (-G1y) E1x E1y
  · -- the near one on the right is E1
    have r1 := betw t6 t3 t4 w1 t1
    by_cases w2 : 0 ≤ crs E2x E2y (-G2x) (-G2y)
    · have l1 := betw2 t6 t3 t4 w2 t2 t5 t1
      rcases one_of t5 t2 t1 t7 with z | z
      · exact .inl (cE1 z (by grind) (by grind))
      · exact .inl (cE2 z (by grind) (by grind))
    · rcases one_of r1 t4 t1 t7 with z | z
      · exact .inl (cE1 z (by grind) (by grind))
      · exact .inr (cG2 z (by grind) (by grind))
  · have w1' : 0 ≤ crs E1x E1y (-G1x) (-G1y) := by grind
    have r1 := betw t5 t1 t2 w1' t3
    by_cases w2 : 0 ≤ crs E2x E2y (-G2x) (-G2y)
    · have l1 := betw2 t6 t3 t4 w2 t2 t5 t1
      rcases one_of r1 t2 t3 t7 with z | z
      · exact .inr (cG1 z (by grind) (by grind))
      · exact .inl (cE2 z (by grind) (by grind))
    · have w3 : 0 ≤ crs (-G2x) (-G2y) E2x E2y := by have := crs_sw (-G2x) (-G2y) E2x E2y; grind
      have l1 := betw2 t5 t1 t2 w3 t4 t6 t3
      have := crs_sw E1x E1y (-G2x) (-G2y)
      rcases one_of t6 t4 t3 t7 with z | z
      · exact .inr (cG1 z (by grind) (by grind))
      · exact .inr (cG2 z (by grind) (by grind))

/-! ### a corner cut off and kept: sizes of both pieces -/
theorem IsI.neg8 {q : Rat} {D : Int} (h : IsI q D) : IsI (-q) D := by
  obtain ⟨z, e⟩ := h
  exact ⟨-z, by rw [Rat.intCast_neg, ← e]; grind⟩
theorem pols_both {n k M : Nat} {c d x y l t : Nat → Rat} {W E m : Int} {s room lm : Rat} (hm : 1 ≤ m ∧ m ≤ 4) (hk : k < n) (P : PolI n c d x y l t) (S : PolS n c d x y l t W E M) (hl : lm = l (prv n k) ∨ lm = l k) (es : s = (m : Rat) / 5 * t k) (er : room = (m : Rat) / 5 * lm) :
    ∃ (r : Rat) (W' F : Int), 0 < s ∧ 0 < r ∧ r * (1 + s * t k) = t k - s ∧ W' ≤ W * (41 * (M * M)) ∧ 0 < F ∧ F ≤ 410 * (M * M) * (M * M) ∧
    PolS (n + 1) (ins2 k c (c k - room * third s (t k) * x (prv n k)) (c k + room * (2 * s / (1 + s * s)) * x k)) (ins2 k d (d k - room * third s (t k) * y (prv n k)) (d k + room * (2 * s / (1 + s * s)) * y k))
      (ins1 k x (rotX s (x (prv n k)) (y (prv n k)))) (ins1 k y (rotY s (x (prv n k)) (y (prv n k)))) (insL n k l (l (prv n k) - room * third s (t k)) (room * (2 * t k / (1 + t k * t k))) (l k - room * (2 * s / (1 + s * s)))) (ins2 k t s r) W' (E * F) (9 * M * M) ∧
    PolS 3 (tri (c k) (c k + room * (2 * s / (1 + s * s)) * x k) (c k - room * third s (t k) * x (prv n k))) (tri (d k) (d k + room * (2 * s / (1 + s * s)) * y k) (d k - room * third s (t k) * y (prv n k)))
      (tri (x k) (-rotX s (x (prv n k)) (y (prv n k))) (x (prv n k))) (tri (y k) (-rotY s (x (prv n k)) (y (prv n k))) (y (prv n k))) (tri (room * (2 * s / (1 + s * s))) (room * (2 * t k / (1 + t k * t k))) (room * third s (t k))) (tri (t k) (1 / r) (1 / s)) W' (E * F) (9 * M * M) := by
  obtain ⟨a, b, et, a0, aM, b0, bM⟩ := S.ti k hk
  have hp : prv n k < n := by unfold prv; split <;> omega
  have m0 : (0 : Rat) < (m : Rat) := Rat.intCast_pos.mpr (by omega)
  have m5 : (m : Rat) < 5 := by
    have : ((m : Int) : Rat) < ((5 : Int) : Rat) := Rat.intCast_lt_intCast.mpr (by omega)
    exact this
  have ht := P.tp k hk
  have hs : 0 < s := by
    rw [es]
    exact Rat.mul_pos (q_div m0 (by decide)) ht
  have st : s < t k := by
    have : 0 < (5 - (m : Rat)) / 5 * t k := Rat.mul_pos (q_div (by grind) (by decide)) ht
    grind
  have hst : 0 < 1 + s * t k := by
    have := Rat.mul_pos hs ht
    grind
  have hr : 0 < (t k - s) / (1 + s * t k) := q_div (by grind) hst
  have b1 : (b : Rat) ≠ 0 := i_ne (by omega)
  have mi : (0 : Int) < m := by omega
  have es2 : s = ((m * a : Int) : Rat) / ((5 * b : Int) : Rat) := by
    rw [es, et, Rat.intCast_mul, Rat.intCast_mul, show ((5 : Int) : Rat) = 5 from rfl]
    generalize (b : Rat) = b' at *
    grind
  have bm : 5 * b ≠ 0 := by omega
  have hN := Int.mul_pos mi a0
  -- the two norms
  have ns : (m * a) * (m * a) + (5 * b) * (5 * b) ≤ 41 * (M * M) := by
    have h1 : m * m ≤ 16 := by have := sq_le mi hm.2; omega
    have h2 : (m * a) * (m * a) = (m * m) * (a * a) := by grind
    have h3 : (m * m) * (a * a) ≤ 16 * (M * M) := Int.mul_le_mul h1 (sq_le a0 aM) (Int.le_of_lt (Int.mul_pos a0 a0)) (by decide)
    have h4 : (5 * b) * (5 * b) = 25 * (b * b) := by grind
    have h5 := sq_le b0 bM
    omega
  have nt' : a * a + b * b ≤ 2 * (M * M) := by
    have := sq_le a0 aM
    have := sq_le b0 bM
    omega
  have ps : 0 < (m * a) * (m * a) + (5 * b) * (5 * b) := by
    have h1 := Int.mul_pos hN hN
    have h2 := Int.mul_pos (show 0 < 5 * b by omega) (show 0 < 5 * b by omega)
    omega
  have pt : 0 < a * a + b * b := by
    have h1 := Int.mul_pos a0 a0
    have h2 := Int.mul_pos b0 b0
    omega
  obtain ⟨rx, ry⟩ := rotI bm es2 hs (S.xi _ hp) (S.yi _ hp)
  have t3 := thirdI bm (show b ≠ 0 by omega) es2 et hs ht
  obtain ⟨s1, _⟩ := sinI bm es2 hs
  obtain ⟨s2, _⟩ := sinI (show b ≠ 0 by omega) et ht
  have ro : IsI room (5 * E) := by
    rw [er]
    refine IsI.mul (isI_div m 5 (by decide)) ?_
    rcases hl with e | e
    · rw [e]; exact S.li _ hp
    · rw [e]; exact S.li _ hk
  generalize hNs : (m * a) * (m * a) + (5 * b) * (5 * b) = Ns at *
  generalize hNt : a * a + b * b = Nt at *
  have r1 : IsI (room * third s (t k)) (5 * E * Ns * Nt) := (ro.mul t3).cast (by rw [Int.mul_assoc (5 * E)])
  have r2 : IsI (room * (2 * s / (1 + s * s))) (5 * E * Ns * Nt) := (ro.mul s1).up Nt
  have r3 : IsI (room * (2 * t k / (1 + t k * t k))) (5 * E * Ns * Nt) := ((ro.mul s2).up Ns).cast (by grind)
  have le : ∀ i, i < n → IsI (l i) (5 * E * Ns * Nt) := fun i hi => ((S.li i hi).up (5 * Ns * Nt)).cast (by grind)
  have ce : ∀ i, i < n → IsI (c i) (W * Ns * (5 * E * Ns * Nt)) := fun i hi => ((S.ci i hi).up (5 * Ns * Ns * Nt)).cast (by grind)
  have de : ∀ i, i < n → IsI (d i) (W * Ns * (5 * E * Ns * Nt)) := fun i hi => ((S.di i hi).up (5 * Ns * Ns * Nt)).cast (by grind)
  have xe : ∀ i, i < n → IsI (x i) (W * Ns) := fun i hi => (S.xi i hi).up Ns
  have ye : ∀ i, i < n → IsI (y i) (W * Ns) := fun i hi => (S.yi i hi).up Ns
  have eF : E * (5 * Ns * Nt) = 5 * E * Ns * Nt := by grind
  have MM : (M : Int) ≤ M * M := by
    have h := Int.mul_le_mul_of_nonneg_left (show (1 : Int) ≤ M by omega) (show (0 : Int) ≤ M by omega)
    omega
  have c9 : ((9 * M * M : Nat) : Int) = 9 * ((M : Int) * M) := by grind
  have tK : ∃ a b : Int, t k = (a : Rat) / (b : Rat) ∧ 0 < a ∧ a ≤ (9 * M * M : Nat) ∧ 0 < b ∧ b ≤ (9 * M * M : Nat) := ⟨a, b, et, a0, by rw [c9]; omega, b0, by rw [c9]; omega⟩
  have u1 : (0 : Int) < m * a := hN
  have u2 : m * a ≤ (9 * M * M : Nat) := by
    rw [c9]
    have := Int.mul_le_mul hm.2 aM (Int.le_of_lt a0) (show (0 : Int) ≤ 4 by decide)
    omega
  have u3 : 5 * b ≤ (9 * M * M : Nat) := by rw [c9]; omega
  have u4 : 0 < a * b * (5 - m) := Int.mul_pos (Int.mul_pos a0 b0) (by omega)
  have u5 : a * b * (5 - m) ≤ (9 * M * M : Nat) := by
    rw [c9]
    have h1 := ab_le a0 aM b0 bM
    have h2 := Int.mul_le_mul h1 (show 5 - m ≤ 4 by omega) (by omega) (by have := Int.mul_pos a0 b0; omega)
    omega
  have u6 : 0 < 5 * (b * b) + m * (a * a) := by
    have h1 := Int.mul_pos b0 b0
    have h2 := Int.mul_pos mi (Int.mul_pos a0 a0)
    omega
  have u7 : 5 * (b * b) + m * (a * a) ≤ (9 * M * M : Nat) := by
    rw [c9]
    have h1 := sq_le b0 bM
    have h2 := Int.mul_le_mul hm.2 (sq_le a0 aM) (Int.le_of_lt (Int.mul_pos a0 a0)) (show (0 : Int) ≤ 4 by decide)
    omega
  have er' : (t k - s) / (1 + s * t k) = ((a * b * (5 - m) : Int) : Rat) / ((5 * (b * b) + m * (a * a) : Int) : Rat) := by
    rw [es, et]
    simp only [Rat.intCast_add, Rat.intCast_mul, Rat.intCast_sub]
    rw [show ((5 : Int) : Rat) = 5 from rfl]
    have hb2 : (b : Rat) * b ≠ 0 := q_mul b1 b1
    have hd : 5 * ((b : Rat) * b) + m * ((a : Rat) * a) ≠ 0 := by
      have h1 := q_sq (a : Rat)
      have h2 : (0 : Rat) < (b : Rat) * b := Rat.mul_pos (Rat.intCast_pos.mpr b0) (Rat.intCast_pos.mpr b0)
      have h3 := Rat.mul_nonneg (Rat.le_of_lt m0) h1
      grind
    have hd2 : 1 + (m : Rat) / 5 * ((a : Rat) / b) * ((a : Rat) / b) ≠ 0 := by
      have := hst
      rw [es, et] at this
      grind
    generalize (b : Rat) = b' at *
    generalize (a : Rat) = a' at *
    generalize (m : Rat) = m' at *
    clear es2 hN ns ps pt nt' rx ry t3 s1 s2 ro r1 r2 r3 u1 u2 u3 u4 u5 u6 u7
    grind
  refine ⟨(t k - s) / (1 + s * t k), W * Ns, 5 * Ns * Nt, hs, hr, Rat.div_mul_cancel (by grind), Int.mul_le_mul_of_nonneg_left ns (Int.le_of_lt S.wp), Int.mul_pos (Int.mul_pos (by decide) ps) pt, ?_, ?_, ?_⟩
  · have h1 : Ns * Nt ≤ 41 * (M * M) * (2 * (M * M)) := Int.mul_le_mul ns nt' (Int.le_of_lt pt) (by have := Int.mul_nonneg (show (0 : Int) ≤ M by omega) (show (0 : Int) ≤ M by omega); omega)
    have e1 : 5 * Ns * Nt = 5 * (Ns * Nt) := by grind
    have e2 : 5 * (41 * ((M : Int) * M) * (2 * ((M : Int) * M))) = 410 * ((M : Int) * M) * ((M : Int) * M) := by grind
    rw [e1, ← e2]
    exact Int.mul_le_mul_of_nonneg_left h1 (by decide)
  · rw [eF]
    refine ⟨Int.mul_pos S.wp ps, Int.mul_pos (Int.mul_pos (by have := S.ep; omega) ps) pt, ?_, ?_, ?_, ?_, ?_, ?_⟩
    · exact all_ins1 (p := fun q => IsI q (W * Ns)) hk xe rx
    · exact all_ins1 (p := fun q => IsI q (W * Ns)) hk ye ry
    · exact all_insL (p := fun q => IsI q (5 * E * Ns * Nt)) hk le ((le _ hp).sub r1) r3 ((le _ hk).sub r2)
    · exact all_ins2 (p := fun q => IsI q (W * Ns * (5 * E * Ns * Nt))) hk ce ((ce _ hk).sub ((r1.mul (xe _ hp)).cast (Int.mul_comm _ _))) ((ce _ hk).add ((r2.mul (xe _ hk)).cast (Int.mul_comm _ _)))
    · exact all_ins2 (p := fun q => IsI q (W * Ns * (5 * E * Ns * Nt))) hk de ((de _ hk).sub ((r1.mul (ye _ hp)).cast (Int.mul_comm _ _))) ((de _ hk).add ((r2.mul (ye _ hk)).cast (Int.mul_comm _ _)))
    · refine all_ins2 (p := fun q => ∃ a b : Int, q = (a : Rat) / (b : Rat) ∧ 0 < a ∧ a ≤ (9 * M * M : Nat) ∧ 0 < b ∧ b ≤ (9 * M * M : Nat)) hk (fun i hi => ?_) ⟨m * a, 5 * b, es2, u1, u2, by omega, u3⟩ ⟨a * b * (5 - m), 5 * (b * b) + m * (a * a), er', u4, u5, u6, u7⟩
      obtain ⟨a2, b2, e2, h1, h2, h3, h4⟩ := S.ti i hi
      exact ⟨a2, b2, e2, h1, by rw [c9]; omega, h3, by rw [c9]; omega⟩
  · rw [eF]
    have inv : ∀ {u v : Int} {q : Rat}, u ≠ 0 → v ≠ 0 → q = (u : Rat) / (v : Rat) → 1 / q = (v : Rat) / (u : Rat) := fun {u v q} hu hv e => by
      rw [e]
      exact q_ii (i_ne hu) (i_ne hv)
    refine ⟨Int.mul_pos S.wp ps, Int.mul_pos (Int.mul_pos (by have := S.ep; omega) ps) pt, all3 (xe _ hk) rx.neg8 (xe _ hp), all3 (ye _ hk) ry.neg8 (ye _ hp), all3 r2 r3 r1, all3 (ce _ hk) ?_ ?_, all3 (de _ hk) ?_ ?_, all3 tK ⟨5 * (b * b) + m * (a * a), a * b * (5 - m), inv (by omega) (by omega) er', u6, u7, u4, u5⟩ ⟨5 * b, m * a, inv (by omega) (by omega) es2, by omega, u3, u1, u2⟩⟩
    · exact (ce _ hk).add ((r2.mul (xe _ hk)).cast (Int.mul_comm _ _))
    · exact (ce _ hk).sub ((r1.mul (xe _ hp)).cast (Int.mul_comm _ _))
    · exact (de _ hk).add ((r2.mul (ye _ hk)).cast (Int.mul_comm _ _))
    · exact (de _ hk).sub ((r1.mul (ye _ hp)).cast (Int.mul_comm _ _))
section
variable {t s r a b : Rat}
theorem rot_neg_x {q : Rat} : rotX q (-a) (-b) = -rotX q a b := by
  unfold rotX
  rw [Rat.div_def, Rat.div_def]
  grind
theorem rot_neg_y {q : Rat} : rotY q (-a) (-b) = -rotY q a b := by
  unfold rotY
  rw [Rat.div_def, Rat.div_def]
  grind
theorem rot_back_x (hr : 0 < r) : rotX (1 / r) (rotX r a b) (rotY r a b) = -a := by
  have h1 := q_ne hr
  have h2 : r ≠ 0 := by grind
  have h3 := inv_ne h2 h1
  unfold rotX rotY
  grind
theorem rot_back_y (hr : 0 < r) : rotY (1 / r) (rotX r a b) (rotY r a b) = -b := by
  have h1 := q_ne hr
  have h2 : r ≠ 0 := by grind
  have h3 := inv_ne h2 h1
  unfold rotX rotY
  grind
end
theorem pol_tri {n k : Nat} {c d x y l t : Nat → Rat} {s r room : Rat} (hk : k < n) (P : PolI n c d x y l t) (hs : 0 < s) (hr : 0 < r) (e : r * (1 + s * t k) = t k - s) (h0 : 0 < room) :
    PolI 3 (tri (c k) (c k + room * (2 * s / (1 + s * s)) * x k) (c k - room * third s (t k) * x (prv n k))) (tri (d k) (d k + room * (2 * s / (1 + s * s)) * y k) (d k - room * third s (t k) * y (prv n k)))
      (tri (x k) (-rotX s (x (prv n k)) (y (prv n k))) (x (prv n k))) (tri (y k) (-rotY s (x (prv n k)) (y (prv n k))) (y (prv n k))) (tri (room * (2 * s / (1 + s * s))) (room * (2 * t k / (1 + t k * t k))) (room * third s (t k))) (tri (t k) (1 / r) (1 / s)) := by
  have ht := P.tp k hk
  have hp := prv_lt hk
  have sr := sin_r hs ht hr e
  have ux := P.unit (prv n k) hp
  have rx := P.rx k hk
  have ry := P.ry k hk
  have nx1 := new_x (x := x (prv n k)) (y := y (prv n k)) (room := room) hs ht
  have ny1 := new_y (x := x (prv n k)) (y := y (prv n k)) (room := room) hs ht
  rw [← rx] at nx1
  rw [← ry] at ny1
  have rr1 := rot_rot_x (x := x (prv n k)) (y := y (prv n k)) hs ht hr e
  have rr2 := rot_rot_y (x := x (prv n k)) (y := y (prv n k)) hs ht hr e
  rw [← rx] at rr1
  rw [← ry] at rr2
  have un := rot_unit hs ux
  have b1 := rot_back_x (a := rotX s (x (prv n k)) (y (prv n k))) (b := rotY s (x (prv n k)) (y (prv n k))) hr
  have b2 := rot_back_y (a := rotX s (x (prv n k)) (y (prv n k))) (b := rotY s (x (prv n k)) (y (prv n k))) hr
  rw [rr1, rr2] at b1 b2
  have b3 := rot_back_x (a := x (prv n k)) (b := y (prv n k)) hs
  have b4 := rot_back_y (a := x (prv n k)) (b := y (prv n k)) hs
  have th0 : 0 < third s (t k) := by rw [sr]; exact sin_pos hr
  refine ⟨all3 (P.unit k hk) ?_ ux, all3 (Rat.mul_pos h0 (sin_pos hs)) (Rat.mul_pos h0 (sin_pos ht)) (Rat.mul_pos h0 th0), all3 ht (q_div (by decide) hr) (q_div (by decide) hs), all3 rfl ?_ ?_, all3 rfl ?_ ?_, all3 rx ?_ ?_, all3 ry ?_ ?_⟩
  · show -rotX s (x (prv n k)) (y (prv n k)) * -rotX s (x (prv n k)) (y (prv n k)) + -rotY s (x (prv n k)) (y (prv n k)) * -rotY s (x (prv n k)) (y (prv n k)) = 1
    grind
  · show c k - room * third s (t k) * x (prv n k) = c k + room * (2 * s / (1 + s * s)) * x k + room * (2 * t k / (1 + t k * t k)) * -rotX s (x (prv n k)) (y (prv n k))
    grind
  · show c k = c k - room * third s (t k) * x (prv n k) + room * third s (t k) * x (prv n k)
    grind
  · show d k - room * third s (t k) * y (prv n k) = d k + room * (2 * s / (1 + s * s)) * y k + room * (2 * t k / (1 + t k * t k)) * -rotY s (x (prv n k)) (y (prv n k))
    grind
  · show d k = d k - room * third s (t k) * y (prv n k) + room * third s (t k) * y (prv n k)
    grind
  · exact b1.symm
  · show x (prv n k) = rotX (1 / s) (-rotX s (x (prv n k)) (y (prv n k))) (-rotY s (x (prv n k)) (y (prv n k)))
    rw [rot_neg_x, b3]
    grind
  · exact b2.symm
  · show y (prv n k) = rotY (1 / s) (-rotX s (x (prv n k)) (y (prv n k))) (-rotY s (x (prv n k)) (y (prv n k)))
    rw [rot_neg_y, b4]
    grind

/-! ### the same with corners between -128 and 128 -/
theorem qb8 {q : Rat} {D : Int} {d : Nat} (h : IsI q D) (hD : 0 < D) (bD : Bt d D) (h1 : q ≤ 128) (h2 : -128 ≤ q) : Qb (8 + d) q :=
  qb_of (V := 128) h hD h1 h2 ((bt_lit (x := ((128 : Nat) : Int)) 8 (by decide)).mul bD) (by decide)
theorem lxV_le {l x : Rat} (l0 : 0 < l) (l4 : l ≤ 128) (h1 : x ≤ 1) (h2 : -1 ≤ x) : l * x ≤ 128 ∧ -128 ≤ l * x := by
  have a := Rat.mul_le_mul_of_nonneg_left h1 (Rat.le_of_lt l0)
  have b := Rat.mul_le_mul_of_nonneg_left h2 (Rat.le_of_lt l0)
  constructor <;> grind
structure PolV (V : Rat) (n : Nat) (c d l : Nat → Rat) : Prop where
  c1 : ∀ i, i < n → c i ≤ V
  c2 : ∀ i, i < n → -V ≤ c i
  d1 : ∀ i, i < n → d i ≤ V
  d2 : ∀ i, i < n → -V ≤ d i
  l1 : ∀ i, i < n → l i ≤ V
theorem lcV_le {V c e la l x : Rat} (h0 : 0 < la) (h1 : la ≤ l) (hc : c ≤ V) (he : e ≤ V) (hx : e = c + l * x) : c + la * x ≤ V := by
  by_cases z : 0 ≤ x
  · have := Rat.mul_le_mul_of_nonneg_right h1 z
    grind
  · have := Rat.mul_le_mul_of_nonneg_left (show x ≤ 0 by grind) (Rat.le_of_lt h0)
    grind
theorem lcV_ge {V c e la l x : Rat} (h0 : 0 < la) (h1 : la ≤ l) (hc : -V ≤ c) (he : -V ≤ e) (hx : e = c + l * x) : -V ≤ c + la * x := by
  have := lcV_le (V := V) (c := -c) (e := -e) (x := -x) h0 h1 (by grind) (by grind) (by grind)
  grind
theorem polv_cut {V : Rat} {n k : Nat} {c d x y l t : Nat → Rat} {s r room : Rat} (hn : 3 ≤ n) (hk : k < n) (P : PolI n c d x y l t) (B : PolV V n c d l) (hs : 0 < s) (hr : 0 < r) (e : r * (1 + s * t k) = t k - s) (h0 : 0 < room) (h1 : room < l (prv n k)) (h2 : room < l k) :
    PolV V (n + 1) (ins2 k c (c k - room * third s (t k) * x (prv n k)) (c k + room * (2 * s / (1 + s * s)) * x k)) (ins2 k d (d k - room * third s (t k) * y (prv n k)) (d k + room * (2 * s / (1 + s * s)) * y k))
      (insL n k l (l (prv n k) - room * third s (t k)) (room * (2 * t k / (1 + t k * t k))) (l k - room * (2 * s / (1 + s * s)))) := by
  have ht := P.tp k hk
  have hp := prv_lt hk
  have sr := sin_r hs ht hr e
  have b1 := sin_le hr
  have p1 := sin_pos hr
  rw [← sr] at b1 p1
  have b2 := sin_le hs
  have p2 := sin_pos hs
  have b3 := sin_le ht
  have p3 := sin_pos ht
  have g1 : room * third s (t k) ≤ room := by
    have := Rat.mul_le_mul_of_nonneg_left b1 (Rat.le_of_lt h0)
    grind
  have g2 : room * (2 * s / (1 + s * s)) ≤ room := by
    have := Rat.mul_le_mul_of_nonneg_left b2 (Rat.le_of_lt h0)
    grind
  have g3 : room * (2 * t k / (1 + t k * t k)) ≤ room := by
    have := Rat.mul_le_mul_of_nonneg_left b3 (Rat.le_of_lt h0)
    grind
  have q1 := Rat.mul_pos h0 p1
  have q2 := Rat.mul_pos h0 p2
  have q3 := Rat.mul_pos h0 p3
  have ex := P.ex (prv n k) hp
  have ey := P.ey (prv n k) hp
  rw [nxt_prv hk] at ex ey
  have fx := P.ex k hk
  have fy := P.ey k hk
  have hq := nxt_lt hk
  generalize room * third s (t k) = u at *
  generalize room * (2 * s / (1 + s * s)) = v at *
  generalize room * (2 * t k / (1 + t k * t k)) = z at *
  have l1 := B.l1 (prv n k) hp
  have l2 := B.l1 k hk
  refine ⟨fun i hi => ?_, fun i hi => ?_, fun i hi => ?_, fun i hi => ?_, fun i hi => ?_⟩
  · refine all_ins2 (p := fun q => q ≤ V) hk B.c1 ?_ ?_ i hi
    · have := lcV_le (la := u) (l := l (prv n k)) (x := -x (prv n k)) q1 (by grind) (B.c1 k hk) (B.c1 _ hp) (by grind)
      grind
    · exact lcV_le (e := c (nxt n k)) q2 (by grind) (B.c1 k hk) (B.c1 _ hq) fx
  · refine all_ins2 (p := fun q => -V ≤ q) hk B.c2 ?_ ?_ i hi
    · have := lcV_ge (la := u) (l := l (prv n k)) (x := -x (prv n k)) q1 (by grind) (B.c2 k hk) (B.c2 _ hp) (by grind)
      grind
    · exact lcV_ge (e := c (nxt n k)) q2 (by grind) (B.c2 k hk) (B.c2 _ hq) fx
  · refine all_ins2 (p := fun q => q ≤ V) hk B.d1 ?_ ?_ i hi
    · have := lcV_le (la := u) (l := l (prv n k)) (x := -y (prv n k)) q1 (by grind) (B.d1 k hk) (B.d1 _ hp) (by grind)
      grind
    · exact lcV_le (e := d (nxt n k)) q2 (by grind) (B.d1 k hk) (B.d1 _ hq) fy
  · refine all_ins2 (p := fun q => -V ≤ q) hk B.d2 ?_ ?_ i hi
    · have := lcV_ge (la := u) (l := l (prv n k)) (x := -y (prv n k)) q1 (by grind) (B.d2 k hk) (B.d2 _ hp) (by grind)
      grind
    · exact lcV_ge (e := d (nxt n k)) q2 (by grind) (B.d2 k hk) (B.d2 _ hq) fy
  · exact all_insL (p := fun q => q ≤ V) hk B.l1 (by grind) (by grind) (by grind) i hi
theorem polv_tri {V : Rat} {n k : Nat} {c d x y l t : Nat → Rat} {s r room : Rat} (hn : 3 ≤ n) (hk : k < n) (P : PolI n c d x y l t) (B : PolV V n c d l) (hs : 0 < s) (hr : 0 < r) (e : r * (1 + s * t k) = t k - s) (h0 : 0 < room) (h1 : room < l (prv n k)) (h2 : room < l k) :
    PolV V 3 (tri (c k) (c k + room * (2 * s / (1 + s * s)) * x k) (c k - room * third s (t k) * x (prv n k))) (tri (d k) (d k + room * (2 * s / (1 + s * s)) * y k) (d k - room * third s (t k) * y (prv n k))) (tri (room * (2 * s / (1 + s * s))) (room * (2 * t k / (1 + t k * t k))) (room * third s (t k))) := by
  have ht := P.tp k hk
  have hp := prv_lt hk
  have sr := sin_r hs ht hr e
  have b1 := sin_le hr
  have p1 := sin_pos hr
  rw [← sr] at b1 p1
  have b2 := sin_le hs
  have p2 := sin_pos hs
  have b3 := sin_le ht
  have p3 := sin_pos ht
  have g1 : room * third s (t k) ≤ room := by
    have := Rat.mul_le_mul_of_nonneg_left b1 (Rat.le_of_lt h0)
    grind
  have g2 : room * (2 * s / (1 + s * s)) ≤ room := by
    have := Rat.mul_le_mul_of_nonneg_left b2 (Rat.le_of_lt h0)
    grind
  have g3 : room * (2 * t k / (1 + t k * t k)) ≤ room := by
    have := Rat.mul_le_mul_of_nonneg_left b3 (Rat.le_of_lt h0)
    grind
  have q1 := Rat.mul_pos h0 p1
  have q2 := Rat.mul_pos h0 p2
  have q3 := Rat.mul_pos h0 p3
  have ex := P.ex (prv n k) hp
  have ey := P.ey (prv n k) hp
  rw [nxt_prv hk] at ex ey
  have fx := P.ex k hk
  have fy := P.ey k hk
  have hq := nxt_lt hk
  generalize room * third s (t k) = u at *
  generalize room * (2 * s / (1 + s * s)) = v at *
  generalize room * (2 * t k / (1 + t k * t k)) = z at *
  have l1 := B.l1 (prv n k) hp
  have l2 := B.l1 k hk
  refine ⟨all3 (B.c1 k hk) ?_ ?_, all3 (B.c2 k hk) ?_ ?_, all3 (B.d1 k hk) ?_ ?_, all3 (B.d2 k hk) ?_ ?_, all3 ?_ ?_ ?_⟩
  · exact lcV_le (e := c (nxt n k)) q2 (by grind) (B.c1 k hk) (B.c1 _ hq) fx
  · have := lcV_le (V := V) (la := u) (l := l (prv n k)) (x := -x (prv n k)) q1 (by grind) (B.c1 k hk) (B.c1 _ hp) (by grind)
    show c k - u * x (prv n k) ≤ V
    grind
  · exact lcV_ge (e := c (nxt n k)) q2 (by grind) (B.c2 k hk) (B.c2 _ hq) fx
  · have := lcV_ge (V := V) (la := u) (l := l (prv n k)) (x := -x (prv n k)) q1 (by grind) (B.c2 k hk) (B.c2 _ hp) (by grind)
    show -V ≤ c k - u * x (prv n k)
    grind
  · exact lcV_le (e := d (nxt n k)) q2 (by grind) (B.d1 k hk) (B.d1 _ hq) fy
  · have := lcV_le (V := V) (la := u) (l := l (prv n k)) (x := -y (prv n k)) q1 (by grind) (B.d1 k hk) (B.d1 _ hp) (by grind)
    show d k - u * y (prv n k) ≤ V
    grind
  · exact lcV_ge (e := d (nxt n k)) q2 (by grind) (B.d2 k hk) (B.d2 _ hq) fy
  · have := lcV_ge (V := V) (la := u) (l := l (prv n k)) (x := -y (prv n k)) q1 (by grind) (B.d2 k hk) (B.d2 _ hp) (by grind)
    show -V ≤ d k - u * y (prv n k)
    grind
  · show v ≤ V
    grind
  · show z ≤ V
    grind
  · show u ≤ V
    grind
theorem cut_ok8 {n k M : Nat} {c d x y l t : Nat → Rat} {W E m : Int} (hm : 1 ≤ m ∧ m ≤ 4) (hk : k < n) (P : PolI n c d x y l t) (S : PolS n c d x y l t W E M) (B : PolV 128 n c d l) (bW : Bt 672 W) (bE : Bt 1295 E) (bM : Bt 330 (M : Int)) {a b a1 b1 a2 b2 p : Rat}
    (ea : a = c k) (eb : b = d k) (ea1 : a1 = c (prv n k)) (eb1 : b1 = d (prv n k)) (ea2 : a2 = c (nxt n k)) (eb2 : b2 = d (nxt n k)) (ep : p = (m : Rat) / 5) :
    CutOk a b a1 b1 a2 b2 (x (prv n k)) (y (prv n k)) (x k) (y k) (l (prv n k)) (l k) (t k) p (t k * p) ((1 - (t k * p) * (t k * p)) / (1 + (t k * p) * (t k * p))) (2 * (t k * p) / (1 + (t k * p) * (t k * p)))
      ((t k * t k - 1) / (1 + t k * t k)) (2 * t k / (1 + t k * t k)) (third (t k * p) (t k)) (if l k < l (prv n k) then l k else l (prv n k)) ((if l k < l (prv n k) then l k else l (prv n k)) * p) := by
  have hp := prv_lt hk
  have hq := nxt_lt hk
  have wp := S.wp
  have ep0 := S.ep
  have ht := P.tp k hk
  have p0 : 0 < p := by
    rw [ep]
    exact q_div (Rat.intCast_pos.mpr (by omega)) (by decide)
  have hs : 0 < t k * p := Rat.mul_pos ht p0
  -- the corners and the sides
  have ux := P.unit (prv n k) hp
  have uy := P.unit k hk
  have ex := P.ex (prv n k) hp
  have ey := P.ey (prv n k) hp
  rw [nxt_prv hk] at ex ey
  have fx := P.ex k hk
  have fy := P.ey k hk
  have rx := P.rx k hk
  have ry := P.ry k hk
  rw [← ea, ← ea1] at ex
  rw [← eb, ← eb1] at ey
  rw [← ea, ← ea2] at fx
  rw [← eb, ← eb2] at fy
  have WE : 0 < W * E := Int.mul_pos wp ep0
  have EW : 0 < E * W := Int.mul_pos ep0 wp
  have bWE : Bt 1967 (W * E) := bW.mul bE
  have bEW : Bt 1967 (E * W) := (bE.mul bW).mono (by decide)
  have k1 : Qb 1975 a := by rw [ea]; exact qb8 (S.ci k hk) WE bWE (B.c1 k hk) (B.c2 k hk)
  have k2 : Qb 1975 b := by rw [eb]; exact qb8 (S.di k hk) WE bWE (B.d1 k hk) (B.d2 k hk)
  have k3 : Qb 1975 a1 := by rw [ea1]; exact qb8 (S.ci _ hp) WE bWE (B.c1 _ hp) (B.c2 _ hp)
  have k4 : Qb 1975 b1 := by rw [eb1]; exact qb8 (S.di _ hp) WE bWE (B.d1 _ hp) (B.d2 _ hp)
  have k5 : Qb 1975 a2 := by rw [ea2]; exact qb8 (S.ci _ hq) WE bWE (B.c1 _ hq) (B.c2 _ hq)
  have k6 : Qb 1975 b2 := by rw [eb2]; exact qb8 (S.di _ hq) WE bWE (B.d1 _ hq) (B.d2 _ hq)
  obtain ⟨x1, x2⟩ := unit_le ux
  obtain ⟨y1, y2⟩ := unit_le (x := y (prv n k)) (y := x (prv n k)) (by grind)
  obtain ⟨x3, x4⟩ := unit_le uy
  obtain ⟨y3, y4⟩ := unit_le (x := y k) (y := x k) (by grind)
  have m1 : Qb 675 (x (prv n k)) := qb4 (S.xi _ hp) wp bW (by grind) (by grind)
  have m2 : Qb 675 (y (prv n k)) := qb4 (S.yi _ hp) wp bW (by grind) (by grind)
  have m3 : Qb 675 (x k) := qb4 (S.xi k hk) wp bW (by grind) (by grind)
  have m4 : Qb 675 (y k) := qb4 (S.yi k hk) wp bW (by grind) (by grind)
  have l0 := P.lp (prv n k) hp
  have l1 := P.lp k hk
  have l2 := B.l1 (prv n k) hp
  have l3 := B.l1 k hk
  have j1 : Qb 1303 (l (prv n k)) := qb8 (S.li _ hp) ep0 bE l2 (by grind)
  have j2 : Qb 1303 (l k) := qb8 (S.li k hk) ep0 bE l3 (by grind)
  have i1 := (S.li _ hp).mul (S.xi _ hp)
  have i2 := (S.li _ hp).mul (S.yi _ hp)
  have i3 := (S.li k hk).mul (S.xi k hk)
  have i4 := (S.li k hk).mul (S.yi k hk)
  have v1 : Qb 1975 (a1 - a) := by
    have z := lxV_le l0 l2 x1 x2
    have := (qb8 i1 EW bEW z.1 z.2).neg
    rw [show a1 - a = -(l (prv n k) * x (prv n k)) by grind]
    exact this
  have v2 : Qb 1975 (b1 - b) := by
    have z := lxV_le l0 l2 y1 y2
    have := (qb8 i2 EW bEW z.1 z.2).neg
    rw [show b1 - b = -(l (prv n k) * y (prv n k)) by grind]
    exact this
  have v3 : Qb 1975 (a2 - a) := by
    have z := lxV_le l1 l3 x3 x4
    have := qb8 i3 EW bEW z.1 z.2
    rw [show a2 - a = l k * x k by grind]
    exact this
  have v4 : Qb 1975 (b2 - b) := by
    have z := lxV_le l1 l3 y3 y4
    have := qb8 i4 EW bEW z.1 z.2
    rw [show b2 - b = l k * y k by grind]
    exact this
  have e1 : l (prv n k) * l (prv n k) = (a1 - a) * (a1 - a) + (b1 - b) * (b1 - b) := by
    rw [show a1 - a = -(l (prv n k) * x (prv n k)) by grind, show b1 - b = -(l (prv n k) * y (prv n k)) by grind]
    grind
  have e2 : l k * l k = (a2 - a) * (a2 - a) + (b2 - b) * (b2 - b) := by
    rw [show a2 - a = l k * x k by grind, show b2 - b = l k * y k by grind]
    grind
  have n1 : l (prv n k) ≠ 0 := by grind
  have n2 : l k ≠ 0 := by grind
  have s1 : StepOk a b a1 b1 (l (prv n k)) := ⟨k1.mono (by decide), k2.mono (by decide), k3.mono (by decide), k4.mono (by decide), v1.mono (by decide), v2.mono (by decide), (v1.mul v1).mono (by decide), (v2.mul v2).mono (by decide), by rw [← e1]; exact (j1.mul j1).mono (by decide), j1.mono (by decide), (j1.inv n1).mono (by decide), l0, e1⟩
  have s2 : StepOk a b a2 b2 (l k) := ⟨k1.mono (by decide), k2.mono (by decide), k5.mono (by decide), k6.mono (by decide), v3.mono (by decide), v4.mono (by decide), (v3.mul v3).mono (by decide), (v4.mul v4).mono (by decide), by rw [← e2]; exact (j2.mul j2).mono (by decide), j2.mono (by decide), (j2.inv n2).mono (by decide), l1, e2⟩
  -- the tangents
  obtain ⟨tf, tg, et, f0, fM, g0, gM⟩ := S.ti k hk
  obtain ⟨bf, bg⟩ := rat_max f0 fM g0 gM bM
  have bt : Qb 330 (t k) := by
    have r := rt_q (x := tf) (y := tg) (by omega)
    rw [← et] at r
    exact qb_rt r (by omega) bf bg
  have bp : Qb 3 p := by
    have r := rt_q (x := m) (y := 5) (by decide)
    exact qb_rt (q := p) (by rw [ep]; exact r) (by decide) (bt_lit 3 (by omega)) (bt_lit 3 (by decide))
  have bs : Qb 333 (t k * p) := bt.mul bp
  have es : t k * p = ((tf * m : Int) : Rat) / ((tg * 5 : Int) : Rat) := by
    have hg := i_ne (show tg ≠ 0 by omega)
    rw [et, ep, Rat.intCast_mul, Rat.intCast_mul]
    rw [show ((5 : Int) : Rat) = 5 from rfl]
    grind
  have hg : tg ≠ 0 := by omega
  have hg5 : tg * 5 ≠ 0 := by omega
  obtain ⟨w1, w2⟩ := sinI hg5 es hs
  obtain ⟨w3, w4⟩ := sinI hg et ht
  have w5 := thirdI hg5 hg es et hs ht
  have bA : Bt 668 (tf * m * (tf * m) + tg * 5 * (tg * 5)) := by
    have c1 : Bt 333 (tf * m) := bf.mul (bt_lit 3 (by omega))
    have c2 : Bt 333 (tg * 5) := bg.mul (bt_lit (x := 5) 3 (by decide))
    exact ((c1.mul c1).add (c2.mul c2)).mono (by decide)
  have bD : Bt 661 (tf * tf + tg * tg) := ((bf.mul bf).add (bg.mul bg)).mono (by decide)
  have A0 : 0 < tf * m * (tf * m) + tg * 5 * (tg * 5) := by
    have := Int.mul_pos (show 0 < tg * 5 by omega) (show 0 < tg * 5 by omega)
    have h2 : 0 ≤ tf * m * (tf * m) := by rw [← Int.natAbs_mul_self]; omega
    omega
  have D0 : 0 < tf * tf + tg * tg := by
    have := Int.mul_pos g0 g0
    have h2 : 0 ≤ tf * tf := by rw [← Int.natAbs_mul_self]; omega
    omega
  have hs2 := q_pos hs
  have ht2 := q_pos ht
  have z1 := sin_le hs
  have z2 := sin_pos hs
  have z3 := sin_le ht
  have z4 := sin_pos ht
  have cs1 : ((1 - (t k * p) * (t k * p)) / (1 + (t k * p) * (t k * p))) * ((1 - (t k * p) * (t k * p)) / (1 + (t k * p) * (t k * p))) + (2 * (t k * p) / (1 + (t k * p) * (t k * p))) * (2 * (t k * p) / (1 + (t k * p) * (t k * p))) = 1 := by
    have := q_ne hs
    generalize t k * p = s at *
    grind
  have cs2 : ((t k * t k - 1) / (1 + t k * t k)) * ((t k * t k - 1) / (1 + t k * t k)) + (2 * t k / (1 + t k * t k)) * (2 * t k / (1 + t k * t k)) = 1 := by
    have := q_ne ht
    generalize t k = s at *
    grind
  obtain ⟨z5, z6⟩ := unit_le cs1
  obtain ⟨z7, z8⟩ := unit_le cs2
  have br0 : Qb 671 ((1 - (t k * p) * (t k * p)) / (1 + (t k * p) * (t k * p))) := qb4 w2 A0 bA (by grind) (by grind)
  have br1 : Qb 671 (2 * (t k * p) / (1 + (t k * p) * (t k * p))) := qb4 w1 A0 bA (by grind) (by grind)
  have bsi : Qb 664 (2 * t k / (1 + t k * t k)) := qb4 w3 D0 bD (by grind) (by grind)
  have bco : Qb 664 ((t k * t k - 1) / (1 + t k * t k)) := by
    have := (qb4 w4 D0 bD (by grind) (by grind)).neg
    rw [show (t k * t k - 1) / (1 + t k * t k) = -((1 - t k * t k) / (1 + t k * t k)) by
      have := q_ne ht
      generalize t k = s at *
      grind]
    exact this
  have th0 := third_eq hs ht
  have bth : Qb 1332 (third (t k * p) (t k)) := by
    have c1 : third (t k * p) (t k) ≤ 2 ∧ -2 ≤ third (t k * p) (t k) := by
      unfold third
      have a1 := Rat.mul_le_mul_of_nonneg_left z7 (Rat.le_of_lt z2)
      have a2 := Rat.mul_le_mul_of_nonneg_left z8 (Rat.le_of_lt z2)
      have a3 := Rat.mul_le_mul_of_nonneg_right z5 (Rat.le_of_lt z4)
      have a4 := Rat.mul_le_mul_of_nonneg_right z6 (Rat.le_of_lt z4)
      constructor <;> grind
    exact qb4 w5 (Int.mul_pos A0 D0) (bA.mul bD) (by grind) (by grind)
  have blm : Qb 1303 (if l k < l (prv n k) then l k else l (prv n k)) := by split <;> assumption
  have brm := blm.mul bp
  have q1 : Qb 1 1 := ⟨bt_lit 1 (by decide), bt_lit 1 (by decide)⟩
  refine ⟨s1, s2, ?_, ?_, ?_, ?_, m1.neg.mono (by decide), m2.neg.mono (by decide), m3.mono (by decide), m4.mono (by decide), ?_, (m3.mul m1.neg).mono (by decide), (m4.mul m2.neg).mono (by decide), ?_, (m3.mul m2.neg).mono (by decide), (m4.mul m1.neg).mono (by decide), by grind,
    bco.mono (by decide), bsi.mono (by decide), (q1.add bco).mono (by decide), cut_half ht, bt.mono (by decide), bp.mono (by decide), rfl, bs.mono (by decide), rfl, rfl, br0.mono (by decide), br1.mono (by decide), (br1.mul bco).mono (by decide), (br0.mul bsi).mono (by decide), rfl, bth.mono (by decide),
    j1.mono (by decide), j2.mono (by decide), rfl, blm.mono (by decide), rfl, brm.mono (by decide), (brm.mul bth).mono (by decide), (brm.mul br1).mono (by decide), (m1.neg.mul (brm.mul bth)).mono (by decide), (m2.neg.mul (brm.mul bth)).mono (by decide), (m3.mul (brm.mul br1)).mono (by decide), (m4.mul (brm.mul br1)).mono (by decide)⟩
  · rw [show a1 - a = -(l (prv n k) * x (prv n k)) by grind]
    grind
  · rw [show b1 - b = -(l (prv n k) * y (prv n k)) by grind]
    grind
  · rw [show a2 - a = l k * x k by grind]
    grind
  · rw [show b2 - b = l k * y k by grind]
    grind
  · rw [rx, ry]
    exact cut_cos ht ux
  · rw [rx, ry]
    exact cut_sin ht ux

/-! ### sums of lengths -/
def sm : Nat → (Nat → Rat) → Rat | 0, _ => 0 | n + 1, f => sm n f + f n
theorem sm_s (n : Nat) (f : Nat → Rat) : sm (n + 1) f = sm n f + f n := rfl
theorem sm_congr {f g : Nat → Rat} : ∀ {n : Nat}, (∀ i, i < n → f i = g i) → sm n f = sm n g
  | 0, _ => rfl
  | n + 1, h => by
    rw [sm_s, sm_s, sm_congr (n := n) fun i hi => h i (by omega), h n (by omega)]
theorem sm_set {f : Nat → Rat} {p : Nat} {a : Rat} : ∀ {n : Nat}, sm n (fun i => if i = p then a else f i) = if p < n then sm n f - f p + a else sm n f
  | 0 => by rw [if_neg (by omega)]; rfl
  | n + 1 => by
    rw [sm_s, sm_s, sm_set (n := n)]
    show _ + (if n = p then a else f n) = _
    by_cases h : p < n
    · rw [if_pos h, if_neg (show n ≠ p by omega), if_pos (by omega)]
      grind
    · rw [if_neg h]
      by_cases e : p = n
      · subst e
        rw [if_pos rfl, if_pos (by omega)]
        grind
      · rw [if_neg (show n ≠ p by omega), if_neg (by omega)]
theorem sm_ins {f : Nat → Rat} {k : Nat} {b : Rat} : ∀ {n : Nat}, sm n (ins1 k f b) = if k < n then sm (n - 1) f + b else sm n f
  | 0 => by rw [if_neg (by omega)]; rfl
  | n + 1 => by
    rw [sm_s, sm_ins (n := n), sm_s]
    by_cases h : k < n
    · rw [if_pos h, if_pos (by omega), ins1_gt h]
      obtain ⟨m, rfl⟩ : ∃ m, n = m + 1 := ⟨n - 1, by omega⟩
      show sm m f + b + f m = (sm m f + f m) + b
      grind
    · rw [if_neg h]
      by_cases e : k = n
      · subst e
        rw [ins1_k, if_pos (by omega), Nat.add_sub_cancel]
      · rw [if_neg (by omega), ins1_lt (by omega)]
theorem sm_insL {n k : Nat} {l : Nat → Rat} {a b e : Rat} (hn : 3 ≤ n) (hk : k < n) : sm (n + 1) (insL n k l a b e) = sm n l - l (prv n k) - l k + a + b + e := by
  have pk : prv n k ≠ k := by unfold prv; split <;> omega
  rw [sm_congr (g := ins1 k (fun i => if i = k then e else if i = prv n k then a else l i) b) (fun i hi => by
    by_cases h1 : i = prv (n + 1) k
    · rw [h1, insL_p]
      by_cases k0 : k = 0
      · subst k0
        rw [show prv (n + 1) 0 = n from rfl, ins1_gt (by omega), if_neg (by omega), if_pos (show n - 1 = prv n 0 from rfl)]
      · rw [show prv (n + 1) k = k - 1 by unfold prv; rw [if_neg k0], ins1_lt (by omega), if_neg (by omega), if_pos (by unfold prv; rw [if_neg k0])]
    · by_cases h2 : i = k
      · rw [h2, insL_k hk hn, ins1_k]
      · by_cases h3 : i = k + 1
        · rw [h3, insL_k1 hk hn, ins1_gt (by omega), if_pos (by omega)]
        · by_cases h4 : i < k
          · rw [insL_lt (by unfold prv at h1; split at h1 <;> omega) hk, ins1_lt h4, if_neg (by omega), if_neg (by unfold prv at *; split at h1 <;> split <;> omega)]
          · rw [insL_gt (by omega) h1, ins1_gt (by omega), if_neg (by omega), if_neg (by unfold prv at *; split at h1 <;> split <;> omega)]), sm_ins, if_pos (by omega)]
  show sm n (fun i => if i = k then e else if i = prv n k then a else l i) + b = _
  rw [sm_set (f := fun i => if i = prv n k then a else l i), if_pos hk, sm_set, if_pos (prv_lt hk), if_neg (Ne.symm pk)]
  grind
theorem sm_prv {n : Nat} {l : Nat → Rat} (hn : 1 ≤ n) : sm n (fun k => l (prv n k)) = sm n l := by
  have h : ∀ m, m + 1 ≤ n → sm (m + 1) (fun k => l (prv n k)) = l (n - 1) + sm m l := fun m => by
    induction m with
    | zero =>
      intro _
      show 0 + l (prv n 0) = l (n - 1) + 0
      rw [show prv n 0 = n - 1 from rfl]
      grind
    | succ m ih =>
      intro hm
      show sm (m + 1) (fun k => l (prv n k)) + l (prv n (m + 1)) = l (n - 1) + (sm m l + l m)
      rw [ih (by omega), show prv n (m + 1) = m from rfl]
      grind
  obtain ⟨m, rfl⟩ : ∃ m, n = m + 1 := ⟨n - 1, by omega⟩
  rw [h m (by omega)]
  show l m + sm m l = sm m l + l m
  exact Rat.add_comm _ _
theorem sm_isI {l : Nat → Rat} {E : Int} : ∀ {n : Nat}, (∀ i, i < n → IsI (l i) E) → IsI (sm n l) E
  | 0, _ => ⟨0, by show (0 : Rat) * _ = _; rw [Rat.zero_mul]; rfl⟩
  | n + 1, h => (sm_isI fun i hi => h i (by omega)).add (h n (by omega))
theorem sm_bd {l : Nat → Rat} {V : Rat} : ∀ {n : Nat}, (∀ i, i < n → 0 < l i ∧ l i ≤ V) → 0 ≤ sm n l ∧ sm n l ≤ (n : Rat) * V
  | 0, _ => ⟨Rat.le_refl, by show (0 : Rat) ≤ ((0 : Nat) : Rat) * V; rw [show ((0 : Nat) : Rat) = 0 from rfl, Rat.zero_mul]; exact Rat.le_refl⟩
  | n + 1, h => by
    obtain ⟨h1, h2⟩ := sm_bd (n := n) fun i hi => h i (by omega)
    obtain ⟨h3, h4⟩ := h n (by omega)
    have e : ((n + 1 : Nat) : Rat) * V = (n : Rat) * V + V := by
      rw [show ((n + 1 : Nat) : Rat) = (n : Rat) + 1 from by exact_mod_cast (Rat.intCast_add (n : Int) 1)]
      grind
    rw [e, sm_s]
    constructor <;> grind
/-! ### a piece: a polygon with its sizes -/
structure Pz where
  n : Nat
  j : Nat
  c : Nat → Rat
  d : Nat → Rat
  x : Nat → Rat
  y : Nat → Rat
  l : Nat → Rat
  t : Nat → Rat
  W : Int
  E : Int
structure PzOk (G : Int) (p : Pz) : Prop where
  n3 : 3 ≤ p.n
  I : PolI p.n p.c p.d p.x p.y p.l p.t
  S : PolS p.n p.c p.d p.x p.y p.l p.t p.W p.E (mM p.j)
  B : PolV 128 p.n p.c p.d p.l
  C : CC p.n p.c p.d
  hW : p.W ≤ (mW p.j : Int) * 4096
  hE : p.E ≤ (mE p.j : Int) * 32
  g : ∃ z : Int, 0 < z ∧ G = p.E * z
def Pz.N1 (p : Pz) (k : Nat) (s room : Rat) : Rat := p.c k - room * third s (p.t k) * p.x (prv p.n k)
def Pz.N2 (p : Pz) (k : Nat) (s room : Rat) : Rat := p.d k - room * third s (p.t k) * p.y (prv p.n k)
def Pz.F1 (p : Pz) (k : Nat) (s room : Rat) : Rat := p.c k + room * (2 * s / (1 + s * s)) * p.x k
def Pz.F2 (p : Pz) (k : Nat) (s room : Rat) : Rat := p.d k + room * (2 * s / (1 + s * s)) * p.y k
/-- the length of the cut -/
def Pz.sd (p : Pz) (k : Nat) (room : Rat) : Rat := room * (2 * p.t k / (1 + p.t k * p.t k))
def Pz.rest (p : Pz) (k : Nat) (s r room : Rat) (W E : Int) : Pz := ⟨p.n + 1, p.j + 1, ins2 k p.c (p.N1 k s room) (p.F1 k s room), ins2 k p.d (p.N2 k s room) (p.F2 k s room), ins1 k p.x (rotX s (p.x (prv p.n k)) (p.y (prv p.n k))), ins1 k p.y (rotY s (p.x (prv p.n k)) (p.y (prv p.n k))),
  insL p.n k p.l (p.l (prv p.n k) - room * third s (p.t k)) (p.sd k room) (p.l k - room * (2 * s / (1 + s * s))), ins2 k p.t s r, W, E⟩
def Pz.tip (p : Pz) (k : Nat) (s r room : Rat) (W E : Int) : Pz := ⟨3, p.j + 1, tri (p.c k) (p.F1 k s room) (p.N1 k s room), tri (p.d k) (p.F2 k s room) (p.N2 k s room), tri (p.x k) (-rotX s (p.x (prv p.n k)) (p.y (prv p.n k))) (p.x (prv p.n k)), tri (p.y k) (-rotY s (p.x (prv p.n k)) (p.y (prv p.n k))) (p.y (prv p.n k)),
  tri (room * (2 * s / (1 + s * s))) (p.sd k room) (room * third s (p.t k)), tri (p.t k) (1 / r) (1 / s), W, E⟩
theorem mM_up {a b : Nat} (h : a ≤ b) : mM a ≤ mM b := by
  have one : ∀ a, 1 ≤ mM a := fun a => by
    induction a with
    | zero => decide
    | succ a ih =>
      show 1 ≤ 9 * mM a * mM a
      have := Nat.mul_le_mul (Nat.mul_le_mul (Nat.le_refl 9) ih) ih
      omega
  have st : ∀ a, mM a ≤ mM (a + 1) := fun a => by
    show mM a ≤ 9 * mM a * mM a
    have := Nat.mul_le_mul (Nat.mul_le_mul (show 1 ≤ 9 by decide) (one a)) (Nat.le_refl (mM a))
    omega
  induction b with
  | zero =>
    obtain rfl : a = 0 := by omega
    exact Nat.le_refl _
  | succ b ih =>
    by_cases e : a = b + 1
    · rw [e]; exact Nat.le_refl _
    · exact Nat.le_trans (ih (by omega)) (st b)
/-- all that a cut gives -/
structure CutR (p : Pz) (k : Nat) (u v s r room : Rat) : Prop where
  hs : 0 < s
  hr : 0 < r
  u0 : 0 < u
  u1 : u < 1
  v0 : 0 < v
  v1 : v < 1
  e1 : p.N1 k s room = p.c k + u * (p.c (prv p.n k) - p.c k)
  e2 : p.N2 k s room = p.d k + u * (p.d (prv p.n k) - p.d k)
  f1 : p.F1 k s room = p.c k + v * (p.c (nxt p.n k) - p.c k)
  f2 : p.F2 k s room = p.d k + v * (p.d (nxt p.n k) - p.d k)
theorem pz_cut {G m : Int} {p : Pz} {k : Nat} (ok : PzOk G p) (hj : p.j ≤ 5) (hk : k < p.n) (hm : 1 ≤ m ∧ m ≤ 4) :
    ∃ (x' y' x y l' l t s r0 r1 co si th lm room r u v : Rat) (W E F : Int), CutOk (p.c k) (p.d k) (p.c (prv p.n k)) (p.d (prv p.n k)) (p.c (nxt p.n k)) (p.d (nxt p.n k)) x' y' x y l' l t ((m : Rat) / 5) s r0 r1 co si th lm room ∧
      p.c k + -x' * (room * th) = p.N1 k s room ∧ p.d k + -y' * (room * th) = p.N2 k s room ∧ p.c k + x * (room * r1) = p.F1 k s room ∧ p.d k + y * (room * r1) = p.F2 k s room ∧ CutR p k u v s r room ∧
      0 < F ∧ F ≤ 410 * ((mM p.j : Int) * mM p.j) * ((mM p.j : Int) * mM p.j) ∧ PzOk (G * F) (p.rest k s r room W E) ∧ PzOk (G * F) (p.tip k s r room W E) := by
  obtain ⟨n3, P, S, B, C, hW, hE, g, g0, hG⟩ := ok
  have upW : ∀ {j : Nat}, j ≤ 5 → mW j * 4096 < 2 ^ 672 := fun h => by
    have := mW_le h
    have e : (2 : Nat) ^ 672 = 2 ^ 660 * 4096 := by decide +kernel
    omega
  have upE : ∀ {j : Nat}, j ≤ 5 → mE j * 32 < 2 ^ 1295 := fun h => by
    have := mE_le h
    have e : (2 : Nat) ^ 1295 = 2 ^ 1290 * 32 := by decide +kernel
    omega
  have bW : Bt 672 p.W := bt_up S.wp (n := mW p.j * 4096) (by simpa using hW) (upW hj)
  have bE : Bt 1295 p.E := bt_up S.ep (n := mE p.j * 32) (by simpa using hE) (upE hj)
  have bM : Bt 330 (mM p.j : Int) := bt_def.mpr (by have := mM_le hj; omega)
  have okc := cut_ok8 hm hk P S B bW bE bM (a := p.c k) (b := p.d k) (a1 := p.c (prv p.n k)) (b1 := p.d (prv p.n k)) (a2 := p.c (nxt p.n k)) (b2 := p.d (nxt p.n k)) (p := (m : Rat) / 5) rfl rfl rfl rfl rfl rfl rfl
  have es : p.t k * ((m : Rat) / 5) = (m : Rat) / 5 * p.t k := Rat.mul_comm _ _
  obtain ⟨lm, hlm⟩ : ∃ q, q = if p.l k < p.l (prv p.n k) then p.l k else p.l (prv p.n k) := ⟨_, rfl⟩
  have hl : lm = p.l (prv p.n k) ∨ lm = p.l k := by rw [hlm]; split <;> simp
  have er : lm * ((m : Rat) / 5) = (m : Rat) / 5 * lm := Rat.mul_comm _ _
  have p0 : (0 : Rat) < (m : Rat) / 5 := q_div (Rat.intCast_pos.mpr (by omega)) (by decide)
  have p1 : (m : Rat) / 5 < 1 := by
    have : (m : Rat) ≤ ((4 : Int) : Rat) := Rat.intCast_le_intCast.mpr hm.2
    rw [show ((4 : Int) : Rat) = 4 from rfl] at this
    grind
  have hp := prv_lt hk
  have l0 := P.lp (prv p.n k) hp
  have l1 := P.lp k hk
  rw [← hlm] at okc
  have lm0 : 0 < lm := by rcases hl with e | e <;> rw [e] <;> assumption
  have lm1 : lm ≤ p.l (prv p.n k) := by rw [hlm]; split <;> grind
  have lm2 : lm ≤ p.l k := by rw [hlm]; split <;> grind
  have rm : lm * ((m : Rat) / 5) < lm := by
    have := Rat.mul_lt_mul_of_pos_left p1 lm0
    grind
  have rm0 : 0 < lm * ((m : Rat) / 5) := Rat.mul_pos lm0 p0
  obtain ⟨r, W', F, h0, h1, h2, h3, h4, h5, S1, S2⟩ := pols_both hm hk P S hl es er
  have P1 := pol_cut n3 hk P h0 h1 h2 rm0 (by grind) (by grind)
  have P2 := pol_tri hk P h0 h1 h2 rm0
  have B1 := polv_cut n3 hk P B h0 h1 h2 rm0 (by grind) (by grind)
  have B2 := polv_tri n3 hk P B h0 h1 h2 rm0 (by grind) (by grind)
  generalize hroom : lm * ((m : Rat) / 5) = room at *
  generalize hs : p.t k * ((m : Rat) / 5) = s at *
  have ht := P.tp k hk
  have sr := sin_r h0 ht h1 h2
  have b1 := sin_le h1
  have p1' := sin_pos h1
  rw [← sr] at b1 p1'
  have b2 := sin_le h0
  have p2 := sin_pos h0
  have g1 : room * third s (p.t k) ≤ room := by
    have := Rat.mul_le_mul_of_nonneg_left b1 (Rat.le_of_lt rm0)
    grind
  have g2 : room * (2 * s / (1 + s * s)) ≤ room := by
    have := Rat.mul_le_mul_of_nonneg_left b2 (Rat.le_of_lt rm0)
    grind
  have q1 := Rat.mul_pos rm0 p1'
  have q2 := Rat.mul_pos rm0 p2
  have ex := P.ex (prv p.n k) hp
  have ey := P.ey (prv p.n k) hp
  rw [nxt_prv hk] at ex ey
  have fx := P.ex k hk
  have fy := P.ey k hk
  have R : CutR p k (room * third s (p.t k) / p.l (prv p.n k)) (room * (2 * s / (1 + s * s)) / p.l k) s r room := by
    have z1 : room * third s (p.t k) / p.l (prv p.n k) * p.l (prv p.n k) = room * third s (p.t k) := Rat.div_mul_cancel (by grind)
    have z2 : room * (2 * s / (1 + s * s)) / p.l k * p.l k = room * (2 * s / (1 + s * s)) := Rat.div_mul_cancel (by grind)
    have z3 := q_div q1 l0
    have z4 := q_div q2 l1
    have lt1 : ∀ {a b : Rat}, 0 < b → a / b * b < b → a / b < 1 := fun {a b} hb h => by
      refine Rat.not_le.mp fun z => ?_
      have := Rat.mul_le_mul_of_nonneg_right z (Rat.le_of_lt hb)
      grind
    refine ⟨h0, h1, z3, lt1 l0 (by rw [z1]; grind), z4, lt1 l1 (by rw [z2]; grind), ?_, ?_, ?_, ?_⟩
    · unfold Pz.N1
      generalize room * third s (p.t k) = U at *
      generalize U / p.l (prv p.n k) = w at *
      grind
    · unfold Pz.N2
      generalize room * third s (p.t k) = U at *
      generalize U / p.l (prv p.n k) = w at *
      grind
    · unfold Pz.F1
      generalize room * (2 * s / (1 + s * s)) = U at *
      generalize U / p.l k = w at *
      grind
    · unfold Pz.F2
      generalize room * (2 * s / (1 + s * s)) = U at *
      generalize U / p.l k = w at *
      grind
  have C1 := cc_cut n3 hk C R.u0 R.u1 R.e1 R.e2 R.v0 R.v1 R.f1 R.f2
  have C2 := cc_tri n3 hk C R.u0 R.e1 R.e2 R.v0 R.f1 R.f2
  have hW' : W' ≤ (mW (p.j + 1) : Int) * 4096 := by
    have h6 := Int.mul_le_mul_of_nonneg_right hW (show (0 : Int) ≤ 41 * (mM p.j * mM p.j) by exact_mod_cast Nat.zero_le _)
    have e : (mW (p.j + 1) : Int) = (mW p.j : Int) * (41 * (mM p.j * mM p.j)) := by
      show ((mW p.j * (41 * (mM p.j * mM p.j)) : Nat) : Int) = _
      simp only [Int.natCast_mul]
      rfl
    rw [e]
    refine Int.le_trans h3 (Int.le_trans h6 (Int.le_of_eq ?_))
    grind
  have hE' : p.E * F ≤ (mE (p.j + 1) : Int) * 32 := by
    have h6 := Int.mul_le_mul hE h5 (Int.le_of_lt h4) (by exact_mod_cast Nat.zero_le _)
    have e : (mE (p.j + 1) : Int) = (mE p.j : Int) * (410 * (mM p.j * mM p.j) * (mM p.j * mM p.j)) := by
      show ((mE p.j * (410 * (mM p.j * mM p.j) * (mM p.j * mM p.j)) : Nat) : Int) = _
      simp only [Int.natCast_mul]
      rfl
    rw [e]
    refine Int.le_trans h6 (Int.le_of_eq ?_)
    grind
  have hG' : ∃ z : Int, 0 < z ∧ G * F = p.E * F * z := ⟨g, g0, by rw [hG]; grind⟩
  refine ⟨_, _, _, _, _, _, _, _, _, _, _, _, _, _, _, r, _, _, W', p.E * F, F, okc, ?_, ?_, ?_, ?_, R, h4, h5, ⟨by show 3 ≤ p.n + 1; omega, P1, S1, B1, C1, hW', hE', hG'⟩, ⟨Nat.le_refl 3, P2, S2, B2, ?_, hW', hE', hG'⟩⟩
  · unfold Pz.N1
    grind
  · unfold Pz.N2
    grind
  · unfold Pz.F1
    grind
  · unfold Pz.F2
    grind
  · intro a b e hab hbe he
    have e1 : e = 2 := by have : e < 3 := he; omega
    have e2 : b = 1 := by omega
    have e3 : a = 0 := by omega
    subst e1 e2 e3
    exact C2

/-! ### what a cut keeps: hulls, sides, lengths -/
def Below (al be ga : Rat) (n : Nat) (c d : Nat → Rat) : Prop := ∀ i, i < n → al * c i + be * d i + ga ≤ 0
def Sub (n0 : Nat) (c0 d0 : Nat → Rat) (n : Nat) (c d : Nat → Rat) : Prop := ∀ al be ga, Below al be ga n0 c0 d0 → Below al be ga n c d
theorem Sub.tr {n0 n1 n2 : Nat} {c0 d0 c1 d1 c2 d2 : Nat → Rat} (h : Sub n0 c0 d0 n1 c1 d1) (g : Sub n1 c1 d1 n2 c2 d2) : Sub n0 c0 d0 n2 c2 d2 := fun al be ga z => g al be ga (h al be ga z)
abbrev SubP (p q : Pz) : Prop := Sub p.n p.c p.d q.n q.c q.d
theorem mix_le {al be ga c0 d0 c1 d1 u : Rat} (h0 : 0 < u) (h1 : u < 1) (a : al * c0 + be * d0 + ga ≤ 0) (b : al * c1 + be * d1 + ga ≤ 0) : al * (c0 + u * (c1 - c0)) + be * (d0 + u * (d1 - d0)) + ga ≤ 0 := by
  have := Rat.mul_nonneg (show 0 ≤ 1 - u by grind) (show 0 ≤ -(al * c0 + be * d0 + ga) by grind)
  have := Rat.mul_nonneg (Rat.le_of_lt h0) (show 0 ≤ -(al * c1 + be * d1 + ga) by grind)
  grind
section
variable {p : Pz} {k : Nat} {u v s r room : Rat} {W E : Int}
theorem CutR.new (R : CutR p k u v s r room) (hk : k < p.n) {al be ga : Rat} (z : Below al be ga p.n p.c p.d) : al * p.N1 k s room + be * p.N2 k s room + ga ≤ 0 ∧ al * p.F1 k s room + be * p.F2 k s room + ga ≤ 0 := by
  rw [R.e1, R.e2, R.f1, R.f2]
  exact ⟨mix_le R.u0 R.u1 (z k hk) (z _ (prv_lt hk)), mix_le R.v0 R.v1 (z k hk) (z _ (nxt_lt hk))⟩
theorem below_ins2 {al be ga a b a' b' : Rat} {n : Nat} {c d : Nat → Rat} (hk : k < n) (z : Below al be ga n c d) (h1 : al * a + be * a' + ga ≤ 0) (h2 : al * b + be * b' + ga ≤ 0) : Below al be ga (n + 1) (ins2 k c a b) (ins2 k d a' b') := fun i hi => by
  by_cases i1 : i < k
  · rw [ins2_lt i1, ins2_lt i1]
    exact z i (by omega)
  · by_cases i2 : i = k
    · rw [i2, ins2_k, ins2_k]
      exact h1
    · by_cases i3 : i = k + 1
      · rw [i3, ins2_k1, ins2_k1]
        exact h2
      · rw [ins2_gt (by omega), ins2_gt (by omega)]
        exact z (i - 1) (by omega)
theorem CutR.subR (R : CutR p k u v s r room) (hk : k < p.n) : SubP p (p.rest k s r room W E) := fun al be ga z => by
  obtain ⟨h1, h2⟩ := R.new hk z
  exact below_ins2 hk z h1 h2
theorem CutR.subT (R : CutR p k u v s r room) (hk : k < p.n) : SubP p (p.tip k s r room W E) := fun al be ga z => by
  obtain ⟨h1, h2⟩ := R.new hk z
  exact all3 (z k hk) h2 h1
/-- two pieces on two sides of a line -/
def SepL (p q : Pz) : Prop := ∃ al be ga : Rat, (al ≠ 0 ∨ be ≠ 0) ∧ Below al be ga p.n p.c p.d ∧ Below (-al) (-be) (-ga) q.n q.c q.d
theorem SepL.sub {p q p' q' : Pz} (h : SepL p q) (h1 : SubP p p') (h2 : SubP q q') : SepL p' q' := by
  obtain ⟨al, be, ga, nz, a, b⟩ := h
  exact ⟨al, be, ga, nz, h1 _ _ _ a, h2 _ _ _ b⟩
theorem SepL.symm {p q : Pz} (h : SepL p q) : SepL q p := by
  obtain ⟨al, be, ga, nz, a, b⟩ := h
  exact ⟨-al, -be, -ga, by grind, b, fun i hi => by have := a i hi; grind⟩
theorem SubP.refl (p : Pz) : SubP p p := fun _ _ _ z => z
theorem CutR.sep (R : CutR p k u v s r room) (n3 : 3 ≤ p.n) (hk : k < p.n) (C : CC p.n p.c p.d) : SepL (p.rest k s r room W E) (p.tip k s r room W E) := by
  have t := cc_tri n3 hk C R.u0 R.e1 R.e2 R.v0 R.f1 R.f2
  have b := fun i (hi : i < p.n) (ne : i ≠ k) => both_pos n3 hk C R.u0 R.u1 R.e1 R.e2 R.v0 R.v1 R.f1 R.f2 hi ne
  generalize hN1 : p.N1 k s room = a1 at *
  generalize hN2 : p.N2 k s room = a2 at *
  generalize hF1 : p.F1 k s room = b1 at *
  generalize hF2 : p.F2 k s room = b2 at *
  refine ⟨b2 - a2, -(b1 - a1), -((b2 - a2) * a1) + (b1 - a1) * a2, ?_, ?_, ?_⟩
  · refine Classical.byContradiction fun z => ?_
    have z1 : b2 = a2 := by grind
    have z2 : b1 = a1 := by grind
    subst z1 z2
    unfold orr at t
    grind
  · show Below _ _ _ (p.n + 1) (ins2 k p.c (p.N1 k s room) (p.F1 k s room)) (ins2 k p.d (p.N2 k s room) (p.F2 k s room))
    rw [hN1, hN2, hF1, hF2]
    have h1 : (b2 - a2) * a1 + -(b1 - a1) * a2 + (-((b2 - a2) * a1) + (b1 - a1) * a2) ≤ 0 := by grind
    have h2 : (b2 - a2) * b1 + -(b1 - a1) * b2 + (-((b2 - a2) * a1) + (b1 - a1) * a2) ≤ 0 := by grind
    intro i hi
    by_cases i1 : i < k
    · rw [ins2_lt i1, ins2_lt i1]
      have := b i (by omega) (by omega)
      unfold orr at this
      grind
    · by_cases i2 : i = k
      · rw [i2, ins2_k, ins2_k]
        exact h1
      · by_cases i3 : i = k + 1
        · rw [i3, ins2_k1, ins2_k1]
          exact h2
        · rw [ins2_gt (by omega), ins2_gt (by omega)]
          have := b (i - 1) (by omega) (by omega)
          unfold orr at this
          grind
  · show Below _ _ _ 3 (tri (p.c k) (p.F1 k s room) (p.N1 k s room)) (tri (p.d k) (p.F2 k s room) (p.N2 k s room))
    rw [hN1, hN2, hF1, hF2]
    refine all3 ?_ ?_ ?_
    · show -(b2 - a2) * p.c k + -(-(b1 - a1)) * p.d k + -(-((b2 - a2) * a1) + (b1 - a1) * a2) ≤ 0
      unfold orr at t
      grind
    · show -(b2 - a2) * b1 + -(-(b1 - a1)) * b2 + -(-((b2 - a2) * a1) + (b1 - a1) * a2) ≤ 0
      grind
    · show -(b2 - a2) * a1 + -(-(b1 - a1)) * a2 + -(-((b2 - a2) * a1) + (b1 - a1) * a2) ≤ 0
      grind
end
def Pz.per (p : Pz) : Rat := sm p.n p.l
theorem per_cut {p : Pz} {k : Nat} {s r room : Rat} {W E : Int} (n3 : 3 ≤ p.n) (hk : k < p.n) : (p.rest k s r room W E).per + (p.tip k s r room W E).per = p.per + (p.sd k room + p.sd k room) := by
  have h := sm_insL (n := p.n) (k := k) (l := p.l) (a := p.l (prv p.n k) - room * third s (p.t k)) (b := p.sd k room) (e := p.l k - room * (2 * s / (1 + s * s))) n3 hk
  have e : (p.tip k s r room W E).per = 0 + room * (2 * s / (1 + s * s)) + p.sd k room + room * third s (p.t k) := rfl
  show sm (p.n + 1) (insL p.n k p.l (p.l (prv p.n k) - room * third s (p.t k)) (p.sd k room) (p.l k - room * (2 * s / (1 + s * s)))) + _ = _
  rw [h, e]
  show _ = sm p.n p.l + _
  generalize room * third s (p.t k) = U
  generalize room * (2 * s / (1 + s * s)) = U2
  grind
def perS : List Pz → Rat | [] => 0 | p :: ps => p.per + perS ps
theorem perS_app (ps qs : List Pz) : perS (ps ++ qs) = perS ps + perS qs := by
  induction ps with
  | nil => show perS qs = 0 + perS qs; grind
  | cons p ps ih => show p.per + perS (ps ++ qs) = p.per + perS ps + perS qs; rw [ih]; grind
theorem perS_set {ps : List Pz} {i : Nat} {p q : Pz} (h : ps[i]? = some p) : perS (ps.set i q) + p.per = perS ps + q.per := by
  induction ps generalizing i with
  | nil => cases h
  | cons a ps ih =>
    cases i with
    | zero =>
      have h : some a = some p := h
      injection h with h
      subst h
      show q.per + perS ps + a.per = a.per + perS ps + q.per
      grind
    | succ i =>
      have := ih (i := i) h
      show a.per + perS (ps.set i q) + p.per = a.per + perS ps + q.per
      grind
/-- the pieces so far -/
structure Fam (w : Pz) (T : Rat) (G : Int) (J : Nat) (ps : List Pz) : Prop where
  all : ∀ p ∈ ps, PzOk G p ∧ SubP w p ∧ p.j ≤ J
  sep : ∀ (i j : Nat) (p q : Pz), i ≠ j → ps[i]? = some p → ps[j]? = some q → SepL p q
  per : perS ps = T
  g0 : 0 < G
  gE : G ≤ (mE J : Int) * 32
theorem PzOk.up {G F : Int} {p : Pz} (h : PzOk G p) (hF : 0 < F) : PzOk (G * F) p := by
  obtain ⟨n3, P, S, B, C, hW, hE, g, g0, hG⟩ := h
  exact ⟨n3, P, S, B, C, hW, hE, g * F, Int.mul_pos g0 hF, by rw [hG, Int.mul_assoc]⟩
theorem fam_cut {w p : Pz} {T : Rat} {G F : Int} {J at' k : Nat} {ps : List Pz} {u v s r room : Rat} {W E : Int} (h : Fam w T G J ps) (hp : ps[at']? = some p) (hk : k < p.n) (R : CutR p k u v s r room) (F0 : 0 < F) (F1 : F ≤ 410 * ((mM p.j : Int) * mM p.j) * ((mM p.j : Int) * mM p.j)) (h1 : PzOk (G * F) (p.rest k s r room W E)) (h2 : PzOk (G * F) (p.tip k s r room W E)) :
    Fam w (T + (p.sd k room + p.sd k room)) (G * F) (J + 1) (ps.set at' (p.rest k s r room W E) ++ [p.tip k s r room W E]) := by
  have mp := List.mem_of_getElem? hp
  obtain ⟨okp, sub, jp⟩ := h.all p mp
  have la := (List.getElem?_eq_some_iff.mp hp).1
  have sR := R.subR (W := W) (E := E) hk
  have sT := R.subT (W := W) (E := E) hk
  have sep := R.sep (W := W) (E := E) okp.n3 hk okp.C
  have at1 : ∀ (i : Nat) (q : Pz), (ps.set at' (p.rest k s r room W E) ++ [p.tip k s r room W E])[i]? = some q → (i = at' ∧ q = p.rest k s r room W E) ∨ (i = ps.length ∧ q = p.tip k s r room W E) ∨ (i ≠ at' ∧ i < ps.length ∧ ps[i]? = some q) := fun i q e => by
    by_cases li : i < ps.length
    · rw [List.getElem?_append_left (by rw [List.length_set]; exact li)] at e
      by_cases ia : i = at'
      · subst ia
        rw [List.getElem?_set_self li] at e
        injection e with e
        exact .inl ⟨rfl, e.symm⟩
      · rw [List.getElem?_set_ne (Ne.symm ia)] at e
        exact .inr (.inr ⟨ia, li, e⟩)
    · rw [List.getElem?_append_right (by rw [List.length_set]; omega), List.length_set] at e
      have l1 := (List.getElem?_eq_some_iff.mp e).1
      have l2 : i - ps.length = 0 := by have : i - ps.length < 1 := l1; omega
      rw [l2] at e
      injection e with e
      exact .inr (.inl ⟨by omega, e.symm⟩)
  refine ⟨fun q hq => ?_, fun i j a b ne ea eb => ?_, ?_, Int.mul_pos h.g0 F0, ?_⟩
  · obtain ⟨i, e⟩ := List.getElem?_of_mem hq
    rcases at1 i q e with ⟨_, rfl⟩ | ⟨_, rfl⟩ | ⟨_, _, e⟩
    · exact ⟨h1, sub.tr sR, by show p.j + 1 ≤ J + 1; omega⟩
    · exact ⟨h2, sub.tr sT, by show p.j + 1 ≤ J + 1; omega⟩
    · obtain ⟨o1, o2, o3⟩ := h.all q (List.mem_of_getElem? e)
      exact ⟨o1.up F0, o2, by omega⟩
  · rcases at1 i a ea with ⟨i1, rfl⟩ | ⟨i1, rfl⟩ | ⟨i1, i2, ea⟩
    · rcases at1 j b eb with ⟨j1, rfl⟩ | ⟨j1, rfl⟩ | ⟨j1, j2, eb⟩
      · omega
      · exact sep
      · exact (h.sep at' j p b (Ne.symm j1) hp eb).sub sR (SubP.refl b)
    · rcases at1 j b eb with ⟨j1, rfl⟩ | ⟨j1, rfl⟩ | ⟨j1, j2, eb⟩
      · exact sep.symm
      · omega
      · exact (h.sep at' j p b (Ne.symm j1) hp eb).sub sT (SubP.refl b)
    · rcases at1 j b eb with ⟨j1, rfl⟩ | ⟨j1, rfl⟩ | ⟨j1, j2, eb⟩
      · exact (h.sep i at' a p i1 ea hp).sub (SubP.refl a) sR
      · exact (h.sep i at' a p i1 ea hp).sub (SubP.refl a) sT
      · exact h.sep i j a b ne ea eb
  · rw [perS_app]
    have e1 := perS_set (q := p.rest k s r room W E) hp
    have e2 := per_cut (s := s) (r := r) (room := room) (W := W) (E := E) okp.n3 hk
    have e3 := h.per
    show _ + (_ + 0) = _
    grind
  · have up := mM_up jp
    have h6 : F ≤ 410 * ((mM J : Int) * mM J) * ((mM J : Int) * mM J) := by
      refine Int.le_trans F1 ?_
      have a1 : (mM p.j : Int) ≤ mM J := by exact_mod_cast up
      have a2 : (0 : Int) ≤ mM p.j := by exact_mod_cast Nat.zero_le _
      have a3 : (mM p.j : Int) * mM p.j ≤ (mM J : Int) * mM J := Int.mul_le_mul a1 a1 a2 (by omega)
      have a4 : (0 : Int) ≤ (mM p.j : Int) * mM p.j := Int.mul_nonneg a2 a2
      exact Int.mul_le_mul (Int.mul_le_mul_of_nonneg_left a3 (by decide)) a3 a4 (by omega)
    have h7 := Int.mul_le_mul h.gE h6 (Int.le_of_lt F0) (by exact_mod_cast Nat.zero_le _)
    have e : (mE (J + 1) : Int) = (mE J : Int) * (410 * (mM J * mM J) * (mM J * mM J)) := by
      show ((mE J * (410 * (mM J * mM J) * (mM J * mM J)) : Nat) : Int) = _
      simp only [Int.natCast_mul]
      rfl
    rw [e]
    refine Int.le_trans h7 (Int.le_of_eq ?_)
    grind

/-! ### what the program's answers are at such points -/
abbrev SmP (a b : Rat) : Prop := PtK 300 (PQ a b)
theorem side_val {p q r s u v : Rat} (hx : SmP p q) (hy : SmP r s) (hz : SmP u v) : ∃ (V : Int) (W : Rat), f_side [f_line [f_spread [PQ p q], f_spread [PQ r s]], f_spread [PQ u v]] = .int V ∧ 0 < W ∧ (V : Rat) = W * orr p q r s u v := by
  obtain ⟨p', q', X, Y, w, e, e1, w1, _, _, _, px, qy⟩ := pt_spread hx
  obtain ⟨rfl, rfl⟩ := pq_inj e
  obtain ⟨r', s', X', Y', w', e, e2, w2, _, _, _, rx, sy⟩ := pt_spread hy
  obtain ⟨rfl, rfl⟩ := pq_inj e
  obtain ⟨u', v', X2, Y2, w3, e, e3, w4, _, _, _, ux, vy⟩ := pt_spread hz
  obtain ⟨rfl, rfl⟩ := pq_inj e
  rw [e1, e2, e3]
  have z1 : (0 : Rat) < w := Rat.intCast_pos.mpr (by omega)
  have z2 : (0 : Rat) < w' := Rat.intCast_pos.mpr (by omega)
  have z3 : (0 : Rat) < w3 := Rat.intCast_pos.mpr (by omega)
  refine ⟨_, (w : Rat) * w' * w3, rfl, Rat.mul_pos (Rat.mul_pos z1 z2) z3, ?_⟩
  simp only [Rat.intCast_add, Rat.intCast_mul, Rat.intCast_sub]
  rw [← px, ← qy, ← rx, ← sy, ← ux, ← vy]
  unfold orr
  clear z1 z2 z3 px qy rx sy ux vy e1 e2 e3
  generalize (w : Rat) = w at *
  generalize (w' : Rat) = w' at *
  generalize (w3 : Rat) = w3 at *
  grind
theorem turn_val {p q r s u v : Rat} (hx : SmP p q) (hy : SmP r s) (hz : SmP u v) : ∃ V : Int, f_turn [PQ p q, PQ r s, PQ u v] = .int (sgn V) ∧ (0 < orr p q r s u v ↔ 0 < V) ∧ (orr p q r s u v = 0 ↔ V = 0) := by
  obtain ⟨V, W, e, hW, eV⟩ := side_val hx hy hz
  refine ⟨V, ?_, ?_, ?_⟩
  · show sgnD (f_side [f_line [f_spread [PQ p q], f_spread [PQ r s]], f_spread [PQ u v]]) = _
    rw [e]
    rfl
  · rw [← Rat.intCast_pos, eV]
    exact ⟨fun h => Rat.mul_pos hW h, fun h => pos_of_mul hW h⟩
  · rw [show V = 0 ↔ (V : Rat) = 0 from ⟨fun h => by rw [h]; rfl, fun h => by rw [← Rat.intCast_zero] at h; exact Rat.intCast_inj.mp h⟩, eV]
    refine ⟨fun h => by rw [h, Rat.mul_zero], fun h => ?_⟩
    rcases Rat.mul_eq_zero.mp h with h | h
    · grind
    · exact h
theorem sideok_orr {p q r s u v : Rat} (hx : SmP p q) (hy : SmP r s) (hz : SmP u v) : SideOk (PQ p q) (PQ r s) (PQ u v) ↔ 0 < orr p q r s u v := by
  rw [← side_iff hx hy hz]
  obtain ⟨V, W, e, hW, eV⟩ := side_val hx hy hz
  rw [e]
  constructor
  · rintro ⟨v', e1, h⟩
    injection e1 with e1
    subst e1
    exact pos_of_mul hW (by rw [← eV]; exact Rat.intCast_pos.mpr h)
  · exact fun h => ⟨V, rfl, Rat.intCast_pos.mp (by rw [eV]; exact Rat.mul_pos hW h)⟩
theorem sq_inj {a b : Rat} (ha : 0 ≤ a) (hb : 0 ≤ b) (h : a * a = b * b) : a = b := by
  have e : (a - b) * (a + b) = 0 := by grind
  rcases Rat.mul_eq_zero.mp e with z | z <;> grind
theorem len_val {p q r s l : Rat} (hx : SmP p q) (hy : SmP r s) (l0 : 0 ≤ l) (el : l * l = (r - p) * (r - p) + (s - q) * (s - q)) : f_len [PQ p q, PQ r s] = FQ l := by
  obtain ⟨p', q', X, Y, w, e, e1, w1, _, _, _, px, qy⟩ := pt_spread hx
  obtain ⟨rfl, rfl⟩ := pq_inj e
  obtain ⟨r', s', X', Y', w', e, e2, w2, _, _, _, rx, sy⟩ := pt_spread hy
  obtain ⟨rfl, rfl⟩ := pq_inj e
  have wn : (0 : Rat) < w := Rat.intCast_pos.mpr (by omega)
  have wn' : (0 : Rat) < w' := Rat.intCast_pos.mpr (by omega)
  have sq : ((sq2 X Y w X' Y' w' : Int) : Rat) = (l * ((w : Rat) * (w' : Rat))) * (l * ((w : Rat) * (w' : Rat))) := by
    unfold sq2
    rw [Rat.intCast_add, Rat.intCast_mul, Rat.intCast_mul, Rat.intCast_sub, Rat.intCast_sub, Rat.intCast_mul, Rat.intCast_mul, Rat.intCast_mul, Rat.intCast_mul, ← px, ← qy, ← rx, ← sy]
    generalize (w : Rat) = u at *
    generalize (w' : Rat) = v at *
    grind
  obtain ⟨k, ek⟩ := sq_whole sq.symm
  show f_dist [f_spread [PQ p q], f_spread [PQ r s]] = _
  rw [e1, e2]
  show (match f_root [.int (sq2 X Y w X' Y' w')] with | .int k => rt k (w * w') | _ => PyData.none) = _
  have e3 : f_root [.int (sq2 X Y w X' Y' w')] = .int (k : Int) := by rw [ek]; exact f_root_sq
  rw [e3]
  show rt (k : Int) (w * w') = _
  have hw := Rat.mul_pos wn wn'
  have ekk : ((k : Int) : Rat) = l * ((w : Rat) * (w' : Rat)) := by
    refine sq_inj (by exact_mod_cast Nat.zero_le k) (Rat.mul_nonneg l0 (Rat.le_of_lt hw)) ?_
    rw [← sq, ek, Rat.intCast_mul]
  rw [rt_q (Int.mul_ne_zero (by omega) (by omega)), ekk, Rat.intCast_mul]
  congr 1
  generalize (w : Rat) * (w' : Rat) = u at *
  have : u ≠ 0 := by grind
  grind
/-- the list of a polygon's points -/
structure Lst (p : Pz) (xs : List PyData) : Prop where
  len : xs.length = p.n
  it : ∀ i, i < p.n → xs[i]? = some (PQ (p.c i) (p.d i))
  sm : ∀ i, i < p.n → SmP (p.c i) (p.d i)
theorem Lst.mem {p : Pz} {xs : List PyData} (h : Lst p xs) {x : PyData} (hx : x ∈ xs) : ∃ i, i < p.n ∧ x = PQ (p.c i) (p.d i) := by
  obtain ⟨i, e⟩ := List.getElem?_of_mem hx
  have hi : i < p.n := by rw [← h.len]; exact (List.getElem?_eq_some_iff.mp e).1
  rw [h.it i hi] at e
  injection e with e
  exact ⟨i, hi, e.symm⟩
theorem nxt_mod {n k : Nat} (h : k < n) : (k + 1) % n = nxt n k := by
  unfold nxt
  split
  · next e => rw [e, Nat.mod_self]
  · rw [Nat.mod_eq_of_lt (by omega)]
theorem PzOk.len {G : Int} {p : Pz} (ok : PzOk G p) {i : Nat} (hi : i < p.n) : p.l i * p.l i = (p.c (nxt p.n i) - p.c i) * (p.c (nxt p.n i) - p.c i) + (p.d (nxt p.n i) - p.d i) * (p.d (nxt p.n i) - p.d i) := by
  have ex := ok.I.ex i hi
  have ey := ok.I.ey i hi
  have u := ok.I.unit i hi
  rw [ex, ey]
  generalize p.x i = x at *
  generalize p.y i = y at *
  grind
theorem isP_PQ8 (a b : Rat) : isP (PQ a b) = true := isP_of_pq a b
theorem plate_ok {G : Int} {p : Pz} {xs : List PyData} (ok : PzOk G p) (h : Lst p xs) (n8 : p.n ≤ 8) : PlateP xs := by
  refine ⟨by rw [h.len]; exact ok.n3, by rw [h.len]; exact n8, fun x hx => ?_, fun k j x y z e1 e2 e3 n1 n2 => ?_, fun k x y e1 e2 => ?_⟩
  · obtain ⟨i, hi, rfl⟩ := h.mem hx
    exact isP_PQ8 _ _
  · have hk : k < p.n := by rw [← h.len]; exact (List.getElem?_eq_some_iff.mp e1).1
    have hj : j < p.n := by rw [← h.len]; exact (List.getElem?_eq_some_iff.mp e3).1
    rw [h.len, nxt_mod hk] at e2 n2
    have hq := nxt_lt hk
    rw [h.it k hk] at e1
    rw [h.it _ hq] at e2
    rw [h.it j hj] at e3
    injection e1 with e1
    injection e2 with e2
    injection e3 with e3
    rw [← e1, ← e2, ← e3]
    refine (sideok_orr (h.sm k hk) (h.sm _ hq) (h.sm j hj)).mpr (ok.C.s hk hq hj ?_)
    unfold nxt Cyc at *
    split at n2 <;> split <;> omega
  · have hk : k < p.n := by rw [← h.len]; exact (List.getElem?_eq_some_iff.mp e1).1
    rw [h.len, nxt_mod hk] at e2
    rw [h.it k hk] at e1
    rw [h.it _ (nxt_lt hk)] at e2
    injection e1 with e1
    injection e2 with e2
    exact ⟨_, _, _, _, p.l k, e1.symm, e2.symm, ok.len hk⟩
theorem part_iff {p q : Pz} {xs ys : List PyData} (hx : Lst p xs) (hy : Lst q ys) : PartP xs ys ↔ SepI p.n p.c p.d q.n q.c q.d := by
  constructor
  · rintro ⟨k, x, y, e1, e2, h⟩
    have hk : k < p.n := by rw [← hx.len]; exact (List.getElem?_eq_some_iff.mp e1).1
    rw [hx.len, nxt_mod hk, hx.it _ (nxt_lt hk)] at e2
    rw [hx.it k hk] at e1
    injection e1 with e1
    injection e2 with e2
    subst e1 e2
    refine ⟨k, hk, fun j hj => Rat.not_lt.mp fun z => ?_⟩
    exact h _ (List.mem_of_getElem? (hy.it j hj)) ((sideok_orr (hx.sm k hk) (hx.sm _ (nxt_lt hk)) (hy.sm j hj)).mpr z)
  · rintro ⟨k, hk, h⟩
    refine ⟨k, _, _, hx.it k hk, by rw [hx.len, nxt_mod hk]; exact hx.it _ (nxt_lt hk), fun z hz => ?_⟩
    obtain ⟨j, hj, rfl⟩ := hy.mem hz
    rw [sideok_orr (hx.sm k hk) (hx.sm _ (nxt_lt hk)) (hy.sm j hj)]
    exact Rat.not_lt.mpr (h j hj)
theorem orr_lin (a b c d x y : Rat) : orr a b c d x y = -(d - b) * x + (c - a) * y + ((d - b) * a - (c - a) * b) := by unfold orr; grind
theorem in_whole {w p : Pz} {G G' : Int} (ow : PzOk G w) (op : PzOk G' p) (h : SubP w p) {k j : Nat} (hk : k < w.n) (hj : j < p.n) : 0 ≤ orr (w.c k) (w.d k) (w.c (nxt w.n k)) (w.d (nxt w.n k)) (p.c j) (p.d j) := by
  have := h (w.d (nxt w.n k) - w.d k) (-(w.c (nxt w.n k) - w.c k)) (-((w.d (nxt w.n k) - w.d k) * w.c k - (w.c (nxt w.n k) - w.c k) * w.d k)) (fun i hi => by
    have := ow.C.w hk (nxt_lt hk) hi (by unfold nxt Cyc at *; split <;> omega)
    unfold orI at this
    rw [orr_lin] at this
    grind) j hj
  rw [orr_lin]
  grind
theorem over_whole {w p : Pz} {G G' : Int} (ow : PzOk G w) (op : PzOk G' p) (h : SubP w p) : ¬ SepI w.n w.c w.d p.n p.c p.d ∧ ¬ SepI p.n p.c p.d w.n w.c w.d := by
  constructor
  · rintro ⟨k, hk, hs⟩
    have z : ∀ j, j < p.n → orr (w.c k) (w.d k) (w.c (nxt w.n k)) (w.d (nxt w.n k)) (p.c j) (p.d j) = 0 := fun j hj => by
      have h1 := in_whole ow op h hk hj
      have h2 := hs j hj
      grind
    have t := ow.C.s hk (nxt_lt hk) (nxt_lt (nxt_lt hk)) (by have := ow.n3; unfold nxt Cyc at *; split <;> split <;> omega)
    obtain ⟨i, j, hi, hj, ne⟩ := not_flat op.n3 op.C (al := -(w.d (nxt w.n k) - w.d k)) (be := w.c (nxt w.n k) - w.c k) (by
      refine Classical.byContradiction fun q => ?_
      unfold orI at t
      rw [orr_lin] at t
      have q1 : w.d (nxt w.n k) - w.d k = 0 := by grind
      have q2 : w.c (nxt w.n k) - w.c k = 0 := by grind
      rw [q1, q2] at t
      grind)
    have z1 := z i hi
    have z2 := z j hj
    rw [orr_lin] at z1 z2
    grind
  · rintro ⟨k, hk, hs⟩
    have hq := nxt_lt hk
    have hr := nxt_lt hq
    have := h (-(p.d (nxt p.n k) - p.d k)) (p.c (nxt p.n k) - p.c k) ((p.d (nxt p.n k) - p.d k) * p.c k - (p.c (nxt p.n k) - p.c k) * p.d k) (fun i hi => by
      have := hs i hi
      rw [orr_lin] at this
      exact this) _ hr
    have t := op.C.s hk hq hr (by have := op.n3; unfold nxt Cyc at *; split <;> split <;> omega)
    unfold orI at t
    rw [orr_lin] at t
    grind
theorem over_ok {w p : Pz} {G G' : Int} {xs ys : List PyData} (ow : PzOk G w) (op : PzOk G' p) (h : SubP w p) (hx : Lst w xs) (hy : Lst p ys) : OverP xs ys ∧ OverP ys xs := by
  obtain ⟨h1, h2⟩ := over_whole ow op h
  rw [← part_iff hx hy] at h1
  rw [← part_iff hy hx] at h2
  exact ⟨⟨h1, h2⟩, ⟨h2, h1⟩⟩
theorem apart_ok {p q : Pz} {G G' : Int} {xs ys : List PyData} (op : PzOk G p) (oq : PzOk G' q) (h : SepL p q) (hx : Lst p xs) (hy : Lst q ys) : ¬ OverP xs ys ∧ ¬ OverP ys xs := by
  obtain ⟨al, be, ga, nz, h1, h2⟩ := h
  have := sat op.n3 oq.n3 op.C oq.C nz (ga := ga) h1 (fun j hj => by have := h2 j hj; grind)
  rw [← part_iff hx hy, ← part_iff hy hx] at this
  exact ⟨fun z => this.elim z.1 z.2, fun z => this.elim z.2 z.1⟩

/-! ### the whole: a drawn polygon, turned, stretched, moved -/
theorem rot_lin_x {t x y r s : Rat} : rotX t (x * r - y * s) (x * s + y * r) = rotX t x y * r - rotY t x y * s := by
  unfold rotX rotY
  rw [Rat.div_def, Rat.div_def, Rat.div_def]
  grind
theorem rot_lin_y {t x y r s : Rat} : rotY t (x * r - y * s) (x * s + y * r) = rotX t x y * s + rotY t x y * r := by
  unfold rotX rotY
  rw [Rat.div_def, Rat.div_def, Rat.div_def]
  grind
theorem mul_bd {a b A B : Rat} (hA : 0 ≤ A) (hB : 0 ≤ B) (a1 : a ≤ A) (a2 : -A ≤ a) (b1 : b ≤ B) (b2 : -B ≤ b) : a * b ≤ A * B ∧ -(A * B) ≤ a * b := by
  have h1 := Rat.mul_nonneg (show 0 ≤ A - a by grind) (show 0 ≤ B + b by grind)
  have h2 := Rat.mul_nonneg (show 0 ≤ A + a by grind) (show 0 ≤ B - b by grind)
  have h3 := Rat.mul_nonneg (show 0 ≤ A - a by grind) (show 0 ≤ B - b by grind)
  have h4 := Rat.mul_nonneg (show 0 ≤ A + a by grind) (show 0 ≤ B + b by grind)
  constructor <;> grind
theorem is12 {q : Rat} {b : Int} (h : IsI q b) (h1 : 1 ≤ b) (h4 : b ≤ 4) : IsI q 12 := by
  rcases (show b = 1 ∨ b = 2 ∨ b = 3 ∨ b = 4 by omega) with rfl | rfl | rfl | rfl
  · exact (h.up 12).cast (by decide)
  · exact (h.up 6).cast (by decide)
  · exact (h.up 4).cast (by decide)
  · exact (h.up 3).cast (by decide)
theorem orr_mov (a1 a2 b1 b2 g1 g2 r s f eu ev : Rat) : orr ((a1 * r - a2 * s) * f + eu) ((a1 * s + a2 * r) * f + ev) ((b1 * r - b2 * s) * f + eu) ((b1 * s + b2 * r) * f + ev) ((g1 * r - g2 * s) * f + eu) ((g1 * s + g2 * r) * f + ev) = f * f * (r * r + s * s) * orr a1 a2 b1 b2 g1 g2 := by
  unfold orr
  grind
theorem pz_moved {j n : Nat} {c d : Nat → Rat} {R v b1 b2 : Int} {r s f eu ev : Rat} (h : PS j n c d) (n3 : 3 ≤ n) (m : MvP R v b1 b2 r s f eu ev) :
    ∃ w : Pz, w.n = n ∧ w.j = j ∧ (∀ i, w.c i = (c i * r - d i * s) * f + eu) ∧ (∀ i, w.d i = (c i * s + d i * r) * f + ev) ∧ PzOk w.E w ∧ 0 < w.E ∧ w.E ≤ (mE j : Int) * 32 := by
  obtain ⟨x, y, l, t, W, E, P, S, B, hW, hE, C⟩ := h
  obtain ⟨⟨i1, i2, un⟩, ⟨R0, R72⟩, fv, ⟨v1, v9⟩, ⟨f0, f9⟩, iu, h1, iv, h2, lu, lv⟩ := m
  have ju := is12 iu h1.1 h1.2
  have jv := is12 iv h2.1 h2.2
  have r1 := unit_le un
  have s1 := unit_le (x := s) (y := r) (by grind)
  have bd : ∀ {a b q : Rat}, a ≤ 4 → -4 ≤ a → b ≤ 4 → -4 ≤ b → q ≤ 20 → -20 ≤ q → ((a * r - b * s) * f + q ≤ 128 ∧ -128 ≤ (a * r - b * s) * f + q) ∧ ((a * s + b * r) * f + q ≤ 128 ∧ -128 ≤ (a * s + b * r) * f + q) := fun {a b q} a1 a2 b1 b2 q1 q2 => by
    have m1 := mul_bd (A := 4) (B := 1) (by decide) (by decide) a1 a2 r1.1 r1.2
    have m2 := mul_bd (A := 4) (B := 1) (by decide) (by decide) b1 b2 s1.1 s1.2
    have m3 := mul_bd (A := 4) (B := 1) (by decide) (by decide) a1 a2 s1.1 s1.2
    have m4 := mul_bd (A := 4) (B := 1) (by decide) (by decide) b1 b2 r1.1 r1.2
    have m5 := mul_bd (a := a * r - b * s) (A := 8) (B := 9) (b := f) (by decide) (by decide) (by grind) (by grind) f9 (by grind)
    have m6 := mul_bd (a := a * s + b * r) (A := 8) (B := 9) (b := f) (by decide) (by decide) (by grind) (by grind) f9 (by grind)
    refine ⟨⟨?_, ?_⟩, ?_, ?_⟩ <;> grind
  have W0 := S.wp
  have E0 := S.ep
  have xr : ∀ {a b : Rat} {D : Int}, IsI a D → IsI b D → IsI (a * r - b * s) (D * R * 12) := fun ha hb => ((ha.mul i1).sub (hb.mul i2)).up 12
  have xs : ∀ {a b : Rat} {D : Int}, IsI a D → IsI b D → IsI (a * s + b * r) (D * R * 12) := fun ha hb => ((ha.mul i2).add (hb.mul i1)).up 12
  have cI : ∀ {a b q : Rat}, IsI a (W * E) → IsI b (W * E) → IsI q 12 → IsI ((a * r - b * s) * f + q) (W * R * 12 * (E * v)) ∧ IsI ((a * s + b * r) * f + q) (W * R * 12 * (E * v)) := fun {a b q} ha hb hq =>
    ⟨(((xr ha hb).mul fv).cast (by grind)).add ((hq.up (W * R * (E * v))).cast (by grind)), (((xs ha hb).mul fv).cast (by grind)).add ((hq.up (W * R * (E * v))).cast (by grind))⟩
  refine ⟨⟨n, j, fun i => (c i * r - d i * s) * f + eu, fun i => (c i * s + d i * r) * f + ev, fun i => x i * r - y i * s, fun i => x i * s + y i * r, fun i => l i * f, t, W * R * 12, E * v⟩, rfl, rfl, fun _ => rfl, fun _ => rfl, ⟨n3, ?_, ?_, ?_, ?_, ?_, ?_, ⟨1, by decide, (Int.mul_one _).symm⟩⟩, Int.mul_pos E0 (by omega), ?_⟩
  · refine ⟨fun i hi => ?_, fun i hi => Rat.mul_pos (P.lp i hi) f0, P.tp, fun i hi => ?_, fun i hi => ?_, fun i hi => ?_, fun i hi => ?_⟩
    · have := P.unit i hi
      show (x i * r - y i * s) * (x i * r - y i * s) + (x i * s + y i * r) * (x i * s + y i * r) = 1
      generalize x i = a at *
      generalize y i = b at *
      have e : (a * r - b * s) * (a * r - b * s) + (a * s + b * r) * (a * s + b * r) = (a * a + b * b) * (r * r + s * s) := by grind
      rw [e, this, un, Rat.mul_one]
    · have a1 := P.ex i hi
      have a2 := P.ey i hi
      show (c (nxt n i) * r - d (nxt n i) * s) * f + eu = (c i * r - d i * s) * f + eu + l i * f * (x i * r - y i * s)
      rw [a1, a2]
      grind
    · have a1 := P.ex i hi
      have a2 := P.ey i hi
      show (c (nxt n i) * s + d (nxt n i) * r) * f + ev = (c i * s + d i * r) * f + ev + l i * f * (x i * s + y i * r)
      rw [a1, a2]
      grind
    · show x i * r - y i * s = rotX (t i) (x (prv n i) * r - y (prv n i) * s) (x (prv n i) * s + y (prv n i) * r)
      rw [rot_lin_x, ← P.rx i hi, ← P.ry i hi]
    · show x i * s + y i * r = rotY (t i) (x (prv n i) * r - y (prv n i) * s) (x (prv n i) * s + y (prv n i) * r)
      rw [rot_lin_y, ← P.rx i hi, ← P.ry i hi]
  · exact ⟨Int.mul_pos (Int.mul_pos W0 R0) (by decide), Int.mul_pos E0 (by omega), fun i hi => xr (S.xi i hi) (S.yi i hi), fun i hi => xs (S.xi i hi) (S.yi i hi), fun i hi => (S.li i hi).mul fv,
      fun i hi => (cI (S.ci i hi) (S.di i hi) ju).1, fun i hi => (cI (S.ci i hi) (S.di i hi) jv).2, S.ti⟩
  · have bx := fun i hi => (bd (B.c1 i hi) (B.c2 i hi) (B.d1 i hi) (B.d2 i hi) lu.1 lu.2).1
    have by' := fun i hi => (bd (B.c1 i hi) (B.c2 i hi) (B.d1 i hi) (B.d2 i hi) lv.1 lv.2).2
    refine ⟨fun i hi => (bx i hi).1, fun i hi => (bx i hi).2, fun i hi => (by' i hi).1, fun i hi => (by' i hi).2, fun i hi => ?_⟩
    have l0 := P.lp i hi
    have l4 := B.l1 i hi
    have := mul_bd (A := 4) (B := 9) (b := f) (by decide) (by decide) l4 (by grind) f9 (by grind)
    show l i * f ≤ 128
    grind
  · intro i k m hik hkm hm
    have := C i k m hik hkm hm
    have e : orI (fun i => (c i * r - d i * s) * f + eu) (fun i => (c i * s + d i * r) * f + ev) i k m = f * f * (r * r + s * s) * orI c d i k m := orr_mov ..
    rw [e, un, Rat.mul_one]
    exact Rat.mul_pos (Rat.mul_pos f0 f0) this
  · show W * R * 12 ≤ (mW j : Int) * 4096
    have h3 := Int.mul_le_mul hW R72 (Int.le_of_lt R0) (by omega)
    have h4 : (0 : Int) ≤ mW j := by omega
    omega
  · show E * v ≤ (mE j : Int) * 32
    have h3 := Int.mul_le_mul hE v9 (by omega) (by omega)
    omega
  · show E * v ≤ (mE j : Int) * 32
    have h3 := Int.mul_le_mul hE v9 (by omega) (by omega)
    omega
/-- the triangle that is taken where the drawn numbers are too great -/
def pzT : Pz := ⟨3, 0, tri 0 4 0, tri 0 0 3, tri 1 (-4 / 5) 0, tri 0 (3 / 5) (-1), tri 4 5 3, tri 1 3 2, 5, 1⟩
theorem pz_tri3 : PzOk 1 pzT := by
  have i5 : ∀ z : Int, IsI ((z : Rat) / 5) 5 := fun z => isI_div z 5 (by decide)
  have iz : ∀ (z D : Int), IsI (z : Rat) D := int_isI
  have tq : ∀ (z : Int) (q : Rat), q = (z : Rat) / ((1 : Int) : Rat) → 0 < z → z ≤ 144 → ∃ a b : Int, q = (a : Rat) / (b : Rat) ∧ 0 < a ∧ a ≤ (mM 0 : Nat) ∧ 0 < b ∧ b ≤ (mM 0 : Nat) := fun z q e h1 h2 => ⟨z, 1, e, h1, h2, by decide, by decide⟩
  refine ⟨by decide, ⟨all3 (by decide +kernel) (by decide +kernel) (by decide +kernel), all3 (by decide +kernel) (by decide +kernel) (by decide +kernel), all3 (by decide +kernel) (by decide +kernel) (by decide +kernel), all3 (by decide +kernel) (by decide +kernel) (by decide +kernel), all3 (by decide +kernel) (by decide +kernel) (by decide +kernel), all3 (by decide +kernel) (by decide +kernel) (by decide +kernel), all3 (by decide +kernel) (by decide +kernel) (by decide +kernel)⟩,
    ⟨by decide, by decide, all3 (iz 1 5) (i5 (-4)) (iz 0 5), all3 (iz 0 5) (i5 3) (iz (-1) 5), all3 (iz 4 1) (iz 5 1) (iz 3 1), all3 (iz 0 _) (iz 4 _) (iz 0 _), all3 (iz 0 _) (iz 0 _) (iz 3 _), all3 (tq 1 _ (by decide +kernel) (by decide) (by decide)) (tq 3 _ (by decide +kernel) (by decide) (by decide)) (tq 2 _ (by decide +kernel) (by decide) (by decide))⟩,
    ⟨all3 (by decide +kernel) (by decide +kernel) (by decide +kernel), all3 (by decide +kernel) (by decide +kernel) (by decide +kernel), all3 (by decide +kernel) (by decide +kernel) (by decide +kernel), all3 (by decide +kernel) (by decide +kernel) (by decide +kernel), all3 (by decide +kernel) (by decide +kernel) (by decide +kernel)⟩,
    cc3 (by decide +kernel), by decide, by decide, 1, by decide, by decide⟩
/-- the family at the start: the whole alone -/
theorem fam0 {w : Pz} {G : Int} (ok : PzOk G w) (g0 : 0 < G) (gE : G ≤ (mE w.j : Int) * 32) : Fam w w.per G w.j [w] := by
  refine ⟨fun p hp => ?_, fun i j p q ne hi hj => ?_, ?_, g0, gE⟩
  · rw [List.mem_singleton.mp hp]
    exact ⟨ok, SubP.refl w, Nat.le_refl _⟩
  · have l1 : i < 1 := (List.getElem?_eq_some_iff.mp hi).1
    have l2 : j < 1 := (List.getElem?_eq_some_iff.mp hj).1
    omega
  · show w.per + 0 = w.per
    grind

/-! ### a corner is cut off and kept -/
abbrev PlsD (pls : List (List Nat)) : PyData := .list (pls.map IntsD)
abbrev sp_cut2 : Sp := fun vs H Q _ => ∃ (sa C Pl : Addr) (at' k : Nat) (pt : V) (pts : List PyData) (pls : List (List Nat)) (nums : List Nat) (i0 i1 i2 : Nat) (a b c d e f x' y' x y l' l t p s r0 r1 co si th lm room : Rat),
  vs = [.ref C, .ref Pl, .int (at' : Int), .int (k : Int), pt, .bl true] ∧ (∃ o, H sa = some o) ∧ Rp sa H (.ref C) (.list pts) ∧ Rp sa H (.ref Pl) (PlsD pls) ∧ Rp sa H pt (FQ p) ∧
  (nums.length ≤ 10 ∧ pts.length ≤ 20 ∧ pls.length ≤ 20 ∧ (∀ z ∈ pts, ∃ u v, z = PQ u v) ∧ ∀ q ∈ pls, q ≠ []) ∧ (pls[at']? = some nums ∧ nums[k]? = some i0 ∧ nums[if k = 0 then nums.length - 1 else k - 1]? = some i1 ∧ nums[(k + 1) % nums.length]? = some i2) ∧
  (pts[i0]? = some (PQ a b) ∧ pts[i1]? = some (PQ c d) ∧ pts[i2]? = some (PQ e f)) ∧ CutOk a b c d e f x' y' x y l' l t p s r0 r1 co si th lm room ∧
  ∀ H', (∀ q o, q ≠ C → q ≠ Pl → H q = some o → H' q = some o) → Rp sa H' (.ref C) (.list (pts ++ [PQ (a + -x' * (room * th)) (b + -y' * (room * th)), PQ (a + x * (room * r1)) (b + y * (room * r1))])) →
    Rp sa H' (.ref Pl) (PlsD (pls.set at' (nums.take k ++ [pts.length, pts.length + 1] ++ nums.drop (k + 1)) ++ [[i0, pts.length + 1, pts.length]])) → Q .non H'
theorem pls_at {pls : List (List Nat)} {i : Nat} {nums : List Nat} (h : pls[i]? = some nums) : (pls.map IntsD)[i]? = some (IntsD nums) := by
  rw [List.getElem?_map, h]
  rfl
theorem ints_any {sa : Addr} {H H' : Hp} : ∀ {xs : List V} {nums : List Nat}, Rps sa H xs (nums.map fun (n : Nat) => PyData.int (n : Int)) → Rps sa H' xs (nums.map fun (n : Nat) => PyData.int (n : Int))
  | [], [], _ => .nil
  | x :: xs, n :: nums, h => by
    cases h with
    | cons h t =>
      cases h
      exact .cons (.int _) (ints_any t)
/-- no list of integers -/
def NoInts (H : Hp) (X : Addr) : Prop := ∃ v vs, H X = some (.lst (v :: vs)) ∧ ∀ i, v ≠ .int i
theorem row_ne {sa X : Addr} {H : Hp} {x : V} {nums : List Nat} (hX : NoInts H X) (r : Rp sa H x (IntsD nums)) (nn : nums ≠ []) : x ≠ .ref X := fun e => by
  obtain ⟨v, vs, h, no⟩ := hX
  subst e
  cases nums with
  | nil => exact nn rfl
  | cons n nums =>
    cases r with
    | lst _ h2 r =>
      rw [h] at h2
      injection h2 with h2
      injection h2 with h2
      subst h2
      cases r with
      | cons a t =>
        cases a
        exact no _ rfl
theorem row_stay {sa X : Addr} {H H' : Hp} {x : V} {nums : List Nat} (fr : ∀ q o, q ≠ X → H q = some o → H' q = some o) (r : Rp sa H x (IntsD nums)) (ne : x ≠ .ref X) : Rp sa H' x (IntsD nums) := by
  cases r with
  | @lst a _ _ n h r => exact .lst n (fr a _ (fun e => ne (by rw [e])) h) (ints_any r)
theorem rows_stay {sa X : Addr} {H H' : Hp} (hX : NoInts H X) (fr : ∀ q o, q ≠ X → H q = some o → H' q = some o) : ∀ {ps : List V} {pls : List (List Nat)}, (∀ q ∈ pls, q ≠ []) → Rps sa H ps (pls.map IntsD) → Rps sa H' ps (pls.map IntsD)
  | [], [], _, _ => .nil
  | x :: ps, q :: pls, nn, h => by
    cases h with
    | cons h t => exact .cons (row_stay fr h (row_ne hX h (nn q List.mem_cons_self))) (rows_stay hX fr (fun z hz => nn z (List.mem_cons_of_mem _ hz)) t)
theorem rows_set {sa X : Addr} {H H' : Hp} (hX : NoInts H X) (fr : ∀ q o, q ≠ X → H q = some o → H' q = some o) {ps : List V} {pls : List (List Nat)} (nn : ∀ q ∈ pls, q ≠ []) (r : Rps sa H ps (pls.map IntsD)) : Rps sa H' ps (pls.map IntsD) := rows_stay hX fr nn r
theorem rp_first {sa : Addr} {H : Hp} {v : V} {d : PyData} (r : Rp sa H v d) (h : ∀ i, d ≠ .int i) : ∀ i, v ≠ .int i := fun i e => by
  subst e
  cases r
  exact h _ rfl
theorem noInts_rows {sa X : Addr} {H H' : Hp} {xs : List V} {pls : List (List Nat)} (h : H X = some (.lst xs)) (r : Rps sa H' xs (pls.map IntsD)) (ne : pls ≠ []) : NoInts H X := by
  cases pls with
  | nil => exact absurd rfl ne
  | cons d ds =>
    cases r with
    | @cons v vs _ _ h1 t => exact ⟨v, vs, h, rp_first h1 fun i e => by cases e⟩
section
variable {P : Program} {w : World} {K : PySem.W.Frag} {mg : Str → Option Value} {base : Heap}
theorem ok_law_cut2 {f : Addr} {fd : FuncData} (F : Fun K "_law_cut" "_law_cut" s_law_cut f fd) (nb : Nb mg) (d_law_add : Df P w K mg base CX0 2 "_law_add" ["one", "other"] sp_qadd) (d_law_mul : Df P w K mg base CX0 2 "_law_mul" ["one", "other"] sp_qmul) (d_law_div : Df P w K mg base CX0 2 "_law_div" ["one", "other"] sp_qdiv) (d_law_plus : Df P w K mg base CX0 3 "_law_plus" ["one", "other"] sp_pplus) (d_law_minus : Df P w K mg base CX0 3 "_law_minus" ["one", "other"] sp_pminus) (d_law_times : Df P w K mg base CX0 3 "_law_times" ["step", "factor"] sp_ptimes) (d_law_cross : Df P w K mg base CX0 3 "_law_cross" ["one", "other"] sp_pcross) (d_law_dot : Df P w K mg base CX0 3 "_law_dot" ["one", "other"] sp_pdot) (d_law_size : Df P w K mg base CX0 4 "_law_size" ["step"] sp_psize) (d_law_unit : Df P w K mg base CX0 5 "_law_unit" ["one", "other"] sp_punit) (d_law_ray : Df P w K mg base CX0 2 "_law_ray" ["slope"] sp_qray) (d_law_least : Df P w K mg base CX0 1 "_law_least" ["items"] sp_qleast) : FnOk P w K mg base CX0 6 f fd ["corners", "plates", "at", "k", "part", "keep"] sp_cut2 := by
  have sc := sc_law_cut
  refine F.ok sc (fun vs H Q E h => ?_) (fun cdv A outer s H vs Q E hr h => ?_)
  · obtain ⟨sa, C, Pl, at', k, pt, pts, pls, nums, i0, i1, i2, _, _, _, _, _, _, _, _, _, _, _, _, _, _, _, _, _, _, _, _, _, _, rfl, _⟩ := h
    rfl
  · obtain ⟨sa, C, Pl, at', k, pt, pts, pls, nums, i0, i1, i2, a, b, c, d, e, f, x', y', x, y, l', l, t, p, s, r0, r1, co, si, th, lm, room, rfl, tr, rC, rP, rp, ⟨n10, p10, pl10, pq, nn⟩, ⟨pa, k0, k1, k2⟩, ⟨p0, p1, p2⟩, ok, hq⟩ := h
    obtain ⟨pt, rfl⟩ : ∃ q, pt = .ref q := by cases rp; exact ⟨_, rfl⟩
    obtain ⟨ki, hk⟩ : ∃ ki : Int, ki = (k : Int) := ⟨_, rfl⟩
    obtain ⟨ai, hai⟩ : ∃ ai : Int, ai = (at' : Int) := ⟨_, rfl⟩
    rw [← hk, ← hai]
    refine ⟨_, (pss_cons (ps_asg (pe_ix ix_list (pv 1) (pv 2) (fun _ _ => rfl)) (pg_name (i := 6) sc.nd rfl (.inl rfl)))
    (pss_cons (ps_asg (pe_ix ix_list (pv 0) (pe_ix ix_list (pv 6) (pv 3) (fun _ _ => rfl)) (fun _ _ => rfl)) (pg_name (i := 7) sc.nd rfl (.inl rfl)))
    (pss_cons (ps_asg (pe_ix ix_list (pv 0) (pe_ix ix_list (pv 6) (pe_op op_sub (pv 3) pe_int) (fun _ _ => rfl)) (fun _ _ => rfl)) (pg_name (i := 8) sc.nd rfl (.inl rfl)))
    (pss_cons (ps_asg (pe_ix ix_list (pv 0) (pe_ix ix_list (pv 6) (pe_op op_mod (pe_op op_add (pv 3) pe_int) (pe_callB cq_len (by rfl) nb.len (by decide +kernel) (pa_cons (pv 6) pa_nil))) (fun _ _ => rfl)) (fun _ _ => rfl)) (pg_name (i := 9) sc.nd rfl (.inl rfl)))
    (pss_cons (ps_asg (pe_call d_law_unit.F (hr.mono (by decide)) (by rfl) d_law_unit.g d_law_unit.kp d_law_unit.b .nil pass0 (pa_cons (pv 7) (pa_cons (pv 8) pa_nil))) (pg_name (i := 10) sc.nd rfl (.inl rfl)))
    (pss_cons (ps_asg (pe_call d_law_unit.F (hr.mono (by decide)) (by rfl) d_law_unit.g d_law_unit.kp d_law_unit.b .nil pass0 (pa_cons (pv 7) (pa_cons (pv 9) pa_nil))) (pg_name (i := 11) sc.nd rfl (.inl rfl)))
    (pss_cons (ps_asg (pe_call d_law_dot.F (hr.mono (by decide)) (by rfl) d_law_dot.g d_law_dot.kp d_law_dot.b .nil pass0 (pa_cons (pv 11) (pa_cons (pv 10) pa_nil))) (pg_name (i := 12) sc.nd rfl (.inl rfl)))
    (pss_cons (ps_asg (pe_call d_law_cross.F (hr.mono (by decide)) (by rfl) d_law_cross.g d_law_cross.kp d_law_cross.b .nil pass0 (pa_cons (pv 11) (pa_cons (pv 10) pa_nil))) (pg_name (i := 13) sc.nd rfl (.inl rfl)))
    (pss_cons (ps_asg (pe_call d_law_ray.F (hr.mono (by decide)) (by rfl) d_law_ray.g d_law_ray.kp d_law_ray.b .nil pass0 (pa_cons (pe_call d_law_mul.F (hr.mono (by decide)) (by rfl) d_law_mul.g d_law_mul.kp d_law_mul.b .nil pass0 (pa_cons (pe_call d_law_div.F (hr.mono (by decide)) (by rfl) d_law_div.g d_law_div.kp d_law_div.b .nil pass0 (pa_cons (pe_call d_law_add.F (hr.mono (by decide)) (by rfl) d_law_add.g d_law_add.kp d_law_add.b .nil pass0 (pa_cons (pe_tup (pa_cons pe_int (pa_cons pe_int pa_nil))) (pa_cons (pv 12) pa_nil))) (pa_cons (pv 13) pa_nil))) (pa_cons (pv 4) pa_nil))) pa_nil)) (pg_name (i := 14) sc.nd rfl (.inl rfl)))
    (pss_cons (ps_asg (pe_call d_law_add.F (hr.mono (by decide)) (by rfl) d_law_add.g d_law_add.kp d_law_add.b .nil pass0 (pa_cons (pe_call d_law_mul.F (hr.mono (by decide)) (by rfl) d_law_mul.g d_law_mul.kp d_law_mul.b .nil pass0 (pa_cons (pe_ix ix_tup (pv 14) pe_int (fun _ _ => rfl)) (pa_cons (pv 12) pa_nil))) (pa_cons (pe_call d_law_mul.F (hr.mono (by decide)) (by rfl) d_law_mul.g d_law_mul.kp d_law_mul.b .nil pass0 (pa_cons (pe_ix ix_tup (pv 14) pe_int (fun _ _ => rfl)) (pa_cons (pv 13) pa_nil))) pa_nil))) (pg_name (i := 15) sc.nd rfl (.inl rfl)))
    (pss_cons (ps_asg (pe_call d_law_least.F (hr.mono (by decide)) (by rfl) d_law_least.g d_law_least.kp d_law_least.b .nil pass0 (pa_cons (pe_lst (pa_cons (pe_call d_law_size.F (hr.mono (by decide)) (by rfl) d_law_size.g d_law_size.kp d_law_size.b .nil pass0 (pa_cons (pe_call d_law_minus.F (hr.mono (by decide)) (by rfl) d_law_minus.g d_law_minus.kp d_law_minus.b .nil pass0 (pa_cons (pv 8) (pa_cons (pv 7) pa_nil))) pa_nil)) (pa_cons (pe_call d_law_size.F (hr.mono (by decide)) (by rfl) d_law_size.g d_law_size.kp d_law_size.b .nil pass0 (pa_cons (pe_call d_law_minus.F (hr.mono (by decide)) (by rfl) d_law_minus.g d_law_minus.kp d_law_minus.b .nil pass0 (pa_cons (pv 9) (pa_cons (pv 7) pa_nil))) pa_nil)) pa_nil))) pa_nil)) (pg_name (i := 16) sc.nd rfl (.inl rfl)))
    (pss_cons (ps_asg (pe_call d_law_mul.F (hr.mono (by decide)) (by rfl) d_law_mul.g d_law_mul.kp d_law_mul.b .nil pass0 (pa_cons (pv 16) (pa_cons (pv 4) pa_nil))) (pg_name (i := 16) sc.nd rfl (.inl rfl)))
    (pss_cons (ps_asg (pe_call d_law_plus.F (hr.mono (by decide)) (by rfl) d_law_plus.g d_law_plus.kp d_law_plus.b .nil pass0 (pa_cons (pv 7) (pa_cons (pe_call d_law_times.F (hr.mono (by decide)) (by rfl) d_law_times.g d_law_times.kp d_law_times.b .nil pass0 (pa_cons (pv 10) (pa_cons (pe_call d_law_mul.F (hr.mono (by decide)) (by rfl) d_law_mul.g d_law_mul.kp d_law_mul.b .nil pass0 (pa_cons (pv 16) (pa_cons (pv 15) pa_nil))) pa_nil))) pa_nil))) (pg_name (i := 17) sc.nd rfl (.inl rfl)))
    (pss_cons (ps_asg (pe_call d_law_plus.F (hr.mono (by decide)) (by rfl) d_law_plus.g d_law_plus.kp d_law_plus.b .nil pass0 (pa_cons (pv 7) (pa_cons (pe_call d_law_times.F (hr.mono (by decide)) (by rfl) d_law_times.g d_law_times.kp d_law_times.b .nil pass0 (pa_cons (pv 11) (pa_cons (pe_call d_law_mul.F (hr.mono (by decide)) (by rfl) d_law_mul.g d_law_mul.kp d_law_mul.b .nil pass0 (pa_cons (pv 16) (pa_cons (pe_ix ix_tup (pv 14) pe_int (fun _ _ => rfl)) pa_nil))) pa_nil))) pa_nil))) (pg_name (i := 18) sc.nd rfl (.inl rfl)))
    (pss_cons (ps_asg (pe_callB cq_len (by rfl) nb.len (by decide +kernel) (pa_cons (pv 0) pa_nil)) (pg_name (i := 19) sc.nd rfl (.inl rfl)))
    (pss_one (ps_if (pt_val (pv 5)) (pss_cons (ps_expr (pe_bm PySem.F.plainAttrs_list PySem.F.slot_list_append PySem.F.type_list_append mt_append (pv 0) (pa_cons (pv 17) pa_nil)))
    (pss_cons (ps_expr (pe_bm PySem.F.plainAttrs_list PySem.F.slot_list_append PySem.F.type_list_append mt_append (pv 0) (pa_cons (pv 18) pa_nil)))
    (pss_cons (ps_asg (pe_op op_cat (pe_op op_cat (pe_slice sl_list (pv 6) po_none (po_some (pv 3))) (pe_lst (pa_cons (pv 19) (pa_cons (pe_op op_add (pv 19) pe_int) pa_nil)))) (pe_slice sl_list (pv 6) (po_some (pe_op op_add (pv 3) pe_int)) po_none)) (pg_sub (pv 1) (pv 2) set_list))
    (pss_one (ps_expr (pe_bm PySem.F.plainAttrs_list PySem.F.slot_list_append PySem.F.type_list_append mt_append (pv 1) (pa_cons (pe_lst (pa_cons (pe_ix ix_list (pv 6) (pv 3) (fun _ _ => rfl)) (pa_cons (pe_op op_add (pv 19) pe_int) (pa_cons (pv 19) pa_nil)))) pa_nil))))))) (pss_cons (ps_asg (pv 17) (pg_sub (pv 0) (pe_ix ix_list (pv 6) (pv 3) (fun _ _ => rfl)) set_list))
    (pss_cons (ps_expr (pe_bm PySem.F.plainAttrs_list PySem.F.slot_list_append PySem.F.type_list_append mt_append (pv 0) (pa_cons (pv 18) pa_nil)))
    (pss_one (ps_asg (pe_op op_cat (pe_op op_cat (pe_slice sl_list (pv 6) po_none (po_some (pe_op op_add (pv 3) pe_int))) (pe_lst (pa_cons (pv 19) pa_nil))) (pe_slice sl_list (pv 6) (po_some (pe_op op_add (pv 3) pe_int)) po_none)) (pg_sub (pv 1) (pv 2) set_list)))))))))))))))))))))), ?_⟩
    (rw [show start ["corners", "plates", "at", "k", "part", "keep", "plate", "tip", "ahead", "behind", "first", "second", "cosine", "sine", "ray", "third", "room", "near", "far", "many"] [.ref C, .ref Pl, .int ai, .int ki, .ref pt, .bl true] = [some (.ref C), some (.ref Pl), some (.int ai), some (.int ki), some (.ref pt), some (.bl true), none, none, none, none, none, none, none, none, none, none, none, none, none, none] from rfl]; try dsimp only [cxOf])
    have W := wd_start tr (.cons rC (.cons rP (.cons rp .nil)))
    walk_at "w"
    refine x_neg (by assumption) (by walk_at "in2") (.inl hai) (pls_at pa) (v_lst fun plate W1 => ?_)
    walk_at "w"
    refine x_neg (by assumption) (by walk_at "in2") (.inl hk) (ints_at k0) (v_int fun W2 => ?_)
    walk_at "w"
    refine x_neg (by assumption) (by walk_at "in2") (.inl rfl) p0 (v_tup fun tip W3 => ?_)
    walk_at "w"
    refine x_neg (by assumption) (by walk_at "in2") (j := if k = 0 then nums.length - 1 else k - 1) ?_ (ints_at k1) (v_int fun W4 => ?_)
    · rw [List.length_map, hk]
      have := (List.getElem?_eq_some_iff.mp k0).1
      split <;> omega
    walk_at "w"
    refine x_neg (by assumption) (by walk_at "in2") (.inl rfl) p1 (v_tup fun ahead W5 => ?_)
    walk_at "w"
    refine w_I (by have := (List.getElem?_eq_some_iff.mp k0).1; omega) ?_
    refine x_neg (by assumption) (by walk_at "in2") (j := (k + 1) % nums.length) (.inl (by rw [hk]; rfl)) (ints_at k2) (v_int fun W6 => ?_)
    refine x_neg (by assumption) (by walk_at "in2") (.inl rfl) p2 (v_tup fun behind W7 => ?_)
    obtain ⟨s1, s2, e1, e2, e3, e4, b1, b2, b3, b4, hco, c1, c2, hsi, c3, c4, si0, bco, bsi, b1co, ht, bt, bp, hs, bs, hr0, hr1, br0, br1, d1, d2, hth, bth, bl', bl, hlm, blm, hroom, broom, g1, g2, n1, n2, n3, n4⟩ := ok
    have q1 := qb_one
    walk_at "w"
    refine c_punit (by assumption) (Wd.get (by assumption) (by walk_at "in2")) (Wd.get (by assumption) (by walk_at "in2")) s1 fun H1 first W8 => ?_
    rw [e1, e2] at W8
    walk_at "w"
    refine c_punit (by assumption) (Wd.get (by assumption) (by walk_at "in2")) (Wd.get (by assumption) (by walk_at "in2")) s2 fun H2 second W9 => ?_
    rw [e3, e4] at W9
    walk_at "w"
    rename_i H3 P1 WA H4 P2 WB H5 P3 W10
    clear WA WB
    rw [hsi, hco, FQ_one] at W10
    walk_at "w"
    rename_i H6 P4 W11 H7 P5 W12
    clear W11
    rw [ht] at W12
    walk_at "w"
    rename_i H8 P6 W13
    rw [hs] at W13
    refine c_q1 (by assumption) (Wd.get (by assumption) (by walk_at "in2")) bs fun H9 P7 W14 => ?_
    rw [hr0, hr1] at W14
    walk_at "w"
    rename_i x1 WA H10 P8 WB x2 WC H11 P9 WD H12 P10 W15
    clear WA WB WC WD W14 W13 W12 W10
    rw [hth] at W15
    obtain ⟨o1, o2, o3, o4, o5, o6, o7, o8, o9, o10, o11, o12, o13⟩ := s1
    obtain ⟨_, _, u3, u4, u5, u6, u7, u8, u9, u10, u11, u12, u13⟩ := s2
    walk_at "w"
    refine c_psize (by assumption) (Wd.get (by assumption) .here) o5 o6 o7 o8 o9 (Rat.le_of_lt o12) o13 fun H13 P11 W16 => ?_
    walk_at "w"
    refine c_psize (by assumption) (Wd.get (by assumption) .here) u5 u6 u7 u8 u9 (Rat.le_of_lt u12) u13 fun H14 P12 W17 => ?_
    walk_at "w"
    rename_i H15 P13 WA H16 P14 W18
    clear WA W15 W16 W17
    refine ⟨sa, _, l', l, rfl, W18.tr, W18.get .here, bl', bl, fun H17 P15 S1 R1 => ?_⟩
    have W19 := (W18.go S1).put R1
    clear W18
    rw [hlm] at W19
    walk_at "w"
    rename_i H18 P16 W20
    clear W19
    rw [hroom] at W20
    walk_at "w"
    rename_i A1 B1 V1 A2 B2 V2 A3 near V3 x3 V4 A5 B5 V5 A6 B6 V6 HF far WF
    clear V1 V2 V3 V4 V5 V6 W20
    have S := WF.same rfl
    have rC2 := WF.get (v := .ref C) (by walk_at "in2")
    have rL2 := WF.get (v := .ref plate) (by walk_at "in2")
    have rP2 := WF.get (v := .ref Pl) (by walk_at "in2")
    have rn : Rp sa HF (.ref near) _ := WF.get (by walk_at "in2")
    have rf : Rp sa HF (.ref far) _ := WF.get .here
    clear WF
    cases rC2 with
    | @lst _ cs _ nC hC rCs =>
    cases rP2 with
    | @lst _ ps _ nP hP rPs =>
    have kl := (List.getElem?_eq_some_iff.mp k0).1
    have al := (List.getElem?_eq_some_iff.mp pa).1
    have lcs := rCs.lens
    have lps := rPs.lens
    rw [List.length_map] at lps
    have tup : tupOnlys pts = true := tupOnlys_all fun d h => by
      obtain ⟨u, v, rfl⟩ := pq d h
      rfl
    have niC : NoInts HF C := by
      cases pts with
      | nil => cases p0
      | cons d ds =>
        cases rCs with
        | @cons v vs _ _ h t => exact ⟨v, vs, hC, rp_first h fun i e => by
            obtain ⟨u, v, rfl⟩ := pq d List.mem_cons_self
            cases e⟩
    have niP : NoInts HF Pl := by
      cases pls with
      | nil => cases pa
      | cons d ds =>
        cases rPs with
        | @cons v vs _ _ h t => exact ⟨v, vs, hP, rp_first h fun i e => by cases e⟩
    have HL : ∀ {xs : List V} q o, q ≠ C → HF q = some o → (upd HF C (HO.lst xs)) q = some o := fun q o hn e => (upd_ne hn).trans e
    have neCP : C ≠ Pl := fun z => by
      cases pts with
      | nil => cases p0
      | cons d ds =>
        cases pls with
        | nil => cases pa
        | cons e es =>
          cases rCs with
          | cons h1 t1 =>
            cases rPs with
            | cons h2 t2 =>
              rw [z, hP] at hC
              injection hC with hC
              injection hC with hC
              injection hC with hC hC2
              subst hC
              obtain ⟨u, v, rfl⟩ := pq d List.mem_cons_self
              exact rp_tl h1 h2
    have nnum : nums ≠ [] := fun z => by rw [z] at kl; exact absurd kl (by simp)
    have neLC := row_ne niC rL2 nnum
    have neLP := row_ne niP rL2 nnum
    refine w_bm ?_
    walk_at "w"
    refine ⟨tyV_lst hC, ?_⟩
    walk_at "w"
    refine ap_lst hC (by omega) ?_
    walk_at "w"
    refine w_bm ?_
    walk_at "w"
    refine ⟨tyV_lst upd_same, ?_⟩
    walk_at "w"
    refine ap_lst upd_same (by rw [List.length_append]; simp; omega) ?_
    rw [upd_upd, List.append_assoc]
    walk_at "w"
    refine w_sl ?_
    walk_at "w"
    have tp2 : ∀ u v : Rat, tupOnly (PQ u v) = true := fun _ _ => rfl
    have rC3 := (rCs.app (.cons rn (.cons rf .nil))).stay (ys := cs ++ ([V.ref near] ++ [V.ref far])) hC (tups_app tup (by show (tupOnly _ && (tupOnly _ && true)) = true; rw [tp2, tp2]; rfl))
    have rL3 := row_stay (HL (xs := cs ++ ([V.ref near] ++ [V.ref far]))) rL2 neLC
    have rP3 := rows_stay niC (HL (xs := cs ++ ([V.ref near] ++ [V.ref far]))) nn rPs
    have hP3 := HL (xs := cs ++ ([V.ref near] ++ [V.ref far])) _ _ neCP.symm hP
    have hC3 : (upd HF C (HO.lst (cs ++ ([V.ref near] ++ [V.ref far])))) C = _ := upd_same
    have tr3 : ∃ o, (upd HF C (HO.lst (cs ++ ([V.ref near] ++ [V.ref far])))) sa = some o := by
      obtain ⟨o, e⟩ := tr
      exact ⟨o, HL _ _ nC.symm (S _ _ e)⟩
    have fr3 : ∀ q o, q ≠ C → H q = some o → (upd HF C (HO.lst (cs ++ ([V.ref near] ++ [V.ref far])))) q = some o := fun q o hn e => HL q o hn (S _ _ e)
    generalize upd HF C (HO.lst (cs ++ ([V.ref near] ++ [V.ref far]))) = HC at *
    clear HL hC hP rCs rPs rL2 rn rf S S1 R1 W8 W9 niC
    have W := wd_start tr3 (.cons rL3 .nil)
    refine w_npart ?_
    refine w_part ?_
    walk_at "w"
    refine sl_lo (by assumption) (by walk_at "in2") (k := k) (by omega) fun H21 q1 W21 => ?_
    walk_at "w"
    rename_i H22 q2 W22
    refine cat_le (by assumption) (by walk_at "in2") (by walk_at "in2") (by rw [List.length_take, List.length_map]; simp; omega) fun H23 q3 W23 => ?_
    walk_at "w"
    refine w_sl ?_
    walk_at "w"
    refine w_part ?_
    walk_at "w"
    refine w_npart ?_
    refine sl_hi (by assumption) (by walk_at "in2") (k := k + 1) (by omega) fun H24 q4 W24 => ?_
    refine cat_le (by assumption) (by walk_at "in2") (by walk_at "in2") (by rw [List.length_append, List.length_take, List.length_drop, List.length_map]; simp; omega) fun H25 q5 W25 => ?_
    walk_at "w"
    have S5 := W25.same rfl
    have r5 : Rp sa H25 (.ref q5) _ := W25.get .here
    have e5 : (List.take k (List.map (fun (n : Nat) => PyData.int (n : Int)) nums) ++ [PyData.int ↑pts.length, PyData.int (↑pts.length + 1)] ++ List.drop (k + 1) (List.map (fun (n : Nat) => PyData.int (n : Int)) nums)) = (nums.take k ++ [pts.length, pts.length + 1] ++ nums.drop (k + 1)).map (fun (n : Nat) => PyData.int (n : Int)) := by
      rw [List.map_append, List.map_append, List.map_take, List.map_drop]
      rfl
    rw [e5] at r5
    have plne : pls ≠ [] := fun z => by rw [z] at al; exact absurd al (by simp)
    have nn2 : ∀ q ∈ pls.set at' (nums.take k ++ [pts.length, pts.length + 1] ++ nums.drop (k + 1)), q ≠ [] := fun q hq => by
      rcases List.mem_or_eq_of_mem_set hq with h | h
      · exact nn q h
      · rw [h]; simp
    have plne2 : pls.set at' (nums.take k ++ [pts.length, pts.length + 1] ++ nums.drop (k + 1)) ≠ [] := fun z => by
      have := congrArg List.length z
      rw [List.length_set] at this
      exact plne (List.length_eq_zero_iff.mp this)
    have rows5 : Rps sa H25 (ps.set at' (.ref q5)) ((pls.set at' (nums.take k ++ [pts.length, pts.length + 1] ++ nums.drop (k + 1))).map IntsD) := by
      rw [List.map_set]
      exact Rps.set r5 at' (rP3.but S5.but)
    refine w_setL (S5 _ _ hP3) (ixN_lt hai (by omega)) ?_
    have fr5 : ∀ {xs : List V} q o, q ≠ Pl → H25 q = some o → (upd H25 Pl (HO.lst xs)) q = some o := fun q o hn e => (upd_ne hn).trans e
    have niP5 : NoInts H25 Pl := noInts_rows (S5 _ _ hP3) (rP3.but S5.but) plne
    have n25 : NoInts (upd H25 Pl (HO.lst (ps.set at' (.ref q5)))) Pl := noInts_rows upd_same rows5 plne2
    have q5ne : V.ref q5 ≠ .ref Pl := row_ne niP5 r5 (by simp)
    have rows6 := rows_stay n25 (H := upd H25 Pl (HO.lst (ps.set at' (.ref q5)))) (H' := upd H25 Pl (HO.lst (ps.set at' (.ref q5)))) (sa := sa) (fun q o _ e => e) nn2 (rows_set niP5 (fr5 (xs := ps.set at' (.ref q5))) nn2 rows5)
    have rL6 := row_stay (fr5 (xs := ps.set at' (.ref q5))) (rL3.same S5) neLP
    have rC6 := (rC3.but S5.but).stay (ys := ps.set at' (.ref q5)) (S5 _ _ hP3) (tups_app tup (by show (tupOnly _ && (tupOnly _ && true)) = true; rw [tp2, tp2]; rfl))
    have hC6 : (upd H25 Pl (HO.lst (ps.set at' (.ref q5)))) C = _ := (upd_ne neCP).trans (S5 _ _ hC3)
    have hP6 : (upd H25 Pl (HO.lst (ps.set at' (.ref q5)))) Pl = _ := upd_same
    have tr6 : ∃ o, (upd H25 Pl (HO.lst (ps.set at' (.ref q5)))) sa = some o := by
      obtain ⟨o, e⟩ := tr3
      exact ⟨o, fr5 _ _ nP.symm (S5 _ _ e)⟩
    have fr6 : ∀ q o, q ≠ C → q ≠ Pl → H q = some o → (upd H25 Pl (HO.lst (ps.set at' (.ref q5)))) q = some o := fun q o h1 h2 e => fr5 q o h2 (S5 _ _ (fr3 q o h1 e))
    generalize upd H25 Pl (HO.lst (ps.set at' (.ref q5))) = HP at *
    clear W W21 W22 W23 W24 W25 rows5 rP3 rL3 rC3
    have W := wd_start tr6 (.cons rL6 .nil)
    walk_at "w"
    refine w_bm ?_
    walk_at "w"
    refine ⟨tyV_lst hP6, ?_⟩
    walk_at "w"
    refine x_neg W .here (.inl hk) (ints_at k0) (v_int fun W26 => ?_)
    walk_at "w"
    rename_i H27 q6 W27
    have S7 := W27.same rfl
    refine ap_lst (S7 _ _ hP6) (by rw [List.length_set]; omega) ?_
    have r6 : Rp sa H27 (.ref q6) (IntsD [i0, pts.length + 1, pts.length]) := W27.get .here
    have rows7 := (rows6.but S7.but).app (.cons r6 .nil)
    have e7 : (pls.set at' (nums.take k ++ [pts.length, pts.length + 1] ++ nums.drop (k + 1))).map IntsD ++ [IntsD [i0, pts.length + 1, pts.length]] = (pls.set at' (nums.take k ++ [pts.length, pts.length + 1] ++ nums.drop (k + 1)) ++ [[i0, pts.length + 1, pts.length]]).map IntsD := by
      rw [List.map_append]
      rfl
    rw [e7] at rows7
    have niP7 : NoInts H27 Pl := noInts_rows (S7 _ _ hP6) (rows6.but S7.but) plne2
    refine hq _ (fun q o h1 h2 e => (upd_ne h2).trans (S7 _ _ (fr6 q o h1 h2 e))) (.lst nC ((upd_ne neCP).trans (S7 _ _ hC6)) ((rC6.but S7.but).stay (S7 _ _ hP6) (tups_app tup (by show (tupOnly _ && (tupOnly _ && true)) = true; rw [tp2, tp2]; rfl)))) (.lst nP upd_same (rows_stay niP7 (fun q o hn e => (upd_ne hn).trans e) (fun q hq => ?_) rows7))
    rcases List.mem_append.mp hq with h | h
    · exact nn2 q h
    · rw [List.mem_singleton.mp h]
      simp
end

/-! ### calls of the program at such points -/
theorem smp_sz {a b : Rat} (h : SmP a b) : SzP (PQ a b) := fun p q r s e => by
  obtain ⟨p', q', r', s', e1, f1, f2⟩ := h
  rw [e1] at e
  injection e with e
  injection e with e e2
  injection e2 with e2
  injection e with e
  injection e with e e3
  injection e3 with e3
  injection e with e
  injection e3 with e3
  injection e2 with e2
  injection e2 with e2 e4
  injection e4 with e4
  injection e2 with e2
  injection e4 with e4
  subst e e2 e3 e4
  exact ⟨f1.ba.mono (by decide), f1.bb.mono (by decide), f2.ba.mono (by decide), f2.bb.mono (by decide)⟩
theorem isF_FQ8 (q : Rat) : isF (FQ q) = true := isF_fr (low_q q)
theorem qb_sz {k : Nat} {q : Rat} (h : Qb k q) (hk : k ≤ 2000) : Sz (FQ q) := sz_fr (h.1.mono hk) (h.2.mono hk)
theorem f_plus_q (a b : Rat) : f_plus [FQ a, FQ b] = FQ (a + b) := add_q a b
section
variable {b : Bool} {sa C : Addr} {H0 H : Hp} {acc : List V} {dacc : List PyData} {Q : VK} {E : XK} {x y z : V} {p q r s u v l : Rat}
theorem c_len8 (W : Wd b sa H0 H acc dacc) (rx : Rp sa H x (PQ p q)) (ry : Rp sa H y (PQ r s)) (hx : SmP p q) (hy : SmP r s) (l0 : 0 ≤ l) (el : l * l = (r - p) * (r - p) + (s - q) * (s - q)) (h : ∀ H' t, Wd b sa H0 H' (.ref t :: acc) (FQ l :: dacc) → Q (.ref t) H') : sp_len C [x, y] H Q E := by
  refine call_X (ds := [PQ p q, PQ r s]) W (.cons rx (.cons ry .nil)) ⟨_, _, rfl, smp_sz hx, smp_sz hy⟩ (fun hb => ?_) fun _ H' => ?_
  · exfalso
    have : (!isP (PQ p q) || !isP (PQ r s)) = true := hb
    rw [isP_of_pq, isP_of_pq] at this
    cases this
  · rw [len_val hx hy l0 el]
    exact v_tup fun t W' => h H' t W'
theorem c_turn8 (W : Wd b sa H0 H acc dacc) (rx : Rp sa H x (PQ p q)) (ry : Rp sa H y (PQ r s)) (rz : Rp sa H z (PQ u v)) (hx : SmP p q) (hy : SmP r s) (hz : SmP u v) (h : ∀ H' (V : Int), (0 < orr p q r s u v ↔ 0 < V) → (orr p q r s u v = 0 ↔ V = 0) → Wd b sa H0 H' (.int (sgn V) :: acc) (.int (sgn V) :: dacc) → Q (.int (sgn V)) H') : sp_turn C [x, y, z] H Q E := by
  refine call_X (ds := [PQ p q, PQ r s, PQ u v]) W (.cons rx (.cons ry (.cons rz .nil))) ⟨_, _, _, rfl, smp_sz hx, smp_sz hy, smp_sz hz⟩ (fun hb => ?_) fun _ H' => ?_
  · exfalso
    have : (!isP (PQ p q) || !isP (PQ r s) || !isP (PQ u v)) = true := hb
    rw [isP_of_pq, isP_of_pq, isP_of_pq] at this
    cases this
  · obtain ⟨V, e, h1, h2⟩ := turn_val hx hy hz
    rw [e]
    exact v_int fun W' => h H' V h1 h2 W'
theorem c_add8 {k : Nat} (W : Wd b sa H0 H acc dacc) (rx : Rp sa H x (FQ p)) (ry : Rp sa H y (FQ q)) (hx : Qb k p) (hy : Qb k q) (hk : k ≤ 2000) (h : ∀ H' t, Wd b sa H0 H' (.ref t :: acc) (FQ (p + q) :: dacc) → Q (.ref t) H') : sp_frac_add C [x, y] H Q E := by
  refine call_X (ds := [FQ p, FQ q]) W (.cons rx (.cons ry .nil)) ⟨_, _, rfl, qb_sz hx hk, qb_sz hy hk⟩ (fun hb => ?_) fun _ H' => ?_
  · exfalso
    have : (!(isF (FQ p) && isF (FQ q))) = true := hb
    rw [isF_FQ8, isF_FQ8] at this
    cases this
  · rw [f_plus_q]
    exact v_tup fun t W' => h H' t W'
theorem c_isF8 {k : Nat} (W : Wd b sa H0 H acc dacc) (rx : Rp sa H x (FQ p)) (hx : Qb k p) (hk : k ≤ 2000) (h : ∀ H', Wd b sa H0 H' acc dacc → Q (.bl true) H') : sp_isF [x] H Q E := by
  refine c_isF W rx (qb_sz hx hk).fit fun H' W' => ?_
  rw [isF_FQ8]
  exact h H' W'
end
theorem eqv_fq (q : Rat) : PyData.eqv (FQ q) (FQ q) = true := by
  unfold FQ
  rw [eqv_pair]
  exact decide_eq_true ⟨rfl, rfl⟩
theorem qb17 {q : Rat} {D : Int} {d : Nat} (h : IsI q D) (hD : 0 < D) (bD : Bt d D) (h1 : q ≤ 65536) (h2 : -65536 ≤ q) : Qb (17 + d) q :=
  qb_of (V := 65536) h hD h1 h2 ((bt_lit (x := ((65536 : Nat) : Int)) 17 (by decide)).mul bD) (by decide)
/-- sums of lengths of sides are not too great -/
theorem qb_sum {q : Rat} {G : Int} {J : Nat} (h : IsI q G) (g0 : 0 < G) (gE : G ≤ (mE J : Int) * 32) (hJ : J ≤ 5) (h0 : 0 ≤ q) (h1 : q ≤ 65536) : Qb 1400 q := by
  have b : Bt 1295 G := bt_up g0 (n := mE J * 32) (by simpa using gE) (by
    have := mE_le hJ
    have e : (2 : Nat) ^ 1295 = 2 ^ 1290 * 32 := by decide +kernel
    omega)
  exact (qb17 h g0 b h1 (by grind)).mono (by decide)
theorem PzOk.lenI {G : Int} {p : Pz} (ok : PzOk G p) {i : Nat} (hi : i < p.n) : IsI (p.l i) G := by
  obtain ⟨z, _, e⟩ := ok.g
  rw [e]
  exact (ok.S.li i hi).up z
abbrev sp_round : Sp := fun vs H Q _ => ∃ (sa : Addr) (v : V) (xs : List PyData) (p : Pz) (G : Int) (J : Nat), vs = [v] ∧ (∃ o, H sa = some o) ∧ Rp sa H v (.list xs) ∧ Lst p xs ∧ PzOk G p ∧ (0 < G ∧ G ≤ (mE J : Int) * 32 ∧ J ≤ 5) ∧ p.n ≤ 8 ∧ ∀ H' x, Same H H' → Rp sa H' x (FQ p.per) → Q x H'
section
variable {P : Program} {w : World} {K : PySem.W.Frag} {mg : Str → Option Value} {base : Heap}
theorem ok_law_round {f C D : Addr} {fd : FuncData} (F : Fun K "_law_round" "_law_round" s_law_round f fd) (nb : Nb mg) (d_length_of : Df P w K mg base (L2.CX P w) 5 "length_of" ["one", "other"] (sp_len C)) (d_law_is_frac : Df P w K mg base CX0 2 "_law_is_frac" ["thing"] sp_isF) (d_frac_add : Df P w K mg base (L2.CX P w) 5 "frac_add" ["one", "other"] (sp_frac_add D)) : FnOk P w K mg base CX0 6 f fd ["points"] sp_round := by
  have sc := sc_law_round
  refine F.ok sc (fun vs H Q E h => ?_) (fun cdv A outer s H vs Q E hr h => ?_)
  · obtain ⟨sa, v, xs, p, G, J, rfl, _⟩ := h
    rfl
  · obtain ⟨sa, v, xs, p, G, J, rfl, t, r0, lst, ok, ⟨g0, gE, hJ⟩, n8, q⟩ := h
    obtain ⟨pp, rfl⟩ : ∃ q, v = .ref q := by cases r0; exact ⟨_, rfl⟩
    refine ⟨_, (pss_cons (ps_asg (pe_tup (pa_cons pe_int (pa_cons pe_int pa_nil))) (pg_name (i := 1) sc.nd rfl (.inl rfl)))
    (pss_cons (ps_for PassesOwn.never rfl (pi_range1 (by rfl) nb.range (pa_cons (pe_callB cq_len (by rfl) nb.len (by decide +kernel) (pa_cons (pv 0) pa_nil)) pa_nil)) (pg_name (i := 2) sc.nd rfl (.inl rfl)) (pss_cons (ps_asg (pe_call d_length_of.F (hr.mono (by decide)) (by rfl) d_length_of.g d_length_of.kp d_length_of.b .nil passL (pa_cons (pe_ix ix_list (pv 0) (pe_op op_sub (pv 2) pe_int) (fun _ _ => rfl)) (pa_cons (pe_ix ix_list (pv 0) (pv 2) (fun _ _ => rfl)) pa_nil))) (pg_name (i := 3) sc.nd rfl (.inl rfl)))
    (pss_cons (ps_if (pt_not (pt_val (pe_call d_law_is_frac.F (hr.mono (by decide)) (by rfl) d_law_is_frac.g d_law_is_frac.kp d_law_is_frac.b .nil pass0 (pa_cons (pv 3) pa_nil)))) (pss_one (ps_ret pe_non)) pss_nil)
    (pss_one (ps_asg (pe_call d_frac_add.F (hr.mono (by decide)) (by rfl) d_frac_add.g d_frac_add.kp d_frac_add.b .nil passL (pa_cons (pv 1) (pa_cons (pv 3) pa_nil))) (pg_name (i := 1) sc.nd rfl (.inl rfl)))))))
    (pss_one (ps_ret (pv 1))))), ?_⟩
    (rw [show start ["points", "total", "k", "side"] [.ref pp] = [some (.ref pp), none, none, none] from rfl]; try dsimp only [cxOf])
    have W := wd_start t (.cons r0 .nil)
    have ll := lst.len
    have n3 := ok.n3
    walk_at "w"
    rename_i H1 z0 W1
    rw [FQ_nil] at W1
    have el : ∀ i, i < p.n → 0 < p.l i ∧ p.l i ≤ 128 := fun i hi => ⟨ok.I.lp i hi, ok.B.l1 i hi⟩
    have sb : ∀ i, i ≤ p.n → Qb 1400 (sm i fun k => p.l (prv p.n k)) := fun i hi => by
      obtain ⟨h0, h1⟩ := sm_bd (l := fun k => p.l (prv p.n k)) (V := 128) (n := i) fun k hk => el _ (prv_lt (by omega))
      refine qb_sum (sm_isI fun k hk => ok.lenI (prv_lt (show k < p.n by omega))) g0 gE hJ h0 (Rat.le_trans h1 ?_)
      have : ((i : Nat) : Rat) ≤ ((8 : Nat) : Rat) := by exact_mod_cast (show i ≤ 8 by omega)
      have := Rat.mul_le_mul_of_nonneg_right this (show (0 : Rat) ≤ 128 by decide)
      exact Rat.le_trans this (by decide +kernel)
    refine lp_range (fun i σ' H' => ∃ tv o2 o3, σ' = [some (.ref pp), some (.ref tv), o2, o3] ∧ Wd false sa H H' [.ref tv, .ref pp] [FQ (sm i fun k => p.l (prv p.n k)), .list xs]) ⟨_, _, _, rfl, W1⟩ ?_ ?_
    · rintro i σ' H' hi ⟨tv, o2, o3, rfl, W2⟩
      have hi : i < p.n := by omega
      have hp := prv_lt hi
      clear W W1
      walk_at "w"
      refine x_neg W2 (.there .here) (j := prv p.n i) (by unfold prv; rw [ll]; split <;> omega) (lst.it _ hp) (v_tup fun a1 W3 => ?_)
      walk_at "w"
      refine x_neg W3 (by walk_at "in2") (j := i) (.inl (by omega)) (lst.it i hi) (v_tup fun a2 W4 => ?_)
      have ee := ok.len hp
      rw [nxt_prv hi] at ee
      refine c_len8 W4 (W4.get (.there .here)) (W4.get .here) (lst.sm _ hp) (lst.sm i hi) (Rat.le_of_lt (ok.I.lp _ hp)) ee fun H5 t5 W5 => ?_
      have ql : Qb 1400 (p.l (prv p.n i)) := qb_sum (ok.lenI hp) g0 gE hJ (Rat.le_of_lt (ok.I.lp _ hp)) (Rat.le_trans (ok.B.l1 _ hp) (by decide))
      clear W2 W3 W4
      walk_at "w"
      refine c_isF8 W5 (W5.get .here) ql (by decide) fun H6 W6 => ?_
      walk_at "w"
      refine c_add8 W6 (W6.get (by walk_at "in2")) (W6.get .here) (sb i (by omega)) ql (by decide) fun H7 t7 W7 => ?_
      walk_at "w"
      exact ⟨_, _, _, rfl, W7.sub (.cons (W7.get .here) (.cons (W7.get (v := .ref pp) (by walk_at "in2")) .nil))⟩
    · rintro σ' H' ⟨tv, o2, o3, rfl, W2⟩
      walk_at "w"
      rw [Int.toNat_natCast, ll] at W2
      have e : sm p.n (fun k => p.l (prv p.n k)) = p.per := sm_prv (by omega)
      rw [e] at W2
      exact q _ _ (W2.same rfl) (W2.get .here)
abbrev sp_parts : Sp := fun vs H Q _ => ∃ (sa : Addr) (x y z : V) (p q r s u v a b : Rat), vs = [x, y, z] ∧ (∃ o, H sa = some o) ∧ (Rp sa H x (PQ p q) ∧ Rp sa H y (PQ r s) ∧ Rp sa H z (PQ u v)) ∧ (SmP p q ∧ SmP r s ∧ SmP u v) ∧ orr p q r s u v = 0 ∧ (0 ≤ a ∧ 0 ≤ b ∧ Qb 1400 a ∧ Qb 1400 b) ∧
  (a * a = (r - p) * (r - p) + (s - q) * (s - q) ∧ b * b = (u - r) * (u - r) + (v - s) * (v - s) ∧ (a + b) * (a + b) = (u - p) * (u - p) + (v - q) * (v - q)) ∧ ∀ H', Same H H' → Q (.bl true) H'
theorem ok_law_parts_side {f C C2 D : Addr} {fd : FuncData} (F : Fun K "_law_parts_side" "_law_parts_side" s_law_parts_side f fd) (nb : Nb mg) (d_turn_of : Df P w K mg base (L2.CX P w) 5 "turn_of" ["one", "other", "third"] (sp_turn C2)) (d_length_of : Df P w K mg base (L2.CX P w) 5 "length_of" ["one", "other"] (sp_len C)) (d_law_is_frac : Df P w K mg base CX0 2 "_law_is_frac" ["thing"] sp_isF) (d_frac_add : Df P w K mg base (L2.CX P w) 5 "frac_add" ["one", "other"] (sp_frac_add D)) : FnOk P w K mg base CX0 6 f fd ["begin", "middle", "end"] sp_parts := by
  have sc := sc_law_parts_side
  refine F.ok sc (fun vs H Q E h => ?_) (fun cdv A outer s H vs Q E hr h => ?_)
  · obtain ⟨sa, x, y, z, _, _, _, _, _, _, _, _, rfl, _⟩ := h
    rfl
  · obtain ⟨sa, x, y, z, p, q, r, s, u, v, a, b, rfl, t, ⟨r0, r1, r2⟩, ⟨m0, m1, m2⟩, o0, ⟨a0, b0, ba, bb⟩, ⟨e1, e2, e3⟩, hq⟩ := h
    refine ⟨_, (pss_cons (ps_if (pt_cmpR op_ne (pe_call d_turn_of.F (hr.mono (by decide)) (by rfl) d_turn_of.g d_turn_of.kp d_turn_of.b .nil passL (pa_cons (pv 0) (pa_cons (pv 1) (pa_cons (pv 2) pa_nil)))) pe_int (nomark _)) (pss_one (ps_ret pe_bl)) pss_nil)
    (pss_cons (ps_asg (pe_call d_length_of.F (hr.mono (by decide)) (by rfl) d_length_of.g d_length_of.kp d_length_of.b .nil passL (pa_cons (pv 0) (pa_cons (pv 1) pa_nil))) (pg_name (i := 3) sc.nd rfl (.inl rfl)))
    (pss_cons (ps_asg (pe_call d_length_of.F (hr.mono (by decide)) (by rfl) d_length_of.g d_length_of.kp d_length_of.b .nil passL (pa_cons (pv 1) (pa_cons (pv 2) pa_nil))) (pg_name (i := 4) sc.nd rfl (.inl rfl)))
    (pss_cons (ps_if (PW.pt (pw_or (pt_not (pt_val (pe_call d_law_is_frac.F (hr.mono (by decide)) (by rfl) d_law_is_frac.g d_law_is_frac.kp d_law_is_frac.b .nil pass0 (pa_cons (pv 3) pa_nil)))) (pw_or1 (pt_not (pt_val (pe_call d_law_is_frac.F (hr.mono (by decide)) (by rfl) d_law_is_frac.g d_law_is_frac.kp d_law_is_frac.b .nil pass0 (pa_cons (pv 4) pa_nil))))))) (pss_one (ps_ret pe_bl)) pss_nil)
    (pss_one (ps_ret (pe_cmpR (op_eqD hr.units) (pe_call d_frac_add.F (hr.mono (by decide)) (by rfl) d_frac_add.g d_frac_add.kp d_frac_add.b .nil passL (pa_cons (pv 3) (pa_cons (pv 4) pa_nil))) (pe_call d_length_of.F (hr.mono (by decide)) (by rfl) d_length_of.g d_length_of.kp d_length_of.b .nil passL (pa_cons (pv 0) (pa_cons (pv 2) pa_nil))) (nomark _)))))))), ?_⟩
    (rw [show start ["begin", "middle", "end", "one", "other"] [x, y, z] = [some (x), some (y), some (z), none, none] from rfl]; try dsimp only [cxOf])
    have W := wd_start t (.cons r0 (.cons r1 (.cons r2 .nil)))
    walk_at "w"
    refine c_turn8 W r0 r1 r2 m0 m1 m2 fun H1 V _ h0 W1 => ?_
    obtain rfl : V = 0 := h0.mp o0
    walk_at "w"
    rw [show eqB (sgn 0) 0 = true from eqT rfl]
    walk_at "w"
    refine c_len8 W1 (W1.get (.there .here)) (W1.get (.there (.there .here))) m0 m1 a0 e1 fun H2 t1 W2 => ?_
    walk_at "w"
    refine c_len8 W2 (W2.get (.there (.there (.there .here)))) (W2.get (.there (.there (.there (.there .here))))) m1 m2 b0 e2 fun H3 t2 W3 => ?_
    walk_at "w"
    refine c_isF8 W3 (W3.get (.there .here)) ba (by decide) fun H4 W4 => ?_
    walk_at "w"
    refine c_isF8 W4 (W4.get .here) bb (by decide) fun H5 W5 => ?_
    walk_at "w"
    refine c_add8 W5 (W5.get (.there .here)) (W5.get .here) ba bb (by decide) fun H6 t3 W6 => ?_
    walk_at "w"
    refine c_len8 W6 (W6.get (v := x) (by walk_at "in2")) (W6.get (v := z) (by walk_at "in2")) m0 m2 (by grind) e3 fun H7 t4 W7 => ?_
    walk_at "w"
    refine ⟨FQ (a + b), FQ (a + b), (W7.get (.there .here)).dp rfl, (W7.get .here).dp rfl, rfl, rfl, ?_⟩
    rw [eqv_fq]
    exact hq _ (W7.same rfl)
end

/-! ### lists of lists: comprehensions, and what stays where two lists change -/
mutual
theorem Rp.fr {sa X Y : Addr} {H H' : Hp} (fr : ∀ q o, q ≠ X → q ≠ Y → H q = some o → H' q = some o) (hX : ∃ xs, H X = some (.lst xs)) (hY : ∃ xs, H Y = some (.lst xs)) : ∀ {v : V} {d : PyData}, Rp sa H v d → tupOnly d = true → Rp sa H' v d
  | _, _, .non, _ => .non
  | _, _, .bl b, _ => .bl b
  | _, _, .int i, _ => .int i
  | _, _, .str x, _ => .str x
  | _, _, .lst _ _ _, e => nomatch e
  | _, _, .tup n h r, e => .tup n (fr _ _ (fun z => by
      obtain ⟨xs, hx⟩ := hX
      rw [z, hx] at h
      cases h) (fun z => by
      obtain ⟨xs, hx⟩ := hY
      rw [z, hx] at h
      cases h) h) (Rps.fr fr hX hY r e)
  | _, _, .dct _ _ _, e => nomatch e
theorem Rps.fr {sa X Y : Addr} {H H' : Hp} (fr : ∀ q o, q ≠ X → q ≠ Y → H q = some o → H' q = some o) (hX : ∃ xs, H X = some (.lst xs)) (hY : ∃ xs, H Y = some (.lst xs)) : ∀ {vs : List V} {ds : List PyData}, Rps sa H vs ds → tupOnlys ds = true → Rps sa H' vs ds
  | _, _, .nil, _ => .nil
  | _, _, .cons h t, e => .cons (Rp.fr fr hX hY h (by
      unfold tupOnlys at e
      exact (Bool.and_eq_true _ _ ▸ e).1)) (Rps.fr fr hX hY t (by
      unfold tupOnlys at e
      exact (Bool.and_eq_true _ _ ▸ e).2))
end
/-- a row that a comprehension has made: a list of its own -/
def RowV (sa : Addr) (H : Hp) (D : Addr) (y : V) (dy : PyData) : Prop := ∃ q zs es, y = .ref q ∧ dy = .list es ∧ q ≠ D ∧ q ≠ sa ∧ H q = some (.lst zs) ∧ Rps sa H zs es ∧ tupOnlys es = true
inductive RowsV (sa : Addr) (H : Hp) (D : Addr) : List V → List PyData → Prop
  | nil : RowsV sa H D [] []
  | cons {y : V} {ys : List V} {d : PyData} {ds : List PyData} (h : RowV sa H D y d) (t : RowsV sa H D ys ds) : RowsV sa H D (y :: ys) (d :: ds)
theorem RowV.same {sa D : Addr} {H H' : Hp} {y : V} {d : PyData} (h : RowV sa H D y d) (s : Same H H') : RowV sa H' D y d := by
  obtain ⟨q, zs, es, rfl, rfl, n1, n2, hq, r, t⟩ := h
  exact ⟨q, zs, es, rfl, rfl, n1, n2, s _ _ hq, r.but s.but, t⟩
theorem RowsV.same {sa D : Addr} {H H' : Hp} (s : Same H H') : ∀ {ys : List V} {ds : List PyData}, RowsV sa H D ys ds → RowsV sa H' D ys ds
  | _, _, .nil => .nil
  | _, _, .cons h t => .cons (h.same s) (RowsV.same s t)
theorem RowV.upd {sa D : Addr} {H : Hp} {xs ws : List V} {y : V} {d : PyData} (hD : H D = some (.lst xs)) (h : RowV sa H D y d) : RowV sa (upd H D (.lst ws)) D y d := by
  obtain ⟨q, zs, es, rfl, rfl, n1, n2, hq, r, t⟩ := h
  exact ⟨q, zs, es, rfl, rfl, n1, n2, (upd_ne n1).trans hq, r.stay hD t, t⟩
theorem RowsV.upd {sa D : Addr} {H : Hp} {xs ws : List V} (hD : H D = some (.lst xs)) : ∀ {ys : List V} {ds : List PyData}, RowsV sa H D ys ds → RowsV sa (upd H D (.lst ws)) D ys ds
  | _, _, .nil => .nil
  | _, _, .cons h t => .cons (h.upd hD) (RowsV.upd hD t)
theorem RowsV.app {sa D : Addr} {H : Hp} {y : V} {d : PyData} (hy : RowV sa H D y d) : ∀ {ys : List V} {ds : List PyData}, RowsV sa H D ys ds → RowsV sa H D (ys ++ [y]) (ds ++ [d])
  | _, _, .nil => .cons hy .nil
  | _, _, .cons h t => .cons h (RowsV.app hy t)
theorem RowsV.rps {sa D : Addr} {H : Hp} : ∀ {ys : List V} {ds : List PyData}, RowsV sa H D ys ds → Rps sa H ys ds
  | _, _, .nil => .nil
  | _, _, .cons h t => .cons (by
      obtain ⟨q, zs, es, rfl, rfl, n1, n2, hq, r, t⟩ := h
      exact .lst n2 hq r) (RowsV.rps t)
def LcR (sa : Addr) (H : Hp) (D : Addr) (R : Nat → PyData → Prop) (i : Nat) (H' : Hp) : Prop := Same H H' ∧ ∃ ys es, H' D = some (.lst ys) ∧ RowsV sa H' D ys es ∧ es.length = i ∧ ∀ (k : Nat) (d : PyData), es[k]? = some d → R k d
section
variable {b : Bool} {sa : Addr} {H0 H : Hp} {acc : List V} {dacc : List PyData} {Q : VK} {K : PySem.W.Frag} {j : Nat} {te : TE} {vs : List Nat} {σ : L2.St}
theorem lcp_rows {p : Addr} {ds : List PyData} (W : Wd b sa H0 H acc dacc) (m : In2 (.ref p) (.list ds) acc dacc) (hl : ds.length ≤ 1000) (R : Nat → PyData → Prop) (hw : ∀ x, wipe ((wipe σ vs).set j (some x)) vs = wipe σ vs)
    (step : ∀ (i : Nat) x d H' Q', ds[i]? = some d → Wd false sa H' H' (x :: acc) (d :: dacc) → (∀ q H4 es, H' q = none → Same H' H4 → Rp sa H4 (.ref q) (.list es) → tupOnlys es = true → R i (.list es) → Q' (.ref q) H4) → te ((wipe σ vs).set j (some x)) H' Q')
    (done : ∀ H' D es, H D = none → Wd b sa H0 H' (.ref D :: acc) (.list es :: dacc) → es.length = ds.length → (∀ (k : Nat) (d : PyData), es[k]? = some d → R k d) → Q (.ref D) H') : tLc (fun _ H' R => R (Itl K p) H') (gName j) tYes te vs σ H Q := by
  cases W.get m with
  | @lst _ xs _ n hx r =>
  intro D nD
  have ll := r.lens
  refine lc_list (xs := xs) (LcR sa H D R) ⟨same_new nD, [], [], upd_same, .nil, rfl, fun k d e => by simp at e⟩ (fun i H' hi hP => SqL.of (hP.1 _ _ hx)) (fun i x H' hi hP => ?_) (fun H' hP => ?_)
  · obtain ⟨s, ys, es, h1, r2, h3, h4⟩ := hP
    have hi2 : i < ds.length := by
      rw [← ll]
      exact (List.getElem?_eq_some_iff.mp hi).1
    obtain ⟨v, e1, r1⟩ := rps_at r (List.getElem?_eq_getElem hi2)
    rw [hi] at e1
    injection e1 with e1
    subst e1
    refine ⟨hw x, lcYes ?_⟩
    refine step i x _ H' _ (List.getElem?_eq_getElem hi2) ⟨But.refl _ _, fun _ => Same.refl _, fun e => (nomatch e), (let ⟨o, e⟩ := W.tr; ⟨o, s _ _ e⟩), .cons (r1.same s) (W.r.but s.but)⟩ fun q H4 es' nq s4 ry ht hy => ?_
    have e4 := s4 _ _ h1
    have nqD : q ≠ D := fun z => by rw [z, h1] at nq; cases nq
    have rv : RowV sa H4 D (.ref q) (.list es') := by
      cases ry with
      | lst n h r => exact ⟨q, _, es', rfl, rfl, nqD, n, h, r, ht⟩
    have lys : ys.length = es.length := r2.rps.lens
    refine ⟨ys, e4, by rw [lys, h3]; exact small1000 (by omega), same_updN (s.trans s4) nD, ys ++ [.ref q], es ++ [.list es'], upd_same, ((r2.same s4).upd e4).app (rv.upd e4), by rw [List.length_append, h3]; rfl, fun k d e => ?_⟩
    rcases Nat.lt_trichotomy k es.length with z | z | z
    · rw [List.getElem?_append_left z] at e
      exact h4 k d e
    · rw [z, List.getElem?_append_right (Nat.le_refl _), Nat.sub_self] at e
      injection e with e
      subst e
      rw [z, h3]
      exact hy
    · rw [List.getElem?_eq_none (by rw [List.length_append]; simp; omega)] at e
      cases e
  · rw [ll] at hP
    obtain ⟨s, ys, es, h1, r, hl, ha⟩ := hP
    exact done H' D es nD ((W.go s).put (.lst (W.ne nD) h1 r.rps)) hl ha
/-- a comprehension over a list, the new list known to be new -/
theorem lcp_new {p : Addr} {ds : List PyData} (W : Wd b sa H0 H acc dacc) (m : In2 (.ref p) (.list ds) acc dacc) (hl : ds.length ≤ 1000) (R : Nat → PyData → Prop) (hR : ∀ i d, R i d → tupOnly d = true) (hw : ∀ x, wipe ((wipe σ vs).set j (some x)) vs = wipe σ vs)
    (step : ∀ (i : Nat) x d H' Q', ds[i]? = some d → Wd false sa H' H' (x :: acc) (d :: dacc) → (∀ y H4 dy, Same H' H4 → Rp sa H4 y dy → R i dy → Q' y H4) → te ((wipe σ vs).set j (some x)) H' Q')
    (done : ∀ H' D es, H D = none → Wd b sa H0 H' (.ref D :: acc) (.list es :: dacc) → es.length = ds.length → (∀ (k : Nat) (d : PyData), es[k]? = some d → R k d) → Q (.ref D) H') : tLc (fun _ H' R => R (Itl K p) H') (gName j) tYes te vs σ H Q := by
  cases W.get m with
  | @lst _ xs _ n hx r =>
  intro D nD
  have ll := r.lens
  refine lc_list (xs := xs) (LcP sa H D R) (lcP0 nD) (fun i H' hi hP => SqL.of (hP.1 _ _ hx)) (fun i x H' hi hP => ?_) (fun H' hP => ?_)
  · obtain ⟨s, ys, es, h1, r2, h3, h4⟩ := hP
    have hi2 : i < ds.length := by
      rw [← ll]
      exact (List.getElem?_eq_some_iff.mp hi).1
    obtain ⟨v, e1, r1⟩ := rps_at r (List.getElem?_eq_getElem hi2)
    rw [hi] at e1
    injection e1 with e1
    subst e1
    refine ⟨hw x, lcYes ?_⟩
    refine step i x _ H' _ (List.getElem?_eq_getElem hi2) ⟨But.refl _ _, fun _ => Same.refl _, fun e => (nomatch e), (let ⟨o, e⟩ := W.tr; ⟨o, s _ _ e⟩), .cons (r1.same s) (W.r.but s.but)⟩ fun y H4 dy s4 ry hy => ?_
    have e4 := s4 _ _ h1
    exact ⟨ys, e4, by rw [r2.lens, h3]; exact small1000 (by omega), lcPS hR nD (s.trans s4) e4 (r2.but s4.but) h3 h4 ry hy⟩
  · rw [ll] at hP
    obtain ⟨s, ys, es, h1, r, hl, ha⟩ := hP
    exact done H' D es nD ((W.go s).put (.lst (W.ne nD) h1 r)) hl ha
end

/-! ### a corner is cut off and kept: what is asked of it -/
structure CutAll (G m : Int) (p : Pz) (k : Nat) (x' y' x y l' l t s r0 r1 co si th lm room r u v : Rat) (W E F : Int) : Prop where
  ok : CutOk (p.c k) (p.d k) (p.c (prv p.n k)) (p.d (prv p.n k)) (p.c (nxt p.n k)) (p.d (nxt p.n k)) x' y' x y l' l t ((m : Rat) / 5) s r0 r1 co si th lm room
  n1 : p.c k + -x' * (room * th) = p.N1 k s room
  n2 : p.d k + -y' * (room * th) = p.N2 k s room
  f1 : p.c k + x * (room * r1) = p.F1 k s room
  f2 : p.d k + y * (room * r1) = p.F2 k s room
  R : CutR p k u v s r room
  F0 : 0 < F
  F1 : F ≤ 410 * ((mM p.j : Int) * mM p.j) * ((mM p.j : Int) * mM p.j)
  o1 : PzOk (G * F) (p.rest k s r room W E)
  o2 : PzOk (G * F) (p.tip k s r room W E)
structure PlIn (p : Pz) (pts : List PyData) (pls : List (List Nat)) (nums : List Nat) (at' k i0 : Nat) : Prop where
  len : nums.length = p.n
  kn : k < p.n
  pa : pls[at']? = some nums
  i0 : nums[k]? = some i0
  it : ∀ i, i < p.n → ∃ z, nums[i]? = some z ∧ pts[z]? = some (PQ (p.c i) (p.d i))
  pq : ∀ z ∈ pts, ∃ u v, z = PQ u v
  nn : ∀ q ∈ pls, q ≠ []
  n10 : p.n ≤ 10
  p20 : pts.length ≤ 20
  l20 : pls.length ≤ 20
def newPls (pls : List (List Nat)) (at' k : Nat) (nums : List Nat) (i0 m : Nat) : List (List Nat) := pls.set at' (nums.take k ++ [m, m + 1] ++ nums.drop (k + 1)) ++ [[i0, m + 1, m]]
theorem PlIn.tip {p : Pz} {pts : List PyData} {pls : List (List Nat)} {nums : List Nat} {at' k i0 : Nat} (I : PlIn p pts pls nums at' k i0) : pts[i0]? = some (PQ (p.c k) (p.d k)) := by
  obtain ⟨z, h1, h2⟩ := I.it k I.kn
  rw [I.i0] at h1
  injection h1 with h1
  rw [h1]
  exact h2
theorem c_cut2 {sa C Pl : Addr} {H : Hp} {Q : VK} {E0' : XK} {pts : List PyData} {pls : List (List Nat)} {nums : List Nat} {at' k i0 : Nat} {p : Pz} {pt : V} {G m ki ai : Int} {x' y' x y l' l t s r0 r1 co si th lm room r u v : Rat} {W E F : Int} (tr : ∃ o, H sa = some o) (rC : Rp sa H (.ref C) (.list pts)) (rP : Rp sa H (.ref Pl) (PlsD pls)) (rp : Rp sa H pt (FQ ((m : Rat) / 5))) (ea : ai = (at' : Int)) (ek : ki = (k : Int))
    (I : PlIn p pts pls nums at' k i0) (A : CutAll G m p k x' y' x y l' l t s r0 r1 co si th lm room r u v W E F)
    (h : ∀ H', (∀ q o, q ≠ C → q ≠ Pl → H q = some o → H' q = some o) → Rp sa H' (.ref C) (.list (pts ++ [PQ (p.N1 k s room) (p.N2 k s room), PQ (p.F1 k s room) (p.F2 k s room)])) → Rp sa H' (.ref Pl) (PlsD (newPls pls at' k nums i0 pts.length)) → Q .non H') :
    sp_cut2 [.ref C, .ref Pl, .int ai, .int ki, pt, .bl true] H Q E0' := by
  subst ea ek
  obtain ⟨i1, h1, p1⟩ := I.it (prv p.n k) (prv_lt I.kn)
  obtain ⟨i2, h2, p2⟩ := I.it (nxt p.n k) (nxt_lt I.kn)
  refine ⟨sa, C, Pl, at', k, pt, pts, pls, nums, i0, i1, i2, _, _, _, _, _, _, x', y', x, y, l', l, t, _, s, r0, r1, co, si, th, lm, room, rfl, tr, rC, rP, rp, ⟨by rw [I.len]; exact I.n10, I.p20, I.l20, I.pq, I.nn⟩, ⟨I.pa, I.i0, ?_, ?_⟩, ⟨I.tip, p1, p2⟩, A.ok, fun H' fr r1 r2 => ?_⟩
  · rw [I.len]
    exact h1
  · rw [I.len, nxt_mod I.kn]
    exact h2
  · rw [A.n1, A.n2, A.f1, A.f2] at r1
    exact h H' fr r1 r2
/-- what the law looks at -/
structure CutSee (p : Pz) (k : Nat) (s room : Rat) (a b a2 b2 : Rat) : Prop where
  o1 : orr (p.c (prv p.n k)) (p.d (prv p.n k)) (p.N1 k s room) (p.N2 k s room) (p.c k) (p.d k) = 0
  o2 : orr (p.c k) (p.d k) (p.F1 k s room) (p.F2 k s room) (p.c (nxt p.n k)) (p.d (nxt p.n k)) = 0
  h1 : 0 ≤ a ∧ 0 ≤ b ∧ Qb 1400 a ∧ Qb 1400 b
  h2 : 0 ≤ a2 ∧ 0 ≤ b2 ∧ Qb 1400 a2 ∧ Qb 1400 b2
  e1 : a * a = (p.N1 k s room - p.c (prv p.n k)) * (p.N1 k s room - p.c (prv p.n k)) + (p.N2 k s room - p.d (prv p.n k)) * (p.N2 k s room - p.d (prv p.n k))
  e2 : b * b = (p.c k - p.N1 k s room) * (p.c k - p.N1 k s room) + (p.d k - p.N2 k s room) * (p.d k - p.N2 k s room)
  e3 : (a + b) * (a + b) = (p.c k - p.c (prv p.n k)) * (p.c k - p.c (prv p.n k)) + (p.d k - p.d (prv p.n k)) * (p.d k - p.d (prv p.n k))
  g1 : a2 * a2 = (p.F1 k s room - p.c k) * (p.F1 k s room - p.c k) + (p.F2 k s room - p.d k) * (p.F2 k s room - p.d k)
  g2 : b2 * b2 = (p.c (nxt p.n k) - p.F1 k s room) * (p.c (nxt p.n k) - p.F1 k s room) + (p.d (nxt p.n k) - p.F2 k s room) * (p.d (nxt p.n k) - p.F2 k s room)
  g3 : (a2 + b2) * (a2 + b2) = (p.c (nxt p.n k) - p.c k) * (p.c (nxt p.n k) - p.c k) + (p.d (nxt p.n k) - p.d k) * (p.d (nxt p.n k) - p.d k)
  s0 : 0 ≤ p.sd k room
  sq : p.sd k room * p.sd k room = (p.F1 k s room - p.N1 k s room) * (p.F1 k s room - p.N1 k s room) + (p.F2 k s room - p.N2 k s room) * (p.F2 k s room - p.N2 k s room)
  sb : Qb 1400 (p.sd k room)
theorem cut_see {G' G m : Int} {J : Nat} {p : Pz} {k : Nat} {x' y' x y l' l t s r0 r1 co si th lm room r u v : Rat} {W E F : Int} (ok : PzOk G p) (hk : k < p.n) (A : CutAll G m p k x' y' x y l' l t s r0 r1 co si th lm room r u v W E F) (g0 : 0 < G * F) (gE : G * F ≤ (mE J : Int) * 32) (hJ : J ≤ 5) : ∃ a b a2 b2, CutSee p k s room a b a2 b2 := by
  have hp := prv_lt hk
  have hk1 : k < p.n + 1 := by omega
  have R := A.R
  have ex := ok.I.ex (prv p.n k) hp
  have ey := ok.I.ey (prv p.n k) hp
  rw [nxt_prv hk] at ex ey
  have fx := ok.I.ex k hk
  have fy := ok.I.ey k hk
  have u1 := ok.I.unit (prv p.n k) hp
  have u2 := ok.I.unit k hk
  have qb : ∀ {q : Rat} {w : Pz} {i : Nat}, PzOk (G * F) w → i < w.n → w.l i = q → 0 ≤ q ∧ Qb 1400 q := fun {q w i} ow hi e => by
    rw [← e]
    exact ⟨Rat.le_of_lt (ow.I.lp i hi), qb_sum (ow.lenI hi) g0 gE hJ (Rat.le_of_lt (ow.I.lp i hi)) (Rat.le_trans (ow.B.l1 i hi) (by decide))⟩
  have q1 := qb (q := p.l (prv p.n k) - room * third s (p.t k)) A.o1 (prv_lt hk1) insL_p
  have q2 := qb (q := room * third s (p.t k)) A.o2 (show 2 < 3 by decide) rfl
  have q3 := qb (q := room * (2 * s / (1 + s * s))) A.o2 (show 0 < 3 by decide) rfl
  have q4 := qb (q := p.l k - room * (2 * s / (1 + s * s))) A.o1 (show k + 1 < p.n + 1 by omega) (insL_k1 hk ok.n3)
  have q5 := qb (q := p.sd k room) A.o2 (show 1 < 3 by decide) rfl
  have sl := A.o2.len (i := 1) (show 1 < 3 by decide)
  have sl : p.sd k room * p.sd k room = (p.N1 k s room - p.F1 k s room) * (p.N1 k s room - p.F1 k s room) + (p.N2 k s room - p.F2 k s room) * (p.N2 k s room - p.F2 k s room) := sl
  refine ⟨_, _, _, _, ?_, ?_, ⟨q1.1, q2.1, q1.2, q2.2⟩, ⟨q3.1, q4.1, q3.2, q4.2⟩, ?_, ?_, ?_, ?_, ?_, ?_, q5.1, ?_, q5.2⟩
  · rw [R.e1, R.e2]
    unfold orr
    clear ex ey fx fy u1 u2 sl
    grind
  · rw [R.f1, R.f2]
    unfold orr
    clear ex ey fx fy u1 u2 sl
    grind
  · unfold Pz.N1 Pz.N2
    clear qb q1 q2 q3 q4 q5 sl fx fy u2
    generalize room * third s (p.t k) = U at *
    grind
  · unfold Pz.N1 Pz.N2
    clear qb q1 q2 q3 q4 q5 sl fx fy u2
    generalize room * third s (p.t k) = U at *
    grind
  · clear qb q1 q2 q3 q4 q5 sl fx fy u2
    generalize room * third s (p.t k) = U at *
    grind
  · unfold Pz.F1 Pz.F2
    clear qb q1 q2 q3 q4 q5 sl ex ey u1
    generalize room * (2 * s / (1 + s * s)) = U at *
    grind
  · unfold Pz.F1 Pz.F2
    clear qb q1 q2 q3 q4 q5 sl ex ey u1
    generalize room * (2 * s / (1 + s * s)) = U at *
    grind
  · clear qb q1 q2 q3 q4 q5 sl ex ey u1
    generalize room * (2 * s / (1 + s * s)) = U at *
    grind
  · rw [sl]
    clear ex ey fx fy u1 u2 sl
    grind
abbrev sp_well : Sp := fun vs H Q _ => ∃ (sa C Pl : Addr) (at' k : Nat) (pt : V) (pts : List PyData) (pls : List (List Nat)) (nums : List Nat) (i0 : Nat) (p : Pz) (G m : Int) (x' y' x y l' l t s r0 r1 co si th lm room r u v : Rat) (W E F : Int) (a b a2 b2 : Rat), vs = [.ref C, .ref Pl, .int (at' : Int), .int (k : Int), pt] ∧ (∃ o, H sa = some o) ∧ Rp sa H (.ref C) (.list pts) ∧ Rp sa H (.ref Pl) (PlsD pls) ∧ Rp sa H pt (FQ ((m : Rat) / 5)) ∧
  PlIn p pts pls nums at' k i0 ∧ CutAll G m p k x' y' x y l' l t s r0 r1 co si th lm room r u v W E F ∧ CutSee p k s room a b a2 b2 ∧ (SmP (p.c (prv p.n k)) (p.d (prv p.n k)) ∧ SmP (p.c k) (p.d k) ∧ SmP (p.c (nxt p.n k)) (p.d (nxt p.n k)) ∧ SmP (p.N1 k s room) (p.N2 k s room) ∧ SmP (p.F1 k s room) (p.F2 k s room)) ∧
  ∀ H' z, (∀ q o, q ≠ C → q ≠ Pl → H q = some o → H' q = some o) → Rp sa H' (.ref C) (.list (pts ++ [PQ (p.N1 k s room) (p.N2 k s room), PQ (p.F1 k s room) (p.F2 k s room)])) → Rp sa H' (.ref Pl) (PlsD (newPls pls at' k nums i0 pts.length)) → Rp sa H' z (FQ (p.sd k room)) → Q z H'

/-! ### the def that cuts and looks -/
section
variable {P : Program} {w : World} {K : PySem.W.Frag} {mg : Str → Option Value} {base : Heap}
theorem ok_law_cut_well {f C1 : Addr} {fd : FuncData} (F : Fun K "_law_cut_well" "_law_cut_well" s_law_cut_well f fd) (nb : Nb mg) (d_law_cut2 : Df P w K mg base CX0 6 "_law_cut" ["corners", "plates", "at", "k", "part", "keep"] sp_cut2) (d_law_parts_side : Df P w K mg base CX0 6 "_law_parts_side" ["begin", "middle", "end"] sp_parts) (d_length_of : Df P w K mg base (L2.CX P w) 5 "length_of" ["one", "other"] (sp_len C1)) (d_law_is_frac : Df P w K mg base CX0 2 "_law_is_frac" ["thing"] sp_isF) : FnOk P w K mg base CX0 7 f fd ["corners", "plates", "at", "k", "part"] sp_well := by
  have sc := sc_law_cut_well
  refine F.ok sc (fun vs H Q E h => ?_) (fun cdv A outer s H vs Q E hr h => ?_)
  · obtain ⟨sa, C, Pl, at', k, pt, pts, pls, nums, i0, p, G, m, _, _, _, _, _, _, _, _, _, _, _, _, _, _, _, _, _, _, _, _, _, _, _, _, _, rfl, _⟩ := h
    rfl
  · obtain ⟨sa, C, Pl, at', k, pt, pts, pls, nums, i0, p, G, m, x', y', x, y, l', l, t, s, r0, r1, co, si, th, lm, room, r, u, v, W0, E0', F0, a, b, a2, b2, rfl, tr, rC, rP, rp, I, CA, S, ⟨m0, m1, m2, m3, m4⟩, hq⟩ := h
    obtain ⟨ki, hk⟩ : ∃ ki : Int, ki = (k : Int) := ⟨_, rfl⟩
    obtain ⟨ai, hai⟩ : ∃ ai : Int, ai = (at' : Int) := ⟨_, rfl⟩
    rw [← hk, ← hai]
    refine ⟨_, (pss_cons (ps_asg (pe_callTy cq_list (by rfl) nb.list (by decide +kernel) (pa_cons (pe_ix ix_list (pv 1) (pv 2) (fun _ _ => rfl)) pa_nil)) (pg_name (i := 5) sc.nd rfl (.inl rfl)))
    (pss_cons (ps_expr (pe_call d_law_cut2.F (hr.mono (by decide)) (by rfl) d_law_cut2.g d_law_cut2.kp d_law_cut2.b .nil pass0 (pa_cons (pv 0) (pa_cons (pv 1) (pa_cons (pv 2) (pa_cons (pv 3) (pa_cons (pv 4) (pa_cons pe_bl pa_nil))))))))
    (pss_cons (ps_asg (pe_ix ix_list (pv 0) (pe_op op_sub (pe_callB cq_len (by rfl) nb.len (by decide +kernel) (pa_cons (pv 0) pa_nil)) pe_int) (fun _ _ => rfl)) (pg_name (i := 6) sc.nd rfl (.inl rfl)))
    (pss_cons (ps_asg (pe_ix ix_list (pv 0) (pe_op op_sub (pe_callB cq_len (by rfl) nb.len (by decide +kernel) (pa_cons (pv 0) pa_nil)) pe_int) (fun _ _ => rfl)) (pg_name (i := 7) sc.nd rfl (.inl rfl)))
    (pss_cons (ps_asg (pe_ix ix_list (pv 0) (pe_ix ix_list (pv 5) (pv 3) (fun _ _ => rfl)) (fun _ _ => rfl)) (pg_name (i := 8) sc.nd rfl (.inl rfl)))
    (pss_cons (ps_if (pt_not (pt_val (pe_call d_law_parts_side.F (hr.mono (by decide)) (by rfl) d_law_parts_side.g d_law_parts_side.kp d_law_parts_side.b .nil pass0 (pa_cons (pe_ix ix_list (pv 0) (pe_ix ix_list (pv 5) (pe_op op_sub (pv 3) pe_int) (fun _ _ => rfl)) (fun _ _ => rfl)) (pa_cons (pv 6) (pa_cons (pv 8) pa_nil)))))) (pss_one (ps_ret pe_non)) pss_nil)
    (pss_cons (ps_if (pt_not (pt_val (pe_call d_law_parts_side.F (hr.mono (by decide)) (by rfl) d_law_parts_side.g d_law_parts_side.kp d_law_parts_side.b .nil pass0 (pa_cons (pv 8) (pa_cons (pv 7) (pa_cons (pe_ix ix_list (pv 0) (pe_ix ix_list (pv 5) (pe_op op_mod (pe_op op_add (pv 3) pe_int) (pe_callB cq_len (by rfl) nb.len (by decide +kernel) (pa_cons (pv 5) pa_nil))) (fun _ _ => rfl)) (fun _ _ => rfl)) pa_nil)))))) (pss_one (ps_ret pe_non)) pss_nil)
    (pss_cons (ps_asg (pe_call d_length_of.F (hr.mono (by decide)) (by rfl) d_length_of.g d_length_of.kp d_length_of.b .nil passL (pa_cons (pv 6) (pa_cons (pv 7) pa_nil))) (pg_name (i := 9) sc.nd rfl (.inl rfl)))
    (pss_cons (ps_if (pt_not (pt_val (pe_call d_law_is_frac.F (hr.mono (by decide)) (by rfl) d_law_is_frac.g d_law_is_frac.kp d_law_is_frac.b .nil pass0 (pa_cons (pv 9) pa_nil)))) (pss_one (ps_ret pe_non)) pss_nil)
    (pss_one (ps_ret (pv 9)))))))))))), ?_⟩
    (rw [show start ["corners", "plates", "at", "k", "part", "plate", "near", "far", "tip", "side"] [.ref C, .ref Pl, .int ai, .int ki, pt] = [some (.ref C), some (.ref Pl), some (.int ai), some (.int ki), some (pt), none, none, none, none, none] from rfl]; try dsimp only [cxOf])
    have W := wd_start tr (.cons rC (.cons rP (.cons rp .nil)))
    walk_at "w"
    refine x_neg W (.there .here) (.inl hai) (pls_at I.pa) (v_lst fun plate W1 => ?_)
    walk_at "w"
    have rl1 : Rp sa H (.ref plate) (IntsD nums) := W1.get .here
    obtain ⟨xs, hx, rxs⟩ := mp_at W1 .here
    have hC0 : ∃ o, H C = some o := by cases rC with | lst _ h _ => exact ⟨_, h⟩
    have hP0 : ∃ o, H Pl = some o := by cases rP with | lst _ h _ => exact ⟨_, h⟩
    refine ⟨plate, xs, rfl, .inl (SqL.of hx), fun L nL => ?_⟩
    have neLC : L ≠ C := fun z => by obtain ⟨o, e⟩ := hC0; rw [z, e] at nL; cases nL
    have neLP : L ≠ Pl := fun z => by obtain ⟨o, e⟩ := hP0; rw [z, e] at nL; cases nL
    have neLs : L ≠ sa := W.ne nL
    have S0 := same_new (H := H) (o := .lst xs) nL
    have hL : (upd H L (.lst xs)) L = some (.lst xs) := upd_same
    have tr1 : ∃ o, (upd H L (.lst xs)) sa = some o := let ⟨o, e⟩ := tr; ⟨o, S0 _ _ e⟩
    have rC1 := rC.same S0
    have rP1 := rP.same S0
    have rp1 := rp.same S0
    have rx1 := ints_any (H' := upd H L (.lst xs)) rxs
    generalize upd H L (.lst xs) = H1 at *
    clear W W1
    walk_at "w"
    refine c_cut2 tr1 rC1 rP1 rp1 hai hk I CA fun H2 fr rC2 rP2 => ?_
    have hL2 := fr L _ neLC neLP hL
    have tr2 : ∃ o, H2 sa = some o := by
      obtain ⟨o, e⟩ := tr1
      refine ⟨o, fr sa o (fun z => ?_) (fun z => ?_) e⟩
      · cases rC with | lst n _ _ => exact n z.symm
      · cases rP with | lst n _ _ => exact n z.symm
    have rL2 : Rp sa H2 (.ref L) (IntsD nums) := .lst neLs hL2 (ints_any rx1)
    have W := wd_start tr2 (.cons rL2 (.cons rC2 (.cons rP2 .nil)))
    clear rp1 rx1 hL hL2
    have aN : (pts ++ [PQ (p.N1 k s room) (p.N2 k s room), PQ (p.F1 k s room) (p.F2 k s room)])[pts.length]? = some (PQ (p.N1 k s room) (p.N2 k s room)) := by
      rw [List.getElem?_append_right (Nat.le_refl _), Nat.sub_self]
      rfl
    have aF : (pts ++ [PQ (p.N1 k s room) (p.N2 k s room), PQ (p.F1 k s room) (p.F2 k s room)])[pts.length + 1]? = some (PQ (p.F1 k s room) (p.F2 k s room)) := by
      rw [List.getElem?_append_right (by omega), Nat.add_sub_cancel_left]
      rfl
    have le : (pts ++ [PQ (p.N1 k s room) (p.N2 k s room), PQ (p.F1 k s room) (p.F2 k s room)]).length = pts.length + 2 := by rw [List.length_append]; rfl
    have aT : (pts ++ [PQ (p.N1 k s room) (p.N2 k s room), PQ (p.F1 k s room) (p.F2 k s room)])[i0]? = some (PQ (p.c k) (p.d k)) := by
      rw [List.getElem?_append_left (List.getElem?_eq_some_iff.mp I.tip).1]
      exact I.tip
    obtain ⟨i1, j1, q1⟩ := I.it (prv p.n k) (prv_lt I.kn)
    obtain ⟨i2, j2, q2⟩ := I.it (nxt p.n k) (nxt_lt I.kn)
    have aP : (pts ++ [PQ (p.N1 k s room) (p.N2 k s room), PQ (p.F1 k s room) (p.F2 k s room)])[i1]? = some (PQ (p.c (prv p.n k)) (p.d (prv p.n k))) := by
      rw [List.getElem?_append_left (List.getElem?_eq_some_iff.mp q1).1]
      exact q1
    have aQ : (pts ++ [PQ (p.N1 k s room) (p.N2 k s room), PQ (p.F1 k s room) (p.F2 k s room)])[i2]? = some (PQ (p.c (nxt p.n k)) (p.d (nxt p.n k))) := by
      rw [List.getElem?_append_left (List.getElem?_eq_some_iff.mp q2).1]
      exact q2
    have ln := I.len
    have kn := I.kn
    generalize hP2 : pts ++ [PQ (p.N1 k s room) (p.N2 k s room), PQ (p.F1 k s room) (p.F2 k s room)] = pts2 at *
    have hq : ∀ H' z, (∀ q o, q ≠ C → q ≠ Pl → H1 q = some o → H' q = some o) → Rp sa H' (.ref C) (.list pts2) → Rp sa H' (.ref Pl) (PlsD (newPls pls at' k nums i0 pts.length)) → Rp sa H' z (FQ (p.sd k room)) → Q z H' := fun H' z h1 => hq H' z (fun q o z1 z2 e => h1 q o z1 z2 (S0 _ _ e))
    walk_at "w"
    refine x_neg W (.there .here) (j := pts.length) (.inl (by omega)) aN (v_tup fun near W1 => ?_)
    walk_at "w"
    refine x_neg W1 (by walk_at "in2") (j := pts.length + 1) (.inl (by omega)) aF (v_tup fun far W2 => ?_)
    walk_at "w"
    refine x_neg W2 (by walk_at "in2") (.inl hk) (ints_at I.i0) (v_int fun W3 => ?_)
    walk_at "w"
    refine x_neg W3 (by walk_at "in2") (.inl rfl) aT (v_tup fun tip W4 => ?_)
    walk_at "w"
    refine x_neg W4 (by walk_at "in2") (j := prv p.n k) (by rw [List.length_map, ln, hk]; unfold prv; split <;> omega) (ints_at j1) (v_int fun W5 => ?_)
    walk_at "w"
    refine x_neg W5 (by walk_at "in2") (.inl rfl) aP (v_tup fun prev W6 => ?_)
    walk_at "w"
    refine ⟨sa, _, _, _, _, _, _, _, _, _, a, b, rfl, W6.tr, ⟨W6.get (by walk_at "in2"), W6.get (by walk_at "in2"), W6.get (by walk_at "in2")⟩, ⟨m0, m3, m1⟩, S.o1, S.h1, ⟨S.e1, S.e2, S.e3⟩, fun H3 s3 => ?_⟩
    have W7 := W6.go s3
    clear W1 W2 W3 W4 W5
    walk_at "w"
    refine x_neg W7 (by walk_at "in2") (j := (k + 1) % nums.length) (.inl (by rw [hk]; rfl)) (ints_at (by rw [ln, nxt_mod kn]; exact j2)) (v_int fun W8 => ?_)
    refine x_neg W8 (by walk_at "in2") (.inl rfl) aQ (v_tup fun next W9 => ?_)
    walk_at "w"
    refine ⟨sa, _, _, _, _, _, _, _, _, _, a2, b2, rfl, W9.tr, ⟨W9.get (by walk_at "in2"), W9.get (by walk_at "in2"), W9.get (by walk_at "in2")⟩, ⟨m1, m4, m2⟩, S.o2, S.h2, ⟨S.g1, S.g2, S.g3⟩, fun H4 s4 => ?_⟩
    have W10 := W9.go s4
    clear W6 W7 W8 W9
    walk_at "w"
    refine c_len8 W10 (W10.get (v := .ref near) (by walk_at "in2")) (W10.get (v := .ref far) (by walk_at "in2")) m3 m4 S.s0 S.sq fun H5 t5 W11 => ?_
    walk_at "w"
    refine c_isF8 W11 (W11.get .here) S.sb (by decide) fun H6 W12 => ?_
    walk_at "w"
    exact hq _ _ (fun q o h1 h2 e => W12.same rfl _ _ (fr q o h1 h2 e)) (W12.get (by walk_at "in2")) (W12.get (by walk_at "in2")) (W12.get .here)
end

/-! ### pieces apart, and inside the whole -/
theorem smp_gd {a b : Rat} (h : SmP a b) : GdP (PQ a b) := by
  obtain ⟨p, q, r, s, e, f1, f2⟩ := h
  rw [e]
  exact gd_pt (k := 0) ⟨f1.ba, f1.bb, f2.ba, f2.bb⟩
theorem gdT_list8 {pts : List PyData} (h : pts.length ≤ 40) (g : ∀ x ∈ pts, GdP x) : GdT (.list pts) := fun xs e => by
  cases e
  exact ⟨h, g⟩
theorem lst_gd {p : Pz} {xs : List PyData} (h : Lst p xs) (n8 : p.n ≤ 8) : GdT (.list xs) := gdT_list8 (by rw [h.len]; omega) fun x hx => by
  obtain ⟨i, hi, rfl⟩ := h.mem hx
  exact smp_gd (h.sm i hi)
section
variable {b : Bool} {sa C : Addr} {H0 H : Hp} {acc : List V} {dacc : List PyData} {Q : VK} {E : XK} {x y : V}
theorem c_over8 {xs ys : List PyData} (W : Wd b sa H0 H acc dacc) (rx : Rp sa H x (.list xs)) (ry : Rp sa H y (.list ys)) (g1 : GdT (.list xs)) (g2 : GdT (.list ys)) (p1 : PlateP xs) (p2 : PlateP ys) (h : ∀ H' c, (c = true ↔ OverP xs ys) → Wd b sa H0 H' acc dacc → Q (.bl c) H') : sp_over C [x, y] H Q E :=
  ⟨sa, [.list xs, .list ys], W.tr, .cons rx (.cons ry .nil), ⟨_, _, rfl, g1, g2⟩, fun hb => absurd ⟨⟨xs, rfl, p1⟩, ⟨ys, rfl, p2⟩⟩ (hb _ _ rfl), fun _ H' v dv s rv hR => by
    obtain ⟨c, rfl, hc⟩ := hR
    obtain rfl : v = .bl c := by cases rv; rfl
    exact h H' c (hc _ _ _ _ rfl rfl rfl) (W.go s)⟩
end
abbrev sp_inside : Sp := fun vs H Q _ => ∃ (sa : Addr) (x y : V) (xs ys : List PyData) (w p : Pz) (G G' : Int), vs = [x, y] ∧ (∃ o, H sa = some o) ∧ (Rp sa H x (.list xs) ∧ Rp sa H y (.list ys)) ∧ (Lst w xs ∧ Lst p ys) ∧ (PzOk G w ∧ PzOk G' p) ∧ SubP w p ∧ (w.n ≤ 8 ∧ p.n ≤ 8) ∧ ∀ H', Same H H' → Q (.bl true) H'
abbrev sp_apart : Sp := fun vs H Q _ => ∃ (sa : Addr) (v : V) (xss : List PyData) (ps : List Pz) (w : Pz) (T : Rat) (G : Int) (J : Nat), vs = [v] ∧ (∃ o, H sa = some o) ∧ Rp sa H v (.list xss) ∧ (xss.length = ps.length ∧ ps.length ≤ 20) ∧ (∀ (i : Nat) (p : Pz), ps[i]? = some p → ∃ ys, xss[i]? = some (.list ys) ∧ Lst p ys ∧ p.n ≤ 8) ∧ Fam w T G J ps ∧ ∀ H', Same H H' → Q (.bl true) H'
section
variable {P : Program} {w : World} {K : PySem.W.Frag} {mg : Str → Option Value} {base : Heap}
theorem ok_law_inside {f C C1 : Addr} {fd : FuncData} (F : Fun K "_law_inside" "_law_inside" s_law_inside f fd) (nb : Nb mg) (d_lie_over : Df P w K mg base (L2.CX P w) 6 "lie_over" ["one", "other"] (sp_over C)) (d_turn_of : Df P w K mg base (L2.CX P w) 5 "turn_of" ["one", "other", "third"] (sp_turn C1)) : FnOk P w K mg base CX0 7 f fd ["whole", "piece"] sp_inside := by
  have sc := sc_law_inside
  refine F.ok sc (fun vs H Q E h => ?_) (fun cdv A outer s H vs Q E hr h => ?_)
  · obtain ⟨sa, x, y, xs, ys, w, p, G, G', rfl, _⟩ := h
    rfl
  · obtain ⟨sa, x, y, xs, ys, w, p, G, G', rfl, tr, ⟨rx, ry⟩, ⟨lx, ly⟩, ⟨ow, op⟩, sub, ⟨n8, m8⟩, hq⟩ := h
    obtain ⟨px, rfl⟩ : ∃ q, x = .ref q := by cases rx; exact ⟨_, rfl⟩
    obtain ⟨py, rfl⟩ : ∃ q, y = .ref q := by cases ry; exact ⟨_, rfl⟩
    refine ⟨_, (pss_cons (ps_if (PW.pt (pw_or (pt_not (pt_val (pe_call d_lie_over.F (hr.mono (by decide)) (by rfl) d_lie_over.g d_lie_over.kp d_lie_over.b .nil passL (pa_cons (pv 0) (pa_cons (pv 1) pa_nil))))) (pw_or1 (pt_not (pt_val (pe_call d_lie_over.F (hr.mono (by decide)) (by rfl) d_lie_over.g d_lie_over.kp d_lie_over.b .nil passL (pa_cons (pv 1) (pa_cons (pv 0) pa_nil)))))))) (pss_one (ps_ret pe_bl)) pss_nil)
    (pss_cons (ps_for PassesOwn.never rfl (pi_range1 (by rfl) nb.range (pa_cons (pe_callB cq_len (by rfl) nb.len (by decide +kernel) (pa_cons (pv 0) pa_nil)) pa_nil)) (pg_name (i := 2) sc.nd rfl (.inl rfl)) (pss_one (ps_for PassesOwn.never rfl (pi_list (pv 1)) (pg_name (i := 3) sc.nd rfl (.inl rfl)) (pss_one (ps_if (pt_cmpR op_lt (pe_call d_turn_of.F (hr.mono (by decide)) (by rfl) d_turn_of.g d_turn_of.kp d_turn_of.b .nil passL (pa_cons (pe_ix ix_list (pv 0) (pe_op op_sub (pv 2) pe_int) (fun _ _ => rfl)) (pa_cons (pe_ix ix_list (pv 0) (pv 2) (fun _ _ => rfl)) (pa_cons (pv 3) pa_nil)))) pe_int (nomark _)) (pss_one (ps_ret pe_bl)) pss_nil)))))
    (pss_one (ps_ret pe_bl)))), ?_⟩
    (rw [show start ["whole", "piece", "k", "point"] [.ref px, .ref py] = [some (.ref px), some (.ref py), none, none] from rfl]; try dsimp only [cxOf])
    have W := wd_start tr (.cons rx (.cons ry .nil))
    have gx := lst_gd lx n8
    have gy := lst_gd ly m8
    have p1 := plate_ok ow lx n8
    have p2 := plate_ok op ly m8
    obtain ⟨o1, o2⟩ := over_ok ow op sub lx ly
    have ll := lx.len
    walk_at "w"
    refine c_over8 W rx ry gx gy p1 p2 fun H1 c hc W1 => ?_
    obtain rfl : c = true := hc.mpr o1
    walk_at "w"
    refine c_over8 W1 (W1.get (.there .here)) (W1.get .here) gy gx p2 p1 fun H2 c hc W2 => ?_
    obtain rfl : c = true := hc.mpr o2
    clear W1
    obtain ⟨zs, hz, rz⟩ := mp_at W (.there .here)
    walk_at "w"
    refine lp_range (fun i σ' H' => ∃ o1 o2, σ' = [some (.ref px), some (.ref py), o1, o2] ∧ Wd false sa H H' [.ref px, .ref py] [.list xs, .list ys]) ⟨_, _, rfl, W2⟩ ?_ ?_
    · rintro i σ' H' hi ⟨o1, o2, rfl, W3⟩
      have hi : i < w.n := by omega
      have hp := prv_lt hi
      clear W2
      walk_at "w"
      refine w_ilst ?_
      walk_at "w"
      refine ⟨py, rfl, ⟨zs, SqL.of (W3.same rfl _ _ hz)⟩, ?_⟩
      refine lp_list (xs := zs) (fun j σ' H'' => ∃ o2, σ' = [some (.ref px), some (.ref py), some (.int (0 + (i : Int))), o2] ∧ Wd false sa H H'' [.ref px, .ref py] [.list xs, .list ys]) ⟨_, rfl, W3⟩ (fun j σ H'' _ ⟨_, _, W4⟩ => SqL.of (W4.same rfl _ _ hz)) ?_ ?_
      · rintro j y σ'' H'' hy ⟨o2, rfl, W4⟩
        have hj : j < p.n := by rw [← ly.len, ← rz.lens]; exact (List.getElem?_eq_some_iff.mp hy).1
        obtain ⟨v, e1, r1⟩ := rps_at rz (ly.it j hj)
        rw [hy] at e1
        injection e1 with e1
        subst e1
        have W5 := W4.put (r1.same (W4.same rfl))
        obtain ⟨yy, rfl⟩ : ∃ q, y = .ref q := by cases r1; exact ⟨_, rfl⟩
        clear W3
        walk_at "w"
        refine x_neg W5 (.there .here) (j := prv w.n i) (by unfold prv; rw [ll]; split <;> omega) (lx.it _ hp) (v_tup fun b1 W6 => ?_)
        walk_at "w"
        refine x_neg W6 (by walk_at "in2") (j := i) (.inl (by omega)) (lx.it i hi) (v_tup fun b2 W7 => ?_)
        walk_at "w"
        refine c_turn8 W7 (W7.get (.there .here)) (W7.get .here) (W7.get (.there (.there .here))) (lx.sm _ hp) (lx.sm i hi) (ly.sm j hj) fun H8 V h0 h1 W8 => ?_
        have oo := in_whole ow op sub hp hj
        rw [nxt_prv hi] at oo
        have V0 : 0 ≤ V := by
          by_cases z : 0 < orr (w.c (prv w.n i)) (w.d (prv w.n i)) (w.c i) (w.d i) (p.c j) (p.d j)
          · have := h0.mp z
            omega
          · have := h1.mp (by grind)
            omega
        have sV : 0 ≤ sgn V := by
          unfold sgn
          split
          · decide
          · rw [if_pos (by omega)]
            decide
        walk_at "w"
        refine w_ifd (fun z => absurd z (by omega)) (fun _ => ?_)
        walk_at "w"
        exact ⟨_, rfl, W8.sub (.cons (W8.get (v := .ref px) (by walk_at "in2")) (.cons (W8.get (v := .ref py) (by walk_at "in2")) .nil))⟩
      · rintro σ'' H'' ⟨o2, rfl, W4⟩
        exact ⟨_, _, rfl, W4⟩
    · rintro σ' H' ⟨o1, o2, rfl, W3⟩
      walk_at "w"
      exact hq _ (W3.same rfl)
theorem ok_law_apart {f C : Addr} {fd : FuncData} (F : Fun K "_law_apart" "_law_apart" s_law_apart f fd) (nb : Nb mg) (d_lie_over : Df P w K mg base (L2.CX P w) 6 "lie_over" ["one", "other"] (sp_over C)) : FnOk P w K mg base CX0 7 f fd ["pieces"] sp_apart := by
  have sc := sc_law_apart
  refine F.ok sc (fun vs H Q E h => ?_) (fun cdv A outer s H vs Q E hr h => ?_)
  · obtain ⟨sa, v, xss, ps, w, T, G, J, rfl, _⟩ := h
    rfl
  · obtain ⟨sa, v, xss, ps, w, T, G, J, rfl, tr, r0, ⟨lx, l20⟩, at_, fam, hq⟩ := h
    obtain ⟨pq, rfl⟩ : ∃ q, v = .ref q := by cases r0; exact ⟨_, rfl⟩
    refine ⟨_, (pss_cons (ps_for PassesOwn.never rfl (pi_range1 (by rfl) nb.range (pa_cons (pe_callB cq_len (by rfl) nb.len (by decide +kernel) (pa_cons (pv 0) pa_nil)) pa_nil)) (pg_name (i := 1) sc.nd rfl (.inl rfl)) (pss_one (ps_for PassesOwn.never rfl (pi_range1 (by rfl) nb.range (pa_cons (pv 1) pa_nil)) (pg_name (i := 2) sc.nd rfl (.inl rfl)) (pss_one (ps_if (PW.pt (pw_or (pt_val (pe_call d_lie_over.F (hr.mono (by decide)) (by rfl) d_lie_over.g d_lie_over.kp d_lie_over.b .nil passL (pa_cons (pe_ix ix_list (pv 0) (pv 1) (fun _ _ => rfl)) (pa_cons (pe_ix ix_list (pv 0) (pv 2) (fun _ _ => rfl)) pa_nil)))) (pw_or1 (pt_val (pe_call d_lie_over.F (hr.mono (by decide)) (by rfl) d_lie_over.g d_lie_over.kp d_lie_over.b .nil passL (pa_cons (pe_ix ix_list (pv 0) (pv 2) (fun _ _ => rfl)) (pa_cons (pe_ix ix_list (pv 0) (pv 1) (fun _ _ => rfl)) pa_nil))))))) (pss_one (ps_ret pe_bl)) pss_nil)))))
    (pss_one (ps_ret pe_bl))), ?_⟩
    (rw [show start ["pieces", "k", "j"] [.ref pq] = [some (.ref pq), none, none] from rfl]; try dsimp only [cxOf])
    have W := wd_start tr (.cons r0 .nil)
    walk_at "w"
    refine lp_range (fun i σ' H' => ∃ o1 o2, σ' = [some (.ref pq), o1, o2] ∧ Wd false sa H H' [.ref pq] [.list xss]) ⟨_, _, rfl, W⟩ ?_ ?_
    · rintro i σ' H' hi ⟨o1, o2, rfl, W1⟩
      clear W
      have hi : i < ps.length := by omega
      obtain ⟨ys, ey, ly, n8⟩ := at_ i ps[i] (List.getElem?_eq_getElem hi)
      have oi := (fam.all ps[i] (List.getElem_mem hi)).1
      walk_at "w"
      refine lp_range (fun j σ' H' => ∃ o2, σ' = [some (.ref pq), some (.int (0 + (i : Int))), o2] ∧ Wd false sa H H' [.ref pq] [.list xss]) ⟨_, rfl, W1⟩ ?_ ?_
      · rintro j σ' H'' hj ⟨o2, rfl, W2⟩
        clear W1
        have hj : j < i := by omega
        obtain ⟨zs, ez, lz, m8⟩ := at_ j ps[j] (List.getElem?_eq_getElem (by omega))
        have oj := (fam.all ps[j] (List.getElem_mem (by omega))).1
        obtain ⟨ap1, ap2⟩ := apart_ok oi oj (fam.sep i j ps[i] ps[j] (by omega) (List.getElem?_eq_getElem hi) (List.getElem?_eq_getElem (by omega))) ly lz
        walk_at "w"
        refine x_neg W2 .here (j := i) (.inl (by omega)) ey (v_lst fun a1 W3 => ?_)
        walk_at "w"
        refine x_neg W3 (by walk_at "in2") (j := j) (.inl (by omega)) ez (v_lst fun a2 W4 => ?_)
        walk_at "w"
        refine c_over8 W4 (W4.get (.there .here)) (W4.get .here) (lst_gd ly n8) (lst_gd lz m8) (plate_ok oi ly n8) (plate_ok oj lz m8) fun H5 c hc W5 => ?_
        obtain rfl : c = false := by
          cases c with
          | false => rfl
          | true => exact absurd (hc.mp rfl) ap1
        walk_at "w"
        refine x_neg W5 (by walk_at "in2") (j := j) (.inl (by omega)) ez (v_lst fun a3 W6 => ?_)
        walk_at "w"
        refine x_neg W6 (by walk_at "in2") (j := i) (.inl (by omega)) ey (v_lst fun a4 W7 => ?_)
        walk_at "w"
        refine c_over8 W7 (W7.get (.there .here)) (W7.get .here) (lst_gd lz m8) (lst_gd ly n8) (plate_ok oj lz m8) (plate_ok oi ly n8) fun H8 c hc W8 => ?_
        obtain rfl : c = false := by
          cases c with
          | false => rfl
          | true => exact absurd (hc.mp rfl) ap2
        walk_at "w"
        exact ⟨_, rfl, W8.sub (.cons (W8.get (v := .ref pq) (by walk_at "in2")) .nil)⟩
      · rintro σ' H'' ⟨o2, rfl, W2⟩
        exact ⟨_, _, rfl, W2⟩
    · rintro σ' H' ⟨o1, o2, rfl, W1⟩
      walk_at "w"
      exact hq _ (W1.same rfl)
end

/-! ### the lists of the pieces -/
theorem small_smp {a b : Rat} (h : SmallP (PQ a b)) : SmP a b := by
  obtain ⟨_, _, _, _, _, h⟩ := isP_pq (isP_of_pq a b) (small_gd h)
  exact h
structure Rel8 (ps : List Pz) (pls : List (List Nat)) (pts : List PyData) : Prop where
  len : pls.length = ps.length
  it : ∀ (q : Nat) (p : Pz), ps[q]? = some p → p.n ≤ 8 ∧ ∃ nums : List Nat, pls[q]? = some nums ∧ nums.length = p.n ∧ ∀ i, i < p.n → ∃ z, nums[i]? = some z ∧ pts[z]? = some (PQ (p.c i) (p.d i))
theorem ins2_at {nums : List Nat} {k m i : Nat} (hk : k < nums.length) : (nums.take k ++ [m, m + 1] ++ nums.drop (k + 1))[i]? = if i < k then nums[i]? else if i = k then some m else if i = k + 1 then some (m + 1) else nums[i - 1]? := by
  have l1 : (nums.take k).length = k := by rw [List.length_take]; omega
  have l2 : (nums.take k ++ [m, m + 1]).length = k + 2 := by rw [List.length_append, l1]; rfl
  by_cases h1 : i < k
  · rw [if_pos h1, List.getElem?_append_left (by rw [l2]; omega), List.getElem?_append_left (by rw [l1]; omega), List.getElem?_take_of_lt h1]
  · rw [if_neg h1]
    by_cases h2 : i = k
    · rw [if_pos h2, List.getElem?_append_left (by rw [l2]; omega), List.getElem?_append_right (by rw [l1]; omega), l1, h2, Nat.sub_self]
      rfl
    · rw [if_neg h2]
      by_cases h3 : i = k + 1
      · rw [if_pos h3, List.getElem?_append_left (by rw [l2]; omega), List.getElem?_append_right (by rw [l1]; omega), l1, h3, Nat.add_sub_cancel_left]
        rfl
      · rw [if_neg h3, List.getElem?_append_right (by rw [l2]; omega), l2, List.getElem?_drop]
        congr 1
        omega
theorem app_at {pts more : List PyData} {z : Nat} {d : PyData} (h : pts[z]? = some d) : (pts ++ more)[z]? = some d := by
  rw [List.getElem?_append_left (List.getElem?_eq_some_iff.mp h).1]
  exact h
theorem rel8_new {ps : List Pz} {pls : List (List Nat)} {pts : List PyData} {at' k i0 : Nat} {p : Pz} {nums : List Nat} {s r room : Rat} {W E : Int} (R : Rel8 ps pls pts) (hp : ps[at']? = some p) (n7 : p.n ≤ 7) (hk : k < p.n) (pa : pls[at']? = some nums) (h0 : nums[k]? = some i0) :
    Rel8 (ps.set at' (p.rest k s r room W E) ++ [p.tip k s r room W E]) (newPls pls at' k nums i0 pts.length) (pts ++ [PQ (p.N1 k s room) (p.N2 k s room), PQ (p.F1 k s room) (p.F2 k s room)]) := by
  obtain ⟨_, nums', e1, ln, it⟩ := R.it at' p hp
  rw [pa] at e1
  injection e1 with e1
  subst e1
  have la := (List.getElem?_eq_some_iff.mp hp).1
  have lp := R.len
  have aN : (pts ++ [PQ (p.N1 k s room) (p.N2 k s room), PQ (p.F1 k s room) (p.F2 k s room)])[pts.length]? = some (PQ (p.N1 k s room) (p.N2 k s room)) := by
    rw [List.getElem?_append_right (Nat.le_refl _), Nat.sub_self]
    rfl
  have aF : (pts ++ [PQ (p.N1 k s room) (p.N2 k s room), PQ (p.F1 k s room) (p.F2 k s room)])[pts.length + 1]? = some (PQ (p.F1 k s room) (p.F2 k s room)) := by
    rw [List.getElem?_append_right (by omega), Nat.add_sub_cancel_left]
    rfl
  have tipat : pts[i0]? = some (PQ (p.c k) (p.d k)) := by
    obtain ⟨z, h1, h2⟩ := it k hk
    rw [h0] at h1
    injection h1 with h1
    rw [h1]
    exact h2
  refine ⟨by unfold newPls; rw [List.length_append, List.length_append, List.length_set, List.length_set, lp]; rfl, fun q w hw => ?_⟩
  unfold newPls
  by_cases lq : q < ps.length
  · rw [List.getElem?_append_left (by rw [List.length_set]; exact lq)] at hw
    rw [List.getElem?_append_left (by rw [List.length_set, lp]; exact lq)]
    by_cases qa : q = at'
    · subst qa
      rw [List.getElem?_set_self lq] at hw
      injection hw with hw
      subst hw
      refine ⟨by show p.n + 1 ≤ 8; omega, _, List.getElem?_set_self (by rw [lp]; exact lq), ?_, fun i hi => ?_⟩
      · show _ = p.n + 1
        rw [List.length_append, List.length_append, List.length_take, List.length_drop, ln]
        simp
        omega
      · have hi : i < p.n + 1 := hi
        rw [ins2_at (by omega)]
        show ∃ z, _ ∧ _ = some (PQ (ins2 k p.c (p.N1 k s room) (p.F1 k s room) i) (ins2 k p.d (p.N2 k s room) (p.F2 k s room) i))
        by_cases i1 : i < k
        · rw [if_pos i1, ins2_lt i1, ins2_lt i1]
          obtain ⟨z, h1, h2⟩ := it i (by omega)
          exact ⟨z, h1, app_at h2⟩
        · rw [if_neg i1]
          by_cases i2 : i = k
          · subst i2
            rw [if_pos rfl, ins2_k, ins2_k]
            exact ⟨_, rfl, aN⟩
          · rw [if_neg i2]
            by_cases i3 : i = k + 1
            · subst i3
              rw [if_pos rfl, ins2_k1, ins2_k1]
              exact ⟨_, rfl, aF⟩
            · rw [if_neg i3, ins2_gt (by omega), ins2_gt (by omega)]
              obtain ⟨z, h1, h2⟩ := it (i - 1) (by omega)
              exact ⟨z, h1, app_at h2⟩
    · rw [List.getElem?_set_ne (Ne.symm qa)] at hw
      rw [List.getElem?_set_ne (Ne.symm qa)]
      obtain ⟨w8, nums2, e2, l2, it2⟩ := R.it q w hw
      exact ⟨w8, nums2, e2, l2, fun i hi => by
        obtain ⟨z, h1, h2⟩ := it2 i hi
        exact ⟨z, h1, app_at h2⟩⟩
  · have lw := (List.getElem?_eq_some_iff.mp hw).1
    rw [List.length_append, List.length_set] at lw
    have lw : q < ps.length + 1 := lw
    have eq : q = ps.length := by omega
    subst eq
    rw [List.getElem?_append_right (by rw [List.length_set]; exact Nat.le_refl _), List.length_set, Nat.sub_self] at hw
    rw [List.getElem?_append_right (by rw [List.length_set, lp]; exact Nat.le_refl _), List.length_set, lp, Nat.sub_self]
    have hw : some (p.tip k s r room W E) = some w := hw
    injection hw with hw
    subst hw
    refine ⟨by show 3 ≤ 8; decide, _, rfl, rfl, all3 ⟨i0, rfl, app_at tipat⟩ ⟨pts.length + 1, rfl, aF⟩ ⟨pts.length, rfl, aN⟩⟩
theorem rel8_in {ps : List Pz} {pls : List (List Nat)} {pts : List PyData} {at' k : Nat} {p w : Pz} {T : Rat} {G : Int} {J : Nat} (R : Rel8 ps pls pts) (fam : Fam w T G J ps) (hp : ps[at']? = some p) (hk : k < p.n) (pq : ∀ z ∈ pts, ∃ u v, z = PQ u v) (p20 : pts.length ≤ 20) (l20 : ps.length ≤ 20) :
    ∃ nums i0, PlIn p pts pls nums at' k i0 := by
  obtain ⟨n8, nums, e1, ln, it⟩ := R.it at' p hp
  obtain ⟨z, h1, h2⟩ := it k hk
  refine ⟨nums, z, ln, hk, e1, h1, it, pq, fun q hq => ?_, by omega, p20, by rw [R.len]; exact l20⟩
  obtain ⟨i, e⟩ := List.getElem?_of_mem hq
  have li : i < ps.length := by rw [← R.len]; exact (List.getElem?_eq_some_iff.mp e).1
  obtain ⟨_, nums2, e2, l2, _⟩ := R.it i ps[i] (List.getElem?_eq_getElem li)
  rw [e] at e2
  injection e2 with e2
  have n3 := (fam.all ps[i] (List.getElem_mem li)).1.n3
  intro z
  rw [e2] at z
  rw [z] at l2
  have : 0 = ps[i].n := l2
  omega
theorem noint_of {a D : Addr} {H : Hp} {pts : List PyData} {z : Nat} {d : PyData} (r : Rp a H (.ref D) (.list pts)) (e : pts[z]? = some d) (h : ∀ i, d ≠ .int i) : ∃ (cs : List V) (z : Nat) (v : V), H D = some (.lst cs) ∧ cs[z]? = some v ∧ ∀ i, v ≠ .int i := by
  cases r with
  | @lst _ cs _ n hx rs =>
    obtain ⟨v, e1, r1⟩ := rps_at rs e
    exact ⟨cs, z, v, hx, e1, rp_first r1 h⟩
theorem lst_of {a D : Addr} {H : Hp} {pts : List PyData} (r : Rp a H (.ref D) (.list pts)) : ∃ xs, H D = some (.lst xs) := by
  cases r with
  | lst _ h _ => exact ⟨_, h⟩
theorem new_of {b : Bool} {a D : Addr} {H0 H : Hp} {vs : List V} {ds : List PyData} (W : Wd b a H0 H vs ds) (nD : H D = none) : H0 D = none := by
  cases e : H0 D with
  | none => rfl
  | some o =>
    have := W.but D o (W.ne nD) e
    rw [nD] at this
    cases this
theorem rel8_0 {w : Pz} {es : List PyData} (l : Lst w es) (n8 : w.n ≤ 8) : Rel8 [w] [List.range w.n] es := ⟨rfl, fun q p h => by
  have lq : q < 1 := (List.getElem?_eq_some_iff.mp h).1
  obtain rfl : q = 0 := by omega
  have h : some w = some p := h
  injection h with h
  subst h
  exact ⟨n8, _, rfl, List.length_range, fun i hi => ⟨i, List.getElem?_range hi, l.it i hi⟩⟩⟩
theorem perS_qb {w : Pz} {T : Rat} {G : Int} {J : Nat} {ps : List Pz} (fam : Fam w T G J ps) (hJ : J ≤ 5) : ∀ {qs : List Pz}, (∀ p ∈ qs, p ∈ ps ∧ p.n ≤ 8) → qs.length ≤ 20 → Qb 1400 (perS qs) := fun {qs} hq l20 => by
  have key : ∀ qs : List Pz, (∀ p ∈ qs, p ∈ ps ∧ p.n ≤ 8) → IsI (perS qs) G ∧ 0 ≤ perS qs ∧ perS qs ≤ (qs.length : Rat) * 1024 := fun qs => by
    induction qs with
    | nil => exact fun _ => ⟨⟨0, by show (0 : Rat) * _ = _; rw [Rat.zero_mul]; rfl⟩, Rat.le_refl, by show (0 : Rat) ≤ ((0 : Nat) : Rat) * 1024; decide +kernel⟩
    | cons p qs ih =>
      intro h
      obtain ⟨h1, h2, h3⟩ := ih fun z hz => h z (List.mem_cons_of_mem _ hz)
      obtain ⟨mp, n8⟩ := h p List.mem_cons_self
      have op := (fam.all p mp).1
      obtain ⟨b0, b1⟩ := sm_bd (l := p.l) (V := 128) (n := p.n) fun i hi => ⟨op.I.lp i hi, op.B.l1 i hi⟩
      have b2 : ((p.n : Nat) : Rat) * 128 ≤ 1024 := by
        have : ((p.n : Nat) : Rat) ≤ ((8 : Nat) : Rat) := by exact_mod_cast n8
        have := Rat.mul_le_mul_of_nonneg_right this (show (0 : Rat) ≤ 128 by decide)
        exact Rat.le_trans this (by decide +kernel)
      have e : ((qs.length + 1 : Nat) : Rat) * 1024 = (qs.length : Rat) * 1024 + 1024 := by
        rw [show ((qs.length + 1 : Nat) : Rat) = (qs.length : Rat) + 1 from by exact_mod_cast (Rat.intCast_add (qs.length : Int) 1)]
        grind
      refine ⟨(sm_isI fun i hi => op.lenI hi).add h1, ?_, ?_⟩
      · show 0 ≤ sm p.n p.l + perS qs
        grind
      · show sm p.n p.l + perS qs ≤ ((qs.length + 1 : Nat) : Rat) * 1024
        rw [e]
        grind
  obtain ⟨h1, h2, h3⟩ := key qs hq
  refine qb_sum h1 fam.g0 fam.gE hJ h2 (Rat.le_trans h3 ?_)
  have : ((qs.length : Nat) : Rat) ≤ ((20 : Nat) : Rat) := by exact_mod_cast l20
  have := Rat.mul_le_mul_of_nonneg_right this (show (0 : Rat) ≤ 1024 by decide)
  exact Rat.le_trans this (by decide +kernel)
theorem perS_take {ps : List Pz} {i : Nat} {p : Pz} (h : ps[i]? = some p) : perS (ps.take (i + 1)) = perS (ps.take i) + p.per := by
  have e : ps.take (i + 1) = ps.take i ++ [p] := by rw [List.take_succ, h]; rfl
  rw [e, perS_app]
  show _ + (p.per + 0) = _
  grind
/-! ### the law itself -/
theorem pi_list8 {X : Cx} {K0 : PySem.W.Frag} {tg e : Expr} {t : TE} (hK : X.K = K0) (h : PE X e t) : PI X tg e (iList K0 t) := hK ▸ pi_list h
theorem pe_lc8 {X : Cx} {elt tg iter : Expr} {ifs : List Expr} {scope : Scope} {own : List (Str × Nat)} {pos : Pos} {wi : TI} {g : TG} {tt : TT} {te : TE} (hs : ∀ x, foldedSetIterable iter X.env x = pure x) (hc : X.calm = true) (hN : X.N.Nodup) (hi : PI X tg iter wi) (ok : BlkOk X.N X.env.scope scope own)
    (hg : ∀ (s : Shared) (H : Hp) (C : Addr) (cl : List (Str × Addr)) (fp : List Addr), PG (X.blk s H scope (compEnvC scope cl C X.env) fp) tg g) (ht : ∀ (s : Shared) (H : Hp) (C : Addr) (cl : List (Str × Addr)) (fp : List Addr), PTs (X.blk s H scope (compEnvC scope cl C X.env) fp) ifs tt)
    (he : ∀ (s : Shared) (H : Hp) (C : Addr) (cl : List (Str × Addr)) (fp : List Addr), PE (X.blk s H scope (compEnvC scope cl C X.env) fp) elt te) :
    PE X (.ListComp elt [⟨tg, iter, ifs, 0⟩] scope pos) (tLc wi g tt te (own.map (·.2))) := pe_lc hc hN hi ok hg ht he hs
/-- what stands between two rounds -/
structure LawS (a C Wh Pl : Addr) (w : Pz) (pts0 : List PyData) (i : Nat) (tv : Addr) (ps : List Pz) (T : Rat) (pls : List (List Nat)) (pts : List PyData) (H : Hp) : Prop where
  st : Stm H a
  rC : Rp a H (.ref C) (.list pts)
  rW : Rp a H (.ref Wh) (.list pts0)
  rP : Rp a H (.ref Pl) (PlsD pls)
  rT : Rp a H (.ref tv) (FQ T)
  rel : Rel8 ps pls pts
  fam : ∃ (G : Int) (J : Nat), J ≤ w.j + i ∧ Fam w T G J ps
  sm : ∀ z ∈ pts, SmallP z
  lp : pts.length ≤ w.n + 2 * i
  lq : 1 ≤ ps.length ∧ ps.length ≤ 1 + i
  n1 : Wh ≠ C
  n2 : Wh ≠ Pl
theorem small_lit8 {m n : Int} {k : Nat} (hm : m.natAbs < 100) (hn : n.natAbs < 100) : SmallP (.tuple [.tuple [.int m, .int 1], .tuple [.int n, .int 1]]) := by
  have key : ∀ z : Int, z.natAbs < 100 → PyData.tuple [.int z, .int 1] = FQ (z : Rat) ∧ Qb 130 (z : Rat) := fun z hz => by
    have e : (z : Rat) * ((1 : Int) : Rat) = (z : Rat) := by rw [Rat.intCast_one, Rat.mul_one]
    obtain ⟨h1, h2⟩ := q_low (q := (z : Rat)) (show Low z 1 from ⟨by decide, by simp⟩) e
    refine ⟨by unfold FQ; rw [h1, h2], ⟨by rw [h1]; exact (bt_lit 7 (by omega)).mono (by decide), by rw [h2]; exact (bt_lit 1 (by decide)).mono (by decide)⟩⟩
  obtain ⟨e1, b1⟩ := key m hm
  obtain ⟨e2, b2⟩ := key n hn
  exact ⟨m, n, by rw [e1, e2], b1, b2⟩
theorem fq_lit (z : Int) : PyData.tuple [.int z, .int 1] = FQ (z : Rat) := by
  have e : (z : Rat) * ((1 : Int) : Rat) = (z : Rat) := by rw [Rat.intCast_one, Rat.mul_one]
  obtain ⟨h1, h2⟩ := q_low (q := (z : Rat)) (show Low z 1 from ⟨by decide, by simp⟩) e
  unfold FQ
  rw [h1, h2]
theorem qb_int {z : Int} {k : Nat} (h : Bt k z) (hk : 1 ≤ k) : Qb k (z : Rat) := by
  have e : (z : Rat) * ((1 : Int) : Rat) = (z : Rat) := by rw [Rat.intCast_one, Rat.mul_one]
  obtain ⟨h1, h2⟩ := q_low (q := (z : Rat)) (show Low z 1 from ⟨by decide, by simp⟩) e
  exact ⟨by rw [h1]; exact h, by rw [h2]; exact (bt_lit (x := 1) 1 (by decide)).mono hk⟩
/-- the whole and its points -/
def MidW (a c : Addr) (cu : Int) : L2.St → Hp → Prop := fun σ' H' => ∃ (C : Addr) (es : List PyData) (w : Pz) (G : Int), σ' = [some (.ref c), some (.ref a), some (.int cu), some (.ref C), none, none, none, none, none, none, none, none, none, none, none, none, none, none, none, none] ∧ Wd true a H' H' [.ref C] [.list es] ∧ Lst w es ∧ PzOk G w ∧ (0 < G ∧ G ≤ (mE w.j : Int) * 32) ∧ w.j ≤ 2 ∧ w.n ≤ 5 ∧ ∀ z ∈ es, SmallP z
theorem lst_sm {w : Pz} {es : List PyData} (le : es.length = w.n) (it : ∀ i, i < w.n → es[i]? = some (PQ (w.c i) (w.d i))) (sm : ∀ z ∈ es, SmallP z) : Lst w es := ⟨le, it, fun i hi => small_smp (sm _ (List.mem_of_getElem? (it i hi)))⟩
section
variable {P : Program} {w : World} {K : PySem.W.Frag} {mg : Str → Option Value} {base : Heap}
theorem ok_law {f C1 : Addr} {fd : FuncData} (F : Fun K "law" "law" s_law f fd) (nb : Nb mg) (d_law_stream : Df P w K mg base CX0 2 "_law_stream" ["script"] (sp_stream K)) (d_law_take : Df P w K mg base CX0 2 "_law_take" ["stream", "many"] sp_take) (d_law_polygon : Df P w K mg base CX0 7 "_law_polygon" ["stream", "many"] sp_poly) (d_law_moved : Df P w K mg base CX0 4 "_law_moved" ["stream", "corners"] sp_moved8)
    (d_law_is_small : Df P w K mg base CX0 1 "_law_is_small" ["corners"] sp_small) (d_law_round : Df P w K mg base CX0 6 "_law_round" ["points"] sp_round) (d_is_plate : Df P w K mg base CX0 5 "is_plate" ["thing"] sp_judge) (d_law_cut2 : Df P w K mg base CX0 6 "_law_cut" ["corners", "plates", "at", "k", "part", "keep"] sp_cut2)
    (d_law_cut_well : Df P w K mg base CX0 7 "_law_cut_well" ["corners", "plates", "at", "k", "part"] sp_well) (d_frac_add : Df P w K mg base (L2.CX P w) 5 "frac_add" ["one", "other"] (sp_frac_add C1)) (d_law_inside : Df P w K mg base CX0 7 "_law_inside" ["whole", "piece"] sp_inside) (d_law_apart : Df P w K mg base CX0 7 "_law_apart" ["pieces"] sp_apart) : FnOk P w K mg base CX0 9 f fd ["script"] (sp_law K) := by
  have sc := sc_law
  refine F.ok sc (fun vs H Q E h => ?_) (fun cdv A outer s H vs Q E hr h => ?_)
  · obtain ⟨a, ns, rfl, _⟩ := h
    rfl
  · obtain ⟨c, ns, rfl, hS, hlen, q⟩ := h
    refine ⟨_, (pss_cons (ps_asg (pe_call d_law_stream.F (hr.mono (by decide)) (by rfl) d_law_stream.g d_law_stream.kp d_law_stream.b .nil pass0 (pa_cons (pv 0) pa_nil)) (pg_name (i := 1) sc.nd rfl (.inl rfl)))
    (pss_cons (ps_asg (pe_op op_add pe_int (pe_call d_law_take.F (hr.mono (by decide)) (by rfl) d_law_take.g d_law_take.kp d_law_take.b .nil pass0 (pa_cons (pv 1) (pa_cons pe_int pa_nil)))) (pg_name (i := 2) sc.nd rfl (.inl rfl)))
    (pss_cons (ps_asg (pe_call d_law_moved.F (hr.mono (by decide)) (by rfl) d_law_moved.g d_law_moved.kp d_law_moved.b .nil pass0 (pa_cons (pv 1) (pa_cons (pe_call d_law_polygon.F (hr.mono (by decide)) (by rfl) d_law_polygon.g d_law_polygon.kp d_law_polygon.b .nil pass0 (pa_cons (pv 1) (pa_cons (pe_op op_add pe_int (pe_call d_law_take.F (hr.mono (by decide)) (by rfl) d_law_take.g d_law_take.kp d_law_take.b .nil pass0 (pa_cons (pv 1) (pa_cons pe_int pa_nil)))) pa_nil))) pa_nil))) (pg_name (i := 3) sc.nd rfl (.inr rfl)))
    (Evl.pss_cut (ps_if (pt_not (pt_val (pe_call d_law_is_small.F (hr.mono (by decide)) (by rfl) d_law_is_small.g d_law_is_small.kp d_law_is_small.b .nil pass0 (pa_cons (pv 3) pa_nil)))) (pss_one (ps_asg (pe_lst (pa_cons (pe_tup (pa_cons (pe_tup (pa_cons pe_int (pa_cons pe_int pa_nil))) (pa_cons (pe_tup (pa_cons pe_int (pa_cons pe_int pa_nil))) pa_nil))) (pa_cons (pe_tup (pa_cons (pe_tup (pa_cons pe_int (pa_cons pe_int pa_nil))) (pa_cons (pe_tup (pa_cons pe_int (pa_cons pe_int pa_nil))) pa_nil))) (pa_cons (pe_tup (pa_cons (pe_tup (pa_cons pe_int (pa_cons pe_int pa_nil))) (pa_cons (pe_tup (pa_cons pe_int (pa_cons pe_int pa_nil))) pa_nil))) pa_nil)))) (pg_name (i := 3) sc.nd rfl (.inr rfl)))) pss_nil)
    (pss_cons (ps_asg (pe_callTy cq_list (by rfl) nb.list (by decide +kernel) (pa_cons (pv 3) pa_nil)) (pg_name (i := 4) sc.nd rfl (.inl rfl)))
    (pss_cons (ps_asg (pe_lst (pa_cons (pe_listRg rfl (by rfl) nb.list (prg_1 (by rfl) nb.range (pe_callB cq_len (by rfl) nb.len (by decide +kernel) (pa_cons (pv 3) pa_nil)))) pa_nil)) (pg_name (i := 5) sc.nd rfl (.inl rfl)))
    (pss_cons (ps_asg (pe_call d_law_round.F (hr.mono (by decide)) (by rfl) d_law_round.g d_law_round.kp d_law_round.b .nil pass0 (pa_cons (pv 4) pa_nil)) (pg_name (i := 6) sc.nd rfl (.inl rfl)))
    (pss_cons (ps_if (PW.pt (pw_or (pt_cmpR oq_isN (pv 6) pe_non (nomark _)) (pw_or1 (pt_not (pt_val (pe_call d_is_plate.F (hr.mono (by decide)) (by rfl) d_is_plate.g d_is_plate.kp d_is_plate.b .nil pass0 (pa_cons (pv 4) pa_nil))))))) (pss_one (ps_ret pe_bl)) pss_nil)
    (pss_cons (ps_for PassesOwn.never rfl (pi_range1 (by rfl) nb.range (pa_cons (pv 2) pa_nil)) (pg_name (i := 7) sc.nd rfl (.inl rfl)) (pss_cons (ps_asg (pe_call d_law_take.F (hr.mono (by decide)) (by rfl) d_law_take.g d_law_take.kp d_law_take.b .nil pass0 (pa_cons (pv 1) (pa_cons (pe_callB cq_len (by rfl) nb.len (by decide +kernel) (pa_cons (pv 5) pa_nil)) pa_nil))) (pg_name (i := 8) sc.nd rfl (.inl rfl)))
    (pss_cons (ps_asg (pe_call d_law_take.F (hr.mono (by decide)) (by rfl) d_law_take.g d_law_take.kp d_law_take.b .nil pass0 (pa_cons (pv 1) (pa_cons (pe_callB cq_len (by rfl) nb.len (by decide +kernel) (pa_cons (pe_ix ix_list (pv 5) (pv 8) (fun _ _ => rfl)) pa_nil)) pa_nil))) (pg_name (i := 9) sc.nd rfl (.inl rfl)))
    (pss_cons (ps_asg (pe_tup (pa_cons (pe_op op_add pe_int (pe_call d_law_take.F (hr.mono (by decide)) (by rfl) d_law_take.g d_law_take.kp d_law_take.b .nil pass0 (pa_cons (pv 1) (pa_cons pe_int pa_nil)))) (pa_cons pe_int pa_nil))) (pg_name (i := 10) sc.nd rfl (.inl rfl)))
    (pss_cons (ps_asg (pe_callTy cq_list (by rfl) nb.list (by decide +kernel) (pa_cons (pv 3) pa_nil)) (pg_name (i := 11) sc.nd rfl (.inl rfl)))
    (pss_cons (ps_setLc (i := 12) (own := [("plate", 18)]) (g := gName 18) (tt := tYes) rfl sc.nd rfl rfl (sw_true rfl rfl rfl (by decide +kernel)) (pi_list (pv 5)) (blkOk_by (N := NN_law) (sc := defScope s_law) (by decide +kernel)) (fun _ _ _ _ _ => pg_name (i := 18) sc.nd rfl (Or.inl rfl)) (fun _ _ _ _ _ => pts_nil) (fun _ _ _ _ _ => (pe_callTy (show CallR _ _ (rListOf K) from cq_list) (by rfl) nb.list (by decide +kernel) (pa_cons (pv 18) pa_nil))))
    (pss_one (ps_if (pt_cmpR op_lt (pe_callB cq_len (by rfl) nb.len (by decide +kernel) (pa_cons (pe_ix ix_list (pv 5) (pv 8) (fun _ _ => rfl)) pa_nil)) pe_int (nomark _)) (pss_cons (ps_expr (pe_call d_law_cut2.F (hr.mono (by decide)) (by rfl) d_law_cut2.g d_law_cut2.kp d_law_cut2.b .nil pass0 (pa_cons (pv 11) (pa_cons (pv 12) (pa_cons (pv 8) (pa_cons (pv 9) (pa_cons (pv 10) (pa_cons pe_bl pa_nil))))))))
    (pss_one (ps_if (pt_val (pe_call d_law_is_small.F (hr.mono (by decide)) (by rfl) d_law_is_small.g d_law_is_small.kp d_law_is_small.b .nil pass0 (pa_cons (pv 11) pa_nil))) (pss_cons (ps_asg (pe_call d_law_cut_well.F (hr.mono (by decide)) (by rfl) d_law_cut_well.g d_law_cut_well.kp d_law_cut_well.b .nil pass0 (pa_cons (pv 3) (pa_cons (pv 5) (pa_cons (pv 8) (pa_cons (pv 9) (pa_cons (pv 10) pa_nil)))))) (pg_name (i := 13) sc.nd rfl (.inl rfl)))
    (pss_cons (ps_if (pt_cmpR oq_isN (pv 13) pe_non (nomark _)) (pss_one (ps_ret pe_bl)) pss_nil)
    (pss_one (ps_asg (pe_call d_frac_add.F (hr.mono (by decide)) (by rfl) d_frac_add.g d_frac_add.kp d_frac_add.b .nil passL (pa_cons (pv 6) (pa_cons (pe_call d_frac_add.F (hr.mono (by decide)) (by rfl) d_frac_add.g d_frac_add.kp d_frac_add.b .nil passL (pa_cons (pv 13) (pa_cons (pv 13) pa_nil))) pa_nil))) (pg_name (i := 6) sc.nd rfl (.inl rfl)))))) pss_nil))) pss_nil))))))))
    (pss_cons (ps_setLc (i := 14) (own := [("plate", 18)]) (g := gName 18) (tt := tYes) rfl sc.nd rfl rfl (sw_true rfl rfl rfl (by decide +kernel)) (pi_list (pv 5)) (blkOk_by (N := NN_law) (sc := defScope s_law) (by decide +kernel)) (fun _ _ _ _ _ => pg_name (i := 18) sc.nd rfl (Or.inl rfl)) (fun _ _ _ _ _ => pts_nil) (fun _ _ _ _ _ => (pe_lc8 (own := [("number", 19)]) (g := gName 19) (tt := tYes) (fun _ => rfl) rfl sc.nd (pi_list8 (K0 := K) rfl (pv 18)) (blkOk_by (N := NN_law) (sc := (relS { kind := .function, names := [(".0", .local), ("plate", .local), ("corners", .free)], isGenerator := false, isCoroutine := false } (defScope s_law))) (by decide +kernel)) (fun _ _ _ _ _ => pg_name (i := 19) sc.nd rfl (Or.inl rfl)) (fun _ _ _ _ _ => pts_nil) (fun _ _ _ _ _ => (pe_ix (show IxR _ (rIxL K) from ix_list) (pv 3) (pv 19) (fun _ _ => rfl))))))
    (pss_cons (ps_asg (pe_tup (pa_cons pe_int (pa_cons pe_int pa_nil))) (pg_name (i := 15) sc.nd rfl (.inl rfl)))
    (pss_cons (ps_for PassesOwn.never rfl (pi_list (pv 14)) (pg_name (i := 16) sc.nd rfl (.inl rfl)) (pss_cons (ps_asg (pe_call d_law_round.F (hr.mono (by decide)) (by rfl) d_law_round.g d_law_round.kp d_law_round.b .nil pass0 (pa_cons (pv 16) pa_nil)) (pg_name (i := 17) sc.nd rfl (.inl rfl)))
    (pss_cons (ps_if (PW.pt (pw_or (pt_cmpR oq_isN (pv 17) pe_non (nomark _)) (pw_or (pt_not (pt_val (pe_call d_is_plate.F (hr.mono (by decide)) (by rfl) d_is_plate.g d_is_plate.kp d_is_plate.b .nil pass0 (pa_cons (pv 16) pa_nil)))) (pw_or1 (pt_not (pt_val (pe_call d_law_inside.F (hr.mono (by decide)) (by rfl) d_law_inside.g d_law_inside.kp d_law_inside.b .nil pass0 (pa_cons (pv 4) (pa_cons (pv 16) pa_nil))))))))) (pss_one (ps_ret pe_bl)) pss_nil)
    (pss_one (ps_asg (pe_call d_frac_add.F (hr.mono (by decide)) (by rfl) d_frac_add.g d_frac_add.kp d_frac_add.b .nil passL (pa_cons (pv 15) (pa_cons (pv 17) pa_nil))) (pg_name (i := 15) sc.nd rfl (.inl rfl)))))))
    (pss_one (ps_ret (pe_and (pe_cmpR (op_eqD hr.units) (pv 15) (pv 6) (nomark _)) (pe_one (pe_call d_law_apart.F (hr.mono (by decide)) (by rfl) d_law_apart.g d_law_apart.kp d_law_apart.b .nil pass0 (pa_cons (pv 14) pa_nil)))))))))))))))))), ?_⟩
    (rw [show start ["script", "stream", "cuts", "corners", "whole", "plates", "total", "cut", "at", "k", "part", "trial", "trial_plates", "side", "pieces", "around", "piece", "length", "plate", "number"] [.ref c] = [some (.ref c), none, none, none, none, none, none, none, none, none, none, none, none, none, none, none, none, none, none, none] from rfl]; try dsimp only [cxOf])
    walk_at "w"
    refine ⟨c, ns, rfl, hS, fun H1 a s1 na st => ?_⟩
    have W := wd_startS st .nil
    walk_at "w"
    rename_i H2 cu W2 u0 u1 H3 nn W3 n0 n1
    refine call_S (ds := [.int (3 + nn)]) W3 (.cons (.int _) .nil) ⟨3 + nn, rfl, by omega, by omega⟩ fun H4 px pd W4 hpd => ?_
    obtain ⟨n, j, pts, cc, dd, en, rfl, lp, jn, ps, it⟩ := hpd
    have en : (n : Int) = 3 + nn := by injection en with en; injection en with en; exact en.symm
    obtain ⟨D, D0, bD, hD⟩ := ps.out (by omega)
    clear W W2 W3
    walk_at "w"
    refine call_S (ds := [.list pts]) W4 (.cons (W4.get .here) .nil) ⟨n, D, _, rfl, D0, bD, by omega, pts, rfl, lp, fun x hx => ?_⟩ fun H5 mx md W5 hmd => ?_
    · obtain ⟨i, e⟩ := List.getElem?_of_mem hx
      have hi : i < n := by rw [← lp]; exact (List.getElem?_eq_some_iff.mp e).1
      rw [it i hi] at e
      injection e with e
      exact ⟨_, _, e.symm, hD i hi⟩
    obtain ⟨R, v, b1, b2, r, s', f', eu, ev, mv, hm⟩ := hmd
    obtain ⟨es, rfl, le, ite⟩ := hm pts rfl
    obtain ⟨w, wn, wj, wc, wd, okw, g0, gE⟩ := pz_moved ps (by omega) mv
    obtain ⟨C, rfl⟩ : ∃ p, mx = .ref p := by
      have := W5.get .here
      cases this
      exact ⟨_, rfl⟩
    have itw : ∀ i, i < w.n → es[i]? = some (PQ (w.c i) (w.d i)) := fun i hi => by
      rw [ite i _ _ (it i (by omega)), wc, wd]
    clear W4 hD it ite hm bD D0
    walk_at "w"
    refine ⟨MidW a c (1 + cu), ?_, ?_⟩
    · walk_at "w"
      refine call_R (ds := [.list es]) W5 (.cons (W5.get .here) .nil) ⟨es, rfl, fun x hx => ?_⟩ fun H6 d6 hb => ?_
      · obtain ⟨i, e⟩ := List.getElem?_of_mem hx
        have hi : i < w.n := by rw [wn, ← lp, ← le]; exact (List.getElem?_eq_some_iff.mp e).1
        rw [itw i hi] at e
        injection e with e
        exact ⟨_, _, e.symm⟩
      obtain ⟨b, rfl, hb⟩ := hb
      refine v_bl fun W6 => ?_
      cases b with
      | true =>
        walk_at "w"
        have sm := hb rfl es rfl
        exact ⟨C, es, w, _, rfl, wd_startS (W6.st rfl) (.cons (W6.get (.there .here)) .nil), lst_sm (by omega) itw sm, okw, ⟨g0, by rw [wj]; exact gE⟩, by omega, by omega, sm⟩
      | false =>
        walk_at "w"
        rename_i pL WL
        have e0 : ∀ z1 z2 : Int, PyData.tuple [.tuple [.int z1, .int 1], .tuple [.int z2, .int 1]] = PQ (z1 : Rat) (z2 : Rat) := fun z1 z2 => by rw [fq_lit z1, fq_lit z2]
        have sm : ∀ x ∈ [PyData.tuple [.tuple [.int 0, .int 1], .tuple [.int 0, .int 1]], .tuple [.tuple [.int 4, .int 1], .tuple [.int 0, .int 1]], .tuple [.tuple [.int 0, .int 1], .tuple [.int 3, .int 1]]], SmallP x := fun x hx => by
          simp only [List.mem_cons, List.not_mem_nil, or_false] at hx
          rcases hx with rfl | rfl | rfl <;> exact small_lit8 (k := 0) (by decide) (by decide)
        exact ⟨pL, _, pzT, 1, rfl, wd_startS (WL.st rfl) (.cons (WL.get .here) .nil), lst_sm rfl (all3 (congrArg some (e0 0 0)) (congrArg some (e0 4 0)) (congrArg some (e0 0 3))) sm, pz_tri3, ⟨by decide, by decide⟩, by decide, by decide, sm⟩
    rintro σ' H6 ⟨C, es, w, G, rfl, W6, lst, okw, ⟨g0, gE⟩, j2, n5, sm⟩
    clear W5
    walk_at "w"
    obtain ⟨xs, hx, rxs⟩ := mp_at W6 .here
    refine ⟨C, xs, rfl, .inl (SqL.of hx), fun Wh nWh => ?_⟩
    have neWC : Wh ≠ C := fun z => by rw [z, hx] at nWh; cases nWh
    have S7 := same_new (o := .lst xs) nWh
    have W7' := (W6.go S7).put (v := .ref Wh) (d := .list es) (.lst (W6.ne nWh) upd_same (rxs.but S7.but))
    have W7 := wd_startS (W7'.st rfl) (.cons (W7'.get .here) (.cons (W7'.get (.there .here)) .nil))
    have hWh : ∃ o, (upd H6 Wh (.lst xs)) Wh = some o := ⟨_, upd_same⟩
    generalize upd H6 Wh (.lst xs) = H7 at *
    clear W6 W7' hx rxs
    walk_at "w"
    refine w_lstRg ?_
    walk_at "w"
    rw [lst.len]
    refine ⟨RgOk.of_le (by decide) (by omega) (by decide) (by omega), fun L nL => ?_⟩
    have eL : rgV 0 (w.n : Int) = (List.range w.n).map fun (i : Nat) => V.int (0 + (i : Int)) := by
      unfold rgV
      rw [show ((w.n : Int) - 0).toNat = w.n by omega]
    have W8 := (W7.go (same_new (o := .lst (rgV 0 (w.n : Int))) nL)).put (v := .ref L) (d := IntsD (List.range w.n)) (.lst (W7.ne nL) upd_same (by rw [eL]; exact ints_rps _))
    clear W7
    walk_at "v"
    refine n_lstN W8 (by walk_at "rps") rfl fun H9 Pl hP nP W9 => ?_
    have neWP : Wh ≠ Pl := fun z => by obtain ⟨o, e⟩ := hWh; rw [z, nP] at e; cases e
    clear W8
    walk_at "w"
    refine ⟨a, _, es, w, G, w.j, rfl, W9.tr, W9.get (v := .ref Wh) (by walk_at "in2"), lst, okw, ⟨g0, gE, by omega⟩, by omega, fun H10 tt s10 rt => ?_⟩
    obtain ⟨tv, rfl⟩ : ∃ p, tt = .ref p := by unfold FQ at rt; cases rt; exact ⟨_, rfl⟩
    have W10 := (W9.go s10).put rt
    clear W9
    walk_at "w"
    refine call_R (ds := [.list es]) W10 (.cons (W10.get (v := .ref Wh) (by walk_at "in2")) .nil) ⟨_, rfl, lst_gd lst (by omega)⟩ fun H11 d11 hb => ?_
    obtain ⟨b, rfl, hb⟩ := hb
    obtain rfl : b = true := (hb _ rfl).mpr ⟨es, rfl, plate_ok okw lst (by omega)⟩
    refine v_bl fun W11 => ?_
    clear W10
    walk_at "w"
    have L0 : LawS a C Wh Pl w es 0 tv [w] w.per [List.range w.n] es H11 := ⟨W11.st rfl, W11.get (v := .ref C) (by walk_at "in2"), W11.get (v := .ref Wh) (by walk_at "in2"), (show Rp a H11 (.ref Pl) (.list [IntsD (List.range w.n)]) from W11.get (by walk_at "in2")), W11.get (v := .ref tv) (by walk_at "in2"), rel8_0 lst (by omega), ⟨G, w.j, Nat.le_refl _, fam0 okw g0 gE⟩, sm, by rw [lst.len]; omega, by simp, neWC, neWP⟩
    clear W11
    refine lp_range (fun i σ' H' => ∃ tv ps T pls pts o7 o8 o9 o10 o11 o12 o13, σ' = [some (.ref c), some (.ref a), some (.int (1 + cu)), some (.ref C), some (.ref Wh), some (.ref Pl), some (.ref tv), o7, o8, o9, o10, o11, o12, o13, none, none, none, none, none, none] ∧ LawS a C Wh Pl w es i tv ps T pls pts H') ⟨_, _, _, _, _, _, _, _, _, _, _, _, rfl, L0⟩ ?_ ?_
    · rintro i σ' H12 hi ⟨tv, ps, T, pls, pts, o7, o8, o9, o10, o11, o12, o13, rfl, S⟩
      clear L0
      obtain ⟨st, rC, rW, rP, rT, rel, ⟨G', J, hJ, fam⟩, sm', lp, lq, n1, n2⟩ := S
      have hi : i < 3 := by omega
      have W := wd_startS st (.cons rC (.cons rW (.cons rP (.cons rT .nil))))
      have pl := rel.len
      walk_at "w"
      refine call_tk W (by omega) (bt_lit (x := (pls.length : Int)) 5 (by omega) |>.log (by decide)) fun H13 az W1 a0 a1 => ?_
      obtain ⟨ai, rfl⟩ := Int.eq_ofNat_of_zero_le a0
      have la : ai < ps.length := by omega
      have hp := List.getElem?_eq_getElem la
      obtain ⟨n8, nums, pa, ln, _⟩ := rel.it ai ps[ai] hp
      obtain ⟨okp, _, jp⟩ := fam.all ps[ai] (List.getElem_mem la)
      have n3 := okp.n3
      generalize hpz : ps[ai] = p at *
      walk_at "w"
      refine x_neg W1 (by walk_at "in2") (.inl rfl) (pls_at pa) (v_lst fun row W2 => ?_)
      clear W1
      walk_at "w"
      rw [ln]
      refine call_tk W2 (by omega) (bt_lit (x := (p.n : Int)) 5 (by omega) |>.log (by decide)) fun H14 kz W3 k0 k1 => ?_
      obtain ⟨k, rfl⟩ := Int.eq_ofNat_of_zero_le k0
      have hk : k < p.n := by omega
      clear W2
      walk_at "w"
      rename_i H15 y W4 y0 y1 H16 pt W5
      have hy : 1 ≤ 1 + y ∧ 1 + y ≤ 4 := by omega
      rw [FQ_five hy] at W5
      clear W4 W3
      obtain ⟨xs, hx, rxs⟩ := mp_at (p := C) (pts := pts) W5 (by walk_at "in2")
      refine ⟨C, xs, rfl, .inl (SqL.of hx), fun D nD => ?_⟩
      have neD : D ≠ a := W5.ne nD
      have nD0 := new_of W5 nD
      have W6 := (W5.go (same_new (o := .lst xs) nD)).put (v := .ref D) (d := .list pts) (.lst neD upd_same (rxs.but (same_new nD).but))
      generalize upd H16 D (.lst xs) = H17 at *
      clear hx rxs
      walk_at "w"
      refine w_lc ?_
      refine w_ilst ?_
      walk_at "w"
      refine ⟨Pl, rfl, (by obtain ⟨zs, hz⟩ := lst_of (W6.get (v := .ref Pl) (d := PlsD pls) (by walk_at "in2")); exact ⟨zs, SqL.of hz⟩), ?_⟩
      have mPl : In2 (V.ref Pl) (PlsD pls) [.ref D, .ref pt, .ref row, .ref C, .ref Wh, .ref Pl, .ref tv] [.list pts, FQ (((1 + y : Int) : Rat) / 5), IntsD nums, .list pts, .list es, PlsD pls, FQ T] := by walk_at "in2"
      refine lcp_rows W6 mPl (by rw [List.length_map]; omega) (fun i dy => ∃ q, pls[i]? = some q ∧ dy = IntsD q) (fun x => rfl) (fun i' x d' H18 Q' ei W7 hq => ?_) (fun H18 TP es' nTP W7 le' all => ?_)
      · rw [List.getElem?_map] at ei
        obtain ⟨qq, eq1, rfl⟩ : ∃ q, pls[i']? = some q ∧ d' = IntsD q := by
          cases e : pls[i']? with
          | none => rw [e] at ei; cases ei
          | some q => rw [e] at ei; cases ei; exact ⟨q, rfl, rfl⟩
        obtain ⟨rx, rfl⟩ : ∃ q, x = .ref q := by
          have := W7.get .here
          cases this
          exact ⟨_, rfl⟩
        show tCB (rListOf K) (tCons (tVar 18) tNil) [some (.ref c), some (.ref a), some (.int (1 + cu)), some (.ref C), some (.ref Wh), some (.ref Pl), some (.ref tv), some (.int (0 + (i : Int))), some (.int (ai : Int)), some (.int (k : Int)), some (.ref pt), some (.ref D), o12, o13, none, none, none, none, some (.ref rx), none] H18 Q'
        walk_at "w"
        obtain ⟨zs, hz, rz⟩ := mp_at W7 .here
        refine ⟨rx, zs, rfl, .inl (SqL.of hz), fun l nl => ?_⟩
        exact hq l _ _ nl (same_new nl) (.lst (W7.ne nl) upd_same (rz.but (same_new nl).but)) (tups_ints qq) ⟨qq, eq1, rfl⟩
      obtain rfl : es' = pls.map IntsD := by
        refine List.ext_getElem? fun q => ?_
        rw [List.length_map] at le'
        rw [List.getElem?_map]
        rcases Nat.lt_or_ge q es'.length with z | z
        · obtain ⟨qq, e1, e2⟩ := all q _ (List.getElem?_eq_getElem z)
          rw [List.getElem?_eq_getElem z, e1, e2]
          rfl
        · rw [List.getElem?_eq_none z, List.getElem?_eq_none (by omega)]
          rfl
      have nTP0 := new_of W6 nTP
      clear W6 mPl all
      walk_at "w"
      refine x_neg W7 (by walk_at "in2") (.inl rfl) (pls_at pa) (v_lst fun row2 W8 => ?_)
      clear W7
      walk_at "w"
      rw [ln]
      have neTP : TP ≠ a := by
        have := W8.get (v := .ref TP) (d := PlsD pls) (by walk_at "in2")
        cases this with
        | lst n _ _ => exact n
      have ext : ∀ z ∈ pts, ∃ u v, z = PQ u v := fun z hz => by
        obtain ⟨u, v, e, _⟩ := sm' z hz
        exact ⟨u, v, e⟩
      refine w_ifd (fun h8 => ?_) (fun h8 => ?_)
      · obtain ⟨nums', i0, I⟩ := rel8_in rel fam hp hk ext (by omega) (by omega)
        obtain ⟨x', y', x, y2, l', l, t, s0, r0, r1, co, si, th, lm, room, r2, u2, v2, W0, E0', F0, ok0, z1, z2, z3, z4, R0, F1, F2, k1, k2⟩ := pz_cut okp (by omega) hk hy
        have CA : CutAll G' (1 + y) p k x' y' x y2 l' l t s0 r0 r1 co si th lm room r2 u2 v2 W0 E0' F0 := ⟨ok0, z1, z2, z3, z4, R0, F1, F2, k1, k2⟩
        clear ok0 z1 z2 z3 z4
        walk_at "w"
        refine c_cut2 W8.tr (W8.get (v := .ref D) (by walk_at "in2")) (W8.get (v := .ref TP) (d := PlsD pls) (by walk_at "in2")) (W8.get (v := .ref pt) (by walk_at "in2")) rfl rfl I CA fun H19 fr rD rTP => ?_
        have famN := fam_cut fam hp hk CA.R CA.F0 CA.F1 CA.o1 CA.o2
        obtain ⟨a', b', a2', b2', CS⟩ := cut_see (G' := 0) (J := J + 1) okp hk CA famN.g0 famN.gE (by omega)
        have rD0 := W8.get (v := .ref D) (d := .list pts) (by walk_at "in2")
        have rTP0 := W8.get (v := .ref TP) (d := .list (pls.map IntsD)) (by walk_at "in2")
        have but0 : But a H12 H19 := fun q o h1 h2 => fr q o (fun z => by rw [z, nD0] at h2; cases h2) (fun z => by rw [z, nTP0] at h2; cases h2) (W8.but q o h1 h2)
        have st19 : Stm H19 a := stm_fr (W8.st rfl) fr neD neTP (noint_of rD0 I.tip (fun i e => by cases e)) (noint_of rTP0 (pls_at pa) (fun i e => by cases e))
        have rpt : Rp a H19 (.ref pt) (FQ (((1 + y : Int) : Rat) / 5)) := Rp.fr fr (lst_of rD0) (lst_of rTP0) (W8.get (v := .ref pt) (by walk_at "in2")) rfl
        have W9 : Wd true a H12 H19 [.ref D, .ref pt, .ref C, .ref Wh, .ref Pl, .ref tv] [.list (pts ++ [PQ (p.N1 k s0 room) (p.N2 k s0 room), PQ (p.F1 k s0 room) (p.F2 k s0 room)]), FQ (((1 + y : Int) : Rat) / 5), .list pts, .list es, PlsD pls, FQ T] := ⟨but0, fun e => (nomatch e), fun _ => st19, st19.tr, .cons rD (.cons rpt (W.r.but but0))⟩
        clear W8 rD0 rTP0 rD rTP fr W rpt but0
        walk_at "w"
        refine call_R (ds := [.list (pts ++ [PQ (p.N1 k s0 room) (p.N2 k s0 room), PQ (p.F1 k s0 room) (p.F2 k s0 room)])]) W9 (.cons (W9.get .here) .nil) ⟨_, rfl, fun x hx => ?_⟩ fun H20 d20 hb => ?_
        · rcases List.mem_append.mp hx with h | h
          · exact ext x h
          · simp only [List.mem_cons, List.not_mem_nil, or_false] at h
            rcases h with rfl | rfl <;> exact ⟨_, _, rfl⟩
        obtain ⟨b, rfl, hb⟩ := hb
        refine v_bl fun W10 => ?_
        clear W9
        have rP10 : Rp a H20 (.ref Pl) (PlsD pls) := W10.get (d := .list (pls.map IntsD)) (by walk_at "in2")
        cases b with
        | false =>
          walk_at "w"
          exact ⟨_, _, _, _, _, _, _, _, _, _, _, _, rfl, ⟨W10.st rfl, W10.get (v := .ref C) (by walk_at "in2"), W10.get (v := .ref Wh) (by walk_at "in2"), rP10, W10.get (v := .ref tv) (by walk_at "in2"), rel, ⟨G', J, by omega, fam⟩, sm', by omega, by omega, n1, n2⟩⟩
        | true =>
          have sm2 := hb rfl _ rfl
          have smN : SmP (p.N1 k s0 room) (p.N2 k s0 room) := small_smp (sm2 _ (List.mem_append_right _ List.mem_cons_self))
          have smF : SmP (p.F1 k s0 room) (p.F2 k s0 room) := small_smp (sm2 _ (List.mem_append_right _ (List.mem_cons_of_mem _ List.mem_cons_self)))
          have smI : ∀ i, i < p.n → SmP (p.c i) (p.d i) := fun i hi => by
            obtain ⟨z, _, e⟩ := I.it i hi
            exact small_smp (sm' _ (List.mem_of_getElem? e))
          have rC10 := W10.get (v := .ref C) (d := .list pts) (by walk_at "in2")
          have rW10 := W10.get (v := .ref Wh) (d := .list es) (by walk_at "in2")
          have rT10 := W10.get (v := .ref tv) (d := FQ T) (by walk_at "in2")
          walk_at "w"
          refine ⟨a, C, Pl, ai, k, .ref pt, pts, pls, nums', i0, p, G', 1 + y, x', y', x, y2, l', l, t, s0, r0, r1, co, si, th, lm, room, r2, u2, v2, W0, E0', F0, a', b', a2', b2', rfl, W10.tr, rC10, rP10, W10.get (v := .ref pt) (by walk_at "in2"), I, CA, CS, ⟨smI _ (prv_lt hk), smI k hk, smI _ (nxt_lt hk), smN, smF⟩, fun H21 sz fr2 rC2 rP2 rz => ?_⟩
          obtain ⟨sref, rfl⟩ : ∃ q, sz = .ref q := by unfold FQ at rz; cases rz; exact ⟨_, rfl⟩
          have neC : C ≠ a := by cases rC10 with | lst n _ _ => exact n
          have nePl : Pl ≠ a := by cases rP10 with | lst n _ _ => exact n
          have st21 : Stm H21 a := stm_fr (W10.st rfl) fr2 neC nePl (noint_of rC10 I.tip (fun i e => by cases e)) (noint_of rP10 (pls_at pa) (fun i e => by cases e))
          have rT21 : Rp a H21 (.ref tv) (FQ T) := Rp.fr fr2 (lst_of rC10) (lst_of rP10) rT10 rfl
          have rW21 : Rp a H21 (.ref Wh) (.list es) := by
            cases rW10 with
            | lst n h r => exact .lst n (fr2 Wh _ n1 n2 h) (Rps.fr fr2 (lst_of rC10) (lst_of rP10) r (tupOnlys_all fun d hd => by
                obtain ⟨i, hi, rfl⟩ := lst.mem hd
                rfl))
          have W11 := wd_startS st21 (.cons rz (.cons rT21 (.cons rC2 (.cons rW21 (.cons rP2 .nil)))))
          clear W10 rC10 rP10 rT10 rW10 rC2 rP2 rW21 rT21 rz fr2
          walk_at "w"
          have qs := CS.sb
          have q2 : Qb 1402 (p.sd k room + p.sd k room) := by
            have : Qb 2 (2 : Rat) := ⟨bt_lit 2 (by decide), bt_lit 2 (by decide)⟩
            rw [show p.sd k room + p.sd k room = 2 * p.sd k room by grind]
            exact (this.mul qs).mono (by decide)
          have qT : Qb 1402 T := by
            rw [← fam.per]
            exact (perS_qb fam (by omega) (fun z hz => ⟨hz, by
              obtain ⟨q, e⟩ := List.getElem?_of_mem hz
              exact (rel.it q z e).1⟩) (by omega)).mono (by decide)
          refine c_add8 W11 (W11.get .here) (W11.get .here) qs qs (by decide) fun H22 t1 W12 => ?_
          walk_at "w"
          refine c_add8 W12 (W12.get (by walk_at "in2")) (W12.get .here) qT q2 (by decide) fun H23 t2 W13 => ?_
          walk_at "w"
          exact ⟨_, _, _, _, _, _, _, _, _, _, _, _, rfl, ⟨W13.st rfl, W13.get (v := .ref C) (by walk_at "in2"), W13.get (v := .ref Wh) (by walk_at "in2"), W13.get (v := .ref Pl) (d := .list ((newPls pls ai k nums' i0 pts.length).map IntsD)) (by walk_at "in2"), W13.get .here, rel8_new rel hp (by omega) hk I.pa I.i0, ⟨_, J + 1, by omega, famN⟩, sm2, by rw [List.length_append]; show _ + 2 ≤ _; omega, by rw [List.length_append, List.length_set]; show _ ∧ _ + 1 ≤ _; exact ⟨by show 1 ≤ _ + 1; omega, by omega⟩, n1, n2⟩⟩
      · walk_at "w"
        exact ⟨_, _, _, _, _, _, _, _, _, _, _, _, rfl, ⟨W8.st rfl, W8.get (v := .ref C) (by walk_at "in2"), W8.get (v := .ref Wh) (by walk_at "in2"), W8.get (v := .ref Pl) (d := PlsD pls) (by walk_at "in2"), W8.get (v := .ref tv) (by walk_at "in2"), rel, ⟨G', J, by omega, fam⟩, sm', by omega, by omega, n1, n2⟩⟩
    · rintro σ' H12 ⟨tv, ps, T, pls, pts, o7, o8, o9, o10, o11, o12, o13, rfl, S⟩
      obtain ⟨st, rC, rW, rP, rT, rel, ⟨G', J, hJ, fam⟩, sm', lp, lq, n1, n2⟩ := S
      clear L0
      have cu2 : (1 + cu).toNat ≤ 3 := by omega
      have W := wd_startS st (.cons rC (.cons rW (.cons rP (.cons rT .nil))))
      have pl := rel.len
      walk_at "w"
      refine w_lc ?_
      refine w_ilst ?_
      walk_at "w"
      refine ⟨Pl, rfl, (by obtain ⟨zs, hz⟩ := lst_of rP; exact ⟨zs, SqL.of hz⟩), ?_⟩
      refine lcp_rows W (.there (.there .here)) (by rw [List.length_map]; omega) (fun i dy => ∃ p ys, ps[i]? = some p ∧ dy = .list ys ∧ Lst p ys) (fun x => rfl) (fun i x d' H13 Q' ei W2 hq => ?_) (fun H13 PC xss nPC W3 le all => ?_)
      · rw [List.getElem?_map] at ei
        obtain ⟨nums, eq1, rfl⟩ : ∃ q, pls[i]? = some q ∧ d' = IntsD q := by
          cases e : pls[i]? with
          | none => rw [e] at ei; cases ei
          | some q => rw [e] at ei; cases ei; exact ⟨q, rfl, rfl⟩
        obtain ⟨rx, rfl⟩ : ∃ q, x = .ref q := by
          have := W2.get .here
          cases this
          exact ⟨_, rfl⟩
        have li : i < ps.length := by rw [← pl]; exact (List.getElem?_eq_some_iff.mp eq1).1
        have hp := List.getElem?_eq_getElem li
        obtain ⟨n8, nums', pa, ln, it⟩ := rel.it i ps[i] hp
        rw [eq1] at pa
        injection pa with pa
        subst pa
        generalize ps[i] = p at *
        have sq : ∃ xs, SqL K H13 rx xs := by obtain ⟨zs, hz, _⟩ := mp_at W2 .here; exact ⟨zs, SqL.of hz⟩
        show tLc (iList K (tVar 18)) (gName 19) tYes (tOp (rIxL K) (tVar 3) (tVar 19)) [19] [some (.ref c), some (.ref a), some (.int (1 + cu)), some (.ref C), some (.ref Wh), some (.ref Pl), some (.ref tv), o7, o8, o9, o10, o11, o12, o13, none, none, none, none, some (.ref rx), none] H13 Q'
        refine w_lc ?_
        refine w_ilst ?_
        walk_at "w"
        refine ⟨rx, rfl, sq, ?_⟩
        refine lcp_new W2 .here (by rw [List.length_map]; omega) (fun j dz => ∃ z, nums[j]? = some z ∧ pts[z]? = some dz) (fun j dz ⟨z, _, e⟩ => by obtain ⟨u, v, rfl, _⟩ := sm' _ (List.mem_of_getElem? e); rfl) (fun x => rfl) (fun j yv dn H14 Q2 ej W4 hq2 => ?_) (fun H14 D2 ys nD2 W4 le2 all2 => ?_)
        · rw [List.getElem?_map] at ej
          obtain ⟨z, ez, rfl⟩ : ∃ z, nums[j]? = some z ∧ dn = .int (z : Int) := by
            cases e : nums[j]? with
            | none => rw [e] at ej; cases ej
            | some z => rw [e] at ej; cases ej; exact ⟨z, rfl, rfl⟩
          obtain rfl : yv = .int (z : Int) := by
            have := W4.get .here
            cases this
            rfl
          obtain ⟨z', e1, e2⟩ := it j (by rw [← ln]; exact (List.getElem?_eq_some_iff.mp ez).1)
          rw [ez] at e1
          injection e1 with e1
          subst e1
          show tOp (rIxL K) (tVar 3) (tVar 19) [some (.ref c), some (.ref a), some (.int (1 + cu)), some (.ref C), some (.ref Wh), some (.ref Pl), some (.ref tv), o7, o8, o9, o10, o11, o12, o13, none, none, none, none, some (.ref rx), some (.int (z : Int))] H14 Q2
          walk_at "w"
          refine x_neg W4 (.there (.there .here)) (.inl rfl) e2 (v_tup fun pz W5 => ?_)
          exact hq2 _ _ _ (W5.same rfl) (W5.get .here) ⟨z, ez, e2⟩
        · rw [List.length_map] at le2
          have ity : ∀ i, i < p.n → ys[i]? = some (PQ (p.c i) (p.d i)) := fun i hi => by
            have e := List.getElem?_eq_getElem (l := ys) (show i < ys.length by omega)
            obtain ⟨z, e1, e2⟩ := all2 i _ e
            obtain ⟨z', e3, e4⟩ := it i hi
            rw [e1] at e3
            injection e3 with e3
            subst e3
            rw [e, ← e2, e4]
          have ly : Lst p ys := ⟨by omega, ity, fun i hi => by
            obtain ⟨z, _, e⟩ := it i hi
            exact small_smp (sm' _ (List.mem_of_getElem? e))⟩
          exact hq D2 H14 ys nD2 (W4.same rfl) (W4.get .here) (tupOnlys_all fun d hd => by
            obtain ⟨i, hi, rfl⟩ := ly.mem hd
            rfl) ⟨p, ys, hp, rfl, ly⟩
      rw [List.length_map] at le
      have at_ : ∀ (i : Nat) (p : Pz), ps[i]? = some p → ∃ ys, xss[i]? = some (.list ys) ∧ Lst p ys ∧ p.n ≤ 8 := fun i p hp => by
        have e := List.getElem?_eq_getElem (l := xss) (show i < xss.length by rw [le, pl]; exact (List.getElem?_eq_some_iff.mp hp).1)
        obtain ⟨p', ys, e1, e2, e3⟩ := all i _ e
        rw [hp] at e1
        injection e1 with e1
        subst e1
        exact ⟨ys, by rw [e, e2], e3, (rel.it i p hp).1⟩
      clear W all
      walk_at "w"
      rename_i H14 z0 W4
      rw [FQ_nil] at W4
      clear W3
      obtain ⟨zs, hz, rz⟩ := mp_at (p := PC) (pts := xss) W4 (by walk_at "in2")
      have nePC : PC ≠ a := by
        have := W4.get (v := .ref PC) (d := .list xss) (by walk_at "in2")
        cases this with
        | lst n _ _ => exact n
      have W5 : Wd true a H14 H14 [.ref z0, .ref PC, .ref C, .ref Wh, .ref Pl, .ref tv] [FQ (perS (ps.take 0)), .list xss, .list pts, .list es, PlsD pls, FQ T] := wd_startS (W4.st rfl) W4.r
      have lz : zs.length = ps.length := by rw [rz.lens, le, pl]
      clear W4
      refine w_ilst ?_
      walk_at "w"
      refine ⟨PC, rfl, ⟨zs, SqL.of hz⟩, ?_⟩
      refine lp_list (xs := zs) (fun i σ' H' => ∃ ar o16 o17, σ' = [some (.ref c), some (.ref a), some (.int (1 + cu)), some (.ref C), some (.ref Wh), some (.ref Pl), some (.ref tv), o7, o8, o9, o10, o11, o12, o13, some (.ref PC), some (.ref ar), o16, o17, none, none] ∧ Wd true a H14 H' [.ref ar, .ref PC, .ref C, .ref Wh, .ref Pl, .ref tv] [FQ (perS (ps.take i)), .list xss, .list pts, .list es, PlsD pls, FQ T]) ⟨_, _, _, rfl, W5⟩ (fun i σ H' _ ⟨_, _, _, _, W6⟩ => SqL.of (W6.but PC _ nePC hz)) ?_ ?_
      · rintro i y σ' H15 hy ⟨ar, o16, o17, rfl, W6⟩
        have li : i < ps.length := by rw [← lz]; exact (List.getElem?_eq_some_iff.mp hy).1
        have hp := List.getElem?_eq_getElem li
        obtain ⟨ys, ey, ly, n8⟩ := at_ i ps[i] hp
        obtain ⟨okp, sub, _⟩ := fam.all ps[i] (List.getElem_mem li)
        have qp : Qb 1400 ps[i].per := by
          have := perS_qb fam (by omega) (qs := [ps[i]]) (fun z hz => by
            rw [List.mem_singleton.mp hz]
            exact ⟨List.getElem_mem li, n8⟩) (by show 1 ≤ 20; decide)
          rw [show perS [ps[i]] = ps[i].per + 0 from rfl, Rat.add_zero] at this
          exact this
        have qa : Qb 1400 (perS (ps.take i)) := perS_qb fam (by omega) (fun z hz => by
          have mz := List.mem_of_mem_take hz
          obtain ⟨q, e⟩ := List.getElem?_of_mem mz
          exact ⟨mz, (rel.it q z e).1⟩) (by rw [List.length_take]; omega)
        have tk := perS_take hp
        rw [tk]
        generalize ps[i] = p at *
        obtain ⟨v, e1, r1⟩ := rps_at rz ey
        rw [hy] at e1
        injection e1 with e1
        subst e1
        obtain ⟨py, rfl⟩ : ∃ q, y = .ref q := by cases r1; exact ⟨_, rfl⟩
        have W7 := W6.put (r1.but W6.but)
        clear W6 W5
        walk_at "w"
        refine ⟨a, _, ys, p, G', J, rfl, W7.tr, W7.get .here, ly, okp, ⟨fam.g0, fam.gE, by omega⟩, n8, fun H16 x s16 rx => ?_⟩
        obtain ⟨lv, rfl⟩ : ∃ q, x = .ref q := by unfold FQ at rx; cases rx; exact ⟨_, rfl⟩
        have W8 := (W7.go s16).put rx
        clear W7
        walk_at "w"
        refine call_R (ds := [.list ys]) W8 (.cons (W8.get (.there .here)) .nil) ⟨_, rfl, lst_gd ly n8⟩ fun H17 d17 hb => ?_
        obtain ⟨b, rfl, hb⟩ := hb
        obtain rfl : b = true := (hb _ rfl).mpr ⟨ys, rfl, plate_ok okp ly n8⟩
        refine v_bl fun W9 => ?_
        clear W8
        walk_at "w"
        refine ⟨a, _, _, es, ys, w, p, G, G', rfl, W9.tr, ⟨W9.get (v := .ref Wh) (by walk_at "in2"), W9.get (v := .ref py) (by walk_at "in2")⟩, ⟨lst, ly⟩, ⟨okw, okp⟩, sub, ⟨by omega, n8⟩, fun H18 s18 => ?_⟩
        have W10 := W9.go s18
        clear W9
        walk_at "w"
        refine c_add8 W10 (W10.get (v := .ref ar) (by walk_at "in2")) (W10.get (v := .ref lv) (by walk_at "in2")) qa qp (by decide) fun H19 t1 W11 => ?_
        walk_at "w"
        exact ⟨_, _, _, rfl, W11.sub (.cons (W11.get .here) (.cons (W11.get (v := .ref PC) (by walk_at "in2")) (.cons (W11.get (v := .ref C) (by walk_at "in2")) (.cons (W11.get (v := .ref Wh) (by walk_at "in2")) (.cons (W11.get (v := .ref Pl) (d := PlsD pls) (by walk_at "in2")) (.cons (W11.get (v := .ref tv) (by walk_at "in2")) .nil))))))⟩
      · rintro σ' H15 ⟨ar, o16, o17, rfl, W6⟩
        rw [lz, List.take_length, fam.per] at W6
        clear W5
        walk_at "w"
        refine ⟨FQ T, FQ T, (W6.get .here).dp rfl, (W6.get (v := .ref tv) (by walk_at "in2")).dp rfl, rfl, rfl, ?_⟩
        rw [eqv_fq]
        walk_at "w"
        exact ⟨a, _, xss, ps, w, T, G', J, rfl, W6.tr, W6.get (v := .ref PC) (by walk_at "in2"), ⟨by rw [le, pl], by omega⟩, at_, fam, fun H16 s16 => q _⟩
end

abbrev i0_NoPlate : Stmt := inClass (topS 5) 0
theorem sci_NoPlate : FnScope ["self"] ["self"] (defScope i0_NoPlate) := ⟨rfl, rfl, rfl, by decide +kernel, rfl, by decide +kernel, by decide +kernel⟩
theorem okinit_NoPlate {P : Program} {w : World} {K : PySem.W.Frag} {mg : Str → Option Value} {base : Heap} {f : Addr} {fd : FuncData} (F : Fun K "__init__" "NoPlate.__init__" i0_NoPlate f fd) : FnOk P w K mg base CX0 1 f fd ["self"] spPass := by
  refine F.ok sci_NoPlate (fun vs H Q E h => ?_) (fun cdv A outer s H vs Q E hr h => ?_)
  · obtain ⟨⟨v, rfl⟩, _⟩ := h
    rfl
  · obtain ⟨⟨v, rfl⟩, q⟩ := h
    exact ⟨_, pss_one ps_pass, q⟩
abbrev i0_NoPoint : Stmt := inClass (topS 4) 0
theorem sci_NoPoint : FnScope ["self"] ["self"] (defScope i0_NoPoint) := ⟨rfl, rfl, rfl, by decide +kernel, rfl, by decide +kernel, by decide +kernel⟩
theorem okinit_NoPoint {P : Program} {w : World} {K : PySem.W.Frag} {mg : Str → Option Value} {base : Heap} {f : Addr} {fd : FuncData} (F : Fun K "__init__" "NoPoint.__init__" i0_NoPoint f fd) : FnOk P w K mg base CX0 1 f fd ["self"] spPass := by
  refine F.ok sci_NoPoint (fun vs H Q E h => ?_) (fun cdv A outer s H vs Q E hr h => ?_)
  · obtain ⟨⟨v, rfl⟩, _⟩ := h
    rfl
  · obtain ⟨⟨v, rfl⟩, q⟩ := h
    exact ⟨_, pss_one ps_pass, q⟩
abbrev i0_NoFraction : Stmt := inClass (topS 3) 0
theorem sci_NoFraction : FnScope ["self"] ["self"] (defScope i0_NoFraction) := ⟨rfl, rfl, rfl, by decide +kernel, rfl, by decide +kernel, by decide +kernel⟩
theorem okinit_NoFraction {P : Program} {w : World} {K : PySem.W.Frag} {mg : Str → Option Value} {base : Heap} {f : Addr} {fd : FuncData} (F : Fun K "__init__" "NoFraction.__init__" i0_NoFraction f fd) : FnOk P w K mg base CX0 1 f fd ["self"] spPass := by
  refine F.ok sci_NoFraction (fun vs H Q E h => ?_) (fun cdv A outer s H vs Q E hr h => ?_)
  · obtain ⟨⟨v, rfl⟩, _⟩ := h
    rfl
  · obtain ⟨⟨v, rfl⟩, q⟩ := h
    exact ⟨_, pss_one ps_pass, q⟩
theorem all_mk {l : PySem.W.OpenLaw} {w : World} {K : PySem.W.Frag} {h : Heap} {mg : Str → Option Value} {fa : Addr} (X : K.In h) (G : h.Ns mainGlobals mg) (hfa : mg "law" = some (.ref fa))
    {f_lowest : Addr} {od_lowest an_lowest : Option Addr} {sl_lowest : Array (Option Value)} {oc_lowest kV_lowest dc_lowest pm_lowest cd_lowest ct_lowest : Value}
    {f_plus : Addr} {od_plus an_plus : Option Addr} {sl_plus : Array (Option Value)} {oc_plus kV_plus dc_plus pm_plus cd_plus ct_plus : Value}
    {f_whole_root : Addr} {od_whole_root an_whole_root : Option Addr} {sl_whole_root : Array (Option Value)} {oc_whole_root kV_whole_root dc_whole_root pm_whole_root cd_whole_root ct_whole_root : Value}
    {f_spread : Addr} {od_spread an_spread : Option Addr} {sl_spread : Array (Option Value)} {oc_spread kV_spread dc_spread pm_spread cd_spread ct_spread : Value}
    {f_arrow : Addr} {od_arrow an_arrow : Option Addr} {sl_arrow : Array (Option Value)} {oc_arrow kV_arrow dc_arrow pm_arrow cd_arrow ct_arrow : Value}
    {f_dot : Addr} {od_dot an_dot : Option Addr} {sl_dot : Array (Option Value)} {oc_dot kV_dot dc_dot pm_dot cd_dot ct_dot : Value}
    {f_size_of : Addr} {od_size_of an_size_of : Option Addr} {sl_size_of : Array (Option Value)} {oc_size_of kV_size_of dc_size_of pm_size_of cd_size_of ct_size_of : Value}
    {f_distance : Addr} {od_distance an_distance : Option Addr} {sl_distance : Array (Option Value)} {oc_distance kV_distance dc_distance pm_distance cd_distance ct_distance : Value}
    {f_line_through : Addr} {od_line_through an_line_through : Option Addr} {sl_line_through : Array (Option Value)} {oc_line_through kV_line_through dc_line_through pm_line_through cd_line_through ct_line_through : Value}
    {f_side_of : Addr} {od_side_of an_side_of : Option Addr} {sl_side_of : Array (Option Value)} {oc_side_of kV_side_of dc_side_of pm_side_of cd_side_of ct_side_of : Value}
    {f_lines_of : Addr} {od_lines_of an_lines_of : Option Addr} {sl_lines_of : Array (Option Value)} {oc_lines_of kV_lines_of dc_lines_of pm_lines_of cd_lines_of ct_lines_of : Value}
    {f_is_convex : Addr} {od_is_convex an_is_convex : Option Addr} {sl_is_convex : Array (Option Value)} {oc_is_convex kV_is_convex dc_is_convex pm_is_convex cd_is_convex ct_is_convex : Value}
    {f_has_fraction_sides : Addr} {od_has_fraction_sides an_has_fraction_sides : Option Addr} {sl_has_fraction_sides : Array (Option Value)} {oc_has_fraction_sides kV_has_fraction_sides dc_has_fraction_sides pm_has_fraction_sides cd_has_fraction_sides ct_has_fraction_sides : Value}
    {f_is_parted : Addr} {od_is_parted an_is_parted : Option Addr} {sl_is_parted : Array (Option Value)} {oc_is_parted kV_is_parted dc_is_parted pm_is_parted cd_is_parted ct_is_parted : Value}
    {f_is_integer : Addr} {od_is_integer an_is_integer : Option Addr} {sl_is_integer : Array (Option Value)} {oc_is_integer kV_is_integer dc_is_integer pm_is_integer cd_is_integer ct_is_integer : Value}
    {f_is_row : Addr} {od_is_row an_is_row : Option Addr} {sl_is_row : Array (Option Value)} {oc_is_row kV_is_row dc_is_row pm_is_row cd_is_row ct_is_row : Value}
    {f_is_tuple_of : Addr} {od_is_tuple_of an_is_tuple_of : Option Addr} {sl_is_tuple_of : Array (Option Value)} {oc_is_tuple_of kV_is_tuple_of dc_is_tuple_of pm_is_tuple_of cd_is_tuple_of ct_is_tuple_of : Value}
    {f_is_fraction : Addr} {od_is_fraction an_is_fraction : Option Addr} {sl_is_fraction : Array (Option Value)} {oc_is_fraction kV_is_fraction dc_is_fraction pm_is_fraction cd_is_fraction ct_is_fraction : Value}
    {f_are_fractions : Addr} {od_are_fractions an_are_fractions : Option Addr} {sl_are_fractions : Array (Option Value)} {oc_are_fractions kV_are_fractions dc_are_fractions pm_are_fractions cd_are_fractions ct_are_fractions : Value}
    {f_is_point : Addr} {od_is_point an_is_point : Option Addr} {sl_is_point : Array (Option Value)} {oc_is_point kV_is_point dc_is_point pm_is_point cd_is_point ct_is_point : Value}
    {f_length_of : Addr} {od_length_of an_length_of : Option Addr} {sl_length_of : Array (Option Value)} {oc_length_of kV_length_of dc_length_of pm_length_of cd_length_of ct_length_of : Value}
    {f_turn_of : Addr} {od_turn_of an_turn_of : Option Addr} {sl_turn_of : Array (Option Value)} {oc_turn_of kV_turn_of dc_turn_of pm_turn_of cd_turn_of ct_turn_of : Value}
    {f_is_plate : Addr} {od_is_plate an_is_plate : Option Addr} {sl_is_plate : Array (Option Value)} {oc_is_plate kV_is_plate dc_is_plate pm_is_plate cd_is_plate ct_is_plate : Value}
    {f_lie_over : Addr} {od_lie_over an_lie_over : Option Addr} {sl_lie_over : Array (Option Value)} {oc_lie_over kV_lie_over dc_lie_over pm_lie_over cd_lie_over ct_lie_over : Value}
    {f_check_two : Addr} {od_check_two an_check_two : Option Addr} {sl_check_two : Array (Option Value)} {oc_check_two kV_check_two dc_check_two pm_check_two cd_check_two ct_check_two : Value}
    {f_frac_add : Addr} {od_frac_add an_frac_add : Option Addr} {sl_frac_add : Array (Option Value)} {oc_frac_add kV_frac_add dc_frac_add pm_frac_add cd_frac_add ct_frac_add : Value}
    {f_law_mixed : Addr} {od_law_mixed an_law_mixed : Option Addr} {sl_law_mixed : Array (Option Value)} {oc_law_mixed kV_law_mixed dc_law_mixed pm_law_mixed cd_law_mixed ct_law_mixed : Value}
    {f_law_great : Addr} {od_law_great an_law_great : Option Addr} {sl_law_great : Array (Option Value)} {oc_law_great kV_law_great dc_law_great pm_law_great cd_law_great ct_law_great : Value}
    {f_law_stream : Addr} {od_law_stream an_law_stream : Option Addr} {sl_law_stream : Array (Option Value)} {oc_law_stream kV_law_stream dc_law_stream pm_law_stream cd_law_stream ct_law_stream : Value}
    {f_law_take : Addr} {od_law_take an_law_take : Option Addr} {sl_law_take : Array (Option Value)} {oc_law_take kV_law_take dc_law_take pm_law_take cd_law_take ct_law_take : Value}
    {f_law_low : Addr} {od_law_low an_law_low : Option Addr} {sl_law_low : Array (Option Value)} {oc_law_low kV_law_low dc_law_low pm_law_low cd_law_low ct_law_low : Value}
    {f_law_add : Addr} {od_law_add an_law_add : Option Addr} {sl_law_add : Array (Option Value)} {oc_law_add kV_law_add dc_law_add pm_law_add cd_law_add ct_law_add : Value}
    {f_law_neg : Addr} {od_law_neg an_law_neg : Option Addr} {sl_law_neg : Array (Option Value)} {oc_law_neg kV_law_neg dc_law_neg pm_law_neg cd_law_neg ct_law_neg : Value}
    {f_law_sub : Addr} {od_law_sub an_law_sub : Option Addr} {sl_law_sub : Array (Option Value)} {oc_law_sub kV_law_sub dc_law_sub pm_law_sub cd_law_sub ct_law_sub : Value}
    {f_law_mul : Addr} {od_law_mul an_law_mul : Option Addr} {sl_law_mul : Array (Option Value)} {oc_law_mul kV_law_mul dc_law_mul pm_law_mul cd_law_mul ct_law_mul : Value}
    {f_law_div : Addr} {od_law_div an_law_div : Option Addr} {sl_law_div : Array (Option Value)} {oc_law_div kV_law_div dc_law_div pm_law_div cd_law_div ct_law_div : Value}
    {f_law_least : Addr} {od_law_least an_law_least : Option Addr} {sl_law_least : Array (Option Value)} {oc_law_least kV_law_least dc_law_least pm_law_least cd_law_least ct_law_least : Value}
    {f_law_plus : Addr} {od_law_plus an_law_plus : Option Addr} {sl_law_plus : Array (Option Value)} {oc_law_plus kV_law_plus dc_law_plus pm_law_plus cd_law_plus ct_law_plus : Value}
    {f_law_minus : Addr} {od_law_minus an_law_minus : Option Addr} {sl_law_minus : Array (Option Value)} {oc_law_minus kV_law_minus dc_law_minus pm_law_minus cd_law_minus ct_law_minus : Value}
    {f_law_times : Addr} {od_law_times an_law_times : Option Addr} {sl_law_times : Array (Option Value)} {oc_law_times kV_law_times dc_law_times pm_law_times cd_law_times ct_law_times : Value}
    {f_law_cross : Addr} {od_law_cross an_law_cross : Option Addr} {sl_law_cross : Array (Option Value)} {oc_law_cross kV_law_cross dc_law_cross pm_law_cross cd_law_cross ct_law_cross : Value}
    {f_law_dot : Addr} {od_law_dot an_law_dot : Option Addr} {sl_law_dot : Array (Option Value)} {oc_law_dot kV_law_dot dc_law_dot pm_law_dot cd_law_dot ct_law_dot : Value}
    {f_law_turn : Addr} {od_law_turn an_law_turn : Option Addr} {sl_law_turn : Array (Option Value)} {oc_law_turn kV_law_turn dc_law_turn pm_law_turn cd_law_turn ct_law_turn : Value}
    {f_law_root : Addr} {od_law_root an_law_root : Option Addr} {sl_law_root : Array (Option Value)} {oc_law_root kV_law_root dc_law_root pm_law_root cd_law_root ct_law_root : Value}
    {f_law_size : Addr} {od_law_size an_law_size : Option Addr} {sl_law_size : Array (Option Value)} {oc_law_size kV_law_size dc_law_size pm_law_size cd_law_size ct_law_size : Value}
    {f_law_unit : Addr} {od_law_unit an_law_unit : Option Addr} {sl_law_unit : Array (Option Value)} {oc_law_unit kV_law_unit dc_law_unit pm_law_unit cd_law_unit ct_law_unit : Value}
    {f_law_ray : Addr} {od_law_ray an_law_ray : Option Addr} {sl_law_ray : Array (Option Value)} {oc_law_ray kV_law_ray dc_law_ray pm_law_ray cd_law_ray ct_law_ray : Value}
    {f_law_slope : Addr} {od_law_slope an_law_slope : Option Addr} {sl_law_slope : Array (Option Value)} {oc_law_slope kV_law_slope dc_law_slope pm_law_slope cd_law_slope ct_law_slope : Value}
    {f_law_cut : Addr} {od_law_cut an_law_cut : Option Addr} {sl_law_cut : Array (Option Value)} {oc_law_cut kV_law_cut dc_law_cut pm_law_cut cd_law_cut ct_law_cut : Value}
    {f_law_polygon : Addr} {od_law_polygon an_law_polygon : Option Addr} {sl_law_polygon : Array (Option Value)} {oc_law_polygon kV_law_polygon dc_law_polygon pm_law_polygon cd_law_polygon ct_law_polygon : Value}
    {f_law_moved : Addr} {od_law_moved an_law_moved : Option Addr} {sl_law_moved : Array (Option Value)} {oc_law_moved kV_law_moved dc_law_moved pm_law_moved cd_law_moved ct_law_moved : Value}
    {f_law_is_small : Addr} {od_law_is_small an_law_is_small : Option Addr} {sl_law_is_small : Array (Option Value)} {oc_law_is_small kV_law_is_small dc_law_is_small pm_law_is_small cd_law_is_small ct_law_is_small : Value}
    {f_law_is_integer : Addr} {od_law_is_integer an_law_is_integer : Option Addr} {sl_law_is_integer : Array (Option Value)} {oc_law_is_integer kV_law_is_integer dc_law_is_integer pm_law_is_integer cd_law_is_integer ct_law_is_integer : Value}
    {f_law_is_frac : Addr} {od_law_is_frac an_law_is_frac : Option Addr} {sl_law_is_frac : Array (Option Value)} {oc_law_is_frac kV_law_is_frac dc_law_is_frac pm_law_is_frac cd_law_is_frac ct_law_is_frac : Value}
    {f_law_round : Addr} {od_law_round an_law_round : Option Addr} {sl_law_round : Array (Option Value)} {oc_law_round kV_law_round dc_law_round pm_law_round cd_law_round ct_law_round : Value}
    {f_law_parts_side : Addr} {od_law_parts_side an_law_parts_side : Option Addr} {sl_law_parts_side : Array (Option Value)} {oc_law_parts_side kV_law_parts_side dc_law_parts_side pm_law_parts_side cd_law_parts_side ct_law_parts_side : Value}
    {f_law_cut_well : Addr} {od_law_cut_well an_law_cut_well : Option Addr} {sl_law_cut_well : Array (Option Value)} {oc_law_cut_well kV_law_cut_well dc_law_cut_well pm_law_cut_well cd_law_cut_well ct_law_cut_well : Value}
    {f_law_apart : Addr} {od_law_apart an_law_apart : Option Addr} {sl_law_apart : Array (Option Value)} {oc_law_apart kV_law_apart dc_law_apart pm_law_apart cd_law_apart ct_law_apart : Value}
    {f_law_inside : Addr} {od_law_inside an_law_inside : Option Addr} {sl_law_inside : Array (Option Value)} {oc_law_inside kV_law_inside dc_law_inside pm_law_inside cd_law_inside ct_law_inside : Value}
    {f_law : Addr} {od_law an_law : Option Addr} {sl_law : Array (Option Value)} {oc_law kV_law dc_law pm_law cd_law ct_law : Value}
    {C_NoPlate B_NoPlate i_NoPlate : Addr} {nm_NoPlate q_NoPlate : Str} {N_NoPlate : Addr} {bs_NoPlate : List Value} {sn_NoPlate : List Str} {sub_NoPlate : List Value} {ab_NoPlate : Bool} {col_NoPlate : Option Bool} {dd_NoPlate : Option Addr} {m0_NoPlate m1_NoPlate m2_NoPlate m3_NoPlate m5_NoPlate : Option Value}
    {iod_NoPlate ian_NoPlate : Option Addr} {isl_NoPlate : Array (Option Value)} {ioc_NoPlate ikV_NoPlate idc_NoPlate ipm_NoPlate icd_NoPlate ict_NoPlate : Value}
    {C_NoPoint B_NoPoint i_NoPoint : Addr} {nm_NoPoint q_NoPoint : Str} {N_NoPoint : Addr} {bs_NoPoint : List Value} {sn_NoPoint : List Str} {sub_NoPoint : List Value} {ab_NoPoint : Bool} {col_NoPoint : Option Bool} {dd_NoPoint : Option Addr} {m0_NoPoint m1_NoPoint m2_NoPoint m3_NoPoint m5_NoPoint : Option Value}
    {iod_NoPoint ian_NoPoint : Option Addr} {isl_NoPoint : Array (Option Value)} {ioc_NoPoint ikV_NoPoint idc_NoPoint ipm_NoPoint icd_NoPoint ict_NoPoint : Value}
    {C_NoFraction B_NoFraction i_NoFraction : Addr} {nm_NoFraction q_NoFraction : Str} {N_NoFraction : Addr} {bs_NoFraction : List Value} {sn_NoFraction : List Str} {sub_NoFraction : List Value} {ab_NoFraction : Bool} {col_NoFraction : Option Bool} {dd_NoFraction : Option Addr} {m0_NoFraction m1_NoFraction m2_NoFraction m3_NoFraction m5_NoFraction : Option Value}
    {iod_NoFraction ian_NoFraction : Option Addr} {isl_NoFraction : Array (Option Value)} {ioc_NoFraction ikV_NoFraction idc_NoFraction ipm_NoFraction icd_NoFraction ict_NoFraction : Value}
    (a_lowest : PySem.W.nsIn K mainGlobals "lowest" = some (some (.ref f_lowest)))
    (l_lowest : K.lookup f_lowest = some ⟨oc_lowest, od_lowest, .func (PySem.W.fnOf "lowest" "lowest" (defArgs s_lowest) (defBody s_lowest) (defScope s_lowest) .none kV_lowest dc_lowest pm_lowest an_lowest cd_lowest ct_lowest), sl_lowest⟩)
    (c_lowest : PySem.W.codeIn K cd_lowest "lowest" = true)
    (k_lowest : PySem.W.keepIn K (.ref f_lowest) = true)
    (a_plus : PySem.W.nsIn K mainGlobals "plus" = some (some (.ref f_plus)))
    (l_plus : K.lookup f_plus = some ⟨oc_plus, od_plus, .func (PySem.W.fnOf "plus" "plus" (defArgs s_plus) (defBody s_plus) (defScope s_plus) .none kV_plus dc_plus pm_plus an_plus cd_plus ct_plus), sl_plus⟩)
    (c_plus : PySem.W.codeIn K cd_plus "plus" = true)
    (k_plus : PySem.W.keepIn K (.ref f_plus) = true)
    (a_whole_root : PySem.W.nsIn K mainGlobals "whole_root" = some (some (.ref f_whole_root)))
    (l_whole_root : K.lookup f_whole_root = some ⟨oc_whole_root, od_whole_root, .func (PySem.W.fnOf "whole_root" "whole_root" (defArgs s_whole_root) (defBody s_whole_root) (defScope s_whole_root) .none kV_whole_root dc_whole_root pm_whole_root an_whole_root cd_whole_root ct_whole_root), sl_whole_root⟩)
    (c_whole_root : PySem.W.codeIn K cd_whole_root "whole_root" = true)
    (k_whole_root : PySem.W.keepIn K (.ref f_whole_root) = true)
    (a_spread : PySem.W.nsIn K mainGlobals "spread" = some (some (.ref f_spread)))
    (l_spread : K.lookup f_spread = some ⟨oc_spread, od_spread, .func (PySem.W.fnOf "spread" "spread" (defArgs s_spread) (defBody s_spread) (defScope s_spread) .none kV_spread dc_spread pm_spread an_spread cd_spread ct_spread), sl_spread⟩)
    (c_spread : PySem.W.codeIn K cd_spread "spread" = true)
    (k_spread : PySem.W.keepIn K (.ref f_spread) = true)
    (a_arrow : PySem.W.nsIn K mainGlobals "arrow" = some (some (.ref f_arrow)))
    (l_arrow : K.lookup f_arrow = some ⟨oc_arrow, od_arrow, .func (PySem.W.fnOf "arrow" "arrow" (defArgs s_arrow) (defBody s_arrow) (defScope s_arrow) .none kV_arrow dc_arrow pm_arrow an_arrow cd_arrow ct_arrow), sl_arrow⟩)
    (c_arrow : PySem.W.codeIn K cd_arrow "arrow" = true)
    (k_arrow : PySem.W.keepIn K (.ref f_arrow) = true)
    (a_dot : PySem.W.nsIn K mainGlobals "dot" = some (some (.ref f_dot)))
    (l_dot : K.lookup f_dot = some ⟨oc_dot, od_dot, .func (PySem.W.fnOf "dot" "dot" (defArgs s_dot) (defBody s_dot) (defScope s_dot) .none kV_dot dc_dot pm_dot an_dot cd_dot ct_dot), sl_dot⟩)
    (c_dot : PySem.W.codeIn K cd_dot "dot" = true)
    (k_dot : PySem.W.keepIn K (.ref f_dot) = true)
    (a_size_of : PySem.W.nsIn K mainGlobals "size_of" = some (some (.ref f_size_of)))
    (l_size_of : K.lookup f_size_of = some ⟨oc_size_of, od_size_of, .func (PySem.W.fnOf "size_of" "size_of" (defArgs s_size_of) (defBody s_size_of) (defScope s_size_of) .none kV_size_of dc_size_of pm_size_of an_size_of cd_size_of ct_size_of), sl_size_of⟩)
    (c_size_of : PySem.W.codeIn K cd_size_of "size_of" = true)
    (k_size_of : PySem.W.keepIn K (.ref f_size_of) = true)
    (a_distance : PySem.W.nsIn K mainGlobals "distance" = some (some (.ref f_distance)))
    (l_distance : K.lookup f_distance = some ⟨oc_distance, od_distance, .func (PySem.W.fnOf "distance" "distance" (defArgs s_distance) (defBody s_distance) (defScope s_distance) .none kV_distance dc_distance pm_distance an_distance cd_distance ct_distance), sl_distance⟩)
    (c_distance : PySem.W.codeIn K cd_distance "distance" = true)
    (k_distance : PySem.W.keepIn K (.ref f_distance) = true)
    (a_line_through : PySem.W.nsIn K mainGlobals "line_through" = some (some (.ref f_line_through)))
    (l_line_through : K.lookup f_line_through = some ⟨oc_line_through, od_line_through, .func (PySem.W.fnOf "line_through" "line_through" (defArgs s_line_through) (defBody s_line_through) (defScope s_line_through) .none kV_line_through dc_line_through pm_line_through an_line_through cd_line_through ct_line_through), sl_line_through⟩)
    (c_line_through : PySem.W.codeIn K cd_line_through "line_through" = true)
    (k_line_through : PySem.W.keepIn K (.ref f_line_through) = true)
    (a_side_of : PySem.W.nsIn K mainGlobals "side_of" = some (some (.ref f_side_of)))
    (l_side_of : K.lookup f_side_of = some ⟨oc_side_of, od_side_of, .func (PySem.W.fnOf "side_of" "side_of" (defArgs s_side_of) (defBody s_side_of) (defScope s_side_of) .none kV_side_of dc_side_of pm_side_of an_side_of cd_side_of ct_side_of), sl_side_of⟩)
    (c_side_of : PySem.W.codeIn K cd_side_of "side_of" = true)
    (k_side_of : PySem.W.keepIn K (.ref f_side_of) = true)
    (a_lines_of : PySem.W.nsIn K mainGlobals "lines_of" = some (some (.ref f_lines_of)))
    (l_lines_of : K.lookup f_lines_of = some ⟨oc_lines_of, od_lines_of, .func (PySem.W.fnOf "lines_of" "lines_of" (defArgs s_lines_of) (defBody s_lines_of) (defScope s_lines_of) .none kV_lines_of dc_lines_of pm_lines_of an_lines_of cd_lines_of ct_lines_of), sl_lines_of⟩)
    (c_lines_of : PySem.W.codeIn K cd_lines_of "lines_of" = true)
    (k_lines_of : PySem.W.keepIn K (.ref f_lines_of) = true)
    (a_is_convex : PySem.W.nsIn K mainGlobals "is_convex" = some (some (.ref f_is_convex)))
    (l_is_convex : K.lookup f_is_convex = some ⟨oc_is_convex, od_is_convex, .func (PySem.W.fnOf "is_convex" "is_convex" (defArgs s_is_convex) (defBody s_is_convex) (defScope s_is_convex) .none kV_is_convex dc_is_convex pm_is_convex an_is_convex cd_is_convex ct_is_convex), sl_is_convex⟩)
    (c_is_convex : PySem.W.codeIn K cd_is_convex "is_convex" = true)
    (k_is_convex : PySem.W.keepIn K (.ref f_is_convex) = true)
    (a_has_fraction_sides : PySem.W.nsIn K mainGlobals "has_fraction_sides" = some (some (.ref f_has_fraction_sides)))
    (l_has_fraction_sides : K.lookup f_has_fraction_sides = some ⟨oc_has_fraction_sides, od_has_fraction_sides, .func (PySem.W.fnOf "has_fraction_sides" "has_fraction_sides" (defArgs s_has_fraction_sides) (defBody s_has_fraction_sides) (defScope s_has_fraction_sides) .none kV_has_fraction_sides dc_has_fraction_sides pm_has_fraction_sides an_has_fraction_sides cd_has_fraction_sides ct_has_fraction_sides), sl_has_fraction_sides⟩)
    (c_has_fraction_sides : PySem.W.codeIn K cd_has_fraction_sides "has_fraction_sides" = true)
    (k_has_fraction_sides : PySem.W.keepIn K (.ref f_has_fraction_sides) = true)
    (a_is_parted : PySem.W.nsIn K mainGlobals "is_parted" = some (some (.ref f_is_parted)))
    (l_is_parted : K.lookup f_is_parted = some ⟨oc_is_parted, od_is_parted, .func (PySem.W.fnOf "is_parted" "is_parted" (defArgs s_is_parted) (defBody s_is_parted) (defScope s_is_parted) .none kV_is_parted dc_is_parted pm_is_parted an_is_parted cd_is_parted ct_is_parted), sl_is_parted⟩)
    (c_is_parted : PySem.W.codeIn K cd_is_parted "is_parted" = true)
    (k_is_parted : PySem.W.keepIn K (.ref f_is_parted) = true)
    (a_is_integer : PySem.W.nsIn K mainGlobals "is_integer" = some (some (.ref f_is_integer)))
    (l_is_integer : K.lookup f_is_integer = some ⟨oc_is_integer, od_is_integer, .func (PySem.W.fnOf "is_integer" "is_integer" (defArgs s_is_integer) (defBody s_is_integer) (defScope s_is_integer) .none kV_is_integer dc_is_integer pm_is_integer an_is_integer cd_is_integer ct_is_integer), sl_is_integer⟩)
    (c_is_integer : PySem.W.codeIn K cd_is_integer "is_integer" = true)
    (k_is_integer : PySem.W.keepIn K (.ref f_is_integer) = true)
    (a_is_row : PySem.W.nsIn K mainGlobals "is_row" = some (some (.ref f_is_row)))
    (l_is_row : K.lookup f_is_row = some ⟨oc_is_row, od_is_row, .func (PySem.W.fnOf "is_row" "is_row" (defArgs s_is_row) (defBody s_is_row) (defScope s_is_row) .none kV_is_row dc_is_row pm_is_row an_is_row cd_is_row ct_is_row), sl_is_row⟩)
    (c_is_row : PySem.W.codeIn K cd_is_row "is_row" = true)
    (k_is_row : PySem.W.keepIn K (.ref f_is_row) = true)
    (a_is_tuple_of : PySem.W.nsIn K mainGlobals "is_tuple_of" = some (some (.ref f_is_tuple_of)))
    (l_is_tuple_of : K.lookup f_is_tuple_of = some ⟨oc_is_tuple_of, od_is_tuple_of, .func (PySem.W.fnOf "is_tuple_of" "is_tuple_of" (defArgs s_is_tuple_of) (defBody s_is_tuple_of) (defScope s_is_tuple_of) .none kV_is_tuple_of dc_is_tuple_of pm_is_tuple_of an_is_tuple_of cd_is_tuple_of ct_is_tuple_of), sl_is_tuple_of⟩)
    (c_is_tuple_of : PySem.W.codeIn K cd_is_tuple_of "is_tuple_of" = true)
    (k_is_tuple_of : PySem.W.keepIn K (.ref f_is_tuple_of) = true)
    (a_is_fraction : PySem.W.nsIn K mainGlobals "is_fraction" = some (some (.ref f_is_fraction)))
    (l_is_fraction : K.lookup f_is_fraction = some ⟨oc_is_fraction, od_is_fraction, .func (PySem.W.fnOf "is_fraction" "is_fraction" (defArgs s_is_fraction) (defBody s_is_fraction) (defScope s_is_fraction) .none kV_is_fraction dc_is_fraction pm_is_fraction an_is_fraction cd_is_fraction ct_is_fraction), sl_is_fraction⟩)
    (c_is_fraction : PySem.W.codeIn K cd_is_fraction "is_fraction" = true)
    (k_is_fraction : PySem.W.keepIn K (.ref f_is_fraction) = true)
    (a_are_fractions : PySem.W.nsIn K mainGlobals "are_fractions" = some (some (.ref f_are_fractions)))
    (l_are_fractions : K.lookup f_are_fractions = some ⟨oc_are_fractions, od_are_fractions, .func (PySem.W.fnOf "are_fractions" "are_fractions" (defArgs s_are_fractions) (defBody s_are_fractions) (defScope s_are_fractions) .none kV_are_fractions dc_are_fractions pm_are_fractions an_are_fractions cd_are_fractions ct_are_fractions), sl_are_fractions⟩)
    (c_are_fractions : PySem.W.codeIn K cd_are_fractions "are_fractions" = true)
    (k_are_fractions : PySem.W.keepIn K (.ref f_are_fractions) = true)
    (a_is_point : PySem.W.nsIn K mainGlobals "is_point" = some (some (.ref f_is_point)))
    (l_is_point : K.lookup f_is_point = some ⟨oc_is_point, od_is_point, .func (PySem.W.fnOf "is_point" "is_point" (defArgs s_is_point) (defBody s_is_point) (defScope s_is_point) .none kV_is_point dc_is_point pm_is_point an_is_point cd_is_point ct_is_point), sl_is_point⟩)
    (c_is_point : PySem.W.codeIn K cd_is_point "is_point" = true)
    (k_is_point : PySem.W.keepIn K (.ref f_is_point) = true)
    (a_length_of : PySem.W.nsIn K mainGlobals "length_of" = some (some (.ref f_length_of)))
    (l_length_of : K.lookup f_length_of = some ⟨oc_length_of, od_length_of, .func (PySem.W.fnOf "length_of" "length_of" (defArgs s_length_of) (defBody s_length_of) (defScope s_length_of) .none kV_length_of dc_length_of pm_length_of an_length_of cd_length_of ct_length_of), sl_length_of⟩)
    (c_length_of : PySem.W.codeIn K cd_length_of "length_of" = true)
    (k_length_of : PySem.W.keepIn K (.ref f_length_of) = true)
    (a_turn_of : PySem.W.nsIn K mainGlobals "turn_of" = some (some (.ref f_turn_of)))
    (l_turn_of : K.lookup f_turn_of = some ⟨oc_turn_of, od_turn_of, .func (PySem.W.fnOf "turn_of" "turn_of" (defArgs s_turn_of) (defBody s_turn_of) (defScope s_turn_of) .none kV_turn_of dc_turn_of pm_turn_of an_turn_of cd_turn_of ct_turn_of), sl_turn_of⟩)
    (c_turn_of : PySem.W.codeIn K cd_turn_of "turn_of" = true)
    (k_turn_of : PySem.W.keepIn K (.ref f_turn_of) = true)
    (a_is_plate : PySem.W.nsIn K mainGlobals "is_plate" = some (some (.ref f_is_plate)))
    (l_is_plate : K.lookup f_is_plate = some ⟨oc_is_plate, od_is_plate, .func (PySem.W.fnOf "is_plate" "is_plate" (defArgs s_is_plate) (defBody s_is_plate) (defScope s_is_plate) .none kV_is_plate dc_is_plate pm_is_plate an_is_plate cd_is_plate ct_is_plate), sl_is_plate⟩)
    (c_is_plate : PySem.W.codeIn K cd_is_plate "is_plate" = true)
    (k_is_plate : PySem.W.keepIn K (.ref f_is_plate) = true)
    (a_lie_over : PySem.W.nsIn K mainGlobals "lie_over" = some (some (.ref f_lie_over)))
    (l_lie_over : K.lookup f_lie_over = some ⟨oc_lie_over, od_lie_over, .func (PySem.W.fnOf "lie_over" "lie_over" (defArgs s_lie_over) (defBody s_lie_over) (defScope s_lie_over) .none kV_lie_over dc_lie_over pm_lie_over an_lie_over cd_lie_over ct_lie_over), sl_lie_over⟩)
    (c_lie_over : PySem.W.codeIn K cd_lie_over "lie_over" = true)
    (k_lie_over : PySem.W.keepIn K (.ref f_lie_over) = true)
    (a_check_two : PySem.W.nsIn K mainGlobals "check_two" = some (some (.ref f_check_two)))
    (l_check_two : K.lookup f_check_two = some ⟨oc_check_two, od_check_two, .func (PySem.W.fnOf "check_two" "check_two" (defArgs s_check_two) (defBody s_check_two) (defScope s_check_two) .none kV_check_two dc_check_two pm_check_two an_check_two cd_check_two ct_check_two), sl_check_two⟩)
    (c_check_two : PySem.W.codeIn K cd_check_two "check_two" = true)
    (k_check_two : PySem.W.keepIn K (.ref f_check_two) = true)
    (a_frac_add : PySem.W.nsIn K mainGlobals "frac_add" = some (some (.ref f_frac_add)))
    (l_frac_add : K.lookup f_frac_add = some ⟨oc_frac_add, od_frac_add, .func (PySem.W.fnOf "frac_add" "frac_add" (defArgs s_frac_add) (defBody s_frac_add) (defScope s_frac_add) .none kV_frac_add dc_frac_add pm_frac_add an_frac_add cd_frac_add ct_frac_add), sl_frac_add⟩)
    (c_frac_add : PySem.W.codeIn K cd_frac_add "frac_add" = true)
    (k_frac_add : PySem.W.keepIn K (.ref f_frac_add) = true)
    (a_law_mixed : PySem.W.nsIn K mainGlobals "_law_mixed" = some (some (.ref f_law_mixed)))
    (l_law_mixed : K.lookup f_law_mixed = some ⟨oc_law_mixed, od_law_mixed, .func (PySem.W.fnOf "_law_mixed" "_law_mixed" (defArgs s_law_mixed) (defBody s_law_mixed) (defScope s_law_mixed) .none kV_law_mixed dc_law_mixed pm_law_mixed an_law_mixed cd_law_mixed ct_law_mixed), sl_law_mixed⟩)
    (c_law_mixed : PySem.W.codeIn K cd_law_mixed "_law_mixed" = true)
    (k_law_mixed : PySem.W.keepIn K (.ref f_law_mixed) = true)
    (a_law_great : PySem.W.nsIn K mainGlobals "_law_great" = some (some (.ref f_law_great)))
    (l_law_great : K.lookup f_law_great = some ⟨oc_law_great, od_law_great, .func (PySem.W.fnOf "_law_great" "_law_great" (defArgs s_law_great) (defBody s_law_great) (defScope s_law_great) .none kV_law_great dc_law_great pm_law_great an_law_great cd_law_great ct_law_great), sl_law_great⟩)
    (c_law_great : PySem.W.codeIn K cd_law_great "_law_great" = true)
    (k_law_great : PySem.W.keepIn K (.ref f_law_great) = true)
    (a_law_stream : PySem.W.nsIn K mainGlobals "_law_stream" = some (some (.ref f_law_stream)))
    (l_law_stream : K.lookup f_law_stream = some ⟨oc_law_stream, od_law_stream, .func (PySem.W.fnOf "_law_stream" "_law_stream" (defArgs s_law_stream) (defBody s_law_stream) (defScope s_law_stream) .none kV_law_stream dc_law_stream pm_law_stream an_law_stream cd_law_stream ct_law_stream), sl_law_stream⟩)
    (c_law_stream : PySem.W.codeIn K cd_law_stream "_law_stream" = true)
    (k_law_stream : PySem.W.keepIn K (.ref f_law_stream) = true)
    (a_law_take : PySem.W.nsIn K mainGlobals "_law_take" = some (some (.ref f_law_take)))
    (l_law_take : K.lookup f_law_take = some ⟨oc_law_take, od_law_take, .func (PySem.W.fnOf "_law_take" "_law_take" (defArgs s_law_take) (defBody s_law_take) (defScope s_law_take) .none kV_law_take dc_law_take pm_law_take an_law_take cd_law_take ct_law_take), sl_law_take⟩)
    (c_law_take : PySem.W.codeIn K cd_law_take "_law_take" = true)
    (k_law_take : PySem.W.keepIn K (.ref f_law_take) = true)
    (a_law_low : PySem.W.nsIn K mainGlobals "_law_low" = some (some (.ref f_law_low)))
    (l_law_low : K.lookup f_law_low = some ⟨oc_law_low, od_law_low, .func (PySem.W.fnOf "_law_low" "_law_low" (defArgs s_law_low) (defBody s_law_low) (defScope s_law_low) .none kV_law_low dc_law_low pm_law_low an_law_low cd_law_low ct_law_low), sl_law_low⟩)
    (c_law_low : PySem.W.codeIn K cd_law_low "_law_low" = true)
    (k_law_low : PySem.W.keepIn K (.ref f_law_low) = true)
    (a_law_add : PySem.W.nsIn K mainGlobals "_law_add" = some (some (.ref f_law_add)))
    (l_law_add : K.lookup f_law_add = some ⟨oc_law_add, od_law_add, .func (PySem.W.fnOf "_law_add" "_law_add" (defArgs s_law_add) (defBody s_law_add) (defScope s_law_add) .none kV_law_add dc_law_add pm_law_add an_law_add cd_law_add ct_law_add), sl_law_add⟩)
    (c_law_add : PySem.W.codeIn K cd_law_add "_law_add" = true)
    (k_law_add : PySem.W.keepIn K (.ref f_law_add) = true)
    (a_law_neg : PySem.W.nsIn K mainGlobals "_law_neg" = some (some (.ref f_law_neg)))
    (l_law_neg : K.lookup f_law_neg = some ⟨oc_law_neg, od_law_neg, .func (PySem.W.fnOf "_law_neg" "_law_neg" (defArgs s_law_neg) (defBody s_law_neg) (defScope s_law_neg) .none kV_law_neg dc_law_neg pm_law_neg an_law_neg cd_law_neg ct_law_neg), sl_law_neg⟩)
    (c_law_neg : PySem.W.codeIn K cd_law_neg "_law_neg" = true)
    (k_law_neg : PySem.W.keepIn K (.ref f_law_neg) = true)
    (a_law_sub : PySem.W.nsIn K mainGlobals "_law_sub" = some (some (.ref f_law_sub)))
    (l_law_sub : K.lookup f_law_sub = some ⟨oc_law_sub, od_law_sub, .func (PySem.W.fnOf "_law_sub" "_law_sub" (defArgs s_law_sub) (defBody s_law_sub) (defScope s_law_sub) .none kV_law_sub dc_law_sub pm_law_sub an_law_sub cd_law_sub ct_law_sub), sl_law_sub⟩)
    (c_law_sub : PySem.W.codeIn K cd_law_sub "_law_sub" = true)
    (k_law_sub : PySem.W.keepIn K (.ref f_law_sub) = true)
    (a_law_mul : PySem.W.nsIn K mainGlobals "_law_mul" = some (some (.ref f_law_mul)))
    (l_law_mul : K.lookup f_law_mul = some ⟨oc_law_mul, od_law_mul, .func (PySem.W.fnOf "_law_mul" "_law_mul" (defArgs s_law_mul) (defBody s_law_mul) (defScope s_law_mul) .none kV_law_mul dc_law_mul pm_law_mul an_law_mul cd_law_mul ct_law_mul), sl_law_mul⟩)
    (c_law_mul : PySem.W.codeIn K cd_law_mul "_law_mul" = true)
    (k_law_mul : PySem.W.keepIn K (.ref f_law_mul) = true)
    (a_law_div : PySem.W.nsIn K mainGlobals "_law_div" = some (some (.ref f_law_div)))
    (l_law_div : K.lookup f_law_div = some ⟨oc_law_div, od_law_div, .func (PySem.W.fnOf "_law_div" "_law_div" (defArgs s_law_div) (defBody s_law_div) (defScope s_law_div) .none kV_law_div dc_law_div pm_law_div an_law_div cd_law_div ct_law_div), sl_law_div⟩)
    (c_law_div : PySem.W.codeIn K cd_law_div "_law_div" = true)
    (k_law_div : PySem.W.keepIn K (.ref f_law_div) = true)
    (a_law_least : PySem.W.nsIn K mainGlobals "_law_least" = some (some (.ref f_law_least)))
    (l_law_least : K.lookup f_law_least = some ⟨oc_law_least, od_law_least, .func (PySem.W.fnOf "_law_least" "_law_least" (defArgs s_law_least) (defBody s_law_least) (defScope s_law_least) .none kV_law_least dc_law_least pm_law_least an_law_least cd_law_least ct_law_least), sl_law_least⟩)
    (c_law_least : PySem.W.codeIn K cd_law_least "_law_least" = true)
    (k_law_least : PySem.W.keepIn K (.ref f_law_least) = true)
    (a_law_plus : PySem.W.nsIn K mainGlobals "_law_plus" = some (some (.ref f_law_plus)))
    (l_law_plus : K.lookup f_law_plus = some ⟨oc_law_plus, od_law_plus, .func (PySem.W.fnOf "_law_plus" "_law_plus" (defArgs s_law_plus) (defBody s_law_plus) (defScope s_law_plus) .none kV_law_plus dc_law_plus pm_law_plus an_law_plus cd_law_plus ct_law_plus), sl_law_plus⟩)
    (c_law_plus : PySem.W.codeIn K cd_law_plus "_law_plus" = true)
    (k_law_plus : PySem.W.keepIn K (.ref f_law_plus) = true)
    (a_law_minus : PySem.W.nsIn K mainGlobals "_law_minus" = some (some (.ref f_law_minus)))
    (l_law_minus : K.lookup f_law_minus = some ⟨oc_law_minus, od_law_minus, .func (PySem.W.fnOf "_law_minus" "_law_minus" (defArgs s_law_minus) (defBody s_law_minus) (defScope s_law_minus) .none kV_law_minus dc_law_minus pm_law_minus an_law_minus cd_law_minus ct_law_minus), sl_law_minus⟩)
    (c_law_minus : PySem.W.codeIn K cd_law_minus "_law_minus" = true)
    (k_law_minus : PySem.W.keepIn K (.ref f_law_minus) = true)
    (a_law_times : PySem.W.nsIn K mainGlobals "_law_times" = some (some (.ref f_law_times)))
    (l_law_times : K.lookup f_law_times = some ⟨oc_law_times, od_law_times, .func (PySem.W.fnOf "_law_times" "_law_times" (defArgs s_law_times) (defBody s_law_times) (defScope s_law_times) .none kV_law_times dc_law_times pm_law_times an_law_times cd_law_times ct_law_times), sl_law_times⟩)
    (c_law_times : PySem.W.codeIn K cd_law_times "_law_times" = true)
    (k_law_times : PySem.W.keepIn K (.ref f_law_times) = true)
    (a_law_cross : PySem.W.nsIn K mainGlobals "_law_cross" = some (some (.ref f_law_cross)))
    (l_law_cross : K.lookup f_law_cross = some ⟨oc_law_cross, od_law_cross, .func (PySem.W.fnOf "_law_cross" "_law_cross" (defArgs s_law_cross) (defBody s_law_cross) (defScope s_law_cross) .none kV_law_cross dc_law_cross pm_law_cross an_law_cross cd_law_cross ct_law_cross), sl_law_cross⟩)
    (c_law_cross : PySem.W.codeIn K cd_law_cross "_law_cross" = true)
    (k_law_cross : PySem.W.keepIn K (.ref f_law_cross) = true)
    (a_law_dot : PySem.W.nsIn K mainGlobals "_law_dot" = some (some (.ref f_law_dot)))
    (l_law_dot : K.lookup f_law_dot = some ⟨oc_law_dot, od_law_dot, .func (PySem.W.fnOf "_law_dot" "_law_dot" (defArgs s_law_dot) (defBody s_law_dot) (defScope s_law_dot) .none kV_law_dot dc_law_dot pm_law_dot an_law_dot cd_law_dot ct_law_dot), sl_law_dot⟩)
    (c_law_dot : PySem.W.codeIn K cd_law_dot "_law_dot" = true)
    (k_law_dot : PySem.W.keepIn K (.ref f_law_dot) = true)
    (a_law_turn : PySem.W.nsIn K mainGlobals "_law_turn" = some (some (.ref f_law_turn)))
    (l_law_turn : K.lookup f_law_turn = some ⟨oc_law_turn, od_law_turn, .func (PySem.W.fnOf "_law_turn" "_law_turn" (defArgs s_law_turn) (defBody s_law_turn) (defScope s_law_turn) .none kV_law_turn dc_law_turn pm_law_turn an_law_turn cd_law_turn ct_law_turn), sl_law_turn⟩)
    (c_law_turn : PySem.W.codeIn K cd_law_turn "_law_turn" = true)
    (k_law_turn : PySem.W.keepIn K (.ref f_law_turn) = true)
    (a_law_root : PySem.W.nsIn K mainGlobals "_law_root" = some (some (.ref f_law_root)))
    (l_law_root : K.lookup f_law_root = some ⟨oc_law_root, od_law_root, .func (PySem.W.fnOf "_law_root" "_law_root" (defArgs s_law_root) (defBody s_law_root) (defScope s_law_root) .none kV_law_root dc_law_root pm_law_root an_law_root cd_law_root ct_law_root), sl_law_root⟩)
    (c_law_root : PySem.W.codeIn K cd_law_root "_law_root" = true)
    (k_law_root : PySem.W.keepIn K (.ref f_law_root) = true)
    (a_law_size : PySem.W.nsIn K mainGlobals "_law_size" = some (some (.ref f_law_size)))
    (l_law_size : K.lookup f_law_size = some ⟨oc_law_size, od_law_size, .func (PySem.W.fnOf "_law_size" "_law_size" (defArgs s_law_size) (defBody s_law_size) (defScope s_law_size) .none kV_law_size dc_law_size pm_law_size an_law_size cd_law_size ct_law_size), sl_law_size⟩)
    (c_law_size : PySem.W.codeIn K cd_law_size "_law_size" = true)
    (k_law_size : PySem.W.keepIn K (.ref f_law_size) = true)
    (a_law_unit : PySem.W.nsIn K mainGlobals "_law_unit" = some (some (.ref f_law_unit)))
    (l_law_unit : K.lookup f_law_unit = some ⟨oc_law_unit, od_law_unit, .func (PySem.W.fnOf "_law_unit" "_law_unit" (defArgs s_law_unit) (defBody s_law_unit) (defScope s_law_unit) .none kV_law_unit dc_law_unit pm_law_unit an_law_unit cd_law_unit ct_law_unit), sl_law_unit⟩)
    (c_law_unit : PySem.W.codeIn K cd_law_unit "_law_unit" = true)
    (k_law_unit : PySem.W.keepIn K (.ref f_law_unit) = true)
    (a_law_ray : PySem.W.nsIn K mainGlobals "_law_ray" = some (some (.ref f_law_ray)))
    (l_law_ray : K.lookup f_law_ray = some ⟨oc_law_ray, od_law_ray, .func (PySem.W.fnOf "_law_ray" "_law_ray" (defArgs s_law_ray) (defBody s_law_ray) (defScope s_law_ray) .none kV_law_ray dc_law_ray pm_law_ray an_law_ray cd_law_ray ct_law_ray), sl_law_ray⟩)
    (c_law_ray : PySem.W.codeIn K cd_law_ray "_law_ray" = true)
    (k_law_ray : PySem.W.keepIn K (.ref f_law_ray) = true)
    (a_law_slope : PySem.W.nsIn K mainGlobals "_law_slope" = some (some (.ref f_law_slope)))
    (l_law_slope : K.lookup f_law_slope = some ⟨oc_law_slope, od_law_slope, .func (PySem.W.fnOf "_law_slope" "_law_slope" (defArgs s_law_slope) (defBody s_law_slope) (defScope s_law_slope) .none kV_law_slope dc_law_slope pm_law_slope an_law_slope cd_law_slope ct_law_slope), sl_law_slope⟩)
    (c_law_slope : PySem.W.codeIn K cd_law_slope "_law_slope" = true)
    (k_law_slope : PySem.W.keepIn K (.ref f_law_slope) = true)
    (a_law_cut : PySem.W.nsIn K mainGlobals "_law_cut" = some (some (.ref f_law_cut)))
    (l_law_cut : K.lookup f_law_cut = some ⟨oc_law_cut, od_law_cut, .func (PySem.W.fnOf "_law_cut" "_law_cut" (defArgs s_law_cut) (defBody s_law_cut) (defScope s_law_cut) .none kV_law_cut dc_law_cut pm_law_cut an_law_cut cd_law_cut ct_law_cut), sl_law_cut⟩)
    (c_law_cut : PySem.W.codeIn K cd_law_cut "_law_cut" = true)
    (k_law_cut : PySem.W.keepIn K (.ref f_law_cut) = true)
    (a_law_polygon : PySem.W.nsIn K mainGlobals "_law_polygon" = some (some (.ref f_law_polygon)))
    (l_law_polygon : K.lookup f_law_polygon = some ⟨oc_law_polygon, od_law_polygon, .func (PySem.W.fnOf "_law_polygon" "_law_polygon" (defArgs s_law_polygon) (defBody s_law_polygon) (defScope s_law_polygon) .none kV_law_polygon dc_law_polygon pm_law_polygon an_law_polygon cd_law_polygon ct_law_polygon), sl_law_polygon⟩)
    (c_law_polygon : PySem.W.codeIn K cd_law_polygon "_law_polygon" = true)
    (k_law_polygon : PySem.W.keepIn K (.ref f_law_polygon) = true)
    (a_law_moved : PySem.W.nsIn K mainGlobals "_law_moved" = some (some (.ref f_law_moved)))
    (l_law_moved : K.lookup f_law_moved = some ⟨oc_law_moved, od_law_moved, .func (PySem.W.fnOf "_law_moved" "_law_moved" (defArgs s_law_moved) (defBody s_law_moved) (defScope s_law_moved) .none kV_law_moved dc_law_moved pm_law_moved an_law_moved cd_law_moved ct_law_moved), sl_law_moved⟩)
    (c_law_moved : PySem.W.codeIn K cd_law_moved "_law_moved" = true)
    (k_law_moved : PySem.W.keepIn K (.ref f_law_moved) = true)
    (a_law_is_small : PySem.W.nsIn K mainGlobals "_law_is_small" = some (some (.ref f_law_is_small)))
    (l_law_is_small : K.lookup f_law_is_small = some ⟨oc_law_is_small, od_law_is_small, .func (PySem.W.fnOf "_law_is_small" "_law_is_small" (defArgs s_law_is_small) (defBody s_law_is_small) (defScope s_law_is_small) .none kV_law_is_small dc_law_is_small pm_law_is_small an_law_is_small cd_law_is_small ct_law_is_small), sl_law_is_small⟩)
    (c_law_is_small : PySem.W.codeIn K cd_law_is_small "_law_is_small" = true)
    (k_law_is_small : PySem.W.keepIn K (.ref f_law_is_small) = true)
    (a_law_is_integer : PySem.W.nsIn K mainGlobals "_law_is_integer" = some (some (.ref f_law_is_integer)))
    (l_law_is_integer : K.lookup f_law_is_integer = some ⟨oc_law_is_integer, od_law_is_integer, .func (PySem.W.fnOf "_law_is_integer" "_law_is_integer" (defArgs s_law_is_integer) (defBody s_law_is_integer) (defScope s_law_is_integer) .none kV_law_is_integer dc_law_is_integer pm_law_is_integer an_law_is_integer cd_law_is_integer ct_law_is_integer), sl_law_is_integer⟩)
    (c_law_is_integer : PySem.W.codeIn K cd_law_is_integer "_law_is_integer" = true)
    (k_law_is_integer : PySem.W.keepIn K (.ref f_law_is_integer) = true)
    (a_law_is_frac : PySem.W.nsIn K mainGlobals "_law_is_frac" = some (some (.ref f_law_is_frac)))
    (l_law_is_frac : K.lookup f_law_is_frac = some ⟨oc_law_is_frac, od_law_is_frac, .func (PySem.W.fnOf "_law_is_frac" "_law_is_frac" (defArgs s_law_is_frac) (defBody s_law_is_frac) (defScope s_law_is_frac) .none kV_law_is_frac dc_law_is_frac pm_law_is_frac an_law_is_frac cd_law_is_frac ct_law_is_frac), sl_law_is_frac⟩)
    (c_law_is_frac : PySem.W.codeIn K cd_law_is_frac "_law_is_frac" = true)
    (k_law_is_frac : PySem.W.keepIn K (.ref f_law_is_frac) = true)
    (a_law_round : PySem.W.nsIn K mainGlobals "_law_round" = some (some (.ref f_law_round)))
    (l_law_round : K.lookup f_law_round = some ⟨oc_law_round, od_law_round, .func (PySem.W.fnOf "_law_round" "_law_round" (defArgs s_law_round) (defBody s_law_round) (defScope s_law_round) .none kV_law_round dc_law_round pm_law_round an_law_round cd_law_round ct_law_round), sl_law_round⟩)
    (c_law_round : PySem.W.codeIn K cd_law_round "_law_round" = true)
    (k_law_round : PySem.W.keepIn K (.ref f_law_round) = true)
    (a_law_parts_side : PySem.W.nsIn K mainGlobals "_law_parts_side" = some (some (.ref f_law_parts_side)))
    (l_law_parts_side : K.lookup f_law_parts_side = some ⟨oc_law_parts_side, od_law_parts_side, .func (PySem.W.fnOf "_law_parts_side" "_law_parts_side" (defArgs s_law_parts_side) (defBody s_law_parts_side) (defScope s_law_parts_side) .none kV_law_parts_side dc_law_parts_side pm_law_parts_side an_law_parts_side cd_law_parts_side ct_law_parts_side), sl_law_parts_side⟩)
    (c_law_parts_side : PySem.W.codeIn K cd_law_parts_side "_law_parts_side" = true)
    (k_law_parts_side : PySem.W.keepIn K (.ref f_law_parts_side) = true)
    (a_law_cut_well : PySem.W.nsIn K mainGlobals "_law_cut_well" = some (some (.ref f_law_cut_well)))
    (l_law_cut_well : K.lookup f_law_cut_well = some ⟨oc_law_cut_well, od_law_cut_well, .func (PySem.W.fnOf "_law_cut_well" "_law_cut_well" (defArgs s_law_cut_well) (defBody s_law_cut_well) (defScope s_law_cut_well) .none kV_law_cut_well dc_law_cut_well pm_law_cut_well an_law_cut_well cd_law_cut_well ct_law_cut_well), sl_law_cut_well⟩)
    (c_law_cut_well : PySem.W.codeIn K cd_law_cut_well "_law_cut_well" = true)
    (k_law_cut_well : PySem.W.keepIn K (.ref f_law_cut_well) = true)
    (a_law_apart : PySem.W.nsIn K mainGlobals "_law_apart" = some (some (.ref f_law_apart)))
    (l_law_apart : K.lookup f_law_apart = some ⟨oc_law_apart, od_law_apart, .func (PySem.W.fnOf "_law_apart" "_law_apart" (defArgs s_law_apart) (defBody s_law_apart) (defScope s_law_apart) .none kV_law_apart dc_law_apart pm_law_apart an_law_apart cd_law_apart ct_law_apart), sl_law_apart⟩)
    (c_law_apart : PySem.W.codeIn K cd_law_apart "_law_apart" = true)
    (k_law_apart : PySem.W.keepIn K (.ref f_law_apart) = true)
    (a_law_inside : PySem.W.nsIn K mainGlobals "_law_inside" = some (some (.ref f_law_inside)))
    (l_law_inside : K.lookup f_law_inside = some ⟨oc_law_inside, od_law_inside, .func (PySem.W.fnOf "_law_inside" "_law_inside" (defArgs s_law_inside) (defBody s_law_inside) (defScope s_law_inside) .none kV_law_inside dc_law_inside pm_law_inside an_law_inside cd_law_inside ct_law_inside), sl_law_inside⟩)
    (c_law_inside : PySem.W.codeIn K cd_law_inside "_law_inside" = true)
    (k_law_inside : PySem.W.keepIn K (.ref f_law_inside) = true)
    (a_law : PySem.W.nsIn K mainGlobals "law" = some (some (.ref f_law)))
    (l_law : K.lookup f_law = some ⟨oc_law, od_law, .func (PySem.W.fnOf "law" "law" (defArgs s_law) (defBody s_law) (defScope s_law) .none kV_law dc_law pm_law an_law cd_law ct_law), sl_law⟩)
    (c_law : PySem.W.codeIn K cd_law "law" = true)
    (k_law : PySem.W.keepIn K (.ref f_law) = true)
    (aC_NoPlate : PySem.W.nsIn K mainGlobals "NoPlate" = some (some (.ref C_NoPlate)))
    (xL_NoPlate : K.lookup C_NoPlate = some (excClassObj nm_NoPlate q_NoPlate C_NoPlate N_NoPlate bs_NoPlate [.ref B_NoPlate, .type "ValueError", .type "Exception", .type "BaseException", .type "object"] true sn_NoPlate sub_NoPlate ab_NoPlate col_NoPlate dd_NoPlate m0_NoPlate m1_NoPlate m2_NoPlate m3_NoPlate m5_NoPlate "ValueError.__new__"))
    (sa_NoPlate : PySem.W.findIn K (.ref C_NoPlate) "__setattr__" = some (some (.builtin "object.__setattr__")))
    (in_NoPlate : PySem.W.findIn K (.ref C_NoPlate) "__init__" = some (some (.ref i_NoPlate)))
    (ti_NoPlate : PySem.W.typeIn K (.ref i_NoPlate) = some (.type "function"))
    (li_NoPlate : K.lookup i_NoPlate = some ⟨ioc_NoPlate, iod_NoPlate, .func (PySem.W.fnOf "__init__" "NoPlate.__init__" (defArgs i0_NoPlate) (defBody i0_NoPlate) (defScope i0_NoPlate) .none ikV_NoPlate idc_NoPlate ipm_NoPlate ian_NoPlate icd_NoPlate ict_NoPlate), isl_NoPlate⟩)
    (ci_NoPlate : PySem.W.codeIn K icd_NoPlate "NoPlate.__init__" = true)
    (ki_NoPlate : PySem.W.keepIn K (.ref i_NoPlate) = true)
    (kC_NoPlate : PySem.W.keepIn K (.ref C_NoPlate) = true)
    (eC_NoPlate : PySem.W.subIn K (.ref C_NoPlate) (.type "BaseException") = some true)
    (tC_NoPlate : PySem.W.typeIn K (.ref C_NoPlate) = some (.type "type"))
    (iC_NoPlate : PySem.W.isClsIn K C_NoPlate = true)
    (sC_NoPlate : PySem.W.subIn K (.ref C_NoPlate) (.ref C_NoPlate) = some true)
    (aC_NoPoint : PySem.W.nsIn K mainGlobals "NoPoint" = some (some (.ref C_NoPoint)))
    (xL_NoPoint : K.lookup C_NoPoint = some (excClassObj nm_NoPoint q_NoPoint C_NoPoint N_NoPoint bs_NoPoint [.ref B_NoPoint, .type "ValueError", .type "Exception", .type "BaseException", .type "object"] true sn_NoPoint sub_NoPoint ab_NoPoint col_NoPoint dd_NoPoint m0_NoPoint m1_NoPoint m2_NoPoint m3_NoPoint m5_NoPoint "ValueError.__new__"))
    (sa_NoPoint : PySem.W.findIn K (.ref C_NoPoint) "__setattr__" = some (some (.builtin "object.__setattr__")))
    (in_NoPoint : PySem.W.findIn K (.ref C_NoPoint) "__init__" = some (some (.ref i_NoPoint)))
    (ti_NoPoint : PySem.W.typeIn K (.ref i_NoPoint) = some (.type "function"))
    (li_NoPoint : K.lookup i_NoPoint = some ⟨ioc_NoPoint, iod_NoPoint, .func (PySem.W.fnOf "__init__" "NoPoint.__init__" (defArgs i0_NoPoint) (defBody i0_NoPoint) (defScope i0_NoPoint) .none ikV_NoPoint idc_NoPoint ipm_NoPoint ian_NoPoint icd_NoPoint ict_NoPoint), isl_NoPoint⟩)
    (ci_NoPoint : PySem.W.codeIn K icd_NoPoint "NoPoint.__init__" = true)
    (ki_NoPoint : PySem.W.keepIn K (.ref i_NoPoint) = true)
    (kC_NoPoint : PySem.W.keepIn K (.ref C_NoPoint) = true)
    (eC_NoPoint : PySem.W.subIn K (.ref C_NoPoint) (.type "BaseException") = some true)
    (tC_NoPoint : PySem.W.typeIn K (.ref C_NoPoint) = some (.type "type"))
    (iC_NoPoint : PySem.W.isClsIn K C_NoPoint = true)
    (sC_NoPoint : PySem.W.subIn K (.ref C_NoPoint) (.ref C_NoPoint) = some true)
    (aC_NoFraction : PySem.W.nsIn K mainGlobals "NoFraction" = some (some (.ref C_NoFraction)))
    (xL_NoFraction : K.lookup C_NoFraction = some (excClassObj nm_NoFraction q_NoFraction C_NoFraction N_NoFraction bs_NoFraction [.ref B_NoFraction, .type "ValueError", .type "Exception", .type "BaseException", .type "object"] true sn_NoFraction sub_NoFraction ab_NoFraction col_NoFraction dd_NoFraction m0_NoFraction m1_NoFraction m2_NoFraction m3_NoFraction m5_NoFraction "ValueError.__new__"))
    (sa_NoFraction : PySem.W.findIn K (.ref C_NoFraction) "__setattr__" = some (some (.builtin "object.__setattr__")))
    (in_NoFraction : PySem.W.findIn K (.ref C_NoFraction) "__init__" = some (some (.ref i_NoFraction)))
    (ti_NoFraction : PySem.W.typeIn K (.ref i_NoFraction) = some (.type "function"))
    (li_NoFraction : K.lookup i_NoFraction = some ⟨ioc_NoFraction, iod_NoFraction, .func (PySem.W.fnOf "__init__" "NoFraction.__init__" (defArgs i0_NoFraction) (defBody i0_NoFraction) (defScope i0_NoFraction) .none ikV_NoFraction idc_NoFraction ipm_NoFraction ian_NoFraction icd_NoFraction ict_NoFraction), isl_NoFraction⟩)
    (ci_NoFraction : PySem.W.codeIn K icd_NoFraction "NoFraction.__init__" = true)
    (ki_NoFraction : PySem.W.keepIn K (.ref i_NoFraction) = true)
    (kC_NoFraction : PySem.W.keepIn K (.ref C_NoFraction) = true)
    (eC_NoFraction : PySem.W.subIn K (.ref C_NoFraction) (.type "BaseException") = some true)
    (tC_NoFraction : PySem.W.typeIn K (.ref C_NoFraction) = some (.type "type"))
    (iC_NoFraction : PySem.W.isClsIn K C_NoFraction = true)
    (sC_NoFraction : PySem.W.subIn K (.ref C_NoFraction) (.ref C_NoFraction) = some true)
    (z_int : PySem.W.nsIn K mainGlobals "int" = some none)
    (z_bool : PySem.W.nsIn K mainGlobals "bool" = some none)
    (z_tuple : PySem.W.nsIn K mainGlobals "tuple" = some none)
    (z_list : PySem.W.nsIn K mainGlobals "list" = some none)
    (z_len : PySem.W.nsIn K mainGlobals "len" = some none)
    (z_abs : PySem.W.nsIn K mainGlobals "abs" = some none)
    (z_min : PySem.W.nsIn K mainGlobals "min" = some none)
    (z_max : PySem.W.nsIn K mainGlobals "max" = some none)
    (z_range : PySem.W.nsIn K mainGlobals "range" = some none)
    (z_isinstance : PySem.W.nsIn K mainGlobals "isinstance" = some none)
    (z_enumerate : PySem.W.nsIn K mainGlobals "enumerate" = some none)
    (z_zip : PySem.W.nsIn K mainGlobals "zip" = some none)
    (z_sum : PySem.W.nsIn K mainGlobals "sum" = some none)
    (z_str : PySem.W.nsIn K mainGlobals "str" = some none)
    (z_sorted : PySem.W.nsIn K mainGlobals "sorted" = some none)
    (z_divmod : PySem.W.nsIn K mainGlobals "divmod" = some none)
    (z_all : PySem.W.nsIn K mainGlobals "all" = some none)
    (z_any : PySem.W.nsIn K mainGlobals "any" = some none)
    (z_reversed : PySem.W.nsIn K mainGlobals "reversed" = some none)
    (z_dict : PySem.W.nsIn K mainGlobals "dict" = some none)
    (y_gcd : PySem.W.nsIn K mainGlobals "gcd" = some (some (.builtin "math.gcd")))
    (y_isqrt : PySem.W.nsIn K mainGlobals "isqrt" = some (some (.builtin "math.isqrt")))
    (y_lcm : PySem.W.nsIn K mainGlobals "lcm" = some (some (.builtin "math.lcm"))) :
    ∃ fd : FuncData, (∀ (s : Shared) (v : Value), BindsTo s fd ⟨[v], []⟩ [("script", v)]) ∧ ∀ base : Heap, K.In base → base.Ns mainGlobals mg → FnOk l.prog w K mg base CX0 9 fa fd ["script"] (sp_law K) := by
  have e := hfa.symm.trans (PySem.W.mg_of X G a_law)
  cases e
  have nb : Nb mg := { int := PySem.W.mg_none_of X G z_int, bool := PySem.W.mg_none_of X G z_bool, tuple := PySem.W.mg_none_of X G z_tuple, list := PySem.W.mg_none_of X G z_list, len := PySem.W.mg_none_of X G z_len, abs := PySem.W.mg_none_of X G z_abs, min := PySem.W.mg_none_of X G z_min, max := PySem.W.mg_none_of X G z_max, range := PySem.W.mg_none_of X G z_range, isinstance := PySem.W.mg_none_of X G z_isinstance, enumerate := PySem.W.mg_none_of X G z_enumerate, zip := PySem.W.mg_none_of X G z_zip, sum := PySem.W.mg_none_of X G z_sum, str := PySem.W.mg_none_of X G z_str, sorted := PySem.W.mg_none_of X G z_sorted, divmod := PySem.W.mg_none_of X G z_divmod, all := PySem.W.mg_none_of X G z_all, any := PySem.W.mg_none_of X G z_any, reversed := PySem.W.mg_none_of X G z_reversed, dict := PySem.W.mg_none_of X G z_dict }
  have mi_gcd := PySem.W.mg_of X G y_gcd
  have mi_isqrt := PySem.W.mg_of X G y_isqrt
  have mi_lcm := PySem.W.mg_of X G y_lcm
  have F_lowest := fun_mk (st := s_lowest) l_lowest c_lowest k_lowest
  have b_lowest := F_lowest.binds (ps := ["top", "bottom"]) fun _ _ _ _ _ _ us hl => match us, hl with | [_, _], _ => rfl
  have F_plus := fun_mk (st := s_plus) l_plus c_plus k_plus
  have b_plus := F_plus.binds (ps := ["one", "other"]) fun _ _ _ _ _ _ us hl => match us, hl with | [_, _], _ => rfl
  have F_whole_root := fun_mk (st := s_whole_root) l_whole_root c_whole_root k_whole_root
  have b_whole_root := F_whole_root.binds (ps := ["number"]) fun _ _ _ _ _ _ us hl => match us, hl with | [_], _ => rfl
  have F_spread := fun_mk (st := s_spread) l_spread c_spread k_spread
  have b_spread := F_spread.binds (ps := ["point"]) fun _ _ _ _ _ _ us hl => match us, hl with | [_], _ => rfl
  have F_arrow := fun_mk (st := s_arrow) l_arrow c_arrow k_arrow
  have b_arrow := F_arrow.binds (ps := ["one", "other"]) fun _ _ _ _ _ _ us hl => match us, hl with | [_, _], _ => rfl
  have F_dot := fun_mk (st := s_dot) l_dot c_dot k_dot
  have b_dot := F_dot.binds (ps := ["one", "other"]) fun _ _ _ _ _ _ us hl => match us, hl with | [_, _], _ => rfl
  have F_size_of := fun_mk (st := s_size_of) l_size_of c_size_of k_size_of
  have b_size_of := F_size_of.binds (ps := ["vector"]) fun _ _ _ _ _ _ us hl => match us, hl with | [_], _ => rfl
  have F_distance := fun_mk (st := s_distance) l_distance c_distance k_distance
  have b_distance := F_distance.binds (ps := ["one", "other"]) fun _ _ _ _ _ _ us hl => match us, hl with | [_, _], _ => rfl
  have F_line_through := fun_mk (st := s_line_through) l_line_through c_line_through k_line_through
  have b_line_through := F_line_through.binds (ps := ["one", "other"]) fun _ _ _ _ _ _ us hl => match us, hl with | [_, _], _ => rfl
  have F_side_of := fun_mk (st := s_side_of) l_side_of c_side_of k_side_of
  have b_side_of := F_side_of.binds (ps := ["line", "spot"]) fun _ _ _ _ _ _ us hl => match us, hl with | [_, _], _ => rfl
  have F_lines_of := fun_mk (st := s_lines_of) l_lines_of c_lines_of k_lines_of
  have b_lines_of := F_lines_of.binds (ps := ["spots"]) fun _ _ _ _ _ _ us hl => match us, hl with | [_], _ => rfl
  have F_is_convex := fun_mk (st := s_is_convex) l_is_convex c_is_convex k_is_convex
  have b_is_convex := F_is_convex.binds (ps := ["spots"]) fun _ _ _ _ _ _ us hl => match us, hl with | [_], _ => rfl
  have F_has_fraction_sides := fun_mk (st := s_has_fraction_sides) l_has_fraction_sides c_has_fraction_sides k_has_fraction_sides
  have b_has_fraction_sides := F_has_fraction_sides.binds (ps := ["spots"]) fun _ _ _ _ _ _ us hl => match us, hl with | [_], _ => rfl
  have F_is_parted := fun_mk (st := s_is_parted) l_is_parted c_is_parted k_is_parted
  have b_is_parted := F_is_parted.binds (ps := ["lines", "spots"]) fun _ _ _ _ _ _ us hl => match us, hl with | [_, _], _ => rfl
  have F_is_integer := fun_mk (st := s_is_integer) l_is_integer c_is_integer k_is_integer
  have b_is_integer := F_is_integer.binds (ps := ["thing"]) fun _ _ _ _ _ _ us hl => match us, hl with | [_], _ => rfl
  have F_is_row := fun_mk (st := s_is_row) l_is_row c_is_row k_is_row
  have b_is_row := F_is_row.binds (ps := ["thing"]) fun _ _ _ _ _ _ us hl => match us, hl with | [_], _ => rfl
  have F_is_tuple_of := fun_mk (st := s_is_tuple_of) l_is_tuple_of c_is_tuple_of k_is_tuple_of
  have b_is_tuple_of := F_is_tuple_of.binds (ps := ["thing", "many"]) fun _ _ _ _ _ _ us hl => match us, hl with | [_, _], _ => rfl
  have F_is_fraction := fun_mk (st := s_is_fraction) l_is_fraction c_is_fraction k_is_fraction
  have b_is_fraction := F_is_fraction.binds (ps := ["thing"]) fun _ _ _ _ _ _ us hl => match us, hl with | [_], _ => rfl
  have F_are_fractions := fun_mk (st := s_are_fractions) l_are_fractions c_are_fractions k_are_fractions
  have b_are_fractions := F_are_fractions.binds (ps := ["things"]) fun _ _ _ _ _ _ us hl => match us, hl with | [_], _ => rfl
  have F_is_point := fun_mk (st := s_is_point) l_is_point c_is_point k_is_point
  have b_is_point := F_is_point.binds (ps := ["thing"]) fun _ _ _ _ _ _ us hl => match us, hl with | [_], _ => rfl
  have F_length_of := fun_mk (st := s_length_of) l_length_of c_length_of k_length_of
  have b_length_of := F_length_of.binds (ps := ["one", "other"]) fun _ _ _ _ _ _ us hl => match us, hl with | [_, _], _ => rfl
  have F_turn_of := fun_mk (st := s_turn_of) l_turn_of c_turn_of k_turn_of
  have b_turn_of := F_turn_of.binds (ps := ["one", "other", "third"]) fun _ _ _ _ _ _ us hl => match us, hl with | [_, _, _], _ => rfl
  have F_is_plate := fun_mk (st := s_is_plate) l_is_plate c_is_plate k_is_plate
  have b_is_plate := F_is_plate.binds (ps := ["thing"]) fun _ _ _ _ _ _ us hl => match us, hl with | [_], _ => rfl
  have F_lie_over := fun_mk (st := s_lie_over) l_lie_over c_lie_over k_lie_over
  have b_lie_over := F_lie_over.binds (ps := ["one", "other"]) fun _ _ _ _ _ _ us hl => match us, hl with | [_, _], _ => rfl
  have F_check_two := fun_mk (st := s_check_two) l_check_two c_check_two k_check_two
  have b_check_two := F_check_two.binds (ps := ["one", "other"]) fun _ _ _ _ _ _ us hl => match us, hl with | [_, _], _ => rfl
  have F_frac_add := fun_mk (st := s_frac_add) l_frac_add c_frac_add k_frac_add
  have b_frac_add := F_frac_add.binds (ps := ["one", "other"]) fun _ _ _ _ _ _ us hl => match us, hl with | [_, _], _ => rfl
  have F_law_mixed := fun_mk (st := s_law_mixed) l_law_mixed c_law_mixed k_law_mixed
  have b_law_mixed := F_law_mixed.binds (ps := ["cell", "k"]) fun _ _ _ _ _ _ us hl => match us, hl with | [_, _], _ => rfl
  have F_law_great := fun_mk (st := s_law_great) l_law_great c_law_great k_law_great
  have b_law_great := F_law_great.binds (ps := ["cells", "place"]) fun _ _ _ _ _ _ us hl => match us, hl with | [_, _], _ => rfl
  have F_law_stream := fun_mk (st := s_law_stream) l_law_stream c_law_stream k_law_stream
  have b_law_stream := F_law_stream.binds (ps := ["script"]) fun _ _ _ _ _ _ us hl => match us, hl with | [_], _ => rfl
  have F_law_take := fun_mk (st := s_law_take) l_law_take c_law_take k_law_take
  have b_law_take := F_law_take.binds (ps := ["stream", "many"]) fun _ _ _ _ _ _ us hl => match us, hl with | [_, _], _ => rfl
  have F_law_low := fun_mk (st := s_law_low) l_law_low c_law_low k_law_low
  have b_law_low := F_law_low.binds (ps := ["top", "bottom"]) fun _ _ _ _ _ _ us hl => match us, hl with | [_, _], _ => rfl
  have F_law_add := fun_mk (st := s_law_add) l_law_add c_law_add k_law_add
  have b_law_add := F_law_add.binds (ps := ["one", "other"]) fun _ _ _ _ _ _ us hl => match us, hl with | [_, _], _ => rfl
  have F_law_neg := fun_mk (st := s_law_neg) l_law_neg c_law_neg k_law_neg
  have b_law_neg := F_law_neg.binds (ps := ["one"]) fun _ _ _ _ _ _ us hl => match us, hl with | [_], _ => rfl
  have F_law_sub := fun_mk (st := s_law_sub) l_law_sub c_law_sub k_law_sub
  have b_law_sub := F_law_sub.binds (ps := ["one", "other"]) fun _ _ _ _ _ _ us hl => match us, hl with | [_, _], _ => rfl
  have F_law_mul := fun_mk (st := s_law_mul) l_law_mul c_law_mul k_law_mul
  have b_law_mul := F_law_mul.binds (ps := ["one", "other"]) fun _ _ _ _ _ _ us hl => match us, hl with | [_, _], _ => rfl
  have F_law_div := fun_mk (st := s_law_div) l_law_div c_law_div k_law_div
  have b_law_div := F_law_div.binds (ps := ["one", "other"]) fun _ _ _ _ _ _ us hl => match us, hl with | [_, _], _ => rfl
  have F_law_least := fun_mk (st := s_law_least) l_law_least c_law_least k_law_least
  have b_law_least := F_law_least.binds (ps := ["items"]) fun _ _ _ _ _ _ us hl => match us, hl with | [_], _ => rfl
  have F_law_plus := fun_mk (st := s_law_plus) l_law_plus c_law_plus k_law_plus
  have b_law_plus := F_law_plus.binds (ps := ["one", "other"]) fun _ _ _ _ _ _ us hl => match us, hl with | [_, _], _ => rfl
  have F_law_minus := fun_mk (st := s_law_minus) l_law_minus c_law_minus k_law_minus
  have b_law_minus := F_law_minus.binds (ps := ["one", "other"]) fun _ _ _ _ _ _ us hl => match us, hl with | [_, _], _ => rfl
  have F_law_times := fun_mk (st := s_law_times) l_law_times c_law_times k_law_times
  have b_law_times := F_law_times.binds (ps := ["step", "factor"]) fun _ _ _ _ _ _ us hl => match us, hl with | [_, _], _ => rfl
  have F_law_cross := fun_mk (st := s_law_cross) l_law_cross c_law_cross k_law_cross
  have b_law_cross := F_law_cross.binds (ps := ["one", "other"]) fun _ _ _ _ _ _ us hl => match us, hl with | [_, _], _ => rfl
  have F_law_dot := fun_mk (st := s_law_dot) l_law_dot c_law_dot k_law_dot
  have b_law_dot := F_law_dot.binds (ps := ["one", "other"]) fun _ _ _ _ _ _ us hl => match us, hl with | [_, _], _ => rfl
  have F_law_turn := fun_mk (st := s_law_turn) l_law_turn c_law_turn k_law_turn
  have b_law_turn := F_law_turn.binds (ps := ["one", "other"]) fun _ _ _ _ _ _ us hl => match us, hl with | [_, _], _ => rfl
  have F_law_root := fun_mk (st := s_law_root) l_law_root c_law_root k_law_root
  have b_law_root := F_law_root.binds (ps := ["number"]) fun _ _ _ _ _ _ us hl => match us, hl with | [_], _ => rfl
  have F_law_size := fun_mk (st := s_law_size) l_law_size c_law_size k_law_size
  have b_law_size := F_law_size.binds (ps := ["step"]) fun _ _ _ _ _ _ us hl => match us, hl with | [_], _ => rfl
  have F_law_unit := fun_mk (st := s_law_unit) l_law_unit c_law_unit k_law_unit
  have b_law_unit := F_law_unit.binds (ps := ["one", "other"]) fun _ _ _ _ _ _ us hl => match us, hl with | [_, _], _ => rfl
  have F_law_ray := fun_mk (st := s_law_ray) l_law_ray c_law_ray k_law_ray
  have b_law_ray := F_law_ray.binds (ps := ["slope"]) fun _ _ _ _ _ _ us hl => match us, hl with | [_], _ => rfl
  have F_law_slope := fun_mk (st := s_law_slope) l_law_slope c_law_slope k_law_slope
  have b_law_slope := F_law_slope.binds (ps := ["stream", "most"]) fun _ _ _ _ _ _ us hl => match us, hl with | [_, _], _ => rfl
  have F_law_cut := fun_mk (st := s_law_cut) l_law_cut c_law_cut k_law_cut
  have b_law_cut := F_law_cut.binds (ps := ["corners", "plates", "at", "k", "part", "keep"]) fun _ _ _ _ _ _ us hl => match us, hl with | [_, _, _, _, _, _], _ => rfl
  have F_law_polygon := fun_mk (st := s_law_polygon) l_law_polygon c_law_polygon k_law_polygon
  have b_law_polygon := F_law_polygon.binds (ps := ["stream", "many"]) fun _ _ _ _ _ _ us hl => match us, hl with | [_, _], _ => rfl
  have F_law_moved := fun_mk (st := s_law_moved) l_law_moved c_law_moved k_law_moved
  have b_law_moved := F_law_moved.binds (ps := ["stream", "corners"]) fun _ _ _ _ _ _ us hl => match us, hl with | [_, _], _ => rfl
  have F_law_is_small := fun_mk (st := s_law_is_small) l_law_is_small c_law_is_small k_law_is_small
  have b_law_is_small := F_law_is_small.binds (ps := ["corners"]) fun _ _ _ _ _ _ us hl => match us, hl with | [_], _ => rfl
  have F_law_is_integer := fun_mk (st := s_law_is_integer) l_law_is_integer c_law_is_integer k_law_is_integer
  have b_law_is_integer := F_law_is_integer.binds (ps := ["thing"]) fun _ _ _ _ _ _ us hl => match us, hl with | [_], _ => rfl
  have F_law_is_frac := fun_mk (st := s_law_is_frac) l_law_is_frac c_law_is_frac k_law_is_frac
  have b_law_is_frac := F_law_is_frac.binds (ps := ["thing"]) fun _ _ _ _ _ _ us hl => match us, hl with | [_], _ => rfl
  have F_law_round := fun_mk (st := s_law_round) l_law_round c_law_round k_law_round
  have b_law_round := F_law_round.binds (ps := ["points"]) fun _ _ _ _ _ _ us hl => match us, hl with | [_], _ => rfl
  have F_law_parts_side := fun_mk (st := s_law_parts_side) l_law_parts_side c_law_parts_side k_law_parts_side
  have b_law_parts_side := F_law_parts_side.binds (ps := ["begin", "middle", "end"]) fun _ _ _ _ _ _ us hl => match us, hl with | [_, _, _], _ => rfl
  have F_law_cut_well := fun_mk (st := s_law_cut_well) l_law_cut_well c_law_cut_well k_law_cut_well
  have b_law_cut_well := F_law_cut_well.binds (ps := ["corners", "plates", "at", "k", "part"]) fun _ _ _ _ _ _ us hl => match us, hl with | [_, _, _, _, _], _ => rfl
  have F_law_apart := fun_mk (st := s_law_apart) l_law_apart c_law_apart k_law_apart
  have b_law_apart := F_law_apart.binds (ps := ["pieces"]) fun _ _ _ _ _ _ us hl => match us, hl with | [_], _ => rfl
  have F_law_inside := fun_mk (st := s_law_inside) l_law_inside c_law_inside k_law_inside
  have b_law_inside := F_law_inside.binds (ps := ["whole", "piece"]) fun _ _ _ _ _ _ us hl => match us, hl with | [_, _], _ => rfl
  have F_law := fun_mk (st := s_law) l_law c_law k_law
  refine ⟨PySem.W.fnOf "law" "law" (defArgs s_law) (defBody s_law) (defScope s_law) .none kV_law dc_law pm_law an_law cd_law ct_law, fun s v => .of_eq rfl, fun base _ _ => ?_⟩
  have I_NoPlate := fun_mk (st := i0_NoPlate) li_NoPlate ci_NoPlate ki_NoPlate
  have c_NoPlate : Ex0 l.prog w K mg base "NoPlate" C_NoPlate := ⟨⟨⟨nm_NoPlate, q_NoPlate, N_NoPlate, bs_NoPlate, _, sn_NoPlate, sub_NoPlate, ab_NoPlate, col_NoPlate, dd_NoPlate, m0_NoPlate, m1_NoPlate, m2_NoPlate, m3_NoPlate, m5_NoPlate, xL_NoPlate, (show (PySem.HandSPX.veTail == PySem.HandSPX.veTail) = true by decide +kernel)⟩, sa_NoPlate, eC_NoPlate, tC_NoPlate, kC_NoPlate⟩, PySem.W.mg_of X G aC_NoPlate, exm_own eC_NoPlate iC_NoPlate tC_NoPlate sC_NoPlate, ⟨i_NoPlate, _, in_NoPlate, ti_NoPlate, okinit_NoPlate I_NoPlate, I_NoPlate.binds fun _ _ _ _ _ _ us hl => match us, hl with | [_], _ => rfl⟩⟩
  have I_NoPoint := fun_mk (st := i0_NoPoint) li_NoPoint ci_NoPoint ki_NoPoint
  have c_NoPoint : Ex0 l.prog w K mg base "NoPoint" C_NoPoint := ⟨⟨⟨nm_NoPoint, q_NoPoint, N_NoPoint, bs_NoPoint, _, sn_NoPoint, sub_NoPoint, ab_NoPoint, col_NoPoint, dd_NoPoint, m0_NoPoint, m1_NoPoint, m2_NoPoint, m3_NoPoint, m5_NoPoint, xL_NoPoint, (show (PySem.HandSPX.veTail == PySem.HandSPX.veTail) = true by decide +kernel)⟩, sa_NoPoint, eC_NoPoint, tC_NoPoint, kC_NoPoint⟩, PySem.W.mg_of X G aC_NoPoint, exm_own eC_NoPoint iC_NoPoint tC_NoPoint sC_NoPoint, ⟨i_NoPoint, _, in_NoPoint, ti_NoPoint, okinit_NoPoint I_NoPoint, I_NoPoint.binds fun _ _ _ _ _ _ us hl => match us, hl with | [_], _ => rfl⟩⟩
  have I_NoFraction := fun_mk (st := i0_NoFraction) li_NoFraction ci_NoFraction ki_NoFraction
  have c_NoFraction : Ex0 l.prog w K mg base "NoFraction" C_NoFraction := ⟨⟨⟨nm_NoFraction, q_NoFraction, N_NoFraction, bs_NoFraction, _, sn_NoFraction, sub_NoFraction, ab_NoFraction, col_NoFraction, dd_NoFraction, m0_NoFraction, m1_NoFraction, m2_NoFraction, m3_NoFraction, m5_NoFraction, xL_NoFraction, (show (PySem.HandSPX.veTail == PySem.HandSPX.veTail) = true by decide +kernel)⟩, sa_NoFraction, eC_NoFraction, tC_NoFraction, kC_NoFraction⟩, PySem.W.mg_of X G aC_NoFraction, exm_own eC_NoFraction iC_NoFraction tC_NoFraction sC_NoFraction, ⟨i_NoFraction, _, in_NoFraction, ti_NoFraction, okinit_NoFraction I_NoFraction, I_NoFraction.binds fun _ _ _ _ _ _ us hl => match us, hl with | [_], _ => rfl⟩⟩
  let d_lowest : Df l.prog w K mg base CX0 1 "lowest" ["top", "bottom"] sp_low := ⟨f_lowest, _, PySem.W.mg_of X G a_lowest, k_lowest, b_lowest, ok_lowest F_lowest mi_gcd⟩
  let d_plus : Df l.prog w K mg base CX0 2 "plus" ["one", "other"] sp_plus := ⟨f_plus, _, PySem.W.mg_of X G a_plus, k_plus, b_plus, ok_plus F_plus d_lowest⟩
  let d_whole_root : Df l.prog w K mg base CX0 1 "whole_root" ["number"] sp_wroot := ⟨f_whole_root, _, PySem.W.mg_of X G a_whole_root, k_whole_root, b_whole_root, ok_whole_root F_whole_root mi_isqrt⟩
  let d_spread : Df l.prog w K mg base CX0 1 "spread" ["point"] sp_spread := ⟨f_spread, _, PySem.W.mg_of X G a_spread, k_spread, b_spread, ok_spread F_spread mi_lcm⟩
  let d_arrow : Df l.prog w K mg base CX0 1 "arrow" ["one", "other"] sp_arrow := ⟨f_arrow, _, PySem.W.mg_of X G a_arrow, k_arrow, b_arrow, ok_arrow F_arrow⟩
  let d_dot : Df l.prog w K mg base CX0 1 "dot" ["one", "other"] sp_dot := ⟨f_dot, _, PySem.W.mg_of X G a_dot, k_dot, b_dot, ok_dot F_dot⟩
  let d_size_of : Df l.prog w K mg base CX0 2 "size_of" ["vector"] sp_size := ⟨f_size_of, _, PySem.W.mg_of X G a_size_of, k_size_of, b_size_of, ok_size_of F_size_of d_dot d_whole_root⟩
  let d_distance : Df l.prog w K mg base CX0 3 "distance" ["one", "other"] sp_dist := ⟨f_distance, _, PySem.W.mg_of X G a_distance, k_distance, b_distance, ok_distance F_distance d_arrow d_size_of d_lowest⟩
  let d_line_through : Df l.prog w K mg base CX0 1 "line_through" ["one", "other"] sp_line := ⟨f_line_through, _, PySem.W.mg_of X G a_line_through, k_line_through, b_line_through, ok_line_through F_line_through⟩
  let d_side_of : Df l.prog w K mg base CX0 1 "side_of" ["line", "spot"] sp_side := ⟨f_side_of, _, PySem.W.mg_of X G a_side_of, k_side_of, b_side_of, ok_side_of F_side_of⟩
  let d_lines_of : Df l.prog w K mg base CX0 2 "lines_of" ["spots"] sp_lines := ⟨f_lines_of, _, PySem.W.mg_of X G a_lines_of, k_lines_of, b_lines_of, ok_lines_of F_lines_of nb d_line_through⟩
  let d_is_convex : Df l.prog w K mg base CX0 3 "is_convex" ["spots"] sp_conv := ⟨f_is_convex, _, PySem.W.mg_of X G a_is_convex, k_is_convex, b_is_convex, ok_is_convex F_is_convex nb d_lines_of d_side_of⟩
  let d_has_fraction_sides : Df l.prog w K mg base CX0 4 "has_fraction_sides" ["spots"] sp_fsides := ⟨f_has_fraction_sides, _, PySem.W.mg_of X G a_has_fraction_sides, k_has_fraction_sides, b_has_fraction_sides, ok_has_fraction_sides F_has_fraction_sides nb d_distance⟩
  let d_is_parted : Df l.prog w K mg base CX0 2 "is_parted" ["lines", "spots"] sp_parted := ⟨f_is_parted, _, PySem.W.mg_of X G a_is_parted, k_is_parted, b_is_parted, ok_is_parted F_is_parted nb d_side_of⟩
  let d_is_integer : Df l.prog w K mg base CX0 1 "is_integer" ["thing"] sp_isI := ⟨f_is_integer, _, PySem.W.mg_of X G a_is_integer, k_is_integer, b_is_integer, ok_is_integer F_is_integer nb⟩
  let d_is_row : Df l.prog w K mg base CX0 1 "is_row" ["thing"] sp_isrow := ⟨f_is_row, _, PySem.W.mg_of X G a_is_row, k_is_row, b_is_row, ok_is_row F_is_row nb⟩
  let d_is_tuple_of : Df l.prog w K mg base CX0 1 "is_tuple_of" ["thing", "many"] sp_tupof := ⟨f_is_tuple_of, _, PySem.W.mg_of X G a_is_tuple_of, k_is_tuple_of, b_is_tuple_of, ok_is_tuple_of F_is_tuple_of nb⟩
  let d_is_fraction : Df l.prog w K mg base CX0 2 "is_fraction" ["thing"] sp_isFp := ⟨f_is_fraction, _, PySem.W.mg_of X G a_is_fraction, k_is_fraction, b_is_fraction, ok_is_fraction F_is_fraction nb mi_gcd d_is_tuple_of d_is_integer⟩
  let d_are_fractions : Df l.prog w K mg base CX0 3 "are_fractions" ["things"] sp_areF := ⟨f_are_fractions, _, PySem.W.mg_of X G a_are_fractions, k_are_fractions, b_are_fractions, ok_are_fractions F_are_fractions d_is_fraction⟩
  let d_is_point : Df l.prog w K mg base CX0 4 "is_point" ["thing"] sp_isP := ⟨f_is_point, _, PySem.W.mg_of X G a_is_point, k_is_point, b_is_point, ok_is_point F_is_point d_is_tuple_of d_are_fractions⟩
  let d_length_of : Df l.prog w K mg base (L2.CX l.prog w) 5 "length_of" ["one", "other"] (sp_len C_NoPoint) := ⟨f_length_of, _, PySem.W.mg_of X G a_length_of, k_length_of, b_length_of, ok_length_of F_length_of c_NoPoint d_is_point d_spread d_distance⟩
  let d_turn_of : Df l.prog w K mg base (L2.CX l.prog w) 5 "turn_of" ["one", "other", "third"] (sp_turn C_NoPoint) := ⟨f_turn_of, _, PySem.W.mg_of X G a_turn_of, k_turn_of, b_turn_of, ok_turn_of F_turn_of c_NoPoint d_is_point d_spread d_line_through d_side_of⟩
  let d_is_plate : Df l.prog w K mg base CX0 5 "is_plate" ["thing"] sp_judge := ⟨f_is_plate, _, PySem.W.mg_of X G a_is_plate, k_is_plate, b_is_plate, ok_is_plate F_is_plate nb d_is_row d_is_point d_spread d_is_convex d_has_fraction_sides⟩
  let d_lie_over : Df l.prog w K mg base (L2.CX l.prog w) 6 "lie_over" ["one", "other"] (sp_over C_NoPlate) := ⟨f_lie_over, _, PySem.W.mg_of X G a_lie_over, k_lie_over, b_lie_over, ok_lie_over F_lie_over c_NoPlate d_is_plate d_spread d_lines_of d_is_parted⟩
  let d_check_two : Df l.prog w K mg base (L2.CX l.prog w) 4 "check_two" ["one", "other"] (sp_two C_NoFraction) := ⟨f_check_two, _, PySem.W.mg_of X G a_check_two, k_check_two, b_check_two, ok_check_two F_check_two c_NoFraction d_is_fraction⟩
  let d_frac_add : Df l.prog w K mg base (L2.CX l.prog w) 5 "frac_add" ["one", "other"] (sp_frac_add C_NoFraction) := ⟨f_frac_add, _, PySem.W.mg_of X G a_frac_add, k_frac_add, b_frac_add, ok_frac_add F_frac_add d_check_two d_plus⟩
  let d_law_mixed : Df l.prog w K mg base CX0 1 "_law_mixed" ["cell", "k"] sp_mixed := ⟨f_law_mixed, _, PySem.W.mg_of X G a_law_mixed, k_law_mixed, b_law_mixed, ok_law_mixed F_law_mixed nb⟩
  let d_law_great : Df l.prog w K mg base CX0 1 "_law_great" ["cells", "place"] (sp_great K) := ⟨f_law_great, _, PySem.W.mg_of X G a_law_great, k_law_great, b_law_great, ok_law_great F_law_great nb⟩
  let d_law_stream : Df l.prog w K mg base CX0 2 "_law_stream" ["script"] (sp_stream K) := ⟨f_law_stream, _, PySem.W.mg_of X G a_law_stream, k_law_stream, b_law_stream, ok_law_stream F_law_stream nb d_law_great⟩
  let d_law_take : Df l.prog w K mg base CX0 2 "_law_take" ["stream", "many"] sp_take := ⟨f_law_take, _, PySem.W.mg_of X G a_law_take, k_law_take, b_law_take, ok_law_take F_law_take nb d_law_great d_law_mixed⟩
  let d_law_low : Df l.prog w K mg base CX0 1 "_law_low" ["top", "bottom"] sp_low := ⟨f_law_low, _, PySem.W.mg_of X G a_law_low, k_law_low, b_law_low, ok_law_low F_law_low nb⟩
  let d_law_add : Df l.prog w K mg base CX0 2 "_law_add" ["one", "other"] sp_qadd := ⟨f_law_add, _, PySem.W.mg_of X G a_law_add, k_law_add, b_law_add, ok_law_add F_law_add d_law_low⟩
  let d_law_neg : Df l.prog w K mg base CX0 1 "_law_neg" ["one"] sp_qneg := ⟨f_law_neg, _, PySem.W.mg_of X G a_law_neg, k_law_neg, b_law_neg, ok_law_neg F_law_neg⟩
  let d_law_sub : Df l.prog w K mg base CX0 2 "_law_sub" ["one", "other"] sp_qsub := ⟨f_law_sub, _, PySem.W.mg_of X G a_law_sub, k_law_sub, b_law_sub, ok_law_sub F_law_sub d_law_low⟩
  let d_law_mul : Df l.prog w K mg base CX0 2 "_law_mul" ["one", "other"] sp_qmul := ⟨f_law_mul, _, PySem.W.mg_of X G a_law_mul, k_law_mul, b_law_mul, ok_law_mul F_law_mul d_law_low⟩
  let d_law_div : Df l.prog w K mg base CX0 2 "_law_div" ["one", "other"] sp_qdiv := ⟨f_law_div, _, PySem.W.mg_of X G a_law_div, k_law_div, b_law_div, ok_law_div F_law_div d_law_low⟩
  let d_law_least : Df l.prog w K mg base CX0 1 "_law_least" ["items"] sp_qleast := ⟨f_law_least, _, PySem.W.mg_of X G a_law_least, k_law_least, b_law_least, ok_law_least F_law_least⟩
  let d_law_plus : Df l.prog w K mg base CX0 3 "_law_plus" ["one", "other"] sp_pplus := ⟨f_law_plus, _, PySem.W.mg_of X G a_law_plus, k_law_plus, b_law_plus, ok_law_plus F_law_plus d_law_add⟩
  let d_law_minus : Df l.prog w K mg base CX0 3 "_law_minus" ["one", "other"] sp_pminus := ⟨f_law_minus, _, PySem.W.mg_of X G a_law_minus, k_law_minus, b_law_minus, ok_law_minus F_law_minus d_law_sub⟩
  let d_law_times : Df l.prog w K mg base CX0 3 "_law_times" ["step", "factor"] sp_ptimes := ⟨f_law_times, _, PySem.W.mg_of X G a_law_times, k_law_times, b_law_times, ok_law_times F_law_times d_law_mul⟩
  let d_law_cross : Df l.prog w K mg base CX0 3 "_law_cross" ["one", "other"] sp_pcross := ⟨f_law_cross, _, PySem.W.mg_of X G a_law_cross, k_law_cross, b_law_cross, ok_law_cross F_law_cross d_law_sub d_law_mul⟩
  let d_law_dot : Df l.prog w K mg base CX0 3 "_law_dot" ["one", "other"] sp_pdot := ⟨f_law_dot, _, PySem.W.mg_of X G a_law_dot, k_law_dot, b_law_dot, ok_law_dot F_law_dot d_law_add d_law_mul⟩
  let d_law_turn : Df l.prog w K mg base CX0 3 "_law_turn" ["one", "other"] sp_pturn := ⟨f_law_turn, _, PySem.W.mg_of X G a_law_turn, k_law_turn, b_law_turn, ok_law_turn F_law_turn d_law_add d_law_sub d_law_mul⟩
  let d_law_root : Df l.prog w K mg base CX0 1 "_law_root" ["number"] sp_lroot := ⟨f_law_root, _, PySem.W.mg_of X G a_law_root, k_law_root, b_law_root, ok_law_root F_law_root nb⟩
  let d_law_size : Df l.prog w K mg base CX0 4 "_law_size" ["step"] sp_psize := ⟨f_law_size, _, PySem.W.mg_of X G a_law_size, k_law_size, b_law_size, ok_law_size F_law_size d_law_dot d_law_root⟩
  let d_law_unit : Df l.prog w K mg base CX0 5 "_law_unit" ["one", "other"] sp_punit := ⟨f_law_unit, _, PySem.W.mg_of X G a_law_unit, k_law_unit, b_law_unit, ok_law_unit F_law_unit d_law_minus d_law_times d_law_div d_law_size⟩
  let d_law_ray : Df l.prog w K mg base CX0 2 "_law_ray" ["slope"] sp_qray := ⟨f_law_ray, _, PySem.W.mg_of X G a_law_ray, k_law_ray, b_law_ray, ok_law_ray F_law_ray d_law_low⟩
  let d_law_slope : Df l.prog w K mg base CX0 3 "_law_slope" ["stream", "most"] sp_qslope := ⟨f_law_slope, _, PySem.W.mg_of X G a_law_slope, k_law_slope, b_law_slope, ok_law_slope F_law_slope d_law_take d_law_low⟩
  let d_law_cut : Df l.prog w K mg base CX0 6 "_law_cut" ["corners", "plates", "at", "k", "part", "keep"] sp_cut := ⟨f_law_cut, _, PySem.W.mg_of X G a_law_cut, k_law_cut, b_law_cut, ok_law_cut F_law_cut nb d_law_add d_law_mul d_law_div d_law_plus d_law_minus d_law_times d_law_cross d_law_dot d_law_size d_law_unit d_law_ray d_law_least⟩
  let d_law_cut2 : Df l.prog w K mg base CX0 6 "_law_cut" ["corners", "plates", "at", "k", "part", "keep"] sp_cut2 := ⟨f_law_cut, _, PySem.W.mg_of X G a_law_cut, k_law_cut, b_law_cut, ok_law_cut2 F_law_cut nb d_law_add d_law_mul d_law_div d_law_plus d_law_minus d_law_times d_law_cross d_law_dot d_law_size d_law_unit d_law_ray d_law_least⟩
  let d_law_polygon : Df l.prog w K mg base CX0 7 "_law_polygon" ["stream", "many"] sp_poly := ⟨f_law_polygon, _, PySem.W.mg_of X G a_law_polygon, k_law_polygon, b_law_polygon, ok_law_polygon F_law_polygon nb d_law_take d_law_slope d_law_ray d_law_times d_law_plus d_law_div d_law_add d_law_mul d_law_cut⟩
  let d_law_moved : Df l.prog w K mg base CX0 4 "_law_moved" ["stream", "corners"] sp_moved8 := ⟨f_law_moved, _, PySem.W.mg_of X G a_law_moved, k_law_moved, b_law_moved, ok_law_moved F_law_moved nb d_law_take d_law_low d_law_ray d_law_neg d_law_slope d_law_turn d_law_times d_law_plus⟩
  let d_law_is_small : Df l.prog w K mg base CX0 1 "_law_is_small" ["corners"] sp_small := ⟨f_law_is_small, _, PySem.W.mg_of X G a_law_is_small, k_law_is_small, b_law_is_small, ok_law_is_small F_law_is_small nb⟩
  let d_law_is_integer : Df l.prog w K mg base CX0 1 "_law_is_integer" ["thing"] sp_isI := ⟨f_law_is_integer, _, PySem.W.mg_of X G a_law_is_integer, k_law_is_integer, b_law_is_integer, ok_law_is_integer F_law_is_integer nb⟩
  let d_law_is_frac : Df l.prog w K mg base CX0 2 "_law_is_frac" ["thing"] sp_isF := ⟨f_law_is_frac, _, PySem.W.mg_of X G a_law_is_frac, k_law_is_frac, b_law_is_frac, ok_law_is_frac F_law_is_frac nb d_law_is_integer d_law_low⟩
  let d_law_round : Df l.prog w K mg base CX0 6 "_law_round" ["points"] sp_round := ⟨f_law_round, _, PySem.W.mg_of X G a_law_round, k_law_round, b_law_round, ok_law_round F_law_round nb d_length_of d_law_is_frac d_frac_add⟩
  let d_law_parts_side : Df l.prog w K mg base CX0 6 "_law_parts_side" ["begin", "middle", "end"] sp_parts := ⟨f_law_parts_side, _, PySem.W.mg_of X G a_law_parts_side, k_law_parts_side, b_law_parts_side, ok_law_parts_side F_law_parts_side nb d_turn_of d_length_of d_law_is_frac d_frac_add⟩
  let d_law_cut_well : Df l.prog w K mg base CX0 7 "_law_cut_well" ["corners", "plates", "at", "k", "part"] sp_well := ⟨f_law_cut_well, _, PySem.W.mg_of X G a_law_cut_well, k_law_cut_well, b_law_cut_well, ok_law_cut_well F_law_cut_well nb d_law_cut2 d_law_parts_side d_length_of d_law_is_frac⟩
  let d_law_apart : Df l.prog w K mg base CX0 7 "_law_apart" ["pieces"] sp_apart := ⟨f_law_apart, _, PySem.W.mg_of X G a_law_apart, k_law_apart, b_law_apart, ok_law_apart F_law_apart nb d_lie_over⟩
  let d_law_inside : Df l.prog w K mg base CX0 7 "_law_inside" ["whole", "piece"] sp_inside := ⟨f_law_inside, _, PySem.W.mg_of X G a_law_inside, k_law_inside, b_law_inside, ok_law_inside F_law_inside nb d_lie_over d_turn_of⟩
  exact ok_law F_law nb d_law_stream d_law_take d_law_polygon d_law_moved d_law_is_small d_law_round d_is_plate d_law_cut2 d_law_cut_well d_frac_add d_law_inside d_law_apart
end Fc
open PySem PySem.W PyProof.Rows
set_option maxRecDepth 100000 in
set_option maxHeartbeats 0 in
theorem PySem.Challenge.cw_fourcreases_k08_whole_plate_cut_up_holds : PySem.Challenge.rw_fourcreases_k08_whole_plate_cut_up.Holds := by
  w_on; o_law; k_head; (case hw => w_witness2)
  k_fill
  refine L2.walk_of (l := PySem.Challenge.rw_fourcreases_k08_whole_plate_cut_up) (n := 63) (k := 9) (x := "script") (CX := fun _ => L2.CX0) (sp := fun w => Fc.sp_law _) rfl (by decide) rfl ⟨rfl, by decide, by decide⟩ (fun w h Y => PySem.W.kIn_of Y) ?F (fun _ _ a ns hl _ hS => ⟨a, ns, rfl, hS, hl, fun _ => rfl⟩) (fun _ _ _ _ _ h => h)
  case F =>
    intro w mg fa h KX G hmg
    refine' Fc.all_mk KX G hmg ?a_lowest ?l_lowest ?c_lowest ?k_lowest ?a_plus ?l_plus ?c_plus ?k_plus ?a_whole_root ?l_whole_root ?c_whole_root ?k_whole_root ?a_spread ?l_spread ?c_spread ?k_spread ?a_arrow ?l_arrow ?c_arrow ?k_arrow ?a_dot ?l_dot ?c_dot ?k_dot ?a_size_of ?l_size_of ?c_size_of ?k_size_of ?a_distance ?l_distance ?c_distance ?k_distance ?a_line_through ?l_line_through ?c_line_through ?k_line_through ?a_side_of ?l_side_of ?c_side_of ?k_side_of ?a_lines_of ?l_lines_of ?c_lines_of ?k_lines_of ?a_is_convex ?l_is_convex ?c_is_convex ?k_is_convex ?a_has_fraction_sides ?l_has_fraction_sides ?c_has_fraction_sides ?k_has_fraction_sides ?a_is_parted ?l_is_parted ?c_is_parted ?k_is_parted ?a_is_integer ?l_is_integer ?c_is_integer ?k_is_integer ?a_is_row ?l_is_row ?c_is_row ?k_is_row ?a_is_tuple_of ?l_is_tuple_of ?c_is_tuple_of ?k_is_tuple_of ?a_is_fraction ?l_is_fraction ?c_is_fraction ?k_is_fraction ?a_are_fractions ?l_are_fractions ?c_are_fractions ?k_are_fractions ?a_is_point ?l_is_point ?c_is_point ?k_is_point ?a_length_of ?l_length_of ?c_length_of ?k_length_of ?a_turn_of ?l_turn_of ?c_turn_of ?k_turn_of ?a_is_plate ?l_is_plate ?c_is_plate ?k_is_plate ?a_lie_over ?l_lie_over ?c_lie_over ?k_lie_over ?a_check_two ?l_check_two ?c_check_two ?k_check_two ?a_frac_add ?l_frac_add ?c_frac_add ?k_frac_add ?a_law_mixed ?l_law_mixed ?c_law_mixed ?k_law_mixed ?a_law_great ?l_law_great ?c_law_great ?k_law_great ?a_law_stream ?l_law_stream ?c_law_stream ?k_law_stream ?a_law_take ?l_law_take ?c_law_take ?k_law_take ?a_law_low ?l_law_low ?c_law_low ?k_law_low ?a_law_add ?l_law_add ?c_law_add ?k_law_add ?a_law_neg ?l_law_neg ?c_law_neg ?k_law_neg ?a_law_sub ?l_law_sub ?c_law_sub ?k_law_sub ?a_law_mul ?l_law_mul ?c_law_mul ?k_law_mul ?a_law_div ?l_law_div ?c_law_div ?k_law_div ?a_law_least ?l_law_least ?c_law_least ?k_law_least ?a_law_plus ?l_law_plus ?c_law_plus ?k_law_plus ?a_law_minus ?l_law_minus ?c_law_minus ?k_law_minus ?a_law_times ?l_law_times ?c_law_times ?k_law_times ?a_law_cross ?l_law_cross ?c_law_cross ?k_law_cross ?a_law_dot ?l_law_dot ?c_law_dot ?k_law_dot ?a_law_turn ?l_law_turn ?c_law_turn ?k_law_turn ?a_law_root ?l_law_root ?c_law_root ?k_law_root ?a_law_size ?l_law_size ?c_law_size ?k_law_size ?a_law_unit ?l_law_unit ?c_law_unit ?k_law_unit ?a_law_ray ?l_law_ray ?c_law_ray ?k_law_ray ?a_law_slope ?l_law_slope ?c_law_slope ?k_law_slope ?a_law_cut ?l_law_cut ?c_law_cut ?k_law_cut ?a_law_polygon ?l_law_polygon ?c_law_polygon ?k_law_polygon ?a_law_moved ?l_law_moved ?c_law_moved ?k_law_moved ?a_law_is_small ?l_law_is_small ?c_law_is_small ?k_law_is_small ?a_law_is_integer ?l_law_is_integer ?c_law_is_integer ?k_law_is_integer ?a_law_is_frac ?l_law_is_frac ?c_law_is_frac ?k_law_is_frac ?a_law_round ?l_law_round ?c_law_round ?k_law_round ?a_law_parts_side ?l_law_parts_side ?c_law_parts_side ?k_law_parts_side ?a_law_cut_well ?l_law_cut_well ?c_law_cut_well ?k_law_cut_well ?a_law_apart ?l_law_apart ?c_law_apart ?k_law_apart ?a_law_inside ?l_law_inside ?c_law_inside ?k_law_inside ?a_law ?l_law ?c_law ?k_law ?aC_NoPlate ?xL_NoPlate ?sa_NoPlate ?in_NoPlate ?ti_NoPlate ?li_NoPlate ?ci_NoPlate ?ki_NoPlate ?kC_NoPlate ?eC_NoPlate ?tC_NoPlate ?iC_NoPlate ?sC_NoPlate ?aC_NoPoint ?xL_NoPoint ?sa_NoPoint ?in_NoPoint ?ti_NoPoint ?li_NoPoint ?ci_NoPoint ?ki_NoPoint ?kC_NoPoint ?eC_NoPoint ?tC_NoPoint ?iC_NoPoint ?sC_NoPoint ?aC_NoFraction ?xL_NoFraction ?sa_NoFraction ?in_NoFraction ?ti_NoFraction ?li_NoFraction ?ci_NoFraction ?ki_NoFraction ?kC_NoFraction ?eC_NoFraction ?tC_NoFraction ?iC_NoFraction ?sC_NoFraction ?z_int ?z_bool ?z_tuple ?z_list ?z_len ?z_abs ?z_min ?z_max ?z_range ?z_isinstance ?z_enumerate ?z_zip ?z_sum ?z_str ?z_sorted ?z_divmod ?z_all ?z_any ?z_reversed ?z_dict ?y_gcd ?y_isqrt ?y_lcm
    (case a_lowest => first | k_is | rfl)
    (case l_lowest => first | k_is | rfl)
    (case c_lowest => first | k_is | rfl)
    (case k_lowest => first | k_is | rfl)
    (case a_plus => first | k_is | rfl)
    (case l_plus => first | k_is | rfl)
    (case c_plus => first | k_is | rfl)
    (case k_plus => first | k_is | rfl)
    (case a_whole_root => first | k_is | rfl)
    (case l_whole_root => first | k_is | rfl)
    (case c_whole_root => first | k_is | rfl)
    (case k_whole_root => first | k_is | rfl)
    (case a_spread => first | k_is | rfl)
    (case l_spread => first | k_is | rfl)
    (case c_spread => first | k_is | rfl)
    (case k_spread => first | k_is | rfl)
    (case a_arrow => first | k_is | rfl)
    (case l_arrow => first | k_is | rfl)
    (case c_arrow => first | k_is | rfl)
    (case k_arrow => first | k_is | rfl)
    (case a_dot => first | k_is | rfl)
    (case l_dot => first | k_is | rfl)
    (case c_dot => first | k_is | rfl)
    (case k_dot => first | k_is | rfl)
    (case a_size_of => first | k_is | rfl)
    (case l_size_of => first | k_is | rfl)
    (case c_size_of => first | k_is | rfl)
    (case k_size_of => first | k_is | rfl)
    (case a_distance => first | k_is | rfl)
    (case l_distance => first | k_is | rfl)
    (case c_distance => first | k_is | rfl)
    (case k_distance => first | k_is | rfl)
    (case a_line_through => first | k_is | rfl)
    (case l_line_through => first | k_is | rfl)
    (case c_line_through => first | k_is | rfl)
    (case k_line_through => first | k_is | rfl)
    (case a_side_of => first | k_is | rfl)
    (case l_side_of => first | k_is | rfl)
    (case c_side_of => first | k_is | rfl)
    (case k_side_of => first | k_is | rfl)
    (case a_lines_of => first | k_is | rfl)
    (case l_lines_of => first | k_is | rfl)
    (case c_lines_of => first | k_is | rfl)
    (case k_lines_of => first | k_is | rfl)
    (case a_is_convex => first | k_is | rfl)
    (case l_is_convex => first | k_is | rfl)
    (case c_is_convex => first | k_is | rfl)
    (case k_is_convex => first | k_is | rfl)
    (case a_has_fraction_sides => first | k_is | rfl)
    (case l_has_fraction_sides => first | k_is | rfl)
    (case c_has_fraction_sides => first | k_is | rfl)
    (case k_has_fraction_sides => first | k_is | rfl)
    (case a_is_parted => first | k_is | rfl)
    (case l_is_parted => first | k_is | rfl)
    (case c_is_parted => first | k_is | rfl)
    (case k_is_parted => first | k_is | rfl)
    (case a_is_integer => first | k_is | rfl)
    (case l_is_integer => first | k_is | rfl)
    (case c_is_integer => first | k_is | rfl)
    (case k_is_integer => first | k_is | rfl)
    (case a_is_row => first | k_is | rfl)
    (case l_is_row => first | k_is | rfl)
    (case c_is_row => first | k_is | rfl)
    (case k_is_row => first | k_is | rfl)
    (case a_is_tuple_of => first | k_is | rfl)
    (case l_is_tuple_of => first | k_is | rfl)
    (case c_is_tuple_of => first | k_is | rfl)
    (case k_is_tuple_of => first | k_is | rfl)
    (case a_is_fraction => first | k_is | rfl)
    (case l_is_fraction => first | k_is | rfl)
    (case c_is_fraction => first | k_is | rfl)
    (case k_is_fraction => first | k_is | rfl)
    (case a_are_fractions => first | k_is | rfl)
    (case l_are_fractions => first | k_is | rfl)
    (case c_are_fractions => first | k_is | rfl)
    (case k_are_fractions => first | k_is | rfl)
    (case a_is_point => first | k_is | rfl)
    (case l_is_point => first | k_is | rfl)
    (case c_is_point => first | k_is | rfl)
    (case k_is_point => first | k_is | rfl)
    (case a_length_of => first | k_is | rfl)
    (case l_length_of => first | k_is | rfl)
    (case c_length_of => first | k_is | rfl)
    (case k_length_of => first | k_is | rfl)
    (case a_turn_of => first | k_is | rfl)
    (case l_turn_of => first | k_is | rfl)
    (case c_turn_of => first | k_is | rfl)
    (case k_turn_of => first | k_is | rfl)
    (case a_is_plate => first | k_is | rfl)
    (case l_is_plate => first | k_is | rfl)
    (case c_is_plate => first | k_is | rfl)
    (case k_is_plate => first | k_is | rfl)
    (case a_lie_over => first | k_is | rfl)
    (case l_lie_over => first | k_is | rfl)
    (case c_lie_over => first | k_is | rfl)
    (case k_lie_over => first | k_is | rfl)
    (case a_check_two => first | k_is | rfl)
    (case l_check_two => first | k_is | rfl)
    (case c_check_two => first | k_is | rfl)
    (case k_check_two => first | k_is | rfl)
    (case a_frac_add => first | k_is | rfl)
    (case l_frac_add => first | k_is | rfl)
    (case c_frac_add => first | k_is | rfl)
    (case k_frac_add => first | k_is | rfl)
    (case a_law_mixed => first | k_is | rfl)
    (case l_law_mixed => first | k_is | rfl)
    (case c_law_mixed => first | k_is | rfl)
    (case k_law_mixed => first | k_is | rfl)
    (case a_law_great => first | k_is | rfl)
    (case l_law_great => first | k_is | rfl)
    (case c_law_great => first | k_is | rfl)
    (case k_law_great => first | k_is | rfl)
    (case a_law_stream => first | k_is | rfl)
    (case l_law_stream => first | k_is | rfl)
    (case c_law_stream => first | k_is | rfl)
    (case k_law_stream => first | k_is | rfl)
    (case a_law_take => first | k_is | rfl)
    (case l_law_take => first | k_is | rfl)
    (case c_law_take => first | k_is | rfl)
    (case k_law_take => first | k_is | rfl)
    (case a_law_low => first | k_is | rfl)
    (case l_law_low => first | k_is | rfl)
    (case c_law_low => first | k_is | rfl)
    (case k_law_low => first | k_is | rfl)
    (case a_law_add => first | k_is | rfl)
    (case l_law_add => first | k_is | rfl)
    (case c_law_add => first | k_is | rfl)
    (case k_law_add => first | k_is | rfl)
    (case a_law_neg => first | k_is | rfl)
    (case l_law_neg => first | k_is | rfl)
    (case c_law_neg => first | k_is | rfl)
    (case k_law_neg => first | k_is | rfl)
    (case a_law_sub => first | k_is | rfl)
    (case l_law_sub => first | k_is | rfl)
    (case c_law_sub => first | k_is | rfl)
    (case k_law_sub => first | k_is | rfl)
    (case a_law_mul => first | k_is | rfl)
    (case l_law_mul => first | k_is | rfl)
    (case c_law_mul => first | k_is | rfl)
    (case k_law_mul => first | k_is | rfl)
    (case a_law_div => first | k_is | rfl)
    (case l_law_div => first | k_is | rfl)
    (case c_law_div => first | k_is | rfl)
    (case k_law_div => first | k_is | rfl)
    (case a_law_least => first | k_is | rfl)
    (case l_law_least => first | k_is | rfl)
    (case c_law_least => first | k_is | rfl)
    (case k_law_least => first | k_is | rfl)
    (case a_law_plus => first | k_is | rfl)
    (case l_law_plus => first | k_is | rfl)
    (case c_law_plus => first | k_is | rfl)
    (case k_law_plus => first | k_is | rfl)
    (case a_law_minus => first | k_is | rfl)
    (case l_law_minus => first | k_is | rfl)
    (case c_law_minus => first | k_is | rfl)
    (case k_law_minus => first | k_is | rfl)
    (case a_law_times => first | k_is | rfl)
    (case l_law_times => first | k_is | rfl)
    (case c_law_times => first | k_is | rfl)
    (case k_law_times => first | k_is | rfl)
    (case a_law_cross => first | k_is | rfl)
    (case l_law_cross => first | k_is | rfl)
    (case c_law_cross => first | k_is | rfl)
    (case k_law_cross => first | k_is | rfl)
    (case a_law_dot => first | k_is | rfl)
    (case l_law_dot => first | k_is | rfl)
    (case c_law_dot => first | k_is | rfl)
    (case k_law_dot => first | k_is | rfl)
    (case a_law_turn => first | k_is | rfl)
    (case l_law_turn => first | k_is | rfl)
    (case c_law_turn => first | k_is | rfl)
    (case k_law_turn => first | k_is | rfl)
    (case a_law_root => first | k_is | rfl)
    (case l_law_root => first | k_is | rfl)
    (case c_law_root => first | k_is | rfl)
    (case k_law_root => first | k_is | rfl)
    (case a_law_size => first | k_is | rfl)
    (case l_law_size => first | k_is | rfl)
    (case c_law_size => first | k_is | rfl)
    (case k_law_size => first | k_is | rfl)
    (case a_law_unit => first | k_is | rfl)
    (case l_law_unit => first | k_is | rfl)
    (case c_law_unit => first | k_is | rfl)
    (case k_law_unit => first | k_is | rfl)
    (case a_law_ray => first | k_is | rfl)
    (case l_law_ray => first | k_is | rfl)
    (case c_law_ray => first | k_is | rfl)
    (case k_law_ray => first | k_is | rfl)
    (case a_law_slope => first | k_is | rfl)
    (case l_law_slope => first | k_is | rfl)
    (case c_law_slope => first | k_is | rfl)
    (case k_law_slope => first | k_is | rfl)
    (case a_law_cut => first | k_is | rfl)
    (case l_law_cut => first | k_is | rfl)
    (case c_law_cut => first | k_is | rfl)
    (case k_law_cut => first | k_is | rfl)
    (case a_law_polygon => first | k_is | rfl)
    (case l_law_polygon => first | k_is | rfl)
    (case c_law_polygon => first | k_is | rfl)
    (case k_law_polygon => first | k_is | rfl)
    (case a_law_moved => first | k_is | rfl)
    (case l_law_moved => first | k_is | rfl)
    (case c_law_moved => first | k_is | rfl)
    (case k_law_moved => first | k_is | rfl)
    (case a_law_is_small => first | k_is | rfl)
    (case l_law_is_small => first | k_is | rfl)
    (case c_law_is_small => first | k_is | rfl)
    (case k_law_is_small => first | k_is | rfl)
    (case a_law_is_integer => first | k_is | rfl)
    (case l_law_is_integer => first | k_is | rfl)
    (case c_law_is_integer => first | k_is | rfl)
    (case k_law_is_integer => first | k_is | rfl)
    (case a_law_is_frac => first | k_is | rfl)
    (case l_law_is_frac => first | k_is | rfl)
    (case c_law_is_frac => first | k_is | rfl)
    (case k_law_is_frac => first | k_is | rfl)
    (case a_law_round => first | k_is | rfl)
    (case l_law_round => first | k_is | rfl)
    (case c_law_round => first | k_is | rfl)
    (case k_law_round => first | k_is | rfl)
    (case a_law_parts_side => first | k_is | rfl)
    (case l_law_parts_side => first | k_is | rfl)
    (case c_law_parts_side => first | k_is | rfl)
    (case k_law_parts_side => first | k_is | rfl)
    (case a_law_cut_well => first | k_is | rfl)
    (case l_law_cut_well => first | k_is | rfl)
    (case c_law_cut_well => first | k_is | rfl)
    (case k_law_cut_well => first | k_is | rfl)
    (case a_law_apart => first | k_is | rfl)
    (case l_law_apart => first | k_is | rfl)
    (case c_law_apart => first | k_is | rfl)
    (case k_law_apart => first | k_is | rfl)
    (case a_law_inside => first | k_is | rfl)
    (case l_law_inside => first | k_is | rfl)
    (case c_law_inside => first | k_is | rfl)
    (case k_law_inside => first | k_is | rfl)
    (case a_law => first | k_is | rfl)
    (case l_law => first | k_is | rfl)
    (case c_law => first | k_is | rfl)
    (case k_law => first | k_is | rfl)
    (case aC_NoPlate => first | k_is | rfl)
    (case xL_NoPlate => first | k_is | rfl)
    (case sa_NoPlate => first | k_is | rfl)
    (case in_NoPlate => first | k_is | rfl)
    (case ti_NoPlate => first | k_is | rfl)
    (case li_NoPlate => first | k_is | rfl)
    (case ci_NoPlate => first | k_is | rfl)
    (case ki_NoPlate => first | k_is | rfl)
    (case kC_NoPlate => first | k_is | rfl)
    (case eC_NoPlate => first | k_is | rfl)
    (case tC_NoPlate => first | k_is | rfl)
    (case iC_NoPlate => first | k_is | rfl)
    (case sC_NoPlate => first | k_is | rfl)
    (case aC_NoPoint => first | k_is | rfl)
    (case xL_NoPoint => first | k_is | rfl)
    (case sa_NoPoint => first | k_is | rfl)
    (case in_NoPoint => first | k_is | rfl)
    (case ti_NoPoint => first | k_is | rfl)
    (case li_NoPoint => first | k_is | rfl)
    (case ci_NoPoint => first | k_is | rfl)
    (case ki_NoPoint => first | k_is | rfl)
    (case kC_NoPoint => first | k_is | rfl)
    (case eC_NoPoint => first | k_is | rfl)
    (case tC_NoPoint => first | k_is | rfl)
    (case iC_NoPoint => first | k_is | rfl)
    (case sC_NoPoint => first | k_is | rfl)
    (case aC_NoFraction => first | k_is | rfl)
    (case xL_NoFraction => first | k_is | rfl)
    (case sa_NoFraction => first | k_is | rfl)
    (case in_NoFraction => first | k_is | rfl)
    (case ti_NoFraction => first | k_is | rfl)
    (case li_NoFraction => first | k_is | rfl)
    (case ci_NoFraction => first | k_is | rfl)
    (case ki_NoFraction => first | k_is | rfl)
    (case kC_NoFraction => first | k_is | rfl)
    (case eC_NoFraction => first | k_is | rfl)
    (case tC_NoFraction => first | k_is | rfl)
    (case iC_NoFraction => first | k_is | rfl)
    (case sC_NoFraction => first | k_is | rfl)
    (case z_int => first | k_is | rfl)
    (case z_bool => first | k_is | rfl)
    (case z_tuple => first | k_is | rfl)
    (case z_list => first | k_is | rfl)
    (case z_len => first | k_is | rfl)
    (case z_abs => first | k_is | rfl)
    (case z_min => first | k_is | rfl)
    (case z_max => first | k_is | rfl)
    (case z_range => first | k_is | rfl)
    (case z_isinstance => first | k_is | rfl)
    (case z_enumerate => first | k_is | rfl)
    (case z_zip => first | k_is | rfl)
    (case z_sum => first | k_is | rfl)
    (case z_str => first | k_is | rfl)
    (case z_sorted => first | k_is | rfl)
    (case z_divmod => first | k_is | rfl)
    (case z_all => first | k_is | rfl)
    (case z_any => first | k_is | rfl)
    (case z_reversed => first | k_is | rfl)
    (case z_dict => first | k_is | rfl)
    (case y_gcd => first | k_is | rfl)
    (case y_isqrt => first | k_is | rfl)
    (case y_lcm => first | k_is | rfl)
