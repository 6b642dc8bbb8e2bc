import PyProof.Rows.All
import Wide.All
import OpenK.AllK
import Wide.FinOn
import HandS.ForMost
import HandS.Steps
import HandS.Walk
import HandS.IsInst
import HandS.Codes
import HandS.Defaults
import HandS.Head0
import HandS.Head1
import HandS.Head2
import HandS.HeadEnd
import HandS.HeadHook1
import HandS.HeadHook2
import HandS.RevTup
import HandS.MapObj
import HandS.Replace
import PySem.Challenge.RW_reachbook_k01_words_and_numbers
set_option Elab.async false
set_option linter.all false
set_option maxRecDepth 100000
set_option maxHeartbeats 2000000
/-! HX: rules with named readings, and the steps of a reading, backwards. -/
namespace HX
open PySem PySem.Spec PyProof.Rows L2
/-! ### named readings -/
def xCatS : R2 := fun x y H Q => ∃ i j, x = .str i ∧ y = .str j ∧ i.length + j.length ≤ sizeLine ∧ Q (.str (i ++ j)) H
def xLenS : List V → Hp → VK → Prop := fun xs H Q => ∃ z, xs = [.str z] ∧ z.length ≤ sizeLine ∧ Q (.int z.length) H
def xLenL (K : PySem.W.Frag) : List V → Hp → VK → Prop := fun xs H Q => ∃ p ys, xs = [.ref p] ∧ (SqL K H p ys ∨ SqT K H p ys) ∧ Q (.int ys.length) H
def xAbs : List V → Hp → VK → Prop := fun xs H Q => ∃ i, xs = [.int i] ∧ Q (.int (if i < 0 then -i else i)) H
def xMax2 : List V → Hp → VK → Prop := fun xs H Q => ∃ i j, xs = [.int i, .int j] ∧ Q (.int (if j > i then j else i)) H
def xMin2 : List V → Hp → VK → Prop := fun xs H Q => ∃ i j, xs = [.int i, .int j] ∧ Q (.int (if j < i then j else i)) H
def xStrI : List V → Hp → VK → Prop := fun xs H Q => ∃ i, xs = [.int i] ∧ i.natAbs.log2 < 1920 ∧ Q (.str (toString i)) H
def xIntS : List V → Hp → VK → Prop := fun xs H Q => ∃ a n, xs = [.str a] ∧ PySem.intText? a = some n ∧ a.length ≤ 640 ∧ Q (.int n) H
def xIntB : List V → Hp → VK → Prop := fun xs H Q => (∃ i, xs = [.int i] ∧ Q (.int i) H) ∨ ∃ k, xs = [.bl k] ∧ Q (.int (if k then 1 else 0)) H
def xListOf (K : PySem.W.Frag) : List V → Hp → VK → Prop := fun xs H Q => ∃ p ys, xs = [.ref p] ∧ (SqL K H p ys ∨ SqT K H p ys) ∧ ∀ l, H l = none → Q (.ref l) (upd H l (.lst ys))
def xSplit : V → List V → Hp → VK → Prop := fun x xs H Q => ∃ a b, x = .str a ∧ xs = [.str b] ∧ (b.length == 0) = false ∧ a.length + 2 ≤ sizeLine ∧ rNewStrs (Txt.split a b) H Q
def xJoin (K : PySem.W.Frag) : V → List V → Hp → VK → Prop := fun x xs H Q => ∃ a p, ∃ ys : List Str, x = .str a ∧ xs = [.ref p] ∧ (SqL K H p (ys.map V.str) ∨ SqT K H p (ys.map V.str)) ∧
      (ys.map (·.length)).sum + ys.length * a.length ≤ 16777216 ∧ Q (.str (Txt.join a ys)) H
section
variable {X : Cx}
theorem x_catS : OpR X (binaryOp .Add) xCatS := op_add_str
theorem x_lenS : CallR X (.builtin "len") xLenS := call_len_str
theorem x_lenL : CallR X (.builtin "len") (xLenL X.K) := call_len_seq
theorem x_abs : CallR X (.builtin "abs") xAbs := call_abs
theorem x_max2 (hc : X.calm = true) : CallR X (.builtin "max") xMax2 := call_max2 hc
theorem x_min2 (hc : X.calm = true) : CallR X (.builtin "min") xMin2 := call_min2 hc
theorem x_strI : CallR X (.type "str") xStrI := call_str_int
theorem x_intS : CallR X (.type "int") xIntS := call_int_str
theorem x_intB : CallR X (.type "int") xIntB := call_int1
theorem x_list : CallR X (.type "list") (xListOf X.K) := call_list_of
theorem x_split {o e : Expr} {to te : TE} {apos pos : Pos} (ho : PE X o to) (he : PE X e te) (hs : starEach [e] X.env = [(false, eval e X.env)] := by rfl) (hbase : attributeBase o "split" X.env (eval o X.env) = eval o X.env := by rfl) (hline : (apos.endLine == pos.line) = true := by rfl) :
    PE X (.Call (.Attribute o "split" apos) [e] [] pos) (tM1 xSplit to te) := pe_split ho he hs hbase hline
theorem x_join {o e : Expr} {to te : TE} {apos pos : Pos} (ho : PE X o to) (he : PE X e te) (hs : starEach [e] X.env = [(false, eval e X.env)] := by rfl) (hbase : attributeBase o "join" X.env (eval o X.env) = eval o X.env := by rfl) (hline : (apos.endLine == pos.line) = true := by rfl) :
    PE X (.Call (.Attribute o "join" apos) [e] [] pos) (tM1 (xJoin X.K) to te) := pe_join ho he hs hbase hline
end
/-! ### continuations -/
def kB (Q : Bool → Hp → Prop) : VK := fun x H' => ∃ k, x = .bl k ∧ Q k H'
def kInt (Q : Option Int → Hp → Prop) : VK := fun x H' => ∃ i, x = .int i ∧ Q (some i) H'
def kAndV (tb : TE) (σ : L2.St) (Q : VK) : VK := fun x H1 => ∃ c, x = .bl c ∧ if c = true then tb σ H1 Q else Q (.bl false) H1
def kOrV (tb : TE) (σ : L2.St) (Q : VK) : VK := fun x H1 => ∃ c, x = .bl c ∧ if c = true then Q (.bl true) H1 else tb σ H1 Q
def kNotV (Q : VK) : VK := fun x H1 => ∃ c, x = .bl c ∧ Q (.bl (!c)) H1
def kTru (K : PySem.W.Frag) (Q : Bool → Hp → Prop) : VK := fun x H' => ∃ k, TruV K x H' k ∧ Q k H'
def kStr (Q : VK) : VK := fun x H1 => (∃ a, x = .str a) ∧ Q x H1
def kTy (K : PySem.W.Frag) (T : String) (Q : VK) : VK := fun x H1 => tyV K T x H1 ∧ Q x H1
def kListI (K : PySem.W.Frag) (R : It → Hp → Prop) : VK := fun x H1 => ∃ a, x = .ref a ∧ (∃ xs, SqL K H1 a xs) ∧ R (Itl K a) H1
def kTupI (K : PySem.W.Frag) (R : It → Hp → Prop) : VK := fun x H1 => ∃ a, x = .ref a ∧ (∃ xs, SqT K H1 a xs) ∧ R (Itt K a) H1
def kStrI (R : It → Hp → Prop) : VK := fun v H1 => ∃ x, v = .str x ∧ R (Its x) H1
def kChain (r' : R2) (tc : TE) (σ : L2.St) (y : V) (Q : VK) : VK := fun z H3 => ∃ k, z = .bl k ∧ (if k = true then tc σ H3 fun w' H4 => r' y w' H4 Q else Q (.bl false) H3)
def kRng1 (QR : It → Hp → Prop) : List V → Hp → Prop := fun vs H1 => ∃ j : Int, vs = [.int j] ∧ -(2 ^ 62) ≤ j ∧ j < 2 ^ 62 ∧ QR (Itr 0 j.toNat) H1
def kRng2 (QR : It → Hp → Prop) : List V → Hp → Prop := fun vs H1 => ∃ i j : Int, vs = [.int i, .int j] ∧ (-(2 ^ 62) ≤ i ∧ i < 2 ^ 62 ∧ -(2 ^ 62) ≤ j ∧ j < 2 ^ 62) ∧ QR (Itr i (j - i).toNat) H1
def ForW (J : It) (g : TG) (tb : TS) (D : Ends) (σ : L2.St) (H : Hp) : Prop := ∃ W : Nat → Nat → L2.St → Hp → Prop, (∃ m, W 0 m σ H) ∧ ∀ i m σ H, W i m σ H →
  (J.stop i H ∧ D.nx σ H) ∨ (J.go i H ∧ ∃ N : L2.St → Hp → Prop, (∀ σ' H', N σ' H' → ∃ m', m' < m ∧ W (i + 1) m' σ' H') ∧ ∀ x H', J.yld i H x H' → g x σ H' fun σ2 H2 => tb { D with nx := N, ct := N, bk := D.nx } σ2 H2)
def LcW (J : It) (g : TG) (tt : TT) (te : TE) (vs : List Nat) (σ : L2.St) (H1 : Hp) (Q : VK) : Prop := ∀ D, H1 D = none → ∃ W : Nat → Nat → Hp → Prop, (∃ m, W 0 m (upd H1 D (.lst []))) ∧ ∀ i m H, W i m H →
  (J.stop i H ∧ Q (.ref D) H) ∨ (J.go i H ∧ ∃ Nx : Hp → Prop, (∀ H', Nx H' → ∃ m', m' < m ∧ W (i + 1) m' H') ∧ ∀ x H', J.yld i H x H' → g x (wipe σ vs) H' fun σ2 H2 => wipe σ2 vs = wipe σ vs ∧ tt σ2 H2 fun b H3 =>
    if b = true then te σ2 H3 fun y H4 => ∃ acc, H4 D = some (.lst acc) ∧ acc.length < sizeLine ∧ Nx (upd H4 D (.lst (acc ++ [y]))) else Nx H3)
/-! ### steps -/
section
variable {K : PySem.W.Frag} {σ : L2.St} {H : Hp} {i : Nat} {v x y z : V} {ta tb te tc : TE} {Q : VK} {QB : Bool → Hp → Prop} {QA : List V → Hp → Prop} {QO : Option Int → Hp → Prop} {r r' : R2} {D : Ends} {t u : TS} {g : TG} {tt tt' : TT} {R : It → Hp → Prop} {tas : TA}
theorem i_var (e : σ[i]? = some (some v)) (q : Q v H) : tVar i σ H Q := ⟨v, e, q⟩
theorem i_c (q : Q v H) : tC v σ H Q := q
theorem i_op (q : ta σ H fun x H1 => tb σ H1 fun y H2 => r x y H2 Q) : tOp r ta tb σ H Q := q
theorem i_un {ru : V → Hp → VK → Prop} (q : ta σ H fun x H1 => ru x H1 Q) : tUn ru ta σ H Q := q
theorem i_rI {C : Int → Int → Prop} {f : Int → Int → V} {a b : Int} (q : Q (f a b) H) (c : C a b) : rI C f (.int a) (.int b) H Q := ⟨a, b, rfl, rfl, c, q⟩
theorem i_rI0 {f : Int → Int → V} {a b : Int} (q : Q (f a b) H) : rI0 f (.int a) (.int b) H Q := ⟨a, b, rfl, rfl, q⟩
theorem i_rGe {a b : Int} (q : Q (.bl (decide (b ≤ a))) H) : rGe (.int a) (.int b) H Q := ⟨a, b, rfl, rfl, q⟩
theorem i_rGt {a b : Int} (q : Q (.bl (decide (b < a))) H) : rGt (.int a) (.int b) H Q := ⟨a, b, rfl, rfl, q⟩
theorem i_rU {f : Int → V} {a : Int} (q : Q (f a) H) : rU f (.int a) H Q := ⟨a, rfl, q⟩
theorem i_rEqI {a b : Int} (q : Q (.bl (decide (a = b))) H) : rEq (.int a) (.int b) H Q := ⟨rfl, by rw [dec_int, Bool.beq_eq_decide_eq]; exact q⟩
theorem i_rNeI {a b : Int} (q : Q (.bl (!decide (a = b))) H) : rNe (.int a) (.int b) H Q := ⟨rfl, by rw [dec_int, Bool.beq_eq_decide_eq]; exact q⟩
theorem i_rEqS {a b : Str} (q : Q (.bl (decide (a = b))) H) : rEq (.str a) (.str b) H Q := ⟨rfl, by rw [dec_str, Bool.beq_eq_decide_eq]; exact q⟩
theorem i_rNeS {a b : Str} (q : Q (.bl (!decide (a = b))) H) : rNe (.str a) (.str b) H Q := ⟨rfl, by rw [dec_str, Bool.beq_eq_decide_eq]; exact q⟩
theorem i_rEqB {a b : Bool} (q : Q (.bl (decide (a = b))) H) : rEq (.bl a) (.bl b) H Q := ⟨rfl, by rw [dec_bl, Bool.beq_eq_decide_eq]; exact q⟩
theorem i_rNeB {a b : Bool} (q : Q (.bl (!decide (a = b))) H) : rNe (.bl a) (.bl b) H Q := ⟨rfl, by rw [dec_bl, Bool.beq_eq_decide_eq]; exact q⟩
theorem i_rIsN (q : Q (.bl (decide (x = .non))) H) : rIsN x .non H Q := ⟨rfl, q⟩
theorem i_rNotN (q : Q (.bl (!decide (x = .non))) H) : rNotN x .non H Q := ⟨rfl, q⟩
theorem i_rInS {c : Nat} {z : Str} (q : Q (.bl (decide (c ∈ z.cps.toList))) H) : rInS (.str ⟨#[c]⟩) (.str z) H Q := ⟨c, z, rfl, rfl, q⟩
theorem i_rNotInS {c : Nat} {z : Str} (q : Q (.bl (!decide (c ∈ z.cps.toList))) H) : rNotInS (.str ⟨#[c]⟩) (.str z) H Q := ⟨c, z, rfl, rfl, q⟩
theorem i_catS {a b : Str} (q : Q (.str (a ++ b)) H) (c : a.length + b.length ≤ sizeLine) : xCatS (.str a) (.str b) H Q := ⟨a, b, rfl, rfl, c, q⟩
theorem i_tcb {rr : List V → Hp → VK → Prop} (q : tas σ H fun vs H1 => rr vs H1 Q) : tCB rr tas σ H Q := q
theorem i_nil (q : QA [] H) : tNil σ H QA := q
theorem i_cons (q : ta σ H fun x H1 => tas σ H1 fun xs H2 => QA (x :: xs) H2) : tCons ta tas σ H QA := q
theorem i_lenS {s : Str} (q : Q (.int s.length) H) (c : s.length ≤ sizeLine) : xLenS [.str s] H Q := ⟨s, rfl, c, q⟩
theorem i_lenL {p : Addr} {xs : List V} (h : SqL K H p xs) (q : Q (.int xs.length) H) : xLenL K [.ref p] H Q := ⟨p, xs, rfl, .inl h, q⟩
theorem i_lenT {p : Addr} {xs : List V} (h : SqT K H p xs) (q : Q (.int xs.length) H) : xLenL K [.ref p] H Q := ⟨p, xs, rfl, .inr h, q⟩
theorem i_abs {a : Int} (q : Q (.int (a.natAbs : Int)) H) : xAbs [.int a] H Q := ⟨a, rfl, by
  have e : (if a < 0 then -a else a) = (a.natAbs : Int) := by split <;> omega
  rw [e]; exact q⟩
theorem i_max2 {a b : Int} (q : Q (.int (max a b)) H) : xMax2 [.int a, .int b] H Q := ⟨a, b, rfl, by
  have e : (if b > a then b else a) = max a b := by split <;> omega
  rw [e]; exact q⟩
theorem i_min2 {a b : Int} (q : Q (.int (min a b)) H) : xMin2 [.int a, .int b] H Q := ⟨a, b, rfl, by
  have e : (if b < a then b else a) = min a b := by split <;> omega
  rw [e]; exact q⟩
theorem i_strI {a : Int} (q : Q (.str (toString a)) H) (c : a.natAbs.log2 < 1920) : xStrI [.int a] H Q := ⟨a, rfl, c, q⟩
theorem i_intB {k : Bool} (q : Q (.int (if k then 1 else 0)) H) : xIntB [.bl k] H Q := .inr ⟨k, rfl, q⟩
theorem i_test (q : te σ H (kB QB)) : tTest te σ H QB := q
theorem i_tB (q : te σ H (kB QB)) : tB te σ H QB := q
theorem i_kB {k : Bool} (q : QB k H) : kB QB (.bl k) H := ⟨k, rfl, q⟩
theorem i_and (q : tt σ H fun c H1 => if c = true then tt' σ H1 QB else QB false H1) : tAnd tt tt' σ H QB := q
theorem i_or (q : tt σ H fun c H1 => if c = true then QB true H1 else tt' σ H1 QB) : tOr tt tt' σ H QB := q
theorem i_not (q : tt σ H fun c H1 => QB (!c) H1) : tNot tt σ H QB := q
theorem i_if (q : tt σ H fun c H1 => if c = true then ta σ H1 Q else tb σ H1 Q) : tIf tt ta tb σ H Q := q
theorem i_andV (q : ta σ H (kAndV tb σ Q)) : tAndV ta tb σ H Q := q
theorem i_orV (q : ta σ H (kOrV tb σ Q)) : tOrV ta tb σ H Q := q
theorem i_notV (q : ta σ H (kNotV Q)) : tNotV ta σ H Q := q
theorem i_kAndV {c : Bool} (q : if c = true then tb σ H Q else Q (.bl false) H) : kAndV tb σ Q (.bl c) H := ⟨c, rfl, q⟩
theorem i_kOrV {c : Bool} (q : if c = true then Q (.bl true) H else tb σ H Q) : kOrV tb σ Q (.bl c) H := ⟨c, rfl, q⟩
theorem i_kNotV {c : Bool} (q : Q (.bl (!c)) H) : kNotV Q (.bl c) H := ⟨c, rfl, q⟩
theorem i_chain (q : ta σ H fun x H1 => tb σ H1 fun y H2 => r x y H2 (kChain r' tc σ y Q)) : tChain r r' ta tb tc σ H Q := q
theorem i_kChain {k : Bool} (q : if k = true then tc σ H fun w' H4 => r' y w' H4 Q else Q (.bl false) H) : kChain r' tc σ y Q (.bl k) H := ⟨k, rfl, q⟩
theorem i_seq (q : t { D with nx := u D } σ H) : tSeq t u D σ H := q
theorem i_next (q : D.nx σ H) : tNext D σ H := q
theorem i_drop (q : te σ H fun _ H1 => D.nx σ H1) : tDrop te D σ H := q
theorem i_ret (q : te σ H D.rt) : tRet te D σ H := q
theorem i_retN (q : D.rt .non H) : tRetN D σ H := q
theorem i_ifS (q : tt σ H fun b H1 => if b = true then t D σ H1 else u D σ H1) : tIfS tt t u D σ H := q
theorem i_asg (q : te σ H fun x H1 => g x σ H1 D.nx) : tAsg te g D σ H := q
theorem i_gName {QS : L2.St → Hp → Prop} (q : QS (σ.set i (some v)) H) : gName i v σ H QS := q
theorem i_for {wi : TI} (q : wi σ H fun J H1 => ForW J g t D σ H1) : tFor wi g t D σ H := q
theorem i_lc {wi : TI} {vs : List Nat} (q : wi σ H fun J H1 => LcW J g tt te vs σ H1 Q) : tLc wi g tt te vs σ H Q := q
theorem i_iList (q : ta σ H (kListI K R)) : iList K ta σ H R := q
theorem i_iTup (q : ta σ H (kTupI K R)) : iTup K ta σ H R := q
theorem i_iStr (q : ta σ H (kStrI R)) : iStr ta σ H R := q
theorem i_kListI {a : Addr} {xs : List V} (h : SqL K H a xs) (q : R (Itl K a) H) : kListI K R (.ref a) H := ⟨a, rfl, ⟨xs, h⟩, q⟩
theorem i_kTupI {a : Addr} {xs : List V} (h : SqT K H a xs) (q : R (Itt K a) H) : kTupI K R (.ref a) H := ⟨a, rfl, ⟨xs, h⟩, q⟩
theorem i_kStrI {s : Str} (q : R (Its s) H) : kStrI R (.str s) H := ⟨s, rfl, q⟩
theorem i_lst (q : tas σ H fun xs H1 => xs.length ≤ sizeLine ∧ ∀ p, H1 p = none → Q (.ref p) (upd H1 p (.lst xs))) : tLst tas σ H Q := q
theorem i_tup (q : tas σ H fun xs H1 => xs.length ≤ sizeLine ∧ ∀ p, H1 p = none → Q (.ref p) (upd H1 p (.tup xs))) : tTup tas σ H Q := q
theorem i_ixL {p : Addr} {xs : List V} {j : Int} (h : SqL K H p xs) (e : atI xs j = some v) (q : Q v H) : rIxL K (.ref p) (.int j) H Q := ⟨p, xs, j, v, rfl, rfl, h, e, q⟩
theorem i_ixT {p : Addr} {xs : List V} {j : Int} (h : SqT K H p xs) (e : atI xs j = some v) (q : Q v H) : rIxT K (.ref p) (.int j) H Q := ⟨p, xs, j, v, rfl, rfl, h, e, q⟩
theorem i_ixS {s : Str} {j : Int} {c : Nat} (q : Q (.str ⟨#[c]⟩) H) (hs : s.length ≤ sizeLine) (e : atI s.cps.toList j = some c) : rIxS (.str s) (.int j) H Q := ⟨s, j, c, rfl, rfl, hs, e, q⟩
theorem i_call {sp : Sp} {dvs : List V} {E : XK} (q : tas σ H fun vs H1 => sp (vs ++ dvs) H1 Q E) : tCall sp dvs E tas σ H Q := q
theorem i_m1 {rm : V → List V → Hp → VK → Prop} (q : ta σ H (kStr fun x H1 => te σ H1 fun y H2 => rm x [y] H2 Q)) : tM1 rm ta te σ H Q := q
theorem i_kStr {s : Str} (q : Q (.str s) H) : kStr Q (.str s) H := ⟨⟨s, rfl⟩, q⟩
theorem i_bm {T : String} {rm : V → List V → Hp → VK → Prop} (q : ta σ H (kTy K T fun x H1 => tas σ H1 fun xs H2 => rm x xs H2 Q)) : tBM K T rm ta tas σ H Q := q
theorem i_bm0 {T : String} {rm : V → List V → Hp → VK → Prop} (q : ta σ H (kTy K T fun x H1 => rm x [] H1 Q)) : tBM0 K T rm ta σ H Q := q
theorem i_kTyL {p : Addr} {xs : List V} (h : SqL K H p xs) (q : Q (.ref p) H) : kTy K "list" Q (.ref p) H := ⟨.inl ⟨rfl, xs, h⟩, q⟩
theorem i_append {l : Addr} {xs : List V} {y : V} (h : H l = some (.lst xs)) (q : Q .non (upd H l (.lst (xs ++ [y])))) (c : xs.length < sizeLine) : rAppend (.ref l) [y] H Q := ⟨l, xs, y, rfl, rfl, h, c, q⟩
theorem i_split {a b : Str} (q : ∀ p, H p = none → Q (.ref p) (upd H p (.lst ((Txt.split a b).map V.str)))) (h : (b.length == 0) = false) (c : a.length + 2 ≤ sizeLine) : xSplit (.str a) [.str b] H Q := ⟨a, b, rfl, rfl, h, c, q⟩
theorem i_part (q : te σ H (kInt QO)) : tPart te σ H QO := q
theorem i_kInt {a : Int} (q : QO (some a) H) : kInt QO (.int a) H := ⟨a, rfl, q⟩
theorem i_noPart (q : QO none H) : tNoPart σ H QO := q
theorem i_sl {rs : V → Option Int → Option Int → Hp → VK → Prop} {tl th : TO} (q : te σ H fun x H1 => tl σ H1 fun l H2 => th σ H2 fun u H3 => rs x l u H3 Q) : tSl rs te tl th σ H Q := q
theorem i_slL {a : Addr} {xs : List V} {lo hi : Option Int} (h : SqL K H a xs) (q : ∀ p, H p = none → Q (.ref p) (upd H p (.lst (cutV xs lo hi)))) : rSlL K (.ref a) lo hi H Q := ⟨a, xs, rfl, h, q⟩
theorem i_range1 {QR : It → Hp → Prop} (q : tas σ H (kRng1 QR)) : iRng1 tas σ H QR := q
theorem i_range2 {QR : It → Hp → Prop} (q : tas σ H (kRng2 QR)) : iRng2 tas σ H QR := q
theorem i_kRng1 {j : Int} {QR : It → Hp → Prop} (q : QR (Itr 0 j.toNat) H) (c : -(2 ^ 62) ≤ j ∧ j < 2 ^ 62) : kRng1 QR [.int j] H := ⟨j, rfl, c.1, c.2, q⟩
theorem i_kRng2 {a b : Int} {QR : It → Hp → Prop} (q : QR (Itr a (b - a).toNat) H) (c : -(2 ^ 62) ≤ a ∧ a < 2 ^ 62 ∧ -(2 ^ 62) ≤ b ∧ b < 2 ^ 62) : kRng2 QR [.int a, .int b] H := ⟨a, b, rfl, c, q⟩
theorem i_gTup {a : Addr} {xs : List V} {n : Nat} {gs : TGs} {QS : L2.St → Hp → Prop} (h : SqT K H a xs) (e : xs.length = n) (q : gs xs σ H QS) : gTup K n gs (.ref a) σ H QS := ⟨a, xs, rfl, h, e, q⟩
theorem i_gCons {g : TG} {gs : TGs} {xs : List V} {QS : L2.St → Hp → Prop} (q : g v σ H fun σ' H' => gs xs σ' H' QS) : gCons g gs (v :: xs) σ H QS := ⟨v, xs, rfl, q⟩
theorem i_gNil {QS : L2.St → Hp → Prop} (q : QS σ H) : gNil [] σ H QS := ⟨rfl, q⟩
theorem i_gSub {to ti : TE} {ts : TSet} {QS : L2.St → Hp → Prop} (q : to σ H fun o H1 => ti σ H1 fun i H2 => ts o i v H2 fun H3 => QS σ H3) : gSub to ti ts v σ H QS := q
theorem i_setL {p : Addr} {xs : List V} {k : Int} {j : Nat} {QH : Hp → Prop} (h : H p = some (.lst xs)) (e : ixN xs.length k = some j) (q : QH (upd H p (.lst (xs.set j v)))) : rSetL (.ref p) (.int k) v H QH := ⟨p, xs, k, j, rfl, rfl, h, e, q⟩
def kZip (K : PySem.W.Frag) (R : It → Hp → Prop) : List V → Hp → Prop := fun vs H1 => ∃ a b xs ys, vs = [.ref a, .ref b] ∧ SqL K H1 a xs ∧ SqL K H1 b ys ∧ R (Itz K a b) H1
theorem i_iZip (q : tas σ H (kZip K R)) : iZip K tas σ H R := q
theorem i_kZip {a b : Addr} {xs ys : List V} (h1 : SqL K H a xs) (h2 : SqL K H b ys) (q : R (Itz K a b) H) : kZip K R [.ref a, .ref b] H := ⟨a, b, xs, ys, rfl, h1, h2, q⟩
theorem i_cat {l b : Addr} {xs zs : List V} (h1 : H l = some (.lst xs)) (h2 : H b = some (.lst zs)) (c : xs.length + zs.length ≤ sizeLine) (q : ∀ p, H p = none → Q (.ref p) (upd H p (.lst (xs ++ zs)))) : rCat (.ref l) (.ref b) H Q := ⟨l, b, xs, zs, rfl, rfl, h1, h2, c, q⟩
theorem i_rep {l : Addr} {k : Int} {xs : List V} (h : H l = some (.lst xs)) (c1 : -(2 ^ 63) ≤ k) (c2 : k < 2 ^ 63) (c3 : xs.length * k.toNat ≤ sizeLine) (q : ∀ p, H p = none → Q (.ref p) (upd H p (.lst (List.replicate k.toNat xs).flatten))) : rRep (.ref l) (.int k) H Q := ⟨l, k, xs, rfl, rfl, h, c1, c2, c3, q⟩
theorem i_join {a : Str} {p : Addr} {ys : List Str} (h : SqL K H p (ys.map V.str)) (c : (ys.map (·.length)).sum + ys.length * a.length ≤ 16777216) (q : Q (.str (Txt.join a ys)) H) : xJoin K (.str a) [.ref p] H Q := ⟨a, p, ys, rfl, rfl, .inl h, c, q⟩
theorem i_yes (q : QB true H) : tYes σ H QB := q
theorem i_ift {A B : Prop} (q : A) : if true = true then A else B := by rw [if_pos rfl]; exact q
theorem i_iff {A B : Prop} (q : B) : if false = true then A else B := by rw [if_neg Bool.false_ne_true]; exact q
theorem i_dec {p A B : Prop} [Decidable p] (h1 : p → A) (h2 : ¬ p → B) : if decide p = true then A else B := by
  by_cases h : p
  · rw [if_pos (decide_eq_true h)]; exact h1 h
  · rw [if_neg (by simp [h])]; exact h2 h
theorem i_ndec {p A B : Prop} [Decidable p] (h1 : ¬ p → A) (h2 : p → B) : if (!decide p) = true then A else B := by
  by_cases h : p
  · rw [if_neg (by simp [h])]; exact h2 h
  · rw [if_pos (by simp [h])]; exact h1 h
theorem i_nb {b : Bool} {A B : Prop} (q : if b = true then B else A) : if (!b) = true then A else B := by
  cases b <;> exact q
theorem i_b {b : Bool} {A B : Prop} (h1 : b = true → A) (h2 : b = false → B) : if b = true then A else B := by
  cases b with
  | true => exact i_ift (h1 rfl)
  | false => exact i_iff (h2 rfl)
end
end HX

set_option Elab.async false
set_option linter.all false
set_option maxRecDepth 100000
set_option maxHeartbeats 2000000
/-! HXrev: sep.join(reversed(list of texts)); a figure's place among the figures. -/
namespace HX
open PySem PySem.Spec PyProof.Rows L2
section
variable {prog : Program} {w : World} {A : Around} {E : Value → Shared → Prop} {s : Shared}
theorem join_rev {x : Str} {t : Tok} {it l : Addr} {items : Array Value} {ys : List Str} {Q : Value → Shared → Prop} (hh : A.handled = none) (hit : s.heap.IsRevIter it l ((items.size : Int) - 1)) (hl : s.heap.IsList l items) (hne : l ≠ it) (hn : items.size ≤ sizeLine)
    (hP : ∀ acc : Array Value, ItemsOf (fun i v => items[items.size - 1 - i]? = some v) acc items.size → StrsAre acc.toList ys) (hok : (ys.map (·.length)).sum + ys.length * x.length ≤ 16777216)
    (hq : ∀ (h' : Heap) (k t' : Nat), (∀ b o, b ≠ it → s.heap.get? b = some o → h'.get? b = some o) → Q (.str (Txt.join x ys) t') { s with heap := h', toks := k }) :
    wpAny (model prog w) A (call (.builtin "str.join") [.str x t, .ref it]) Q E s := by
  refine wpAny_call (codeAny_call_builtin F.slot_str_join.plain F.entry_str_join (F.slot_str_join.check _ _ _ _ _ _ _ _ (typeIs_str _ _ _) (F.args_str_join_2 _ _) ?_))
  rw [join_tree_other]
  refine wpAny_bind (wpAny_typeOf hit.typeIs ?_)
  show wpAny _ A.in1 ((pyIter (.ref it)).tryCatch _ >>= fun i => collect i >>= fun items => joinTail x items) _ _ s
  refine wpAny_bind (wpAny_tryCatch (wpAny_pyIter_revIter hit ?_))
  refine wpAny_bind (RT.collect_rev (A := A.in1) hh hit hl hne hn fun h' tk acc hk hacc => ?_)
  obtain ⟨l, hl', ht⟩ := strsAre_values (hP acc hacc)
  subst ht
  rw [hl']
  have hok' := joinOk_of hok
  unfold JoinOk at hok'
  rw [Bool.not_eq_true'] at hok'
  have g : Gives (joinTail x (strValues l)) (joinMade x l) := by
    have g0 := gives_joinTail x l hok'
    cases l with
    | nil => exact g0
    | cons p r => cases r with
      | nil => exact g0
      | cons q r' => exact g0
  exact g prog w A (wants Q E) _ (post_join l ⟨joinFit_length hok', fun t' k => hq h' k t' hk⟩)
end
end HX
namespace HX
open PySem PySem.Spec PyProof.Rows L2
theorem rev_at {ys : List Str} {its : List Value} (r : Vals (ys.map V.str) its) {acc : Array Value} (h : ItemsOf (fun i v => its.toArray[its.toArray.size - 1 - i]? = some v) acc its.toArray.size) : StrsAre acc.toList ys.reverse := by
  have hl : its.length = ys.length := by rw [← r.length, List.length_map]
  obtain ⟨h1, h2⟩ := h
  have key : ∀ (n : Nat) (L : List Value) (zs : List Str), L.length = n → zs.length = n → (∀ (i : Nat) (v : Value), L[i]? = some v → ∃ (y : Str) (t : Tok), zs[i]? = some y ∧ v = Value.str y t) → StrsAre L zs := by
    intro n
    induction n with
    | zero =>
      intro L zs e1 e2 _
      rw [List.length_eq_zero_iff.mp e1, List.length_eq_zero_iff.mp e2]
      exact .nil
    | succ n ih =>
      intro L zs e1 e2 k
      cases L with
      | nil => simp at e1
      | cons v L =>
        cases zs with
        | nil => simp at e2
        | cons z zs =>
          obtain ⟨y, t, hy, rfl⟩ := k 0 v rfl
          have ey : z = y := Option.some.inj hy
          subst ey
          exact .cons z t (ih L zs (by simpa using e1) (by simpa using e2) fun i v' hv => k (i + 1) v' (by simpa using hv))
  refine key ys.length acc.toList ys.reverse ?_ (by simp) fun i v hv => ?_
  · rw [Array.length_toList, h1]; simp [hl]
  · have hv' : acc[i]? = some v := by simpa using hv
    have q := h2 i v hv'
    have hi : i < ys.length := by
      have := (Array.getElem?_eq_some_iff.mp hv').1
      rw [h1] at this
      simpa [hl] using this
    have q2 : its[its.length - 1 - i]? = some v := by simpa using q
    have hj : its.length - 1 - i < ys.length := by omega
    obtain ⟨u, hu, ru⟩ := r.get (i := its.length - 1 - i) (x := V.str ys[its.length - 1 - i]) (by rw [List.getElem?_map, List.getElem?_eq_getElem hj]; rfl)
    rw [q2] at hu
    obtain rfl := Option.some.inj hu
    obtain ⟨t, rfl⟩ := (show ∃ t, v = Value.str _ t from ru)
    refine ⟨_, t, ?_, rfl⟩
    rw [List.getElem?_reverse hi, ← hl, List.getElem?_eq_getElem hj]
section
variable {X : Cx}
def kJoinRev (K : PySem.W.Frag) (sep : Str) (Q : VK) : List V → Hp → Prop := fun vs H2 => ∃ (q : Addr) (ys : List Str), vs = [.ref q] ∧ SqL K H2 q (ys.map V.str) ∧ (ys.map (·.length)).sum + ys.length * sep.length ≤ 16777216 ∧ Q (.str (Txt.join sep ys.reverse)) H2
/-- sep.join(reversed(xs)) -/
def tJoinRev (K : PySem.W.Frag) (to : TE) (ta : TA) : TE := fun σ H Q => to σ H fun x H1 => ∃ a : Str, x = .str a ∧ ta σ H1 (kJoinRev K a Q)
theorem x_joinRev {o e : Expr} {to : TE} {ta : TA} {apos pos p pos2 : Pos} (hc : X.calm = true) (ho : PE X o to) (hg : Gl X "reversed") (hm : X.mg "reversed" = none) (ha : PA X [e] ta)
    (hs1 : starEach [.Call (.Name "reversed" p) [e] [] pos2] X.env = [(false, eval (.Call (.Name "reversed" p) [e] [] pos2) X.env)] := by rfl) (hs : starEach [e] X.env = [(false, eval e X.env)] := by rfl)
    (hbase : attributeBase o "join" X.env (eval o X.env) = eval o X.env := by rfl) (hline : (apos.endLine == pos.line) = true := by rfl) :
    PE X (.Call (.Attribute o "join" apos) [.Call (.Name "reversed" p) [e] [] pos2] [] pos) (tJoinRev X.K to ta) := by
  refine ⟨fun pins s σ H Q I h => ?_⟩
  refine PySem.Call_method1 hbase hs1 hline (thn (ho.run pins s σ H _ I h) fun v s1 ⟨x, H1, I1, r1, q1⟩ => ?_)
  obtain ⟨a, rfl, q1⟩ := q1
  obtain ⟨t, rfl⟩ := _root_.id r1
  refine ⟨"str", _, F.plainAttrs_str, F.slot_str_join, F.type_str_join, typeIs_str _ _ _, (fun _ e => nomatch e), Calls.callWith_builtin rfl (Calls.evalArgs_plain (Calls.spliced_cons ?_))⟩
  refine Call_ (ld_blt I1 hg hm PyProof.Rows.boot_reversed (PyProof.Rows.callWith_type1 (thn (ha.run pos2 pins s1 σ H1 _ I1 q1) fun us s2 ⟨vs, H2, I2, r2, q2⟩ => ?_) hs rfl))
  obtain ⟨q, ys, rfl, hq, hz, q3⟩ := q2
  cases r2 with
  | cons r rr =>
    cases rr
    cases r
    obtain ⟨its, rv, pl, hsz⟩ := I2.list hq
    have hit : (s2.heap.push (revObj q ((its.toArray.size : Int) - 1))).IsRevIter s2.heap.objs.size q ((its.toArray.size : Int) - 1) := ⟨_, Heap.get?_push_size _ rfl, rfl, rfl⟩
    have hlt : q < s2.heap.objs.size := by obtain ⟨o, ho, _⟩ := pl.isList; exact Heap.lt_size ho
    refine call_reversed_list pl.isList (Calls.spliced_nil (join_rev (s := { s2 with heap := s2.heap.push (revObj q ((its.toArray.size : Int) - 1)) }) (ys := ys.reverse) (I2.ok.hd hc) hit (pl.isList.push _) (Nat.ne_of_lt hlt) (by rw [List.size_toArray, ← rv.length]; exact hsz) (fun acc hacc => rev_at rv hacc) (by simpa [List.sum_reverse] using hz) fun h' k t' hk => ?_))
    exact ⟨.str _, H2, I2.kept (t' := k) (fun b o e => hk b o (Nat.ne_of_lt (Heap.lt_size e)) (Heap.get?_push_of_some _ e)), ⟨t', rfl⟩, q3⟩
end
section
variable {K : PySem.W.Frag} {σ : L2.St} {H : Hp} {to : TE} {ta : TA} {Q : VK}
def kRev0 (K : PySem.W.Frag) (ta : TA) (σ : L2.St) (Q : VK) : VK := fun x H1 => ∃ a : Str, x = .str a ∧ ta σ H1 (kJoinRev K a Q)
theorem i_joinRev (q : to σ H (kRev0 K ta σ Q)) : tJoinRev K to ta σ H Q := q
theorem i_kRev0 {a : Str} (q : ta σ H (kJoinRev K a Q)) : kRev0 K ta σ Q (.str a) H := ⟨a, rfl, q⟩
theorem i_kJoinRev {a : Str} {p : Addr} {ys : List Str} (h : SqL K H p (ys.map V.str)) (c : (ys.map (·.length)).sum + ys.length * a.length ≤ 16777216) (q : Q (.str (Txt.join a ys.reverse)) H) : kJoinRev K a Q [.ref p] H := ⟨p, ys, rfl, h, c, q⟩
end
/-! ### a figure's place -/
def figs : Str := "0123456789"
theorem occ_fig : ∀ d : Nat, d < 10 → Builtin.Str.occurrences figs ⟨#[48 + d]⟩ 0 figs.length 1 = [d] := by decide +kernel
def xIndexF : V → List V → Hp → VK → Prop := fun x xs H Q => ∃ d : Nat, x = .str figs ∧ xs = [.str ⟨#[48 + d]⟩] ∧ d < 10 ∧ Q (.int (d : Nat)) H
theorem mt_indexF {X : Cx} : MtR X "str.index" xIndexF := by
  intro pins s σ H x xs v us Q I rx rs h
  obtain ⟨d, rfl, rfl, hd, q⟩ := h
  exact mt_sindex pins s σ H _ _ v us Q I rx rs ⟨figs, _, d, [], rfl, rfl, occ_fig d hd, q⟩
theorem x_indexS {X : Cx} {o e : Expr} {to te : TE} {apos pos : Pos} (ho : PE X o to) (he : PE X e te) (hs : starEach [e] X.env = [(false, eval e X.env)] := by rfl) (hbase : attributeBase o "index" X.env (eval o X.env) = eval o X.env := by rfl) (hline : (apos.endLine == pos.line) = true := by rfl) :
    PE X (.Call (.Attribute o "index" apos) [e] [] pos) (tM1 xIndexF to te) := pe_m1 F.slot_str_index F.type_str_index mt_indexF ho he hs hbase hline
end HX

set_option Elab.async false
set_option linter.all false
set_option maxRecDepth 100000
set_option maxHeartbeats 2000000
/-! K01m: texts and data, plain mathematics. -/
namespace TX
open PySem PySem.Spec PyProof.Rows L2 HX TL
/-! ### good texts -/
abbrev okS (z : Str) : Bool := PyData.strOk z
theorem okS_iff {z : Str} : okS z = true ↔ ∀ c ∈ tl z, c < 0x110000 := by
  unfold okS PyData.strOk
  rw [Array.all_eq_true']
  simp [tl]
theorem okS_app {x y : Str} (hx : okS x = true) (hy : okS y = true) : okS (x ++ y) = true := by
  rw [okS_iff] at *
  intro c hc
  rw [tl_append] at hc
  rcases List.mem_append.mp hc with h | h
  · exact hx c h
  · exact hy c h
theorem okS_one {c : Nat} (h : c < 0x110000) : okS ⟨#[c]⟩ = true := okS_iff.mpr fun d hd => by
  have : d = c := by simpa [tl] using hd
  omega
theorem okS_sign {z : Str} {c : Nat} (h : okS z = true) (hc : c ∈ z.cps.toList) : okS ⟨#[c]⟩ = true := okS_one (okS_iff.mp h c hc)
theorem mem_joinL {S : List Nat} : ∀ {ps : List (List Nat)} {p : List Nat} {c : Nat}, p ∈ ps → c ∈ p → c ∈ joinL S ps
  | [q], p, c, hp, hc => by
    rw [List.mem_singleton.mp hp] at hc
    exact hc
  | q :: q2 :: r, p, c, hp, hc => by
    show c ∈ q ++ (S ++ joinL S (q2 :: r))
    rcases List.mem_cons.mp hp with rfl | h
    · exact List.mem_append.mpr (.inl hc)
    · exact List.mem_append.mpr (.inr (List.mem_append.mpr (.inr (mem_joinL h hc))))
theorem of_joinL {S : List Nat} : ∀ {ps : List (List Nat)} {c : Nat}, c ∈ joinL S ps → c ∈ S ∨ ∃ p ∈ ps, c ∈ p
  | [], c, h => by simp [joinL] at h
  | [q], c, h => .inr ⟨q, by simp, h⟩
  | q :: q2 :: r, c, h => by
    rcases List.mem_append.mp (show c ∈ q ++ (S ++ joinL S (q2 :: r)) from h) with h | h
    · exact .inr ⟨q, by simp, h⟩
    · rcases List.mem_append.mp h with h | h
      · exact .inl h
      · rcases of_joinL h with h | ⟨p, hp, hc⟩
        · exact .inl h
        · exact .inr ⟨p, List.mem_cons_of_mem _ hp, hc⟩
theorem okS_split {x y z : Str} (h : okS x = true) (hz : z ∈ Txt.split x y) : okS z = true := by
  rw [okS_iff] at *
  intro c hc
  refine h c ?_
  rw [← StrLaws.join_split x y, tl_join]
  exact mem_joinL (List.mem_map.mpr ⟨z, hz, rfl⟩) hc
theorem okS_join {y : Str} {ys : List Str} (hy : okS y = true) (h : ∀ z ∈ ys, okS z = true) : okS (Txt.join y ys) = true := by
  rw [join_eq, okS_iff, tl_join]
  intro c hc
  rcases of_joinL hc with hc | ⟨p, hp, hc⟩
  · exact okS_iff.mp hy c hc
  · obtain ⟨z, hz, rfl⟩ := List.mem_map.mp hp
    exact okS_iff.mp (h z hz) c hc
theorem len_app (x y : Str) : (x ++ y).length = x.length + y.length := by
  rw [len_tl, tl_append, List.length_append, ← len_tl, ← len_tl]
theorem joinL_len_nil : ∀ ps : List (List Nat), (joinL [] ps).length = (ps.map List.length).sum
  | [] => rfl
  | [p] => by simp [joinL]
  | p :: q :: r => by
    show (p ++ ([] ++ joinL [] (q :: r))).length = _
    rw [List.length_append, List.nil_append, joinL_len_nil (q :: r)]
    simp
theorem joinL_nil : ∀ ps : List (List Nat), joinL [] ps = ps.flatten
  | [] => rfl
  | [p] => by simp [joinL]
  | p :: q :: r => by
    show p ++ ([] ++ joinL [] (q :: r)) = _
    rw [List.nil_append, joinL_nil (q :: r)]
    simp
theorem tl_empty : tl ("" : Str) = [] := by decide +kernel
theorem join_empty_len (ys : List Str) : (Txt.join "" ys).length = (ys.map (·.length)).sum := by
  rw [join_eq, len_tl, tl_join, tl_empty, joinL_len_nil, List.map_map]
  congr 1
theorem sum_le {ys : List Str} {k : Nat} (h : ∀ y ∈ ys, y.length ≤ k) : (ys.map (·.length)).sum ≤ ys.length * k := by
  induction ys with
  | nil => simp
  | cons y r ih =>
    rw [List.map_cons, List.sum_cons, List.length_cons]
    have h1 := h y (by simp)
    have h2 := ih fun z hz => h z (by simp [hz])
    rw [Nat.succ_mul]
    omega
/-! ### lists of texts as data -/
section
variable {K : PySem.W.Frag} {H : Hp} {Q : VK}
theorem dp_strs : ∀ ys : List Str, DpAll K H (ys.map V.str) (ys.map PyData.str)
  | [] => .nil
  | y :: r => .cons (.str y) (dp_strs r)
theorem depth_strs : ∀ ys : List Str, PyData.depthAll (ys.map PyData.str) = 0
  | [] => by simp [PyData.depthAll]
  | y :: r => by simp [PyData.depthAll, PyData.depth, depth_strs r]
theorem lay_strs : ∀ {ys : List Str}, (∀ y ∈ ys, okS y = true) → PyData.canLayAll0 (ys.map PyData.str) = true
  | [], _ => by simp [PyData.canLayAll0]
  | y :: r, h => by
    have h1 := h y (by simp)
    have h2 := lay_strs (ys := r) fun z hz => h z (by simp [hz])
    simp only [List.map_cons, PyData.canLayAll0, PyData.canLay0, h2, Bool.and_true]
    exact h1
theorem shaped_strs {ys : List Str} (h : ∀ y ∈ ys, okS y = true) : SeqAt.shaped (.list (ys.map PyData.str)) = true := by
  unfold SeqAt.shaped
  rw [PyData.canLay0, lay_strs h, PyData.depth, depth_strs]
  rfl
theorem eqvAll_nil : ∀ ys : List Str, PyData.eqv (.list (ys.map PyData.str)) (.list []) = ys.isEmpty
  | [] => by simp [PyData.eqv, PyData.eqvAll]
  | y :: r => by simp [PyData.eqv, PyData.eqvAll]
theorem eqv_same {ys : List Str} (h : ∀ y ∈ ys, okS y = true) : PyData.eqv (.list (ys.map PyData.str)) (.list (ys.map PyData.str)) = true :=
  SeqAt.eqv_refl _ (by rw [PyData.canLay0]; exact lay_strs h)
theorem i_eqNil {D p : Addr} {ys : List Str} (h : SqL K H D (ys.map V.str)) (h2 : SqL K H p []) (o : ∀ y ∈ ys, okS y = true) (q : Q (.bl ys.isEmpty) H) : rEqD K (.ref D) (.ref p) H Q :=
  ⟨_, _, .lst h (dp_strs ys), .lst h2 .nil, shaped_strs o, by decide +kernel, by rw [eqvAll_nil]; exact q⟩
theorem i_neNil {D p : Addr} {ys : List Str} (h : SqL K H D (ys.map V.str)) (h2 : SqL K H p []) (o : ∀ y ∈ ys, okS y = true) (q : Q (.bl (!ys.isEmpty)) H) : rNeD K (.ref D) (.ref p) H Q :=
  ⟨_, _, .lst h (dp_strs ys), .lst h2 .nil, shaped_strs o, by decide +kernel, by rw [eqvAll_nil]; exact q⟩
theorem i_neSame {D p : Addr} {ys : List Str} (h : SqL K H D (ys.map V.str)) (h2 : SqL K H p (ys.map V.str)) (o : ∀ y ∈ ys, okS y = true) (q : Q (.bl false) H) : rNeD K (.ref D) (.ref p) H Q :=
  ⟨_, _, .lst h (dp_strs ys), .lst h2 (dp_strs ys), shaped_strs o, shaped_strs o, by rw [eqv_same o]; exact q⟩
end
/-! ### the figures of a number, the last one first -/
def FigInv (n : Nat) (left : Nat) (fs : List Nat) : Prop :=
  (fs = [] ∧ left = n) ∨ (fs ≠ [] ∧ (0 < left → numL left ++ fs.reverse = numL n) ∧ (left = 0 → fs.reverse = numL n))
theorem FigInv.step {n left : Nat} {fs : List Nat} (h : FigInv n left fs) (c : 0 < left ∨ fs = []) : FigInv n (left / 10) (fs ++ [48 + left % 10]) := by
  refine .inr ⟨by simp, fun hp => ?_, fun hz => ?_⟩
  · have h10 : 10 ≤ left := by omega
    rw [List.reverse_append]
    rcases h with ⟨rfl, rfl⟩ | ⟨_, h1, _⟩
    · rw [numL_step h10]; simp
    · rw [← h1 (by omega), numL_step h10]; simp
  · have h10 : left < 10 := by omega
    rw [List.reverse_append]
    rcases h with ⟨rfl, rfl⟩ | ⟨hne, h1, _⟩
    · rw [numL_lt h10, Nat.mod_eq_of_lt h10]; simp
    · rw [← h1 (by rcases c with c | c; exact c; exact absurd c hne), numL_lt h10, Nat.mod_eq_of_lt h10]; simp
theorem FigInv.done {n : Nat} {fs : List Nat} (h : FigInv n 0 fs) (hne : fs ≠ []) : fs.reverse = numL n := by
  rcases h with ⟨e, _⟩ | ⟨_, _, h2⟩
  · exact absurd e hne
  · exact h2 rfl
def sgn (c : Nat) : Str := ⟨#[c]⟩
theorem flat_signs : ∀ fs : List Nat, ((fs.map sgn).map tl).flatten = fs
  | [] => rfl
  | c :: r => by
    rw [List.map_cons, List.map_cons, List.flatten_cons, flat_signs r]
    rfl
theorem join_signs (fs : List Nat) : tl (Txt.join "" ((fs.map sgn).reverse)) = fs.reverse := by
  rw [join_eq, tl_join, tl_empty, joinL_nil, ← List.map_reverse, flat_signs]
theorem numL_head {n : Nat} (h : (numL n).headD 0 = 48) : n = 0 := by
  induction n using Nat.strongRecOn with
  | _ n ih =>
    by_cases h10 : n < 10
    · rw [numL_lt h10] at h
      simp at h
      omega
    · rw [numL_step (by omega)] at h
      have e := ih (n / 10) (by omega) (by
        cases q : numL (n / 10) with
        | nil => exact absurd q (numL_ne _)
        | cons c r => rw [q] at h; exact h)
      omega
end TX

set_option Elab.async false
set_option linter.all false
set_option maxRecDepth 100000
set_option maxHeartbeats 2000000
namespace K01
open PySem PySem.Spec PyProof.Rows L2 HX
def top (i : Nat) : Stmt := PySem.Challenge.pw_reachbook_k01_words_and_numbers.main.body.getD i (.Pass ⟨0, 0, 0, 0⟩)
abbrev s_has_only : Stmt := (top 5)
abbrev N_has_only : List Str := ["text", "signs", "sign"]
theorem sc_has_only : FnScope N_has_only ["text", "signs"] (defScope s_has_only) := ⟨rfl, rfl, rfl, by decide +kernel, rfl, by decide +kernel, by decide +kernel⟩
abbrev s_is_whole : Stmt := (top 6)
abbrev N_is_whole : List Str := ["thing"]
theorem sc_is_whole : FnScope N_is_whole ["thing"] (defScope s_is_whole) := ⟨rfl, rfl, rfl, by decide +kernel, rfl, by decide +kernel, by decide +kernel⟩
abbrev s_is_among : Stmt := (top 7)
abbrev N_is_among : List Str := ["thing", "least", "most"]
theorem sc_is_among : FnScope N_is_among ["thing", "least", "most"] (defScope s_is_among) := ⟨rfl, rfl, rfl, by decide +kernel, rfl, by decide +kernel, by decide +kernel⟩
abbrev s_is_name : Stmt := (top 8)
abbrev N_is_name : List Str := ["thing"]
theorem sc_is_name : FnScope N_is_name ["thing"] (defScope s_is_name) := ⟨rfl, rfl, rfl, by decide +kernel, rfl, by decide +kernel, by decide +kernel⟩
abbrev s_number_text : Stmt := (top 9)
abbrev N_number_text : List Str := ["number"]
theorem sc_number_text : FnScope N_number_text ["number"] (defScope s_number_text) := ⟨rfl, rfl, rfl, by decide +kernel, rfl, by decide +kernel, by decide +kernel⟩
abbrev s_number_of : Stmt := (top 10)
abbrev N_number_of : List Str := ["word"]
theorem sc_number_of : FnScope N_number_of ["word"] (defScope s_number_of) := ⟨rfl, rfl, rfl, by decide +kernel, rfl, by decide +kernel, by decide +kernel⟩
abbrev s_words_of : Stmt := (top 11)
abbrev N_words_of : List Str := ["line", "words"]
theorem sc_words_of : FnScope N_words_of ["line"] (defScope s_words_of) := ⟨rfl, rfl, rfl, by decide +kernel, rfl, by decide +kernel, by decide +kernel⟩
abbrev s_law_cell_at : Stmt := (top 13)
abbrev N_law_cell_at : List Str := ["_law_script", "_law_k"]
theorem sc_law_cell_at : FnScope N_law_cell_at ["_law_script", "_law_k"] (defScope s_law_cell_at) := ⟨rfl, rfl, rfl, by decide +kernel, rfl, by decide +kernel, by decide +kernel⟩
abbrev s_law_mixed : Stmt := (top 14)
abbrev N_law_mixed : List Str := ["_law_cell", "_law_k"]
theorem sc_law_mixed : FnScope N_law_mixed ["_law_cell", "_law_k"] (defScope s_law_mixed) := ⟨rfl, rfl, rfl, by decide +kernel, rfl, by decide +kernel, by decide +kernel⟩
abbrev s_law_great : Stmt := (top 15)
abbrev N_law_great : List Str := ["_law_cell", "_law_k", "_law_number", "_law_j"]
theorem sc_law_great : FnScope N_law_great ["_law_cell", "_law_k"] (defScope s_law_great) := ⟨rfl, rfl, rfl, by decide +kernel, rfl, by decide +kernel, by decide +kernel⟩
abbrev s_law_signs : Stmt := (top 16)
abbrev N_law_signs : List Str := ["_law_some"]
theorem sc_law_signs : FnScope N_law_signs [] (defScope s_law_signs) := ⟨rfl, rfl, rfl, by decide +kernel, rfl, by decide +kernel, by decide +kernel⟩
abbrev s_law_text : Stmt := (top 17)
abbrev N_law_text : List Str := ["_law_cell", "_law_letters", "_law_way", "_law_size", "_law_long", "_law_word", "_law_j"]
theorem sc_law_text : FnScope N_law_text ["_law_cell"] (defScope s_law_text) := ⟨rfl, rfl, rfl, by decide +kernel, rfl, by decide +kernel, by decide +kernel⟩
abbrev s_law_odd : Stmt := (top 18)
abbrev N_law_odd : List Str := ["_law_cell"]
theorem sc_law_odd : FnScope N_law_odd ["_law_cell"] (defScope s_law_odd) := ⟨rfl, rfl, rfl, by decide +kernel, rfl, by decide +kernel, by decide +kernel⟩
abbrev s_law_is_name : Stmt := (top 19)
abbrev N_law_is_name : List Str := ["_law_thing", "_law_sign"]
theorem sc_law_is_name : FnScope N_law_is_name ["_law_thing"] (defScope s_law_is_name) := ⟨rfl, rfl, rfl, by decide +kernel, rfl, by decide +kernel, by decide +kernel⟩
abbrev s_law_number_of : Stmt := (top 20)
abbrev N_law_number_of : List Str := ["_law_word", "_law_number", "_law_sign"]
theorem sc_law_number_of : FnScope N_law_number_of ["_law_word"] (defScope s_law_number_of) := ⟨rfl, rfl, rfl, by decide +kernel, rfl, by decide +kernel, by decide +kernel⟩
abbrev s_law_alike : Stmt := (top 21)
abbrev N_law_alike : List Str := ["_law_found", "_law_due"]
theorem sc_law_alike : FnScope N_law_alike ["_law_found", "_law_due"] (defScope s_law_alike) := ⟨rfl, rfl, rfl, by decide +kernel, rfl, by decide +kernel, by decide +kernel⟩
abbrev s_law_asked : Stmt := (top 22)
abbrev N_law_asked : List Str := ["_law_way", "_law_thing", "_law_least", "_law_most", "_law_whole"]
theorem sc_law_asked : FnScope N_law_asked ["_law_way", "_law_thing", "_law_least", "_law_most"] (defScope s_law_asked) := ⟨rfl, rfl, rfl, by decide +kernel, rfl, by decide +kernel, by decide +kernel⟩
abbrev s_law_number_good : Stmt := (top 23)
abbrev N_law_number_good : List Str := ["_law_number", "_law_text_here", "_law_figures", "_law_left", "_law_due"]
theorem sc_law_number_good : FnScope N_law_number_good ["_law_number"] (defScope s_law_number_good) := ⟨rfl, rfl, rfl, by decide +kernel, rfl, by decide +kernel, by decide +kernel⟩
abbrev s_law_line : Stmt := (top 24)
abbrev N_law_line : List Str := ["_law_script", "_law_cell", "_law_words", "_law_between", "_law_line_here", "_law_word", "_law_blank", "_law_one"]
theorem sc_law_line : FnScope N_law_line ["_law_script"] (defScope s_law_line) := ⟨rfl, rfl, rfl, by decide +kernel, rfl, by decide +kernel, by decide +kernel⟩
abbrev s_law_line_good : Stmt := (top 25)
abbrev N_law_line_good : List Str := ["_law_line_here", "_law_due", "_law_turn", "_law_found"]
theorem sc_law_line_good : FnScope N_law_line_good ["_law_line_here"] (defScope s_law_line_good) := ⟨rfl, rfl, rfl, by decide +kernel, rfl, by decide +kernel, by decide +kernel⟩
abbrev s_law : Stmt := (top 26)
abbrev N_law : List Str := ["_law_script", "_law_k", "_law_cell", "_law_number", "_law_some", "_law_least", "_law_most", "_law_thing", "_law_turn"]
theorem sc_law : FnScope N_law ["_law_script"] (defScope s_law) := ⟨rfl, rfl, rfl, by decide +kernel, rfl, by decide +kernel, by decide +kernel⟩
structure Tx (K : PySem.W.Frag) (mg : Str → Option Value) where
  b_abs : mg "abs" = none
  b_bool : mg "bool" = none
  b_int : mg "int" = none
  b_isinstance : mg "isinstance" = none
  b_len : mg "len" = none
  b_list : mg "list" = none
  b_max : mg "max" = none
  b_min : mg "min" = none
  b_range : mg "range" = none
  b_reversed : mg "reversed" = none
  b_str : mg "str" = none
  b_zip : mg "zip" = none
  c_LETTERS : ∃ t, mg "LETTERS" = some (.str "abcdefghijklmnopqrstuvwxyz" t)
  c_FIGURES : ∃ t, mg "FIGURES" = some (.str "0123456789" t)
  c_MOST_LETTERS : ∃ t, mg "MOST_LETTERS" = some (.int 12 t)
  c_MOST_FIGURES : ∃ t, mg "MOST_FIGURES" = some (.int 61 t)
  fd_has_only : FuncData
  F_has_only : FunD K "_has_only" "_has_only" (defArgs s_has_only) (defBody s_has_only) (defScope s_has_only) [] [] (He.ga K "_has_only") fd_has_only
  k_has_only : Binds K fd_has_only ["text", "signs"] []
  g_has_only : mg "_has_only" = some (.ref (He.ga K "_has_only"))
  fd_is_whole : FuncData
  F_is_whole : FunD K "is_whole" "is_whole" (defArgs s_is_whole) (defBody s_is_whole) (defScope s_is_whole) [] [] (He.ga K "is_whole") fd_is_whole
  k_is_whole : Binds K fd_is_whole ["thing"] []
  g_is_whole : mg "is_whole" = some (.ref (He.ga K "is_whole"))
  fd_is_among : FuncData
  F_is_among : FunD K "is_among" "is_among" (defArgs s_is_among) (defBody s_is_among) (defScope s_is_among) [] [] (He.ga K "is_among") fd_is_among
  k_is_among : Binds K fd_is_among ["thing", "least", "most"] []
  g_is_among : mg "is_among" = some (.ref (He.ga K "is_among"))
  fd_is_name : FuncData
  F_is_name : FunD K "is_name" "is_name" (defArgs s_is_name) (defBody s_is_name) (defScope s_is_name) [] [] (He.ga K "is_name") fd_is_name
  k_is_name : Binds K fd_is_name ["thing"] []
  g_is_name : mg "is_name" = some (.ref (He.ga K "is_name"))
  fd_number_text : FuncData
  F_number_text : FunD K "number_text" "number_text" (defArgs s_number_text) (defBody s_number_text) (defScope s_number_text) [] [] (He.ga K "number_text") fd_number_text
  k_number_text : Binds K fd_number_text ["number"] []
  g_number_text : mg "number_text" = some (.ref (He.ga K "number_text"))
  fd_number_of : FuncData
  F_number_of : FunD K "number_of" "number_of" (defArgs s_number_of) (defBody s_number_of) (defScope s_number_of) [] [] (He.ga K "number_of") fd_number_of
  k_number_of : Binds K fd_number_of ["word"] []
  g_number_of : mg "number_of" = some (.ref (He.ga K "number_of"))
  fd_words_of : FuncData
  F_words_of : FunD K "words_of" "words_of" (defArgs s_words_of) (defBody s_words_of) (defScope s_words_of) [] [] (He.ga K "words_of") fd_words_of
  k_words_of : Binds K fd_words_of ["line"] []
  g_words_of : mg "words_of" = some (.ref (He.ga K "words_of"))
  fd_law_cell_at : FuncData
  F_law_cell_at : FunD K "_law_cell_at" "_law_cell_at" (defArgs s_law_cell_at) (defBody s_law_cell_at) (defScope s_law_cell_at) [] [] (He.ga K "_law_cell_at") fd_law_cell_at
  k_law_cell_at : Binds K fd_law_cell_at ["_law_script", "_law_k"] []
  g_law_cell_at : mg "_law_cell_at" = some (.ref (He.ga K "_law_cell_at"))
  fd_law_mixed : FuncData
  F_law_mixed : FunD K "_law_mixed" "_law_mixed" (defArgs s_law_mixed) (defBody s_law_mixed) (defScope s_law_mixed) [] [] (He.ga K "_law_mixed") fd_law_mixed
  k_law_mixed : Binds K fd_law_mixed ["_law_cell", "_law_k"] []
  g_law_mixed : mg "_law_mixed" = some (.ref (He.ga K "_law_mixed"))
  fd_law_great : FuncData
  F_law_great : FunD K "_law_great" "_law_great" (defArgs s_law_great) (defBody s_law_great) (defScope s_law_great) [] [] (He.ga K "_law_great") fd_law_great
  k_law_great : Binds K fd_law_great ["_law_cell", "_law_k"] []
  g_law_great : mg "_law_great" = some (.ref (He.ga K "_law_great"))
  fd_law_signs : FuncData
  F_law_signs : FunD K "_law_signs" "_law_signs" (defArgs s_law_signs) (defBody s_law_signs) (defScope s_law_signs) [] [] (He.ga K "_law_signs") fd_law_signs
  k_law_signs : Binds K fd_law_signs [] []
  g_law_signs : mg "_law_signs" = some (.ref (He.ga K "_law_signs"))
  fd_law_text : FuncData
  F_law_text : FunD K "_law_text" "_law_text" (defArgs s_law_text) (defBody s_law_text) (defScope s_law_text) [] [] (He.ga K "_law_text") fd_law_text
  k_law_text : Binds K fd_law_text ["_law_cell"] []
  g_law_text : mg "_law_text" = some (.ref (He.ga K "_law_text"))
  fd_law_odd : FuncData
  F_law_odd : FunD K "_law_odd" "_law_odd" (defArgs s_law_odd) (defBody s_law_odd) (defScope s_law_odd) [] [] (He.ga K "_law_odd") fd_law_odd
  k_law_odd : Binds K fd_law_odd ["_law_cell"] []
  g_law_odd : mg "_law_odd" = some (.ref (He.ga K "_law_odd"))
  fd_law_is_name : FuncData
  F_law_is_name : FunD K "_law_is_name" "_law_is_name" (defArgs s_law_is_name) (defBody s_law_is_name) (defScope s_law_is_name) [] [] (He.ga K "_law_is_name") fd_law_is_name
  k_law_is_name : Binds K fd_law_is_name ["_law_thing"] []
  g_law_is_name : mg "_law_is_name" = some (.ref (He.ga K "_law_is_name"))
  fd_law_number_of : FuncData
  F_law_number_of : FunD K "_law_number_of" "_law_number_of" (defArgs s_law_number_of) (defBody s_law_number_of) (defScope s_law_number_of) [] [] (He.ga K "_law_number_of") fd_law_number_of
  k_law_number_of : Binds K fd_law_number_of ["_law_word"] []
  g_law_number_of : mg "_law_number_of" = some (.ref (He.ga K "_law_number_of"))
  fd_law_alike : FuncData
  F_law_alike : FunD K "_law_alike" "_law_alike" (defArgs s_law_alike) (defBody s_law_alike) (defScope s_law_alike) [] [] (He.ga K "_law_alike") fd_law_alike
  k_law_alike : Binds K fd_law_alike ["_law_found", "_law_due"] []
  g_law_alike : mg "_law_alike" = some (.ref (He.ga K "_law_alike"))
  fd_law_asked : FuncData
  F_law_asked : FunD K "_law_asked" "_law_asked" (defArgs s_law_asked) (defBody s_law_asked) (defScope s_law_asked) [] [] (He.ga K "_law_asked") fd_law_asked
  k_law_asked : Binds K fd_law_asked ["_law_way", "_law_thing", "_law_least", "_law_most"] []
  g_law_asked : mg "_law_asked" = some (.ref (He.ga K "_law_asked"))
  fd_law_number_good : FuncData
  F_law_number_good : FunD K "_law_number_good" "_law_number_good" (defArgs s_law_number_good) (defBody s_law_number_good) (defScope s_law_number_good) [] [] (He.ga K "_law_number_good") fd_law_number_good
  k_law_number_good : Binds K fd_law_number_good ["_law_number"] []
  g_law_number_good : mg "_law_number_good" = some (.ref (He.ga K "_law_number_good"))
  fd_law_line : FuncData
  F_law_line : FunD K "_law_line" "_law_line" (defArgs s_law_line) (defBody s_law_line) (defScope s_law_line) [] [] (He.ga K "_law_line") fd_law_line
  k_law_line : Binds K fd_law_line ["_law_script"] []
  g_law_line : mg "_law_line" = some (.ref (He.ga K "_law_line"))
  fd_law_line_good : FuncData
  F_law_line_good : FunD K "_law_line_good" "_law_line_good" (defArgs s_law_line_good) (defBody s_law_line_good) (defScope s_law_line_good) [] [] (He.ga K "_law_line_good") fd_law_line_good
  k_law_line_good : Binds K fd_law_line_good ["_law_line_here"] []
  g_law_line_good : mg "_law_line_good" = some (.ref (He.ga K "_law_line_good"))
  fd_law : FuncData
  F_law : FunD K "law" "law" (defArgs s_law) (defBody s_law) (defScope s_law) [] [] (He.ga K "law") fd_law
  k_law : Binds K fd_law ["_law_script"] []
  g_law : mg "law" = some (.ref (He.ga K "law"))
/-! ### the mathematics -/
/-- all signs of z are signs of s -/
def only (z s : Str) : Bool := z.cps.toList.all fun c => decide (c ∈ s.cps.toList)
/-- what the law hands in -/
inductive Th (H : Hp) : V → Prop where
  | non : Th H .non
  | bl (b : Bool) : Th H (.bl b)
  | int (i : Int) : Th H (.int i)
  | str (z : Str) (h : z.length ≤ 1000) (o : PyData.strOk z = true) : Th H (.str z)
  | lst {a : Addr} {xs : List V} (e : H a = some (.lst xs)) : Th H (.ref a)
  | tup {a : Addr} {xs : List V} (e : H a = some (.tup xs)) : Th H (.ref a)
  | dK {a : Addr} {kvs : List (Key × V)} (e : H a = some (.dK kvs)) : Th H (.ref a)
theorem Th.mono {H H' : Hp} {x : V} (h : Th H x) (s : Same H H') : Th H' x := by
  cases h with
  | non => exact .non
  | bl b => exact .bl b
  | int i => exact .int i
  | str z h o => exact .str z h o
  | lst e => exact .lst (s _ _ e)
  | tup e => exact .tup (s _ _ e)
  | dK e => exact .dK (s _ _ e)
def isStr : V → Bool
  | .str _ => true
  | _ => false
def isBool : V → Bool
  | .bl _ => true
  | _ => false
def isInt : V → Bool
  | .bl _ => true
  | .int _ => true
  | _ => false
def isWhole : V → Bool
  | .int _ => true
  | _ => false
section
variable {K : PySem.W.Frag} {H : Hp} {x : V} {Q : VK}
theorem i_isStr (h : Th H x) (q : Q (.bl (isStr x)) H) : rIsi K [x, .ty "str"] H Q := by
  cases h with
  | non => exact ⟨_, _, _, _, _, rfl, .ty _, .base .non, kit_ty (by simp only [isStr, isInt, isBool]; decide +kernel), q⟩
  | bl b => exact ⟨_, _, _, _, _, rfl, .ty _, .base (.bl _), kit_ty (by simp only [isStr, isInt, isBool]; decide +kernel), q⟩
  | int i => exact ⟨_, _, _, _, _, rfl, .ty _, .base (.int _), kit_ty (by simp only [isStr, isInt, isBool]; decide +kernel), q⟩
  | str z h o => exact ⟨_, _, _, _, _, rfl, .ty _, .base (.str _), kit_ty (by simp only [isStr, isInt, isBool]; decide +kernel), q⟩
  | lst e => exact ⟨_, _, _, _, _, rfl, .ty _, .base (.lst e), kit_ty (by simp only [isStr, isInt, isBool]; decide +kernel), q⟩
  | tup e => exact ⟨_, _, _, _, _, rfl, .ty _, .base (.tup e), kit_ty (by simp only [isStr, isInt, isBool]; decide +kernel), q⟩
  | dK e => exact ⟨_, _, _, _, _, rfl, .ty _, .base (.dK e), kit_ty (by simp only [isStr, isInt, isBool]; decide +kernel), q⟩
theorem i_isInt (h : Th H x) (q : Q (.bl (isInt x)) H) : rIsi K [x, .ty "int"] H Q := by
  cases h with
  | non => exact ⟨_, _, _, _, _, rfl, .ty _, .base .non, kit_ty (by simp only [isStr, isInt, isBool]; decide +kernel), q⟩
  | bl b => exact ⟨_, _, _, _, _, rfl, .ty _, .base (.bl _), kit_ty (by simp only [isStr, isInt, isBool]; decide +kernel), q⟩
  | int i => exact ⟨_, _, _, _, _, rfl, .ty _, .base (.int _), kit_ty (by simp only [isStr, isInt, isBool]; decide +kernel), q⟩
  | str z h o => exact ⟨_, _, _, _, _, rfl, .ty _, .base (.str _), kit_ty (by simp only [isStr, isInt, isBool]; decide +kernel), q⟩
  | lst e => exact ⟨_, _, _, _, _, rfl, .ty _, .base (.lst e), kit_ty (by simp only [isStr, isInt, isBool]; decide +kernel), q⟩
  | tup e => exact ⟨_, _, _, _, _, rfl, .ty _, .base (.tup e), kit_ty (by simp only [isStr, isInt, isBool]; decide +kernel), q⟩
  | dK e => exact ⟨_, _, _, _, _, rfl, .ty _, .base (.dK e), kit_ty (by simp only [isStr, isInt, isBool]; decide +kernel), q⟩
theorem i_isBool (h : Th H x) (q : Q (.bl (isBool x)) H) : rIsi K [x, .ty "bool"] H Q := by
  cases h with
  | non => exact ⟨_, _, _, _, _, rfl, .ty _, .base .non, kit_ty (by simp only [isStr, isInt, isBool]; decide +kernel), q⟩
  | bl b => exact ⟨_, _, _, _, _, rfl, .ty _, .base (.bl _), kit_ty (by simp only [isStr, isInt, isBool]; decide +kernel), q⟩
  | int i => exact ⟨_, _, _, _, _, rfl, .ty _, .base (.int _), kit_ty (by simp only [isStr, isInt, isBool]; decide +kernel), q⟩
  | str z h o => exact ⟨_, _, _, _, _, rfl, .ty _, .base (.str _), kit_ty (by simp only [isStr, isInt, isBool]; decide +kernel), q⟩
  | lst e => exact ⟨_, _, _, _, _, rfl, .ty _, .base (.lst e), kit_ty (by simp only [isStr, isInt, isBool]; decide +kernel), q⟩
  | tup e => exact ⟨_, _, _, _, _, rfl, .ty _, .base (.tup e), kit_ty (by simp only [isStr, isInt, isBool]; decide +kernel), q⟩
  | dK e => exact ⟨_, _, _, _, _, rfl, .ty _, .base (.dK e), kit_ty (by simp only [isStr, isInt, isBool]; decide +kernel), q⟩
end
local macro_rules | `(tactic| walk_at "side") => `(tactic| first
  | assumption
  | rfl
  | (show (0 : Int) < _; omega)
  | (unfold CDiv; omega)
  | (unfold CMul; omega)
  | (unfold CPow; omega)
  | (rw [sizeLine_eq]; omega)
  | omega)
local macro_rules | `(tactic| walk_at "e") => `(tactic| first
  | ((with_reducible apply i_var); exact rfl)
  | (with_reducible apply i_c)
  | (with_reducible apply i_op)
  | (with_reducible apply i_un)
  | (with_reducible apply i_rI0)
  | ((with_reducible apply i_rI); (case c => walk_at "side"))
  | (with_reducible apply i_rGe)
  | (with_reducible apply i_rGt)
  | (with_reducible apply i_rU)
  | (with_reducible apply i_rEqI)
  | (with_reducible apply i_rNeI)
  | (with_reducible apply i_rEqS)
  | (with_reducible apply i_rNeS)
  | (with_reducible apply i_rEqB)
  | (with_reducible apply i_rNeB)
  | (with_reducible apply i_rIsN)
  | (with_reducible apply i_rNotN)
  | (with_reducible apply i_rInS)
  | (with_reducible apply i_rNotInS)
  | ((with_reducible apply i_catS); (case c => walk_at "side"))
  | (with_reducible apply i_tcb)
  | (with_reducible apply i_nil)
  | (with_reducible apply i_cons)
  | ((with_reducible apply i_lenS); (case c => walk_at "side"))
  | ((with_reducible apply i_lenL); assumption)
  | (with_reducible apply i_abs)
  | (with_reducible apply i_max2)
  | (with_reducible apply i_min2)
  | ((with_reducible apply i_strI); (case c => walk_at "side"))
  | (with_reducible apply i_intB)
  | (with_reducible apply i_test)
  | (with_reducible apply i_tB)
  | (with_reducible apply i_kB)
  | (with_reducible apply i_and)
  | (with_reducible apply i_or)
  | (with_reducible apply i_not)
  | (with_reducible apply i_if)
  | (with_reducible apply i_andV)
  | (with_reducible apply i_orV)
  | (with_reducible apply i_notV)
  | (with_reducible apply i_kAndV)
  | (with_reducible apply i_kOrV)
  | (with_reducible apply i_kNotV)
  | (with_reducible apply i_chain)
  | (with_reducible apply i_kChain)
  | (with_reducible apply i_drop)
  | (with_reducible apply i_ret)
  | (with_reducible apply i_retN)
  | (with_reducible apply i_ifS)
  | (with_reducible apply i_asg)
  | (with_reducible apply i_gName)
  | (with_reducible apply i_for)
  | (with_reducible apply i_lc)
  | (with_reducible apply i_iList)
  | (with_reducible apply i_iTup)
  | (with_reducible apply i_iStr)
  | (with_reducible apply i_kStrI)
  | (with_reducible apply i_lst)
  | (with_reducible apply i_tup)
  | (with_reducible apply i_call)
  | (with_reducible apply i_m1)
  | (with_reducible apply i_kStr)
  | (with_reducible apply i_bm)
  | (with_reducible apply i_bm0)
  | (with_reducible apply i_part)
  | (with_reducible apply i_kInt)
  | (with_reducible apply i_noPart)
  | (with_reducible apply i_sl)
  | (with_reducible apply i_range1)
  | (with_reducible apply i_range2)
  | ((with_reducible apply i_kRng1); (case c => walk_at "side"))
  | ((with_reducible apply i_kRng2); (case c => walk_at "side"))
  | (with_reducible apply i_gCons)
  | (with_reducible apply i_gNil)
  | (with_reducible apply i_gSub)
  | (with_reducible apply i_iZip)
  | (with_reducible apply i_yes)
  | (with_reducible apply i_ift)
  | (with_reducible apply i_iff)
  | (with_reducible apply i_nb))
local macro_rules | `(tactic| walk_at "go") => `(tactic| repeat (first | (with_reducible apply i_seq) | (with_reducible apply i_next) | walk_at "e"))
local macro_rules | `(tactic| walk_at "ge") => `(tactic| repeat walk_at "e")
local macro_rules | `(tactic| walk_at "sz") => `(tactic| first | decide | (rw [sizeLine_eq]; simp; done) | (rw [sizeLine_eq]; omega))
local macro_rules | `(tactic| walk_at "e") => `(tactic| first
  | ((with_reducible apply i_isStr); first | assumption | exact .non | exact .bl _ | exact .int _)
  | ((with_reducible apply i_isInt); first | assumption | exact .non | exact .bl _ | exact .int _)
  | ((with_reducible apply i_isBool); first | assumption | exact .non | exact .bl _ | exact .int _))
section
variable {P : Program} {w : World} {K : PySem.W.Frag} {mg : Str → Option Value} {base : Heap}
/-! ### the program's defs -/
def sp_has_only : Sp := fun vs H Q _ => ∃ z s, vs = [.str z, .str s] ∧ Q (.bl (only z s)) H
theorem ok_has_only (T : Tx K mg) : FnOk P w K mg base CX0 1 (He.ga K "_has_only") T.fd_has_only ["text", "signs"] sp_has_only := by
  refine T.F_has_only.ok sc_has_only (fun vs H Q E h => ?_) (fun cdv A outer s H vs Q E hr h => ?_)
  · obtain ⟨z, t, rfl, _⟩ := h
    rfl
  · obtain ⟨z, t, rfl, q⟩ := h
    refine ⟨_, PSs.nox (pss_cons (ps_for PassesOwn.never rfl (pi_str (pv 0)) (pg_name (i := 2) sc_has_only.nd rfl (Or.inl rfl))
      (pss_one (ps_if (pt_cmpR op_notInS (pv 2) (pv 1) rfl) (pss_one (ps_ret pe_bl)) pss_nil)))
      (pss_one (ps_ret pe_bl))), ?_⟩
    walk_at "go"
    refine for_it walk_str (fun i σ H' => H' = H ∧ (∀ c ∈ z.cps.toList.take i, c ∈ t.cps.toList) ∧ ∃ v, σ = [some (.str z), some (.str t), v]) ⟨rfl, by simp, none, rfl⟩ (fun _ _ _ _ _ => trivial) ?_ ?_
    · rintro i x σ H1 H2 hi ⟨rfl, ho, v, rfl⟩ ⟨rfl, c, hc, rfl⟩
      have hc' : z.cps.toList[i]? = some c := by simpa using hc
      walk_at "go"
      apply i_dec
      · intro hm
        walk_at "go"
        refine ⟨rfl, ?_, _, rfl⟩
        intro d hd
        rw [List.take_add_one, hc'] at hd
        rcases List.mem_append.mp hd with hd | hd
        · exact ho d hd
        · have : d = c := by simpa using hd
          rw [this]; exact hm
      · intro hn
        walk_at "go"
        have e : only z t = false := by
          unfold only
          rw [List.all_eq_false]
          exact ⟨c, List.mem_of_getElem? hc', by simpa using hn⟩
        rw [← e]
        exact q
    · rintro σ H1 ⟨rfl, ho, v, rfl⟩
      walk_at "go"
      have e : only z t = true := by
        unfold only
        rw [List.all_eq_true]
        intro c hc
        refine decide_eq_true (ho c ?_)
        rw [List.take_of_length_le (by simp)]
        exact hc
      rw [← e]
      exact q
def sp_is_whole : Sp := fun vs H Q _ => ∃ x, vs = [x] ∧ Th H x ∧ Q (.bl (isWhole x)) H
theorem ok_is_whole (T : Tx K mg) : FnOk P w K mg base CX0 1 (He.ga K "is_whole") T.fd_is_whole ["thing"] sp_is_whole := by
  refine T.F_is_whole.ok sc_is_whole (fun vs H Q E h => ?_) (fun cdv A outer s H vs Q E hr h => ?_)
  · obtain ⟨x, rfl, _⟩ := h
    rfl
  · obtain ⟨x, rfl, hx, q⟩ := h
    refine ⟨_, PSs.nox (pss_one (ps_ret (pe_and (pe_callB call_isi (by rfl) T.b_isinstance (by decide +kernel) (pa_cons (pv 0) (pa_cons (pe_bltn (v := .ty "int") rfl T.b_int (by decide +kernel) rfl) pa_nil))) (pe_one (pe_not (pe_callB call_isi (by rfl) T.b_isinstance (by decide +kernel) (pa_cons (pv 0) (pa_cons (pe_bltn (v := .ty "bool") rfl T.b_bool (by decide +kernel) rfl) pa_nil)))))))), ?_⟩
    walk_at "go"
    have e : isWhole x = (isInt x && !isBool x) := by cases x <;> rfl
    rw [e] at q
    refine i_b (fun h => ?_) (fun h => ?_)
    · walk_at "go"
      rw [h] at q
      exact q
    · rw [h] at q
      exact q
end
end K01

set_option Elab.async false
set_option linter.all false
set_option maxRecDepth 100000
set_option maxHeartbeats 2000000
namespace K01
open PySem PySem.Spec PyProof.Rows L2 HX
section
variable {K : PySem.W.Frag} {H : Hp} {x : V} {Q : VK}
theorem i_isList {z : V} (h : ∃ (p : Addr) (xs : List V), z = .ref p ∧ H p = some (.lst xs)) (q : Q (.bl true) H) : rIsi K [z, .ty "list"] H Q := by
  obtain ⟨p, xs, rfl, e⟩ := h
  exact ⟨_, _, _, _, _, rfl, .ty _, .base (.lst e), kit_ty (by decide +kernel), q⟩
end
local macro_rules | `(tactic| walk_at "side") => `(tactic| first
  | assumption
  | rfl
  | (show (0 : Int) < _; omega)
  | (unfold CDiv; omega)
  | (unfold CMul; omega)
  | (unfold CPow; omega)
  | (rw [sizeLine_eq]; omega)
  | omega)
local macro_rules | `(tactic| walk_at "e") => `(tactic| first
  | ((with_reducible apply i_var); exact rfl)
  | (with_reducible apply i_c)
  | (with_reducible apply i_op)
  | (with_reducible apply i_un)
  | (with_reducible apply i_rI0)
  | ((with_reducible apply i_rI); (case c => walk_at "side"))
  | (with_reducible apply i_rGe)
  | (with_reducible apply i_rGt)
  | (with_reducible apply i_rU)
  | (with_reducible apply i_rEqI)
  | (with_reducible apply i_rNeI)
  | (with_reducible apply i_rEqS)
  | (with_reducible apply i_rNeS)
  | (with_reducible apply i_rEqB)
  | (with_reducible apply i_rNeB)
  | (with_reducible apply i_rIsN)
  | (with_reducible apply i_rNotN)
  | (with_reducible apply i_rInS)
  | (with_reducible apply i_rNotInS)
  | ((with_reducible apply i_catS); (case c => walk_at "side"))
  | (with_reducible apply i_tcb)
  | (with_reducible apply i_nil)
  | (with_reducible apply i_cons)
  | ((with_reducible apply i_lenS); (case c => walk_at "side"))
  | ((with_reducible apply i_lenL); assumption)
  | (with_reducible apply i_abs)
  | (with_reducible apply i_max2)
  | (with_reducible apply i_min2)
  | ((with_reducible apply i_strI); (case c => walk_at "side"))
  | (with_reducible apply i_intB)
  | (with_reducible apply i_test)
  | (with_reducible apply i_tB)
  | (with_reducible apply i_kB)
  | (with_reducible apply i_and)
  | (with_reducible apply i_or)
  | (with_reducible apply i_not)
  | (with_reducible apply i_if)
  | (with_reducible apply i_andV)
  | (with_reducible apply i_orV)
  | (with_reducible apply i_notV)
  | (with_reducible apply i_kAndV)
  | (with_reducible apply i_kOrV)
  | (with_reducible apply i_kNotV)
  | (with_reducible apply i_chain)
  | (with_reducible apply i_kChain)
  | (with_reducible apply i_drop)
  | (with_reducible apply i_ret)
  | (with_reducible apply i_retN)
  | (with_reducible apply i_ifS)
  | (with_reducible apply i_asg)
  | (with_reducible apply i_gName)
  | (with_reducible apply i_for)
  | (with_reducible apply i_lc)
  | (with_reducible apply i_iList)
  | (with_reducible apply i_iTup)
  | (with_reducible apply i_iStr)
  | (with_reducible apply i_kStrI)
  | (with_reducible apply i_lst)
  | (with_reducible apply i_tup)
  | (with_reducible apply i_call)
  | (with_reducible apply i_m1)
  | (with_reducible apply i_kStr)
  | (with_reducible apply i_bm)
  | (with_reducible apply i_bm0)
  | (with_reducible apply i_part)
  | (with_reducible apply i_kInt)
  | (with_reducible apply i_noPart)
  | (with_reducible apply i_sl)
  | (with_reducible apply i_range1)
  | (with_reducible apply i_range2)
  | ((with_reducible apply i_kRng1); (case c => walk_at "side"))
  | ((with_reducible apply i_kRng2); (case c => walk_at "side"))
  | (with_reducible apply i_gCons)
  | (with_reducible apply i_gNil)
  | (with_reducible apply i_gSub)
  | (with_reducible apply i_iZip)
  | (with_reducible apply i_yes)
  | (with_reducible apply i_ift)
  | (with_reducible apply i_iff)
  | (with_reducible apply i_nb))
local macro_rules | `(tactic| walk_at "go") => `(tactic| repeat (first | (with_reducible apply i_seq) | (with_reducible apply i_next) | walk_at "e"))
local macro_rules | `(tactic| walk_at "ge") => `(tactic| repeat walk_at "e")
local macro_rules | `(tactic| walk_at "sz") => `(tactic| first | decide | (rw [sizeLine_eq]; simp; done) | (rw [sizeLine_eq]; omega))
local macro_rules | `(tactic| walk_at "e") => `(tactic| first
  | ((with_reducible apply i_isStr); first | assumption | exact .non | exact .bl _ | exact .int _)
  | ((with_reducible apply i_isInt); first | assumption | exact .non | exact .bl _ | exact .int _)
  | ((with_reducible apply i_isBool); first | assumption | exact .non | exact .bl _ | exact .int _)
  | ((with_reducible apply i_isList); first | assumption | exact .non | exact .bl _ | exact .int _)
  | (with_reducible apply i_joinRev)
  | (with_reducible apply i_kRev0))
/-! ### values -/
abbrev letters : Str := "abcdefghijklmnopqrstuvwxyz"
abbrev digs : Str := "0123456789"
def isAmong : V → Int → Int → Bool
  | .int i, a, b => decide (a ≤ i) && decide (i ≤ b)
  | _, _, _ => false
def isName : V → Bool
  | .str z => decide (1 ≤ (z.length : Int)) && decide ((z.length : Int) ≤ 12) && only z letters
  | _ => false
def fst (z : Str) : Str := ⟨#[z.cps.toList.headD 0]⟩
def numOk (z : Str) : Bool := decide (1 ≤ (z.length : Int)) && decide ((z.length : Int) ≤ 61) && only z digs && !(decide (fst z = "0") && !decide (z = "0"))
def numOf : V → V
  | .str z => if numOk z = true then .int ((NumText.digitsVal z.cps.toList : Nat) : Int) else .non
  | _ => .non
theorem digs_list : digs.cps.toList = [48, 49, 50, 51, 52, 53, 54, 55, 56, 57] := by decide +kernel
theorem dig_mem {c : Nat} : c ∈ digs.cps.toList ↔ 48 ≤ c ∧ c ≤ 57 := by
  rw [digs_list]
  simp only [List.mem_cons, List.not_mem_nil, or_false]
  omega
theorem only_digs {z : Str} (h : only z digs = true) : NumText.AllDigits z.cps.toList := by
  intro c hc
  unfold only at h
  rw [List.all_eq_true] at h
  exact dig_mem.mp (of_decide_eq_true (h c hc))
theorem len_list (z : Str) : z.cps.toList.length = z.length := by simp [Str.length]
theorem first_at {z : Str} (h : 1 ≤ (z.length : Int)) : atI z.cps.toList 0 = some (z.cps.toList.headD 0) := by
  have e := len_list z
  cases q : z.cps.toList with
  | nil => rw [q] at e; simp at e; omega
  | cons c r => exact atI_nat (j := 0) rfl
section
variable {P : Program} {w : World} {K : PySem.W.Frag} {mg : Str → Option Value} {base : Heap}
def sp_is_among : Sp := fun vs H Q _ => ∃ x a b, vs = [x, .int a, .int b] ∧ Th H x ∧ Q (.bl (isAmong x a b)) H
theorem ok_is_among (T : Tx K mg) : FnOk P w K mg base CX0 2 (He.ga K "is_among") T.fd_is_among ["thing", "least", "most"] sp_is_among := by
  refine T.F_is_among.ok sc_is_among (fun vs H Q E h => ?_) (fun cdv A outer s H vs Q E hr h => ?_)
  · obtain ⟨x, a, b, rfl, _⟩ := h
    rfl
  · obtain ⟨x, a, b, rfl, hx, q⟩ := h
    refine ⟨_, PSs.nox (pss_one (ps_ret (pe_and (pe_call (ok_is_whole T) (hr.mono (by decide)) (by rfl) T.g_is_whole T.F_is_whole.kp T.k_is_whole .nil pass0 (pa_cons (pv 0) pa_nil)) (pe_one (pe_chain op_le op_le (pv 1) (pv 0) (pv 2)))))), ?_⟩
    walk_at "go"
    refine ⟨x, rfl, hx, ?_⟩
    walk_at "go"
    apply i_b
    · intro e
      obtain ⟨i, rfl⟩ : ∃ i, x = .int i := by cases x <;> simp [isWhole] at e ⊢
      walk_at "go"
      apply i_dec
      · intro h1
        walk_at "go"
        have e : isAmong (.int i) a b = decide (i ≤ b) := by simp [isAmong, h1]
        rw [e] at q
        exact q
      · intro h1
        have e : isAmong (.int i) a b = false := by simp [isAmong, h1]
        rw [e] at q
        exact q
    · intro e
      have e : isAmong x a b = false := by cases x <;> simp_all [isWhole, isAmong]
      rw [e] at q
      exact q
def sp_is_name : Sp := fun vs H Q _ => ∃ x, vs = [x] ∧ Th H x ∧ Q (.bl (isName x)) H
theorem ok_is_name (T : Tx K mg) : FnOk P w K mg base CX0 2 (He.ga K "is_name") T.fd_is_name ["thing"] sp_is_name := by
  refine T.F_is_name.ok sc_is_name (fun vs H Q E h => ?_) (fun cdv A outer s H vs Q E hr h => ?_)
  · obtain ⟨x, rfl, _⟩ := h
    rfl
  · obtain ⟨x, rfl, hx, q⟩ := h
    refine ⟨_, PSs.nox (pss_cons (ps_if (pt_not (pt_val (pe_callB call_isi (by rfl) T.b_isinstance (by decide +kernel) (pa_cons (pv 0) (pa_cons (pe_bltn (v := .ty "str") rfl T.b_str (by decide +kernel) rfl) pa_nil))))) (pss_one (ps_ret pe_bl)) pss_nil)
      (pss_one (ps_ret (pe_and (pe_chain op_le op_le pe_int (pe_callB x_lenS (by rfl) T.b_len (by decide +kernel) (pa_cons (pv 0) pa_nil)) (pe_glob (v := .int 12) rfl (T.c_MOST_LETTERS).choose_spec ⟨_, rfl⟩)) (pe_one (pe_call (ok_has_only T) (hr.mono (by decide)) (by rfl) T.g_has_only T.F_has_only.kp T.k_has_only .nil pass0 (pa_cons (pv 0) (pa_cons (pe_glob (v := .str "abcdefghijklmnopqrstuvwxyz") rfl (T.c_LETTERS).choose_spec ⟨_, rfl⟩) pa_nil)))))))), ?_⟩
    walk_at "go"
    apply i_b
    · intro e
      obtain ⟨z, rfl⟩ : ∃ z, x = .str z := by cases x <;> simp [isStr] at e ⊢
      have hz : z.length ≤ 1000 := by cases hx; assumption
      walk_at "go"
      apply i_dec
      · intro h1
        walk_at "go"
        apply i_dec
        · intro h2
          walk_at "go"
          refine ⟨z, _, rfl, ?_⟩
          have e : isName (.str z) = only z letters := by simp [isName, h1, h2]
          rw [e] at q
          exact q
        · intro h2
          walk_at "go"
          have e : isName (.str z) = false := by simp [isName, h2]
          rw [e] at q
          exact q
      · intro h1
        walk_at "go"
        have e : isName (.str z) = false := by simp [isName, h1]
        rw [e] at q
        exact q
    · intro e
      have e : isName x = false := by cases x <;> simp_all [isStr, isName]
      rw [e] at q
      walk_at "go"
      exact q
def sp_number_text : Sp := fun vs H Q _ => ∃ n : Int, vs = [.int n] ∧ n.natAbs.log2 < 1920 ∧ Q (.str (toString n)) H
theorem ok_number_text (T : Tx K mg) : FnOk P w K mg base CX0 1 (He.ga K "number_text") T.fd_number_text ["number"] sp_number_text := by
  refine T.F_number_text.ok sc_number_text (fun vs H Q E h => ?_) (fun cdv A outer s H vs Q E hr h => ?_)
  · obtain ⟨n, rfl, _⟩ := h
    rfl
  · obtain ⟨n, rfl, hn, q⟩ := h
    refine ⟨_, PSs.nox (pss_one (ps_ret (pe_callTy x_strI (by rfl) T.b_str (by decide +kernel) (pa_cons (pv 0) pa_nil)))), ?_⟩
    walk_at "go"
    exact q
def sp_number_of : Sp := fun vs H Q _ => ∃ x, vs = [x] ∧ Th H x ∧ Q (numOf x) H
theorem ok_number_of (T : Tx K mg) : FnOk P w K mg base CX0 2 (He.ga K "number_of") T.fd_number_of ["word"] sp_number_of := by
  refine T.F_number_of.ok sc_number_of (fun vs H Q E h => ?_) (fun cdv A outer s H vs Q E hr h => ?_)
  · obtain ⟨x, rfl, _⟩ := h
    rfl
  · obtain ⟨x, rfl, hx, q⟩ := h
    refine ⟨_, PSs.nox (pss_cons (ps_if (PW.pt (pw_or (pt_not (pt_val (pe_callB call_isi (by rfl) T.b_isinstance (by decide +kernel) (pa_cons (pv 0) (pa_cons (pe_bltn (v := .ty "str") rfl T.b_str (by decide +kernel) rfl) pa_nil))))) (pw_or1 (pt_not (pt_chain op_le op_le pe_int (pe_callB x_lenS (by rfl) T.b_len (by decide +kernel) (pa_cons (pv 0) pa_nil)) (pe_glob (v := .int 61) rfl (T.c_MOST_FIGURES).choose_spec ⟨_, rfl⟩)))))) (pss_one (ps_ret pe_non)) pss_nil)
      (pss_cons (ps_if (pt_not (pt_val (pe_call (ok_has_only T) (hr.mono (by decide)) (by rfl) T.g_has_only T.F_has_only.kp T.k_has_only .nil pass0 (pa_cons (pv 0) (pa_cons (pe_glob (v := .str "0123456789") rfl (T.c_FIGURES).choose_spec ⟨_, rfl⟩) pa_nil))))) (pss_one (ps_ret pe_non)) pss_nil)
      (pss_cons (ps_if (PW.pt (pw_and (pt_cmpR op_eq (pe_ix ix_str (pv 0) pe_int (fun _ _ => rfl)) pe_str (nomark _)) (pw_and1 (pt_cmpR op_ne (pv 0) pe_str (nomark _))))) (pss_one (ps_ret pe_non)) pss_nil)
      (pss_one (ps_ret (pe_callTy x_intS (by rfl) T.b_int (by decide +kernel) (pa_cons (pv 0) pa_nil))))))), ?_⟩
    walk_at "go"
    apply i_b
    · intro e
      obtain ⟨z, rfl⟩ : ∃ z, x = .str z := by cases x <;> simp [isStr] at e ⊢
      have hz : z.length ≤ 1000 := by cases hx; assumption
      walk_at "go"
      apply i_dec
      · intro h1
        walk_at "go"
        apply i_dec
        · intro h2
          walk_at "go"
          refine ⟨z, _, rfl, ?_⟩
          walk_at "go"
          apply i_b
          · intro h3
            walk_at "go"
            have hat := first_at h1
            refine i_ixS (c := z.cps.toList.headD 0) ?_ (by rw [sizeLine_eq]; omega) hat
            walk_at "go"
            have fin : numOk z = true → xIntS [.str z] H Q := by
              intro ok
              have e : numOf (.str z) = .int ((NumText.digitsVal z.cps.toList : Nat) : Int) := by simp [numOf, ok]
              rw [e] at q
              refine ⟨z, _, rfl, PySem.intText_digits (only_digs h3) (fun e => ?_) (by omega), by omega, q⟩
              have := len_list z
              rw [e] at this
              simp at this
              omega
            apply i_dec
            · intro h4
              walk_at "go"
              apply i_dec
              · intro h5
                walk_at "go"
                exact fin (by unfold numOk fst; rw [decide_eq_true h1, decide_eq_true h2, h3, decide_eq_true h5]; simp)
              · intro h5
                walk_at "go"
                have e : numOf (.str z) = .non := by
                  have : numOk z = false := by
                    unfold numOk fst
                    rw [decide_eq_true h4, decide_eq_false h5]; simp
                  simp [numOf, this]
                rw [e] at q
                exact q
            · intro h4
              walk_at "go"
              exact fin (by unfold numOk fst; rw [decide_eq_true h1, decide_eq_true h2, h3, decide_eq_false h4]; simp)
          · intro h3
            walk_at "go"
            have e : numOf (.str z) = .non := by
              have : numOk z = false := by simp [numOk, h3]
              simp [numOf, this]
            rw [e] at q
            exact q
        · intro h2
          walk_at "go"
          have e : numOf (.str z) = .non := by
            have : numOk z = false := by simp [numOk, h2]
            simp [numOf, this]
          rw [e] at q
          exact q
      · intro h1
        walk_at "go"
        have e : numOf (.str z) = .non := by
          have : numOk z = false := by simp [numOk, h1]
          simp [numOf, this]
        rw [e] at q
        exact q
    · intro e
      have e : numOf x = .non := by cases x <;> simp_all [isStr, numOf]
      rw [e] at q
      walk_at "go"
      exact q
/-- a text's parts between the blanks -/
def parts (z : Str) : List Str := Txt.split z " "
def hasEmpty (z : Str) : Bool := inV (.str "") ((parts z).map V.str)
def sp_words_of : Sp := fun vs H Q _ => ∃ x, vs = [x] ∧ Th H x ∧ (isStr x = false → Q .non H) ∧
  ∀ z, x = .str z → ∀ p, H p = none → (hasEmpty z = true → Q .non (upd H p (.lst ((parts z).map V.str)))) ∧ (hasEmpty z = false → Q (.ref p) (upd H p (.lst ((parts z).map V.str))))
theorem flat_strs (ys : List Str) : (ys.map V.str).all flatV = true := by
  rw [List.all_map, List.all_eq_true]
  intro y _
  rfl
theorem ok_words_of (T : Tx K mg) : FnOk P w K mg base CX0 1 (He.ga K "words_of") T.fd_words_of ["line"] sp_words_of := by
  refine T.F_words_of.ok sc_words_of (fun vs H Q E h => ?_) (fun cdv A outer s H vs Q E hr h => ?_)
  · obtain ⟨x, rfl, _⟩ := h
    rfl
  · obtain ⟨x, rfl, hx, q1, q2⟩ := h
    refine ⟨_, PSs.nox (pss_cons (ps_if (pt_not (pt_val (pe_callB call_isi (by rfl) T.b_isinstance (by decide +kernel) (pa_cons (pv 0) (pa_cons (pe_bltn (v := .ty "str") rfl T.b_str (by decide +kernel) rfl) pa_nil))))) (pss_one (ps_ret pe_non)) pss_nil)
      (pss_cons (ps_set (i := 1) sc_words_of.nd rfl (Or.inl rfl) (x_split (pv 0) pe_str))
      (pss_cons (ps_if (pt_cmpR op_in_seq pe_str (pv 1) (by rfl)) (pss_one (ps_ret pe_non)) pss_nil)
      (pss_one (ps_ret (pv 1)))))), ?_⟩
    walk_at "go"
    apply i_b
    · intro e
      obtain ⟨z, rfl⟩ : ∃ z, x = .str z := by cases x <;> simp [isStr] at e ⊢
      have hz : z.length ≤ 1000 := by cases hx; assumption
      walk_at "go"
      refine i_split (fun p hp => ?_) (by decide +kernel) (by rw [sizeLine_eq]; omega)
      walk_at "go"
      refine ⟨p, _, rfl, .inl (SqL.of upd_same), rfl, flat_strs _, ?_⟩
      obtain ⟨k1, k2⟩ := q2 z rfl p hp
      walk_at "go"
      apply i_b
      · intro e
        walk_at "go"
        exact k1 e
      · intro e
        walk_at "go"
        exact k2 e
    · intro e
      walk_at "go"
      exact q1 e
def sp_law_cell_at (K : PySem.W.Frag) : Sp := fun vs H Q _ => ∃ (a : Addr) (ns : List Int) (k : Int), vs = [.ref a, .int k] ∧ 0 ≤ k ∧ SqL K H a (ns.map V.int) ∧ ∀ v : Int, Q (.int v) H
theorem atI_int {ns : List Int} {k : Int} (h0 : 0 ≤ k) (h1 : k < (ns.length : Int)) : ∃ v : Int, atI (ns.map V.int) k = some (.int v) := by
  obtain ⟨j, rfl⟩ := Int.eq_ofNat_of_zero_le h0
  have hj : j < ns.length := by omega
  exact ⟨ns[j], atI_nat (by rw [List.getElem?_map, List.getElem?_eq_getElem hj]; rfl)⟩
theorem ok_law_cell_at (T : Tx K mg) : FnOk P w K mg base CX0 1 (He.ga K "_law_cell_at") T.fd_law_cell_at ["_law_script", "_law_k"] (sp_law_cell_at K) := by
  refine T.F_law_cell_at.ok sc_law_cell_at (fun vs H Q E h => ?_) (fun cdv A outer s H vs Q E hr h => ?_)
  · obtain ⟨a, ns, k, rfl, _⟩ := h
    rfl
  · obtain ⟨a, ns, k, rfl, h0, hS, q⟩ := h
    refine ⟨_, PSs.nox (pss_cons (ps_if (pt_cmpR op_lt (pv 1) (pe_callB x_lenL (by rfl) T.b_len (by decide +kernel) (pa_cons (pv 0) pa_nil)) (nomark _)) (pss_one (ps_ret (pe_ix ix_list (pv 0) (pv 1) (fun _ _ => rfl)))) pss_nil)
      (pss_one (ps_ret pe_int))), ?_⟩
    walk_at "go"
    apply i_dec
    · intro h1
      rw [List.length_map] at h1
      obtain ⟨v, e⟩ := atI_int h0 h1
      walk_at "go"
      exact i_ixL hS e (q v)
    · intro _
      walk_at "go"
      exact q 0
def sp_law_mixed : Sp := fun vs H Q _ => ∃ c k : Int, vs = [.int c, .int k] ∧ 0 ≤ k ∧ k ≤ 100000 ∧ ∀ v : Int, 0 ≤ v → v < 2147483647 → Q (.int v) H
theorem ok_law_mixed (T : Tx K mg) : FnOk P w K mg base CX0 1 (He.ga K "_law_mixed") T.fd_law_mixed ["_law_cell", "_law_k"] sp_law_mixed := by
  refine T.F_law_mixed.ok sc_law_mixed (fun vs H Q E h => ?_) (fun cdv A outer s H vs Q E hr h => ?_)
  · obtain ⟨c, k, rfl, _⟩ := h
    rfl
  · obtain ⟨c, k, rfl, h0, h1, q⟩ := h
    refine ⟨_, PSs.nox (pss_one (ps_ret (pe_op op_mod (pe_op op_mul (pe_op op_pow (pe_op op_add (pe_op op_add (pe_op op_mod (pv 0) pe_int) (pe_op op_mul pe_int (pv 1))) pe_int) pe_int) pe_int) pe_int))), ?_⟩
    walk_at "go"
    exact q _ (Int.emod_nonneg _ (by decide)) (Int.emod_lt_of_pos _ (by decide))
end
end K01

set_option Elab.async false
set_option linter.all false
set_option maxRecDepth 100000
set_option maxHeartbeats 2000000
namespace K01
open PySem PySem.Spec PyProof.Rows L2 HX TX
local macro_rules | `(tactic| walk_at "side") => `(tactic| first
  | assumption
  | rfl
  | (show (0 : Int) < _; omega)
  | (unfold CDiv; omega)
  | (unfold CMul; omega)
  | (unfold CPow; omega)
  | (rw [sizeLine_eq]; omega)
  | omega)
local macro_rules | `(tactic| walk_at "e") => `(tactic| first
  | ((with_reducible apply i_var); exact rfl)
  | (with_reducible apply i_c)
  | (with_reducible apply i_op)
  | (with_reducible apply i_un)
  | (with_reducible apply i_rI0)
  | ((with_reducible apply i_rI); (case c => walk_at "side"))
  | (with_reducible apply i_rGe)
  | (with_reducible apply i_rGt)
  | (with_reducible apply i_rU)
  | (with_reducible apply i_rEqI)
  | (with_reducible apply i_rNeI)
  | (with_reducible apply i_rEqS)
  | (with_reducible apply i_rNeS)
  | (with_reducible apply i_rEqB)
  | (with_reducible apply i_rNeB)
  | (with_reducible apply i_rIsN)
  | (with_reducible apply i_rNotN)
  | (with_reducible apply i_rInS)
  | (with_reducible apply i_rNotInS)
  | ((with_reducible apply i_catS); (case c => walk_at "side"))
  | (with_reducible apply i_tcb)
  | (with_reducible apply i_nil)
  | (with_reducible apply i_cons)
  | ((with_reducible apply i_lenS); (case c => walk_at "side"))
  | ((with_reducible apply i_lenL); assumption)
  | (with_reducible apply i_abs)
  | (with_reducible apply i_max2)
  | (with_reducible apply i_min2)
  | ((with_reducible apply i_strI); (case c => walk_at "side"))
  | (with_reducible apply i_intB)
  | (with_reducible apply i_test)
  | (with_reducible apply i_tB)
  | (with_reducible apply i_kB)
  | (with_reducible apply i_and)
  | (with_reducible apply i_or)
  | (with_reducible apply i_not)
  | (with_reducible apply i_if)
  | (with_reducible apply i_andV)
  | (with_reducible apply i_orV)
  | (with_reducible apply i_notV)
  | (with_reducible apply i_kAndV)
  | (with_reducible apply i_kOrV)
  | (with_reducible apply i_kNotV)
  | (with_reducible apply i_chain)
  | (with_reducible apply i_kChain)
  | (with_reducible apply i_drop)
  | (with_reducible apply i_ret)
  | (with_reducible apply i_retN)
  | (with_reducible apply i_ifS)
  | (with_reducible apply i_asg)
  | (with_reducible apply i_gName)
  | (with_reducible apply i_for)
  | (with_reducible apply i_lc)
  | (with_reducible apply i_iList)
  | (with_reducible apply i_iTup)
  | (with_reducible apply i_iStr)
  | (with_reducible apply i_kStrI)
  | (with_reducible apply i_lst)
  | (with_reducible apply i_tup)
  | (with_reducible apply i_call)
  | (with_reducible apply i_m1)
  | (with_reducible apply i_kStr)
  | (with_reducible apply i_bm)
  | (with_reducible apply i_bm0)
  | (with_reducible apply i_part)
  | (with_reducible apply i_kInt)
  | (with_reducible apply i_noPart)
  | (with_reducible apply i_sl)
  | (with_reducible apply i_range1)
  | (with_reducible apply i_range2)
  | ((with_reducible apply i_kRng1); (case c => walk_at "side"))
  | ((with_reducible apply i_kRng2); (case c => walk_at "side"))
  | (with_reducible apply i_gCons)
  | (with_reducible apply i_gNil)
  | (with_reducible apply i_gSub)
  | (with_reducible apply i_iZip)
  | (with_reducible apply i_yes)
  | (with_reducible apply i_ift)
  | (with_reducible apply i_iff)
  | (with_reducible apply i_nb))
local macro_rules | `(tactic| walk_at "go") => `(tactic| repeat (first | (with_reducible apply i_seq) | (with_reducible apply i_next) | walk_at "e"))
local macro_rules | `(tactic| walk_at "ge") => `(tactic| repeat walk_at "e")
local macro_rules | `(tactic| walk_at "sz") => `(tactic| first | decide | (rw [sizeLine_eq]; simp; done) | (rw [sizeLine_eq]; omega))
local macro_rules | `(tactic| walk_at "e") => `(tactic| first
  | ((with_reducible apply i_isStr); first | assumption | exact .non | exact .bl _ | exact .int _)
  | ((with_reducible apply i_isInt); first | assumption | exact .non | exact .bl _ | exact .int _)
  | ((with_reducible apply i_isBool); first | assumption | exact .non | exact .bl _ | exact .int _)
  | ((with_reducible apply i_isList); first | assumption | exact .non | exact .bl _ | exact .int _)
  | (with_reducible apply i_joinRev)
  | (with_reducible apply i_kRev0))
theorem Same.new {H : Hp} {p : Addr} {o : HO} (h : H p = none) : Same H (upd H p o) := fun a u e => by
  rw [upd_ne (ne_of_none e h)]
  exact e
theorem Same.mut {H H' : Hp} {p : Addr} {o : HO} (e : Same H H') (h : H p = none) : Same H (upd H' p o) := fun a u ha => by
  rw [upd_ne (ne_of_none ha h)]
  exact e a u ha
def isIn (s : Str) (c : Nat) : Bool := decide (c ∈ s.cps.toList)
/-- the signs of z that are not signs of s -/
def bad (l : List Nat) (s : Str) : List Str := (l.filter fun c => !isIn s c).map sgn
theorem bad_only {z s : Str} : (bad z.cps.toList s).isEmpty = only z s := by
  show (bad z.cps.toList s).isEmpty = z.cps.toList.all (isIn s)
  unfold bad
  induction z.cps.toList with
  | nil => rfl
  | cons c r ih =>
    cases h : isIn s c with
    | true =>
      simp only [List.filter_cons, List.all_cons, h, Bool.not_true, Bool.false_eq_true, if_false, Bool.true_and]
      exact ih
    | false => simp [List.filter_cons, h]
theorem bad_ok {z s : Str} (o : okS z = true) : ∀ y ∈ bad z.cps.toList s, okS y = true := by
  intro y hy
  obtain ⟨c, hc, rfl⟩ := List.mem_map.mp hy
  exact okS_sign o (List.mem_filter.mp hc).1
theorem bad_snoc_in {l : List Nat} {c : Nat} {s : Str} (h : c ∈ s.cps.toList) : bad (l ++ [c]) s = bad l s := by
  have h : isIn s c = true := decide_eq_true h
  unfold bad
  simp [List.filter_append, List.filter_cons, h]
theorem bad_snoc_out {l : List Nat} {c : Nat} {s : Str} (h : ¬ c ∈ s.cps.toList) : bad (l ++ [c]) s = bad l s ++ [sgn c] := by
  have h : isIn s c = false := decide_eq_false h
  unfold bad
  simp [List.filter_append, List.filter_cons, h]
theorem bad_len (l : List Nat) (s : Str) : (bad l s).length ≤ l.length := by
  unfold bad
  rw [List.length_map]
  exact List.length_filter_le _ _
section
variable {P : Program} {w : World} {K : PySem.W.Frag} {mg : Str → Option Value} {base : Heap}
def sp_law_great : Sp := fun vs H Q _ => ∃ c k : Int, vs = [.int c, .int k] ∧ 0 ≤ k ∧ k ≤ 100 ∧ ∀ v : Int, Q (.int v) H
theorem ok_law_great (T : Tx K mg) : FnOk P w K mg base CX0 2 (He.ga K "_law_great") T.fd_law_great ["_law_cell", "_law_k"] sp_law_great := by
  refine T.F_law_great.ok sc_law_great (fun vs H Q E h => ?_) (fun cdv A outer s H vs Q E hr h => ?_)
  · obtain ⟨c, k, rfl, _⟩ := h
    rfl
  · obtain ⟨c, k, rfl, h0, h1, q⟩ := h
    refine ⟨_, PSs.nox (pss_cons (ps_set (i := 2) sc_law_great.nd rfl (Or.inl rfl) pe_int)
      (pss_cons (ps_for PassesOwn.never rfl (pi_range1 rfl T.b_range (pa_cons pe_int pa_nil)) (pg_name (i := 3) sc_law_great.nd rfl (Or.inl rfl))
      (pss_one (ps_set (i := 2) sc_law_great.nd rfl (Or.inl rfl) (pe_op op_add (pe_op op_mul (pv 2) pe_int) (pe_call (ok_law_mixed T) (hr.mono (by decide)) (by rfl) T.g_law_mixed T.F_law_mixed.kp T.k_law_mixed .nil pass0 (pa_cons (pv 0) (pa_cons (pe_op op_add (pe_op op_mul pe_int (pv 1)) (pv 3)) pa_nil)))))))
      (pss_one (ps_ret (pv 2))))), ?_⟩
    walk_at "go"
    refine for_it walk_range (fun i σ H' => H' = H ∧ ∃ (v : Int) (j : Option V), σ = [some (.int c), some (.int k), some (.int v), j]) ⟨rfl, 0, none, rfl⟩ (fun _ _ _ _ _ => trivial) ?_ ?_
    · rintro i x σ H1 H2 hi ⟨rfl, v, j, rfl⟩ ⟨rfl, rfl⟩
      have hi : i < 8 := hi
      walk_at "go"
      refine ⟨c, _, rfl, by omega, by omega, fun m _ _ => ?_⟩
      walk_at "go"
      exact ⟨rfl, _, _, rfl⟩
    · rintro σ H1 ⟨rfl, v, j, rfl⟩
      walk_at "go"
      exact q v
def signs94 : Str := (" !\"#$&'()*+,-./0123456789:;<=>?@ABCDEFGHIJKLMNOPQRSTUVWXYZ[\\]^_`" : Str) ++ ("abcdefghijklmnopqrstuvwxyz{|}~" : Str)
def sp_law_signs : Sp := fun vs H Q _ => vs = [] ∧ Q (.str signs94) H
theorem ok_law_signs (T : Tx K mg) : FnOk P w K mg base CX0 1 (He.ga K "_law_signs") T.fd_law_signs [] sp_law_signs := by
  refine T.F_law_signs.ok sc_law_signs (fun vs H Q E h => ?_) (fun cdv A outer s H vs Q E hr h => ?_)
  · obtain ⟨rfl, _⟩ := h
    rfl
  · obtain ⟨rfl, q⟩ := h
    refine ⟨_, PSs.nox (pss_cons (ps_set (i := 0) sc_law_signs.nd rfl (Or.inl rfl) pe_str)
      (pss_one (ps_ret (pe_op x_catS (pv 0) pe_str)))), ?_⟩
    walk_at "go"
    refine i_catS ?_ (by decide +kernel)
    exact q
def sp_law_odd : Sp := fun vs H Q _ => ∃ c : Int, vs = [.int c] ∧ ∀ x H', Th H' x → isStr x = false → Same H H' → Q x H'
theorem ok_law_odd (T : Tx K mg) : FnOk P w K mg base CX0 1 (He.ga K "_law_odd") T.fd_law_odd ["_law_cell"] sp_law_odd := by
  refine T.F_law_odd.ok sc_law_odd (fun vs H Q E h => ?_) (fun cdv A outer s H vs Q E hr h => ?_)
  · obtain ⟨c, rfl, _⟩ := h
    rfl
  · obtain ⟨c, rfl, q⟩ := h
    refine ⟨_, PSs.nox (pss_one (ps_ret (pe_ix ix_list (pe_lst (pa_cons pe_non (pa_cons pe_bl (pa_cons pe_bl (pa_cons pe_int (pa_cons (pe_tup pa_nil) (pa_cons (pe_lst (pa_cons pe_str pa_nil)) (pa_cons (pe_tup (pa_cons pe_str pa_nil)) (pa_cons pe_dnewK (pa_cons (pe_lst pa_nil) (pa_cons (pe_un un_neg pe_int) pa_nil))))))))))) (pe_op op_mod (pv 0) pe_int) (fun _ _ => rfl)))), ?_⟩
    walk_at "go"
    refine ⟨by walk_at "sz", fun p1 h1 => ?_⟩
    walk_at "go"
    refine ⟨by walk_at "sz", fun p2 h2 => ?_⟩
    walk_at "go"
    refine ⟨by walk_at "sz", fun p3 h3 => ?_⟩
    walk_at "go"
    intro p4 h4
    walk_at "go"
    refine ⟨by walk_at "sz", fun p5 h5 => ?_⟩
    walk_at "go"
    refine ⟨by walk_at "sz", fun p6 h6 => ?_⟩
    walk_at "go"
    have s1 : Same H _ := Same.new h1 (o := .tup [])
    have s2 := Same.mut s1 (s1.free h2) (o := .lst [.str "a"])
    have s3 := Same.mut s2 (s2.free h3) (o := .tup [.str "a"])
    have s4 := Same.mut s3 (s3.free h4) (o := .dK [])
    have s5 := Same.mut s4 (s4.free h5) (o := .lst [])
    have s6 := Same.mut s5 (s5.free h6) (o := .lst [.non, .bl true, .bl false, .int 5, .ref p1, .ref p2, .ref p3, .ref p4, .ref p5, .int (-3)])
    have n21 := ne_of_none (upd_same (H := H) (a := p1) (o := .tup [])) h2
    have hm : c % 10 = 0 ∨ c % 10 = 1 ∨ c % 10 = 2 ∨ c % 10 = 3 ∨ c % 10 = 4 ∨ c % 10 = 5 ∨ c % 10 = 6 ∨ c % 10 = 7 ∨ c % 10 = 8 ∨ c % 10 = 9 := by omega
    have e1 : ∀ {H1 : Hp} {p q : Addr} {o u : HO}, H1 p = some o → H1 q = none → (upd H1 q u) p = some o := fun a b => (upd_ne (ne_of_none a b)).trans a
    rcases hm with e | e | e | e | e | e | e | e | e | e
    all_goals rw [e]
    · exact i_ixL (SqL.of upd_same) rfl (q _ _ .non rfl s6)
    · exact i_ixL (SqL.of upd_same) rfl (q _ _ (.bl _) rfl s6)
    · exact i_ixL (SqL.of upd_same) rfl (q _ _ (.bl _) rfl s6)
    · exact i_ixL (SqL.of upd_same) rfl (q _ _ (.int _) rfl s6)
    · exact i_ixL (SqL.of upd_same) rfl (q _ _ (.tup (e1 (e1 (e1 (e1 (e1 upd_same h2) h3) h4) h5) h6)) rfl s6)
    · exact i_ixL (SqL.of upd_same) rfl (q _ _ (.lst (e1 (e1 (e1 (e1 upd_same h3) h4) h5) h6)) rfl s6)
    · exact i_ixL (SqL.of upd_same) rfl (q _ _ (.tup (e1 (e1 (e1 upd_same h4) h5) h6)) rfl s6)
    · exact i_ixL (SqL.of upd_same) rfl (q _ _ (.dK (e1 (e1 upd_same h5) h6)) rfl s6)
    · exact i_ixL (SqL.of upd_same) rfl (q _ _ (.lst (e1 upd_same h6)) rfl s6)
    · exact i_ixL (SqL.of upd_same) rfl (q _ _ (.int _) rfl s6)
def sp_law_is_name : Sp := fun vs H Q _ => ∃ x, vs = [x] ∧ Th H x ∧ ∀ H', Same H H' → Q (.bl (isName x)) H'
theorem ok_law_is_name (T : Tx K mg) : FnOk P w K mg base CX0 1 (He.ga K "_law_is_name") T.fd_law_is_name ["_law_thing"] sp_law_is_name := by
  refine T.F_law_is_name.ok sc_law_is_name (fun vs H Q E h => ?_) (fun cdv A outer s H vs Q E hr h => ?_)
  · obtain ⟨x, rfl, _⟩ := h
    rfl
  · obtain ⟨x, rfl, hx, q⟩ := h
    refine ⟨_, PSs.nox (pss_cons (ps_if (PW.pt (pw_or (pt_not (pt_val (pe_callB call_isi (by rfl) T.b_isinstance (by decide +kernel) (pa_cons (pv 0) (pa_cons (pe_bltn (v := .ty "str") rfl T.b_str (by decide +kernel) rfl) pa_nil))))) (pw_or1 (pt_not (pt_chain op_le op_le pe_int (pe_callB x_lenS (by rfl) T.b_len (by decide +kernel) (pa_cons (pv 0) pa_nil)) pe_int))))) (pss_one (ps_ret pe_bl)) pss_nil)
      (pss_one (ps_ret (pe_cmpR (op_eqD hr.units) (pe_lc (own := [("_law_sign", 1)]) (by rfl) sc_law_is_name.nd (pi_str (pv 0)) (blkOk_by (own := [("_law_sign", 1)]) (N := N_law_is_name) (sc := defScope s_law_is_name) (by decide +kernel)) (fun _ _ _ _ _ => (pg_name (i := 1) sc_law_is_name.nd rfl (Or.inl rfl))) (fun _ _ _ _ _ => (pts_one (pt_cmpR op_notInS (pv 1) pe_str rfl))) (fun _ _ _ _ _ => (pv 1))) (pe_lst pa_nil) (nomark _))))), ?_⟩
    walk_at "go"
    apply i_b
    · intro e
      obtain ⟨z, rfl⟩ : ∃ z, x = .str z := by cases x <;> simp [isStr] at e ⊢
      have hz : z.length ≤ 1000 := by cases hx; assumption
      have ho : okS z = true := by cases hx; assumption
      have main : ∀ D, H D = none → ∀ {Q' : VK}, (∀ H', H' = upd H D (.lst ((bad z.cps.toList letters).map V.str)) → Q' (.ref D) H') → True := fun _ _ _ _ => trivial
      walk_at "go"
      apply i_dec
      · intro h1
        walk_at "go"
        apply i_dec
        · intro h2
          walk_at "go"
          intro D hD
          refine lc_it walk_str (fun i H' => H' = upd H D (.lst ((bad (z.cps.toList.take i) letters).map V.str))) rfl (fun _ _ _ _ => trivial) ?_ ?_
          · rintro i x H1 H2 hi rfl ⟨rfl, c, hc, rfl⟩
            have hc' : z.cps.toList[i]? = some c := by simpa using hc
            have et : z.cps.toList.take (i + 1) = z.cps.toList.take i ++ [c] := by rw [List.take_add_one, hc']; rfl
            walk_at "go"
            refine ⟨rfl, ?_⟩
            walk_at "go"
            apply i_dec
            · intro hm
              walk_at "go"
              rw [et, bad_snoc_in hm]
            · intro hm
              walk_at "go"
              refine ⟨_, upd_same, ?_, ?_⟩
              · rw [List.length_map]
                have l1 := bad_len (z.cps.toList.take i) letters
                have l2 := List.length_take_le i z.cps.toList
                have l3 : z.cps.size = z.length := rfl
                rw [sizeLine_eq]
                omega
              · rw [et, bad_snoc_out hm, List.map_append, upd_upd]
                rfl
          · rintro H1 rfl
            rw [List.take_of_length_le (by simp)]
            walk_at "go"
            refine ⟨by walk_at "sz", fun p hp => ?_⟩
            refine i_eqNil (SqL.of ((upd_ne (ne_of_none upd_same hp)).trans upd_same)) (SqL.of upd_same) (bad_ok ho) ?_
            rw [bad_only]
            have e : isName (.str z) = only z letters := by simp [isName, h1, h2]
            rw [e] at q
            exact q _ (Same.mut (Same.new hD) ((Same.new hD).free hp))
        · intro h2
          walk_at "go"
          have e : isName (.str z) = false := by simp [isName, h2]
          rw [e] at q
          exact q _ (Same.refl _)
      · intro h1
        walk_at "go"
        have e : isName (.str z) = false := by simp [isName, h1]
        rw [e] at q
        exact q _ (Same.refl _)
    · intro e
      have e : isName x = false := by cases x <;> simp_all [isStr, isName]
      rw [e] at q
      walk_at "go"
      exact q _ (Same.refl _)
end
end K01

set_option Elab.async false
set_option linter.all false
set_option maxRecDepth 100000
set_option maxHeartbeats 2000000
namespace K01
open PySem PySem.Spec PyProof.Rows L2 HX TX
local macro_rules | `(tactic| walk_at "side") => `(tactic| first
  | assumption
  | rfl
  | (show (0 : Int) < _; omega)
  | (unfold CDiv; omega)
  | (unfold CMul; omega)
  | (unfold CPow; omega)
  | (rw [sizeLine_eq]; omega)
  | omega)
local macro_rules | `(tactic| walk_at "e") => `(tactic| first
  | ((with_reducible apply i_var); exact rfl)
  | (with_reducible apply i_c)
  | (with_reducible apply i_op)
  | (with_reducible apply i_un)
  | (with_reducible apply i_rI0)
  | ((with_reducible apply i_rI); (case c => walk_at "side"))
  | (with_reducible apply i_rGe)
  | (with_reducible apply i_rGt)
  | (with_reducible apply i_rU)
  | (with_reducible apply i_rEqI)
  | (with_reducible apply i_rNeI)
  | (with_reducible apply i_rEqS)
  | (with_reducible apply i_rNeS)
  | (with_reducible apply i_rEqB)
  | (with_reducible apply i_rNeB)
  | (with_reducible apply i_rIsN)
  | (with_reducible apply i_rNotN)
  | (with_reducible apply i_rInS)
  | (with_reducible apply i_rNotInS)
  | ((with_reducible apply i_catS); (case c => walk_at "side"))
  | (with_reducible apply i_tcb)
  | (with_reducible apply i_nil)
  | (with_reducible apply i_cons)
  | ((with_reducible apply i_lenS); (case c => walk_at "side"))
  | ((with_reducible apply i_lenL); assumption)
  | (with_reducible apply i_abs)
  | (with_reducible apply i_max2)
  | (with_reducible apply i_min2)
  | ((with_reducible apply i_strI); (case c => walk_at "side"))
  | (with_reducible apply i_intB)
  | (with_reducible apply i_test)
  | (with_reducible apply i_tB)
  | (with_reducible apply i_kB)
  | (with_reducible apply i_and)
  | (with_reducible apply i_or)
  | (with_reducible apply i_not)
  | (with_reducible apply i_if)
  | (with_reducible apply i_andV)
  | (with_reducible apply i_orV)
  | (with_reducible apply i_notV)
  | (with_reducible apply i_kAndV)
  | (with_reducible apply i_kOrV)
  | (with_reducible apply i_kNotV)
  | (with_reducible apply i_chain)
  | (with_reducible apply i_kChain)
  | (with_reducible apply i_drop)
  | (with_reducible apply i_ret)
  | (with_reducible apply i_retN)
  | (with_reducible apply i_ifS)
  | (with_reducible apply i_asg)
  | (with_reducible apply i_gName)
  | (with_reducible apply i_for)
  | (with_reducible apply i_lc)
  | (with_reducible apply i_iList)
  | (with_reducible apply i_iTup)
  | (with_reducible apply i_iStr)
  | (with_reducible apply i_kStrI)
  | (with_reducible apply i_lst)
  | (with_reducible apply i_tup)
  | (with_reducible apply i_call)
  | (with_reducible apply i_m1)
  | (with_reducible apply i_kStr)
  | (with_reducible apply i_bm)
  | (with_reducible apply i_bm0)
  | (with_reducible apply i_part)
  | (with_reducible apply i_kInt)
  | (with_reducible apply i_noPart)
  | (with_reducible apply i_sl)
  | (with_reducible apply i_range1)
  | (with_reducible apply i_range2)
  | ((with_reducible apply i_kRng1); (case c => walk_at "side"))
  | ((with_reducible apply i_kRng2); (case c => walk_at "side"))
  | (with_reducible apply i_gCons)
  | (with_reducible apply i_gNil)
  | (with_reducible apply i_gSub)
  | (with_reducible apply i_iZip)
  | (with_reducible apply i_yes)
  | (with_reducible apply i_ift)
  | (with_reducible apply i_iff)
  | (with_reducible apply i_nb))
local macro_rules | `(tactic| walk_at "go") => `(tactic| repeat (first | (with_reducible apply i_seq) | (with_reducible apply i_next) | walk_at "e"))
local macro_rules | `(tactic| walk_at "ge") => `(tactic| repeat walk_at "e")
local macro_rules | `(tactic| walk_at "sz") => `(tactic| first | decide | (rw [sizeLine_eq]; simp; done) | (rw [sizeLine_eq]; omega))
local macro_rules | `(tactic| walk_at "e") => `(tactic| first
  | ((with_reducible apply i_isStr); first | assumption | exact .non | exact .bl _ | exact .int _)
  | ((with_reducible apply i_isInt); first | assumption | exact .non | exact .bl _ | exact .int _)
  | ((with_reducible apply i_isBool); first | assumption | exact .non | exact .bl _ | exact .int _)
  | ((with_reducible apply i_isList); first | assumption | exact .non | exact .bl _ | exact .int _)
  | (with_reducible apply i_joinRev)
  | (with_reducible apply i_kRev0))
theorem non_of_bad {z : Str} (h : numOk z = false) : numOf (.str z) = .non := by simp [numOf, h]
section
variable {P : Program} {w : World} {K : PySem.W.Frag} {mg : Str → Option Value} {base : Heap}
def sp_law_number_of : Sp := fun vs H Q _ => ∃ x, vs = [x] ∧ Th H x ∧ ∀ H', Same H H' → Q (numOf x) H'
theorem ok_law_number_of (T : Tx K mg) : FnOk P w K mg base CX0 1 (He.ga K "_law_number_of") T.fd_law_number_of ["_law_word"] sp_law_number_of := by
  refine T.F_law_number_of.ok sc_law_number_of (fun vs H Q E h => ?_) (fun cdv A outer s H vs Q E hr h => ?_)
  · obtain ⟨x, rfl, _⟩ := h
    rfl
  · obtain ⟨x, rfl, hx, q⟩ := h
    refine ⟨_, PSs.nox (pss_cons (ps_if (pt_not (pt_val (pe_callB call_isi (by rfl) T.b_isinstance (by decide +kernel) (pa_cons (pv 0) (pa_cons (pe_bltn (v := .ty "str") rfl T.b_str (by decide +kernel) rfl) pa_nil))))) (pss_one (ps_ret pe_non)) pss_nil)
      (pss_cons (ps_if (PW.pt (pw_or (pt_not (pt_chain op_le op_le pe_int (pe_callB x_lenS (by rfl) T.b_len (by decide +kernel) (pa_cons (pv 0) pa_nil)) pe_int)) (pw_or1 (pt_cmpR (op_neD hr.units) (pe_lc (own := [("_law_sign", 2)]) (by rfl) sc_law_number_of.nd (pi_str (pv 0)) (blkOk_by (own := [("_law_sign", 2)]) (N := N_law_number_of) (sc := defScope s_law_number_of) (by decide +kernel)) (fun _ _ _ _ _ => (pg_name (i := 2) sc_law_number_of.nd rfl (Or.inl rfl))) (fun _ _ _ _ _ => (pts_one (pt_cmpR op_notInS (pv 2) pe_str rfl))) (fun _ _ _ _ _ => (pv 2))) (pe_lst pa_nil) (nomark _))))) (pss_one (ps_ret pe_non)) pss_nil)
      (pss_cons (ps_if (PW.pt (pw_and (pt_cmpR op_eq (pe_ix ix_str (pv 0) pe_int (fun _ _ => rfl)) pe_str (nomark _)) (pw_and1 (pt_cmpR op_ne (pv 0) pe_str (nomark _))))) (pss_one (ps_ret pe_non)) pss_nil)
      (pss_cons (ps_set (i := 1) sc_law_number_of.nd rfl (Or.inl rfl) pe_int)
      (pss_cons (ps_for PassesOwn.never rfl (pi_str (pv 0)) (pg_name (i := 2) sc_law_number_of.nd rfl (Or.inl rfl))
      (pss_one (ps_set (i := 1) sc_law_number_of.nd rfl (Or.inl rfl) (pe_op op_add (pe_op op_mul pe_int (pv 1)) (x_indexS pe_str (pv 2))))))
      (pss_one (ps_ret (pv 1)))))))), ?_⟩
    walk_at "go"
    apply i_b
    · intro e
      obtain ⟨z, rfl⟩ : ∃ z, x = .str z := by cases x <;> simp [isStr] at e ⊢
      have hz : z.length ≤ 1000 := by cases hx; assumption
      have ho : okS z = true := by cases hx; assumption
      walk_at "go"
      apply i_dec
      · intro h1
        walk_at "go"
        apply i_dec
        · intro h2
          walk_at "go"
          intro D hD
          refine lc_it walk_str (fun i H' => H' = upd H D (.lst ((bad (z.cps.toList.take i) digs).map V.str))) rfl (fun _ _ _ _ => trivial) ?_ ?_
          · rintro i x H1 H2 hi rfl ⟨rfl, c, hc, rfl⟩
            have hc' : z.cps.toList[i]? = some c := by simpa using hc
            have et : z.cps.toList.take (i + 1) = z.cps.toList.take i ++ [c] := by rw [List.take_add_one, hc']; rfl
            walk_at "go"
            refine ⟨rfl, ?_⟩
            walk_at "go"
            apply i_dec
            · intro hm
              walk_at "go"
              rw [et, bad_snoc_in hm]
            · intro hm
              walk_at "go"
              refine ⟨_, upd_same, ?_, ?_⟩
              · rw [List.length_map]
                have l1 := bad_len (z.cps.toList.take i) digs
                have l2 := List.length_take_le i z.cps.toList
                have l3 : z.cps.size = z.length := rfl
                rw [sizeLine_eq]
                omega
              · rw [et, bad_snoc_out hm, List.map_append, upd_upd]
                rfl
          · rintro H1 rfl
            rw [List.take_of_length_le (by simp)]
            walk_at "go"
            refine ⟨by walk_at "sz", fun p hp => ?_⟩
            refine i_neNil (SqL.of ((upd_ne (ne_of_none upd_same hp)).trans upd_same)) (SqL.of upd_same) (bad_ok ho) ?_
            rw [bad_only]
            have sm : Same H _ := Same.mut (Same.new hD (o := .lst ((bad z.cps.toList digs).map V.str))) ((Same.new hD).free hp) (o := .lst [])
            walk_at "go"
            apply i_b
            · intro h3
              walk_at "go"
              have hat := first_at h1
              refine i_ixS (c := z.cps.toList.headD 0) ?_ (by rw [sizeLine_eq]; omega) hat
              walk_at "go"
              have fin : numOk z = true → ∀ v : Int, v = ((NumText.digitsVal z.cps.toList : Nat) : Int) → Q (.int v) (upd (upd H D (.lst ((bad z.cps.toList digs).map V.str))) p (.lst [])) := by
                intro ok v ev
                have e : numOf (.str z) = .int ((NumText.digitsVal z.cps.toList : Nat) : Int) := by simp [numOf, ok]
                rw [e, ← ev] at q
                exact q _ sm
              have loop : numOk z = true → ForW (Its z) (gName 2) (tAsg (tOp (rI0 fun i j => V.int (i + j)) (tOp (rI CMul fun i j => V.int (i * j)) (tC (V.int 10)) (tVar 1)) (tM1 xIndexF (tC (V.str "0123456789")) (tVar 2))) (gName 1))
                  { nx := tRet (tVar 1) { nx := fun x H' => Q V.non H', rt := Q }, rt := Q } [some (.str z), some (.int 0), none] (upd (upd H D (.lst ((bad z.cps.toList digs).map V.str))) p (.lst [])) := by
                intro ok
                refine for_it walk_str (fun i σ H' => H' = upd (upd H D (.lst ((bad z.cps.toList digs).map V.str))) p (.lst []) ∧ ∃ j : Option V, σ = [some (.str z), some (.int ((NumText.digitsVal (z.cps.toList.take i) : Nat) : Int)), j]) ⟨rfl, none, rfl⟩ (fun _ _ _ _ _ => trivial) ?_ ?_
                · rintro i x σ H1 H2 hi ⟨rfl, j, rfl⟩ ⟨rfl, c, hc, rfl⟩
                  have hc' : z.cps.toList[i]? = some c := by simpa using hc
                  have et : z.cps.toList.take (i + 1) = z.cps.toList.take i ++ [c] := by rw [List.take_add_one, hc']; rfl
                  have hd := only_digs h3 c (List.mem_of_getElem? hc')
                  walk_at "go"
                  refine ⟨c - 48, rfl, by rw [show 48 + (c - 48) = c by omega], by omega, ?_⟩
                  walk_at "go"
                  refine ⟨rfl, some (.str ⟨#[c]⟩), ?_⟩
                  rw [et, PySem.NumText.digitsVal_snoc]
                  have en : (10 : Int) * ((NumText.digitsVal (z.cps.toList.take i) : Nat) : Int) + ((c - 48 : Nat) : Int) = ((NumText.digitsVal (z.cps.toList.take i) * 10 + (c - 48) : Nat) : Int) := by
                    rw [Int.natCast_add, Int.natCast_mul]
                    omega
                  rw [← en]
                  rfl
                · rintro σ H1 ⟨rfl, j, rfl⟩
                  walk_at "go"
                  rw [List.take_of_length_le (by simp)]
                  exact fin ok _ rfl
              apply i_dec
              · intro h4
                walk_at "go"
                apply i_dec
                · intro h5
                  walk_at "go"
                  exact loop (by unfold numOk fst; rw [decide_eq_true h1, decide_eq_true h2, h3, decide_eq_true h5]; simp)
                · intro h5
                  walk_at "go"
                  rw [non_of_bad (by unfold numOk fst; rw [decide_eq_true h4, decide_eq_false h5]; simp)] at q
                  exact q _ sm
              · intro h4
                walk_at "go"
                exact loop (by unfold numOk fst; rw [decide_eq_true h1, decide_eq_true h2, h3, decide_eq_false h4]; simp)
            · intro h3
              walk_at "go"
              rw [non_of_bad (by simp [numOk, h3])] at q
              exact q _ sm
        · intro h2
          walk_at "go"
          rw [non_of_bad (by simp [numOk, h2])] at q
          exact q _ (Same.refl _)
      · intro h1
        walk_at "go"
        rw [non_of_bad (by simp [numOk, h1])] at q
        exact q _ (Same.refl _)
    · intro e
      have e : numOf x = .non := by cases x <;> simp_all [isStr, numOf]
      rw [e] at q
      walk_at "go"
      exact q _ (Same.refl _)
/-- True, False, a whole number or None -/
def Sc : V → Prop
  | .bl _ => True
  | .int _ => True
  | .non => True
  | _ => False
def sp_law_alike : Sp := fun vs H Q _ => ∃ x, vs = [x, x] ∧ Sc x ∧ Q (.bl true) H
theorem ok_law_alike (T : Tx K mg) : FnOk P w K mg base CX0 1 (He.ga K "_law_alike") T.fd_law_alike ["_law_found", "_law_due"] sp_law_alike := by
  refine T.F_law_alike.ok sc_law_alike (fun vs H Q E h => ?_) (fun cdv A outer s H vs Q E hr h => ?_)
  · obtain ⟨x, rfl, _⟩ := h
    rfl
  · obtain ⟨x, rfl, hx, q⟩ := h
    refine ⟨_, PSs.nox (pss_cons (ps_if (PW.pt (pw_or (pt_cmpR op_ne (pe_callB call_isi (by rfl) T.b_isinstance (by decide +kernel) (pa_cons (pv 0) (pa_cons (pe_bltn (v := .ty "bool") rfl T.b_bool (by decide +kernel) rfl) pa_nil))) (pe_callB call_isi (by rfl) T.b_isinstance (by decide +kernel) (pa_cons (pv 1) (pa_cons (pe_bltn (v := .ty "bool") rfl T.b_bool (by decide +kernel) rfl) pa_nil))) (nomark _)) (pw_or1 (pt_cmpR op_ne (pe_callB call_isi (by rfl) T.b_isinstance (by decide +kernel) (pa_cons (pv 0) (pa_cons (pe_bltn (v := .ty "int") rfl T.b_int (by decide +kernel) rfl) pa_nil))) (pe_callB call_isi (by rfl) T.b_isinstance (by decide +kernel) (pa_cons (pv 1) (pa_cons (pe_bltn (v := .ty "int") rfl T.b_int (by decide +kernel) rfl) pa_nil))) (nomark _))))) (pss_one (ps_ret pe_bl)) pss_nil)
      (pss_one (ps_ret (pe_cmpR op_eq (pv 0) (pv 1) (nomark _))))), ?_⟩
    have ht : Th H x := by cases x <;> first | exact .non | exact .bl _ | exact .int _ | exact hx.elim
    walk_at "go"
    apply i_dec
    · intro _
      walk_at "go"
      apply i_dec
      · intro _
        walk_at "go"
        have hs : scal x x = true := by cases x <;> first | rfl | exact hx.elim
        refine ⟨hs, ?_⟩
        rw [decide_eq_true rfl]
        exact q
      · intro h
        exact absurd rfl h
    · intro h
      exact absurd rfl h
theorem sc_num (x : V) : Sc (numOf x) := by
  cases x with
  | str z =>
    show Sc (if numOk z = true then _ else _)
    split <;> trivial
  | _ => trivial
def sp_law_asked : Sp := fun vs H Q _ => ∃ (n : Int) (x : V) (a b : Int), vs = [.int n, x, .int a, .int b] ∧ Th H x ∧ ∀ H', Same H H' → Q (.bl true) H'
theorem ok_law_asked (T : Tx K mg) : FnOk P w K mg base CX0 3 (He.ga K "_law_asked") T.fd_law_asked ["_law_way", "_law_thing", "_law_least", "_law_most"] sp_law_asked := by
  refine T.F_law_asked.ok sc_law_asked (fun vs H Q E h => ?_) (fun cdv A outer s H vs Q E hr h => ?_)
  · obtain ⟨n, x, a, b, rfl, _⟩ := h
    rfl
  · obtain ⟨n, x, a, b, rfl, hx, q⟩ := h
    refine ⟨_, PSs.nox (pss_cons (ps_if (pt_cmpR op_eq (pv 0) pe_int (nomark _)) (pss_one (ps_ret (pe_call (ok_law_alike T) (hr.mono (by decide)) (by rfl) T.g_law_alike T.F_law_alike.kp T.k_law_alike .nil pass0 (pa_cons (pe_call (ok_is_name T) (hr.mono (by decide)) (by rfl) T.g_is_name T.F_is_name.kp T.k_is_name .nil pass0 (pa_cons (pv 1) pa_nil)) (pa_cons (pe_call (ok_law_is_name T) (hr.mono (by decide)) (by rfl) T.g_law_is_name T.F_law_is_name.kp T.k_law_is_name .nil pass0 (pa_cons (pv 1) pa_nil)) pa_nil))))) pss_nil)
      (pss_cons (ps_if (pt_cmpR op_eq (pv 0) pe_int (nomark _)) (pss_one (ps_ret (pe_call (ok_law_alike T) (hr.mono (by decide)) (by rfl) T.g_law_alike T.F_law_alike.kp T.k_law_alike .nil pass0 (pa_cons (pe_call (ok_number_of T) (hr.mono (by decide)) (by rfl) T.g_number_of T.F_number_of.kp T.k_number_of .nil pass0 (pa_cons (pv 1) pa_nil)) (pa_cons (pe_call (ok_law_number_of T) (hr.mono (by decide)) (by rfl) T.g_law_number_of T.F_law_number_of.kp T.k_law_number_of .nil pass0 (pa_cons (pv 1) pa_nil)) pa_nil))))) pss_nil)
      (pss_cons (ps_set (i := 4) sc_law_asked.nd rfl (Or.inl rfl) (pe_and (pe_callB call_isi (by rfl) T.b_isinstance (by decide +kernel) (pa_cons (pv 1) (pa_cons (pe_bltn (v := .ty "int") rfl T.b_int (by decide +kernel) rfl) pa_nil))) (pe_one (pe_not (pe_callB call_isi (by rfl) T.b_isinstance (by decide +kernel) (pa_cons (pv 1) (pa_cons (pe_bltn (v := .ty "bool") rfl T.b_bool (by decide +kernel) rfl) pa_nil)))))))
      (pss_cons (ps_if (pt_cmpR op_eq (pv 0) pe_int (nomark _)) (pss_one (ps_ret (pe_call (ok_law_alike T) (hr.mono (by decide)) (by rfl) T.g_law_alike T.F_law_alike.kp T.k_law_alike .nil pass0 (pa_cons (pe_call (ok_is_whole T) (hr.mono (by decide)) (by rfl) T.g_is_whole T.F_is_whole.kp T.k_is_whole .nil pass0 (pa_cons (pv 1) pa_nil)) (pa_cons (pv 4) pa_nil))))) pss_nil)
      (pss_one (ps_ret (pe_call (ok_law_alike T) (hr.mono (by decide)) (by rfl) T.g_law_alike T.F_law_alike.kp T.k_law_alike .nil pass0 (pa_cons (pe_call (ok_is_among T) (hr.mono (by decide)) (by rfl) T.g_is_among T.F_is_among.kp T.k_is_among .nil pass0 (pa_cons (pv 1) (pa_cons (pv 2) (pa_cons (pv 3) pa_nil)))) (pa_cons (pe_and (pv 4) (pe_and (pe_cmpR op_le (pv 2) (pv 1) (nomark _)) (pe_one (pe_cmpR op_le (pv 1) (pv 3) (nomark _))))) pa_nil))))))))), ?_⟩
    walk_at "go"
    apply i_dec
    · intro _
      walk_at "go"
      refine ⟨x, rfl, hx, ?_⟩
      walk_at "go"
      refine ⟨x, rfl, hx, fun H1 s1 => ?_⟩
      walk_at "go"
      exact ⟨_, rfl, trivial, q _ s1⟩
    · intro _
      walk_at "go"
      apply i_dec
      · intro _
        walk_at "go"
        refine ⟨x, rfl, hx, ?_⟩
        walk_at "go"
        refine ⟨x, rfl, hx, fun H1 s1 => ?_⟩
        walk_at "go"
        exact ⟨_, rfl, sc_num x, q _ s1⟩
      · intro _
        walk_at "go"
        have ew : isWhole x = (isInt x && !isBool x) := by cases x <;> rfl
        have rest : ∀ σ, σ = [some (.int n), some x, some (.int a), some (.int b), some (.bl (isWhole x))] →
            tSeq (tIfS (tTest (tOp rEq (tVar 0) (tC (.int 2)))) (tRet (tCall sp_law_alike [] E0 (tCons (tCall sp_is_whole [] E0 (tCons (tVar 1) tNil)) (tCons (tVar 4) tNil)))) tNext)
              (tRet (tCall sp_law_alike [] E0 (tCons (tCall sp_is_among [] E0 (tCons (tVar 1) (tCons (tVar 2) (tCons (tVar 3) tNil)))) (tCons (tAndV (tVar 4) (tAndV (tOp (rI0 fun i j => .bl (decide (i ≤ j))) (tVar 2) (tVar 1)) (tOp (rI0 fun i j => .bl (decide (i ≤ j))) (tVar 1) (tVar 3)))) tNil))))
              { nx := fun x H' => Q V.non H', rt := Q } σ H := by
          rintro σ rfl
          walk_at "go"
          apply i_dec
          · intro _
            walk_at "go"
            refine ⟨x, rfl, hx, ?_⟩
            walk_at "go"
            exact ⟨_, rfl, trivial, q _ (Same.refl _)⟩
          · intro _
            walk_at "go"
            refine ⟨x, a, b, rfl, hx, ?_⟩
            walk_at "go"
            apply i_b
            · intro e
              obtain ⟨i, rfl⟩ : ∃ i, x = .int i := by cases x <;> simp [isWhole] at e ⊢
              walk_at "go"
              apply i_dec
              · intro h1
                walk_at "go"
                refine ⟨.bl (decide (i ≤ b)), ?_, trivial, q _ (Same.refl _)⟩
                have e : isAmong (.int i) a b = decide (i ≤ b) := by simp [isAmong, h1]
                rw [e]
                rfl
              · intro h1
                walk_at "go"
                refine ⟨.bl false, ?_, trivial, q _ (Same.refl _)⟩
                have e : isAmong (.int i) a b = false := by simp [isAmong, h1]
                rw [e]
                rfl
            · intro e
              walk_at "go"
              refine ⟨.bl false, ?_, trivial, q _ (Same.refl _)⟩
              have e : isAmong x a b = false := by cases x <;> simp_all [isWhole, isAmong]
              rw [e]
              rfl
        apply i_b
        · intro h1
          walk_at "ge"
          refine rest _ ?_
          rw [ew, h1]
          rfl
        · intro h1
          walk_at "ge"
          refine rest _ ?_
          rw [ew, h1]
          rfl
end
end K01

set_option Elab.async false
set_option linter.all false
set_option maxRecDepth 100000
set_option maxHeartbeats 2000000
namespace K01
open PySem PySem.Spec PyProof.Rows L2 HX TX TL
local macro_rules | `(tactic| walk_at "side") => `(tactic| first
  | assumption
  | rfl
  | (show (0 : Int) < _; omega)
  | (unfold CDiv; omega)
  | (unfold CMul; omega)
  | (unfold CPow; omega)
  | (rw [sizeLine_eq]; omega)
  | omega)
local macro_rules | `(tactic| walk_at "e") => `(tactic| first
  | ((with_reducible apply i_var); exact rfl)
  | (with_reducible apply i_c)
  | (with_reducible apply i_op)
  | (with_reducible apply i_un)
  | (with_reducible apply i_rI0)
  | ((with_reducible apply i_rI); (case c => walk_at "side"))
  | (with_reducible apply i_rGe)
  | (with_reducible apply i_rGt)
  | (with_reducible apply i_rU)
  | (with_reducible apply i_rEqI)
  | (with_reducible apply i_rNeI)
  | (with_reducible apply i_rEqS)
  | (with_reducible apply i_rNeS)
  | (with_reducible apply i_rEqB)
  | (with_reducible apply i_rNeB)
  | (with_reducible apply i_rIsN)
  | (with_reducible apply i_rNotN)
  | (with_reducible apply i_rInS)
  | (with_reducible apply i_rNotInS)
  | ((with_reducible apply i_catS); (case c => walk_at "side"))
  | (with_reducible apply i_tcb)
  | (with_reducible apply i_nil)
  | (with_reducible apply i_cons)
  | ((with_reducible apply i_lenS); (case c => walk_at "side"))
  | ((with_reducible apply i_lenL); assumption)
  | (with_reducible apply i_abs)
  | (with_reducible apply i_max2)
  | (with_reducible apply i_min2)
  | ((with_reducible apply i_strI); (case c => walk_at "side"))
  | (with_reducible apply i_intB)
  | (with_reducible apply i_test)
  | (with_reducible apply i_tB)
  | (with_reducible apply i_kB)
  | (with_reducible apply i_and)
  | (with_reducible apply i_or)
  | (with_reducible apply i_not)
  | (with_reducible apply i_if)
  | (with_reducible apply i_andV)
  | (with_reducible apply i_orV)
  | (with_reducible apply i_notV)
  | (with_reducible apply i_kAndV)
  | (with_reducible apply i_kOrV)
  | (with_reducible apply i_kNotV)
  | (with_reducible apply i_chain)
  | (with_reducible apply i_kChain)
  | (with_reducible apply i_drop)
  | (with_reducible apply i_ret)
  | (with_reducible apply i_retN)
  | (with_reducible apply i_ifS)
  | (with_reducible apply i_asg)
  | (with_reducible apply i_gName)
  | (with_reducible apply i_for)
  | (with_reducible apply i_lc)
  | (with_reducible apply i_iList)
  | (with_reducible apply i_iTup)
  | (with_reducible apply i_iStr)
  | (with_reducible apply i_kStrI)
  | (with_reducible apply i_lst)
  | (with_reducible apply i_tup)
  | (with_reducible apply i_call)
  | (with_reducible apply i_m1)
  | (with_reducible apply i_kStr)
  | (with_reducible apply i_bm)
  | (with_reducible apply i_bm0)
  | (with_reducible apply i_part)
  | (with_reducible apply i_kInt)
  | (with_reducible apply i_noPart)
  | (with_reducible apply i_sl)
  | (with_reducible apply i_range1)
  | (with_reducible apply i_range2)
  | ((with_reducible apply i_kRng1); (case c => walk_at "side"))
  | ((with_reducible apply i_kRng2); (case c => walk_at "side"))
  | (with_reducible apply i_gCons)
  | (with_reducible apply i_gNil)
  | (with_reducible apply i_gSub)
  | (with_reducible apply i_iZip)
  | (with_reducible apply i_yes)
  | (with_reducible apply i_ift)
  | (with_reducible apply i_iff)
  | (with_reducible apply i_nb))
local macro_rules | `(tactic| walk_at "go") => `(tactic| repeat (first | (with_reducible apply i_seq) | (with_reducible apply i_next) | walk_at "e"))
local macro_rules | `(tactic| walk_at "ge") => `(tactic| repeat walk_at "e")
local macro_rules | `(tactic| walk_at "sz") => `(tactic| first | decide | (rw [sizeLine_eq]; simp; done) | (rw [sizeLine_eq]; omega))
local macro_rules | `(tactic| walk_at "e") => `(tactic| first
  | ((with_reducible apply i_isStr); first | assumption | exact .non | exact .bl _ | exact .int _)
  | ((with_reducible apply i_isInt); first | assumption | exact .non | exact .bl _ | exact .int _)
  | ((with_reducible apply i_isBool); first | assumption | exact .non | exact .bl _ | exact .int _)
  | ((with_reducible apply i_isList); first | assumption | exact .non | exact .bl _ | exact .int _)
  | (with_reducible apply i_joinRev)
  | (with_reducible apply i_kRev0))
theorem FigInv.len {n left : Nat} {fs : List Nat} (h : FigInv n left fs) : fs.length ≤ (numL n).length := by
  rcases h with ⟨rfl, _⟩ | ⟨_, h1, h2⟩
  · exact Nat.zero_le _
  · by_cases c : left = 0
    · rw [← h2 c]; simp
    · rw [← h1 (by omega)]; simp
def numS (m : Nat) : Str := Str.ofString (toString ((m : Nat) : Int))
theorem tl_numS (m : Nat) : tl (numS m) = numL m := tl_num m
theorem numS_len {m : Nat} (h : m < 10 ^ 61) : (numS m).length ≤ 61 := by
  rw [len_tl, tl_numS]
  exact numL_len (by decide) h
theorem numS_pos (m : Nat) : 1 ≤ (numS m).length := by
  rw [len_tl, tl_numS]
  have := numL_ne m
  cases q : numL m with
  | nil => exact absurd q this
  | cons c r => simp
theorem numS_ok (m : Nat) : okS (numS m) = true := okS_iff.mpr fun c hc => by
  rw [tl_numS] at hc
  have := numL_digits m c hc
  omega
theorem small_log {m : Nat} (h : m < 10 ^ 61) : ((m : Int)).natAbs.log2 < 1920 := by
  rw [Int.natAbs_natCast]
  by_cases e : m = 0
  · subst e; decide
  · exact (Nat.log2_lt e).mpr (Nat.lt_of_lt_of_le h (by decide))
theorem zero_tl : tl ("0" : Str) = [48] := by decide +kernel
theorem num_back {m : Nat} (h : m < 10 ^ 61) : numOf (.str (numS m)) = .int (m : Int) := by
  have ok : numOk (numS m) = true := by
    have h1 := numS_len h
    have h2 := numS_pos m
    have h3 : only (numS m) digs = true := by
      unfold only
      rw [List.all_eq_true]
      intro c hc
      rw [show (numS m).cps.toList = numL m from tl_numS m] at hc
      exact decide_eq_true (dig_mem.mpr (numL_digits m c hc))
    have h4 : fst (numS m) = "0" → numS m = "0" := by
      intro e
      have e1 : (numL m).headD 0 = 48 := by
        have q := congrArg tl e
        rw [zero_tl] at q
        have q2 : [(tl (numS m)).headD 0] = [48] := q
        rw [tl_numS] at q2
        exact List.cons.inj q2 |>.1
      have e2 := numL_head e1
      subst e2
      exact ext_tl (by rw [tl_numS, zero_tl]; decide +kernel)
    unfold numOk
    rw [decide_eq_true (show (1 : Int) ≤ ((numS m).length : Int) by omega), decide_eq_true (show ((numS m).length : Int) ≤ 61 by omega), h3]
    by_cases e : fst (numS m) = "0"
    · rw [decide_eq_true e, decide_eq_true (h4 e)]; rfl
    · rw [decide_eq_false e]; rfl
  show (if numOk (numS m) = true then V.int ((NumText.digitsVal (tl (numS m)) : Nat) : Int) else V.non) = _
  rw [if_pos ok, tl_numS, numL_val]
theorem text_eq {m : Nat} {fs : List Nat} (h : fs.reverse = numL m) : numS m = Txt.join "" ((fs.map sgn).reverse) := ext_tl (by rw [tl_numS, join_signs, h])
theorem sgn_len (c : Nat) : (sgn c).length = 1 := rfl
theorem dig_at : ∀ d : Nat, d < 10 → atI digs.cps.toList ((d : Nat) : Int) = some (48 + d) := by decide +kernel
theorem str_at {z : Str} {k : Int} (h0 : 0 ≤ k) (h1 : k < (z.length : Int)) : ∃ c ∈ z.cps.toList, atI z.cps.toList k = some c := by
  obtain ⟨j, rfl⟩ := Int.eq_ofNat_of_zero_le h0
  have hj : j < z.cps.toList.length := by rw [len_list]; omega
  exact ⟨_, List.getElem_mem hj, atI_nat (List.getElem?_eq_getElem hj)⟩
theorem pick {xs : List Int} {lo hi i : Int} (h : ∀ x ∈ xs, lo ≤ x ∧ x ≤ hi) (h0 : 0 ≤ i) (h1 : i < (xs.length : Int)) : ∃ s, lo ≤ s ∧ s ≤ hi ∧ atI (xs.map V.int) i = some (.int s) := by
  obtain ⟨j, rfl⟩ := Int.eq_ofNat_of_zero_le h0
  have hj : j < xs.length := by omega
  have m := h _ (List.getElem_mem hj)
  exact ⟨xs[j], m.1, m.2, atI_nat (by rw [List.getElem?_map, List.getElem?_eq_getElem hj]; rfl)⟩
theorem pickS {xs : List Str} {i : Int} (h0 : 0 ≤ i) (h1 : i < (xs.length : Int)) : ∃ s ∈ xs, atI (xs.map V.str) i = some (.str s) := by
  obtain ⟨j, rfl⟩ := Int.eq_ofNat_of_zero_le h0
  have hj : j < xs.length := by omega
  exact ⟨xs[j], List.getElem_mem hj, atI_nat (by rw [List.getElem?_map, List.getElem?_eq_getElem hj]; rfl)⟩
section
variable {P : Program} {w : World} {K : PySem.W.Frag} {mg : Str → Option Value} {base : Heap}
def sp_law_number_good : Sp := fun vs H Q _ => ∃ m : Nat, vs = [.int (m : Int)] ∧ m < 10 ^ 61 ∧ ∀ H', Same H H' → Q (.bl true) H'
theorem ok_law_number_good (T : Tx K mg) : FnOk P w K mg base CX0 3 (He.ga K "_law_number_good") T.fd_law_number_good ["_law_number"] sp_law_number_good := by
  refine T.F_law_number_good.ok sc_law_number_good (fun vs H Q E h => ?_) (fun cdv A outer s H vs Q E hr h => ?_)
  · obtain ⟨m, rfl, _⟩ := h
    rfl
  · obtain ⟨m, rfl, hm, q⟩ := h
    refine ⟨_, PSs.nox (pss_cons (ps_set (i := 1) sc_law_number_good.nd rfl (Or.inl rfl) (pe_call (ok_number_text T) (hr.mono (by decide)) (by rfl) T.g_number_text T.F_number_text.kp T.k_number_text .nil pass0 (pa_cons (pv 0) pa_nil)))
      (pss_cons (ps_set (i := 2) sc_law_number_good.nd rfl (Or.inl rfl) (pe_lst pa_nil))
      (pss_cons (ps_set (i := 3) sc_law_number_good.nd rfl (Or.inl rfl) (pv 0))
      (pss_cons (ps_while PassesOwn.never (PW.pt (pw_or (pt_cmpR op_gt (pv 3) pe_int (nomark _)) (pw_or1 (pt_cmpR (op_eqD hr.units) (pv 2) (pe_lst pa_nil) (nomark _))))) (pss_cons (ps_expr (pe_bm PySem.F.plainAttrs_list PySem.F.slot_list_append PySem.F.type_list_append mt_append (pv 2) (pa_cons (pe_ix ix_str pe_str (pe_op op_mod (pv 3) pe_int) (fun _ _ => rfl)) pa_nil)))
      (pss_one (ps_set (i := 3) sc_law_number_good.nd rfl (Or.inl rfl) (pe_op op_fdiv (pv 3) pe_int)))))
      (pss_cons (ps_set (i := 4) sc_law_number_good.nd rfl (Or.inl rfl) (x_joinRev rfl pe_str (by rfl) T.b_reversed (pa_cons (pv 2) pa_nil)))
      (pss_one (ps_ret (pe_and (pe_callB call_isi (by rfl) T.b_isinstance (by decide +kernel) (pa_cons (pv 1) (pa_cons (pe_bltn (v := .ty "str") rfl T.b_str (by decide +kernel) rfl) pa_nil))) (pe_and (pe_cmpR op_eq (pv 1) (pv 4) (nomark _)) (pe_one (pe_call (ok_law_alike T) (hr.mono (by decide)) (by rfl) T.g_law_alike T.F_law_alike.kp T.k_law_alike .nil pass0 (pa_cons (pe_call (ok_number_of T) (hr.mono (by decide)) (by rfl) T.g_number_of T.F_number_of.kp T.k_number_of .nil pass0 (pa_cons (pv 1) pa_nil)) (pa_cons (pv 0) pa_nil))))))))))))), ?_⟩
    have ht : ∀ H', Th H' (.str (numS m)) := fun _ => .str _ (by have := numS_len hm; omega) (numS_ok m)
    walk_at "go"
    refine ⟨(m : Int), rfl, small_log hm, ?_⟩
    walk_at "go"
    refine ⟨by walk_at "sz", fun p hp => ?_⟩
    walk_at "go"
    refine ⟨fun k σ H' => ∃ (left : Nat) (fs : List Nat), σ = [some (.int (m : Int)), some (.str (numS m)), some (.ref p), some (.int (left : Int)), none] ∧ Same H H' ∧ H' p = some (.lst ((fs.map sgn).map V.str)) ∧ FigInv m left fs ∧
      (∀ c ∈ fs, 48 ≤ c ∧ c ≤ 57) ∧ k = left + (if fs = [] then 1 else 0), ⟨m + 1, m, [], rfl, Same.new hp, upd_same, .inl ⟨rfl, rfl⟩, by simp, by simp⟩, ?_⟩
    rintro k σ H1 ⟨left, fs, rfl, sm, hp1, inv, hd, rfl⟩
    have hl := FigInv.len inv
    have hn := numL_len (k := 61) (by decide) hm
    have oks : ∀ y ∈ fs.map sgn, okS y = true := by
      intro y hy
      obtain ⟨c, hc, rfl⟩ := List.mem_map.mp hy
      exact okS_one (by have := hd c hc; omega)
    have hmod : ((left : Int) % 10) = ((left % 10 : Nat) : Int) := by omega
    have hdiv : ((left : Int) / 10) = ((left / 10 : Nat) : Int) := by omega
    have next : ∀ H2, Same H H2 → H2 p = some (.lst ((fs.map sgn).map V.str)) → (0 < left ∨ fs = []) → Same H (upd H2 p (.lst (((fs.map sgn).map V.str) ++ [.str (sgn (48 + left % 10))]))) ∧
        (upd H2 p (.lst (((fs.map sgn).map V.str) ++ [.str (sgn (48 + left % 10))]))) p = some (.lst (((fs ++ [48 + left % 10]).map sgn).map V.str)) ∧ FigInv m (left / 10) (fs ++ [48 + left % 10]) ∧ (∀ c ∈ fs ++ [48 + left % 10], 48 ≤ c ∧ c ≤ 57) ∧
        left / 10 + (if fs ++ [48 + left % 10] = [] then 1 else 0) < left + (if fs = [] then 1 else 0) := by
      intro H2 s2 e2 c
      refine ⟨Same.mut s2 hp, by rw [upd_same, List.map_append, List.map_append]; rfl, inv.step c, ?_, ?_⟩
      · intro c' hc
        rcases List.mem_append.mp hc with h | h
        · exact hd _ h
        · rw [List.mem_singleton.mp h]; omega
      · rw [if_neg (by simp)]
        rcases c with c | c
        · omega
        · rw [if_pos c]; omega
    walk_at "go"
    apply i_dec
    · intro h1
      walk_at "go"
      refine ⟨_, fun _ _ h => h, ?_⟩
      walk_at "go"
      refine i_kTyL (SqL.of hp1) ?_
      walk_at "go"
      rw [hmod]
      refine i_ixS (c := 48 + left % 10) ?_ (by decide +kernel) (dig_at _ (by omega))
      walk_at "go"
      refine i_append hp1 ?_ (by rw [List.length_map, List.length_map, sizeLine_eq]; omega)
      obtain ⟨n1, n2, n3, n4, n5⟩ := next H1 sm hp1 (.inl (by omega))
      walk_at "go"
      rw [hdiv]
      exact ⟨_, n5, _, _, rfl, n1, n2, n3, n4, rfl⟩
    · intro h1
      have hz : left = 0 := by omega
      walk_at "go"
      refine ⟨by walk_at "sz", fun p2 hp2 => ?_⟩
      have e2 : (upd H1 p2 (.lst [])) p = some (.lst ((fs.map sgn).map V.str)) := (upd_ne (ne_of_none hp1 hp2)).trans hp1
      have sm2 : Same H (upd H1 p2 (.lst [])) := Same.mut sm (sm.free hp2)
      refine i_eqNil (SqL.of e2) (SqL.of upd_same) oks ?_
      walk_at "go"
      apply i_b
      · intro h3
        have hf : fs = [] := by simpa using h3
        refine ⟨_, fun _ _ h => h, ?_⟩
        walk_at "go"
        refine i_kTyL (SqL.of e2) ?_
        walk_at "go"
        rw [hmod]
        refine i_ixS (c := 48 + left % 10) ?_ (by decide +kernel) (dig_at _ (by omega))
        walk_at "go"
        refine i_append e2 ?_ (by rw [List.length_map, List.length_map, sizeLine_eq]; omega)
        obtain ⟨n1, n2, n3, n4, n5⟩ := next _ sm2 e2 (.inr hf)
        walk_at "go"
        rw [hdiv]
        exact ⟨_, n5, _, _, rfl, n1, n2, n3, n4, rfl⟩
      · intro h3
        have hf : fs ≠ [] := by intro e; rw [e] at h3; simp at h3
        subst hz
        have fin := inv.done hf
        walk_at "go"
        refine i_kJoinRev (ys := fs.map sgn) (SqL.of e2) ?_ ?_
        · have := sum_le (ys := fs.map sgn) (k := 1) fun y hy => by
            obtain ⟨c, _, rfl⟩ := List.mem_map.mp hy
            exact Nat.le_refl 1
          rw [List.length_map] at this ⊢
          have z : ("" : Str).length = 0 := by decide +kernel
          rw [z]
          omega
        · walk_at "go"
          refine i_isStr (ht _) ?_
          walk_at "go"
          refine i_ift ?_
          walk_at "go"
          apply i_dec
          · intro _
            walk_at "go"
            refine ⟨_, rfl, ht _, ?_⟩
            rw [num_back hm]
            walk_at "go"
            exact ⟨_, rfl, trivial, q _ sm2⟩
          · intro h
            exact absurd (text_eq fin) h
def sp_law_line_good : Sp := fun vs H Q _ => ∃ z : Str, vs = [.str z] ∧ z.length ≤ 1000 ∧ okS z = true ∧ ∀ H', Same H H' → Q (.bl true) H'
theorem ok_law_line_good (T : Tx K mg) : FnOk P w K mg base CX0 2 (He.ga K "_law_line_good") T.fd_law_line_good ["_law_line_here"] sp_law_line_good := by
  refine T.F_law_line_good.ok sc_law_line_good (fun vs H Q E h => ?_) (fun cdv A outer s H vs Q E hr h => ?_)
  · obtain ⟨z, rfl, _⟩ := h
    rfl
  · obtain ⟨z, rfl, hz, ho, q⟩ := h
    refine ⟨_, PSs.nox (pss_cons (ps_set (i := 1) sc_law_line_good.nd rfl (Or.inl rfl) (x_split (pv 0) pe_str))
      (pss_cons (ps_if (pt_cmpR op_in_seq pe_str (pv 1) (by rfl)) (pss_one (ps_ret (pe_cmpR op_isN1 (pe_call (ok_words_of T) (hr.mono (by decide)) (by rfl) T.g_words_of T.F_words_of.kp T.k_words_of .nil pass0 (pa_cons (pv 0) pa_nil)) pe_non (nomark _)))) pss_nil)
      (pss_cons (ps_for PassesOwn.never rfl (pi_range1 rfl T.b_range (pa_cons pe_int pa_nil)) (pg_name (i := 2) sc_law_line_good.nd rfl (Or.inl rfl))
      (pss_cons (ps_set (i := 3) sc_law_line_good.nd rfl (Or.inl rfl) (pe_call (ok_words_of T) (hr.mono (by decide)) (by rfl) T.g_words_of T.F_words_of.kp T.k_words_of .nil pass0 (pa_cons (pv 0) pa_nil)))
      (pss_cons (ps_if (PW.pt (pw_or (pt_not (pt_val (pe_callB call_isi (by rfl) T.b_isinstance (by decide +kernel) (pa_cons (pv 3) (pa_cons (pe_bltn (v := .ty "list") rfl T.b_list (by decide +kernel) rfl) pa_nil))))) (pw_or1 (pt_cmpR (op_neD hr.units) (pv 3) (pv 1) (nomark _))))) (pss_one (ps_ret pe_bl)) pss_nil)
      (pss_one (ps_expr (pe_bm PySem.F.plainAttrs_list PySem.F.slot_list_append PySem.F.type_list_append mt_append (pv 3) (pa_cons pe_str pa_nil)))))))
      (pss_one (ps_ret pe_bl))))), ?_⟩
    have oks : ∀ y ∈ parts z, okS y = true := fun y hy => okS_split ho hy
    have pl : (parts z).length ≤ 1002 := Nat.le_trans (PyProof.Rows.split_le _ _) (by omega)
    walk_at "go"
    refine i_split (fun p hp => ?_) (by decide +kernel) (by rw [sizeLine_eq]; omega)
    walk_at "go"
    refine ⟨p, _, rfl, .inl (SqL.of upd_same), rfl, flat_strs _, ?_⟩
    have s1 : Same H (upd H p (.lst ((parts z).map V.str))) := Same.new hp
    walk_at "go"
    apply i_b
    · intro he
      walk_at "go"
      refine ⟨_, rfl, .str z hz ho, fun h => Bool.noConfusion (show true = false from h), fun z' e p2 hp2 => ?_⟩
      cases e
      refine ⟨fun _ => ?_, fun h => absurd (h.symm.trans he) (by decide)⟩
      walk_at "go"
      exact q _ (Same.mut s1 (s1.free hp2))
    · intro he
      walk_at "go"
      refine for_it walk_range (fun i σ H' => Same H H' ∧ H' p = some (.lst ((parts z).map V.str)) ∧ ∃ v u : Option V, σ = [some (.str z), some (.ref p), v, u]) ⟨s1, upd_same, none, none, rfl⟩ (fun _ _ _ _ _ => trivial) ?_ ?_
      · rintro i x σ H1 H2 hi ⟨sm, e1, v, u, rfl⟩ ⟨rfl, rfl⟩
        walk_at "go"
        refine ⟨_, rfl, .str z hz ho, fun h => Bool.noConfusion (show true = false from h), fun z' e p2 hp2 => ?_⟩
        cases e
        refine ⟨fun h => absurd (he.symm.trans h) (by decide), fun _ => ?_⟩
        have e2 : (upd H2 p2 (.lst ((parts z).map V.str))) p = some (.lst ((parts z).map V.str)) := (upd_ne (ne_of_none e1 hp2)).trans e1
        have sm2 : Same H (upd H2 p2 (.lst ((parts z).map V.str))) := Same.mut sm (sm.free hp2)
        walk_at "go"
        refine i_isList ⟨p2, _, rfl, upd_same⟩ ?_
        walk_at "go"
        refine i_neSame (SqL.of upd_same) (SqL.of e2) oks ?_
        walk_at "go"
        refine i_kTyL (SqL.of upd_same) ?_
        walk_at "go"
        refine i_append upd_same ?_ (by rw [List.length_map, sizeLine_eq]; omega)
        walk_at "go"
        exact ⟨Same.mut sm2 (sm.free hp2), (upd_ne (ne_of_none e1 hp2)).trans e2, _, _, rfl⟩
      · rintro σ H1 ⟨sm, e1, v, u, rfl⟩
        walk_at "go"
        exact q _ sm
end
end K01

set_option Elab.async false
set_option linter.all false
set_option maxRecDepth 100000
set_option maxHeartbeats 4000000
namespace K01
open PySem PySem.Spec PyProof.Rows L2 HX TX TL
local macro_rules | `(tactic| walk_at "side") => `(tactic| first
  | assumption
  | rfl
  | (show (0 : Int) < _; omega)
  | (unfold CDiv; omega)
  | (unfold CMul; omega)
  | (unfold CPow; omega)
  | (rw [sizeLine_eq]; omega)
  | omega)
local macro_rules | `(tactic| walk_at "e") => `(tactic| first
  | ((with_reducible apply i_var); exact rfl)
  | (with_reducible apply i_c)
  | (with_reducible apply i_op)
  | (with_reducible apply i_un)
  | (with_reducible apply i_rI0)
  | ((with_reducible apply i_rI); (case c => walk_at "side"))
  | (with_reducible apply i_rGe)
  | (with_reducible apply i_rGt)
  | (with_reducible apply i_rU)
  | (with_reducible apply i_rEqI)
  | (with_reducible apply i_rNeI)
  | (with_reducible apply i_rEqS)
  | (with_reducible apply i_rNeS)
  | (with_reducible apply i_rEqB)
  | (with_reducible apply i_rNeB)
  | (with_reducible apply i_rIsN)
  | (with_reducible apply i_rNotN)
  | (with_reducible apply i_rInS)
  | (with_reducible apply i_rNotInS)
  | ((with_reducible apply i_catS); (case c => walk_at "side"))
  | (with_reducible apply i_tcb)
  | (with_reducible apply i_nil)
  | (with_reducible apply i_cons)
  | ((with_reducible apply i_lenS); (case c => walk_at "side"))
  | ((with_reducible apply i_lenL); assumption)
  | (with_reducible apply i_abs)
  | (with_reducible apply i_max2)
  | (with_reducible apply i_min2)
  | ((with_reducible apply i_strI); (case c => walk_at "side"))
  | (with_reducible apply i_intB)
  | (with_reducible apply i_test)
  | (with_reducible apply i_tB)
  | (with_reducible apply i_kB)
  | (with_reducible apply i_and)
  | (with_reducible apply i_or)
  | (with_reducible apply i_not)
  | (with_reducible apply i_if)
  | (with_reducible apply i_andV)
  | (with_reducible apply i_orV)
  | (with_reducible apply i_notV)
  | (with_reducible apply i_kAndV)
  | (with_reducible apply i_kOrV)
  | (with_reducible apply i_kNotV)
  | (with_reducible apply i_chain)
  | (with_reducible apply i_kChain)
  | (with_reducible apply i_drop)
  | (with_reducible apply i_ret)
  | (with_reducible apply i_retN)
  | (with_reducible apply i_ifS)
  | (with_reducible apply i_asg)
  | (with_reducible apply i_gName)
  | (with_reducible apply i_for)
  | (with_reducible apply i_lc)
  | (with_reducible apply i_iList)
  | (with_reducible apply i_iTup)
  | (with_reducible apply i_iStr)
  | (with_reducible apply i_kStrI)
  | (with_reducible apply i_lst)
  | (with_reducible apply i_tup)
  | (with_reducible apply i_call)
  | (with_reducible apply i_m1)
  | (with_reducible apply i_kStr)
  | (with_reducible apply i_bm)
  | (with_reducible apply i_bm0)
  | (with_reducible apply i_part)
  | (with_reducible apply i_kInt)
  | (with_reducible apply i_noPart)
  | (with_reducible apply i_sl)
  | (with_reducible apply i_range1)
  | (with_reducible apply i_range2)
  | ((with_reducible apply i_kRng1); (case c => walk_at "side"))
  | ((with_reducible apply i_kRng2); (case c => walk_at "side"))
  | (with_reducible apply i_gCons)
  | (with_reducible apply i_gNil)
  | (with_reducible apply i_gSub)
  | (with_reducible apply i_iZip)
  | (with_reducible apply i_yes)
  | (with_reducible apply i_ift)
  | (with_reducible apply i_iff)
  | (with_reducible apply i_nb))
local macro_rules | `(tactic| walk_at "go") => `(tactic| repeat (first | (with_reducible apply i_seq) | (with_reducible apply i_next) | walk_at "e"))
local macro_rules | `(tactic| walk_at "ge") => `(tactic| repeat walk_at "e")
local macro_rules | `(tactic| walk_at "sz") => `(tactic| first | decide | (rw [sizeLine_eq]; simp; done) | (rw [sizeLine_eq]; omega))
local macro_rules | `(tactic| walk_at "e") => `(tactic| first
  | ((with_reducible apply i_isStr); first | assumption | exact .non | exact .bl _ | exact .int _)
  | ((with_reducible apply i_isInt); first | assumption | exact .non | exact .bl _ | exact .int _)
  | ((with_reducible apply i_isBool); first | assumption | exact .non | exact .bl _ | exact .int _)
  | ((with_reducible apply i_isList); first | assumption | exact .non | exact .bl _ | exact .int _)
  | (with_reducible apply i_joinRev)
  | (with_reducible apply i_kRev0))
/-- short good texts -/
def Wd (k : Nat) (ys : List Str) : Prop := ∀ y ∈ ys, y.length ≤ k ∧ okS y = true
theorem Wd.app {k : Nat} {ys zs : List Str} (h1 : Wd k ys) (h2 : Wd k zs) : Wd k (ys ++ zs) := fun y hy => (List.mem_append.mp hy).elim (h1 y) (h2 y)
theorem Wd.set {k j : Nat} {ys : List Str} {y : Str} (h1 : Wd k ys) (h2 : y.length ≤ k ∧ okS y = true) : Wd k (ys.set j y) := fun z hz => by
  rcases List.mem_or_eq_of_mem_set hz with h | h
  · exact h1 z h
  · rw [h]; exact h2
/-- a comprehension over a range, each item a text of at most k signs -/
theorem words_lc {te : TE} {σ : L2.St} {H1 : Hp} {Q : VK} {n k i : Nat} (hn : n ≤ 1000)
    (hel : ∀ (j : Nat) (H' : Hp), j < n → Same H1 H' → ∀ QE : VK, (∀ (y : Str) H2, y.length ≤ k → okS y = true → Same H' H2 → QE (.str y) H2) → te ((σ.set i none).set i (some (.int (0 + (j : Int))))) H' QE)
    (q : ∀ D H' ys, H1 D = none → Same H1 H' → H' D = some (.lst (ys.map V.str)) → ys.length = n → Wd k ys → Q (.ref D) H') : LcW (Itr 0 n) (gName i) tYes te [i] σ H1 Q := by
  intro D hD
  refine lc_it walk_range (fun m H' => ∃ ys : List Str, Same H1 H' ∧ H' D = some (.lst (ys.map V.str)) ∧ ys.length = m ∧ Wd k ys) ⟨[], Same.new hD, upd_same, rfl, fun _ h => by simp at h⟩ (fun _ _ _ _ => trivial) ?_ ?_
  · rintro m x H2 H3 hm ⟨ys, sm, e, hl, hw⟩ ⟨rfl, rfl⟩
    refine ⟨?_, ?_⟩
    · show ((σ.set i none).set i _).set i none = σ.set i none
      rw [List.set_set, List.set_set]
    · walk_at "go"
      refine hel m H3 hm sm _ fun y H4 hy ho s4 => ?_
      refine ⟨_, s4 _ _ e, by rw [List.length_map, sizeLine_eq]; omega, ys ++ [y], Same.mut (sm.trans s4) hD, ?_, by simp [hl], hw.app fun z hz => ?_⟩
      · rw [upd_same, List.map_append]; rfl
      · rw [List.mem_singleton.mp hz]; exact ⟨hy, ho⟩
  · rintro H2 ⟨ys, sm, e, hl, hw⟩
    exact q D H2 ys hD sm e hl hw
theorem numS_one {k : Nat} (h : k < 10) : (numS k).length = 1 := by
  rw [len_tl, tl_numS, numL_lt h]; rfl
theorem cutV_strs (ws : List Str) (lo hi : Option Int) : ∃ zs : List Str, cutV (ws.map V.str) lo hi = zs.map V.str ∧ zs.length ≤ ws.length ∧ ∀ z ∈ zs, z ∈ ws := by
  refine ⟨(ws.drop (HT.sIx (ws.map V.str).length 0 lo)).take (HT.sIx (ws.map V.str).length (ws.map V.str).length hi - HT.sIx (ws.map V.str).length 0 lo), ?_, ?_, ?_⟩
  · unfold cutV
    rw [List.map_take, List.map_drop]
  · rw [List.length_take, List.length_drop]; omega
  · intro z hz
    exact List.mem_of_mem_drop (List.mem_of_mem_take hz)
theorem ixN_mod {n : Nat} (h : 0 < n) (a : Int) : ∃ j, j < n ∧ ixN n (a % (n : Int)) = some j := by
  have h0 : 0 ≤ a % (n : Int) := Int.emod_nonneg _ (by omega)
  have h1 : a % (n : Int) < (n : Int) := Int.emod_lt_of_pos _ (by omega)
  refine ⟨(a % (n : Int)).toNat, by omega, ?_⟩
  unfold ixN
  rw [if_pos h0, if_pos h1]
section
variable {P : Program} {w : World} {K : PySem.W.Frag} {mg : Str → Option Value} {base : Heap}
def sp_law_text : Sp := fun vs H Q _ => ∃ c : Int, vs = [.int c] ∧ 0 ≤ c ∧ ∀ (z : Str) H', z.length ≤ 140 → okS z = true → Same H H' → Q (.str z) H'
theorem letters_len : letters.length = 26 := by decide +kernel
theorem letters_ok : okS letters = true := by decide +kernel
theorem signs_len : signs94.length = 94 := by decide +kernel
theorem signs_ok : okS signs94 = true := by decide +kernel
theorem ok_law_text (T : Tx K mg) : FnOk P w K mg base CX0 2 (He.ga K "_law_text") T.fd_law_text ["_law_cell"] sp_law_text := by
  refine T.F_law_text.ok sc_law_text (fun vs H Q E h => ?_) (fun cdv A outer s H vs Q E hr h => ?_)
  · obtain ⟨c, rfl, _⟩ := h
    rfl
  · obtain ⟨c, rfl, hc, q⟩ := h
    refine ⟨_, PSs.nox (pss_cons (ps_set (i := 1) sc_law_text.nd rfl (Or.inr rfl) pe_str)
      (pss_cons (ps_set (i := 2) sc_law_text.nd rfl (Or.inl rfl) (pe_op op_mod (pv 0) pe_int))
      (pss_cons (ps_set (i := 3) sc_law_text.nd rfl (Or.inl rfl) (pe_ix ix_list (pe_lst (pa_cons (pe_op op_mod (pe_op op_fdiv (pv 0) pe_int) pe_int) (pa_cons (pe_op op_add pe_int (pe_op op_mod (pe_op op_fdiv (pv 0) pe_int) pe_int)) (pa_cons (pe_op op_add pe_int (pe_op op_mod (pe_op op_fdiv (pv 0) pe_int) pe_int)) pa_nil)))) (pe_op op_mod (pe_op op_fdiv (pv 0) pe_int) pe_int) (fun _ _ => rfl)))
      (pss_cons (ps_set (i := 4) sc_law_text.nd rfl (Or.inl rfl) (pe_ix ix_list (pe_lst (pa_cons (pv 3) (pa_cons (pe_op op_add pe_int (pe_op op_mod (pe_op op_fdiv (pv 0) pe_int) pe_int)) pa_nil))) (pe_op op_mod (pe_op op_fdiv (pv 0) pe_int) pe_int) (fun _ _ => rfl)))
      (C8.pss_cut (ps_if (pt_cmpR op_lt (pv 2) pe_int (nomark _)) (pss_one (ps_setLc (i := 5) (own := [("_law_j", 6)]) (by rfl) sc_law_text.nd rfl rfl (sw_true rfl rfl rfl (by decide +kernel)) (pi_range1 rfl T.b_range (pa_cons (pv 3) pa_nil)) (blkOk_by (own := [("_law_j", 6)]) (N := N_law_text) (sc := defScope s_law_text) (by decide +kernel)) (fun _ _ _ _ _ => (pg_name (i := 6) sc_law_text.nd rfl (Or.inl rfl))) (fun _ _ _ _ _ => pts_nil) (fun _ _ _ _ _ => (pe_ix ix_str (pv 1) (pe_op op_mod (pe_call (ok_law_mixed T) (hr.mono (by decide)) (by rfl) T.g_law_mixed T.F_law_mixed.kp T.k_law_mixed .nil pass0 (pa_cons (pv 0) (pa_cons (pv 6) pa_nil))) pe_int) (fun _ _ => rfl))))) (pss_one (ps_if (pt_cmpR op_eq (pv 2) pe_int (nomark _)) (pss_one (ps_setLc (i := 5) (own := [("_law_j", 6)]) (by rfl) sc_law_text.nd rfl rfl (sw_true rfl rfl rfl (by decide +kernel)) (pi_range1 rfl T.b_range (pa_cons (pv 4) pa_nil)) (blkOk_by (own := [("_law_j", 6)]) (N := N_law_text) (sc := defScope s_law_text) (by decide +kernel)) (fun _ _ _ _ _ => (pg_name (i := 6) sc_law_text.nd rfl (Or.inl rfl))) (fun _ _ _ _ _ => pts_nil) (fun _ _ _ _ _ => (pe_callTy x_strI (by rfl) T.b_str (by decide +kernel) (pa_cons (pe_op op_mod (pe_call (ok_law_mixed T) (hr.mono (by decide)) (by rfl) T.g_law_mixed T.F_law_mixed.kp T.k_law_mixed .nil pass0 (pa_cons (pv 0) (pa_cons (pv 6) pa_nil))) pe_int) pa_nil))))) (pss_one (ps_if (pt_cmpR op_eq (pv 2) pe_int (nomark _)) (pss_one (ps_set (i := 5) sc_law_text.nd rfl (Or.inl rfl) (pe_op op_cat (pe_lst (pa_cons pe_str pa_nil)) (pe_lc (own := [("_law_j", 6)]) (by rfl) sc_law_text.nd (pi_range1 rfl T.b_range (pa_cons (pv 4) pa_nil)) (blkOk_by (own := [("_law_j", 6)]) (N := N_law_text) (sc := defScope s_law_text) (by decide +kernel)) (fun _ _ _ _ _ => (pg_name (i := 6) sc_law_text.nd rfl (Or.inl rfl))) (fun _ _ _ _ _ => pts_nil) (fun _ _ _ _ _ => (pe_callTy x_strI (by rfl) T.b_str (by decide +kernel) (pa_cons (pe_op op_mod (pe_call (ok_law_mixed T) (hr.mono (by decide)) (by rfl) T.g_law_mixed T.F_law_mixed.kp T.k_law_mixed .nil pass0 (pa_cons (pv 0) (pa_cons (pv 6) pa_nil))) pe_int) pa_nil))))))) (pss_one (ps_setLc (i := 5) (own := [("_law_j", 6)]) (by rfl) sc_law_text.nd rfl rfl (sw_true rfl rfl rfl (by decide +kernel)) (pi_range1 rfl T.b_range (pa_cons (pv 3) pa_nil)) (blkOk_by (own := [("_law_j", 6)]) (N := N_law_text) (sc := defScope s_law_text) (by decide +kernel)) (fun _ _ _ _ _ => (pg_name (i := 6) sc_law_text.nd rfl (Or.inl rfl))) (fun _ _ _ _ _ => pts_nil) (fun _ _ _ _ _ => (pe_ix ix_str (pe_call0 (ok_law_signs T) (hr.mono (by decide)) (by rfl) T.g_law_signs T.F_law_signs.kp T.k_law_signs .nil pass0) (pe_op op_mod (pe_call (ok_law_mixed T) (hr.mono (by decide)) (by rfl) T.g_law_mixed T.F_law_mixed.kp T.k_law_mixed .nil pass0 (pa_cons (pv 0) (pa_cons (pv 6) pa_nil))) pe_int) (fun _ _ => rfl))))))))))
      (C8.pss_cut (ps_if (PW.pt (pw_and (pt_cmpR op_eq (pe_op op_mod (pe_op op_fdiv (pv 0) pe_int) pe_int) pe_int (nomark _)) (pw_and1 (pt_cmpR (op_neD hr.units) (pv 5) (pe_lst pa_nil) (nomark _))))) (pss_one (ps_asg (pe_ix ix_str pe_str (pe_op op_mod (pe_op op_fdiv (pv 0) pe_int) pe_int) (fun _ _ => rfl)) (pg_sub (pv 5) (pe_op op_mod (pe_op op_fdiv (pv 0) pe_int) (pe_callB x_lenL (by rfl) T.b_len (by decide +kernel) (pa_cons (pv 5) pa_nil))) set_list))) pss_nil)
      (C8.pss_cut (ps_if (pt_cmpR op_eq (pe_op op_mod (pe_op op_fdiv (pv 0) pe_int) pe_int) pe_int (nomark _)) (pss_one (ps_set (i := 5) sc_law_text.nd rfl (Or.inl rfl) (pe_op op_cat (pe_slice sl_list (pe_slice sl_list (pe_lst (pa_cons pe_str (pa_cons pe_str (pa_cons pe_str (pa_cons pe_str pa_nil))))) (po_some (pe_op op_mod (pe_op op_fdiv (pv 0) pe_int) pe_int)) po_none) po_none (po_some pe_int)) (pv 5)))) pss_nil)
      (pss_one (ps_ret (x_join pe_str (pv 5))))))))))), ?_⟩
    walk_at "go"
    refine ⟨by walk_at "sz", fun p1 hp1 => ?_⟩
    walk_at "go"
    obtain ⟨s, s0, s1, es⟩ := pick (xs := [c / 5 % 15, 11 + c / 5 % 3, 1 + c / 5 % 3]) (lo := 0) (hi := 14) (i := c / 75 % 3) (by simp; omega) (by omega) (by simp; omega)
    refine i_ixL (SqL.of upd_same) es ?_
    walk_at "go"
    refine ⟨by walk_at "sz", fun p2 hp2 => ?_⟩
    walk_at "go"
    obtain ⟨l, l0, l1, el⟩ := pick (xs := [s, 59 + c / 5 % 5]) (lo := 0) (hi := 63) (i := c / 225 % 2) (by simp; omega) (by omega) (by simp; omega)
    refine i_ixL (SqL.of upd_same) el ?_
    walk_at "go"
    have sm : Same H _ := Same.mut (Same.new hp1 (o := .lst [.int (c / 5 % 15), .int (11 + c / 5 % 3), .int (1 + c / 5 % 3)])) ((Same.new hp1).free hp2) (o := .lst [.int s, .int (59 + c / 5 % 5)])
    generalize hH : upd (upd H p1 (.lst [.int (c / 5 % 15), .int (11 + c / 5 % 3), .int (1 + c / 5 % 3)])) p2 (.lst [.int s, .int (59 + c / 5 % 5)]) = H1 at sm ⊢
    refine ⟨fun σ' H' => ∃ (D : Addr) (ys : List Str), σ' = [some (.int c), some (.str letters), some (.int (c % 5)), some (.int s), some (.int l), some (.ref D), none] ∧ Same H H' ∧ H D = none ∧ H' D = some (.lst (ys.map V.str)) ∧ ys.length ≤ 64 ∧ Wd 2 ys, ?_, ?_⟩
    · walk_at "go"
      apply i_dec
      · intro _
        walk_at "go"
        refine words_lc (k := 2) (by omega) (fun j H2 hj sj QE hq => ?_) fun D H2 ys hD s2 e hl hw => ?_
        · walk_at "go"
          refine ⟨c, _, rfl, by omega, by omega, fun m m0 m1 => ?_⟩
          walk_at "go"
          obtain ⟨ch, hm, ech⟩ := str_at (z := letters) (k := m % 26) (by omega) (by rw [letters_len]; omega)
          refine i_ixS (c := ch) ?_ (by decide +kernel) ech
          exact hq _ _ (by show 1 ≤ 2; decide) (okS_sign letters_ok hm) (Same.refl _)
        · walk_at "go"
          exact ⟨D, ys, rfl, sm.trans s2, sm.free hD, e, by omega, hw⟩
      · intro _
        walk_at "go"
        apply i_dec
        · intro _
          walk_at "go"
          refine words_lc (k := 2) (by omega) (fun j H2 hj sj QE hq => ?_) fun D H2 ys hD s2 e hl hw => ?_
          · walk_at "go"
            refine ⟨c, _, rfl, by omega, by omega, fun m m0 m1 => ?_⟩
            walk_at "go"
            obtain ⟨d, hd⟩ := Int.eq_ofNat_of_zero_le (show 0 ≤ m % 10 by omega)
            rw [hd]
            refine i_strI ?_ (small_log (Nat.lt_of_lt_of_le (show d < 10 by omega) (by decide)))
            exact hq (numS d) _ (by rw [numS_one (by omega)]; decide) (numS_ok d) (Same.refl _)
          · walk_at "go"
            exact ⟨D, ys, rfl, sm.trans s2, sm.free hD, e, by omega, hw⟩
        · intro _
          walk_at "go"
          apply i_dec
          · intro _
            walk_at "go"
            refine ⟨by walk_at "sz", fun p3 hp3 => ?_⟩
            walk_at "go"
            refine words_lc (k := 2) (by omega) (fun j H2 hj sj QE hq => ?_) fun D H2 ys hD s2 e hl hw => ?_
            · walk_at "go"
              refine ⟨c, _, rfl, by omega, by omega, fun m m0 m1 => ?_⟩
              walk_at "go"
              obtain ⟨d, hd⟩ := Int.eq_ofNat_of_zero_le (show 0 ≤ m % 10 by omega)
              rw [hd]
              refine i_strI ?_ (small_log (Nat.lt_of_lt_of_le (show d < 10 by omega) (by decide)))
              exact hq (numS d) _ (by rw [numS_one (by omega)]; decide) (numS_ok d) (Same.refl _)
            · have s3 := sm.trans (Same.new hp3 (o := .lst [.str "-"]))
              refine i_cat (s2 _ _ upd_same) e (by rw [List.length_map, sizeLine_eq]; simp; omega) fun p4 hp4 => ?_
              walk_at "go"
              refine ⟨p4, "-" :: ys, rfl, Same.mut (s3.trans s2) ((s3.trans s2).free hp4), (s3.trans s2).free hp4, upd_same, by simp; omega, fun y hy => ?_⟩
              rcases List.mem_cons.mp hy with rfl | h
              · exact ⟨by decide +kernel, by decide +kernel⟩
              · exact hw y h
          · intro _
            walk_at "go"
            refine words_lc (k := 2) (by omega) (fun j H2 hj sj QE hq => ?_) fun D H2 ys hD s2 e hl hw => ?_
            · walk_at "go"
              refine ⟨rfl, ?_⟩
              walk_at "go"
              refine ⟨c, _, rfl, by omega, by omega, fun m m0 m1 => ?_⟩
              walk_at "go"
              obtain ⟨ch, hm, ech⟩ := str_at (z := signs94) (k := m % 94) (by omega) (by rw [signs_len]; omega)
              refine i_ixS (c := ch) ?_ (by decide +kernel) ech
              exact hq _ _ (by show 1 ≤ 2; decide) (okS_sign signs_ok hm) (Same.refl _)
            · walk_at "go"
              exact ⟨D, ys, rfl, sm.trans s2, sm.free hD, e, by omega, hw⟩
    · rintro σ H2 ⟨D, ys, rfl, s2, hD, e, hl, hw⟩
      refine ⟨fun σ' H' => ∃ (D : Addr) (ys : List Str), σ' = [some (.int c), some (.str letters), some (.int (c % 5)), some (.int s), some (.int l), some (.ref D), none] ∧ Same H H' ∧ H D = none ∧ H' D = some (.lst (ys.map V.str)) ∧ ys.length ≤ 64 ∧ Wd 2 ys, ?_, ?_⟩
      · walk_at "go"
        apply i_dec
        · intro _
          walk_at "go"
          refine ⟨by walk_at "sz", fun p3 hp3 => ?_⟩
          have e3 : ∀ o, (upd H2 p3 o) D = some (.lst (ys.map V.str)) := fun o => (upd_ne (ne_of_none e hp3)).trans e
          refine i_neNil (SqL.of (e3 _)) (SqL.of upd_same) (fun y hy => (hw y hy).2) ?_
          walk_at "go"
          cases ys with
          | nil =>
            refine i_ift ?_
            walk_at "go"
            exact ⟨D, [], rfl, Same.mut s2 (s2.free hp3), hD, e3 _, by simp, fun _ h => by simp at h⟩
          | cons y0 yr =>
            refine i_iff ?_
            walk_at "go"
            obtain ⟨ch, hm, ech⟩ := str_at (z := "0-A _\t\n9az+.") (k := c / 1800 % 12) (by omega) (by rw [show ("0-A _\t\n9az+." : Str).length = 12 by decide +kernel]; omega)
            refine i_ixS (c := ch) ?_ (by decide +kernel) ech
            walk_at "go"
            refine i_lenL (SqL.of (e3 _)) ?_
            walk_at "go"
            refine i_rI ?_ (by simp)
            obtain ⟨j, hj, ej⟩ := ixN_mod (n := ((y0 :: yr).map V.str).length) (by simp) (c / 1800)
            refine i_setL (e3 _) ej ?_
            walk_at "go"
            refine ⟨D, (y0 :: yr).set j ⟨#[ch]⟩, rfl, Same.mut (Same.mut s2 (s2.free hp3)) hD, hD, ?_, by rw [List.length_set]; exact hl, hw.set ⟨by show 1 ≤ 2; decide, okS_sign (by decide +kernel) hm⟩⟩
            rw [upd_same, List.map_set]
        · intro _
          walk_at "go"
          exact ⟨D, ys, rfl, s2, hD, e, hl, hw⟩
      · rintro σ H3 ⟨D, ys, rfl, s3, hD, e, hl, hw⟩
        refine ⟨fun σ' H' => ∃ (D : Addr) (ys : List Str), σ' = [some (.int c), some (.str letters), some (.int (c % 5)), some (.int s), some (.int l), some (.ref D), none] ∧ Same H H' ∧ H' D = some (.lst (ys.map V.str)) ∧ ys.length ≤ 68 ∧ Wd 2 ys, ?_, ?_⟩
        · walk_at "go"
          apply i_dec
          · intro _
            walk_at "go"
            refine ⟨by walk_at "sz", fun p4 hp4 => ?_⟩
            walk_at "go"
            obtain ⟨zs, ez, lz, mz⟩ := cutV_strs ["0", "-", "00", "-0"] (some (c / 1800 % 4)) none
            refine i_slL (SqL.of upd_same) fun p5 hp5 => ?_
            rw [show cutV [V.str "0", V.str "-", V.str "00", V.str "-0"] (some (c / 1800 % 4)) none = zs.map V.str from ez]
            walk_at "go"
            obtain ⟨xs, ex, lx, mx⟩ := cutV_strs zs none (some 1)
            refine i_slL (SqL.of upd_same) fun p6 hp6 => ?_
            rw [ex]
            walk_at "go"
            have s4 := Same.mut s3 (s3.free hp4) (o := .lst [.str "0", .str "-", .str "00", .str "-0"])
            have s5 := Same.mut s4 (s4.free hp5) (o := .lst (zs.map V.str))
            have s6 := Same.mut s5 (s5.free hp6) (o := .lst (xs.map V.str))
            have e1 : ∀ {H1 : Hp} {p q : Addr} {o u : HO}, H1 p = some o → H1 q = none → (upd H1 q u) p = some o := fun a b => (upd_ne (ne_of_none a b)).trans a
            refine i_cat upd_same (e1 (e1 (e1 e hp4) hp5) hp6) (by rw [List.length_map, List.length_map, sizeLine_eq]; simp at lz; omega) fun p7 hp7 => ?_
            walk_at "go"
            refine ⟨p7, xs ++ ys, rfl, Same.mut s6 (s6.free hp7), by rw [upd_same, List.map_append], by rw [List.length_append]; simp at lz; omega, Wd.app (fun y hy => ?_) hw⟩
            have hm := mz y (mx y hy)
            simp only [List.mem_cons, List.not_mem_nil, or_false] at hm
            rcases hm with rfl | rfl | rfl | rfl <;> exact ⟨by decide +kernel, by decide +kernel⟩
          · intro _
            walk_at "go"
            exact ⟨D, ys, rfl, s3, e, by omega, hw⟩
        · rintro σ H4 ⟨D, ys, rfl, s4, e, hl, hw⟩
          walk_at "go"
          have sb := sum_le fun y hy => (hw y hy).1
          have z0 : ("" : Str).length = 0 := by decide +kernel
          refine i_join (SqL.of e) (by rw [z0]; omega) ?_
          exact q _ _ (by rw [join_empty_len]; omega) (okS_join (by decide +kernel) fun y hy => (hw y hy).2) s4
end
end K01

set_option Elab.async false
set_option linter.all false
set_option maxRecDepth 100000
set_option maxHeartbeats 4000000
namespace K01
open PySem PySem.Spec PyProof.Rows L2 HX TX TL
local macro_rules | `(tactic| walk_at "side") => `(tactic| first
  | assumption
  | rfl
  | (show (0 : Int) < _; omega)
  | (unfold CDiv; omega)
  | (unfold CMul; omega)
  | (unfold CPow; omega)
  | (rw [sizeLine_eq]; omega)
  | omega)
local macro_rules | `(tactic| walk_at "e") => `(tactic| first
  | ((with_reducible apply i_var); exact rfl)
  | (with_reducible apply i_c)
  | (with_reducible apply i_op)
  | (with_reducible apply i_un)
  | (with_reducible apply i_rI0)
  | ((with_reducible apply i_rI); (case c => walk_at "side"))
  | (with_reducible apply i_rGe)
  | (with_reducible apply i_rGt)
  | (with_reducible apply i_rU)
  | (with_reducible apply i_rEqI)
  | (with_reducible apply i_rNeI)
  | (with_reducible apply i_rEqS)
  | (with_reducible apply i_rNeS)
  | (with_reducible apply i_rEqB)
  | (with_reducible apply i_rNeB)
  | (with_reducible apply i_rIsN)
  | (with_reducible apply i_rNotN)
  | (with_reducible apply i_rInS)
  | (with_reducible apply i_rNotInS)
  | ((with_reducible apply i_catS); (case c => walk_at "side"))
  | (with_reducible apply i_tcb)
  | (with_reducible apply i_nil)
  | (with_reducible apply i_cons)
  | ((with_reducible apply i_lenS); (case c => walk_at "side"))
  | ((with_reducible apply i_lenL); assumption)
  | (with_reducible apply i_abs)
  | (with_reducible apply i_max2)
  | (with_reducible apply i_min2)
  | ((with_reducible apply i_strI); (case c => walk_at "side"))
  | (with_reducible apply i_intB)
  | (with_reducible apply i_test)
  | (with_reducible apply i_tB)
  | (with_reducible apply i_kB)
  | (with_reducible apply i_and)
  | (with_reducible apply i_or)
  | (with_reducible apply i_not)
  | (with_reducible apply i_if)
  | (with_reducible apply i_andV)
  | (with_reducible apply i_orV)
  | (with_reducible apply i_notV)
  | (with_reducible apply i_kAndV)
  | (with_reducible apply i_kOrV)
  | (with_reducible apply i_kNotV)
  | (with_reducible apply i_chain)
  | (with_reducible apply i_kChain)
  | (with_reducible apply i_drop)
  | (with_reducible apply i_ret)
  | (with_reducible apply i_retN)
  | (with_reducible apply i_ifS)
  | (with_reducible apply i_asg)
  | (with_reducible apply i_gName)
  | (with_reducible apply i_for)
  | (with_reducible apply i_lc)
  | (with_reducible apply i_iList)
  | (with_reducible apply i_iTup)
  | (with_reducible apply i_iStr)
  | (with_reducible apply i_kStrI)
  | (with_reducible apply i_lst)
  | (with_reducible apply i_tup)
  | (with_reducible apply i_call)
  | (with_reducible apply i_m1)
  | (with_reducible apply i_kStr)
  | (with_reducible apply i_bm)
  | (with_reducible apply i_bm0)
  | (with_reducible apply i_part)
  | (with_reducible apply i_kInt)
  | (with_reducible apply i_noPart)
  | (with_reducible apply i_sl)
  | (with_reducible apply i_range1)
  | (with_reducible apply i_range2)
  | ((with_reducible apply i_kRng1); (case c => walk_at "side"))
  | ((with_reducible apply i_kRng2); (case c => walk_at "side"))
  | (with_reducible apply i_gCons)
  | (with_reducible apply i_gNil)
  | (with_reducible apply i_gSub)
  | (with_reducible apply i_iZip)
  | (with_reducible apply i_yes)
  | (with_reducible apply i_ift)
  | (with_reducible apply i_iff)
  | (with_reducible apply i_nb))
local macro_rules | `(tactic| walk_at "go") => `(tactic| repeat (first | (with_reducible apply i_seq) | (with_reducible apply i_next) | walk_at "e"))
local macro_rules | `(tactic| walk_at "ge") => `(tactic| repeat walk_at "e")
local macro_rules | `(tactic| walk_at "sz") => `(tactic| first | decide | (rw [sizeLine_eq]; simp; done) | (rw [sizeLine_eq]; omega))
local macro_rules | `(tactic| walk_at "e") => `(tactic| first
  | ((with_reducible apply i_isStr); first | assumption | exact .non | exact .bl _ | exact .int _)
  | ((with_reducible apply i_isInt); first | assumption | exact .non | exact .bl _ | exact .int _)
  | ((with_reducible apply i_isBool); first | assumption | exact .non | exact .bl _ | exact .int _)
  | ((with_reducible apply i_isList); first | assumption | exact .non | exact .bl _ | exact .int _)
  | (with_reducible apply i_joinRev)
  | (with_reducible apply i_kRev0))
/-- a slice from 2 on, of at most k items -/
theorem cut_ints (ns : List Int) (k : Int) (h0 : 0 ≤ k) : ∃ ms : List Int, cutV (ns.map V.int) (some 2) (some (2 + k)) = ms.map V.int ∧ (ms.length : Int) ≤ k := by
  refine ⟨(ns.drop (HT.sIx (ns.map V.int).length 0 (some 2))).take (HT.sIx (ns.map V.int).length (ns.map V.int).length (some (2 + k)) - HT.sIx (ns.map V.int).length 0 (some 2)), ?_, ?_⟩
  · unfold cutV
    rw [List.map_take, List.map_drop]
  · rw [List.length_take]
    have h1 : HT.sIx (ns.map V.int).length 0 (some 2) = min 2 (ns.map V.int).length := by
      show (if (2 : Int) < 0 then ((2 : Int) + ((ns.map V.int).length : Int)).toNat else min (2 : Int).toNat (ns.map V.int).length) = _
      rw [if_neg (by decide)]; rfl
    have h2 : HT.sIx (ns.map V.int).length (ns.map V.int).length (some (2 + k)) = min (2 + k).toNat (ns.map V.int).length := by
      show (if 2 + k < 0 then (2 + k + ((ns.map V.int).length : Int)).toNat else min (2 + k).toNat (ns.map V.int).length) = _
      rw [if_neg (by omega)]
    rw [h1, h2]
    omega
section
variable {P : Program} {w : World} {K : PySem.W.Frag} {mg : Str → Option Value} {base : Heap}
def sp_law_line (K : PySem.W.Frag) : Sp := fun vs H Q _ => ∃ (a : Addr) (ns : List Int), vs = [.ref a] ∧ SqL K H a (ns.map V.int) ∧ ∀ (z : Str) H', z.length ≤ 1000 → okS z = true → Same H H' → Q (.str z) H'
theorem ok_law_line (T : Tx K mg) : FnOk P w K mg base CX0 3 (He.ga K "_law_line") T.fd_law_line ["_law_script"] (sp_law_line K) := by
  refine T.F_law_line.ok sc_law_line (fun vs H Q E h => ?_) (fun cdv A outer s H vs Q E hr h => ?_)
  · obtain ⟨a, ns, rfl, _⟩ := h
    rfl
  · obtain ⟨a, ns, rfl, hS, q⟩ := h
    refine ⟨_, PSs.nox (pss_cons (ps_set (i := 1) sc_law_line.nd rfl (Or.inl rfl) (pe_call (ok_law_mixed T) (hr.mono (by decide)) (by rfl) T.g_law_mixed T.F_law_mixed.kp T.k_law_mixed .nil pass0 (pa_cons (pe_call (ok_law_cell_at T) (hr.mono (by decide)) (by rfl) T.g_law_cell_at T.F_law_cell_at.kp T.k_law_cell_at .nil pass0 (pa_cons (pv 0) (pa_cons pe_int pa_nil))) (pa_cons pe_int pa_nil))))
      (pss_cons (ps_setLc (i := 2) (own := [("_law_one", 7)]) (by rfl) sc_law_line.nd rfl rfl (sw_true rfl rfl rfl (by decide +kernel)) (pi_list (pe_slice sl_list (pv 0) (po_some pe_int) (po_some (pe_op op_add pe_int (pe_op op_mod (pv 1) pe_int))))) (blkOk_by (own := [("_law_one", 7)]) (N := N_law_line) (sc := defScope s_law_line) (by decide +kernel)) (fun _ _ _ _ _ => (pg_name (i := 7) sc_law_line.nd rfl (Or.inl rfl))) (fun _ _ _ _ _ => pts_nil) (fun _ _ _ _ _ => (pe_call (ok_law_text T) (hr.mono (by decide)) (by rfl) T.g_law_text T.F_law_text.kp T.k_law_text .nil pass0 (pa_cons (pe_call (ok_law_mixed T) (hr.mono (by decide)) (by rfl) T.g_law_mixed T.F_law_mixed.kp T.k_law_mixed .nil pass0 (pa_cons (pv 7) (pa_cons pe_int pa_nil))) pa_nil))))
      (pss_cons (ps_set (i := 3) sc_law_line.nd rfl (Or.inl rfl) (pe_op op_rep (pe_lst (pa_cons pe_str pa_nil)) (pe_callB x_lenL (by rfl) T.b_len (by decide +kernel) (pa_cons (pv 2) pa_nil))))
      (C8.pss_cut (ps_if (pt_cmpR (op_neD hr.units) (pv 2) (pe_lst pa_nil) (nomark _)) (pss_one (ps_asg (pe_ix ix_list (pe_lst (pa_cons pe_str (pa_cons pe_str (pa_cons pe_str (pa_cons pe_str (pa_cons pe_str (pa_cons pe_str pa_nil))))))) (pe_op op_mod (pe_op op_fdiv (pv 1) pe_int) pe_int) (fun _ _ => rfl)) (pg_sub (pv 3) (pe_op op_mod (pe_op op_fdiv (pv 1) pe_int) (pe_callB x_lenL (by rfl) T.b_len (by decide +kernel) (pa_cons (pv 2) pa_nil))) set_list))) pss_nil)
      (pss_cons (ps_set (i := 4) sc_law_line.nd rfl (Or.inl rfl) pe_str)
      (pss_cons (ps_for PassesOwn.never rfl (pi_zip (by rfl) T.b_zip (pa_cons (pv 2) (pa_cons (pv 3) pa_nil))) (pg_tup rfl (pgs_cons (pg_name (i := 5) sc_law_line.nd rfl (Or.inl rfl)) (pgs_cons (pg_name (i := 6) sc_law_line.nd rfl (Or.inl rfl)) pgs_nil)))
      (pss_one (ps_set (i := 4) sc_law_line.nd rfl (Or.inl rfl) (pe_op x_catS (pe_op x_catS (pv 4) (pe_ifExp (pt_cmpR op_ne (pv 4) pe_str (nomark _)) (pv 6) pe_str)) (pv 5)))))
      (pss_one (ps_ret (pe_op x_catS (pv 4) (pe_ix ix_list (pe_lst (pa_cons pe_str (pa_cons pe_str pa_nil))) (pe_callTy x_intB (by rfl) T.b_int (by decide +kernel) (pa_cons (pe_cmpR op_eq (pe_op op_mod (pe_op op_fdiv (pv 1) pe_int) pe_int) pe_int (nomark _)) pa_nil)) (fun _ _ => rfl))))))))))), ?_⟩
    walk_at "go"
    refine ⟨a, ns, 1, rfl, by decide, hS, fun v => ?_⟩
    walk_at "go"
    refine ⟨v, 3, rfl, by decide, by decide, fun c c0 c1 => ?_⟩
    walk_at "go"
    obtain ⟨ms, em, lm⟩ := cut_ints ns (c % 7) (by omega)
    refine i_slL hS fun p1 hp1 => ?_
    rw [em]
    refine i_kListI (SqL.of upd_same) ?_
    have s1 : Same H (upd H p1 (.lst (ms.map V.int))) := Same.new hp1
    intro D hD
    refine lc_it walk_list (fun m H' => ∃ ys : List Str, Same H H' ∧ H' p1 = some (.lst (ms.map V.int)) ∧ H' D = some (.lst (ys.map V.str)) ∧ ys.length = m ∧ Wd 140 ys)
      ⟨[], Same.mut s1 (s1.free hD), (upd_ne (ne_of_none upd_same hD)).trans upd_same, upd_same, rfl, fun _ h => by simp at h⟩ (fun _ _ _ ⟨_, _, e, _⟩ => SqL.of e) ?_ ?_
    · rintro m x H2 H3 hm ⟨ys, sm, e1, e2, hl, hw⟩ ⟨rfl, hx⟩
      rw [List.length_map] at hm
      rw [List.getElem?_map, List.getElem?_eq_getElem hm] at hx
      cases hx
      walk_at "go"
      refine ⟨rfl, ?_⟩
      walk_at "go"
      refine ⟨_, 50, rfl, by decide, by decide, fun t t0 t1 => ?_⟩
      walk_at "go"
      refine ⟨t, rfl, t0, fun z H4 hz ho s4 => ?_⟩
      refine ⟨_, s4 _ _ e2, by rw [List.length_map, sizeLine_eq]; omega, ys ++ [z], Same.mut (sm.trans s4) (s1.free hD), (upd_ne (ne_of_none upd_same hD)).trans (s4 _ _ e1), ?_, by simp [hl], hw.app fun y hy => ?_⟩
      · rw [upd_same, List.map_append]; rfl
      · rw [List.mem_singleton.mp hy]; exact ⟨hz, ho⟩
    · rintro H2 ⟨ys, sm, e1, e2, hl, hw⟩
      rw [List.length_map] at hl
      have hl6 : ys.length ≤ 6 := by omega
      walk_at "go"
      refine ⟨by walk_at "sz", fun p3 hp3 => ?_⟩
      walk_at "go"
      refine i_lenL (SqL.of ((upd_ne (ne_of_none e2 hp3)).trans e2)) ?_
      rw [List.length_map]
      refine i_rep upd_same (by omega) (by omega) (by rw [sizeLine_eq]; simp; omega) fun p4 hp4 => ?_
      have e3 : (upd (upd H2 p3 (.lst [.str " "])) p4 (.lst (List.replicate (ys.length : Int).toNat [V.str " "]).flatten)) D = some (.lst (ys.map V.str)) :=
        (upd_ne (ne_of_none ((upd_ne (ne_of_none e2 hp3)).trans e2) hp4)).trans ((upd_ne (ne_of_none e2 hp3)).trans e2)
      have nDp : D ≠ p4 := ne_of_none ((upd_ne (ne_of_none e2 hp3)).trans e2) hp4
      have s3 := Same.mut sm (sm.free hp3) (o := .lst [.str " "])
      have s4 := Same.mut s3 (s3.free hp4) (o := .lst (List.replicate (ys.length : Int).toNat [V.str " "]).flatten)
      have eb : (List.replicate (ys.length : Int).toNat [V.str " "]).flatten = (List.replicate ys.length (" " : Str)).map V.str := by
        rw [List.flatten_replicate_singleton, List.map_replicate]; rfl
      have hbz : Wd 2 (List.replicate ys.length (" " : Str)) := fun y hy => by
        rw [List.eq_of_mem_replicate hy]; exact ⟨by decide +kernel, by decide +kernel⟩
      rw [eb] at e3 s4 ⊢
      generalize hG : upd (upd H2 p3 (.lst [.str " "])) p4 (.lst ((List.replicate ys.length (" " : Str)).map V.str)) = H4 at e3 s4 ⊢
      have e4 : H4 p4 = some (.lst ((List.replicate ys.length (" " : Str)).map V.str)) := by rw [← hG, upd_same]
      have f4 : H p4 = none := s3.free hp4
      walk_at "go"
      refine ⟨fun σ' H' => ∃ bs : List Str, σ' = [some (.ref a), some (.int c), some (.ref D), some (.ref p4), none, none, none, none] ∧ Same H H' ∧ H' D = some (.lst (ys.map V.str)) ∧ H' p4 = some (.lst (bs.map V.str)) ∧ bs.length = ys.length ∧ Wd 2 bs, ?_, ?_⟩
      · walk_at "go"
        refine ⟨by walk_at "sz", fun p5 hp5 => ?_⟩
        have e5 : ∀ o, (upd H4 p5 o) D = some (.lst (ys.map V.str)) := fun o => (upd_ne (ne_of_none e3 hp5)).trans e3
        have e6 : ∀ o, (upd H4 p5 o) p4 = some (.lst ((List.replicate ys.length (" " : Str)).map V.str)) := fun o => (upd_ne (ne_of_none e4 hp5)).trans e4
        have s5 := Same.mut s4 (s4.free hp5) (o := .lst [])
        refine i_neNil (SqL.of (e5 _)) (SqL.of upd_same) (fun y hy => (hw y hy).2) ?_
        walk_at "go"
        apply i_b
        · intro _
          walk_at "go"
          exact ⟨_, rfl, s5, e5 _, e6 _, by simp, hbz⟩
        · intro hne
          have hpos : 0 < ys.length := by cases ys with
            | nil => simp at hne
            | cons y r => simp
          walk_at "go"
          refine ⟨by walk_at "sz", fun p6 hp6 => ?_⟩
          walk_at "go"
          obtain ⟨sep, hsep, esep⟩ := pickS (xs := [" ", "  ", "", "\t", "\n", " "]) (i := c / 42 % 6) (by omega) (by simp; omega)
          refine i_ixL (SqL.of upd_same) esep ?_
          walk_at "go"
          have e7 := (upd_ne (ne_of_none (e5 (.lst [])) hp6) (o := .lst [.str " ", .str "  ", .str "", .str "\t", .str "\n", .str " "])).trans (e5 (.lst []))
          have e8 := (upd_ne (ne_of_none (e6 (.lst [])) hp6) (o := .lst [.str " ", .str "  ", .str "", .str "\t", .str "\n", .str " "])).trans (e6 (.lst []))
          have s6 := Same.mut s5 (s5.free hp6) (o := .lst [.str " ", .str "  ", .str "", .str "\t", .str "\n", .str " "])
          refine i_lenL (SqL.of e7) ?_
          rw [List.length_map]
          walk_at "go"
          obtain ⟨j, hj, ej⟩ := ixN_mod hpos (c / 7)
          refine i_setL e8 (j := j) (by rw [List.length_map, List.length_replicate]; exact ej) ?_
          walk_at "go"
          refine ⟨(List.replicate ys.length (" " : Str)).set j sep, rfl, Same.mut s6 f4, (upd_ne nDp).trans e7, by rw [upd_same, List.map_set], by simp, hbz.set ?_⟩
          · simp only [List.mem_cons, List.not_mem_nil, or_false] at hsep
            rcases hsep with rfl | rfl | rfl | rfl | rfl | rfl <;> exact ⟨by decide +kernel, by decide +kernel⟩
      · rintro σ H5 ⟨bs, rfl, s5, e5, e6, lb, hb⟩
        walk_at "go"
        refine i_kZip (SqL.of e5) (SqL.of e6) ?_
        refine for_it (walk_zip (n := ys.length) (by simp [lb])) (fun i σ H' => ∃ (z : Str) (v u : Option V), σ = [some (.ref a), some (.int c), some (.ref D), some (.ref p4), some (.str z), v, u, none] ∧ Same H H' ∧ H' D = some (.lst (ys.map V.str)) ∧ H' p4 = some (.lst (bs.map V.str)) ∧ z.length ≤ i * 142 ∧ okS z = true)
          ⟨"", none, none, rfl, s5, e5, e6, by decide +kernel, by decide +kernel⟩ (fun _ _ _ _ ⟨_, _, _, _, _, h1, h2, _⟩ => ⟨SqL.of h1, SqL.of h2⟩) ?_ ?_
        · rintro i x σ H6 H7 hi ⟨z, v, u, rfl, s6, e7, e8, lz, oz⟩ ⟨T, x1, x2, rfl, hT, rfl, hx1, hx2⟩
          simp only [List.getElem?_map, List.getElem?_eq_getElem hi, Option.map_some, Option.some.injEq] at hx1
          simp only [List.getElem?_map, List.getElem?_eq_getElem (show i < bs.length by omega), Option.map_some, Option.some.injEq] at hx2
          subst hx1 hx2
          have w1 := hw _ (List.getElem_mem hi)
          have w2 := hb _ (List.getElem_mem (show i < bs.length by omega))
          have s7 := Same.mut s6 (s6.free hT) (o := .tup [.str ys[i], .str bs[i]])
          have e9 := (upd_ne (ne_of_none e7 hT) (o := .tup [.str ys[i], .str bs[i]])).trans e7
          have e10 := (upd_ne (ne_of_none e8 hT) (o := .tup [.str ys[i], .str bs[i]])).trans e8
          refine i_gTup (SqT.of upd_same) rfl ?_
          walk_at "go"
          apply i_dec
          · intro _
            walk_at "go"
            refine i_catS ?_ (by have z0 : ("" : Str).length = 0 := by decide +kernel
                                 rw [z0, sizeLine_eq]; omega)
            walk_at "go"
            refine i_catS ?_ (by rw [len_app]; have z0 : ("" : Str).length = 0 := by decide +kernel
                                 rw [z0, sizeLine_eq]; omega)
            walk_at "go"
            refine ⟨_, _, _, rfl, s7, e9, e10, ?_, okS_app (okS_app oz (by decide +kernel)) w1.2⟩
            rw [len_app, len_app]
            have z0 : ("" : Str).length = 0 := by decide +kernel
            rw [z0]
            omega
          · intro _
            walk_at "go"
            refine i_catS ?_ (by rw [len_app, sizeLine_eq]; omega)
            walk_at "go"
            refine ⟨_, _, _, rfl, s7, e9, e10, ?_, okS_app (okS_app oz w2.2) w1.2⟩
            rw [len_app, len_app]
            omega
        · rintro σ H6 ⟨z, v, u, rfl, s6, e7, e8, lz, oz⟩
          walk_at "go"
          refine ⟨by walk_at "sz", fun p7 hp7 => ?_⟩
          walk_at "go"
          have fin : ∀ b : Bool, ∃ y : Str, atI [V.str "", V.str " "] (if b = true then 1 else 0) = some (.str y) ∧ y.length ≤ 1 ∧ okS y = true := by
            intro b
            cases b
            · exact ⟨"", rfl, by decide +kernel, by decide +kernel⟩
            · exact ⟨" ", rfl, by decide +kernel, by decide +kernel⟩
          obtain ⟨y, ey, ly, oy⟩ := fin (decide (c / 252 % 9 = 1))
          refine i_ixL (SqL.of upd_same) ey ?_
          refine i_catS ?_ (by rw [sizeLine_eq]; omega)
          exact q _ _ (by rw [len_app]; omega) (okS_app oz oy) (Same.mut s6 (s6.free hp7))
end
end K01

set_option Elab.async false
set_option linter.all false
set_option maxRecDepth 100000
set_option maxHeartbeats 4000000
namespace K01
open PySem PySem.Spec PyProof.Rows L2 HX TX TL
local macro_rules | `(tactic| walk_at "side") => `(tactic| first
  | assumption
  | rfl
  | (show (0 : Int) < _; omega)
  | (unfold CDiv; omega)
  | (unfold CMul; omega)
  | (unfold CPow; omega)
  | (rw [sizeLine_eq]; omega)
  | omega)
local macro_rules | `(tactic| walk_at "e") => `(tactic| first
  | ((with_reducible apply i_var); exact rfl)
  | (with_reducible apply i_c)
  | (with_reducible apply i_op)
  | (with_reducible apply i_un)
  | (with_reducible apply i_rI0)
  | ((with_reducible apply i_rI); (case c => walk_at "side"))
  | (with_reducible apply i_rGe)
  | (with_reducible apply i_rGt)
  | (with_reducible apply i_rU)
  | (with_reducible apply i_rEqI)
  | (with_reducible apply i_rNeI)
  | (with_reducible apply i_rEqS)
  | (with_reducible apply i_rNeS)
  | (with_reducible apply i_rEqB)
  | (with_reducible apply i_rNeB)
  | (with_reducible apply i_rIsN)
  | (with_reducible apply i_rNotN)
  | (with_reducible apply i_rInS)
  | (with_reducible apply i_rNotInS)
  | ((with_reducible apply i_catS); (case c => walk_at "side"))
  | (with_reducible apply i_tcb)
  | (with_reducible apply i_nil)
  | (with_reducible apply i_cons)
  | ((with_reducible apply i_lenS); (case c => walk_at "side"))
  | ((with_reducible apply i_lenL); assumption)
  | (with_reducible apply i_abs)
  | (with_reducible apply i_max2)
  | (with_reducible apply i_min2)
  | ((with_reducible apply i_strI); (case c => walk_at "side"))
  | (with_reducible apply i_intB)
  | (with_reducible apply i_test)
  | (with_reducible apply i_tB)
  | (with_reducible apply i_kB)
  | (with_reducible apply i_and)
  | (with_reducible apply i_or)
  | (with_reducible apply i_not)
  | (with_reducible apply i_if)
  | (with_reducible apply i_andV)
  | (with_reducible apply i_orV)
  | (with_reducible apply i_notV)
  | (with_reducible apply i_kAndV)
  | (with_reducible apply i_kOrV)
  | (with_reducible apply i_kNotV)
  | (with_reducible apply i_chain)
  | (with_reducible apply i_kChain)
  | (with_reducible apply i_drop)
  | (with_reducible apply i_ret)
  | (with_reducible apply i_retN)
  | (with_reducible apply i_ifS)
  | (with_reducible apply i_asg)
  | (with_reducible apply i_gName)
  | (with_reducible apply i_for)
  | (with_reducible apply i_lc)
  | (with_reducible apply i_iList)
  | (with_reducible apply i_iTup)
  | (with_reducible apply i_iStr)
  | (with_reducible apply i_kStrI)
  | (with_reducible apply i_lst)
  | (with_reducible apply i_tup)
  | (with_reducible apply i_call)
  | (with_reducible apply i_m1)
  | (with_reducible apply i_kStr)
  | (with_reducible apply i_bm)
  | (with_reducible apply i_bm0)
  | (with_reducible apply i_part)
  | (with_reducible apply i_kInt)
  | (with_reducible apply i_noPart)
  | (with_reducible apply i_sl)
  | (with_reducible apply i_range1)
  | (with_reducible apply i_range2)
  | ((with_reducible apply i_kRng1); (case c => walk_at "side"))
  | ((with_reducible apply i_kRng2); (case c => walk_at "side"))
  | (with_reducible apply i_gCons)
  | (with_reducible apply i_gNil)
  | (with_reducible apply i_gSub)
  | (with_reducible apply i_iZip)
  | (with_reducible apply i_yes)
  | (with_reducible apply i_ift)
  | (with_reducible apply i_iff)
  | (with_reducible apply i_nb))
local macro_rules | `(tactic| walk_at "go") => `(tactic| repeat (first | (with_reducible apply i_seq) | (with_reducible apply i_next) | walk_at "e"))
local macro_rules | `(tactic| walk_at "ge") => `(tactic| repeat walk_at "e")
local macro_rules | `(tactic| walk_at "sz") => `(tactic| first | decide | (rw [sizeLine_eq]; simp; done) | (rw [sizeLine_eq]; omega))
local macro_rules | `(tactic| walk_at "e") => `(tactic| first
  | ((with_reducible apply i_isStr); first | assumption | exact .non | exact .bl _ | exact .int _)
  | ((with_reducible apply i_isInt); first | assumption | exact .non | exact .bl _ | exact .int _)
  | ((with_reducible apply i_isBool); first | assumption | exact .non | exact .bl _ | exact .int _)
  | ((with_reducible apply i_isList); first | assumption | exact .non | exact .bl _ | exact .int _)
  | (with_reducible apply i_joinRev)
  | (with_reducible apply i_kRev0))
theorem n61 : (10 : Int) ^ (61 : Int).toNat = 10000000000000000000000000000000000000000000000000000000000000 := by decide +kernel
theorem n61n : (10 : Nat) ^ 61 = 10000000000000000000000000000000000000000000000000000000000000 := by decide +kernel
section
variable {P : Program} {w : World} {K : PySem.W.Frag} {mg : Str → Option Value} {base : Heap}
def sp_law (K : PySem.W.Frag) : Sp := fun vs H Q _ => ∃ (a : Addr) (ns : List Int), vs = [.ref a] ∧ SqL K H a (ns.map V.int) ∧ ns.length ≤ 63 ∧ ∀ H', Q (.bl true) H'
theorem ok_law (T : Tx K mg) : FnOk P w K mg base CX0 4 (He.ga K "law") T.fd_law ["_law_script"] (sp_law K) := by
  refine T.F_law.ok sc_law (fun vs H Q E h => ?_) (fun cdv A outer s H vs Q E hr h => ?_)
  · obtain ⟨a, ns, rfl, _⟩ := h
    rfl
  · obtain ⟨a, ns, rfl, hS, hn, q⟩ := h
    refine ⟨_, PSs.nox (pss_cons (ps_if (PW.pt (pw_or (pt_not (pt_val (pe_call (ok_law_line_good T) (hr.mono (by decide)) (by rfl) T.g_law_line_good T.F_law_line_good.kp T.k_law_line_good .nil pass0 (pa_cons (pe_call (ok_law_line T) (hr.mono (by decide)) (by rfl) T.g_law_line T.F_law_line.kp T.k_law_line .nil pass0 (pa_cons (pv 0) pa_nil)) pa_nil)))) (pw_or1 (pt_cmpR op_notN1 (pe_call (ok_words_of T) (hr.mono (by decide)) (by rfl) T.g_words_of T.F_words_of.kp T.k_words_of .nil pass0 (pa_cons (pe_call (ok_law_odd T) (hr.mono (by decide)) (by rfl) T.g_law_odd T.F_law_odd.kp T.k_law_odd .nil pass0 (pa_cons (pe_call (ok_law_cell_at T) (hr.mono (by decide)) (by rfl) T.g_law_cell_at T.F_law_cell_at.kp T.k_law_cell_at .nil pass0 (pa_cons (pv 0) (pa_cons pe_int pa_nil))) pa_nil)) pa_nil)) pe_non (nomark _))))) (pss_one (ps_ret pe_bl)) pss_nil)
      (pss_cons (ps_for PassesOwn.never rfl (pi_range2 rfl T.b_range (pa_cons pe_int (pa_cons (pe_callB (x_max2 rfl) (by rfl) T.b_max (by decide +kernel) (pa_cons pe_int (pa_cons (pe_callB (x_min2 rfl) (by rfl) T.b_min (by decide +kernel) (pa_cons (pe_callB x_lenL (by rfl) T.b_len (by decide +kernel) (pa_cons (pv 0) pa_nil)) (pa_cons pe_int pa_nil))) pa_nil))) pa_nil))) (pg_name (i := 1) sc_law.nd rfl (Or.inl rfl))
      (pss_cons (ps_set (i := 2) sc_law.nd rfl (Or.inl rfl) (pe_call (ok_law_mixed T) (hr.mono (by decide)) (by rfl) T.g_law_mixed T.F_law_mixed.kp T.k_law_mixed .nil pass0 (pa_cons (pe_call (ok_law_cell_at T) (hr.mono (by decide)) (by rfl) T.g_law_cell_at T.F_law_cell_at.kp T.k_law_cell_at .nil pass0 (pa_cons (pv 0) (pa_cons (pv 1) pa_nil))) (pa_cons (pv 1) pa_nil))))
      (pss_cons (ps_set (i := 3) sc_law.nd rfl (Or.inl rfl) (pe_op op_sub (pe_op op_mod (pv 2) pe_int) pe_int))
      (C8.pss_cut (ps_if (pt_cmpR op_eq (pe_op op_mod (pe_op op_fdiv (pv 2) pe_int) pe_int) pe_int (nomark _)) (pss_one (ps_set (i := 3) sc_law.nd rfl (Or.inl rfl) (pe_op op_mul (pe_op op_mod (pe_op op_sub (pe_call (ok_law_great T) (hr.mono (by decide)) (by rfl) T.g_law_great T.F_law_great.kp T.k_law_great .nil pass0 (pa_cons (pv 2) (pa_cons pe_int pa_nil))) (pe_call (ok_law_great T) (hr.mono (by decide)) (by rfl) T.g_law_great T.F_law_great.kp T.k_law_great .nil pass0 (pa_cons (pv 2) (pa_cons pe_int pa_nil)))) (pe_op op_pow pe_int pe_int)) (pe_ix ix_list (pe_lst (pa_cons pe_int (pa_cons (pe_un un_neg pe_int) pa_nil))) (pe_op op_mod (pe_op op_fdiv (pv 2) pe_int) pe_int) (fun _ _ => rfl))))) pss_nil)
      (pss_cons (ps_set (i := 4) sc_law.nd rfl (Or.inl rfl) (pe_lst (pa_cons (pe_tup (pa_cons (pv 3) (pa_cons (pe_op op_add (pv 3) (pe_op op_mod (pv 2) pe_int)) pa_nil))) (pa_cons (pe_tup (pa_cons (pe_op op_add (pv 3) pe_int) (pa_cons (pe_op op_add (pv 3) pe_int) pa_nil))) (pa_cons (pe_tup (pa_cons (pe_un un_neg pe_int) (pa_cons pe_int pa_nil))) (pa_cons (pe_tup (pa_cons pe_int (pa_cons pe_int pa_nil))) pa_nil))))))
      (pss_cons (ps_asg (pe_ix ix_list (pv 4) (pe_op op_mod (pe_op op_fdiv (pv 2) pe_int) pe_int) (fun _ _ => rfl)) (pg_tup rfl (pgs_cons (pg_name (i := 5) sc_law.nd rfl (Or.inl rfl)) (pgs_cons (pg_name (i := 6) sc_law.nd rfl (Or.inl rfl)) pgs_nil))))
      (pss_cons (ps_for PassesOwn.never rfl (pi_list (pe_lst (pa_cons (pe_call (ok_law_text T) (hr.mono (by decide)) (by rfl) T.g_law_text T.F_law_text.kp T.k_law_text .nil pass0 (pa_cons (pv 2) pa_nil)) (pa_cons (pv 3) (pa_cons (pe_call (ok_law_odd T) (hr.mono (by decide)) (by rfl) T.g_law_odd T.F_law_odd.kp T.k_law_odd .nil pass0 (pa_cons (pe_op op_fdiv (pv 2) pe_int) pa_nil)) pa_nil))))) (pg_name (i := 7) sc_law.nd rfl (Or.inl rfl))
      (pss_one (ps_for PassesOwn.never rfl (pi_range1 rfl T.b_range (pa_cons pe_int pa_nil)) (pg_name (i := 8) sc_law.nd rfl (Or.inl rfl))
      (pss_one (ps_if (pt_not (pt_val (pe_call (ok_law_asked T) (hr.mono (by decide)) (by rfl) T.g_law_asked T.F_law_asked.kp T.k_law_asked .nil pass0 (pa_cons (pe_op op_mod (pe_op op_add (pe_op op_mul (pv 8) (pe_ix ix_list (pe_lst (pa_cons pe_int (pa_cons pe_int pa_nil))) (pe_op op_mod (pe_op op_fdiv (pv 2) pe_int) pe_int) (fun _ _ => rfl))) (pv 2)) pe_int) (pa_cons (pv 7) (pa_cons (pv 5) (pa_cons (pv 6) pa_nil))))))) (pss_one (ps_ret pe_bl)) pss_nil)))))
      (pss_one (ps_if (pt_not (pt_val (pe_call (ok_law_number_good T) (hr.mono (by decide)) (by rfl) T.g_law_number_good T.F_law_number_good.kp T.k_law_number_good .nil pass0 (pa_cons (pe_callB x_abs (by rfl) T.b_abs (by decide +kernel) (pa_cons (pv 3) pa_nil)) pa_nil)))) (pss_one (ps_ret pe_bl)) pss_nil)))))))))
      (pss_one (ps_ret pe_bl)))), ?_⟩
    walk_at "go"
    refine ⟨a, ns, rfl, hS, fun z H1 lz oz s1 => ?_⟩
    walk_at "go"
    refine ⟨z, rfl, lz, oz, fun H2 s2 => ?_⟩
    walk_at "go"
    refine ⟨a, ns, 0, rfl, by decide, (s1.trans s2).seq hS, fun v => ?_⟩
    walk_at "go"
    refine ⟨v, rfl, fun x H3 hx hns s3 => ?_⟩
    walk_at "go"
    refine ⟨x, rfl, hx, fun _ => ?_, fun z e => by rw [e] at hns; exact Bool.noConfusion (show true = false from hns)⟩
    walk_at "go"
    apply i_dec
    · intro _
      walk_at "go"
      refine i_lenL ((s1.trans (s2.trans s3)).seq hS) ?_
      rw [List.length_map]
      walk_at "go"
      have sH := s1.trans (s2.trans s3)
      refine for_it walk_range (fun i σ H' => Same H H' ∧ ∃ v1 v2 v3 v4 v5 v6 v7 v8 : Option V, σ = [some (.ref a), v1, v2, v3, v4, v5, v6, v7, v8]) ⟨sH, _, _, _, _, _, _, _, _, rfl⟩ (fun _ _ _ _ _ => trivial) ?_ ?_
      · rintro i x σ H4 H5 hi ⟨s4, v1, v2, v3, v4, v5, v6, v7, v8, rfl⟩ ⟨rfl, rfl⟩
        walk_at "go"
        refine ⟨a, ns, _, rfl, by omega, s4.seq hS, fun v => ?_⟩
        walk_at "go"
        refine ⟨v, _, rfl, by omega, by omega, fun c c0 c1 => ?_⟩
        walk_at "go"
        refine ⟨fun σ' H' => ∃ n : Int, σ' = [some (.ref a), some (.int (2 + (i : Int))), some (.int c), some (.int n), v4, v5, v6, v7, v8] ∧ Same H H' ∧ n.natAbs < 10 ^ 61, ?_, ?_⟩
        · walk_at "go"
          apply i_dec
          · intro _
            walk_at "go"
            refine ⟨c, 1, rfl, by decide, by decide, fun g1 => ?_⟩
            walk_at "go"
            refine ⟨c, 2, rfl, by decide, by decide, fun g2 => ?_⟩
            walk_at "go"
            rw [n61]
            walk_at "go"
            refine ⟨by walk_at "sz", fun p1 hp1 => ?_⟩
            walk_at "go"
            obtain ⟨u, u0, u1, eu⟩ := pick (xs := [1, -1]) (lo := -1) (hi := 1) (i := c / 500 % 2) (by simp) (by omega) (by simp; omega)
            refine i_ixL (SqL.of upd_same) eu ?_
            walk_at "go"
            refine ⟨_, rfl, Same.mut s4 (s4.free hp1), ?_⟩
            rw [n61n]
            generalize hg : (g1 - g2) % 10000000000000000000000000000000000000000000000000000000000000 = r
            have r0 : 0 ≤ r := by omega
            have r1 : r < 10000000000000000000000000000000000000000000000000000000000000 := by omega
            rcases (by omega : u = -1 ∨ u = 0 ∨ u = 1) with rfl | rfl | rfl <;> omega
          · intro _
            walk_at "go"
            refine ⟨_, rfl, s4, ?_⟩
            rw [n61n]
            omega
        · rintro σ H5 ⟨n, rfl, s5, hn61⟩
          walk_at "go"
          refine ⟨by walk_at "sz", fun p1 hp1 => ?_⟩
          walk_at "go"
          refine ⟨by walk_at "sz", fun p2 hp2 => ?_⟩
          walk_at "go"
          refine ⟨by walk_at "sz", fun p3 hp3 => ?_⟩
          walk_at "go"
          refine ⟨by walk_at "sz", fun p4 hp4 => ?_⟩
          walk_at "go"
          refine ⟨by walk_at "sz", fun p5 hp5 => ?_⟩
          walk_at "go"
          have e1 : ∀ {H1 : Hp} {p q : Addr} {o u : HO}, H1 p = some o → H1 q = none → (upd H1 q u) p = some o := fun a b => (upd_ne (ne_of_none a b)).trans a
          have sA := Same.mut s5 (s5.free hp1) (o := .tup [.int n, .int (n + c % 3)])
          have sB := Same.mut sA (sA.free hp2) (o := .tup [.int (n + 1), .int (n + 5)])
          have sC := Same.mut sB (sB.free hp3) (o := .tup [.int (-5), .int 5])
          have sD := Same.mut sC (sC.free hp4) (o := .tup [.int 5, .int 4])
          have sE := Same.mut sD (sD.free hp5) (o := .lst [.ref p1, .ref p2, .ref p3, .ref p4])
          have t1 := e1 (e1 (e1 (e1 (upd_same (H := H5) (a := p1) (o := .tup [.int n, .int (n + c % 3)])) hp2 (u := .tup [.int (n + 1), .int (n + 5)])) hp3 (u := .tup [.int (-5), .int 5])) hp4 (u := .tup [.int 5, .int 4])) hp5 (u := .lst [.ref p1, .ref p2, .ref p3, .ref p4])
          have t2 := e1 (e1 (e1 (upd_same (H := upd H5 p1 (.tup [.int n, .int (n + c % 3)])) (a := p2) (o := .tup [.int (n + 1), .int (n + 5)])) hp3 (u := .tup [.int (-5), .int 5])) hp4 (u := .tup [.int 5, .int 4])) hp5 (u := .lst [.ref p1, .ref p2, .ref p3, .ref p4])
          have t3 := e1 (e1 (upd_same (H := upd (upd H5 p1 (.tup [.int n, .int (n + c % 3)])) p2 (.tup [.int (n + 1), .int (n + 5)])) (a := p3) (o := .tup [.int (-5), .int 5])) hp4 (u := .tup [.int 5, .int 4])) hp5 (u := .lst [.ref p1, .ref p2, .ref p3, .ref p4])
          have t4 := e1 (upd_same (H := upd (upd (upd H5 p1 (.tup [.int n, .int (n + c % 3)])) p2 (.tup [.int (n + 1), .int (n + 5)])) p3 (.tup [.int (-5), .int 5])) (a := p4) (o := .tup [.int 5, .int 4])) hp5 (u := .lst [.ref p1, .ref p2, .ref p3, .ref p4])
          have hl : (upd (upd (upd (upd (upd H5 p1 (.tup [.int n, .int (n + c % 3)])) p2 (.tup [.int (n + 1), .int (n + 5)])) p3 (.tup [.int (-5), .int 5])) p4 (.tup [.int 5, .int 4])) p5 (.lst [.ref p1, .ref p2, .ref p3, .ref p4])) p5 = some (.lst [.ref p1, .ref p2, .ref p3, .ref p4]) := upd_same
          generalize hG : upd (upd (upd (upd (upd H5 p1 (.tup [.int n, .int (n + c % 3)])) p2 (.tup [.int (n + 1), .int (n + 5)])) p3 (.tup [.int (-5), .int 5])) p4 (.tup [.int 5, .int 4])) p5 (.lst [.ref p1, .ref p2, .ref p3, .ref p4]) = HG at sE t1 t2 t3 t4 hl ⊢
          have hm : c / 82 % 4 = 0 ∨ c / 82 % 4 = 1 ∨ c / 82 % 4 = 2 ∨ c / 82 % 4 = 3 := by omega
          have hpick : ∃ (t : Addr) (lo hi : Int), atI [V.ref p1, V.ref p2, V.ref p3, V.ref p4] (c / 82 % 4) = some (.ref t) ∧ HG t = some (.tup [.int lo, .int hi]) := by
            rcases hm with e | e | e | e <;> rw [e]
            · exact ⟨p1, _, _, rfl, t1⟩
            · exact ⟨p2, _, _, rfl, t2⟩
            · exact ⟨p3, _, _, rfl, t3⟩
            · exact ⟨p4, _, _, rfl, t4⟩
          obtain ⟨t, lo, hi, et, eT⟩ := hpick
          refine i_ixL (SqL.of hl) et ?_
          refine i_gTup (SqT.of eT) rfl ?_
          walk_at "go"
          refine ⟨c, rfl, c0, fun z Hz lz oz sz => ?_⟩
          walk_at "go"
          refine ⟨_, rfl, fun x Hx hx _ sx => ?_⟩
          walk_at "go"
          refine ⟨by walk_at "sz", fun p6 hp6 => ?_⟩
          refine i_kListI (SqL.of upd_same) ?_
          have sF := (sE.trans sz).trans sx
          have sG : Same H (upd Hx p6 (.lst [.str z, .int n, x])) := Same.mut sF (sF.free hp6)
          have hth : ∀ y ∈ [V.str z, V.int n, x], Th (upd Hx p6 (.lst [.str z, .int n, x])) y := by
            intro y hy
            simp only [List.mem_cons, List.not_mem_nil, or_false] at hy
            rcases hy with rfl | rfl | rfl
            · exact .str _ (by omega) oz
            · exact .int _
            · exact hx.mono (Same.new hp6)
          have hlist : (upd Hx p6 (.lst [.str z, .int n, x])) p6 = some (.lst [.str z, .int n, x]) := upd_same
          generalize hJ : upd Hx p6 (.lst [.str z, .int n, x]) = HJ at sG hth hlist ⊢
          refine for_it walk_list (fun j σ H' => Same HJ H' ∧ ∃ u7 u8 : Option V, σ = [some (.ref a), some (.int (2 + (i : Int))), some (.int c), some (.int n), some (.ref p5), some (.int lo), some (.int hi), u7, u8]) ⟨Same.refl _, _, _, rfl⟩ (fun _ _ _ _ h => SqL.of (h.1 _ _ hlist)) ?_ ?_
          · rintro j y σ H6 H7 hj ⟨s6, u7, u8, rfl⟩ ⟨rfl, hy⟩
            have ty := hth y (List.mem_of_getElem? hy)
            walk_at "go"
            refine for_it walk_range (fun m σ H' => Same HJ H' ∧ ∃ u8 : Option V, σ = [some (.ref a), some (.int (2 + (i : Int))), some (.int c), some (.int n), some (.ref p5), some (.int lo), some (.int hi), some y, u8]) ⟨s6, _, rfl⟩ (fun _ _ _ _ _ => trivial) ?_ ?_
            · rintro m x2 σ H7 H8 hm2 ⟨s7, w8, rfl⟩ ⟨rfl, rfl⟩
              have hm2 : m < 4 := hm2
              walk_at "go"
              refine ⟨by walk_at "sz", fun p7 hp7 => ?_⟩
              walk_at "go"
              obtain ⟨u, u0, u1, eu⟩ := pick (xs := [1, 3]) (lo := 1) (hi := 3) (i := c / 9 % 2) (by simp) (by omega) (by simp; omega)
              refine i_ixL (SqL.of upd_same) eu ?_
              walk_at "go"
              refine ⟨_, y, lo, hi, rfl, ty.mono (Same.mut s7 (s7.free hp7)), fun H9 s9 => ?_⟩
              walk_at "go"
              exact ⟨(Same.mut s7 (s7.free hp7)).trans s9, _, rfl⟩
            · rintro σ H7 ⟨s7, w8, rfl⟩
              walk_at "go"
              exact ⟨s7, _, _, rfl⟩
          · rintro σ H6 ⟨s6, u7, u8, rfl⟩
            walk_at "go"
            refine ⟨n.natAbs, rfl, hn61, fun H7 s7 => ?_⟩
            walk_at "go"
            exact ⟨(sG.trans s6).trans s7, _, _, _, _, _, _, _, _, rfl⟩
      · rintro σ H4 ⟨s4, v1, v2, v3, v4, v5, v6, v7, v8, rfl⟩
        walk_at "go"
        exact q _
    · intro h
      exact absurd rfl h
end
def d_has_only : He.DefD := ⟨("_has_only", none), "_has_only", "_has_only", defArgs s_has_only, defBody s_has_only, defScope s_has_only, [], []⟩
def d_is_whole : He.DefD := ⟨("is_whole", none), "is_whole", "is_whole", defArgs s_is_whole, defBody s_is_whole, defScope s_is_whole, [], []⟩
def d_is_among : He.DefD := ⟨("is_among", none), "is_among", "is_among", defArgs s_is_among, defBody s_is_among, defScope s_is_among, [], []⟩
def d_is_name : He.DefD := ⟨("is_name", none), "is_name", "is_name", defArgs s_is_name, defBody s_is_name, defScope s_is_name, [], []⟩
def d_number_text : He.DefD := ⟨("number_text", none), "number_text", "number_text", defArgs s_number_text, defBody s_number_text, defScope s_number_text, [], []⟩
def d_number_of : He.DefD := ⟨("number_of", none), "number_of", "number_of", defArgs s_number_of, defBody s_number_of, defScope s_number_of, [], []⟩
def d_words_of : He.DefD := ⟨("words_of", none), "words_of", "words_of", defArgs s_words_of, defBody s_words_of, defScope s_words_of, [], []⟩
def d_law_cell_at : He.DefD := ⟨("_law_cell_at", none), "_law_cell_at", "_law_cell_at", defArgs s_law_cell_at, defBody s_law_cell_at, defScope s_law_cell_at, [], []⟩
def d_law_mixed : He.DefD := ⟨("_law_mixed", none), "_law_mixed", "_law_mixed", defArgs s_law_mixed, defBody s_law_mixed, defScope s_law_mixed, [], []⟩
def d_law_great : He.DefD := ⟨("_law_great", none), "_law_great", "_law_great", defArgs s_law_great, defBody s_law_great, defScope s_law_great, [], []⟩
def d_law_signs : He.DefD := ⟨("_law_signs", none), "_law_signs", "_law_signs", defArgs s_law_signs, defBody s_law_signs, defScope s_law_signs, [], []⟩
def d_law_text : He.DefD := ⟨("_law_text", none), "_law_text", "_law_text", defArgs s_law_text, defBody s_law_text, defScope s_law_text, [], []⟩
def d_law_odd : He.DefD := ⟨("_law_odd", none), "_law_odd", "_law_odd", defArgs s_law_odd, defBody s_law_odd, defScope s_law_odd, [], []⟩
def d_law_is_name : He.DefD := ⟨("_law_is_name", none), "_law_is_name", "_law_is_name", defArgs s_law_is_name, defBody s_law_is_name, defScope s_law_is_name, [], []⟩
def d_law_number_of : He.DefD := ⟨("_law_number_of", none), "_law_number_of", "_law_number_of", defArgs s_law_number_of, defBody s_law_number_of, defScope s_law_number_of, [], []⟩
def d_law_alike : He.DefD := ⟨("_law_alike", none), "_law_alike", "_law_alike", defArgs s_law_alike, defBody s_law_alike, defScope s_law_alike, [], []⟩
def d_law_asked : He.DefD := ⟨("_law_asked", none), "_law_asked", "_law_asked", defArgs s_law_asked, defBody s_law_asked, defScope s_law_asked, [], []⟩
def d_law_number_good : He.DefD := ⟨("_law_number_good", none), "_law_number_good", "_law_number_good", defArgs s_law_number_good, defBody s_law_number_good, defScope s_law_number_good, [], []⟩
def d_law_line : He.DefD := ⟨("_law_line", none), "_law_line", "_law_line", defArgs s_law_line, defBody s_law_line, defScope s_law_line, [], []⟩
def d_law_line_good : He.DefD := ⟨("_law_line_good", none), "_law_line_good", "_law_line_good", defArgs s_law_line_good, defBody s_law_line_good, defScope s_law_line_good, [], []⟩
def d_law : He.DefD := ⟨("law", none), "law", "law", defArgs s_law, defBody s_law, defScope s_law, [], []⟩
def fn : List He.DefD := [d_has_only, d_is_whole, d_is_among, d_is_name, d_number_text, d_number_of, d_words_of, d_law_cell_at, d_law_mixed, d_law_great, d_law_signs, d_law_text, d_law_odd, d_law_is_name, d_law_number_of, d_law_alike, d_law_asked, d_law_number_good, d_law_line, d_law_line_good, d_law]
def fa : List He.Fa := [.glo "_has_only", .glo "is_whole", .glo "is_among", .glo "is_name", .glo "number_text", .glo "number_of", .glo "words_of", .glo "_law_cell_at", .glo "_law_mixed", .glo "_law_great", .glo "_law_signs", .glo "_law_text", .glo "_law_odd", .glo "_law_is_name", .glo "_law_number_of", .glo "_law_alike", .glo "_law_asked", .glo "_law_number_good", .glo "_law_line", .glo "_law_line_good", .glo "law", .free "abs", .free "bool", .free "int", .free "isinstance", .free "len", .free "list", .free "max", .free "min", .free "range", .free "reversed", .free "str", .free "zip", .str "LETTERS" "abcdefghijklmnopqrstuvwxyz", .str "FIGURES" "0123456789", .int "MOST_LETTERS" 12, .int "MOST_FIGURES" 61]
abbrev R : PySem.W.OpenRow := PySem.W.OpenLaw.row PySem.Challenge.rw_reachbook_k01_words_and_numbers
abbrev hk : PySem.W.Hook := He.hookD 4 fa fn
def ob (s : PySem.W.SharedT) : He.AlD := He.obsDG 4 fa fn (HandSHeadRun.getT s)
theorem ob_eq (s : PySem.W.SharedT) : ob s = hk.obs s.abs := He.obsDG_eq (HandSHeadRun.getT_eq s)
def loose : List Str := ["_has_only", "is_whole", "is_among", "is_name", "number_text", "number_of", "words_of", "_law_cell_at", "_law_mixed", "_law_great", "_law_signs", "_law_text", "_law_odd", "_law_is_name", "_law_number_of", "_law_alike", "_law_asked", "_law_number_good", "_law_line", "_law_line_good", "LETTERS", "FIGURES", "MOST_LETTERS", "MOST_FIGURES"]
theorem run (w : World) : HandSHeadRun.RunEq R (PySem.W.view R.prog [26]) hk ob 3000 loose w := by
  intro os
  kernel_rfl
theorem facts {P : Program} {w : World} {K : PySem.W.Frag} {h : Heap} {mg : Str → Option Value} {f : Addr} (X : K.In h) (G : h.Ns mainGlobals mg) (hfa : mg ("law" : Str) = some (.ref f)) (c : He.SaysD fa fn K) :
    ∃ fd : FuncData, (∀ (s : Shared) (v : Value), BindsTo s fd ⟨[v], []⟩ [("_law_script", v)]) ∧ ∀ base : Heap, K.In base → base.Ns mainGlobals mg → FnOk P w K mg base CX0 4 f fd ["_law_script"] (sp_law K) := by
  obtain ⟨fd0, F0⟩ := c.def_ 0 (d := d_has_only) rfl
  obtain ⟨fd1, F1⟩ := c.def_ 1 (d := d_is_whole) rfl
  obtain ⟨fd2, F2⟩ := c.def_ 2 (d := d_is_among) rfl
  obtain ⟨fd3, F3⟩ := c.def_ 3 (d := d_is_name) rfl
  obtain ⟨fd4, F4⟩ := c.def_ 4 (d := d_number_text) rfl
  obtain ⟨fd5, F5⟩ := c.def_ 5 (d := d_number_of) rfl
  obtain ⟨fd6, F6⟩ := c.def_ 6 (d := d_words_of) rfl
  obtain ⟨fd7, F7⟩ := c.def_ 7 (d := d_law_cell_at) rfl
  obtain ⟨fd8, F8⟩ := c.def_ 8 (d := d_law_mixed) rfl
  obtain ⟨fd9, F9⟩ := c.def_ 9 (d := d_law_great) rfl
  obtain ⟨fd10, F10⟩ := c.def_ 10 (d := d_law_signs) rfl
  obtain ⟨fd11, F11⟩ := c.def_ 11 (d := d_law_text) rfl
  obtain ⟨fd12, F12⟩ := c.def_ 12 (d := d_law_odd) rfl
  obtain ⟨fd13, F13⟩ := c.def_ 13 (d := d_law_is_name) rfl
  obtain ⟨fd14, F14⟩ := c.def_ 14 (d := d_law_number_of) rfl
  obtain ⟨fd15, F15⟩ := c.def_ 15 (d := d_law_alike) rfl
  obtain ⟨fd16, F16⟩ := c.def_ 16 (d := d_law_asked) rfl
  obtain ⟨fd17, F17⟩ := c.def_ 17 (d := d_law_number_good) rfl
  obtain ⟨fd18, F18⟩ := c.def_ 18 (d := d_law_line) rfl
  obtain ⟨fd19, F19⟩ := c.def_ 19 (d := d_law_line_good) rfl
  obtain ⟨fd20, F20⟩ := c.def_ 20 (d := d_law) rfl
  let T : Tx K mg := {
    fd_has_only := fd0,
    F_has_only := F0,
    k_has_only := FunD.bindsN F0 fun _ _ _ _ _ _ us hl => match us, hl with | [_, _], _ => rfl,
    g_has_only := He.glo_ok X G (c.fact 0 (f := .glo "_has_only") rfl),
    fd_is_whole := fd1,
    F_is_whole := F1,
    k_is_whole := FunD.bindsN F1 fun _ _ _ _ _ _ us hl => match us, hl with | [_], _ => rfl,
    g_is_whole := He.glo_ok X G (c.fact 1 (f := .glo "is_whole") rfl),
    fd_is_among := fd2,
    F_is_among := F2,
    k_is_among := FunD.bindsN F2 fun _ _ _ _ _ _ us hl => match us, hl with | [_, _, _], _ => rfl,
    g_is_among := He.glo_ok X G (c.fact 2 (f := .glo "is_among") rfl),
    fd_is_name := fd3,
    F_is_name := F3,
    k_is_name := FunD.bindsN F3 fun _ _ _ _ _ _ us hl => match us, hl with | [_], _ => rfl,
    g_is_name := He.glo_ok X G (c.fact 3 (f := .glo "is_name") rfl),
    fd_number_text := fd4,
    F_number_text := F4,
    k_number_text := FunD.bindsN F4 fun _ _ _ _ _ _ us hl => match us, hl with | [_], _ => rfl,
    g_number_text := He.glo_ok X G (c.fact 4 (f := .glo "number_text") rfl),
    fd_number_of := fd5,
    F_number_of := F5,
    k_number_of := FunD.bindsN F5 fun _ _ _ _ _ _ us hl => match us, hl with | [_], _ => rfl,
    g_number_of := He.glo_ok X G (c.fact 5 (f := .glo "number_of") rfl),
    fd_words_of := fd6,
    F_words_of := F6,
    k_words_of := FunD.bindsN F6 fun _ _ _ _ _ _ us hl => match us, hl with | [_], _ => rfl,
    g_words_of := He.glo_ok X G (c.fact 6 (f := .glo "words_of") rfl),
    fd_law_cell_at := fd7,
    F_law_cell_at := F7,
    k_law_cell_at := FunD.bindsN F7 fun _ _ _ _ _ _ us hl => match us, hl with | [_, _], _ => rfl,
    g_law_cell_at := He.glo_ok X G (c.fact 7 (f := .glo "_law_cell_at") rfl),
    fd_law_mixed := fd8,
    F_law_mixed := F8,
    k_law_mixed := FunD.bindsN F8 fun _ _ _ _ _ _ us hl => match us, hl with | [_, _], _ => rfl,
    g_law_mixed := He.glo_ok X G (c.fact 8 (f := .glo "_law_mixed") rfl),
    fd_law_great := fd9,
    F_law_great := F9,
    k_law_great := FunD.bindsN F9 fun _ _ _ _ _ _ us hl => match us, hl with | [_, _], _ => rfl,
    g_law_great := He.glo_ok X G (c.fact 9 (f := .glo "_law_great") rfl),
    fd_law_signs := fd10,
    F_law_signs := F10,
    k_law_signs := FunD.bindsN F10 fun _ _ _ _ _ _ us hl => match us, hl with | [], _ => rfl,
    g_law_signs := He.glo_ok X G (c.fact 10 (f := .glo "_law_signs") rfl),
    fd_law_text := fd11,
    F_law_text := F11,
    k_law_text := FunD.bindsN F11 fun _ _ _ _ _ _ us hl => match us, hl with | [_], _ => rfl,
    g_law_text := He.glo_ok X G (c.fact 11 (f := .glo "_law_text") rfl),
    fd_law_odd := fd12,
    F_law_odd := F12,
    k_law_odd := FunD.bindsN F12 fun _ _ _ _ _ _ us hl => match us, hl with | [_], _ => rfl,
    g_law_odd := He.glo_ok X G (c.fact 12 (f := .glo "_law_odd") rfl),
    fd_law_is_name := fd13,
    F_law_is_name := F13,
    k_law_is_name := FunD.bindsN F13 fun _ _ _ _ _ _ us hl => match us, hl with | [_], _ => rfl,
    g_law_is_name := He.glo_ok X G (c.fact 13 (f := .glo "_law_is_name") rfl),
    fd_law_number_of := fd14,
    F_law_number_of := F14,
    k_law_number_of := FunD.bindsN F14 fun _ _ _ _ _ _ us hl => match us, hl with | [_], _ => rfl,
    g_law_number_of := He.glo_ok X G (c.fact 14 (f := .glo "_law_number_of") rfl),
    fd_law_alike := fd15,
    F_law_alike := F15,
    k_law_alike := FunD.bindsN F15 fun _ _ _ _ _ _ us hl => match us, hl with | [_, _], _ => rfl,
    g_law_alike := He.glo_ok X G (c.fact 15 (f := .glo "_law_alike") rfl),
    fd_law_asked := fd16,
    F_law_asked := F16,
    k_law_asked := FunD.bindsN F16 fun _ _ _ _ _ _ us hl => match us, hl with | [_, _, _, _], _ => rfl,
    g_law_asked := He.glo_ok X G (c.fact 16 (f := .glo "_law_asked") rfl),
    fd_law_number_good := fd17,
    F_law_number_good := F17,
    k_law_number_good := FunD.bindsN F17 fun _ _ _ _ _ _ us hl => match us, hl with | [_], _ => rfl,
    g_law_number_good := He.glo_ok X G (c.fact 17 (f := .glo "_law_number_good") rfl),
    fd_law_line := fd18,
    F_law_line := F18,
    k_law_line := FunD.bindsN F18 fun _ _ _ _ _ _ us hl => match us, hl with | [_], _ => rfl,
    g_law_line := He.glo_ok X G (c.fact 18 (f := .glo "_law_line") rfl),
    fd_law_line_good := fd19,
    F_law_line_good := F19,
    k_law_line_good := FunD.bindsN F19 fun _ _ _ _ _ _ us hl => match us, hl with | [_], _ => rfl,
    g_law_line_good := He.glo_ok X G (c.fact 19 (f := .glo "_law_line_good") rfl),
    fd_law := fd20,
    F_law := F20,
    k_law := FunD.bindsN F20 fun _ _ _ _ _ _ us hl => match us, hl with | [_], _ => rfl,
    g_law := He.glo_ok X G (c.fact 20 (f := .glo "law") rfl),
    b_abs := He.free_ok X G (c.fact 21 (f := .free "abs") rfl),
    b_bool := He.free_ok X G (c.fact 22 (f := .free "bool") rfl),
    b_int := He.free_ok X G (c.fact 23 (f := .free "int") rfl),
    b_isinstance := He.free_ok X G (c.fact 24 (f := .free "isinstance") rfl),
    b_len := He.free_ok X G (c.fact 25 (f := .free "len") rfl),
    b_list := He.free_ok X G (c.fact 26 (f := .free "list") rfl),
    b_max := He.free_ok X G (c.fact 27 (f := .free "max") rfl),
    b_min := He.free_ok X G (c.fact 28 (f := .free "min") rfl),
    b_range := He.free_ok X G (c.fact 29 (f := .free "range") rfl),
    b_reversed := He.free_ok X G (c.fact 30 (f := .free "reversed") rfl),
    b_str := He.free_ok X G (c.fact 31 (f := .free "str") rfl),
    b_zip := He.free_ok X G (c.fact 32 (f := .free "zip") rfl),
    c_LETTERS := He.str_ok X G (c.fact 33 (f := .str "LETTERS" "abcdefghijklmnopqrstuvwxyz") rfl),
    c_FIGURES := He.str_ok X G (c.fact 34 (f := .str "FIGURES" "0123456789") rfl),
    c_MOST_LETTERS := He.int_ok X G (c.fact 35 (f := .int "MOST_LETTERS" 12) rfl),
    c_MOST_FIGURES := He.int_ok X G (c.fact 36 (f := .int "MOST_FIGURES" 61) rfl) }
  have e : He.ga K "law" = f := by
    have z := T.g_law.symm.trans hfa
    exact Value.ref.inj (Option.some.inj z)
  subst e
  have b := FunD.bindsA (ps := ["_law_script"]) F20 fun _ _ _ _ _ _ us hl => match us, hl with | [_], _ => rfl
  exact ⟨T.fd_law, fun s v => b s [v] rfl, fun base _ _ => ok_law T⟩
end K01
open PySem PySem.W PySem.Calls PyProof.Rows
set_option maxRecDepth 100000 in
set_option maxHeartbeats 0 in
theorem PySem.Challenge.cw_reachbook_k01_words_and_numbers_holds : PySem.Challenge.rw_reachbook_k01_words_and_numbers.Holds := by
  w_on; o_law
  refine HandSHeadRun.head_any (r := OpenLaw.row PySem.Challenge.rw_reachbook_k01_words_and_numbers) (q := view (OpenLaw.row PySem.Challenge.rw_reachbook_k01_words_and_numbers).prog [26]) (H := K01.hk) (ob := K01.ob) (M := 3000) (loose := K01.loose) (d := HandSHeadRun.topDef (OpenLaw.row PySem.Challenge.rw_reachbook_k01_words_and_numbers).prog 26) (kwd := []) K01.ob_eq
    (by kernel_rfl) (fun s => by kernel_rfl) K01.run (by kernel_rfl) (by kernel_rfl) (by kernel_rfl) (by rfl) (by first | assumption | decide +kernel) (by decide +kernel) ⟨rfl, rfl, rfl, rfl, rfl, by decide +kernel⟩ ?hw ?hc
  case hw => w_witness2
  case hc =>
    refine L2.walk_ofE (l := PySem.Challenge.rw_reachbook_k01_words_and_numbers) (n := 63) (k := 4) (x := "_law_script") (CX := L2.CX0) rfl (by decide) (by kernel_rfl) ⟨rfl, by decide, by decide⟩ ?F (fun _ _ _ _ z => z)
    intro w mg fa h Y G hmg0
    obtain ⟨K, KX, c⟩ := Y
    have hmg : mg ("law" : PySem.Str) = some (.ref fa) := by
      have e : (HandSHeadRun.topDef (OpenLaw.row PySem.Challenge.rw_reachbook_k01_words_and_numbers).prog 26).name = ("law" : PySem.Str) := by kernel_rfl
      rw [← e]
      exact hmg0
    obtain ⟨fd, hb, hF⟩ := K01.facts (P := (PySem.Challenge.rw_reachbook_k01_words_and_numbers).prog) (w := w) KX G hmg c
    exact ⟨K, fd, K01.sp_law K, KX, hb, fun H a ns hl hO hS => ⟨a, ns, rfl, hS, hl, fun _ => rfl⟩, hF⟩
#print axioms PySem.Challenge.cw_reachbook_k01_words_and_numbers_holds
